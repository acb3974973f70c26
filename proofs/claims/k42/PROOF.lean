import PyProof.Rows.All
import Wide.All
import OpenK.AllK
import Wide.FinOn
import HandS.ForMost
import HandS.Wide
import HandS.NoneIn
import HandS.IsInst
import HandS.StrMore
import HandS.Defaults
import KE.KEqSeq
import KE.KEqDeep
import HandS.ReplaceLit
import HandS.MakeKwOnly
import HandS.CallSlots
import HandS.Deep
import HandS.Exc
import HandS.ExcField
import HandS.ExcInit
import HandS.ExcIs
import HandS.ExcValue
import HandS.HotCalls
import HandS.More
import HandS.RaiseFrom
import HandS.Replace
import HandS.Iter
import HandS.Style
import HandS.SuiteRaise
import HandS.TryOnly
import HandS.WideBits
import HandS.WordsExc
import KE.KExcIs
import HandS.Walk
import HandS.FStr
import HandS.ReplaceList
import HandS.Star
import HandS.TupAny
import PySem.Challenge.RW_handedtext_k42_wrong_texts
set_option Elab.async false
set_option linter.all false
set_option maxRecDepth 100000
set_option maxHeartbeats 4000000
set_option exponentiation.threshold 3000
open PySem L2
local macro_rules | `(tactic| walk_at "rd") => `(tactic| repeat (first | refine ⟨_, rfl, ?_⟩ | refine ⟨_, _, rfl, rfl, ?_⟩ | refine .inl ⟨_, rfl, ?_⟩))
namespace L2
open PySem PySem.Spec PyProof.Rows
/-- an error that was caught and kept, at a -/
def ExK (cls : Value) (dd : Option Addr) (a : Addr) : HO := .ext fun hp => ∃ (rec' : Obj) (cells : Array Value), hp.get? a = some rec' ∧ Zc cls dd rec' ∧ rec'.data = .fields cells
/-- wKeep: what 'except x as n' wishes, where the error stays tracked behind the suite -/
def wKeep (K : PySem.W.Frag) (c : Value) (i : Nat) (ts : Addr → Value → Option Addr → TS) (Wout : WX) (D : Ends) : WX := fun kl dd st H =>
  ∃ yes, PySem.W.exmOne K kl c = some yes ∧ (yes = true → ∀ a, H a = none → ts a kl dd { nx := fun st' H' => D.nx (st'.set i none) (upd H' a (ExK kl dd a)), rt := D.rt, bk := fun st' H' => D.bk (st'.set i none) H', ct := fun st' H' => D.ct (st'.set i none) H' } (st.set i (some (.ref a))) H) ∧
    (yes = false → Wout kl dd st H)
section
variable {X : Cx} {pins : List (Addr × Obj)} {st : St} {H : Hp} {sh : Shared}
theorem Inv.adopt {a : Addr} {kl : Value} {dd : Option Addr} {rc : Obj} {cells : Array Value} (iv : Inv X pins st H sh) (new0 : X.s_0.heap.get? a = none) (free : H a = none) (at0 : sh.heap.get? a = some rc) (zc : Zc kl dd rc) (fl : rc.data = .fields cells) (nl : a ≠ X.env.locals)
    (np : ∀ p ∈ X.pn ++ pins, p.1 ≠ a) : Inv X pins st (upd H a (ExK kl dd a)) sh := by
  have old : ∀ c rr, X.s_0.heap.get? c = some rr → c ≠ a := fun c rr e z => by
    rw [z, new0] at e
    cases e
  have other : ∀ c u, H c = some u → upd H a (ExK kl dd a) c = some u := fun c u e => (upd_ne (ne_of_none e free)).trans e
  refine ⟨iv.ok, iv.os, iv.bare, ⟨iv.base.keep, iv.base.slot, fun c rr e n0 nx => ?_, iv.base.there, fun c xs e => other _ _ (iv.base.tups c xs e), fun c rr u e => other _ _ (iv.base.frzs c rr u e), fun c ps e => ?_⟩, iv.loc, iv.cell, ?_, fun y c e => ?_, fun p hp => ?_, fun c u e => ?_, iv.len⟩
  · exact (upd_ne (old c rr e)).trans (iv.base.free c rr e n0 nx)
  · obtain ⟨more, e2⟩ := iv.base.tbls c ps e
    exact ⟨more, other _ _ e2⟩
  · exact (upd_ne nl.symm).trans iv.free
  · obtain ⟨w, rr, e2, e3⟩ := iv.cell y c e
    refine (upd_ne fun z => ?_).trans (iv.freeC y c e)
    subst z
    rw [at0] at e2
    cases e2
    simp [fl] at e3
  · obtain ⟨e1, e2, e3, e4, e5⟩ := iv.pin p hp
    exact ⟨e1, (upd_ne (np p hp)).trans e2, e3, e4, e5⟩
  · by_cases ca : c = a
    · subst ca
      rw [upd_same] at e
      cases e
      exact ⟨⟨rc, cells, at0, zc, fl⟩, ⟨rc, at0⟩, fun _ _ ⟨r2, c2, e2, e3⟩ same => ⟨r2, c2, same _ e2, e3⟩⟩
    · rw [upd_ne ca] at e
      exact (iv.hok c u e).stay (fun _ _ _ e2 => e2) (fun c2 e2 => other _ _ e2) fun c2 xs e2 => other _ _ e2
end
end L2
namespace L2
open PySem PySem.Spec PyProof.Rows
section
variable {X : Cx} {x n : Str} {c : Value} {i : Nat} {body suite : List Stmt} {first : Stmt} {np pos pos' : Pos} {tb : WX → TS} {ts : Addr → Value → Option Addr → TS} {Wout : WX}
/-- try: .. except x as n: suite; the caught error stays tracked behind it -/
theorem ps_try_keep (stk : X.stack = X.env :: X.outer) (frm : X.env.frame = some X.env.locals) (noex : X.ex = []) (dist : X.N.Nodup) (slot : X.N[i]? = some n) (loc : X.env.kindOf n = some .local) (nam : Names X x c) (tk : Takes X Wout)
    (inner : ∀ (W : WX) (pn : List (Addr × Obj)) (xe : Value → Shared → Prop), Takes (X.tr pn xe) W → PassesOwn (model X.prog X.w) X.A X.env xe → PSs (X.tr pn xe) body (tb W))
    (caught : ∀ (a : Addr) (rc : Obj) (kl : Value) (dd : Option Addr) (pn : List (Addr × Obj)), Zc kl dd rc → (∃ cells, rc.data = .fields cells) → PSs (X.suite a ((a, rc) :: pn)) (first :: suite) (ts a kl dd)) :
    PS X (.Try body [.ExceptHandler (some (.Name x np)) (some n) (first :: suite) pos'] [] [] pos) (fun D st H => tb (wKeep X.K c i ts Wout D) D st H) where
  run := fun pins sh st H D iv want => by
    have fine := iv.ok
    have frames : X.A.frames = some (X.env :: X.outer) := by rw [fine.frames, stk]
    refine wpAny_Try_except (wpAny_mono ((inner (wKeep X.K c i ts Wout D) (X.pn ++ pins) _ (fun u sh' air => ?_) PassesOwn.looking).run [] sh st H D (iv.toTry _) want) ?_ fun _ _ e => e)
    · obtain ⟨a, B, shI, pins', st1, H1, kl, dd, rfl, ivT, inB, upTo, sky, freeA, sameOs, bareG, yes, dec, onYes, onNo⟩ := air
      have iv1 : Inv X pins st1 H1 shI := ivT.ofTry fine
      rw [stk] at sky
      refine Sky.land Zc.steady frames frm sky fun hp3 fly3 up3 => ?_
      have bNone : B.get? a = none := fly3.2.1
      have iv3 : Inv X pins st1 H1 { sh' with heap := hp3 } := iv1.landed inB fly3.1 (upTo.trans up3) sameOs bareG
      obtain ⟨rc3, cells3, at3, zc3, dt3⟩ := fly3.there
      have offFrames : a ∉ frs (X.env :: X.outer) := fun mem => by
        obtain ⟨_, r2, e2, bad⟩ := fly3.2.2.1.mem mem
        rw [at3] at e2
        cases e2
        exact bad _ dt3
      have offL : a ≠ X.env.locals := fun z => offFrames (List.mem_filterMap.mpr ⟨X.env, List.mem_cons_self, by rw [frm, z]⟩)
      have offF : a ∉ X.fs := fun mem => by
        obtain ⟨ee, inn, ef⟩ := List.mem_filterMap.mp mem
        exact offFrames (List.mem_filterMap.mpr ⟨ee, List.mem_cons_of_mem _ inn, ef⟩)
      have notThere : shI.heap.get? a = none := by
        cases e : shI.heap.get? a with
        | none => rfl
        | some rr =>
          have z := inB a rr e (by rw [stk]; exact offFrames)
          rw [bNone] at z
          cases z
      have new0 : X.s_0.heap.get? a = none := by
        cases e : X.s_0.heap.get? a with
        | none => rfl
        | some rr =>
          obtain ⟨r2, e2⟩ := iv1.base.there a rr e (by rw [noex]; exact List.not_mem_nil)
          rw [notThere] at e2
          cases e2
      have pinsOff : ∀ p ∈ X.pn ++ pins, p.1 ≠ a := fun p hp z => by
        have e2 := (iv1.pin p hp).1
        rw [z, notThere] at e2
        cases e2
      have inSuite := iv3.suite at3 dt3 freeA offL offF
      refine wpAny_handleBy_cons (codeAny_handlers_test ?_) (by intro q; cases q)
      have theClass : PySem.W.Looks (model X.prog X.w) hp3 (typeOf (.ref a)) kl := fun A' Q' E' s' kk qq => wpAny_typeOf_ref (kk _ _ at3) (by rw [zc3.1]; exact qq)
      have theTest := PySem.W.exm_one (M := model X.prog X.w) iv3.kIn theClass dec
      have clause : ∀ {Q' : Value → Shared → Prop} {E' : Value → Shared → Prop}, Q' c { sh' with heap := hp3 } → wpAny (model X.prog X.w) (X.A.mark (some (.ref a))) (eval (.Name x np) X.env) Q' E' { sh' with heap := hp3 } := fun {Q' E'} qq => by
        obtain ⟨g1, g2, g3 | ⟨g3, g4, g5⟩⟩ := nam
        · exact ld_glob (X := X.suite a ((a, rc3) :: (X.pn ++ pins))) inSuite g1 g3 qq g2
        · exact ld_blt (X := X.suite a ((a, rc3) :: (X.pn ++ pins))) inSuite g1 g3 g4 qq g5 g2
      refine clause (theTest.here ?_)
      cases yes with
      | true =>
        have go := onYes rfl
        refine codeAny_handlers_suite_as (HandSPX.lands_againZ fly3 fun hp4 fly4 up4 => ?_)
        have iv4 : Inv X pins st1 H1 { sh' with heap := hp4 } := iv1.landed inB fly4.1 ((upTo.trans up3).trans up4) sameOs bareG
        obtain ⟨rc4, cells4, at4, zc4, dt4⟩ := fly4.there
        refine store_ok (X := X.suite a ((a, rc4) :: (X.pn ++ pins))) (v := .ref a) (iv4.suite at4 dt4 freeA offL offF) dist slot (.inl loc) rfl (fun sh5 iv5 => ?_) (.inr loc)
        refine wpAny_mono ((caught a rc4 kl dd (X.pn ++ pins) zc4 ⟨_, dt4⟩).run [] sh5 _ H1 _ iv5 (go a freeA)) (fun flow sh6 came => ?_) fun _ _ z => z.elim
        cases flow with
        | next =>
          obtain ⟨st6, H6, iv6, q6⟩ := came
          have more : Inv X ((a, rc4) :: pins) st6 H6 sh6 := ⟨fine, iv6.os, iv6.bare, iv6.base, iv6.loc, iv6.cell, iv6.free, iv6.freeC, fun p hp => iv6.pin p (List.mem_append_left _ ?_), iv6.hok, iv6.len⟩
          refine gone_ok more dist slot loc fun sh7 iv7 => ?_
          have there : (a, rc4) ∈ X.pn ++ (a, rc4) :: pins := List.mem_append_right _ List.mem_cons_self
          obtain ⟨e1, e2, e3, _⟩ := iv7.pin (a, rc4) there
          have less : Inv X pins (st6.set i none) H6 sh7 := ⟨fine, iv7.os, iv7.bare, iv7.base, iv7.loc, iv7.cell, iv7.free, iv7.freeC, fun p hp => iv7.pin p ?_, iv7.hok, iv7.len⟩
          · exact ⟨_, _, less.adopt new0 e2 e1 zc4 dt4 e3 pinsOff, q6⟩
          · rcases List.mem_append.mp hp with hq | hq
            · exact List.mem_append_left _ hq
            · exact List.mem_append_right _ (List.mem_cons_of_mem _ hq)
          · rcases List.mem_append.mp hp with hq | hq
            · exact List.mem_cons_of_mem _ (List.mem_append_left _ hq)
            · rcases List.mem_cons.mp hq with hr | hr
              · rw [hr]; exact List.mem_cons_self
              · exact List.mem_cons_of_mem _ (List.mem_append_right _ hr)
        | brk =>
          obtain ⟨st6, H6, iv6, q6⟩ := came
          exact gone_ok (iv6.unsuite fine) dist slot loc fun sh7 iv7 => ⟨_, _, iv7, q6⟩
        | cont =>
          obtain ⟨st6, H6, iv6, q6⟩ := came
          exact gone_ok (iv6.unsuite fine) dist slot loc fun sh7 iv7 => ⟨_, _, iv7, q6⟩
        | ret u =>
          obtain ⟨v6, st6, H6, iv6, r6, q6⟩ := came
          exact gone_ok (iv6.unsuite fine) dist slot loc fun sh7 iv7 => ⟨_, _, _, iv7, r6, q6⟩
      | false =>
        show wpAny _ X.A (handleBy (.ref a) X.env []) _ _ _
        refine wpAny_handleBy_nil ?_
        obtain ⟨_, _, _, rc5, cells5, tr5, _, _, at5, _, dt5, at1, _⟩ := id fly3
        unfold PySem.passOn
        refine wpAny_bind (wpAny_field at5 dt5 at1 ?_)
        rw [if_neg (by simp : ¬ (Value.ref tr5 == Value.none) = true)]
        have out : wpAny (model X.prog X.w) X.A (setFlight (.ref a) X.env.frame) (fun _ sh8 => wpAny (model X.prog X.w) X.A (throw (.ref a) : Sem Flow) (SP X pins D) X.xe sh8) X.xe { sh' with heap := hp3 } := by
          rw [frm]
          refine HandSPX.setFlight_upZ fly3 fun hp8 held up8 => wpAny_throw (tk _ _ ?_)
          exact ⟨a, B, shI, pins, st1, H1, kl, dd, rfl, iv1, inB, (upTo.trans up3).trans up8, .inr (.inr (by rw [stk]; exact held)), freeA, sameOs, bareG, onNo rfl⟩
        first
          | exact wpAny_bind out
          | exact wpAny_bind (wpAny_pure (wpAny_bind out))
    · intro flow sh1 came
      cases flow with
      | next =>
        obtain ⟨st1, H1, iv1, q1⟩ := came
        exact wpAny_execs_nil ⟨st1, H1, iv1.ofTry fine, q1⟩
      | brk =>
        obtain ⟨st1, H1, iv1, q1⟩ := came
        exact ⟨st1, H1, iv1.ofTry fine, q1⟩
      | cont =>
        obtain ⟨st1, H1, iv1, q1⟩ := came
        exact ⟨st1, H1, iv1.ofTry fine, q1⟩
      | ret u =>
        obtain ⟨v1, st1, H1, iv1, r1, q1⟩ := came
        exact ⟨v1, st1, H1, iv1.ofTry fine, r1, q1⟩
end
end L2
namespace L2
open PySem PySem.Spec PyProof.Rows
/-- what the written part says of an error class, for isinstance -/
structure ErrC (K : PySem.W.Frag) (C : Addr) : Prop where
  cl : (PySem.W.clsIn K C).isSome = true
  ga : PySem.W.findIn K (.ref C) "__getattribute__" = some (some (.builtin "BaseException.__getattribute__"))
  gg : PySem.W.findIn K (.ref C) "__getattr__" = some none
  sb : PySem.W.subIn K (.ref C) (.type "BaseException") = some true
  cn : PySem.W.findIn K (.ref C) "__class__" = some (some (.builtin "object.__class__"))
  mo : PySem.W.mroIn K C (.type "object") = some true
/-- .. of the attribute __class__ of all objects -/
structure ErrG (K : PySem.W.Frag) : Prop where
  sp : PySem.W.specialIn K (.builtin "object.__class__") "__get__" = some (some (.builtin "getset_descriptor.__get__"))
  tk : PySem.W.takesIn K (.builtin "object.__class__") = some true
/-- a kept error at a, of the class at C; its dict, if it has one, stands -/
def Kept (H : Hp) (a C : Addr) : Prop := H a = some (ExK (.ref C) none a) ∨ ∃ (d : Addr) (fs : List (Str × V)), H a = some (ExK (.ref C) (some d) a) ∧ H d = some (.xd fs)
def rIsKept (K : PySem.W.Frag) : List V → Hp → VK → Prop := fun xs H Q => ∃ (a C : Addr) (c : V) (cv : Value) (b : Bool), xs = [.ref a, c] ∧ ClsV c cv ∧ Kept H a C ∧ ErrC K C ∧ ErrG K ∧ PySem.W.kitOne K (.ref C) cv = some b ∧ Q (.bl b) H
theorem kept_inst {X : Cx} {pins : List (Addr × Obj)} {st : St} {H : Hp} {sh : Shared} {a C : Addr} (iv : Inv X pins st H sh) (k : Kept H a C) : ∃ (oe : Obj) (od : Option Obj), sh.heap.get? a = some oe ∧ PySem.W.InstAt sh.heap a oe C od := by
  rcases k with at' | ⟨d, fs, at', ad⟩
  · obtain ⟨⟨oe, vs, ho, hz, hd⟩, _, _⟩ := iv.hok a _ at'
    refine ⟨oe, none, ho, ?_⟩
    obtain ⟨oc, od, oda, osl⟩ := oe
    obtain ⟨h1, h2⟩ := hz
    dsimp only at h1 h2 hd
    subst h1 h2 hd
    exact ⟨ho, rfl, rfl, trivial⟩
  · obtain ⟨⟨oe, vs, ho, hz, hd⟩, _, _⟩ := iv.hok a _ at'
    have hx : ObjOk X.prog X.w H sh.heap d (.xd fs) := iv.hok d _ ad
    obtain ⟨mA, hns, hr⟩ := hx
    obtain ⟨od, hod, hl⟩ := lookIn_ns hns
    exact ⟨oe, some od, ho, ⟨ho, hz.1, by unfold PySem.W.notCls; rw [hd] <;> rfl, by rw [hz.2]; exact hod⟩⟩
theorem call_isKept {X : Cx} : CallR X (.builtin "isinstance") (rIsKept X.K) := by
  intro pins sh st H xs us Q iv r h
  obtain ⟨a, C, c, cv, b, rfl, k, at', T, G, e, q⟩ := h
  obtain ⟨u1, u2, rfl, r1, r2⟩ := vals2 r
  have e2 := k.eq r2
  subst e2
  obtain rfl : u1 = Value.ref a := r1
  obtain ⟨oe, od, _, J⟩ := kept_inst iv at'
  exact PySem.W.kia_one (PySem.W.kitx_exc T.cl T.ga T.gg T.sb T.cn G.sp G.tk T.mo) iv.kIn J e (fun z => nomatch z) fun tk => ⟨.bl b, H, iv.tok tk, rfl, q⟩
/-- e.n of a kept error with a dict of its own -/
theorem pe_kept {X : Cx} {e : Expr} {te : TE} {pos : Pos} {n : Str} (he : PE X e te) (hb : attributeBase e n X.env (eval e X.env) = eval e X.env := by rfl) :
    PE X (.Attribute e n pos) (fun σ H Q => te σ H fun x H1 => ∃ (a C d : Addr) (fs : List (Str × V)) (v : V), x = .ref a ∧ XfC X.K C ∧ PySem.W.findIn X.K (.ref C) n = some none ∧ H1 a = some (ExK (.ref C) (some d) a) ∧ H1 d = some (.xd fs) ∧ fs.lookup n = some v ∧ Q v H1) := by
  refine ⟨fun pins sh st H Q iv want => ?_⟩
  refine attr_of hb (thn (he.run pins sh st H _ iv want) fun u sh1 hh => ?_)
  obtain ⟨x, H1, iv1, rx, a, C, d, fs, v, ex, T, no, ea, ed, l, q⟩ := hh
  subst ex
  obtain rfl : u = Value.ref a := rx
  obtain ⟨⟨oe, vs, ho, hz, hd⟩, _, _⟩ := iv1.hok a _ ea
  have hx : ObjOk X.prog X.w H1 sh1.heap d (.xd fs) := iv1.hok d _ ed
  obtain ⟨mA, hns, hr⟩ := hx
  obtain ⟨od, hod, hl⟩ := lookIn_ns hns
  obtain ⟨u, hu, ru⟩ := RelO.some_of (v := v) (o := mA n) (by rw [← l]; exact hr n)
  have J : PySem.W.InstAt sh1.heap a oe C (some od) := ⟨ho, hz.1, by unfold PySem.W.notCls; rw [hd] <;> rfl, by rw [hz.2]; exact hod⟩
  exact HandSPX.exc_get iv1.kIn J T.ga T.gg T.exC (PySem.W.findObj_own T.hdC no rfl (by rw [hl, hu])) (handed_of ru) ⟨v, H1, iv1.tok _, ru, q⟩
end L2
namespace HT
open PySem L2
def top (i : Nat) : Stmt := PySem.Challenge.pw_handedtext_k42_wrong_texts.main.body.getD i (.Pass ⟨0, 0, 0, 0⟩)
abbrev s_is_int : Stmt := top 10
abbrev s_is_int_between : Stmt := top 11
abbrev s_check_value : Stmt := top 12
abbrev s_check_side : Stmt := top 15
abbrev s_is_side : Stmt := top 16
abbrev s_text_of : Stmt := top 22
abbrev s_check_style : Stmt := top 23
abbrev s_grouped : Stmt := top 24
abbrev s_mark : Stmt := top 25
abbrev s_read_text : Stmt := top 26
abbrev s_past_whole : Stmt := top 27
abbrev s_past_groups : Stmt := top 28
abbrev s_past_places : Stmt := top 29
abbrev s_past_digits : Stmt := top 30
abbrev s_known_entries : Stmt := top 36
abbrev s_is_formed : Stmt := top 37
abbrev s_are_lines : Stmt := top 38
abbrev s_names_fit : Stmt := top 39
abbrev s_is_name : Stmt := top 40
abbrev s_is_known : Stmt := top 41
abbrev s_is_in_set : Stmt := top 42
abbrev s_worths_fit : Stmt := top 43
abbrev s_text_fits : Stmt := top 44
abbrev s_paper_text : Stmt := top 47
abbrev s_lines_of : Stmt := top 48
abbrev s_side_line : Stmt := top 49
abbrev s_read_paper : Stmt := top 50
abbrev s_entry_of : Stmt := top 52
abbrev s_side_entry_of : Stmt := top 53
abbrev s_is_number : Stmt := top 54
abbrev s_L_source : Stmt := top 56
abbrev s_L_draw : Stmt := top 57
abbrev s_L_pick : Stmt := top 58
abbrev s_L_great : Stmt := top 59
abbrev s_L_ten : Stmt := top 60
abbrev s_L_step : Stmt := top 61
abbrev s_L_side : Stmt := top 62
abbrev s_L_text : Stmt := top 63
abbrev s_L_entries : Stmt := top 64
abbrev s_L_is_whole : Stmt := top 65
abbrev s_L_is_name : Stmt := top 66
abbrev s_L_is_side : Stmt := top 67
abbrev s_L_is_text : Stmt := top 68
abbrev s_L_is_right : Stmt := top 69
abbrev s_L_number : Stmt := top 70
abbrev s_L_side_entry : Stmt := top 71
abbrev s_L_started : Stmt := top 72
abbrev s_L_log_line : Stmt := top 73
abbrev s_L_due : Stmt := top 74
abbrev s_L_told : Stmt := top 75
abbrev s_L_others : Stmt := top 76
abbrev s_L_log_lines : Stmt := top 77
abbrev s_L_spoiled : Stmt := top 78
abbrev s_law : Stmt := top 79
/- is_int: 0:thing -/
theorem sc_is_int : FnScope ["thing"] ["thing"] (defScope s_is_int) := ⟨rfl, rfl, rfl, by decide +kernel, rfl, by decide +kernel, by decide +kernel⟩
/- is_int_between: 0:thing 1:least 2:most -/
theorem sc_is_int_between : FnScope ["thing", "least", "most"] ["thing", "least", "most"] (defScope s_is_int_between) := ⟨rfl, rfl, rfl, by decide +kernel, rfl, by decide +kernel, by decide +kernel⟩
/- check_value: 0:value -/
theorem sc_check_value : FnScope ["value"] ["value"] (defScope s_check_value) := ⟨rfl, rfl, rfl, by decide +kernel, rfl, by decide +kernel, by decide +kernel⟩
/- check_side: 0:side 1:offset 2:step 3:mode -/
theorem sc_check_side : FnScope ["side", "offset", "step", "mode"] ["side"] (defScope s_check_side) := ⟨rfl, rfl, rfl, by decide +kernel, rfl, by decide +kernel, by decide +kernel⟩
/- is_side: 0:thing -/
theorem sc_is_side : FnScope ["thing"] ["thing"] (defScope s_is_side) := ⟨rfl, rfl, rfl, by decide +kernel, rfl, by decide +kernel, by decide +kernel⟩
/- text_of: 0:figure 1:places 2:sign 3:group 4:width 5:digits 6:point 7:text -/
theorem sc_text_of : FnScope ["figure", "places", "sign", "group", "width", "digits", "point", "text"] ["figure", "places", "sign", "group", "width"] (defScope s_text_of) := ⟨rfl, rfl, rfl, by decide +kernel, rfl, by decide +kernel, by decide +kernel⟩
/- _check_style: 0:sign 1:group 2:width -/
theorem sc_check_style : FnScope ["sign", "group", "width"] ["sign", "group", "width"] (defScope s_check_style) := ⟨rfl, rfl, rfl, by decide +kernel, rfl, by decide +kernel, by decide +kernel⟩
/- _grouped: 0:digits 1:first 2:parts 3:at -/
theorem sc_grouped : FnScope ["digits", "first", "parts", "at"] ["digits"] (defScope s_grouped) := ⟨rfl, rfl, rfl, by decide +kernel, rfl, by decide +kernel, by decide +kernel⟩
/- _mark: 0:figure 1:sign -/
theorem sc_mark : FnScope ["figure", "sign"] ["figure", "sign"] (defScope s_mark) := ⟨rfl, rfl, rfl, by decide +kernel, rfl, by decide +kernel, by decide +kernel⟩
/- read_text: 0:text 1:start 2:whole 3:point 4:end 5:figure -/
theorem sc_read_text : FnScope ["text", "start", "whole", "point", "end", "figure"] ["text"] (defScope s_read_text) := ⟨rfl, rfl, rfl, by decide +kernel, rfl, by decide +kernel, by decide +kernel⟩
/- _past_whole: 0:text 1:at 2:end -/
theorem sc_past_whole : FnScope ["text", "at", "end"] ["text", "at"] (defScope s_past_whole) := ⟨rfl, rfl, rfl, by decide +kernel, rfl, by decide +kernel, by decide +kernel⟩
/- _past_groups: 0:text 1:at 2:end -/
theorem sc_past_groups : FnScope ["text", "at", "end"] ["text", "at"] (defScope s_past_groups) := ⟨rfl, rfl, rfl, by decide +kernel, rfl, by decide +kernel, by decide +kernel⟩
/- _past_places: 0:text 1:at 2:end -/
theorem sc_past_places : FnScope ["text", "at", "end"] ["text", "at"] (defScope s_past_places) := ⟨rfl, rfl, rfl, by decide +kernel, rfl, by decide +kernel, by decide +kernel⟩
/- _past_digits: 0:text 1:at 2:most 3:end -/
theorem sc_past_digits : FnScope ["text", "at", "most", "end"] ["text", "at", "most"] (defScope s_past_digits) := ⟨rfl, rfl, rfl, by decide +kernel, rfl, by decide +kernel, by decide +kernel⟩
/- known_entries: 0:entries 1:known 2:entry -/
theorem sc_known_entries : FnScope ["entries", "known", "entry"] ["entries"] (defScope s_known_entries) := ⟨rfl, rfl, rfl, by decide +kernel, rfl, by decide +kernel, by decide +kernel⟩
/- _is_formed: 0:thing 1:kind -/
theorem sc_is_formed : FnScope ["thing", "kind"] ["thing"] (defScope s_is_formed) := ⟨rfl, rfl, rfl, by decide +kernel, rfl, by decide +kernel, by decide +kernel⟩
/- _are_lines: 0:thing 1:line -/
theorem sc_are_lines : FnScope ["thing", "line"] ["thing"] (defScope s_are_lines) := ⟨rfl, rfl, rfl, by decide +kernel, rfl, by decide +kernel, by decide +kernel⟩
/- names_fit: 0:entry 1:known 2:name 3:_ -/
theorem sc_names_fit : FnScope ["entry", "known", "name", "_"] ["entry", "known"] (defScope s_names_fit) := ⟨rfl, rfl, rfl, by decide +kernel, rfl, by decide +kernel, by decide +kernel⟩
/- _is_name: 0:thing 1:letter -/
theorem sc_is_name : FnScope ["thing", "letter"] ["thing"] (defScope s_is_name) := ⟨rfl, rfl, rfl, by decide +kernel, rfl, by decide +kernel, by decide +kernel⟩
/- is_known: 0:kind 1:name 2:known -/
theorem sc_is_known : FnScope ["kind", "name", "known"] ["kind", "name", "known"] (defScope s_is_known) := ⟨rfl, rfl, rfl, by decide +kernel, rfl, by decide +kernel, by decide +kernel⟩
/- is_in_set: 0:name 1:group 2:known 3:_ 4:names -/
theorem sc_is_in_set : FnScope ["name", "group", "known", "_", "names"] ["name", "group", "known"] (defScope s_is_in_set) := ⟨rfl, rfl, rfl, by decide +kernel, rfl, by decide +kernel, by decide +kernel⟩
/- worths_fit: 0:entry 1:known 2:name 3:text -/
theorem sc_worths_fit : FnScope ["entry", "known", "name", "text"] ["entry", "known"] (defScope s_worths_fit) := ⟨rfl, rfl, rfl, by decide +kernel, rfl, by decide +kernel, by decide +kernel⟩
/- text_fits: 0:name 1:text 2:known 3:_ 4:places 5:figure -/
theorem sc_text_fits : FnScope ["name", "text", "known", "_", "places", "figure"] ["name", "text", "known"] (defScope s_text_fits) := ⟨rfl, rfl, rfl, by decide +kernel, rfl, by decide +kernel, by decide +kernel⟩
/- paper_text: 0:entries 1:lines 2:entry 3:line -/
theorem sc_paper_text : FnScope ["entries", "lines", "entry", "line"] ["entries"] (defScope s_paper_text) := ⟨rfl, rfl, rfl, by decide +kernel, rfl, by decide +kernel, by decide +kernel⟩
/- _lines_of: 0:entry 1:_ 2:name 3:names 4:group 5:lines 6:part 7:text -/
theorem sc_lines_of : FnScope ["entry", "_", "name", "names", "group", "lines", "part", "text"] ["entry"] (defScope s_lines_of) := ⟨rfl, rfl, rfl, by decide +kernel, rfl, by decide +kernel, by decide +kernel⟩
/- _side_line: 0:entry 1:_ 2:name 3:side 4:places 5:offset 6:step 7:mode 8:line -/
theorem sc_side_line : FnScope ["entry", "_", "name", "side", "places", "offset", "step", "mode", "line"] ["entry"] (defScope s_side_line) := ⟨rfl, rfl, rfl, by decide +kernel, rfl, by decide +kernel, by decide +kernel⟩
/- read_paper: 0:text 1:lines 2:reader 3:number 4:line 5:word 6:words 7:reason -/
theorem sc_read_paper : FnScope ["text", "lines", "reader", "number", "line", "word", "words", "reason"] ["text"] (defScope s_read_paper) := ⟨rfl, rfl, rfl, by decide +kernel, rfl, by decide +kernel, by decide +kernel⟩
/- _entry_of: 0:words -/
theorem sc_entry_of : FnScope ["words"] ["words"] (defScope s_entry_of) := ⟨rfl, rfl, rfl, by decide +kernel, rfl, by decide +kernel, by decide +kernel⟩
/- _side_entry_of: 0:words 1:_ 2:name 3:step 4:mode 5:places_word 6:places 7:at_word 8:offset 9:word -/
theorem sc_side_entry_of : FnScope ["words", "_", "name", "step", "mode", "places_word", "places", "at_word", "offset", "word"] ["words"] (defScope s_side_entry_of) := ⟨rfl, rfl, rfl, by decide +kernel, rfl, by decide +kernel, by decide +kernel⟩
/- _is_number: 0:word 1:digits 2:digit -/
theorem sc_is_number : FnScope ["word", "digits", "digit"] ["word"] (defScope s_is_number) := ⟨rfl, rfl, rfl, by decide +kernel, rfl, by decide +kernel, by decide +kernel⟩
/- _law_source: 0:_law_script 1:_law_cells 2:_law_k -/
theorem sc_L_source : FnScope ["_law_script", "_law_cells", "_law_k"] ["_law_script"] (defScope s_L_source) := ⟨rfl, rfl, rfl, by decide +kernel, rfl, by decide +kernel, by decide +kernel⟩
/- _law_draw: 0:_law_source_here 1:_law_limit 2:_law_cells 3:_law_turn 4:_law_place 5:_law_cell 6:_law_number_here -/
theorem sc_L_draw : FnScope ["_law_source_here", "_law_limit", "_law_cells", "_law_turn", "_law_place", "_law_cell", "_law_number_here"] ["_law_source_here", "_law_limit"] (defScope s_L_draw) := ⟨rfl, rfl, rfl, by decide +kernel, rfl, by decide +kernel, by decide +kernel⟩
/- _law_pick: 0:_law_source_here 1:_law_values -/
theorem sc_L_pick : FnScope ["_law_source_here", "_law_values"] ["_law_source_here", "_law_values"] (defScope s_L_pick) := ⟨rfl, rfl, rfl, by decide +kernel, rfl, by decide +kernel, by decide +kernel⟩
/- _law_great: 0:_law_source_here 1:_law_limit 2:_law_total 3:_law_k -/
theorem sc_L_great : FnScope ["_law_source_here", "_law_limit", "_law_total", "_law_k"] ["_law_source_here", "_law_limit"] (defScope s_L_great) := ⟨rfl, rfl, rfl, by decide +kernel, rfl, by decide +kernel, by decide +kernel⟩
/- _law_ten: 0:_law_many 1:_law_found 2:_law_k -/
theorem sc_L_ten : FnScope ["_law_many", "_law_found", "_law_k"] ["_law_many"] (defScope s_L_ten) := ⟨rfl, rfl, rfl, by decide +kernel, rfl, by decide +kernel, by decide +kernel⟩
/- _law_step: 0:_law_source_here 1:_law_most 2:_law_joint -/
theorem sc_L_step : FnScope ["_law_source_here", "_law_most", "_law_joint"] ["_law_source_here", "_law_most"] (defScope s_L_step) := ⟨rfl, rfl, rfl, by decide +kernel, rfl, by decide +kernel, by decide +kernel⟩
/- _law_side: 0:_law_source_here 1:_law_most 2:_law_steps 3:_law_offset -/
theorem sc_L_side : FnScope ["_law_source_here", "_law_most", "_law_steps", "_law_offset"] ["_law_source_here", "_law_most"] (defScope s_L_side) := ⟨rfl, rfl, rfl, by decide +kernel, rfl, by decide +kernel, by decide +kernel⟩
/- _law_text: 0:_law_figure 1:_law_places 2:_law_digits 3:_law_first 4:_law_text_here -/
theorem sc_L_text : FnScope ["_law_figure", "_law_places", "_law_digits", "_law_first", "_law_text_here"] ["_law_figure", "_law_places"] (defScope s_L_text) := ⟨rfl, rfl, rfl, by decide +kernel, rfl, by decide +kernel, by decide +kernel⟩
/- _law_entries: 0:_law_source_here 1:_law_names 2:_law_first 3:_law_found 4:_law_sides 5:_law_k 6:_law_side_here 7:_law_places 8:_law_turn 9:_law_some 10:_law_name 11:_law_lines 12:_law_figure -/
theorem sc_L_entries : FnScope ["_law_source_here", "_law_names", "_law_first", "_law_found", "_law_sides", "_law_k", "_law_side_here", "_law_places", "_law_turn", "_law_some", "_law_name", "_law_lines", "_law_figure"] ["_law_source_here"] (defScope s_L_entries) := ⟨rfl, rfl, rfl, by decide +kernel, rfl, by decide +kernel, by decide +kernel⟩
/- _law_is_whole: 0:_law_value 1:_law_least 2:_law_most -/
theorem sc_L_is_whole : FnScope ["_law_value", "_law_least", "_law_most"] ["_law_value", "_law_least", "_law_most"] (defScope s_L_is_whole) := ⟨rfl, rfl, rfl, by decide +kernel, rfl, by decide +kernel, by decide +kernel⟩
/- _law_is_name: 0:_law_value 1:_law_letter -/
theorem sc_L_is_name : FnScope ["_law_value", "_law_letter"] ["_law_value"] (defScope s_L_is_name) := ⟨rfl, rfl, rfl, by decide +kernel, rfl, by decide +kernel, by decide +kernel⟩
/- _law_is_side: 0:_law_value -/
theorem sc_L_is_side : FnScope ["_law_value"] ["_law_value"] (defScope s_L_is_side) := ⟨rfl, rfl, rfl, by decide +kernel, rfl, by decide +kernel, by decide +kernel⟩
/- _law_is_text: 0:_law_value 1:_law_places 2:_law_rest 3:_law_parts 4:_law_sign -/
theorem sc_L_is_text : FnScope ["_law_value", "_law_places", "_law_rest", "_law_parts", "_law_sign"] ["_law_value", "_law_places"] (defScope s_L_is_text) := ⟨rfl, rfl, rfl, by decide +kernel, rfl, by decide +kernel, by decide +kernel⟩
/- _law_is_right: 0:_law_entry 1:_law_sides 2:_law_sets 3:_law_name 4:_law_line -/
theorem sc_L_is_right : FnScope ["_law_entry", "_law_sides", "_law_sets", "_law_name", "_law_line"] ["_law_entry", "_law_sides", "_law_sets"] (defScope s_L_is_right) := ⟨rfl, rfl, rfl, by decide +kernel, rfl, by decide +kernel, by decide +kernel⟩
/- _law_number: 0:_law_word 1:_law_digits 2:_law_sign -/
theorem sc_L_number : FnScope ["_law_word", "_law_digits", "_law_sign"] ["_law_word"] (defScope s_L_number) := ⟨rfl, rfl, rfl, by decide +kernel, rfl, by decide +kernel, by decide +kernel⟩
/- _law_side_entry: 0:_law_words 1:_law_word 2:_law_numbers -/
theorem sc_L_side_entry : FnScope ["_law_words", "_law_word", "_law_numbers"] ["_law_words"] (defScope s_L_side_entry) := ⟨rfl, rfl, rfl, by decide +kernel, rfl, by decide +kernel, by decide +kernel⟩
/- _law_started: 0:_law_words 1:_law_sides 2:_law_sets 3:_law_names 4:_law_entry 5:_law_name -/
theorem sc_L_started : FnScope ["_law_words", "_law_sides", "_law_sets", "_law_names", "_law_entry", "_law_name"] ["_law_words", "_law_sides", "_law_sets", "_law_names"] (defScope s_L_started) := ⟨rfl, rfl, rfl, by decide +kernel, rfl, by decide +kernel, by decide +kernel⟩
/- _law_log_line: 0:_law_words 1:_law_log 2:_law_sides 3:_law_sets -/
theorem sc_L_log_line : FnScope ["_law_words", "_law_log", "_law_sides", "_law_sets"] ["_law_words", "_law_log", "_law_sides", "_law_sets"] (defScope s_L_log_line) := ⟨rfl, rfl, rfl, by decide +kernel, rfl, by decide +kernel, by decide +kernel⟩
/- _law_due: 0:_law_text_here 1:_law_sides 2:_law_sets 3:_law_names 4:_law_entries_here 5:_law_log 6:_law_lines 7:_law_number_here 8:_law_word 9:_law_words 10:_law_told_here -/
theorem sc_L_due : FnScope ["_law_text_here", "_law_sides", "_law_sets", "_law_names", "_law_entries_here", "_law_log", "_law_lines", "_law_number_here", "_law_word", "_law_words", "_law_told_here"] ["_law_text_here"] (defScope s_L_due) := ⟨rfl, rfl, rfl, by decide +kernel, rfl, by decide +kernel, by decide +kernel⟩
/- _law_told: 0:_law_text_here 1:_law_caught 2:_law_found 3:e -/
theorem sc_L_told : FnScope ["_law_text_here", "_law_caught", "_law_found", "e"] ["_law_text_here"] (defScope s_L_told) := ⟨rfl, rfl, rfl, by decide +kernel, rfl, by decide +kernel, by decide +kernel⟩
/- _law_others: 0:_law_some 1:_law_word 2:_law_words -/
theorem sc_L_others : FnScope ["_law_some", "_law_word", "_law_words"] [] (defScope s_L_others) := ⟨rfl, rfl, rfl, by decide +kernel, rfl, by decide +kernel, by decide +kernel⟩
/- _law_log_lines: 0:_law_some -/
theorem sc_L_log_lines : FnScope ["_law_some"] [] (defScope s_L_log_lines) := ⟨rfl, rfl, rfl, by decide +kernel, rfl, by decide +kernel, by decide +kernel⟩
/- _law_spoiled: 0:_law_source_here 1:_law_lines 2:_law_words 3:_law_at 4:_law_door 5:_law_word 6:_law_here 7:_law_place 8:_law_middle 9:_law_line -/
theorem sc_L_spoiled : FnScope ["_law_source_here", "_law_lines", "_law_words", "_law_at", "_law_door", "_law_word", "_law_here", "_law_place", "_law_middle", "_law_line"] ["_law_source_here", "_law_lines", "_law_words"] (defScope s_L_spoiled) := ⟨rfl, rfl, rfl, by decide +kernel, rfl, by decide +kernel, by decide +kernel⟩
/- law: 0:_law_script 1:_law_source_here 2:_law_value 3:_law_begin 4:_law_line 5:_law_text_here 6:_law_long 7:_law_many 8:_law_words 9:_law_turn 10:_law_lines 11:_law_k -/
theorem sc_law : FnScope ["_law_script", "_law_source_here", "_law_value", "_law_begin", "_law_line", "_law_text_here", "_law_long", "_law_many", "_law_words", "_law_turn", "_law_lines", "_law_k"] ["_law_script"] (defScope s_law) := ⟨rfl, rfl, rfl, by decide +kernel, rfl, by decide +kernel, by decide +kernel⟩
/-- the i-th row of a class -/
def inCls (s : Stmt) (i : Nat) : Stmt := match s with
  | .ClassDef _ _ _ body .. => body.getD i (.Pass ⟨0, 0, 0, 0⟩)
  | _ => .Pass ⟨0, 0, 0, 0⟩
abbrev s_R_init : Stmt := inCls (top 51) 0
theorem sc_R_init : FnScope ["self"] ["self"] (defScope s_R_init) := ⟨rfl, rfl, rfl, by decide +kernel, rfl, by decide +kernel, by decide +kernel⟩
abbrev s_R_fault : Stmt := inCls (top 51) 1
theorem sc_R_fault : FnScope ["self", "words"] ["self", "words"] (defScope s_R_fault) := ⟨rfl, rfl, rfl, by decide +kernel, rfl, by decide +kernel, by decide +kernel⟩
abbrev s_R_entry : Stmt := inCls (top 51) 2
theorem sc_R_entry : FnScope ["self", "words", "entry"] ["self", "words"] (defScope s_R_entry) := ⟨rfl, rfl, rfl, by decide +kernel, rfl, by decide +kernel, by decide +kernel⟩
abbrev s_R_within : Stmt := inCls (top 51) 3
theorem sc_R_within : FnScope ["self", "words", "name", "text"] ["self", "words"] (defScope s_R_within) := ⟨rfl, rfl, rfl, by decide +kernel, rfl, by decide +kernel, by decide +kernel⟩
abbrev s_R_end : Stmt := inCls (top 51) 4
theorem sc_R_end : FnScope ["self", "kind", "name", "group", "_"] ["self"] (defScope s_R_end) := ⟨rfl, rfl, rfl, by decide +kernel, rfl, by decide +kernel, by decide +kernel⟩
abbrev s_R_add : Stmt := inCls (top 51) 5
theorem sc_R_add : FnScope ["self", "entry"] ["self", "entry"] (defScope s_R_add) := ⟨rfl, rfl, rfl, by decide +kernel, rfl, by decide +kernel, by decide +kernel⟩
end HT
namespace L2
open PySem PySem.Spec PyProof.Rows
/-- powers of great numbers -/
def CPowW (i j : Int) : Prop := 0 ≤ j ∧ (Builtin.Int.intBits i : Int) * j ≤ 2 ^ 27
theorem op_powW {X : Cx} : OpR X (binaryOp .Pow) (rI CPowW fun i j => .int (i ^ j.toNat)) := opI fun _ _ _ _ _ _ _ hc q => pow_int hc.1 hc.2 q
end L2
namespace HT
open PySem L2
/-- the law's source of draws: a list of its cells' list and the turn -/
structure Src (H : Hp) (a c : Addr) (t : Nat) : Prop where
  ne : a ≠ c
  ob : H a = some (.lst [.ref c, .int (t : Int)])
  cl : ∃ cs : List Int, H c = some (.lst (cs.map V.int)) ∧ 0 < cs.length ∧ cs.length ≤ 63
/-- nothing else is touched -/
def Oth (a c : Addr) (H H' : Hp) : Prop := ∀ b o, H b = some o → b ≠ a → b ≠ c → H' b = some o
theorem Oth.refl (a c : Addr) (H : Hp) : Oth a c H H := fun _ _ h _ _ => h
theorem Oth.trans {a c : Addr} {H H1 H2 : Hp} (x : Oth a c H H1) (y : Oth a c H1 H2) : Oth a c H H2 := fun b o h n m => y b o (x b o h n m) n m
theorem Oth.new {a c p : Addr} {H H1 : Hp} {o : HO} (x : Oth a c H H1) (n : H1 p = none) : Oth a c H (upd H1 p o) := fun b u h na nc => by
  rw [upd_ne (ne_of_none (x b u h na nc) n)]
  exact x b u h na nc
theorem Src.new {a c p : Addr} {H : Hp} {t : Nat} {o : HO} (S : Src H a c t) (n : H p = none) : Src (upd H p o) a c t := by
  obtain ⟨cs, h, l⟩ := S.cl
  exact ⟨S.ne, by rw [upd_ne (ne_of_none S.ob n)]; exact S.ob, cs, by rw [upd_ne (ne_of_none h n)]; exact h, l⟩
theorem Src.of_same {a c : Addr} {H H' : Hp} {t : Nat} (S : Src H a c t) (e : Same H H') : Src H' a c t := by
  obtain ⟨cs, h, l⟩ := S.cl
  exact ⟨S.ne, e _ _ S.ob, cs, e _ _ h, l⟩
theorem Src.na {a c p : Addr} {H : Hp} {t : Nat} (S : Src H a c t) (n : H p = none) : p ≠ a ∧ p ≠ c := by
  obtain ⟨cs, h, l⟩ := S.cl
  exact ⟨(ne_of_none S.ob n).symm, (ne_of_none h n).symm⟩
theorem Src.nt {a c p : Addr} {H : Hp} {t : Nat} {xs : List V} (S : Src H a c t) (n : H p = some (.tup xs)) : p ≠ a ∧ p ≠ c := by
  obtain ⟨cs, h, l⟩ := S.cl
  exact ⟨ne_of n S.ob (by intro z; cases z), ne_of n h (by intro z; cases z)⟩
def spSource (K : PySem.W.Frag) : Sp := fun vs H Q _ => ∃ (l : Addr) (ns : List Int), vs = [.ref l] ∧ SqL K H l (ns.map V.int) ∧ ns.length ≤ 63 ∧
  ∀ a c H', Same H H' → H a = none → H c = none → Src H' a c 0 → Q (.ref a) H'
def spDraw : Sp := fun vs H Q _ => ∃ (a c : Addr) (t : Nat) (lim : Int), vs = [.ref a, .int lim] ∧ Src H a c t ∧ t < 2 ^ 30 ∧ 0 < lim ∧ lim.natAbs.log2 < 9000 ∧
  ∀ k H', 0 ≤ k → k < lim → Src H' a c (t + 1) → Oth a c H H' → Q (.int k) H'
/-- what the walk asks of the names that the text does not bind -/
structure Blt (mg : Str → Option Value) : Prop where
  len : mg "len" = none
  abs : mg "abs" = none
  int : mg "int" = none
  range : mg "range" = none
section
variable {P : Program} {w : World} {K : PySem.W.Frag} {mg : Str → Option Value} {base : Heap}
theorem fdiv_ok (i : Int) {j : Int} (h : 0 < j) (h9 : j.natAbs.log2 < 9000) : CDivW i j := ⟨h, h9⟩
theorem atI_in {xs : List Int} {i : Int} (h0 : 0 ≤ i) (h : i < (xs.length : Int)) : atI (xs.map V.int) i = some (.int (xs.getD i.toNat 0)) := by
  have e : ixN (xs.map V.int).length i = some i.toNat := by
    unfold ixN
    rw [List.length_map, if_pos h0, if_pos h]
  unfold atI
  rw [e]
  show (xs.map V.int)[i.toNat]? = _
  have hl : i.toNat < xs.length := by omega
  rw [List.getElem?_map, List.getElem?_eq_getElem hl, List.getD_eq_getElem?_getD, List.getElem?_eq_getElem hl]
  rfl
theorem ixN_in {n : Nat} {i : Int} (h0 : 0 ≤ i) (h : i < (n : Int)) : ixN n i = some i.toNat := by
  unfold ixN
  rw [if_pos h0, if_pos h]
theorem b_mod (x : Int) : -(2 ^ 64) < x % 2147483629 ∧ x % 2147483629 < 2 ^ 64 := by omega
theorem b_mod1 (x : Int) : -(2 ^ 64) < x % 2147483647 ∧ x % 2147483647 < 2 ^ 64 := by omega
theorem b_t {t : Nat} (h : t < 2 ^ 30) : -(2 ^ 64) < (t : Int) ∧ (t : Int) < 2 ^ 64 := by omega
theorem b_tt {t : Nat} (h : t < 2 ^ 30) : -(2 ^ 64) < (t : Int) * t ∧ (t : Int) * t < 2 ^ 64 := by
  have h1 : t * t < 2 ^ 30 * 2 ^ 30 := Nat.mul_lt_mul'' h h
  have h2 : ((t * t : Nat) : Int) = (t : Int) * t := Int.natCast_mul t t
  omega
theorem set_ints (xs : List Int) (j : Nat) (y : Int) : (xs.map V.int).set j (.int y) = (xs.set j y).map V.int := by
  rw [List.map_set]
theorem ok_draw {f : Addr} {fd : FuncData} (F : Fun K "_law_draw" "_law_draw" s_L_draw f fd) (B : Blt mg) : FnOk P w K mg base CX0 1 f fd ["_law_source_here", "_law_limit"] spDraw := by
  refine F.ok sc_L_draw (fun vs H Q E h => ?_) (fun cdv A outer s H vs Q E hr h => ?_)
  · obtain ⟨a, c, t, lim, rfl, _⟩ := h
    rfl
  · obtain ⟨a, c, t, lim, rfl, S, ht, hl0, hl9, q⟩ := h
    obtain ⟨cs, hc, hn0, hn⟩ := S.cl
    have nd := sc_L_draw.nd
    refine ⟨_, pss_cons (ps_asg (pv 0) (pg_unl (n := 2) (by rfl) (pgs_cons (pg_name (i := 2) nd rfl (Or.inl rfl)) (pgs_cons (pg_name (i := 3) nd rfl (Or.inl rfl)) pgs_nil))))
      (pss_cons (ps_set (i := 4) nd rfl (Or.inl rfl) (pe_op op_mod (pe_callTy call_int1 (by rfl) B.int (by decide +kernel) (pa_cons (pv 3) pa_nil)) (pe_callB call_len_seq (by rfl) B.len PySem.boot_len (pa_cons (pv 2) pa_nil))))
      (pss_cons (ps_set (i := 5) nd rfl (Or.inl rfl) (pe_ix ix_list (pv 2) (pv 4) (fun _ _ => rfl)))
      (pss_cons (ps_asg (pe_op op_add (pv 3) pe_int) (pg_sub (pv 0) pe_int set_list))
      (pss_cons (ps_if (pt_cmpR op_ge (pv 5) (pe_op op_pow pe_int pe_int) (nomark _))
        (pss_cons (ps_asg (pe_op op_fdivW (pv 5) (pv 1)) (pg_sub (pv 2) (pv 4) set_list))
          (pss_one (ps_ret (pe_op op_mod (pe_callTy call_int1 (by rfl) B.int (by decide +kernel) (pa_cons (pv 5) pa_nil)) (pv 1))))) pss_nil)
      (pss_cons (ps_set (i := 6) nd rfl (Or.inl rfl) (pe_op op_mod (pe_callTy call_int1 (by rfl) B.int (by decide +kernel) (pa_cons
          (pe_op op_add (pe_op op_add (pe_op op_mul (pe_op op_mod (pe_callTy call_int1 (by rfl) B.int (by decide +kernel) (pa_cons (pv 5) pa_nil)) pe_int) pe_int) (pe_op op_mul (pe_op op_mul (pv 3) (pv 3)) pe_int)) pe_int) pa_nil)) pe_int))
      (pss_cons (ps_set (i := 6) nd rfl (Or.inl rfl) (pe_op op_mod (pe_callTy call_int1 (by rfl) B.int (by decide +kernel) (pa_cons (pe_op op_mul (pv 6) (pv 6)) pa_nil)) pe_int))
      (pss_cons (ps_set (i := 6) nd rfl (Or.inl rfl) (pe_op op_mod (pe_callTy call_int1 (by rfl) B.int (by decide +kernel) (pa_cons (pe_op op_mul (pv 6) (pv 6)) pa_nil)) pe_int))
      (pss_one (ps_ret (pe_op op_mod (pe_callTy call_int1 (by rfl) B.int (by decide +kernel) (pa_cons (pv 6) pa_nil)) (pv 1))))))))))), ?_⟩
    -- _law_cells, _law_turn = _law_source_here
    walk_at "rd"
    refine ⟨a, _, rfl, SqL.of S.ob, rfl, _, _, rfl, _, _, rfl, rfl, ?_⟩
    -- _law_place
    walk_at "rd"
    have hn0' : (0 : Int) < ((cs.map V.int).length : Nat) := by rw [List.length_map]; omega
    refine ⟨c, _, rfl, .inl (SqL.of hc), _, _, rfl, rfl, hn0', ?_⟩
    have hp0 : 0 ≤ (t : Int) % ((cs.map V.int).length : Nat) := Int.emod_nonneg _ (by omega)
    have hp1 : (t : Int) % ((cs.map V.int).length : Nat) < ((cs.map V.int).length : Nat) := Int.emod_lt_of_pos _ hn0'
    have hp1' : (t : Int) % ((cs.map V.int).length : Nat) < (cs.length : Int) := by rw [List.length_map] at hp1 ⊢; exact hp1
    -- _law_cell
    walk_at "rd"
    refine ⟨c, _, _, _, rfl, rfl, SqL.of hc, atI_in hp0 hp1', ?_⟩
    -- _law_source_here[1] = _law_turn + 1
    walk_at "rd"
    refine ⟨a, _, 1, 1, rfl, rfl, S.ob, rfl, ?_⟩
    have S1 : Src (upd H a (.lst ([V.ref c, V.int t].set 1 (.int ((t : Int) + 1))))) a c (t + 1) := ⟨S.ne, by rw [upd_same]; rfl, cs, by rw [upd_ne S.ne.symm]; exact hc, hn0, hn⟩
    have O1 : Oth a c H (upd H a (.lst ([V.ref c, V.int t].set 1 (.int ((t : Int) + 1))))) := fun b o h na _ => by rw [upd_ne na]; exact h
    have hc1 : upd H a (.lst ([V.ref c, V.int t].set 1 (.int ((t : Int) + 1)))) c = some (.lst (cs.map V.int)) := by rw [upd_ne S.ne.symm]; exact hc
    generalize upd H a (.lst ([V.ref c, V.int t].set 1 (.int ((t : Int) + 1)))) = H1 at S1 O1 hc1 ⊢
    -- if _law_cell >= 10 ** 18
    walk_at "rd"
    refine ⟨⟨by decide, by decide, by decide⟩, ?_⟩
    walk_at "rd"
    refine ite2 (fun _ => ?_) (fun _ => ?_)
    · walk_at "rd"
      refine ⟨fdiv_ok _ hl0 hl9, ?_⟩
      walk_at "rd"
      refine ⟨c, _, _, _, rfl, rfl, hc1, ixN_in hp0 hp1, ?_⟩
      walk_at "rd"
      refine ⟨hl0, ?_⟩
      rw [set_ints]
      refine q _ _ (Int.emod_nonneg _ (by omega)) (Int.emod_lt_of_pos _ hl0) ⟨S1.ne, by rw [upd_ne S1.ne]; exact S1.ob, _, upd_same, by rw [List.length_set]; exact hn0, by rw [List.length_set]; exact hn⟩ fun b o h na nc => ?_
      rw [upd_ne nc]
      exact O1 b o h na nc
    · walk_at "rd"
      refine ⟨(by show (0 : Int) < 2147483629; decide), ?_⟩
      walk_at "rd"
      refine ⟨.inl (b_mod _), ?_⟩
      walk_at "rd"
      refine ⟨.inl (b_t ht), ?_⟩
      walk_at "rd"
      refine ⟨.inl (b_tt ht), ?_⟩
      walk_at "rd"
      refine ⟨(by show (0 : Int) < 2147483647; decide), ?_⟩
      walk_at "rd"
      refine ⟨.inl (b_mod1 _), ?_⟩
      walk_at "rd"
      refine ⟨(by show (0 : Int) < 2147483629; decide), ?_⟩
      walk_at "rd"
      refine ⟨.inl (b_mod _), ?_⟩
      walk_at "rd"
      refine ⟨(by show (0 : Int) < 2147483587; decide), ?_⟩
      walk_at "rd"
      refine ⟨hl0, ?_⟩
      exact q _ _ (Int.emod_nonneg _ (by omega)) (Int.emod_lt_of_pos _ hl0) S1 O1
end
end HT
namespace HT
open PySem L2
/-- a def of the text that may be called by its name, and what it promises -/
structure Cal (P : Program) (w : World) (K : PySem.W.Frag) (mg : Str → Option Value) (base : Heap) (x : Str) (k : Nat) (ps : List Str) (sp : Sp) (f : Addr) (fd : FuncData) : Prop where
  ok : FnOk P w K mg base CX0 k f fd ps sp
  gl : mg x = some (.ref f)
  kp : PySem.W.keepIn K (.ref f) = true
  bd : Binds K fd ps []
theorem pcl {X : Cx} {x : Str} {k j : Nat} {ps : List Str} {sp : Sp} {f : Addr} {fd : FuncData} {e : Expr} {es : List Expr} {t : TA} {p pos : Pos} (C : Cal X.prog X.w X.K X.mg X.base x k ps sp f fd) (hr : Room j X.A) (hj : k ≤ j) (hg : Gl X x) (ha : PA X (e :: es) t)
    (hdb : (x == ("__debug__" : Str)) = false := by decide) (he : starEach (e :: es) X.env = (false, eval e X.env) :: starEach es X.env := by rfl) (hpl : (backTo pos (starEach es X.env)).any (·.1) = false := by rfl) : PE X (.Call (.Name x p) (e :: es) [] pos) (tCall sp [] E0 t) :=
  pe_call C.ok (hr.mono hj) hg C.gl C.kp C.bd .nil pass0 ha hdb he hpl
section
variable {P : Program} {w : World} {K : PySem.W.Frag} {mg : Str → Option Value} {base : Heap}
theorem cut63 {ns : List Int} (h : ns.length ≤ 63) : cutV (ns.map V.int) none (some 63) = ns.map V.int := by
  have e1 : HT.sIx (ns.map V.int).length 0 none = 0 := rfl
  have e2 : HT.sIx (ns.map V.int).length (ns.map V.int).length (some 63) = (ns.map V.int).length := by
    have := HT.sIx_nat (ns.map V.int).length (ns.map V.int).length 63
    rw [show ((63 : Nat) : Int) = 63 from rfl] at this
    rw [this, List.length_map]
    omega
  unfold cutV
  rw [e1, e2, List.drop_zero, Nat.sub_zero, List.take_length]
theorem dpInts (H : Hp) : ∀ ns : List Int, DpAll K H (ns.map V.int) (ns.map PyData.int)
  | [] => .nil
  | n :: r => .cons (.int n) (dpInts H r)
theorem pow_ok : CPowW ((10 : Int) ^ (60 : Int).toNat) 20 := ⟨by decide, by decide +kernel⟩
theorem pow_pos' : (0 : Int) < ((10 : Int) ^ (60 : Int).toNat) ^ (20 : Int).toNat := by decide +kernel
theorem ok_source {f : Addr} {fd : FuncData} (F : Fun K "_law_source" "_law_source" s_L_source f fd) (B : Blt mg) : FnOk P w K mg base CX0 1 f fd ["_law_script"] (spSource K) := by
  refine F.ok sc_L_source (fun vs H Q E h => ?_) (fun cdv A outer s H vs Q E hr h => ?_)
  · obtain ⟨l, ns, rfl, _⟩ := h
    rfl
  · obtain ⟨l, ns, rfl, hL, hn, q⟩ := h
    have nd := sc_L_source.nd
    refine ⟨_, pss_cons (ps_set (i := 1) nd rfl (Or.inl rfl) (pe_slice sl_list (pv 0) po_none (po_some pe_int)))
      (pss_cons (ps_for PassesOwn.never rfl (pi_range1 (by rfl) B.range (pa_cons (pe_callB call_len_seq (by rfl) B.len PySem.boot_len (pa_cons (pv 1) pa_nil)) pa_nil)) (pg_name (i := 2) nd rfl (Or.inl rfl))
        (pss_one (ps_if (pt_cmpR op_ge (pe_callB call_abs (by rfl) B.abs (by decide +kernel) (pa_cons (pe_ix ix_list (pv 1) (pv 2) (fun _ _ => rfl)) pa_nil)) (pe_op op_pow pe_int pe_int) (nomark _))
          (pss_one (ps_asg (pe_op op_mod (pe_callTy call_int1 (by rfl) B.int (by decide +kernel) (pa_cons (pe_ix ix_list (pv 1) (pv 2) (fun _ _ => rfl)) pa_nil)) (pe_op op_powW (pe_op op_pow pe_int pe_int) pe_int)) (pg_sub (pv 1) (pv 2) set_list))) pss_nil)))
      (pss_cons (ps_if (pt_cmpR (op_eqD hr.units) (pv 1) (pe_lst pa_nil) (nomark _)) (pss_one (ps_set (i := 1) nd rfl (Or.inl rfl) (pe_lst (pa_cons pe_int pa_nil)))) pss_nil)
      (pss_one (ps_ret (pe_lst (pa_cons (pv 1) (pa_cons pe_int pa_nil))))))), ?_⟩
    walk_at "rd"
    refine ⟨l, _, rfl, hL, fun p np => ?_⟩
    rw [cut63 hn]
    walk_at "rd"
    refine ⟨p, _, rfl, .inl (SqL.of upd_same), _, rfl, by omega, ?_, ?_⟩
    · show ((ns.map V.int).length : Int) < 2 ^ 62
      rw [List.length_map]
      omega
    have en : ((ns.map V.int).length : Int).toNat = ns.length := by rw [List.length_map]; omega
    rw [en]
    refine for_range (fun i σ H' => ∃ (cs : List Int) (kv : Option V), σ = [some (.ref l), some (.ref p), kv] ∧ H' p = some (.lst (cs.map V.int)) ∧ cs.length = ns.length ∧ Same H H') ⟨ns, none, rfl, upd_same, rfl, fun b o e => by rw [upd_ne (ne_of_none e np)]; exact e⟩ ?_ ?_
    · rintro i σ H' hi ⟨cs, kv, rfl, hp, hl, sm⟩
      have h0 : (0 : Int) ≤ 0 + (i : Int) := by omega
      have h1 : (0 : Int) + (i : Int) < (cs.length : Int) := by omega
      walk_at "rd"
      refine ⟨p, _, _, _, rfl, rfl, SqL.of hp, atI_in h0 h1, ?_⟩
      walk_at "rd"
      refine ⟨⟨by decide, by decide, by decide⟩, ?_⟩
      walk_at "rd"
      refine ite2 (fun _ => ?_) (fun _ => ?_)
      · walk_at "rd"
        refine ⟨p, _, _, _, rfl, rfl, SqL.of hp, atI_in h0 h1, ?_⟩
        walk_at "rd"
        refine ⟨⟨by decide, by decide, by decide⟩, ?_⟩
        walk_at "rd"
        refine ⟨pow_ok, ?_⟩
        walk_at "rd"
        refine ⟨pow_pos', ?_⟩
        walk_at "rd"
        refine ⟨p, _, _, _, rfl, rfl, hp, ixN_in h0 (by rw [List.length_map]; exact h1), ?_⟩
        rw [set_ints]
        exact ⟨_, _, rfl, upd_same, by rw [List.length_set]; exact hl, fun b o e => by rw [upd_ne (ne_of_none e np)]; exact sm b o e⟩
      · exact ⟨cs, _, rfl, hp, hl, sm⟩
    · rintro σ H' ⟨cs, kv, rfl, hp, hl, sm⟩
      walk_at "rd"
      refine ⟨by decide, fun e ne => ?_⟩
      have hpe : upd H' e (.lst []) p = some (.lst (cs.map V.int)) := by rw [upd_ne (ne_of_none hp ne)]; exact hp
      have sm1 : Same H (upd H' e (.lst [])) := fun b o z => by rw [upd_ne (ne_of_none (sm b o z) ne)]; exact sm b o z
      refine ⟨_, _, .lst (SqL.of hpe) (dpInts _ cs), .lst (SqL.of upd_same) .nil, PySem.W.ke_shaped_ints cs, by decide +kernel, ?_⟩
      walk_at "rd"
      have hb : PyData.eqv (.list (cs.map PyData.int)) (.list []) = decide (cs = []) := by
        have z := PySem.W.ked_eqvAll cs []
        rw [← z]
        rfl
      rw [hb]
      refine ite2 (fun _ => ?_) (fun hne => ?_)
      · walk_at "rd"
        refine ⟨by decide, fun c nc => ?_⟩
        walk_at "rd"
        refine ⟨(by show 2 ≤ sizeLine; decide), fun a na => ?_⟩
        have sm2 : Same H (upd (upd H' e (.lst [])) c (.lst [.int 0])) := fun b o z => by rw [upd_ne (ne_of_none (sm1 b o z) nc)]; exact sm1 b o z
        have nac : a ≠ c := (ne_of_none upd_same na).symm
        refine q a c _ (fun b o z => by rw [upd_ne (ne_of_none (sm2 b o z) na)]; exact sm2 b o z) (sm2.free na) (sm1.free nc) ⟨nac, upd_same, [0], by rw [upd_ne nac.symm]; exact upd_same, by decide, by decide⟩
      · walk_at "rd"
        refine ⟨(by show 2 ≤ sizeLine; decide), fun a na => ?_⟩
        have nap : a ≠ p := (ne_of_none hpe na).symm
        refine q a p _ (fun b o z => by rw [upd_ne (ne_of_none (sm1 b o z) na)]; exact sm1 b o z) (sm1.free na) np ⟨nap, upd_same, cs, by rw [upd_ne nap.symm]; exact hpe, ?_, by omega⟩
        have : cs ≠ [] := fun z => hne (decide_eq_true z)
        exact List.length_pos_iff.mpr this
end
end HT
namespace HT
open PySem L2
/-- a thing of any kind, with its type's name -/
inductive Th (H : Hp) : V → String → Prop where
  | int (i : Int) : Th H (.int i) "int"
  | bl (b : Bool) : Th H (.bl b) "bool"
  | non : Th H .non "NoneType"
  | str (s : Str) : Th H (.str s) "str"
  | tup {p : Addr} {xs : List V} (h : H p = some (.tup xs)) : Th H (.ref p) "tuple"
  | lst {p : Addr} {xs : List V} (h : H p = some (.lst xs)) : Th H (.ref p) "list"
  | dk {p : Addr} {kvs : List (Key × V)} (h : H p = some (.dK kvs)) : Th H (.ref p) "dict"
theorem Th.ty {K : PySem.W.Frag} {H : Hp} {x : V} {n : String} (t : Th H x n) : TyX K H x (.type n) := by
  cases t with
  | int i => exact .base (.int i)
  | bl b => exact .base (.bl b)
  | non => exact .base .non
  | str s => exact .base (.str s)
  | tup h => exact .base (.tup h)
  | lst h => exact .base (.lst h)
  | dk h => exact .base (.dK h)
theorem Th.kint {K : PySem.W.Frag} {H : Hp} {x : V} {n : String} (t : Th H x n) : PySem.W.kitOne K (.type n) (.type "int") = some (n == "int" || n == "bool") := by
  cases t <;> exact kit_ty (by decide +kernel)
theorem Th.kbool {K : PySem.W.Frag} {H : Hp} {x : V} {n : String} (t : Th H x n) : PySem.W.kitOne K (.type n) (.type "bool") = some (n == "bool") := by
  cases t <;> exact kit_ty (by decide +kernel)
theorem Th.ktup {K : PySem.W.Frag} {H : Hp} {x : V} {n : String} (t : Th H x n) : PySem.W.kitOne K (.type n) (.type "tuple") = some (n == "tuple") := by
  cases t <;> exact kit_ty (by decide +kernel)
theorem Th.klst {K : PySem.W.Frag} {H : Hp} {x : V} {n : String} (t : Th H x n) : PySem.W.kitOne K (.type n) (.type "list") = some (n == "list") := by
  cases t <;> exact kit_ty (by decide +kernel)
theorem Th.same {H H' : Hp} {x : V} {n : String} (t : Th H x n) (s : Same H H') : Th H' x n := by
  cases t with
  | int i => exact .int i
  | bl b => exact .bl b
  | non => exact .non
  | str x => exact .str x
  | tup h => exact .tup (s _ _ h)
  | lst h => exact .lst (s _ _ h)
  | dk h => exact .dk (s _ _ h)
def isI (n : String) : Bool := n == "int"
def spIsAny : Sp := fun vs H Q _ => ∃ (x : V) (n : String), vs = [x] ∧ Th H x n ∧ Q (.bl (isI n)) H
/-- an int between the ends -/
def inB (x : V) (a b : Int) : Bool := match x with
  | .int i => decide (a ≤ i) && decide (i ≤ b)
  | _ => false
def spBetAny : Sp := fun vs H Q _ => ∃ (x : V) (n : String) (a b : Int), vs = [x, .int a, .int b] ∧ Th H x n ∧ Q (.bl (inB x a b)) H
/-- the names that the text of checks does not bind -/
structure ChkT (mg : Str → Option Value) : Prop where
  isi : mg "isinstance" = none
  int : mg "int" = none
  bool : mg "bool" = none
  tuple : mg "tuple" = none
  list : mg "list" = none
  len : mg "len" = none
end HT
namespace HT
open PySem L2
theorem dec_int (a b : Int) : decide (V.int a = V.int b) = decide (a = b) := by
  by_cases h : a = b
  · rw [decide_eq_true h, h, decide_eq_true rfl]
  · rw [decide_eq_false h, decide_eq_false (fun z => h (V.int.inj z))]
theorem dec_str (a b : Str) : decide (V.str a = V.str b) = decide (a = b) := by
  by_cases h : a = b
  · rw [decide_eq_true h, h, decide_eq_true rfl]
  · rw [decide_eq_false h, decide_eq_false (fun z => h (V.str.inj z))]
theorem dec_bl (a b : Bool) : decide (V.bl a = V.bl b) = decide (a = b) := by
  by_cases h : a = b
  · rw [decide_eq_true h, h, decide_eq_true rfl]
  · rw [decide_eq_false h, decide_eq_false (fun z => h (V.bl.inj z))]
theorem str_t {a b : Str} (h : decide (V.str a = V.str b) = true) : a = b := V.str.inj (of_decide_eq_true h)
theorem str_f {a b : Str} (h : ¬ decide (V.str a = V.str b) = true) : ¬ a = b := fun z => h (decide_eq_true (congrArg V.str z))
theorem int_t {a b : Int} (h : decide (V.int a = V.int b) = true) : a = b := V.int.inj (of_decide_eq_true h)
theorem int_f {a b : Int} (h : ¬ decide (V.int a = V.int b) = true) : ¬ a = b := fun z => h (decide_eq_true (congrArg V.int z))
theorem not_t {b : Bool} (h : (!b) = true) : ¬ b = true := by cases b <;> simp_all
theorem not_f {b : Bool} (h : ¬ (!b) = true) : b = true := by cases b <;> simp_all
end HT
namespace HT
open PySem L2
def spPick : Sp := fun vs H Q _ => ∃ (a c : Addr) (t : Nat) (l : Addr) (xs : List V), vs = [.ref a, .ref l] ∧ Src H a c t ∧ t < 2 ^ 30 ∧ H l = some (.lst xs) ∧ l ≠ a ∧ l ≠ c ∧ 0 < xs.length ∧ xs.length < 2 ^ 60 ∧
  ∀ x H', x ∈ xs → Src H' a c (t + 1) → Oth a c H H' → Q x H'
theorem lg_nat {n : Nat} (h : n < 2 ^ 200) : ((n : Int)).natAbs.log2 < 9000 := by
  rw [Int.natAbs_natCast]
  by_cases e : n = 0
  · rw [e]; decide
  · have := (Nat.log2_lt e).mpr h
    omega
section
variable {P : Program} {w : World} {K : PySem.W.Frag} {mg : Str → Option Value} {base : Heap} {fD fP fG : Addr} {dD dP dG : FuncData}
theorem ok_pick {f : Addr} {fd : FuncData} (F : Fun K "_law_pick" "_law_pick" s_L_pick f fd) (B : Blt mg) (D : Cal P w K mg base "_law_draw" 1 ["_law_source_here", "_law_limit"] spDraw fD dD) :
    FnOk P w K mg base CX0 2 f fd ["_law_source_here", "_law_values"] spPick := by
  refine F.ok sc_L_pick (fun vs H Q E h => ?_) (fun cdv A outer s H vs Q E hr h => ?_)
  · obtain ⟨a, c, t, l, xs, rfl, _⟩ := h
    rfl
  · obtain ⟨a, c, t, l, xs, rfl, S, ht, hl, na, nc, h0, h1, q⟩ := h
    refine ⟨_, pss_one (ps_ret (pe_ix ix_list (pv 1) (pcl D hr (by decide) (by rfl) (pa_cons (pv 0) (pa_cons (pe_callB call_len_seq (by rfl) B.len PySem.boot_len (pa_cons (pv 1) pa_nil)) pa_nil))) (fun _ _ => rfl))), ?_⟩
    walk_at "rd"
    refine ⟨l, _, rfl, .inl (SqL.of hl), ?_⟩
    have p1 : (0 : Int) < (xs.length : Int) := by omega
    refine ⟨a, c, t, _, rfl, S, ht, p1, lg_nat (Nat.lt_of_lt_of_le h1 (Nat.pow_le_pow_right (by decide) (by decide))), fun k H' k0 k1 S' O => ?_⟩
    have hl' : k.toNat < xs.length := by omega
    have e : atI xs k = some xs[k.toNat] := by
      unfold atI
      rw [ixN_in k0 k1]
      exact List.getElem?_eq_getElem hl'
    refine ⟨l, _, _, _, rfl, rfl, SqL.of (O _ _ hl na nc), e, ?_⟩
    exact q _ _ (List.getElem_mem hl') S' O
end
end HT
namespace L2
open PySem PySem.Spec PyProof.Rows
/-- a def of which any kind of error may come -/
theorem Fun.okAny {CX' : CXT} {P : Program} {w : World} {K : PySem.W.Frag} {mg : Str → Option Value} {base : Heap} {nm qu : Str} {row : Stmt} {at0 : Addr} {fd : FuncData} {names pars : List Str} {lev : Nat} {want : Sp} (F : Fun K nm qu row at0 fd) (S : FnScope names pars (defScope row)) (len : ∀ vs H Q E, want vs H Q E → vs.length = pars.length)
    (body : ∀ (code : Value) (A : Around) (outer : List Env) (sh : Shared) (H : Hp) (vs : List V) (Q : VK) (E : XK), Room lev (A.deeper (envOfC qu (defScope row) sh.heap.objs.size at0 code)) → want vs H Q E →
      ∃ t, PSs (cxOf CX' P w K mg base names qu (defScope row) at0 code A outer sh H E) (defBody row) t ∧ t { nx := fun _ H' => Q .non H', rt := Q } (start names vs) H) : FnOk P w K mg base CX' (lev + 1) at0 fd pars want := by
  obtain ⟨_, _, _, _, _, _, code, _, _, rfl, there, isCode⟩ := F.ex
  exact fn_of there isCode S len (body code)
/-- X('..') of an own class, for a raise .. from None -/
theorem pmk5_own {X : Cx} {C : Addr} {bmB : List Value} {B newId initId : String} {x m : Str} {j : Nat} {p p2 pos : Pos} (F : ExcBaseFacts B newId initId bmB) (q : PySem.W.excIn X.K C bmB newId = true) (gC : X.mg x = some (.ref C)) (kC : PySem.W.keepIn X.K (.ref C) = true) (r : Raises X (.ref C)) (hg : Gl X x)
    (plain : (x == ("__debug__" : Str)) = false := by decide) : L2H.PMk5 X (.Call (.Name x p) [.Constant (.str m) j p2] [] pos) (fun _ H Q => Q (.ref C) none H) := by
  intro pins sh st H Q iv want
  have arg : PA X [.Constant (.str m) j p2] (tCons (tC (.str m)) tNil) := pa_cons pe_str pa_nil
  refine wpAny_Call_Name_kw (ld_glob iv hg gC (PySem.W.callWith_K (h₀ := X.base) iv.ok.mod.kin kC (thn (arg.run pos pins sh st H (fun vs H1 => vs = [V.str m] ∧ H = H1) iv ⟨rfl, rfl⟩) ?_)) plain)
  rintro us sh1 ⟨vs, H1, iv1, rel, rfl, rfl⟩
  refine ⟨iv1.kIn, ?_⟩
  match us, rel with
  | [u], .cons _ .nil =>
    show wpAny _ _ (call (.ref C) [u]) _ _ _
    obtain ⟨_, _, _, _, _, _, _, _, _, _, _, _, _, _, _, _, _, hC, hN, hni, T⟩ := exc_obj iv1.kIn q
    exact wpAny_call_exc_subT F T hC hN hni (fun h' e made => L2H.mk_of5 iv1 made r want (iv1.hok.gone made.new)) (by show 1 ≤ sizeLine; decide)
/-- try: .. except x: suite, the suite raising: ps_try_onlyX with its reading under a name, for a loop around it -/
def tTryX (K : PySem.W.Frag) (c : Value) (ts : Addr → Value → Option Addr → TS) (Wout : WX) (tb : WX → TS) : TS := fun D st H => tb (wOnly K c ts Wout D) D st H
theorem ps_tryX {X : Cx} {x : Str} {c : Value} {body suite : List Stmt} {first : Stmt} {np pos pos' : Pos} {tb : WX → TS} {ts : Addr → Value → Option Addr → TS} {Wout : WX} (h1 : X.stack = X.env :: X.outer) (h2 : X.env.frame = some X.env.locals) (h3 : Names X x c)
    (h4 : ∀ hd : Option Value, PassesOwnAt (model X.prog X.w) (X.A.mark hd) X.A X.env X.xe) (h5 : L2.Takes X Wout)
    (h6 : ∀ (W : WX) (pn : List (Addr × Obj)) (xe : Value → Shared → Prop), L2N.Takes (X.tr pn xe) W → L2.Takes (X.tr pn xe) (L2H.wPass X.K c Wout) → PassesOwn (model X.prog X.w) X.A X.env xe → PSs (X.tr pn xe) body (tb W))
    (h7 : ∀ (a : Addr) (oe : Obj) (cls : Value) (d : Option Addr) (pn : List (Addr × Obj)), L2N.Zn cls d oe → (∃ vs, oe.data = .fields vs) → L2.Takes (L2H.suiteX X a ((a, oe) :: pn)) Wout → L2H.HotC (L2H.suiteX X a ((a, oe) :: pn)) → PSs (L2H.suiteX X a ((a, oe) :: pn)) (first :: suite) (ts a cls d)) :
    PS X (.Try body [.ExceptHandler (some (.Name x np)) none (first :: suite) pos'] [] [] pos) (tTryX X.K c ts Wout tb) := L2H.ps_try_onlyX h1 h2 h3 h4 h5 h6 h7
end L2
namespace HT
open PySem L2
/-- the names that the text of figures does not bind, and its numbers -/
structure TxtT (mg : Str → Option Value) (tP tW : Tok) : Prop where
  isi : mg "isinstance" = none
  int : mg "int" = none
  bool : mg "bool" = none
  len : mg "len" = none
  str : mg "str" = none
  abs : mg "abs" = none
  range : mg "range" = none
  max : mg "max" = none
  gP : mg "MOST_PLACES" = some (.int 60 tP)
  gW : mg "MOST_WIDTH" = some (.int 200 tW)
def spIsInt : Sp := fun vs H Q _ => ∃ i : Int, vs = [.int i] ∧ Q (.bl true) H
def spBetween : Sp := fun vs H Q _ => ∃ i a b : Int, vs = [.int i, .int a, .int b] ∧ Q (.bl (decide (a ≤ i) && decide (i ≤ b))) H
def spCheckValue : Sp := fun vs H Q _ => ∃ i : Int, vs = [.int i] ∧ Q .non H
section
variable {P : Program} {w : World} {K : PySem.W.Frag} {mg : Str → Option Value} {base : Heap} {tP tW : Tok} {fI fB fV fC fG fM : Addr} {dI dB dV dC dG dM : FuncData}
theorem ok_is_int {f : Addr} {fd : FuncData} (F : Fun K "is_int" "is_int" s_is_int f fd) (T : TxtT mg tP tW) : FnOk P w K mg base CX0 1 f fd ["thing"] spIsInt := by
  refine F.ok sc_is_int (fun vs H Q E h => ?_) (fun cdv A outer s H vs Q E hr h => ?_)
  · obtain ⟨i, rfl, _⟩ := h
    rfl
  · obtain ⟨i, rfl, q⟩ := h
    refine ⟨_, pss_one (ps_ret (pe_and (pe_callB call_isi (by rfl) T.isi (by decide +kernel) (pa_cons (pv 0) (pa_cons (pe_bltn (v := .ty "int") (by rfl) T.int (by decide +kernel) rfl) pa_nil)))
      (pe_one (pe_not (pe_callB call_isi (by rfl) T.isi (by decide +kernel) (pa_cons (pv 0) (pa_cons (pe_bltn (v := .ty "bool") (by rfl) T.bool (by decide +kernel) rfl) pa_nil))))))), ?_⟩
    walk_at "rd"
    refine ⟨_, _, _, _, _, rfl, .ty "int", .base (.int _), kit_ty (r := true) (by decide +kernel), ?_⟩
    walk_at "rd"
    refine ⟨_, _, _, _, _, rfl, .ty "bool", .base (.int _), kit_ty (r := false) (by decide +kernel), ?_⟩
    walk_at "rd"
    exact q
theorem ok_between {f : Addr} {fd : FuncData} (F : Fun K "is_int_between" "is_int_between" s_is_int_between f fd) (I : Cal P w K mg base "is_int" 1 ["thing"] spIsInt fI dI) : FnOk P w K mg base CX0 2 f fd ["thing", "least", "most"] spBetween := by
  refine F.ok sc_is_int_between (fun vs H Q E h => ?_) (fun cdv A outer s H vs Q E hr h => ?_)
  · obtain ⟨i, a, b, rfl, _⟩ := h
    rfl
  · obtain ⟨i, a, b, rfl, q⟩ := h
    refine ⟨_, pss_one (ps_ret (pe_and (pcl I hr (by decide) (by rfl) (pa_cons (pv 0) pa_nil)) (pe_one (pe_chain op_le op_le (pv 1) (pv 0) (pv 2))))), ?_⟩
    walk_at "rd"
    refine ite2 (fun h => ?_) (fun h => ?_)
    · walk_at "rd"
      rw [decide_eq_true (of_decide_eq_true h)] at q
      exact q
    · rw [decide_eq_false (of_decide_eq_false (by simpa using h))] at q
      exact q
theorem ok_check_value {f : Addr} {fd : FuncData} (F : Fun K "check_value" "check_value" s_check_value f fd) (I : Cal P w K mg base "is_int" 1 ["thing"] spIsInt fI dI) : FnOk P w K mg base CX0 2 f fd ["value"] spCheckValue := by
  refine F.ok sc_check_value (fun vs H Q E h => ?_) (fun cdv A outer s H vs Q E hr h => ?_)
  · obtain ⟨i, rfl, _⟩ := h
    rfl
  · obtain ⟨i, rfl, q⟩ := h
    refine ⟨_, pss_one (ps_if (pt_not (pt_val (pcl I hr (by decide) (by rfl) (pa_cons (pv 0) pa_nil)))) (pss_one ps_never) pss_nil), ?_⟩
    walk_at "rd"
    exact q

/-! ### text_of -/
def spStyle : Sp := fun vs H Q _ => ∃ (sg gr : Bool) (wd : Int), vs = [.bl sg, .bl gr, .int wd] ∧ 0 ≤ wd ∧ wd ≤ 200 ∧ Q .non H
def markM (fig : Int) (sg : Bool) : Str := if fig < 0 then "-" else if 0 < fig ∧ sg = true then "+" else ""
def spMark : Sp := fun vs H Q _ => ∃ (fig : Int) (sg : Bool), vs = [.int fig, .bl sg] ∧ Q (.str (markM fig sg)) H
/-- the first group's length, and the number of groups behind it -/
def firstG (n : Nat) : Nat := (n - 1) % 3 + 1
def moreG (n : Nat) : Nat := (n - firstG n) / 3
def partsG (d : Str) (k : Nat) : List Str := cutS d none (some (firstG d.length : Nat)) :: (List.range k).map fun (j : Nat) => cutS d (some ((firstG d.length : Int) + (j : Int) * 3)) (some ((firstG d.length : Int) + (j : Int) * 3 + 3))
def groupM (d : Str) : Str := Txt.join "," (partsG d (moreG d.length))
def spGrouped : Sp := fun vs H Q _ => ∃ d : Str, vs = [.str d] ∧ 1 ≤ d.length ∧ d.length ≤ 1000 ∧ ∀ H', Same H H' → Q (.str (groupM d)) H'
def textM (fig : Int) (pl : Nat) (sg gr : Bool) (wd : Int) : Str :=
  let d := Txt.zfill (toString (if fig < 0 then -fig else fig)) ((pl : Int) + 1)
  let pt := (d.length : Int) - (pl : Int)
  let t := cutS d none (some pt)
  let t := if gr = true then groupM t else t
  let t := if 0 < pl then t ++ ("." : Str) ++ cutS d (some pt) none else t
  Txt.rjust (markM fig sg ++ t) wd
theorem firstG_eq {n : Nat} (h : 1 ≤ n) : ((n : Int) - 1) % 3 + 1 = (firstG n : Int) := by
  unfold firstG
  omega
theorem size3 {a b : Int} (h : a ≤ b) : Builtin.Range.rangeSize a b 3 = (if a < b then (b - a - 1) / 3 + 1 else 0) := by
  unfold Builtin.Range.rangeSize
  rw [if_pos (show (3 : Int) > 0 by decide)]
theorem small3 {a b : Int} (h0 : 0 ≤ a) (h1 : a ≤ b) (h2 : b ≤ 1000) : Builtin.Range.small a b 3 = true := by
  unfold Builtin.Range.small
  rw [size3 h1]
  have f : ∀ x : Int, 0 ≤ x → x ≤ 5000 → Builtin.Range.rangeFitsLong x = true := fun x a b => by
    unfold Builtin.Range.rangeFitsLong
    rw [decide_eq_true (show -(2 ^ 63) ≤ x by omega), decide_eq_true (show x < 2 ^ 63 by omega)]
    rfl
  have sz : 0 ≤ (if a < b then (b - a - 1) / 3 + 1 else 0) ∧ (if a < b then (b - a - 1) / 3 + 1 else 0) ≤ 1000 := by split <;> omega
  rw [f a h0 (by omega), f b (by omega) (by omega), f 3 (by decide) (by decide), f _ sz.1 (by omega), if_pos (show (3 : Int) > 0 by decide), f (b + (3 - 1)) (by omega) (by omega), Bool.or_true]
  rfl
theorem rgG {n : Nat} (h : 1 ≤ n) (h1 : n ≤ 1000) : RgC (firstG n : Int) (n : Int) 3 (moreG n) := by
  have hf : firstG n ≤ n := by
    unfold firstG
    omega
  refine ⟨by decide, by decide, small3 (by omega) (by omega) (by omega), ?_⟩
  rw [size3 (by omega)]
  unfold moreG firstG
  split <;> omega
theorem cutS_len_le (z : Str) (lo hi : Option Int) : (cutS z lo hi).length ≤ z.length := by
  show ((z.cps.toList.drop _).take _).toArray.size ≤ z.cps.size
  simp only [List.size_toArray, List.length_take, List.length_drop, Array.length_toList]
  omega
theorem ok_style {f : Addr} {fd : FuncData} (F : Fun K "_check_style" "_check_style" s_check_style f fd) (T : TxtT mg tP tW) (B : Cal P w K mg base "is_int_between" 2 ["thing", "least", "most"] spBetween fB dB) : FnOk P w K mg base CX0 3 f fd ["sign", "group", "width"] spStyle := by
  refine F.ok sc_check_style (fun vs H Q E h => ?_) (fun cdv A outer s H vs Q E hr h => ?_)
  · obtain ⟨sg, gr, wd, rfl, _⟩ := h
    rfl
  · obtain ⟨sg, gr, wd, rfl, w0, w1, q⟩ := h
    refine ⟨_, pss_cons (ps_if (PW.pt (pw_or (pt_not (pt_val (pe_callB call_isi (by rfl) T.isi (by decide +kernel) (pa_cons (pv 0) (pa_cons (pe_bltn (v := .ty "bool") (by rfl) T.bool (by decide +kernel) rfl) pa_nil)))))
        (pw_or1 (pt_not (pt_val (pe_callB call_isi (by rfl) T.isi (by decide +kernel) (pa_cons (pv 1) (pa_cons (pe_bltn (v := .ty "bool") (by rfl) T.bool (by decide +kernel) rfl) pa_nil)))))))) (pss_one ps_never) pss_nil)
      (pss_one (ps_if (pt_not (pt_val (pcl B hr (by decide) (by rfl) (pa_cons (pv 2) (pa_cons pe_int (pa_cons (pe_glob (v := .int 200) (by rfl) T.gW ⟨_, rfl⟩) pa_nil)))))) (pss_one ps_never) pss_nil)), ?_⟩
    walk_at "rd"
    refine ⟨_, _, _, _, _, rfl, .ty "bool", .base (.bl _), kit_ty (r := true) (by decide +kernel), ?_⟩
    walk_at "rd"
    refine ⟨_, _, _, _, _, rfl, .ty "bool", .base (.bl _), kit_ty (r := true) (by decide +kernel), ?_⟩
    walk_at "rd"
    refine ⟨_, _, _, rfl, ?_⟩
    have e1 : (decide ((0 : Int) ≤ wd) && decide (wd ≤ 200)) = true := by
      rw [decide_eq_true w0, decide_eq_true w1]
      rfl
    refine ⟨_, rfl, ?_⟩
    refine ite2 (fun h => (not_t h e1).elim) (fun _ => ?_)
    exact q
theorem ok_mark {f : Addr} {fd : FuncData} (F : Fun K "_mark" "_mark" s_mark f fd) : FnOk P w K mg base CX0 1 f fd ["figure", "sign"] spMark := by
  refine F.ok sc_mark (fun vs H Q E h => ?_) (fun cdv A outer s H vs Q E hr h => ?_)
  · obtain ⟨fig, sg, rfl, _⟩ := h
    rfl
  · obtain ⟨fig, sg, rfl, q⟩ := h
    refine ⟨_, pss_cons (ps_if (pt_cmpR op_lt (pv 0) pe_int (nomark _)) (pss_one (ps_ret pe_str)) pss_nil)
      (pss_cons (ps_if (PW.pt (pw_and (pt_cmpR op_gt (pv 0) pe_int (nomark _)) (pw_and1 (pt_val (pv 1))))) (pss_one (ps_ret pe_str)) pss_nil)
      (pss_one (ps_ret pe_str))), ?_⟩
    unfold markM at q
    walk_at "rd"
    refine ite2 (fun h => ?_) (fun h1 => ?_)
    · rw [if_pos (of_decide_eq_true h)] at q
      exact q
    rw [if_neg (fun z => h1 (decide_eq_true z))] at q
    walk_at "rd"
    refine ite2 (fun h => ?_) (fun h2 => ?_)
    · walk_at "rd"
      refine ite2 (fun g => ?_) (fun g => ?_)
      · rw [if_pos ⟨of_decide_eq_true h, g⟩] at q
        exact q
      · rw [if_neg (fun z => g z.2)] at q
        exact q
    · rw [if_neg (fun z => h2 (decide_eq_true z.1))] at q
      exact q
theorem ok_grouped {f : Addr} {fd : FuncData} (F : Fun K "_grouped" "_grouped" s_grouped f fd) (T : TxtT mg tP tW) : FnOk P w K mg base CX0 1 f fd ["digits"] spGrouped := by
  refine F.ok sc_grouped (fun vs H Q E h => ?_) (fun cdv A outer s H vs Q E hr h => ?_)
  · obtain ⟨d, rfl, _⟩ := h
    rfl
  · obtain ⟨d, rfl, l0, l1, q⟩ := h
    have nd := sc_grouped.nd
    have sl : d.length ≤ sizeLine := Nat.le_trans l1 (by decide)
    refine ⟨_, pss_cons (ps_set (i := 1) nd rfl (Or.inl rfl) (pe_op op_add (pe_op op_mod (pe_op op_sub (pe_callB call_len_str (by rfl) T.len PySem.boot_len (pa_cons (pv 0) pa_nil)) pe_int) pe_int) pe_int))
      (pss_cons (ps_set (i := 2) nd rfl (Or.inl rfl) (pe_lst (pa_cons (pe_slice sl_str (pv 0) po_none (po_some (pv 1))) pa_nil)))
      (pss_cons (ps_for PassesOwn.never rfl (pi_range3 (by rfl) T.range (pa_cons (pv 1) (pa_cons (pe_callB call_len_str (by rfl) T.len PySem.boot_len (pa_cons (pv 0) pa_nil)) (pa_cons pe_int pa_nil)))) (pg_name (i := 3) nd rfl (Or.inl rfl))
        (pss_one (ps_expr (pe_bm PySem.F.plainAttrs_list PySem.F.slot_list_append PySem.F.type_list_append mt_append (pv 2) (pa_cons (pe_slice sl_str (pv 0) (po_some (pv 3)) (po_some (pe_op op_add (pv 3) pe_int))) pa_nil)))))
      (pss_one (ps_ret (pe_bm PySem.F.plainAttrs_str PySem.F.slot_str_join PySem.F.type_str_join mt_join pe_str (pa_cons (pv 2) pa_nil)))))), ?_⟩
    walk_at "rd"
    refine ⟨sl, ?_⟩
    walk_at "rd"
    refine ⟨(by show (0 : Int) < 3; decide), ?_⟩
    walk_at "rd"
    have fe := firstG_eq l0
    refine ⟨sl, ?_⟩
    refine ⟨(by show 1 ≤ sizeLine; decide), fun p np => ?_⟩
    have sm0 : Same H (upd H p (.lst [.str (cutS d none (some (((d.length : Int) - 1) % 3 + 1)))])) := fun b u z => (upd_ne (ne_of_none z np)).trans z
    have hp0 : upd H p (.lst [.str (cutS d none (some (((d.length : Int) - 1) % 3 + 1)))]) p = some (.lst ((partsG d 0).map V.str)) := by
      rw [upd_same, fe]
      unfold partsG
      rw [List.range_zero, List.map_nil, List.map_cons, List.map_nil]
    walk_at "rd"
    refine ⟨sl, ?_⟩
    walk_at "rd"
    refine ⟨_, _, _, moreG d.length, rfl, (by rw [fe]; exact rgG l0 l1), ?_⟩
    refine for_rangeC (lo := ((d.length : Int) - 1) % 3 + 1) (c := 3) (n := moreG d.length) (fun i σ H1 => ∃ kv : Option V, σ = [some (.str d), some (.int (((d.length : Int) - 1) % 3 + 1)), some (.ref p), kv] ∧ H1 p = some (.lst ((partsG d i).map V.str)) ∧ Same H H1) ⟨none, rfl, hp0, sm0⟩ ?_ ?_
    · rintro i σ H1 hi ⟨kv, rfl, hp, sm⟩
      walk_at "rd"
      refine ⟨.inl ⟨rfl, _, SqL.of hp⟩, ?_⟩
      walk_at "rd"
      refine ⟨sl, ?_⟩
      have ln : (partsG d i).length = i + 1 := by
        unfold partsG
        rw [List.length_cons, List.length_map, List.length_range]
      have mi : moreG d.length ≤ 1000 := by
        unfold moreG
        omega
      refine ⟨p, _, _, rfl, rfl, hp, (by rw [List.length_map, ln]; exact Nat.lt_of_le_of_lt (show i + 1 ≤ 1001 by omega) (by decide)), ?_⟩
      refine ⟨_, rfl, ?_, fun b u z => (upd_ne (ne_of_none z np)).trans (sm _ _ z)⟩
      rw [upd_same, fe]
      unfold partsG
      rw [List.range_succ, List.map_append, ← List.cons_append, List.map_append]
      rfl
    · rintro σ H1 ⟨kv, rfl, hp, sm⟩
      walk_at "rd"
      refine ⟨rfl, ?_⟩
      walk_at "rd"
      refine ⟨",", p, partsG d (moreG d.length), rfl, rfl, .inl (SqL.of hp), ?_, ?_⟩
      · have ln : (partsG d (moreG d.length)).length = moreG d.length + 1 := by
          unfold partsG
          rw [List.length_cons, List.length_map, List.length_range]
        have mi : moreG d.length ≤ 1000 := by
          unfold moreG
          omega
        have sum : ∀ xs : List Str, (∀ x ∈ xs, x.length ≤ 1000) → (xs.map (·.length)).sum ≤ xs.length * 1000 := by
          intro xs
          induction xs with
          | nil => intro _; exact Nat.zero_le _
          | cons y ys ih =>
            intro hx
            have a := hx y (List.mem_cons_self ..)
            have b := ih fun x h => hx x (List.mem_cons_of_mem _ h)
            rw [List.map_cons, List.sum_cons, List.length_cons, Nat.succ_mul]
            omega
        have all : ∀ x ∈ partsG d (moreG d.length), x.length ≤ 1000 := by
          intro x hx
          unfold partsG at hx
          rcases List.mem_cons.mp hx with e | hx
          · rw [e]
            exact Nat.le_trans (cutS_len_le _ _ _) l1
          · obtain ⟨j, _, e⟩ := List.mem_map.mp hx
            rw [← e]
            exact Nat.le_trans (cutS_len_le _ _ _) l1
        have := sum _ all
        rw [ln] at this ⊢
        have cm : (("," : Str)).length = 1 := by decide +kernel
        rw [cm]
        omega
      · exact q H1 sm
def spText : Sp := fun vs H Q _ => ∃ (fig : Int) (pl : Nat) (sg gr : Bool) (wd : Int), vs = [.int fig, .int (pl : Int), .bl sg, .bl gr, .int wd] ∧ -10 ^ 520 < fig ∧ fig < 10 ^ 520 ∧ pl ≤ 60 ∧ 0 ≤ wd ∧ wd ≤ 200 ∧ ∀ H', Same H H' → Q (.str (textM fig pl sg gr wd)) H'
end
end HT
namespace HT
open PySem L2
theorem log_fig {fig : Int} (h0 : -10 ^ 520 < fig) (h1 : fig < 10 ^ 520) : (if fig < 0 then -fig else fig).natAbs.log2 < 1920 := by
  have h : (if fig < 0 then -fig else fig).natAbs < 2 ^ 1728 := by split <;> omega
  exact Nat.lt_of_lt_of_le (PySem.Flt.log2_lt_of (by decide) h) (by decide)
theorem padOk {i : Int} (h0 : 0 ≤ i) (h1 : i ≤ 600) : PadOk i = true := by
  obtain ⟨n, rfl⟩ := Int.eq_ofNat_of_zero_le h0
  have hn : n ≤ 600 := by omega
  clear h0 h1
  revert hn
  revert n
  decide +kernel
/-- the digits: at least one more than places, at most 300 -/
structure DigOk (d : Str) (pl : Nat) : Prop where
  lo : pl + 1 ≤ d.length
  hi : d.length ≤ 600
def digM (fig : Int) (pl : Nat) : Str := Txt.zfill (toString (if fig < 0 then -fig else fig)) ((pl : Int) + 1)
theorem cut_pre {z : Str} {i : Int} (h : 0 ≤ i ∧ i ≤ (z.length : Int)) : (cutS z none (some i)).length = i.toNat := by
  obtain ⟨n, rfl⟩ := Int.eq_ofNat_of_zero_le h.1
  have hz : z.cps.toList.length = z.length := by
    show z.cps.toList.length = z.cps.size
    exact Array.length_toList
  show ((z.cps.toList.drop (HT.sIx z.length 0 none)).take (HT.sIx z.length z.length (some (n : Int)) - HT.sIx z.length 0 none)).toArray.size = _
  rw [HT.sIx_none, HT.sIx_nat, List.drop_zero, List.size_toArray, List.length_take, hz]
  have := h.2
  omega
theorem le_line {n b : Nat} (h : n ≤ b) (hb : b ≤ 5000 := by decide) : n ≤ sizeLine := Nat.le_trans h (Nat.le_trans hb (by decide))
theorem dl : (("." : Str)).length = 1 := by decide +kernel
theorem str_app (a b : Str) : (a ++ b).length = a.length + b.length := by
  show (a.cps ++ b.cps).size = a.cps.size + b.cps.size
  exact Array.size_append
theorem cut_three (z : Str) {i : Int} (h : 0 ≤ i) : (cutS z (some i) (some (i + 3))).length ≤ 3 := by
  obtain ⟨n, rfl⟩ := Int.eq_ofNat_of_zero_le h
  show ((z.cps.toList.drop (HT.sIx z.length 0 (some (n : Int)))).take (HT.sIx z.length z.length (some ((n + 3 : Nat) : Int)) - HT.sIx z.length 0 (some (n : Int)))).toArray.size ≤ 3
  rw [HT.sIx_nat, HT.sIx_nat, List.size_toArray, List.length_take]
  omega
theorem sum_le_three {α : Type} (f : α → Nat) : ∀ (l : List α), (∀ x ∈ l, f x ≤ 3) → (l.map f).sum ≤ 3 * l.length
  | [], _ => Nat.le_refl _
  | x :: l, h => by
    have a := h x (List.mem_cons_self ..)
    have b := sum_le_three f l (fun y hy => h y (List.mem_cons_of_mem _ hy))
    rw [List.map_cons, List.sum_cons, List.length_cons]
    omega
theorem group_len {d : Str} (h : 1 ≤ d.length) (h1 : d.length ≤ 600) : (groupM d).length ≤ 1300 := by
  have hf : firstG d.length ≤ d.length := by
    unfold firstG
    omega
  have hk : firstG d.length + 3 * moreG d.length = d.length := by
    unfold moreG firstG
    omega
  have hf3 : firstG d.length ≤ 3 := by
    unfold firstG
    omega
  have e := StrLaws.join_length_le "," (partsG d (moreG d.length))
  have e1 := sum_le_three (fun x : Str => x.length) (partsG d (moreG d.length)) (fun x hx => by
    rcases List.mem_cons.mp hx with rfl | hx
    · rw [cut_pre (by omega)]
      omega
    · obtain ⟨j, hj, rfl⟩ := List.mem_map.mp hx
      have := List.mem_range.mp hj
      exact cut_three d (by omega))
  have e2 : (partsG d (moreG d.length)).length = moreG d.length + 1 := by
    unfold partsG
    rw [List.length_cons, List.length_map, List.length_range]
  have e3 : ("," : Str).length = 1 := by decide +kernel
  rw [e2] at e1 e
  rw [e3] at e
  show (PySem.Builtin.Str.glued "," (partsG d (moreG d.length))).length ≤ 1300
  rw [StrLaws.glued_eq_join]
  have e4 : (List.map (fun x : Str => x.length) (partsG d (moreG d.length))).sum ≤ 3 * (moreG d.length + 1) := e1
  have e5 := Nat.le_trans e (Nat.add_le_add_right e4 _)
  omega
section
variable {P : Program} {w : World} {K : PySem.W.Frag} {mg : Str → Option Value} {base : Heap} {tP tW : Tok} {fV fB fC fG fM : Addr} {dV dB dC dG dM : FuncData}
theorem ok_text_of {f : Addr} {fd : FuncData} (F : FunD K "text_of" "text_of" (defArgs s_text_of) (defBody s_text_of) (defScope s_text_of) [] [("sign", .bl false), ("group", .bl false), ("width", .int 0)] f fd) (T : TxtT mg tP tW)
    (V' : Cal P w K mg base "check_value" 2 ["value"] spCheckValue fV dV) (B : Cal P w K mg base "is_int_between" 2 ["thing", "least", "most"] spBetween fB dB) (C : Cal P w K mg base "_check_style" 3 ["sign", "group", "width"] spStyle fC dC)
    (G : Cal P w K mg base "_grouped" 1 ["digits"] spGrouped fG dG) (M : Cal P w K mg base "_mark" 1 ["figure", "sign"] spMark fM dM)
    (dig : ∀ fig pl, -10 ^ 520 < fig → fig < 10 ^ 520 → pl ≤ 60 → DigOk (digM fig pl) pl) :
    FnOk P w K mg base CX0 4 f fd ["figure", "places", "sign", "group", "width"] spText := by
  refine F.ok sc_text_of (fun vs H Q E h => ?_) (fun cdv A outer s H vs Q E hr h => ?_)
  · obtain ⟨fig, pl, sg, gr, wd, rfl, _⟩ := h
    rfl
  · obtain ⟨fig, pl, sg, gr, wd, rfl, f0, f1, p1, w0, w1, q⟩ := h
    have nd := sc_text_of.nd
    refine ⟨_, pss_cons (ps_expr (pcl V' hr (by decide) (by rfl) (pa_cons (pv 0) pa_nil)))
      (pss_cons (ps_if (pt_not (pt_val (pcl B hr (by decide) (by rfl) (pa_cons (pv 1) (pa_cons pe_int (pa_cons (pe_glob (v := .int 60) (by rfl) T.gP ⟨_, rfl⟩) pa_nil)))))) (pss_one ps_never) pss_nil)
      (pss_cons (ps_expr (pcl C hr (by decide) (by rfl) (pa_cons (pv 2) (pa_cons (pv 3) (pa_cons (pv 4) pa_nil)))))
      (pss_cons (ps_set (i := 5) nd rfl (Or.inl rfl) (pe_bm PySem.F.plainAttrs_str PySem.F.slot_str_zfill PySem.F.type_str_zfill mt_zfill (pe_callTy call_str_int (by rfl) T.str (by decide +kernel) (pa_cons (pe_callB call_abs (by rfl) T.abs (by decide +kernel) (pa_cons (pv 0) pa_nil)) pa_nil)) (pa_cons (pe_op op_add (pv 1) pe_int) pa_nil)))
      (pss_cons (ps_set (i := 6) nd rfl (Or.inl rfl) (pe_op op_sub (pe_callB call_len_str (by rfl) T.len PySem.boot_len (pa_cons (pv 5) pa_nil)) (pv 1)))
      (pss_cons (ps_set (i := 7) nd rfl (Or.inl rfl) (pe_slice sl_str (pv 5) po_none (po_some (pv 6))))
      (pss_cons (ps_if (pt_val (pv 3)) (pss_one (ps_set (i := 7) nd rfl (Or.inl rfl) (pcl G hr (by decide) (by rfl) (pa_cons (pv 7) pa_nil)))) pss_nil)
      (pss_cons (ps_if (pt_cmpR op_gt (pv 1) pe_int (nomark _)) (pss_one (ps_set (i := 7) nd rfl (Or.inl rfl) (pe_op op_add_str (pe_op op_add_str (pv 7) pe_str) (pe_slice sl_str (pv 5) (po_some (pv 6)) po_none)))) pss_nil)
      (pss_one (ps_ret (pe_bm PySem.F.plainAttrs_str PySem.F.slot_str_rjust PySem.F.type_str_rjust mt_rjust (pe_op op_add_str (pcl M hr (by decide) (by rfl) (pa_cons (pv 0) (pa_cons (pv 2) pa_nil))) (pv 7)) (pa_cons (pv 4) pa_nil))))))))))), ?_⟩
    have hD := dig fig pl f0 f1 p1
    obtain ⟨dlo, dhi⟩ := id hD
    have sl : (digM fig pl).length ≤ sizeLine := Nat.le_trans dhi (by decide)
    walk_at "rd"
    refine ⟨_, _, _, rfl, ?_⟩
    have e1 : (decide ((0 : Int) ≤ (pl : Int)) && decide ((pl : Int) ≤ 60)) = true := by
      rw [decide_eq_true (by omega), decide_eq_true (by omega)]
      rfl
    refine ⟨_, rfl, ?_⟩
    refine ite2 (fun h => (not_t h e1).elim) (fun _ => ?_)
    walk_at "rd"
    refine ⟨sg, gr, wd, rfl, w0, w1, ?_⟩
    walk_at "rd"
    refine ⟨log_fig f0 f1, ?_⟩
    refine ⟨rfl, ?_⟩
    walk_at "rd"
    refine ⟨padOk (by omega) (by omega), ?_⟩
    walk_at "rd"
    refine ⟨sl, ?_⟩
    walk_at "rd"
    refine ⟨sl, ?_⟩
    walk_at "rd"
    have cl : (cutS (digM fig pl) none (some (((digM fig pl).length : Int) - (pl : Int)))).length = (((digM fig pl).length : Int) - (pl : Int)).toNat := cut_pre (by omega)
    have cl2 := cutS_len_le (digM fig pl) (some (((digM fig pl).length : Int) - (pl : Int))) none
    have c1 : 1 ≤ (cutS (digM fig pl) none (some (((digM fig pl).length : Int) - (pl : Int)))).length := by rw [cl]; omega
    have c2 : (cutS (digM fig pl) none (some (((digM fig pl).length : Int) - (pl : Int)))).length ≤ 1000 := by rw [cl]; omega
    have c3 : (cutS (digM fig pl) none (some (((digM fig pl).length : Int) - (pl : Int)))).length ≤ 600 := by rw [cl]; omega
    have fin : ∀ (t : Str) (H' : Hp), t = (if gr = true then groupM (cutS (digM fig pl) none (some (((digM fig pl).length : Int) - (pl : Int)))) else cutS (digM fig pl) none (some (((digM fig pl).length : Int) - (pl : Int)))) → Same H H' →
        Q (.str (Txt.rjust (markM fig sg ++ (if 0 < pl then t ++ ("." : Str) ++ cutS (digM fig pl) (some (((digM fig pl).length : Int) - (pl : Int))) none else t)) wd)) H' := fun t H' e sm => by
      have z := q H' sm
      subst e
      exact z
    have mk : (markM fig sg).length ≤ 1 := by
      unfold markM
      split
      · decide +kernel
      · split <;> decide +kernel
    refine ite2 (fun h => ?A) (fun h => ?B)
    case' A =>
      walk_at "rd"
      refine ⟨c1, c2, fun H1 sm => ?_⟩
      obtain ⟨t, ht⟩ : ∃ t, t = groupM (cutS (digM fig pl) none (some (((digM fig pl).length : Int) - (pl : Int)))) := ⟨_, rfl⟩
      have tl : t.length ≤ 1300 := by rw [ht]; exact group_len c1 c3
      have fin' := fin t H1 (by rw [if_pos h, ht]) sm
    case' B =>
      obtain ⟨t, ht⟩ : ∃ t, t = cutS (digM fig pl) none (some (((digM fig pl).length : Int) - (pl : Int))) := ⟨_, rfl⟩
      have tl : t.length ≤ 1300 := by rw [ht]; omega
      have fin' := fin t H (by rw [if_neg h, ht]) (Same.refl H)
    all_goals
      walk_at "rd"
      refine ite2 (fun g => ?_) (fun g => ?_)
      · have g' : 0 < pl := by
          have := of_decide_eq_true g
          omega
        rw [if_pos g'] at fin'
        rw [ht] at fin' tl
        walk_at "rd"
        refine ⟨le_line (Nat.add_le_add tl (Nat.le_of_eq dl)), ?_⟩
        walk_at "rd"
        refine ⟨sl, ?_⟩
        walk_at "rd"
        refine ⟨le_line (Nat.add_le_add (Nat.le_trans (Nat.le_of_eq (str_app _ _)) (Nat.add_le_add tl (Nat.le_of_eq dl))) (Nat.le_trans cl2 dhi)), ?_⟩
        walk_at "rd"
        refine ⟨fig, sg, rfl, ?_⟩
        walk_at "rd"
        refine ⟨le_line (Nat.add_le_add mk (Nat.le_trans (Nat.le_of_eq (str_app _ _)) (Nat.add_le_add (Nat.le_trans (Nat.le_of_eq (str_app _ _)) (Nat.add_le_add tl (Nat.le_of_eq dl))) (Nat.le_trans cl2 dhi)))), ?_⟩
        refine ⟨rfl, ?_⟩
        walk_at "rd"
        exact ⟨padOk w0 (by omega), fin'⟩
      · have g' : ¬ 0 < pl := fun z => g (decide_eq_true (by omega))
        rw [if_neg g'] at fin'
        rw [ht] at fin' tl
        walk_at "rd"
        refine ⟨fig, sg, rfl, ?_⟩
        walk_at "rd"
        refine ⟨le_line (Nat.add_le_add mk tl), ?_⟩
        refine ⟨rfl, ?_⟩
        walk_at "rd"
        exact ⟨padOk w0 (by omega), fin'⟩
end
end HT
namespace HT
open PySem L2
theorem dig_ok {fig : Int} {pl : Nat} (h0 : -10 ^ 520 < fig) (h1 : fig < 10 ^ 520) (hp : pl ≤ 60) : DigOk (digM fig pl) pl := by
  have hn : 0 ≤ (if fig < 0 then -fig else fig) := by split <;> omega
  have hb : (if fig < 0 then -fig else fig) < 10 ^ 520 := by split <;> omega
  have e := PyProof.Rows.len_zfill (PySem.Str.ofString (toString (if fig < 0 then -fig else fig))) ((pl : Int) + 1)
  have b := PyProof.Rows.toString_length_le hn (k := 520) (by decide) hb
  have z : ((digM fig pl).length : Int) = _ := e
  have c : pl + 1 ≤ (digM fig pl).length ∧ (digM fig pl).length ≤ 600 := by
    by_cases g : decide (((PySem.Str.ofString (toString (if fig < 0 then -fig else fig))).length : Int) < (pl : Int) + 1) = true
    · rw [if_pos g] at z
      omega
    · rw [if_neg g] at z
      have g' : ¬ ((PySem.Str.ofString (toString (if fig < 0 then -fig else fig))).length : Int) < (pl : Int) + 1 := fun x => g (decide_eq_true x)
      omega
  exact ⟨c.1, c.2⟩
end HT
namespace HT
open PySem L2
theorem false_go {A B : Prop} (h : B) : if false = true then A else B := h
/-- the digits' own signs -/
def digS : Str := "0123456789"
/-- how many of the first signs are digits, at most m of them -/
def dgRun : Nat → List Nat → Nat
  | 0, _ => 0
  | _ + 1, [] => 0
  | m + 1, c :: r => if c ∈ digS.cps.toList then dgRun m r + 1 else 0
theorem dgRun_zero (l : List Nat) : dgRun 0 l = 0 := by cases l <;> rfl
theorem dgRun_nil (m : Nat) : dgRun m [] = 0 := by cases m <;> rfl
theorem dgRun_le : ∀ (m : Nat) (l : List Nat), dgRun m l ≤ l.length ∧ dgRun m l ≤ m
  | 0, l => by rw [dgRun_zero]; exact ⟨Nat.zero_le _, Nat.zero_le _⟩
  | m + 1, [] => by rw [dgRun_nil]; exact ⟨Nat.zero_le _, Nat.zero_le _⟩
  | m + 1, c :: r => by
    have h := dgRun_le m r
    unfold dgRun
    rw [List.length_cons]
    split <;> omega
def pastD (z : Str) (a m : Nat) : Nat := a + dgRun m (z.cps.toList.drop a)
def spPastD : Sp := fun vs H Q _ => ∃ (z : Str) (a m : Nat), vs = [.str z, .int a, .int m] ∧ a ≤ z.length ∧ z.length ≤ sizeLine ∧ Q (.int (pastD z a m)) H
section
variable {P : Program} {w : World} {K : PySem.W.Frag} {mg : Str → Option Value} {base : Heap} {tD : Tok}
theorem ok_past_digits {f : Addr} {fd : FuncData} (F : Fun K "_past_digits" "_past_digits" s_past_digits f fd) (gL : mg "len" = none) (gD : mg "DIGITS" = some (.str digS tD)) : FnOk P w K mg base CX0 1 f fd ["text", "at", "most"] spPastD := by
  refine F.ok sc_past_digits (fun vs H Q E h => ?_) (fun cdv A outer s H vs Q E hr h => ?_)
  · obtain ⟨z, a, m, rfl, _⟩ := h
    rfl
  · obtain ⟨z, a, m, rfl, az, zl, q⟩ := h
    have nd := sc_past_digits.nd
    refine ⟨_, pss_cons (ps_set (i := 3) nd rfl (Or.inl rfl) (pv 1))
      (pss_cons (ps_while PassesOwn.never (PW.pt (pw_and (pt_cmpR op_lt (pv 3) (pe_callB call_len_str (by rfl) gL PySem.boot_len (pa_cons (pv 0) pa_nil)) (nomark _))
          (pw_and (pt_cmpR op_lt (pe_op op_sub (pv 3) (pv 1)) (pv 2) (nomark _))
          (pw_and1 (pt_cmpR op_in_sign (pe_ix ix_str (pv 0) (pv 3) (fun _ _ => rfl)) (pe_glob (v := .str digS) (by rfl) gD ⟨_, rfl⟩) (by rfl))))))
        (pss_one (ps_aug (i := 3) nd rfl (Or.inl rfl) pe_int ip_add)))
      (pss_one (ps_ret (pv 3)))), ?_⟩
    walk_at "rd"
    have hl : z.cps.toList.length = z.length := Array.length_toList
    refine ⟨fun μ σ H' => ∃ e : Nat, a ≤ e ∧ e ≤ z.length ∧ e - a ≤ m ∧ pastD z a m = e + dgRun (m - (e - a)) (z.cps.toList.drop e) ∧ μ = z.length - e ∧ σ = [some (.str z), some (.int a), some (.int m), some (.int e)] ∧ H' = H, ⟨_, a, Nat.le_refl _, az, by omega, by rw [Nat.sub_self]; rfl, rfl, rfl, rfl⟩, ?_⟩
    rintro μ σ H' ⟨e, ae, ez, em, pe, rfl, rfl, rfl⟩
    have out : dgRun (m - (e - a)) (z.cps.toList.drop e) = 0 → Q (.int e) H' := fun h => by
      rw [pe, h] at q
      exact q
    walk_at "rd"
    refine ⟨zl, ?_⟩
    walk_at "rd"
    refine ite2 (fun h1 => ?_) (fun h1 => ?_)
    · have l1 : e < z.length := by
        have := of_decide_eq_true h1
        omega
      obtain ⟨c, hc⟩ : ∃ c, z.cps.toList[e]? = some c := ⟨z.cps.toList[e]'(by omega), List.getElem?_eq_getElem _⟩
      have dr : z.cps.toList.drop e = c :: z.cps.toList.drop (e + 1) := by
        have lt : e < z.cps.toList.length := by omega
        rw [List.drop_eq_getElem_cons lt]
        rw [List.getElem?_eq_getElem lt] at hc
        injection hc with hc
        rw [hc]
      walk_at "rd"
      refine ite2 (fun h2 => ?_) (fun h2 => ?_)
      · have l2 : e - a < m := by
          have := of_decide_eq_true h2
          omega
        obtain ⟨k, hk⟩ : ∃ k, m - (e - a) = k + 1 := ⟨m - (e - a) - 1, by omega⟩
        walk_at "rd"
        refine ⟨z, (e : Int), c, rfl, rfl, zl, atI_nat hc, ?_⟩
        refine ⟨c, digS, rfl, rfl, ?_⟩
        walk_at "rd"
        refine ite2 (fun h3 => ?_) (fun h3 => ?_)
        · have l3 := of_decide_eq_true h3
          refine ⟨fun σ' H1 => σ' = [some (.str z), some (.int a), some (.int m), some (.int ((e + 1 : Nat) : Int))] ∧ H1 = H', ?_, ?_⟩
          · rintro σ' H1 ⟨rfl, rfl⟩
            refine ⟨z.length - (e + 1), by omega, e + 1, by omega, by omega, by omega, ?_, rfl, rfl, rfl⟩
            rw [pe, dr, hk]
            have k1 : m - (e + 1 - a) = k := by omega
            rw [k1]
            show e + (if c ∈ digS.cps.toList then dgRun k (z.cps.toList.drop (e + 1)) + 1 else 0) = _
            rw [if_pos l3]
            omega
          · walk_at "rd"
            exact ⟨rfl, rfl⟩
        · refine ⟨_, rfl, out ?_⟩
          rw [dr, hk]
          show (if c ∈ digS.cps.toList then dgRun k (z.cps.toList.drop (e + 1)) + 1 else 0) = 0
          rw [if_neg (fun x => h3 (decide_eq_true x))]
      · have l2 : ¬ e - a < m := fun x => h2 (decide_eq_true (by omega))
        refine false_go ⟨_, rfl, out ?_⟩
        have k0 : m - (e - a) = 0 := by omega
        rw [k0, dgRun_zero]
    · have l1 : ¬ e < z.length := fun x => h1 (decide_eq_true (by omega))
      refine false_go ⟨_, rfl, out ?_⟩
      rw [List.drop_eq_nil_of_le (by omega), dgRun_nil]
end
end HT
namespace HT
open PySem L2
abbrev sIT : Stmt := inCls (top 6) 0
theorem scIT : FnScope ["self", "at"] ["self", "at"] (defScope sIT) := ⟨rfl, rfl, rfl, by decide +kernel, rfl, by decide +kernel, by decide +kernel⟩
def spIT (D : Addr) : Sp := fun vs H Q _ => ∃ (a : Addr) (y : V), vs = [.ref a, y] ∧ H a = some (exo a D none) ∧ ∀ dx, H dx = none → dx ≠ a → Q .non (upd (upd H dx (exd dx [("at", y)])) a (exo a D (some dx)))
theorem ok_IT {P : Program} {w : World} {K : PySem.W.Frag} {mg : Str → Option Value} {base : Heap} {D f : Addr} {fd : FuncData} (F : Fun K "__init__" "InvalidText.__init__" sIT f fd) (O : OexC K D) (no : PySem.W.findIn K (.ref D) "at" = some none) : FnOk P w K mg base CX0 1 f fd ["self", "at"] (spIT D) := by
  refine F.ok scIT (fun vs H Q E h => ?_) (fun cdv A outer s H vs Q E hr h => ?_)
  · obtain ⟨a, y, rfl, _⟩ := h
    rfl
  · obtain ⟨a, y, rfl, ha, q⟩ := h
    refine ⟨_, pss_one (ps_ost (pv 0) (pv 1)), ?_⟩
    walk_at "rd"
    refine ⟨a, D, rfl, O, no, .inl ⟨ha, fun dx nd ne => ?_⟩⟩
    exact q dx nd ne
/-- InvalidText, to be raised -/
structure ItC (P : Program) (w : World) (K : PySem.W.Frag) (mg : Str → Option Value) (base : Heap) (D fI : Addr) (fd : FuncData) : Prop where
  o : OexC K D
  xf : XfC K D
  i : PySem.W.findIn K (.ref D) "__init__" = some (some (.ref fI))
  t : PySem.W.typeIn K (.ref fI) = some (.type "function")
  ok : FnOk P w K mg base CX0 1 fI fd ["self", "at"] (spIT D)
  bd : Binds K fd ["self", "at"] []
  gl : mg "InvalidText" = some (.ref D)
theorem pmk_it {X : Cx} {j : Nat} {D fI : Addr} {fd : FuncData} {e : Expr} {es : List Expr} {ta : TA} {p pos : Pos} (I : ItC X.prog X.w X.K X.mg X.base D fI fd) (hr : Room j X.A) (hj : 2 ≤ j) (hg : Gl X "InvalidText") (ha : PA X (e :: es) ta)
    (he : starEach (e :: es) X.env = (false, eval e X.env) :: starEach es X.env := by rfl) (hpl : (backTo pos (starEach es X.env)).any (·.1) = false := by rfl) : PMk X (.Call (.Name "InvalidText" p) (e :: es) [] pos) (tMkO D (spIT D) [] ta) :=
  pmk_oex I.o I.i I.t I.ok (hr.mono hj) I.bd .nil pass0 hg I.gl ha (by decide) he hpl
/-- what a raised InvalidText leaves -/
def Err (D : Addr) (E : XK) (H : Hp) (n : Int) : Prop := ∀ (d : Addr) (H' : Hp), H d = none → Same H H' → H' d = some (.xd [("at", .int n)]) → E (.ref D) (some d) H'
theorem Err.go {D : Addr} {E : XK} {H : Hp} {n : Int} (h : Err D E H n) : ([V.int n] : List V).length ≤ 1000 ∧ ∀ a, H a = none → spIT D (.ref a :: ([V.int n] ++ [])) (upd H a (exo a D none)) (fun v H2 => v = .non ∧ ∃ (d : Addr) (fs : List (Str × V)), H2 a = some (exo a D (some d)) ∧ H2 d = some (exd d fs) ∧ H d = none ∧ E (.ref D) (some d) (upd (del H2 a) d (.xd fs))) (fun _ _ _ => False) := by
  refine ⟨(by show 1 ≤ 1000; decide), fun a na => ⟨a, .int n, rfl, upd_same, fun dx nd ne => ⟨rfl, dx, [("at", .int n)], upd_same, (upd_ne ne).trans upd_same, (upd_ne ne).symm.trans nd, ?_⟩⟩⟩
  have hd : H dx = none := (upd_ne ne).symm.trans nd
  refine h dx _ hd (fun b u z => ?_) upd_same
  have b1 := ne_of_none z na
  have b2 := ne_of_none z hd
  rw [upd_ne b2, del_ne b1, upd_ne b1, upd_ne b2, upd_ne b1]
  exact z
theorem Err.same {D : Addr} {E : XK} {H H1 : Hp} {n : Int} (h : Err D E H n) (s : Same H H1) : Err D E H1 n := fun d H' hd s' e => by
  refine h d H' ?_ (s.trans s') e
  cases hh : H d with
  | none => rfl
  | some u =>
    have := s _ _ hh
    rw [hd] at this
    cases this
/-! ### what the text's parts come to -/
def at1 (z : Str) (a : Nat) : Str := cutS z (some (a : Int)) (some ((a : Int) + 1))
def groupsM (z : Str) : Nat → Nat → Bool × Nat
  | 0, a => (true, a)
  | n + 1, a => if at1 z a = "," then (if pastD z (a + 1) 3 < a + 4 then (false, pastD z (a + 1) 3) else groupsM z n (pastD z (a + 1) 3)) else (true, a)
def chAt (z : Str) (a : Nat) : Nat := z.cps.toList.getD a 0
def wholeM (z : Str) (a : Nat) : Bool × Nat :=
  if pastD z a z.length = a then (false, a) else if (⟨#[chAt z a]⟩ : Str) = "0" then (true, a + 1) else if 3 < pastD z a z.length - a then (true, pastD z a z.length) else groupsM z z.length (pastD z a z.length)
def placesM (z : Str) (a : Nat) : Bool × Nat := if at1 z a = "." then (if pastD z (a + 1) 60 = a + 1 then (false, a + 1) else (true, pastD z (a + 1) 60)) else (true, a)
/-- the outcome of a part: a place, or an error's -/
def Out (D : Addr) (Q : VK) (E : XK) (H : Hp) (r : Bool × Nat) : Prop := (r.1 = true → Q (.int (r.2 : Int)) H) ∧ (r.1 = false → Err D E H (r.2 : Int))
def spWhole (D : Addr) : Sp := fun vs H Q E => ∃ (z : Str) (a : Nat), vs = [.str z, .int a] ∧ a ≤ z.length ∧ z.length ≤ 2000 ∧ Out D Q E H (wholeM z a)
def spGroups (D : Addr) : Sp := fun vs H Q E => ∃ (z : Str) (a n : Nat), vs = [.str z, .int a] ∧ a ≤ z.length ∧ z.length ≤ 2000 ∧ z.length < a + 4 * n + 1 ∧ Out D Q E H (groupsM z n a)
def spPlaces (D : Addr) : Sp := fun vs H Q E => ∃ (z : Str) (a : Nat), vs = [.str z, .int a] ∧ a ≤ z.length ∧ z.length ≤ 2000 ∧ Out D Q E H (placesM z a)
theorem at1_lt {z : Str} {a : Nat} {s : Str} (h : at1 z a = s) (hs : s.length = 1) : a < z.length := by
  have e := congrArg Str.length h
  rw [hs] at e
  have : (cutS z (some (a : Int)) (some ((a : Int) + 1))).length = 1 := e
  have h1 : ((z.cps.toList.drop (HT.sIx z.length 0 (some (a : Int)))).take (HT.sIx z.length z.length (some ((a + 1 : Nat) : Int)) - HT.sIx z.length 0 (some (a : Int)))).toArray.size = 1 := this
  rw [HT.sIx_nat, HT.sIx_nat, List.size_toArray, List.length_take] at h1
  omega
theorem past_le (z : Str) (a m : Nat) (h : a ≤ z.length) : a ≤ pastD z a m ∧ pastD z a m ≤ z.length ∧ pastD z a m ≤ a + m := by
  have := dgRun_le m (z.cps.toList.drop a)
  have hz : z.cps.toList.length = z.length := Array.length_toList
  rw [List.length_drop, hz] at this
  unfold pastD
  omega
theorem len_comma : ("," : Str).length = 1 := by decide +kernel
theorem len_dot : ("." : Str).length = 1 := by decide +kernel
section
variable {P : Program} {w : World} {K : PySem.W.Frag} {mg : Str → Option Value} {base : Heap} {tM : Tok} {fD fG D fI : Addr} {dD dG dI : FuncData}
theorem ok_past_places {f : Addr} {fd : FuncData} (F : Fun K "_past_places" "_past_places" s_past_places f fd) (gM : mg "MOST_PLACES" = some (.int 60 tM)) (I : ItC P w K mg base D fI dI) (Pd : Cal P w K mg base "_past_digits" 1 ["text", "at", "most"] spPastD fD dD) : FnOk P w K mg base (L2.CX P w) 3 f fd ["text", "at"] (spPlaces D) := by
  refine F.okX sc_past_places (fun vs H Q E h => ?_) (fun cdv A outer s H vs Q E hr h => ?_)
  · obtain ⟨z, a, rfl, _⟩ := h
    rfl
  · obtain ⟨z, a, rfl, az, zl, ok, er⟩ := h
    have zs : z.length ≤ sizeLine := Nat.le_trans zl (by decide)
    have nd := sc_past_places.nd
    refine ⟨_, pss_cons (ps_if (pt_cmpR op_ne (pe_slice sl_str (pv 0) (po_some (pv 1)) (po_some (pe_op op_add (pv 1) pe_int))) pe_str (nomark _)) (pss_one (ps_ret (pv 1))) pss_nil)
      (pss_cons (ps_set (i := 2) nd rfl (Or.inl rfl) (pcl Pd hr (by decide) (by rfl) (pa_cons (pv 0) (pa_cons (pe_op op_add (pv 1) pe_int) (pa_cons (pe_glob (v := .int 60) (by rfl) gM ⟨_, rfl⟩) pa_nil)))))
      (pss_cons (ps_if (pt_cmpR op_eq (pv 2) (pe_op op_add (pv 1) pe_int) (nomark _)) (pss_one (ps_raise rfl (takes_of rfl rfl rfl rfl) (pmk_it I hr (by decide) (by rfl) (pa_cons (pv 2) pa_nil)))) pss_nil)
      (pss_one (ps_ret (pv 2))))), ?_⟩
    unfold placesM at ok er
    walk_at "rd"
    refine ⟨zs, ?_⟩
    walk_at "rd"
    refine ⟨rfl, ?_⟩
    walk_at "rd"
    refine ite2 (fun h => ?_) (fun h => ?_)
    · have h' : ¬ at1 z a = "." := fun e => not_t h (decide_eq_true (congrArg V.str e))
      rw [if_neg h'] at ok
      exact ⟨_, rfl, ok rfl⟩
    · have h' : at1 z a = "." := str_t (not_f h)
      rw [if_pos h'] at ok er
      have lt := at1_lt h' len_dot
      walk_at "rd"
      refine ⟨z, a + 1, 60, rfl, lt, zs, ?_⟩
      walk_at "rd"
      refine ⟨rfl, ?_⟩
      walk_at "rd"
      refine ite2 (fun h => ?_) (fun h => ?_)
      · have e : pastD z (a + 1) 60 = a + 1 := by
          have := int_t h
          omega
        rw [if_pos e] at er
        walk_at "rd"
        rw [e]
        exact (er rfl).go
      · have e : ¬ pastD z (a + 1) 60 = a + 1 := fun x => int_f h (by rw [x]; rfl)
        rw [if_neg e] at ok
        exact ⟨_, rfl, ok rfl⟩
theorem ok_past_groups {f : Addr} {fd : FuncData} (F : Fun K "_past_groups" "_past_groups" s_past_groups f fd) (I : ItC P w K mg base D fI dI) (Pd : Cal P w K mg base "_past_digits" 1 ["text", "at", "most"] spPastD fD dD) : FnOk P w K mg base (L2.CX P w) 3 f fd ["text", "at"] (spGroups D) := by
  refine F.okX sc_past_groups (fun vs H Q E h => ?_) (fun cdv A outer s H vs Q E hr h => ?_)
  · obtain ⟨z, a, n, rfl, _⟩ := h
    rfl
  · obtain ⟨z, a, n, rfl, az, zl, fu, ok, er⟩ := h
    have zs : z.length ≤ sizeLine := Nat.le_trans zl (by decide)
    have nd := sc_past_groups.nd
    refine ⟨_, pss_cons (ps_while (passes_of rfl) (pt_cmpR op_eq (pe_slice sl_str (pv 0) (po_some (pv 1)) (po_some (pe_op op_add (pv 1) pe_int))) pe_str (nomark _))
        (pss_cons (ps_set (i := 2) nd rfl (Or.inl rfl) (pcl Pd hr (by decide) (by rfl) (pa_cons (pv 0) (pa_cons (pe_op op_add (pv 1) pe_int) (pa_cons pe_int pa_nil)))))
        (pss_cons (ps_if (pt_cmpR op_lt (pv 2) (pe_op op_add (pv 1) pe_int) (nomark _)) (pss_one (ps_raise rfl (takes_of rfl rfl rfl rfl) (pmk_it I hr (by decide) (by rfl) (pa_cons (pv 2) pa_nil)))) pss_nil)
        (pss_one (ps_set (i := 1) nd rfl (Or.inl rfl) (pv 2))))))
      (pss_one (ps_ret (pv 1))), ?_⟩
    refine ⟨fun μ σ H' => ∃ (b : Nat) (x : Option V), b ≤ z.length ∧ z.length < b + 4 * μ + 1 ∧ ((groupsM z μ b).1 = true → Q (.int ((groupsM z μ b).2 : Int)) H) ∧ ((groupsM z μ b).1 = false → Err D E H ((groupsM z μ b).2 : Int)) ∧ σ = [some (.str z), some (.int (b : Int)), x] ∧ H' = H, ⟨_, a, none, az, fu, ok, er, rfl, rfl⟩, ?_⟩
    rintro μ σ H' ⟨b, x, bz, fu, ok, er, rfl, rfl⟩
    walk_at "rd"
    refine ⟨zs, ?_⟩
    walk_at "rd"
    refine ⟨rfl, ?_⟩
    walk_at "rd"
    refine ite2 (fun h => ?_) (fun h => ?_)
    · have h' : at1 z b = "," := str_t h
      have lt := at1_lt h' len_comma
      obtain ⟨m, rfl⟩ : ∃ m, μ = m + 1 := ⟨μ - 1, by omega⟩
      have st : groupsM z (m + 1) b = if pastD z (b + 1) 3 < b + 4 then (false, pastD z (b + 1) 3) else groupsM z m (pastD z (b + 1) 3) := by
        show (if at1 z b = "," then _ else _) = _
        rw [if_pos h']
      rw [st] at ok er
      obtain ⟨p1, p2, p3⟩ := past_le z (b + 1) 3 lt
      refine ⟨fun σ' H1 => ¬ pastD z (b + 1) 3 < b + 4 ∧ σ' = [some (.str z), some (.int ((pastD z (b + 1) 3 : Nat) : Int)), some (.int ((pastD z (b + 1) 3 : Nat) : Int))] ∧ H1 = H', ?_, ?_⟩
      · rintro σ' H1 ⟨ge, rfl, rfl⟩
        rw [if_neg ge] at ok er
        exact ⟨m, by omega, _, _, p2, by omega, ok, er, rfl, rfl⟩
      walk_at "rd"
      refine ⟨z, b + 1, 3, rfl, lt, zs, ?_⟩
      walk_at "rd"
      refine ite2 (fun h => ?_) (fun h => ?_)
      · have l4 : pastD z (b + 1) 3 < b + 4 := by
          have := of_decide_eq_true h
          omega
        rw [if_pos l4] at er
        walk_at "rd"
        exact (er rfl).go
      · have l4 : ¬ pastD z (b + 1) 3 < b + 4 := fun x => h (decide_eq_true (by omega))
        walk_at "rd"
        exact ⟨l4, rfl, rfl⟩
    · have h' : ¬ at1 z b = "," := str_f h
      have st : groupsM z μ b = (true, b) := by
        cases μ with
        | zero => rfl
        | succ m =>
          show (if at1 z b = "," then _ else _) = _
          rw [if_neg h']
      rw [st] at ok
      exact ⟨_, rfl, ok rfl⟩
end
end HT
namespace HT
open PySem L2
/-- a def of which errors may come, and its call -/
structure CalX (P : Program) (w : World) (K : PySem.W.Frag) (mg : Str → Option Value) (base : Heap) (x : Str) (k : Nat) (ps : List Str) (sp : Sp) (f : Addr) (fd : FuncData) : Prop where
  ok : FnOk P w K mg base (L2.CX P w) k f fd ps sp
  mgf : mg x = some (.ref f)
  kp : PySem.W.keepIn K (.ref f) = true
  b : Binds K fd ps []
theorem pcx {X : Cx} {x : Str} {k j : Nat} {ps : List Str} {sp : Sp} {f : Addr} {fd : FuncData} {e : Expr} {es : List Expr} {t : TA} {p pos : Pos} {W : WX} (C : CalX X.prog X.w X.K X.mg X.base x k ps sp f fd) (hr : Room j X.A) (hj : k ≤ j) (hg : Gl X x) (tk : L2.Takes X W) (ha : PA X (e :: es) t)
    (hdb : (x == ("__debug__" : Str)) = false := by decide) (he : starEach (e :: es) X.env = (false, eval e X.env) :: starEach es X.env := by rfl) (hpl : (backTo pos (starEach es X.env)).any (·.1) = false := by rfl) : PE X (.Call (.Name x p) (e :: es) [] pos) (tCallS sp (WE W) t) :=
  pe_callS C.ok (hr.mono hj) hg C.mgf C.kp C.b (fun σ => L2.passAt tk σ) ha hdb he hpl
end HT
namespace HT
open PySem L2
theorem chAt_get {z : Str} {a : Nat} (h : a < z.length) : z.cps.toList[a]? = some (chAt z a) := by
  have hz : a < z.cps.toList.length := by
    rw [Array.length_toList]
    exact h
  unfold chAt
  rw [List.getD_eq_getElem?_getD, List.getElem?_eq_getElem hz]
  rfl
section
variable {P : Program} {w : World} {K : PySem.W.Frag} {mg : Str → Option Value} {base : Heap} {tM : Tok} {fD fG D fI : Addr} {dD dG dI : FuncData}
theorem ok_past_whole {f : Addr} {fd : FuncData} (F : Fun K "_past_whole" "_past_whole" s_past_whole f fd) (gL : mg "len" = none) (I : ItC P w K mg base D fI dI) (Pd : Cal P w K mg base "_past_digits" 1 ["text", "at", "most"] spPastD fD dD) (Gr : CalX P w K mg base "_past_groups" 3 ["text", "at"] (spGroups D) fG dG) : FnOk P w K mg base (L2.CX P w) 4 f fd ["text", "at"] (spWhole D) := by
  refine F.okX sc_past_whole (fun vs H Q E h => ?_) (fun cdv A outer s H vs Q E hr h => ?_)
  · obtain ⟨z, a, rfl, _⟩ := h
    rfl
  · obtain ⟨z, a, rfl, az, zl, ok, er⟩ := h
    have zs : z.length ≤ sizeLine := Nat.le_trans zl (by decide)
    have nd := sc_past_whole.nd
    refine ⟨_, pss_cons (ps_set (i := 2) nd rfl (Or.inl rfl) (pcl Pd hr (by decide) (by rfl) (pa_cons (pv 0) (pa_cons (pv 1) (pa_cons (pe_callB call_len_str (by rfl) gL PySem.boot_len (pa_cons (pv 0) pa_nil)) pa_nil)))))
      (pss_cons (ps_if (pt_cmpR op_eq (pv 2) (pv 1) (nomark _)) (pss_one (ps_raise rfl (takes_of rfl rfl rfl rfl) (pmk_it I hr (by decide) (by rfl) (pa_cons (pv 1) pa_nil)))) pss_nil)
      (pss_cons (ps_if (pt_cmpR op_eq (pe_ix ix_str (pv 0) (pv 1) (fun _ _ => rfl)) pe_str (nomark _)) (pss_one (ps_ret (pe_op op_add (pv 1) pe_int))) pss_nil)
      (pss_cons (ps_if (pt_cmpR op_gt (pe_op op_sub (pv 2) (pv 1)) pe_int (nomark _)) (pss_one (ps_ret (pv 2))) pss_nil)
      (pss_one (ps_ret (pcx Gr hr (by decide) (by rfl) (takes_of rfl rfl rfl rfl) (pa_cons (pv 0) (pa_cons (pv 2) pa_nil)))))))), ?_⟩
    obtain ⟨p1, p2, _⟩ := past_le z a z.length az
    unfold wholeM at ok er
    walk_at "rd"
    refine ⟨zs, ?_⟩
    refine ⟨z, a, z.length, rfl, az, zs, ?_⟩
    generalize pastD z a z.length = e at p1 p2 ok er
    walk_at "rd"
    refine ⟨rfl, ?_⟩
    walk_at "rd"
    refine ite2 (fun h => ?_) (fun h => ?_)
    · have ea : e = a := by
        have := int_t h
        omega
      rw [if_pos ea] at er
      walk_at "rd"
      exact (er rfl).go
    have ea : ¬ e = a := fun x => int_f h (by rw [x])
    rw [if_neg ea] at ok er
    walk_at "rd"
    refine ⟨z, (a : Int), chAt z a, rfl, rfl, zs, atI_nat (chAt_get (by omega)), ?_⟩
    walk_at "rd"
    refine ⟨rfl, ?_⟩
    walk_at "rd"
    refine ite2 (fun h => ?_) (fun h => ?_)
    · rw [if_pos (str_t h)] at ok
      walk_at "rd"
      exact ok rfl
    rw [if_neg (str_f h)] at ok er
    walk_at "rd"
    refine ite2 (fun h2 => ?_) (fun h2 => ?_)
    · have g : 3 < e - a := by
        have := of_decide_eq_true h2
        omega
      rw [if_pos g] at ok
      exact ⟨_, rfl, ok rfl⟩
    · have g : ¬ 3 < e - a := fun x => h2 (decide_eq_true (by omega))
      rw [if_neg g] at ok er
      walk_at "rd"
      exact ⟨z, e, z.length, rfl, p2, zl, by omega, ok, er⟩
end
end HT
namespace HT
open PySem L2 PySem.NumText TL
theorem tl_digS : tl digS = [48, 49, 50, 51, 52, 53, 54, 55, 56, 57] := by
  show tl (Str.ofString "0123456789") = _
  rw [tl_ofString]
  rfl
theorem mem_digS {c : Nat} : c ∈ digS.cps.toList ↔ 48 ≤ c ∧ c ≤ 57 := by
  rw [show digS.cps.toList = [48, 49, 50, 51, 52, 53, 54, 55, 56, 57] from tl_digS]
  simp only [List.mem_cons, List.not_mem_nil, or_false]
  omega
theorem tl_cut (z : Str) (a b : Nat) (h : b ≤ (tl z).length) : tl (cutS z (some (a : Int)) (some (b : Int))) = ((tl z).drop a).take (b - a) := by
  have hz : z.length = (tl z).length := len_tl z
  show ((tl z).drop (HT.sIx z.length 0 (some (a : Int)))).take (HT.sIx z.length z.length (some (b : Int)) - HT.sIx z.length 0 (some (a : Int))) = _
  rw [HT.sIx_nat, HT.sIx_nat, hz, Nat.min_eq_left h]
  by_cases g : a ≤ (tl z).length
  · rw [Nat.min_eq_left g]
  · rw [Nat.min_eq_right (by omega), List.drop_eq_nil_of_le (Nat.le_refl _), List.drop_eq_nil_of_le (by omega), List.take_nil, List.take_nil]
theorem tl_at1 (z : Str) (a : Nat) : tl (at1 z a) = ((tl z).drop a).take 1 := by
  have hz : z.length = (tl z).length := len_tl z
  show ((tl z).drop (HT.sIx z.length 0 (some (a : Int)))).take (HT.sIx z.length z.length (some ((a + 1 : Nat) : Int)) - HT.sIx z.length 0 (some (a : Int))) = _
  rw [HT.sIx_nat, HT.sIx_nat, hz]
  by_cases g : a < (tl z).length
  · rw [Nat.min_eq_left (by omega), Nat.min_eq_left (by omega)]
    congr 1
    omega
  · rw [Nat.min_eq_right (by omega), Nat.min_eq_right (by omega), List.drop_eq_nil_of_le (Nat.le_refl _), List.drop_eq_nil_of_le (by omega), List.take_nil, List.take_nil]
theorem at1_is {z : Str} {a c : Nat} {s : Str} (hs : tl s = [c]) : at1 z a = s ↔ ((tl z).drop a).head? = some c := by
  constructor
  · intro h
    have e := congrArg tl h
    rw [tl_at1, hs] at e
    cases hd : (tl z).drop a with
    | nil => rw [hd] at e; cases e
    | cons d l =>
      rw [hd] at e
      have e1 : d = c := by injection e
      rw [e1]
      rfl
  · intro h
    refine ext_tl ?_
    rw [tl_at1, hs]
    cases hd : (tl z).drop a with
    | nil => rw [hd] at h; cases h
    | cons d l =>
      rw [hd] at h
      injection h with h
      rw [h]
      rfl
theorem tl_comma : tl ("," : Str) = [44] := by
  show tl (Str.ofString ",") = _
  rw [tl_ofString]
  rfl
theorem tl_dot : tl ("." : Str) = [46] := by
  show tl (Str.ofString ".") = _
  rw [tl_ofString]
  rfl
theorem tl_minus : tl ("-" : Str) = [45] := by
  show tl (Str.ofString "-") = _
  rw [tl_ofString]
  rfl
theorem tl_plus : tl ("+" : Str) = [43] := by
  show tl (Str.ofString "+") = _
  rw [tl_ofString]
  rfl
theorem tl_zero : tl ("0" : Str) = [48] := by
  show tl (Str.ofString "0") = _
  rw [tl_ofString]
  rfl
theorem tl_blank : tl (" " : Str) = [32] := by
  show tl (Str.ofString " ") = _
  rw [tl_ofString]
  rfl
theorem tl_empty : tl ("" : Str) = [] := by
  show tl (Str.ofString "") = _
  rw [tl_ofString]
  rfl
theorem one_is {c d : Nat} {s : Str} (hs : tl s = [d]) : (⟨#[c]⟩ : Str) = s ↔ c = d := by
  constructor
  · intro h
    have e := congrArg tl h
    rw [hs] at e
    have e1 : [c] = [d] := e
    injection e1
  · intro h
    refine ext_tl ?_
    rw [hs, ← h]
theorem filter_dg {l : List Nat} (h : AllDigits l) {c : Nat} (hc : c < 48) : l.filter (· != c) = l := by
  refine List.filter_eq_self.mpr (fun d hd => ?_)
  have := h d hd
  simp only [bne_iff_ne]
  omega
end HT
namespace HT
open PySem L2 PySem.NumText TL
def isDg (c : Nat) : Bool := decide (48 ≤ c) && decide (c ≤ 57)
theorem isDg_t {c : Nat} : isDg c = true ↔ 48 ≤ c ∧ c ≤ 57 := by
  unfold isDg
  rw [Bool.and_eq_true, decide_eq_true_eq, decide_eq_true_eq]
/-- digits, commas and points from a to b -/
def Seg (z : Str) (a b : Nat) : Prop := ∀ i c, a ≤ i → i < b → z.cps.toList[i]? = some c → (48 ≤ c ∧ c ≤ 57) ∨ c = 44 ∨ c = 46
theorem Seg.trans {z : Str} {a b d : Nat} (h : Seg z a b) (g : Seg z b d) : Seg z a d := fun i c h1 h2 e => by
  by_cases x : i < b
  · exact h i c h1 x e
  · exact g i c (by omega) h2 e
theorem dgRun_in : ∀ (m : Nat) (l : List Nat) (i c : Nat), i < dgRun m l → l[i]? = some c → 48 ≤ c ∧ c ≤ 57
  | 0, l, i, c, h, _ => by rw [dgRun_zero] at h; omega
  | m + 1, [], i, c, h, _ => by rw [dgRun_nil] at h; omega
  | m + 1, d :: l, i, c, h, e => by
    have st : dgRun (m + 1) (d :: l) = if d ∈ digS.cps.toList then dgRun m l + 1 else 0 := rfl
    rw [st] at h
    by_cases hd : d ∈ digS.cps.toList
    · rw [if_pos hd] at h
      cases i with
      | zero =>
        injection e with e
        rw [← e]
        exact mem_digS.mp hd
      | succ i => exact dgRun_in m l i c (by omega) e
    · rw [if_neg hd] at h
      omega
theorem past_seg (z : Str) (a m : Nat) : Seg z a (pastD z a m) := fun i c h1 h2 e => by
  refine .inl (dgRun_in m (z.cps.toList.drop a) (i - a) c ?_ ?_)
  · unfold pastD at h2
    omega
  · rw [List.getElem?_drop, show a + (i - a) = i by omega]
    exact e
theorem one_seg {z : Str} {a d : Nat} {s : Str} (h : at1 z a = s) (hs : tl s = [d]) (hd : d = 44 ∨ d = 46) : Seg z a (a + 1) := fun i c h1 h2 e => by
  have hh := (at1_is hs).mp h
  obtain rfl : i = a := by omega
  rw [List.head?_drop] at hh
  rw [show (tl z)[i]? = some c from e] at hh
  injection hh with hh
  rw [hh]
  exact .inr hd
theorem groups_seg (z : Str) : ∀ (n a p : Nat), a ≤ z.length → groupsM z n a = (true, p) → a ≤ p ∧ p ≤ z.length ∧ Seg z a p
  | 0, a, p, ha, h => by
    injection h with h1 h2
    subst h2
    exact ⟨Nat.le_refl _, ha, fun i c h1 h2 => by omega⟩
  | n + 1, a, p, ha, h => by
    have st : groupsM z (n + 1) a = if at1 z a = "," then (if pastD z (a + 1) 3 < a + 4 then (false, pastD z (a + 1) 3) else groupsM z n (pastD z (a + 1) 3)) else (true, a) := rfl
    rw [st] at h
    by_cases hc : at1 z a = ","
    · rw [if_pos hc] at h
      have lt := at1_lt hc len_comma
      obtain ⟨p1, p2, p3⟩ := past_le z (a + 1) 3 lt
      by_cases g : pastD z (a + 1) 3 < a + 4
      · rw [if_pos g] at h
        cases h
      · rw [if_neg g] at h
        obtain ⟨q1, q2, q3⟩ := groups_seg z n _ p p2 h
        exact ⟨by omega, q2, (one_seg hc tl_comma (.inl rfl)).trans ((past_seg z (a + 1) 3).trans q3)⟩
    · rw [if_neg hc] at h
      injection h with h1 h2
      subst h2
      exact ⟨Nat.le_refl _, ha, fun i c h1 h2 => by omega⟩
theorem past_pos {z : Str} {a m : Nat} (h : pastD z a m ≠ a) : ∃ c, z.cps.toList[a]? = some c ∧ 48 ≤ c ∧ c ≤ 57 := by
  have hd : 0 < dgRun m (z.cps.toList.drop a) := by
    unfold pastD at h
    omega
  cases e : z.cps.toList[a]? with
  | none =>
    have : z.cps.toList.drop a = [] := List.drop_eq_nil_of_le (List.getElem?_eq_none_iff.mp e)
    rw [this, dgRun_nil] at hd
    omega
  | some c =>
    refine ⟨c, rfl, dgRun_in m (z.cps.toList.drop a) 0 c hd ?_⟩
    rw [List.getElem?_drop]
    exact e
theorem whole_seg {z : Str} {a p : Nat} (ha : a ≤ z.length) (h : wholeM z a = (true, p)) : a < p ∧ p ≤ z.length ∧ Seg z a p ∧ ∃ c, z.cps.toList[a]? = some c ∧ 48 ≤ c ∧ c ≤ 57 := by
  obtain ⟨p1, p2, _⟩ := past_le z a z.length ha
  unfold wholeM at h
  by_cases g1 : pastD z a z.length = a
  · rw [if_pos g1] at h
    cases h
  rw [if_neg g1] at h
  obtain ⟨c, hc, c1, c2⟩ := past_pos g1
  have first : Seg z a (a + 1) := fun i d h1 h2 e => by
    obtain rfl : i = a := by omega
    rw [hc] at e
    injection e with e
    rw [← e]
    exact .inl ⟨c1, c2⟩
  by_cases g2 : (⟨#[chAt z a]⟩ : Str) = "0"
  · rw [if_pos g2] at h
    injection h with h1 h2
    subst h2
    exact ⟨by omega, by omega, first, c, hc, c1, c2⟩
  rw [if_neg g2] at h
  by_cases g3 : 3 < pastD z a z.length - a
  · rw [if_pos g3] at h
    injection h with h1 h2
    subst h2
    exact ⟨by omega, p2, past_seg z a z.length, c, hc, c1, c2⟩
  · rw [if_neg g3] at h
    obtain ⟨q1, q2, q3⟩ := groups_seg z _ _ p p2 h
    exact ⟨by omega, q2, (past_seg z a z.length).trans q3, c, hc, c1, c2⟩
theorem places_seg {z : Str} {a p : Nat} (ha : a ≤ z.length) (h : placesM z a = (true, p)) : a ≤ p ∧ p ≤ z.length ∧ Seg z a p := by
  unfold placesM at h
  by_cases g : at1 z a = "."
  · rw [if_pos g] at h
    have lt := at1_lt g len_dot
    obtain ⟨p1, p2, p3⟩ := past_le z (a + 1) 60 lt
    by_cases g2 : pastD z (a + 1) 60 = a + 1
    · rw [if_pos g2] at h
      cases h
    · rw [if_neg g2] at h
      injection h with h1 h2
      subst h2
      exact ⟨by omega, p2, (one_seg g tl_dot (.inr rfl)).trans (past_seg z (a + 1) 60)⟩
  · rw [if_neg g] at h
    injection h with h1 h2
    subst h2
    exact ⟨Nat.le_refl _, ha, fun i c h1 h2 => by omega⟩
def markQ (z : Str) (a : Nat) : Bool := decide (at1 z a = "-") || decide (at1 z a = "+")
def blanks (z : Str) : Nat := z.length - (Txt.lstripChars z " ").length
def wholeAt (z : Str) : Nat := if markQ z (blanks z) = true then blanks z + 1 else blanks z
theorem blanks_le (z : Str) : blanks z ≤ z.length := Nat.sub_le _ _
theorem mark_lt {z : Str} {a : Nat} (h : markQ z a = true) : a < z.length := by
  unfold markQ at h
  rw [Bool.or_eq_true, decide_eq_true_eq, decide_eq_true_eq] at h
  rcases h with h | h
  · exact at1_lt h (by decide +kernel)
  · exact at1_lt h (by decide +kernel)
theorem wholeAt_le (z : Str) : blanks z ≤ wholeAt z ∧ wholeAt z ≤ z.length := by
  have := blanks_le z
  unfold wholeAt
  by_cases h : markQ z (blanks z) = true
  · rw [if_pos h]
    have := mark_lt h
    omega
  · rw [if_neg h]
    omega
/-- true and the point's place, or false and the place of the error -/
def outM (z : Str) : Bool × Nat :=
  if (wholeM z (wholeAt z)).1 = true then (if (placesM z (wholeM z (wholeAt z)).2).1 = true then (if (placesM z (wholeM z (wholeAt z)).2).2 < z.length then (false, (placesM z (wholeM z (wholeAt z)).2).2) else (true, (wholeM z (wholeAt z)).2)) else (false, (placesM z (wholeM z (wholeAt z)).2).2)) else (false, (wholeM z (wholeAt z)).2)
def numM (z : Str) : Nat := digitsVal (((tl z).drop (wholeAt z)).filter isDg)
def figM (z : Str) : Int := if (⟨#[chAt z (blanks z)]⟩ : Str) = "-" then -(numM z : Int) else (numM z : Int)
/-- what is left of a good text is digits, commas and points -/
theorem good_seg {z : Str} {p e : Nat} (h1 : wholeM z (wholeAt z) = (true, p)) (h2 : placesM z p = (true, e)) (h3 : ¬ e < z.length) : wholeAt z < z.length ∧ p ≤ z.length ∧ e = z.length ∧ (∀ c ∈ (tl z).drop (wholeAt z), (48 ≤ c ∧ c ≤ 57) ∨ c = 44 ∨ c = 46) ∧ ((tl z).drop (wholeAt z)).filter isDg ≠ [] := by
  obtain ⟨a1, a2, a3, c, hc, c1, c2⟩ := whole_seg (wholeAt_le z).2 h1
  obtain ⟨b1, b2, b3⟩ := places_seg a2 h2
  have ez : e = z.length := by omega
  refine ⟨by omega, a2, ez, fun d hd => ?_, fun x => ?_⟩
  · obtain ⟨i, hi, ei⟩ := List.getElem_of_mem hd
    have e2 : ((tl z).drop (wholeAt z))[i]? = some d := by rw [List.getElem?_eq_getElem hi, ei]
    rw [List.getElem?_drop] at e2
    have lt := (List.getElem?_eq_some_iff.mp e2).1
    rw [← len_tl] at lt
    exact (a3.trans b3) _ d (by omega) (by omega) e2
  · have hm : c ∈ (tl z).drop (wholeAt z) := by
      have : ((tl z).drop (wholeAt z))[0]? = some c := by
        rw [List.getElem?_drop]
        exact hc
      exact List.mem_of_getElem? this
    have : c ∈ ((tl z).drop (wholeAt z)).filter isDg := List.mem_filter.mpr ⟨hm, isDg_t.mpr ⟨c1, c2⟩⟩
    rw [x] at this
    cases this
theorem struck {l : List Nat} (h : ∀ c ∈ l, (48 ≤ c ∧ c ≤ 57) ∨ c = 44 ∨ c = 46) : (l.filter (· != 44)).filter (· != 46) = l.filter isDg := by
  rw [List.filter_filter]
  refine List.filter_congr (fun c hc => ?_)
  have := h c hc
  by_cases g : 48 ≤ c ∧ c ≤ 57
  · rw [isDg_t.mpr g]
    have a : (c != 44) = true := by
      simp only [bne_iff_ne]
      omega
    have b : (c != 46) = true := by
      simp only [bne_iff_ne]
      omega
    rw [a, b]
    rfl
  · have i : isDg c = false := by
      cases x : isDg c with
      | false => rfl
      | true => exact (g (isDg_t.mp x)).elim
    rw [i]
    rcases this with h | h | h
    · exact (g h).elim
    · subst h
      decide
    · subst h
      decide
theorem dg_all (l : List Nat) : AllDigits (l.filter isDg) := fun c hc => isDg_t.mp (List.mem_filter.mp hc).2
theorem good_int {z : Str} (zl : z.length ≤ 600) (h : ∀ c ∈ (tl z).drop (wholeAt z), (48 ≤ c ∧ c ≤ 57) ∨ c = 44 ∨ c = 46) (ne : ((tl z).drop (wholeAt z)).filter isDg ≠ []) :
    (Txt.replace (cutS z (some (wholeAt z : Int)) (some (z.length : Int))) "," "").length ≤ 2000 ∧ (Txt.replace (Txt.replace (cutS z (some (wholeAt z : Int)) (some (z.length : Int))) "," "") "." "").length ≤ 640 ∧
      PySem.intText? (Txt.replace (Txt.replace (cutS z (some (wholeAt z : Int)) (some (z.length : Int))) "," "") "." "") = some ((numM z : Nat) : Int) := by
  have cm : ("," : Str) = ⟨#[44]⟩ := ext_tl (by rw [tl_comma])
  have dm : ("." : Str) = ⟨#[46]⟩ := ext_tl (by rw [tl_dot])
  have em : ("" : Str) = ⟨#[]⟩ := ext_tl (by rw [tl_empty])
  have tc : tl (cutS z (some (wholeAt z : Int)) (some (z.length : Int))) = (tl z).drop (wholeAt z) := by
    rw [tl_cut _ _ _ (by rw [len_tl]; exact Nat.le_refl _), List.take_of_length_le]
    rw [List.length_drop, len_tl]
    exact Nat.le_refl _
  have r1 : tl (Txt.replace (cutS z (some (wholeAt z : Int)) (some (z.length : Int))) "," "") = ((tl z).drop (wholeAt z)).filter (· != 44) := by
    rw [cm, em]
    refine (PyProof.Rows.replace_strikes _ 44).trans ?_
    rw [show (cutS z (some (wholeAt z : Int)) (some (z.length : Int))).cps.toList = _ from tc]
  have r2 : tl (Txt.replace (Txt.replace (cutS z (some (wholeAt z : Int)) (some (z.length : Int))) "," "") "." "") = ((tl z).drop (wholeAt z)).filter isDg := by
    rw [dm]
    rw [em] at r1 ⊢
    refine (PyProof.Rows.replace_strikes _ 46).trans ?_
    rw [show (Txt.replace (cutS z (some (wholeAt z : Int)) (some (z.length : Int))) "," ⟨#[]⟩).cps.toList = _ from r1, struck h]
  have l0 : ((tl z).drop (wholeAt z)).length ≤ 600 := by
    rw [List.length_drop, ← len_tl]
    omega
  have l2 : (Txt.replace (Txt.replace (cutS z (some (wholeAt z : Int)) (some (z.length : Int))) "," "") "." "").length ≤ 600 := by
    rw [len_tl, r2]
    exact Nat.le_trans (List.length_filter_le _ _) l0
  refine ⟨?_, by omega, ?_⟩
  · rw [len_tl, r1]
    have := List.length_filter_le (· != 44) ((tl z).drop (wholeAt z))
    omega
  · have := intText_digits (x := Txt.replace (Txt.replace (cutS z (some (wholeAt z : Int)) (some (z.length : Int))) "," "") "." "") (by rw [show (Txt.replace (Txt.replace (cutS z (some (wholeAt z : Int)) (some (z.length : Int))) "," "") "." "").cps.toList = _ from r2]; exact dg_all _) (by rw [show (Txt.replace (Txt.replace (cutS z (some (wholeAt z : Int)) (some (z.length : Int))) "," "") "." "").cps.toList = _ from r2]; exact ne) (by omega)
    rw [show (Txt.replace (Txt.replace (cutS z (some (wholeAt z : Int)) (some (z.length : Int))) "," "") "." "").cps.toList = _ from r2] at this
    exact this
end HT
namespace HT
open PySem PySem.Spec PyProof.Rows L2 CwR
section
variable {X : Cx} {a b : Expr} {ta tb : TE} {rest : List Stmt} {u : TS} {pos' p2 pos : Pos}
/-- x = a - b; ..: behind it a token is out -/
theorem pss_subT {i : Nat} {x : Str} (hN : X.N.Nodup) (hi : X.N[i]? = some x) (hx : Loc X.env.scope x) (ha : PE X a ta) (hb : PE X b tb) (h2 : PSsT X rest u)
    (hs : swapsWith (.BinOp a .Sub b p2) (some (.Name x pos')) pos.line X.env = pure false := by rfl) (hf : X.fn x = true ∨ X.env.scope.names.lookup x = some .local := by first | exact .inl rfl | exact .inr rfl | assumption) :
    PSs X (.Assign [.Name x pos'] (.BinOp a .Sub b p2) pos :: rest) (tSeq (tAsg (tOp (rI0 fun i j => .int (i - j)) ta tb) (gName i)) u) := by
  refine ⟨fun pins s σ H D I h => ?_⟩
  refine wpAny_execs_cons (wpAny_Assign_Name (wpAny_BinOp (thn (ha.run pins s σ H _ I h) fun v s1 ⟨y, H1, I1, r1, q1⟩ => thn (hb.run pins s1 σ H1 _ I1 q1) fun w s2 ⟨z, H2, I2, r2, q2⟩ => ?_)) hs)
  obtain ⟨m, n, e1, e2, q⟩ := q2
  subst e1
  subst e2
  obtain ⟨t1, rfl⟩ := r1
  obtain ⟨t2, rfl⟩ := r2
  refine PyProof.Rows.sub_int ?_
  have st := store_ok (M := model X.prog X.w) (A := X.A) (E := X.xe) (u := .int (m - n) s2.toks) (v := .int (m - n)) (Q := fun _ s' => Inv X pins (σ.set i (some (.int (m - n)))) H2 s') (I2.tok (s2.toks + 1)) hN hi hx ⟨_, rfl⟩ (fun s' I' => I') hf
  refine wpAny_mono (PySem.wpAny_toks st) (fun _ s3 z => ?_) fun _ _ z => z.2
  obtain ⟨hk, I3⟩ := z
  exact h2 pins s3 _ H2 D (Nat.le_trans (Nat.le_add_left 1 s2.toks) hk) I3 q
end
end HT
namespace HT
open PySem PySem.Spec PyProof.Rows L2 CwR
section
variable {X : Cx} {e : Expr} {es : List Expr} {te : TE} {t : TA} {pos' p pos : Pos} {T x : Str} {r : List V → Hp → VK → Prop}
theorem pst_set {i : Nat} {y : Str} (hN : X.N.Nodup) (hi : X.N[i]? = some y) (hx : Loc X.env.scope y) (he : PET X e te) (hs : swapsWith e (some (.Name y pos')) pos.line X.env = pure false := by rfl) (hf : X.fn y = true ∨ X.env.scope.names.lookup y = some .local := by first | exact .inl rfl | exact .inr rfl | assumption) :
    PST X (.Assign [.Name y pos'] e pos) (tAsg te (gName i)) := by
  intro pins s σ H D h0 I h
  refine wpAny_Assign_Name (thn (he pins s σ H _ h0 I h) fun v s1 ⟨z, H1, I1, r1, q1⟩ => ?_) hs
  exact store_ok I1 hN hi hx r1 (fun s2 I2 => ⟨_, H1, I2, q1⟩) hf
theorem pet_int (hc : CallR X (.type "int") r) (hg : Gl X "int") (hm : X.mg "int" = none) (ha : PAT X (e :: es) t)
    (he : starEach (e :: es) X.env = (false, eval e X.env) :: starEach es X.env := by rfl) (hpl : (backTo pos (starEach es X.env)).any (·.1) = false := by rfl) : PET X (.Call (.Name "int" p) (e :: es) [] pos) (tCB r t) := by
  intro pins s σ H Q h0 I h
  refine wpAny_Call_Name_kw (ld_blt I hg hm (show bootBuiltins "int" = some (.type "int") by decide +kernel) ?_ (by decide) (by decide))
  exact PyProof.Rows.callWith_type1 (thn (ha pos pins s σ H _ h0 I h) fun us s1 ⟨vs, H1, I1, r1, q1⟩ => hc pins s1 σ H1 vs us Q I1 r1 q1) he hpl
end
end HT
namespace HT
open PySem L2 CwR
theorem Th.kstr {K : PySem.W.Frag} {H : Hp} {x : V} {n : String} (t : Th H x n) : PySem.W.kitOne K (.type n) (.type "str") = some (n == "str") := by
  cases t <;> exact kit_ty (by decide +kernel)
theorem same_upd {H : Hp} {a : Addr} {o : HO} (n : H a = none) : Same H (upd H a o) := fun b u z => (upd_ne (ne_of_none z n)).trans z
def spRead (D : Addr) : Sp := fun vs H Q E => ∃ x : V, vs = [x] ∧ ((∃ n, Th H x n ∧ (n == "str") = false ∧ Err D E H 0) ∨ ∃ z : Str, x = .str z ∧ z.length ≤ 600 ∧
  ((outM z).1 = true → ∀ (q : Addr) (H' : Hp), H q = none → Same H H' → H' q = some (.tup [.int (figM z), .int (max 0 ((z.length : Int) - ((outM z).2 : Int) - 1))]) → Q (.ref q) H') ∧ ((outM z).1 = false → Err D E H ((outM z).2 : Int)))
structure ReadT (mg : Str → Option Value) : Prop where
  isi : mg "isinstance" = none
  str : mg "str" = none
  len : mg "len" = none
  int : mg "int" = none
  max : mg "max" = none
section
variable {P : Program} {w : World} {K : PySem.W.Frag} {mg : Str → Option Value} {base : Heap} {fW fL D fI : Addr} {dW dL dI : FuncData}
theorem ok_read_text {f : Addr} {fd : FuncData} (F : Fun K "read_text" "read_text" s_read_text f fd) (T : ReadT mg) (I : ItC P w K mg base D fI dI) (W : CalX P w K mg base "_past_whole" 4 ["text", "at"] (spWhole D) fW dW) (L : CalX P w K mg base "_past_places" 3 ["text", "at"] (spPlaces D) fL dL) : FnOk P w K mg base (L2.CX P w) 5 f fd ["text"] (spRead D) := by
  refine F.okX sc_read_text (fun vs H Q E h => ?_) (fun cdv A outer s H vs Q E hr h => ?_)
  · obtain ⟨x, rfl, _⟩ := h
    rfl
  · obtain ⟨x, rfl, h⟩ := h
    have nd := sc_read_text.nd
    refine ⟨_, pss_cons (ps_if (pt_not (pt_val (pe_callB call_isi (by rfl) T.isi (by decide +kernel) (pa_cons (pv 0) (pa_cons (pe_bltn (v := .ty "str") (by rfl) T.str (by decide +kernel) rfl) pa_nil))))) (pss_one (ps_raise rfl (takes_of rfl rfl rfl rfl) (pmk_it I hr (by decide) (by rfl) (pa_cons pe_int pa_nil)))) pss_nil)
      (pss_subT (i := 1) nd rfl (Or.inl rfl) (pe_callB call_len_str (by rfl) T.len PySem.boot_len (pa_cons (pv 0) pa_nil)) (pe_callB call_len_str (by rfl) T.len PySem.boot_len (pa_cons (pe_bm PySem.F.plainAttrs_str PySem.F.slot_str_lstrip PySem.F.type_str_lstrip mt_lstripChars (pv 0) (pa_cons pe_str pa_nil)) pa_nil))
      (psst_cons (PST.of (ps_set (i := 2) nd rfl (Or.inl rfl) (pv 1)))
      (psst_cons (PST.of (ps_if (pt_cmpR op_in_seq (pe_slice sl_str (pv 0) (po_some (pv 1)) (po_some (pe_op op_add (pv 1) pe_int))) (pe_tup (pa_cons pe_str (pa_cons pe_str pa_nil))) (by rfl)) (pss_one (ps_set (i := 2) nd rfl (Or.inl rfl) (pe_op op_add (pv 1) pe_int))) pss_nil))
      (psst_cons (PST.of (ps_set (i := 3) nd rfl (Or.inl rfl) (pcx W hr (by decide) (by rfl) (takes_of rfl rfl rfl rfl) (pa_cons (pv 0) (pa_cons (pv 2) pa_nil)))))
      (psst_cons (PST.of (ps_set (i := 4) nd rfl (Or.inl rfl) (pcx L hr (by decide) (by rfl) (takes_of rfl rfl rfl rfl) (pa_cons (pv 0) (pa_cons (pv 3) pa_nil)))))
      (psst_cons (PST.of (ps_if (pt_cmpR op_lt (pv 4) (pe_callB call_len_str (by rfl) T.len PySem.boot_len (pa_cons (pv 0) pa_nil)) (nomark _)) (pss_one (ps_raise rfl (takes_of rfl rfl rfl rfl) (pmk_it I hr (by decide) (by rfl) (pa_cons (pv 4) pa_nil)))) pss_nil))
      (psst_cons (pst_set (i := 5) nd rfl (Or.inl rfl) (pet_int call_int_str (by rfl) T.int (pat_cons (pet_replT (pet_replC (pe_slice sl_str (pv 0) (po_some (pv 2)) (po_some (pv 4))))) pat_nil)))
      (psst_cons (PST.of (ps_if (pt_cmpR op_eq (pe_ix ix_str (pv 0) (pv 1) (fun _ _ => rfl)) pe_str (nomark _)) (pss_one (ps_set (i := 5) nd rfl (Or.inl rfl) (pe_un un_neg (pv 5)))) pss_nil))
      (psst_one (PST.of (ps_ret (pe_tup (pa_cons (pv 5) (pa_cons (pe_callB (call_max2 rfl) (by rfl) T.max (by decide +kernel) (pa_cons pe_int (pa_cons (pe_op op_sub (pe_op op_sub (pv 4) (pv 3)) pe_int) pa_nil))) pa_nil)))))))))))))), ?_⟩
    rcases h with ⟨n, t, hn, er⟩ | ⟨z, rfl, zl, ok, er⟩
    · walk_at "rd"
      refine ⟨_, _, _, _, _, rfl, .ty "str", t.ty, t.kstr, ?_⟩
      walk_at "rd"
      refine ite2 (fun _ => ?_) (fun x => absurd (by rw [hn]; rfl) x)
      walk_at "rd"
      exact er.go
    have zs : z.length ≤ sizeLine := Nat.le_trans zl (by decide)
    walk_at "rd"
    refine ⟨_, _, _, _, _, rfl, .ty "str", .base (.str _), kit_ty (r := true) (by decide +kernel), ?_⟩
    walk_at "rd"
    refine ⟨zs, ?_⟩
    walk_at "rd"
    have ll : (Txt.lstripChars z " ").length ≤ z.length := PyProof.Rows.len_lstripChars z " "
    have eb : (z.length : Int) - ((Txt.lstripChars z " ").length : Int) = (blanks z : Int) := by
      unfold blanks
      omega
    refine ⟨rfl, ?_⟩
    walk_at "rd"
    refine ⟨zs, ?_⟩
    walk_at "rd"
    refine ⟨Nat.le_trans ll zs, ?_⟩
    walk_at "rd"
    dsimp only
    rw [eb]
    refine ⟨zs, ?_⟩
    walk_at "rd"
    refine ⟨by show 2 ≤ sizeLine; decide, fun tq tn => ?_⟩
    have tf : (upd H tq (.tup [.str "-", .str "+"])) tq = some (.tup [.str "-", .str "+"]) := upd_same ..
    refine ⟨tq, _, rfl, .inr (SqT.of tf), rfl, rfl, ?_⟩
    walk_at "rd"
    have mq : markQ z (blanks z) = inV (V.str (at1 z (blanks z))) [V.str "-", V.str "+"] := by
      have f : ∀ t r : Str, eqV (V.str r) (V.str t) = decide (t = r) := fun t r => by
        show (r == t) = decide (t = r)
        by_cases g : t = r
        · rw [g, decide_eq_true rfl, beq_self_eq_true]
        · rw [decide_eq_false g]
          exact beq_eq_false_iff_ne.mpr (fun x => g x.symm)
      unfold markQ inV
      rw [List.any_cons, List.any_cons, List.any_nil, f, f, Bool.or_false]
    have sm : Same H (upd H tq (.tup [.str "-", .str "+"])) := fun b o hb => by
      rw [upd_ne (fun x => by rw [x, tn] at hb; cases hb)]
      exact hb
    obtain ⟨wl1, wl2⟩ := wholeAt_le z
    refine ite2 (fun h => ?A) (fun h => ?B)
    case' A =>
      have hw : blanks z + 1 = wholeAt z := by
        unfold wholeAt
        rw [if_pos (mq.trans h)]
    case' B =>
      have hw : blanks z = wholeAt z := by
        unfold wholeAt
        rw [if_neg (fun x => h (mq.symm.trans x))]
    all_goals
      walk_at "rd"
      refine ⟨z, wholeAt z, (by first | (rw [← hw]; rfl) | rw [← hw]), wl2, by omega, fun hp => ?_, fun hp => ?_⟩
      · obtain ⟨p, ep⟩ : ∃ p, wholeM z (wholeAt z) = (true, p) := ⟨(wholeM z (wholeAt z)).2, by rw [← hp]⟩
        have o1 : outM z = if (placesM z p).1 = true then (if (placesM z p).2 < z.length then (false, (placesM z p).2) else (true, p)) else (false, (placesM z p).2) := by
          unfold outM
          rw [ep]
          rfl
        obtain ⟨_, pz, _, _⟩ := whole_seg wl2 ep
        rw [ep]
        walk_at "rd"
        refine ⟨z, p, rfl, pz, by omega, fun hq => ?_, fun hq => ?_⟩
        · obtain ⟨e, ee⟩ : ∃ e, placesM z p = (true, e) := ⟨(placesM z p).2, by rw [← hq]⟩
          rw [ee] at o1 ⊢
          rw [if_pos rfl] at o1
          walk_at "rd"
          refine ⟨zs, ?_⟩
          walk_at "rd"
          refine ite2 (fun h => ?_) (fun h => ?_)
          · have lt : e < z.length := by
              have := of_decide_eq_true h
              omega
            rw [if_pos lt] at o1
            rw [o1] at er
            walk_at "rd"
            exact ((er rfl).same sm).go
          have ge : ¬ e < z.length := fun x => h (decide_eq_true (by omega))
          rw [if_neg ge] at o1
          rw [o1] at ok
          obtain ⟨w1, _, ez, sg, ne⟩ := good_seg ep ee ge
          obtain ⟨r1, r2, dig⟩ := good_int zl sg ne
          subst ez
          rw [← hw] at r1 r2 dig
          walk_at "rd"
          refine ⟨zs, ?_⟩
          walk_at "rd"
          refine ⟨by rw [show (("" : Str)).length = 0 from rfl]; exact Nat.le_trans (cutS_len_le z _ _) (Nat.le_trans zl (by decide)), ?_⟩
          refine ⟨_, rfl, by rw [show (("" : Str)).length = 0 from rfl]; exact Nat.le_trans r1 (by decide), ?_⟩
          walk_at "rd"
          refine ⟨_, _, rfl, dig, r2, ?_⟩
          walk_at "rd"
          refine ⟨z, (blanks z : Int), chAt z (blanks z), rfl, rfl, zs, atI_nat (chAt_get (by omega)), ?_⟩
          walk_at "rd"
          refine ⟨rfl, ?_⟩
          walk_at "rd"
          have fin : ∀ (q' : Addr), (upd H tq (.tup [.str "-", .str "+"])) q' = none → ∀ r : Int, r = figM z → Q (.ref q') (upd (upd H tq (.tup [.str "-", .str "+"])) q' (.tup [.int r, .int (if (z.length : Int) - p - 1 > 0 then (z.length : Int) - p - 1 else 0)])) := fun q' qn r hr => by
            refine ok rfl q' _ ?_ (sm.trans (same_upd qn)) ?_
            · cases hh : H q' with
              | none => rfl
              | some u =>
                have := sm _ _ hh
                rw [qn] at this
                cases this
            · rw [upd_same, hr]
              have e1 : (if (z.length : Int) - p - 1 > 0 then (z.length : Int) - p - 1 else 0) = max 0 ((z.length : Int) - p - 1) := by split <;> omega
              rw [e1]
          refine ite2 (fun h => ?_) (fun h => ?_)
          · walk_at "rd"
            refine ⟨0, _, rfl, ?_⟩
            walk_at "rd"
            refine ⟨by show 2 ≤ sizeLine; decide, fun q' qn => ?_⟩
            exact fin q' qn _ (by unfold figM; rw [if_pos (str_t h)])
          · walk_at "rd"
            refine ⟨0, _, rfl, ?_⟩
            walk_at "rd"
            refine ⟨by show 2 ≤ sizeLine; decide, fun q' qn => ?_⟩
            exact fin q' qn _ (by unfold figM; rw [if_neg (str_f h)])
        · have e : outM z = (false, (placesM z p).2) := by rw [o1, if_neg (by rw [hq]; decide)]
          rw [e] at er
          exact (er rfl).same sm
      · have e : outM z = (false, (wholeM z (wholeAt z)).2) := by
          unfold outM
          rw [if_neg (by rw [hp]; decide)]
        rw [e] at er
        exact (er rfl).same sm
end
end HT
namespace HT
open PySem L2 PySem.NumText TL
/-- no digit ahead -/
def NoDg (l : List Nat) : Prop := ∀ c, l.head? = some c → ¬ (48 ≤ c ∧ c ≤ 57)
theorem dgRun_all : ∀ (a b : List Nat) (m : Nat), AllDigits a → a.length ≤ m → (NoDg b ∨ m = a.length) → dgRun m (a ++ b) = a.length
  | [], b, 0, _, _, _ => dgRun_zero _
  | [], [], m + 1, _, _, _ => rfl
  | [], c :: b, m + 1, _, _, h => by
    have h1 : ¬ c ∈ digS.cps.toList := fun z => by
      rcases h with g | g
      · exact g c rfl (mem_digS.mp z)
      · cases g
    show (if c ∈ digS.cps.toList then dgRun m b + 1 else 0) = 0
    rw [if_neg h1]
  | c :: a, b, m, hd, hl, h => by
    rw [List.length_cons] at hl
    obtain ⟨k, rfl⟩ : ∃ k, m = k + 1 := ⟨m - 1, by omega⟩
    show (if c ∈ digS.cps.toList then dgRun k (a ++ b) + 1 else 0) = _
    rw [if_pos (mem_digS.mpr hd.head), dgRun_all a b k hd.tail (by omega) (h.imp id (fun g => by rw [List.length_cons] at g; omega)), List.length_cons]
/-- the point and the digits behind it -/
def fracL : List Nat → List Nat
  | [] => []
  | c :: l => 46 :: c :: l
theorem fracL_len (D : List Nat) : (fracL D).length = if D.length = 0 then 0 else D.length + 1 := by
  cases D with
  | nil => rfl
  | cons c l => rfl
def grpL (gs : List (List Nat)) : List Nat := gs.flatMap (44 :: ·)
theorem grpL_cons (g : List Nat) (gs : List (List Nat)) : grpL (g :: gs) = 44 :: (g ++ grpL gs) := by
  unfold grpL
  rw [List.flatMap_cons]
  rfl
theorem grpL_len : ∀ gs : List (List Nat), (∀ g ∈ gs, g.length = 3) → (grpL gs).length = 4 * gs.length
  | [], _ => rfl
  | g :: gs, h => by
    have := h g (List.mem_cons_self ..)
    rw [grpL_cons, List.length_cons, List.length_append, grpL_len gs (fun x hx => h x (List.mem_cons_of_mem _ hx)), List.length_cons]
    omega
theorem grpL_drop : ∀ (gs : List (List Nat)) (j : Nat), (∀ g ∈ gs, g.length = 3) → j ≤ gs.length → ∀ R : List Nat, (grpL gs ++ R).drop (4 * j) = grpL (gs.drop j) ++ R
  | gs, 0, _, _, R => rfl
  | [], j + 1, _, h, R => absurd h (by simp)
  | g :: gs, j + 1, h, hj, R => by
    have h3 := h g (List.mem_cons_self ..)
    have ih := grpL_drop gs j (fun x hx => h x (List.mem_cons_of_mem _ hx)) (by rw [List.length_cons] at hj; omega) R
    rw [List.drop_succ_cons, ← ih, grpL_cons]
    obtain ⟨a, b, c, rfl⟩ : ∃ a b c, g = [a, b, c] := by
      match g, h3 with
      | [a, b, c], _ => exact ⟨a, b, c, rfl⟩
    rw [show 4 * (j + 1) = 4 * j + 1 + 1 + 1 + 1 by omega]
    rfl
structure Shape (z : Str) (k : Nat) (mk W : List Nat) (gs : List (List Nat)) (D : List Nat) : Prop where
  eq : tl z = List.replicate k 32 ++ (mk ++ (W ++ (grpL gs ++ fracL D)))
  sg : mk = [] ∨ mk = [45] ∨ mk = [43]
  wd : AllDigits W
  wn : W ≠ []
  lead : W = [48] ∧ gs = [] ∨ W.head? ≠ some 48 ∧ (W.length ≤ 3 ∨ gs = [])
  gd : ∀ g ∈ gs, AllDigits g ∧ g.length = 3
  dd : AllDigits D
  dl : D.length ≤ 60
  len : z.length ≤ 2000
theorem noDg_frac (D : List Nat) : NoDg (fracL D) := by
  intro c hc
  cases D with
  | nil => cases hc
  | cons d l =>
    injection hc with hc
    omega
theorem noDg_rest (gs : List (List Nat)) (D : List Nat) : NoDg (grpL gs ++ fracL D) := by
  cases gs with
  | nil => exact noDg_frac D
  | cons g gs =>
    intro c hc
    rw [grpL_cons] at hc
    injection hc with hc
    omega
theorem filter_comma : ∀ gs : List (List Nat), (∀ g ∈ gs, AllDigits g) → (grpL gs).filter (· != 44) = gs.flatten
  | [], _ => rfl
  | g :: gs, h => by
    rw [grpL_cons, List.filter_cons_of_neg (by decide), List.filter_append, filter_comma gs (fun x hx => h x (List.mem_cons_of_mem _ hx)), List.flatten_cons]
    congr 1
    refine List.filter_eq_self.mpr (fun c hc => ?_)
    have := h g (List.mem_cons_self ..) c hc
    simp only [bne_iff_ne]
    omega
theorem AllDg.append {a b : List Nat} (ha : AllDigits a) (hb : AllDigits b) : AllDigits (a ++ b) := fun c hc => (List.mem_append.mp hc).elim (ha c) (hb c)
theorem AllDg.flatten {gs : List (List Nat)} (h : ∀ g ∈ gs, AllDigits g) : AllDigits gs.flatten := fun c hc => by
  obtain ⟨g, hg, hc⟩ := List.mem_flatten.mp hc
  exact h g hg c hc
theorem blanks_of {z : Str} {k : Nat} {r : List Nat} (e : tl z = List.replicate k 32 ++ r) (h : r.head? ≠ some 32) : blanks z = k := by
  have hl : z.length = k + r.length := by rw [len_tl, e, List.length_append, List.length_replicate]
  obtain ⟨f0, f1, f2⟩ := PyProof.Rows.lo_facts ((" " : Str).cps.contains) z
  have el : Txt.lstripChars z " " = PySem.Builtin.Str.strSub z (stripLo ((" " : Str).cps.contains) true z) z.length := by
    unfold Txt.lstripChars
    rw [PyProof.Rows.stripBy_eq]
    rfl
  have goes : ∀ c : Nat, ((" " : Str).cps.contains c) = decide (c = 32) := fun c => by
    rw [show (" " : Str).cps = #[32] by decide +kernel]
    simp
  generalize stripLo ((" " : Str).cps.contains) true z = lo at f0 f1 f2 el
  have ln : (Txt.lstripChars z " ").length = z.length - lo := by
    rw [el]
    show (z.cps.extract lo z.length).size = _
    rw [Array.size_extract]
    show min z.length z.cps.size - lo = _
    rw [show z.cps.size = z.length from rfl, Nat.min_self]
  have get : ∀ i, z.cps.getD i 0 = ((tl z)[i]?).getD 0 := fun i => by
    show z.cps.getD i 0 = (z.cps.toList[i]?).getD 0
    rw [Array.getElem?_toList]
    simp [Array.getD_eq_getD_getElem?]
  have lk : lo = k := by
    rcases Nat.lt_trichotomy lo k with g | g | g
    · rcases f2 with f2 | f2
      · omega
      · rw [get, goes, e, List.getElem?_append_left (by rw [List.length_replicate]; exact g), List.getElem?_replicate_of_lt g] at f2
        exact absurd f2 (by decide)
    · exact g
    · have f := f1 k g
      rw [get, goes, e, List.getElem?_append_right (by rw [List.length_replicate]; exact Nat.le_refl _), List.length_replicate, Nat.sub_self] at f
      cases r with
      | nil => simp at f
      | cons c r =>
        have f' : decide (c = 32) = true := f
        exact absurd (congrArg some (of_decide_eq_true f')) h
  unfold blanks
  rw [ln]
  omega
end HT
namespace HT
open PySem L2 PySem.NumText TL
theorem numL_head : ∀ n : Nat, 1 ≤ n → (numL n).head? ≠ some 48 := by
  intro n
  induction n using Nat.strongRecOn with
  | _ n ih =>
    intro h
    by_cases g : n < 10
    · rw [numL_lt g]
      intro x
      injection x with x
      omega
    · rw [numL_step (by omega)]
      have := ih (n / 10) (by omega) (by omega)
      cases e : numL (n / 10) with
      | nil => exact absurd e (numL_ne _)
      | cons c l =>
        rw [e] at this
        exact this
theorem val_pad : ∀ (k : Nat) (l : List Nat), digitsVal (List.replicate k 48 ++ l) = digitsVal l
  | 0, l => rfl
  | k + 1, l => by
    rw [List.replicate_succ, List.cons_append, digitsVal_zero, val_pad k l]
def absN (fig : Int) : Nat := fig.natAbs
theorem absN_eq (fig : Int) : (if fig < 0 then -fig else fig) = ((absN fig : Nat) : Int) := by
  unfold absN
  split <;> omega
theorem dig_list (fig : Int) (pl : Nat) : tl (digM fig pl) = List.replicate (pl + 1 - (numL (absN fig)).length) 48 ++ numL (absN fig) := by
  unfold digM
  rw [absN_eq]
  have e : tl (Str.ofString (toString ((absN fig : Nat) : Int))) = numL (absN fig) := tl_num (absN fig)
  generalize Str.ofString (toString ((absN fig : Nat) : Int)) = x at e
  have hl : x.length = (numL (absN fig)).length := by rw [len_tl, e]
  unfold Txt.zfill
  by_cases h : (pl : Int) + 1 ≤ (x.length : Int)
  · rw [if_pos h, e, show pl + 1 - (numL (absN fig)).length = 0 by omega]
    rfl
  · rw [if_neg h]
    have hd : ∀ c, x.cps[0]? = some c → 48 ≤ c := fun c hc => by
      rw [← Array.getElem?_toList] at hc
      have : c ∈ tl x := List.mem_of_getElem? hc
      rw [e] at this
      exact (numL_digits _ c this).1
    have e2 : PySem.zfilled x (((pl : Int) + 1).toNat - x.length) = PySem.Builtin.Str.padded x (((pl : Int) + 1).toNat - x.length) 0 48 := by
      unfold PySem.zfilled
      split
      · rename_i h1
        have := hd _ h1
        omega
      · rename_i h1
        have := hd _ h1
        omega
      · rfl
    rw [e2]
    refine (PyProof.Rows.padded_list _ _ _ _).trans ?_
    rw [show x.cps.toList = numL (absN fig) from e, List.replicate_zero, List.append_nil, hl]
    congr 2
theorem tl_pre (z : Str) {i : Int} {n : Nat} (hi : i = (n : Int)) (h : n ≤ (tl z).length) : tl (cutS z none (some i)) = (tl z).take n := by
  subst hi
  have hz : z.length = (tl z).length := len_tl z
  show ((tl z).drop (HT.sIx z.length 0 none)).take (HT.sIx z.length z.length (some (n : Int)) - HT.sIx z.length 0 none) = _
  rw [HT.sIx_none, HT.sIx_nat, hz, Nat.min_eq_left h]
  rfl
theorem tl_post (z : Str) {i : Int} {n : Nat} (hi : i = (n : Int)) (h : n ≤ (tl z).length) : tl (cutS z (some i) none) = (tl z).drop n := by
  subst hi
  have hz : z.length = (tl z).length := len_tl z
  show ((tl z).drop (HT.sIx z.length 0 (some (n : Int)))).take (HT.sIx z.length z.length none - HT.sIx z.length 0 (some (n : Int))) = _
  rw [HT.sIx_none, HT.sIx_nat, hz, Nat.min_eq_left h, List.take_of_length_le]
  rw [List.length_drop]
  exact Nat.le_refl _
theorem tl_rjust (x : Str) {i : Int} (h : 0 ≤ i) : tl (Txt.rjust x i) = List.replicate (i.toNat - x.length) 32 ++ tl x := by
  unfold Txt.rjust
  by_cases g : i ≤ (x.length : Int)
  · rw [if_pos g, show i.toNat - x.length = 0 by omega]
    rfl
  · rw [if_neg g]
    refine (PyProof.Rows.padded_list _ _ _ _).trans ?_
    rw [List.replicate_zero, List.append_nil]
theorem tl_join : ∀ (ps : List Str) (x : Str), tl (Str.join "," (x :: ps)) = tl x ++ grpL (ps.map tl)
  | [], x => by
    show tl x = tl x ++ []
    rw [List.append_nil]
  | y :: ps, x => by
    show tl (x ++ ("," : Str) ++ Str.join "," (y :: ps)) = _
    rw [tl_append, tl_append, tl_comma, tl_join ps y, List.map_cons, grpL_cons, List.append_assoc]
    rfl
def chunks (l : List Nat) (k : Nat) : List (List Nat) := (List.range k).map fun j => (l.drop (3 * j)).take 3
theorem chunks_flat : ∀ (k : Nat) (l : List Nat), 3 * k ≤ l.length → (chunks l k).flatten = l.take (3 * k)
  | 0, l, _ => rfl
  | k + 1, l, h => by
    have ih := chunks_flat k l (by omega)
    unfold chunks at ih ⊢
    rw [List.range_succ, List.map_append, List.flatten_append, ih]
    show l.take (3 * k) ++ ((l.drop (3 * k)).take 3 ++ []) = _
    rw [List.append_nil, show 3 * (k + 1) = 3 * k + 3 by omega, List.take_add]
theorem chunk_mem {l : List Nat} {k : Nat} (h : 3 * k ≤ l.length) (ad : AllDigits l) : ∀ g ∈ chunks l k, AllDigits g ∧ g.length = 3 := fun g hg => by
  obtain ⟨j, hj, rfl⟩ := List.mem_map.mp hg
  have := List.mem_range.mp hj
  refine ⟨fun c hc => ad c (List.mem_of_mem_drop (List.mem_of_mem_take hc)), ?_⟩
  rw [List.length_take, List.length_drop]
  omega
theorem tl_group {d : Str} (h : 1 ≤ d.length) : tl (groupM d) = (tl d).take (firstG d.length) ++ grpL (chunks ((tl d).drop (firstG d.length)) (moreG d.length)) := by
  have hz : d.length = (tl d).length := len_tl d
  have hf : firstG d.length ≤ d.length := by
    unfold firstG
    omega
  have hk : firstG d.length + 3 * moreG d.length = d.length := by
    unfold moreG firstG
    omega
  show tl (PySem.Builtin.Str.glued "," (partsG d (moreG d.length))) = _
  rw [StrLaws.glued_eq_join]
  unfold partsG
  rw [tl_join, tl_pre d rfl (by omega), List.map_map]
  congr 2
  unfold chunks
  refine List.map_congr_left (fun j hj => ?_)
  have hj' := List.mem_range.mp hj
  show tl (cutS d (some ((firstG d.length : Int) + (j : Int) * 3)) (some ((firstG d.length : Int) + (j : Int) * 3 + 3))) = _
  rw [show (firstG d.length : Int) + (j : Int) * 3 = ((firstG d.length + 3 * j : Nat) : Int) by omega, show ((firstG d.length + 3 * j : Nat) : Int) + 3 = ((firstG d.length + 3 * j + 3 : Nat) : Int) by omega, tl_cut d _ _ (by omega), List.drop_drop]
  congr 1
  omega
theorem tl_mark (fig : Int) (sg : Bool) : tl (markM fig sg) = if fig < 0 then [45] else if 0 < fig ∧ sg = true then [43] else [] := by
  unfold markM
  split
  · exact tl_minus
  · split
    · exact tl_plus
    · exact tl_empty
/-- what a written text is -/
structure TextOk (z : Str) (fig : Int) (pl k : Nat) (mk W : List Nat) (gs : List (List Nat)) (D : List Nat) : Prop where
  sh : Shape z k mk W gs D
  dl : D.length = pl
  val : digitsVal (W ++ gs.flatten ++ D) = absN fig
  neg : mk = [45] ↔ fig < 0
  nil : fig = 0 → mk = [] ∧ W = [48]
theorem text_ok {fig : Int} {pl : Nat} {sg gr : Bool} {wd : Int} (h0 : -10 ^ 520 < fig) (h1 : fig < 10 ^ 520) (hp : pl ≤ 60) (w0 : 0 ≤ wd) (w1 : wd ≤ 200) : ∃ (k : Nat) (mk W : List Nat) (gs : List (List Nat)) (D : List Nat), TextOk (textM fig pl sg gr wd) fig pl k mk W gs D ∧ k ≤ 200 ∧ (wd = 0 → k = 0) ∧ (gr = false → gs = []) ∧ (textM fig pl sg gr wd).length ≤ 1200 ∧ (sg = false → mk ≠ [43]) := by
  obtain ⟨d1, d2⟩ := dig_ok h0 h1 hp
  have dl := dig_list fig pl
  obtain ⟨d, hd⟩ : ∃ d, d = digM fig pl := ⟨_, rfl⟩
  have et : textM fig pl sg gr wd = Txt.rjust (markM fig sg ++ (if 0 < pl then (if gr = true then groupM (cutS d none (some ((d.length : Int) - (pl : Int)))) else cutS d none (some ((d.length : Int) - (pl : Int)))) ++ ("." : Str) ++ cutS d (some ((d.length : Int) - (pl : Int))) none else (if gr = true then groupM (cutS d none (some ((d.length : Int) - (pl : Int)))) else cutS d none (some ((d.length : Int) - (pl : Int)))))) wd := by
    rw [hd]
    rfl
  rw [← hd] at d1 d2 dl
  have ad : AllDigits (tl d) := by
    rw [dl]
    refine AllDg.append (fun c hc => ?_) (numL_digits _)
    rw [(List.mem_replicate.mp hc).2]
    decide
  have dn : d.length = (tl d).length := len_tl d
  obtain ⟨q, hq⟩ : ∃ q : Nat, q = d.length - pl := ⟨_, rfl⟩
  have eq : (d.length : Int) - (pl : Int) = (q : Int) := by omega
  rw [eq] at et
  have t1 : tl (cutS d none (some (q : Int))) = (tl d).take q := tl_pre d rfl (by omega)
  have t2 : tl (cutS d (some (q : Int)) none) = (tl d).drop q := tl_post d rfl (by omega)
  obtain ⟨a, ha⟩ : ∃ a, a = cutS d none (some (q : Int)) := ⟨_, rfl⟩
  obtain ⟨b, hb⟩ : ∃ b, b = cutS d (some (q : Int)) none := ⟨_, rfl⟩
  rw [← ha] at t1
  rw [← hb] at t2
  rw [← ha, ← hb] at et
  have al : a.length = q := by rw [len_tl, t1, List.length_take]; omega
  have bl : (tl b).length = pl := by rw [t2, List.length_drop]; omega
  have aa : AllDigits (tl a) := by rw [t1]; exact fun c hc => ad c (List.mem_of_mem_take hc)
  have ab : AllDigits (tl b) := by rw [t2]; exact fun c hc => ad c (List.mem_of_mem_drop hc)
  have cat : tl a ++ tl b = tl d := by rw [t1, t2, List.take_append_drop]
  have val : digitsVal (tl a ++ tl b) = absN fig := by rw [cat, dl, val_pad, numL_val]
  have hq1 : 1 ≤ q := by omega
  have la : (tl a).length = q := by rw [← len_tl, al]
  -- the first digit
  have lead : tl a = [48] ∨ (tl a).head? ≠ some 48 := by
    by_cases g : d.length = pl + 1
    · have : (tl a).length = 1 := by omega
      cases e : tl a with
      | nil => rw [e] at this; cases this
      | cons c l =>
        rw [e] at this
        have : l = [] := by
          cases l with
          | nil => rfl
          | cons x y => simp at this
        rw [this]
        by_cases c48 : c = 48
        · exact .inl (by rw [c48])
        · exact .inr (fun x => c48 (by injection x))
    · right
      have e0 : pl + 1 - (numL (absN fig)).length = 0 := by
        rw [dn, dl, List.length_append, List.length_replicate] at g d1
        omega
      rw [e0] at dl
      have dl' : tl d = numL (absN fig) := dl
      have n1 : 1 ≤ absN fig := by
        rcases Nat.eq_zero_or_pos (absN fig) with z | z
        · rw [z, numL_lt (by decide)] at dl'
          rw [dn, dl'] at g d1
          simp at g d1
          omega
        · exact z
      have hh := numL_head _ n1
      rw [t1, dl']
      cases e : numL (absN fig) with
      | nil => exact absurd e (numL_ne _)
      | cons c l =>
        rw [e] at hh
        obtain ⟨q', rfl⟩ : ∃ q', q = q' + 1 := ⟨q - 1, by omega⟩
        rw [List.take_succ_cons]
        exact hh
  have zero : fig = 0 → tl a = [48] := fun z => by
    have n0 : absN fig = 0 := by rw [z]; rfl
    rw [n0, numL_lt (by decide)] at dl
    have dln := congrArg List.length dl
    rw [List.length_append, List.length_replicate] at dln
    have : d.length = pl + 1 := by
      rw [dn, dln]
      show pl + 1 - 1 + 1 = _
      omega
    have q1 : q = 1 := by omega
    rw [t1, q1, dl]
    show ((List.replicate (pl + 1 - 1) 48) ++ [48]).take 1 = _
    cases pl with
    | zero => rfl
    | succ n => rfl
  have mk3 : tl (markM fig sg) = [] ∨ tl (markM fig sg) = [45] ∨ tl (markM fig sg) = [43] := by
    rw [tl_mark]
    split
    · exact .inr (.inl rfl)
    · split
      · exact .inr (.inr rfl)
      · exact .inl rfl
  have neg : tl (markM fig sg) = [45] ↔ fig < 0 := by
    rw [tl_mark]
    split
    · rename_i h
      exact ⟨fun _ => h, fun _ => rfl⟩
    · rename_i h
      refine ⟨fun x => ?_, fun x => (h x).elim⟩
      split at x
      · injection x with x
        omega
      · cases x
  have nil : fig = 0 → tl (markM fig sg) = [] := fun z => by
    rw [tl_mark, z]
    rfl
  have np : sg = false → tl (markM fig sg) ≠ [43] := fun z => by
    rw [tl_mark, z]
    split
    · decide
    · split
      · rename_i h
        exact absurd h.2 (by decide)
      · decide
  have fr : ∀ t : Str, tl (if 0 < pl then t ++ ("." : Str) ++ b else t) = tl t ++ fracL (tl b) := fun t => by
    by_cases g : 0 < pl
    · rw [if_pos g, tl_append, tl_append, tl_dot, List.append_assoc]
      cases e : tl b with
      | nil => rw [e] at bl; simp at bl; omega
      | cons c l => rfl
    · rw [if_neg g]
      cases e : tl b with
      | nil => exact (List.append_nil _).symm
      | cons c l => rw [e] at bl; simp at bl; omega
  have ml : (tl (markM fig sg)).length ≤ 1 := by
    rcases mk3 with h | h | h <;> rw [h] <;> decide
  have fl : (fracL (tl b)).length ≤ 61 := by
    rw [fracL_len, bl]
    split <;> omega
  obtain ⟨k, hk⟩ : ∃ k, k = wd.toNat - (markM fig sg ++ (if 0 < pl then (if gr = true then groupM a else a) ++ ("." : Str) ++ b else (if gr = true then groupM a else a))).length := ⟨_, rfl⟩
  have tz : tl (textM fig pl sg gr wd) = List.replicate k 32 ++ (tl (markM fig sg) ++ (tl (if gr = true then groupM a else a) ++ fracL (tl b))) := by
    rw [et, tl_rjust _ w0, ← hk, tl_append, fr]
  have kl : k ≤ 200 := by omega
  have k0 : wd = 0 → k = 0 := fun z => by
    rw [hk, z]
    show 0 - _ = 0
    exact Nat.zero_sub _
  cases gr with
  | false =>
    rw [if_neg (by decide)] at tz
    have zl : (textM fig pl sg false wd).length ≤ 1200 := by
      rw [len_tl, tz, List.length_append, List.length_replicate, List.length_append, List.length_append]
      omega
    refine ⟨k, tl (markM fig sg), tl a, [], tl b, ⟨⟨?_, mk3, aa, ?_, ?_, fun _ h => (by cases h), ab, by omega, by omega⟩, bl, ?_, neg, fun z => ⟨nil z, zero z⟩⟩, kl, k0, fun _ => rfl, zl, np⟩
    · rw [tz]
      rfl
    · intro x
      rw [x] at la
      simp at la
      omega
    · rcases lead with h | h
      · exact .inl ⟨h, rfl⟩
      · exact .inr ⟨h, .inr rfl⟩
    · rw [List.flatten_nil, List.append_nil]
      exact val
  | true =>
    rw [if_pos rfl, tl_group (by omega), List.append_assoc] at tz
    have hf : firstG a.length ≤ a.length := by
      unfold firstG
      omega
    have hf1 : 1 ≤ firstG a.length ∧ firstG a.length ≤ 3 := by
      unfold firstG
      omega
    have hm : firstG a.length + 3 * moreG a.length = a.length := by
      unfold moreG firstG
      omega
    have dlen : ((tl a).drop (firstG a.length)).length = 3 * moreG a.length := by
      rw [List.length_drop]
      omega
    have ad2 : AllDigits ((tl a).drop (firstG a.length)) := fun c hc => aa c (List.mem_of_mem_drop hc)
    have cm := chunk_mem (k := moreG a.length) (Nat.le_of_eq dlen.symm) ad2
    have cl : (chunks ((tl a).drop (firstG a.length)) (moreG a.length)).length = moreG a.length := by
      unfold chunks
      rw [List.length_map, List.length_range]
    have gl := grpL_len (chunks ((tl a).drop (firstG a.length)) (moreG a.length)) (fun g hg => (cm g hg).2)
    have fl2 : ((tl a).take (firstG a.length)).length = firstG a.length := by
      rw [List.length_take]
      omega
    have zl : (textM fig pl sg true wd).length ≤ 1200 := by
      rw [len_tl, tz, List.length_append, List.length_replicate, List.length_append, List.length_append, List.length_append, gl, cl, fl2]
      omega
    have hw : ((tl a).take (firstG a.length)).head? = (tl a).head? := by
      cases e : tl a with
      | nil => rfl
      | cons c l =>
        obtain ⟨f', hf'⟩ : ∃ f', firstG a.length = f' + 1 := ⟨firstG a.length - 1, by omega⟩
        rw [hf']
        rfl
    have tak : tl a = [48] → (tl a).take (firstG a.length) = [48] := fun z => by
      have : firstG a.length = 1 := by
        have : (tl a).length = 1 := by rw [z]; rfl
        omega
      rw [this, z]
      rfl
    refine ⟨k, tl (markM fig sg), (tl a).take (firstG a.length), chunks ((tl a).drop (firstG a.length)) (moreG a.length), tl b, ⟨⟨tz, mk3, fun c hc => aa c (List.mem_of_mem_take hc), ?_, ?_, cm, ab, by omega, by omega⟩, bl, ?_, neg, fun z => ⟨nil z, tak (zero z)⟩⟩, kl, k0, fun x => (by cases x), zl, np⟩
    · intro x
      rw [x] at fl2
      simp at fl2
      omega
    · rcases lead with h | h
      · refine .inl ⟨tak h, ?_⟩
        have : moreG a.length = 0 := by
          have : (tl a).length = 1 := by rw [h]; rfl
          omega
        rw [this]
        rfl
      · exact .inr ⟨by rw [hw]; exact h, .inl (by omega)⟩
    · rw [chunks_flat _ _ (Nat.le_of_eq dlen.symm), List.take_of_length_le (Nat.le_of_eq dlen), List.take_append_drop]
      exact val
end HT
namespace HT
open PySem L2 TL PySem.NumText
/-! ### texts of figures, there and back -/
theorem val_pos : ∀ (L : List Nat), AllDigits L → (∃ c ∈ L, c ≠ 48) → 0 < digitsVal L
  | [], _, ⟨c, h, _⟩ => by cases h
  | d :: L, ad, ⟨c, h, n⟩ => by
    by_cases e : d = 48
    · subst e
      rw [digitsVal_zero]
      rcases List.mem_cons.mp h with h | h
      · exact absurd h n
      · exact val_pos L ad.tail ⟨c, h, n⟩
    · exact digitsVal_pos (by have := ad.head; omega)
theorem canon0 : ∀ (n : Nat) (L : List Nat), L.length = n → AllDigits L → L ≠ [] → L.head? ≠ some 48 ∨ L = [48] → numL (digitsVal L) = L := by
  intro n
  induction n with
  | zero => intro L h _ ne; exact absurd (List.eq_nil_of_length_eq_zero h) ne
  | succ n ih =>
    intro L h ad ne hd
    rcases hd with hd | rfl
    · obtain ⟨M, c, rfl⟩ : ∃ M c, L = M ++ [c] := ⟨L.dropLast, L.getLast ne, (List.dropLast_concat_getLast ne).symm⟩
      have hc := ad c (List.mem_append_right _ List.mem_cons_self)
      rw [digitsVal_snoc]
      cases M with
      | nil =>
        show numL (digitsVal [] * 10 + (c - 48)) = [c]
        have z : digitsVal [] * 10 + (c - 48) = c - 48 := by show 0 * 10 + (c - 48) = _; omega
        rw [z, numL_lt (by omega)]
        congr 1
        omega
      | cons d M =>
        have adM : AllDigits (d :: M) := fun x hx => ad x (List.mem_append_left _ hx)
        have hd' : (d :: M).head? ≠ some 48 := hd
        have d48 : d ≠ 48 := fun e => hd' (by rw [e]; rfl)
        have pos : 0 < digitsVal (d :: M) := digitsVal_pos (by have := adM.head; omega)
        rw [numL_step (by omega)]
        have q : (digitsVal (d :: M) * 10 + (c - 48)) / 10 = digitsVal (d :: M) := by omega
        have r : 48 + (digitsVal (d :: M) * 10 + (c - 48)) % 10 = c := by omega
        rw [q, r]
        rw [List.length_append, List.length_singleton] at h
        rw [ih (d :: M) (by omega) adM (by simp) (.inl hd')]
    · show numL 0 = [48]
      rw [numL_lt (by decide)]
theorem canon1 : ∀ (L : List Nat), AllDigits L → L ≠ [] → (numL (digitsVal L)).length ≤ L.length ∧ List.replicate (L.length - (numL (digitsVal L)).length) 48 ++ numL (digitsVal L) = L
  | [], _, ne => absurd rfl ne
  | [c], ad, _ => by
    by_cases e : c = 48
    · subst e
      have : numL (digitsVal [48]) = [48] := canon0 1 [48] rfl ad (by simp) (.inr rfl)
      rw [this]
      exact ⟨Nat.le_refl _, rfl⟩
    · have : numL (digitsVal [c]) = [c] := canon0 1 [c] rfl ad (by simp) (.inl (by intro z; injection z with z; exact e z))
      rw [this]
      exact ⟨Nat.le_refl _, rfl⟩
  | c :: d :: L, ad, _ => by
    by_cases e : c = 48
    · subst e
      obtain ⟨a, b⟩ := canon1 (d :: L) ad.tail (by simp)
      rw [digitsVal_zero]
      refine ⟨Nat.le_succ_of_le a, ?_⟩
      rw [show (48 :: d :: L).length - (numL (digitsVal (d :: L))).length = ((d :: L).length - (numL (digitsVal (d :: L))).length) + 1 by rw [List.length_cons]; omega, List.replicate_succ, List.cons_append, b]
    · have : numL (digitsVal (c :: d :: L)) = c :: d :: L := canon0 _ _ rfl ad (by simp) (.inl (by intro z; injection z with z; exact e z))
      rw [this]
      exact ⟨Nat.le_refl _, by rw [Nat.sub_self]; rfl⟩
theorem canon {L : List Nat} {pl : Nat} (ad : AllDigits L) (h : L.length = pl + 1 ∨ (pl + 1 ≤ L.length ∧ L.head? ≠ some 48)) : List.replicate (pl + 1 - (numL (digitsVal L)).length) 48 ++ numL (digitsVal L) = L := by
  have ne : L ≠ [] := fun e => by rw [e] at h; rcases h with h | h; cases h; exact absurd h.1 (by simp)
  rcases h with h | ⟨h, hd⟩
  · rw [← h]
    exact (canon1 L ad ne).2
  · have : numL (digitsVal L) = L := canon0 _ _ rfl ad ne (.inl hd)
    rw [this, show pl + 1 - L.length = 0 by omega]
    rfl
/-- a text of a figure with so many places -/
structure IsT (z : Str) (pl : Nat) (mk W D : List Nat) : Prop where
  eq : tl z = mk ++ (W ++ fracL D)
  sg : mk = [] ∨ mk = [45]
  wd : AllDigits W
  wn : W ≠ []
  lead : W = [48] ∨ W.head? ≠ some 48
  dd : AllDigits D
  dl : D.length = pl
  neg : mk = [45] → ∃ c ∈ W ++ D, c ≠ 48
theorem noDg_nil : NoDg [] := fun c h => by cases h
theorem drop_mk {z : Str} {mk R : List Nat} (e : tl z = mk ++ R) : (tl z).drop mk.length = R := by rw [e, List.drop_left]
theorem head_W {W : List Nat} (wn : W ≠ []) (R : List Nat) : ∃ c, W.head? = some c ∧ (W ++ R).head? = some c := by
  cases W with
  | nil => exact absurd rfl wn
  | cons c W => exact ⟨c, rfl, rfl⟩
theorem shape_out {z : Str} {pl : Nat} {mk W D : List Nat} (T : IsT z pl mk W D) (p60 : pl ≤ 60) : (outM z).1 = true ∧ figM z = if mk = [45] then -(digitsVal (W ++ D) : Int) else (digitsVal (W ++ D) : Int) := by
  obtain ⟨e, sg, wd, wn, lead, dd, dl, _⟩ := T
  obtain ⟨c, hc, hc2⟩ := head_W wn (fracL D)
  have c1 : 48 ≤ c ∧ c ≤ 57 := by
    cases W with
    | nil => exact absurd rfl wn
    | cons d W => injection hc with hc; rw [← hc]; exact wd.head
  have ml : mk.length ≤ 1 := by rcases sg with rfl | rfl <;> simp
  have h0 : (tl z).head? = some (if mk = [45] then 45 else c) := by
    rw [e]
    rcases sg with rfl | rfl
    · exact hc2
    · rfl
  have bl : blanks z = 0 := blanks_of (k := 0) (r := tl z) (by rfl) (by rw [h0]; intro x; injection x with x; split at x <;> omega)
  have at0 : ∀ (s : Str) (d : Nat), tl s = [d] → (at1 z 0 = s ↔ (if mk = [45] then 45 else c) = d) := fun s d hs => by
    rw [at1_is hs, List.drop_zero, h0]
    exact ⟨fun x => Option.some.inj x, fun x => by rw [x]⟩
  have wa : wholeAt z = mk.length := by
    unfold wholeAt markQ
    rw [bl]
    rcases sg with rfl | rfl
    · have a1 : ¬ at1 z 0 = "-" := fun x => by have := (at0 _ _ tl_minus).mp x; rw [if_neg (by simp)] at this; omega
      have a2 : ¬ at1 z 0 = "+" := fun x => by have := (at0 _ _ tl_plus).mp x; rw [if_neg (by simp)] at this; omega
      rw [decide_eq_false a1, decide_eq_false a2]
      rfl
    · have a1 : at1 z 0 = "-" := (at0 _ _ tl_minus).mpr (if_pos rfl)
      rw [decide_eq_true a1]
      rfl
  have dr := drop_mk e
  have zl : z.length = mk.length + (W.length + (fracL D).length) := by rw [len_tl, e, List.length_append, List.length_append]
  have Wl : 0 < W.length := by cases W with
    | nil => exact absurd rfl wn
    | cons d W => simp
  have pd : pastD z mk.length z.length = mk.length + W.length := by
    unfold pastD
    rw [show z.cps.toList.drop mk.length = W ++ fracL D from dr, dgRun_all W (fracL D) z.length wd (by omega) (.inl (noDg_frac D))]
  have dr2 : (tl z).drop (mk.length + W.length) = fracL D := by rw [← List.drop_drop, dr, List.drop_left]
  have noc : ¬ at1 z (mk.length + W.length) = "," := fun x => by
    have := (at1_is tl_comma).mp x
    rw [dr2] at this
    cases D with
    | nil => cases this
    | cons d D => injection this with this; cases this
  have ch : chAt z mk.length = c := by
    unfold chAt
    have g : (tl z)[mk.length]? = some c := by
      rw [e, List.getElem?_append_right (Nat.le_refl _), Nat.sub_self, ← List.head?_eq_getElem?]
      exact hc2
    rw [List.getD_eq_getElem?_getD, show z.cps.toList = tl z from rfl, g]
    rfl
  have wm : wholeM z mk.length = (true, mk.length + W.length) := by
    unfold wholeM
    rw [pd, if_neg (by omega), ch]
    rcases lead with l | l
    · subst l
      injection hc with hc
      subst hc
      rw [if_pos ((one_is tl_zero).mpr rfl)]
      rfl
    · rw [if_neg (fun x => l (by rw [hc, (one_is tl_zero).mp x]))]
      by_cases g : 3 < mk.length + W.length - mk.length
      · rw [if_pos g]
      · rw [if_neg g]
        cases hz : z.length with
        | zero => rfl
        | succ n =>
          show (if at1 z (mk.length + W.length) = "," then _ else _) = _
          rw [if_neg noc]
  have pm : placesM z (mk.length + W.length) = (true, z.length) := by
    unfold placesM
    cases D with
    | nil =>
      have nod : ¬ at1 z (mk.length + W.length) = "." := fun x => by
        have := (at1_is tl_dot).mp x
        rw [dr2] at this
        cases this
      rw [if_neg nod, zl]
      rfl
    | cons d D =>
      have dot : at1 z (mk.length + W.length) = "." := (at1_is tl_dot).mpr (by rw [dr2]; rfl)
      have dr3 : (tl z).drop (mk.length + W.length + 1) = d :: D := by rw [← List.drop_drop, dr2]; rfl
      have run : dgRun 60 (d :: D) = (d :: D).length := by
        have := dgRun_all (d :: D) [] 60 dd (by omega) (.inl noDg_nil)
        rwa [List.append_nil] at this
      have pd2 : pastD z (mk.length + W.length + 1) 60 = z.length := by
        unfold pastD
        rw [show z.cps.toList.drop (mk.length + W.length + 1) = d :: D from dr3, run, zl, fracL_len, if_neg (by simp)]
        omega
      have zl2 : z.length = mk.length + W.length + 1 + (d :: D).length := by rw [zl, fracL_len, if_neg (by simp)]; omega
      rw [if_pos dot, pd2, if_neg (by rw [zl2, List.length_cons]; omega)]
  refine ⟨?_, ?_⟩
  · unfold outM
    rw [wa, wm]
    show (if true = true then (if (placesM z (mk.length + W.length)).1 = true then (if (placesM z (mk.length + W.length)).2 < z.length then _ else _) else _) else _ : Bool × Nat).1 = true
    rw [pm, if_pos rfl, if_pos rfl, if_neg (Nat.lt_irrefl _)]
  · have nm : numM z = digitsVal (W ++ D) := by
      unfold numM
      rw [wa, dr, List.filter_append]
      have f1 : ∀ l : List Nat, AllDigits l → l.filter isDg = l := fun l hl => List.filter_eq_self.mpr fun x hx => isDg_t.mpr (hl x hx)
      have f2 : (fracL D).filter isDg = D := by
        cases D with
        | nil => rfl
        | cons d D =>
          show (46 :: d :: D).filter isDg = _
          rw [List.filter_cons_of_neg (by decide)]
          exact f1 _ dd
      rw [f1 W wd, f2]
    have c0 : chAt z 0 = if mk = [45] then 45 else c := by
      unfold chAt
      have g : (tl z)[0]? = some (if mk = [45] then 45 else c) := by rw [← List.head?_eq_getElem?]; exact h0
      rw [List.getD_eq_getElem?_getD, show z.cps.toList = tl z from rfl, g]
      rfl
    unfold figM
    rw [bl, c0, nm]
    rcases sg with rfl | rfl
    · have n0 : ¬ (([] : List Nat) = [45]) := by simp
      have n1 : ¬ ((⟨#[c]⟩ : Str) = "-") := fun x => by have := (one_is tl_minus).mp x; omega
      simp only [if_neg n0]
      rw [if_neg n1]
    · rw [if_pos rfl, if_pos ((one_is tl_minus).mpr rfl), if_pos rfl]
end HT
namespace HT
open PySem L2 TL PySem.NumText
theorem val_lt : ∀ (n : Nat) (L : List Nat), L.length = n → AllDigits L → digitsVal L < 10 ^ n := by
  intro n
  induction n with
  | zero =>
    intro L h _
    rw [List.eq_nil_of_length_eq_zero h]
    exact Nat.lt_of_lt_of_le (show digitsVal [] < 1 by show 0 < 1; decide) (Nat.le_refl _)
  | succ n ih =>
    intro L h ad
    have ne : L ≠ [] := fun e => by rw [e] at h; cases h
    obtain ⟨M, c, rfl⟩ : ∃ M c, L = M ++ [c] := ⟨L.dropLast, L.getLast ne, (List.dropLast_concat_getLast ne).symm⟩
    have hc := ad c (List.mem_append_right _ List.mem_cons_self)
    rw [List.length_append, List.length_singleton] at h
    have a := ih M (by omega) fun x hx => ad x (List.mem_append_left _ hx)
    rw [digitsVal_snoc, Nat.pow_succ]
    omega
theorem val_nought : ∀ (L : List Nat), (∀ c ∈ L, c = 48) → digitsVal L = 0
  | [], _ => rfl
  | c :: L, h => by
    rw [h c List.mem_cons_self, digitsVal_zero]
    exact val_nought L fun x hx => h x (List.mem_cons_of_mem _ hx)
theorem text_tl {fig : Int} {pl : Nat} (h0 : -10 ^ 520 < fig) (h1 : fig < 10 ^ 520) (hp : pl ≤ 60) : tl (textM fig pl false false 0) = (if fig < 0 then [45] else []) ++ ((tl (digM fig pl)).take ((tl (digM fig pl)).length - pl) ++ fracL ((tl (digM fig pl)).drop ((tl (digM fig pl)).length - pl))) := by
  obtain ⟨d1, d2⟩ := dig_ok h0 h1 hp
  have et : textM fig pl false false 0 = Txt.rjust (markM fig false ++ (if 0 < pl then (cutS (digM fig pl) none (some (((digM fig pl).length : Int) - (pl : Int)))) ++ ("." : Str) ++ cutS (digM fig pl) (some (((digM fig pl).length : Int) - (pl : Int))) none else cutS (digM fig pl) none (some (((digM fig pl).length : Int) - (pl : Int))))) 0 := rfl
  rw [et]
  generalize digM fig pl = d at *
  rw [tl_rjust _ (Int.le_refl 0)]
  show List.replicate (0 - _) 32 ++ _ = _
  rw [Nat.zero_sub, List.replicate_zero, List.nil_append, tl_append, tl_mark]
  obtain ⟨q, hq⟩ : ∃ q : Nat, q = (tl d).length - pl := ⟨_, rfl⟩
  have dn : d.length = (tl d).length := len_tl d
  have eq : (d.length : Int) - (pl : Int) = (q : Int) := by omega
  rw [eq, ← hq]
  have t1 : tl (cutS d none (some (q : Int))) = (tl d).take q := tl_pre d rfl (by omega)
  have t2 : tl (cutS d (some (q : Int)) none) = (tl d).drop q := tl_post d rfl (by omega)
  have em : (if fig < 0 then [45] else if 0 < fig ∧ false = true then [43] else ([] : List Nat)) = if fig < 0 then [45] else [] := by
    by_cases g : fig < 0
    · rw [if_pos g, if_pos g]
    · rw [if_neg g, if_neg g, if_neg (by simp)]
  rw [em]
  congr 1
  by_cases g : 0 < pl
  · rw [if_pos g, tl_append, tl_append, t1, t2, tl_dot, List.append_assoc]
    congr 1
    have l : ((tl d).drop q).length = pl := by rw [List.length_drop]; omega
    cases h : (tl d).drop q with
    | nil => rw [h] at l; exact absurd l (by simp; omega)
    | cons x r => rfl
  · rw [if_neg g, t1, List.drop_eq_nil_of_le (by omega)]
    exact (List.append_nil _).symm
theorem isT_val {z : Str} {pl : Nat} {mk W D : List Nat} (T : IsT z pl mk W D) : AllDigits (W ++ D) := AllDg.append T.wd T.dd
theorem isT_len {z : Str} {pl : Nat} {mk W D : List Nat} (T : IsT z pl mk W D) : (W ++ D).length ≤ z.length := by
  rw [len_tl, T.eq, List.length_append, List.length_append, List.length_append, fracL_len]
  split <;> omega
theorem fig_lt {v : Nat} {n : Nat} (h : v < 10 ^ n) (hn : n ≤ 515) : v < 10 ^ 520 := Nat.lt_of_lt_of_le h (Nat.pow_le_pow_right (by decide) (by omega))
/-- such a text is written for its figure -/
theorem isT_text {z : Str} {pl : Nat} {mk W D : List Nat} (T : IsT z pl mk W D) (p60 : pl ≤ 60) (zl : z.length ≤ 510) : textM (figM z) pl false false 0 = z := by
  obtain ⟨_, hf⟩ := shape_out T p60
  have ad := isT_val T
  have lt := val_lt _ _ rfl ad
  have ln := isT_len T
  have lt2 : digitsVal (W ++ D) < 10 ^ 520 := fig_lt lt (by omega)
  have lt3 : (digitsVal (W ++ D) : Int) < 10 ^ 520 := by exact_mod_cast lt2
  generalize hv : digitsVal (W ++ D) = v at *
  have b0 : -10 ^ 520 < figM z := by rw [hf]; split <;> omega
  have b1 : figM z < 10 ^ 520 := by rw [hf]; split <;> omega
  have ab : absN (figM z) = v := by
    rw [hf]
    unfold absN
    split <;> omega
  have neg : (if figM z < 0 then [45] else ([] : List Nat)) = mk := by
    rcases T.sg with g | g
    · subst g
      have n1 : ¬ figM z < 0 := by rw [hf, if_neg (by simp)]; omega
      rw [if_neg n1]
    · have pos := val_pos _ ad (T.neg g)
      rw [hv] at pos
      have n1 : figM z < 0 := by rw [hf, if_pos g]; omega
      rw [if_pos n1, g]
  have dg : tl (digM (figM z) pl) = W ++ D := by
    rw [dig_list, ab, ← hv]
    have Wl : 0 < W.length := by
      cases h : W with
      | nil => exact absurd h T.wn
      | cons c r => simp
    refine canon ad ?_
    rw [List.length_append, T.dl]
    rcases T.lead with l | l
    · left
      rw [l]
      show 1 + pl = _
      omega
    · right
      refine ⟨by omega, ?_⟩
      cases h : W with
      | nil => exact absurd h T.wn
      | cons c r => rw [h] at l; exact l
  apply ext_tl
  rw [text_tl b0 b1 p60, neg, dg, List.length_append, T.dl, Nat.add_sub_cancel, List.take_left, List.drop_left]
  exact T.eq.symm
/-- what is written for a figure is such a text -/
theorem text_isT {fig : Int} {pl : Nat} (h0 : -10 ^ 520 < fig) (h1 : fig < 10 ^ 520) (hp : pl ≤ 60) : ∃ mk W D, IsT (textM fig pl false false 0) pl mk W D := by
  obtain ⟨k, mk, W, gs, D, T, _, k0, g0, ln, m0⟩ := text_ok (sg := false) (gr := false) (wd := 0) h0 h1 hp (by decide) (by decide)
  have S := T.sh
  have e := S.eq
  have g := g0 rfl
  rw [k0 rfl, g] at e
  refine ⟨mk, W, D, ⟨e, ?_, S.wd, S.wn, ?_, S.dd, T.dl, fun m => ?_⟩⟩
  · rcases S.sg with h | h | h
    · exact .inl h
    · exact .inr h
    · exact absurd h (m0 rfl)
  · rcases S.lead with h | h
    · exact .inl h.1
    · exact .inr h.1
  · have lt := T.neg.mp m
    have v := T.val
    rw [g, List.flatten_nil, List.append_nil] at v
    refine Classical.byContradiction fun no => ?_
    have z := val_nought (W ++ D) fun c hc => Classical.byContradiction fun n => no ⟨c, hc, n⟩
    rw [z] at v
    unfold absN at v
    omega
def fitsM (z : Str) (pl : Nat) : Bool := (outM z).1 && decide (textM (figM z) pl false false 0 = z)
theorem fig_bound {z : Str} (zl : z.length ≤ 510) : -10 ^ 520 < figM z ∧ figM z < 10 ^ 520 := by
  have a := val_lt _ _ rfl (dg_all ((tl z).drop (wholeAt z)))
  have l : (((tl z).drop (wholeAt z)).filter isDg).length ≤ 510 := by
    refine Nat.le_trans (List.length_filter_le _ _) ?_
    rw [List.length_drop, ← len_tl]
    omega
  have b : numM z < 10 ^ 520 := fig_lt a (by omega)
  have c : (numM z : Int) < 10 ^ 520 := by exact_mod_cast b
  unfold figM
  split <;> omega
theorem fits_iff {z : Str} {pl : Nat} (p60 : pl ≤ 60) (zl : z.length ≤ 510) : fitsM z pl = true ↔ ∃ mk W D, IsT z pl mk W D := by
  unfold fitsM
  rw [Bool.and_eq_true, decide_eq_true_eq]
  constructor
  · rintro ⟨_, h⟩
    obtain ⟨b0, b1⟩ := fig_bound zl
    rw [← h]
    exact text_isT b0 b1 p60
  · rintro ⟨mk, W, D, T⟩
    exact ⟨(shape_out T p60).1, isT_text T p60 zl⟩
theorem text_short {fig : Int} {pl : Nat} (h0 : -10 ^ 62 < fig) (h1 : fig < 10 ^ 62) (hp : pl ≤ 60) : (textM fig pl false false 0).length ≤ 500 := by
  have hn : 0 ≤ (if fig < 0 then -fig else fig) := by split <;> omega
  have hb : (if fig < 0 then -fig else fig) < 10 ^ 62 := by split <;> omega
  have e := PyProof.Rows.len_zfill (PySem.Str.ofString (toString (if fig < 0 then -fig else fig))) ((pl : Int) + 1)
  have b := PyProof.Rows.toString_length_le hn (k := 62) (by decide) hb
  have z : ((digM fig pl).length : Int) = _ := e
  have c : (digM fig pl).length ≤ 62 := by
    by_cases g : decide (((PySem.Str.ofString (toString (if fig < 0 then -fig else fig))).length : Int) < (pl : Int) + 1) = true
    · rw [if_pos g] at z
      omega
    · rw [if_neg g] at z
      omega
  rw [len_tl] at c
  rw [len_tl, text_tl (by omega) (by omega) hp]
  have f : ∀ D : List Nat, (fracL D).length ≤ D.length + 1 := fun D => by cases D <;> simp [fracL]
  have a1 := f ((tl (digM fig pl)).drop ((tl (digM fig pl)).length - pl))
  have a2 : (if fig < 0 then [45] else ([] : List Nat)).length ≤ 1 := by split <;> simp
  rw [List.length_append, List.length_append, List.length_take]
  rw [List.length_drop] at a1
  omega
end HT
namespace HT
open PySem L2
/-- the modes -/
def Mode (m : Str) : Prop := m = "down" ∨ m = "up" ∨ m = "half_down" ∨ m = "half_up" ∨ m = "half_even"
/-- a side's parts -/
structure SideP (o s : Int) (m : Str) : Prop where
  o0 : -10 ^ 40 ≤ o
  o1 : o ≤ 10 ^ 40
  s0 : 1 ≤ s
  s1 : s ≤ 10 ^ 30
  md : Mode m
def sideV (o s : Int) (m : Str) : HO := .tup [.int o, .int s, .str m]
def modesV : List V := [.str "down", .str "up", .str "half_down", .str "half_up", .str "half_even"]
/-- the further names that the text of sides does not bind, and its table of modes -/
structure SideT (K : PySem.W.Frag) (mg : Str → Option Value) (aM : Addr) : Prop where
  isi : mg "isinstance" = none
  int : mg "int" = none
  bool : mg "bool" = none
  tuple : mg "tuple" = none
  len : mg "len" = none
  dm : mg "divmod" = none
  gM : mg "MODES" = some (.ref aM)
  tM : ∀ H, SqT K H aM modesV
def spCheckSide : Sp := fun vs H Q _ => ∃ (p : Addr) (o s : Int) (m : Str), vs = [.ref p] ∧ H p = some (sideV o s m) ∧ SideP o s m ∧ Q .non H
theorem mode_in {m : Str} (h : Mode m) : inV (.str m) modesV = true := by
  rcases h with e | e | e | e | e <;> subst e <;> decide +kernel
theorem mode_of {x : V} (h : x ∈ [V.str "down", .str "up", .str "half_down", .str "half_up", .str "half_even"]) : ∃ m : Str, x = .str m ∧ Mode m := by
  simp only [List.mem_cons, List.not_mem_nil, or_false] at h
  rcases h with h | h | h | h | h
  · exact ⟨_, h, .inl rfl⟩
  · exact ⟨_, h, .inr (.inl rfl)⟩
  · exact ⟨_, h, .inr (.inr (.inl rfl))⟩
  · exact ⟨_, h, .inr (.inr (.inr (.inl rfl)))⟩
  · exact ⟨_, h, .inr (.inr (.inr (.inr rfl)))⟩
section
variable {P : Program} {w : World} {K : PySem.W.Frag} {mg : Str → Option Value} {base : Heap} {aM fB : Addr} {dB : FuncData}
theorem ok_check_side {f : Addr} {fd : FuncData} (F : Fun K "check_side" "check_side" s_check_side f fd) (T : SideT K mg aM) (B : Cal P w K mg base "is_int_between" 2 ["thing", "least", "most"] spBetween fB dB) : FnOk P w K mg base CX0 3 f fd ["side"] spCheckSide := by
  refine F.ok sc_check_side (fun vs H Q E h => ?_) (fun cdv A outer s H vs Q E hr h => ?_)
  · obtain ⟨p, o, s, m, rfl, _⟩ := h
    rfl
  · obtain ⟨p, o, s, m, rfl, hp, S, q⟩ := h
    have nd := sc_check_side.nd
    refine ⟨_, pss_cons (ps_if (PW.pt (pw_or (pt_not (pt_val (pe_callB call_isi (by rfl) T.isi (by decide +kernel) (pa_cons (pv 0) (pa_cons (pe_bltn (v := .ty "tuple") (by rfl) T.tuple (by decide +kernel) rfl) pa_nil)))))
        (pw_or1 (pt_cmpR op_ne (pe_callB call_len_seq (by rfl) T.len PySem.boot_len (pa_cons (pv 0) pa_nil)) pe_int (nomark _))))) (pss_one ps_never) pss_nil)
      (pss_cons (ps_asg (pv 0) (pg_tup (by rfl) (pgs_cons (pg_name (i := 1) nd rfl (Or.inl rfl)) (pgs_cons (pg_name (i := 2) nd rfl (Or.inl rfl)) (pgs_cons (pg_name (i := 3) nd rfl (Or.inl rfl)) pgs_nil)))))
      (pss_cons (ps_if (pt_not (pt_val (pcl B hr (by decide) (by rfl) (pa_cons (pv 1) (pa_cons (pe_un un_neg (pe_op op_pow pe_int pe_int)) (pa_cons (pe_op op_pow pe_int pe_int) pa_nil)))))) (pss_one ps_never) pss_nil)
      (pss_cons (ps_if (pt_not (pt_val (pcl B hr (by decide) (by rfl) (pa_cons (pv 2) (pa_cons pe_int (pa_cons (pe_op op_pow pe_int pe_int) pa_nil)))))) (pss_one ps_never) pss_nil)
      (pss_one (ps_if (pt_cmpR op_notIn_seq (pv 3) (pe_glob (v := .ref aM) (by rfl) T.gM rfl) (by rfl)) (pss_one ps_never) pss_nil))))), ?_⟩
    walk_at "rd"
    refine ⟨_, _, _, _, _, rfl, .ty "tuple", .base (.tup hp), kit_ty (r := true) (by decide +kernel), ?_⟩
    walk_at "rd"
    refine ⟨p, _, rfl, .inr (SqT.of hp), rfl, ?_⟩
    walk_at "rd"
    refine ⟨p, _, rfl, SqT.of hp, rfl, _, _, rfl, _, _, rfl, _, _, rfl, rfl, ?_⟩
    walk_at "rd"
    refine ⟨⟨by decide, by decide, by decide⟩, ?_⟩
    walk_at "rd"
    refine ⟨⟨by decide, by decide, by decide⟩, _, _, _, rfl, ?_⟩
    have e1 : (decide (-(10 : Int) ^ (40 : Int).toNat ≤ o) && decide (o ≤ (10 : Int) ^ (40 : Int).toNat)) = true := by
      rw [decide_eq_true (show -(10 : Int) ^ (40 : Int).toNat ≤ o from S.o0), decide_eq_true (show o ≤ (10 : Int) ^ (40 : Int).toNat from S.o1)]
      rfl
    refine ⟨_, rfl, ?_⟩
    refine ite2 (fun h => (not_t h e1).elim) (fun _ => ?_)
    walk_at "rd"
    refine ⟨⟨by decide, by decide, by decide⟩, _, _, _, rfl, ?_⟩
    have e2 : (decide ((1 : Int) ≤ s) && decide (s ≤ (10 : Int) ^ (30 : Int).toNat)) = true := by
      rw [decide_eq_true S.s0, decide_eq_true (show s ≤ (10 : Int) ^ (30 : Int).toNat from S.s1)]
      rfl
    refine ⟨_, rfl, ?_⟩
    refine ite2 (fun h => (not_t h e2).elim) (fun _ => ?_)
    walk_at "rd"
    refine ⟨aM, _, rfl, .inr (T.tM H), rfl, by decide, ?_⟩
    walk_at "rd"
    refine ite2 (fun h => (not_t h (mode_in S.md)).elim) (fun _ => ?_)
    exact q
end
end HT
namespace HT
open PySem L2
/-- the names that the law gives -/
def tenN : List Str := ["usd", "eur", "loop", "abcdefgh", "x", "sets", "jkmqvwyz", "ends", "a", "sides"]
def NameP (n : Str) : Prop := n ∈ tenN
def noN : List V := [.str "at", .str "down", .str "end", .str "log", .str "places", .str "set", .str "side", .str "up"]
def lettS : Str := "abcdefghijklmnopqrstuvwxyz"
/-- what is asked of the names that the papers' text does not bind, and of its constants -/
structure EnT (K : PySem.W.Frag) (mg : Str → Option Value) (aN : Addr) : Prop where
  isi : mg "isinstance" = none
  str : mg "str" = none
  tuple : mg "tuple" = none
  list : mg "list" = none
  len : mg "len" = none
  all : mg "all" = none
  gN : mg "NO_NAMES" = some (.ref aN)
  tN : ∀ H, SqT K H aN noN
  lt : ∃ t, mg "LETTERS" = some (.str lettS t)
  ml : ∃ t, mg "MOST_LETTERS" = some (.int 8 t)
  ms : ∃ t, mg "MOST_SIDES" = some (.int 4 t)
  mp : ∃ t, mg "MOST_PLACES" = some (.int 60 t)
  sn : ∃ t, mg "MOST_SEEN" = some (.int 50 t)
/-- an entry of a paper -/
inductive Ent where
  | side (n : Str) (o s : Int) (m : Str) (pl : Nat)
  | set (n : Str) (ns : List Str)
  | log (n g : Str) (ls : List (Str × Str))
def Ent.name : Ent → Str
  | .side n .. => n
  | .set n _ => n
  | .log n .. => n
/-- an entry as a tuple at p -/
def EntAt (H : Hp) (p : Addr) : Ent → Prop
  | .side n o s m pl => ∃ q, H p = some (.tup [.str "side", .str n, .ref q, .int (pl : Int)]) ∧ H q = some (sideV o s m)
  | .set n ns => ∃ q, H p = some (.tup [.str "set", .str n, .ref q]) ∧ H q = some (.tup (ns.map V.str))
  | .log n g ls => ∃ (q : Addr) (ps : List Addr), H p = some (.tup [.str "log", .str n, .str g, .ref q]) ∧ H q = some (.tup (ps.map V.ref)) ∧ ps.length = ls.length ∧ ∀ (i : Nat) (a : Addr) (l : Str × Str), ps[i]? = some a → ls[i]? = some l → H a = some (.tup [.str l.1, .str l.2])
theorem EntAt.same {H H' : Hp} {p : Addr} {e : Ent} (h : EntAt H p e) (sm : Same H H') : EntAt H' p e := by
  cases e with
  | side n o s m pl => obtain ⟨q, a, b⟩ := h; exact ⟨q, sm _ _ a, sm _ _ b⟩
  | set n ns => obtain ⟨q, a, b⟩ := h; exact ⟨q, sm _ _ a, sm _ _ b⟩
  | log n g ls => obtain ⟨q, ps, a, b, c, d⟩ := h; exact ⟨q, ps, sm _ _ a, sm _ _ b, c, fun i x l e f => sm _ _ (d i x l e f)⟩
/-- the entries known, by name -/
def KnownAt (H : Hp) (d : Addr) (es : List Ent) : Prop := ∃ ps : List Addr, ps.length = es.length ∧ H d = some (.dK ((es.zip ps).map fun z => ((.inr z.1.name : Key), V.ref z.2))) ∧ ∀ (i : Nat) (p : Addr) (e : Ent), ps[i]? = some p → es[i]? = some e → EntAt H p e
theorem name_facts {n : Str} (h : NameP n) : 1 ≤ n.length ∧ n.length ≤ 8 ∧ inV (.str n) noN = false ∧ ∀ c ∈ n.cps.toList, c ∈ lettS.cps.toList := by
  unfold NameP tenN at h
  simp only [List.mem_cons, List.not_mem_nil, or_false] at h
  rcases h with rfl | rfl | rfl | rfl | rfl | rfl | rfl | rfl | rfl | rfl <;> exact ⟨by decide +kernel, by decide +kernel, by decide +kernel, by decide +kernel⟩
def spName : Sp := fun vs H Q _ => ∃ n : Str, vs = [.str n] ∧ NameP n ∧ ∀ H', Same H H' → Q (.bl true) H'
section
variable {P : Program} {w : World} {K : PySem.W.Frag} {mg : Str → Option Value} {base : Heap} {aN fB : Addr} {dB : FuncData}
theorem ok_is_name {f : Addr} {fd : FuncData} (F : Fun K "_is_name" "_is_name" s_is_name f fd) (T : EnT K mg aN) : FnOk P w K mg base CX0 1 f fd ["thing"] spName := by
  refine F.ok sc_is_name (fun vs H Q E h => ?_) (fun cdv A outer s H vs Q E hr h => ?_)
  · obtain ⟨n, rfl, _⟩ := h
    rfl
  · obtain ⟨n, rfl, hn, q⟩ := h
    have nd := sc_is_name.nd
    obtain ⟨tl, hl⟩ := T.lt
    obtain ⟨tm, hm⟩ := T.ml
    refine ⟨_, (pss_cons (ps_if (PW.pt (pw_or (pt_not (pt_val (pe_callB call_isi (by rfl) T.isi (by decide +kernel) (pa_cons (pv 0) (pa_cons (pe_bltn (v := .ty "str") (by rfl) T.str (by decide +kernel) rfl) pa_nil))))) (pw_or1 (pt_not (pt_chain op_le op_le pe_int (pe_callB call_len_str (by rfl) T.len PySem.boot_len (pa_cons (pv 0) pa_nil)) (pe_glob (v := .int 8) (by rfl) hm ⟨_, rfl⟩)))))) (pss_one (ps_ret pe_bl)) pss_nil)
      (pss_one (ps_ret (pe_and (pe_cmpR op_notIn_seq (pv 0) (pe_glob (v := .ref aN) (by rfl) T.gN rfl) (by rfl)) (pe_one (pe_callB (cr_all rfl) (by rfl) T.all (by decide +kernel) (pa_cons (pe_lc (own := [("letter", 1)]) (g := gName 1) (tt := tYes) rfl nd (pi_str (pv 0)) (blkOk_by (N := ["thing", "letter"]) (sc := defScope s_is_name) (by decide +kernel)) (fun _ _ _ _ _ => pg_name (i := 1) nd rfl (Or.inl rfl)) (fun _ _ _ _ _ => pts_nil) (fun _ _ _ _ _ => (pe_cmpR op_in_sign (pv 1) (pe_glob (v := .str lettS) (by rfl) hl ⟨_, rfl⟩) (by rfl)))) pa_nil))))))), ?_⟩
    obtain ⟨f1, f2, f3, f4⟩ := name_facts hn
    walk_at "rd"
    refine ⟨_, _, _, _, _, rfl, .ty "str", .base (.str n), kit_ty (r := true) (by decide +kernel), ?_⟩
    walk_at "rd"
    refine ⟨Nat.le_trans f2 (by decide), ?_⟩
    walk_at "rd"
    refine ite2 (fun _ => ?_) (fun z => absurd (decide_eq_true (show (1 : Int) ≤ (n.length : Int) by omega)) z)
    walk_at "rd"
    refine ite2 (fun z => absurd (decide_eq_true (show (n.length : Int) ≤ 8 by omega)) (not_t z)) (fun _ => ?_)
    walk_at "rd"
    refine ⟨aN, _, rfl, .inr (T.tN _), rfl, by decide, ?_⟩
    walk_at "rd"
    refine ite2 (fun _ => ?_) (fun z => absurd (by rw [f3]; rfl) z)
    walk_at "rd"
    refine fun D nD => ?_
    refine lc_it (walk_str (z := n)) (fun j H3 => H3 D = some (.lst ((List.replicate j true).map V.bl)) ∧ Same H H3) ⟨upd_same, fun b u z => (upd_ne (ne_of_none z nD)).trans z⟩ (fun _ _ _ _ => trivial) ?_ ?_
    · rintro j y H3 H4 hj ⟨hD, s3⟩ ⟨rfl, c, ec, rfl⟩
      refine ⟨rfl, ?_⟩
      walk_at "rd"
      refine ⟨_, hD, ?_, ?_, fun b u z => (upd_ne (ne_of_none z nD)).trans (s3 _ _ z)⟩
      · rw [List.length_map, List.length_replicate]
        exact Nat.lt_of_lt_of_le (Nat.lt_of_lt_of_le hj f2) (by decide)
      · rw [decide_eq_true (f4 c (Array.mem_toList_iff.mpr (Array.mem_of_getElem? ec))), List.replicate_succ', List.map_append]
        exact upd_same
    rintro H3 ⟨hD, s3⟩
    walk_at "rd"
    refine ⟨D, _, rfl, SqL.of hD, ?_⟩
    have e : (List.replicate n.cps.size true).all id = true := by rw [List.all_eq_true]; intro x hx; rw [List.eq_of_mem_replicate hx]; rfl
    rw [e]
    exact q H3 s3
end
end HT
namespace HT
open PySem L2
theorem lt1 {n c : Nat} (h : n + 64 < c) : n + 1 < c := by omega
def findE (es : List Ent) (n : Str) : Option Ent := es.find? fun e => decide (e.name = n)
def Ent.kind : Ent → Str
  | .side .. => "side"
  | .set .. => "set"
  | .log .. => "log"
theorem find_zip (n : Str) : ∀ (es : List Ent) (ps : List Addr), ps.length = es.length →
    (findE es n = none ∧ valV ((es.zip ps).map fun z => ((.inr z.1.name : Key), V.ref z.2)) (.inr n) = none) ∨
    ∃ (i : Nat) (e : Ent) (p : Addr), es[i]? = some e ∧ ps[i]? = some p ∧ findE es n = some e ∧ valV ((es.zip ps).map fun z => ((.inr z.1.name : Key), V.ref z.2)) (.inr n) = some (.ref p)
  | [], [], _ => .inl ⟨rfl, rfl⟩
  | e :: es, p :: ps, h => by
    by_cases c : e.name = n
    · refine .inr ⟨0, e, p, rfl, rfl, ?_, ?_⟩
      · unfold findE
        rw [List.find?_cons, decide_eq_true c]
      · exact valV_pos (p := ((.inr e.name : Key), V.ref p)) (by rw [c])
    · have a : findE (e :: es) n = findE es n := by
        unfold findE
        rw [List.find?_cons, decide_eq_false c]
      have b : valV (((e :: es).zip (p :: ps)).map fun z => ((.inr z.1.name : Key), V.ref z.2)) (.inr n) = valV ((es.zip ps).map fun z => ((.inr z.1.name : Key), V.ref z.2)) (.inr n) :=
        valV_neg (p := ((.inr e.name : Key), V.ref p)) fun z => c (Sum.inr.inj z)
      rw [a, b]
      rcases find_zip n es ps (by simpa using h) with z | ⟨i, x, y, z⟩
      · exact .inl z
      · exact .inr ⟨i + 1, x, y, z⟩
theorem known_some {H : Hp} {d : Addr} {es : List Ent} {n : Str} {e : Ent} (h : KnownAt H d es) (f : findE es n = some e) : ∃ p, DGet H d (.str n) (some (.ref p)) ∧ EntAt H p e := by
  obtain ⟨ps, l, hd, at_⟩ := h
  rcases find_zip n es ps l with ⟨a, _⟩ | ⟨i, x, p, a, b, c, v⟩
  · rw [a] at f; cases f
  · rw [c] at f
    cases f
    refine ⟨p, ?_, at_ i p _ b a⟩
    have g := DGet.k (k := .inr n) hd
    rwa [v] at g
theorem known_none {H : Hp} {d : Addr} {es : List Ent} {n : Str} (h : KnownAt H d es) (f : findE es n = none) : DGet H d (.str n) none := by
  obtain ⟨ps, l, hd, at_⟩ := h
  rcases find_zip n es ps l with ⟨_, v⟩ | ⟨i, x, p, a, b, c, v⟩
  · have g := DGet.k (k := .inr n) hd
    rwa [v] at g
  · rw [c] at f; cases f
theorem KnownAt.same {H H' : Hp} {d : Addr} {es : List Ent} (h : KnownAt H d es) (sm : Same H H') : KnownAt H' d es := let ⟨ps, l, hd, at_⟩ := h; ⟨ps, l, sm _ _ hd, fun i p e a b => (at_ i p e a b).same sm⟩
def spIsKn : Sp := fun vs H Q _ => ∃ (k n : Str) (d : Addr) (es : List Ent) (e : Ent), vs = [.str k, .str n, .ref d] ∧ KnownAt H d es ∧ findE es n = some e ∧ e.kind = k ∧ Q (.bl true) H
def spInSet : Sp := fun vs H Q _ => ∃ (n g g2 : Str) (d : Addr) (es : List Ent) (ns : List Str), vs = [.str n, .str g, .ref d] ∧ KnownAt H d es ∧ findE es g = some (.set g2 ns) ∧ n ∈ ns ∧ ns.length ≤ 4 ∧ Q (.bl true) H
theorem EntAt.tup {H : Hp} {p : Addr} {e : Ent} (h : EntAt H p e) : ∃ xs, H p = some (.tup (.str e.kind :: xs)) := by
  cases e with
  | side n o s m pl => obtain ⟨q, a, b⟩ := h; exact ⟨_, a⟩
  | set n ns => obtain ⟨q, a, b⟩ := h; exact ⟨_, a⟩
  | log n g ls => obtain ⟨q, ps, a, b, c, d⟩ := h; exact ⟨_, a⟩
theorem at0 {x : V} {t : List V} : atI (x :: t) 0 = some x := by
  unfold atI
  rw [ixN_in (Int.le_refl 0) (by rw [List.length_cons]; omega)]
  rfl
theorem inV_str {n : Str} {ns : List Str} (h : n ∈ ns) : inV (.str n) (ns.map V.str) = true := by
  unfold inV
  rw [List.any_eq_true]
  exact ⟨_, List.mem_map.mpr ⟨n, h, rfl⟩, by simp [eqV]⟩
section
variable {P : Program} {w : World} {K : PySem.W.Frag} {mg : Str → Option Value} {base : Heap} {aN fB : Addr} {dB : FuncData}
theorem ok_is_known {f : Addr} {fd : FuncData} (F : Fun K "is_known" "is_known" s_is_known f fd) (T : EnT K mg aN) : FnOk P w K mg base CX0 1 f fd ["kind", "name", "known"] spIsKn := by
  refine F.ok sc_is_known (fun vs H Q E h => ?_) (fun cdv A outer s H vs Q E hr h => ?_)
  · obtain ⟨k, n, d, es, e, rfl, _⟩ := h
    rfl
  · obtain ⟨k, n, d, es, e, rfl, hk, fe, ke, q⟩ := h
    have nd := sc_is_known.nd
    obtain ⟨p, g, ea⟩ := known_some hk fe
    obtain ⟨xs, hp⟩ := ea.tup
    refine ⟨_, (pss_one (ps_ret (pe_and (pe_callB call_isi (by rfl) T.isi (by decide +kernel) (pa_cons (pv 1) (pa_cons (pe_bltn (v := .ty "str") (by rfl) T.str (by decide +kernel) rfl) pa_nil))) (pe_and (pe_cmp (pc_din (lt1 hr.units) (pv 1) (pv 2)) (by rfl)) (pe_one (pe_cmpR op_eq (pe_ix ix_tup (pe_dget (lt1 hr.units) (pv 2) (pv 1) (fun _ _ => rfl)) pe_int (fun _ _ => rfl)) (pv 0) (nomark _))))))), ?_⟩
    walk_at "rd"
    refine ⟨_, _, _, _, _, rfl, .ty "str", .base (.str n), kit_ty (r := true) (by decide +kernel), ?_⟩
    walk_at "rd"
    refine ⟨d, _, rfl, g, _, rfl, ?_⟩
    refine ite2 (fun _ => ?_) (fun z => absurd rfl z)
    walk_at "rd"
    refine ⟨d, _, rfl, g, ?_⟩
    walk_at "rd"
    refine ⟨p, _, _, _, rfl, rfl, SqT.of hp, at0, ?_⟩
    walk_at "rd"
    refine ⟨rfl, ?_⟩
    rw [ke, decide_eq_true rfl]
    exact q
theorem ok_in_set {f : Addr} {fd : FuncData} (F : Fun K "is_in_set" "is_in_set" s_is_in_set f fd) : FnOk P w K mg base CX0 1 f fd ["name", "group", "known"] spInSet := by
  refine F.ok sc_is_in_set (fun vs H Q E h => ?_) (fun cdv A outer s H vs Q E hr h => ?_)
  · obtain ⟨n, g, g2, d, es, ns, rfl, _⟩ := h
    rfl
  · obtain ⟨n, g, g2, d, es, ns, rfl, hk, fe, mem, l4, q⟩ := h
    have nd := sc_is_in_set.nd
    obtain ⟨p, gg, ea⟩ := known_some hk fe
    obtain ⟨qa, hp, hq⟩ := ea
    refine ⟨_, (pss_cons (ps_asg (pe_dget (lt1 hr.units) (pv 2) (pv 1) (fun _ _ => rfl)) (pg_tup (by rfl) (pgs_cons (pg_name (i := 3) nd rfl (Or.inl rfl)) (pgs_cons (pg_name (i := 3) nd rfl (Or.inl rfl)) (pgs_cons (pg_name (i := 4) nd rfl (Or.inl rfl)) pgs_nil)))))
      (pss_one (ps_ret (pe_cmpR op_in_seq (pv 0) (pv 4) (by rfl))))), ?_⟩
    walk_at "rd"
    refine ⟨d, _, rfl, gg, ?_⟩
    refine ⟨p, _, rfl, SqT.of hp, rfl, _, _, rfl, _, _, rfl, _, _, rfl, rfl, ?_⟩
    walk_at "rd"
    refine ⟨qa, _, rfl, .inr (SqT.of hq), rfl, List.all_eq_true.mpr (fun y hy => by obtain ⟨z, _, rfl⟩ := List.mem_map.mp hy; rfl), ?_⟩
    show Q (.bl (inV (.str n) (ns.map V.str))) H
    rw [inV_str mem]
    exact q
end
end HT
namespace HT
open PySem L2 CwR
theorem op_mulS {X : Cx} : OpR X (binaryOp .Mult) (fun x y H Q => ∃ a n, x = .str a ∧ y = .int n ∧ PySem.MulOk a n ∧ Q (.str (Txt.mul a n)) H) := by
  intro pins s σ H x y v u Q I rx ry h
  obtain ⟨a, n, rfl, rfl, hm, q⟩ := h
  obtain ⟨t, rfl⟩ := rx
  obtain ⟨t2, rfl⟩ := ry
  exact PySem.SB.mul hm fun t' k => ⟨.str (Txt.mul a n), H, I.tok k, ⟨t', rfl⟩, q⟩
abbrev psT : List Str := ["figure", "places", "sign", "group", "width"]
/-- text_of, and its call -/
structure TxC (P : Program) (w : World) (K : PySem.W.Frag) (mg : Str → Option Value) (base : Heap) (f : Addr) (fd : FuncData) : Prop where
  D : FunD K "text_of" "text_of" (defArgs s_text_of) (defBody s_text_of) (defScope s_text_of) [] [("sign", .bl false), ("group", .bl false), ("width", .int 0)] f fd
  ok : FnOk P w K mg base CX0 4 f fd psT spText
  gl : mg "text_of" = some (.ref f)
  kp : PySem.W.keepIn K (.ref f) = true
section
variable {X : Cx} {j : Nat} {f : Addr} {fd : FuncData} {e : Expr} {es : List Expr} {kws : List Keyword} {t tk : TA} {p pos : Pos}
theorem pcT2 (C : TxC X.prog X.w X.K X.mg X.base f fd) (hr : Room j X.A) (hj : 4 ≤ j) (hg : Gl X "text_of") (ha : PA X (e :: es) t)
    (he : starEach (e :: es) X.env = (false, eval e X.env) :: starEach es X.env := by rfl) (hpl : (backTo pos (starEach es X.env)).any (·.1) = false := by rfl) : PE X (.Call (.Name "text_of" p) (e :: es) [] pos) (tCall spText [.bl false, .bl false, .int 0] E0 t) := by
  obtain ⟨ds, hd, hb⟩ := C.D.binds0 (ps := psT) 2 (by simp) rfl fun D doc pm an cdv ct us ks hu hk => match us, hu, ks, hk with
    | [_, _], _, [_, _, _], _ => ⟨_, _, _, _, _, _, rfl, rfl, _, _, _, _, _, _, rfl, rfl, _, _, _, _, _, _, rfl, rfl, rfl⟩
  exact pe_call C.ok (hr.mono hj) hg C.gl C.kp hb hd pass0 ha (by decide) he hpl
theorem pcT3 (C : TxC X.prog X.w X.K X.mg X.base f fd) (hr : Room j X.A) (hj : 4 ≤ j) (hg : Gl X "text_of") (ha : PA X (e :: es) t) (hkw : PK X kws tk) (hall : (backToKw pos (keywordEach kws X.env)).all (·.1.isSome) = true := by rfl) (hks : (backToKw pos (keywordEach kws X.env)).filterMap (·.1) = (["sign", "group", "width"] : List Str) := by rfl)
    (he : starEach (e :: es) X.env = (false, eval e X.env) :: starEach es X.env := by rfl) (hpl : ((backTo pos (starEach (e :: es) X.env)).any (·.1) || (backToKw pos (keywordEach kws X.env)).any (·.1.isNone)) = false := by rfl) :
    PE X (.Call (.Name "text_of" p) (e :: es) kws pos) (tCallN 2 3 spText (fun vs zs => vs ++ zs) E0 t tk) := by
  obtain ⟨mv, hb⟩ := C.D.kbinds0 (ps := psT) 2 ["sign", "group", "width"] [] (fun a _ z => a ++ z) (by simp) (fun _ h => by cases h) (fun a _ c => a.append c) fun D doc pm an cdv ct us mv ws hu hm hw => match us, hu, mv, hm, ws, hw with
    | [_, _], _, [], _, [_, _, _], _ => rfl
  exact pe_callN C.ok (hr.mono hj) hg C.gl C.kp hb pass0 ha hkw hall hks (by decide) he hpl
theorem pcT1 (C : TxC X.prog X.w X.K X.mg X.base f fd) (hr : Room j X.A) (hj : 4 ≤ j) (hg : Gl X "text_of") (ha : PA X (e :: es) t) (hkw : PK X kws tk) (hall : (backToKw pos (keywordEach kws X.env)).all (·.1.isSome) = true := by rfl) (hks : (backToKw pos (keywordEach kws X.env)).filterMap (·.1) = (["sign"] : List Str) := by rfl)
    (he : starEach (e :: es) X.env = (false, eval e X.env) :: starEach es X.env := by rfl) (hpl : ((backTo pos (starEach (e :: es) X.env)).any (·.1) || (backToKw pos (keywordEach kws X.env)).any (·.1.isNone)) = false := by rfl) :
    PE X (.Call (.Name "text_of" p) (e :: es) kws pos) (tCallN 2 1 spText (fun vs zs => vs ++ zs ++ [.bl false, .int 0]) E0 t tk) := by
  obtain ⟨mv, hb⟩ := C.D.kbinds0 (ps := psT) 2 ["sign"] [("group", .bl false), ("width", .int 0)] (fun a m z => a ++ z ++ m) (by simp) (fun q h => List.mem_cons_of_mem _ h) (fun a b c => (a.append c).append b) fun D doc pm an cdv ct us mv ws hu hm hw => match us, hu, mv, hm, ws, hw with
    | [_, _], _, [_, _], _, [_], _ => ⟨_, _, _, _, _, _, rfl, rfl, _, _, _, _, _, _, rfl, rfl, rfl⟩
  exact pe_callN C.ok (hr.mono hj) hg C.gl C.kp hb pass0 ha hkw hall hks (by decide) he hpl
end
end HT
namespace HT
open PySem L2
theorem all_rep (N : Nat) : (List.replicate N true).all id = true := by rw [List.all_eq_true]; intro x hx; rw [List.eq_of_mem_replicate hx]; rfl
theorem at_nat {xs : List V} {k : Nat} {y : V} (h : xs[k]? = some y) : atI xs (k : Int) = some y := by
  have hk : k < xs.length := (List.getElem?_eq_some_iff.mp h).1
  unfold atI
  rw [ixN_in (by omega) (by omega), Int.toNat_natCast]
  exact h
def EntOk (es : List Ent) : Ent → Prop
  | .side n o s m pl => NameP n ∧ findE es n = none ∧ SideP o s m ∧ pl ≤ 60
  | .set n ns => NameP n ∧ findE es n = none ∧ 1 ≤ ns.length ∧ ns.length ≤ 4 ∧ ∀ x ∈ ns, NameP x ∧ ∃ o s m pl, findE es x = some (.side x o s m pl)
  | .log n g ls => NameP n ∧ findE es n = none ∧ (∃ ns, ns.length ≤ 4 ∧ NameP g ∧ findE es g = some (.set g ns) ∧ ∀ l ∈ ls, l.1 ∈ ns) ∧ ls.length ≤ 50 ∧ ∀ l ∈ ls, NameP l.1 ∧ ∃ o s m pl fig, findE es l.1 = some (.side l.1 o s m pl) ∧ -10 ^ 62 < fig ∧ fig < 10 ^ 62 ∧ pl ≤ 60 ∧ l.2 = textM fig pl false false 0
def spTxFits : Sp := fun vs H Q _ => ∃ (n z : Str) (d : Addr) (es : List Ent) (o s : Int) (m : Str) (pl : Nat) (fig : Int), vs = [.str n, .str z, .ref d] ∧ KnownAt H d es ∧ findE es n = some (.side n o s m pl) ∧ -10 ^ 62 < fig ∧ fig < 10 ^ 62 ∧ pl ≤ 60 ∧ z = textM fig pl false false 0 ∧ ∀ H', Same H H' → Q (.bl true) H'
def spFits : Sp := fun vs H Q _ => ∃ (p d : Addr) (e : Ent) (es : List Ent), vs = [.ref p, .ref d] ∧ EntAt H p e ∧ EntOk es e ∧ KnownAt H d es ∧ ∀ H', Same H H' → Q (.bl true) H'
section
variable {P : Program} {w : World} {K : PySem.W.Frag} {mg : Str → Option Value} {base : Heap} {aN f1 f2 f3 f4 f5 : Addr} {d1 d2 d3 d4 d5 : FuncData}
theorem ok_names_fit {f : Addr} {fd : FuncData} (F : Fun K "names_fit" "names_fit" s_names_fit f fd) (T : EnT K mg aN) (Nm : Cal P w K mg base "_is_name" 1 ["thing"] spName f1 d1) (Kn : Cal P w K mg base "is_known" 1 ["kind", "name", "known"] spIsKn f2 d2) (Is : Cal P w K mg base "is_in_set" 1 ["name", "group", "known"] spInSet f3 d3) : FnOk P w K mg base CX0 2 f fd ["entry", "known"] spFits := by
  refine F.ok sc_names_fit (fun vs H Q E h => ?_) (fun cdv A outer s0 H vs Q E hr h => ?_)
  · obtain ⟨p, d, e, es, rfl, _⟩ := h
    rfl
  · obtain ⟨p, d, e, es, rfl, ea, ok, hk, q⟩ := h
    have nd := sc_names_fit.nd
    refine ⟨_, (pss_cons (ps_if (PW.pt (pw_or (pt_not (pt_val (pcl Nm hr (by decide) (by rfl) (pa_cons (pe_ix ix_tup (pv 0) pe_int (fun _ _ => rfl)) pa_nil)))) (pw_or1 (pt_cmp (pc_din (lt1 hr.units) (pe_ix ix_tup (pv 0) pe_int (fun _ _ => rfl)) (pv 1)) (by rfl))))) (pss_one (ps_ret pe_bl)) pss_nil)
      (pss_cons (ps_if (pt_cmpR op_eq (pe_ix ix_tup (pv 0) pe_int (fun _ _ => rfl)) pe_str (nomark _)) (pss_one (ps_ret (pe_callB (cr_all rfl) (by rfl) T.all (by decide +kernel) (pa_cons (pe_lc (own := [("name", 2)]) (g := gName 2) (tt := tYes) rfl nd (pi_tup (pe_ix ix_tup (pv 0) pe_int (fun _ _ => rfl))) (blkOk_by (N := ["entry", "known", "name", "_"]) (sc := defScope s_names_fit) (by decide +kernel)) (fun _ _ _ _ _ => pg_name (i := 2) nd rfl (Or.inl rfl)) (fun _ _ _ _ _ => pts_nil) (fun _ _ _ _ _ => (pcl Kn hr (by decide) (by rfl) (pa_cons pe_str (pa_cons (pv 2) (pa_cons (pv 1) pa_nil)))))) pa_nil)))) pss_nil)
      (pss_cons (ps_if (pt_cmpR op_eq (pe_ix ix_tup (pv 0) pe_int (fun _ _ => rfl)) pe_str (nomark _)) (pss_one (ps_ret (pe_and (pcl Kn hr (by decide) (by rfl) (pa_cons pe_str (pa_cons (pe_ix ix_tup (pv 0) pe_int (fun _ _ => rfl)) (pa_cons (pv 1) pa_nil)))) (pe_one (pe_callB (cr_all rfl) (by rfl) T.all (by decide +kernel) (pa_cons (pe_lc (own := [("name", 2), ("_", 3)]) (g := (gTup K 2 (gCons (gName 2) (gCons (gName 3) gNil)))) (tt := tYes) rfl nd (pi_tup (pe_ix ix_tup (pv 0) pe_int (fun _ _ => rfl))) (blkOk_by (N := ["entry", "known", "name", "_"]) (sc := defScope s_names_fit) (by decide +kernel)) (fun _ _ _ _ _ => pg_tup (by rfl) (pgs_cons (pg_name (i := 2) nd rfl (Or.inl rfl)) (pgs_cons (pg_name (i := 3) nd rfl (Or.inl rfl)) pgs_nil))) (fun _ _ _ _ _ => pts_nil) (fun _ _ _ _ _ => (pcl Is hr (by decide) (by rfl) (pa_cons (pv 2) (pa_cons (pe_ix (r := rIxT K) (by exact ix_tup) (pv 0) pe_int (fun _ _ => rfl)) (pa_cons (pv 1) pa_nil)))))) pa_nil)))))) pss_nil)
      (pss_one (ps_ret pe_bl))))), ?_⟩
    walk_at "rd"
    cases e with
    | side n o s m pl =>
      obtain ⟨hn, fr, sp, p60⟩ := ok
      obtain ⟨qa, hp, hq⟩ := ea
      refine ⟨p, _, _, _, rfl, rfl, SqT.of hp, at_nat (k := 1) rfl, ?_⟩
      walk_at "rd"
      refine ⟨hn, fun H1 s1 => ?_⟩
      have hp1 := s1 _ _ hp
      have hk1 := hk.same s1
      refine ⟨_, rfl, ?_⟩
      refine ite2 (fun z => absurd z (by decide)) (fun _ => ?_)
      walk_at "rd"
      refine ⟨p, _, _, _, rfl, rfl, SqT.of hp1, at_nat (k := 1) rfl, ?_⟩
      walk_at "rd"
      refine ⟨d, _, rfl, known_none hk1 fr, ?_⟩
      refine ⟨_, rfl, ?_⟩
      refine ite2 (fun z => absurd z (by decide)) (fun _ => ?_)
      walk_at "rd"
      refine ⟨p, _, _, _, rfl, rfl, SqT.of hp1, at0, ?_⟩
      walk_at "rd"
      refine ⟨rfl, _, rfl, ?_⟩
      refine ite2 (fun z => absurd z (by decide +kernel)) (fun _ => ?_)
      walk_at "rd"
      refine ⟨p, _, _, _, rfl, rfl, SqT.of hp1, at0, ?_⟩
      walk_at "rd"
      refine ⟨rfl, _, rfl, ?_⟩
      refine ite2 (fun z => absurd z (by decide +kernel)) (fun _ => ?_)
      walk_at "rd"
      exact q H1 s1
    | set n ns =>
      obtain ⟨hn, fr, n1, n4, al⟩ := ok
      obtain ⟨qa, hp, hq⟩ := ea
      refine ⟨p, _, _, _, rfl, rfl, SqT.of hp, at_nat (k := 1) rfl, ?_⟩
      walk_at "rd"
      refine ⟨hn, fun H1 s1 => ?_⟩
      have hp1 := s1 _ _ hp
      have hk1 := hk.same s1
      refine ⟨_, rfl, ?_⟩
      refine ite2 (fun z => absurd z (by decide)) (fun _ => ?_)
      walk_at "rd"
      refine ⟨p, _, _, _, rfl, rfl, SqT.of hp1, at_nat (k := 1) rfl, ?_⟩
      walk_at "rd"
      refine ⟨d, _, rfl, known_none hk1 fr, ?_⟩
      refine ⟨_, rfl, ?_⟩
      refine ite2 (fun z => absurd z (by decide)) (fun _ => ?_)
      walk_at "rd"
      refine ⟨p, _, _, _, rfl, rfl, SqT.of hp1, at0, ?_⟩
      walk_at "rd"
      refine ⟨rfl, _, rfl, ?_⟩
      refine ite2 (fun _ => ?_) (fun z => absurd (decide_eq_true rfl) z)
      walk_at "rd"
      refine ⟨p, _, _, _, rfl, rfl, SqT.of hp1, at_nat (k := 2) rfl, ?_⟩
      have hq1 := s1 _ _ hq
      refine ⟨qa, rfl, ⟨_, SqT.of hq1⟩, fun D nD => ?_⟩
      refine lc_it (walk_tup (K := K) (a := qa) (xs := ns.map V.str)) (fun j H3 => H3 D = some (.lst ((List.replicate j true).map V.bl)) ∧ Same H1 H3) ⟨upd_same, fun b u z => (upd_ne (ne_of_none z nD)).trans z⟩ (fun _ _ _ ⟨_, s3⟩ => SqT.of (s3 _ _ hq1)) ?_ ?_
      · rintro j y H3 H4 hj ⟨hD, s3⟩ ⟨rfl, ey⟩
        rw [List.getElem?_map] at ey
        obtain ⟨x, ex, rfl⟩ := Option.map_eq_some_iff.mp ey
        obtain ⟨_, o, s, m, pl, fe⟩ := al x (List.mem_of_getElem? ex)
        refine ⟨rfl, ?_⟩
        walk_at "rd"
        refine ⟨_, x, d, es, _, rfl, hk1.same s3, fe, rfl, ?_⟩
        refine ⟨_, hD, ?_, ?_, fun b u z => (upd_ne (ne_of_none z nD)).trans (s3 _ _ z)⟩
        · rw [List.length_map, List.length_replicate]
          rw [List.length_map] at hj
          exact Nat.lt_of_lt_of_le (Nat.lt_of_lt_of_le hj n4) (by decide)
        · rw [List.replicate_succ', List.map_append]
          exact upd_same
      rintro H3 ⟨hD, s3⟩
      walk_at "rd"
      refine ⟨D, _, rfl, SqL.of hD, ?_⟩
      walk_at "rd"
      rw [all_rep]
      exact q H3 (s1.trans s3)
    | log n g ls =>
      obtain ⟨hn, fr, ⟨ns, n4, _, fg, al⟩, l50, _⟩ := ok
      obtain ⟨qa, ps, hp, hq, lp, ap⟩ := ea
      refine ⟨p, _, _, _, rfl, rfl, SqT.of hp, at_nat (k := 1) rfl, ?_⟩
      walk_at "rd"
      refine ⟨hn, fun H1 s1 => ?_⟩
      have hp1 := s1 _ _ hp
      have hk1 := hk.same s1
      refine ⟨_, rfl, ?_⟩
      refine ite2 (fun z => absurd z (by decide)) (fun _ => ?_)
      walk_at "rd"
      refine ⟨p, _, _, _, rfl, rfl, SqT.of hp1, at_nat (k := 1) rfl, ?_⟩
      walk_at "rd"
      refine ⟨d, _, rfl, known_none hk1 fr, ?_⟩
      refine ⟨_, rfl, ?_⟩
      refine ite2 (fun z => absurd z (by decide)) (fun _ => ?_)
      walk_at "rd"
      refine ⟨p, _, _, _, rfl, rfl, SqT.of hp1, at0, ?_⟩
      walk_at "rd"
      refine ⟨rfl, _, rfl, ?_⟩
      refine ite2 (fun z => absurd z (by decide +kernel)) (fun _ => ?_)
      walk_at "rd"
      refine ⟨p, _, _, _, rfl, rfl, SqT.of hp1, at0, ?_⟩
      walk_at "rd"
      refine ⟨rfl, _, rfl, ?_⟩
      refine ite2 (fun _ => ?_) (fun z => absurd (decide_eq_true rfl) z)
      walk_at "rd"
      refine ⟨p, _, _, _, rfl, rfl, SqT.of hp1, at_nat (k := 2) rfl, ?_⟩
      walk_at "rd"
      refine ⟨_, g, d, es, _, rfl, hk1, fg, rfl, ?_⟩
      refine ⟨_, rfl, ?_⟩
      refine ite2 (fun _ => ?_) (fun z => absurd rfl z)
      walk_at "rd"
      refine ⟨p, _, _, _, rfl, rfl, SqT.of hp1, at_nat (k := 3) rfl, ?_⟩
      have hq1 := s1 _ _ hq
      refine ⟨qa, rfl, ⟨_, SqT.of hq1⟩, fun D nD => ?_⟩
      refine lc_it (walk_tup (K := K) (a := qa) (xs := ps.map V.ref)) (fun j H3 => H3 D = some (.lst ((List.replicate j true).map V.bl)) ∧ Same H1 H3) ⟨upd_same, fun b u z => (upd_ne (ne_of_none z nD)).trans z⟩ (fun _ _ _ ⟨_, s3⟩ => SqT.of (s3 _ _ hq1)) ?_ ?_
      · rintro j y H3 H4 hj ⟨hD, s3⟩ ⟨rfl, ey⟩
        rw [List.getElem?_map] at ey
        obtain ⟨x, ex, rfl⟩ := Option.map_eq_some_iff.mp ey
        rw [List.length_map] at hj
        obtain ⟨li, el⟩ : ∃ li, ls[j]? = some li := ⟨_, List.getElem?_eq_getElem (by omega)⟩
        have hx := s3 _ _ (s1 _ _ (ap j x li ex el))
        refine ⟨x, _, rfl, SqT.of hx, rfl, _, _, rfl, _, _, rfl, rfl, ?_⟩
        refine ⟨rfl, ?_⟩
        walk_at "rd"
        refine ⟨p, _, _, _, rfl, rfl, SqT.of (s3 _ _ hp1), at_nat (k := 2) rfl, ?_⟩
        walk_at "rd"
        refine ⟨li.1, g, g, d, es, ns, rfl, hk1.same s3, fg, al li (List.mem_of_getElem? el), n4, ?_⟩
        refine ⟨_, hD, ?_, ?_, fun b u z => (upd_ne (ne_of_none z nD)).trans (s3 _ _ z)⟩
        · rw [List.length_map, List.length_replicate]
          exact Nat.lt_of_lt_of_le (by omega : j < 51) (by decide)
        · rw [List.replicate_succ', List.map_append]
          exact upd_same
      rintro H3 ⟨hD, s3⟩
      walk_at "rd"
      refine ⟨D, _, rfl, SqL.of hD, ?_⟩
      walk_at "rd"
      rw [all_rep]
      exact q H3 (s1.trans s3)
end
end HT
namespace HT
open PySem L2 CwR TL
def spTxX : Sp := fun vs H Q _ => ∃ (n z : Str) (d : Addr) (es : List Ent) (o s : Int) (m : Str) (pl : Nat), vs = [.str n, .str z, .ref d] ∧ KnownAt H d es ∧ findE es n = some (.side n o s m pl) ∧ z.length ≤ 510 ∧ pl ≤ 60 ∧ ∀ H', Same H H' → Q (.bl (fitsM z pl)) H'
section
variable {P : Program} {w : World} {K : PySem.W.Frag} {mg : Str → Option Value} {base : Heap} {aN D f1 f2 f3 f4 f5 : Addr} {d1 d2 d3 d4 d5 : FuncData}
theorem ok_text_fits_x {f : Addr} {fd : FuncData} (F : Fun K "text_fits" "text_fits" s_text_fits f fd) (Tx : TxC P w K mg base f1 d1) (gI : mg "InvalidText" = some (.ref D)) (em : PySem.W.exmOne K (.ref D) (.ref D) = some true) (Rd : CalX P w K mg base "read_text" 5 ["text"] (spRead D) f2 d2) : FnOk P w K mg base CX0 6 f fd ["name", "text", "known"] spTxX := by
  refine F.ok sc_text_fits (fun vs H Q E h => ?_) (fun cdv A outer s0 H vs Q E hr h => ?_)
  · obtain ⟨n, z, d, es, o, s, m, pl, rfl, _⟩ := h
    rfl
  · obtain ⟨n, z, d, es, o, s, m, pl, rfl, hk, fe, zl, p60, q⟩ := h
    have nd := sc_text_fits.nd
    obtain ⟨p, g, qa, hp, hq⟩ := known_some hk fe
    refine ⟨_, pss_cons (ps_asg (pe_dget (lt1 hr.units) (pv 2) (pv 0) (fun _ _ => rfl)) (pg_tup (by rfl) (pgs_cons (pg_name (i := 3) nd rfl (Or.inl rfl)) (pgs_cons (pg_name (i := 3) nd rfl (Or.inl rfl)) (pgs_cons (pg_name (i := 3) nd rfl (Or.inl rfl)) (pgs_cons (pg_name (i := 4) nd rfl (Or.inl rfl)) pgs_nil))))))
      (pss_cons (ps_try_only rfl rfl ⟨rfl, by decide, .inl gI⟩ takes0 (fun W pn xe tk _ => pss_one (ps_asg (pcx Rd hr (by decide) (by rfl) tk (pa_cons (pv 1) pa_nil)) (show PG _ _ (gTup K 2 (gCons (gName 5) (gCons (gName 3) gNil))) from pg_tup (by rfl) (pgs_cons (pg_name (i := 5) nd rfl (Or.inl rfl)) (pgs_cons (pg_name (i := 3) nd rfl (Or.inl rfl)) pgs_nil))))) (fun a oe cls d pn _ _ => pss_one (ps_ret pe_bl)))
      (pss_one (ps_ret (pe_cmpR op_eq (pcT2 Tx hr (by decide) (by rfl) (pa_cons (pv 5) (pa_cons (pv 4) pa_nil))) (pv 1) (nomark _))))), ?_⟩
    walk_at "rd"
    refine ⟨d, _, rfl, g, ?_⟩
    refine ⟨p, _, rfl, SqT.of hp, rfl, _, _, rfl, _, _, rfl, _, _, rfl, _, _, rfl, rfl, ?_⟩
    walk_at "rd"
    have fm : fitsM z pl = ((outM z).1 && decide (textM (figM z) pl false false 0 = z)) := rfl
    refine .inr ⟨z, rfl, by omega, fun good q1 H1 _ s1 hq1 => ?_, fun bad d2 H1 _ s1 _ => ?_⟩
    · refine ⟨q1, _, rfl, SqT.of hq1, rfl, _, _, rfl, _, _, rfl, rfl, ?_⟩
      walk_at "rd"
      obtain ⟨b0, b1⟩ := fig_bound zl
      refine ⟨figM z, pl, false, false, 0, rfl, b0, b1, p60, by decide, by decide, fun H2 s2 => ?_⟩
      walk_at "rd"
      refine ⟨rfl, ?_⟩
      rw [dec_str]
      rw [good, Bool.true_and] at fm
      rw [← fm]
      exact q _ (s1.trans s2)
    · refine ⟨true, em, fun _ a ha => ?_, fun z => Bool.noConfusion z⟩
      rw [bad, Bool.false_and] at fm
      rw [fm] at q
      exact q _ s1
end
end HT
namespace HT
open PySem L2
/-- an own error that may be raised with a text -/
structure Rz (K : PySem.W.Frag) (mg : Str → Option Value) (x : Str) (D : Addr) : Prop where
  ex : PySem.W.excIn K D [.type "ValueError", .type "Exception", .type "BaseException", .type "object"] "ValueError.__new__" = true
  gl : mg x = some (.ref D)
  kp : PySem.W.keepIn K (.ref D) = true
  sb : PySem.W.subIn K (.ref D) (.type "BaseException") = some true
  ty : PySem.W.typeIn K (.ref D) = some (.type "type")
  em : PySem.W.exmOne K (.ref D) (.ref D) = some true
theorem not_t' {b : Bool} (h : (!b) = true) : b = false := by cases b <;> simp_all
def sideB (o s : Int) (m : Str) : Bool := (decide (-(10 : Int) ^ (40 : Int).toNat ≤ o) && decide (o ≤ (10 : Int) ^ (40 : Int).toNat)) && ((decide ((1 : Int) ≤ s) && decide (s ≤ (10 : Int) ^ (30 : Int).toNat)) && inV (.str m) modesV)
def spSideX (D : Addr) : Sp := fun vs H Q E => ∃ (p : Addr) (o s : Int) (m : Str), vs = [.ref p] ∧ H p = some (sideV o s m) ∧ (sideB o s m = true → Q .non H) ∧ (sideB o s m = false → E (.ref D) none H)
def spIsSideX : Sp := fun vs H Q _ => ∃ (p : Addr) (o s : Int) (m : Str), vs = [.ref p] ∧ H p = some (sideV o s m) ∧ Q (.bl (sideB o s m)) H
section
variable {P : Program} {w : World} {K : PySem.W.Frag} {mg : Str → Option Value} {base : Heap} {aM D fB : Addr} {dB : FuncData}
theorem ok_check_side_x {f : Addr} {fd : FuncData} (F : Fun K "check_side" "check_side" s_check_side f fd) (T : SideT K mg aM) (R : Rz K mg "InvalidSide" D) (B : Cal P w K mg base "is_int_between" 2 ["thing", "least", "most"] spBetween fB dB) : FnOk P w K mg base (L2.CX P w) 3 f fd ["side"] (spSideX D) := by
  refine F.okX sc_check_side (fun vs H Q E h => ?_) (fun cdv A outer s H vs Q E hr h => ?_)
  · obtain ⟨p, o, s, m, rfl, _⟩ := h
    rfl
  · obtain ⟨p, o, s, m, rfl, hp, q1, q2⟩ := h
    have nd := sc_check_side.nd
    refine ⟨_, pss_cons (ps_if (PW.pt (pw_or (pt_not (pt_val (pe_callB call_isi (by rfl) T.isi (by decide +kernel) (pa_cons (pv 0) (pa_cons (pe_bltn (v := .ty "tuple") (by rfl) T.tuple (by decide +kernel) rfl) pa_nil)))))
        (pw_or1 (pt_cmpR op_ne (pe_callB call_len_seq (by rfl) T.len PySem.boot_len (pa_cons (pv 0) pa_nil)) pe_int (nomark _))))) (pss_one ps_never) pss_nil)
      (pss_cons (ps_asg (pv 0) (pg_tup (by rfl) (pgs_cons (pg_name (i := 1) nd rfl (Or.inl rfl)) (pgs_cons (pg_name (i := 2) nd rfl (Or.inl rfl)) (pgs_cons (pg_name (i := 3) nd rfl (Or.inl rfl)) pgs_nil)))))
      (pss_cons (ps_if (pt_not (pt_val (pcl B hr (by decide) (by rfl) (pa_cons (pv 1) (pa_cons (pe_un un_neg (pe_op op_pow pe_int pe_int)) (pa_cons (pe_op op_pow pe_int pe_int) pa_nil)))))) (pss_one (ps_raise rfl (takes_of rfl rfl rfl rfl) (pmk_own PySem.F.excBase_ValueError R.ex R.gl R.kp (raises_own R.sb R.ty) (by rfl)))) pss_nil)
      (pss_cons (ps_if (pt_not (pt_val (pcl B hr (by decide) (by rfl) (pa_cons (pv 2) (pa_cons pe_int (pa_cons (pe_op op_pow pe_int pe_int) pa_nil)))))) (pss_one (ps_raise rfl (takes_of rfl rfl rfl rfl) (pmk_own PySem.F.excBase_ValueError R.ex R.gl R.kp (raises_own R.sb R.ty) (by rfl)))) pss_nil)
      (pss_one (ps_if (pt_cmpR op_notIn_seq (pv 3) (pe_glob (v := .ref aM) (by rfl) T.gM rfl) (by rfl)) (pss_one (ps_raise rfl (takes_of rfl rfl rfl rfl) (pmk_own PySem.F.excBase_ValueError R.ex R.gl R.kp (raises_own R.sb R.ty) (by rfl)))) pss_nil))))), ?_⟩
    unfold sideB at q1 q2
    walk_at "rd"
    refine ⟨_, _, _, _, _, rfl, .ty "tuple", .base (.tup hp), kit_ty (r := true) (by decide +kernel), ?_⟩
    walk_at "rd"
    refine ⟨p, _, rfl, .inr (SqT.of hp), rfl, ?_⟩
    walk_at "rd"
    refine ⟨p, _, rfl, SqT.of hp, rfl, _, _, rfl, _, _, rfl, _, _, rfl, rfl, ?_⟩
    walk_at "rd"
    refine ⟨⟨by decide, by decide, by decide⟩, ?_⟩
    walk_at "rd"
    refine ⟨⟨by decide, by decide, by decide⟩, _, _, _, rfl, ?_⟩
    refine ⟨_, rfl, ?_⟩
    refine ite2 (fun h => ?_) (fun h => ?_)
    · rw [not_t' h, Bool.false_and] at q2
      exact q2 rfl
    rw [not_f h, Bool.true_and] at q1 q2
    walk_at "rd"
    refine ⟨⟨by decide, by decide, by decide⟩, _, _, _, rfl, ?_⟩
    refine ⟨_, rfl, ?_⟩
    refine ite2 (fun h => ?_) (fun h => ?_)
    · rw [not_t' h, Bool.false_and] at q2
      exact q2 rfl
    rw [not_f h, Bool.true_and] at q1 q2
    walk_at "rd"
    refine ⟨aM, _, rfl, .inr (T.tM H), rfl, by decide, ?_⟩
    walk_at "rd"
    refine ite2 (fun h => ?_) (fun h => ?_)
    · exact q2 (not_t' h)
    exact q1 (not_f h)
theorem ok_is_side_x {f : Addr} {fd : FuncData} (F : Fun K "is_side" "is_side" s_is_side f fd) (R : Rz K mg "InvalidSide" D) (Ck : CalX P w K mg base "check_side" 3 ["side"] (spSideX D) fB dB) : FnOk P w K mg base CX0 4 f fd ["thing"] spIsSideX := by
  refine F.ok sc_is_side (fun vs H Q E h => ?_) (fun cdv A outer s0 H vs Q E hr h => ?_)
  · obtain ⟨p, o, s, m, rfl, _⟩ := h
    rfl
  · obtain ⟨p, o, s, m, rfl, hp, q⟩ := h
    refine ⟨_, pss_cons (ps_try_only rfl rfl ⟨rfl, by decide, .inl R.gl⟩ takes0 (fun W pn xe tk _ => pss_one (ps_expr (pcx Ck hr (by decide) (by rfl) tk (pa_cons (pv 0) pa_nil)))) (fun a oe cls d pn _ _ => pss_one (ps_ret pe_bl))) (pss_one (ps_ret pe_bl)), ?_⟩
    walk_at "rd"
    refine ⟨p, o, s, m, rfl, hp, fun g => ?_, fun b => ?_⟩
    · walk_at "rd"
      rw [g] at q
      exact q
    · refine ⟨true, R.em, fun _ a ha => ?_, fun z => Bool.noConfusion z⟩
      rw [b] at q
      exact q
end
end HT
namespace HT
open PySem L2
def nameB (n : Str) : Bool := (decide (1 ≤ n.length) && decide (n.length ≤ 8)) && (!inV (.str n) noN && n.cps.toList.all fun c => decide (c ∈ lettS.cps.toList))
def spNameX : Sp := fun vs H Q _ => ∃ n : Str, vs = [.str n] ∧ n.length ≤ 10000 ∧ ∀ H', Same H H' → Q (.bl (nameB n)) H'
def kindB (es : List Ent) (k n : Str) : Bool := match findE es n with
  | some e => decide (e.kind = k)
  | none => false
def spIsKnX : Sp := fun vs H Q _ => ∃ (k n : Str) (d : Addr) (es : List Ent), vs = [.str k, .str n, .ref d] ∧ KnownAt H d es ∧ Q (.bl (kindB es k n)) H
def spInSetX : Sp := fun vs H Q _ => ∃ (n g g2 : Str) (d : Addr) (es : List Ent) (ns : List Str), vs = [.str n, .str g, .ref d] ∧ KnownAt H d es ∧ findE es g = some (.set g2 ns) ∧ Q (.bl (inV (.str n) (ns.map V.str))) H
section
variable {P : Program} {w : World} {K : PySem.W.Frag} {mg : Str → Option Value} {base : Heap} {aN fB : Addr} {dB : FuncData}
theorem ok_is_name_x {f : Addr} {fd : FuncData} (F : Fun K "_is_name" "_is_name" s_is_name f fd) (T : EnT K mg aN) : FnOk P w K mg base CX0 1 f fd ["thing"] spNameX := by
  refine F.ok sc_is_name (fun vs H Q E h => ?_) (fun cdv A outer s H vs Q E hr h => ?_)
  · obtain ⟨n, rfl, _⟩ := h
    rfl
  · obtain ⟨n, rfl, nl, q⟩ := h
    have nd := sc_is_name.nd
    obtain ⟨tl, hl⟩ := T.lt
    obtain ⟨tm, hm⟩ := T.ml
    refine ⟨_, (pss_cons (ps_if (PW.pt (pw_or (pt_not (pt_val (pe_callB call_isi (by rfl) T.isi (by decide +kernel) (pa_cons (pv 0) (pa_cons (pe_bltn (v := .ty "str") (by rfl) T.str (by decide +kernel) rfl) pa_nil))))) (pw_or1 (pt_not (pt_chain op_le op_le pe_int (pe_callB call_len_str (by rfl) T.len PySem.boot_len (pa_cons (pv 0) pa_nil)) (pe_glob (v := .int 8) (by rfl) hm ⟨_, rfl⟩)))))) (pss_one (ps_ret pe_bl)) pss_nil)
      (pss_one (ps_ret (pe_and (pe_cmpR op_notIn_seq (pv 0) (pe_glob (v := .ref aN) (by rfl) T.gN rfl) (by rfl)) (pe_one (pe_callB (cr_all rfl) (by rfl) T.all (by decide +kernel) (pa_cons (pe_lc (own := [("letter", 1)]) (g := gName 1) (tt := tYes) rfl nd (pi_str (pv 0)) (blkOk_by (N := ["thing", "letter"]) (sc := defScope s_is_name) (by decide +kernel)) (fun _ _ _ _ _ => pg_name (i := 1) nd rfl (Or.inl rfl)) (fun _ _ _ _ _ => pts_nil) (fun _ _ _ _ _ => (pe_cmpR op_in_sign (pv 1) (pe_glob (v := .str lettS) (by rfl) hl ⟨_, rfl⟩) (by rfl)))) pa_nil))))))), ?_⟩
    unfold nameB at q
    walk_at "rd"
    refine ⟨_, _, _, _, _, rfl, .ty "str", .base (.str n), kit_ty (r := true) (by decide +kernel), ?_⟩
    walk_at "rd"
    refine ⟨Nat.le_trans nl (by decide), ?_⟩
    walk_at "rd"
    refine ite2 (fun h1 => ?_) (fun h1 => ?_)
    · have f1 : 1 ≤ n.length := by have := of_decide_eq_true h1; omega
      rw [decide_eq_true f1, Bool.true_and] at q
      walk_at "rd"
      refine ite2 (fun h2 => ?_) (fun h2 => ?_)
      · have f2 : ¬ n.length ≤ 8 := by
          have h2' := not_t' h2
          have := of_decide_eq_false h2'
          omega
        rw [decide_eq_false f2, Bool.false_and] at q
        walk_at "rd"
        exact q H fun b u z => z
      · have f2 : n.length ≤ 8 := by
          have := of_decide_eq_true (not_f h2)
          omega
        rw [decide_eq_true f2, Bool.true_and] at q
        walk_at "rd"
        refine ⟨aN, _, rfl, .inr (T.tN _), rfl, by decide, ?_⟩
        walk_at "rd"
        refine ite2 (fun h3 => ?_) (fun h3 => ?_)
        · have h3' : (!inV (.str n) noN) = true := h3
          rw [h3', Bool.true_and] at q
          walk_at "rd"
          refine fun D nD => ?_
          refine lc_it (walk_str (z := n)) (fun j H3 => H3 D = some (.lst (((n.cps.toList.take j).map fun c => decide (c ∈ lettS.cps.toList)).map V.bl)) ∧ Same H H3) ⟨upd_same, fun b u z => (upd_ne (ne_of_none z nD)).trans z⟩ (fun _ _ _ _ => trivial) ?_ ?_
          · rintro j y H3 H4 hj ⟨hD, s3⟩ ⟨rfl, c, ec, rfl⟩
            refine ⟨rfl, ?_⟩
            walk_at "rd"
            refine ⟨_, hD, ?_, ?_, fun b u z => (upd_ne (ne_of_none z nD)).trans (s3 _ _ z)⟩
            · rw [List.length_map, List.length_map, List.length_take]
              exact Nat.lt_of_le_of_lt (by have : n.cps.toList.length = n.length := Array.length_toList; omega : _ ≤ 8) (by decide)
            · have ec' : n.cps.toList[j]? = some c := by rw [Array.getElem?_toList]; exact ec
              rw [List.take_succ, ec', List.map_append, List.map_append]
              exact upd_same
          rintro H3 ⟨hD, s3⟩
          have e0 : n.cps.toList.take n.cps.size = n.cps.toList := List.take_of_length_le (by rw [Array.length_toList]; exact Nat.le_refl _)
          rw [e0] at hD
          walk_at "rd"
          refine ⟨D, _, rfl, SqL.of hD, ?_⟩
          have e : ((n.cps.toList.map fun c => decide (c ∈ lettS.cps.toList))).all id = n.cps.toList.all fun c => decide (c ∈ lettS.cps.toList) := by rw [List.all_map]; rfl
          rw [e]
          exact q H3 s3
        · have h3' : (!inV (.str n) noN) = false := by
            cases hh : (!inV (.str n) noN) with
            | false => rfl
            | true => exact absurd hh h3
          rw [h3', Bool.false_and] at q
          exact q H fun b u z => z
    · have f1 : ¬ 1 ≤ n.length := fun x => h1 (decide_eq_true (by omega))
      rw [decide_eq_false f1, Bool.false_and, Bool.false_and] at q
      walk_at "rd"
      exact q H fun b u z => z
theorem ok_is_known_x {f : Addr} {fd : FuncData} (F : Fun K "is_known" "is_known" s_is_known f fd) (T : EnT K mg aN) : FnOk P w K mg base CX0 1 f fd ["kind", "name", "known"] spIsKnX := by
  refine F.ok sc_is_known (fun vs H Q E h => ?_) (fun cdv A outer s H vs Q E hr h => ?_)
  · obtain ⟨k, n, d, es, rfl, _⟩ := h
    rfl
  · obtain ⟨k, n, d, es, rfl, hk, q⟩ := h
    have nd := sc_is_known.nd
    refine ⟨_, (pss_one (ps_ret (pe_and (pe_callB call_isi (by rfl) T.isi (by decide +kernel) (pa_cons (pv 1) (pa_cons (pe_bltn (v := .ty "str") (by rfl) T.str (by decide +kernel) rfl) pa_nil))) (pe_and (pe_cmp (pc_din (lt1 hr.units) (pv 1) (pv 2)) (by rfl)) (pe_one (pe_cmpR op_eq (pe_ix ix_tup (pe_dget (lt1 hr.units) (pv 2) (pv 1) (fun _ _ => rfl)) pe_int (fun _ _ => rfl)) (pv 0) (nomark _))))))), ?_⟩
    walk_at "rd"
    refine ⟨_, _, _, _, _, rfl, .ty "str", .base (.str n), kit_ty (r := true) (by decide +kernel), ?_⟩
    walk_at "rd"
    unfold kindB at q
    cases fe : findE es n with
    | none =>
      rw [fe] at q
      refine ⟨d, _, rfl, known_none hk fe, _, rfl, ?_⟩
      refine ite2 (fun z => absurd z (by decide)) (fun _ => ?_)
      exact q
    | some e =>
      rw [fe] at q
      obtain ⟨p, g, ea⟩ := known_some hk fe
      obtain ⟨xs, hp⟩ := ea.tup
      refine ⟨d, _, rfl, g, _, rfl, ?_⟩
      refine ite2 (fun _ => ?_) (fun z => absurd rfl z)
      walk_at "rd"
      refine ⟨d, _, rfl, g, ?_⟩
      walk_at "rd"
      refine ⟨p, _, _, _, rfl, rfl, SqT.of hp, at0, ?_⟩
      walk_at "rd"
      refine ⟨rfl, ?_⟩
      rw [dec_str]
      exact q
theorem ok_in_set_x {f : Addr} {fd : FuncData} (F : Fun K "is_in_set" "is_in_set" s_is_in_set f fd) : FnOk P w K mg base CX0 1 f fd ["name", "group", "known"] spInSetX := by
  refine F.ok sc_is_in_set (fun vs H Q E h => ?_) (fun cdv A outer s H vs Q E hr h => ?_)
  · obtain ⟨n, g, g2, d, es, ns, rfl, _⟩ := h
    rfl
  · obtain ⟨n, g, g2, d, es, ns, rfl, hk, fe, q⟩ := h
    have nd := sc_is_in_set.nd
    obtain ⟨p, gg, ea⟩ := known_some hk fe
    obtain ⟨qa, hp, hq⟩ := ea
    refine ⟨_, (pss_cons (ps_asg (pe_dget (lt1 hr.units) (pv 2) (pv 1) (fun _ _ => rfl)) (pg_tup (by rfl) (pgs_cons (pg_name (i := 3) nd rfl (Or.inl rfl)) (pgs_cons (pg_name (i := 3) nd rfl (Or.inl rfl)) (pgs_cons (pg_name (i := 4) nd rfl (Or.inl rfl)) pgs_nil)))))
      (pss_one (ps_ret (pe_cmpR op_in_seq (pv 0) (pv 4) (by rfl))))), ?_⟩
    walk_at "rd"
    refine ⟨d, _, rfl, gg, ?_⟩
    refine ⟨p, _, rfl, SqT.of hp, rfl, _, _, rfl, _, _, rfl, _, _, rfl, rfl, ?_⟩
    walk_at "rd"
    refine ⟨qa, _, rfl, .inr (SqT.of hq), rfl, List.all_eq_true.mpr (fun y hy => by obtain ⟨z, _, rfl⟩ := List.mem_map.mp hy; rfl), ?_⟩
    exact q
end
end HT
namespace HT
open PySem L2
/-- an entry as a line of words tells it, a log without its lines -/
inductive RawE where
  | side (n : Str) (o s : Int) (m : Str) (pl : Int)
  | set (n : Str) (ns : List Str)
  | log (n g : Str)
def RawE.name : RawE → Str
  | .side n .. => n
  | .set n _ => n
  | .log n _ => n
def RawAt (H : Hp) (p : Addr) : RawE → Prop
  | .side n o s m pl => ∃ q, H p = some (.tup [.str "side", .str n, .ref q, .int pl]) ∧ H q = some (sideV o s m)
  | .set n ns => ∃ q, H p = some (.tup [.str "set", .str n, .ref q]) ∧ H q = some (.tup (ns.map V.str))
  | .log n g => ∃ q, H p = some (.tup [.str "log", .str n, .str g, .ref q]) ∧ H q = some (.tup [])
theorem RawAt.same {H H' : Hp} {p : Addr} {e : RawE} (h : RawAt H p e) (s : Same H H') : RawAt H' p e := by
  cases e <;> (obtain ⟨q, a, b⟩ := h; exact ⟨q, s _ _ a, s _ _ b⟩)
def RawE.small : RawE → Prop
  | .set _ ns => ns.length ≤ 1000000
  | _ => True
def linksB (es : List Ent) : RawE → Bool
  | .side .. => true
  | .set _ ns => ns.all fun x => kindB es "side" x
  | .log _ g => kindB es "set" g
def namesB (es : List Ent) (e : RawE) : Bool := nameB e.name && ((findE es e.name).isNone && linksB es e)
def worthsB : RawE → Bool
  | .side _ o s m pl => sideB o s m && (decide (0 ≤ pl) && decide (pl ≤ 60))
  | .set _ ns => decide (1 ≤ ns.length) && decide (ns.length ≤ 4)
  | .log .. => true
def spNamesX : Sp := fun vs H Q _ => ∃ (p d : Addr) (e : RawE) (es : List Ent), vs = [.ref p, .ref d] ∧ RawAt H p e ∧ e.small ∧ e.name.length ≤ 10000 ∧ KnownAt H d es ∧ ∀ H', Same H H' → Q (.bl (namesB es e)) H'
def spWorthsX : Sp := fun vs H Q _ => ∃ (p d : Addr) (e : RawE), vs = [.ref p, .ref d] ∧ RawAt H p e ∧ e.small ∧ ∀ H', Same H H' → Q (.bl (worthsB e)) H'
section
variable {P : Program} {w : World} {K : PySem.W.Frag} {mg : Str → Option Value} {base : Heap} {aN f1 f2 f3 f4 f5 : Addr} {d1 d2 d3 d4 d5 : FuncData}
theorem ok_names_fit_x {f : Addr} {fd : FuncData} (F : Fun K "names_fit" "names_fit" s_names_fit f fd) (T : EnT K mg aN) (Nm : Cal P w K mg base "_is_name" 1 ["thing"] spNameX f1 d1) (Kn : Cal P w K mg base "is_known" 1 ["kind", "name", "known"] spIsKnX f2 d2) (Is : Cal P w K mg base "is_in_set" 1 ["name", "group", "known"] spInSetX f3 d3) : FnOk P w K mg base CX0 2 f fd ["entry", "known"] spNamesX := by
  refine F.ok sc_names_fit (fun vs H Q E h => ?_) (fun cdv A outer s0 H vs Q E hr h => ?_)
  · obtain ⟨p, d, e, es, rfl, _⟩ := h
    rfl
  · obtain ⟨p, d, e, es, rfl, ea, sm, nl, hk, q⟩ := h
    have nd := sc_names_fit.nd
    refine ⟨_, (pss_cons (ps_if (PW.pt (pw_or (pt_not (pt_val (pcl Nm hr (by decide) (by rfl) (pa_cons (pe_ix ix_tup (pv 0) pe_int (fun _ _ => rfl)) pa_nil)))) (pw_or1 (pt_cmp (pc_din (lt1 hr.units) (pe_ix ix_tup (pv 0) pe_int (fun _ _ => rfl)) (pv 1)) (by rfl))))) (pss_one (ps_ret pe_bl)) pss_nil)
      (pss_cons (ps_if (pt_cmpR op_eq (pe_ix ix_tup (pv 0) pe_int (fun _ _ => rfl)) pe_str (nomark _)) (pss_one (ps_ret (pe_callB (cr_all rfl) (by rfl) T.all (by decide +kernel) (pa_cons (pe_lc (own := [("name", 2)]) (g := gName 2) (tt := tYes) rfl nd (pi_tup (pe_ix ix_tup (pv 0) pe_int (fun _ _ => rfl))) (blkOk_by (N := ["entry", "known", "name", "_"]) (sc := defScope s_names_fit) (by decide +kernel)) (fun _ _ _ _ _ => pg_name (i := 2) nd rfl (Or.inl rfl)) (fun _ _ _ _ _ => pts_nil) (fun _ _ _ _ _ => (pcl Kn hr (by decide) (by rfl) (pa_cons pe_str (pa_cons (pv 2) (pa_cons (pv 1) pa_nil)))))) pa_nil)))) pss_nil)
      (pss_cons (ps_if (pt_cmpR op_eq (pe_ix ix_tup (pv 0) pe_int (fun _ _ => rfl)) pe_str (nomark _)) (pss_one (ps_ret (pe_and (pcl Kn hr (by decide) (by rfl) (pa_cons pe_str (pa_cons (pe_ix ix_tup (pv 0) pe_int (fun _ _ => rfl)) (pa_cons (pv 1) pa_nil)))) (pe_one (pe_callB (cr_all rfl) (by rfl) T.all (by decide +kernel) (pa_cons (pe_lc (own := [("name", 2), ("_", 3)]) (g := (gTup K 2 (gCons (gName 2) (gCons (gName 3) gNil)))) (tt := tYes) rfl nd (pi_tup (pe_ix ix_tup (pv 0) pe_int (fun _ _ => rfl))) (blkOk_by (N := ["entry", "known", "name", "_"]) (sc := defScope s_names_fit) (by decide +kernel)) (fun _ _ _ _ _ => pg_tup (by rfl) (pgs_cons (pg_name (i := 2) nd rfl (Or.inl rfl)) (pgs_cons (pg_name (i := 3) nd rfl (Or.inl rfl)) pgs_nil))) (fun _ _ _ _ _ => pts_nil) (fun _ _ _ _ _ => (pcl Is hr (by decide) (by rfl) (pa_cons (pv 2) (pa_cons (pe_ix (r := rIxT K) (by exact ix_tup) (pv 0) pe_int (fun _ _ => rfl)) (pa_cons (pv 1) pa_nil)))))) pa_nil)))))) pss_nil)
      (pss_one (ps_ret pe_bl))))), ?_⟩
    unfold namesB at q
    walk_at "rd"
    cases e with
    | side n o s m pl =>
      obtain ⟨qa, hp, hq⟩ := ea
      change n.length ≤ 10000 at nl
      change ∀ H', Same H H' → Q (.bl (nameB n && ((findE es n).isNone && true))) H' at q
      refine ⟨p, _, _, _, rfl, rfl, SqT.of hp, at_nat (k := 1) rfl, ?_⟩
      walk_at "rd"
      refine ⟨nl, fun H1 s1 => ?_⟩
      have hp1 := s1 _ _ hp
      have hk1 := hk.same s1
      refine ⟨_, rfl, ?_⟩
      refine ite2 (fun h1 => ?_) (fun h1 => ?_)
      · rw [not_t' h1, Bool.false_and] at q
        walk_at "rd"
        exact q H1 s1
      rw [not_f h1, Bool.true_and] at q
      walk_at "rd"
      refine ⟨p, _, _, _, rfl, rfl, SqT.of hp1, at_nat (k := 1) rfl, ?_⟩
      walk_at "rd"
      cases fe : findE es n with
      | some e =>
        obtain ⟨pe, ge, _⟩ := known_some hk1 fe
        rw [fe] at q
        refine ⟨d, _, rfl, ge, ?_⟩
        refine ⟨_, rfl, ?_⟩
        refine ite2 (fun _ => ?_) (fun z => absurd rfl z)
        walk_at "rd"
        exact q H1 s1
      | none =>
      rw [fe] at q
      refine ⟨d, _, rfl, known_none hk1 fe, ?_⟩
      refine ⟨_, rfl, ?_⟩
      refine ite2 (fun z => absurd z (by decide)) (fun _ => ?_)
      walk_at "rd"
      refine ⟨p, _, _, _, rfl, rfl, SqT.of hp1, at0, ?_⟩
      walk_at "rd"
      refine ⟨rfl, _, rfl, ?_⟩
      refine ite2 (fun z => absurd z (by decide +kernel)) (fun _ => ?_)
      walk_at "rd"
      refine ⟨p, _, _, _, rfl, rfl, SqT.of hp1, at0, ?_⟩
      walk_at "rd"
      refine ⟨rfl, _, rfl, ?_⟩
      refine ite2 (fun z => absurd z (by decide +kernel)) (fun _ => ?_)
      walk_at "rd"
      exact q H1 s1
    | set n ns =>
      obtain ⟨qa, hp, hq⟩ := ea
      change n.length ≤ 10000 at nl
      change ns.length ≤ 1000000 at sm
      change ∀ H', Same H H' → Q (.bl (nameB n && ((findE es n).isNone && ns.all fun x => kindB es "side" x))) H' at q
      refine ⟨p, _, _, _, rfl, rfl, SqT.of hp, at_nat (k := 1) rfl, ?_⟩
      walk_at "rd"
      refine ⟨nl, fun H1 s1 => ?_⟩
      have hp1 := s1 _ _ hp
      have hk1 := hk.same s1
      refine ⟨_, rfl, ?_⟩
      refine ite2 (fun h1 => ?_) (fun h1 => ?_)
      · rw [not_t' h1, Bool.false_and] at q
        walk_at "rd"
        exact q H1 s1
      rw [not_f h1, Bool.true_and] at q
      walk_at "rd"
      refine ⟨p, _, _, _, rfl, rfl, SqT.of hp1, at_nat (k := 1) rfl, ?_⟩
      walk_at "rd"
      cases fe : findE es n with
      | some e =>
        obtain ⟨pe, ge, _⟩ := known_some hk1 fe
        rw [fe] at q
        refine ⟨d, _, rfl, ge, ?_⟩
        refine ⟨_, rfl, ?_⟩
        refine ite2 (fun _ => ?_) (fun z => absurd rfl z)
        walk_at "rd"
        exact q H1 s1
      | none =>
      rw [fe] at q
      refine ⟨d, _, rfl, known_none hk1 fe, ?_⟩
      refine ⟨_, rfl, ?_⟩
      refine ite2 (fun z => absurd z (by decide)) (fun _ => ?_)
      walk_at "rd"
      refine ⟨p, _, _, _, rfl, rfl, SqT.of hp1, at0, ?_⟩
      walk_at "rd"
      refine ⟨rfl, _, rfl, ?_⟩
      refine ite2 (fun _ => ?_) (fun z => absurd (decide_eq_true rfl) z)
      walk_at "rd"
      refine ⟨p, _, _, _, rfl, rfl, SqT.of hp1, at_nat (k := 2) rfl, ?_⟩
      have hq1 := s1 _ _ hq
      refine ⟨qa, rfl, ⟨_, SqT.of hq1⟩, fun D nD => ?_⟩
      refine lc_it (walk_tup (K := K) (a := qa) (xs := ns.map V.str)) (fun j H3 => H3 D = some (.lst (((ns.take j).map fun x => kindB es "side" x).map V.bl)) ∧ Same H1 H3) ⟨upd_same, fun b u z => (upd_ne (ne_of_none z nD)).trans z⟩ (fun _ _ _ ⟨_, s3⟩ => SqT.of (s3 _ _ hq1)) ?_ ?_
      · rintro j y H3 H4 hj ⟨hD, s3⟩ ⟨rfl, ey⟩
        rw [List.getElem?_map] at ey
        obtain ⟨x, ex, rfl⟩ := Option.map_eq_some_iff.mp ey
        rw [List.length_map] at hj
        refine ⟨rfl, ?_⟩
        walk_at "rd"
        refine ⟨_, x, d, es, rfl, hk1.same s3, ?_⟩
        refine ⟨_, hD, ?_, ?_, fun b u z => (upd_ne (ne_of_none z nD)).trans (s3 _ _ z)⟩
        · rw [List.length_map, List.length_map, List.length_take]
          exact Nat.lt_of_le_of_lt (by omega : _ ≤ 1000000) (by decide)
        · rw [List.take_succ, ex, List.map_append, List.map_append]
          exact upd_same
      rintro H3 ⟨hD, s3⟩
      rw [List.length_map, List.take_length] at hD
      walk_at "rd"
      refine ⟨D, _, rfl, SqL.of hD, ?_⟩
      have e : (ns.map fun x => kindB es "side" x).all id = ns.all fun x => kindB es "side" x := by rw [List.all_map]; rfl
      rw [e]
      exact q H3 (s1.trans s3)
    | log n g =>
      obtain ⟨qa, hp, hq⟩ := ea
      change n.length ≤ 10000 at nl
      change ∀ H', Same H H' → Q (.bl (nameB n && ((findE es n).isNone && kindB es "set" g))) H' at q
      refine ⟨p, _, _, _, rfl, rfl, SqT.of hp, at_nat (k := 1) rfl, ?_⟩
      walk_at "rd"
      refine ⟨nl, fun H1 s1 => ?_⟩
      have hp1 := s1 _ _ hp
      have hk1 := hk.same s1
      refine ⟨_, rfl, ?_⟩
      refine ite2 (fun h1 => ?_) (fun h1 => ?_)
      · rw [not_t' h1, Bool.false_and] at q
        walk_at "rd"
        exact q H1 s1
      rw [not_f h1, Bool.true_and] at q
      walk_at "rd"
      refine ⟨p, _, _, _, rfl, rfl, SqT.of hp1, at_nat (k := 1) rfl, ?_⟩
      walk_at "rd"
      cases fe : findE es n with
      | some e =>
        obtain ⟨pe, ge, _⟩ := known_some hk1 fe
        rw [fe] at q
        refine ⟨d, _, rfl, ge, ?_⟩
        refine ⟨_, rfl, ?_⟩
        refine ite2 (fun _ => ?_) (fun z => absurd rfl z)
        walk_at "rd"
        exact q H1 s1
      | none =>
      rw [fe] at q
      refine ⟨d, _, rfl, known_none hk1 fe, ?_⟩
      refine ⟨_, rfl, ?_⟩
      refine ite2 (fun z => absurd z (by decide)) (fun _ => ?_)
      walk_at "rd"
      refine ⟨p, _, _, _, rfl, rfl, SqT.of hp1, at0, ?_⟩
      walk_at "rd"
      refine ⟨rfl, _, rfl, ?_⟩
      refine ite2 (fun z => absurd z (by decide +kernel)) (fun _ => ?_)
      walk_at "rd"
      refine ⟨p, _, _, _, rfl, rfl, SqT.of hp1, at0, ?_⟩
      walk_at "rd"
      refine ⟨rfl, _, rfl, ?_⟩
      refine ite2 (fun _ => ?_) (fun z => absurd (decide_eq_true rfl) z)
      walk_at "rd"
      refine ⟨p, _, _, _, rfl, rfl, SqT.of hp1, at_nat (k := 2) rfl, ?_⟩
      walk_at "rd"
      refine ⟨_, g, d, es, rfl, hk1, ?_⟩
      refine ⟨_, rfl, ?_⟩
      cases kb : kindB es "set" g with
      | false =>
        rw [kb] at q
        refine ite2 (fun z => absurd z (by decide)) (fun _ => ?_)
        exact q H1 s1
      | true =>
      rw [kb] at q
      refine ite2 (fun _ => ?_) (fun z => absurd rfl z)
      walk_at "rd"
      refine ⟨p, _, _, _, rfl, rfl, SqT.of hp1, at_nat (k := 3) rfl, ?_⟩
      have hq1 := s1 _ _ hq
      refine ⟨qa, rfl, ⟨_, SqT.of hq1⟩, fun D nD => ?_⟩
      refine lc_it (walk_tup (K := K) (a := qa) (xs := [])) (fun j H3 => H3 D = some (.lst []) ∧ Same H1 H3) ⟨upd_same, fun b u z => (upd_ne (ne_of_none z nD)).trans z⟩ (fun _ _ _ ⟨_, s3⟩ => SqT.of (s3 _ _ hq1)) ?_ ?_
      · rintro j y H3 H4 hj ⟨hD, s3⟩ _
        exact absurd hj (Nat.not_lt_zero _)
      rintro H3 ⟨hD, s3⟩
      walk_at "rd"
      refine ⟨D, [], rfl, SqL.of hD, ?_⟩
      exact q H3 (s1.trans s3)
theorem ok_worths_x {f : Addr} {fd : FuncData} (F : Fun K "worths_fit" "worths_fit" s_worths_fit f fd) (T : EnT K mg aN) (Sd : Cal P w K mg base "is_side" 4 ["thing"] spIsSideX f1 d1) (Bt : Cal P w K mg base "is_int_between" 2 ["thing", "least", "most"] spBetween f2 d2) (Tf : Cal P w K mg base "text_fits" 6 ["name", "text", "known"] spTxX f3 d3) : FnOk P w K mg base CX0 7 f fd ["entry", "known"] spWorthsX := by
  refine F.ok sc_worths_fit (fun vs H Q E h => ?_) (fun cdv A outer s0 H vs Q E hr h => ?_)
  · obtain ⟨p, d, e, rfl, _⟩ := h
    rfl
  · obtain ⟨p, d, e, rfl, ea, sm, q⟩ := h
    have nd := sc_worths_fit.nd
    obtain ⟨tms, hms⟩ := T.ms
    obtain ⟨tmp, hmp⟩ := T.mp
    obtain ⟨tsn, hsn⟩ := T.sn
    refine ⟨_, (pss_cons (ps_if (pt_cmpR op_eq (pe_ix ix_tup (pv 0) pe_int (fun _ _ => rfl)) pe_str (nomark _)) (pss_one (ps_ret (pe_and (pcl Sd hr (by decide) (by rfl) (pa_cons (pe_ix ix_tup (pv 0) pe_int (fun _ _ => rfl)) pa_nil)) (pe_one (pcl Bt hr (by decide) (by rfl) (pa_cons (pe_ix ix_tup (pv 0) pe_int (fun _ _ => rfl)) (pa_cons pe_int (pa_cons (pe_glob (v := .int 60) (by rfl) hmp ⟨_, rfl⟩) pa_nil)))))))) pss_nil)
      (pss_cons (ps_if (pt_cmpR op_eq (pe_ix ix_tup (pv 0) pe_int (fun _ _ => rfl)) pe_str (nomark _)) (pss_one (ps_ret (pe_chain op_le op_le pe_int (pe_callB call_len_seq (by rfl) T.len PySem.boot_len (pa_cons (pe_ix ix_tup (pv 0) pe_int (fun _ _ => rfl)) pa_nil)) (pe_glob (v := .int 4) (by rfl) hms ⟨_, rfl⟩)))) pss_nil)
      (pss_one (ps_ret (pe_and (pe_cmpR op_le (pe_callB call_len_seq (by rfl) T.len PySem.boot_len (pa_cons (pe_ix ix_tup (pv 0) pe_int (fun _ _ => rfl)) pa_nil)) (pe_glob (v := .int 50) (by rfl) hsn ⟨_, rfl⟩) (nomark _)) (pe_one (pe_callB (cr_all rfl) (by rfl) T.all (by decide +kernel) (pa_cons (pe_lc (own := [("name", 2), ("text", 3)]) (g := (gTup K 2 (gCons (gName 2) (gCons (gName 3) gNil)))) (tt := tYes) rfl nd (pi_tup (pe_ix ix_tup (pv 0) pe_int (fun _ _ => rfl))) (blkOk_by (N := ["entry", "known", "name", "text"]) (sc := defScope s_worths_fit) (by decide +kernel)) (fun _ _ _ _ _ => pg_tup (by rfl) (pgs_cons (pg_name (i := 2) nd rfl (Or.inl rfl)) (pgs_cons (pg_name (i := 3) nd rfl (Or.inl rfl)) pgs_nil))) (fun _ _ _ _ _ => pts_nil) (fun _ _ _ _ _ => (pcl Tf hr (by decide) (by rfl) (pa_cons (pv 2) (pa_cons (pv 3) (pa_cons (pv 1) pa_nil)))))) pa_nil)))))))), ?_⟩
    walk_at "rd"
    cases e with
    | side n o s m pl =>
      obtain ⟨qa, hp, hq⟩ := ea
      change ∀ H', Same H H' → Q (.bl (sideB o s m && (decide (0 ≤ pl) && decide (pl ≤ 60)))) H' at q
      refine ⟨p, _, _, _, rfl, rfl, SqT.of hp, at0, ?_⟩
      walk_at "rd"
      refine ⟨rfl, _, rfl, ?_⟩
      refine ite2 (fun _ => ?_) (fun z => absurd (decide_eq_true rfl) z)
      walk_at "rd"
      refine ⟨p, _, _, _, rfl, rfl, SqT.of hp, at_nat (k := 2) rfl, ?_⟩
      walk_at "rd"
      refine ⟨qa, o, s, m, rfl, hq, ?_⟩
      refine ⟨_, rfl, ?_⟩
      cases sb : sideB o s m with
      | false =>
        rw [sb] at q
        refine ite2 (fun z => absurd z (by decide)) (fun _ => ?_)
        exact q H (Same.refl H)
      | true =>
      rw [sb] at q
      refine ite2 (fun _ => ?_) (fun z => absurd rfl z)
      walk_at "rd"
      refine ⟨p, _, _, _, rfl, rfl, SqT.of hp, at_nat (k := 3) rfl, ?_⟩
      walk_at "rd"
      refine ⟨_, _, _, rfl, ?_⟩
      exact q H (Same.refl H)
    | set n ns =>
      obtain ⟨qa, hp, hq⟩ := ea
      change ∀ H', Same H H' → Q (.bl (decide (1 ≤ ns.length) && decide (ns.length ≤ 4))) H' at q
      refine ⟨p, _, _, _, rfl, rfl, SqT.of hp, at0, ?_⟩
      walk_at "rd"
      refine ⟨rfl, _, rfl, ?_⟩
      refine ite2 (fun z => absurd z (by decide +kernel)) (fun _ => ?_)
      walk_at "rd"
      refine ⟨p, _, _, _, rfl, rfl, SqT.of hp, at0, ?_⟩
      walk_at "rd"
      refine ⟨rfl, _, rfl, ?_⟩
      refine ite2 (fun _ => ?_) (fun z => absurd (decide_eq_true rfl) z)
      walk_at "rd"
      refine ⟨p, _, _, _, rfl, rfl, SqT.of hp, at_nat (k := 2) rfl, ?_⟩
      walk_at "rd"
      refine ⟨qa, _, rfl, .inr (SqT.of hq), ?_⟩
      rw [List.length_map]
      walk_at "rd"
      refine ite2 (fun h1 => ?_) (fun h1 => ?_)
      · have f1 : 1 ≤ ns.length := by have := of_decide_eq_true h1; omega
        rw [decide_eq_true f1, Bool.true_and] at q
        walk_at "rd"
        show Q (.bl (decide ((ns.length : Int) ≤ 4))) H
        have f2 : decide ((ns.length : Int) ≤ 4) = decide (ns.length ≤ 4) := by
          by_cases g : ns.length ≤ 4
          · rw [decide_eq_true g, decide_eq_true (by omega)]
          · rw [decide_eq_false g, decide_eq_false (by omega)]
        rw [f2]
        exact q H (Same.refl H)
      · have f1 : ¬ 1 ≤ ns.length := fun x => h1 (decide_eq_true (by omega))
        rw [decide_eq_false f1, Bool.false_and] at q
        exact q H (Same.refl H)
    | log n g =>
      obtain ⟨qa, hp, hq⟩ := ea
      change ∀ H', Same H H' → Q (.bl true) H' at q
      refine ⟨p, _, _, _, rfl, rfl, SqT.of hp, at0, ?_⟩
      walk_at "rd"
      refine ⟨rfl, _, rfl, ?_⟩
      refine ite2 (fun z => absurd z (by decide +kernel)) (fun _ => ?_)
      walk_at "rd"
      refine ⟨p, _, _, _, rfl, rfl, SqT.of hp, at0, ?_⟩
      walk_at "rd"
      refine ⟨rfl, _, rfl, ?_⟩
      refine ite2 (fun z => absurd z (by decide +kernel)) (fun _ => ?_)
      walk_at "rd"
      refine ⟨p, _, _, _, rfl, rfl, SqT.of hp, at_nat (k := 3) rfl, ?_⟩
      walk_at "rd"
      refine ⟨qa, _, rfl, .inr (SqT.of hq), ?_⟩
      walk_at "rd"
      refine ⟨p, _, _, _, rfl, rfl, SqT.of hp, at_nat (k := 3) rfl, ?_⟩
      refine ⟨qa, rfl, ⟨_, SqT.of hq⟩, fun D nD => ?_⟩
      refine lc_it (walk_tup (K := K) (a := qa) (xs := [])) (fun j H3 => H3 D = some (.lst []) ∧ Same H H3) ⟨upd_same, fun b u z => (upd_ne (ne_of_none z nD)).trans z⟩ (fun _ _ _ ⟨_, s3⟩ => SqT.of (s3 _ _ hq)) ?_ ?_
      · rintro j y H3 H4 hj ⟨hD, s3⟩ _
        exact absurd hj (Nat.not_lt_zero _)
      rintro H3 ⟨hD, s3⟩
      walk_at "rd"
      refine ⟨D, [], rfl, SqL.of hD, ?_⟩
      exact q H3 s3
end
end HT
namespace HT
open PySem L2
def spIsSide : Sp := fun vs H Q _ => ∃ (p : Addr) (o s : Int) (m : Str), vs = [.ref p] ∧ H p = some (sideV o s m) ∧ SideP o s m ∧ Q (.bl true) H
section
variable {P : Program} {w : World} {K : PySem.W.Frag} {mg : Str → Option Value} {base : Heap} {aN f1 f2 f3 f4 f5 : Addr} {d1 d2 d3 d4 d5 : FuncData}
theorem ok_is_side {f : Addr} {fd : FuncData} (F : Fun K "is_side" "is_side" s_is_side f fd) (Ck : Cal P w K mg base "check_side" 3 ["side"] spCheckSide f1 d1) : FnOk P w K mg base CX0 4 f fd ["thing"] spIsSide := by
  refine F.ok sc_is_side (fun vs H Q E h => ?_) (fun cdv A outer s0 H vs Q E hr h => ?_)
  · obtain ⟨p, o, s, m, rfl, _⟩ := h
    rfl
  · obtain ⟨p, o, s, m, rfl, hp, sp, q⟩ := h
    refine ⟨_, pss_cons (ps_try_thru0 (pss_one (ps_expr (pcl Ck hr (by decide) (by rfl) (pa_cons (pv 0) pa_nil))))) (pss_one (ps_ret pe_bl)), ?_⟩
    walk_at "rd"
    refine ⟨p, o, s, m, rfl, hp, sp, ?_⟩
    walk_at "rd"
    exact q
theorem ok_worths {f : Addr} {fd : FuncData} (F : Fun K "worths_fit" "worths_fit" s_worths_fit f fd) (T : EnT K mg aN) (Sd : Cal P w K mg base "is_side" 4 ["thing"] spIsSide f1 d1) (Bt : Cal P w K mg base "is_int_between" 2 ["thing", "least", "most"] spBetween f2 d2) (Tf : Cal P w K mg base "text_fits" 6 ["name", "text", "known"] spTxFits f3 d3) : FnOk P w K mg base CX0 7 f fd ["entry", "known"] spFits := by
  refine F.ok sc_worths_fit (fun vs H Q E h => ?_) (fun cdv A outer s0 H vs Q E hr h => ?_)
  · obtain ⟨p, d, e, es, rfl, _⟩ := h
    rfl
  · obtain ⟨p, d, e, es, rfl, ea, ok, hk, q⟩ := h
    have nd := sc_worths_fit.nd
    obtain ⟨tms, hms⟩ := T.ms
    obtain ⟨tmp, hmp⟩ := T.mp
    obtain ⟨tsn, hsn⟩ := T.sn
    refine ⟨_, (pss_cons (ps_if (pt_cmpR op_eq (pe_ix ix_tup (pv 0) pe_int (fun _ _ => rfl)) pe_str (nomark _)) (pss_one (ps_ret (pe_and (pcl Sd hr (by decide) (by rfl) (pa_cons (pe_ix ix_tup (pv 0) pe_int (fun _ _ => rfl)) pa_nil)) (pe_one (pcl Bt hr (by decide) (by rfl) (pa_cons (pe_ix ix_tup (pv 0) pe_int (fun _ _ => rfl)) (pa_cons pe_int (pa_cons (pe_glob (v := .int 60) (by rfl) hmp ⟨_, rfl⟩) pa_nil)))))))) pss_nil)
      (pss_cons (ps_if (pt_cmpR op_eq (pe_ix ix_tup (pv 0) pe_int (fun _ _ => rfl)) pe_str (nomark _)) (pss_one (ps_ret (pe_chain op_le op_le pe_int (pe_callB call_len_seq (by rfl) T.len PySem.boot_len (pa_cons (pe_ix ix_tup (pv 0) pe_int (fun _ _ => rfl)) pa_nil)) (pe_glob (v := .int 4) (by rfl) hms ⟨_, rfl⟩)))) pss_nil)
      (pss_one (ps_ret (pe_and (pe_cmpR op_le (pe_callB call_len_seq (by rfl) T.len PySem.boot_len (pa_cons (pe_ix ix_tup (pv 0) pe_int (fun _ _ => rfl)) pa_nil)) (pe_glob (v := .int 50) (by rfl) hsn ⟨_, rfl⟩) (nomark _)) (pe_one (pe_callB (cr_all rfl) (by rfl) T.all (by decide +kernel) (pa_cons (pe_lc (own := [("name", 2), ("text", 3)]) (g := (gTup K 2 (gCons (gName 2) (gCons (gName 3) gNil)))) (tt := tYes) rfl nd (pi_tup (pe_ix ix_tup (pv 0) pe_int (fun _ _ => rfl))) (blkOk_by (N := ["entry", "known", "name", "text"]) (sc := defScope s_worths_fit) (by decide +kernel)) (fun _ _ _ _ _ => pg_tup (by rfl) (pgs_cons (pg_name (i := 2) nd rfl (Or.inl rfl)) (pgs_cons (pg_name (i := 3) nd rfl (Or.inl rfl)) pgs_nil))) (fun _ _ _ _ _ => pts_nil) (fun _ _ _ _ _ => (pcl Tf hr (by decide) (by rfl) (pa_cons (pv 2) (pa_cons (pv 3) (pa_cons (pv 1) pa_nil)))))) pa_nil)))))))), ?_⟩
    walk_at "rd"
    cases e with
    | side n o s m pl =>
      obtain ⟨hn, fr, sp, p60⟩ := ok
      obtain ⟨qa, hp, hq⟩ := ea
      refine ⟨p, _, _, _, rfl, rfl, SqT.of hp, at0, ?_⟩
      walk_at "rd"
      refine ⟨rfl, _, rfl, ?_⟩
      refine ite2 (fun _ => ?_) (fun z => absurd (decide_eq_true rfl) z)
      walk_at "rd"
      refine ⟨p, _, _, _, rfl, rfl, SqT.of hp, at_nat (k := 2) rfl, ?_⟩
      walk_at "rd"
      refine ⟨qa, o, s, m, rfl, hq, sp, ?_⟩
      refine ⟨_, rfl, ?_⟩
      refine ite2 (fun _ => ?_) (fun z => absurd rfl z)
      walk_at "rd"
      refine ⟨p, _, _, _, rfl, rfl, SqT.of hp, at_nat (k := 3) rfl, ?_⟩
      walk_at "rd"
      refine ⟨_, _, _, rfl, ?_⟩
      rw [decide_eq_true (show (0 : Int) ≤ (pl : Int) by omega), decide_eq_true (show (pl : Int) ≤ 60 by omega)]
      exact q H (Same.refl H)
    | set n ns =>
      obtain ⟨hn, fr, n1, n4, al⟩ := ok
      obtain ⟨qa, hp, hq⟩ := ea
      refine ⟨p, _, _, _, rfl, rfl, SqT.of hp, at0, ?_⟩
      walk_at "rd"
      refine ⟨rfl, _, rfl, ?_⟩
      refine ite2 (fun z => absurd z (by decide +kernel)) (fun _ => ?_)
      walk_at "rd"
      refine ⟨p, _, _, _, rfl, rfl, SqT.of hp, at0, ?_⟩
      walk_at "rd"
      refine ⟨rfl, _, rfl, ?_⟩
      refine ite2 (fun _ => ?_) (fun z => absurd (decide_eq_true rfl) z)
      walk_at "rd"
      refine ⟨p, _, _, _, rfl, rfl, SqT.of hp, at_nat (k := 2) rfl, ?_⟩
      walk_at "rd"
      refine ⟨qa, _, rfl, .inr (SqT.of hq), ?_⟩
      rw [List.length_map]
      walk_at "rd"
      refine ite2 (fun _ => ?_) (fun z => absurd (decide_eq_true (show (1 : Int) ≤ (ns.length : Int) by omega)) z)
      walk_at "rd"
      show Q (.bl (decide ((ns.length : Int) ≤ 4))) H
      rw [decide_eq_true (show (ns.length : Int) ≤ 4 by omega)]
      exact q H (Same.refl H)
    | log n g ls =>
      obtain ⟨hn, fr, _, l50, al⟩ := ok
      obtain ⟨qa, ps, hp, hq, lp, ap⟩ := ea
      refine ⟨p, _, _, _, rfl, rfl, SqT.of hp, at0, ?_⟩
      walk_at "rd"
      refine ⟨rfl, _, rfl, ?_⟩
      refine ite2 (fun z => absurd z (by decide +kernel)) (fun _ => ?_)
      walk_at "rd"
      refine ⟨p, _, _, _, rfl, rfl, SqT.of hp, at0, ?_⟩
      walk_at "rd"
      refine ⟨rfl, _, rfl, ?_⟩
      refine ite2 (fun z => absurd z (by decide +kernel)) (fun _ => ?_)
      walk_at "rd"
      refine ⟨p, _, _, _, rfl, rfl, SqT.of hp, at_nat (k := 3) rfl, ?_⟩
      walk_at "rd"
      refine ⟨qa, _, rfl, .inr (SqT.of hq), ?_⟩
      rw [List.length_map]
      walk_at "rd"
      refine ite2 (fun _ => ?_) (fun z => absurd (decide_eq_true (show (ps.length : Int) ≤ 50 by omega)) z)
      walk_at "rd"
      refine ⟨p, _, _, _, rfl, rfl, SqT.of hp, at_nat (k := 3) rfl, ?_⟩
      refine ⟨qa, rfl, ⟨_, SqT.of hq⟩, fun D nD => ?_⟩
      refine lc_it (walk_tup (K := K) (a := qa) (xs := ps.map V.ref)) (fun j H3 => H3 D = some (.lst ((List.replicate j true).map V.bl)) ∧ Same H H3) ⟨upd_same, fun b u z => (upd_ne (ne_of_none z nD)).trans z⟩ (fun _ _ _ ⟨_, s3⟩ => SqT.of (s3 _ _ hq)) ?_ ?_
      · rintro j y H3 H4 hj ⟨hD, s3⟩ ⟨rfl, ey⟩
        rw [List.getElem?_map] at ey
        obtain ⟨x, ex, rfl⟩ := Option.map_eq_some_iff.mp ey
        rw [List.length_map] at hj
        obtain ⟨li, el⟩ : ∃ li, ls[j]? = some li := ⟨_, List.getElem?_eq_getElem (by omega)⟩
        have hx := s3 _ _ (ap j x li ex el)
        obtain ⟨_, o, s, m, pl, fig, fe, g0, g1, p60, tx⟩ := al li (List.mem_of_getElem? el)
        refine ⟨x, _, rfl, SqT.of hx, rfl, _, _, rfl, _, _, rfl, rfl, ?_⟩
        refine ⟨rfl, ?_⟩
        walk_at "rd"
        refine ⟨li.1, li.2, d, es, o, s, m, pl, fig, rfl, hk.same s3, fe, g0, g1, p60, tx, fun H5 s5 => ?_⟩
        refine ⟨_, s5 _ _ hD, ?_, ?_, fun b u z => (upd_ne (ne_of_none z nD)).trans (s5 _ _ (s3 _ _ z))⟩
        · rw [List.length_map, List.length_replicate]
          exact Nat.lt_of_lt_of_le (by omega : j < 51) (by decide)
        · rw [List.replicate_succ', List.map_append]
          exact upd_same
      rintro H3 ⟨hD, s3⟩
      walk_at "rd"
      refine ⟨D, _, rfl, SqL.of hD, ?_⟩
      walk_at "rd"
      rw [all_rep]
      exact q H3 s3
end
end HT
namespace HT
open PySem L2
def rLenK (K : PySem.W.Frag) : List V → Hp → VK → Prop := fun xs H Q => ∃ p ys, xs = [V.ref p] ∧ (SqL K H p ys ∨ SqT K H p ys) ∧ Q (V.int (ys.length : Nat)) H
def spLines : Sp := fun vs H Q _ => ∃ (q : Addr) (ps : List Addr) (ls : List (Str × Str)), vs = [.ref q] ∧ H q = some (.tup (ps.map V.ref)) ∧ ps.length = ls.length ∧ ls.length ≤ 50 ∧ (∀ (i : Nat) (a : Addr) (l : Str × Str), ps[i]? = some a → ls[i]? = some l → H a = some (.tup [.str l.1, .str l.2])) ∧ ∀ H', Same H H' → Q (.bl true) H'
def spFormed : Sp := fun vs H Q _ => ∃ (p : Addr) (e : Ent) (es : List Ent), vs = [.ref p] ∧ EntAt H p e ∧ EntOk es e ∧ ∀ H', Same H H' → Q (.bl true) H'
def EntsAt (H : Hp) (l : Addr) (es : List Ent) : Prop := ∃ ps : List Addr, ps.length = es.length ∧ H l = some (.lst (ps.map V.ref)) ∧ ∀ (i : Nat) (p : Addr) (e : Ent), ps[i]? = some p → es[i]? = some e → EntAt H p e
theorem EntsAt.same {H H' : Hp} {d : Addr} {es : List Ent} (h : EntsAt H d es) (sm : Same H H') : EntsAt H' d es := let ⟨ps, l, hd, at_⟩ := h; ⟨ps, l, sm _ _ hd, fun i p e a b => (at_ i p e a b).same sm⟩
def AllOk (es : List Ent) : Prop := ∀ (i : Nat) (e : Ent), es[i]? = some e → EntOk (es.take i) e
def spKnE : Sp := fun vs H Q _ => ∃ (l : Addr) (es : List Ent), vs = [.ref l] ∧ EntsAt H l es ∧ AllOk es ∧ es.length ≤ 1000 ∧ ∀ (d : Addr) (H' : Hp), Same H H' → KnownAt H' d es → Q (.ref d) H'
theorem EntOk.fresh {es : List Ent} {e : Ent} (h : EntOk es e) : NameP e.name ∧ findE es e.name = none := by
  cases e <;> exact ⟨h.1, h.2.1⟩
abbrev zipK (es : List Ent) (ps : List Addr) : List (Key × V) := (es.zip ps).map fun z => ((.inr z.1.name : Key), V.ref z.2)
theorem put_fresh {es : List Ent} {ps : List Addr} (l : ps.length = es.length) {n : Str} (f : findE es n = none) (v : V) : putK (zipK es ps) (.inr n) v = zipK es ps ++ [(.inr n, v)] := by
  unfold putK
  have a : ((zipK es ps).any fun kv => decide (kv.1 = (.inr n : Key))) = false := by
    rw [valV_any]
    rcases find_zip n es ps l with ⟨_, b⟩ | ⟨_, _, _, _, _, b, _⟩
    · rw [b]; rfl
    · rw [b] at f; cases f
  rw [if_neg (by rw [a]; decide)]
theorem zip_take {es : List Ent} {ps : List Addr} (l : ps.length = es.length) {i : Nat} {e : Ent} {p : Addr} (a : es[i]? = some e) (b : ps[i]? = some p) : zipK (es.take (i + 1)) (ps.take (i + 1)) = zipK (es.take i) (ps.take i) ++ [(.inr e.name, .ref p)] := by
  show List.map _ _ = List.map _ _ ++ _
  rw [List.take_succ, List.take_succ, a, b, List.zip_append (by rw [List.length_take, List.length_take, l]), List.map_append]
  rfl
section
variable {P : Program} {w : World} {K : PySem.W.Frag} {mg : Str → Option Value} {base : Heap} {aN f1 f2 f3 f4 f5 : Addr} {d1 d2 d3 d4 d5 : FuncData}
theorem ok_are_lines {f : Addr} {fd : FuncData} (F : Fun K "_are_lines" "_are_lines" s_are_lines f fd) (T : EnT K mg aN) : FnOk P w K mg base CX0 1 f fd ["thing"] spLines := by
  refine F.ok sc_are_lines (fun vs H Q E h => ?_) (fun cdv A outer s0 H vs Q E hr h => ?_)
  · obtain ⟨q, ps, ls, rfl, _⟩ := h
    rfl
  · obtain ⟨qa, ps, ls, rfl, hq, lp, l50, ap, q⟩ := h
    have nd := sc_are_lines.nd
    refine ⟨_, (pss_one (ps_ret (pe_and (pe_callB call_isi (by rfl) T.isi (by decide +kernel) (pa_cons (pv 0) (pa_cons (pe_bltn (v := .ty "tuple") (by rfl) T.tuple (by decide +kernel) rfl) pa_nil))) (pe_one (pe_callB (cr_all rfl) (by rfl) T.all (by decide +kernel) (pa_cons (pe_lc (own := [("line", 1)]) (g := gName 1) (tt := tYes) rfl nd (pi_tup (pv 0)) (blkOk_by (N := ["thing", "line"]) (sc := defScope s_are_lines) (by decide +kernel)) (fun _ _ _ _ _ => pg_name (i := 1) nd rfl (Or.inl rfl)) (fun _ _ _ _ _ => pts_nil) (fun _ _ _ _ _ => (pe_and (pe_callB (show CallR _ _ (rIsi K) from call_isi) (by rfl) T.isi (by decide +kernel) (pa_cons (pv 1) (pa_cons (pe_bltn (v := .ty "tuple") (by rfl) T.tuple (by decide +kernel) rfl) pa_nil))) (pe_one (pe_cmpR op_eq (pe_callB (show CallR _ _ (rLenK K) from call_len_seq) (by rfl) T.len PySem.boot_len (pa_cons (pv 1) pa_nil)) pe_int (nomark _)))))) pa_nil)))))), ?_⟩
    walk_at "rd"
    refine ⟨_, _, _, _, _, rfl, .ty "tuple", .base (.tup hq), kit_ty (r := true) (by decide +kernel), ?_⟩
    walk_at "rd"
    refine ⟨⟨_, SqT.of hq⟩, fun D nD => ?_⟩
    refine lc_it (walk_tup (K := K) (a := qa) (xs := ps.map V.ref)) (fun j H3 => H3 D = some (.lst ((List.replicate j true).map V.bl)) ∧ Same H H3) ⟨upd_same, fun b u z => (upd_ne (ne_of_none z nD)).trans z⟩ (fun _ _ _ ⟨_, s3⟩ => SqT.of (s3 _ _ hq)) ?_ ?_
    · rintro j y H3 H4 hj ⟨hD, s3⟩ ⟨rfl, ey⟩
      rw [List.getElem?_map] at ey
      obtain ⟨x, ex, rfl⟩ := Option.map_eq_some_iff.mp ey
      rw [List.length_map] at hj
      obtain ⟨li, el⟩ : ∃ li, ls[j]? = some li := ⟨_, List.getElem?_eq_getElem (by omega)⟩
      have hx := s3 _ _ (ap j x li ex el)
      refine ⟨rfl, ?_⟩
      walk_at "rd"
      refine ⟨_, _, _, _, _, rfl, .ty "tuple", .base (.tup hx), kit_ty (r := true) (by decide +kernel), ?_⟩
      walk_at "rd"
      refine ⟨x, _, rfl, .inr (SqT.of hx), ?_⟩
      walk_at "rd"
      refine ⟨rfl, ?_⟩
      refine ⟨_, hD, ?_, ?_, fun b u z => (upd_ne (ne_of_none z nD)).trans (s3 _ _ z)⟩
      · rw [List.length_map, List.length_replicate]
        exact Nat.lt_of_lt_of_le (by omega : j < 51) (by decide)
      · rw [List.replicate_succ', List.map_append]
        exact upd_same
    rintro H3 ⟨hD, s3⟩
    walk_at "rd"
    refine ⟨D, _, rfl, SqL.of hD, ?_⟩
    walk_at "rd"
    rw [all_rep]
    exact q H3 s3
theorem ok_formed {f : Addr} {fd : FuncData} (F : Fun K "_is_formed" "_is_formed" s_is_formed f fd) (T : EnT K mg aN) (Al : Cal P w K mg base "_are_lines" 1 ["thing"] spLines f1 d1) : FnOk P w K mg base CX0 2 f fd ["thing"] spFormed := by
  refine F.ok sc_is_formed (fun vs H Q E h => ?_) (fun cdv A outer s0 H vs Q E hr h => ?_)
  · obtain ⟨p, e, es, rfl, _⟩ := h
    rfl
  · obtain ⟨p, e, es, rfl, ea, ok, q⟩ := h
    have nd := sc_is_formed.nd
    refine ⟨_, (pss_cons (ps_if (PW.pt (pw_or (pt_not (pt_val (pe_callB call_isi (by rfl) T.isi (by decide +kernel) (pa_cons (pv 0) (pa_cons (pe_bltn (v := .ty "tuple") (by rfl) T.tuple (by decide +kernel) rfl) pa_nil))))) (pw_or1 (pt_cmpR op_lt (pe_callB call_len_seq (by rfl) T.len PySem.boot_len (pa_cons (pv 0) pa_nil)) pe_int (nomark _))))) (pss_one (ps_ret pe_bl)) pss_nil)
      (pss_cons (ps_set (i := 1) nd rfl (Or.inl rfl) (pe_ix ix_tup (pv 0) pe_int (fun _ _ => rfl)))
      (pss_cons (ps_if (pt_cmpR op_eq (pv 1) pe_str (nomark _)) (pss_one (ps_ret (pe_cmpR op_eq (pe_callB call_len_seq (by rfl) T.len PySem.boot_len (pa_cons (pv 0) pa_nil)) pe_int (nomark _)))) pss_nil)
      (pss_cons (ps_if (pt_cmpR op_eq (pv 1) pe_str (nomark _)) (pss_one (ps_ret (pe_and (pe_cmpR op_eq (pe_callB call_len_seq (by rfl) T.len PySem.boot_len (pa_cons (pv 0) pa_nil)) pe_int (nomark _)) (pe_one (pe_callB call_isi (by rfl) T.isi (by decide +kernel) (pa_cons (pe_ix ix_tup (pv 0) pe_int (fun _ _ => rfl)) (pa_cons (pe_bltn (v := .ty "tuple") (by rfl) T.tuple (by decide +kernel) rfl) pa_nil))))))) pss_nil)
      (pss_one (ps_ret (pe_and (pe_cmpR op_eq (pv 1) pe_str (nomark _)) (pe_and (pe_cmpR op_eq (pe_callB call_len_seq (by rfl) T.len PySem.boot_len (pa_cons (pv 0) pa_nil)) pe_int (nomark _)) (pe_one (pcl Al hr (by decide) (by rfl) (pa_cons (pe_ix ix_tup (pv 0) pe_int (fun _ _ => rfl)) pa_nil))))))))))), ?_⟩
    walk_at "rd"
    cases e with
    | side n o s m pl =>
      obtain ⟨qa, hp, hq⟩ := ea
      refine ⟨_, _, _, _, _, rfl, .ty "tuple", .base (.tup hp), kit_ty (r := true) (by decide +kernel), ?_⟩
      walk_at "rd"
      refine ⟨p, _, rfl, .inr (SqT.of hp), ?_⟩
      walk_at "rd"
      refine ⟨p, _, _, _, rfl, rfl, SqT.of hp, at0, ?_⟩
      walk_at "rd"
      refine ⟨rfl, _, rfl, ?_⟩
      refine ite2 (fun _ => ?_) (fun z => absurd (decide_eq_true rfl) z)
      walk_at "rd"
      refine ⟨p, _, rfl, .inr (SqT.of hp), ?_⟩
      walk_at "rd"
      refine ⟨rfl, ?_⟩
      exact q H (Same.refl H)
    | set n ns =>
      obtain ⟨qa, hp, hq⟩ := ea
      refine ⟨_, _, _, _, _, rfl, .ty "tuple", .base (.tup hp), kit_ty (r := true) (by decide +kernel), ?_⟩
      walk_at "rd"
      refine ⟨p, _, rfl, .inr (SqT.of hp), ?_⟩
      walk_at "rd"
      refine ⟨p, _, _, _, rfl, rfl, SqT.of hp, at0, ?_⟩
      walk_at "rd"
      refine ⟨rfl, _, rfl, ?_⟩
      refine ite2 (fun z => absurd z (by decide +kernel)) (fun _ => ?_)
      walk_at "rd"
      refine ⟨rfl, _, rfl, ?_⟩
      refine ite2 (fun _ => ?_) (fun z => absurd (decide_eq_true rfl) z)
      walk_at "rd"
      refine ⟨p, _, rfl, .inr (SqT.of hp), ?_⟩
      walk_at "rd"
      refine ⟨rfl, _, rfl, ?_⟩
      refine ite2 (fun _ => ?_) (fun z => absurd (decide_eq_true rfl) z)
      walk_at "rd"
      refine ⟨p, _, _, _, rfl, rfl, SqT.of hp, at_nat (k := 2) rfl, ?_⟩
      refine ⟨_, _, _, _, _, rfl, .ty "tuple", .base (.tup hq), kit_ty (r := true) (by decide +kernel), ?_⟩
      exact q H (Same.refl H)
    | log n g ls =>
      obtain ⟨qa, ps, hp, hq, lp, ap⟩ := ea
      refine ⟨_, _, _, _, _, rfl, .ty "tuple", .base (.tup hp), kit_ty (r := true) (by decide +kernel), ?_⟩
      walk_at "rd"
      refine ⟨p, _, rfl, .inr (SqT.of hp), ?_⟩
      walk_at "rd"
      refine ⟨p, _, _, _, rfl, rfl, SqT.of hp, at0, ?_⟩
      walk_at "rd"
      refine ⟨rfl, _, rfl, ?_⟩
      refine ite2 (fun z => absurd z (by decide +kernel)) (fun _ => ?_)
      walk_at "rd"
      refine ⟨rfl, _, rfl, ?_⟩
      refine ite2 (fun z => absurd z (by decide +kernel)) (fun _ => ?_)
      walk_at "rd"
      refine ⟨rfl, _, rfl, ?_⟩
      refine ite2 (fun _ => ?_) (fun z => absurd (decide_eq_true rfl) z)
      walk_at "rd"
      refine ⟨p, _, rfl, .inr (SqT.of hp), ?_⟩
      walk_at "rd"
      refine ⟨rfl, _, rfl, ?_⟩
      refine ite2 (fun _ => ?_) (fun z => absurd (decide_eq_true rfl) z)
      walk_at "rd"
      refine ⟨p, _, _, _, rfl, rfl, SqT.of hp, at_nat (k := 3) rfl, ?_⟩
      walk_at "rd"
      exact ⟨qa, ps, ls, rfl, hq, lp, ok.2.2.2.1, ap, fun H' s' => q H' s'⟩
theorem ok_known {f : Addr} {fd : FuncData} (F : Fun K "known_entries" "known_entries" s_known_entries f fd) (T : EnT K mg aN) (Fo : Cal P w K mg base "_is_formed" 2 ["thing"] spFormed f1 d1) (Nf : Cal P w K mg base "names_fit" 2 ["entry", "known"] spFits f2 d2) (Wf : Cal P w K mg base "worths_fit" 7 ["entry", "known"] spFits f3 d3) : FnOk P w K mg base CX0 8 f fd ["entries"] spKnE := by
  refine F.ok sc_known_entries (fun vs H Q E h => ?_) (fun cdv A outer s0 H vs Q E hr h => ?_)
  · obtain ⟨l, es, rfl, _⟩ := h
    rfl
  · obtain ⟨l, es, rfl, ⟨ps, lps, hl, at_⟩, ok, l1000, q⟩ := h
    have nd := sc_known_entries.nd
    refine ⟨_, (pss_cons (ps_if (pt_not (pt_val (pe_callB call_isi (by rfl) T.isi (by decide +kernel) (pa_cons (pv 0) (pa_cons (pe_bltn (v := .ty "list") (by rfl) T.list (by decide +kernel) rfl) pa_nil))))) (pss_one ps_never) pss_nil)
      (pss_cons (ps_set (i := 1) nd rfl (Or.inl rfl) pe_dnewK)
      (pss_cons (ps_for PassesOwn.never rfl (pi_list (pv 0)) (pg_name (i := 2) nd rfl (Or.inl rfl)) (pss_cons (ps_if (pt_not (PW.pt (pw_and (pt_val (pcl Fo hr (by decide) (by rfl) (pa_cons (pv 2) pa_nil))) (pw_and (pt_val (pcl Nf hr (by decide) (by rfl) (pa_cons (pv 2) (pa_cons (pv 1) pa_nil)))) (pw_and1 (pt_val (pcl Wf hr (by decide) (by rfl) (pa_cons (pv 2) (pa_cons (pv 1) pa_nil))))))))) (pss_one ps_never) pss_nil)
      (pss_one (ps_dput (lt1 hr.units) (pv 1) (pe_ix ix_tup (pv 2) pe_int (fun _ _ => rfl)) (pv 2) rfl))))
      (pss_one (ps_ret (pv 1)))))), ?_⟩
    walk_at "rd"
    refine ⟨_, _, _, _, _, rfl, .ty "list", .base (.lst hl), kit_ty (r := true) (by decide +kernel), ?_⟩
    walk_at "rd"
    refine fun d nd0 => ?_
    generalize e_d : upd H d _ = H1
    have g_d : H1 d = some (.dK []) := by rw [← e_d]; exact upd_same
    have s_d : Same H H1 := by rw [← e_d]; exact fun b u z => (upd_ne (ne_of_none z nd0)).trans z
    clear e_d
    walk_at "rd"
    refine ⟨⟨_, SqL.of (s_d _ _ hl)⟩, ?_⟩
    refine for_list (K := K) (a := l) (xs := ps.map V.ref) (fun i st H3 => ∃ x2 : Option V, st = [some (.ref l), some (.ref d), x2] ∧ H3 d = some (.dK (zipK (es.take i) (ps.take i))) ∧ Same H H3) ⟨none, rfl, g_d, s_d⟩ (fun _ _ _ _ ⟨_, _, _, sm⟩ => SqL.of (sm _ _ hl)) ?_ ?_
    · rintro i z st H3 hz ⟨x2, rfl, hd, sm⟩
      rw [List.getElem?_map] at hz
      obtain ⟨p, ep, rfl⟩ := Option.map_eq_some_iff.mp hz
      have il : i < ps.length := (List.getElem?_eq_some_iff.mp ep).1
      obtain ⟨e, ee⟩ : ∃ e, es[i]? = some e := ⟨_, List.getElem?_eq_getElem (by omega)⟩
      have ea := (at_ i p e ep ee).same sm
      have eo := ok i e ee
      have kn : KnownAt H3 d (es.take i) := ⟨ps.take i, by rw [List.length_take, List.length_take, lps], hd, fun j x y a b => by
        rw [List.getElem?_take] at a b
        split at a
        · rename_i h1
          rw [if_pos h1] at b
          exact (at_ j x y a b).same sm
        · cases a⟩
      walk_at "rd"
      refine ⟨p, e, es.take i, rfl, ea, eo, fun H4 s4 => ?_⟩
      refine ⟨_, rfl, ?_⟩
      refine ite2 (fun _ => ?_) (fun z => absurd rfl z)
      walk_at "rd"
      refine ⟨p, d, e, es.take i, rfl, ea.same s4, eo, kn.same s4, fun H5 s5 => ?_⟩
      refine ⟨_, rfl, ?_⟩
      refine ite2 (fun _ => ?_) (fun z => absurd rfl z)
      walk_at "rd"
      have s45 := s4.trans s5
      refine ⟨p, d, e, es.take i, rfl, ea.same s45, eo, kn.same s45, fun H6 s6 => ?_⟩
      refine ⟨_, rfl, ?_⟩
      refine ite2 (fun z => absurd z (by decide)) (fun _ => ?_)
      have s46 := s45.trans s6
      obtain ⟨fn, ff⟩ := eo.fresh
      have hd6 := s46 _ _ hd
      have tl : (ps.take i).length = (es.take i).length := by rw [List.length_take, List.length_take, lps]
      have e1 : ∃ xs, H6 p = some (.tup (.str e.kind :: .str e.name :: xs)) := by
        cases e with
        | side n o s m pl => obtain ⟨q, a, b⟩ := ea.same s46; exact ⟨_, a⟩
        | set n ns => obtain ⟨q, a, b⟩ := ea.same s46; exact ⟨_, a⟩
        | log n g ls => obtain ⟨q, ps, a, b, c, d⟩ := ea.same s46; exact ⟨_, a⟩
      obtain ⟨xs, hp6⟩ := e1
      walk_at "rd"
      refine ⟨p, _, _, _, rfl, rfl, SqT.of hp6, at_nat (k := 1) rfl, ?_⟩
      refine ⟨d, _, rfl, DPut.k (k := .inr e.name) hd6 ?_, ?_⟩
      · rw [List.length_map, List.length_zip, List.length_take, List.length_take]
        exact Nat.lt_of_le_of_lt (by omega : _ ≤ 1000) (by decide)
      rw [put_fresh tl ff]
      refine ⟨_, rfl, ?_, fun b u z => (upd_ne (ne_of_none z nd0)).trans (s46 _ _ (sm _ _ z))⟩
      rw [zip_take lps ee ep]
      exact upd_same
    rintro st H3 ⟨x2, rfl, hd, sm⟩
    walk_at "rd"
    rw [List.length_map, List.take_length, lps, List.take_length] at hd
    exact q d H3 sm ⟨ps, lps, hd, fun j x y a b => (at_ j x y a b).same sm⟩
end
end HT
namespace HT
open PySem L2 TL
def tS (i : Int) : Str := Str.ofString (toString i)
def sideWs (n : Str) (o s : Int) (m : Str) (pl : Nat) : List Str := ([("side" : Str), n, tS s, m, "places", tS (pl : Int)] : List Str) ++ (if o = 0 then ([] : List Str) else [("at" : Str), tS o])
/-- the words of an entry's lines -/
def wordsE : Ent → List (List Str)
  | .side n o s m pl => [sideWs n o s m pl]
  | .set n ns => [("set" : Str) :: n :: ns]
  | .log n g ls => ([("log" : Str), n, g] : List Str) :: (ls.map fun l => [l.1, l.2]) ++ [[("end" : Str)]]
def lineW (ws : List Str) : Str := Txt.join " " ws
def linesE (e : Ent) : List Str := (wordsE e).map lineW
theorem tl_line (x : Str) (ws : List Str) : tl (lineW (x :: ws)) = tl x ++ StrLaws.glueL [32] ws := by
  have e := StrLaws.glued_list (" " : Str) x ws
  have e2 : (" " : Str).cps.toList = [32] := by decide +kernel
  rw [e2] at e
  exact e
theorem side_text (n : Str) (s : Int) (m : Str) (pl : Nat) : Str.empty ++ Str.ofString "side " ++ n ++ Str.ofString " " ++ Str.ofString (toString s) ++ Str.ofString " " ++ m ++ Str.ofString " places " ++ Str.ofString (toString (pl : Int)) = lineW [("side" : Str), n, tS s, m, "places", tS (pl : Int)] := by
  apply ext_tl
  rw [tl_line]
  have k0 : tl Str.empty = [] := rfl
  have k1 : tl (Str.ofString "side ") = tl (Str.ofString "side") ++ [32] := by decide +kernel
  have k2 : tl (Str.ofString " ") = [32] := by decide +kernel
  have k3 : tl (Str.ofString " places ") = [32] ++ tl (Str.ofString "places") ++ [32] := by decide +kernel
  simp only [tl_append, k0, k1, k2, k3, StrLaws.glueL, tS, List.nil_append, List.append_nil, List.append_assoc]
theorem at_text (n : Str) (s : Int) (m : Str) (pl : Nat) (o : Int) : Str.empty ++ lineW [("side" : Str), n, tS s, m, "places", tS (pl : Int)] ++ Str.ofString " at " ++ Str.ofString (toString o) = lineW (([("side" : Str), n, tS s, m, "places", tS (pl : Int)] : List Str) ++ [("at" : Str), tS o]) := by
  apply ext_tl
  have k0 : tl Str.empty = [] := rfl
  have k4 : tl (Str.ofString " at ") = [32] ++ tl (Str.ofString "at") ++ [32] := by decide +kernel
  simp only [List.cons_append, List.nil_append, tl_line, tl_append, k0, k4, StrLaws.glueL, tS, List.append_nil, List.append_assoc]
theorem mode_len {m : Str} (h : Mode m) : m.length ≤ 9 := by
  rcases h with rfl | rfl | rfl | rfl | rfl <;> decide +kernel
theorem tS_len {i : Int} (h : i.natAbs ≤ 10 ^ 41) : (Str.ofString (toString i)).length ≤ 60 := by
  have e := int_text_length_le10 (k := 42) (by decide) (Nat.lt_of_le_of_lt h (by decide))
  rw [ofString_length]
  omega
theorem lg_ok {i : Int} (h : i.natAbs ≤ 10 ^ 41) : i.natAbs.log2 < 1920 := by
  by_cases e : i.natAbs = 0
  · rw [e]; decide
  · have := (Nat.log2_lt e).mpr (show i.natAbs < 2 ^ 200 from Nat.lt_of_le_of_lt h (by decide))
    omega
def spSideLine : Sp := fun vs H Q _ => ∃ (p : Addr) (n : Str) (o s : Int) (m : Str) (pl : Nat), vs = [.ref p] ∧ EntAt H p (.side n o s m pl) ∧ NameP n ∧ SideP o s m ∧ pl ≤ 60 ∧ Q (.str (lineW (sideWs n o s m pl))) H
section
variable {P : Program} {w : World} {K : PySem.W.Frag} {mg : Str → Option Value} {base : Heap} {aN f1 f2 f3 f4 f5 : Addr} {d1 d2 d3 d4 d5 : FuncData}
theorem ok_side_line {f : Addr} {fd : FuncData} (F : Fun K "_side_line" "_side_line" s_side_line f fd) : FnOk P w K mg base CX0 1 f fd ["entry"] spSideLine := by
  refine F.ok sc_side_line (fun vs H Q E h => ?_) (fun cdv A outer s0 H vs Q E hr h => ?_)
  · obtain ⟨p, n, o, s, m, pl, rfl, _⟩ := h
    rfl
  · obtain ⟨p, n, o, s, m, pl, rfl, ⟨qa, hp, hq⟩, hn, sp, p60, q⟩ := h
    have nd := sc_side_line.nd
    refine ⟨_, (pss_cons (ps_asg (pv 0) (pg_tup (by rfl) (pgs_cons (pg_name (i := 1) nd rfl (Or.inl rfl)) (pgs_cons (pg_name (i := 2) nd rfl (Or.inl rfl)) (pgs_cons (pg_name (i := 3) nd rfl (Or.inl rfl)) (pgs_cons (pg_name (i := 4) nd rfl (Or.inl rfl)) pgs_nil))))))
      (pss_cons (ps_asg (pv 3) (pg_tup (by rfl) (pgs_cons (pg_name (i := 5) nd rfl (Or.inl rfl)) (pgs_cons (pg_name (i := 6) nd rfl (Or.inl rfl)) (pgs_cons (pg_name (i := 7) nd rfl (Or.inl rfl)) pgs_nil)))))
      (pss_cons (ps_set (i := 8) nd rfl (Or.inl rfl) (pe_joined (.cons pe_str (.cons (pe_fmt (pv 2)) (.cons pe_str (.cons (pe_fmt (pv 6)) (.cons pe_str (.cons (pe_fmt (pv 7)) (.cons pe_str (.cons (pe_fmt (pv 4)) .nil))))))))))
      (pss_cons (ps_if (pt_cmpR op_eq (pv 5) pe_int (nomark _)) (pss_one (ps_ret (pv 8))) pss_nil)
      (pss_one (ps_ret (pe_joined (.cons (pe_fmt (pv 8)) (.cons pe_str (.cons (pe_fmt (pv 5)) .nil)))))))))), ?_⟩
    walk_at "rd"
    refine ⟨p, _, rfl, SqT.of hp, rfl, _, _, rfl, _, _, rfl, _, _, rfl, _, _, rfl, rfl, ?_⟩
    walk_at "rd"
    refine ⟨qa, _, rfl, SqT.of hq, rfl, _, _, rfl, _, _, rfl, _, _, rfl, rfl, ?_⟩
    walk_at "rd"
    have c1 : (Str.ofString "side ").length = 5 := by decide +kernel
    have c2 : (Str.ofString " ").length = 1 := by decide +kernel
    have c3 : (Str.ofString " places ").length = 8 := by decide +kernel
    have c4 : (Str.ofString " at ").length = 4 := by decide +kernel
    have c5 : Str.empty.length = 0 := by decide +kernel
    have z : sizeLine = 16777216 := by decide +kernel
    have l1 := (name_facts hn).2.1
    have l2 := mode_len sp.md
    have l3 : (Str.ofString (toString s)).length ≤ 60 := tS_len (by have := sp.s0; have := sp.s1; omega)
    have l4 : (Str.ofString (toString (pl : Int))).length ≤ 60 := tS_len (by omega)
    have l5 : (Str.ofString (toString o)).length ≤ 60 := tS_len (by have := sp.o0; have := sp.o1; omega)
    refine ⟨(by simp only [Str.length_append, c1, c2, c3, c4, c5]; omega), ?_⟩
    walk_at "rd"
    refine ⟨(by omega), ?_⟩
    walk_at "rd"
    refine ⟨(by simp only [Str.length_append, c1, c2, c3, c4, c5]; omega), ?_⟩
    walk_at "rd"
    refine ⟨(by simp only [Str.length_append, c1, c2, c3, c4, c5]; omega), ?_⟩
    walk_at "rd"
    refine .inr ⟨s, rfl, (lg_ok (by have := sp.s0; have := sp.s1; omega)), ?_⟩
    walk_at "rd"
    refine ⟨(by simp only [Str.length_append, c1, c2, c3, c4, c5]; omega), ?_⟩
    walk_at "rd"
    refine ⟨(by simp only [Str.length_append, c1, c2, c3, c4, c5]; omega), ?_⟩
    walk_at "rd"
    refine ⟨(by omega), ?_⟩
    walk_at "rd"
    refine ⟨(by simp only [Str.length_append, c1, c2, c3, c4, c5]; omega), ?_⟩
    walk_at "rd"
    refine ⟨(by simp only [Str.length_append, c1, c2, c3, c4, c5]; omega), ?_⟩
    walk_at "rd"
    refine .inr ⟨(pl : Int), rfl, (lg_ok (by omega)), ?_⟩
    walk_at "rd"
    refine ⟨(by simp only [Str.length_append, c1, c2, c3, c4, c5]; omega), ?_⟩
    walk_at "rd"
    have lA := side_text n s m pl
    by_cases o0 : o = 0
    · refine ⟨rfl, _, rfl, ?_⟩
      refine ite2 (fun _ => ?_) (fun y => absurd (decide_eq_true (congrArg V.int o0)) y)
      walk_at "rd"
      unfold sideWs at q
      rw [if_pos o0, List.append_nil] at q
      rw [lA]
      exact q
    · refine ⟨rfl, _, rfl, ?_⟩
      refine ite2 (fun y => absurd (int_t y) o0) (fun _ => ?_)
      rw [lA]
      have l6 : (lineW [("side" : Str), n, tS s, m, "places", tS (pl : Int)]).length ≤ 2000 := by rw [← lA]; simp only [Str.length_append, c1, c2, c3, c4, c5]; omega
      walk_at "rd"
      refine ⟨by omega, ?_⟩
      walk_at "rd"
      refine ⟨by simp only [Str.length_append, c1, c2, c3, c4, c5]; omega, ?_⟩
      walk_at "rd"
      refine ⟨by simp only [Str.length_append, c1, c2, c3, c4, c5]; omega, ?_⟩
      walk_at "rd"
      refine .inr ⟨o, rfl, lg_ok (by have := sp.o0; have := sp.o1; omega), ?_⟩
      walk_at "rd"
      refine ⟨by simp only [Str.length_append, c1, c2, c3, c4, c5]; omega, ?_⟩
      walk_at "rd"
      unfold sideWs at q
      rw [if_neg o0] at q
      rw [at_text]
      exact q
end
end HT
namespace HT
open PySem L2 TL
/-- a word of a line -/
structure WordP (z : Str) : Prop where
  ne : tl z ≠ []
  le : z.length ≤ 500
  sp : 32 ∉ tl z
  nl : 10 ∉ tl z
  ok : ∀ c ∈ tl z, c < 200
theorem name_word {n : Str} (h : NameP n) : WordP n := by
  unfold NameP tenN at h
  simp only [List.mem_cons, List.not_mem_nil, or_false] at h
  rcases h with rfl | rfl | rfl | rfl | rfl | rfl | rfl | rfl | rfl | rfl <;> exact ⟨by decide +kernel, by decide +kernel, by decide +kernel, by decide +kernel, by decide +kernel⟩
theorem digit_word {z : Str} {mk D : List Nat} (e : tl z = mk ++ D) (hm : mk = [] ∨ mk = [45]) (hd : ∀ c ∈ D, (48 ≤ c ∧ c ≤ 57) ∨ c = 46) (ne : D ≠ []) (l : z.length ≤ 500) : WordP z := by
  have key : ∀ c ∈ tl z, c ≠ 32 ∧ c ≠ 10 ∧ c < 200 := fun c hc => by
    rw [e] at hc
    rcases List.mem_append.mp hc with h | h
    · rcases hm with rfl | rfl
      · cases h
      · rcases List.mem_singleton.mp h with rfl; decide
    · rcases hd c h with h | h <;> omega
  refine ⟨?_, l, fun h => (key _ h).1 rfl, fun h => (key _ h).2.1 rfl, fun c h => (key _ h).2.2⟩
  rw [e]
  intro z
  exact ne (List.append_eq_nil_iff.mp z).2
theorem text_word {fig : Int} {pl : Nat} (h0 : -10 ^ 62 < fig) (h1 : fig < 10 ^ 62) (hp : pl ≤ 60) : WordP (textM fig pl false false 0) := by
  obtain ⟨k, mk, W, gs, D, T, _, k0, g0, ln, m0⟩ := text_ok (sg := false) (gr := false) (wd := 0) (show -10 ^ 520 < fig by omega) (show fig < 10 ^ 520 by omega) hp (by decide) (by decide)
  have S := T.sh
  have e := S.eq
  rw [k0 rfl, g0 rfl] at e
  refine digit_word (mk := mk) (D := W ++ (grpL [] ++ fracL D)) e ?_ ?_ ?_ (text_short h0 h1 hp)
  · rcases S.sg with h | h | h
    · exact .inl h
    · exact .inr h
    · exact absurd h (m0 rfl)
  · intro c hc
    rcases List.mem_append.mp hc with h | h
    · exact .inl (S.wd c h)
    · rcases List.mem_append.mp h with h | h
      · cases h
      · cases D with
        | nil => cases h
        | cons d D =>
          rcases List.mem_cons.mp h with rfl | h
          · exact .inr rfl
          · exact .inl (S.dd c h)
  · intro z
    exact S.wn (List.append_eq_nil_iff.mp z).1
theorem log_text (n g : Str) : Str.empty ++ Str.ofString "log " ++ n ++ Str.ofString " " ++ g = lineW [("log" : Str), n, g] := by
  apply ext_tl
  rw [tl_line]
  have k0 : tl Str.empty = [] := rfl
  have k1 : tl (Str.ofString "log ") = tl (Str.ofString "log") ++ [32] := by decide +kernel
  have k2 : tl (Str.ofString " ") = [32] := by decide +kernel
  simp only [tl_append, k0, k1, k2, StrLaws.glueL, List.nil_append, List.append_nil, List.append_assoc]
theorem pair_text (a b : Str) : Str.empty ++ a ++ Str.ofString " " ++ b = lineW [a, b] := by
  apply ext_tl
  rw [tl_line]
  have k0 : tl Str.empty = [] := rfl
  have k2 : tl (Str.ofString " ") = [32] := by decide +kernel
  simp only [tl_append, k0, k2, StrLaws.glueL, List.nil_append, List.append_nil, List.append_assoc]
def spLinesOf : Sp := fun vs H Q _ => ∃ (p : Addr) (e : Ent) (es : List Ent), vs = [.ref p] ∧ EntAt H p e ∧ EntOk es e ∧ ∀ (l : Addr) (H' : Hp), H l = none → Same H H' → H' l = some (.lst ((linesE e).map V.str)) → Q (.ref l) H'
section
variable {P : Program} {w : World} {K : PySem.W.Frag} {mg : Str → Option Value} {base : Heap} {aN f1 f2 f3 f4 f5 : Addr} {d1 d2 d3 d4 d5 : FuncData}
theorem ok_lines_of {f : Addr} {fd : FuncData} (F : Fun K "_lines_of" "_lines_of" s_lines_of f fd) (Sl : Cal P w K mg base "_side_line" 1 ["entry"] spSideLine f1 d1) : FnOk P w K mg base CX0 2 f fd ["entry"] spLinesOf := by
  refine F.ok sc_lines_of (fun vs H Q E h => ?_) (fun cdv A outer s0 H vs Q E hr h => ?_)
  · obtain ⟨p, e, es, rfl, _⟩ := h
    rfl
  · obtain ⟨p, e, es, rfl, ea, ok, q⟩ := h
    have nd := sc_lines_of.nd
    refine ⟨_, (pss_cons (ps_if (pt_cmpR op_eq (pe_ix ix_tup (pv 0) pe_int (fun _ _ => rfl)) pe_str (nomark _)) (pss_one (ps_ret (pe_lst (pa_cons (pcl Sl hr (by decide) (by rfl) (pa_cons (pv 0) pa_nil)) pa_nil)))) pss_nil)
      (pss_cons (ps_if (pt_cmpR op_eq (pe_ix ix_tup (pv 0) pe_int (fun _ _ => rfl)) pe_str (nomark _)) (pss_cons (ps_asg (pv 0) (pg_tup (by rfl) (pgs_cons (pg_name (i := 1) nd rfl (Or.inl rfl)) (pgs_cons (pg_name (i := 2) nd rfl (Or.inl rfl)) (pgs_cons (pg_name (i := 3) nd rfl (Or.inl rfl)) pgs_nil)))))
      (pss_one (ps_ret (pe_lst (pa_cons (pe_bm PySem.F.plainAttrs_str PySem.F.slot_str_join PySem.F.type_str_join mt_join pe_str (pa_cons (pe_lst (pa_cons pe_str (pa_cons (pv 2) (StX.pa_star (pv 3) pa_nil)))) pa_nil)) pa_nil))))) pss_nil)
      (pss_cons (ps_asg (pv 0) (pg_tup (by rfl) (pgs_cons (pg_name (i := 1) nd rfl (Or.inl rfl)) (pgs_cons (pg_name (i := 2) nd rfl (Or.inl rfl)) (pgs_cons (pg_name (i := 4) nd rfl (Or.inl rfl)) (pgs_cons (pg_name (i := 5) nd rfl (Or.inl rfl)) pgs_nil))))))
      (pss_one (ps_ret (pe_op op_cat (pe_op op_cat (pe_lst (pa_cons (pe_joined (.cons pe_str (.cons (pe_fmt (pv 2)) (.cons pe_str (.cons (pe_fmt (pv 4)) .nil))))) pa_nil)) (pe_lc (own := [("part", 6), ("text", 7)]) (g := (gTup K 2 (gCons (gName 6) (gCons (gName 7) gNil)))) (tt := tYes) rfl nd (pi_tup (pv 5)) (blkOk_by (N := ["entry", "_", "name", "names", "group", "lines", "part", "text"]) (sc := defScope s_lines_of) (by decide +kernel)) (fun _ _ _ _ _ => pg_tup (by rfl) (pgs_cons (pg_name (i := 6) nd rfl (Or.inl rfl)) (pgs_cons (pg_name (i := 7) nd rfl (Or.inl rfl)) pgs_nil))) (fun _ _ _ _ _ => pts_nil) (fun _ _ _ _ _ => (pe_joined (.cons (pe_fmt (pv 6)) (.cons pe_str (.cons (pe_fmt (pv 7)) .nil))))))) (pe_lst (pa_cons pe_str pa_nil)))))))), ?_⟩
    walk_at "rd"
    cases e with
    | side n o s m pl =>
      obtain ⟨qa, hp, hq⟩ := id ea
      refine ⟨p, _, _, _, rfl, rfl, SqT.of hp, at0, ?_⟩
      walk_at "rd"
      refine ⟨rfl, _, rfl, ?_⟩
      refine ite2 (fun _ => ?_) (fun z => absurd (decide_eq_true rfl) z)
      walk_at "rd"
      refine ⟨p, n, o, s, m, pl, rfl, ea, ok.1, ok.2.2.1, ok.2.2.2, ?_⟩
      walk_at "rd"
      refine ⟨(by show 1 ≤ sizeLine; decide), fun l nl => ?_⟩
      exact q l _ nl (fun b u z => (upd_ne (ne_of_none z nl)).trans z) upd_same
    | set n ns =>
      obtain ⟨qa, hp, hq⟩ := id ea
      refine ⟨p, _, _, _, rfl, rfl, SqT.of hp, at0, ?_⟩
      walk_at "rd"
      refine ⟨rfl, _, rfl, ?_⟩
      refine ite2 (fun z => absurd z (by decide +kernel)) (fun _ => ?_)
      walk_at "rd"
      refine ⟨p, _, _, _, rfl, rfl, SqT.of hp, at0, ?_⟩
      walk_at "rd"
      refine ⟨rfl, _, rfl, ?_⟩
      refine ite2 (fun _ => ?_) (fun z => absurd (decide_eq_true rfl) z)
      walk_at "rd"
      refine ⟨p, _, rfl, SqT.of hp, rfl, _, _, rfl, _, _, rfl, _, _, rfl, rfl, ?_⟩
      walk_at "rd"
      refine ⟨rfl, ?_⟩
      walk_at "rd"
      refine ⟨qa, _, rfl, .inl (SqT.of hq), ?_⟩
      walk_at "rd"
      have n4 := ok.2.2.2.1
      refine ⟨?_, fun p1 np1 => ?_⟩
      · show (ns.map V.str ++ []).length + 1 + 1 ≤ sizeLine
        rw [List.append_nil, List.length_map]
        exact Nat.le_trans (by omega : _ ≤ 6) (by decide)
      generalize e1 : upd H p1 _ = H1
      have g1 : H1 p1 = some (.lst ((("set" : Str) :: n :: ns).map V.str)) := by rw [← e1, upd_same]; exact congrArg (fun z => some (HO.lst (V.str "set" :: V.str n :: z))) (List.append_nil _)
      have s1 : Same H H1 := by rw [← e1]; exact fun b u z => (upd_ne (ne_of_none z np1)).trans z
      clear e1
      walk_at "rd"
      refine ⟨_, p1, ("set" : Str) :: n :: ns, rfl, rfl, .inl (SqL.of g1), ?_, ?_⟩
      · have b := StrLaws.sumLen_le (B := 500) (("set" : Str) :: n :: ns) (fun y hy => by
          rcases List.mem_cons.mp hy with rfl | hy
          · decide +kernel
          · rcases List.mem_cons.mp hy with rfl | hy
            · exact (name_word ok.1).le
            · exact (name_word (ok.2.2.2.2 y hy).1).le)
        have c : (" " : Str).length = 1 := by decide +kernel
        rw [c]
        have l : (("set" : Str) :: n :: ns).length = ns.length + 2 := rfl
        rw [l] at b ⊢
        have : (ns.length + 2) * 500 ≤ 6 * 500 := Nat.mul_le_mul_right _ (by omega)
        omega
      walk_at "rd"
      refine ⟨(by show 1 ≤ sizeLine; decide), fun l nl => ?_⟩
      exact q l _ (s1.free nl) (s1.trans fun b u z => (upd_ne (ne_of_none z nl)).trans z) upd_same
    | log n g ls =>
      obtain ⟨qa, ps, hp, hq, lp, ap⟩ := id ea
      refine ⟨p, _, _, _, rfl, rfl, SqT.of hp, at0, ?_⟩
      walk_at "rd"
      refine ⟨rfl, _, rfl, ?_⟩
      refine ite2 (fun z => absurd z (by decide +kernel)) (fun _ => ?_)
      walk_at "rd"
      refine ⟨p, _, _, _, rfl, rfl, SqT.of hp, at0, ?_⟩
      walk_at "rd"
      refine ⟨rfl, _, rfl, ?_⟩
      refine ite2 (fun z => absurd z (by decide +kernel)) (fun _ => ?_)
      walk_at "rd"
      refine ⟨p, _, rfl, SqT.of hp, rfl, _, _, rfl, _, _, rfl, _, _, rfl, _, _, rfl, rfl, ?_⟩
      walk_at "rd"
      have c1 : (Str.ofString "log ").length = 4 := by decide +kernel
      have c2 : (Str.ofString " ").length = 1 := by decide +kernel
      have c5 : Str.empty.length = 0 := by decide +kernel
      have z : sizeLine = 16777216 := by decide +kernel
      have l1 := (name_facts ok.1).2.1
      obtain ⟨ns, n4, ng, fg, al⟩ := ok.2.2.1
      have l2 := (name_facts ng).2.1
      have l50 := ok.2.2.2.1
      have ll := ok.2.2.2.2
      have lw : ∀ li ∈ ls, WordP li.1 ∧ WordP li.2 := fun li hl => by
        obtain ⟨nn, o, s, m, pl, fig, _, g0, g1, p60, tx⟩ := ll li hl
        exact ⟨name_word nn, by rw [tx]; exact text_word g0 g1 p60⟩
      refine ⟨(by simp only [Str.length_append, c1, c2, c5]; omega), ?_⟩
      walk_at "rd"
      refine ⟨by omega, ?_⟩
      walk_at "rd"
      refine ⟨(by simp only [Str.length_append, c1, c2, c5]; omega), ?_⟩
      walk_at "rd"
      refine ⟨(by simp only [Str.length_append, c1, c2, c5]; omega), ?_⟩
      walk_at "rd"
      refine ⟨by omega, ?_⟩
      walk_at "rd"
      refine ⟨(by simp only [Str.length_append, c1, c2, c5]; omega), ?_⟩
      rw [log_text]
      walk_at "rd"
      refine ⟨(by show 1 ≤ sizeLine; decide), fun p1 np1 => ?_⟩
      generalize e1 : upd H p1 _ = H1
      have g1 : H1 p1 = some (.lst [.str (lineW [("log" : Str), n, g])]) := by rw [← e1]; exact upd_same
      have s1 : Same H H1 := by rw [← e1]; exact fun b u z => (upd_ne (ne_of_none z np1)).trans z
      clear e1
      have hq1 := s1 _ _ hq
      walk_at "rd"
      refine ⟨⟨_, SqT.of hq1⟩, fun D nD => ?_⟩
      refine lc_it (te := fun σ H Q => tJs [tFmt (tVar 6), tC (V.str (Str.ofString " ")), tFmt (tVar 7)] Str.empty σ H fun out H1 => Q (.str out) H1) (walk_tup (K := K) (a := qa) (xs := ps.map V.ref)) (fun j H3 => H3 D = some (.lst ((ls.take j).map fun l => V.str (lineW [l.1, l.2]))) ∧ Same H1 H3) ⟨upd_same, fun b u z => (upd_ne (ne_of_none z nD)).trans z⟩ (fun _ _ _ ⟨_, s3⟩ => SqT.of (s3 _ _ hq1)) ?_ ?_
      · rintro j y H3 H4 hj ⟨hD, s3⟩ ⟨rfl, ey⟩
        rw [List.getElem?_map] at ey
        obtain ⟨x, ex, rfl⟩ := Option.map_eq_some_iff.mp ey
        rw [List.length_map] at hj
        obtain ⟨li, el⟩ : ∃ li, ls[j]? = some li := ⟨_, List.getElem?_eq_getElem (by omega)⟩
        have hx := s3 _ _ (s1 _ _ (ap j x li ex el))
        obtain ⟨w1, w2⟩ := lw li (List.mem_of_getElem? el)
        have b1 := w1.le
        have b2 := w2.le
        refine ⟨x, _, rfl, SqT.of hx, rfl, _, _, rfl, _, _, rfl, rfl, ?_⟩
        refine ⟨rfl, ?_⟩
        walk_at "rd"
        refine ⟨by omega, ?_⟩
        walk_at "rd"
        refine ⟨(by simp only [Str.length_append, c1, c2, c5]; omega), ?_⟩
        walk_at "rd"
        refine ⟨(by simp only [Str.length_append, c1, c2, c5]; omega), ?_⟩
        walk_at "rd"
        refine ⟨by omega, ?_⟩
        walk_at "rd"
        refine ⟨(by simp only [Str.length_append, c1, c2, c5]; omega), ?_⟩
        rw [pair_text]
        refine ⟨_, hD, ?_, ?_, fun b u z => (upd_ne (ne_of_none z nD)).trans (s3 _ _ z)⟩
        · rw [List.length_map, List.length_take]
          exact Nat.lt_of_le_of_lt (by omega : _ ≤ 51) (by decide)
        · rw [List.take_succ, el, List.map_append]
          exact upd_same
      rintro H3 ⟨hD, s3⟩
      rw [List.length_map, lp, List.take_length] at hD
      walk_at "rd"
      have g3 := s3 _ _ g1
      refine ⟨p1, D, _, _, rfl, rfl, g3, hD, ?_, fun p2 np2 => ?_⟩
      · rw [List.length_map]
        show 1 + ls.length ≤ sizeLine
        omega
      generalize e2 : upd H3 p2 _ = H4
      have g4 : H4 p2 = some (.lst ([V.str (lineW [("log" : Str), n, g])] ++ ls.map fun l => V.str (lineW [l.1, l.2]))) := by rw [← e2]; exact upd_same
      have s4 : Same H3 H4 := by rw [← e2]; exact fun b u z => (upd_ne (ne_of_none z np2)).trans z
      clear e2
      walk_at "rd"
      refine ⟨(by show 1 ≤ sizeLine; decide), fun p3 np3 => ?_⟩
      generalize e3 : upd H4 p3 _ = H5
      have g5 : H5 p3 = some (.lst [V.str "end"]) := by rw [← e3]; exact upd_same
      have s5 : Same H4 H5 := by rw [← e3]; exact fun b u z => (upd_ne (ne_of_none z np3)).trans z
      clear e3
      refine ⟨p2, p3, _, _, rfl, rfl, s5 _ _ g4, g5, ?_, fun p4 np4 => ?_⟩
      · rw [List.length_append, List.length_map]
        show 1 + ls.length + 1 ≤ sizeLine
        omega
      have all := s1.trans (s3.trans (s4.trans s5))
      refine q p4 _ (all.free np4) (all.trans fun b u z => (upd_ne (ne_of_none z np4)).trans z) ?_
      rw [upd_same]
      show some (HO.lst _) = some (HO.lst _)
      congr 2
      show _ = ((lineW [("log" : Str), n, g] :: ((ls.map fun l => [l.1, l.2]) ++ [[("end" : Str)]]).map lineW)).map V.str
      rw [List.map_append, List.map_cons, List.map_append, List.map_map, List.map_map]
      rfl
end
end HT
namespace HT
open PySem L2 TL
theorem tS_tl (i : Int) : ∃ mk D : List Nat, tl (tS i) = mk ++ D ∧ (mk = [] ∨ mk = [45]) ∧ D = numL i.natAbs := by
  cases i with
  | ofNat n => exact ⟨[], numL n, tl_num n, .inl rfl, rfl⟩
  | negSucc n =>
    refine ⟨[45], numL (n + 1), ?_, .inr rfl, rfl⟩
    have e : toString (Int.negSucc n) = "-" ++ toString (((n + 1 : Nat) : Int)) := rfl
    unfold tS
    rw [e, tl_ofString, String.toList_append, List.map_append, ← tl_ofString, ← tl_ofString, tl_num]
    rfl
theorem tS_word {i : Int} (h : i.natAbs ≤ 10 ^ 41) : WordP (tS i) := by
  obtain ⟨mk, D, e, m, d⟩ := tS_tl i
  refine digit_word e m (fun c hc => .inl ?_) ?_ (Nat.le_trans (tS_len h) (by decide))
  · rw [d] at hc; exact numL_digits _ c hc
  · rw [d]; exact numL_ne _
theorem mode_word {m : Str} (h : Mode m) : WordP m := by
  rcases h with rfl | rfl | rfl | rfl | rfl <;> exact ⟨by decide +kernel, by decide +kernel, by decide +kernel, by decide +kernel, by decide +kernel⟩
theorem cw_side : WordP "side" := ⟨by decide +kernel, by decide +kernel, by decide +kernel, by decide +kernel, by decide +kernel⟩
theorem cw_set : WordP "set" := ⟨by decide +kernel, by decide +kernel, by decide +kernel, by decide +kernel, by decide +kernel⟩
theorem cw_log : WordP "log" := ⟨by decide +kernel, by decide +kernel, by decide +kernel, by decide +kernel, by decide +kernel⟩
theorem cw_end : WordP "end" := ⟨by decide +kernel, by decide +kernel, by decide +kernel, by decide +kernel, by decide +kernel⟩
theorem cw_places : WordP "places" := ⟨by decide +kernel, by decide +kernel, by decide +kernel, by decide +kernel, by decide +kernel⟩
theorem cw_at : WordP "at" := ⟨by decide +kernel, by decide +kernel, by decide +kernel, by decide +kernel, by decide +kernel⟩
/-- a line's words -/
structure LineP (ws : List Str) : Prop where
  ne : ws ≠ []
  le : ws.length ≤ 8
  al : ∀ z ∈ ws, WordP z
theorem ent_words {es : List Ent} {e : Ent} (h : EntOk es e) : (wordsE e).length ≤ 52 ∧ ∀ ws ∈ wordsE e, LineP ws := by
  cases e with
  | side n o s m pl =>
    obtain ⟨hn, _, sp, p60⟩ := h
    refine ⟨by show 1 ≤ 52; decide, fun ws hw => ?_⟩
    rcases List.mem_singleton.mp hw with rfl
    have six : ∀ z ∈ ([("side" : Str), n, tS s, m, "places", tS (pl : Int)] : List Str), WordP z := fun z hz => by
      simp only [List.mem_cons, List.not_mem_nil, or_false] at hz
      rcases hz with rfl | rfl | rfl | rfl | rfl | rfl
      · exact cw_side
      · exact name_word hn
      · exact tS_word (by have := sp.s0; have := sp.s1; omega)
      · exact mode_word sp.md
      · exact cw_places
      · exact tS_word (by omega)
    unfold sideWs
    by_cases o0 : o = 0
    · rw [if_pos o0]
      exact ⟨by simp, by simp, fun z hz => six z (by simpa using hz)⟩
    · rw [if_neg o0]
      refine ⟨by simp, by simp, fun z hz => ?_⟩
      rcases List.mem_append.mp hz with hz | hz
      · exact six z hz
      · simp only [List.mem_cons, List.not_mem_nil, or_false] at hz
        rcases hz with rfl | rfl
        · exact cw_at
        · exact tS_word (by have := sp.o0; have := sp.o1; omega)
  | set n ns =>
    obtain ⟨hn, _, n1, n4, al⟩ := h
    refine ⟨by show 1 ≤ 52; decide, fun ws hw => ?_⟩
    rcases List.mem_singleton.mp hw with rfl
    refine ⟨by simp, by show ns.length + 1 + 1 ≤ 8; omega, fun z hz => ?_⟩
    rcases List.mem_cons.mp hz with rfl | hz
    · exact cw_set
    · rcases List.mem_cons.mp hz with rfl | hz
      · exact name_word hn
      · exact name_word (al z hz).1
  | log n g ls =>
    obtain ⟨hn, _, ⟨ns, n4, ng, fg, al⟩, l50, ll⟩ := h
    refine ⟨?_, fun ws hw => ?_⟩
    · show ((ls.map fun l => [l.1, l.2]) ++ [[("end" : Str)]]).length + 1 ≤ 52
      rw [List.length_append, List.length_map]
      show ls.length + 1 + 1 ≤ 52
      omega
    · rcases List.mem_cons.mp hw with rfl | hw
      · refine ⟨by simp, by simp, fun z hz => ?_⟩
        simp only [List.mem_cons, List.not_mem_nil, or_false] at hz
        rcases hz with rfl | rfl | rfl
        · exact cw_log
        · exact name_word hn
        · exact name_word ng
      · rcases List.mem_append.mp hw with hw | hw
        · obtain ⟨l, hl, rfl⟩ := List.mem_map.mp hw
          obtain ⟨nn, o, s, m, pl, fig, _, g0, g1, p60, tx⟩ := ll l hl
          refine ⟨by simp, by simp, fun z hz => ?_⟩
          simp only [List.mem_cons, List.not_mem_nil, or_false] at hz
          rcases hz with rfl | rfl
          · exact name_word nn
          · rw [tx]; exact text_word g0 g1 p60
        · rcases List.mem_singleton.mp hw with rfl
          refine ⟨by simp, by simp, fun z hz => ?_⟩
          rcases List.mem_singleton.mp hz with rfl
          exact cw_end
theorem glue_le : ∀ ws : List Str, (∀ z ∈ ws, WordP z) → (StrLaws.glueL [32] ws).length ≤ ws.length * 1501
  | [], _ => Nat.zero_le _
  | w :: ws, h => by
    have a := glue_le ws fun z hz => h z (List.mem_cons_of_mem _ hz)
    have b := (h w List.mem_cons_self).le
    rw [len_tl] at b
    show ([32] ++ (tl w ++ StrLaws.glueL [32] ws)).length ≤ (ws.length + 1) * 1501
    rw [List.length_append, List.length_append]
    show 1 + _ ≤ _
    omega
theorem line_len {ws : List Str} (h : LineP ws) : (lineW ws).length ≤ 12010 := by
  cases ws with
  | nil => exact absurd rfl h.ne
  | cons w ws =>
    have a := glue_le ws fun z hz => h.al z (List.mem_cons_of_mem _ hz)
    have b := (h.al w List.mem_cons_self).le
    have c := h.le
    rw [len_tl] at b
    rw [len_tl, tl_line, List.length_append]
    have : ws.length * 1501 ≤ 7 * 1501 := Nat.mul_le_mul_right _ (by simpa using c)
    omega
/-- all lines of the entries, by their words -/
def allW (es : List Ent) : List (List Str) := es.flatMap wordsE
theorem all_words : ∀ (es : List Ent) (pre : List Ent), (∀ (i : Nat) (e : Ent), es[i]? = some e → EntOk (pre ++ es.take i) e) → (allW es).length ≤ es.length * 52 ∧ ∀ ws ∈ allW es, LineP ws
  | [], _, _ => ⟨Nat.zero_le _, fun _ h => by cases h⟩
  | e :: es, pre, h => by
    have a := ent_words (h 0 e rfl)
    have b := all_words es (pre ++ [e]) fun i x hx => by
      have := h (i + 1) x hx
      rwa [List.take_succ_cons, List.append_cons] at this
    unfold allW at b ⊢
    rw [List.flatMap_cons]
    refine ⟨?_, fun ws hw => ?_⟩
    · rw [List.length_append, List.length_cons, Nat.add_mul]
      omega
    · rcases List.mem_append.mp hw with hw | hw
      · exact a.2 ws hw
      · exact b.2 ws hw
theorem take_len (es : List Ent) (i : Nat) : (allW (es.take i)).length ≤ (allW es).length := by
  have e : allW es = allW (es.take i) ++ allW (es.drop i) := by
    unfold allW
    rw [← List.flatMap_append, List.take_append_drop]
  rw [e, List.length_append]
  omega
def paperT (es : List Ent) : Str := Txt.join "" (((allW es).map lineW).map fun z => z ++ ("\n" : Str))
def spPaper : Sp := fun vs H Q _ => ∃ (l : Addr) (es : List Ent), vs = [.ref l] ∧ EntsAt H l es ∧ AllOk es ∧ es.length ≤ 12 ∧ ∀ H', Same H H' → Q (.str (paperT es)) H'
section
variable {P : Program} {w : World} {K : PySem.W.Frag} {mg : Str → Option Value} {base : Heap} {aN f1 f2 f3 f4 f5 : Addr} {d1 d2 d3 d4 d5 : FuncData}
theorem ok_paper {f : Addr} {fd : FuncData} (F : Fun K "paper_text" "paper_text" s_paper_text f fd) (Ke : Cal P w K mg base "known_entries" 8 ["entries"] spKnE f1 d1) (Lo : Cal P w K mg base "_lines_of" 2 ["entry"] spLinesOf f2 d2) : FnOk P w K mg base CX0 9 f fd ["entries"] spPaper := by
  refine F.ok sc_paper_text (fun vs H Q E h => ?_) (fun cdv A outer s0 H vs Q E hr h => ?_)
  · obtain ⟨l, es, rfl, _⟩ := h
    rfl
  · obtain ⟨l, es, rfl, ea, ok, l12, q⟩ := h
    have nd := sc_paper_text.nd
    refine ⟨_, (pss_cons (ps_expr (pcl Ke hr (by decide) (by rfl) (pa_cons (pv 0) pa_nil)))
      (pss_cons (ps_set (i := 1) nd rfl (Or.inl rfl) (pe_lst pa_nil))
      (pss_cons (ps_for PassesOwn.never rfl (pi_list (pv 0)) (pg_name (i := 2) nd rfl (Or.inl rfl)) (pss_one (ps_expr (pe_bm PySem.F.plainAttrs_list PySem.F.slot_list_extend PySem.F.type_list_extend mt_extend (pv 1) (pa_cons (pcl Lo hr (by decide) (by rfl) (pa_cons (pv 2) pa_nil)) pa_nil)))))
      (pss_one (ps_ret (pe_bm PySem.F.plainAttrs_str PySem.F.slot_str_join PySem.F.type_str_join mt_join pe_str (pa_cons (pe_lc (own := [("line", 3)]) (g := gName 3) (tt := tYes) rfl nd (pi_list (pv 1)) (blkOk_by (N := ["entries", "lines", "entry", "line"]) (sc := defScope s_paper_text) (by decide +kernel)) (fun _ _ _ _ _ => pg_name (i := 3) nd rfl (Or.inl rfl)) (fun _ _ _ _ _ => pts_nil) (fun _ _ _ _ _ => (pe_op op_add_str (pv 3) pe_str))) pa_nil))))))), ?_⟩
    walk_at "rd"
    refine ⟨l, es, rfl, ea, ok, by omega, fun d H1 s1 _ => ?_⟩
    walk_at "rd"
    refine ⟨(by show 0 ≤ sizeLine; decide), fun L nL => ?_⟩
    generalize e1 : upd H1 L _ = H2
    have g1 : H2 L = some (.lst []) := by rw [← e1]; exact upd_same
    have s2 : Same H1 H2 := by rw [← e1]; exact fun b u z => (upd_ne (ne_of_none z nL)).trans z
    clear e1
    obtain ⟨ps, lps, hl, at_⟩ := ea
    obtain ⟨aw1, aw2⟩ := all_words es [] (fun i e h => ok i e h)
    have s12 := s1.trans s2
    have nL0 := s1.free nL
    walk_at "rd"
    refine ⟨⟨_, SqL.of (s12 _ _ hl)⟩, ?_⟩
    refine for_list (K := K) (a := l) (xs := ps.map V.ref) (fun i st H3 => ∃ x2 : Option V, st = [some (.ref l), some (.ref L), x2, none] ∧ H3 L = some (.lst (((allW (es.take i)).map lineW).map V.str)) ∧ Same H H3) ⟨none, rfl, g1, s12⟩ (fun _ _ _ _ ⟨_, _, _, sm⟩ => SqL.of (sm _ _ hl)) ?_ ?_
    · rintro i z st H3 hz ⟨x2, rfl, hL, sm⟩
      rw [List.getElem?_map] at hz
      obtain ⟨p, ep, rfl⟩ := Option.map_eq_some_iff.mp hz
      have il : i < ps.length := (List.getElem?_eq_some_iff.mp ep).1
      obtain ⟨e, ee⟩ : ∃ e, es[i]? = some e := ⟨_, List.getElem?_eq_getElem (by omega)⟩
      walk_at "rd"
      refine ⟨.inl ⟨rfl, _, SqL.of hL⟩, ?_⟩
      walk_at "rd"
      refine ⟨p, e, es.take i, rfl, (at_ i p e ep ee).same sm, ok i e ee, fun b H4 nb s4 hb => ?_⟩
      have bl := (ent_words (ok i e ee)).1
      have tl1 := take_len es i
      refine ⟨L, b, _, _, rfl, rfl, s4 _ _ hL, hb, ?_, ?_⟩
      · rw [List.length_map, List.length_map, List.length_map]
        show (allW (es.take i)).length + ((wordsE e).map lineW).length ≤ sizeLine
        rw [List.length_map]
        exact Nat.le_trans (by omega : _ ≤ 1000) (by decide)
      refine ⟨_, rfl, ?_, fun b u z => (upd_ne (ne_of_none z nL0)).trans (s4 _ _ (sm _ _ z))⟩
      rw [upd_same]
      have tk : allW (es.take (i + 1)) = allW (es.take i) ++ wordsE e := by
        unfold allW
        rw [List.take_succ, ee, List.flatMap_append]
        show _ ++ List.flatMap wordsE [e] = _
        rw [List.flatMap_cons, List.flatMap_nil, List.append_nil]
      rw [tk, List.map_append, List.map_append]
      rfl
    rintro st H3 ⟨x2, rfl, hL, sm⟩
    rw [List.length_map, lps, List.take_length] at hL
    walk_at "rd"
    refine ⟨rfl, ?_⟩
    walk_at "rd"
    refine ⟨⟨_, SqL.of hL⟩, fun D nD => ?_⟩
    refine lc_it (walk_list (K := K) (a := L) (xs := ((allW es).map lineW).map V.str)) (fun j H4 => H4 D = some (.lst ((((allW es).map lineW).take j).map fun z => V.str (z ++ ("
" : Str)))) ∧ Same H3 H4) ⟨upd_same, fun b u z => (upd_ne (ne_of_none z nD)).trans z⟩ (fun _ _ _ ⟨_, s3⟩ => SqL.of (s3 _ _ hL)) ?_ ?_
    · rintro j y H4 H5 hj ⟨hD, s3⟩ ⟨rfl, ey⟩
      rw [List.getElem?_map] at ey
      obtain ⟨x, ex, rfl⟩ := Option.map_eq_some_iff.mp ey
      rw [List.length_map, List.length_map] at hj
      have xl : x.length ≤ 12010 := by
        obtain ⟨ws, hw, rfl⟩ := List.mem_map.mp (List.mem_of_getElem? ex)
        exact line_len (aw2 ws hw)
      refine ⟨rfl, ?_⟩
      walk_at "rd"
      have c : (Str.ofString "
").length = 1 := by decide +kernel
      refine ⟨by rw [c]; exact Nat.le_trans (by omega : _ ≤ 13000) (by decide), ?_⟩
      refine ⟨_, hD, ?_, ?_, fun b u z => (upd_ne (ne_of_none z nD)).trans (s3 _ _ z)⟩
      · rw [List.length_map, List.length_take, List.length_map]
        exact Nat.lt_of_le_of_lt (by omega : _ ≤ 1000) (by decide)
      · rw [List.take_succ, ex, List.map_append]
        exact upd_same
    rintro H4 ⟨hD, s4⟩
    walk_at "rd"
    rw [List.length_map, List.take_length] at hD
    refine ⟨_, D, ((allW es).map lineW).map (fun z => z ++ ("
" : Str)), rfl, rfl, .inl (SqL.of (by rw [List.map_map]; exact hD)), ?_, ?_⟩
    · have b := StrLaws.sumLen_le (B := 12011) (((allW es).map lineW).map (fun z => z ++ ("
" : Str))) (fun y hy => by
        obtain ⟨z, hz, rfl⟩ := List.mem_map.mp hy
        obtain ⟨ws, hw, rfl⟩ := List.mem_map.mp hz
        have := line_len (aw2 ws hw)
        have c : ("
" : Str).length = 1 := by decide +kernel
        rw [Str.length_append, c]
        omega)
      have c : ("" : Str).length = 0 := by decide +kernel
      rw [c]
      rw [List.length_map, List.length_map] at b ⊢
      have : (allW es).length * 12011 ≤ 624 * 12011 := Nat.mul_le_mul_right _ (by omega)
      omega
    exact q H4 (sm.trans s4)
end
end HT
namespace HT
open PySem L2
structure NumT (mg : Str → Option Value) : Prop where
  len : mg "len" = none
  all : mg "all" = none
  int : mg "int" = none
  md : ∃ t, mg "MOST_DIGITS" = some (.int 41 t)
  dg : ∃ t, mg "DIGITS" = some (.str digS t)
end HT
namespace HT
open PySem L2 TL CwR NumText
/-- the digits of a number's word -/
def digsOf (w : Str) : List Nat := if (tl w).head? = some 45 then (tl w).tail else tl w
theorem rem_any (z : Str) : tl (Txt.removeprefix z "-") = digsOf z := by
  have ty : ("-" : Str).cps = #[45] := by decide +kernel
  have l1 : ("-" : Str).length = 1 := by decide +kernel
  unfold Txt.removeprefix digsOf
  have sub : Builtin.Str.subAt z "-" 0 = decide ((tl z).head? = some 45) := by
    unfold Builtin.Str.subAt
    rw [l1, ty]
    have ex : (z.cps.extract 0 (0 + 1)).toList = (tl z).take 1 := by simp [tl]
    have b : (z.cps.extract 0 (0 + 1) == #[45]) = decide ((tl z).take 1 = [45]) := by
      rw [Bool.eq_iff_iff, beq_iff_eq, decide_eq_true_iff, ← ex]
      exact ⟨fun h => by rw [h], fun h => Array.toList_inj.mp h⟩
    rw [b]
    cases tl z with
    | nil => rfl
    | cons c D => simp
  rw [sub]
  by_cases g : (tl z).head? = some 45
  · rw [if_pos (by simp [g]), if_pos g, l1]
    cases e : tl z with
    | nil => rw [e] at g; cases g
    | cons c D =>
      have zl : z.length = D.length + 1 := by rw [len_tl, e]; simp
      show tl (if (z.length - 1 == z.length) = true then z else Builtin.Str.strSub z 1 z.length) = D
      rw [if_neg (by rw [zl]; simp), tl_strSub_end, e]
      rfl
  · rw [if_neg (by simp [g]), if_neg g]
    rfl
def numB (w : Str) : Bool := (decide (1 ≤ (digsOf w).length) && decide ((digsOf w).length ≤ 41)) && (((digsOf w).all fun c => decide (c ∈ digS.cps.toList)) && (decide (w = "0") || decide (¬ (digsOf w).head? = some 48)))
def numI (w : Str) : Int := if (tl w).head? = some 45 then -(digitsVal (digsOf w) : Int) else (digitsVal (digsOf w) : Int)
theorem num_facts {w : Str} (h : numB w = true) : 1 ≤ (digsOf w).length ∧ (digsOf w).length ≤ 41 ∧ AllDigits (digsOf w) ∧ (w = "0" ∨ ¬ (digsOf w).head? = some 48) ∧ w.length ≤ 42 := by
  unfold numB at h
  simp only [Bool.and_eq_true, Bool.or_eq_true, decide_eq_true_eq] at h
  obtain ⟨⟨a, b⟩, c, d⟩ := h
  refine ⟨a, b, fun x hx => mem_digS.mp (of_decide_eq_true (List.all_eq_true.mp c x hx)), d, ?_⟩
  rw [len_tl]
  unfold digsOf at b
  split at b
  · rw [List.length_tail] at b
    omega
  · omega
theorem num_int {w : Str} (h : numB w = true) : intText? w = some (numI w) := by
  obtain ⟨a, b, ad, _, l⟩ := num_facts h
  have ne : digsOf w ≠ [] := fun e => by rw [e] at a; exact absurd a (by decide)
  unfold numI
  by_cases g : (tl w).head? = some 45
  · rw [if_pos g]
    have e3 : w.cps.toList = 45 :: digsOf w := by
      unfold digsOf
      rw [if_pos g]
      show tl w = _
      cases e : tl w with
      | nil => rw [e] at g; cases g
      | cons c D => rw [e] at g; injection g with g; rw [g]; rfl
    exact intText_neg e3 ad ne (by omega)
  · rw [if_neg g]
    have e3 : w.cps.toList = digsOf w := by
      unfold digsOf
      rw [if_neg g]
    have := intText_digits (x := w) (by rw [e3]; exact ad) (by rw [e3]; exact ne) (by omega)
    rw [e3] at this
    exact this
def spNumX : Sp := fun vs H Q _ => ∃ w : Str, vs = [.str w] ∧ w.length ≤ 10000 ∧ ∀ H', Same H H' → Q (.bl (numB w)) H'
section
variable {P : Program} {w : World} {K : PySem.W.Frag} {mg : Str → Option Value} {base : Heap} {aN f1 f2 f3 f4 f5 : Addr} {d1 d2 d3 d4 d5 : FuncData}
theorem ok_is_number_x {f : Addr} {fd : FuncData} (F : Fun K "_is_number" "_is_number" s_is_number f fd) (T : NumT mg) : FnOk P w K mg base CX0 1 f fd ["word"] spNumX := by
  refine F.ok sc_is_number (fun vs H Q E h => ?_) (fun cdv A outer s0 H vs Q E hr h => ?_)
  · obtain ⟨i, rfl, _⟩ := h
    rfl
  · obtain ⟨wd, rfl, wl, q⟩ := h
    have nd := sc_is_number.nd
    obtain ⟨tmd, hmd⟩ := T.md
    obtain ⟨tdg, hdg⟩ := T.dg
    refine ⟨_, (pss_cons (ps_set (i := 1) nd rfl (Or.inl rfl) (pe_bm PySem.F.plainAttrs_str PySem.F.slot_str_removeprefix PySem.F.type_str_removeprefix mt_removeprefix (pv 0) (pa_cons pe_str pa_nil)))
      (pss_cons (ps_if (PW.pt (pw_or (pt_not (pt_chain op_le op_le pe_int (pe_callB call_len_str (by rfl) T.len PySem.boot_len (pa_cons (pv 1) pa_nil)) (pe_glob (v := .int 41) (by rfl) hmd ⟨_, rfl⟩))) (pw_or1 (pt_not (pt_val (pe_callB (cr_all rfl) (by rfl) T.all (by decide +kernel) (pa_cons (pe_lc (own := [("digit", 2)]) (g := gName 2) (tt := tYes) rfl nd (pi_str (pv 1)) (blkOk_by (N := ["word", "digits", "digit"]) (sc := defScope s_is_number) (by decide +kernel)) (fun _ _ _ _ _ => pg_name (i := 2) nd rfl (Or.inl rfl)) (fun _ _ _ _ _ => pts_nil) (fun _ _ _ _ _ => (pe_cmpR op_in_sign (pv 2) (pe_glob (v := .str digS) (by rfl) hdg ⟨_, rfl⟩) (by rfl)))) pa_nil))))))) (pss_one (ps_ret pe_bl)) pss_nil)
      (pss_one (ps_ret (pe_or (pe_cmpR op_eq (pv 0) pe_str (nomark _)) (pe_one (pe_cmpR op_ne (pe_ix ix_str (pv 1) pe_int (fun _ _ => rfl)) pe_str (nomark _)))))))), ?_⟩
    unfold numB at q
    have rp := rem_any wd
    walk_at "rd"
    refine ⟨rfl, ?_⟩
    walk_at "rd"
    refine ⟨Nat.le_trans wl (by decide), ?_⟩
    generalize Txt.removeprefix wd (Str.ofString "-") = z at rp
    rw [← rp] at q
    have zt : (tl z).length = z.length := (len_tl z).symm
    rw [zt] at q
    have zle : z.length ≤ 10000 := by
      rw [len_tl, rp]
      unfold digsOf
      rw [len_tl] at wl
      split
      · rw [List.length_tail]; omega
      · exact wl
    walk_at "rd"
    refine ⟨Nat.le_trans zle (by decide), ?_⟩
    walk_at "rd"
    refine ite2 (fun h1 => ?_) (fun h1 => ?_)
    · have f1 : 1 ≤ z.length := by have := of_decide_eq_true h1; omega
      rw [decide_eq_true f1, Bool.true_and] at q
      walk_at "rd"
      refine ite2 (fun h2 => ?_) (fun h2 => ?_)
      · have f2 : ¬ z.length ≤ 41 := by
          have := of_decide_eq_false (not_t' h2)
          omega
        rw [decide_eq_false f2, Bool.false_and] at q
        walk_at "rd"
        exact q H (Same.refl H)
      have f2 : z.length ≤ 41 := by
        have := of_decide_eq_true (not_f h2)
        omega
      rw [decide_eq_true f2, Bool.true_and] at q
      walk_at "rd"
      refine fun D1 nD => ?_
      refine lc_it (walk_str (z := z)) (fun j H3 => H3 D1 = some (.lst ((((tl z).take j).map fun c => decide (c ∈ digS.cps.toList)).map V.bl)) ∧ Same H H3) ⟨upd_same, fun b u y => (upd_ne (ne_of_none y nD)).trans y⟩ (fun _ _ _ _ => trivial) ?_ ?_
      · rintro j y H3 H4 hj ⟨hD, s3⟩ ⟨rfl, c, ec, rfl⟩
        refine ⟨rfl, ?_⟩
        walk_at "rd"
        refine ⟨_, hD, ?_, ?_, fun b u y => (upd_ne (ne_of_none y nD)).trans (s3 _ _ y)⟩
        · rw [List.length_map, List.length_map, List.length_take]
          exact Nat.lt_of_le_of_lt (by omega : _ ≤ 41) (by decide)
        · have ec' : (tl z)[j]? = some c := by show z.cps.toList[j]? = _; rw [Array.getElem?_toList]; exact ec
          rw [List.take_succ, ec', List.map_append, List.map_append]
          exact upd_same
      rintro H3 ⟨hD, s3⟩
      have e0 : (tl z).take z.cps.size = tl z := List.take_of_length_le (by rw [zt]; exact Nat.le_refl _)
      rw [e0] at hD
      walk_at "rd"
      refine ⟨D1, _, rfl, SqL.of hD, ?_⟩
      have e : ((tl z).map fun c => decide (c ∈ digS.cps.toList)).all id = (tl z).all fun c => decide (c ∈ digS.cps.toList) := by rw [List.all_map]; rfl
      rw [e]
      refine ⟨_, rfl, ?_⟩
      refine ite2 (fun h3 => ?_) (fun h3 => ?_)
      · rw [not_t' h3, Bool.false_and] at q
        walk_at "rd"
        exact q H3 s3
      rw [not_f h3, Bool.true_and] at q
      walk_at "rd"
      refine ⟨rfl, _, rfl, ?_⟩
      rw [dec_str]
      refine ite2 (fun y => ?_) (fun y => ?_)
      · have y' : decide (wd = ("0" : Str)) = true := y
        rw [y', Bool.true_or] at q
        exact q H3 s3
      · have y' : decide (wd = ("0" : Str)) = false := by
          cases hh : decide (wd = ("0" : Str)) with
          | false => rfl
          | true => exact absurd hh y
        rw [y', Bool.false_or] at q
        obtain ⟨c, t, ct⟩ : ∃ c t, tl z = c :: t := by
          cases h : tl z with
          | nil => rw [len_tl, h] at f1; exact absurd f1 (by decide)
          | cons c t => exact ⟨c, t, rfl⟩
        have at1 : atI z.cps.toList 0 = some c := by
          unfold atI
          rw [ixN_in (Int.le_refl 0) (by rw [show z.cps.toList = tl z from rfl]; omega)]
          show z.cps.toList[0]? = some c
          rw [show z.cps.toList = tl z from rfl, ct]
          rfl
        walk_at "rd"
        refine ⟨z, 0, c, rfl, rfl, Nat.le_trans zle (by decide), at1, ?_⟩
        walk_at "rd"
        refine ⟨rfl, ?_⟩
        have same : (!decide (V.str ⟨#[c]⟩ = V.str "0")) = decide (¬ (tl z).head? = some 48) := by
          rw [dec_str, ct]
          show (!decide ((⟨#[c]⟩ : Str) = ("0" : Str))) = decide (¬ some c = some 48)
          by_cases g : c = 48
          · rw [g, decide_eq_true ((one_is tl_zero).mpr rfl), decide_eq_false (by simp)]
            rfl
          · rw [decide_eq_false (fun x => g ((one_is tl_zero).mp x)), decide_eq_true (by simpa using g)]
            rfl
        rw [same]
        exact q H3 s3
    · have f1 : ¬ 1 ≤ z.length := fun x => h1 (decide_eq_true (by omega))
      rw [decide_eq_false f1, Bool.false_and, Bool.false_and] at q
      walk_at "rd"
      exact q H (Same.refl H)
end
end HT
namespace HT
open PySem L2
/-- a test whose ways are joined by a statement of the heap -/
def tMidT (t : TT) : TT := fun σ H Q => ∃ M : Bool → Hp → Prop, t σ H M ∧ ∀ b H', M b H' → Q b H'
def tMidE (t : TE) : TE := fun σ H Q => ∃ M : V → Hp → Prop, t σ H M ∧ ∀ v H', M v H' → Q v H'
def tMidS (t : TS) : TS := fun D σ H => ∃ M : St → Hp → Prop, t { D with nx := M } σ H ∧ ∀ σ' H', M σ' H' → D.nx σ' H'
theorem pt_mid {X : Cx} {e : Expr} {t : TT} (h : PT X e t) : PT X e (tMidT t) :=
  ⟨fun pins s σ H _ I ⟨M, a, b⟩ => thn (h.run pins s σ H M I a) fun c _ ⟨H1, I1, q1⟩ => ⟨H1, I1, b c H1 q1⟩⟩
theorem pe_mid {X : Cx} {e : Expr} {t : TE} (h : PE X e t) : PE X e (tMidE t) :=
  ⟨fun pins s σ H _ I ⟨M, a, b⟩ => thn (h.run pins s σ H M I a) fun _ _ ⟨v, H1, I1, r, q1⟩ => ⟨v, H1, I1, r, b v H1 q1⟩⟩
theorem ps_mid {X : Cx} {st : Stmt} {t : TS} (h : PS X st t) : PS X st (tMidS t) :=
  ⟨fun pins s σ H D I ⟨M, a, b⟩ => thn (h.run pins s σ H { D with nx := M } I a) fun f _ q => by
    cases f with
    | next => obtain ⟨σ', H', I', q⟩ := q; exact ⟨σ', H', I', b σ' H' q⟩
    | brk => exact q
    | cont => exact q
    | ret v => exact q⟩
end HT
namespace HT
open PySem L2 TL CwR NumText
def eightE : List Str → Option RawE
  | [_, n, s, m, pw, p, aw, o] => if (pw = "places" ∧ aw = "at") ∧ (numB s = true ∧ numB p = true ∧ numB o = true) then some (.side n (numI o) (numI s) m (numI p)) else none
  | _ => none
/-- what the line of a side tells -/
def sideE (ws : List Str) : Option RawE :=
  if ws.length = 6 then eightE (ws ++ [("at" : Str), "0"]) else if ws.length = 8 ∧ ¬ ws[7]? = some ("0" : Str) then eightE ws else none
def spSideEntX : Sp := fun vs H Q _ => ∃ (l : Addr) (ws : List Str), vs = [.ref l] ∧ H l = some (.lst (ws.map V.str)) ∧ ws.length ≤ 1000000 ∧ (∀ x ∈ ws, x.length ≤ 10000) ∧ (∀ e, sideE ws = some e → ∀ (p : Addr) (H' : Hp), Same H H' → RawAt H' p e → Q (.ref p) H') ∧ (sideE ws = none → ∀ H', Same H H' → Q .non H')
section
variable {P : Program} {w : World} {K : PySem.W.Frag} {mg : Str → Option Value} {base : Heap} {aN f1 f2 f3 f4 f5 : Addr} {d1 d2 d3 d4 d5 : FuncData}
theorem ok_side_entry_x {f : Addr} {fd : FuncData} (F : Fun K "_side_entry_of" "_side_entry_of" s_side_entry_of f fd) (T : NumT mg) (Nu : Cal P w K mg base "_is_number" 1 ["word"] spNumX f1 d1) : FnOk P w K mg base CX0 2 f fd ["words"] spSideEntX := by
  refine F.ok sc_side_entry_of (fun vs H Q E h => ?_) (fun cdv A outer s0 H vs Q E hr h => ?_)
  · obtain ⟨l, ws, rfl, _⟩ := h
    rfl
  · obtain ⟨l, ws, rfl, hl, wl, wb, q1, q2⟩ := h
    have nd := sc_side_entry_of.nd
    refine ⟨_, (pss_cons (ps_mid (ps_if (pt_cmpR op_eq (pe_callB call_len_seq (by rfl) T.len PySem.boot_len (pa_cons (pv 0) pa_nil)) pe_int (nomark _)) (pss_one (ps_set (i := 0) nd rfl (Or.inl rfl) (pe_op op_cat (pv 0) (pe_lst (pa_cons pe_str (pa_cons pe_str pa_nil)))))) (pss_one (ps_if (PW.pt (pw_or (pt_cmpR op_ne (pe_callB call_len_seq (by rfl) T.len PySem.boot_len (pa_cons (pv 0) pa_nil)) pe_int (nomark _)) (pw_or1 (pt_cmpR op_eq (pe_ix ix_list (pv 0) pe_int (fun _ _ => rfl)) pe_str (nomark _))))) (pss_one (ps_ret pe_non)) pss_nil))))
      (pss_cons (ps_asg (pv 0) (pg_unl (n := 8) (by rfl) (pgs_cons (pg_name (i := 1) nd rfl (Or.inl rfl)) (pgs_cons (pg_name (i := 2) nd rfl (Or.inl rfl)) (pgs_cons (pg_name (i := 3) nd rfl (Or.inl rfl)) (pgs_cons (pg_name (i := 4) nd rfl (Or.inl rfl)) (pgs_cons (pg_name (i := 5) nd rfl (Or.inl rfl)) (pgs_cons (pg_name (i := 6) nd rfl (Or.inl rfl)) (pgs_cons (pg_name (i := 7) nd rfl (Or.inl rfl)) (pgs_cons (pg_name (i := 8) nd rfl (Or.inl rfl)) pgs_nil))))))))))
      (pss_cons (ps_if (PW.pt (pw_or (pt_cmpR op_ne (pv 5) pe_str (nomark _)) (pw_or (pt_cmpR op_ne (pv 7) pe_str (nomark _)) (pw_or1 (pt_not (pt_val (pe_callB (cr_all rfl) (by rfl) T.all (by decide +kernel) (pa_cons (pe_lc (own := [("word", 9)]) (g := gName 9) (tt := tYes) rfl nd (pi_tup (pe_tup (pa_cons (pv 3) (pa_cons (pv 6) (pa_cons (pv 8) pa_nil))))) (blkOk_by (N := ["words", "_", "name", "step", "mode", "places_word", "places", "at_word", "offset", "word"]) (sc := defScope s_side_entry_of) (by decide +kernel)) (fun _ _ _ _ _ => pg_name (i := 9) nd rfl (Or.inl rfl)) (fun _ _ _ _ _ => pts_nil) (fun _ _ _ _ _ => (pcl Nu hr (by decide) (by rfl) (pa_cons (pv 9) pa_nil)))) pa_nil)))))))) (pss_one (ps_ret pe_non)) pss_nil)
      (pss_one (ps_ret (pe_tup (pa_cons pe_str (pa_cons (pv 2) (pa_cons (pe_tup (pa_cons (pe_callTy call_int_str (by rfl) T.int (by decide +kernel) (pa_cons (pv 8) pa_nil)) (pa_cons (pe_callTy call_int_str (by rfl) T.int (by decide +kernel) (pa_cons (pv 3) pa_nil)) (pa_cons (pv 4) pa_nil)))) (pa_cons (pe_callTy call_int_str (by rfl) T.int (by decide +kernel) (pa_cons (pv 6) pa_nil)) pa_nil)))))))))), ?_⟩
    walk_at "rd"
    refine ⟨fun st H1 => ∃ (l1 : Addr) (vs : List Str), st = [some (.ref l1), none, none, none, none, none, none, none, none, none] ∧ H1 l1 = some (.lst (vs.map V.str)) ∧ vs.length = 8 ∧ sideE ws = eightE vs ∧ (∀ x ∈ vs, x.length ≤ 10000) ∧ Same H H1, ?_, ?_⟩
    · walk_at "rd"
      refine ⟨l, _, rfl, .inl (SqL.of hl), ?_⟩
      walk_at "rd"
      refine ⟨rfl, _, rfl, ?_⟩
      rw [List.length_map]
      refine ite2 (fun h6 => ?_) (fun h6 => ?_)
      · have w6 : ws.length = 6 := by have := int_t h6; omega
        walk_at "rd"
        refine ⟨(by show 2 ≤ sizeLine; decide), fun p1 np1 => ?_⟩
        generalize e1 : upd H p1 _ = H1
        have g1 : H1 p1 = some (.lst [.str "at", .str "0"]) := by rw [← e1]; exact upd_same
        have s1 : Same H H1 := by rw [← e1]; exact fun b u z => (upd_ne (ne_of_none z np1)).trans z
        clear e1
        refine ⟨l, p1, _, _, rfl, rfl, s1 _ _ hl, g1, (by rw [List.length_map, w6]; show 8 ≤ sizeLine; decide), fun p2 np2 => ?_⟩
        refine ⟨p2, ws ++ [("at" : Str), "0"], rfl, ?_, by rw [List.length_append, w6]; rfl, by unfold sideE; rw [if_pos w6], fun x hx => ?_, fun b u z => (upd_ne (ne_of_none (s1 _ _ z) np2)).trans (s1 _ _ z)⟩
        · rw [List.map_append]
          exact upd_same
        · rcases List.mem_append.mp hx with hx | hx
          · exact wb x hx
          · simp only [List.mem_cons, List.not_mem_nil, or_false] at hx
            rcases hx with rfl | rfl <;> decide +kernel
      · have w6 : ¬ ws.length = 6 := fun x => int_f h6 (by omega)
        walk_at "rd"
        refine ⟨l, _, rfl, .inl (SqL.of hl), ?_⟩
        walk_at "rd"
        refine ⟨rfl, _, rfl, ?_⟩
        rw [List.length_map]
        refine ite2 (fun h8 => ?_) (fun h8 => ?_)
        · have w8 : ¬ ws.length = 8 := fun x => by
            have := of_decide_eq_false (not_t' h8)
            exact this (by rw [x]; rfl)
          walk_at "rd"
          exact q2 (by unfold sideE; rw [if_neg w6, if_neg (fun x => w8 x.1)]) H (Same.refl H)
        · have w8 : ws.length = 8 := by
            have := V.int.inj (of_decide_eq_true (not_f h8))
            omega
          obtain ⟨o, eo⟩ : ∃ o, ws[7]? = some o := ⟨_, List.getElem?_eq_getElem (by omega)⟩
          walk_at "rd"
          refine ⟨l, _, _, _, rfl, rfl, SqL.of hl, at_nat (k := 7) (by rw [List.getElem?_map, eo]; rfl), ?_⟩
          walk_at "rd"
          refine ⟨rfl, _, rfl, ?_⟩
          refine ite2 (fun z => ?_) (fun z => ?_)
          · walk_at "rd"
            exact q2 (by unfold sideE; rw [if_neg w6, if_neg (fun x => x.2 (by rw [eo, str_t z]))]) H (Same.refl H)
          · refine ⟨l, ws, rfl, hl, w8, ?_, wb, Same.refl H⟩
            unfold sideE
            rw [if_neg w6, if_pos ⟨w8, fun x => by rw [eo] at x; exact str_f z (Option.some.inj x)⟩]
    rintro st H1 ⟨l1, vs, rfl, hl1, v8, es, vb, s1⟩
    obtain ⟨a, n, s, m, pw, p, aw, o, rfl⟩ : ∃ a n s m pw p aw o, vs = [a, n, s, m, pw, p, aw, o] := by
      match vs, v8 with
      | [a, n, s, m, pw, p, aw, o], _ => exact ⟨a, n, s, m, pw, p, aw, o, rfl⟩
    rw [es] at q1 q2
    unfold eightE at q1 q2
    walk_at "rd"
    refine ⟨l1, _, rfl, SqL.of hl1, rfl, _, _, rfl, _, _, rfl, _, _, rfl, _, _, rfl, _, _, rfl, _, _, rfl, _, _, rfl, _, _, rfl, rfl, ?_⟩
    walk_at "rd"
    refine ⟨rfl, _, rfl, ?_⟩
    rw [dec_str]
    refine ite2 (fun h1 => ?_) (fun h1 => ?_)
    · have ne := of_decide_eq_false (not_t' h1)
      walk_at "rd"
      exact q2 (if_neg fun x => ne x.1.1) H1 s1
    have e1 := of_decide_eq_true (not_f h1)
    walk_at "rd"
    refine ⟨rfl, _, rfl, ?_⟩
    rw [dec_str]
    refine ite2 (fun h1 => ?_) (fun h1 => ?_)
    · have ne := of_decide_eq_false (not_t' h1)
      walk_at "rd"
      exact q2 (if_neg fun x => ne x.1.2) H1 s1
    have e2 := of_decide_eq_true (not_f h1)
    walk_at "rd"
    refine ⟨(by show 3 ≤ sizeLine; decide), fun tq ntq => ?_⟩
    generalize e2 : upd H1 tq _ = H2
    have g2 : H2 tq = some (.tup ([s, p, o].map V.str)) := by rw [← e2]; exact upd_same
    have s2 : Same H1 H2 := by rw [← e2]; exact fun b u z => (upd_ne (ne_of_none z ntq)).trans z
    clear e2
    walk_at "rd"
    refine ⟨⟨_, SqT.of g2⟩, fun D nD => ?_⟩
    refine lc_it (walk_tup (K := K) (a := tq) (xs := [s, p, o].map V.str)) (fun j H3 => H3 D = some (.lst ((([s, p, o].take j).map numB).map V.bl)) ∧ Same H2 H3) ⟨upd_same, fun b u z => (upd_ne (ne_of_none z nD)).trans z⟩ (fun _ _ _ ⟨_, s3⟩ => SqT.of (s3 _ _ g2)) ?_ ?_
    · rintro j y H3 H4 hj ⟨hD, s3⟩ ⟨rfl, ey⟩
      rw [List.getElem?_map] at ey
      obtain ⟨x, ex, rfl⟩ := Option.map_eq_some_iff.mp ey
      have mem : x ∈ [s, p, o] := List.mem_of_getElem? ex
      have xb : x.length ≤ 10000 := by
        simp only [List.mem_cons, List.not_mem_nil, or_false] at mem
        rcases mem with rfl | rfl | rfl <;> exact vb _ (by simp)
      refine ⟨rfl, ?_⟩
      walk_at "rd"
      refine ⟨xb, fun H5 s5 => ?_⟩
      refine ⟨_, s5 _ _ hD, ?_, ?_, fun b u z => (upd_ne (ne_of_none z nD)).trans (s5 _ _ (s3 _ _ z))⟩
      · rw [List.length_map, List.length_map, List.length_take]
        exact Nat.lt_of_le_of_lt (Nat.min_le_left _ _) (Nat.lt_of_lt_of_le hj (by show 3 ≤ sizeLine; decide))
      · rw [List.take_succ, ex, List.map_append, List.map_append]
        exact upd_same
    rintro H3 ⟨hD, s3⟩
    walk_at "rd"
    refine ⟨D, [numB s, numB p, numB o], rfl, SqL.of hD, ?_⟩
    refine ⟨_, rfl, ?_⟩
    refine ite2 (fun h1 => ?_) (fun h1 => ?_)
    · have z := not_t' h1
      walk_at "rd"
      refine q2 (if_neg fun x => ?_) H3 (s1.trans (s2.trans s3))
      rw [List.all_cons, List.all_cons, List.all_cons, List.all_nil, x.2.1, x.2.2.1, x.2.2.2] at z
      cases z
    have z := not_f h1
    have z3 : numB s = true ∧ numB p = true ∧ numB o = true := by
      simpa [List.all_cons, Bool.and_eq_true] using z
    have go := q1 _ (if_pos ⟨⟨e1, e2⟩, z3⟩)
    obtain ⟨_, _, _, _, lo⟩ := num_facts z3.2.2
    obtain ⟨_, _, _, _, lS⟩ := num_facts z3.1
    obtain ⟨_, _, _, _, lp⟩ := num_facts z3.2.1
    walk_at "rd"
    refine ⟨_, numI o, rfl, num_int z3.2.2, by omega, ?_⟩
    walk_at "rd"
    refine ⟨_, numI s, rfl, num_int z3.1, by omega, ?_⟩
    walk_at "rd"
    refine ⟨(by show 3 ≤ sizeLine; decide), fun qs nqs => ?_⟩
    generalize e4 : upd H3 qs _ = H4
    have g4 : H4 qs = some (sideV (numI o) (numI s) m) := by rw [← e4]; exact upd_same
    have s4 : Same H3 H4 := by rw [← e4]; exact fun b u z => (upd_ne (ne_of_none z nqs)).trans z
    clear e4
    walk_at "rd"
    refine ⟨_, numI p, rfl, num_int z3.2.1, by omega, ?_⟩
    walk_at "rd"
    refine ⟨(by show 4 ≤ sizeLine; decide), fun pe npe => ?_⟩
    have s5 : Same H4 (upd H4 pe (.tup [.str "side", .str n, .ref qs, .int (numI p)])) := fun b u z => (upd_ne (ne_of_none z npe)).trans z
    exact go pe _ (s1.trans (s2.trans (s3.trans (s4.trans s5)))) ⟨qs, upd_same, s5 _ _ g4⟩
end
end HT
namespace HT
open PySem L2 TL
def fst? (ws : List Str) : Option Str := ws[0]?
/-- what a line outside of logs tells -/
def entryE (ws : List Str) : Option RawE :=
  if ws[0]? = some ("side" : Str) then sideE ws
  else if ws[0]? = some ("set" : Str) ∧ 2 < ws.length then some (.set (ws.getD 1 "") (ws.drop 2))
  else if ws[0]? = some ("log" : Str) ∧ ws.length = 3 then some (.log (ws.getD 1 "") (ws.getD 2 ""))
  else none
theorem cut_any (xs : List V) (h : 2 ≤ xs.length) : cutV xs (some 2) none = xs.drop 2 := by
  have e : cutV xs (some 2) none = (xs.drop (min 2 xs.length)).take (xs.length - min 2 xs.length) := rfl
  rw [e, Nat.min_eq_left h, List.take_of_length_le]
  rw [List.length_drop]
  exact Nat.le_refl _
def spEntryX : Sp := fun vs H Q _ => ∃ (l : Addr) (ws : List Str), vs = [.ref l] ∧ H l = some (.lst (ws.map V.str)) ∧ ws ≠ [] ∧ ws.length ≤ 1000000 ∧ (∀ x ∈ ws, x.length ≤ 10000) ∧ (∀ e, entryE ws = some e → ∀ (p : Addr) (H' : Hp), Same H H' → RawAt H' p e → Q (.ref p) H') ∧ (entryE ws = none → ∀ H', Same H H' → Q .non H')
section
variable {P : Program} {w : World} {K : PySem.W.Frag} {mg : Str → Option Value} {base : Heap} {aN f1 f2 f3 f4 f5 : Addr} {d1 d2 d3 d4 d5 : FuncData}
theorem ok_entry_of_x {f : Addr} {fd : FuncData} (F : Fun K "_entry_of" "_entry_of" s_entry_of f fd) (T : EnT K mg aN) (Se : Cal P w K mg base "_side_entry_of" 2 ["words"] spSideEntX f1 d1) : FnOk P w K mg base CX0 3 f fd ["words"] spEntryX := by
  refine F.ok sc_entry_of (fun vs H Q E h => ?_) (fun cdv A outer s0 H vs Q E hr h => ?_)
  · obtain ⟨l, ws, rfl, _⟩ := h
    rfl
  · obtain ⟨l, ws, rfl, hl, wn, wl, wb, q1, q2⟩ := h
    have nd := sc_entry_of.nd
    refine ⟨_, (pss_cons (ps_if (pt_cmpR op_eq (pe_ix ix_list (pv 0) pe_int (fun _ _ => rfl)) pe_str (nomark _)) (pss_one (ps_ret (pcl Se hr (by decide) (by rfl) (pa_cons (pv 0) pa_nil)))) pss_nil)
      (pss_cons (ps_if (PW.pt (pw_and (pt_cmpR op_eq (pe_ix ix_list (pv 0) pe_int (fun _ _ => rfl)) pe_str (nomark _)) (pw_and1 (pt_cmpR op_gt (pe_callB call_len_seq (by rfl) T.len PySem.boot_len (pa_cons (pv 0) pa_nil)) pe_int (nomark _))))) (pss_one (ps_ret (pe_tup (pa_cons pe_str (pa_cons (pe_ix ix_list (pv 0) pe_int (fun _ _ => rfl)) (pa_cons (pe_callTy call_tuple_of (by rfl) T.tuple (by decide +kernel) (pa_cons (pe_slice (show SlR _ (rSlL K) from sl_list) (pv 0) (po_some pe_int) po_none) pa_nil)) pa_nil)))))) pss_nil)
      (pss_cons (ps_if (PW.pt (pw_and (pt_cmpR op_eq (pe_ix ix_list (pv 0) pe_int (fun _ _ => rfl)) pe_str (nomark _)) (pw_and1 (pt_cmpR op_eq (pe_callB call_len_seq (by rfl) T.len PySem.boot_len (pa_cons (pv 0) pa_nil)) pe_int (nomark _))))) (pss_one (ps_ret (pe_tup (pa_cons pe_str (pa_cons (pe_ix ix_list (pv 0) pe_int (fun _ _ => rfl)) (pa_cons (pe_ix ix_list (pv 0) pe_int (fun _ _ => rfl)) (pa_cons (pe_tup pa_nil) pa_nil))))))) pss_nil)
      (pss_one (ps_ret pe_non))))), ?_⟩
    obtain ⟨a, rest, rfl⟩ : ∃ a rest, ws = a :: rest := by
      cases ws with
      | nil => exact absurd rfl wn
      | cons a rest => exact ⟨a, rest, rfl⟩
    have h0 : (a :: rest)[0]? = some a := rfl
    unfold entryE at q1 q2
    rw [h0] at q1 q2
    have at0' : atI ((a :: rest).map V.str) (0 : Nat) = some (.str a) := at_nat (k := 0) rfl
    walk_at "rd"
    refine ⟨l, _, _, .str a, rfl, rfl, SqL.of hl, at0', ?_⟩
    walk_at "rd"
    refine ⟨rfl, _, rfl, ?_⟩
    refine ite2 (fun h1 => ?_) (fun h1 => ?_)
    · have e := str_t h1
      rw [if_pos (by rw [e])] at q1 q2
      walk_at "rd"
      exact ⟨l, a :: rest, rfl, hl, wl, wb, q1, q2⟩
    have n1 : ¬ some a = some ("side" : Str) := fun x => str_f h1 (Option.some.inj x)
    rw [if_neg n1] at q1 q2
    walk_at "rd"
    refine ⟨l, _, _, .str a, rfl, rfl, SqL.of hl, at0', ?_⟩
    walk_at "rd"
    refine ⟨rfl, _, rfl, ?_⟩
    refine ite2 (fun h2 => ?_) (fun h2 => ?_)
    · have e := str_t h2
      have n3 : ¬ some a = some ("log" : Str) := by rw [e]; decide +kernel
      walk_at "rd"
      refine ⟨l, _, rfl, .inl (SqL.of hl), ?_⟩
      walk_at "rd"
      refine ite2 (fun h3 => ?_) (fun h3 => ?_)
      · have l2 : 2 < (a :: rest).length := by
          have := of_decide_eq_true h3
          rw [List.length_map] at this
          omega
        rw [if_pos ⟨by rw [e], l2⟩] at q1
        obtain ⟨b, rest2, rfl⟩ : ∃ b r, rest = b :: r := by
          cases rest with
          | nil => simp at l2
          | cons b r => exact ⟨b, r, rfl⟩
        walk_at "rd"
        refine ⟨l, _, _, .str b, rfl, rfl, SqL.of hl, at_nat (k := 1) rfl, ?_⟩
        walk_at "rd"
        refine ⟨l, _, rfl, SqL.of hl, fun cu ncu => ?_⟩
        generalize e1 : upd H cu _ = H1
        have g1 : H1 cu = some (.lst (rest2.map V.str)) := by
          rw [← e1, upd_same, cut_any _ (by rw [List.length_map]; omega)]
          rfl
        have s1 : Same H H1 := by rw [← e1]; exact fun b u z => (upd_ne (ne_of_none z ncu)).trans z
        clear e1
        walk_at "rd"
        refine ⟨cu, _, rfl, .inl ⟨SqL.of g1, fun tp ntp => ?_⟩⟩
        generalize e2 : upd H1 tp _ = H2
        have g2 : H2 tp = some (.tup (rest2.map V.str)) := by rw [← e2]; exact upd_same
        have s2 : Same H1 H2 := by rw [← e2]; exact fun b u z => (upd_ne (ne_of_none z ntp)).trans z
        clear e2
        walk_at "rd"
        refine ⟨(by show 3 ≤ sizeLine; decide), fun p np => ?_⟩
        have s3 : Same H2 (upd H2 p (.tup [.str "set", .str b, .ref tp])) := fun b u z => (upd_ne (ne_of_none z np)).trans z
        exact q1 _ rfl p _ (s1.trans (s2.trans s3)) ⟨tp, upd_same, s3 _ _ g2⟩
      · have l2 : ¬ 2 < (a :: rest).length := fun x => h3 (decide_eq_true (by rw [List.length_map]; omega))
        rw [if_neg (fun x => l2 x.2), if_neg (fun x => n3 x.1)] at q2
        walk_at "rd"
        refine ⟨l, _, _, .str a, rfl, rfl, SqL.of hl, at0', ?_⟩
        walk_at "rd"
        refine ⟨rfl, _, rfl, ?_⟩
        refine ite2 (fun h4 => absurd (by rw [str_t h4]) n3) (fun _ => ?_)
        walk_at "rd"
        exact q2 rfl H (Same.refl H)
    · have n2 : ¬ some a = some ("set" : Str) := fun x => str_f h2 (Option.some.inj x)
      rw [if_neg (fun x => n2 x.1)] at q1 q2
      walk_at "rd"
      refine ⟨l, _, _, .str a, rfl, rfl, SqL.of hl, at0', ?_⟩
      walk_at "rd"
      refine ⟨rfl, _, rfl, ?_⟩
      refine ite2 (fun h4 => ?_) (fun h4 => ?_)
      · have e := str_t h4
        walk_at "rd"
        refine ⟨l, _, rfl, .inl (SqL.of hl), ?_⟩
        walk_at "rd"
        refine ⟨rfl, _, rfl, ?_⟩
        rw [List.length_map]
        refine ite2 (fun h5 => ?_) (fun h5 => ?_)
        · have l3 : (a :: rest).length = 3 := by have := int_t h5; omega
          rw [if_pos ⟨by rw [e], l3⟩] at q1
          obtain ⟨b, g, rfl⟩ : ∃ b g, rest = [b, g] := by
            match rest, l3 with
            | [b, g], _ => exact ⟨b, g, rfl⟩
          walk_at "rd"
          refine ⟨l, _, _, .str b, rfl, rfl, SqL.of hl, at_nat (k := 1) rfl, ?_⟩
          walk_at "rd"
          refine ⟨l, _, _, .str g, rfl, rfl, SqL.of hl, at_nat (k := 2) rfl, ?_⟩
          walk_at "rd"
          refine ⟨(by show 0 ≤ sizeLine; decide), fun tp ntp => ?_⟩
          generalize e2 : upd H tp _ = H2
          have g2 : H2 tp = some (.tup []) := by rw [← e2]; exact upd_same
          have s2 : Same H H2 := by rw [← e2]; exact fun b u z => (upd_ne (ne_of_none z ntp)).trans z
          clear e2
          walk_at "rd"
          refine ⟨(by show 4 ≤ sizeLine; decide), fun p np => ?_⟩
          have s3 : Same H2 (upd H2 p (.tup [.str "log", .str b, .str g, .ref tp])) := fun b u z => (upd_ne (ne_of_none z np)).trans z
          exact q1 _ rfl p _ (s2.trans s3) ⟨tp, upd_same, s3 _ _ g2⟩
        · have l3 : ¬ (a :: rest).length = 3 := fun x => int_f h5 (by omega)
          rw [if_neg (fun x => l3 x.2)] at q2
          walk_at "rd"
          exact q2 rfl H (Same.refl H)
      · have n3 : ¬ some a = some ("log" : Str) := fun x => str_f h4 (Option.some.inj x)
        rw [if_neg (fun x => n3 x.1)] at q2
        walk_at "rd"
        exact q2 rfl H (Same.refl H)
end
end HT
namespace HT
open PySem L2 TL
/-- what stands of a reader at x: the entries told, the dict of them, the lines of the log that is open -/
structure RdrAt (D : Addr) (H : Hp) (x le ll ld : Addr) (lg : V) (es : List Ent) (ls : List (Str × Str)) : Prop where
  ob : ∃ dx, H x = some (.ins D dx [("entries", .ref le), ("log", lg), ("_lines", .ref ll), ("_known", .ref ld)])
  ne : le ≠ ll
  en : ∃ ps : List Addr, ps.length = es.length ∧ H le = some (.lst (ps.map V.ref)) ∧ H ld = some (.dK (zipK es ps)) ∧ ∀ (i : Nat) (p : Addr) (e : Ent), ps[i]? = some p → es[i]? = some e → EntAt H p e
  li : ∃ qs : List Addr, qs.length = ls.length ∧ H ll = some (.lst (qs.map V.ref)) ∧ ∀ (i : Nat) (a : Addr) (l : Str × Str), qs[i]? = some a → ls[i]? = some l → H a = some (.tup [.str l.1, .str l.2])
/-- nothing else is touched -/
def FrR (x le ll ld : Addr) (H H' : Hp) : Prop := ∀ b u, H b = some u → b ≠ x → b ≠ le → b ≠ ll → b ≠ ld → H' b = some u
def spAdd (D : Addr) : Sp := fun vs H Q _ => ∃ (x le ll ld p : Addr) (lg : V) (es : List Ent) (ls : List (Str × Str)) (e : Ent), vs = [.ref x, .ref p] ∧ RdrAt D H x le ll ld lg es ls ∧ EntAt H p e ∧ findE es e.name = none ∧ es.length ≤ 1000 ∧
  ∀ H', RdrAt D H' x le ll ld lg (es ++ [e]) ls → FrR x le ll ld H H' → Q .non H'
theorem EntAt.fr {x le ll ld p : Addr} {H H' : Hp} {e : Ent} {D dx : Addr} {fs : List (Str × V)} {as bs : List V} {kvs : List (Key × V)} (h : EntAt H p e) (hx : H x = some (.ins D dx fs)) (h1 : H le = some (.lst as)) (h2 : H ll = some (.lst bs)) (h3 : H ld = some (.dK kvs)) (f : FrR x le ll ld H H') : EntAt H' p e := by
  have t : ∀ b xs, H b = some (.tup xs) → H' b = some (.tup xs) := fun b xs hb => f b _ hb (fun z => by rw [z, hx] at hb; cases hb) (fun z => by rw [z, h1] at hb; cases hb) (fun z => by rw [z, h2] at hb; cases hb) (fun z => by rw [z, h3] at hb; cases hb)
  cases e with
  | side n o s m pl => obtain ⟨q, a, b⟩ := h; exact ⟨q, t _ _ a, t _ _ b⟩
  | set n ns => obtain ⟨q, a, b⟩ := h; exact ⟨q, t _ _ a, t _ _ b⟩
  | log n g ls => obtain ⟨q, ps, a, b, c, d⟩ := h; exact ⟨q, ps, t _ _ a, t _ _ b, c, fun i y l ey el => t _ _ (d i y l ey el)⟩
section
variable {P : Program} {w : World} {K : PySem.W.Frag} {mg : Str → Option Value} {base : Heap} {D f1 f2 f3 f4 f5 : Addr} {d1 d2 d3 d4 d5 : FuncData}
theorem ok_R_add {f : Addr} {fd : FuncData} (F : Fun K "_add" "Reader._add" s_R_add f fd) (c : Cls K D) (n1 : NoAttr K D "entries") (n4 : NoAttr K D "_known") : FnOk P w K mg base CX0 1 f fd ["self", "entry"] (spAdd D) := by
  refine F.ok sc_R_add (fun vs H Q E h => ?_) (fun cdv A outer s0 H vs Q E hr h => ?_)
  · obtain ⟨x, le, ll, ld, p, lg, es, ls, e, rfl, _⟩ := h
    rfl
  · obtain ⟨x, le, ll, ld, p, lg, es, ls, e, rfl, R, ea, ok, l1000, q⟩ := h
    have nd := sc_R_add.nd
    refine ⟨_, pss_cons (ps_dput (lt1 hr.units) (pe_fld (pv 0) (by rfl)) (pe_ix ix_tup (pv 1) pe_int (fun _ _ => rfl)) (pv 1) (by rfl))
      (pss_one (ps_expr (pe_bm PySem.F.plainAttrs_list PySem.F.slot_list_append PySem.F.type_list_append mt_append (pe_fld (pv 0) (by rfl)) (pa_cons (pv 1) pa_nil)))), ?_⟩
    obtain ⟨⟨dx, hx⟩, ne, ⟨ps, lps, hle, hld, at_⟩, ⟨qs, lqs, hll, aq⟩⟩ := R
    walk_at "rd"
    have ff := ok
    have e1 : ∃ xs, H p = some (.tup (.str e.kind :: .str e.name :: xs)) := by
      cases e with
      | side n o s m pl => obtain ⟨q, a, b⟩ := ea; exact ⟨_, a⟩
      | set n ns => obtain ⟨q, a, b⟩ := ea; exact ⟨_, a⟩
      | log n g ls => obtain ⟨q, ps, a, b, c, d⟩ := ea; exact ⟨_, a⟩
    obtain ⟨xs, hp⟩ := e1
    refine ⟨x, D, dx, _, .ref ld, rfl, hx, c, n4, rfl, ?_⟩
    walk_at "rd"
    refine ⟨p, _, _, _, rfl, rfl, SqT.of hp, at_nat (k := 1) rfl, ?_⟩
    refine ⟨ld, _, rfl, DPut.k (k := .inr e.name) hld ?_, ?_⟩
    · rw [List.length_map, List.length_zip]
      exact Nat.lt_of_le_of_lt (by omega : _ ≤ 1000) (by decide)
    rw [put_fresh lps ff]
    have nx : x ≠ ld := ne_of hx hld (by intro z; cases z)
    have nle : le ≠ ld := ne_of hle hld (by intro z; cases z)
    have nll : ll ≠ ld := ne_of hll hld (by intro z; cases z)
    have nxe : x ≠ le := ne_of hx hle (by intro z; cases z)
    have nxl : x ≠ ll := ne_of hx hll (by intro z; cases z)
    generalize e2 : upd H ld _ = H1
    have k1 : ∀ b u, b ≠ ld → H b = some u → H1 b = some u := fun b u hb z => by rw [← e2]; exact (upd_ne hb).trans z
    have g1 : H1 ld = some (.dK (zipK es ps ++ [(.inr e.name, .ref p)])) := by rw [← e2]; exact upd_same
    clear e2
    have hx1 := k1 _ _ nx hx
    walk_at "rd"
    refine ⟨x, D, dx, _, .ref le, rfl, hx1, c, n1, rfl, ?_⟩
    refine ⟨.inl ⟨rfl, _, SqL.of (k1 _ _ nle hle)⟩, ?_⟩
    walk_at "rd"
    refine ⟨le, _, _, rfl, rfl, k1 _ _ nle hle, ?_, ?_⟩
    · rw [List.length_map]
      exact Nat.lt_of_le_of_lt (by omega : _ ≤ 1000) (by decide)
    generalize e3 : upd H1 le _ = H2
    have k2 : ∀ b u, b ≠ le → H1 b = some u → H2 b = some u := fun b u hb z => by rw [← e3]; exact (upd_ne hb).trans z
    have g2 : H2 le = some (.lst ((ps ++ [p]).map V.ref)) := by rw [← e3, upd_same, List.map_append]; rfl
    clear e3
    have fr : FrR x le ll ld H H2 := fun b u z n1 n2 n3 n4 => k2 b u n2 (k1 b u n4 z)
    have kt : ∀ b xs, H b = some (.tup xs) → H2 b = some (.tup xs) := fun b xs hb => fr b _ hb (fun z => by rw [z, hx] at hb; cases hb) (fun z => by rw [z, hle] at hb; cases hb) (fun z => by rw [z, hll] at hb; cases hb) (fun z => by rw [z, hld] at hb; cases hb)
    refine q H2 ⟨⟨dx, k2 _ _ nxe hx1⟩, ne, ⟨ps ++ [p], ?_, g2, ?_, ?_⟩, ⟨qs, lqs, k2 _ _ (fun z => ne z.symm) (k1 _ _ nll hll), fun i a l ia il => kt _ _ (aq i a l ia il)⟩⟩ fr
    · rw [List.length_append, List.length_append, lps]
      rfl
    · rw [k2 _ _ nle.symm g1]
      show some (HO.dK _) = some (HO.dK _)
      congr 2
      show _ = List.map _ _
      rw [List.zip_append lps.symm, List.map_append]
      rfl
    · intro i y e' iy ie
      rcases Nat.lt_or_ge i ps.length with h | h
      · rw [List.getElem?_append_left h] at iy
        rw [List.getElem?_append_left (by omega)] at ie
        exact (at_ i y e' iy ie).fr hx hle hll hld fr
      · rw [List.getElem?_append_right h] at iy
        rw [List.getElem?_append_right (by omega)] at ie
        rw [lps] at iy
        cases hk : i - es.length with
        | zero =>
          rw [hk] at iy ie
          cases iy
          cases ie
          exact ea.fr hx hle hll hld fr
        | succ k =>
          rw [hk] at iy
          cases iy
end
end HT
namespace HT
open PySem L2 TL
/-! ### what is read of a paper, line by line -/
def toEnt : RawE → Ent
  | .side n o s m pl => .side n o s m pl.toNat
  | .set n ns => .set n ns
  | .log n g => .log n g []
theorem toEnt_name (e : RawE) : (toEnt e).name = e.name := by cases e <;> rfl
theorem raw_ent {H : Hp} {p : Addr} {e : RawE} (h : RawAt H p e) (w : worthsB e = true) : EntAt H p (toEnt e) := by
  cases e with
  | side n o s m pl =>
    obtain ⟨q, a, b⟩ := h
    have w' : (sideB o s m && (decide (0 ≤ pl) && decide (pl ≤ 60))) = true := w
    simp only [Bool.and_eq_true, decide_eq_true_eq] at w'
    refine ⟨q, ?_, b⟩
    have e : ((pl.toNat : Nat) : Int) = pl := Int.toNat_of_nonneg w'.2.1
    show H p = some (.tup [.str "side", .str n, .ref q, .int ((pl.toNat : Nat) : Int)])
    rw [e]
    exact a
  | set n ns => exact h
  | log n g =>
    obtain ⟨q, a, b⟩ := h
    exact ⟨q, [], a, b, rfl, fun i a l z => by simp at z⟩
def startB (es : List Ent) (ws : List Str) : Except Str RawE := match entryE ws with
  | none => .error "line"
  | some e => if namesB es e = true then (if worthsB e = true then .ok e else .error "value") else .error "name"
def nsOf (es : List Ent) (g : Str) : List Str := match findE es g with
  | some (.set _ ns) => ns
  | _ => []
def plOf (es : List Ent) (a : Str) : Nat := match findE es a with
  | some (.side _ _ _ _ pl) => pl
  | _ => 0
def rowB (es : List Ent) (g : Str) (ws : List Str) : Except Str (Str × Str) := match ws with
  | [a, t] => if inV (.str a) ((nsOf es g).map V.str) = true then (if fitsM t (plOf es a) = true then .ok (a, t) else .error "value") else .error "name"
  | _ => .error "line"
abbrev OpnS := Option (Str × Str × List (Str × Str))
def RawE.isLog : RawE → Bool
  | .log .. => true
  | _ => false
def openB (es : List Ent) (e : RawE) : List Ent × OpnS := match e with
  | .log n g => (es, some (n, g, []))
  | e => (es ++ [toEnt e], none)
def stepS (es : List Ent) (o : OpnS) (ws : List Str) : Except Str (List Ent × OpnS) :=
  if ws = [] then .ok (es, o) else match o with
  | none => (match startB es ws with
    | .error r => .error r
    | .ok e => .ok (openB es e))
  | some (n, g, ls) => if ws = [("end" : Str)] then (if 50 < ls.length then .error "value" else .ok (es ++ [.log n g ls], none)) else (match rowB es g ws with
    | .error r => .error r
    | .ok l => .ok (es, some (n, g, ls ++ [l])))
def runS : List (List Str) → Nat → List Ent → OpnS → Except (Nat × Str) (List Ent)
  | [], i, es, o => (match o with
    | none => .ok es
    | some _ => .error (i, "line"))
  | ws :: W, i, es, o => (match stepS es o ws with
    | .error r => .error (i, r)
    | .ok (es', o') => runS W (i + 1) es' o')
/-- the entries hold together -/
structure Tied (es : List Ent) : Prop where
  sets : ∀ g g2 ns, findE es g = some (.set g2 ns) → ∀ x ∈ ns, ∃ n o s m pl, findE es x = some (.side n o s m pl)
  sides : ∀ x n o s m pl, findE es x = some (.side n o s m pl) → pl ≤ 60
theorem find_cat {es : List Ent} {e r : Ent} {x : Str} (h : findE (es ++ [e]) x = some r) : findE es x = some r ∨ (findE es x = none ∧ e.name = x ∧ r = e) := by
  unfold findE at *
  rw [List.find?_append] at h
  cases hh : List.find? (fun e => decide (e.name = x)) es with
  | some y => rw [hh] at h; exact .inl h
  | none =>
    rw [hh, Option.none_or, List.find?_cons] at h
    by_cases g : e.name = x
    · rw [decide_eq_true g] at h
      exact .inr ⟨rfl, g, (Option.some.inj h).symm⟩
    · rw [decide_eq_false g] at h
      cases h
theorem find_addX {es : List Ent} {e r : Ent} {x : Str} (h : findE es x = some r) : findE (es ++ [e]) x = some r := by
  unfold findE at *
  rw [List.find?_append, h]
  rfl
theorem kind_some {es : List Ent} {k x : Str} (h : kindB es k x = true) : ∃ e, findE es x = some e ∧ e.kind = k := by
  unfold kindB at h
  cases f : findE es x with
  | none => rw [f] at h; cases h
  | some e => rw [f] at h; exact ⟨e, rfl, of_decide_eq_true h⟩
theorem kind_side {e : Ent} (h : e.kind = "side") : ∃ n o s m pl, e = .side n o s m pl := by
  cases e with
  | side n o s m pl => exact ⟨n, o, s, m, pl, rfl⟩
  | set n ns => exact absurd h (show ¬ ("set" : Str) = "side" by decide +kernel)
  | log n g ls => exact absurd h (show ¬ ("log" : Str) = "side" by decide +kernel)
theorem kind_set {e : Ent} (h : e.kind = "set") : ∃ n ns, e = .set n ns := by
  cases e with
  | side n o s m pl => exact absurd h (show ¬ ("side" : Str) = "set" by decide +kernel)
  | set n ns => exact ⟨n, ns, rfl⟩
  | log n g ls => exact absurd h (show ¬ ("log" : Str) = "set" by decide +kernel)
theorem Tied.log {es : List Ent} (t : Tied es) (n g : Str) (ls : List (Str × Str)) : Tied (es ++ [.log n g ls]) := by
  refine ⟨fun g1 g2 ns h x hx => ?_, fun x n o s m pl h => ?_⟩
  · rcases find_cat h with h | ⟨_, _, h⟩
    · obtain ⟨n, o, s, m, pl, f⟩ := t.sets g1 g2 ns h x hx
      exact ⟨n, o, s, m, pl, find_addX f⟩
    · cases h
  · rcases find_cat h with h | ⟨_, _, h⟩
    · exact t.sides _ _ _ _ _ _ h
    · cases h
theorem Tied.add {es : List Ent} (t : Tied es) {e : RawE} (nb : namesB es e = true) (wb : worthsB e = true) (nl : e.isLog = false) : Tied (es ++ [toEnt e]) := by
  unfold namesB at nb
  rw [Bool.and_eq_true, Bool.and_eq_true] at nb
  obtain ⟨_, _, lb⟩ := nb
  refine ⟨fun g1 g2 ns h x hx => ?_, fun x n o s m pl h => ?_⟩
  · rcases find_cat h with h | ⟨_, _, h⟩
    · obtain ⟨n, o, s, m, pl, f⟩ := t.sets g1 g2 ns h x hx
      exact ⟨n, o, s, m, pl, find_addX f⟩
    · cases e with
      | side n o s m pl => cases h
      | log n g => cases nl
      | set n ns' =>
        cases h
        have lb' : (ns.all fun x => kindB es "side" x) = true := lb
        obtain ⟨e, f, k⟩ := kind_some (List.all_eq_true.mp lb' x hx)
        obtain ⟨n, o, s, m, pl, rfl⟩ := kind_side k
        exact ⟨n, o, s, m, pl, find_addX f⟩
  · rcases find_cat h with h | ⟨_, _, h⟩
    · exact t.sides _ _ _ _ _ _ h
    · cases e with
      | side n' o' s' m' pl' =>
        cases h
        have w' : (sideB o s m && (decide (0 ≤ pl') && decide (pl' ≤ 60))) = true := wb
        simp only [Bool.and_eq_true, decide_eq_true_eq] at w'
        omega
      | log n g => cases nl
      | set n ns' => cases h
end HT
namespace HT
open PySem L2 TL
theorem RdrAt.known {D : Addr} {H : Hp} {x le ll ld : Addr} {lg : V} {es : List Ent} {ls : List (Str × Str)} (R : RdrAt D H x le ll ld lg es ls) : KnownAt H ld es := let ⟨ps, a, _, b, c⟩ := R.en; ⟨ps, a, b, c⟩
theorem RdrAt.same {D : Addr} {H H' : Hp} {x le ll ld : Addr} {lg : V} {es : List Ent} {ls : List (Str × Str)} (R : RdrAt D H x le ll ld lg es ls) (s : Same H H') : RdrAt D H' x le ll ld lg es ls := by
  obtain ⟨⟨dx, hx⟩, ne, ⟨ps, lps, hle, hld, at_⟩, ⟨qs, lqs, hll, aq⟩⟩ := R
  exact ⟨⟨dx, s _ _ hx⟩, ne, ⟨ps, lps, s _ _ hle, s _ _ hld, fun i p e a b => (at_ i p e a b).same s⟩, ⟨qs, lqs, s _ _ hll, fun i a l e f => s _ _ (aq i a l e f)⟩⟩
/-- to another open log: the field is set anew -/
theorem RdrAt.log {D : Addr} {H H' : Hp} {x le ll ld : Addr} {lg lg' : V} {es : List Ent} {ls : List (Str × Str)} (R : RdrAt D H x le ll ld lg es ls) {dx : Addr} (h : H' x = some (.ins D dx [("entries", .ref le), ("log", lg'), ("_lines", .ref ll), ("_known", .ref ld)])) (k : ∀ b u, b ≠ x → H b = some u → H' b = some u) : RdrAt D H' x le ll ld lg' es ls := by
  obtain ⟨⟨dx, hx⟩, ne, ⟨ps, lps, hle, hld, at_⟩, ⟨qs, lqs, hll, aq⟩⟩ := R
  have n1 : le ≠ x := ne_of hle hx (by intro z; cases z)
  have n2 : ll ≠ x := ne_of hll hx (by intro z; cases z)
  have n3 : ld ≠ x := ne_of hld hx (by intro z; cases z)
  have t : ∀ b xs, H b = some (.tup xs) → H' b = some (.tup xs) := fun b xs hb => k b _ (fun z => by rw [z, hx] at hb; cases hb) hb
  refine ⟨⟨_, h⟩, ne, ⟨ps, lps, k _ _ n1 hle, k _ _ n3 hld, fun i p e a b => ?_⟩, ⟨qs, lqs, k _ _ n2 hll, fun i a l e f => t _ _ (aq i a l e f)⟩⟩
  have ea := at_ i p e a b
  cases e with
  | side n o s m pl => obtain ⟨q, a, b⟩ := ea; exact ⟨q, t _ _ a, t _ _ b⟩
  | set n ns => obtain ⟨q, a, b⟩ := ea; exact ⟨q, t _ _ a, t _ _ b⟩
  | log n g ls => obtain ⟨q, ps, a, b, c, d⟩ := ea; exact ⟨q, ps, t _ _ a, t _ _ b, c, fun i y l ey el => t _ _ (d i y l ey el)⟩
end HT
namespace HT
open PySem L2 TL
structure WordsP (ws : List Str) : Prop where
  n : ws.length ≤ 1000000
  l : ∀ x ∈ ws, x.length ≤ 10000
  two : ws.length = 2 → ∀ x ∈ ws, x.length ≤ 510
  ok : ∀ x ∈ ws, PyData.canLay0 (.str x) = true
def spEndX (D : Addr) : Sp := fun vs H Q _ => ∃ (x le ll ld p : Addr) (v : V) (n g : Str) (es : List Ent) (ls : List (Str × Str)), vs = [.ref x] ∧ RdrAt D H x le ll ld (.ref p) es ls ∧ H p = some (.tup [.str "log", .str n, .str g, v]) ∧ findE es n = none ∧ es.length ≤ 1000 ∧ ls.length ≤ 1000 ∧
  (50 < ls.length → ∀ H', Same H H' → Q (.str "value") H') ∧ (¬ 50 < ls.length → ∀ H', RdrAt D H' x le ll ld .non (es ++ [.log n g ls]) ls → FrR x le ll ld H H' → Q .non H')
def spWithinX (D : Addr) : Sp := fun vs H Q _ => ∃ (x le ll ld p w : Addr) (v : V) (n g g2 : Str) (ns ws : List Str) (es : List Ent) (ls : List (Str × Str)), vs = [.ref x, .ref w] ∧ RdrAt D H x le ll ld (.ref p) es ls ∧ H p = some (.tup [.str "log", .str n, .str g, v]) ∧ H w = some (.lst (ws.map V.str)) ∧ w ≠ ll ∧ WordsP ws ∧ findE es g = some (.set g2 ns) ∧ Tied es ∧ ls.length ≤ 1000 ∧
  (∀ r, rowB es g ws = .error r → ∀ H', Same H H' → Q (.str r) H') ∧ (∀ l, rowB es g ws = .ok l → ∀ H', RdrAt D H' x le ll ld (.ref p) es (ls ++ [l]) → FrR x le ll ld H H' → Q .non H')
def spREntryX (D : Addr) : Sp := fun vs H Q _ => ∃ (x le ll ld w : Addr) (ws : List Str) (es : List Ent) (ls : List (Str × Str)), vs = [.ref x, .ref w] ∧ RdrAt D H x le ll ld .non es ls ∧ H w = some (.lst (ws.map V.str)) ∧ ws ≠ [] ∧ WordsP ws ∧ es.length ≤ 1000 ∧
  (∀ r, startB es ws = .error r → ∀ H', Same H H' → Q (.str r) H') ∧
  (∀ e, startB es ws = .ok e → e.isLog = false → ∀ H', RdrAt D H' x le ll ld .non (es ++ [toEnt e]) ls → FrR x le ll ld H H' → Q .non H') ∧
  (∀ n g, startB es ws = .ok (.log n g) → ∀ (H' : Hp) (p l3 : Addr) (v : V), H l3 = none → RdrAt D H' x le l3 ld (.ref p) es [] → H' p = some (.tup [.str "log", .str n, .str g, v]) → FrR x le ll ld H H' → Q .non H')
theorem inV_mem {a : Str} {ns : List Str} (h : inV (.str a) (ns.map V.str) = true) : a ∈ ns := by
  unfold inV at h
  rw [List.any_eq_true] at h
  obtain ⟨y, hy, e⟩ := h
  obtain ⟨z, hz, rfl⟩ := List.mem_map.mp hy
  have : z = a := by simpa [eqV] using e
  rw [← this]
  exact hz
section
variable {P : Program} {w : World} {K : PySem.W.Frag} {mg : Str → Option Value} {base : Heap} {aN D f1 f2 f3 f4 f5 : Addr} {d1 d2 d3 d4 d5 : FuncData}
theorem ok_R_end_x {f : Addr} {fd : FuncData} (F : Fun K "_fault_of_end" "Reader._fault_of_end" s_R_end f fd) (T : EnT K mg aN) (c : Cls K D) (n2 : NoAttr K D "log") (n3 : NoAttr K D "_lines") (M : Meth K D "_add" f1) (Ad : FnOk P w K mg base CX0 1 f1 d1 ["self", "entry"] (spAdd D)) (ba : Binds K d1 ["self", "entry"] []) : FnOk P w K mg base CX0 2 f fd ["self"] (spEndX D) := by
  refine F.ok sc_R_end (fun vs H Q E h => ?_) (fun cdv A outer s0 H vs Q E hr h => ?_)
  · obtain ⟨x, le, ll, ld, p, v, n, g, es, ls, rfl, _⟩ := h
    rfl
  · obtain ⟨x, le, ll, ld, p, v, n, g, es, ls, rfl, R, hp, fr0, l1000, ll1, q1, q2⟩ := h
    have nd := sc_R_end.nd
    obtain ⟨tsn, hsn⟩ := T.sn
    refine ⟨_, pss_cons (ps_if (pt_cmpR op_gt (pe_callB call_len_seq (by rfl) T.len PySem.boot_len (pa_cons (pe_fld (pv 0) (by rfl)) pa_nil)) (pe_glob (v := .int 50) (by rfl) hsn ⟨_, rfl⟩) (nomark _)) (pss_one (ps_ret pe_str)) pss_nil)
      (pss_cons (ps_asg (pe_fld (pv 0) (by rfl)) (pg_tup (by rfl) (pgs_cons (pg_name (i := 1) nd rfl (Or.inl rfl)) (pgs_cons (pg_name (i := 2) nd rfl (Or.inl rfl)) (pgs_cons (pg_name (i := 3) nd rfl (Or.inl rfl)) (pgs_cons (pg_name (i := 4) nd rfl (Or.inl rfl)) pgs_nil))))))
      (pss_cons (ps_expr (pe_meth (pv 0) c M Ad (hr.mono (by decide)) ba .nil pass0 (pa_cons (pe_tup (pa_cons (pv 1) (pa_cons (pv 2) (pa_cons (pv 3) (pa_cons (pe_callTy call_tuple_of (by rfl) T.tuple (by decide +kernel) (pa_cons (pe_fld (pv 0) (by rfl)) pa_nil)) pa_nil))))) pa_nil)))
      (pss_cons (ps_fld (pv 0) pe_non (by rfl)) (pss_one (ps_ret pe_non))))), ?_⟩
    obtain ⟨⟨dx, hx⟩, ne, ⟨ps, lps, hle, hld, at_⟩, ⟨qs, lqs, hll, aq⟩⟩ := id R
    walk_at "rd"
    refine ⟨x, D, dx, _, .ref ll, rfl, hx, c, n3, rfl, ?_⟩
    refine ⟨ll, _, rfl, .inl (SqL.of hll), ?_⟩
    rw [List.length_map]
    walk_at "rd"
    refine ite2 (fun z => ?_) (fun z => ?_)
    · have g50 : 50 < ls.length := by have := of_decide_eq_true z; omega
      walk_at "rd"
      exact q1 g50 H (Same.refl H)
    have g50 : ¬ 50 < ls.length := fun y => z (decide_eq_true (by omega))
    walk_at "rd"
    refine ⟨x, D, dx, _, .ref p, rfl, hx, c, n2, rfl, ?_⟩
    refine ⟨p, _, rfl, SqT.of hp, rfl, _, _, rfl, _, _, rfl, _, _, rfl, _, _, rfl, rfl, ?_⟩
    walk_at "rd"
    refine ⟨x, dx, _, rfl, hx, rfl, ?_⟩
    walk_at "rd"
    refine ⟨x, D, dx, _, .ref ll, rfl, hx, c, n3, rfl, ?_⟩
    refine ⟨ll, _, rfl, .inl ⟨SqL.of hll, fun tq ntq => ?_⟩⟩
    generalize e1 : upd H tq _ = H1
    have g1 : H1 tq = some (.tup (qs.map V.ref)) := by rw [← e1]; exact upd_same
    have s1 : Same H H1 := by rw [← e1]; exact fun b u z => (upd_ne (ne_of_none z ntq)).trans z
    clear e1
    walk_at "rd"
    refine ⟨(by show 4 ≤ sizeLine; decide), fun pe npe => ?_⟩
    generalize e2 : upd H1 pe _ = H2
    have g2 : H2 pe = some (.tup [.str "log", .str n, .str g, .ref tq]) := by rw [← e2]; exact upd_same
    have s2 : Same H1 H2 := by rw [← e2]; exact fun b u z => (upd_ne (ne_of_none z npe)).trans z
    clear e2
    have s12 := s1.trans s2
    walk_at "rd"
    refine ⟨x, le, ll, ld, pe, .ref p, es, ls, .log n g ls, rfl, R.same s12, ⟨tq, qs, g2, s2 _ _ g1, lqs, fun i a l e f => s12 _ _ (aq i a l e f)⟩, fr0, l1000, fun H3 R3 fr3 => ?_⟩
    obtain ⟨dx3, hx3⟩ := id R3.ob
    walk_at "rd"
    refine ⟨x, D, dx3, _, rfl, hx3, c, n2, (by show 4 < 1000; decide), ?_⟩
    walk_at "rd"
    refine q2 g50 _ (R3.log upd_same fun b u hb z => (upd_ne hb).trans z) fun b u z m1 m2 m3 m4 => (upd_ne m1).trans (fr3 b u (s12 _ _ z) m1 m2 m3 m4)
theorem ok_R_within_x {f : Addr} {fd : FuncData} (F : Fun K "_fault_within" "Reader._fault_within" s_R_within f fd) (T : EnT K mg aN) (c : Cls K D) (n2 : NoAttr K D "log") (n3 : NoAttr K D "_lines") (n4 : NoAttr K D "_known") (Is : Cal P w K mg base "is_in_set" 1 ["name", "group", "known"] spInSetX f1 d1) (Tf : Cal P w K mg base "text_fits" 6 ["name", "text", "known"] spTxX f2 d2) : FnOk P w K mg base CX0 7 f fd ["self", "words"] (spWithinX D) := by
  refine F.ok sc_R_within (fun vs H Q E h => ?_) (fun cdv A outer s0 H vs Q E hr h => ?_)
  · obtain ⟨x, le, ll, ld, p, w, v, n, g, g2, ns, ws, es, ls, rfl, _⟩ := h
    rfl
  · obtain ⟨x, le, ll, ld, p, w, v, n, g, g2, ns, ws, es, ls, rfl, R, hp, hw, nw, WP, fg, ti, ll1, q1, q2⟩ := h
    have nd := sc_R_within.nd
    refine ⟨_, pss_cons (ps_if (pt_cmpR op_ne (pe_callB call_len_seq (by rfl) T.len PySem.boot_len (pa_cons (pv 1) pa_nil)) pe_int (nomark _)) (pss_one (ps_ret pe_str)) pss_nil)
      (pss_cons (ps_asg (pv 1) (pg_unl (n := 2) (by rfl) (pgs_cons (pg_name (i := 2) nd rfl (Or.inl rfl)) (pgs_cons (pg_name (i := 3) nd rfl (Or.inl rfl)) pgs_nil))))
      (pss_cons (ps_if (pt_not (pt_val (pcl Is hr (by decide) (by rfl) (pa_cons (pv 2) (pa_cons (pe_ix ix_tup (pe_fld (pv 0) (by rfl)) pe_int (fun _ _ => rfl)) (pa_cons (pe_fld (pv 0) (by rfl)) pa_nil)))))) (pss_one (ps_ret pe_str)) pss_nil)
      (pss_cons (ps_if (pt_not (pt_val (pcl Tf hr (by decide) (by rfl) (pa_cons (pv 2) (pa_cons (pv 3) (pa_cons (pe_fld (pv 0) (by rfl)) pa_nil)))))) (pss_one (ps_ret pe_str)) pss_nil)
      (pss_cons (ps_expr (pe_bm PySem.F.plainAttrs_list PySem.F.slot_list_append PySem.F.type_list_append mt_append (pe_fld (pv 0) (by rfl)) (pa_cons (pe_tup (pa_cons (pv 2) (pa_cons (pv 3) pa_nil))) pa_nil)))
      (pss_one (ps_ret pe_non)))))), ?_⟩
    obtain ⟨⟨dx, hx⟩, ne, ⟨ps, lps, hle, hld, at_⟩, ⟨qs, lqs, hll, aq⟩⟩ := id R
    walk_at "rd"
    refine ⟨w, _, rfl, .inl (SqL.of hw), ?_⟩
    rw [List.length_map]
    walk_at "rd"
    refine ⟨rfl, _, rfl, ?_⟩
    refine ite2 (fun z => ?_) (fun z => ?_)
    · have l2 : ¬ ws.length = 2 := fun y => of_decide_eq_false (not_t' z) (by rw [y]; rfl)
      walk_at "rd"
      refine q1 "line" ?_ H (Same.refl H)
      unfold rowB
      split
      · exact absurd rfl l2
      · rfl
    have l2 : ws.length = 2 := by have := V.int.inj (of_decide_eq_true (not_f z)); omega
    obtain ⟨a, t, rfl⟩ : ∃ a t, ws = [a, t] := by
      match ws, l2 with
      | [a, t], _ => exact ⟨a, t, rfl⟩
    have b510 := WP.two rfl
    unfold rowB nsOf at q1 q2
    rw [fg] at q1 q2
    walk_at "rd"
    refine ⟨w, _, rfl, SqL.of hw, rfl, _, _, rfl, _, _, rfl, rfl, ?_⟩
    walk_at "rd"
    refine ⟨x, D, dx, _, .ref p, rfl, hx, c, n2, rfl, ?_⟩
    walk_at "rd"
    refine ⟨p, _, _, _, rfl, rfl, SqT.of hp, at_nat (k := 2) rfl, ?_⟩
    walk_at "rd"
    refine ⟨x, D, dx, _, .ref ld, rfl, hx, c, n4, rfl, ?_⟩
    walk_at "rd"
    refine ⟨a, g, g2, ld, es, ns, rfl, R.known, fg, ?_⟩
    refine ⟨_, rfl, ?_⟩
    refine ite2 (fun z => ?_) (fun z => ?_)
    · have no := not_t' z
      walk_at "rd"
      refine q1 "name" ?_ H (Same.refl H)
      show (if inV (.str a) (ns.map V.str) = true then _ else _) = _
      rw [no]
      rfl
    have yes := not_f z
    obtain ⟨n', o, s, m, pl, fe⟩ := ti.sets _ _ _ fg a (inV_mem yes)
    have n'a : n' = a := by
      unfold findE at fe
      have := List.find?_some fe
      exact of_decide_eq_true this
    subst n'a
    have p60 := ti.sides _ _ _ _ _ _ fe
    have ple : plOf es n' = pl := by unfold plOf; rw [fe]
    walk_at "rd"
    refine ⟨x, D, dx, _, .ref ld, rfl, hx, c, n4, rfl, ?_⟩
    walk_at "rd"
    refine ⟨n', t, ld, es, o, s, m, pl, rfl, R.known, fe, b510 t (by simp), p60, fun H1 s1 => ?_⟩
    refine ⟨_, rfl, ?_⟩
    refine ite2 (fun z => ?_) (fun z => ?_)
    · have no := not_t' z
      walk_at "rd"
      refine q1 "value" ?_ H1 s1
      show (if inV (.str n') (ns.map V.str) = true then (if fitsM t (plOf es n') = true then _ else _) else _) = _
      rw [if_pos yes, ple, no]
      rfl
    have yes2 := not_f z
    have go := q2 (n', t) (by
      show (if inV (.str n') (ns.map V.str) = true then (if fitsM t (plOf es n') = true then _ else _) else _) = _
      rw [if_pos yes, ple, if_pos yes2])
    walk_at "rd"
    refine ⟨x, D, dx, _, .ref ll, rfl, s1 _ _ hx, c, n3, rfl, ?_⟩
    refine ⟨.inl ⟨rfl, _, SqL.of (s1 _ _ hll)⟩, ?_⟩
    walk_at "rd"
    refine ⟨(by show 2 ≤ sizeLine; decide), fun tq ntq => ?_⟩
    generalize e2 : upd H1 tq _ = H2
    have g2' : H2 tq = some (.tup [.str n', .str t]) := by rw [← e2]; exact upd_same
    have s2 : Same H1 H2 := by rw [← e2]; exact fun b u z => (upd_ne (ne_of_none z ntq)).trans z
    clear e2
    have s12 := s1.trans s2
    refine ⟨ll, _, _, rfl, rfl, s12 _ _ hll, ?_, ?_⟩
    · rw [List.length_map]
      exact Nat.lt_of_le_of_lt (by omega : _ ≤ 1000) (by decide)
    generalize e3 : upd H2 ll _ = H3
    have k3 : ∀ b u, b ≠ ll → H2 b = some u → H3 b = some u := fun b u hb z => by rw [← e3]; exact (upd_ne hb).trans z
    have g3 : H3 ll = some (.lst ((qs ++ [tq]).map V.ref)) := by rw [← e3, upd_same, List.map_append]; rfl
    clear e3
    have fr : FrR x le ll ld H H3 := fun b u z m1 m2 m3 m4 => k3 b u m3 (s12 b u z)
    have nx : x ≠ ll := ne_of hx hll (by intro z; cases z)
    have nl : ld ≠ ll := ne_of hld hll (by intro z; cases z)
    have ntl : tq ≠ ll := ne_of g2' (s12 _ _ hll) (by intro z; cases z)
    have kt : ∀ b xs, H b = some (.tup xs) → H3 b = some (.tup xs) := fun b xs hb => k3 b _ (fun z => by rw [z, hll] at hb; cases hb) (s12 _ _ hb)
    walk_at "rd"
    refine go H3 ⟨⟨dx, k3 _ _ nx (s12 _ _ hx)⟩, ne, ⟨ps, lps, k3 _ _ ne (s12 _ _ hle), k3 _ _ nl (s12 _ _ hld), fun i y e iy ie => (at_ i y e iy ie).fr hx hle hll hld fr⟩, ⟨qs ++ [tq], ?_, g3, fun i y l iy il => ?_⟩⟩ fr
    · rw [List.length_append, List.length_append, lqs]
      rfl
    · rcases Nat.lt_or_ge i qs.length with h | h
      · rw [List.getElem?_append_left h] at iy
        rw [List.getElem?_append_left (by omega)] at il
        exact kt _ _ (aq i y l iy il)
      · rw [List.getElem?_append_right h] at iy
        rw [List.getElem?_append_right (by omega)] at il
        rw [lqs] at iy
        cases hk : i - ls.length with
        | zero =>
          rw [hk] at iy il
          cases iy
          cases il
          exact k3 _ _ ntl g2'
        | succ k =>
          rw [hk] at iy
          cases iy
end
end HT
namespace HT
open PySem L2 TL
def OpnAt (H : Hp) (lg : V) : OpnS → List (Str × Str) → Prop
  | none, _ => lg = .non
  | some (n, g, l), ls => ls = l ∧ ∃ (p : Addr) (v : V), lg = .ref p ∧ H p = some (.tup [.str "log", .str n, .str g, v])
theorem OpnAt.same {H H' : Hp} {lg : V} {o : OpnS} {ls : List (Str × Str)} (h : OpnAt H lg o ls) (s : Same H H') : OpnAt H' lg o ls := by
  cases o with
  | none => exact h
  | some o => obtain ⟨a, p, v, b, c⟩ := h; exact ⟨a, p, v, b, s _ _ c⟩
/-- the open log fits to the entries -/
def OpnOk (es : List Ent) : OpnS → Prop
  | none => True
  | some (n, g, ls) => findE es n = none ∧ (∃ g2 ns, findE es g = some (.set g2 ns)) ∧ ls.length ≤ 1000
theorem words_lay : ∀ ws : List Str, (∀ z ∈ ws, PyData.canLay0 (.str z) = true) → PyData.canLayAll0 (ws.map PyData.str) = true ∧ PyData.depthAll (ws.map PyData.str) ≤ 1
  | [], _ => ⟨rfl, Nat.zero_le _⟩
  | w :: ws, h => by
    have a := words_lay ws fun z hz => h z (List.mem_cons_of_mem _ hz)
    have b := h w List.mem_cons_self
    refine ⟨?_, ?_⟩
    · show (PyData.canLay0 (.str w) && PyData.canLayAll0 (ws.map PyData.str)) = true
      rw [a.1, b]
      rfl
    · show max (PyData.depth (.str w)) (PyData.depthAll (ws.map PyData.str)) ≤ 1
      refine Nat.max_le.mpr ⟨?_, a.2⟩
      simp [PyData.depth]
theorem words_shaped {ws : List Str} (h : ∀ z ∈ ws, PyData.canLay0 (.str z) = true) : SeqAt.shaped (.list (ws.map PyData.str)) = true := by
  obtain ⟨a, b⟩ := words_lay ws h
  show (PyData.canLay0 (.list (ws.map PyData.str)) && decide (PyData.depth (.list (ws.map PyData.str)) ≤ 64)) = true
  rw [Bool.and_eq_true]
  refine ⟨by simpa [PyData.canLay0] using a, decide_eq_true ?_⟩
  simp only [PyData.depth]
  omega
theorem dp_words {K : PySem.W.Frag} {H : Hp} : ∀ ws : List Str, DpAll K H (ws.map V.str) (ws.map PyData.str)
  | [] => .nil
  | w :: ws => .cons (.str w) (dp_words ws)
theorem eqv_words : ∀ ws vs : List Str, PyData.eqvAll (ws.map PyData.str) (vs.map PyData.str) = decide (ws = vs)
  | [], [] => rfl
  | [], _ :: _ => rfl
  | _ :: _, [] => rfl
  | w :: ws, v :: vs => by
    have a := eqv_words ws vs
    show (PyData.eqv (.str w) (.str v) && PyData.eqvAll (ws.map PyData.str) (vs.map PyData.str)) = _
    rw [a]
    have b : PyData.eqv (.str w) (.str v) = decide (w = v) := by
      show (w == v) = decide (w = v)
      rw [Bool.eq_iff_iff, beq_iff_eq, decide_eq_true_iff]
    rw [b]
    by_cases c : w = v <;> by_cases d : ws = vs <;> simp [c, d]
def spFaultX (D : Addr) : Sp := fun vs H Q _ => ∃ (x w le ll ld : Addr) (lg : V) (es : List Ent) (ls : List (Str × Str)) (o : OpnS) (ws : List Str), vs = [.ref x, .ref w] ∧ H w = some (.lst (ws.map V.str)) ∧ WordsP ws ∧ RdrAt D H x le ll ld lg es ls ∧ OpnAt H lg o ls ∧ Tied es ∧ OpnOk es o ∧ es.length ≤ 1000 ∧ w ≠ ll ∧
  (∀ r, stepS es o ws = .error r → ∀ H', Same H H' → Q (.str r) H') ∧
  (∀ es' o', stepS es o ws = .ok (es', o') → ∀ (H' : Hp) (ll' : Addr) (lg' : V) (ls' : List (Str × Str)), (ll' = ll ∨ H ll' = none) → RdrAt D H' x le ll' ld lg' es' ls' → OpnAt H' lg' o' ls' → FrR x le ll ld H H' → Q .non H')
section
variable {P : Program} {w : World} {K : PySem.W.Frag} {mg : Str → Option Value} {base : Heap} {aN D f1 f2 f3 f4 f5 : Addr} {d1 d2 d3 d4 d5 : FuncData}
theorem ok_R_entry_x {f : Addr} {fd : FuncData} (F : Fun K "_fault_of_entry" "Reader._fault_of_entry" s_R_entry f fd) (c : Cls K D) (n2 : NoAttr K D "log") (n3 : NoAttr K D "_lines") (n4 : NoAttr K D "_known") (Eo : Cal P w K mg base "_entry_of" 3 ["words"] spEntryX f1 d1) (Nf : Cal P w K mg base "names_fit" 2 ["entry", "known"] spNamesX f2 d2) (Wf : Cal P w K mg base "worths_fit" 7 ["entry", "known"] spWorthsX f3 d3) (M : Meth K D "_add" f4) (Ad : FnOk P w K mg base CX0 1 f4 d4 ["self", "entry"] (spAdd D)) (ba : Binds K d4 ["self", "entry"] []) : FnOk P w K mg base CX0 8 f fd ["self", "words"] (spREntryX D) := by
  refine F.ok sc_R_entry (fun vs H Q E h => ?_) (fun cdv A outer s0 H vs Q E hr h => ?_)
  · obtain ⟨x, le, ll, ld, w, ws, es, ls, rfl, _⟩ := h
    rfl
  · obtain ⟨x, le, ll, ld, w, ws, es, ls, rfl, R, hw, wne, WP, l1000, q0, q1, q2⟩ := h
    have nd := sc_R_entry.nd
    refine ⟨_, pss_cons (ps_set (i := 2) nd rfl (Or.inl rfl) (pcl Eo hr (by decide) (by rfl) (pa_cons (pv 1) pa_nil)))
      (pss_cons (ps_if (pt_cmpR op_isN (pv 2) pe_non (nomark _)) (pss_one (ps_ret pe_str)) pss_nil)
      (pss_cons (ps_if (pt_not (pt_val (pcl Nf hr (by decide) (by rfl) (pa_cons (pv 2) (pa_cons (pe_fld (pv 0) (by rfl)) pa_nil))))) (pss_one (ps_ret pe_str)) pss_nil)
      (pss_cons (ps_if (pt_not (pt_val (pcl Wf hr (by decide) (by rfl) (pa_cons (pv 2) (pa_cons (pe_fld (pv 0) (by rfl)) pa_nil))))) (pss_one (ps_ret pe_str)) pss_nil)
      (pss_cons (ps_if (pt_cmpR op_eq (pe_ix ix_tup (pv 2) pe_int (fun _ _ => rfl)) pe_str (nomark _)) (pss_cons (ps_fld (pv 0) (pv 2) (by rfl)) (pss_one (ps_fld (pv 0) (pe_lst pa_nil) (by rfl)))) (pss_one (ps_expr (pe_meth (pv 0) c M Ad (hr.mono (by decide)) ba .nil pass0 (pa_cons (pv 2) pa_nil)))))
      (pss_one (ps_ret pe_non)))))), ?_⟩
    obtain ⟨⟨dx, hx⟩, ne, ⟨ps, lps, hle, hld, at_⟩, ⟨qs, lqs, hll, aq⟩⟩ := id R
    unfold startB at q0 q1 q2
    walk_at "rd"
    refine ⟨w, ws, rfl, hw, wne, WP.n, WP.l, fun e ee p H1 s1 ra => ?_, fun ee H1 s1 => ?_⟩
    · rw [ee] at q0 q1 q2
      have esm : e.small := by
        cases e with
        | side => trivial
        | log => trivial
        | set n ns =>
          show ns.length ≤ 1000000
          unfold entryE at ee
          split at ee
          · have hs : ∀ z : List Str, eightE z ≠ some (.set n ns) := fun z h => by
              unfold eightE at h
              split at h
              · split at h <;> cases h
              · cases h
            unfold sideE at ee
            split at ee
            · exact absurd ee (hs _)
            · split at ee
              · exact absurd ee (hs _)
              · cases ee
          · split at ee
            · cases ee
              rw [List.length_drop]
              have := WP.n
              omega
            · split at ee <;> cases ee
      have enl : e.name.length ≤ 10000 := by
        have gd : ∀ i, (ws.getD i "").length ≤ 10000 := fun i => by
          rw [List.getD_eq_getElem?_getD]
          cases h : ws[i]? with
          | none => exact Nat.zero_le _
          | some y => exact WP.l y (List.mem_of_getElem? h)
        unfold entryE at ee
        split at ee
        · have hs : ∀ z : List Str, (∀ y ∈ z, y.length ≤ 10000) → eightE z = some e → e.name.length ≤ 10000 := fun z hz h => by
            unfold eightE at h
            split at h
            · split at h
              · cases h
                exact hz _ (by simp [RawE.name])
              · cases h
            · cases h
          unfold sideE at ee
          split at ee
          · refine hs _ (fun y hy => ?_) ee
            rcases List.mem_append.mp hy with hy | hy
            · exact WP.l y hy
            · simp only [List.mem_cons, List.not_mem_nil, or_false] at hy
              rcases hy with rfl | rfl <;> decide +kernel
          · split at ee
            · exact hs _ WP.l ee
            · cases ee
        · split at ee
          · cases ee
            exact gd 1
          · split at ee
            · cases ee
              exact gd 1
            · cases ee
      walk_at "rd"
      refine ⟨rfl, ?_⟩
      walk_at "rd"
      refine ⟨x, D, dx, _, .ref ld, rfl, s1 _ _ hx, c, n4, rfl, ?_⟩
      walk_at "rd"
      refine ⟨p, ld, e, es, rfl, ra, esm, enl, R.known.same s1, fun H2 s2 => ?_⟩
      refine ⟨_, rfl, ?_⟩
      have s12 := s1.trans s2
      refine ite2 (fun z => ?_) (fun z => ?_)
      · have no := not_t' z
        walk_at "rd"
        refine q0 "name" ?_ H2 s12
        show (if namesB es e = true then _ else _) = _
        rw [no]
        rfl
      have nb := not_f z
      walk_at "rd"
      refine ⟨x, D, dx, _, .ref ld, rfl, s12 _ _ hx, c, n4, rfl, ?_⟩
      walk_at "rd"
      refine ⟨p, ld, e, rfl, ra.same s2, esm, fun H3 s3 => ?_⟩
      refine ⟨_, rfl, ?_⟩
      have s13 := s12.trans s3
      refine ite2 (fun z => ?_) (fun z => ?_)
      · have no := not_t' z
        walk_at "rd"
        refine q0 "value" ?_ H3 s13
        show (if namesB es e = true then (if worthsB e = true then _ else _) else _) = _
        rw [if_pos nb, no]
        rfl
      have wb := not_f z
      have okE : (if namesB es e = true then (if worthsB e = true then Except.ok e else Except.error ("value" : Str)) else Except.error ("name" : Str)) = Except.ok e := by rw [if_pos nb, if_pos wb]
      have ra3 := ra.same (s2.trans s3)
      have ea3 := raw_ent ra3 wb
      have fresh : findE es (toEnt e).name = none := by
        rw [toEnt_name]
        unfold namesB at nb
        rw [Bool.and_eq_true, Bool.and_eq_true] at nb
        exact Option.isNone_iff_eq_none.mp nb.2.1
      have hx3 := s13 _ _ hx
      walk_at "rd"
      cases e with
      | side n o s m pl =>
        obtain ⟨qa, hp, hq⟩ := ra3
        refine ⟨p, _, _, _, rfl, rfl, SqT.of hp, at0, ?_⟩
        walk_at "rd"
        refine ⟨rfl, _, rfl, ?_⟩
        refine ite2 (fun z => absurd z (show ¬ decide (V.str "side" = V.str "log") = true from by decide +kernel)) (fun _ => ?_)
        walk_at "rd"
        refine ⟨x, dx, _, rfl, hx3, rfl, ?_⟩
        walk_at "rd"
        refine ⟨x, le, ll, ld, p, .non, es, ls, _, rfl, R.same s13, ea3, fresh, l1000, fun H4 R4 fr4 => ?_⟩
        walk_at "rd"
        exact q1 _ okE rfl H4 R4 fun b u z m1 m2 m3 m4 => fr4 b u (s13 _ _ z) m1 m2 m3 m4
      | set n ns =>
        obtain ⟨qa, hp, hq⟩ := ra3
        refine ⟨p, _, _, _, rfl, rfl, SqT.of hp, at0, ?_⟩
        walk_at "rd"
        refine ⟨rfl, _, rfl, ?_⟩
        refine ite2 (fun z => absurd z (show ¬ decide (V.str "set" = V.str "log") = true from by decide +kernel)) (fun _ => ?_)
        walk_at "rd"
        refine ⟨x, dx, _, rfl, hx3, rfl, ?_⟩
        walk_at "rd"
        refine ⟨x, le, ll, ld, p, .non, es, ls, _, rfl, R.same s13, ea3, fresh, l1000, fun H4 R4 fr4 => ?_⟩
        walk_at "rd"
        exact q1 _ okE rfl H4 R4 fun b u z m1 m2 m3 m4 => fr4 b u (s13 _ _ z) m1 m2 m3 m4
      | log n g =>
        obtain ⟨qv, pa, pv'⟩ := ra3
        refine ⟨p, _, _, _, rfl, rfl, SqT.of pa, at0, ?_⟩
        walk_at "rd"
        refine ⟨rfl, _, rfl, ?_⟩
        refine ite2 (fun _ => ?_) (fun z => absurd (decide_eq_true rfl) z)
        walk_at "rd"
        refine ⟨x, D, dx, _, rfl, hx3, c, n2, (by show 4 < 1000; decide), ?_⟩
        generalize e4 : upd H3 x _ = H4
        have g4 : H4 x = some (.ins D dx [("entries", .ref le), ("log", .ref p), ("_lines", .ref ll), ("_known", .ref ld)]) := by rw [← e4]; exact upd_same
        have k4 : ∀ b u, b ≠ x → H3 b = some u → H4 b = some u := fun b u hb z => by rw [← e4]; exact (upd_ne hb).trans z
        clear e4
        walk_at "rd"
        refine ⟨(by show 0 ≤ sizeLine; decide), fun l3 nl3 => ?_⟩
        generalize e5 : upd H4 l3 _ = H5
        have g5 : H5 l3 = some (.lst []) := by rw [← e5]; exact upd_same
        have s5 : Same H4 H5 := by rw [← e5]; exact fun b u z => (upd_ne (ne_of_none z nl3)).trans z
        clear e5
        walk_at "rd"
        refine ⟨x, D, dx, _, rfl, s5 _ _ g4, c, n3, (by show 4 < 1000; decide), ?_⟩
        generalize e6 : upd H5 x _ = H6
        have g6 : H6 x = some (.ins D dx [("entries", .ref le), ("log", .ref p), ("_lines", .ref l3), ("_known", .ref ld)]) := by rw [← e6]; exact upd_same
        have k6 : ∀ b u, b ≠ x → H5 b = some u → H6 b = some u := fun b u hb z => by rw [← e6]; exact (upd_ne hb).trans z
        clear e6
        have all : ∀ b u, b ≠ x → H b = some u → H6 b = some u := fun b u hb z => k6 b u hb (s5 _ _ (k4 b u hb (s13 _ _ z)))
        have n1 : le ≠ x := ne_of hle hx (by intro z; cases z)
        have nd3 : ld ≠ x := ne_of hld hx (by intro z; cases z)
        have nl3x : l3 ≠ x := fun z => by rw [z, g4] at nl3; cases nl3
        have nle : le ≠ l3 := fun z => by rw [← z, k4 _ _ n1 (s13 _ _ hle)] at nl3; cases nl3
        have fr : FrR x le ll ld H H6 := fun b u z m1 _ _ _ => all b u m1 z
        have free : H l3 = none := by
          cases hh : H l3 with
          | none => rfl
          | some u => rw [k4 _ _ nl3x (s13 _ _ hh)] at nl3; cases nl3
        have npx : p ≠ x := ne_of pa hx3 (by intro z; cases z)
        walk_at "rd"
        exact q2 n g okE H6 p l3 (.ref qv) free ⟨⟨dx, g6⟩, nle, ⟨ps, lps, all _ _ n1 hle, all _ _ nd3 hld, fun i y e iy ie => (at_ i y e iy ie).fr hx hle hll hld fr⟩, ⟨[], rfl, k6 _ _ nl3x g5, fun i a l z _ => by cases z⟩⟩ (k6 _ _ npx (s5 _ _ (k4 _ _ npx pa))) fr
    · rw [ee] at q0
      walk_at "rd"
      refine ⟨rfl, ?_⟩
      walk_at "rd"
      exact q0 "line" rfl H1 s1
end
end HT
namespace HT
open PySem L2 TL
section
variable {P : Program} {w : World} {K : PySem.W.Frag} {mg : Str → Option Value} {base : Heap} {aN D f1 f2 f3 f4 f5 : Addr} {d1 d2 d3 d4 d5 : FuncData}
theorem ok_R_fault_x {f : Addr} {fd : FuncData} (F : Fun K "fault_of" "Reader.fault_of" s_R_fault f fd) (c : Cls K D) (n2 : NoAttr K D "log") (M1 : Meth K D "_fault_of_entry" f1) (O1 : FnOk P w K mg base CX0 8 f1 d1 ["self", "words"] (spREntryX D)) (b1 : Binds K d1 ["self", "words"] []) (M2 : Meth K D "_fault_of_end" f2) (O2 : FnOk P w K mg base CX0 2 f2 d2 ["self"] (spEndX D)) (b2 : Binds K d2 ["self"] []) (M3 : Meth K D "_fault_within" f3) (O3 : FnOk P w K mg base CX0 7 f3 d3 ["self", "words"] (spWithinX D)) (b3 : Binds K d3 ["self", "words"] []) : FnOk P w K mg base CX0 9 f fd ["self", "words"] (spFaultX D) := by
  refine F.ok sc_R_fault (fun vs H Q E h => ?_) (fun cdv A outer s0 H vs Q E hr h => ?_)
  · obtain ⟨x, w, le, ll, ld, lg, es, ls, o, ws, rfl, _⟩ := h
    rfl
  · obtain ⟨x, w, le, ll, ld, lg, es, ls, o, ws, rfl, hw, WP, R, op, ti, oo, l1000, nw, q1, q2⟩ := h
    have nd := sc_R_fault.nd
    refine ⟨_, pss_cons (ps_if (pt_cmpR (op_eqD hr.units) (pv 1) (pe_lst pa_nil) (nomark _)) (pss_one (ps_ret pe_non)) pss_nil)
      (pss_cons (ps_if (pt_cmpR op_isN (pe_fld (pv 0) (by rfl)) pe_non (nomark _)) (pss_one (ps_ret (pe_meth (pv 0) c M1 O1 (hr.mono (by decide)) b1 .nil pass0 (pa_cons (pv 1) pa_nil)))) pss_nil)
      (pss_cons (ps_if (pt_cmpR (op_eqD hr.units) (pv 1) (pe_lst (pa_cons pe_str pa_nil)) (nomark _)) (pss_one (ps_ret (pe_meth0 (pv 0) c M2 O2 (hr.mono (by decide)) b2 .nil pass0))) pss_nil)
      (pss_one (ps_ret (pe_meth (pv 0) c M3 O3 (hr.mono (by decide)) b3 .nil pass0 (pa_cons (pv 1) pa_nil)))))), ?_⟩
    obtain ⟨dx, hx⟩ := id R.ob
    have sh := words_shaped WP.ok
    have fr0 : ∀ {H1 : Hp}, Same H H1 → FrR x le ll ld H H1 := fun s b u z _ _ _ _ => s b u z
    unfold stepS at q1 q2
    walk_at "rd"
    refine ⟨(by show 0 ≤ sizeLine; decide), fun e0 ne0 => ?_⟩
    generalize ee0 : upd H e0 _ = H1
    have g0 : H1 e0 = some (.lst []) := by rw [← ee0]; exact upd_same
    have s1 : Same H H1 := by rw [← ee0]; exact fun b u z => (upd_ne (ne_of_none z ne0)).trans z
    clear ee0
    refine ⟨_, _, .lst (SqL.of (s1 _ _ hw)) (dp_words ws), .lst (SqL.of g0) .nil, sh, by decide +kernel, ?_⟩
    refine ⟨_, rfl, ?_⟩
    have ev0 : PyData.eqv (.list (ws.map PyData.str)) (.list []) = decide (ws = []) := eqv_words ws []
    rw [ev0]
    refine ite2 (fun z => ?_) (fun z => ?_)
    · have e := of_decide_eq_true z
      rw [if_pos e] at q2
      walk_at "rd"
      exact q2 es o rfl H1 ll lg ls (.inl rfl) (R.same s1) (op.same s1) (fr0 s1)
    have wne : ¬ ws = [] := fun e => z (decide_eq_true e)
    rw [if_neg wne] at q1 q2
    walk_at "rd"
    refine ⟨x, D, dx, _, lg, rfl, s1 _ _ hx, c, n2, rfl, ?_⟩
    walk_at "rd"
    refine ⟨rfl, _, rfl, ?_⟩
    cases o with
    | none =>
      have lg0 : lg = .non := op
      subst lg0
      refine ite2 (fun _ => ?_) (fun z => absurd rfl z)
      walk_at "rd"
      refine ⟨x, dx, _, rfl, s1 _ _ hx, rfl, ?_⟩
      walk_at "rd"
      refine ⟨x, le, ll, ld, w, ws, es, ls, rfl, R.same s1, s1 _ _ hw, wne, WP, l1000, fun r er H2 s2 => ?_, fun e oe nl H2 R2 fr2 => ?_, fun n g oe H2 p l3 v nl3 R2 hp fr2 => ?_⟩
      · exact q1 r (by show (match startB es ws with | .error r => _ | .ok e => _) = _; rw [er]) H2 (s1.trans s2)
      · refine q2 (es ++ [toEnt e]) none (by show (match startB es ws with | .error r => _ | .ok e => _) = Except.ok (es ++ [toEnt e], none); rw [oe]; cases e with
          | side => rfl
          | set => rfl
          | log => cases nl) H2 ll .non ls (.inl rfl) R2 rfl fun b u z => fr2 b u (s1 _ _ z)
      · refine q2 es (some (n, g, [])) (by show (match startB es ws with | .error r => _ | .ok e => _) = _; rw [oe]; rfl) H2 l3 (.ref p) [] (.inr ?_) R2 ⟨rfl, p, v, rfl, hp⟩ fun b u z => fr2 b u (s1 _ _ z)
        cases hh : H l3 with
        | none => rfl
        | some u => rw [s1 _ _ hh] at nl3; cases nl3
    | some o =>
      obtain ⟨n, g, l0⟩ := o
      obtain ⟨rfl, p, v, rfl, hp⟩ := op
      obtain ⟨fn, ⟨g2, ns, fg⟩, ll1⟩ := oo
      refine ite2 (fun z => absurd (of_decide_eq_true z) (by intro y; cases y)) (fun _ => ?_)
      walk_at "rd"
      refine ⟨(by show 1 ≤ sizeLine; decide), fun e1 ne1 => ?_⟩
      generalize ee1 : upd H1 e1 _ = H2
      have g1 : H2 e1 = some (.lst [.str "end"]) := by rw [← ee1]; exact upd_same
      have s2 : Same H1 H2 := by rw [← ee1]; exact fun b u z => (upd_ne (ne_of_none z ne1)).trans z
      clear ee1
      have s12 := s1.trans s2
      refine ⟨_, _, .lst (SqL.of (s12 _ _ hw)) (dp_words ws), .lst (SqL.of g1) (.cons (.str _) .nil), sh, by decide +kernel, ?_⟩
      refine ⟨_, rfl, ?_⟩
      have ev1 : PyData.eqv (.list (ws.map PyData.str)) (.list [.str "end"]) = decide (ws = [("end" : Str)]) := eqv_words ws [("end" : Str)]
      rw [ev1]
      refine ite2 (fun z => ?_) (fun z => ?_)
      · have e := of_decide_eq_true z
        walk_at "rd"
        refine ⟨x, dx, _, rfl, s12 _ _ hx, rfl, ?_⟩
        refine ⟨x, le, ll, ld, p, v, n, g, es, ls, rfl, R.same s12, s12 _ _ hp, fn, l1000, ll1, fun g50 H3 s3 => ?_, fun g50 H3 R3 fr3 => ?_⟩
        · exact q1 _ (by show (if ws = [("end" : Str)] then (if 50 < ls.length then _ else _) else _) = _; rw [if_pos e, if_pos g50]) H3 (s12.trans s3)
        · exact q2 (es ++ [.log n g ls]) none (by show (if ws = [("end" : Str)] then (if 50 < ls.length then _ else _) else _) = _; rw [if_pos e, if_neg g50]) H3 ll .non ls (.inl rfl) R3 rfl fun b u z => fr3 b u (s12 _ _ z)
      · have ne : ¬ ws = [("end" : Str)] := fun e => z (decide_eq_true e)
        walk_at "rd"
        refine ⟨x, dx, _, rfl, s12 _ _ hx, rfl, ?_⟩
        walk_at "rd"
        refine ⟨x, le, ll, ld, p, w, v, n, g, g2, ns, ws, es, ls, rfl, R.same s12, s12 _ _ hp, s12 _ _ hw, nw, WP, fg, ti, ll1, fun r er H3 s3 => ?_, fun l ol H3 R3 fr3 => ?_⟩
        · exact q1 r (by show (if ws = [("end" : Str)] then _ else (match rowB es g ws with | .error r => _ | .ok l => _)) = _; rw [if_neg ne, er]) H3 (s12.trans s3)
        · refine q2 es (some (n, g, ls ++ [l])) (by show (if ws = [("end" : Str)] then _ else (match rowB es g ws with | .error r => _ | .ok l => _)) = _; rw [if_neg ne, ol]) H3 ll (.ref p) (ls ++ [l]) (.inl rfl) R3 ⟨rfl, p, v, rfl, ?_⟩ fun b u z => fr3 b u (s12 _ _ z)
          obtain ⟨_, hle, _⟩ := R.en
          obtain ⟨_, hll, _⟩ := R.li
          obtain ⟨_, _, _, hld, _⟩ := R.en
          obtain ⟨_, hle2⟩ : ∃ as, H le = some (.lst as) := let ⟨_, _, a, _⟩ := R.en; ⟨_, a⟩
          obtain ⟨_, hll2⟩ : ∃ as, H ll = some (.lst as) := let ⟨_, _, a, _⟩ := R.li; ⟨_, a⟩
          exact fr3 _ _ (s12 _ _ hp) (fun z => by rw [z, hx] at hp; cases hp) (fun z => by rw [z, hle2] at hp; cases hp) (fun z => by rw [z, hll2] at hp; cases hp) (fun z => by rw [z, hld] at hp; cases hp)
end
end HT
namespace HT
open PySem L2 TL
abbrev sIL : Stmt := inCls (top 8) 0
theorem scIL : FnScope ["self", "line", "reason"] ["self", "line", "reason"] (defScope sIL) := ⟨rfl, rfl, rfl, by decide +kernel, rfl, by decide +kernel, by decide +kernel⟩
def spIL (D : Addr) : Sp := fun vs H Q _ => ∃ (a : Addr) (y z : V), vs = [.ref a, y, z] ∧ H a = some (exo a D none) ∧ ∀ dx, H dx = none → dx ≠ a → Q .non (upd (upd (upd H dx (exd dx [("line", y)])) a (exo a D (some dx))) dx (exd dx [("reason", z), ("line", y)]))
theorem ok_IL {P : Program} {w : World} {K : PySem.W.Frag} {mg : Str → Option Value} {base : Heap} {D f : Addr} {fd : FuncData} (F : Fun K "__init__" "InvalidLine.__init__" sIL f fd) (O : OexC K D) (n1 : PySem.W.findIn K (.ref D) "line" = some none) (n2 : PySem.W.findIn K (.ref D) "reason" = some none) : FnOk P w K mg base CX0 1 f fd ["self", "line", "reason"] (spIL D) := by
  refine F.ok scIL (fun vs H Q E h => ?_) (fun cdv A outer s H vs Q E hr h => ?_)
  · obtain ⟨a, y, z, rfl, _⟩ := h
    rfl
  · obtain ⟨a, y, z, rfl, ha, q⟩ := h
    refine ⟨_, pss_cons (ps_ost (pv 0) (pv 1)) (pss_one (ps_ost (pv 0) (pv 2))), ?_⟩
    walk_at "rd"
    refine ⟨a, D, rfl, O, n1, .inl ⟨ha, fun dx nd ne => ?_⟩⟩
    walk_at "rd"
    refine ⟨a, D, rfl, O, n2, .inr ⟨dx, [("line", y)], upd_same, (upd_ne ne).trans upd_same, (by show 1 ≤ 900; decide), ?_⟩⟩
    exact q dx nd ne
/-- InvalidLine, to be raised -/
structure IlC (P : Program) (w : World) (K : PySem.W.Frag) (mg : Str → Option Value) (base : Heap) (D fI : Addr) (fd : FuncData) : Prop where
  o : OexC K D
  xf : XfC K D
  i : PySem.W.findIn K (.ref D) "__init__" = some (some (.ref fI))
  t : PySem.W.typeIn K (.ref fI) = some (.type "function")
  ok : FnOk P w K mg base CX0 1 fI fd ["self", "line", "reason"] (spIL D)
  bd : Binds K fd ["self", "line", "reason"] []
  gl : mg "InvalidLine" = some (.ref D)
theorem pmk_il {X : Cx} {j : Nat} {D fI : Addr} {fd : FuncData} {e : Expr} {es : List Expr} {ta : TA} {p pos : Pos} (I : IlC X.prog X.w X.K X.mg X.base D fI fd) (hr : Room j X.A) (hj : 2 ≤ j) (hg : Gl X "InvalidLine") (ha : PA X (e :: es) ta)
    (he : starEach (e :: es) X.env = (false, eval e X.env) :: starEach es X.env := by rfl) (hpl : (backTo pos (starEach es X.env)).any (·.1) = false := by rfl) : PMk X (.Call (.Name "InvalidLine" p) (e :: es) [] pos) (tMkO D (spIL D) [] ta) :=
  pmk_oex I.o I.i I.t I.ok (hr.mono hj) I.bd .nil pass0 hg I.gl ha (by decide) he hpl
/-- what a raised InvalidLine leaves -/
def ErrL (D : Addr) (E : XK) (H : Hp) (n : Int) (r : Str) : Prop := ∀ (d : Addr) (H' : Hp), H d = none → Same H H' → H' d = some (.xd [("reason", .str r), ("line", .int n)]) → E (.ref D) (some d) H'
theorem ErrL.go {D : Addr} {E : XK} {H : Hp} {n : Int} {r : Str} (h : ErrL D E H n r) : ([V.int n, V.str r] : List V).length ≤ 1000 ∧ ∀ a, H a = none → spIL D (.ref a :: ([V.int n, V.str r] ++ [])) (upd H a (exo a D none)) (fun v H2 => v = .non ∧ ∃ (d : Addr) (fs : List (Str × V)), H2 a = some (exo a D (some d)) ∧ H2 d = some (exd d fs) ∧ H d = none ∧ E (.ref D) (some d) (upd (del H2 a) d (.xd fs))) (fun _ _ _ => False) := by
  refine ⟨(by show 2 ≤ 1000; decide), fun a na => ⟨a, .int n, .str r, rfl, upd_same, fun dx nd ne => ⟨rfl, dx, [("reason", .str r), ("line", .int n)], (upd_ne ne.symm).trans upd_same, upd_same, (upd_ne ne).symm.trans nd, ?_⟩⟩⟩
  have hd : H dx = none := (upd_ne ne).symm.trans nd
  refine h dx _ hd (fun b u z => ?_) upd_same
  have b1 := ne_of_none z na
  have b2 := ne_of_none z hd
  rw [upd_ne b2, del_ne b1, upd_ne b2, upd_ne b1, upd_ne b2, upd_ne b1]
  exact z
theorem ErrL.same {D : Addr} {E : XK} {H H1 : Hp} {n : Int} {r : Str} (h : ErrL D E H n r) (s : Same H H1) : ErrL D E H1 n r := fun d H' hd s' e => by
  refine h d H' ?_ (s.trans s') e
  cases hh : H d with
  | none => rfl
  | some u =>
    have := s _ _ hh
    rw [hd] at this
    cases this
def opnLen : OpnS → Nat
  | none => 0
  | some (_, _, ls) => ls.length
theorem step_ok {es es' : List Ent} {o o' : OpnS} {ws : List Str} {k : Nat} (t : Tied es) (p : OpnOk es o) (l : opnLen o ≤ k) (k9 : k + 1 ≤ 1000) (h : stepS es o ws = .ok (es', o')) : Tied es' ∧ OpnOk es' o' ∧ es'.length ≤ es.length + 1 ∧ opnLen o' ≤ k + 1 := by
  unfold stepS at h
  by_cases e : ws = []
  · rw [if_pos e] at h
    cases h
    exact ⟨t, p, Nat.le_succ _, Nat.le_succ_of_le l⟩
  rw [if_neg e] at h
  cases o with
  | none =>
    have h' : (match startB es ws with | .error r => Except.error r | .ok e => Except.ok (openB es e)) = Except.ok (es', o') := h
    cases sb : startB es ws with
    | error r => rw [sb] at h'; cases h'
    | ok r =>
      rw [sb] at h'
      have facts : namesB es r = true ∧ worthsB r = true := by
        unfold startB at sb
        split at sb
        · cases sb
        · split at sb
          · split at sb
            · cases sb
              exact ⟨by assumption, by assumption⟩
            · cases sb
          · cases sb
      obtain ⟨nb, wb⟩ := facts
      cases r with
      | side n o s m pl =>
        cases h'
        exact ⟨t.add nb wb rfl, trivial, by rw [List.length_append]; exact Nat.le_refl _, Nat.zero_le _⟩
      | set n ns =>
        cases h'
        exact ⟨t.add nb wb rfl, trivial, by rw [List.length_append]; exact Nat.le_refl _, Nat.zero_le _⟩
      | log n g =>
        cases h'
        unfold namesB at nb
        rw [Bool.and_eq_true, Bool.and_eq_true] at nb
        obtain ⟨e2, f2, k2⟩ := kind_some nb.2.2
        obtain ⟨n2, ns, rfl⟩ := kind_set k2
        exact ⟨t, ⟨Option.isNone_iff_eq_none.mp nb.2.1, ⟨n2, ns, f2⟩, Nat.zero_le _⟩, Nat.le_succ _, Nat.zero_le _⟩
  | some o =>
    obtain ⟨n, g, ls⟩ := o
    obtain ⟨a, b, c⟩ := p
    have h' : (if ws = [("end" : Str)] then (if 50 < ls.length then Except.error ("value" : Str) else Except.ok (es ++ [.log n g ls], none)) else (match rowB es g ws with | .error r => Except.error r | .ok l => Except.ok (es, some (n, g, ls ++ [l])))) = Except.ok (es', o') := h
    split at h'
    · split at h'
      · cases h'
      · cases h'
        exact ⟨t.log n g ls, trivial, by rw [List.length_append]; exact Nat.le_refl _, Nat.zero_le _⟩
    · cases rb : rowB es g ws with
      | error r => rw [rb] at h'; cases h'
      | ok r =>
        rw [rb] at h'
        cases h'
        have l' : ls.length ≤ k := l
        refine ⟨t, ⟨a, b, ?_⟩, Nat.le_succ _, ?_⟩
        · rw [List.length_append, List.length_singleton]
          omega
        · show (ls ++ [r]).length ≤ k + 1
          rw [List.length_append, List.length_singleton]
          omega
end HT
namespace HT
open PySem L2 TL
def spRInit (D : Addr) : Sp := fun vs H Q _ => ∃ (x dx : Addr), vs = [.ref x] ∧ H x = some (.ins D dx []) ∧ ∀ (le ll ld : Addr) (H' : Hp), H le = none → H ll = none → H ld = none → RdrAt D H' x le ll ld .non [] [] → (∀ b u, b ≠ x → H b = some u → H' b = some u) → Q .non H'
section
variable {P : Program} {w : World} {K : PySem.W.Frag} {mg : Str → Option Value} {base : Heap} {D : Addr}
theorem ok_R_init {f : Addr} {fd : FuncData} (F : Fun K "__init__" "Reader.__init__" s_R_init f fd) (c : Cls K D) (n1 : NoAttr K D "entries") (n2 : NoAttr K D "log") (n3 : NoAttr K D "_lines") (n4 : NoAttr K D "_known") : FnOk P w K mg base CX0 1 f fd ["self"] (spRInit D) := by
  refine F.ok sc_R_init (fun vs H Q E h => ?_) (fun cdv A outer s0 H vs Q E hr h => ?_)
  · obtain ⟨x, dx, rfl, _⟩ := h
    rfl
  · obtain ⟨x, dx, rfl, hx, q⟩ := h
    have nd := sc_R_init.nd
    refine ⟨_, pss_cons (ps_fld (pv 0) (pe_lst pa_nil) (by rfl)) (pss_cons (ps_fld (pv 0) pe_non (by rfl)) (pss_cons (ps_fld (pv 0) (pe_lst pa_nil) (by rfl)) (pss_one (ps_fld (pv 0) pe_dnewK (by rfl))))), ?_⟩
    walk_at "rd"
    refine ⟨(by show 0 ≤ sizeLine; decide), fun le nle => ?_⟩
    generalize e1 : upd H le _ = H1
    have g1 : H1 le = some (.lst []) := by rw [← e1]; exact upd_same
    have s1 : Same H H1 := by rw [← e1]; exact fun b u z => (upd_ne (ne_of_none z nle)).trans z
    clear e1
    walk_at "rd"
    refine ⟨x, D, dx, [], rfl, s1 _ _ hx, c, n1, by decide, ?_⟩
    generalize e2 : upd H1 x _ = H2
    have g2 : H2 x = some (.ins D dx [("entries", .ref le)]) := by rw [← e2]; exact upd_same
    have k2 : ∀ b u, b ≠ x → H1 b = some u → H2 b = some u := fun b u hb z => by rw [← e2]; exact (upd_ne hb).trans z
    have i2 : ∀ b, H2 b = none → H1 b = none := fun b z => by
      cases hh : H1 b with
      | none => rfl
      | some u =>
        by_cases hb : b = x
        · rw [hb, g2] at z; cases z
        · rw [k2 b u hb hh] at z; cases z
    clear e2
    walk_at "rd"
    refine ⟨x, D, dx, _, rfl, g2, c, n2, (by show 1 < 1000; decide), ?_⟩
    generalize e3 : upd H2 x _ = H3
    have g3 : H3 x = some (.ins D dx [("entries", .ref le), ("log", .non)]) := by rw [← e3]; exact upd_same
    have k3 : ∀ b u, b ≠ x → H2 b = some u → H3 b = some u := fun b u hb z => by rw [← e3]; exact (upd_ne hb).trans z
    have i3 : ∀ b, H3 b = none → H2 b = none := fun b z => by
      cases hh : H2 b with
      | none => rfl
      | some u =>
        by_cases hb : b = x
        · rw [hb, g3] at z; cases z
        · rw [k3 b u hb hh] at z; cases z
    clear e3
    walk_at "rd"
    refine ⟨(by show 0 ≤ sizeLine; decide), fun ll nll => ?_⟩
    generalize e4 : upd H3 ll _ = H4
    have g4 : H4 ll = some (.lst []) := by rw [← e4]; exact upd_same
    have s4 : Same H3 H4 := by rw [← e4]; exact fun b u z => (upd_ne (ne_of_none z nll)).trans z
    clear e4
    walk_at "rd"
    refine ⟨x, D, dx, _, rfl, s4 _ _ g3, c, n3, (by show 2 < 1000; decide), ?_⟩
    generalize e5 : upd H4 x _ = H5
    have g5 : H5 x = some (.ins D dx [("entries", .ref le), ("log", .non), ("_lines", .ref ll)]) := by rw [← e5]; exact upd_same
    have k5 : ∀ b u, b ≠ x → H4 b = some u → H5 b = some u := fun b u hb z => by rw [← e5]; exact (upd_ne hb).trans z
    have i5 : ∀ b, H5 b = none → H4 b = none := fun b z => by
      cases hh : H4 b with
      | none => rfl
      | some u =>
        by_cases hb : b = x
        · rw [hb, g5] at z; cases z
        · rw [k5 b u hb hh] at z; cases z
    clear e5
    walk_at "rd"
    intro ld nld
    generalize e6 : upd H5 ld _ = H6
    have g6 : H6 ld = some (.dK []) := by rw [← e6]; exact upd_same
    have s6 : Same H5 H6 := by rw [← e6]; exact fun b u z => (upd_ne (ne_of_none z nld)).trans z
    clear e6
    walk_at "rd"
    refine ⟨x, D, dx, _, rfl, s6 _ _ g5, c, n4, (by show 3 < 1000; decide), ?_⟩
    generalize e7 : upd H6 x _ = H7
    have g7 : H7 x = some (.ins D dx [("entries", .ref le), ("log", .non), ("_lines", .ref ll), ("_known", .ref ld)]) := by rw [← e7]; exact upd_same
    have k7 : ∀ b u, b ≠ x → H6 b = some u → H7 b = some u := fun b u hb z => by rw [← e7]; exact (upd_ne hb).trans z
    clear e7
    have nlex : le ≠ x := fun z => by rw [z, hx] at nle; cases nle
    have nllx : ll ≠ x := fun z => by rw [z, g3] at nll; cases nll
    have nldx : ld ≠ x := fun z => by rw [z, g5] at nld; cases nld
    have hle : H7 le = some (.lst []) := k7 _ _ nlex (s6 _ _ (k5 _ _ nlex (s4 _ _ (k3 _ _ nlex (k2 _ _ nlex g1)))))
    have hll : H7 ll = some (.lst []) := k7 _ _ nllx (s6 _ _ (k5 _ _ nllx g4))
    have nee : le ≠ ll := fun z => by rw [← z, k3 _ _ nlex (k2 _ _ nlex g1)] at nll; cases nll
    have back : ∀ b, H5 b = none → H b = none := fun b z => s1.free (i2 _ (i3 _ (s4.free (i5 _ z))))
    refine q le ll ld H7 nle (s1.free (i2 _ (i3 _ nll))) (back ld nld) ⟨⟨dx, g7⟩, nee, ⟨[], rfl, hle, k7 _ _ nldx g6, fun i p e z _ => by cases z⟩, ⟨[], rfl, hll, fun i a l z _ => by cases z⟩⟩ fun b u hb z => k7 _ _ hb (s6 _ _ (k5 _ _ hb (s4 _ _ (k3 _ _ hb (k2 _ _ hb (s1 _ _ z))))))
end
end HT
namespace HT
open PySem L2 TL
/-- the words of a line -/
def wordsOfL (y : Str) : List Str := (Txt.split y " ").filter fun z => decide (z ≠ ("" : Str))
def linesOf (z : Str) : List (List Str) := (Txt.split z "\n").map wordsOfL
structure TextP (z : Str) : Prop where
  l : z.length ≤ 16000000
  y : ∀ y ∈ Txt.split z "\n", y.length ≤ 16000000 ∧ (Txt.split y " ").length ≤ 1000000 ∧ WordsP (wordsOfL y)
  n : (Txt.split z "\n").length ≤ 900
def spReadPX (D : Addr) : Sp := fun vs H Q E => ∃ x : V, vs = [x] ∧ ((∃ n, Th H x n ∧ (n == "str") = false ∧ ErrL D E H 0 "text") ∨ ∃ z : Str, x = .str z ∧ TextP z ∧
  (∀ es, runS (linesOf z) 0 [] none = .ok es → ∀ (le : Addr) (H' : Hp), H le = none → Same H H' → EntsAt H' le es → Q (.ref le) H') ∧ (∀ i r, runS (linesOf z) 0 [] none = .error (i, r) → ErrL D E H (i : Int) r))
section
variable {P : Program} {w : World} {K : PySem.W.Frag} {mg : Str → Option Value} {base : Heap} {aN DL D f0 f1 f2 f3 f4 f5 : Addr} {d0 d1 d2 d3 d4 d5 : FuncData}
theorem ok_read_paper_x {f : Addr} {fd : FuncData} (F : Fun K "read_paper" "read_paper" s_read_paper f fd) (T : EnT K mg aN) (hen : mg "enumerate" = none) (gR : mg "Reader" = some (.ref D)) (c : Cls K D) (n1 : NoAttr K D "entries") (n2 : NoAttr K D "log") (Mk' : Mk K D f1) (Ini : FnOk P w K mg base CX0 1 f1 d1 ["self"] (spRInit D)) (bi : Binds K d1 ["self"] []) (M : Meth K D "fault_of" f2) (O : FnOk P w K mg base CX0 9 f2 d2 ["self", "words"] (spFaultX D)) (bf : Binds K d2 ["self", "words"] []) (I : IlC P w K mg base DL f0 d0) : FnOk P w K mg base (L2.CX P w) 10 f fd ["text"] (spReadPX DL) := by
  refine F.okX sc_read_paper (fun vs H Q E h => ?_) (fun cdv A outer s0 H vs Q E hr h => ?_)
  · obtain ⟨x, rfl, _⟩ := h
    rfl
  · obtain ⟨x, rfl, h⟩ := h
    have nd := sc_read_paper.nd
    refine ⟨_, (pss_cons (ps_if (pt_not (pt_val (pe_callB call_isi (by rfl) T.isi (by decide +kernel) (pa_cons (pv 0) (pa_cons (pe_bltn (v := .ty "str") (by rfl) T.str (by decide +kernel) rfl) pa_nil))))) (pss_one (ps_raise rfl (takes_of rfl rfl rfl rfl) (pmk_il I hr (by decide) (by rfl) (pa_cons pe_int (pa_cons pe_str pa_nil))))) pss_nil)
      (pss_cons (ps_set (i := 1) nd rfl (Or.inl rfl) (pe_bm PySem.F.plainAttrs_str PySem.F.slot_str_split PySem.F.type_str_split mt_split (pv 0) (pa_cons pe_str pa_nil)))
      (pss_cons (ps_set (i := 2) nd rfl (Or.inl rfl) (pe_make0 Mk' Ini (hr.mono (by decide)) (by rfl) gR bi .nil pass0))
      (pss_cons (ps_for (passes_of rfl) rfl (pi_enum (by rfl) hen (pa_cons (pv 1) pa_nil)) (pg_tup (by rfl) (pgs_cons (pg_name (i := 3) nd rfl (Or.inl rfl)) (pgs_cons (pg_name (i := 4) nd rfl (Or.inl rfl)) pgs_nil))) (pss_cons (ps_setLc (i := 6) (own := [("word", 5)]) (g := gName 5) rfl nd rfl rfl (sw_true rfl rfl rfl (by decide +kernel)) (pi_list (pe_bm PySem.F.plainAttrs_str PySem.F.slot_str_split PySem.F.type_str_split mt_split (pv 4) (pa_cons pe_str pa_nil))) (blkOk_by (N := ["text", "lines", "reader", "number", "line", "word", "words", "reason"]) (sc := defScope s_read_paper) (by decide +kernel)) (fun _ _ _ _ _ => pg_name (i := 5) nd rfl (Or.inl rfl)) (fun _ _ _ _ _ => (pts_one (pt_cmpR op_ne (pv 5) pe_str (nomark _)))) (fun _ _ _ _ _ => (pv 5)))
      (pss_cons (ps_set (i := 7) nd rfl (Or.inl rfl) (pe_meth (pv 2) c M O (hr.mono (by decide)) bf .nil pass0 (pa_cons (pv 6) pa_nil)))
      (pss_one (ps_if (pt_cmpR op_notN (pv 7) pe_non (nomark _)) (pss_one (ps_raise rfl (takes_of rfl rfl rfl rfl) (pmk_il I hr (by decide) (by rfl) (pa_cons (pv 3) (pa_cons (pv 7) pa_nil))))) pss_nil)))))
      (pss_cons (ps_if (pt_cmpR op_notN (pe_fld (pv 2) (by rfl)) pe_non (nomark _)) (pss_one (ps_raise rfl (takes_of rfl rfl rfl rfl) (pmk_il I hr (by decide) (by rfl) (pa_cons (pe_callB call_len_seq (by rfl) T.len PySem.boot_len (pa_cons (pv 1) pa_nil)) (pa_cons pe_str pa_nil))))) pss_nil)
      (pss_one (ps_ret (pe_fld (pv 2) (by rfl))))))))), ?_⟩
    rcases h with ⟨n, t, hn, er⟩ | ⟨z, rfl, TP, ok, er⟩
    · walk_at "rd"
      refine ⟨_, _, _, _, _, rfl, .ty "str", t.ty, t.kstr, ?_⟩
      walk_at "rd"
      refine ite2 (fun _ => ?_) (fun x => absurd (by rw [hn]; rfl) x)
      walk_at "rd"
      exact er.go
    walk_at "rd"
    refine ⟨_, _, _, _, _, rfl, .ty "str", .base (.str z), kit_ty (r := true) (by decide +kernel), ?_⟩
    walk_at "rd"
    refine ⟨rfl, ?_⟩
    walk_at "rd"
    refine ⟨by decide +kernel, Nat.le_trans (by have := TP.l; omega : z.length + 2 ≤ 16000002) (by decide), fun L nL => ?_⟩
    obtain ⟨ys, hys⟩ : ∃ ys, ys = Txt.split z (Str.ofString "\n") := ⟨_, rfl⟩
    have yl := TP.y
    have yn := TP.n
    unfold linesOf at ok er
    rw [← hys]
    change ∀ es, runS ((Txt.split z (Str.ofString "\n")).map wordsOfL) 0 [] none = .ok es → _ at ok
    change ∀ i r, runS ((Txt.split z (Str.ofString "\n")).map wordsOfL) 0 [] none = .error (i, r) → _ at er
    change ∀ y ∈ Txt.split z (Str.ofString "\n"), _ at yl
    change (Txt.split z (Str.ofString "\n")).length ≤ 900 at yn
    rw [← hys] at ok er yl yn
    clear hys
    generalize e1 : upd H L _ = H1
    have g1 : H1 L = some (.lst (ys.map V.str)) := by rw [← e1]; exact upd_same
    have s1 : Same H H1 := by rw [← e1]; exact fun b u y => (upd_ne (ne_of_none y nL)).trans y
    clear e1
    walk_at "rd"
    intro x dx nx ndx nex
    refine ⟨x, dx, rfl, upd_same, fun le ll ld H2 nle nll nld R k2 => ⟨rfl, ?_⟩⟩
    have s2 : Same H1 H2 := fun b u y => k2 b u (ne_of_none y nx) ((upd_ne (ne_of_none y nx)).trans ((upd_ne (ne_of_none y ndx)).trans y))
    have s12 := s1.trans s2
    have fle : H1 le = none := by
      cases h : H1 le with
      | none => rfl
      | some u => rw [(upd_ne (ne_of_none h nx)).trans ((upd_ne (ne_of_none h ndx)).trans h)] at nle; cases nle
    have fll : H1 ll = none := by
      cases h : H1 ll with
      | none => rfl
      | some u => rw [(upd_ne (ne_of_none h nx)).trans ((upd_ne (ne_of_none h ndx)).trans h)] at nll; cases nll
    have fld : H1 ld = none := by
      cases h : H1 ld with
      | none => rfl
      | some u => rw [(upd_ne (ne_of_none h nx)).trans ((upd_ne (ne_of_none h ndx)).trans h)] at nld; cases nld
    have tied0 : Tied [] := ⟨(fun g g2 ns h => by cases h), (fun x n o s m pl h => by cases h)⟩
    walk_at "rd"
    refine ⟨L, _, rfl, SqL.of (s2 _ _ g1), ?_⟩
    refine for_it (walk_enum (K := K) (a := L) (xs := ys.map V.str)) (fun i st H3 => ∃ (x3 x4 x5 x6 x7 : Option V) (l2 : Addr) (lg : V) (d : List Ent) (o : OpnS) (ls : List (Str × Str)), st = [some (.str z), some (.ref L), some (.ref x), x3, x4, x5, x6, x7] ∧ RdrAt D H3 x le l2 ld lg d ls ∧ OpnAt H3 lg o ls ∧ Tied d ∧ OpnOk d o ∧ d.length ≤ i ∧ opnLen o ≤ i ∧ runS (ys.map wordsOfL) 0 [] none = runS ((ys.drop i).map wordsOfL) i d o ∧ H1 l2 = none ∧ Same H1 H3)
      ⟨none, none, none, none, none, ll, .non, [], none, [], rfl, R, rfl, tied0, trivial, Nat.le_refl _, Nat.le_refl _, rfl, fll, s2⟩ (fun _ _ _ _ ⟨_, _, _, _, _, _, _, _, _, _, _, _, _, _, _, _, _, _, _, sm⟩ => SqL.of (sm _ _ g1)) ?_ ?_
    · rintro i v st H3 H4 hi ⟨x3, x4, x5, x6, x7, l2, lg, d, o, ls, rfl, R3, op, ti, oo, dl, ol, rn, f2, sm⟩ ⟨T', z1, z2, rfl, nT, rfl, e1, e2⟩
      cases e1
      obtain ⟨y, ey, rfl⟩ : ∃ y, ys[i]? = some y ∧ z2 = V.str y := by
        have e3 : (ys.map V.str)[i]? = some z2 := e2
        rw [List.getElem?_map] at e3
        obtain ⟨y, a, b⟩ := Option.map_eq_some_iff.mp e3
        exact ⟨y, a, b.symm⟩
      obtain ⟨yl1, yl2, WP⟩ := yl y (List.mem_of_getElem? ey)
      refine ⟨T', _, rfl, SqT.of upd_same, rfl, _, _, rfl, _, _, rfl, rfl, ?_⟩
      generalize e5 : upd H3 T' _ = H5
      have s5 : Same H3 H5 := by rw [← e5]; exact fun b u y => (upd_ne (ne_of_none y nT)).trans y
      clear e5
      walk_at "rd"
      refine ⟨rfl, ?_⟩
      walk_at "rd"
      refine ⟨by decide +kernel, Nat.le_trans (by omega : y.length + 2 ≤ 16000002) (by decide), fun S nS => ?_⟩
      generalize e6 : upd H5 S _ = H6
      have g6 : H6 S = some (.lst ((Txt.split y (Str.ofString " ")).map V.str)) := by rw [← e6]; exact upd_same
      have s6 : Same H5 H6 := by rw [← e6]; exact fun b u y => (upd_ne (ne_of_none y nS)).trans y
      clear e6
      refine ⟨S, rfl, ⟨_, SqL.of g6⟩, fun Wd nW => ?_⟩
      refine lc_it (walk_list (K := K) (a := S) (xs := (Txt.split y (Str.ofString " ")).map V.str)) (fun j H7 => H7 Wd = some (.lst ((((Txt.split y (Str.ofString " ")).take j).filter fun z => decide (z ≠ ("" : Str))).map V.str)) ∧ Same H6 H7) ⟨upd_same, fun b u z => (upd_ne (ne_of_none z nW)).trans z⟩ (fun _ _ _ ⟨_, s3⟩ => SqL.of (s3 _ _ g6)) ?_ ?_
      · rintro j yy H7 H8 hj ⟨hW, s7⟩ ⟨rfl, eyy⟩
        rw [List.getElem?_map] at eyy
        obtain ⟨wd, ew, rfl⟩ := Option.map_eq_some_iff.mp eyy
        rw [List.length_map] at hj
        refine ⟨rfl, ?_⟩
        walk_at "rd"
        refine ⟨rfl, _, rfl, ?_⟩
        have tk : (((Txt.split y (Str.ofString " ")).take (j + 1)).filter fun z => decide (z ≠ ("" : Str))) = (((Txt.split y (Str.ofString " ")).take j).filter fun z => decide (z ≠ ("" : Str))) ++ (if wd = ("" : Str) then [] else [wd]) := by
          rw [List.take_succ, ew, List.filter_append]
          congr 1
          show List.filter _ [wd] = _
          by_cases e : wd = ("" : Str)
          · rw [List.filter_cons, if_neg (by simp [e]), if_pos e]
            rfl
          · rw [List.filter_cons, if_pos (by simp [e]), if_neg e]
            rfl
        refine ite2 (fun b => ?_) (fun b => ?_)
        · have e : ¬ wd = ("" : Str) := fun e => by rw [e] at b; exact absurd b (by decide +kernel)
          walk_at "rd"
          refine ⟨_, hW, ?_, ?_, fun b u z => (upd_ne (ne_of_none z nW)).trans (s7 _ _ z)⟩
          · rw [List.length_map]
            refine Nat.lt_of_le_of_lt (List.length_filter_le _ _) ?_
            rw [List.length_take]
            have yl2' : (Txt.split y (Str.ofString " ")).length ≤ 1000000 := yl2
            exact Nat.lt_of_le_of_lt (by omega : _ ≤ 1000000) (by decide)
          · rw [tk, if_neg e, List.map_append]
            exact upd_same
        · have e : wd = ("" : Str) := by
            by_cases e : wd = ("" : Str)
            · exact e
            · exact absurd (by rw [decide_eq_false fun z => e (V.str.inj z)]; rfl) b
          rw [tk, if_pos e, List.append_nil]
          exact ⟨hW, s7⟩
      rintro H7 ⟨hW, s7⟩
      rw [List.length_map, List.take_length] at hW
      have hW2 : H7 Wd = some (.lst ((wordsOfL y).map V.str)) := hW
      have s37 := s5.trans (s6.trans s7)
      obtain ⟨dx3, hx3⟩ := id R3.ob
      have R7 := R3.same s37
      have il : i < ys.length := (List.getElem?_eq_some_iff.mp ey).1
      have dr : ys.drop i = y :: ys.drop (i + 1) := by
        rw [List.drop_eq_getElem_cons il]
        congr 1
        exact (List.getElem?_eq_some_iff.mp ey).2
      rw [dr, List.map_cons] at rn
      have nWl : Wd ≠ l2 := fun e => by
        obtain ⟨_, _, q1, _⟩ := R3.li
        rw [e, s6 _ _ (s5 _ _ q1)] at nW
        cases nW
      generalize wordsOfL y = ws at rn hW2 WP
      have s17 := sm.trans s37
      walk_at "rd"
      refine ⟨x, dx3, _, rfl, s37 _ _ hx3, rfl, ?_⟩
      walk_at "rd"
      refine ⟨x, Wd, le, l2, ld, lg, d, ls, o, ws, rfl, hW2, WP, R7, op.same s37, ti, oo, by omega, nWl, fun r es8 H8 s8 => ?_, fun d' o' ok8 H8 ll8 lg8 ls8 l8 R8 op8 fr8 => ?_⟩
      · walk_at "rd"
        refine ⟨rfl, _, rfl, ?_⟩
        refine ite2 (fun _ => ?_) (fun b => absurd rfl b)
        walk_at "rd"
        have e8 : runS (ys.map wordsOfL) 0 [] none = .error (i, r) := by
          rw [rn]
          show (match stepS d o ws with | .error r => _ | .ok (es', o') => _) = _
          rw [es8]
        have := ((er i r e8).same (s1.trans (s17.trans s8))).go
        exact this
      · obtain ⟨ti', oo', dl', ol'⟩ := step_ok ti oo ol (by omega) ok8
        walk_at "rd"
        refine ⟨rfl, _, rfl, ?_⟩
        refine ite2 (fun b => absurd b (by decide)) (fun _ => ?_)
        refine ⟨_, _, _, _, _, ll8, lg8, d', o', ls8, rfl, R8, op8, ti', oo', by omega, ol', ?_, ?_, fun b u z => fr8 b u (s17 _ _ z) (ne_of_none z nx) (ne_of_none z fle) (ne_of_none z f2) (ne_of_none z fld)⟩
        · rw [rn]
          show (match stepS d o ws with | .error r => _ | .ok (es', o') => _) = _
          rw [ok8]
        · rcases l8 with rfl | l8
          · exact f2
          · cases hh : H1 ll8 with
            | none => rfl
            | some u => rw [s17 _ _ hh] at l8; cases l8
    rintro st H3 ⟨x3, x4, x5, x6, x7, l2, lg, d, o, ls, rfl, R3, op, ti, oo, dl, ol, rn, f2, sm⟩
    rw [List.length_map, List.drop_length] at rn
    obtain ⟨dx3, hx3⟩ := id R3.ob
    walk_at "rd"
    refine ⟨x, D, dx3, _, lg, rfl, hx3, c, n2, rfl, ?_⟩
    walk_at "rd"
    refine ⟨rfl, _, rfl, ?_⟩
    cases o with
    | none =>
      have l0 : lg = .non := op
      rw [l0]
      refine ite2 (fun y => absurd y (by decide)) (fun _ => ?_)
      walk_at "rd"
      refine ⟨x, D, dx3, _, .ref le, rfl, hx3, c, n1, rfl, ?_⟩
      obtain ⟨ps, lps, hle, hld, at_⟩ := R3.en
      exact ok d rn le H3 (s1.free fle) (s1.trans sm) ⟨ps, lps, hle, at_⟩
    | some o =>
      obtain ⟨n, g, l0⟩ := o
      obtain ⟨rfl, p, v, rfl, hp⟩ := op
      refine ite2 (fun _ => ?_) (fun b => absurd rfl b)
      walk_at "rd"
      refine ⟨L, _, rfl, .inl (SqL.of (sm _ _ g1)), ?_⟩
      walk_at "rd"
      have := ((er _ _ rn).same (s1.trans sm)).go
      rw [List.length_map]
      exact this
end
end HT
namespace HT
open PySem L2 TL
/-- the further names that the law does not bind -/
structure LwT (mg : Str → Option Value) : Prop where
  isi : mg "isinstance" = none
  str : mg "str" = none
  tuple : mg "tuple" = none
  list : mg "list" = none
  len : mg "len" = none
  int : mg "int" = none
  bool : mg "bool" = none
  range : mg "range" = none
  ve : mg "ValueError" = none
/-- signs as data -/
def sgD (F : List Nat) : PyData := .list (F.map fun c => .str ⟨#[c]⟩)
theorem dp_sg {K : PySem.W.Frag} {H : Hp} : ∀ F : List Nat, DpAll K H (F.map fun c => V.str ⟨#[c]⟩) (F.map fun c => PyData.str ⟨#[c]⟩)
  | [] => .nil
  | c :: F => .cons (.str _) (dp_sg F)
theorem sg_lay : ∀ F : List Nat, (∀ c ∈ F, c < 0x110000) → PyData.canLayAll0 (F.map fun c => PyData.str ⟨#[c]⟩) = true ∧ PyData.depthAll (F.map fun c => PyData.str ⟨#[c]⟩) ≤ 1
  | [], _ => ⟨rfl, Nat.zero_le _⟩
  | c :: F, h => by
    have a := sg_lay F fun x hx => h x (List.mem_cons_of_mem _ hx)
    have b : PyData.canLay0 (.str ⟨#[c]⟩) = true := by
      show (#[c] : Array Nat).all (· < 0x110000) = true
      rw [← Array.all_toList]
      show ([c].all fun x => decide (x < 0x110000)) = true
      rw [List.all_cons, decide_eq_true (h c List.mem_cons_self)]
      rfl
    refine ⟨?_, ?_⟩
    · show (PyData.canLay0 (.str ⟨#[c]⟩) && PyData.canLayAll0 (F.map fun c => PyData.str ⟨#[c]⟩)) = true
      rw [b, a.1]
      rfl
    · show max (PyData.depth (.str ⟨#[c]⟩)) (PyData.depthAll (F.map fun c => PyData.str ⟨#[c]⟩)) ≤ 1
      refine Nat.max_le.mpr ⟨?_, a.2⟩
      simp [PyData.depth]
theorem sg_shaped {F : List Nat} (h : ∀ c ∈ F, c < 0x110000) : SeqAt.shaped (sgD F) = true := by
  obtain ⟨a, b⟩ := sg_lay F h
  show (PyData.canLay0 (.list (F.map fun c => PyData.str ⟨#[c]⟩)) && decide (PyData.depth (.list (F.map fun c => PyData.str ⟨#[c]⟩)) ≤ 64)) = true
  rw [Bool.and_eq_true]
  refine ⟨by simpa [PyData.canLay0] using a, decide_eq_true ?_⟩
  simp only [PyData.depth]
  omega
theorem sg_eqv (F : List Nat) : PyData.eqv (sgD F) (.list []) = decide (F = []) := by
  cases F <;> rfl
theorem lay_tl {z : Str} (h : PyData.canLay0 (.str z) = true) : ∀ c ∈ tl z, c < 0x110000 := by
  have h' : z.cps.all (· < 0x110000) = true := h
  rw [← Array.all_toList, List.all_eq_true] at h'
  exact fun c hc => of_decide_eq_true (h' c hc)
theorem sub_lay {z : Str} (h : PyData.canLay0 (.str z) = true) {p : Nat → Bool} {L : List Nat} (hl : ∀ c ∈ L, c ∈ tl z) : ∀ c ∈ L.filter p, c < 0x110000 := fun c hc => lay_tl h c (hl c (List.mem_filter.mp hc).1)
theorem none_out (L A : List Nat) : decide ((L.filter fun c => !decide (c ∈ A)) = []) = L.all fun c => decide (c ∈ A) := by
  rw [Bool.eq_iff_iff, decide_eq_true_iff, List.filter_eq_nil_iff, List.all_eq_true]
  constructor
  · intro h c hc
    have := h c hc
    simpa using this
  · intro h c hc
    have := h c hc
    simpa using this
def spWhole1 : Sp := fun vs H Q _ => ∃ (i a b : Int), vs = [.int i, .int a, .int b] ∧ Q (.bl (decide (a ≤ i) && decide (i ≤ b))) H
def spLName : Sp := fun vs H Q _ => ∃ n : Str, vs = [.str n] ∧ n.length ≤ 10000 ∧ PyData.canLay0 (.str n) = true ∧ ∀ H', Same H H' → Q (.bl (nameB n)) H'
def spLSide : Sp := fun vs H Q _ => ∃ (p : Addr) (o s : Int) (m : Str), vs = [.ref p] ∧ H p = some (sideV o s m) ∧ ∀ H', Same H H' → Q (.bl (sideB o s m)) H'
section
variable {P : Program} {w : World} {K : PySem.W.Frag} {mg : Str → Option Value} {base : Heap} {aN f1 f2 f3 f4 f5 : Addr} {d1 d2 d3 d4 d5 : FuncData}
theorem ok_L_whole {f : Addr} {fd : FuncData} (F : Fun K "_law_is_whole" "_law_is_whole" s_L_is_whole f fd) (T : LwT mg) : FnOk P w K mg base CX0 1 f fd ["_law_value", "_law_least", "_law_most"] spWhole1 := by
  refine F.ok sc_L_is_whole (fun vs H Q E h => ?_) (fun cdv A outer s H vs Q E hr h => ?_)
  · obtain ⟨i, a, b, rfl, _⟩ := h
    rfl
  · obtain ⟨i, a, b, rfl, q⟩ := h
    have nd := sc_L_is_whole.nd
    refine ⟨_, (pss_cons (ps_if (PW.pt (pw_or (pt_val (pe_callB call_isi (by rfl) T.isi (by decide +kernel) (pa_cons (pv 0) (pa_cons (pe_bltn (v := .ty "bool") (by rfl) T.bool (by decide +kernel) rfl) pa_nil)))) (pw_or1 (pt_not (pt_val (pe_callB call_isi (by rfl) T.isi (by decide +kernel) (pa_cons (pv 0) (pa_cons (pe_bltn (v := .ty "int") (by rfl) T.int (by decide +kernel) rfl) pa_nil)))))))) (pss_one (ps_ret pe_bl)) pss_nil)
      (pss_one (ps_ret (pe_and (pe_cmpR op_le (pv 1) (pv 0) (nomark _)) (pe_one (pe_cmpR op_le (pv 0) (pv 2) (nomark _))))))), ?_⟩
    walk_at "rd"
    refine ⟨_, _, _, _, _, rfl, .ty "bool", .base (.int i), kit_ty (r := false) (by decide +kernel), ?_⟩
    walk_at "rd"
    refine ⟨_, _, _, _, _, rfl, .ty "int", .base (.int i), kit_ty (r := true) (by decide +kernel), ?_⟩
    walk_at "rd"
    by_cases h1 : a ≤ i
    · rw [decide_eq_true h1, Bool.true_and] at q
      refine ite2 (fun _ => ?_) (fun z => absurd (decide_eq_true h1) z)
      walk_at "rd"
      exact q
    · rw [decide_eq_false h1, Bool.false_and] at q
      refine ite2 (fun z => absurd (of_decide_eq_true z) h1) (fun _ => ?_)
      have z : (V.bl (decide (a ≤ i))) = V.bl false := by rw [decide_eq_false h1]
      rw [← z] at q
      first | exact q | (rw [z] at q; exact q)
theorem ok_L_name {f : Addr} {fd : FuncData} (F : Fun K "_law_is_name" "_law_is_name" s_L_is_name f fd) (T : LwT mg) : FnOk P w K mg base CX0 1 f fd ["_law_value"] spLName := by
  refine F.ok sc_L_is_name (fun vs H Q E h => ?_) (fun cdv A outer s H vs Q E hr h => ?_)
  · obtain ⟨n, rfl, _⟩ := h
    rfl
  · obtain ⟨n, rfl, nl, ly, q⟩ := h
    have nd := sc_L_is_name.nd
    refine ⟨_, (pss_cons (ps_if (PW.pt (pw_or (pt_not (pt_val (pe_callB call_isi (by rfl) T.isi (by decide +kernel) (pa_cons (pv 0) (pa_cons (pe_bltn (v := .ty "str") (by rfl) T.str (by decide +kernel) rfl) pa_nil))))) (pw_or (pt_cmpR op_lt (pe_callB call_len_str (by rfl) T.len PySem.boot_len (pa_cons (pv 0) pa_nil)) pe_int (nomark _)) (pw_or1 (pt_cmpR op_gt (pe_callB call_len_str (by rfl) T.len PySem.boot_len (pa_cons (pv 0) pa_nil)) pe_int (nomark _)))))) (pss_one (ps_ret pe_bl)) pss_nil)
      (pss_cons (ps_if (pt_cmpR op_in_seq (pv 0) (pe_lst (pa_cons pe_str (pa_cons pe_str (pa_cons pe_str (pa_cons pe_str (pa_cons pe_str (pa_cons pe_str (pa_cons pe_str (pa_cons pe_str pa_nil))))))))) (by rfl)) (pss_one (ps_ret pe_bl)) pss_nil)
      (pss_one (ps_ret (pe_cmpR (op_eqD hr.units) (pe_lc (own := [("_law_letter", 1)]) (g := gName 1) rfl nd (pi_str (pv 0)) (blkOk_by (N := ["_law_value", "_law_letter"]) (sc := defScope s_L_is_name) (by decide +kernel)) (fun _ _ _ _ _ => pg_name (i := 1) nd rfl (Or.inl rfl)) (fun _ _ _ _ _ => (pts_one (pt_cmpR op_notIn_sign (pv 1) pe_str (by rfl)))) (fun _ _ _ _ _ => (pv 1))) (pe_lst pa_nil) (nomark _)))))), ?_⟩
    unfold nameB at q
    walk_at "rd"
    refine ⟨_, _, _, _, _, rfl, .ty "str", .base (.str n), kit_ty (r := true) (by decide +kernel), ?_⟩
    walk_at "rd"
    refine ⟨Nat.le_trans nl (by decide), ?_⟩
    walk_at "rd"
    refine ite2 (fun h1 => ?_) (fun h1 => ?_)
    · have f1 : ¬ 1 ≤ n.length := by have := of_decide_eq_true h1; omega
      rw [decide_eq_false f1, Bool.false_and, Bool.false_and] at q
      walk_at "rd"
      exact q H (Same.refl H)
    have f1 : 1 ≤ n.length := by
      have : ¬ ((n.length : Int) < 1) := fun x => h1 (decide_eq_true x)
      omega
    rw [decide_eq_true f1, Bool.true_and] at q
    walk_at "rd"
    refine ⟨Nat.le_trans nl (by decide), ?_⟩
    walk_at "rd"
    refine ite2 (fun h2 => ?_) (fun h2 => ?_)
    · have f2 : ¬ n.length ≤ 8 := by have := of_decide_eq_true h2; omega
      rw [decide_eq_false f2, Bool.false_and] at q
      walk_at "rd"
      exact q H (Same.refl H)
    have f2 : n.length ≤ 8 := by
      have : ¬ ((8 : Int) < (n.length : Int)) := fun x => h2 (decide_eq_true x)
      omega
    rw [decide_eq_true f2, Bool.true_and] at q
    walk_at "rd"
    refine ⟨(by show 8 ≤ sizeLine; decide), fun l1 nl1 => ?_⟩
    generalize e1 : upd H l1 _ = H1
    have g1 : H1 l1 = some (.lst noN) := by rw [← e1]; exact upd_same
    have s1 : Same H H1 := by rw [← e1]; exact fun b u z => (upd_ne (ne_of_none z nl1)).trans z
    clear e1
    refine ⟨l1, _, rfl, .inl (SqL.of g1), rfl, by decide, ?_⟩
    walk_at "rd"
    refine ite2 (fun h3 => ?_) (fun h3 => ?_)
    · have h3' : inV (.str n) noN = true := h3
      rw [h3', Bool.not_true, Bool.false_and] at q
      walk_at "rd"
      exact q H1 s1
    have h3' : inV (.str n) noN = false := by
      cases hh : inV (.str n) noN with
      | false => rfl
      | true => exact absurd hh h3
    rw [h3', Bool.not_false, Bool.true_and] at q
    walk_at "rd"
    refine fun D nD => ?_
    refine lc_it (walk_str (z := n)) (fun j Hj => Hj D = some (.lst ((((tl n).take j).filter fun c => !decide (c ∈ (lettS : Str).cps.toList)).map fun c => V.str ⟨#[c]⟩)) ∧ Same H1 Hj) ⟨upd_same, fun b u y => (upd_ne (ne_of_none y nD)).trans y⟩ (fun _ _ _ _ => trivial) ?_ ?_
    · rintro j y Hj Hk hj ⟨hj1, sj⟩ ⟨rfl, c, ec, rfl⟩
      have ec' : (tl n)[j]? = some c := by show (n).cps.toList[j]? = _; rw [Array.getElem?_toList]; exact ec
      refine ⟨rfl, ?_⟩
      walk_at "rd"
      refine ite2 (fun b => ?_) (fun b => ?_)
      · walk_at "rd"
        refine ⟨_, hj1, ?_, ?_, fun b u y => (upd_ne (ne_of_none y nD)).trans (sj _ _ y)⟩
        · rw [List.length_map]
          refine Nat.lt_of_le_of_lt (List.length_filter_le _ _) ?_
          rw [List.length_take, ← len_tl]
          exact Nat.lt_of_le_of_lt (by omega : _ ≤ 10000) (by decide)
        · rw [List.take_succ, ec', List.filter_append, List.map_append, show (some c).toList.filter (fun c => !decide (c ∈ (lettS : Str).cps.toList)) = [c] from by rw [show (some c).toList = [c] from rfl, List.filter_cons, if_pos (show (!decide (c ∈ (lettS : Str).cps.toList)) = true from b)]; rfl]
          exact upd_same
      · refine ⟨?_, sj⟩
        rw [List.take_succ, ec', List.filter_append, show (some c).toList.filter (fun c => !decide (c ∈ (lettS : Str).cps.toList)) = [] from by rw [show (some c).toList = [c] from rfl, List.filter_cons, if_neg (show ¬ (!decide (c ∈ (lettS : Str).cps.toList)) = true from b)]; rfl, List.append_nil]
        exact hj1
    rintro H3 ⟨hD, sD⟩
    rw [show (tl n).take (n).cps.size = tl n from List.take_of_length_le (by show (tl n).length ≤ (n).length; rw [← len_tl]; exact Nat.le_refl _)] at hD
    walk_at "rd"
    refine ⟨(by show 0 ≤ sizeLine; decide), fun l2 nl2 => ?_⟩
    generalize e4 : upd H3 l2 _ = H4
    have g4 : H4 l2 = some (.lst []) := by rw [← e4]; exact upd_same
    have s4 : Same H3 H4 := by rw [← e4]; exact fun b u z => (upd_ne (ne_of_none z nl2)).trans z
    clear e4
    refine ⟨_, _, .lst (SqL.of (s4 _ _ hD)) (dp_sg _), .lst (SqL.of g4) .nil, sg_shaped (sub_lay ly fun c hc => hc), by decide +kernel, ?_⟩
    have ev := sg_eqv ((tl n).filter fun c => !decide (c ∈ (lettS : Str).cps.toList))
    unfold sgD at ev
    rw [ev, none_out]
    exact q H4 (s1.trans (sD.trans s4))
theorem ok_L_side_x {f : Addr} {fd : FuncData} (F : Fun K "_law_is_side" "_law_is_side" s_L_is_side f fd) (T : LwT mg) (Wh : Cal P w K mg base "_law_is_whole" 1 ["_law_value", "_law_least", "_law_most"] spWhole1 f1 d1) : FnOk P w K mg base CX0 2 f fd ["_law_value"] spLSide := by
  refine F.ok sc_L_is_side (fun vs H Q E h => ?_) (fun cdv A outer s0 H vs Q E hr h => ?_)
  · obtain ⟨p, o, s, m, rfl, _⟩ := h
    rfl
  · obtain ⟨p, o, s, m, rfl, hp, q⟩ := h
    have nd := sc_L_is_side.nd
    refine ⟨_, (pss_cons (ps_if (PW.pt (pw_or (pt_not (pt_val (pe_callB call_isi (by rfl) T.isi (by decide +kernel) (pa_cons (pv 0) (pa_cons (pe_bltn (v := .ty "tuple") (by rfl) T.tuple (by decide +kernel) rfl) pa_nil))))) (pw_or (pt_cmpR op_ne (pe_callB call_len_seq (by rfl) T.len PySem.boot_len (pa_cons (pv 0) pa_nil)) pe_int (nomark _)) (pw_or1 (pt_not (pt_val (pe_callB call_isi (by rfl) T.isi (by decide +kernel) (pa_cons (pe_ix ix_tup (pv 0) pe_int (fun _ _ => rfl)) (pa_cons (pe_bltn (v := .ty "str") (by rfl) T.str (by decide +kernel) rfl) pa_nil))))))))) (pss_one (ps_ret pe_bl)) pss_nil)
      (pss_cons (ps_if (pt_cmpR op_notIn_seq (pe_ix ix_tup (pv 0) pe_int (fun _ _ => rfl)) (pe_lst (pa_cons pe_str (pa_cons pe_str (pa_cons pe_str (pa_cons pe_str (pa_cons pe_str pa_nil)))))) (by rfl)) (pss_one (ps_ret pe_bl)) pss_nil)
      (pss_one (ps_ret (pe_and (pcl Wh hr (by decide) (by rfl) (pa_cons (pe_ix ix_tup (pv 0) pe_int (fun _ _ => rfl)) (pa_cons (pe_op op_sub pe_int (pe_op op_pow pe_int pe_int)) (pa_cons (pe_op op_pow pe_int pe_int) pa_nil)))) (pe_one (pcl Wh hr (by decide) (by rfl) (pa_cons (pe_ix ix_tup (pv 0) pe_int (fun _ _ => rfl)) (pa_cons pe_int (pa_cons (pe_op op_pow pe_int pe_int) pa_nil)))))))))), ?_⟩
    unfold sideB at q
    walk_at "rd"
    refine ⟨_, _, _, _, _, rfl, .ty "tuple", .base (.tup hp), kit_ty (r := true) (by decide +kernel), ?_⟩
    walk_at "rd"
    refine ⟨p, _, rfl, .inr (SqT.of hp), ?_⟩
    walk_at "rd"
    refine ⟨rfl, _, rfl, ?_⟩
    refine ite2 (fun z => absurd z (show ¬ (!decide (V.int 3 = V.int 3)) = true from by decide +kernel)) (fun _ => ?_)
    walk_at "rd"
    refine ⟨p, _, _, _, rfl, rfl, SqT.of hp, at_nat (k := 2) rfl, ?_⟩
    walk_at "rd"
    refine ⟨_, _, _, _, _, rfl, .ty "str", .base (.str m), kit_ty (r := true) (by decide +kernel), ?_⟩
    walk_at "rd"
    refine ⟨p, _, _, _, rfl, rfl, SqT.of hp, at_nat (k := 2) rfl, ?_⟩
    walk_at "rd"
    refine ⟨(by show 5 ≤ sizeLine; decide), fun l1 nl1 => ?_⟩
    generalize e1 : upd H l1 _ = H1
    have g1 : H1 l1 = some (.lst modesV) := by rw [← e1]; exact upd_same
    have s1 : Same H H1 := by rw [← e1]; exact fun b u z => (upd_ne (ne_of_none z nl1)).trans z
    clear e1
    refine ⟨l1, _, rfl, .inl (SqL.of g1), rfl, by decide, ?_⟩
    walk_at "rd"
    refine ite2 (fun h3 => ?_) (fun h3 => ?_)
    · have h3' : inV (.str m) modesV = false := not_t' h3
      rw [h3', Bool.and_false, Bool.and_false] at q
      walk_at "rd"
      exact q H1 s1
    have h3' : inV (.str m) modesV = true := not_f h3
    rw [h3', Bool.and_true] at q
    walk_at "rd"
    refine ⟨p, _, _, _, rfl, rfl, SqT.of (s1 _ _ hp), at_nat (k := 0) rfl, ?_⟩
    walk_at "rd"
    refine ⟨⟨by decide, by decide, by decide⟩, ?_⟩
    walk_at "rd"
    refine ⟨⟨by decide, by decide, by decide⟩, ?_⟩
    refine ⟨o, _, _, rfl, ?_⟩
    refine ⟨_, rfl, ?_⟩
    have z0 : (0 : Int) - (10 : Int) ^ (40 : Int).toNat = -(10 : Int) ^ (40 : Int).toNat := by omega
    have e0 : (decide ((0 : Int) - (10 : Int) ^ (40 : Int).toNat ≤ o) && decide (o ≤ (10 : Int) ^ (40 : Int).toNat)) = (decide (-(10 : Int) ^ (40 : Int).toNat ≤ o) && decide (o ≤ (10 : Int) ^ (40 : Int).toNat)) := by rw [z0]
    refine ite2 (fun h => ?_) (fun h => ?_)
    · have h' := e0.symm.trans h
      rw [h', Bool.true_and] at q
      walk_at "rd"
      refine ⟨p, _, _, _, rfl, rfl, SqT.of (s1 _ _ hp), at_nat (k := 1) rfl, ?_⟩
      walk_at "rd"
      refine ⟨⟨by decide, by decide, by decide⟩, ?_⟩
      refine ⟨s, _, _, rfl, ?_⟩
      exact q H1 s1
    · have h' : (decide (-(10 : Int) ^ (40 : Int).toNat ≤ o) && decide (o ≤ (10 : Int) ^ (40 : Int).toNat)) = false := by
        cases hh : (decide (-(10 : Int) ^ (40 : Int).toNat ≤ o) && decide (o ≤ (10 : Int) ^ (40 : Int).toNat)) with
        | false => rfl
        | true => exact absurd (e0.trans hh) h
      rw [h', Bool.false_and] at q
      exact q H1 s1
end
end HT
namespace HT
open PySem L2 TL PySem.NumText
def spd (L : List Nat) : List (List Nat) := spl [46] 0 [] L
theorem spd_cases (L : List Nat) : (46 ∉ L ∧ spd L = [L]) ∨ ∃ a b, L = a ++ 46 :: b ∧ 46 ∉ a ∧ spd L = a :: spd b := by
  by_cases h : 46 ∈ L
  · obtain ⟨a, b, e, n⟩ := List.eq_append_cons_of_mem h
    refine .inr ⟨a, b, e, n, ?_⟩
    unfold spd
    rw [e]
    exact spl_part1 (s := 46) (S := []) (p := a) (rest := b) (acc := []) n
  · exact .inl ⟨h, spl_last1 (s := 46) (S := []) (p := L) (acc := []) h⟩
theorem spd_pos (L : List Nat) : 0 < (spd L).length := by
  rcases spd_cases L with ⟨_, e⟩ | ⟨a, b, _, _, e⟩ <;> rw [e] <;> simp
structure LawT (z : Str) (pl : Nat) : Prop where
  t1 : (spd (digsOf z)).length = 1 + (if 0 < pl then 1 else 0)
  t2 : [] ∉ spd (digsOf z)
  t3 : 0 < pl → ((spd (digsOf z)).getD 1 []).length = pl
  t4 : ∀ c ∈ digsOf z, (48 ≤ c ∧ c ≤ 57) ∨ c = 46
  t5 : ¬ (((spd (digsOf z)).getD 0 []).head? = some 48 ∧ 1 < ((spd (digsOf z)).getD 0 []).length)
  t6 : ¬ (tl z).head? = some 45 ∨ ∃ c ∈ digsOf z, c ≠ 48 ∧ c ≠ 46
theorem dg_no46 {W : List Nat} (h : AllDigits W) : 46 ∉ W := fun x => by have := h 46 x; omega
theorem isT_digs {z : Str} {pl : Nat} {mk W D : List Nat} (T : IsT z pl mk W D) : digsOf z = W ++ fracL D ∧ ((tl z).head? = some 45 ↔ mk = [45]) := by
  obtain ⟨c, hc, hc2⟩ := head_W T.wn (fracL D)
  have c1 : 48 ≤ c := by
    cases h : W with
    | nil => exact absurd h T.wn
    | cons d W' => rw [h] at hc; injection hc with hc; rw [← hc]; exact (T.wd d (by rw [h]; exact List.mem_cons_self)).1
  rcases T.sg with g | g
  · have e := T.eq
    rw [g, List.nil_append] at e
    have hh : ¬ (tl z).head? = some 45 := by rw [e, hc2]; intro x; injection x with x; omega
    unfold digsOf
    rw [if_neg hh, e]
    exact ⟨rfl, fun x => absurd (e ▸ x) (e ▸ hh), fun x => by rw [g] at x; cases x⟩
  · have e := T.eq
    rw [g] at e
    have hh : (tl z).head? = some 45 := by rw [e]; rfl
    unfold digsOf
    rw [if_pos hh, e]
    exact ⟨rfl, fun _ => g, fun _ => rfl⟩
theorem spd_frac {W D : List Nat} (wd : AllDigits W) (dd : AllDigits D) : spd (W ++ fracL D) = if D.length = 0 then [W] else [W, D] := by
  cases D with
  | nil =>
    rw [if_pos (show ([] : List Nat).length = 0 from rfl)]
    show spd (W ++ []) = _
    rw [List.append_nil]
    rcases spd_cases W with ⟨_, e⟩ | ⟨a, b, e, _, _⟩
    · exact e
    · exact absurd (by rw [e]; simp) (dg_no46 wd)
  | cons d D =>
    rw [if_neg (by simp)]
    have e1 : spd (W ++ (46 :: d :: D)) = W :: spd (d :: D) := spl_part1 (s := 46) (S := []) (p := W) (rest := d :: D) (acc := []) (dg_no46 wd)
    have e2 : spd (d :: D) = [d :: D] := spl_last1 (s := 46) (S := []) (p := d :: D) (acc := []) (dg_no46 dd)
    show spd (W ++ (46 :: d :: D)) = _
    rw [e1, e2]
theorem isT_law {z : Str} {pl : Nat} {mk W D : List Nat} (T : IsT z pl mk W D) : LawT z pl := by
  obtain ⟨dz, hm⟩ := isT_digs T
  have sp := spd_frac T.wd T.dd
  rw [← dz, T.dl] at sp
  have dne : ¬ pl = 0 → D ≠ [] := fun h e => h (by rw [← T.dl, e]; rfl)
  refine ⟨?_, ?_, fun p => ?_, ?_, ?_, ?_⟩
  · rw [sp]
    by_cases g : pl = 0
    · rw [if_pos g, if_neg (by omega)]; rfl
    · rw [if_neg g, if_pos (by omega)]; rfl
  · rw [sp]
    by_cases g : pl = 0
    · rw [if_pos g]
      intro h
      rcases List.mem_singleton.mp h with h
      exact T.wn h.symm
    · rw [if_neg g]
      intro h
      simp only [List.mem_cons, List.not_mem_nil, or_false] at h
      rcases h with h | h
      · exact T.wn h.symm
      · exact dne g h.symm
  · rw [sp, if_neg (by omega)]
    exact T.dl
  · rw [dz]
    intro c hc
    rcases List.mem_append.mp hc with hc | hc
    · exact .inl (T.wd c hc)
    · cases hD : D with
      | nil => rw [hD] at hc; cases hc
      | cons d D' =>
        rw [hD] at hc
        rcases List.mem_cons.mp hc with hc | hc
        · exact .inr hc
        · exact .inl (T.dd c (by rw [hD]; exact hc))
  · have g0 : (spd (digsOf z)).getD 0 [] = W := by
      rw [sp]
      split <;> rfl
    rw [g0]
    rintro ⟨a, b⟩
    rcases T.lead with l | l
    · rw [l] at b
      exact absurd b (by decide)
    · exact l a
  · by_cases g : mk = [45]
    · right
      obtain ⟨c, hc, n⟩ := T.neg g
      refine ⟨c, ?_, n, ?_⟩
      · rw [dz]
        rcases List.mem_append.mp hc with hc | hc
        · exact List.mem_append_left _ hc
        · refine List.mem_append_right _ ?_
          cases hD : D with
          | nil => rw [hD] at hc; cases hc
          | cons d D' => rw [hD] at hc; exact List.mem_cons_of_mem _ hc
      · intro x
        have := isT_val T c hc
        omega
    · exact .inl fun x => g (hm.mp x)
theorem law_isT {z : Str} {pl : Nat} (L : LawT z pl) : ∃ mk W D, IsT z pl mk W D := by
  obtain ⟨t1, t2, t3, t4, t5, t6⟩ := L
  obtain ⟨mk, em, sm⟩ : ∃ mk, tl z = mk ++ digsOf z ∧ ((mk = [] ∧ ¬ (tl z).head? = some 45) ∨ (mk = [45] ∧ (tl z).head? = some 45)) := by
    unfold digsOf
    by_cases g : (tl z).head? = some 45
    · rw [if_pos g]
      refine ⟨[45], ?_, .inr ⟨rfl, g⟩⟩
      cases e : tl z with
      | nil => rw [e] at g; cases g
      | cons c r => rw [e] at g; injection g with g; rw [g]; rfl
    · rw [if_neg g]
      exact ⟨[], rfl, .inl ⟨rfl, g⟩⟩
  have fin : ∀ W D : List Nat, digsOf z = W ++ fracL D → AllDigits W → W ≠ [] → AllDigits D → D.length = pl → (spd (digsOf z)).getD 0 [] = W → ∃ mk W D, IsT z pl mk W D := by
    intro W D e wd wn dd dl g0
    rw [g0] at t5
    refine ⟨mk, W, D, ⟨by rw [em, e], sm.imp (fun x => x.1) (fun x => x.1), wd, wn, ?_, dd, dl, fun m => ?_⟩⟩
    · by_cases g : W.head? = some 48
      · left
        have : ¬ 1 < W.length := fun x => t5 ⟨g, x⟩
        cases h : W with
        | nil => exact absurd h wn
        | cons c r =>
          rw [h] at g this
          injection g with g
          cases r with
          | nil => rw [g]
          | cons d r => simp at this
      · exact .inr g
    · have hh : (tl z).head? = some 45 := by
        rcases sm with ⟨a, _⟩ | ⟨_, b⟩
        · rw [a] at m; cases m
        · exact b
      rcases t6 with t6 | ⟨c, hc, n1, n2⟩
      · exact absurd hh t6
      · refine ⟨c, ?_, n1⟩
        rw [e] at hc
        rcases List.mem_append.mp hc with hc | hc
        · exact List.mem_append_left _ hc
        · cases hD : D with
          | nil => rw [hD] at hc; cases hc
          | cons d D' =>
            rw [hD] at hc
            rcases List.mem_cons.mp hc with hc | hc
            · exact absurd hc n2
            · exact List.mem_append_right _ hc
  rcases spd_cases (digsOf z) with ⟨no, e⟩ | ⟨a, b, ez, na, e⟩
  · rw [e] at t1 t2
    have p0 : ¬ 0 < pl := fun p => by rw [if_pos p] at t1; simp at t1
    have ad : AllDigits (digsOf z) := fun c hc => by
      rcases t4 c hc with h | h
      · exact h
      · rw [h] at hc; exact absurd hc no
    refine fin (digsOf z) [] (List.append_nil _).symm ad (fun h => t2 (by rw [h]; exact List.mem_singleton.mpr rfl)) (fun c hc => by cases hc) (by show 0 = pl; omega) (by rw [e]; rfl)
  · rw [e] at t1 t2
    have p0 : 0 < pl := by
      by_cases p : 0 < pl
      · exact p
      · rw [if_neg p] at t1
        have := spd_pos b
        rw [List.length_cons] at t1
        omega
    rw [if_pos p0, List.length_cons] at t1
    rcases spd_cases b with ⟨nb, eb⟩ | ⟨a2, b2, _, _, eb⟩
    · have ada : AllDigits a := fun c hc => by
        rcases t4 c (by rw [ez]; exact List.mem_append_left _ hc) with h | h
        · exact h
        · rw [h] at hc; exact absurd hc na
      have adb : AllDigits b := fun c hc => by
        rcases t4 c (by rw [ez]; exact List.mem_append_right _ (List.mem_cons_of_mem _ hc)) with h | h
        · exact h
        · rw [h] at hc; exact absurd hc nb
      have bl := t3 p0
      rw [e, eb] at bl
      have bl' : b.length = pl := bl
      have fb : fracL b = 46 :: b := by
        cases b with
        | nil => exact absurd bl' (by show ¬ 0 = pl; omega)
        | cons c r => rfl
      exact fin a b (by rw [ez, fb]) ada (fun h => t2 (by rw [h]; exact List.mem_cons_self)) adb bl' (by rw [e]; rfl)
    · rw [eb, List.length_cons] at t1
      have := spd_pos b2
      omega
theorem law_fits {z : Str} {pl : Nat} (p60 : pl ≤ 60) (zl : z.length ≤ 510) : fitsM z pl = true ↔ LawT z pl := (fits_iff p60 zl).trans ⟨fun ⟨_, _, _, T⟩ => isT_law T, law_isT⟩
theorem fits_f {z : Str} {pl : Nat} (p60 : pl ≤ 60) (zl : z.length ≤ 510) (n : ¬ LawT z pl) : fitsM z pl = false := by
  cases h : fitsM z pl with
  | false => rfl
  | true => exact absurd ((law_fits p60 zl).mp h) n
end HT
namespace HT
open PySem L2 TL PySem.NumText
theorem spd_mem : ∀ (n : Nat) (L : List Nat), L.length = n → ∀ p ∈ spd L, p.length ≤ n ∧ ∀ c ∈ p, c ∈ L := by
  intro n
  induction n using Nat.strongRecOn with
  | ind n ih =>
    intro L hL p hp
    rcases spd_cases L with ⟨_, e⟩ | ⟨a, b, e, _, e2⟩
    · rw [e] at hp
      rw [List.mem_singleton.mp hp]
      exact ⟨by omega, fun c hc => hc⟩
    · rw [e2] at hp
      have ln : L.length = a.length + b.length + 1 := by rw [e]; simp; omega
      rcases List.mem_cons.mp hp with hp | hp
      · rw [hp]
        exact ⟨by omega, fun c hc => by rw [e]; exact List.mem_append_left _ hc⟩
      · obtain ⟨x, y⟩ := ih b.length (by omega) b rfl p hp
        exact ⟨by omega, fun c hc => by rw [e]; exact List.mem_append_right _ (List.mem_cons_of_mem _ (y c hc))⟩
theorem inV_iff {a : Str} {ns : List Str} : inV (.str a) (ns.map V.str) = decide (a ∈ ns) := by
  cases h : inV (.str a) (ns.map V.str) with
  | true => rw [decide_eq_true (inV_mem h)]
  | false =>
    have : ¬ a ∈ ns := fun m => by
      have : inV (.str a) (ns.map V.str) = true := by
        unfold inV
        rw [List.any_eq_true]
        exact ⟨.str a, List.mem_map_of_mem m, by simp [eqV]⟩
      rw [h] at this
      cases this
    rw [decide_eq_false this]
theorem flat_strs (ns : List Str) : (ns.map V.str).all flatV = true := by
  rw [List.all_map, List.all_eq_true]
  intro x _
  rfl
theorem split_dot (r : Str) : (Txt.split r (Str.ofString ".")).map tl = spd (tl r) := by
  have e := split_spl r ("." : Str) (by decide +kernel) (kind_ok (by decide +kernel))
  rw [tl_dot] at e
  exact e
abbrev dsS : Str := Str.ofString "0123456789."
abbrev dzS : Str := Str.ofString "0."
theorem digs_lay {z : Str} (h : PyData.canLay0 (.str z) = true) : ∀ c ∈ digsOf z, c < 0x110000 := fun c hc => lay_tl h c (by
  unfold digsOf at hc
  split at hc
  · exact List.mem_of_mem_tail hc
  · exact hc)
theorem sub_lay0 {p : Nat → Bool} {L : List Nat} (h : ∀ c ∈ L, c < 0x110000) : ∀ c ∈ L.filter p, c < 0x110000 := fun c hc => h c (List.mem_filter.mp hc).1
def spIsTxL : Sp := fun vs H Q _ => ∃ (z : Str) (pl : Nat), vs = [.str z, .int (pl : Int)] ∧ pl ≤ 60 ∧ z.length ≤ 510 ∧ PyData.canLay0 (.str z) = true ∧ ∀ H', Same H H' → Q (.bl (fitsM z pl)) H'
section
variable {P : Program} {w : World} {K : PySem.W.Frag} {mg : Str → Option Value} {base : Heap} {aN f1 f2 f3 f4 f5 : Addr} {d1 d2 d3 d4 d5 : FuncData}
theorem ok_L_is_text {f : Addr} {fd : FuncData} (F : Fun K "_law_is_text" "_law_is_text" s_L_is_text f fd) (T : LwT mg) : FnOk P w K mg base CX0 1 f fd ["_law_value", "_law_places"] spIsTxL := by
  refine F.ok sc_L_is_text (fun vs H Q E h => ?_) (fun cdv A outer s0 H vs Q E hr h => ?_)
  · obtain ⟨z, pl, rfl, _⟩ := h
    rfl
  · obtain ⟨z, pl, rfl, pl60, zl, ly, q⟩ := h
    have nd := sc_L_is_text.nd
    refine ⟨_, (pss_cons (ps_if (PW.pt (pw_or (pt_not (pt_val (pe_callB call_isi (by rfl) T.isi (by decide +kernel) (pa_cons (pv 0) (pa_cons (pe_bltn (v := .ty "str") (by rfl) T.str (by decide +kernel) rfl) pa_nil))))) (pw_or1 (pt_cmpR op_in_seq (pv 0) (pe_lst (pa_cons pe_str (pa_cons pe_str pa_nil))) (by rfl))))) (pss_one (ps_ret pe_bl)) pss_nil)
      (pss_cons (ps_set (i := 2) nd rfl (Or.inl rfl) (pe_slice sl_str (pv 0) (po_some (pe_callTy call_int1 (by rfl) T.int (by decide +kernel) (pa_cons (pe_cmpR op_eq (pe_ix ix_str (pv 0) pe_int (fun _ _ => rfl)) pe_str (nomark _)) pa_nil))) po_none))
      (pss_cons (ps_set (i := 3) nd rfl (Or.inl rfl) (pe_bm PySem.F.plainAttrs_str PySem.F.slot_str_split PySem.F.type_str_split mt_split (pv 2) (pa_cons pe_str pa_nil)))
      (pss_cons (ps_mid (ps_if (PW.pt (pw_or (pt_cmpR op_ne (pe_callB call_len_seq (by rfl) T.len PySem.boot_len (pa_cons (pv 3) pa_nil)) (pe_op op_add pe_int (pe_callTy call_int1 (by rfl) T.int (by decide +kernel) (pa_cons (pe_cmpR op_gt (pv 1) pe_int (nomark _)) pa_nil))) (nomark _)) (pw_or (pt_cmpR op_in_seq pe_str (pv 3) (by rfl)) (pw_or1 (PW.pt (pw_and (pt_cmpR op_gt (pv 1) pe_int (nomark _)) (pw_and1 (pt_cmpR op_ne (pe_callB call_len_str (by rfl) T.len PySem.boot_len (pa_cons (pe_ix ix_list (pv 3) pe_int (fun _ _ => rfl)) pa_nil)) (pv 1) (nomark _))))))))) (pss_one (ps_ret pe_bl)) pss_nil))
      (pss_cons (ps_mid (ps_if (PW.pt (pw_or (pt_cmpR (op_neD hr.units) (pe_lc (own := [("_law_sign", 4)]) (g := gName 4) rfl nd (pi_str (pv 2)) (blkOk_by (N := ["_law_value", "_law_places", "_law_rest", "_law_parts", "_law_sign"]) (sc := defScope s_L_is_text) (by decide +kernel)) (fun _ _ _ _ _ => pg_name (i := 4) nd rfl (Or.inl rfl)) (fun _ _ _ _ _ => (pts_one (pt_cmpR op_notIn_sign (pv 4) pe_str (by rfl)))) (fun _ _ _ _ _ => (pv 4))) (pe_lst pa_nil) (nomark _)) (pw_or1 (PW.pt (pw_and (pt_cmpR op_eq (pe_ix ix_str (pe_ix ix_list (pv 3) pe_int (fun _ _ => rfl)) pe_int (fun _ _ => rfl)) pe_str (nomark _)) (pw_and1 (pt_cmpR op_gt (pe_callB call_len_str (by rfl) T.len PySem.boot_len (pa_cons (pe_ix ix_list (pv 3) pe_int (fun _ _ => rfl)) pa_nil)) pe_int (nomark _)))))))) (pss_one (ps_ret pe_bl)) pss_nil))
      (pss_one (ps_ret (pe_or (pe_cmpR op_eq (pv 0) (pv 2) (nomark _)) (pe_one (pe_cmpR (op_neD hr.units) (pe_lc (own := [("_law_sign", 4)]) (g := gName 4) rfl nd (pi_str (pv 2)) (blkOk_by (N := ["_law_value", "_law_places", "_law_rest", "_law_parts", "_law_sign"]) (sc := defScope s_L_is_text) (by decide +kernel)) (fun _ _ _ _ _ => pg_name (i := 4) nd rfl (Or.inl rfl)) (fun _ _ _ _ _ => (pts_one (pt_cmpR op_notIn_sign (pv 4) pe_str (by rfl)))) (fun _ _ _ _ _ => (pv 4))) (pe_lst pa_nil) (nomark _))))))))))), ?_⟩
    walk_at "rd"
    refine ⟨_, _, _, _, _, rfl, .ty "str", .base (.str z), kit_ty (r := true) (by decide +kernel), ?_⟩
    walk_at "rd"
    refine ⟨(by show 2 ≤ sizeLine; decide), fun l1 nl1 => ?_⟩
    generalize e1 : upd H l1 _ = H1
    have g1 : H1 l1 = some (.lst [.str "", .str "-"]) := by rw [← e1]; exact upd_same
    have s1 : Same H H1 := by rw [← e1]; exact fun b u z => (upd_ne (ne_of_none z nl1)).trans z
    clear e1
    refine ⟨l1, _, rfl, .inl (SqL.of g1), rfl, by decide, ?_⟩
    walk_at "rd"
    have no2 : digsOf z = [] → fitsM z pl = false := fun e => fits_f pl60 zl fun L => L.t2 (by rw [e]; exact List.mem_cons_self)
    refine ite2 (fun h1 => ?_) (fun h1 => ?_)
    · walk_at "rd"
      have no : fitsM z pl = false := by
        refine no2 ?_
        rcases List.mem_cons.mp (inV_mem (ns := ["", "-"]) h1) with e | e
        · rw [e]; decide +kernel
        · rw [List.mem_singleton.mp e]; decide +kernel
      rw [← no]
      exact q H1 s1
    have nz : ¬ z = "" ∧ ¬ z = "-" := ⟨fun e => h1 (by rw [e]; decide +kernel), fun e => h1 (by rw [e]; decide +kernel)⟩
    obtain ⟨c, t, ct⟩ : ∃ c t, tl z = c :: t := by
      cases h : tl z with
      | nil => exact absurd (ext_tl (h.trans (show ([] : List Nat) = tl "" by decide +kernel))) nz.1
      | cons c t => exact ⟨c, t, rfl⟩
    have at1 : atI z.cps.toList 0 = some c := by
      unfold atI
      rw [ixN_in (Int.le_refl 0) (by rw [show z.cps.toList = tl z from rfl, ct]; simp)]
      show z.cps.toList[0]? = some c
      rw [show z.cps.toList = tl z from rfl, ct]
      rfl
    walk_at "rd"
    refine ⟨z, 0, c, rfl, rfl, Nat.le_trans zl (by decide), at1, ?_⟩
    walk_at "rd"
    refine ⟨rfl, ?_⟩
    walk_at "rd"
    refine .inr ⟨_, rfl, ?_⟩
    refine ⟨_, rfl, ?_⟩
    walk_at "rd"
    refine ⟨Nat.le_trans zl (by decide), ?_⟩
    obtain ⟨r, hr0, hrt⟩ : ∃ r, cutS z (some (if decide (V.str ⟨#[c]⟩ = V.str (Str.ofString "-")) = true then 1 else 0)) none = r ∧ tl r = digsOf z := by
      refine ⟨_, rfl, ?_⟩
      have e45 : decide (V.str ⟨#[c]⟩ = V.str (Str.ofString "-")) = decide (c = 45) := by
        rw [dec_str, Bool.eq_iff_iff, decide_eq_true_iff, decide_eq_true_iff]
        exact one_is (show tl (Str.ofString "-") = [45] by decide +kernel)
      rw [e45]
      unfold digsOf
      by_cases g : c = 45
      · rw [decide_eq_true g, if_pos rfl, if_pos (by rw [ct, g]; rfl)]
        have := tl_post z (i := 1) (n := 1) rfl (by rw [ct]; simp)
        rw [this, List.drop_one]
      · rw [decide_eq_false g, if_neg (by decide), if_neg (by rw [ct]; intro x; injection x with x; exact g x)]
        have := tl_post z (i := 0) (n := 0) rfl (Nat.zero_le _)
        rw [this]
        rfl
    rw [hr0]
    walk_at "rd"
    refine ⟨rfl, ?_⟩
    walk_at "rd"
    have rl : r.length ≤ 510 := by
      rw [len_tl, hrt]
      unfold digsOf
      rw [len_tl] at zl
      split
      · rw [List.length_tail]; omega
      · exact zl
    refine ⟨by decide +kernel, Nat.le_trans (by omega : r.length + 2 ≤ 16000002) (by decide), fun L nL => ?_⟩
    have pts := split_dot r
    rw [hrt] at pts
    generalize e2 : upd H1 L _ = H2
    have g2 : H2 L = some (.lst ((Txt.split r (Str.ofString ".")).map V.str)) := by rw [← e2]; exact upd_same
    have s2 : Same H1 H2 := by rw [← e2]; exact fun b u z => (upd_ne (ne_of_none z nL)).trans z
    clear e2
    generalize Txt.split r (Str.ofString ".") = ps at g2 pts
    have plen : ps.length = (spd (digsOf z)).length := by rw [← pts, List.length_map]
    have s12 := s1.trans s2
    have no : ∀ H', Same H2 H' → ¬ LawT z pl → Q (.bl false) H' := fun H' s n => by
      rw [← fits_f pl60 zl n]
      exact q H' (s12.trans s)
    have pl2 : ∀ p ∈ ps, p.length ≤ 510 := fun p hp => by
      have := (spd_mem _ _ rfl (tl p) (by rw [← pts]; exact List.mem_map_of_mem hp)).1
      rw [← len_tl, ← hrt, ← len_tl] at this
      omega
    walk_at "rd"
    refine ⟨fun st H3 => st = [some (.str z), some (.int (pl : Int)), some (.str r), some (.ref L), none] ∧ (spd (digsOf z)).length = 1 + (if 0 < pl then 1 else 0) ∧ [] ∉ spd (digsOf z) ∧ (0 < pl → ((spd (digsOf z)).getD 1 []).length = pl) ∧ Same H2 H3, ?_, ?_⟩
    · walk_at "rd"
      refine ⟨L, _, rfl, .inl (SqL.of g2), ?_⟩
      walk_at "rd"
      refine .inr ⟨_, rfl, ?_⟩
      walk_at "rd"
      refine ⟨rfl, _, rfl, ?_⟩
      rw [List.length_map]
      refine ite2 (fun h1 => ?_) (fun h1 => ?_)
      · walk_at "rd"
        refine no _ (Same.refl _) fun L => ?_
        have t1 := L.t1
        have := of_decide_eq_false (not_t' h1)
        refine this ?_
        rw [plen, t1]
        by_cases p : 0 < pl
        · rw [if_pos p, if_pos (decide_eq_true (by omega))]; rfl
        · rw [if_neg p, if_neg (by rw [decide_eq_false (by omega)]; decide)]; rfl
      have t1 : (spd (digsOf z)).length = 1 + (if 0 < pl then 1 else 0) := by
        have := V.int.inj (of_decide_eq_true (not_f h1))
        rw [← plen]
        by_cases p : 0 < pl
        · rw [if_pos (decide_eq_true (by omega))] at this; rw [if_pos p]; omega
        · rw [if_neg (by rw [decide_eq_false (by omega)]; decide)] at this; rw [if_neg p]; omega
      walk_at "rd"
      refine ⟨L, _, rfl, .inl (SqL.of g2), rfl, flat_strs ps, ?_⟩
      have em : ("" : Str) ∈ ps ↔ [] ∈ spd (digsOf z) := by
        rw [← pts]
        constructor
        · intro h; exact List.mem_map.mpr ⟨_, h, by decide +kernel⟩
        · intro h
          obtain ⟨x, hx, e⟩ := List.mem_map.mp h
          have : x = "" := ext_tl (e.trans (show ([] : List Nat) = tl "" by decide +kernel))
          rw [← this]; exact hx
      have iv : inV (V.str (Str.ofString "")) (ps.map V.str) = decide (("" : Str) ∈ ps) := inV_iff (a := ("" : Str))
      walk_at "rd"
      refine ite2 (fun h2 => ?_) (fun h2 => ?_)
      · walk_at "rd"
        exact no _ (Same.refl _) fun L => L.t2 (em.mp (of_decide_eq_true (iv.symm.trans h2)))
      have t2 : [] ∉ spd (digsOf z) := fun x => h2 (iv.trans (decide_eq_true (em.mpr x)))
      walk_at "rd"
      refine ite2 (fun h3 => ?_) (fun h3 => ?_)
      · have p0 : 0 < pl := by have := of_decide_eq_true h3; omega
        rw [if_pos p0] at t1
        rw [← plen] at t1
        obtain ⟨a, b, rfl⟩ : ∃ a b, ps = [a, b] := by
          match ps, t1 with
          | [a, b], _ => exact ⟨a, b, rfl⟩
        have g1' : (spd (digsOf z)).getD 1 [] = tl b := by rw [← pts]; rfl
        walk_at "rd"
        refine ⟨L, _, _, .str b, rfl, rfl, SqL.of g2, at_nat (k := 1) rfl, ?_⟩
        walk_at "rd"
        refine ⟨Nat.le_trans (pl2 b (by simp)) (by decide), ?_⟩
        walk_at "rd"
        refine ⟨rfl, _, rfl, ?_⟩
        refine ite2 (fun h4 => ?_) (fun h4 => ?_)
        · walk_at "rd"
          refine no _ (Same.refl _) fun L => ?_
          have := L.t3 p0
          rw [g1', ← len_tl] at this
          exact of_decide_eq_false (not_t' h4) (by rw [this])
        · have := V.int.inj (of_decide_eq_true (not_f h4))
          refine ⟨rfl, ?_, t2, fun _ => ?_, Same.refl _⟩
          · rw [if_pos p0, ← plen]; exact t1
          · rw [g1', ← len_tl]; omega
      · refine ⟨rfl, t1, t2, fun p => absurd (decide_eq_true (by omega)) h3, Same.refl _⟩
    rintro st H3 ⟨rfl, t1, t2, t3, s3⟩
    walk_at "rd"
    refine ⟨fun st H5 => st = [some (.str z), some (.int (pl : Int)), some (.str r), some (.ref L), none] ∧ (∀ c ∈ digsOf z, (48 ≤ c ∧ c ≤ 57) ∨ c = 46) ∧ ¬ (((spd (digsOf z)).getD 0 []).head? = some 48 ∧ 1 < ((spd (digsOf z)).getD 0 []).length) ∧ Same H3 H5, ?_, ?_⟩
    · walk_at "rd"
      refine fun D1 nD1 => ?_
      refine lc_it (walk_str (z := r)) (fun j Hj => Hj D1 = some (.lst ((((tl r).take j).filter fun c => !decide (c ∈ (dsS : Str).cps.toList)).map fun c => V.str ⟨#[c]⟩)) ∧ Same H3 Hj) ⟨upd_same, fun b u y => (upd_ne (ne_of_none y nD1)).trans y⟩ (fun _ _ _ _ => trivial) ?_ ?_
      · rintro j y Hj Hk hj ⟨hj1, sj⟩ ⟨rfl, c, ec, rfl⟩
        have ec' : (tl r)[j]? = some c := by show (r).cps.toList[j]? = _; rw [Array.getElem?_toList]; exact ec
        refine ⟨rfl, ?_⟩
        walk_at "rd"
        refine ite2 (fun b => ?_) (fun b => ?_)
        · walk_at "rd"
          refine ⟨_, hj1, ?_, ?_, fun b u y => (upd_ne (ne_of_none y nD1)).trans (sj _ _ y)⟩
          · rw [List.length_map]
            refine Nat.lt_of_le_of_lt (List.length_filter_le _ _) ?_
            rw [List.length_take, ← len_tl]
            exact Nat.lt_of_le_of_lt (by omega : _ ≤ 10000) (by decide)
          · rw [List.take_succ, ec', List.filter_append, List.map_append, show (some c).toList.filter (fun c => !decide (c ∈ (dsS : Str).cps.toList)) = [c] from by rw [show (some c).toList = [c] from rfl, List.filter_cons, if_pos (show (!decide (c ∈ (dsS : Str).cps.toList)) = true from b)]; rfl]
            exact upd_same
        · refine ⟨?_, sj⟩
          rw [List.take_succ, ec', List.filter_append, show (some c).toList.filter (fun c => !decide (c ∈ (dsS : Str).cps.toList)) = [] from by rw [show (some c).toList = [c] from rfl, List.filter_cons, if_neg (show ¬ (!decide (c ∈ (dsS : Str).cps.toList)) = true from b)]; rfl, List.append_nil]
          exact hj1
      rintro H4 ⟨hD1, sD1⟩
      rw [show (tl r).take (r).cps.size = tl r from List.take_of_length_le (by show (tl r).length ≤ (r).length; rw [← len_tl]; exact Nat.le_refl _)] at hD1
      walk_at "rd"
      refine ⟨(by show 0 ≤ sizeLine; decide), fun l2 nl2 => ?_⟩
      generalize e4 : upd H4 l2 _ = H5
      have g4 : H5 l2 = some (.lst []) := by rw [← e4]; exact upd_same
      have s4 : Same H4 H5 := by rw [← e4]; exact fun b u z => (upd_ne (ne_of_none z nl2)).trans z
      clear e4
      refine ⟨_, _, .lst (SqL.of (s4 _ _ hD1)) (dp_sg _), .lst (SqL.of g4) .nil, sg_shaped (sub_lay0 (by rw [hrt]; exact digs_lay ly)), by decide +kernel, ?_⟩
      have ev := sg_eqv ((tl r).filter fun c => !decide (c ∈ (dsS : Str).cps.toList))
      unfold sgD at ev
      rw [ev, none_out]
      walk_at "rd"
      have mem4 : ∀ c : Nat, c ∈ dsS.cps.toList ↔ ((48 ≤ c ∧ c ≤ 57) ∨ c = 46) := fun c => by
        rw [show dsS.cps.toList = [48, 49, 50, 51, 52, 53, 54, 55, 56, 57, 46] by decide +kernel]
        simp only [List.mem_cons, List.not_mem_nil, or_false]
        omega
      have s35 : Same H2 H5 := s3.trans (sD1.trans s4)
      refine ite2 (fun h5 => ?_) (fun h5 => ?_)
      · walk_at "rd"
        refine no _ s35 fun L => ?_
        have n := not_t' h5
        rw [hrt, List.all_eq_false] at n
        obtain ⟨c, hc, nc⟩ := n
        exact nc (decide_eq_true ((mem4 c).mpr (L.t4 c hc)))
      have t4 : ∀ c ∈ digsOf z, (48 ≤ c ∧ c ≤ 57) ∨ c = 46 := fun c hc => by
        have n := not_f h5
        rw [hrt, List.all_eq_true] at n
        exact (mem4 c).mp (of_decide_eq_true (n c hc))
      obtain ⟨a, b, rfl⟩ : ∃ a b, ps = a :: b := by
        cases ps with
        | nil => have := spd_pos (digsOf z); rw [← plen] at this; cases this
        | cons a b => exact ⟨a, b, rfl⟩
      have g0 : (spd (digsOf z)).getD 0 [] = tl a := by rw [← pts]; rfl
      obtain ⟨c0, t0, ct0⟩ : ∃ c t, tl a = c :: t := by
        cases h : tl a with
        | nil => exact absurd (by rw [← pts, List.map_cons, h]; exact List.mem_cons_self) t2
        | cons c t => exact ⟨c, t, rfl⟩
      have at2 : atI a.cps.toList 0 = some c0 := by
        unfold atI
        rw [ixN_in (Int.le_refl 0) (by rw [show a.cps.toList = tl a from rfl, ct0]; simp)]
        show a.cps.toList[0]? = some c0
        rw [show a.cps.toList = tl a from rfl, ct0]
        rfl
      have al := pl2 a List.mem_cons_self
      have g5 : H5 L = some (.lst ((a :: b).map V.str)) := s4 _ _ (sD1 _ _ (s3 _ _ g2))
      walk_at "rd"
      refine ⟨L, _, _, .str a, rfl, rfl, SqL.of g5, at_nat (k := 0) rfl, ?_⟩
      walk_at "rd"
      refine ⟨a, 0, c0, rfl, rfl, Nat.le_trans al (by decide), at2, ?_⟩
      walk_at "rd"
      refine ⟨rfl, _, rfl, ?_⟩
      have e48 : decide (V.str ⟨#[c0]⟩ = V.str (Str.ofString "0")) = decide (c0 = 48) := by
        rw [dec_str, Bool.eq_iff_iff, decide_eq_true_iff, decide_eq_true_iff]
        exact one_is tl_zero
      rw [e48]
      refine ite2 (fun h6 => ?_) (fun h6 => ?_)
      · have e := of_decide_eq_true h6
        walk_at "rd"
        refine ⟨L, _, _, .str a, rfl, rfl, SqL.of g5, at_nat (k := 0) rfl, ?_⟩
        walk_at "rd"
        refine ⟨Nat.le_trans al (by decide), ?_⟩
        walk_at "rd"
        refine ite2 (fun h7 => ?_) (fun h7 => ?_)
        · walk_at "rd"
          refine no _ s35 fun L => L.t5 ?_
          rw [g0, ct0, e]
          refine ⟨rfl, ?_⟩
          have := of_decide_eq_true h7
          rw [len_tl, ct0] at this
          rw [List.length_cons] at this ⊢
          omega
        · refine ⟨rfl, t4, fun x => h7 (decide_eq_true ?_), sD1.trans s4⟩
          have := x.2
          rw [g0, ← len_tl] at this
          omega
      · refine ⟨rfl, t4, fun x => ?_, sD1.trans s4⟩
        have := x.1
        rw [g0, ct0] at this
        injection this with this
        exact h6 (decide_eq_true this)
    rintro st H5 ⟨rfl, t4, t5, s5⟩
    walk_at "rd"
    refine ⟨rfl, _, rfl, ?_⟩
    rw [dec_str]
    have yes : LawT z pl → Q (.bl true) H5 := fun L => by
      rw [← (law_fits pl60 zl).mpr L]
      exact q H5 (s12.trans (s3.trans s5))
    have hm : z = r ↔ ¬ (tl z).head? = some 45 := by
      constructor
      · intro e g
        have : tl z = digsOf z := by rw [← hrt, ← e]
        unfold digsOf at this
        rw [if_pos g, ct] at this
        have := congrArg List.length this
        simp at this
      · intro g
        refine ext_tl ?_
        rw [hrt]
        unfold digsOf
        rw [if_neg g]
    refine ite2 (fun h8 => ?_) (fun h8 => ?_)
    · exact yes ⟨t1, t2, t3, t4, t5, .inl (hm.mp (of_decide_eq_true h8))⟩
    have nzr : ¬ z = r := fun e => h8 (decide_eq_true e)
    walk_at "rd"
    refine fun D2 nD2 => ?_
    refine lc_it (walk_str (z := r)) (fun j Hj => Hj D2 = some (.lst ((((tl r).take j).filter fun c => !decide (c ∈ (dzS : Str).cps.toList)).map fun c => V.str ⟨#[c]⟩)) ∧ Same H5 Hj) ⟨upd_same, fun b u y => (upd_ne (ne_of_none y nD2)).trans y⟩ (fun _ _ _ _ => trivial) ?_ ?_
    · rintro j y Hj Hk hj ⟨hj1, sj⟩ ⟨rfl, c, ec, rfl⟩
      have ec' : (tl r)[j]? = some c := by show (r).cps.toList[j]? = _; rw [Array.getElem?_toList]; exact ec
      refine ⟨rfl, ?_⟩
      walk_at "rd"
      refine ite2 (fun b => ?_) (fun b => ?_)
      · walk_at "rd"
        refine ⟨_, hj1, ?_, ?_, fun b u y => (upd_ne (ne_of_none y nD2)).trans (sj _ _ y)⟩
        · rw [List.length_map]
          refine Nat.lt_of_le_of_lt (List.length_filter_le _ _) ?_
          rw [List.length_take, ← len_tl]
          exact Nat.lt_of_le_of_lt (by omega : _ ≤ 10000) (by decide)
        · rw [List.take_succ, ec', List.filter_append, List.map_append, show (some c).toList.filter (fun c => !decide (c ∈ (dzS : Str).cps.toList)) = [c] from by rw [show (some c).toList = [c] from rfl, List.filter_cons, if_pos (show (!decide (c ∈ (dzS : Str).cps.toList)) = true from b)]; rfl]
          exact upd_same
      · refine ⟨?_, sj⟩
        rw [List.take_succ, ec', List.filter_append, show (some c).toList.filter (fun c => !decide (c ∈ (dzS : Str).cps.toList)) = [] from by rw [show (some c).toList = [c] from rfl, List.filter_cons, if_neg (show ¬ (!decide (c ∈ (dzS : Str).cps.toList)) = true from b)]; rfl, List.append_nil]
        exact hj1
    rintro H6 ⟨hD2, sD2⟩
    rw [show (tl r).take (r).cps.size = tl r from List.take_of_length_le (by show (tl r).length ≤ (r).length; rw [← len_tl]; exact Nat.le_refl _)] at hD2
    walk_at "rd"
    refine ⟨(by show 0 ≤ sizeLine; decide), fun l2 nl2 => ?_⟩
    generalize e4 : upd H6 l2 _ = H7
    have g4 : H7 l2 = some (.lst []) := by rw [← e4]; exact upd_same
    have s4 : Same H6 H7 := by rw [← e4]; exact fun b u z => (upd_ne (ne_of_none z nl2)).trans z
    clear e4
    refine ⟨_, _, .lst (SqL.of (s4 _ _ hD2)) (dp_sg _), .lst (SqL.of g4) .nil, sg_shaped (sub_lay0 (by rw [hrt]; exact digs_lay ly)), by decide +kernel, ?_⟩
    have ev := sg_eqv ((tl r).filter fun c => !decide (c ∈ (dzS : Str).cps.toList))
    unfold sgD at ev
    rw [ev, none_out]
    have mem2 : ∀ c : Nat, c ∈ dzS.cps.toList ↔ (c = 48 ∨ c = 46) := fun c => by
      rw [show dzS.cps.toList = [48, 46] by decide +kernel]
      simp only [List.mem_cons, List.not_mem_nil, or_false]
    rw [hrt]
    have iff6 : (!((digsOf z).all fun c => decide (c ∈ dzS.cps.toList))) = fitsM z pl := by
      rw [Bool.eq_iff_iff, law_fits pl60 zl]
      constructor
      · intro n
        have n := not_t' n
        rw [List.all_eq_false] at n
        obtain ⟨c, hc, nc⟩ := n
        exact ⟨t1, t2, t3, t4, t5, .inr ⟨c, hc, fun e => nc (decide_eq_true ((mem2 c).mpr (.inl e))), fun e => nc (decide_eq_true ((mem2 c).mpr (.inr e)))⟩⟩
      · intro L
        rcases L.t6 with h | ⟨c, hc, n1, n2⟩
        · exact absurd (hm.mpr h) nzr
        · have : ((digsOf z).all fun c => decide (c ∈ dzS.cps.toList)) = false := by
            rw [List.all_eq_false]
            exact ⟨c, hc, fun e => by rcases (mem2 c).mp (of_decide_eq_true e) with e | e <;> omega⟩
          rw [this]
          rfl
    rw [iff6]
    exact q H7 (s12.trans (s3.trans (s5.trans (sD2.trans s4))))
end
end HT
namespace HT
open PySem L2 TL PySem.NumText
/-- what is told of a word that is a number, or none -/
def numV (w : Str) : V := if numB w = true then .int (numI w) else .non
def spLNum : Sp := fun vs H Q _ => ∃ w : Str, vs = [.str w] ∧ w.length ≤ 10000 ∧ PyData.canLay0 (.str w) = true ∧ ∀ H', Same H H' → Q (numV w) H'
theorem all_false {c : Bool} (h : ¬ (!c) = true) : c = true := by cases c <;> simp at h ⊢
section
variable {P : Program} {w : World} {K : PySem.W.Frag} {mg : Str → Option Value} {base : Heap} {aN f1 f2 f3 f4 f5 : Addr} {d1 d2 d3 d4 d5 : FuncData}
theorem ok_L_number {f : Addr} {fd : FuncData} (F : Fun K "_law_number" "_law_number" s_L_number f fd) (T : LwT mg) : FnOk P w K mg base CX0 1 f fd ["_law_word"] spLNum := by
  refine F.ok sc_L_number (fun vs H Q E h => ?_) (fun cdv A outer s0 H vs Q E hr h => ?_)
  · obtain ⟨z, rfl, _⟩ := h
    rfl
  · obtain ⟨z, rfl, zl, ly, q⟩ := h
    have nd := sc_L_number.nd
    refine ⟨_, (pss_cons (ps_set (i := 1) nd rfl (Or.inl rfl) (pe_slice sl_str (pv 0) (po_some (pe_callTy call_int1 (by rfl) T.int (by decide +kernel) (pa_cons (pe_cmpR op_eq (pe_slice sl_str (pv 0) po_none (po_some pe_int)) pe_str (nomark _)) pa_nil))) po_none))
      (pss_cons (ps_if (PW.pt (pw_or (pt_cmpR op_eq (pv 1) pe_str (nomark _)) (pw_or (pt_cmpR op_gt (pe_callB call_len_str (by rfl) T.len PySem.boot_len (pa_cons (pv 1) pa_nil)) pe_int (nomark _)) (pw_or1 (pt_cmpR (op_neD hr.units) (pe_lc (own := [("_law_sign", 2)]) (g := gName 2) rfl nd (pi_str (pv 1)) (blkOk_by (N := ["_law_word", "_law_digits", "_law_sign"]) (sc := defScope s_L_number) (by decide +kernel)) (fun _ _ _ _ _ => pg_name (i := 2) nd rfl (Or.inl rfl)) (fun _ _ _ _ _ => (pts_one (pt_cmpR op_notIn_sign (pv 2) pe_str (by rfl)))) (fun _ _ _ _ _ => (pv 2))) (pe_lst pa_nil) (nomark _)))))) (pss_one (ps_ret pe_non)) pss_nil)
      (pss_cons (ps_if (PW.pt (pw_and (pt_cmpR op_eq (pe_ix ix_str (pv 1) pe_int (fun _ _ => rfl)) pe_str (nomark _)) (pw_and1 (pt_cmpR op_ne (pv 0) pe_str (nomark _))))) (pss_one (ps_ret pe_non)) pss_nil)
      (pss_one (ps_ret (pe_callTy call_int_str (by rfl) T.int (by decide +kernel) (pa_cons (pv 0) pa_nil))))))), ?_⟩
    walk_at "rd"
    refine ⟨Nat.le_trans zl (by decide), ?_⟩
    walk_at "rd"
    refine ⟨rfl, ?_⟩
    walk_at "rd"
    refine .inr ⟨_, rfl, ?_⟩
    refine ⟨_, rfl, ?_⟩
    walk_at "rd"
    refine ⟨Nat.le_trans zl (by decide), ?_⟩
    obtain ⟨r, hr0, hrt⟩ : ∃ r, cutS z (some (if decide (V.str (cutS z none (some 1)) = V.str (Str.ofString "-")) = true then 1 else 0)) none = r ∧ tl r = digsOf z := by
      refine ⟨_, rfl, ?_⟩
      have e45 : decide (V.str (cutS z none (some 1)) = V.str (Str.ofString "-")) = decide ((tl z).head? = some 45) := by
        rw [dec_str, Bool.eq_iff_iff, decide_eq_true_iff, decide_eq_true_iff]
        have t1 : tl (cutS z none (some 1)) = (tl z).take 1 := by
          rcases Nat.lt_or_ge 0 (tl z).length with h | h
          · exact tl_pre z (i := 1) (n := 1) rfl h
          · have z0 : z = "" := ext_tl ((List.eq_nil_of_length_eq_zero (by omega)).trans (show ([] : List Nat) = tl "" by decide +kernel))
            rw [z0]
            decide +kernel
        constructor
        · intro e
          rw [e] at t1
          have : tl (Str.ofString "-") = [45] := by decide +kernel
          rw [this] at t1
          cases h : tl z with
          | nil => rw [h] at t1; cases t1
          | cons c t => rw [h] at t1; injection t1 with t1; rw [t1]; rfl
        · intro e
          refine ext_tl ?_
          rw [t1]
          cases h : tl z with
          | nil => rw [h] at e; cases e
          | cons c t => rw [h] at e; injection e with e; rw [e]; exact (show tl (Str.ofString "-") = [45] by decide +kernel).symm
      rw [e45]
      unfold digsOf
      by_cases g : (tl z).head? = some 45
      · rw [decide_eq_true g, if_pos rfl, if_pos g]
        have l1 : 1 ≤ (tl z).length := by
          cases h : tl z with
          | nil => rw [h] at g; cases g
          | cons c t => simp
        have := tl_post z (i := 1) (n := 1) rfl l1
        rw [this, List.drop_one]
      · rw [decide_eq_false g, if_neg (by decide), if_neg g]
        have := tl_post z (i := 0) (n := 0) rfl (Nat.zero_le _)
        rw [this]
        rfl
    rw [hr0]
    unfold numV numB at q
    have zt : (digsOf z).length = r.length := by rw [← hrt, len_tl]
    have rl : r.length ≤ 10000 := by
      rw [len_tl, hrt]
      unfold digsOf
      rw [len_tl] at zl
      split
      · rw [List.length_tail]; omega
      · exact zl
    rw [zt] at q
    walk_at "rd"
    refine ⟨rfl, _, rfl, ?_⟩
    rw [dec_str]
    refine ite2 (fun h1 => ?_) (fun h1 => ?_)
    · have f1 : ¬ 1 ≤ r.length := by rw [of_decide_eq_true h1]; decide
      rw [decide_eq_false f1, Bool.false_and, Bool.false_and, if_neg (by decide)] at q
      walk_at "rd"
      exact q H (Same.refl H)
    obtain ⟨c0, t0, ct⟩ : ∃ c t, tl r = c :: t := by
      cases h : tl r with
      | nil => exact absurd (decide_eq_true (ext_tl (h.trans (show ([] : List Nat) = tl "" by decide +kernel)))) h1
      | cons c t => exact ⟨c, t, rfl⟩
    have f1 : 1 ≤ r.length := by rw [len_tl, ct]; simp
    rw [decide_eq_true f1, Bool.true_and] at q
    walk_at "rd"
    refine ⟨Nat.le_trans rl (by decide), ?_⟩
    walk_at "rd"
    refine ite2 (fun h2 => ?_) (fun h2 => ?_)
    · have f2 : ¬ r.length ≤ 41 := by have := of_decide_eq_true h2; omega
      rw [decide_eq_false f2, Bool.false_and, if_neg (by decide)] at q
      walk_at "rd"
      exact q H (Same.refl H)
    have f2 : r.length ≤ 41 := by
      have : ¬ ((41 : Int) < (r.length : Int)) := fun x => h2 (decide_eq_true x)
      omega
    rw [decide_eq_true f2, Bool.true_and] at q
    walk_at "rd"
    refine fun D1 nD1 => ?_
    refine lc_it (walk_str (z := r)) (fun j Hj => Hj D1 = some (.lst ((((tl r).take j).filter fun c => !decide (c ∈ (digS : Str).cps.toList)).map fun c => V.str ⟨#[c]⟩)) ∧ Same H Hj) ⟨upd_same, fun b u y => (upd_ne (ne_of_none y nD1)).trans y⟩ (fun _ _ _ _ => trivial) ?_ ?_
    · rintro j y Hj Hk hj ⟨hj1, sj⟩ ⟨rfl, c, ec, rfl⟩
      have ec' : (tl r)[j]? = some c := by show (r).cps.toList[j]? = _; rw [Array.getElem?_toList]; exact ec
      refine ⟨rfl, ?_⟩
      walk_at "rd"
      refine ite2 (fun b => ?_) (fun b => ?_)
      · walk_at "rd"
        refine ⟨_, hj1, ?_, ?_, fun b u y => (upd_ne (ne_of_none y nD1)).trans (sj _ _ y)⟩
        · rw [List.length_map]
          refine Nat.lt_of_le_of_lt (List.length_filter_le _ _) ?_
          rw [List.length_take, ← len_tl]
          exact Nat.lt_of_le_of_lt (by omega : _ ≤ 10000) (by decide)
        · rw [List.take_succ, ec', List.filter_append, List.map_append, show (some c).toList.filter (fun c => !decide (c ∈ (digS : Str).cps.toList)) = [c] from by rw [show (some c).toList = [c] from rfl, List.filter_cons, if_pos (show (!decide (c ∈ (digS : Str).cps.toList)) = true from b)]; rfl]
          exact upd_same
      · refine ⟨?_, sj⟩
        rw [List.take_succ, ec', List.filter_append, show (some c).toList.filter (fun c => !decide (c ∈ (digS : Str).cps.toList)) = [] from by rw [show (some c).toList = [c] from rfl, List.filter_cons, if_neg (show ¬ (!decide (c ∈ (digS : Str).cps.toList)) = true from b)]; rfl, List.append_nil]
        exact hj1
    rintro H4 ⟨hD1, sD1⟩
    rw [show (tl r).take (r).cps.size = tl r from List.take_of_length_le (by show (tl r).length ≤ (r).length; rw [← len_tl]; exact Nat.le_refl _)] at hD1
    walk_at "rd"
    refine ⟨(by show 0 ≤ sizeLine; decide), fun l2 nl2 => ?_⟩
    generalize e4 : upd H4 l2 _ = H5
    have g4 : H5 l2 = some (.lst []) := by rw [← e4]; exact upd_same
    have s4 : Same H4 H5 := by rw [← e4]; exact fun b u z => (upd_ne (ne_of_none z nl2)).trans z
    clear e4
    refine ⟨_, _, .lst (SqL.of (s4 _ _ hD1)) (dp_sg _), .lst (SqL.of g4) .nil, sg_shaped (sub_lay0 (by rw [hrt]; exact digs_lay ly)), by decide +kernel, ?_⟩
    have ev := sg_eqv ((tl r).filter fun c => !decide (c ∈ (digS : Str).cps.toList))
    unfold sgD at ev
    rw [ev, none_out, hrt]
    have s5 : Same H H5 := sD1.trans s4
    walk_at "rd"
    refine ite2 (fun h3 => ?_) (fun h3 => ?_)
    · rw [not_t' h3, Bool.false_and, if_neg (by decide)] at q
      walk_at "rd"
      exact q H5 s5
    have al := not_f h3
    rw [al, Bool.true_and] at q
    have at1 : atI r.cps.toList 0 = some c0 := by
      unfold atI
      rw [ixN_in (Int.le_refl 0) (by rw [show r.cps.toList = tl r from rfl, ct]; simp)]
      show r.cps.toList[0]? = some c0
      rw [show r.cps.toList = tl r from rfl, ct]
      rfl
    walk_at "rd"
    refine ⟨r, 0, c0, rfl, rfl, Nat.le_trans rl (by decide), at1, ?_⟩
    walk_at "rd"
    refine ⟨rfl, _, rfl, ?_⟩
    have e48 : decide (V.str ⟨#[c0]⟩ = V.str (Str.ofString "0")) = decide ((digsOf z).head? = some 48) := by
      rw [dec_str, Bool.eq_iff_iff, decide_eq_true_iff, decide_eq_true_iff, ← hrt, ct]
      exact (one_is tl_zero).trans ⟨fun e => by rw [e]; rfl, fun e => by injection e⟩
    rw [e48]
    have nb : numB z = ((decide (z = ("0" : Str)) || decide (¬ (digsOf z).head? = some 48))) := by
      unfold numB
      rw [zt, decide_eq_true f1, decide_eq_true f2, al]
      rfl
    have fin : (z = ("0" : Str) ∨ ¬ (digsOf z).head? = some 48) → ∃ a i, [V.str z] = [V.str a] ∧ intText? a = some i ∧ a.length ≤ 640 ∧ Q (V.int i) H5 := fun h => by
      have yes : (decide (z = ("0" : Str)) || decide (¬ (digsOf z).head? = some 48)) = true := by
        rcases h with h | h
        · rw [decide_eq_true h]; rfl
        · rw [decide_eq_true h, Bool.or_true]
      have n2 : numB z = true := nb.trans yes
      rw [if_pos yes] at q
      have := (num_facts n2).2.2.2.2
      exact ⟨z, numI z, rfl, num_int n2, by omega, q H5 s5⟩
    refine ite2 (fun h6 => ?_) (fun h6 => ?_)
    · have e := of_decide_eq_true h6
      walk_at "rd"
      refine ⟨rfl, _, rfl, ?_⟩
      rw [dec_str]
      refine ite2 (fun h7 => ?_) (fun h7 => ?_)
      · have n := of_decide_eq_false (not_t' h7)
        rw [decide_eq_false n, decide_eq_false (fun x => x e), if_neg (by decide)] at q
        walk_at "rd"
        exact q H5 s5
      · walk_at "rd"
        exact fin (.inl (of_decide_eq_true (not_f h7)))
    · walk_at "rd"
      exact fin (.inr fun x => h6 (decide_eq_true x))
end
end HT
namespace HT
open PySem L2 TL PySem.NumText
theorem cut_anyN (xs : List V) (k : Nat) : cutV xs (some (k : Int)) none = xs.drop k := by
  have e : cutV xs (some (k : Int)) none = (xs.drop (min k xs.length)).take (xs.length - min k xs.length) := rfl
  rw [e, List.take_of_length_le (by rw [List.length_drop]; exact Nat.le_refl _)]
  rcases Nat.le_total k xs.length with h | h
  · rw [Nat.min_eq_left h]
  · rw [Nat.min_eq_right h, List.drop_of_length_le (Nat.le_refl _), List.drop_of_length_le h]
theorem none_in : ∀ xs : List Str, inV .non (xs.map numV) = !(xs.all numB)
  | [] => rfl
  | x :: xs => by
    have a := none_in xs
    show (eqV (numV x) .non || inV .non (xs.map numV)) = _
    rw [a, List.all_cons]
    unfold numV
    by_cases h : numB x = true
    · rw [if_pos h, h]
      rfl
    · have : numB x = false := by cases hh : numB x with
        | false => rfl
        | true => exact absurd hh h
      rw [if_neg h, this]
      rfl
theorem flat_num (xs : List Str) : (xs.map numV).all flatV = true := by
  rw [List.all_map, List.all_eq_true]
  intro x _
  show flatV (numV x) = true
  unfold numV
  split <;> rfl
/-- a number is nought only as it is written so -/
theorem num_zero {o : Str} (h : numB o = true) : numI o = 0 ↔ o = "0" := by
  constructor
  · intro e
    obtain ⟨a, b, ad, r, l⟩ := num_facts h
    rcases r with r | r
    · exact r
    · exfalso
      have p : 0 < digitsVal (digsOf o) := by
        cases hd : digsOf o with
        | nil => rw [hd] at a; cases a
        | cons c t =>
          rw [hd] at ad r
          refine digitsVal_pos ?_
          have := ad.head
          have : c ≠ 48 := fun x => r (by rw [x]; rfl)
          omega
      unfold numI at e
      split at e <;> omega
  · intro e
    rw [e]
    decide +kernel
def spLSideEnt : Sp := fun vs H Q _ => ∃ (l : Addr) (ws : List Str), vs = [.ref l] ∧ H l = some (.lst (ws.map V.str)) ∧ ws.length ≤ 1000000 ∧ (∀ x ∈ ws, x.length ≤ 10000) ∧ (∀ x ∈ ws, PyData.canLay0 (.str x) = true) ∧ (∀ e, sideE ws = some e → ∀ (p : Addr) (H' : Hp), Same H H' → RawAt H' p e → Q (.ref p) H') ∧ (sideE ws = none → ∀ H', Same H H' → Q (.str "line") H')
section
variable {P : Program} {w : World} {K : PySem.W.Frag} {mg : Str → Option Value} {base : Heap} {aN f1 f2 f3 f4 f5 : Addr} {d1 d2 d3 d4 d5 : FuncData}
theorem ok_L_side_entry {f : Addr} {fd : FuncData} (F : Fun K "_law_side_entry" "_law_side_entry" s_L_side_entry f fd) (T : LwT mg) (Nu : Cal P w K mg base "_law_number" 1 ["_law_word"] spLNum f1 d1) : FnOk P w K mg base CX0 2 f fd ["_law_words"] spLSideEnt := by
  refine F.ok sc_L_side_entry (fun vs H Q E h => ?_) (fun cdv A outer s0 H vs Q E hr h => ?_)
  · obtain ⟨l, ws, rfl, _⟩ := h
    rfl
  · obtain ⟨l, ws, rfl, hl, wl, wb, ly, q1, q2⟩ := h
    have nd := sc_L_side_entry.nd
    refine ⟨_, (pss_cons (ps_if (PW.pt (pw_or (pt_cmpR op_notIn_seq (pe_callB call_len_seq (by rfl) T.len PySem.boot_len (pa_cons (pv 0) pa_nil)) (pe_lst (pa_cons pe_int (pa_cons pe_int pa_nil))) (by rfl)) (pw_or1 (pt_cmpR op_ne (pe_ix ix_list (pv 0) pe_int (fun _ _ => rfl)) pe_str (nomark _))))) (pss_one (ps_ret pe_str)) pss_nil)
      (pss_cons (ps_setLc (i := 2) (own := [("_law_word", 1)]) (g := gName 1) (tt := tYes) rfl nd rfl rfl (sw_true rfl rfl rfl (by decide +kernel)) (pi_list (pe_op op_cat (pe_lst (pa_cons (pe_ix ix_list (pv 0) pe_int (fun _ _ => rfl)) (pa_cons (pe_ix ix_list (pv 0) pe_int (fun _ _ => rfl)) pa_nil))) (pe_slice sl_list (pv 0) (po_some pe_int) po_none))) (blkOk_by (N := ["_law_words", "_law_word", "_law_numbers"]) (sc := defScope s_L_side_entry) (by decide +kernel)) (fun _ _ _ _ _ => pg_name (i := 1) nd rfl (Or.inl rfl)) (fun _ _ _ _ _ => pts_nil) (fun _ _ _ _ _ => (pcl Nu hr (by decide) (by rfl) (pa_cons (pv 1) pa_nil))))
      (pss_cons (ps_if (PW.pt (pw_or (pt_cmpR op_in_seq pe_non (pv 2) (by rfl)) (pw_or1 (PW.pt (pw_and (pt_cmpR op_eq (pe_callB call_len_seq (by rfl) T.len PySem.boot_len (pa_cons (pv 0) pa_nil)) pe_int (nomark _)) (pw_and1 (PW.pt (pw_or (pt_cmpR op_ne (pe_ix ix_list (pv 0) pe_int (fun _ _ => rfl)) pe_str (nomark _)) (pw_or1 (pt_cmpR op_eq (pe_ix ix_list (pv 2) pe_int (fun _ _ => rfl)) pe_int (nomark _))))))))))) (pss_one (ps_ret pe_str)) pss_nil)
      (pss_one (ps_ret (pe_tup (pa_cons pe_str (pa_cons (pe_ix ix_list (pv 0) pe_int (fun _ _ => rfl)) (pa_cons (pe_tup (pa_cons (pe_ix ix_list (pe_op op_cat (pv 2) (pe_lst (pa_cons pe_int pa_nil))) pe_int (fun _ _ => rfl)) (pa_cons (pe_ix ix_list (pv 2) pe_int (fun _ _ => rfl)) (pa_cons (pe_ix ix_list (pv 0) pe_int (fun _ _ => rfl)) pa_nil)))) (pa_cons (pe_ix ix_list (pv 2) pe_int (fun _ _ => rfl)) pa_nil)))))))))), ?_⟩
    walk_at "rd"
    refine ⟨l, _, rfl, .inl (SqL.of hl), ?_⟩
    rw [List.length_map]
    walk_at "rd"
    refine ⟨(by show 2 ≤ sizeLine; decide), fun p1 np1 => ?_⟩
    generalize e1 : upd H p1 _ = H1
    have g1 : H1 p1 = some (.lst [.int 6, .int 8]) := by rw [← e1]; exact upd_same
    have s1 : Same H H1 := by rw [← e1]; exact fun b u z => (upd_ne (ne_of_none z np1)).trans z
    clear e1
    refine ⟨p1, _, rfl, .inl (SqL.of g1), rfl, by decide, ?_⟩
    have iv : inV (.int (ws.length : Int)) [.int 6, .int 8] = decide (ws.length = 6 ∨ ws.length = 8) := by
      show (decide ((6 : Int) = (ws.length : Int)) || (decide ((8 : Int) = (ws.length : Int)) || false)) = _
      rw [Bool.or_false, Bool.eq_iff_iff, Bool.or_eq_true, decide_eq_true_iff, decide_eq_true_iff, decide_eq_true_iff]
      omega
    walk_at "rd"
    rw [iv]
    refine ite2 (fun h1 => ?_) (fun h1 => ?_)
    · have n68 := of_decide_eq_false (not_t' h1)
      walk_at "rd"
      refine q2 ?_ H1 s1
      unfold sideE
      rw [if_neg fun x => n68 (.inl x), if_neg fun x => n68 (.inr x.1)]
    have y68 := of_decide_eq_true (not_f h1)
    obtain ⟨a, n, s, m, pw, p, tail, rfl, tl68⟩ : ∃ a n s m pw p tail, ws = a :: n :: s :: m :: pw :: p :: tail ∧ (tail = [] ∨ ∃ aw o, tail = [aw, o]) := by
      rcases y68 with y | y
      · match ws, y with
        | [a, n, s, m, pw, p], _ => exact ⟨a, n, s, m, pw, p, [], rfl, .inl rfl⟩
      · match ws, y with
        | [a, n, s, m, pw, p, aw, o], _ => exact ⟨a, n, s, m, pw, p, [aw, o], rfl, .inr ⟨aw, o, rfl⟩⟩
    have hl1 := s1 _ _ hl
    walk_at "rd"
    refine ⟨l, _, _, .str pw, rfl, rfl, SqL.of hl1, at_nat (k := 4) rfl, ?_⟩
    walk_at "rd"
    refine ⟨rfl, _, rfl, ?_⟩
    rw [dec_str]
    refine ite2 (fun h2 => ?_) (fun h2 => ?_)
    · have npw := of_decide_eq_false (not_t' h2)
      walk_at "rd"
      refine q2 ?_ H1 s1
      unfold sideE
      rcases tl68 with rfl | ⟨aw, o, rfl⟩
      · rw [if_pos (show [a, n, s, m, pw, p].length = 6 from rfl)]
        exact if_neg fun x => npw x.1.1
      · rw [if_neg (by simp)]
        split
        · exact if_neg fun x => npw x.1.1
        · rfl
    have epw : pw = "places" := of_decide_eq_true (not_f h2)
    walk_at "rd"
    refine ⟨l, _, _, .str s, rfl, rfl, SqL.of hl1, at_nat (k := 2) rfl, ?_⟩
    walk_at "rd"
    refine ⟨l, _, _, .str p, rfl, rfl, SqL.of hl1, at_nat (k := 5) rfl, ?_⟩
    walk_at "rd"
    refine ⟨(by show 2 ≤ sizeLine; decide), fun p2 np2 => ?_⟩
    generalize e2 : upd H1 p2 _ = H2
    have g2 : H2 p2 = some (.lst [.str s, .str p]) := by rw [← e2]; exact upd_same
    have s2 : Same H1 H2 := by rw [← e2]; exact fun b u z => (upd_ne (ne_of_none z np2)).trans z
    clear e2
    walk_at "rd"
    refine ⟨l, _, rfl, SqL.of (s2 _ _ hl1), fun p3 np3 => ?_⟩
    generalize e3 : upd H2 p3 _ = H3
    have g3 : H3 p3 = some (.lst ((tail.drop 1).map V.str)) := by
      rw [← e3, upd_same]
      have := cut_anyN (List.map V.str (a :: n :: s :: m :: pw :: p :: tail)) 7
      rw [show ((7 : Nat) : Int) = 7 from rfl] at this
      rw [this, List.map_drop]
      rfl
    have s3 : Same H2 H3 := by rw [← e3]; exact fun b u z => (upd_ne (ne_of_none z np3)).trans z
    clear e3
    have tl1 : (tail.drop 1).length ≤ 1 := by rcases tl68 with rfl | ⟨aw, o, rfl⟩ <;> simp
    refine ⟨p2, p3, _, _, rfl, rfl, s3 _ _ g2, g3, (by rw [List.length_map]; exact Nat.le_trans (show 2 + (tail.drop 1).length ≤ 3 by omega) (by decide)), fun p4 np4 => ?_⟩
    generalize e4 : upd H3 p4 _ = H4
    have g4 : H4 p4 = some (.lst ((s :: p :: tail.drop 1).map V.str)) := by rw [← e4]; exact upd_same
    have s4 : Same H3 H4 := by rw [← e4]; exact fun b u z => (upd_ne (ne_of_none z np4)).trans z
    clear e4
    have s14 := s1.trans (s2.trans (s3.trans s4))
    have nsl : ∀ x ∈ s :: p :: tail.drop 1, x.length ≤ 10000 ∧ PyData.canLay0 (.str x) = true := fun x hx => by
      have mem : x ∈ a :: n :: s :: m :: pw :: p :: tail := by
        rcases tl68 with rfl | ⟨aw, o, rfl⟩ <;> simp at hx ⊢ <;> rcases hx with rfl | rfl | rfl <;> simp
      exact ⟨wb x mem, ly x mem⟩
    walk_at "rd"
    refine ⟨⟨_, SqL.of g4⟩, fun D nD => ?_⟩
    refine lc_it (walk_list (K := K) (a := p4) (xs := (s :: p :: tail.drop 1).map V.str)) (fun j H5 => H5 D = some (.lst (((s :: p :: tail.drop 1).take j).map numV)) ∧ Same H4 H5) ⟨upd_same, fun b u z => (upd_ne (ne_of_none z nD)).trans z⟩ (fun _ _ _ ⟨_, s5⟩ => SqL.of (s5 _ _ g4)) ?_ ?_
    · rintro j y H5 H6 hj ⟨hD, s5⟩ ⟨rfl, ey⟩
      rw [List.getElem?_map] at ey
      obtain ⟨x, ex, rfl⟩ := Option.map_eq_some_iff.mp ey
      obtain ⟨xb, xl⟩ := nsl x (List.mem_of_getElem? ex)
      refine ⟨rfl, ?_⟩
      walk_at "rd"
      refine ⟨xb, xl, fun H7 s7 => ?_⟩
      refine ⟨_, s7 _ _ hD, ?_, ?_, fun b u z => (upd_ne (ne_of_none z nD)).trans (s7 _ _ (s5 _ _ z))⟩
      · rw [List.length_map, List.length_take]
        refine Nat.lt_of_le_of_lt (Nat.min_le_right _ _) ?_
        rw [List.length_cons, List.length_cons]
        exact Nat.lt_of_le_of_lt (by omega : _ ≤ 3) (by decide)
      · rw [List.take_succ, ex, List.map_append]
        exact upd_same
    rintro H5 ⟨hD, s5⟩
    rw [List.length_map, List.take_length] at hD
    walk_at "rd"
    refine ⟨D, _, rfl, .inl (SqL.of hD), rfl, flat_num _, ?_⟩
    have s15 := s14.trans s5
    walk_at "rd"
    have ni := none_in (s :: p :: tail.drop 1)
    refine ite2 (fun h3 => ?_) (fun h3 => ?_)
    · have na := not_t' (ni.symm.trans h3)
      walk_at "rd"
      refine q2 ?_ H5 s15
      unfold sideE
      rcases tl68 with rfl | ⟨aw, o, rfl⟩
      · rw [if_pos (show [a, n, s, m, pw, p].length = 6 from rfl)]
        refine if_neg fun x => ?_
        have na' : ([s, p] : List Str).all numB = false := na
        rw [List.all_cons, List.all_cons, x.2.1, x.2.2.1] at na'
        cases na'
      · rw [if_neg (show ¬ [a, n, s, m, pw, p, aw, o].length = 6 by simp)]
        split
        · refine if_neg fun x => ?_
          have na' : ([s, p, o] : List Str).all numB = false := na
          rw [List.all_cons, List.all_cons, List.all_cons, x.2.1, x.2.2.1, x.2.2.2] at na'
          cases na'
        · rfl
    have ya : (s :: p :: tail.drop 1).all numB = true := not_f fun x => h3 (ni.trans x)
    rw [List.all_cons, List.all_cons, Bool.and_eq_true, Bool.and_eq_true] at ya
    obtain ⟨yn, yp, yo⟩ := ya
    walk_at "rd"
    refine ⟨l, _, rfl, .inl (SqL.of (s15 _ _ hl)), ?_⟩
    rw [List.length_map]
    walk_at "rd"
    refine ⟨rfl, _, rfl, ?_⟩
    rcases tl68 with rfl | ⟨aw, o, rfl⟩
    · refine ite2 (fun h4 => absurd (int_t h4) (by simp)) (fun _ => ?_)
      have NE : (s :: p :: ([] : List Str).drop 1).map numV = [.int (numI s), .int (numI p)] := by
        show [numV s, numV p] = _
        unfold numV
        rw [if_pos yn, if_pos yp]
      have go : sideE [a, n, s, m, pw, p] = some (.side n 0 (numI s) m (numI p)) := by
        unfold sideE
        rw [if_pos (show [a, n, s, m, pw, p].length = 6 from rfl)]
        have z0 : numB "0" = true ∧ numI "0" = 0 := by decide +kernel
        rw [← z0.2]
        exact if_pos ⟨⟨epw, rfl⟩, yn, yp, z0.1⟩
      walk_at "rd"
      refine ⟨l, _, _, .str n, rfl, rfl, SqL.of (s15 _ _ hl), at_nat (k := 1) rfl, ?_⟩
      walk_at "rd"
      refine ⟨(by show 1 ≤ sizeLine; decide), fun z1 nz1 => ?_⟩
      generalize e6 : upd H5 z1 _ = H6
      have g6 : H6 z1 = some (.lst [.int 0]) := by rw [← e6]; exact upd_same
      have s6 : Same H5 H6 := by rw [← e6]; exact fun b u z => (upd_ne (ne_of_none z nz1)).trans z
      clear e6
      refine ⟨D, z1, _, _, rfl, rfl, s6 _ _ hD, g6, (by rw [List.length_map]; exact (show 2 + 1 ≤ sizeLine by decide)), fun z2 nz2 => ?_⟩
      generalize e7 : upd H6 z2 _ = H7
      have g7 : H7 z2 = some (.lst ([.int (numI s), .int (numI p)] ++ [.int 0])) := by rw [← e7, upd_same, NE]
      have s7 : Same H6 H7 := by rw [← e7]; exact fun b u z => (upd_ne (ne_of_none z nz2)).trans z
      clear e7
      walk_at "rd"
      refine ⟨z2, _, _, .int 0, rfl, rfl, SqL.of g7, at_nat (k := 2) rfl, ?_⟩
      have hD7 := s7 _ _ (s6 _ _ hD)
      rw [NE] at hD7
      walk_at "rd"
      refine ⟨D, _, _, .int (numI s), rfl, rfl, SqL.of hD7, at_nat (k := 0) rfl, ?_⟩
      have hl7 := s7 _ _ (s6 _ _ (s15 _ _ hl))
      walk_at "rd"
      refine ⟨l, _, _, .str m, rfl, rfl, SqL.of hl7, at_nat (k := 3) rfl, ?_⟩
      walk_at "rd"
      refine ⟨(by show 3 ≤ sizeLine; decide), fun z3 nz3 => ?_⟩
      generalize e8 : upd H7 z3 _ = H8
      have g8 : H8 z3 = some (sideV 0 (numI s) m) := by rw [← e8]; exact upd_same
      have s8 : Same H7 H8 := by rw [← e8]; exact fun b u z => (upd_ne (ne_of_none z nz3)).trans z
      clear e8
      walk_at "rd"
      refine ⟨D, _, _, .int (numI p), rfl, rfl, SqL.of (s8 _ _ hD7), at_nat (k := 1) rfl, ?_⟩
      walk_at "rd"
      refine ⟨(by show 4 ≤ sizeLine; decide), fun z4 nz4 => ?_⟩
      have s9 : Same H8 (upd H8 z4 (.tup [.str "side", .str n, .ref z3, .int (numI p)])) := fun b u z => (upd_ne (ne_of_none z nz4)).trans z
      exact q1 (.side n 0 (numI s) m (numI p)) go z4 _ (s15.trans (s6.trans (s7.trans (s8.trans s9)))) ⟨z3, upd_same, s9 _ _ g8⟩
    · refine ite2 (fun _ => ?_) (fun h4 => absurd rfl (int_f h4))
      have yo' : numB o = true := by
        have : ([o] : List Str).all numB = true := yo
        rw [List.all_cons, Bool.and_eq_true] at this
        exact this.1
      have NE : (s :: p :: ([aw, o] : List Str).drop 1).map numV = [.int (numI s), .int (numI p), .int (numI o)] := by
        show [numV s, numV p, numV o] = _
        unfold numV
        rw [if_pos yn, if_pos yp, if_pos yo']
      walk_at "rd"
      refine ⟨l, _, _, .str aw, rfl, rfl, SqL.of (s15 _ _ hl), at_nat (k := 6) rfl, ?_⟩
      walk_at "rd"
      refine ⟨rfl, _, rfl, ?_⟩
      rw [dec_str]
      refine ite2 (fun h5 => ?_) (fun h5 => ?_)
      · have nat := of_decide_eq_false (not_t' h5)
        walk_at "rd"
        refine q2 ?_ H5 s15
        unfold sideE
        rw [if_neg (show ¬ [a, n, s, m, pw, p, aw, o].length = 6 by simp)]
        split
        · exact if_neg fun x => nat x.1.2
        · rfl
      have eat : aw = "at" := of_decide_eq_true (not_f h5)
      walk_at "rd"
      refine ⟨D, _, _, .int (numI o), rfl, rfl, SqL.of (by rw [NE] at hD; exact hD), at_nat (k := 2) rfl, ?_⟩
      walk_at "rd"
      refine ⟨rfl, _, rfl, ?_⟩
      refine ite2 (fun h6 => ?_) (fun h6 => ?_)
      · have e0 := (num_zero yo').mp (V.int.inj (of_decide_eq_true h6))
        walk_at "rd"
        refine q2 ?_ H5 s15
        unfold sideE
        rw [if_neg (show ¬ [a, n, s, m, pw, p, aw, o].length = 6 by simp)]
        exact if_neg fun x => x.2 (by rw [e0]; rfl)
      have n0 : ¬ o = "0" := fun e => h6 (decide_eq_true (by rw [(num_zero yo').mpr e]))
      have go : sideE [a, n, s, m, pw, p, aw, o] = some (.side n (numI o) (numI s) m (numI p)) := by
        unfold sideE
        rw [if_neg (show ¬ [a, n, s, m, pw, p, aw, o].length = 6 by simp), if_pos ⟨rfl, fun x => n0 (Option.some.inj x)⟩]
        exact if_pos ⟨⟨epw, eat⟩, yn, yp, yo'⟩
      walk_at "rd"
      refine ⟨l, _, _, .str n, rfl, rfl, SqL.of (s15 _ _ hl), at_nat (k := 1) rfl, ?_⟩
      walk_at "rd"
      refine ⟨(by show 1 ≤ sizeLine; decide), fun z1 nz1 => ?_⟩
      generalize e6 : upd H5 z1 _ = H6
      have g6 : H6 z1 = some (.lst [.int 0]) := by rw [← e6]; exact upd_same
      have s6 : Same H5 H6 := by rw [← e6]; exact fun b u z => (upd_ne (ne_of_none z nz1)).trans z
      clear e6
      refine ⟨D, z1, _, _, rfl, rfl, s6 _ _ hD, g6, (by rw [List.length_map]; exact (show 3 + 1 ≤ sizeLine by decide)), fun z2 nz2 => ?_⟩
      generalize e7 : upd H6 z2 _ = H7
      have g7 : H7 z2 = some (.lst ([.int (numI s), .int (numI p), .int (numI o)] ++ [.int 0])) := by rw [← e7, upd_same, NE]
      have s7 : Same H6 H7 := by rw [← e7]; exact fun b u z => (upd_ne (ne_of_none z nz2)).trans z
      clear e7
      walk_at "rd"
      refine ⟨z2, _, _, .int (numI o), rfl, rfl, SqL.of g7, at_nat (k := 2) rfl, ?_⟩
      have hD7 := s7 _ _ (s6 _ _ hD)
      rw [NE] at hD7
      walk_at "rd"
      refine ⟨D, _, _, .int (numI s), rfl, rfl, SqL.of hD7, at_nat (k := 0) rfl, ?_⟩
      have hl7 := s7 _ _ (s6 _ _ (s15 _ _ hl))
      walk_at "rd"
      refine ⟨l, _, _, .str m, rfl, rfl, SqL.of hl7, at_nat (k := 3) rfl, ?_⟩
      walk_at "rd"
      refine ⟨(by show 3 ≤ sizeLine; decide), fun z3 nz3 => ?_⟩
      generalize e8 : upd H7 z3 _ = H8
      have g8 : H8 z3 = some (sideV (numI o) (numI s) m) := by rw [← e8]; exact upd_same
      have s8 : Same H7 H8 := by rw [← e8]; exact fun b u z => (upd_ne (ne_of_none z nz3)).trans z
      clear e8
      walk_at "rd"
      refine ⟨D, _, _, .int (numI p), rfl, rfl, SqL.of (s8 _ _ hD7), at_nat (k := 1) rfl, ?_⟩
      walk_at "rd"
      refine ⟨(by show 4 ≤ sizeLine; decide), fun z4 nz4 => ?_⟩
      have s9 : Same H8 (upd H8 z4 (.tup [.str "side", .str n, .ref z3, .int (numI p)])) := fun b u z => (upd_ne (ne_of_none z nz4)).trans z
      exact q1 (.side n (numI o) (numI s) m (numI p)) go z4 _ (s15.trans (s6.trans (s7.trans (s8.trans s9)))) ⟨z3, upd_same, s9 _ _ g8⟩
end
end HT
namespace HT
open PySem L2 TL
def sideF (es : List Ent) (n : Str) : Option V := match findE es n with
  | some (.side _ _ _ _ pl) => some (.int (pl : Int))
  | _ => none
/-- a dictionary by names, and the names it holds -/
def KeyAt (H : Hp) (d : Addr) (kvs : List (Key × V)) (ks : List Str) (m : Nat) : Prop := H d = some (.dK kvs) ∧ (kvs.map fun kv => kV kv.1) = ks.map V.str ∧ kvs.length ≤ m
def SidesAt (H : Hp) (d : Addr) (es : List Ent) : Prop := ∃ kvs ks, KeyAt H d kvs ks es.length ∧ (∀ n, decide (n ∈ ks) = kindB es "side" n) ∧ ∀ n, valV kvs (.inr n) = sideF es n
def SetsAt (H : Hp) (d : Addr) (es : List Ent) : Prop := ∃ kvs ks, KeyAt H d kvs ks es.length ∧ (∀ n, decide (n ∈ ks) = kindB es "set" n) ∧ ∀ n g ns, findE es n = some (.set g ns) → ∃ q, valV kvs (.inr n) = some (.ref q) ∧ H q = some (.tup (ns.map V.str))
theorem KeyAt.same {H H' : Hp} {d : Addr} {kvs : List (Key × V)} {ks : List Str} {m : Nat} (h : KeyAt H d kvs ks m) (s : Same H H') : KeyAt H' d kvs ks m := ⟨s _ _ h.1, h.2⟩
theorem SidesAt.same {H H' : Hp} {d : Addr} {es : List Ent} (h : SidesAt H d es) (s : Same H H') : SidesAt H' d es := let ⟨a, b, c, d, e⟩ := h; ⟨a, b, c.same s, d, e⟩
theorem SetsAt.same {H H' : Hp} {d : Addr} {es : List Ent} (h : SetsAt H d es) (s : Same H H') : SetsAt H' d es := let ⟨a, b, c, d, e⟩ := h; ⟨a, b, c.same s, d, fun n g ns f => let ⟨q, x, y⟩ := e n g ns f; ⟨q, x, s _ _ y⟩⟩
theorem key_none {kvs : List (Key × V)} {ks : List Str} {n : Str} (h : (kvs.map fun kv => kV kv.1) = ks.map V.str) (f : n ∉ ks) : valV kvs (.inr n) = none := by
  have a := valV_any (.inr n) kvs
  cases v : valV kvs (.inr n) with
  | none => rfl
  | some x =>
    rw [v] at a
    obtain ⟨kv, hk, e⟩ := List.any_eq_true.mp (a.trans rfl)
    have e := of_decide_eq_true e
    have : kV kv.1 ∈ ks.map V.str := by rw [← h]; exact List.mem_map_of_mem hk
    rw [e] at this
    obtain ⟨y, hy, ey⟩ := List.mem_map.mp this
    have : y = n := V.str.inj ey
    rw [this] at hy
    exact absurd hy f
def spLRight : Sp := fun vs H Q _ => ∃ (p ds dt : Addr) (e : RawE) (es : List Ent), vs = [.ref p, .ref ds, .ref dt] ∧ RawAt H p e ∧ e.small ∧ SidesAt H ds es ∧ SetsAt H dt es ∧ linksB es e = true ∧ ∀ H', Same H H' → Q (.bl (worthsB e)) H'
section
variable {P : Program} {w : World} {K : PySem.W.Frag} {mg : Str → Option Value} {base : Heap} {aN f1 f2 f3 f4 f5 : Addr} {d1 d2 d3 d4 d5 : FuncData}
theorem ok_L_is_right {f : Addr} {fd : FuncData} (F : Fun K "_law_is_right" "_law_is_right" s_L_is_right f fd) (T : LwT mg) (Si : Cal P w K mg base "_law_is_side" 2 ["_law_value"] spLSide f1 d1) (Wh : Cal P w K mg base "_law_is_whole" 1 ["_law_value", "_law_least", "_law_most"] spWhole1 f2 d2) (Tx : Cal P w K mg base "_law_is_text" 1 ["_law_value", "_law_places"] spIsTxL f3 d3) : FnOk P w K mg base CX0 3 f fd ["_law_entry", "_law_sides", "_law_sets"] spLRight := by
  refine F.ok sc_L_is_right (fun vs H Q E h => ?_) (fun cdv A outer s0 H vs Q E hr h => ?_)
  · obtain ⟨p, ds, dt, e, es, rfl, _⟩ := h
    rfl
  · obtain ⟨p, ds, dt, e, es, rfl, ra, esm, hds, hdt, lk, q⟩ := h
    have nd := sc_L_is_right.nd
    refine ⟨_, (pss_cons (ps_if (pt_cmpR op_eq (pe_ix ix_tup (pv 0) pe_int (fun _ _ => rfl)) pe_str (nomark _)) (pss_one (ps_ret (pe_and (pe_cmpR op_eq (pe_callB call_len_seq (by rfl) T.len PySem.boot_len (pa_cons (pv 0) pa_nil)) pe_int (nomark _)) (pe_and (pcl Si hr (by decide) (by rfl) (pa_cons (pe_ix ix_tup (pv 0) pe_int (fun _ _ => rfl)) pa_nil)) (pe_one (pcl Wh hr (by decide) (by rfl) (pa_cons (pe_ix ix_tup (pv 0) pe_int (fun _ _ => rfl)) (pa_cons pe_int (pa_cons pe_int pa_nil))))))))) pss_nil)
      (pss_cons (ps_if (pt_cmpR op_eq (pe_ix ix_tup (pv 0) pe_int (fun _ _ => rfl)) pe_str (nomark _)) (pss_cons (ps_if (PW.pt (pw_or (pt_cmpR op_ne (pe_callB call_len_seq (by rfl) T.len PySem.boot_len (pa_cons (pv 0) pa_nil)) pe_int (nomark _)) (pw_or (pt_not (pt_val (pe_callB call_isi (by rfl) T.isi (by decide +kernel) (pa_cons (pe_ix ix_tup (pv 0) pe_int (fun _ _ => rfl)) (pa_cons (pe_bltn (v := .ty "tuple") (by rfl) T.tuple (by decide +kernel) rfl) pa_nil))))) (pw_or (pt_cmpR op_lt (pe_callB call_len_seq (by rfl) T.len PySem.boot_len (pa_cons (pe_ix ix_tup (pv 0) pe_int (fun _ _ => rfl)) pa_nil)) pe_int (nomark _)) (pw_or1 (pt_cmpR op_gt (pe_callB call_len_seq (by rfl) T.len PySem.boot_len (pa_cons (pe_ix ix_tup (pv 0) pe_int (fun _ _ => rfl)) pa_nil)) pe_int (nomark _))))))) (pss_one (ps_ret pe_bl)) pss_nil)
      (pss_one (ps_ret (pe_cmpR (op_eqD hr.units) (pe_lc (own := [("_law_name", 3)]) (g := gName 3) rfl nd (pi_tup (pe_ix ix_tup (pv 0) pe_int (fun _ _ => rfl))) (blkOk_by (N := ["_law_entry", "_law_sides", "_law_sets", "_law_name", "_law_line"]) (sc := defScope s_L_is_right) (by decide +kernel)) (fun _ _ _ _ _ => pg_name (i := 3) nd rfl (Or.inl rfl)) (fun _ _ _ _ _ => (pts_one (pt_cmpR (show OpR _ _ (rIn K true) from op_notIn_seq) (pv 3) (pe_callTy (call_listD rfl) (by rfl) T.list (by decide +kernel) (pa_cons (pv 1) pa_nil)) (by rfl)))) (fun _ _ _ _ _ => (pv 3))) (pe_lst pa_nil) (nomark _))))) pss_nil)
      (pss_cons (ps_if (PW.pt (pw_or (pt_cmpR op_ne (pe_ix ix_tup (pv 0) pe_int (fun _ _ => rfl)) pe_str (nomark _)) (pw_or (pt_cmpR op_ne (pe_callB call_len_seq (by rfl) T.len PySem.boot_len (pa_cons (pv 0) pa_nil)) pe_int (nomark _)) (pw_or1 (pt_cmpR op_notIn_seq (pe_ix ix_tup (pv 0) pe_int (fun _ _ => rfl)) (pe_callTy (call_listD rfl) (by rfl) T.list (by decide +kernel) (pa_cons (pv 2) pa_nil)) (by rfl)))))) (pss_one (ps_ret pe_bl)) pss_nil)
      (pss_cons (ps_if (PW.pt (pw_or (pt_not (pt_val (pe_callB call_isi (by rfl) T.isi (by decide +kernel) (pa_cons (pe_ix ix_tup (pv 0) pe_int (fun _ _ => rfl)) (pa_cons (pe_bltn (v := .ty "tuple") (by rfl) T.tuple (by decide +kernel) rfl) pa_nil))))) (pw_or1 (pt_cmpR op_gt (pe_callB call_len_seq (by rfl) T.len PySem.boot_len (pa_cons (pe_ix ix_tup (pv 0) pe_int (fun _ _ => rfl)) pa_nil)) pe_int (nomark _))))) (pss_one (ps_ret pe_bl)) pss_nil)
      (pss_cons (ps_for PassesOwn.never rfl (pi_tup (pe_ix ix_tup (pv 0) pe_int (fun _ _ => rfl))) (pg_name (i := 4) nd rfl (Or.inl rfl)) (pss_cons (ps_if (PW.pt (pw_or (pt_not (pt_val (pe_callB call_isi (by rfl) T.isi (by decide +kernel) (pa_cons (pv 4) (pa_cons (pe_bltn (v := .ty "tuple") (by rfl) T.tuple (by decide +kernel) rfl) pa_nil))))) (pw_or (pt_cmpR op_ne (pe_callB call_len_seq (by rfl) T.len PySem.boot_len (pa_cons (pv 4) pa_nil)) pe_int (nomark _)) (pw_or1 (pt_cmpR op_notIn_seq (pe_ix ix_tup (pv 4) pe_int (fun _ _ => rfl)) (pe_dget (lt1 hr.units) (pv 2) (pe_ix ix_tup (pv 0) pe_int (fun _ _ => rfl)) (fun _ _ => rfl)) (by rfl)))))) (pss_one (ps_ret pe_bl)) pss_nil)
      (pss_one (ps_if (pt_not (pt_val (pcl Tx hr (by decide) (by rfl) (pa_cons (pe_ix ix_tup (pv 4) pe_int (fun _ _ => rfl)) (pa_cons (pe_dget (lt1 hr.units) (pv 1) (pe_ix ix_tup (pv 4) pe_int (fun _ _ => rfl)) (fun _ _ => rfl)) pa_nil))))) (pss_one (ps_ret pe_bl)) pss_nil))))
      (pss_one (ps_ret pe_bl))))))), ?_⟩
    walk_at "rd"
    cases e with
    | side n o s m pl =>
      obtain ⟨qa, hp, hq⟩ := ra
      change ∀ H', Same H H' → Q (.bl (sideB o s m && (decide (0 ≤ pl) && decide (pl ≤ 60)))) H' at q
      refine ⟨p, _, _, .str "side", rfl, rfl, SqT.of hp, at_nat (k := 0) rfl, ?_⟩
      walk_at "rd"
      refine ⟨rfl, _, rfl, ?_⟩
      refine ite2 (fun _ => ?_) (fun z => absurd (decide_eq_true rfl) z)
      walk_at "rd"
      refine ⟨p, _, rfl, .inr (SqT.of hp), ?_⟩
      walk_at "rd"
      refine ⟨rfl, _, rfl, ?_⟩
      refine ite2 (fun _ => ?_) (fun z => absurd (decide_eq_true rfl) z)
      walk_at "rd"
      refine ⟨p, _, _, .ref qa, rfl, rfl, SqT.of hp, at_nat (k := 2) rfl, ?_⟩
      walk_at "rd"
      refine ⟨qa, o, s, m, rfl, hq, fun H1 s1 => ?_⟩
      refine ⟨_, rfl, ?_⟩
      refine ite2 (fun h1 => ?_) (fun h1 => ?_)
      · rw [h1, Bool.true_and] at q
        walk_at "rd"
        refine ⟨p, _, _, .int pl, rfl, rfl, SqT.of (s1 _ _ hp), at_nat (k := 3) rfl, ?_⟩
        walk_at "rd"
        refine ⟨pl, 0, 60, rfl, ?_⟩
        exact q H1 s1
      · have f : sideB o s m = false := by
          cases hh : sideB o s m with
          | false => rfl
          | true => exact absurd hh h1
        rw [f, Bool.false_and] at q
        exact q H1 s1
    | set n ns =>
      obtain ⟨qa, hp, hq⟩ := ra
      change ∀ H', Same H H' → Q (.bl (decide (1 ≤ ns.length) && decide (ns.length ≤ 4))) H' at q
      refine ⟨p, _, _, .str "set", rfl, rfl, SqT.of hp, at_nat (k := 0) rfl, ?_⟩
      walk_at "rd"
      refine ⟨rfl, _, rfl, ?_⟩
      refine ite2 (fun z => absurd z (show ¬ decide (V.str "set" = V.str "side") = true by decide +kernel)) (fun _ => ?_)
      walk_at "rd"
      refine ⟨p, _, _, .str "set", rfl, rfl, SqT.of hp, at_nat (k := 0) rfl, ?_⟩
      walk_at "rd"
      refine ⟨rfl, _, rfl, ?_⟩
      refine ite2 (fun _ => ?_) (fun z => absurd (decide_eq_true rfl) z)
      walk_at "rd"
      refine ⟨p, _, rfl, .inr (SqT.of hp), ?_⟩
      walk_at "rd"
      refine ⟨rfl, _, rfl, ?_⟩
      refine ite2 (fun z => absurd z (show ¬ (!decide (V.int 3 = V.int 3)) = true from by decide +kernel)) (fun _ => ?_)
      walk_at "rd"
      refine ⟨p, _, _, .ref qa, rfl, rfl, SqT.of hp, at_nat (k := 2) rfl, ?_⟩
      walk_at "rd"
      refine ⟨_, _, _, _, _, rfl, .ty "tuple", .base (.tup hq), kit_ty (r := true) (by decide +kernel), ?_⟩
      walk_at "rd"
      refine ⟨p, _, _, .ref qa, rfl, rfl, SqT.of hp, at_nat (k := 2) rfl, ?_⟩
      walk_at "rd"
      refine ⟨qa, _, rfl, .inr (SqT.of hq), ?_⟩
      rw [List.length_map]
      walk_at "rd"
      refine ite2 (fun h1 => ?_) (fun h1 => ?_)
      · have f : ¬ 1 ≤ ns.length := by have := of_decide_eq_true h1; omega
        rw [decide_eq_false f, Bool.false_and] at q
        walk_at "rd"
        exact q H (Same.refl H)
      have f1 : 1 ≤ ns.length := by
        have : ¬ ((ns.length : Int) < 1) := fun x => h1 (decide_eq_true x)
        omega
      rw [decide_eq_true f1, Bool.true_and] at q
      walk_at "rd"
      refine ⟨p, _, _, .ref qa, rfl, rfl, SqT.of hp, at_nat (k := 2) rfl, ?_⟩
      walk_at "rd"
      refine ⟨qa, _, rfl, .inr (SqT.of hq), ?_⟩
      rw [List.length_map]
      walk_at "rd"
      refine ite2 (fun h2 => ?_) (fun h2 => ?_)
      · have f : ¬ ns.length ≤ 4 := by have := of_decide_eq_true h2; omega
        rw [decide_eq_false f] at q
        walk_at "rd"
        exact q H (Same.refl H)
      have f2 : ns.length ≤ 4 := by
        have : ¬ ((4 : Int) < (ns.length : Int)) := fun x => h2 (decide_eq_true x)
        omega
      rw [decide_eq_true f2] at q
      walk_at "rd"
      refine ⟨p, _, _, .ref qa, rfl, rfl, SqT.of hp, at_nat (k := 2) rfl, ?_⟩
      walk_at "rd"
      refine ⟨⟨_, SqT.of hq⟩, fun D nD => ?_⟩
      refine lc_it (walk_tup (K := K) (a := qa) (xs := ns.map V.str)) (fun j H3 => H3 D = some (.lst []) ∧ Same H H3) ⟨upd_same, fun b u z => (upd_ne (ne_of_none z nD)).trans z⟩ (fun _ _ _ ⟨_, s3⟩ => SqT.of (s3 _ _ hq)) ?_ ?_
      · rintro j y H3 H4 hj ⟨hD, s3⟩ ⟨rfl, ey⟩
        rw [List.getElem?_map] at ey
        obtain ⟨x, ex, rfl⟩ := Option.map_eq_some_iff.mp ey
        refine ⟨rfl, ?_⟩
        obtain ⟨kvs, ks, ⟨hd, hk, hl⟩, mem, _⟩ := hds
        walk_at "rd"
        refine ⟨ds, kvs, rfl, .inl (s3 _ _ hd), fun q5 nq5 => ?_⟩
        generalize e5 : upd H4 q5 _ = H5
        have g5 : H5 q5 = some (.lst (ks.map V.str)) := by rw [← e5, ← hk]; exact upd_same
        have s5 : Same H4 H5 := by rw [← e5]; exact fun b u z => (upd_ne (ne_of_none z nq5)).trans z
        clear e5
        refine ⟨q5, _, rfl, .inl (SqL.of g5), rfl, flat_strs ks, ?_⟩
        have lk' : (ns.all fun x => kindB es "side" x) = true := lk
        have kx := List.all_eq_true.mp lk' x (List.mem_of_getElem? ex)
        have iv : inV (.str x) (ks.map V.str) = true := by rw [inV_iff, mem]; exact kx
        walk_at "rd"
        refine ite2 (fun z => absurd z (by rw [iv]; decide)) (fun _ => ?_)
        exact ⟨s5 _ _ hD, fun b u z => s5 _ _ (s3 _ _ z)⟩
      rintro H3 ⟨hD, s3⟩
      walk_at "rd"
      refine ⟨(by show 0 ≤ sizeLine; decide), fun l2 nl2 => ?_⟩
      generalize e4 : upd H3 l2 _ = H4
      have g4 : H4 l2 = some (.lst []) := by rw [← e4]; exact upd_same
      have s4 : Same H3 H4 := by rw [← e4]; exact fun b u z => (upd_ne (ne_of_none z nl2)).trans z
      clear e4
      refine ⟨_, _, .lst (SqL.of (s4 _ _ hD)) .nil, .lst (SqL.of g4) .nil, by decide +kernel, by decide +kernel, ?_⟩
      exact q H4 (s3.trans s4)
    | log n g =>
      obtain ⟨qv, hp, hv⟩ := ra
      change ∀ H', Same H H' → Q (.bl true) H' at q
      refine ⟨p, _, _, .str "log", rfl, rfl, SqT.of hp, at_nat (k := 0) rfl, ?_⟩
      walk_at "rd"
      refine ⟨rfl, _, rfl, ?_⟩
      refine ite2 (fun z => absurd z (show ¬ decide (V.str "log" = V.str "side") = true by decide +kernel)) (fun _ => ?_)
      walk_at "rd"
      refine ⟨p, _, _, .str "log", rfl, rfl, SqT.of hp, at_nat (k := 0) rfl, ?_⟩
      walk_at "rd"
      refine ⟨rfl, _, rfl, ?_⟩
      refine ite2 (fun z => absurd z (show ¬ decide (V.str "log" = V.str "set") = true by decide +kernel)) (fun _ => ?_)
      walk_at "rd"
      refine ⟨p, _, _, .str "log", rfl, rfl, SqT.of hp, at_nat (k := 0) rfl, ?_⟩
      walk_at "rd"
      refine ⟨rfl, _, rfl, ?_⟩
      refine ite2 (fun z => absurd z (by decide +kernel)) (fun _ => ?_)
      walk_at "rd"
      refine ⟨p, _, rfl, .inr (SqT.of hp), ?_⟩
      walk_at "rd"
      refine ⟨rfl, _, rfl, ?_⟩
      refine ite2 (fun z => absurd z (show ¬ (!decide (V.int 4 = V.int 4)) = true from by decide +kernel)) (fun _ => ?_)
      walk_at "rd"
      refine ⟨p, _, _, .str g, rfl, rfl, SqT.of hp, at_nat (k := 2) rfl, ?_⟩
      obtain ⟨kvs, ks, ⟨hd, hk, hl⟩, mem, _⟩ := hdt
      walk_at "rd"
      refine ⟨dt, kvs, rfl, .inl hd, fun q5 nq5 => ?_⟩
      generalize e5 : upd H q5 _ = H5
      have g5 : H5 q5 = some (.lst (ks.map V.str)) := by rw [← e5, ← hk]; exact upd_same
      have s5 : Same H H5 := by rw [← e5]; exact fun b u z => (upd_ne (ne_of_none z nq5)).trans z
      clear e5
      refine ⟨q5, _, rfl, .inl (SqL.of g5), rfl, flat_strs ks, ?_⟩
      have lk' : kindB es "set" g = true := lk
      have iv : inV (.str g) (ks.map V.str) = true := by rw [inV_iff, mem]; exact lk'
      walk_at "rd"
      refine ite2 (fun z => absurd z (by rw [iv]; decide)) (fun _ => ?_)
      walk_at "rd"
      refine ⟨p, _, _, .ref qv, rfl, rfl, SqT.of (s5 _ _ hp), at_nat (k := 3) rfl, ?_⟩
      walk_at "rd"
      refine ⟨_, _, _, _, _, rfl, .ty "tuple", .base (.tup (s5 _ _ hv)), kit_ty (r := true) (by decide +kernel), ?_⟩
      walk_at "rd"
      refine ⟨p, _, _, .ref qv, rfl, rfl, SqT.of (s5 _ _ hp), at_nat (k := 3) rfl, ?_⟩
      walk_at "rd"
      refine ⟨qv, _, rfl, .inr (SqT.of (s5 _ _ hv)), ?_⟩
      walk_at "rd"
      refine ⟨p, _, _, .ref qv, rfl, rfl, SqT.of (s5 _ _ hp), at_nat (k := 3) rfl, ?_⟩
      walk_at "rd"
      refine ⟨⟨_, SqT.of (s5 _ _ hv)⟩, ?_⟩
      refine for_it (walk_tup (K := K) (a := qv) (xs := [])) (fun i st H6 => H6 = H5) rfl (fun _ _ _ _ e => by rw [e]; exact SqT.of (s5 _ _ hv)) (fun i v st H6 H7 hi => absurd hi (Nat.not_lt_zero i)) ?_
      rintro st H6 rfl
      walk_at "rd"
      exact q _ s5
end
end HT
namespace HT
open PySem L2 TL
/-! ### entries as data -/
def lineD (l : Str × Str) : PyData := .tuple [.str l.1, .str l.2]
def entD : Ent → PyData
  | .side n o s m pl => .tuple [.str "side", .str n, .tuple [.int o, .int s, .str m], .int (pl : Int)]
  | .set n ns => .tuple [.str "set", .str n, .tuple (ns.map PyData.str)]
  | .log n g ls => .tuple [.str "log", .str n, .str g, .tuple (ls.map lineD)]
def papD (es : List Ent) : PyData := .list (es.map entD)
theorem dp_lines {K : PySem.W.Frag} {H : Hp} : ∀ (ps : List Addr) (ls : List (Str × Str)), ps.length = ls.length → (∀ (i : Nat) (a : Addr) (l : Str × Str), ps[i]? = some a → ls[i]? = some l → H a = some (.tup [.str l.1, .str l.2])) → DpAll K H (ps.map V.ref) (ls.map lineD)
  | [], [], _, _ => .nil
  | [], _ :: _, h, _ => by simp at h
  | _ :: _, [], h, _ => by simp at h
  | p :: ps, l :: ls, h, at_ => .cons (.tup (SqT.of (at_ 0 p l rfl rfl)) (.cons (.str _) (.cons (.str _) .nil))) (dp_lines ps ls (by simpa using h) fun i a l x y => at_ (i + 1) a l x y)
theorem dp_ent {K : PySem.W.Frag} {H : Hp} {p : Addr} {e : Ent} (h : EntAt H p e) : Dp K H (.ref p) (entD e) := by
  cases e with
  | side n o s m pl =>
    obtain ⟨q, a, b⟩ := h
    exact .tup (SqT.of a) (.cons (.str _) (.cons (.str _) (.cons (.tup (SqT.of b) (.cons (.int _) (.cons (.int _) (.cons (.str _) .nil)))) (.cons (.int _) .nil))))
  | set n ns =>
    obtain ⟨q, a, b⟩ := h
    exact .tup (SqT.of a) (.cons (.str _) (.cons (.str _) (.cons (.tup (SqT.of b) (dp_words ns)) .nil)))
  | log n g ls =>
    obtain ⟨q, ps, a, b, c, d⟩ := h
    exact .tup (SqT.of a) (.cons (.str _) (.cons (.str _) (.cons (.str _) (.cons (.tup (SqT.of b) (dp_lines ps ls c d)) .nil))))
theorem dp_ents {K : PySem.W.Frag} {H : Hp} : ∀ (ps : List Addr) (es : List Ent), ps.length = es.length → (∀ (i : Nat) (p : Addr) (e : Ent), ps[i]? = some p → es[i]? = some e → EntAt H p e) → DpAll K H (ps.map V.ref) (es.map entD)
  | [], [], _, _ => .nil
  | [], _ :: _, h, _ => by simp at h
  | _ :: _, [], h, _ => by simp at h
  | p :: ps, e :: es, h, at_ => .cons (dp_ent (at_ 0 p e rfl rfl)) (dp_ents ps es (by simpa using h) fun i a l x y => at_ (i + 1) a l x y)
theorem dp_pap {K : PySem.W.Frag} {H : Hp} {l : Addr} {es : List Ent} (h : EntsAt H l es) : Dp K H (.ref l) (papD es) := by
  obtain ⟨ps, a, b, c⟩ := h
  exact .lst (SqL.of b) (dp_ents ps es a c)
theorem lay_list {A : Type} (f : A → PyData) (k : Nat) : ∀ xs : List A, (∀ x ∈ xs, PyData.canLay0 (f x) = true ∧ PyData.depth (f x) ≤ k) → PyData.canLayAll0 (xs.map f) = true ∧ PyData.depthAll (xs.map f) ≤ k
  | [], _ => ⟨rfl, Nat.zero_le _⟩
  | x :: xs, h => by
    have a := lay_list f k xs fun y hy => h y (List.mem_cons_of_mem _ hy)
    have b := h x List.mem_cons_self
    refine ⟨?_, ?_⟩
    · show (PyData.canLay0 (f x) && PyData.canLayAll0 (xs.map f)) = true
      rw [b.1, a.1]
      rfl
    · show max (PyData.depth (f x)) (PyData.depthAll (xs.map f)) ≤ k
      exact Nat.max_le.mpr ⟨b.2, a.2⟩
def rawD : RawE → PyData
  | .side n o s m pl => .tuple [.str "side", .str n, .tuple [.int o, .int s, .str m], .int pl]
  | .set n ns => .tuple [.str "set", .str n, .tuple (ns.map PyData.str)]
  | .log n g => .tuple [.str "log", .str n, .str g, .tuple []]
def RawE.strs : RawE → List Str
  | .side n _ _ m _ => [n, m]
  | .set n ns => n :: ns
  | .log n g => [n, g]
theorem dp_raw {K : PySem.W.Frag} {H : Hp} {p : Addr} {e : RawE} (h : RawAt H p e) : Dp K H (.ref p) (rawD e) := by
  cases e with
  | side n o s m pl =>
    obtain ⟨q, a, b⟩ := h
    exact .tup (SqT.of a) (.cons (.str _) (.cons (.str _) (.cons (.tup (SqT.of b) (.cons (.int _) (.cons (.int _) (.cons (.str _) .nil)))) (.cons (.int _) .nil))))
  | set n ns =>
    obtain ⟨q, a, b⟩ := h
    exact .tup (SqT.of a) (.cons (.str _) (.cons (.str _) (.cons (.tup (SqT.of b) (dp_words ns)) .nil)))
  | log n g =>
    obtain ⟨q, a, b⟩ := h
    exact .tup (SqT.of a) (.cons (.str _) (.cons (.str _) (.cons (.str _) (.cons (.tup (SqT.of b) .nil) .nil))))
theorem ky : PyData.canLay0 (.str ("side" : Str)) = true ∧ PyData.canLay0 (.str ("set" : Str)) = true ∧ PyData.canLay0 (.str ("log" : Str)) = true := by decide +kernel
theorem raw_lay {e : RawE} (h : ∀ x ∈ e.strs, PyData.canLay0 (.str x) = true) : SeqAt.shaped (rawD e) = true := by
  have i (z : Int) : PyData.canLay0 (.int z) = true := rfl
  obtain ⟨kS, kT, kL⟩ := ky
  have fin : ∀ d : PyData, PyData.canLay0 d = true → PyData.depth d ≤ 64 → SeqAt.shaped d = true := fun d a b => by
    show (PyData.canLay0 d && decide (PyData.depth d ≤ 64)) = true
    rw [a, decide_eq_true b]
    rfl
  cases e with
  | side n o s m pl =>
    have a := h n (by simp [RawE.strs])
    have b := h m (by simp [RawE.strs])
    refine fin _ ?_ (by simp [rawD, PyData.depth, PyData.depthAll])
    simp only [rawD, PyData.canLay0, PyData.canLayAll0, Bool.and_true, Bool.true_and] at a b kS ⊢
    rw [a, b, kS]
    rfl
  | set n ns =>
    have a := h n (by simp [RawE.strs])
    obtain ⟨b, c⟩ := words_lay ns fun y hy => h y (by simp [RawE.strs, hy])
    refine fin _ ?_ ?_
    · simp only [rawD, PyData.canLay0, PyData.canLayAll0, Bool.and_true] at a kT ⊢
      rw [a, b, kT]
      rfl
    · simp only [rawD, PyData.depth, PyData.depthAll]
      omega
  | log n g =>
    have a := h n (by simp [RawE.strs])
    have b := h g (by simp [RawE.strs])
    refine fin _ ?_ (by simp [rawD, PyData.depth, PyData.depthAll])
    simp only [rawD, PyData.canLay0, PyData.canLayAll0, Bool.and_true, Bool.true_and] at a b kL ⊢
    rw [a, b, kL]
    rfl
theorem raw_line (e : RawE) : PyData.eqv (rawD e) (.str ("line" : Str)) = false := by cases e <;> rfl
/-- the value that tells an entry, or that there is none -/
def EntV (H : Hp) (v : V) : Option RawE → Prop
  | none => v = .str "line"
  | some e => ∃ p, v = .ref p ∧ RawAt H p e
theorem EntV.same {H H' : Hp} {v : V} {o : Option RawE} (h : EntV H v o) (s : Same H H') : EntV H' v o := by
  cases o with
  | none => exact h
  | some e => obtain ⟨p, a, b⟩ := h; exact ⟨p, a, b.same s⟩
theorem eight_strs {ws : List Str} {e : RawE} (h : eightE ws = some e) : ∀ x ∈ e.strs, x = ws.getD 1 "" ∨ x = ws.getD 3 "" := by
  unfold eightE at h
  split at h
  · split at h
    · cases h
      intro x hx
      simpa [RawE.strs] using hx
    · cases h
  · cases h
theorem eight_name {ws : List Str} {e : RawE} (h : eightE ws = some e) : ∃ o s m pl, e = .side (ws.getD 1 "") o s m pl := by
  unfold eightE at h
  split at h
  · split at h
    · cases h
      exact ⟨_, _, _, _, rfl⟩
    · cases h
  · cases h
theorem getD_mem {ws : List Str} {i : Nat} (h : i < ws.length) : ws.getD i "" ∈ ws := by
  rw [List.getD_eq_getElem?_getD, List.getElem?_eq_getElem h]
  exact List.getElem_mem h
theorem getD_app {ws us : List Str} {i : Nat} (h : i < ws.length) : (ws ++ us).getD i "" = ws.getD i "" := by
  rw [List.getD_eq_getElem?_getD, List.getD_eq_getElem?_getD, List.getElem?_append_left h]
theorem side_facts {ws : List Str} {e : RawE} (h : sideE ws = some e) : (∀ x ∈ e.strs, x ∈ ws) ∧ (∃ o s m pl, e = .side (ws.getD 1 "") o s m pl) ∧ 1 < ws.length := by
  unfold sideE at h
  split at h
  case isTrue h6 =>
    refine ⟨fun x hx => ?_, ?_, by omega⟩
    · rcases eight_strs h x hx with e | e
      · rw [e, getD_app (by omega)]; exact getD_mem (by omega)
      · rw [e, getD_app (by omega)]; exact getD_mem (by omega)
    · have := eight_name h
      rwa [getD_app (by omega)] at this
  case isFalse h6 =>
    split at h
    case isTrue h8 =>
      refine ⟨fun x hx => ?_, eight_name h, by omega⟩
      rcases eight_strs h x hx with e | e
      · rw [e]; exact getD_mem (by omega)
      · rw [e]; exact getD_mem (by omega)
    case isFalse => cases h
def RawE.of (ws : List Str) : RawE → Prop
  | .side .. => ws[0]? = some ("side" : Str)
  | .set _ ns => ws[0]? = some ("set" : Str) ∧ ns = ws.drop 2
  | .log _ g => ws[0]? = some ("log" : Str) ∧ g = ws.getD 2 "" ∧ ws.length = 3
/-- what an entry has of the words of its line -/
theorem entry_facts {ws : List Str} {e : RawE} (h : entryE ws = some e) : (∀ x ∈ e.strs, x ∈ ws) ∧ e.name = ws.getD 1 "" ∧ 1 < ws.length ∧ e.of ws := by
  unfold entryE at h
  split at h
  case isTrue h0 =>
    obtain ⟨a, ⟨o, s, m, pl, rfl⟩, c⟩ := side_facts h
    exact ⟨a, rfl, c, h0⟩
  case isFalse h0 =>
    split at h
    case isTrue h1 =>
      cases h
      refine ⟨fun x hx => ?_, rfl, by omega, h1.1, rfl⟩
      rcases List.mem_cons.mp hx with e | hx
      · rw [e]; exact getD_mem (by omega)
      · exact List.mem_of_mem_drop hx
    case isFalse h1 =>
      split at h
      case isTrue h2 =>
        cases h
        refine ⟨fun x hx => ?_, rfl, by omega, h2.1, rfl, h2.2⟩
        simp only [RawE.strs, List.mem_cons, List.not_mem_nil, or_false] at hx
        rcases hx with e | e
        · rw [e]; exact getD_mem (by omega)
        · rw [e]; exact getD_mem (by omega)
      case isFalse => cases h
theorem find_names (es : List Ent) (n : Str) : (findE es n).isNone = !decide (n ∈ es.map Ent.name) := by
  unfold findE
  rw [Bool.eq_iff_iff, Option.isNone_iff_eq_none, List.find?_eq_none, Bool.not_eq_true', decide_eq_false_iff_not]
  constructor
  · intro h m
    obtain ⟨e, he, en⟩ := List.mem_map.mp m
    exact h e he (decide_eq_true en)
  · intro h e he x
    exact h (List.mem_map.mpr ⟨e, he, of_decide_eq_true x⟩)
end HT
namespace HT
open PySem L2 TL
def spLStart : Sp := fun vs H Q _ => ∃ (l ds dt nm : Addr) (ws : List Str) (es : List Ent), vs = [.ref l, .ref ds, .ref dt, .ref nm] ∧ H l = some (.lst (ws.map V.str)) ∧ ws ≠ [] ∧ WordsP ws ∧ SidesAt H ds es ∧ SetsAt H dt es ∧ H nm = some (.lst ((es.map Ent.name).map V.str)) ∧
  (∀ r, startB es ws = .error r → ∀ H', Same H H' → Q (.str r) H') ∧ (∀ e, startB es ws = .ok e → ∀ (p : Addr) (H' : Hp), Same H H' → RawAt H' p e → Q (.ref p) H')
section
variable {P : Program} {w : World} {K : PySem.W.Frag} {mg : Str → Option Value} {base : Heap} {aN f1 f2 f3 f4 f5 : Addr} {d1 d2 d3 d4 d5 : FuncData}
theorem ok_L_started {f : Addr} {fd : FuncData} (F : Fun K "_law_started" "_law_started" s_L_started f fd) (T : LwT mg) (Se : Cal P w K mg base "_law_side_entry" 2 ["_law_words"] spLSideEnt f1 d1) (Nm : Cal P w K mg base "_law_is_name" 1 ["_law_value"] spLName f2 d2) (Ri : Cal P w K mg base "_law_is_right" 3 ["_law_entry", "_law_sides", "_law_sets"] spLRight f3 d3) : FnOk P w K mg base CX0 4 f fd ["_law_words", "_law_sides", "_law_sets", "_law_names"] spLStart := by
  refine F.ok sc_L_started (fun vs H Q E h => ?_) (fun cdv A outer s0 H vs Q E hr h => ?_)
  · obtain ⟨l, ds, dt, nm, ws, es, rfl, _⟩ := h
    rfl
  · obtain ⟨l, ds, dt, nm, ws, es, rfl, hl, wne, WP, hds, hdt, hnm, q1, q2⟩ := h
    have nd := sc_L_started.nd
    refine ⟨_, (pss_cons (ps_set (i := 4) nd rfl (Or.inl rfl) pe_str)
      (pss_cons (ps_mid (ps_if (pt_cmpR op_eq (pe_ix ix_list (pv 0) pe_int (fun _ _ => rfl)) pe_str (nomark _)) (pss_one (ps_set (i := 4) nd rfl (Or.inl rfl) (pcl Se hr (by decide) (by rfl) (pa_cons (pv 0) pa_nil)))) pss_nil))
      (pss_cons (ps_mid (ps_if (PW.pt (pw_and (pt_cmpR op_eq (pe_ix ix_list (pv 0) pe_int (fun _ _ => rfl)) pe_str (nomark _)) (pw_and1 (pt_cmpR op_gt (pe_callB call_len_seq (by rfl) T.len PySem.boot_len (pa_cons (pv 0) pa_nil)) pe_int (nomark _))))) (pss_one (ps_set (i := 4) nd rfl (Or.inl rfl) (pe_tup (pa_cons pe_str (pa_cons (pe_ix ix_list (pv 0) pe_int (fun _ _ => rfl)) (pa_cons (pe_callTy call_tuple_of (by rfl) T.tuple (by decide +kernel) (pa_cons (pe_slice (show SlR _ (rSlL K) from sl_list) (pv 0) (po_some pe_int) po_none) pa_nil)) pa_nil)))))) pss_nil))
      (pss_cons (ps_mid (ps_if (PW.pt (pw_and (pt_cmpR op_eq (pe_ix ix_list (pv 0) pe_int (fun _ _ => rfl)) pe_str (nomark _)) (pw_and1 (pt_cmpR op_eq (pe_callB call_len_seq (by rfl) T.len PySem.boot_len (pa_cons (pv 0) pa_nil)) pe_int (nomark _))))) (pss_one (ps_set (i := 4) nd rfl (Or.inl rfl) (pe_tup (pa_cons pe_str (pa_cons (pe_ix ix_list (pv 0) pe_int (fun _ _ => rfl)) (pa_cons (pe_ix ix_list (pv 0) pe_int (fun _ _ => rfl)) (pa_cons (pe_tup pa_nil) pa_nil))))))) pss_nil))
      (pss_cons (ps_if (pt_cmpR (op_eqD hr.units) (pv 4) pe_str (nomark _)) (pss_one (ps_ret pe_str)) pss_nil)
      (pss_cons (ps_if (PW.pt (pw_or (pt_not (pt_val (pcl Nm hr (by decide) (by rfl) (pa_cons (pe_ix ix_list (pv 0) pe_int (fun _ _ => rfl)) pa_nil)))) (pw_or1 (pt_cmpR op_in_seq (pe_ix ix_list (pv 0) pe_int (fun _ _ => rfl)) (pv 3) (by rfl))))) (pss_one (ps_ret pe_str)) pss_nil)
      (pss_cons (ps_if (PW.pt (pw_and (pt_cmpR op_eq (pe_ix ix_list (pv 0) pe_int (fun _ _ => rfl)) pe_str (nomark _)) (pw_and1 (pt_cmpR (op_neD hr.units) (pe_lc (own := [("_law_name", 5)]) (g := gName 5) rfl nd (pi_list (pe_slice sl_list (pv 0) (po_some pe_int) po_none)) (blkOk_by (N := ["_law_words", "_law_sides", "_law_sets", "_law_names", "_law_entry", "_law_name"]) (sc := defScope s_L_started) (by decide +kernel)) (fun _ _ _ _ _ => pg_name (i := 5) nd rfl (Or.inl rfl)) (fun _ _ _ _ _ => (pts_one (pt_cmpR (show OpR _ _ (rIn K true) from op_notIn_seq) (pv 5) (pe_callTy (call_listD rfl) (by rfl) T.list (by decide +kernel) (pa_cons (pv 1) pa_nil)) (by rfl)))) (fun _ _ _ _ _ => (pv 5))) (pe_lst pa_nil) (nomark _))))) (pss_one (ps_ret pe_str)) pss_nil)
      (pss_cons (ps_if (PW.pt (pw_and (pt_cmpR op_eq (pe_ix ix_list (pv 0) pe_int (fun _ _ => rfl)) pe_str (nomark _)) (pw_and1 (pt_cmpR op_notIn_seq (pe_ix ix_list (pv 0) pe_int (fun _ _ => rfl)) (pe_callTy (call_listD rfl) (by rfl) T.list (by decide +kernel) (pa_cons (pv 2) pa_nil)) (by rfl))))) (pss_one (ps_ret pe_str)) pss_nil)
      (pss_cons (ps_if (pt_not (pt_val (pcl Ri hr (by decide) (by rfl) (pa_cons (pv 4) (pa_cons (pv 1) (pa_cons (pv 2) pa_nil)))))) (pss_one (ps_ret pe_str)) pss_nil)
      (pss_one (ps_ret (pv 4)))))))))))), ?_⟩
    obtain ⟨a, rest, rfl⟩ : ∃ a rest, ws = a :: rest := by
      cases ws with
      | nil => exact absurd rfl wne
      | cons a rest => exact ⟨a, rest, rfl⟩
    have at0' : atI ((a :: rest).map V.str) (0 : Nat) = some (.str a) := at_nat (k := 0) rfl
    unfold startB at q1 q2
    refine ⟨fun st H1 => ∃ v, st = [some (.ref l), some (.ref ds), some (.ref dt), some (.ref nm), some v, none] ∧ EntV H1 v (if a = "side" then sideE (a :: rest) else none) ∧ Same H H1, ?_, ?_⟩
    · walk_at "rd"
      refine ⟨l, _, _, .str a, rfl, rfl, SqL.of hl, at0', ?_⟩
      walk_at "rd"
      refine ⟨rfl, _, rfl, ?_⟩
      refine ite2 (fun h1 => ?_) (fun h1 => ?_)
      · have e := str_t h1
        rw [if_pos e]
        walk_at "rd"
        refine ⟨l, a :: rest, rfl, hl, WP.n, WP.l, WP.ok, fun e se p H1 s1 ra => ?_, fun se H1 s1 => ?_⟩
        · exact ⟨_, rfl, by rw [se]; exact ⟨p, rfl, ra⟩, s1⟩
        · exact ⟨_, rfl, by rw [se]; exact rfl, s1⟩
      · rw [if_neg (fun e => str_f h1 e)]
        exact ⟨_, rfl, rfl, Same.refl H⟩
    rintro st H1 ⟨v1, rfl, ev1, s1⟩
    refine ⟨fun st H2 => ∃ v, st = [some (.ref l), some (.ref ds), some (.ref dt), some (.ref nm), some v, none] ∧ EntV H2 v (if a = "side" then sideE (a :: rest) else if a = "set" ∧ 2 < (a :: rest).length then some (.set ((a :: rest).getD 1 "") ((a :: rest).drop 2)) else none) ∧ Same H H2, ?_, ?_⟩
    · walk_at "rd"
      refine ⟨l, _, _, .str a, rfl, rfl, SqL.of (s1 _ _ hl), at0', ?_⟩
      walk_at "rd"
      refine ⟨rfl, _, rfl, ?_⟩
      refine ite2 (fun h2 => ?_) (fun h2 => ?_)
      · have e := str_t h2
        have ns : ¬ a = "side" := by rw [e]; decide +kernel
        rw [if_neg ns] at ev1 ⊢
        walk_at "rd"
        refine ⟨l, _, rfl, .inl (SqL.of (s1 _ _ hl)), ?_⟩
        walk_at "rd"
        refine ite2 (fun h3 => ?_) (fun h3 => ?_)
        · have l2 : 2 < (a :: rest).length := by
            have := of_decide_eq_true h3
            rw [List.length_map] at this
            omega
          rw [if_pos ⟨e, l2⟩]
          obtain ⟨b, rest2, rfl⟩ : ∃ b r, rest = b :: r := by
            cases rest with
            | nil => simp at l2
            | cons b r => exact ⟨b, r, rfl⟩
          walk_at "rd"
          refine ⟨l, _, _, .str b, rfl, rfl, SqL.of (s1 _ _ hl), at_nat (k := 1) rfl, ?_⟩
          walk_at "rd"
          refine ⟨l, _, rfl, SqL.of (s1 _ _ hl), fun cu ncu => ?_⟩
          generalize e1 : upd H1 cu _ = H2
          have g1 : H2 cu = some (.lst (rest2.map V.str)) := by
            rw [← e1, upd_same, cut_any _ (by rw [List.length_map]; omega)]
            rfl
          have s2 : Same H1 H2 := by rw [← e1]; exact fun b u z => (upd_ne (ne_of_none z ncu)).trans z
          clear e1
          walk_at "rd"
          refine ⟨cu, _, rfl, .inl ⟨SqL.of g1, fun tp ntp => ?_⟩⟩
          generalize e2 : upd H2 tp _ = H3
          have g2 : H3 tp = some (.tup (rest2.map V.str)) := by rw [← e2]; exact upd_same
          have s3 : Same H2 H3 := by rw [← e2]; exact fun b u z => (upd_ne (ne_of_none z ntp)).trans z
          clear e2
          walk_at "rd"
          refine ⟨(by show 3 ≤ sizeLine; decide), fun p np => ?_⟩
          have s4 : Same H3 (upd H3 p (.tup [.str "set", .str b, .ref tp])) := fun b u z => (upd_ne (ne_of_none z np)).trans z
          exact ⟨_, rfl, ⟨p, rfl, tp, upd_same, s4 _ _ g2⟩, s1.trans (s2.trans (s3.trans s4))⟩
        · have l2 : ¬ 2 < (a :: rest).length := fun x => h3 (decide_eq_true (by rw [List.length_map]; omega))
          rw [if_neg (fun x => l2 x.2)]
          exact ⟨_, rfl, ev1, s1⟩
      · have ns : ¬ (a = "set" ∧ 2 < (a :: rest).length) := fun x => str_f h2 x.1
        rw [if_neg ns]
        exact ⟨_, rfl, ev1, s1⟩
    rintro st H2 ⟨v2, rfl, ev2, s2⟩
    refine ⟨fun st H3 => ∃ v, st = [some (.ref l), some (.ref ds), some (.ref dt), some (.ref nm), some v, none] ∧ EntV H3 v (entryE (a :: rest)) ∧ Same H H3, ?_, ?_⟩
    · have enE : entryE (a :: rest) = if a = "side" then sideE (a :: rest) else if a = "set" ∧ 2 < (a :: rest).length then some (.set ((a :: rest).getD 1 "") ((a :: rest).drop 2)) else if a = "log" ∧ (a :: rest).length = 3 then some (.log ((a :: rest).getD 1 "") ((a :: rest).getD 2 "")) else none := by
        unfold entryE
        show (if some a = some ("side" : Str) then _ else if some a = some ("set" : Str) ∧ _ then _ else if some a = some ("log" : Str) ∧ _ then _ else _) = _
        simp only [Option.some.injEq]
      rw [enE]
      walk_at "rd"
      refine ⟨l, _, _, .str a, rfl, rfl, SqL.of (s2 _ _ hl), at0', ?_⟩
      walk_at "rd"
      refine ⟨rfl, _, rfl, ?_⟩
      refine ite2 (fun h2 => ?_) (fun h2 => ?_)
      · have e := str_t h2
        have ns : ¬ a = "side" := by rw [e]; decide +kernel
        have nt : ¬ (a = "set" ∧ 2 < (a :: rest).length) := fun x => absurd (e.symm.trans x.1) (by decide +kernel)
        rw [if_neg ns, if_neg nt] at ev2 ⊢
        walk_at "rd"
        refine ⟨l, _, rfl, .inl (SqL.of (s2 _ _ hl)), ?_⟩
        walk_at "rd"
        refine ⟨rfl, _, rfl, ?_⟩
        rw [List.length_map]
        refine ite2 (fun h5 => ?_) (fun h5 => ?_)
        · have l3 : (a :: rest).length = 3 := by have := int_t h5; omega
          rw [if_pos ⟨e, l3⟩]
          obtain ⟨b, g, rfl⟩ : ∃ b g, rest = [b, g] := by
            match rest, l3 with
            | [b, g], _ => exact ⟨b, g, rfl⟩
          walk_at "rd"
          refine ⟨l, _, _, .str b, rfl, rfl, SqL.of (s2 _ _ hl), at_nat (k := 1) rfl, ?_⟩
          walk_at "rd"
          refine ⟨l, _, _, .str g, rfl, rfl, SqL.of (s2 _ _ hl), at_nat (k := 2) rfl, ?_⟩
          walk_at "rd"
          refine ⟨(by show 0 ≤ sizeLine; decide), fun tp ntp => ?_⟩
          generalize e2 : upd H2 tp _ = H3
          have g2 : H3 tp = some (.tup []) := by rw [← e2]; exact upd_same
          have s3 : Same H2 H3 := by rw [← e2]; exact fun b u z => (upd_ne (ne_of_none z ntp)).trans z
          clear e2
          walk_at "rd"
          refine ⟨(by show 4 ≤ sizeLine; decide), fun p np => ?_⟩
          have s4 : Same H3 (upd H3 p (.tup [.str "log", .str b, .str g, .ref tp])) := fun b u z => (upd_ne (ne_of_none z np)).trans z
          exact ⟨_, rfl, ⟨p, rfl, tp, upd_same, s4 _ _ g2⟩, s2.trans (s3.trans s4)⟩
        · have l3 : ¬ (a :: rest).length = 3 := fun x => int_f h5 (by omega)
          rw [if_neg (fun x => l3 x.2)]
          exact ⟨_, rfl, ev2, s2⟩
      · have n3 : ¬ (a = "log" ∧ (a :: rest).length = 3) := fun x => str_f h2 x.1
        rw [if_neg n3]
        exact ⟨_, rfl, ev2, s2⟩
    rintro st H4 ⟨v, rfl, ev, s4⟩
    walk_at "rd"
    cases ee : entryE (a :: rest) with
    | none =>
      rw [ee] at ev q1
      obtain rfl : v = .str "line" := ev
      refine ⟨_, _, .str _, .str _, by decide +kernel, by decide +kernel, ?_⟩
      refine ⟨_, rfl, ?_⟩
      refine ite2 (fun _ => ?_) (fun z => absurd (show PyData.eqv (.str ("line" : Str)) (.str ("line" : Str)) = true by decide +kernel) z)
      walk_at "rd"
      exact q1 "line" rfl H4 s4
    | some e =>
      rw [ee] at ev q1 q2
      obtain ⟨p, rfl, ra⟩ := ev
      obtain ⟨es1, en, el, eo⟩ := entry_facts ee
      have sh := raw_lay (e := e) fun x hx => WP.ok x (es1 x hx)
      have esm : e.small := by
        cases e with
        | side => trivial
        | log => trivial
        | set n ns =>
          show ns.length ≤ 1000000
          rw [eo.2, List.length_drop]
          have := WP.n
          omega
      refine ⟨_, _, dp_raw ra, .str _, sh, by decide +kernel, ?_⟩
      rw [raw_line]
      refine ⟨_, rfl, ?_⟩
      refine ite2 (fun z => absurd z (by decide)) (fun _ => ?_)
      dsimp only at q1 q2
      have w1 : ((a :: rest).map V.str)[1]? = some (.str e.name) := by
        rw [List.getElem?_map, en, List.getD_eq_getElem?_getD, List.getElem?_eq_getElem el]
        rfl
      have emem : e.name ∈ a :: rest := by rw [en]; exact getD_mem el
      walk_at "rd"
      refine ⟨l, _, _, .str e.name, rfl, rfl, SqL.of (s4 _ _ hl), at_nat (k := 1) w1, ?_⟩
      walk_at "rd"
      refine ⟨WP.l _ emem, WP.ok _ emem, fun H5 s5 => ?_⟩
      refine ⟨_, rfl, ?_⟩
      have nbE : namesB es e = (nameB e.name && ((findE es e.name).isNone && linksB es e)) := rfl
      refine ite2 (fun hn => ?_) (fun hn => ?_)
      · have no := not_t' hn
        walk_at "rd"
        refine q1 "name" ?_ H5 (s4.trans s5)
        rw [if_neg (by rw [nbE, no, Bool.false_and]; decide)]
      have yn := not_f hn
      walk_at "rd"
      refine ⟨l, _, _, .str e.name, rfl, rfl, SqL.of (s5 _ _ (s4 _ _ hl)), at_nat (k := 1) w1, ?_⟩
      walk_at "rd"
      refine ⟨nm, _, rfl, .inl (SqL.of (s5 _ _ (s4 _ _ hnm))), rfl, flat_strs _, ?_⟩
      have fn := find_names es e.name
      have iv : inV (.str e.name) ((es.map Ent.name).map V.str) = !(findE es e.name).isNone := by rw [inV_iff, fn, Bool.not_not]
      walk_at "rd"
      rw [iv]
      refine ite2 (fun hn2 => ?_) (fun hn2 => ?_)
      · have no := not_t' hn2
        walk_at "rd"
        refine q1 "name" ?_ H5 (s4.trans s5)
        rw [if_neg (by rw [nbE, no, Bool.false_and, Bool.and_false]; decide)]
      have yf := not_f hn2
      rw [yn, yf, Bool.true_and, Bool.true_and] at nbE
      have hl5 := s5 _ _ (s4 _ _ hl)
      walk_at "rd"
      have nameNo : linksB es e = false → ∀ H', Same H5 H' → Q (.str "name") H' := fun no H' s => q1 "name" (by rw [if_neg (by rw [nbE, no]; decide)]) H' (s4.trans (s5.trans s))
      have last : linksB es e = true → ∀ H9, Same H5 H9 → True := fun _ _ _ => trivial
      cases e with
      | side n o s m pl =>
        have nb : namesB es (.side n o s m pl) = true := nbE
        have lk : linksB es (.side n o s m pl) = true := rfl
        obtain rfl : a = "side" := Option.some.inj eo
        refine ⟨l, _, _, _, rfl, rfl, SqL.of hl5, at0', ?_⟩
        walk_at "rd"
        refine ⟨rfl, _, rfl, ?_⟩
        refine ite2 (fun z => absurd z (show ¬ decide (V.str "side" = V.str "set") = true from by decide +kernel)) (fun _ => ?_)
        walk_at "rd"
        refine ⟨l, _, _, _, rfl, rfl, SqL.of hl5, at0', ?_⟩
        walk_at "rd"
        refine ⟨rfl, _, rfl, ?_⟩
        refine ite2 (fun z => absurd z (show ¬ decide (V.str "side" = V.str "log") = true from by decide +kernel)) (fun _ => ?_)
        walk_at "rd"
        refine ⟨p, ds, dt, _, es, rfl, ra.same s5, esm, hds.same (s4.trans s5), hdt.same (s4.trans s5), lk, fun H9 s9 => ?_⟩
        refine ⟨_, rfl, ?_⟩
        have s49 := s4.trans ((s5).trans s9)
        refine ite2 (fun hw => ?_) (fun hw => ?_)
        · have no := not_t' hw
          walk_at "rd"
          refine q1 "value" ?_ H9 s49
          rw [if_pos nb, no]
          rfl
        have wb := not_f hw
        walk_at "rd"
        exact q2 _ (by rw [if_pos nb, if_pos wb]) p H9 s49 (ra.same ((s5).trans s9))
      | set n ns =>
        obtain rfl : a = "set" := Option.some.inj eo.1
        refine ⟨l, _, _, _, rfl, rfl, SqL.of hl5, at0', ?_⟩
        walk_at "rd"
        refine ⟨rfl, _, rfl, ?_⟩
        refine ite2 (fun _ => ?_) (fun z => absurd (decide_eq_true rfl) z)
        walk_at "rd"
        refine ⟨l, _, rfl, SqL.of hl5, fun cu ncu => ?_⟩
        generalize e1 : upd H5 cu _ = H6
        have g1 : H6 cu = some (.lst (ns.map V.str)) := by
          rw [← e1, upd_same]
          have := cut_anyN (List.map V.str (("set" : Str) :: rest)) 2
          rw [show ((2 : Nat) : Int) = 2 from rfl] at this
          have e' := eo.2
          rw [e', List.map_drop]
          exact congrArg (fun z => some (HO.lst z)) this
        have s6 : Same H5 H6 := by rw [← e1]; exact fun b u z => (upd_ne (ne_of_none z ncu)).trans z
        clear e1
        have nsl : ∀ x ∈ ns, PyData.canLay0 (.str x) = true := fun x hx => WP.ok x (es1 x (List.mem_cons_of_mem _ hx))
        refine ⟨cu, rfl, ⟨_, SqL.of g1⟩, fun D nD => ?_⟩
        refine lc_it (walk_list (K := K) (a := cu) (xs := ns.map V.str)) (fun j H7 => H7 D = some (.lst (((ns.take j).filter fun x => !kindB es "side" x).map V.str)) ∧ Same H6 H7) ⟨upd_same, fun b u z => (upd_ne (ne_of_none z nD)).trans z⟩ (fun _ _ _ ⟨_, s7⟩ => SqL.of (s7 _ _ g1)) ?_ ?_
        · rintro j y H7 H8 hj ⟨hD, s7⟩ ⟨rfl, ey⟩
          rw [List.getElem?_map] at ey
          obtain ⟨x, ex, rfl⟩ := Option.map_eq_some_iff.mp ey
          refine ⟨rfl, ?_⟩
          obtain ⟨kvs, ks, ⟨hd, hk, hl⟩, mem, _⟩ := hds
          walk_at "rd"
          refine ⟨ds, kvs, rfl, .inl (s7 _ _ (s6 _ _ (s5 _ _ (s4 _ _ hd)))), fun q5 nq5 => ?_⟩
          generalize e5 : upd H8 q5 _ = H9
          have g5 : H9 q5 = some (.lst (ks.map V.str)) := by rw [← e5, ← hk]; exact upd_same
          have s9 : Same H8 H9 := by rw [← e5]; exact fun b u z => (upd_ne (ne_of_none z nq5)).trans z
          clear e5
          refine ⟨q5, _, rfl, .inl (SqL.of g5), rfl, flat_strs ks, ?_⟩
          have iv : inV (.str x) (ks.map V.str) = kindB es "side" x := by rw [inV_iff, mem]
          walk_at "rd"
          rw [iv]
          rw [List.take_succ, ex, List.filter_append]
          refine ite2 (fun hk => ?_) (fun hk => ?_)
          · walk_at "rd"
            refine ⟨_, s9 _ _ hD, ?_, ?_, fun b u z => (upd_ne (ne_of_none z nD)).trans (s9 _ _ (s7 _ _ z))⟩
            · rw [List.length_map]
              refine Nat.lt_of_le_of_lt (List.length_filter_le _ _) ?_
              rw [List.length_take]
              have esm' : ns.length ≤ 1000000 := esm
              exact Nat.lt_of_le_of_lt (by omega : _ ≤ 1000000) (by decide)
            · rw [show (some x).toList.filter (fun x => !kindB es "side" x) = [x] from by rw [show (some x).toList = [x] from rfl, List.filter_cons, if_pos (show (!kindB es "side" x) = true from hk)]; rfl, List.map_append]
              exact upd_same
          · refine ⟨?_, fun b u z => s9 _ _ (s7 _ _ z)⟩
            rw [show (some x).toList.filter (fun x => !kindB es "side" x) = [] from by rw [show (some x).toList = [x] from rfl, List.filter_cons, if_neg (show ¬ (!kindB es "side" x) = true from hk)]; rfl, List.append_nil]
            exact s9 _ _ hD
        rintro H7 ⟨hD, s7⟩
        rw [List.length_map, List.take_length] at hD
        walk_at "rd"
        refine ⟨(by show 0 ≤ sizeLine; decide), fun l2 nl2 => ?_⟩
        generalize e4 : upd H7 l2 _ = H8
        have g4 : H8 l2 = some (.lst []) := by rw [← e4]; exact upd_same
        have s8 : Same H7 H8 := by rw [← e4]; exact fun b u z => (upd_ne (ne_of_none z nl2)).trans z
        clear e4
        have s58 := s6.trans (s7.trans s8)
        refine ⟨_, _, .lst (SqL.of (s8 _ _ hD)) (dp_words _), .lst (SqL.of g4) .nil, words_shaped fun z hz => nsl z (List.mem_filter.mp hz).1, by decide +kernel, ?_⟩
        have ev0 : PyData.eqv (.list ((ns.filter fun x => !kindB es "side" x).map PyData.str)) (.list []) = decide ((ns.filter fun x => !kindB es "side" x) = []) := eqv_words _ []
        have ev1 : decide ((ns.filter fun x => !kindB es "side" x) = []) = (ns.all fun x => kindB es "side" x) := by
          rw [Bool.eq_iff_iff, decide_eq_true_iff, List.filter_eq_nil_iff, List.all_eq_true]
          exact ⟨fun h x hx => by simpa using h x hx, fun h x hx => by simpa using h x hx⟩
        rw [ev0, ev1]
        walk_at "rd"
        refine ite2 (fun hk => ?_) (fun hk => ?_)
        · walk_at "rd"
          exact nameNo (not_t' hk) H8 s58
        have lk : linksB es (.set n ns) = true := not_f hk
        have nb : namesB es (.set n ns) = true := nbE.trans lk
        have hl8 := s58 _ _ hl5
        walk_at "rd"
        refine ⟨l, _, _, _, rfl, rfl, SqL.of hl8, at0', ?_⟩
        walk_at "rd"
        refine ⟨rfl, _, rfl, ?_⟩
        refine ite2 (fun z => absurd z (show ¬ decide (V.str "set" = V.str "log") = true from by decide +kernel)) (fun _ => ?_)
        walk_at "rd"
        refine ⟨p, ds, dt, _, es, rfl, ra.same (s5.trans s58), esm, hds.same (s4.trans (s5.trans s58)), hdt.same (s4.trans (s5.trans s58)), lk, fun H9 s9 => ?_⟩
        refine ⟨_, rfl, ?_⟩
        have s49 := s4.trans (((s5.trans s58)).trans s9)
        refine ite2 (fun hw => ?_) (fun hw => ?_)
        · have no := not_t' hw
          walk_at "rd"
          refine q1 "value" ?_ H9 s49
          rw [if_pos nb, no]
          rfl
        have wb := not_f hw
        walk_at "rd"
        exact q2 _ (by rw [if_pos nb, if_pos wb]) p H9 s49 (ra.same (((s5.trans s58)).trans s9))
      | log n g =>
        obtain rfl : a = "log" := Option.some.inj eo.1
        have w2 : (((("log" : Str)) :: rest).map V.str)[2]? = some (.str g) := by
          rw [List.getElem?_map, eo.2.1, List.getD_eq_getElem?_getD, List.getElem?_eq_getElem (by rw [eo.2.2]; decide)]
          rfl
        refine ⟨l, _, _, _, rfl, rfl, SqL.of hl5, at0', ?_⟩
        walk_at "rd"
        refine ⟨rfl, _, rfl, ?_⟩
        refine ite2 (fun z => absurd z (show ¬ decide (V.str "log" = V.str "set") = true from by decide +kernel)) (fun _ => ?_)
        walk_at "rd"
        refine ⟨l, _, _, _, rfl, rfl, SqL.of hl5, at0', ?_⟩
        walk_at "rd"
        refine ⟨rfl, _, rfl, ?_⟩
        refine ite2 (fun _ => ?_) (fun z => absurd (decide_eq_true rfl) z)
        walk_at "rd"
        refine ⟨l, _, _, .str g, rfl, rfl, SqL.of hl5, at_nat (k := 2) w2, ?_⟩
        obtain ⟨kvs, ks, ⟨hd, hk, hl⟩, mem, rs⟩ := id hdt
        walk_at "rd"
        refine ⟨dt, kvs, rfl, .inl (s5 _ _ (s4 _ _ hd)), fun q5 nq5 => ?_⟩
        generalize e5 : upd H5 q5 _ = H6
        have g5 : H6 q5 = some (.lst (ks.map V.str)) := by rw [← e5, ← hk]; exact upd_same
        have s6 : Same H5 H6 := by rw [← e5]; exact fun b u z => (upd_ne (ne_of_none z nq5)).trans z
        clear e5
        refine ⟨q5, _, rfl, .inl (SqL.of g5), rfl, flat_strs ks, ?_⟩
        have iv : inV (.str g) (ks.map V.str) = kindB es "set" g := by rw [inV_iff, mem]
        walk_at "rd"
        rw [iv]
        refine ite2 (fun hk => ?_) (fun hk => ?_)
        · walk_at "rd"
          exact nameNo (not_t' hk) H6 s6
        have lk : linksB es (.log n g) = true := not_f hk
        have nb : namesB es (.log n g) = true := nbE.trans lk
        walk_at "rd"
        refine ⟨p, ds, dt, _, es, rfl, ra.same (s5.trans s6), esm, hds.same (s4.trans (s5.trans s6)), hdt.same (s4.trans (s5.trans s6)), lk, fun H9 s9 => ?_⟩
        refine ⟨_, rfl, ?_⟩
        have s49 := s4.trans (((s5.trans s6)).trans s9)
        refine ite2 (fun hw => ?_) (fun hw => ?_)
        · have no := not_t' hw
          walk_at "rd"
          refine q1 "value" ?_ H9 s49
          rw [if_pos nb, no]
          rfl
        have wb := not_f hw
        walk_at "rd"
        exact q2 _ (by rw [if_pos nb, if_pos wb]) p H9 s49 (ra.same (((s5.trans s6)).trans s9))
end
end HT
namespace HT
open PySem L2 TL
def spLRow : Sp := fun vs H Q _ => ∃ (l p ds dt : Addr) (v : V) (n g g2 : Str) (ns ws : List Str) (es : List Ent), vs = [.ref l, .ref p, .ref ds, .ref dt] ∧ H l = some (.lst (ws.map V.str)) ∧ WordsP ws ∧ H p = some (.tup [.str "log", .str n, .str g, v]) ∧ SidesAt H ds es ∧ SetsAt H dt es ∧ findE es g = some (.set g2 ns) ∧ Tied es ∧
  (∀ r, rowB es g ws = .error r → ∀ H', Same H H' → Q (.str r) H') ∧ (∀ y, rowB es g ws = .ok y → ∀ (p : Addr) (H' : Hp), Same H H' → H' p = some (.tup [.str y.1, .str y.2]) → Q (.ref p) H')
section
variable {P : Program} {w : World} {K : PySem.W.Frag} {mg : Str → Option Value} {base : Heap} {aN f1 f2 f3 f4 f5 : Addr} {d1 d2 d3 d4 d5 : FuncData}
theorem ok_L_log_line {f : Addr} {fd : FuncData} (F : Fun K "_law_log_line" "_law_log_line" s_L_log_line f fd) (T : LwT mg) (Tx : Cal P w K mg base "_law_is_text" 1 ["_law_value", "_law_places"] spIsTxL f1 d1) : FnOk P w K mg base CX0 2 f fd ["_law_words", "_law_log", "_law_sides", "_law_sets"] spLRow := by
  refine F.ok sc_L_log_line (fun vs H Q E h => ?_) (fun cdv A outer s0 H vs Q E hr h => ?_)
  · obtain ⟨l, p, ds, dt, v, n, g, g2, ns, ws, es, rfl, _⟩ := h
    rfl
  · obtain ⟨l, p, ds, dt, v, n, g, g2, ns, ws, es, rfl, hl, WP, hp, hds, hdt, fg, ti, q1, q2⟩ := h
    have nd := sc_L_log_line.nd
    refine ⟨_, (pss_cons (ps_if (pt_cmpR op_ne (pe_callB call_len_seq (by rfl) T.len PySem.boot_len (pa_cons (pv 0) pa_nil)) pe_int (nomark _)) (pss_one (ps_ret pe_str)) pss_nil)
      (pss_cons (ps_if (pt_cmpR op_notIn_seq (pe_ix ix_list (pv 0) pe_int (fun _ _ => rfl)) (pe_dget (lt1 hr.units) (pv 3) (pe_ix ix_tup (pv 1) pe_int (fun _ _ => rfl)) (fun _ _ => rfl)) (by rfl)) (pss_one (ps_ret pe_str)) pss_nil)
      (pss_cons (ps_if (pt_not (pt_val (pcl Tx hr (by decide) (by rfl) (pa_cons (pe_ix ix_list (pv 0) pe_int (fun _ _ => rfl)) (pa_cons (pe_dget (lt1 hr.units) (pv 2) (pe_ix ix_list (pv 0) pe_int (fun _ _ => rfl)) (fun _ _ => rfl)) pa_nil))))) (pss_one (ps_ret pe_str)) pss_nil)
      (pss_one (ps_ret (pe_tup (pa_cons (pe_ix ix_list (pv 0) pe_int (fun _ _ => rfl)) (pa_cons (pe_ix ix_list (pv 0) pe_int (fun _ _ => rfl)) pa_nil)))))))), ?_⟩
    walk_at "rd"
    refine ⟨l, _, rfl, .inl (SqL.of hl), ?_⟩
    rw [List.length_map]
    walk_at "rd"
    refine ⟨rfl, _, rfl, ?_⟩
    refine ite2 (fun z => ?_) (fun z => ?_)
    · have l2 : ¬ ws.length = 2 := fun y => of_decide_eq_false (not_t' z) (by rw [y]; rfl)
      walk_at "rd"
      refine q1 "line" ?_ H (Same.refl H)
      unfold rowB
      split
      · exact absurd rfl l2
      · rfl
    have l2 : ws.length = 2 := by have := V.int.inj (of_decide_eq_true (not_f z)); omega
    obtain ⟨a, t, rfl⟩ : ∃ a t, ws = [a, t] := by
      match ws, l2 with
      | [a, t], _ => exact ⟨a, t, rfl⟩
    have b510 := WP.two rfl
    unfold rowB nsOf at q1 q2
    rw [fg] at q1 q2
    obtain ⟨kvs, ks, ⟨hd, hk, hkl⟩, mem, rs⟩ := id hdt
    obtain ⟨qs, vq, hq⟩ := rs g g2 ns fg
    have dg : DGet H dt (.str g) (some (.ref qs)) := by rw [← vq]; exact DGet.k (k := .inr g) hd
    walk_at "rd"
    refine ⟨l, _, _, .str a, rfl, rfl, SqL.of hl, at_nat (k := 0) rfl, ?_⟩
    walk_at "rd"
    refine ⟨p, _, _, .str g, rfl, rfl, SqT.of hp, at_nat (k := 2) rfl, ?_⟩
    refine ⟨dt, .ref qs, rfl, dg, ?_⟩
    refine ⟨qs, _, rfl, .inr (SqT.of hq), rfl, flat_strs ns, ?_⟩
    walk_at "rd"
    refine ite2 (fun z => ?_) (fun z => ?_)
    · have no := not_t' z
      walk_at "rd"
      exact q1 "name" (by
        show (if inV (.str a) (ns.map V.str) = true then _ else _) = _
        rw [no]
        rfl) H (Same.refl H)
    have yes : inV (.str a) (ns.map V.str) = true := not_f z
    obtain ⟨n', o, s, m, pl, fe⟩ := ti.sets _ _ _ fg a (inV_mem yes)
    have p60 := ti.sides _ _ _ _ _ _ fe
    have ple : plOf es a = pl := by unfold plOf; rw [fe]
    obtain ⟨kv2, ks2, ⟨hd2, _, _⟩, _, val2⟩ := id hds
    have dg2 : DGet H ds (.str a) (some (.int (pl : Int))) := by
      have e : sideF es a = some (.int (pl : Int)) := by unfold sideF; rw [fe]
      rw [← e, ← val2 a]
      exact DGet.k (k := .inr a) hd2
    walk_at "rd"
    refine ⟨l, _, _, .str t, rfl, rfl, SqL.of hl, at_nat (k := 1) rfl, ?_⟩
    walk_at "rd"
    refine ⟨l, _, _, .str a, rfl, rfl, SqL.of hl, at_nat (k := 0) rfl, ?_⟩
    refine ⟨ds, .int (pl : Int), rfl, dg2, ?_⟩
    walk_at "rd"
    refine ⟨t, pl, rfl, p60, b510 t (by simp), WP.ok t (by simp), fun H1 s1 => ?_⟩
    refine ⟨_, rfl, ?_⟩
    refine ite2 (fun z => ?_) (fun z => ?_)
    · have no := not_t' z
      walk_at "rd"
      exact q1 "value" (by
        show (if inV (.str a) (ns.map V.str) = true then (if fitsM t (plOf es a) = true then _ else _) else _) = _
        rw [if_pos yes, ple, no]
        rfl) H1 s1
    have yes2 := not_f z
    walk_at "rd"
    refine ⟨l, _, _, .str a, rfl, rfl, SqL.of (s1 _ _ hl), at_nat (k := 0) rfl, ?_⟩
    walk_at "rd"
    refine ⟨l, _, _, .str t, rfl, rfl, SqL.of (s1 _ _ hl), at_nat (k := 1) rfl, ?_⟩
    walk_at "rd"
    refine ⟨(by show 2 ≤ sizeLine; decide), fun pq npq => ?_⟩
    exact q2 (a, t) (by
      show (if inV (.str a) (ns.map V.str) = true then (if fitsM t (plOf es a) = true then _ else _) else _) = _
      rw [if_pos yes, ple, if_pos yes2]) pq _ (s1.trans fun b u z => (upd_ne (ne_of_none z npq)).trans z) upd_same
end
end HT
namespace HT
open PySem L2 TL
/-- the tuples stay -/
def KeepT (H H' : Hp) : Prop := ∀ b xs, H b = some (.tup xs) → H' b = some (.tup xs)
theorem KeepT.of {H H' : Hp} (s : Same H H') : KeepT H H' := fun b xs h => s b _ h
theorem keepT_upd {H : Hp} {a : Addr} {u u' : HO} (h : H a = some u') (n : ∀ xs, u' ≠ .tup xs) : KeepT H (upd H a u) := fun b xs hb => (upd_ne (fun e => by rw [e, h] at hb; exact n xs (Option.some.inj hb))).trans hb
theorem EntAt.keep {H H' : Hp} {p : Addr} {e : Ent} (h : EntAt H p e) (k : KeepT H H') : EntAt H' p e := by
  cases e with
  | side n o s m pl =>
    obtain ⟨q, a, b⟩ := h
    exact ⟨q, k _ _ a, k _ _ b⟩
  | set n ns =>
    obtain ⟨q, a, b⟩ := h
    exact ⟨q, k _ _ a, k _ _ b⟩
  | log n g ls =>
    obtain ⟨q, ps, a, b, c, d⟩ := h
    exact ⟨q, ps, k _ _ a, k _ _ b, c, fun i a l x y => k _ _ (d i a l x y)⟩
theorem RawAt.keep {H H' : Hp} {p : Addr} {e : RawE} (h : RawAt H p e) (k : KeepT H H') : RawAt H' p e := by
  cases e <;> (obtain ⟨q, a, b⟩ := h; exact ⟨q, k _ _ a, k _ _ b⟩)
theorem SidesAt.keep {H H' : Hp} {d : Addr} {es : List Ent} (h : SidesAt H d es) (e : H' d = H d) : SidesAt H' d es := let ⟨a, b, ⟨c, c2⟩, d, f⟩ := h; ⟨a, b, ⟨e.trans c, c2⟩, d, f⟩
theorem SetsAt.keep {H H' : Hp} {d : Addr} {es : List Ent} (h : SetsAt H d es) (e : H' d = H d) (k : KeepT H H') : SetsAt H' d es := let ⟨a, b, ⟨c, c2⟩, d, f⟩ := h; ⟨a, b, ⟨e.trans c, c2⟩, d, fun n g ns z => let ⟨q, x, y⟩ := f n g ns z; ⟨q, x, k _ _ y⟩⟩
theorem EntsAt.keep {H H' : Hp} {d : Addr} {es : List Ent} (h : EntsAt H d es) (e : H' d = H d) (k : KeepT H H') : EntsAt H' d es := let ⟨ps, l, c, f⟩ := h; ⟨ps, l, e.trans c, fun i p y a b => (f i p y a b).keep k⟩
def opnN : OpnS → List Str
  | none => []
  | some (n, _, _) => [n]
def LogV (H : Hp) (v : V) : OpnS → Prop
  | none => v = .non
  | some (n, g, ls) => ∃ p, v = .ref p ∧ EntAt H p (.log n g ls)
structure DueAt (H : Hp) (ds dt nm le : Addr) (v : V) (d : List Ent) (o : OpnS) : Prop where
  si : SidesAt H ds d
  se : SetsAt H dt d
  na : H nm = some (.lst ((d.map Ent.name ++ opnN o).map V.str))
  en : EntsAt H le d
  lg : LogV H v o
  n1 : ds ≠ dt
  n2 : nm ≠ le
theorem LogV.keep {H H' : Hp} {v : V} {o : OpnS} (h : LogV H v o) (k : KeepT H H') : LogV H' v o := by
  cases o with
  | none => exact h
  | some o => obtain ⟨p, a, b⟩ := h; exact ⟨p, a, b.keep k⟩
theorem DueAt.same {H H' : Hp} {ds dt nm le : Addr} {v : V} {d : List Ent} {o : OpnS} (h : DueAt H ds dt nm le v d o) (s : Same H H') : DueAt H' ds dt nm le v d o :=
  ⟨h.si.same s, h.se.same s, s _ _ h.na, h.en.same s, h.lg.keep (.of s), h.n1, h.n2⟩
theorem find_app (d : List Ent) (e : Ent) (m : Str) : findE (d ++ [e]) m = match findE d m with
    | some r => some r
    | none => if e.name = m then some e else none := by
  unfold findE
  rw [List.find?_append, List.find?_cons]
  cases List.find? (fun e => decide (e.name = m)) d with
  | some r => rfl
  | none =>
    rw [Option.none_or]
    by_cases g : e.name = m
    · rw [decide_eq_true g, if_pos g]
    · rw [decide_eq_false g, if_neg g]
      rfl
theorem kind_other {d : List Ent} {e : Ent} {k m : Str} (h : e.kind ≠ k) : kindB (d ++ [e]) k m = kindB d k m := by
  unfold kindB
  rw [find_app]
  cases findE d m with
  | some r => rfl
  | none =>
    by_cases g : e.name = m
    · rw [if_pos g]
      exact decide_eq_false h
    · rw [if_neg g]
theorem sideF_other {d : List Ent} {e : Ent} {m : Str} (h : e.kind ≠ "side") : sideF (d ++ [e]) m = sideF d m := by
  unfold sideF
  rw [find_app]
  cases findE d m with
  | some r => rfl
  | none =>
    by_cases g : e.name = m
    · rw [if_pos g]
      cases e with
      | side n o s m pl => exact absurd rfl h
      | set n ns => rfl
      | log n g ls => rfl
    · rw [if_neg g]
theorem SidesAt.other {H : Hp} {ds : Addr} {d : List Ent} {e : Ent} (h : SidesAt H ds d) (k : e.kind ≠ "side") : SidesAt H ds (d ++ [e]) := let ⟨a, b, ⟨c1, c2, c3⟩, f, g⟩ := h; ⟨a, b, ⟨c1, c2, by rw [List.length_append]; exact Nat.le_succ_of_le c3⟩, fun n => (f n).trans (kind_other k).symm, fun n => (g n).trans (sideF_other k).symm⟩
theorem SetsAt.other {H : Hp} {ds : Addr} {d : List Ent} {e : Ent} (h : SetsAt H ds d) (k : e.kind ≠ "set") : SetsAt H ds (d ++ [e]) := by
  obtain ⟨a, b, ⟨c1, c2, c3⟩, f, g⟩ := h
  refine ⟨a, b, ⟨c1, c2, by rw [List.length_append]; exact Nat.le_succ_of_le c3⟩, fun n => (f n).trans (kind_other k).symm, fun n gg ns z => ?_⟩
  rcases find_cat z with z | ⟨_, _, z⟩
  · exact g n gg ns z
  · rw [← z] at k
    exact absurd rfl k
theorem kd_side (n : Str) (o s : Int) (m : Str) (pl : Nat) : (Ent.side n o s m pl).kind ≠ "set" := (by decide +kernel : ("side" : Str) ≠ "set")
theorem kd_set (n : Str) (ns : List Str) : (Ent.set n ns).kind ≠ "side" := (by decide +kernel : ("set" : Str) ≠ "side")
theorem kd_log (n g : Str) (ls : List (Str × Str)) : (Ent.log n g ls).kind ≠ "side" ∧ (Ent.log n g ls).kind ≠ "set" := ⟨(by decide +kernel : ("log" : Str) ≠ "side"), (by decide +kernel : ("log" : Str) ≠ "set")⟩
theorem key_put {kvs : List (Key × V)} {ks : List Str} {n : Str} {v : V} (h : (kvs.map fun kv => kV kv.1) = ks.map V.str) (f : n ∉ ks) {m : Nat} (l : kvs.length ≤ m) : ((putK kvs (.inr n) v).map fun kv => kV kv.1) = (ks ++ [n]).map V.str ∧ (putK kvs (.inr n) v).length ≤ m + 1 := by
  rw [putK_new v (key_none h f), List.map_append, List.map_append, h, List.length_append]
  exact ⟨rfl, Nat.succ_le_succ l⟩
theorem kind_new {d : List Ent} {e : Ent} {k : Str} (ks : List Str) (hk : e.kind = k) (fr : findE d e.name = none) (mem : ∀ n, decide (n ∈ ks) = kindB d k n) (n : Str) : decide (n ∈ ks ++ [e.name]) = kindB (d ++ [e]) k n := by
  unfold kindB
  rw [find_app]
  have m := mem n
  unfold kindB at m
  by_cases g : e.name = n
  · rw [← g, fr, if_pos rfl]
    show _ = decide (e.kind = k)
    rw [decide_eq_true hk, decide_eq_true (by simp)]
  · have e1 : decide (n ∈ ks ++ [e.name]) = decide (n ∈ ks) := by
      rw [Bool.eq_iff_iff, decide_eq_true_iff, decide_eq_true_iff, List.mem_append, List.mem_singleton]
      exact ⟨fun h => h.elim id fun h => absurd h.symm g, .inl⟩
    rw [e1, m]
    cases findE d n with
    | some r => rfl
    | none => rw [if_neg g]
theorem ents_add {H H' : Hp} {le p : Addr} {d : List Ent} {e : Ent} {as : List V} (h : EntsAt H le d) (ha : H le = some (.lst as)) (h' : H' le = some (.lst (as ++ [.ref p]))) (k : KeepT H H') (ea : EntAt H' p e) : EntsAt H' le (d ++ [e]) := by
  obtain ⟨ps, l, hl, at_⟩ := h
  rw [hl] at ha
  injection ha with ha
  injection ha with ha
  refine ⟨ps ++ [p], by rw [List.length_append, List.length_append, l]; rfl, by rw [h', ← ha, List.map_append]; rfl, fun i y r iy ir => ?_⟩
  rcases Nat.lt_or_ge i ps.length with hi | hi
  · rw [List.getElem?_append_left hi] at iy
    rw [List.getElem?_append_left (by omega)] at ir
    exact (at_ i y r iy ir).keep k
  · rw [List.getElem?_append_right hi] at iy
    rw [List.getElem?_append_right (by omega)] at ir
    rw [l] at iy
    cases hk : i - d.length with
    | zero =>
      rw [hk] at iy ir
      cases iy
      cases ir
      exact ea
    | succ k =>
      rw [hk] at iy
      cases iy
theorem free_key {d : List Ent} {ks : List Str} {k n : Str} (mem : ∀ n, decide (n ∈ ks) = kindB d k n) (fr : findE d n = none) : n ∉ ks := fun h => by
  have := mem n
  unfold kindB at this
  rw [fr, decide_eq_true h] at this
  cases this
theorem sides_put {H H' : Hp} {ds : Addr} {d : List Ent} {n : Str} {o s : Int} {m : Str} {pl : Nat} (h : SidesAt H ds d) (fr : findE d n = none) (h' : ∀ kvs, H ds = some (.dK kvs) → H' ds = some (.dK (putK kvs (.inr n) (.int (pl : Int))))) : SidesAt H' ds (d ++ [.side n o s m pl]) := by
  obtain ⟨kvs, ks, ⟨hd, hk, hl⟩, mem, val⟩ := h
  have nk := free_key mem fr
  obtain ⟨k1, k2⟩ := key_put (v := .int (pl : Int)) hk nk hl
  refine ⟨_, ks ++ [n], ⟨h' kvs hd, k1, by rw [List.length_append]; exact k2⟩, kind_new (e := .side n o s m pl) (k := "side") ks rfl fr mem, fun x => ?_⟩
  rw [valV_put]
  unfold sideF
  rw [find_app]
  by_cases g : n = x
  · rw [if_pos (by rw [g]), ← g, fr, if_pos (show (Ent.side n o s m pl).name = n from rfl)]
  · rw [if_neg (fun z => g (Sum.inr.inj z).symm), val x]
    unfold sideF
    cases findE d x with
    | some r => rfl
    | none => rw [if_neg (show ¬ (Ent.side n o s m pl).name = x from g)]
theorem sets_put {H H' : Hp} {dt q : Addr} {d : List Ent} {n : Str} {ns : List Str} (h : SetsAt H dt d) (fr : findE d n = none) (k : KeepT H H') (hq : H' q = some (.tup (ns.map V.str))) (h' : ∀ kvs, H dt = some (.dK kvs) → H' dt = some (.dK (putK kvs (.inr n) (.ref q)))) : SetsAt H' dt (d ++ [.set n ns]) := by
  obtain ⟨kvs, ks, ⟨hd, hk, hl⟩, mem, val⟩ := h
  have nk := free_key mem fr
  obtain ⟨k1, k2⟩ := key_put (v := .ref q) hk nk hl
  refine ⟨_, ks ++ [n], ⟨h' kvs hd, k1, by rw [List.length_append]; exact k2⟩, kind_new (e := .set n ns) (k := "set") ks rfl fr mem, fun x g ns' f => ?_⟩
  rw [valV_put]
  rcases find_cat f with f | ⟨f0, e, f⟩
  · obtain ⟨q', a, b⟩ := val x g ns' f
    have ne : ¬ x = n := fun e => by rw [e, fr] at f; cases f
    rw [if_neg (fun z => ne (Sum.inr.inj z))]
    exact ⟨q', a, k _ _ b⟩
  · have e' : n = x := e
    cases f
    rw [if_pos (by rw [e'])]
    exact ⟨q, rfl, hq⟩
end HT
namespace HT
open PySem L2 TL
theorem catA_join {Q : VK} {H : Hp} {a b : Addr} {xs ys : List V} (gb : H b = some (.tup ys)) (hy : ys ≠ []) (k : ∀ (q : Addr) (H' : Hp), H' q = some (.tup (xs ++ ys)) → Same H H' → Q (.ref q) H') : (xs = [] → Q (.ref b) H) ∧ (xs ≠ [] → ys = [] → Q (.ref a) H) ∧ (xs ≠ [] → ys ≠ [] → ∀ p, H p = none → Q (.ref p) (upd H p (.tup (xs ++ ys)))) :=
  ⟨fun e => k b H (by rw [e]; exact gb) (Same.refl H), fun _ e => absurd e hy, fun _ _ p np => k p _ upd_same fun b u z => (upd_ne (ne_of_none z np)).trans z⟩
def spLDue : Sp := fun vs H Q _ => ∃ x : V, vs = [x] ∧ ((∃ n, Th H x n ∧ (n == "str") = false ∧ ∀ (p : Addr) (H' : Hp), Same H H' → H' p = some (.tup [.int 0, .str "text"]) → Q (.ref p) H') ∨ ∃ z : Str, x = .str z ∧ TextP z ∧
  (∀ es, runS (linesOf z) 0 [] none = .ok es → ∀ (p le : Addr) (H' : Hp), Same H H' → H' p = some (.tup [.str "right", .ref le]) → EntsAt H' le es → Q (.ref p) H') ∧
  (∀ i r, runS (linesOf z) 0 [] none = .error (i, r) → ∀ (p : Addr) (H' : Hp), Same H H' → H' p = some (.tup [.int (i : Int), .str r]) → Q (.ref p) H'))
section
variable {P : Program} {w : World} {K : PySem.W.Frag} {mg : Str → Option Value} {base : Heap} {aN f1 f2 f3 f4 f5 : Addr} {d1 d2 d3 d4 d5 : FuncData}
theorem ok_L_due {f : Addr} {fd : FuncData} (F : Fun K "_law_due" "_law_due" s_L_due f fd) (T : LwT mg) (St : Cal P w K mg base "_law_started" 4 ["_law_words", "_law_sides", "_law_sets", "_law_names"] spLStart f1 d1) (Ro : Cal P w K mg base "_law_log_line" 2 ["_law_words", "_law_log", "_law_sides", "_law_sets"] spLRow f2 d2) : FnOk P w K mg base CX0 5 f fd ["_law_text_here"] spLDue := by
  refine F.ok sc_L_due (fun vs H Q E h => ?_) (fun cdv A outer s0 H vs Q E hr h => ?_)
  · obtain ⟨x, rfl, _⟩ := h
    rfl
  · obtain ⟨x, rfl, h⟩ := h
    have nd := sc_L_due.nd
    refine ⟨_, (pss_cons (ps_if (pt_not (pt_val (pe_callB call_isi (by rfl) T.isi (by decide +kernel) (pa_cons (pv 0) (pa_cons (pe_bltn (v := .ty "str") (by rfl) T.str (by decide +kernel) rfl) pa_nil))))) (pss_one (ps_ret (pe_tup (pa_cons pe_int (pa_cons pe_str pa_nil))))) pss_nil)
      (pss_cons (ps_asg (pe_tup (pa_cons pe_dnewK (pa_cons pe_dnewK (pa_cons (pe_lst pa_nil) (pa_cons (pe_lst pa_nil) (pa_cons pe_non pa_nil)))))) (pg_tup (by rfl) (pgs_cons (pg_name (i := 1) nd rfl (Or.inl rfl)) (pgs_cons (pg_name (i := 2) nd rfl (Or.inl rfl)) (pgs_cons (pg_name (i := 3) nd rfl (Or.inl rfl)) (pgs_cons (pg_name (i := 4) nd rfl (Or.inl rfl)) (pgs_cons (pg_name (i := 5) nd rfl (Or.inl rfl)) pgs_nil)))))))
      (pss_cons (ps_set (i := 6) nd rfl (Or.inl rfl) (pe_bm PySem.F.plainAttrs_str PySem.F.slot_str_split PySem.F.type_str_split mt_split (pv 0) (pa_cons pe_str pa_nil)))
      (pss_cons (ps_for PassesOwn.never rfl (pi_range1 (by rfl) T.range (pa_cons (pe_callB call_len_seq (by rfl) T.len PySem.boot_len (pa_cons (pv 6) pa_nil)) pa_nil)) (pg_name (i := 7) nd rfl (Or.inl rfl)) (pss_cons (ps_setLc (i := 9) (own := [("_law_word", 8)]) (g := gName 8) rfl nd rfl rfl (sw_true rfl rfl rfl (by decide +kernel)) (pi_list (pe_bm PySem.F.plainAttrs_str PySem.F.slot_str_split PySem.F.type_str_split mt_split (pe_ix ix_list (pv 6) (pv 7) (fun _ _ => rfl)) (pa_cons pe_str pa_nil))) (blkOk_by (N := ["_law_text_here", "_law_sides", "_law_sets", "_law_names", "_law_entries_here", "_law_log", "_law_lines", "_law_number_here", "_law_word", "_law_words", "_law_told_here"]) (sc := defScope s_L_due) (by decide +kernel)) (fun _ _ _ _ _ => pg_name (i := 8) nd rfl (Or.inl rfl)) (fun _ _ _ _ _ => (pts_one (pt_cmpR op_ne (pv 8) pe_str (nomark _)))) (fun _ _ _ _ _ => (pv 8)))
      (pss_cons (ps_set (i := 10) nd rfl (Or.inl rfl) pe_non)
      (pss_one (ps_if (pt_mid (PW.pt (pw_and (pt_cmpR (op_eqD hr.units) (pv 9) (pe_lst (pa_cons pe_str pa_nil)) (nomark _)) (pw_and1 (pt_cmpR op_notN (pv 5) pe_non (nomark _)))))) (pss_cons (ps_if (pt_cmpR op_gt (pe_callB call_len_seq (by rfl) T.len PySem.boot_len (pa_cons (pe_ix ix_tup (pv 5) pe_int (fun _ _ => rfl)) pa_nil)) pe_int (nomark _)) (pss_one (ps_ret (pe_tup (pa_cons (pv 7) (pa_cons pe_str pa_nil))))) pss_nil)
      (pss_cons (ps_expr (pe_bm PySem.F.plainAttrs_list PySem.F.slot_list_append PySem.F.type_list_append mt_append (pv 4) (pa_cons (pv 5) pa_nil)))
      (pss_one (ps_set (i := 5) nd rfl (Or.inl rfl) pe_non)))) (pss_one (ps_if (pt_mid (PW.pt (pw_and (pt_cmpR (op_neD hr.units) (pv 9) (pe_lst pa_nil) (nomark _)) (pw_and1 (pt_cmpR op_notN (pv 5) pe_non (nomark _)))))) (pss_cons (ps_set (i := 10) nd rfl (Or.inl rfl) (pcl Ro hr (by decide) (by rfl) (pa_cons (pv 9) (pa_cons (pv 5) (pa_cons (pv 1) (pa_cons (pv 2) pa_nil))))))
      (pss_cons (ps_if (pt_val (pe_callB call_isi (by rfl) T.isi (by decide +kernel) (pa_cons (pv 10) (pa_cons (pe_bltn (v := .ty "str") (by rfl) T.str (by decide +kernel) rfl) pa_nil)))) (pss_one (ps_ret (pe_tup (pa_cons (pv 7) (pa_cons (pv 10) pa_nil))))) pss_nil)
      (pss_one (ps_set (i := 5) nd rfl (Or.inl rfl) (pe_op op_catT (pe_slice sl_tup (pv 5) po_none (po_some pe_int)) (pe_tup (pa_cons (pe_op op_catA (pe_ix ix_tup (pv 5) pe_int (fun _ _ => rfl)) (pe_tup (pa_cons (pv 10) pa_nil))) pa_nil))))))) (pss_one (ps_if (pt_cmpR (op_neD hr.units) (pv 9) (pe_lst pa_nil) (nomark _)) (pss_cons (ps_set (i := 10) nd rfl (Or.inl rfl) (pcl St hr (by decide) (by rfl) (pa_cons (pv 9) (pa_cons (pv 1) (pa_cons (pv 2) (pa_cons (pv 3) pa_nil))))))
      (pss_cons (ps_if (pt_val (pe_callB call_isi (by rfl) T.isi (by decide +kernel) (pa_cons (pv 10) (pa_cons (pe_bltn (v := .ty "str") (by rfl) T.str (by decide +kernel) rfl) pa_nil)))) (pss_one (ps_ret (pe_tup (pa_cons (pv 7) (pa_cons (pv 10) pa_nil))))) pss_nil)
      (pss_cons (ps_expr (pe_bm PySem.F.plainAttrs_list PySem.F.slot_list_append PySem.F.type_list_append mt_append (pv 3) (pa_cons (pe_ix ix_tup (pv 10) pe_int (fun _ _ => rfl)) pa_nil)))
      (pss_cons (ps_if (pt_cmpR op_eq (pe_ix ix_tup (pv 10) pe_int (fun _ _ => rfl)) pe_str (nomark _)) (pss_one (ps_dput (lt1 hr.units) (pv 1) (pe_ix ix_tup (pv 10) pe_int (fun _ _ => rfl)) (pe_ix ix_tup (pv 10) pe_int (fun _ _ => rfl)) rfl)) pss_nil)
      (pss_cons (ps_if (pt_cmpR op_eq (pe_ix ix_tup (pv 10) pe_int (fun _ _ => rfl)) pe_str (nomark _)) (pss_one (ps_dput (lt1 hr.units) (pv 2) (pe_ix ix_tup (pv 10) pe_int (fun _ _ => rfl)) (pe_ix ix_tup (pv 10) pe_int (fun _ _ => rfl)) rfl)) pss_nil)
      (pss_one (ps_if (pt_cmpR op_eq (pe_ix ix_tup (pv 10) pe_int (fun _ _ => rfl)) pe_str (nomark _)) (pss_one (ps_set (i := 5) nd rfl (Or.inl rfl) (pv 10))) (pss_one (ps_expr (pe_bm PySem.F.plainAttrs_list PySem.F.slot_list_append PySem.F.type_list_append mt_append (pv 4) (pa_cons (pv 10) pa_nil))))))))))) pss_nil)))))))))
      (pss_cons (ps_if (pt_cmpR op_notN (pv 5) pe_non (nomark _)) (pss_one (ps_ret (pe_tup (pa_cons (pe_callB call_len_seq (by rfl) T.len PySem.boot_len (pa_cons (pv 6) pa_nil)) (pa_cons pe_str pa_nil))))) pss_nil)
      (pss_one (ps_ret (pe_tup (pa_cons pe_str (pa_cons (pv 4) pa_nil)))))))))), ?_⟩
    rcases h with ⟨n, t, hn, er⟩ | ⟨z, rfl, TP, ok, er⟩
    · walk_at "rd"
      refine ⟨_, _, _, _, _, rfl, .ty "str", t.ty, t.kstr, ?_⟩
      walk_at "rd"
      refine ite2 (fun _ => ?_) (fun x => absurd (by rw [hn]; rfl) x)
      walk_at "rd"
      refine ⟨(by show 2 ≤ sizeLine; decide), fun p np => ?_⟩
      exact er p _ (fun b u z => (upd_ne (ne_of_none z np)).trans z) upd_same
    walk_at "rd"
    refine ⟨_, _, _, _, _, rfl, .ty "str", .base (.str z), kit_ty (r := true) (by decide +kernel), ?_⟩
    walk_at "rd"
    refine ite2 (fun z => absurd z (by decide)) (fun _ => ?_)
    walk_at "rd"
    intro ds nds
    generalize e1 : upd H ds _ = H1
    have g1 : H1 ds = some (.dK []) := by rw [← e1]; exact upd_same
    have s1 : Same H H1 := by rw [← e1]; exact fun b u z => (upd_ne (ne_of_none z nds)).trans z
    clear e1
    walk_at "rd"
    intro dt ndt
    generalize e2 : upd H1 dt _ = H2
    have g2 : H2 dt = some (.dK []) := by rw [← e2]; exact upd_same
    have s2 : Same H1 H2 := by rw [← e2]; exact fun b u z => (upd_ne (ne_of_none z ndt)).trans z
    clear e2
    walk_at "rd"
    refine ⟨(by show 0 ≤ sizeLine; decide), fun nm nnm => ?_⟩
    generalize e3 : upd H2 nm _ = H3
    have g3 : H3 nm = some (.lst []) := by rw [← e3]; exact upd_same
    have s3 : Same H2 H3 := by rw [← e3]; exact fun b u z => (upd_ne (ne_of_none z nnm)).trans z
    clear e3
    walk_at "rd"
    refine ⟨(by show 0 ≤ sizeLine; decide), fun le nle => ?_⟩
    generalize e4 : upd H3 le _ = H4
    have g4 : H4 le = some (.lst []) := by rw [← e4]; exact upd_same
    have s4 : Same H3 H4 := by rw [← e4]; exact fun b u z => (upd_ne (ne_of_none z nle)).trans z
    clear e4
    walk_at "rd"
    refine ⟨(by show 5 ≤ sizeLine; decide), fun t5 nt5 => ?_⟩
    generalize e5 : upd H4 t5 _ = H5
    have g5 : H5 t5 = some (.tup [.ref ds, .ref dt, .ref nm, .ref le, .non]) := by rw [← e5]; exact upd_same
    have s5 : Same H4 H5 := by rw [← e5]; exact fun b u z => (upd_ne (ne_of_none z nt5)).trans z
    clear e5
    walk_at "rd"
    refine ⟨t5, _, rfl, SqT.of g5, rfl, _, _, rfl, _, _, rfl, _, _, rfl, _, _, rfl, _, _, rfl, rfl, ?_⟩
    walk_at "rd"
    refine ⟨rfl, ?_⟩
    walk_at "rd"
    refine ⟨by decide +kernel, Nat.le_trans (by have := TP.l; omega : z.length + 2 ≤ 16000002) (by decide), fun L nL => ?_⟩
    obtain ⟨ys, hys⟩ : ∃ ys, ys = Txt.split z (Str.ofString "\n") := ⟨_, rfl⟩
    have yl := TP.y
    have yn := TP.n
    unfold linesOf at ok er
    rw [← hys]
    change ∀ es, runS ((Txt.split z (Str.ofString "\n")).map wordsOfL) 0 [] none = .ok es → _ at ok
    change ∀ i r, runS ((Txt.split z (Str.ofString "\n")).map wordsOfL) 0 [] none = .error (i, r) → _ at er
    change ∀ y ∈ Txt.split z (Str.ofString "\n"), _ at yl
    change (Txt.split z (Str.ofString "\n")).length ≤ 900 at yn
    rw [← hys] at ok er yl yn
    clear hys
    generalize e6 : upd H5 L _ = H6
    have g6 : H6 L = some (.lst (ys.map V.str)) := by rw [← e6]; exact upd_same
    have s6 : Same H5 H6 := by rw [← e6]; exact fun b u y => (upd_ne (ne_of_none y nL)).trans y
    clear e6
    have s26 := s3.trans (s4.trans (s5.trans s6))
    have s06 := s1.trans (s2.trans s26)
    have fds : H ds = none := nds
    have fdt : H dt = none := s1.free ndt
    have fnm : H nm = none := (s1.trans s2).free nnm
    have fle : H le = none := (s1.trans (s2.trans s3)).free nle
    have nd1 : ds ≠ dt := fun e => by rw [← e, g1] at ndt; cases ndt
    have nd2 : nm ≠ le := fun e => by rw [← e, g3] at nle; cases nle
    have nd3 : L ≠ nm := fun e => by rw [e, s5 _ _ (s4 _ _ g3)] at nL; cases nL
    have nd4 : L ≠ le := fun e => by rw [e, s5 _ _ g4] at nL; cases nL
    have tied0 : Tied [] := ⟨(fun g g2 ns h => by cases h), (fun x n o s m pl h => by cases h)⟩
    have D0 : DueAt H6 ds dt nm le .non [] none := ⟨⟨[], [], ⟨s2.trans s26 _ _ g1, rfl, Nat.le_refl _⟩, fun _ => rfl, fun _ => rfl⟩, ⟨[], [], ⟨s26 _ _ g2, rfl, Nat.le_refl _⟩, fun _ => rfl, fun _ _ _ h => by cases h⟩, s4.trans (s5.trans s6) _ _ g3, ⟨[], rfl, s5.trans s6 _ _ g4, fun i p e a _ => by cases a⟩, rfl, nd1, nd2⟩
    walk_at "rd"
    refine ⟨L, _, rfl, .inl (SqL.of g6), ?_⟩
    rw [List.length_map]
    walk_at "rd"
    refine ⟨by omega, by omega, ?_⟩
    rw [Int.toNat_natCast]
    refine for_range (n := ys.length) (fun i st H3 => ∃ (v : V) (x7 x9 x10 : Option V) (d : List Ent) (o : OpnS), st = [some (.str z), some (.ref ds), some (.ref dt), some (.ref nm), some (.ref le), some v, some (.ref L), x7, none, x9, x10] ∧ DueAt H3 ds dt nm le v d o ∧ Tied d ∧ OpnOk d o ∧ d.length ≤ i ∧ opnLen o ≤ i ∧ runS (ys.map wordsOfL) 0 [] none = runS ((ys.drop i).map wordsOfL) i d o ∧ H3 L = some (.lst (ys.map V.str)) ∧ Same H H3)
      ⟨.non, none, none, none, [], none, rfl, D0, tied0, trivial, Nat.le_refl _, Nat.le_refl _, rfl, g6, s06⟩ ?_ ?_
    · rintro i st H7 hi ⟨v, x7, x9, x10, d, o, rfl, Du, ti, oo, dl, ol, rn, hL, sm⟩
      obtain ⟨y, ey⟩ : ∃ y, ys[i]? = some y := ⟨_, List.getElem?_eq_getElem hi⟩
      obtain ⟨yl1, yl2, WP⟩ := yl y (List.mem_of_getElem? ey)
      rw [show ((0 : Int) + (i : Int)) = (i : Int) from Int.zero_add _]
      walk_at "rd"
      refine ⟨L, _, _, .str y, rfl, rfl, SqL.of hL, at_nat (k := i) (by rw [List.getElem?_map, ey]; rfl), ?_⟩
      walk_at "rd"
      refine ⟨rfl, ?_⟩
      walk_at "rd"
      refine ⟨by decide +kernel, Nat.le_trans (by omega : y.length + 2 ≤ 16000002) (by decide), fun S nS => ?_⟩
      generalize e8 : upd H7 S _ = H8
      have g8 : H8 S = some (.lst ((Txt.split y (Str.ofString " ")).map V.str)) := by rw [← e8]; exact upd_same
      have s8 : Same H7 H8 := by rw [← e8]; exact fun b u y => (upd_ne (ne_of_none y nS)).trans y
      clear e8
      refine ⟨S, rfl, ⟨_, SqL.of g8⟩, fun Wd nW => ?_⟩
      refine lc_it (walk_list (K := K) (a := S) (xs := (Txt.split y (Str.ofString " ")).map V.str)) (fun j H9 => H9 Wd = some (.lst ((((Txt.split y (Str.ofString " ")).take j).filter fun z => decide (z ≠ ("" : Str))).map V.str)) ∧ Same H8 H9) ⟨upd_same, fun b u z => (upd_ne (ne_of_none z nW)).trans z⟩ (fun _ _ _ ⟨_, s3⟩ => SqL.of (s3 _ _ g8)) ?_ ?_
      · rintro j yy H9 HA hj ⟨hW, s9⟩ ⟨rfl, eyy⟩
        rw [List.getElem?_map] at eyy
        obtain ⟨wd, ew, rfl⟩ := Option.map_eq_some_iff.mp eyy
        rw [List.length_map] at hj
        refine ⟨rfl, ?_⟩
        walk_at "rd"
        refine ⟨rfl, _, rfl, ?_⟩
        have tk : (((Txt.split y (Str.ofString " ")).take (j + 1)).filter fun z => decide (z ≠ ("" : Str))) = (((Txt.split y (Str.ofString " ")).take j).filter fun z => decide (z ≠ ("" : Str))) ++ (if wd = ("" : Str) then [] else [wd]) := by
          rw [List.take_succ, ew, List.filter_append]
          congr 1
          show List.filter _ [wd] = _
          by_cases e : wd = ("" : Str)
          · rw [List.filter_cons, if_neg (by simp [e]), if_pos e]
            rfl
          · rw [List.filter_cons, if_pos (by simp [e]), if_neg e]
            rfl
        refine ite2 (fun b => ?_) (fun b => ?_)
        · have e : ¬ wd = ("" : Str) := fun e => by rw [e] at b; exact absurd b (by decide +kernel)
          walk_at "rd"
          refine ⟨_, hW, ?_, ?_, fun b u z => (upd_ne (ne_of_none z nW)).trans (s9 _ _ z)⟩
          · rw [List.length_map]
            refine Nat.lt_of_le_of_lt (List.length_filter_le _ _) ?_
            rw [List.length_take]
            have yl2' : (Txt.split y (Str.ofString " ")).length ≤ 1000000 := yl2
            exact Nat.lt_of_le_of_lt (by omega : _ ≤ 1000000) (by decide)
          · rw [tk, if_neg e, List.map_append]
            exact upd_same
        · have e : wd = ("" : Str) := by
            by_cases e : wd = ("" : Str)
            · exact e
            · exact absurd (by rw [decide_eq_false fun z => e (V.str.inj z)]; rfl) b
          rw [tk, if_pos e, List.append_nil]
          exact ⟨hW, s9⟩
      rintro H9 ⟨hW, s9⟩
      rw [List.length_map, List.take_length] at hW
      have hW2 : H9 Wd = some (.lst ((wordsOfL y).map V.str)) := hW
      have s79 := s8.trans s9
      have dr : ys.drop i = y :: ys.drop (i + 1) := by
        rw [List.drop_eq_getElem_cons hi]
        congr 1
        exact (List.getElem?_eq_some_iff.mp ey).2
      rw [dr, List.map_cons] at rn
      have nWn : Wd ≠ nm := fun e => by
        rw [e, s8 _ _ Du.na] at nW
        cases nW
      have nWe : Wd ≠ le := fun e => by
        obtain ⟨_, _, q1, _⟩ := Du.en
        rw [e, s8 _ _ q1] at nW
        cases nW
      have Du9 := Du.same s79
      have hL9 := s79 _ _ hL
      have sm9 := sm.trans s79
      clear Du hL sm hW s79 s9 s8 g8 nS nW tied0 D0
      generalize wordsOfL y = ws at rn hW2 WP
      have sh := words_shaped WP.ok
      have nz : (!decide (v = V.non)) = o.isSome := by
        have lg := Du9.lg
        cases o with
        | none => rw [show v = .non from lg]; rfl
        | some o => obtain ⟨p, rfl, _⟩ := lg; rfl
      walk_at "rd"
      refine ⟨fun b H' => b = (decide (ws = [("end" : Str)]) && o.isSome) ∧ Same H9 H', ?_, ?_⟩
      · walk_at "rd"
        refine ⟨(by show 1 ≤ sizeLine; decide), fun e1 ne1 => ?_⟩
        generalize ee1 : upd H9 e1 _ = HA
        have gA : HA e1 = some (.lst [.str "end"]) := by rw [← ee1]; exact upd_same
        have sA : Same H9 HA := by rw [← ee1]; exact fun b u z => (upd_ne (ne_of_none z ne1)).trans z
        clear ee1
        refine ⟨_, _, .lst (SqL.of (sA _ _ hW2)) (dp_words ws), .lst (SqL.of gA) (.cons (.str _) .nil), sh, by decide +kernel, ?_⟩
        have ev1 : PyData.eqv (.list (ws.map PyData.str)) (.list [.str "end"]) = decide (ws = [("end" : Str)]) := eqv_words ws [("end" : Str)]
        rw [ev1]
        refine ⟨_, rfl, ?_⟩
        refine ite2 (fun z => ?_) (fun z => ?_)
        · walk_at "rd"
          refine ⟨rfl, _, rfl, ?_⟩
          rw [nz, of_decide_eq_true z]
          exact ⟨rfl, sA⟩
        · have f : decide (ws = [("end" : Str)]) = false := by
            cases hh : decide (ws = [("end" : Str)]) with
            | false => rfl
            | true => exact absurd hh z
          rw [f]
          exact ⟨rfl, sA⟩
      rintro b HA ⟨rfl, sA⟩
      have DuA := Du9.same sA
      have hWA := sA _ _ hW2
      have hLA := sA _ _ hL9
      have smA := sm9.trans sA
      have rnE : ∀ r, stepS d o ws = .error r → runS (ys.map wordsOfL) 0 [] none = .error (i, r) := fun r h => by
        rw [rn]
        show (match stepS d o ws with | .error r => _ | .ok (es', o') => _) = _
        rw [h]
      have rnO : ∀ d' o', stepS d o ws = .ok (d', o') → runS (ys.map wordsOfL) 0 [] none = runS ((ys.drop (i + 1)).map wordsOfL) (i + 1) d' o' := fun d' o' h => by
        rw [rn]
        show (match stepS d o ws with | .error r => _ | .ok (es', o') => _) = _
        rw [h]
      have sok := fun d' o' h => step_ok (es' := d') (o' := o') (ws := ws) ti oo ol (by omega : i + 1 ≤ 1000) h
      clear Du9 hW2 hL9 sm9 sA
      refine ite2 (fun he => ?_) (fun he => ?_)
      · rw [Bool.and_eq_true, decide_eq_true_iff] at he
        obtain ⟨ee, os⟩ := he
        cases o with
        | none => cases os
        | some o =>
          obtain ⟨n, g, ls⟩ := o
          obtain ⟨p, rfl, q, ps, hp, hq, lps, at_⟩ := id DuA.lg
          subst ee
          have st : stepS d (some (n, g, ls)) [("end" : Str)] = if 50 < ls.length then .error "value" else .ok (d ++ [.log n g ls], none) := by
            show (if [("end" : Str)] = [] then _ else if [("end" : Str)] = [("end" : Str)] then _ else _) = _
            rw [if_neg (by simp), if_pos rfl]
          walk_at "rd"
          refine ⟨p, _, _, .ref q, rfl, rfl, SqT.of hp, at_nat (k := 3) rfl, ?_⟩
          walk_at "rd"
          refine ⟨q, _, rfl, .inr (SqT.of hq), ?_⟩
          rw [List.length_map, lps]
          walk_at "rd"
          refine ite2 (fun h50 => ?_) (fun h50 => ?_)
          · have g50 : 50 < ls.length := by have := of_decide_eq_true h50; omega
            walk_at "rd"
            refine ⟨(by show 2 ≤ sizeLine; decide), fun p np => ?_⟩
            exact er i "value" (rnE _ (by rw [st, if_pos g50])) p _ (smA.trans fun b u z => (upd_ne (ne_of_none z np)).trans z) upd_same
          have g50 : ¬ 50 < ls.length := fun x => h50 (decide_eq_true (by omega))
          rw [if_neg g50] at st
          obtain ⟨es, les, hle, ates⟩ := id DuA.en
          walk_at "rd"
          refine ⟨.inl ⟨rfl, _, SqL.of hle⟩, ?_⟩
          walk_at "rd"
          refine ⟨le, _, _, rfl, rfl, hle, (by rw [List.length_map, les]; exact Nat.lt_of_le_of_lt (by omega : _ ≤ 1000) (by decide)), ?_⟩
          generalize e3 : upd HA le _ = HF
          have gF : HF le = some (.lst (es.map V.ref ++ [.ref p])) := by rw [← e3]; exact upd_same
          have oF : ∀ b, b ≠ le → HF b = HA b := fun b hb => by rw [← e3]; exact upd_ne hb
          have tF : KeepT HA HF := by rw [← e3]; exact keepT_upd hle (fun xs z => by cases z)
          clear e3
          walk_at "rd"
          obtain ⟨ti', oo', dl', ol'⟩ := sok _ _ st
          obtain ⟨kk1, _, ⟨hd1, _⟩, _⟩ := id DuA.si
          obtain ⟨kk2, _, ⟨hd2, _⟩, _⟩ := id DuA.se
          have n1 : ds ≠ le := ne_of hd1 hle (by intro z; cases z)
          have n2 : dt ≠ le := ne_of hd2 hle (by intro z; cases z)
          refine ⟨_, _, _, _, d ++ [.log n g ls], none, rfl, ⟨(DuA.si.keep (oF _ n1)).other (kd_log n g ls).1, (DuA.se.keep (oF _ n2) tF).other (kd_log n g ls).2, ?_, ents_add DuA.en hle gF tF (EntAt.keep (e := .log n g ls) ⟨q, ps, hp, hq, lps, at_⟩ tF), rfl, nd1, nd2⟩, ti', oo', by omega, ol', rnO _ _ st, (oF _ nd4).trans hLA, fun b u z => (oF b (ne_of_none z fle)).trans (smA _ _ z)⟩
          rw [oF _ nd2, DuA.na, List.map_append]
          simp [opnN, Ent.name]
      · walk_at "rd"
        refine ⟨fun b H' => b = (decide (¬ ws = []) && o.isSome) ∧ Same HA H', ?_, ?_⟩
        · walk_at "rd"
          refine ⟨(by show 0 ≤ sizeLine; decide), fun e1 ne1 => ?_⟩
          generalize ee1 : upd HA e1 _ = HB
          have gB : HB e1 = some (.lst []) := by rw [← ee1]; exact upd_same
          have sB : Same HA HB := by rw [← ee1]; exact fun b u z => (upd_ne (ne_of_none z ne1)).trans z
          clear ee1
          refine ⟨_, _, .lst (SqL.of (sB _ _ hWA)) (dp_words ws), .lst (SqL.of gB) .nil, sh, by decide +kernel, ?_⟩
          have ev1 : PyData.eqv (.list (ws.map PyData.str)) (.list []) = decide (ws = []) := eqv_words ws []
          rw [ev1]
          refine ⟨_, rfl, ?_⟩
          refine ite2 (fun z => ?_) (fun z => ?_)
          · walk_at "rd"
            refine ⟨rfl, _, rfl, ?_⟩
            rw [nz, decide_eq_true (of_decide_eq_false (not_t' z))]
            exact ⟨rfl, sB⟩
          · rw [decide_eq_false (fun x => x (of_decide_eq_true (not_f z)))]
            exact ⟨rfl, sB⟩
        rintro b HB ⟨rfl, sB⟩
        have DuB := DuA.same sB
        have hWB := sB _ _ hWA
        have hLB := sB _ _ hLA
        have smB := smA.trans sB
        clear DuA hWA hLA smA sB
        refine ite2 (fun hl => ?_) (fun hl => ?_)
        · rw [Bool.and_eq_true, decide_eq_true_iff] at hl
          obtain ⟨wne, os⟩ := hl
          cases o with
          | none => cases os
          | some o =>
            obtain ⟨n, g, ls⟩ := o
            obtain ⟨p, rfl, q, ps, hp, hq, lps, at_⟩ := id DuB.lg
            obtain ⟨fn, ⟨g2, ns, fg⟩, ll1⟩ := id oo
            have nwe : ¬ ws = [("end" : Str)] := fun x => he (by rw [decide_eq_true x]; rfl)
            have st : stepS d (some (n, g, ls)) ws = (match rowB d g ws with | .error r => .error r | .ok l => .ok (d, some (n, g, ls ++ [l]))) := by
              show (if ws = [] then _ else if ws = [("end" : Str)] then _ else _) = _
              rw [if_neg wne, if_neg nwe]
              all_goals (cases rowB d g ws <;> rfl)
            walk_at "rd"
            refine ⟨Wd, p, ds, dt, .ref q, n, g, g2, ns, ws, d, rfl, hWB, WP, hp, DuB.si, DuB.se, fg, ti, fun r rb HC sC => ?_, fun y' rb pt HC sC hpt => ?_⟩
            · walk_at "rd"
              refine ⟨_, _, _, _, _, rfl, .ty "str", .base (.str r), kit_ty (r := true) (by decide +kernel), ?_⟩
              walk_at "rd"
              refine ⟨(by show 2 ≤ sizeLine; decide), fun p np => ?_⟩
              exact er i r (rnE _ (by rw [st, rb])) p _ ((smB.trans sC).trans fun b u z => (upd_ne (ne_of_none z np)).trans z) upd_same
            · walk_at "rd"
              refine ⟨_, _, _, _, _, rfl, .ty "str", .base (.tup hpt), kit_ty (r := false) (by decide +kernel), ?_⟩
              walk_at "rd"
              refine ⟨p, _, rfl, SqT.of (sC _ _ hp), (fun z => absurd z.2 (show ¬ sIx 4 4 (some 3) = 4 by decide)), fun q3 nq3 => ?_⟩
              generalize e_1 : upd HC q3 _ = HD
              have g_1 : HD q3 = some (.tup [.str "log", .str n, .str g]) := by rw [← e_1]; exact upd_same
              have s_1 : Same HC HD := by rw [← e_1]; exact fun b u z => (upd_ne (ne_of_none z nq3)).trans z
              clear e_1
              walk_at "rd"
              refine ⟨p, _, _, .ref q, rfl, rfl, SqT.of (s_1 _ _ (sC _ _ hp)), at_nat (k := 3) rfl, ?_⟩
              walk_at "rd"
              refine ⟨(by show 1 ≤ sizeLine; decide), fun t1 nt1 => ?_⟩
              generalize e_2 : upd HD t1 _ = HE
              have g_2 : HE t1 = some (.tup [.ref pt]) := by rw [← e_2]; exact upd_same
              have s_2 : Same HD HE := by rw [← e_2]; exact fun b u z => (upd_ne (ne_of_none z nt1)).trans z
              clear e_2
              refine ⟨q, t1, _, _, rfl, rfl, SqT.of (s_2 _ _ (s_1 _ _ (sC _ _ hq))), SqT.of g_2, (by rw [List.length_map, lps]; exact Nat.le_trans (by simp; omega : _ ≤ 1001) (by decide)), ?_⟩
              refine ⟨fun e => ?_, fun _ z => absurd z (by simp), fun _ _ q4 nq4 => ?_⟩
              · have g_3 : HE t1 = some (.tup (ps.map V.ref ++ [.ref pt])) := by rw [e]; exact g_2
                have s_3 : Same HE HE := Same.refl _
                walk_at "rd"
                refine ⟨(by show 1 ≤ sizeLine; decide), fun t2 nt2 => ?_⟩
                generalize e_4 : upd HE t2 _ = HG
                have g_4 : HG t2 = some (.tup [.ref t1]) := by rw [← e_4]; exact upd_same
                have s_4 : Same HE HG := by rw [← e_4]; exact fun b u z => (upd_ne (ne_of_none z nt2)).trans z
                clear e_4
                refine ⟨q3, t2, _, _, rfl, rfl, SqT.of (s_4 _ _ (s_3 _ _ (s_2 _ _ g_1))), SqT.of g_4, (by simp), (by show 4 ≤ sizeLine; decide), (fun z => by cases z), fun _ q5 nq5 => ?_⟩
                generalize e_5 : upd HG q5 _ = HH
                have g_5 : HH q5 = some (.tup [.str "log", .str n, .str g, .ref t1]) := by rw [← e_5]; exact upd_same
                have s_5 : Same HG HH := by rw [← e_5]; exact fun b u z => (upd_ne (ne_of_none z nq5)).trans z
                clear e_5
                walk_at "rd"
                have okS : stepS d (some (n, g, ls)) ws = .ok (d, some (n, g, ls ++ [y'])) := by rw [st, rb]
                obtain ⟨ti', oo', dl', ol'⟩ := sok _ _ okS
                have sCH : Same HC HH := s_1.trans (s_2.trans (s_3.trans (s_4.trans s_5)))
                have sBH : Same HB HH := sC.trans sCH
                have DuH := DuB.same sBH
                refine ⟨_, _, _, _, d, some (n, g, ls ++ [y']), rfl, ⟨DuH.si, DuH.se, DuH.na, DuH.en, ⟨q5, rfl, t1, ps ++ [pt], g_5, s_5 _ _ (s_4 _ _ (by rw [List.map_append]; exact g_3)), by rw [List.length_append, List.length_append, lps]; rfl, fun j a l ja jl => ?_⟩, nd1, nd2⟩, ti', oo', by omega, ol', rnO _ _ okS, sBH _ _ hLB, smB.trans sBH⟩
                rcases Nat.lt_or_ge j ps.length with hj | hj
                · rw [List.getElem?_append_left hj] at ja
                  rw [List.getElem?_append_left (by omega)] at jl
                  exact sBH _ _ (at_ j a l ja jl)
                · rw [List.getElem?_append_right hj] at ja
                  rw [List.getElem?_append_right (by omega)] at jl
                  rw [lps] at ja
                  cases hk : j - ls.length with
                  | zero =>
                    rw [hk] at ja jl
                    cases ja
                    cases jl
                    exact sCH _ _ hpt
                  | succ k =>
                    rw [hk] at ja
                    cases ja
              · generalize e_3 : upd HE q4 _ = HF
                have g_3 : HF q4 = some (.tup (ps.map V.ref ++ [.ref pt])) := by rw [← e_3]; exact upd_same
                have s_3 : Same HE HF := by rw [← e_3]; exact fun b u z => (upd_ne (ne_of_none z nq4)).trans z
                clear e_3
                walk_at "rd"
                refine ⟨(by show 1 ≤ sizeLine; decide), fun t2 nt2 => ?_⟩
                generalize e_4 : upd HF t2 _ = HG
                have g_4 : HG t2 = some (.tup [.ref q4]) := by rw [← e_4]; exact upd_same
                have s_4 : Same HF HG := by rw [← e_4]; exact fun b u z => (upd_ne (ne_of_none z nt2)).trans z
                clear e_4
                refine ⟨q3, t2, _, _, rfl, rfl, SqT.of (s_4 _ _ (s_3 _ _ (s_2 _ _ g_1))), SqT.of g_4, (by simp), (by show 4 ≤ sizeLine; decide), (fun z => by cases z), fun _ q5 nq5 => ?_⟩
                generalize e_5 : upd HG q5 _ = HH
                have g_5 : HH q5 = some (.tup [.str "log", .str n, .str g, .ref q4]) := by rw [← e_5]; exact upd_same
                have s_5 : Same HG HH := by rw [← e_5]; exact fun b u z => (upd_ne (ne_of_none z nq5)).trans z
                clear e_5
                walk_at "rd"
                have okS : stepS d (some (n, g, ls)) ws = .ok (d, some (n, g, ls ++ [y'])) := by rw [st, rb]
                obtain ⟨ti', oo', dl', ol'⟩ := sok _ _ okS
                have sCH : Same HC HH := s_1.trans (s_2.trans (s_3.trans (s_4.trans s_5)))
                have sBH : Same HB HH := sC.trans sCH
                have DuH := DuB.same sBH
                refine ⟨_, _, _, _, d, some (n, g, ls ++ [y']), rfl, ⟨DuH.si, DuH.se, DuH.na, DuH.en, ⟨q5, rfl, q4, ps ++ [pt], g_5, s_5 _ _ (s_4 _ _ (by rw [List.map_append]; exact g_3)), by rw [List.length_append, List.length_append, lps]; rfl, fun j a l ja jl => ?_⟩, nd1, nd2⟩, ti', oo', by omega, ol', rnO _ _ okS, sBH _ _ hLB, smB.trans sBH⟩
                rcases Nat.lt_or_ge j ps.length with hj | hj
                · rw [List.getElem?_append_left hj] at ja
                  rw [List.getElem?_append_left (by omega)] at jl
                  exact sBH _ _ (at_ j a l ja jl)
                · rw [List.getElem?_append_right hj] at ja
                  rw [List.getElem?_append_right (by omega)] at jl
                  rw [lps] at ja
                  cases hk : j - ls.length with
                  | zero =>
                    rw [hk] at ja jl
                    cases ja
                    cases jl
                    exact sCH _ _ hpt
                  | succ k =>
                    rw [hk] at ja
                    cases ja
        · walk_at "rd"
          refine ⟨(by show 0 ≤ sizeLine; decide), fun e1 ne1 => ?_⟩
          generalize ee1 : upd HB e1 _ = HX
          have gX : HX e1 = some (.lst []) := by rw [← ee1]; exact upd_same
          have sX : Same HB HX := by rw [← ee1]; exact fun b u z => (upd_ne (ne_of_none z ne1)).trans z
          clear ee1
          refine ⟨_, _, .lst (SqL.of (sX _ _ hWB)) (dp_words ws), .lst (SqL.of gX) .nil, sh, by decide +kernel, ?_⟩
          have ev1 : PyData.eqv (.list (ws.map PyData.str)) (.list []) = decide (ws = []) := eqv_words ws []
          rw [ev1]
          refine ⟨_, rfl, ?_⟩
          refine ite2 (fun z => ?_) (fun z => ?_)
          · have wne := of_decide_eq_false (not_t' z)
            cases o with
            | some o => exact absurd (by rw [decide_eq_true wne]; rfl) hl
            | none =>
              obtain rfl : v = .non := DuB.lg
              have DuX := DuB.same sX
              have nax := DuX.na
              have st : stepS d none ws = (match startB d ws with | .error r => .error r | .ok e => .ok (openB d e)) := by
                show (if ws = [] then _ else _) = _
                rw [if_neg wne]
                all_goals (cases startB d ws <;> rfl)
              walk_at "rd"
              refine ⟨Wd, ds, dt, nm, ws, d, rfl, sX _ _ hWB, wne, WP, DuX.si, DuX.se, (by rw [nax]; simp [opnN]), fun r sb HC sC0 => ?_, fun e sb p HC sC0 ra => ?_⟩
              · have sC := sX.trans sC0
                walk_at "rd"
                refine ⟨_, _, _, _, _, rfl, .ty "str", .base (.str r), kit_ty (r := true) (by decide +kernel), ?_⟩
                walk_at "rd"
                refine ⟨(by show 2 ≤ sizeLine; decide), fun p np => ?_⟩
                exact er i r (rnE _ (by rw [st, sb])) p _ ((smB.trans sC).trans fun b u z => (upd_ne (ne_of_none z np)).trans z) upd_same
              · have sC := sX.trans sC0
                have okS : stepS d none ws = .ok (openB d e) := by rw [st, sb]
                obtain ⟨nb, wb⟩ : namesB d e = true ∧ worthsB e = true := by
                  unfold startB at sb
                  split at sb
                  · cases sb
                  · split at sb
                    · split at sb
                      · cases sb
                        exact ⟨by assumption, by assumption⟩
                      · cases sb
                    · cases sb
                have fr : findE d e.name = none := by
                  unfold namesB at nb
                  rw [Bool.and_eq_true, Bool.and_eq_true] at nb
                  exact Option.isNone_iff_eq_none.mp nb.2.1
                have DuC := DuB.same sC
                have hna : HC nm = some (.lst ((d.map Ent.name).map V.str)) := by rw [DuC.na]; simp [opnN]
                have Tup : ∃ xs, HC p = some (.tup xs) := by cases e <;> (obtain ⟨qa, hp, _⟩ := ra; exact ⟨_, hp⟩)
                obtain ⟨xs, hxs⟩ := Tup
                walk_at "rd"
                refine ⟨_, _, _, _, _, rfl, .ty "str", .base (.tup hxs), kit_ty (r := false) (by decide +kernel), ?_⟩
                walk_at "rd"
                obtain ⟨es, les, hle, ates⟩ := id DuC.en
                obtain ⟨kk1, _, ⟨hd1, _, l1⟩, _⟩ := id DuC.si
                obtain ⟨kk2, _, ⟨hd2, _, l2⟩, _⟩ := id DuC.se
                have a1 : ds ≠ nm := ne_of hd1 hna (by intro z; cases z)
                have a2 : dt ≠ nm := ne_of hd2 hna (by intro z; cases z)
                have a3 : ds ≠ le := ne_of hd1 hle (by intro z; cases z)
                have a4 : dt ≠ le := ne_of hd2 hle (by intro z; cases z)
                cases e with
                | side n o' s m pl =>
                  change findE d n = none at fr
                  replace okS : stepS d none ws = .ok (d ++ [.side n o' s m pl.toNat], none) := okS
                  obtain ⟨ti', oo', dl', ol'⟩ := sok _ _ okS
                  obtain ⟨qa, hp, hq⟩ := id ra
                  refine ⟨.inl ⟨rfl, _, SqL.of hna⟩, ?_⟩
                  walk_at "rd"
                  refine ⟨p, _, _, .str n, rfl, rfl, SqT.of hp, at_nat (k := 1) rfl, ?_⟩
                  refine ⟨nm, _, _, rfl, rfl, hna, (by rw [List.length_map, List.length_map]; exact Nat.lt_of_le_of_lt (by omega : _ ≤ 1000) (by decide)), ?_⟩
                  generalize e1 : upd HC nm _ = HD
                  have gD : HD nm = some (.lst ((d.map Ent.name ++ [n]).map V.str)) := by rw [← e1, upd_same, List.map_append]; rfl
                  have oD : ∀ b, b ≠ nm → HD b = HC b := fun b hb => by rw [← e1]; exact upd_ne hb
                  have tD : KeepT HC HD := by rw [← e1]; exact keepT_upd hna (fun xs z => by cases z)
                  clear e1
                  walk_at "rd"
                  refine ⟨p, _, _, .str "side", rfl, rfl, SqT.of (tD _ _ hp), at_nat (k := 0) rfl, ?_⟩
                  walk_at "rd"
                  refine ⟨rfl, _, rfl, ?_⟩
                  refine ite2 (fun _ => ?_) (fun z => absurd (decide_eq_true rfl) z)
                  have hdD : HD ds = some (.dK kk1) := (oD _ a1).trans hd1
                  walk_at "rd"
                  refine ⟨p, _, _, .int pl, rfl, rfl, SqT.of (tD _ _ hp), at_nat (k := 3) rfl, ?_⟩
                  walk_at "rd"
                  refine ⟨p, _, _, .str n, rfl, rfl, SqT.of (tD _ _ hp), at_nat (k := 1) rfl, ?_⟩
                  refine ⟨ds, _, rfl, DPut.k (k := .inr n) hdD (by exact Nat.lt_of_le_of_lt (by omega : _ ≤ 1000) (by decide)), ?_⟩
                  generalize e2 : upd HD ds _ = HE
                  have gE : HE ds = some (.dK (putK kk1 (.inr n) (.int pl))) := by rw [← e2]; exact upd_same
                  have oE : ∀ b, b ≠ ds → HE b = HD b := fun b hb => by rw [← e2]; exact upd_ne hb
                  have tE : KeepT HD HE := by rw [← e2]; exact keepT_upd hdD (fun xs z => by cases z)
                  clear e2
                  walk_at "rd"
                  refine ⟨p, _, _, .str "side", rfl, rfl, SqT.of (tE _ _ (tD _ _ hp)), at_nat (k := 0) rfl, ?_⟩
                  walk_at "rd"
                  refine ⟨rfl, _, rfl, ?_⟩
                  refine ite2 (fun z => absurd z (show ¬ decide (V.str "side" = V.str "set") = true from by decide +kernel)) (fun _ => ?_)
                  walk_at "rd"
                  refine ⟨p, _, _, .str "side", rfl, rfl, SqT.of (tE _ _ (tD _ _ hp)), at_nat (k := 0) rfl, ?_⟩
                  walk_at "rd"
                  refine ⟨rfl, _, rfl, ?_⟩
                  refine ite2 (fun z => absurd z (show ¬ decide (V.str "side" = V.str "log") = true from by decide +kernel)) (fun _ => ?_)
                  have hleE : HE le = some (.lst (es.map V.ref)) := (oE _ a3.symm).trans ((oD _ nd2.symm).trans hle)
                  walk_at "rd"
                  refine ⟨.inl ⟨rfl, _, SqL.of hleE⟩, ?_⟩
                  walk_at "rd"
                  refine ⟨le, _, _, rfl, rfl, hleE, (by rw [List.length_map, les]; exact Nat.lt_of_le_of_lt (by omega : _ ≤ 1000) (by decide)), ?_⟩
                  generalize e3 : upd HE le _ = HF
                  have gF : HF le = some (.lst (es.map V.ref ++ [.ref p])) := by rw [← e3]; exact upd_same
                  have oF : ∀ b, b ≠ le → HF b = HE b := fun b hb => by rw [← e3]; exact upd_ne hb
                  have tF : KeepT HE HF := by rw [← e3]; exact keepT_upd hleE (fun xs z => by cases z)
                  clear e3
                  have tCF : KeepT HC HF := fun b xs z => tF _ _ (tE _ _ (tD _ _ z))
                  walk_at "rd"
                  have p0 : 0 ≤ pl := by
                    have w' : (sideB o' s m && (decide (0 ≤ pl) && decide (pl ≤ 60))) = true := wb
                    simp only [Bool.and_eq_true, decide_eq_true_eq] at w'
                    exact w'.2.1
                  have ple : ((pl.toNat : Nat) : Int) = pl := Int.toNat_of_nonneg p0
                  refine ⟨_, _, _, _, d ++ [.side n o' s m pl.toNat], none, rfl, ⟨sides_put DuC.si fr fun kv hkv => ?_, (DuC.se.keep ((oF _ a4).trans ((oE _ nd1.symm).trans (oD _ a2))) tCF).other (kd_side n o' s m pl.toNat), ?_, ents_add DuC.en hle gF tCF ((raw_ent ra wb).keep tCF), rfl, nd1, nd2⟩, ti', oo', by omega, ol', rnO _ _ okS, ?_, ?_⟩
                  · rw [hd1] at hkv
                    injection hkv with hkv
                    injection hkv with hkv
                    rw [oF _ a3, gE, hkv, ple]
                  · rw [oF _ nd2, oE _ a1.symm, gD, List.map_append]
                    simp [opnN, Ent.name]
                  · rw [oF _ nd4, oE _ (ne_of (sC _ _ hLB) hd1 (by intro z; cases z)), oD _ nd3]
                    exact sC _ _ hLB
                  · intro b u z
                    rw [oF _ (ne_of_none z fle), oE _ (ne_of_none z fds), oD _ (ne_of_none z fnm)]
                    exact sC _ _ (smB _ _ z)
                | set n ns =>
                  change findE d n = none at fr
                  replace okS : stepS d none ws = .ok (d ++ [.set n ns], none) := okS
                  obtain ⟨ti', oo', dl', ol'⟩ := sok _ _ okS
                  obtain ⟨qa, hp, hq⟩ := id ra
                  refine ⟨.inl ⟨rfl, _, SqL.of hna⟩, ?_⟩
                  walk_at "rd"
                  refine ⟨p, _, _, .str n, rfl, rfl, SqT.of hp, at_nat (k := 1) rfl, ?_⟩
                  refine ⟨nm, _, _, rfl, rfl, hna, (by rw [List.length_map, List.length_map]; exact Nat.lt_of_le_of_lt (by omega : _ ≤ 1000) (by decide)), ?_⟩
                  generalize e1 : upd HC nm _ = HD
                  have gD : HD nm = some (.lst ((d.map Ent.name ++ [n]).map V.str)) := by rw [← e1, upd_same, List.map_append]; rfl
                  have oD : ∀ b, b ≠ nm → HD b = HC b := fun b hb => by rw [← e1]; exact upd_ne hb
                  have tD : KeepT HC HD := by rw [← e1]; exact keepT_upd hna (fun xs z => by cases z)
                  clear e1
                  walk_at "rd"
                  refine ⟨p, _, _, .str "set", rfl, rfl, SqT.of (tD _ _ hp), at_nat (k := 0) rfl, ?_⟩
                  walk_at "rd"
                  refine ⟨rfl, _, rfl, ?_⟩
                  refine ite2 (fun z => absurd z (show ¬ decide (V.str "set" = V.str "side") = true from by decide +kernel)) (fun _ => ?_)
                  walk_at "rd"
                  refine ⟨p, _, _, .str "set", rfl, rfl, SqT.of (tD _ _ hp), at_nat (k := 0) rfl, ?_⟩
                  walk_at "rd"
                  refine ⟨rfl, _, rfl, ?_⟩
                  refine ite2 (fun _ => ?_) (fun z => absurd (decide_eq_true rfl) z)
                  have hdD : HD dt = some (.dK kk2) := (oD _ a2).trans hd2
                  walk_at "rd"
                  refine ⟨p, _, _, .ref qa, rfl, rfl, SqT.of (tD _ _ hp), at_nat (k := 2) rfl, ?_⟩
                  walk_at "rd"
                  refine ⟨p, _, _, .str n, rfl, rfl, SqT.of (tD _ _ hp), at_nat (k := 1) rfl, ?_⟩
                  refine ⟨dt, _, rfl, DPut.k (k := .inr n) hdD (by exact Nat.lt_of_le_of_lt (by omega : _ ≤ 1000) (by decide)), ?_⟩
                  generalize e2 : upd HD dt _ = HE
                  have gE : HE dt = some (.dK (putK kk2 (.inr n) (.ref qa))) := by rw [← e2]; exact upd_same
                  have oE : ∀ b, b ≠ dt → HE b = HD b := fun b hb => by rw [← e2]; exact upd_ne hb
                  have tE : KeepT HD HE := by rw [← e2]; exact keepT_upd hdD (fun xs z => by cases z)
                  clear e2
                  walk_at "rd"
                  refine ⟨p, _, _, .str "set", rfl, rfl, SqT.of (tE _ _ (tD _ _ hp)), at_nat (k := 0) rfl, ?_⟩
                  walk_at "rd"
                  refine ⟨rfl, _, rfl, ?_⟩
                  refine ite2 (fun z => absurd z (show ¬ decide (V.str "set" = V.str "log") = true from by decide +kernel)) (fun _ => ?_)
                  have hleE : HE le = some (.lst (es.map V.ref)) := (oE _ a4.symm).trans ((oD _ nd2.symm).trans hle)
                  walk_at "rd"
                  refine ⟨.inl ⟨rfl, _, SqL.of hleE⟩, ?_⟩
                  walk_at "rd"
                  refine ⟨le, _, _, rfl, rfl, hleE, (by rw [List.length_map, les]; exact Nat.lt_of_le_of_lt (by omega : _ ≤ 1000) (by decide)), ?_⟩
                  generalize e3 : upd HE le _ = HF
                  have gF : HF le = some (.lst (es.map V.ref ++ [.ref p])) := by rw [← e3]; exact upd_same
                  have oF : ∀ b, b ≠ le → HF b = HE b := fun b hb => by rw [← e3]; exact upd_ne hb
                  have tF : KeepT HE HF := by rw [← e3]; exact keepT_upd hleE (fun xs z => by cases z)
                  clear e3
                  have tCF : KeepT HC HF := fun b xs z => tF _ _ (tE _ _ (tD _ _ z))
                  walk_at "rd"
                  refine ⟨_, _, _, _, d ++ [.set n ns], none, rfl, ⟨(DuC.si.keep ((oF _ a3).trans ((oE _ nd1).trans (oD _ a1)))).other (kd_set n ns), sets_put (q := qa) DuC.se fr tCF (tCF _ _ hq) (fun kv hkv => ?_), ?_, ents_add DuC.en hle gF tCF ((raw_ent ra wb).keep tCF), rfl, nd1, nd2⟩, ti', oo', by omega, ol', rnO _ _ okS, ?_, ?_⟩
                  · rw [hd2] at hkv
                    injection hkv with hkv
                    injection hkv with hkv
                    rw [oF _ a4, gE, hkv]
                  · rw [oF _ nd2, oE _ a2.symm, gD, List.map_append]
                    simp [opnN, Ent.name]
                  · rw [oF _ nd4, oE _ (ne_of (sC _ _ hLB) hd2 (by intro z; cases z)), oD _ nd3]
                    exact sC _ _ hLB
                  · intro b u z
                    rw [oF _ (ne_of_none z fle), oE _ (ne_of_none z fdt), oD _ (ne_of_none z fnm)]
                    exact sC _ _ (smB _ _ z)
                | log n g =>
                  change findE d n = none at fr
                  replace okS : stepS d none ws = .ok (d, some (n, g, [])) := okS
                  obtain ⟨ti', oo', dl', ol'⟩ := sok _ _ okS
                  obtain ⟨qa, hp, hq⟩ := id ra
                  refine ⟨.inl ⟨rfl, _, SqL.of hna⟩, ?_⟩
                  walk_at "rd"
                  refine ⟨p, _, _, .str n, rfl, rfl, SqT.of hp, at_nat (k := 1) rfl, ?_⟩
                  refine ⟨nm, _, _, rfl, rfl, hna, (by rw [List.length_map, List.length_map]; exact Nat.lt_of_le_of_lt (by omega : _ ≤ 1000) (by decide)), ?_⟩
                  generalize e1 : upd HC nm _ = HD
                  have gD : HD nm = some (.lst ((d.map Ent.name ++ [n]).map V.str)) := by rw [← e1, upd_same, List.map_append]; rfl
                  have oD : ∀ b, b ≠ nm → HD b = HC b := fun b hb => by rw [← e1]; exact upd_ne hb
                  have tD : KeepT HC HD := by rw [← e1]; exact keepT_upd hna (fun xs z => by cases z)
                  clear e1
                  walk_at "rd"
                  refine ⟨p, _, _, .str "log", rfl, rfl, SqT.of (tD _ _ hp), at_nat (k := 0) rfl, ?_⟩
                  walk_at "rd"
                  refine ⟨rfl, _, rfl, ?_⟩
                  refine ite2 (fun z => absurd z (show ¬ decide (V.str "log" = V.str "side") = true from by decide +kernel)) (fun _ => ?_)
                  walk_at "rd"
                  refine ⟨p, _, _, .str "log", rfl, rfl, SqT.of (tD _ _ hp), at_nat (k := 0) rfl, ?_⟩
                  walk_at "rd"
                  refine ⟨rfl, _, rfl, ?_⟩
                  refine ite2 (fun z => absurd z (show ¬ decide (V.str "log" = V.str "set") = true from by decide +kernel)) (fun _ => ?_)
                  walk_at "rd"
                  refine ⟨p, _, _, .str "log", rfl, rfl, SqT.of (tD _ _ hp), at_nat (k := 0) rfl, ?_⟩
                  walk_at "rd"
                  refine ⟨rfl, _, rfl, ?_⟩
                  refine ite2 (fun _ => ?_) (fun z => absurd (decide_eq_true rfl) z)
                  walk_at "rd"
                  refine ⟨_, _, _, _, d, some (n, g, []), rfl, ⟨DuC.si.keep (oD _ a1), DuC.se.keep (oD _ a2) tD, gD, DuC.en.keep (oD _ nd2.symm) tD, ⟨p, rfl, qa, [], tD _ _ hp, tD _ _ hq, rfl, fun j a l z _ => by cases z⟩, nd1, nd2⟩, ti', oo', by omega, ol', rnO _ _ okS, ?_, ?_⟩
                  · rw [oD _ nd3]
                    exact sC _ _ hLB
                  · intro b u z
                    rw [oD _ (ne_of_none z fnm)]
                    exact sC _ _ (smB _ _ z)
          · have we : ws = [] := of_decide_eq_true (not_f z)
            have st : stepS d o ws = .ok (d, o) := by
              unfold stepS
              rw [if_pos we]
            obtain ⟨ti', oo', dl', ol'⟩ := sok _ _ st
            exact ⟨_, _, _, _, d, o, rfl, DuB.same sX, ti', oo', by omega, ol', rnO _ _ st, sX _ _ hLB, smB.trans sX⟩
    · rintro st H7 ⟨v, x7, x9, x10, d, o, rfl, Du, ti, oo, dl, ol, rn, hL, sm⟩
      rw [List.drop_length] at rn
      walk_at "rd"
      refine ⟨rfl, _, rfl, ?_⟩
      have lg := Du.lg
      cases o with
      | none =>
        obtain rfl : v = .non := lg
        refine ite2 (fun y => absurd y (by decide)) (fun _ => ?_)
        walk_at "rd"
        refine ⟨(by show 2 ≤ sizeLine; decide), fun p np => ?_⟩
        have sp : Same H7 (upd H7 p (.tup [.str "right", .ref le])) := fun b u z => (upd_ne (ne_of_none z np)).trans z
        exact ok d rn p le _ (sm.trans sp) upd_same (Du.en.same sp)
      | some o =>
        obtain ⟨n, g, ls⟩ := o
        obtain ⟨p, rfl, hp⟩ := lg
        refine ite2 (fun _ => ?_) (fun b => absurd rfl b)
        walk_at "rd"
        refine ⟨L, _, rfl, .inl (SqL.of hL), ?_⟩
        rw [List.length_map]
        walk_at "rd"
        refine ⟨(by show 2 ≤ sizeLine; decide), fun p np => ?_⟩
        exact er _ _ rn p _ (sm.trans fun b u z => (upd_ne (ne_of_none z np)).trans z) upd_same
end
end HT
namespace HT
open PySem L2 CwR
/-- what the written part says of InvalidLine (D), InvalidEntries (V) and their base class (B) -/
structure EtL (K : PySem.W.Frag) (mg : Str → Option Value) (D V B : Addr) : Prop where
  isi : mg "isinstance" = none
  ve : mg "ValueError" = none
  gB : mg "HandedError" = some (.ref B)
  gD : mg "InvalidLine" = some (.ref D)
  gV : mg "InvalidEntries" = some (.ref V)
  ec : ErrC K D
  eg : ErrG K
  xf : XfC K D
  nl : PySem.W.findIn K (.ref D) "line" = some none
  nr : PySem.W.findIn K (.ref D) "reason" = some none
  kD : PySem.W.kitOne K (.ref D) (.ref D) = some true
  kV : PySem.W.kitOne K (.ref D) (.ref V) = some false
  kE : PySem.W.kitOne K (.ref D) (.type "ValueError") = some true
  em : PySem.W.exmOne K (.ref D) (.ref B) = some true
section
variable {P : Program} {w : World} {K : PySem.W.Frag} {mg : Str → Option Value} {base : Heap} {fR D V0 B : Addr} {dR : FuncData}
theorem ok_L_told {f : Addr} {fd : FuncData} (F : Fun K "_law_told" "_law_told" s_L_told f fd) (R : EtL K mg D V0 B) (Rd : CalX P w K mg base "read_paper" 10 ["text"] (spReadPX D) fR dR) : FnOk P w K mg base CX0 11 f fd ["_law_text_here"] spLDue := by
  refine F.ok sc_L_told (fun vs H Q E h => ?_) (fun cdv A outer s0 H vs Q E hr h => ?_)
  · obtain ⟨x, rfl, _⟩ := h
    rfl
  · obtain ⟨x, rfl, h⟩ := h
    have nd := sc_L_told.nd
    refine ⟨_, pss_cons (ps_set (i := 1) nd rfl (Or.inl rfl) pe_non)
      (pss_cons (ps_set (i := 2) nd rfl (Or.inl rfl) pe_non)
      (pss_cons (ps_try_keep (i := 3) rfl rfl rfl nd rfl rfl ⟨rfl, by decide, .inl R.gB⟩ takes0 (fun W pn xe tk _ => pss_one (ps_set (i := 2) nd rfl (Or.inl rfl) (pcx Rd hr (by decide) (by rfl) tk (pa_cons (pv 0) pa_nil))))
        (fun a rc kl dd pn hz hf => pss_one (ps_set (i := 1) nd rfl (Or.inl rfl) (pv 3))))
      (pss_cons (ps_if (pt_cmpR op_isN (pv 1) pe_non (nomark _)) (pss_one (ps_ret (pe_tup (pa_cons pe_str (pa_cons (pv 2) pa_nil))))) pss_nil)
      (pss_cons (ps_if (PW.pt (pw_or (pt_not (pt_val (pe_callB call_isKept (by rfl) R.isi (by decide +kernel) (pa_cons (pv 1) (pa_cons (pe_glob (v := .ref D) (by rfl) R.gD rfl) pa_nil)))))
          (pw_or (pt_val (pe_callB call_isKept (by rfl) R.isi (by decide +kernel) (pa_cons (pv 1) (pa_cons (pe_glob (v := .ref V0) (by rfl) R.gV rfl) pa_nil))))
          (pw_or1 (pt_not (pt_val (pe_callB call_isKept (by rfl) R.isi (by decide +kernel) (pa_cons (pv 1) (pa_cons (pe_bltn (v := .ty "ValueError") (by rfl) R.ve (by decide +kernel) rfl) pa_nil)))))))))
        (pss_one (ps_ret pe_str)) pss_nil)
      (pss_one (ps_ret (pe_tup (pa_cons (pe_kept (pv 1)) (pa_cons (pe_kept (pv 1)) pa_nil))))))))), ?_⟩
    walk_at "rd"
    rcases h with ⟨n, t, hn, er⟩ | ⟨z, rfl, TP, ok, er⟩
    · refine .inl ⟨n, t, hn, fun d H1 nd1 s1 hd => ?_⟩
      refine ⟨true, R.em, fun _ a ha => ?_, fun z => Bool.noConfusion z⟩
      have da : d ≠ a := fun x => by rw [x, ha] at hd; cases hd
      have k0 : Kept (upd H1 a (ExK (.ref D) (some d) a)) a D := .inr ⟨d, _, upd_same, (upd_ne da).trans hd⟩
      have ek : upd H1 a (ExK (.ref D) (some d) a) a = some (ExK (.ref D) (some d) a) := upd_same
      have ed : upd H1 a (ExK (.ref D) (some d) a) d = some (.xd [("reason", .str "text"), ("line", .int 0)]) := (upd_ne da).trans hd
      have s2 := s1.trans (same_upd (o := ExK (.ref D) (some d) a) ha)
      walk_at "rd"
      refine ⟨rfl, ?_⟩
      walk_at "rd"
      refine ⟨a, D, _, .ref D, true, rfl, .own _, k0, R.ec, R.eg, R.kD, ?_⟩
      walk_at "rd"
      refine ⟨a, D, _, .ref V0, false, rfl, .own _, k0, R.ec, R.eg, R.kV, ?_⟩
      walk_at "rd"
      refine ⟨a, D, _, .type "ValueError", true, rfl, .ty _, k0, R.ec, R.eg, R.kE, ?_⟩
      walk_at "rd"
      refine ⟨a, D, d, _, _, rfl, R.xf, R.nl, ek, ed, rfl, ?_⟩
      walk_at "rd"
      refine ⟨a, D, d, _, _, rfl, R.xf, R.nr, ek, ed, rfl, ?_⟩
      walk_at "rd"
      refine ⟨by show 2 ≤ sizeLine; decide, fun l nl => ?_⟩
      exact er l _ (s2.trans (same_upd nl)) upd_same
    · refine .inr ⟨z, rfl, TP, fun es rn le H1 nle s1 at_ => ?_, fun i r rn d H1 nd1 s1 hd => ?_⟩
      · walk_at "rd"
        refine ⟨rfl, ?_⟩
        walk_at "rd"
        refine ⟨by show 2 ≤ sizeLine; decide, fun l nl => ?_⟩
        exact ok es rn l le _ (s1.trans (same_upd nl)) upd_same (at_.same (same_upd nl))
      refine ⟨true, R.em, fun _ a ha => ?_, fun z => Bool.noConfusion z⟩
      have da : d ≠ a := fun x => by rw [x, ha] at hd; cases hd
      have k0 : Kept (upd H1 a (ExK (.ref D) (some d) a)) a D := .inr ⟨d, _, upd_same, (upd_ne da).trans hd⟩
      have ek : upd H1 a (ExK (.ref D) (some d) a) a = some (ExK (.ref D) (some d) a) := upd_same
      have ed : upd H1 a (ExK (.ref D) (some d) a) d = some (.xd [("reason", .str r), ("line", .int (i : Int))]) := (upd_ne da).trans hd
      have s2 := s1.trans (same_upd (o := ExK (.ref D) (some d) a) ha)
      walk_at "rd"
      refine ⟨rfl, ?_⟩
      walk_at "rd"
      refine ⟨a, D, _, .ref D, true, rfl, .own _, k0, R.ec, R.eg, R.kD, ?_⟩
      walk_at "rd"
      refine ⟨a, D, _, .ref V0, false, rfl, .own _, k0, R.ec, R.eg, R.kV, ?_⟩
      walk_at "rd"
      refine ⟨a, D, _, .type "ValueError", true, rfl, .ty _, k0, R.ec, R.eg, R.kE, ?_⟩
      walk_at "rd"
      refine ⟨a, D, d, _, _, rfl, R.xf, R.nl, ek, ed, rfl, ?_⟩
      walk_at "rd"
      refine ⟨a, D, d, _, _, rfl, R.xf, R.nr, ek, ed, rfl, ?_⟩
      walk_at "rd"
      refine ⟨by show 2 ≤ sizeLine; decide, fun l nl => ?_⟩
      exact er i r rn l _ (s2.trans (same_upd nl)) upd_same
end
end HT
namespace HT
open PySem L2
structure MaxT (mg : Str → Option Value) : Prop where
  max : mg "max" = none
  min : mg "min" = none
def spGreat : Sp := fun vs H Q _ => ∃ (a c : Addr) (t : Nat) (lim : Int), vs = [.ref a, .int lim] ∧ Src H a c t ∧ 0 < lim ∧ t + 5 < 2 ^ 30 ∧
  ∀ k H', 0 ≤ k → k < lim → Src H' a c (t + 5) → Oth a c H H' → Q (.int k) H'
def spTen : Sp := fun vs H Q _ => ∃ (n : Nat), vs = [.int (n : Int)] ∧ n ≤ 1000 ∧ Q (.int (10 ^ n)) H
def spStep : Sp := fun vs H Q _ => ∃ (a c : Addr) (t : Nat) (mo : Int), vs = [.ref a, .int mo] ∧ Src H a c t ∧ 1 ≤ mo ∧ mo ≤ 10 ^ 30 ∧ t + 20 < 2 ^ 30 ∧
  ∀ s H' t', 1 ≤ s → s ≤ mo → t' ≤ t + 20 → Src H' a c t' → Oth a c H H' → Q (.int s) H'
def spSide : Sp := fun vs H Q _ => ∃ (a c : Addr) (t : Nat) (mo : Int), vs = [.ref a, .int mo] ∧ Src H a c t ∧ 1 ≤ mo ∧ mo ≤ 10 ^ 30 ∧ t + 40 < 2 ^ 30 ∧
  ∀ p o s m H' t', H p = none → H' p = some (sideV o s m) → (1 ≤ s ∧ s ≤ mo ∧ -s ≤ o ∧ o < 2 * s ∧ Mode m) → t' ≤ t + 40 → Src H' a c t' → Oth a c H H' → Q (.ref p) H'
theorem lg_small {n : Int} (h0 : 0 ≤ n) (h : n < 2 ^ 64) : n.natAbs.log2 < 9000 := by
  obtain ⟨m, rfl⟩ := Int.eq_ofNat_of_zero_le h0
  exact lg_nat (Nat.lt_of_lt_of_le (by omega : m < 2 ^ 64) (Nat.pow_le_pow_right (by decide) (by decide)))
section
variable {P : Program} {w : World} {K : PySem.W.Frag} {mg : Str → Option Value} {base : Heap} {fD fP fG fT fS : Addr} {dD dP dG dT dS : FuncData}
theorem ok_great {f : Addr} {fd : FuncData} (F : Fun K "_law_great" "_law_great" s_L_great f fd) (B : Blt mg) (D : Cal P w K mg base "_law_draw" 1 ["_law_source_here", "_law_limit"] spDraw fD dD) :
    FnOk P w K mg base CX0 2 f fd ["_law_source_here", "_law_limit"] spGreat := by
  refine F.ok sc_L_great (fun vs H Q E h => ?_) (fun cdv A outer s H vs Q E hr h => ?_)
  · obtain ⟨a, c, t, lim, rfl, _⟩ := h
    rfl
  · obtain ⟨a, c, t, lim, rfl, S, hl, ht, q⟩ := h
    have nd := sc_L_great.nd
    refine ⟨_, pss_cons (ps_set (i := 2) nd rfl (Or.inl rfl) pe_int)
      (pss_cons (ps_for PassesOwn.never rfl (pi_range1 (by rfl) B.range (pa_cons pe_int pa_nil)) (pg_name (i := 3) nd rfl (Or.inl rfl))
        (pss_one (ps_set (i := 2) nd rfl (Or.inl rfl) (pe_op op_add (pe_op op_mul (pv 2) (pe_op op_pow pe_int pe_int)) (pcl D hr (by decide) (by rfl) (pa_cons (pv 0) (pa_cons (pe_op op_pow pe_int pe_int) pa_nil)))))))
      (pss_one (ps_ret (pe_op op_mod (pe_callTy call_int1 (by rfl) B.int (by decide +kernel) (pa_cons (pv 2) pa_nil)) (pv 1))))), ?_⟩
    walk_at "rd"
    refine ⟨by decide, by decide, ?_⟩
    refine for_range (n := 5) (fun i σ H' => ∃ (k : Int) (kv : Option V), σ = [some (.ref a), some (.int lim), some (.int k), kv] ∧ Src H' a c (t + i) ∧ Oth a c H H') ⟨0, none, rfl, S, Oth.refl _ _ _⟩ ?_ ?_
    · rintro i σ H' hi ⟨k, kv, rfl, S', O⟩
      walk_at "rd"
      refine ⟨⟨by decide, by decide, by decide⟩, ?_⟩
      walk_at "rd"
      refine ⟨.inr ⟨by decide, by decide⟩, ?_⟩
      walk_at "rd"
      refine ⟨⟨by decide, by decide, by decide⟩, ?_⟩
      refine ⟨a, c, t + i, _, rfl, S', by omega, (by decide), lg_small (by decide) (by decide), fun y H2 y0 y1 S2 O2 => ?_⟩
      walk_at "rd"
      exact ⟨_, _, rfl, S2, O.trans O2⟩
    · rintro σ H' ⟨k, kv, rfl, S', O⟩
      walk_at "rd"
      refine ⟨hl, ?_⟩
      exact q _ _ (Int.emod_nonneg _ (by omega)) (Int.emod_lt_of_pos _ hl) S' O
theorem ok_ten {f : Addr} {fd : FuncData} (F : Fun K "_law_ten" "_law_ten" s_L_ten f fd) (B : Blt mg) : FnOk P w K mg base CX0 1 f fd ["_law_many"] spTen := by
  refine F.ok sc_L_ten (fun vs H Q E h => ?_) (fun cdv A outer s H vs Q E hr h => ?_)
  · obtain ⟨n, rfl, _⟩ := h
    rfl
  · obtain ⟨n, rfl, hn, q⟩ := h
    have nd := sc_L_ten.nd
    refine ⟨_, pss_cons (ps_set (i := 1) nd rfl (Or.inl rfl) pe_int)
      (pss_cons (ps_for PassesOwn.never rfl (pi_range1 (by rfl) B.range (pa_cons (pv 0) pa_nil)) (pg_name (i := 2) nd rfl (Or.inl rfl))
        (pss_one (ps_set (i := 1) nd rfl (Or.inl rfl) (pe_op op_mul (pv 1) pe_int))))
      (pss_one (ps_ret (pv 1)))), ?_⟩
    walk_at "rd"
    refine ⟨by omega, by omega, ?_⟩
    rw [Int.toNat_natCast]
    refine for_range (fun i σ H' => ∃ (kv : Option V), σ = [some (.int (n : Int)), some (.int (10 ^ i)), kv] ∧ H' = H) ⟨none, rfl, rfl⟩ ?_ ?_
    · rintro i σ H' hi ⟨kv, rfl, rfl⟩
      walk_at "rd"
      refine ⟨.inr ⟨by decide, by decide⟩, ?_⟩
      exact ⟨_, rfl, rfl⟩
    · rintro σ H' ⟨kv, rfl, rfl⟩
      walk_at "rd"
      exact q
end
theorem joint_of {x : V} (h : x ∈ [V.int 1, .int 2, .int 6, .int ((10 : Int) ^ (9 : Int).toNat), .int 360, .int ((2 : Int) ^ (40 : Int).toNat), .int ((10 : Int) ^ (9 : Int).toNat + 7), .int ((10 : Int) ^ (15 : Int).toNat), .int ((3 : Int) ^ (20 : Int).toNat)]) : ∃ j : Int, x = .int j ∧ 1 ≤ j ∧ j ≤ 10 ^ 15 := by
  simp only [List.mem_cons, List.not_mem_nil, or_false] at h
  rcases h with h | h | h | h | h | h | h | h | h <;> exact ⟨_, h, by decide, by decide⟩
theorem mulW {i j : Int} (hi : -2 ^ 1010 < i ∧ i < 2 ^ 1010) (hj : -2 ^ 1010 < j ∧ j < 2 ^ 1010) : CMulW i j := wide_mul (a := 1010) (b := 1010) (by omega) (by omega) (by decide) (by decide) (by decide)
theorem pow10_le {n k : Nat} (h : n ≤ k) : (10 : Int) ^ n ≤ 10 ^ k := by
  have z := Nat.pow_le_pow_right (show 0 < 10 by decide) h
  have e : ∀ j : Nat, ((10 ^ j : Nat) : Int) = (10 : Int) ^ j := fun j => Int.natCast_pow 10 j
  rw [← e, ← e]
  omega
theorem sq_bound {a b : Int} (a0 : 1 ≤ a) (b0 : 1 ≤ b) : 1 ≤ a * b := Int.mul_pos a0 b0
section
variable {P : Program} {w : World} {K : PySem.W.Frag} {mg : Str → Option Value} {base : Heap} {fD fP fG fT fS fE fI fW : Addr} {dD dP dG dT dS dE dI dW : FuncData}
theorem ok_step {f : Addr} {fd : FuncData} (F : Fun K "_law_step" "_law_step" s_L_step f fd) (B : Blt mg) (MT : MaxT mg) (D : Cal P w K mg base "_law_draw" 1 ["_law_source_here", "_law_limit"] spDraw fD dD)
    (Pk : Cal P w K mg base "_law_pick" 2 ["_law_source_here", "_law_values"] spPick fP dP) (G : Cal P w K mg base "_law_great" 2 ["_law_source_here", "_law_limit"] spGreat fG dG) (Tn : Cal P w K mg base "_law_ten" 1 ["_law_many"] spTen fT dT) : FnOk P w K mg base CX0 3 f fd ["_law_source_here", "_law_most"] spStep := by
  refine F.ok sc_L_step (fun vs H Q E h => ?_) (fun cdv A outer s H vs Q E hr h => ?_)
  · obtain ⟨a, c, t, mo, rfl, _⟩ := h
    rfl
  · obtain ⟨a, c, t, mo, rfl, S, m0, m1, ht, q⟩ := h
    have nd := sc_L_step.nd
    refine ⟨_, (pss_cons (ps_if (pt_cmpR op_lt (pv 1) pe_int (nomark _)) (pss_one (ps_ret (pe_op op_add pe_int (pcl D hr (by decide) (by rfl) (pa_cons (pv 0) (pa_cons (pv 1) pa_nil)))))) pss_nil)
      (pss_cons (ps_set (i := 2) nd rfl (Or.inl rfl) (pcl Pk hr (by decide) (by rfl) (pa_cons (pv 0) (pa_cons (pe_lst (pa_cons pe_int (pa_cons pe_int (pa_cons pe_int (pa_cons (pe_op op_pow pe_int pe_int) (pa_cons pe_int (pa_cons (pe_op op_pow pe_int pe_int) (pa_cons (pe_op op_add (pe_op op_pow pe_int pe_int) pe_int) (pa_cons (pe_op op_pow pe_int pe_int) (pa_cons (pe_op op_pow pe_int pe_int) pa_nil)))))))))) pa_nil))))
      (pss_one (ps_ret (pe_callB (call_min2 rfl) (by rfl) MT.min (by decide +kernel) (pa_cons (pv 1) (pa_cons (pe_op op_mulW (pv 2) (pe_op op_add pe_int (pcl G hr (by decide) (by rfl) (pa_cons (pv 0) (pa_cons (pcl Tn hr (by decide) (by rfl) (pa_cons (pe_op op_add pe_int (pcl D hr (by decide) (by rfl) (pa_cons (pv 0) (pa_cons pe_int pa_nil)))) pa_nil)) pa_nil))))) pa_nil))))))), ?_⟩
    walk_at "rd"
    refine ite2 (fun h => ?_) (fun h => ?_)
    · have h' := of_decide_eq_true h
      walk_at "rd"
      refine ⟨a, c, t, mo, rfl, S, by omega, by omega, lg_small (by omega) (by omega), fun k H1 k0 k1 S1 O1 => ?_⟩
      walk_at "rd"
      exact q _ _ _ (by omega) (by omega) (by omega) S1 O1
    walk_at "rd"
    refine ⟨⟨by decide, by decide, by decide⟩, ?_⟩
    walk_at "rd"
    refine ⟨⟨by decide, by decide, by decide⟩, ?_⟩
    walk_at "rd"
    refine ⟨⟨by decide, by decide, by decide⟩, ?_⟩
    walk_at "rd"
    refine ⟨⟨by decide, by decide, by decide⟩, ?_⟩
    walk_at "rd"
    refine ⟨⟨by decide, by decide, by decide⟩, ?_⟩
    refine ⟨(by show 9 ≤ sizeLine; decide), fun l nl => ?_⟩
    obtain ⟨la, lc⟩ := S.na nl
    refine ⟨a, c, t, l, _, rfl, S.new nl, by omega, upd_same, la, lc, by decide, by decide, fun x H1 hx S1 O1 => ?_⟩
    obtain ⟨j, rfl, j0, j1⟩ := joint_of hx
    have O1' : Oth a c H H1 := ((Oth.refl a c H).new nl).trans O1
    walk_at "rd"
    refine ⟨a, c, _, 22, rfl, S1, by omega, by decide, lg_small (by decide) (by decide), fun k H2 k0 k1 S2 O2 => ?_⟩
    walk_at "rd"
    refine ⟨(1 + k).toNat, (by show [V.int (1 + k)] = [V.int _]; rw [Int.toNat_of_nonneg (by omega)]), by omega, ?_⟩
    have tp : (1 : Int) ≤ 10 ^ (1 + k).toNat := Int.pow_pos (by decide)
    have tb : (10 : Int) ^ (1 + k).toNat ≤ 10 ^ 22 := pow10_le (by omega)
    refine ⟨a, c, _, _, rfl, S2, by omega, by omega, fun g H3 g0 g1 S3 O3 => ?_⟩
    walk_at "rd"
    refine ⟨mulW (by omega) (by omega), ?_⟩
    refine ⟨_, _, rfl, ?_⟩
    have p1 := sq_bound (a := j) (b := 1 + g) j0 (by omega)
    have fin : ∀ z : Int, 1 ≤ z → z ≤ mo → Q (.int z) H3 := fun z z0 z1 => q z H3 _ z0 z1 (by omega) S3 ((O1'.trans O2).trans O3)
    refine fin _ ?_ ?_
    · split <;> omega
    · split <;> omega
theorem ok_side {f : Addr} {fd : FuncData} (F : Fun K "_law_side" "_law_side" s_L_side f fd) (B : Blt mg) (St : Cal P w K mg base "_law_step" 3 ["_law_source_here", "_law_most"] spStep fS dS)
    (Pk : Cal P w K mg base "_law_pick" 2 ["_law_source_here", "_law_values"] spPick fP dP) (G : Cal P w K mg base "_law_great" 2 ["_law_source_here", "_law_limit"] spGreat fG dG) : FnOk P w K mg base CX0 4 f fd ["_law_source_here", "_law_most"] spSide := by
  refine F.ok sc_L_side (fun vs H Q E h => ?_) (fun cdv A outer s H vs Q E hr h => ?_)
  · obtain ⟨a, c, t, mo, rfl, _⟩ := h
    rfl
  · obtain ⟨a, c, t, mo, rfl, S, m0, m1, ht, q⟩ := h
    have nd := sc_L_side.nd
    refine ⟨_, (pss_cons (ps_set (i := 2) nd rfl (Or.inl rfl) (pcl St hr (by decide) (by rfl) (pa_cons (pv 0) (pa_cons (pv 1) pa_nil))))
      (pss_cons (ps_set (i := 3) nd rfl (Or.inl rfl) (pe_op op_sub (pcl G hr (by decide) (by rfl) (pa_cons (pv 0) (pa_cons (pe_op op_mul pe_int (pv 2)) pa_nil))) (pv 2)))
      (pss_one (ps_ret (pe_tup (pa_cons (pv 3) (pa_cons (pv 2) (pa_cons (pcl Pk hr (by decide) (by rfl) (pa_cons (pv 0) (pa_cons (pe_lst (pa_cons pe_str (pa_cons pe_str (pa_cons pe_str (pa_cons pe_str (pa_cons pe_str pa_nil)))))) pa_nil))) pa_nil)))))))), ?_⟩
    walk_at "rd"
    refine ⟨a, c, t, mo, rfl, S, m0, m1, by omega, fun s H1 t1 s0 s1 ht1 S1 O1 => ?_⟩
    walk_at "rd"
    refine ⟨.inl ⟨by decide, by decide⟩, ?_⟩
    refine ⟨a, c, t1, 3 * s, rfl, S1, by omega, by omega, fun g H2 g0 g1 S2 O2 => ?_⟩
    walk_at "rd"
    refine ⟨(by show 5 ≤ sizeLine; decide), fun l nl => ?_⟩
    obtain ⟨la, lc⟩ := S2.na nl
    refine ⟨a, c, _, l, _, rfl, S2.new nl, by omega, upd_same, la, lc, by decide, by decide, fun x H3 hx S3 O3 => ?_⟩
    obtain ⟨m, rfl, hm⟩ := mode_of hx
    refine ⟨(by show 3 ≤ sizeLine; decide), fun d nd' => ?_⟩
    have O4 : Oth a c H H3 := (O1.trans O2).trans (((Oth.refl a c H2).new nl).trans O3)
    have hdn : H d = none := by
      cases e : H d with
      | none => rfl
      | some u =>
        by_cases da : d = a
        · subst da; rw [S3.ob] at nd'; cases nd'
        · by_cases dc : d = c
          · obtain ⟨cs, hcs, _⟩ := S3.cl
            subst dc; rw [hcs] at nd'; cases nd'
          · rw [O4 _ _ e da dc] at nd'; cases nd'
    exact q d _ s m _ _ hdn upd_same ⟨s0, s1, by omega, by omega, hm⟩ (by omega) (S3.new nd') (O4.new nd')
end
end HT
namespace HT
open PySem L2 TL
theorem tl_sp : tl (" " : Str) = [32] := by decide +kernel
theorem tl_nl : tl ("\n" : Str) = [10] := by decide +kernel
theorem words_line {ws : List Str} (p : LineP ws) : wordsOfL (lineW ws) = ws := by
  unfold wordsOfL lineW
  rw [split_join (s := 32) (S := []) tl_sp (by decide +kernel) p.ne (fun z hz => (p.al z hz).sp)]
  rw [List.filter_eq_self]
  intro z hz
  refine decide_eq_true fun e => (p.al z hz).ne ?_
  rw [e]
  decide +kernel
theorem nl_free {z : Str} {ws : List Str} (p : LineP ws) (e : z = lineW ws) : 10 ∉ tl z := by
  rw [e]
  cases ws with
  | nil => exact absurd rfl p.ne
  | cons w ws =>
    rw [tl_line]
    have key : ∀ vs : List Str, (∀ z ∈ vs, WordP z) → 10 ∉ StrLaws.glueL [32] vs := by
      intro vs
      induction vs with
      | nil => intro _ h; cases h
      | cons v vs ih =>
        intro h m
        have m' : 10 ∈ [32] ++ (tl v ++ StrLaws.glueL [32] vs) := m
        rcases List.mem_append.mp m' with m | m
        · rcases List.mem_singleton.mp m with z
          cases z
        · rcases List.mem_append.mp m with m | m
          · exact (h v List.mem_cons_self).nl m
          · exact ih (fun z hz => h z (List.mem_cons_of_mem _ hz)) m
    intro m
    rcases List.mem_append.mp m with m | m
    · exact (p.al w List.mem_cons_self).nl m
    · exact key ws (fun z hz => p.al z (List.mem_cons_of_mem _ hz)) m
theorem join_ends : ∀ ps : List (List Nat), joinL [] (ps.map fun p => p ++ [10]) = joinL [10] (ps ++ [[]])
  | [] => rfl
  | [p] => by
    show p ++ [10] = p ++ ([10] ++ [])
    rw [List.append_nil]
  | p :: q :: r => by
    show (p ++ [10]) ++ ([] ++ joinL [] ((q :: r).map fun p => p ++ [10])) = p ++ ([10] ++ joinL [10] ((q :: r) ++ [[]]))
    rw [join_ends (q :: r), List.nil_append, List.append_assoc]
/-- a paper's text is its lines and an empty one, joined -/
theorem paper_join (es : List Ent) : paperT es = Txt.join "\n" ((allW es).map lineW ++ [("" : Str)]) := by
  apply ext_tl
  have k0 : tl ("" : Str) = [] := by decide +kernel
  unfold paperT
  rw [join_eq, join_eq, TL.tl_join, TL.tl_join, k0, tl_nl, List.map_append]
  rw [show ((((allW es).map lineW).map fun z => z ++ ("\n" : Str)).map tl) = (((allW es).map lineW).map tl).map fun p => p ++ [10] from by
    generalize (allW es).map lineW = zs
    rw [List.map_map, List.map_map]
    refine List.map_congr_left fun x _ => ?_
    show tl (x ++ ("\n" : Str)) = tl x ++ [10]
    rw [tl_append, tl_nl]]
  rw [join_ends]
  rfl
theorem lines_free {es : List Ent} (p : ∀ ws ∈ allW es, LineP ws) : ∀ z ∈ (allW es).map lineW ++ [("" : Str)], 10 ∉ tl z := by
  intro z hz
  rcases List.mem_append.mp hz with h | h
  · obtain ⟨ws, hw, rfl⟩ := List.mem_map.mp h
    exact nl_free (p ws hw) rfl
  · rcases List.mem_singleton.mp h with rfl
    decide +kernel
theorem paper_split {es : List Ent} (p : ∀ ws ∈ allW es, LineP ws) : Txt.split (paperT es) "\n" = (allW es).map lineW ++ [("" : Str)] := by
  rw [paper_join]
  exact split_join (s := 10) (S := []) tl_nl (by decide +kernel) (by simp) (lines_free p)
theorem words_none : wordsOfL ("" : Str) = [] := by decide +kernel
end HT
namespace HT
open PySem L2 TL
/-- the words of a list of signs -/
def wl (l : List Nat) : List (List Nat) := (spl [32] 0 [] l).filter fun p => decide (p ≠ [])
theorem wl_sp (r : List Nat) : wl (32 :: r) = wl r := by
  have e := spl_part1 (s := 32) (S := []) (p := []) (rest := r) (acc := []) (by simp)
  unfold wl
  rw [show (32 :: r : List Nat) = [] ++ (32 :: [] ++ r) from rfl, e, List.filter_cons, if_neg (by simp)]
theorem wl_word {p : List Nat} (r : List Nat) (h : 32 ∉ p) (n : p ≠ []) : wl (p ++ 32 :: r) = p :: wl r := by
  have e := spl_part1 (s := 32) (S := []) (p := p) (rest := r) (acc := []) h
  unfold wl
  rw [show p ++ 32 :: r = p ++ (32 :: [] ++ r) from rfl, e, List.filter_cons, if_pos (by simp [n])]
  rfl
theorem wl_last {p : List Nat} (h : 32 ∉ p) (n : p ≠ []) : wl p = [p] := by
  have e := spl_last1 (s := 32) (S := []) (p := p) (acc := []) h
  unfold wl
  rw [e, List.filter_cons, if_pos (by simp [n])]
  rfl
theorem wl_nil : wl [] = [] := by decide +kernel
theorem wl_blanks (r : List Nat) : ∀ a : Nat, wl (List.replicate a 32 ++ r) = wl r
  | 0 => rfl
  | a + 1 => by rw [List.replicate_succ, List.cons_append, wl_sp, wl_blanks r a]
theorem wl_only (a : Nat) : wl (List.replicate a 32) = [] := by
  have := wl_blanks [] a
  rwa [List.append_nil, wl_nil] at this
theorem wl_body (m b : Nat) : ∀ ps : List (List Nat), (∀ p ∈ ps, 32 ∉ p ∧ p ≠ []) → wl (joinL (List.replicate (m + 1) 32) ps ++ List.replicate b 32) = ps
  | [], _ => wl_only b
  | [p], h => by
    obtain ⟨h1, h2⟩ := h p List.mem_cons_self
    show wl (p ++ List.replicate b 32) = [p]
    cases b with
    | zero => rw [show List.replicate 0 32 = ([] : List Nat) from rfl, List.append_nil]; exact wl_last h1 h2
    | succ b => rw [List.replicate_succ, wl_word _ h1 h2, wl_only]
  | p :: q :: r, h => by
    obtain ⟨h1, h2⟩ := h p List.mem_cons_self
    show wl ((p ++ (List.replicate (m + 1) 32 ++ joinL (List.replicate (m + 1) 32) (q :: r))) ++ List.replicate b 32) = _
    rw [List.append_assoc, List.append_assoc, List.replicate_succ, List.cons_append, wl_word _ h1 h2, ← List.replicate_succ, wl_blanks, wl_body m b (q :: r) fun x hx => h x (List.mem_cons_of_mem _ hx)]
theorem words_wl (z : Str) : (wordsOfL z).map tl = wl (tl z) := by
  have e := split_spl z (" " : Str) (by decide +kernel) (kind_ok (by decide +kernel))
  rw [tl_sp] at e
  unfold wordsOfL wl
  rw [← e, List.filter_map]
  congr 1
  refine List.filter_congr fun x _ => ?_
  have : (x ≠ ("" : Str)) ↔ (tl x ≠ []) := by
    have k : tl ("" : Str) = [] := by decide +kernel
    constructor
    · intro h h2
      exact h (ext_tl (h2.trans k.symm))
    · intro h h2
      exact h (by rw [h2, k])
  show decide _ = decide _
  by_cases h : x ≠ ("" : Str)
  · rw [decide_eq_true h, decide_eq_true (this.mp h)]
  · rw [decide_eq_false h, decide_eq_false fun h2 => h (this.mpr h2)]
end HT
namespace HT
open PySem L2 TL
theorem spl_len (S : List Nat) : ∀ (l : List Nat) (k : Nat) (acc : List Nat), (spl S k acc l).length ≤ l.length + 1
  | [], k, acc => by cases k <;> simp [spl]
  | c :: r, 0, acc => by
    rw [spl]
    split
    · have := spl_len S r (S.length - 1) []
      simp only [List.length_cons]
      omega
    · have := spl_len S r 0 (acc ++ [c])
      simp only [List.length_cons]
      omega
  | c :: r, k + 1, acc => by
    rw [spl]
    have := spl_len S r k acc
    simp only [List.length_cons]
    omega
theorem parts_len (x : Str) : (Txt.split x " ").length ≤ x.length + 1 := by
  have e := split_spl x (" " : Str) (by decide +kernel) (kind_ok (by decide +kernel))
  have := spl_len (tl (" " : Str)) (tl x) 0 []
  rw [← e, List.length_map] at this
  rw [len_tl]
  exact this
end HT
namespace HT
open PySem L2 TL PySem.NumText
theorem tl_mul1 {z : Str} {c : Nat} (h : tl z = [c]) (n : Int) : tl (Txt.mul z n) = List.replicate n.toNat c := by
  have e : z = ⟨#[c]⟩ := ext_tl h
  rw [e]
  exact PyProof.Rows.mul_one_list c n
theorem mul1_ok {z : Str} {c : Nat} (h : tl z = [c]) {n : Int} (n0 : -1000 ≤ n) (n1 : n ≤ 1000) : PySem.MulOk z n := by
  have l : z.length = 1 := by rw [len_tl, h]; rfl
  refine ⟨?_, fun g _ => ?_, fun g _ => ?_⟩
  · rw [decide_eq_false (by omega), decide_eq_false (by omega)]
    rfl
  · rw [l]
    have : (2 : Int) ≤ (2 ^ 63 - 1) / n := Int.le_ediv_of_mul_le (by omega) (by omega)
    omega
  · rw [l, Nat.one_mul]
    exact decide_eq_false (by show ¬ n.toNat > 16777216; omega)
theorem lg62 {i : Int} (h : i.natAbs ≤ 10 ^ 62) : i.natAbs.log2 < 1920 := by
  by_cases e : i.natAbs = 0
  · rw [e]; decide
  · have := (Nat.log2_lt e).mpr (show i.natAbs < 2 ^ 210 from Nat.lt_of_le_of_lt h (by decide))
    omega
/-- the digits, with noughts ahead of them -/
theorem pad_digits (fig : Int) (pl : Nat) {x : Str} (hx : x = Str.ofString (toString (if fig < 0 then -fig else fig))) {k : Int} (hk : k.toNat = pl + 1 - x.length) : Txt.mul (Str.ofString "0") k ++ x = digM fig pl := by
  apply ext_tl
  have e : tl x = numL (absN fig) := by rw [hx, absN_eq]; exact tl_num (absN fig)
  rw [tl_append, tl_mul1 (z := Str.ofString "0") tl_zero, dig_list, e, hk, len_tl, e]
theorem text_due (fig : Int) {pl : Nat} (hp : pl ≤ 60) (h0 : -10 ^ 62 < fig) (h1 : fig < 10 ^ 62) {k m : Int} (hk : k = if 0 < pl then 1 else 0) (hm : m = if fig < 0 then 1 else 0) :
    Txt.mul (Str.ofString "-") m ++ (cutS (digM fig pl) none (some (((digM fig pl).length : Int) - (pl : Int))) ++ Txt.mul (Str.ofString ".") k ++ cutS (digM fig pl) (some (((digM fig pl).length : Int) - (pl : Int))) none) = textM fig pl false false 0 := by
  obtain ⟨d1, d2⟩ := dig_ok (show -10 ^ 520 < fig by omega) (show fig < 10 ^ 520 by omega) hp
  have et : textM fig pl false false 0 = Txt.rjust (markM fig false ++ (if 0 < pl then (cutS (digM fig pl) none (some (((digM fig pl).length : Int) - (pl : Int)))) ++ ("." : Str) ++ cutS (digM fig pl) (some (((digM fig pl).length : Int) - (pl : Int))) none else cutS (digM fig pl) none (some (((digM fig pl).length : Int) - (pl : Int))))) 0 := rfl
  rw [et]
  generalize digM fig pl = d at *
  apply ext_tl
  rw [tl_rjust _ (Int.le_refl 0)]
  show _ = List.replicate (0 - _) 32 ++ _
  rw [Nat.zero_sub, List.replicate_zero, List.nil_append, tl_append, tl_append, tl_append, tl_append, tl_mul1 (z := Str.ofString "-") tl_minus, tl_mul1 (z := Str.ofString ".") tl_dot, tl_mark]
  obtain ⟨q, hq⟩ : ∃ q : Nat, q = d.length - pl := ⟨_, rfl⟩
  have eq : (d.length : Int) - (pl : Int) = (q : Int) := by omega
  have dn : d.length = (tl d).length := len_tl d
  rw [eq]
  have t2 : tl (cutS d (some (q : Int)) none) = (tl d).drop q := tl_post d rfl (by omega)
  have em : List.replicate m.toNat 45 = (if fig < 0 then [45] else if 0 < fig ∧ false = true then [43] else []) := by
    rw [hm]
    by_cases g : fig < 0
    · rw [if_pos g, if_pos g]; rfl
    · rw [if_neg g, if_neg g, if_neg (by simp)]; rfl
  rw [em]
  congr 1
  by_cases g : 0 < pl
  · rw [hk, if_pos g, if_pos g, tl_append, tl_append, tl_dot]
    rfl
  · rw [hk, if_neg g, if_neg g, t2, List.drop_eq_nil_of_le (by omega)]
    show _ ++ [] ++ [] = _
    rw [List.append_nil, List.append_nil]
theorem cut_len (d : Str) (a b : Option Int) : (cutS d a b).length ≤ d.length := by
  rw [len_tl, len_tl d]
  show (((tl d).drop _).take _).length ≤ _
  rw [List.length_take, List.length_drop]
  omega
def spLText : Sp := fun vs H Q _ => ∃ (fig : Int) (pl : Nat), vs = [.int fig, .int (pl : Int)] ∧ -10 ^ 62 < fig ∧ fig < 10 ^ 62 ∧ pl ≤ 60 ∧ Q (.str (textM fig pl false false 0)) H
section
variable {P : Program} {w : World} {K : PySem.W.Frag} {mg : Str → Option Value} {base : Heap} {aN : Addr}
theorem ok_L_text {f : Addr} {fd : FuncData} (F : Fun K "_law_text" "_law_text" s_L_text f fd) (T : EnT K mg aN) (B : Blt mg) (MT : MaxT mg) : FnOk P w K mg base CX0 1 f fd ["_law_figure", "_law_places"] spLText := by
  refine F.ok sc_L_text (fun vs H Q E h => ?_) (fun cdv A outer s0 H vs Q E hr h => ?_)
  · obtain ⟨fig, pl, rfl, _⟩ := h
    rfl
  · obtain ⟨fig, pl, rfl, h0, h1, hp, q⟩ := h
    have nd := sc_L_text.nd
    refine ⟨_, (pss_cons (ps_set (i := 2) nd rfl (Or.inl rfl) (pe_callTy call_str_int (by rfl) T.str (by decide +kernel) (pa_cons (pe_callB call_abs (by rfl) B.abs (by decide +kernel) (pa_cons (pv 0) pa_nil)) pa_nil)))
      (pss_cons (ps_set (i := 2) nd rfl (Or.inl rfl) (pe_op op_add_str (pe_op op_mulS pe_str (pe_callB (call_max2 rfl) (by rfl) MT.max (by decide +kernel) (pa_cons pe_int (pa_cons (pe_op op_sub (pe_op op_add (pv 1) pe_int) (pe_callB call_len_str (by rfl) T.len PySem.boot_len (pa_cons (pv 2) pa_nil))) pa_nil)))) (pv 2)))
      (pss_cons (ps_set (i := 3) nd rfl (Or.inl rfl) (pe_op op_sub (pe_callB call_len_str (by rfl) T.len PySem.boot_len (pa_cons (pv 2) pa_nil)) (pv 1)))
      (pss_cons (ps_set (i := 4) nd rfl (Or.inl rfl) (pe_op op_add_str (pe_op op_add_str (pe_slice sl_str (pv 2) po_none (po_some (pv 3))) (pe_op op_mulS pe_str (pe_callTy call_int1 (by rfl) B.int (by decide +kernel) (pa_cons (pe_cmpR op_gt (pv 1) pe_int (nomark _)) pa_nil)))) (pe_slice sl_str (pv 2) (po_some (pv 3)) po_none)))
      (pss_one (ps_ret (pe_op op_add_str (pe_op op_mulS pe_str (pe_callTy call_int1 (by rfl) B.int (by decide +kernel) (pa_cons (pe_cmpR op_lt (pv 0) pe_int (nomark _)) pa_nil))) (pv 4)))))))), ?_⟩
    walk_at "rd"
    refine ⟨lg62 (by split <;> omega), ?_⟩
    walk_at "rd"
    obtain ⟨d1, d2⟩ := dig_ok (show -10 ^ 520 < fig by omega) (show fig < 10 ^ 520 by omega) hp
    obtain ⟨x, hx⟩ : ∃ x, x = Str.ofString (toString (if fig < 0 then -fig else fig)) := ⟨_, rfl⟩
    have xl : x.length ≤ 100 := by
      have b := PyProof.Rows.toString_length_le (v := if fig < 0 then -fig else fig) (by split <;> omega) (k := 62) (by decide) (by split <;> omega)
      rw [hx]
      exact Nat.le_trans b (by decide)
    have z : sizeLine = 16777216 := by decide +kernel
    have pd := pad_digits fig pl hx (k := if (pl : Int) + 1 - (x.length : Int) > 0 then (pl : Int) + 1 - (x.length : Int) else 0) (by split <;> omega)
    rw [← hx]
    refine ⟨(by omega), ?_⟩
    walk_at "rd"
    refine ⟨_, _, rfl, ?_⟩
    walk_at "rd"
    refine ⟨mul1_ok tl_zero (by split <;> omega) (by split <;> omega), ?_⟩
    walk_at "rd"
    refine ⟨?_, ?_⟩
    · rw [← Str.length_append, pd]
      omega
    rw [pd]
    generalize hd : digM fig pl = d at *
    walk_at "rd"
    refine ⟨by omega, ?_⟩
    walk_at "rd"
    refine ⟨by omega, ?_⟩
    walk_at "rd"
    refine .inr ⟨_, rfl, ?_⟩
    walk_at "rd"
    refine ⟨mul1_ok tl_dot (by split <;> omega) (by split <;> omega), ?_⟩
    walk_at "rd"
    have cl := cut_len d
    have ml : ∀ (y : Str) (c : Nat) (n : Int), tl y = [c] → n ≤ 1 → (Txt.mul y n).length ≤ 1 := fun y c n h g => by
      rw [len_tl, tl_mul1 h, List.length_replicate]
      omega
    have a1 := cl none (some ((d.length : Int) - (pl : Int)))
    have a2 := cl (some ((d.length : Int) - (pl : Int))) none
    have a3 := ml (Str.ofString ".") 46 (if decide ((0 : Int) < (pl : Int)) = true then 1 else 0) tl_dot (by split <;> omega)
    have a4 := ml (Str.ofString "-") 45 (if decide (fig < 0) = true then 1 else 0) tl_minus (by split <;> omega)
    have td := text_due fig hp h0 h1 (k := if decide ((0 : Int) < (pl : Int)) = true then 1 else 0) (m := if decide (fig < 0) = true then 1 else 0) (by by_cases g : 0 < pl <;> simp [g]) (by by_cases g : fig < 0 <;> simp [g])
    rw [hd] at td
    refine ⟨by omega, ?_⟩
    walk_at "rd"
    refine ⟨by omega, ?_⟩
    walk_at "rd"
    refine ⟨by simp only [Str.length_append]; omega, ?_⟩
    walk_at "rd"
    refine .inr ⟨_, rfl, ?_⟩
    walk_at "rd"
    refine ⟨mul1_ok tl_minus (by split <;> omega) (by split <;> omega), ?_⟩
    walk_at "rd"
    refine ⟨by simp only [Str.length_append]; omega, ?_⟩
    rw [td]
    exact q
end
end HT
namespace HT
open PySem L2 TL
/-! ### what the law draws -/
def TupK (H H' : Hp) : Prop := ∀ b xs, H b = some (.tup xs) → H' b = some (.tup xs)
theorem EntAt.tk {H H' : Hp} {p : Addr} {e : Ent} (h : EntAt H p e) (k : TupK H H') : EntAt H' p e := by
  cases e with
  | side n o s m pl => obtain ⟨q, a, b⟩ := h; exact ⟨q, k _ _ a, k _ _ b⟩
  | set n ns => obtain ⟨q, a, b⟩ := h; exact ⟨q, k _ _ a, k _ _ b⟩
  | log n g ls => obtain ⟨q, ps, a, b, c, d⟩ := h; exact ⟨q, ps, k _ _ a, k _ _ b, c, fun i x l e f => k _ _ (d i x l e f)⟩
theorem TupK.oth {H H' : Hp} {a c : Addr} {t : Nat} (S : Src H a c t) (O : Oth a c H H') : TupK H H' := fun b xs h => let ⟨x, y⟩ := S.nt h; O _ _ h x y
theorem TupK.lst {H : Hp} {l : Addr} {xs : List V} {o : HO} (h : H l = some (.lst xs)) : TupK H (upd H l o) := fun b ys z => (upd_ne (ne_of z h (by intro w; cases w))).trans z
theorem find_add {es : List Ent} {e r : Ent} {x : Str} (h : findE es x = some r) : findE (es ++ [e]) x = some r := by
  unfold findE at *
  rw [List.find?_append, h]
  rfl
theorem find_add_none {es : List Ent} {e : Ent} {x : Str} (h : findE es x = none) (n : e.name ≠ x) : findE (es ++ [e]) x = none := by
  unfold findE at *
  rw [List.find?_append, h, List.find?_cons, decide_eq_false n]
  rfl
theorem find_new {es : List Ent} {e : Ent} (h : findE es e.name = none) : findE (es ++ [e]) e.name = some e := by
  unfold findE at *
  rw [List.find?_append, h, List.find?_cons, decide_eq_true rfl]
  rfl
theorem allok_add {es : List Ent} {e : Ent} (ok : AllOk es) (h : EntOk es e) : AllOk (es ++ [e]) := by
  intro i x hx
  by_cases g : i < es.length
  · rw [List.getElem?_append_left g] at hx
    rw [List.take_append_of_le_length (by omega)]
    exact ok i x hx
  · have il : i < (es ++ [e]).length := (List.getElem?_eq_some_iff.mp hx).1
    rw [List.length_append, List.length_singleton] at il
    obtain rfl : i = es.length := by omega
    rw [List.getElem?_append_right (by omega), Nat.sub_self] at hx
    injection hx with hx
    subst hx
    rw [List.take_left]
    exact h
/-- a side's entry, found by its name -/
def SdN (H : Hp) (es : List Ent) (p : Addr) (x : Str) : Prop := ∃ o s m pl, NameP x ∧ EntAt H p (.side x o s m pl) ∧ findE es x = some (.side x o s m pl) ∧ SideP o s m ∧ pl ≤ 60
theorem SdN.tk {H H' : Hp} {es : List Ent} {p : Addr} {x : Str} (h : SdN H es p x) (k : TupK H H') : SdN H' es p x := let ⟨o, s, m, pl, a, b, c⟩ := h; ⟨o, s, m, pl, a, b.tk k, c⟩
theorem SdN.add {H : Hp} {es : List Ent} {p : Addr} {x : Str} (h : SdN H es p x) (e : Ent) : SdN H (es ++ [e]) p x := let ⟨o, s, m, pl, a, b, c, d⟩ := h; ⟨o, s, m, pl, a, b, find_add c, d⟩
structure LE (H0 H : Hp) (a c N F S : Addr) (t u : Nat) (nm : List Str) (es : List Ent) (ps sd : List Addr) : Prop where
  src : Src H a c t
  oth : Oth a c H0 H
  hN : H N = some (.lst (nm.map V.str))
  hF : H F = some (.lst (ps.map V.ref))
  hS : H S = some (.lst (sd.map V.ref))
  nNF : N ≠ F
  nNS : N ≠ S
  nFS : F ≠ S
  fF : H0 F = none
  fS : H0 S = none
  aN : N ≠ a ∧ N ≠ c
  aF : F ≠ a ∧ F ≠ c
  aS : S ≠ a ∧ S ≠ c
  len : ps.length = es.length
  at_ : ∀ (i : Nat) (p : Addr) (e : Ent), ps[i]? = some p → es[i]? = some e → EntAt H p e
  ok : AllOk es
  fr : ∀ (j : Nat) (x : Str), u ≤ j → nm[j]? = some x → findE es x = none
  sdn : ∀ p ∈ sd, ∃ x, SdN H es p x
section
variable {H0 H : Hp} {a c N F S : Addr} {t u : Nat} {nm : List Str} {es : List Ent} {ps sd : List Addr}
theorem LE.go {H1 : Hp} {t1 : Nat} (L : LE H0 H a c N F S t u nm es ps sd) (O : Oth a c H H1) (S1 : Src H1 a c t1) : LE H0 H1 a c N F S t1 u nm es ps sd :=
  have k := TupK.oth L.src O
  ⟨S1, L.oth.trans O, O _ _ L.hN L.aN.1 L.aN.2, O _ _ L.hF L.aF.1 L.aF.2, O _ _ L.hS L.aS.1 L.aS.2, L.nNF, L.nNS, L.nFS, L.fF, L.fS, L.aN, L.aF, L.aS, L.len, fun i p e x y => (L.at_ i p e x y).tk k, L.ok, L.fr, fun p hp => let ⟨x, h⟩ := L.sdn p hp; ⟨x, h.tk k⟩⟩
theorem LE.same {H1 : Hp} (L : LE H0 H a c N F S t u nm es ps sd) (s : Same H H1) : LE H0 H1 a c N F S t u nm es ps sd := L.go (fun b o h _ _ => s _ _ h) (L.src.of_same s)
theorem Src.updl {x : Addr} {o : HO} (S1 : Src H a c t) (n : x ≠ a ∧ x ≠ c) : Src (upd H x o) a c t := by
  obtain ⟨ne, ob, cs, hc, l⟩ := S1
  exact ⟨ne, (upd_ne (Ne.symm n.1)).trans ob, cs, (upd_ne (Ne.symm n.2)).trans hc, l⟩
theorem LE.addF {p : Addr} {e : Ent} {i u' : Nat} (L : LE H0 H a c N F S t u nm es ps sd) (ea : EntAt H p e) (ok : EntOk es e) (ex : nm[i]? = some e.name) (nd : nm.Nodup) (h1 : u ≤ u') (h2 : i < u') :
    LE H0 (upd H F (.lst ((ps ++ [p]).map V.ref))) a c N F S t u' nm (es ++ [e]) (ps ++ [p]) sd := by
  have k : TupK H (upd H F (.lst ((ps ++ [p]).map V.ref))) := TupK.lst L.hF
  refine ⟨L.src.updl L.aF, fun b o h m1 m2 => (upd_ne (fun z => by rw [z, L.fF] at h; cases h)).trans (L.oth b o h m1 m2), (upd_ne L.nNF).trans L.hN, upd_same, (upd_ne L.nFS.symm).trans L.hS, L.nNF, L.nNS, L.nFS, L.fF, L.fS, L.aN, L.aF, L.aS, by rw [List.length_append, List.length_append, L.len]; rfl, ?_, allok_add L.ok ok, ?_, fun q hq => let ⟨x, h⟩ := L.sdn q hq; ⟨x, (h.tk k).add e⟩⟩
  · intro j q x hq hx
    by_cases g : j < ps.length
    · rw [List.getElem?_append_left g] at hq
      rw [List.getElem?_append_left (by have := L.len; omega)] at hx
      exact (L.at_ j q x hq hx).tk k
    · have jl : j < (ps ++ [p]).length := (List.getElem?_eq_some_iff.mp hq).1
      rw [List.length_append, List.length_singleton] at jl
      obtain rfl : j = ps.length := by omega
      rw [List.getElem?_append_right (by omega), Nat.sub_self] at hq
      rw [List.getElem?_append_right (by have := L.len; omega), L.len, Nat.sub_self] at hx
      injection hq with hq
      injection hx with hx
      subst hq
      subst hx
      exact ea.tk k
  · intro j x hj hx
    refine find_add_none (L.fr j x (by omega) hx) fun z => ?_
    rw [← z] at hx
    have il : i < nm.length := (List.getElem?_eq_some_iff.mp ex).1
    have := (List.getElem?_inj il nd).mp (ex.trans hx.symm)
    omega
theorem LE.addS {p : Addr} {x : Str} (L : LE H0 H a c N F S t u nm es ps sd) (h : SdN H es p x) : LE H0 (upd H S (.lst ((sd ++ [p]).map V.ref))) a c N F S t u nm es ps (sd ++ [p]) := by
  have k : TupK H (upd H S (.lst ((sd ++ [p]).map V.ref))) := TupK.lst L.hS
  refine ⟨L.src.updl L.aS, fun b o h m1 m2 => (upd_ne (fun z => by rw [z, L.fS] at h; cases h)).trans (L.oth b o h m1 m2), (upd_ne L.nNS).trans L.hN, (upd_ne L.nFS).trans L.hF, upd_same, L.nNF, L.nNS, L.nFS, L.fF, L.fS, L.aN, L.aF, L.aS, L.len, fun i q e y z => (L.at_ i q e y z).tk k, L.ok, L.fr, ?_⟩
  intro q hq
  rcases List.mem_append.mp hq with hq | hq
  · obtain ⟨y, hy⟩ := L.sdn q hq
    exact ⟨y, hy.tk k⟩
  · rcases List.mem_singleton.mp hq with rfl
    exact ⟨x, h.tk k⟩
end
theorem ten_turn : ∀ f : Fin 10, (tenN.drop f.val ++ tenN.take f.val).Nodup := by decide +kernel
theorem cutV_from (xs : List V) (k : Nat) (h : k ≤ xs.length) : cutV xs (some (k : Int)) none = xs.drop k := by
  unfold cutV
  rw [HT.sIx_nat, HT.sIx_none, Nat.min_eq_left h, List.take_of_length_le]
  rw [List.length_drop]
  exact Nat.le_refl _
theorem cutV_to (xs : List V) (k : Nat) (h : k ≤ xs.length) : cutV xs none (some (k : Int)) = xs.take k := by
  unfold cutV
  rw [HT.sIx_nat, HT.sIx_none, Nat.min_eq_left h]
  rfl
end HT
namespace HT
open PySem L2 TL
theorem LE.up {H0 H : Hp} {a c N F S : Addr} {t u u' : Nat} {nm : List Str} {es : List Ent} {ps sd : List Addr} (L : LE H0 H a c N F S t u nm es ps sd) (h : u ≤ u') : LE H0 H a c N F S t u' nm es ps sd := { L with fr := fun j x hj hx => L.fr j x (by omega) hx }
theorem LE.other {H0 H : Hp} {a c N F S D : Addr} {t u : Nat} {nm : List Str} {es : List Ent} {ps sd : List Addr} {xs : List V} {o : HO} (L : LE H0 H a c N F S t u nm es ps sd) (hD : H D = some (.lst xs)) (fD : H0 D = none) (nN : N ≠ D) (nF : F ≠ D) (nS : S ≠ D) (na : D ≠ a ∧ D ≠ c) : LE H0 (upd H D o) a c N F S t u nm es ps sd := by
  have k : TupK H (upd H D o) := TupK.lst hD
  exact ⟨L.src.updl na, fun b u h m1 m2 => (upd_ne (fun z => by rw [z, fD] at h; cases h)).trans (L.oth b u h m1 m2), (upd_ne nN).trans L.hN, (upd_ne nF).trans L.hF, (upd_ne nS).trans L.hS, L.nNF, L.nNS, L.nFS, L.fF, L.fS, L.aN, L.aF, L.aS, L.len, fun i q e y z => (L.at_ i q e y z).tk k, L.ok, L.fr, fun q hq => let ⟨x, h⟩ := L.sdn q hq; ⟨x, h.tk k⟩⟩
/-- what is free now was free at the beginning -/
theorem LE.free {H0 H : Hp} {a c N F S D : Addr} {t u : Nat} {nm : List Str} {es : List Ent} {ps sd : List Addr} (L : LE H0 H a c N F S t u nm es ps sd) (h : H D = none) : H0 D = none := by
  cases hh : H0 D with
  | none => rfl
  | some o =>
    obtain ⟨n1, n2⟩ := L.src.na h
    rw [L.oth _ _ hh n1 n2] at h
    cases h
theorem names_of {H : Hp} {es : List Ent} : ∀ qs : List Addr, (∀ q ∈ qs, ∃ x, SdN H es q x) → ∃ ns : List Str, ns.length = qs.length ∧ ∀ (i : Nat) (q : Addr) (x : Str), qs[i]? = some q → ns[i]? = some x → SdN H es q x
  | [], _ => ⟨[], rfl, fun i q x h => by simp at h⟩
  | q :: qs, h => by
    obtain ⟨ns, l, p⟩ := names_of qs fun y hy => h y (List.mem_cons_of_mem _ hy)
    obtain ⟨x, hx⟩ := h q List.mem_cons_self
    refine ⟨x :: ns, by rw [List.length_cons, List.length_cons, l], fun i q' x' a b => ?_⟩
    cases i with
    | zero =>
      injection a with a
      injection b with b
      rw [← a, ← b]
      exact hx
    | succ i => exact p i q' x' a b
def spLEnts : Sp := fun vs H Q _ => ∃ (a c : Addr) (t : Nat), vs = [.ref a] ∧ Src H a c t ∧ t + 1000 < 2 ^ 30 ∧ ∀ (l : Addr) (H' : Hp) (es : List Ent) (t' : Nat), H l = none → t' ≤ t + 900 → Src H' a c t' → Oth a c H H' → l ≠ a → l ≠ c → EntsAt H' l es → AllOk es → 1 ≤ es.length → es.length ≤ 10 → Q (.ref l) H'
section
variable {P : Program} {w : World} {K : PySem.W.Frag} {mg : Str → Option Value} {base : Heap} {aN fD fP fG fS fT : Addr} {dD dP dG dS dT : FuncData}
theorem ok_L_entries {f : Addr} {fd : FuncData} (F : Fun K "_law_entries" "_law_entries" s_L_entries f fd) (T : EnT K mg aN) (B : Blt mg) (D : Cal P w K mg base "_law_draw" 1 ["_law_source_here", "_law_limit"] spDraw fD dD)
    (Pk : Cal P w K mg base "_law_pick" 2 ["_law_source_here", "_law_values"] spPick fP dP) (G : Cal P w K mg base "_law_great" 2 ["_law_source_here", "_law_limit"] spGreat fG dG) (Sd : Cal P w K mg base "_law_side" 4 ["_law_source_here", "_law_most"] spSide fS dS) (Tx : Cal P w K mg base "_law_text" 1 ["_law_figure", "_law_places"] spLText fT dT) : FnOk P w K mg base CX0 5 f fd ["_law_source_here"] spLEnts := by
  refine F.ok sc_L_entries (fun vs H Q E h => ?_) (fun cdv A outer s0 H vs Q E hr h => ?_)
  · obtain ⟨a, c, t, rfl, _⟩ := h
    rfl
  · obtain ⟨a, c, t, rfl, S0, ht, q⟩ := h
    have nd := sc_L_entries.nd
    refine ⟨_, (pss_cons (ps_set (i := 1) nd rfl (Or.inl rfl) (pe_lst (pa_cons pe_str (pa_cons pe_str (pa_cons pe_str (pa_cons pe_str (pa_cons pe_str (pa_cons pe_str (pa_cons pe_str (pa_cons pe_str (pa_cons pe_str (pa_cons pe_str pa_nil))))))))))))
      (pss_cons (ps_set (i := 2) nd rfl (Or.inl rfl) (pcl D hr (by decide) (by rfl) (pa_cons (pv 0) (pa_cons pe_int pa_nil))))
      (pss_cons (ps_set (i := 1) nd rfl (Or.inl rfl) (pe_op op_cat (pe_slice sl_list (pv 1) (po_some (pv 2)) po_none) (pe_slice sl_list (pv 1) po_none (po_some (pv 2)))))
      (pss_cons (ps_set (i := 3) nd rfl (Or.inl rfl) (pe_lst pa_nil))
      (pss_cons (ps_set (i := 4) nd rfl (Or.inr rfl) (pe_lst pa_nil))
      (pss_cons (ps_for PassesOwn.never rfl (pi_range1 (by rfl) B.range (pa_cons (pe_op op_add pe_int (pcl D hr (by decide) (by rfl) (pa_cons (pv 0) (pa_cons pe_int pa_nil)))) pa_nil)) (pg_name (i := 5) nd rfl (Or.inl rfl)) (pss_cons (ps_set (i := 6) nd rfl (Or.inl rfl) (pcl Sd hr (by decide) (by rfl) (pa_cons (pv 0) (pa_cons (pcl Pk hr (by decide) (by rfl) (pa_cons (pv 0) (pa_cons (pe_lst (pa_cons pe_int (pa_cons (pe_op op_pow pe_int pe_int) pa_nil))) pa_nil))) pa_nil))))
      (pss_cons (ps_set (i := 7) nd rfl (Or.inl rfl) (pcl Pk hr (by decide) (by rfl) (pa_cons (pv 0) (pa_cons (pe_lst (pa_cons pe_int (pa_cons pe_int (pa_cons pe_int (pa_cons pe_int (pa_cons pe_int (pa_cons (pcl D hr (by decide) (by rfl) (pa_cons (pv 0) (pa_cons pe_int pa_nil))) pa_nil))))))) pa_nil))))
      (pss_cons (ps_expr (pe_bm PySem.F.plainAttrs_list PySem.F.slot_list_append PySem.F.type_list_append mt_append (pv 3) (pa_cons (pe_tup (pa_cons pe_str (pa_cons (pe_ix ix_list (pv 1) (pv 5) (fun _ _ => rfl)) (pa_cons (pv 6) (pa_cons (pv 7) pa_nil))))) pa_nil)))
      (pss_one (ps_expr (pe_bm PySem.F.plainAttrs_list PySem.F.slot_list_append PySem.F.type_list_append mt_append (pv 4) (pa_cons (pe_ix ix_list (pv 3) (pe_un un_neg pe_int) (fun _ _ => rfl)) pa_nil))))))))
      (pss_cons (ps_for PassesOwn.never rfl (pi_range1 (by rfl) B.range (pa_cons (pcl D hr (by decide) (by rfl) (pa_cons (pv 0) (pa_cons pe_int pa_nil))) pa_nil)) (pg_name (i := 5) nd rfl (Or.inl rfl)) (pss_cons (ps_setLc (i := 9) (own := [("_law_turn", 8)]) (g := gName 8) (tt := tYes) rfl nd rfl rfl (sw_true rfl rfl rfl (by decide +kernel)) (pi_range1 (by rfl) B.range (pa_cons (pe_op op_add pe_int (pcl D hr (by decide) (by rfl) (pa_cons (pv 0) (pa_cons pe_int pa_nil)))) pa_nil)) (blkOk_by (N := ["_law_source_here", "_law_names", "_law_first", "_law_found", "_law_sides", "_law_k", "_law_side_here", "_law_places", "_law_turn", "_law_some", "_law_name", "_law_lines", "_law_figure"]) (sc := defScope s_L_entries) (by decide +kernel)) (fun _ _ _ _ _ => pg_name (i := 8) nd rfl (Or.inl rfl)) (fun _ _ _ _ _ => pts_nil) (fun _ _ _ _ _ => (pcl Pk hr (by decide) (by rfl) (pa_cons (pv 0) (pa_cons (pv 4) pa_nil)))))
      (pss_cons (ps_set (i := 10) nd rfl (Or.inl rfl) (pe_ix ix_list (pv 1) (pe_op op_add pe_int (pe_op op_mul pe_int (pv 5))) (fun _ _ => rfl)))
      (pss_cons (ps_expr (pe_bm PySem.F.plainAttrs_list PySem.F.slot_list_append PySem.F.type_list_append mt_append (pv 3) (pa_cons (pe_tup (pa_cons pe_str (pa_cons (pv 10) (pa_cons (pe_callTy call_tuple_of (by rfl) T.tuple (by decide +kernel) (pa_cons (pe_lc (own := [("_law_side_here", 6)]) (g := gName 6) (tt := tYes) rfl nd (pi_list (pv 9)) (blkOk_by (N := ["_law_source_here", "_law_names", "_law_first", "_law_found", "_law_sides", "_law_k", "_law_side_here", "_law_places", "_law_turn", "_law_some", "_law_name", "_law_lines", "_law_figure"]) (sc := defScope s_L_entries) (by decide +kernel)) (fun _ _ _ _ _ => pg_name (i := 6) nd rfl (Or.inl rfl)) (fun _ _ _ _ _ => pts_nil) (fun _ _ _ _ _ => (pe_ix (r := rIxT K) (by exact ix_tup) (pv 6) pe_int (fun _ _ => rfl)))) pa_nil)) pa_nil)))) pa_nil)))
      (pss_one (ps_if (pt_cmpR op_eq (pcl D hr (by decide) (by rfl) (pa_cons (pv 0) (pa_cons pe_int pa_nil))) pe_int (nomark _)) (pss_cons (ps_set (i := 11) nd rfl (Or.inl rfl) (pe_lst pa_nil))
      (pss_cons (ps_for PassesOwn.never rfl (pi_range1 (by rfl) B.range (pa_cons (pcl D hr (by decide) (by rfl) (pa_cons (pv 0) (pa_cons pe_int pa_nil))) pa_nil)) (pg_name (i := 8) nd rfl (Or.inl rfl)) (pss_cons (ps_set (i := 6) nd rfl (Or.inl rfl) (pcl Pk hr (by decide) (by rfl) (pa_cons (pv 0) (pa_cons (pv 9) pa_nil))))
      (pss_cons (ps_set (i := 12) nd rfl (Or.inl rfl) (pe_op op_sub (pcl G hr (by decide) (by rfl) (pa_cons (pv 0) (pa_cons (pcl Pk hr (by decide) (by rfl) (pa_cons (pv 0) (pa_cons (pe_lst (pa_cons pe_int (pa_cons pe_int (pa_cons (pe_op op_pow pe_int pe_int) pa_nil)))) pa_nil))) pa_nil))) (pcl D hr (by decide) (by rfl) (pa_cons (pv 0) (pa_cons pe_int pa_nil)))))
      (pss_one (ps_expr (pe_bm PySem.F.plainAttrs_list PySem.F.slot_list_append PySem.F.type_list_append mt_append (pv 11) (pa_cons (pe_tup (pa_cons (pe_ix ix_tup (pv 6) pe_int (fun _ _ => rfl)) (pa_cons (pcl Tx hr (by decide) (by rfl) (pa_cons (pv 12) (pa_cons (pe_ix ix_tup (pv 6) pe_int (fun _ _ => rfl)) pa_nil))) pa_nil))) pa_nil)))))))
      (pss_one (ps_expr (pe_bm PySem.F.plainAttrs_list PySem.F.slot_list_append PySem.F.type_list_append mt_append (pv 3) (pa_cons (pe_tup (pa_cons pe_str (pa_cons (pe_ix ix_list (pv 1) (pe_op op_add pe_int (pe_op op_mul pe_int (pv 5))) (fun _ _ => rfl)) (pa_cons (pv 10) (pa_cons (pe_callTy call_tuple_of (by rfl) T.tuple (by decide +kernel) (pa_cons (pv 11) pa_nil)) pa_nil))))) pa_nil)))))) pss_nil))))))
      (pss_one (ps_ret (pv 3)))))))))), ?_⟩
    walk_at "rd"
    refine ⟨(by show 10 ≤ sizeLine; decide), fun n0 nn0 => ?_⟩
    generalize e1 : upd H n0 _ = H1
    have g1 : H1 n0 = some (.lst (tenN.map V.str)) := by rw [← e1]; exact upd_same
    have s1 : Same H H1 := by rw [← e1]; exact fun b u z => (upd_ne (ne_of_none z nn0)).trans z
    clear e1
    have na0 := S0.na nn0
    have O1 : Oth a c H H1 := fun b u z _ _ => s1 _ _ z
    have S1 : Src H1 a c t := S0.of_same s1
    walk_at "rd"
    refine ⟨a, c, t, 10, rfl, S1, by omega, by decide, lg_small (by decide) (by decide), fun f H2 f0 f1 S2 O2 => ?_⟩
    obtain ⟨fn, rfl⟩ := Int.eq_ofNat_of_zero_le f0
    have fl : fn < 10 := by omega
    have g2 := O2 _ _ g1 na0.1 na0.2
    have tl10 : (tenN.map V.str).length = 10 := rfl
    walk_at "rd"
    refine ⟨n0, _, rfl, SqL.of g2, fun p1 np1 => ?_⟩
    rw [cutV_from _ fn (by rw [tl10]; omega)]
    generalize e3 : upd H2 p1 _ = H3
    have g3 : H3 p1 = some (.lst ((tenN.map V.str).drop fn)) := by rw [← e3]; exact upd_same
    have s3 : Same H2 H3 := by rw [← e3]; exact fun b u z => (upd_ne (ne_of_none z np1)).trans z
    clear e3
    walk_at "rd"
    refine ⟨n0, _, rfl, SqL.of (s3 _ _ g2), fun p2 np2 => ?_⟩
    rw [cutV_to _ fn (by rw [tl10]; omega)]
    generalize e4 : upd H3 p2 _ = H4
    have g4 : H4 p2 = some (.lst ((tenN.map V.str).take fn)) := by rw [← e4]; exact upd_same
    have s4 : Same H3 H4 := by rw [← e4]; exact fun b u z => (upd_ne (ne_of_none z np2)).trans z
    clear e4
    refine ⟨p1, p2, _, _, rfl, rfl, s4 _ _ g3, g4, ?_, fun N nN => ?_⟩
    · rw [List.length_drop, List.length_take, tl10]
      exact Nat.le_trans (by omega : _ ≤ 20) (by decide)
    obtain ⟨nm, hnm⟩ : ∃ nm, nm = tenN.drop fn ++ tenN.take fn := ⟨_, rfl⟩
    have em : (tenN.map V.str).drop fn ++ (tenN.map V.str).take fn = nm.map V.str := by rw [hnm, List.map_append, List.map_drop, List.map_take]
    rw [em]
    have nml : nm.length = 10 := by rw [hnm, List.length_append, List.length_drop, List.length_take]; show 10 - fn + min fn 10 = 10; omega
    have nmn : ∀ x ∈ nm, NameP x := fun x hx => by
      rw [hnm] at hx
      rcases List.mem_append.mp hx with hx | hx
      · exact List.mem_of_mem_drop hx
      · exact List.mem_of_mem_take hx
    have nmd : nm.Nodup := by rw [hnm]; exact ten_turn ⟨fn, fl⟩
    clear hnm em
    generalize e5 : upd H4 N _ = H5
    have g5 : H5 N = some (.lst (nm.map V.str)) := by rw [← e5]; exact upd_same
    have s5 : Same H4 H5 := by rw [← e5]; exact fun b u z => (upd_ne (ne_of_none z nN)).trans z
    clear e5
    walk_at "rd"
    refine ⟨(by show 0 ≤ sizeLine; decide), fun Fo nF => ?_⟩
    generalize e6 : upd H5 Fo _ = H6
    have g6 : H6 Fo = some (.lst []) := by rw [← e6]; exact upd_same
    have s6 : Same H5 H6 := by rw [← e6]; exact fun b u z => (upd_ne (ne_of_none z nF)).trans z
    clear e6
    walk_at "rd"
    refine ⟨(by show 0 ≤ sizeLine; decide), fun So nS => ?_⟩
    generalize e7 : upd H6 So _ = H7
    have g7 : H7 So = some (.lst []) := by rw [← e7]; exact upd_same
    have s7 : Same H6 H7 := by rw [← e7]; exact fun b u z => (upd_ne (ne_of_none z nS)).trans z
    clear e7
    have s25 := s3.trans (s4.trans s5)
    have s27 := s25.trans (s6.trans s7)
    have fr2 : ∀ x, H2 x = none → H x = none := fun x hx => by
      cases hh : H x with
      | none => rfl
      | some u =>
        by_cases xa : x = a
        · subst xa; rw [S2.ob] at hx; cases hx
        · by_cases xc : x = c
          · obtain ⟨cs, hcs, _⟩ := S2.cl
            subst xc; rw [hcs] at hx; cases hx
          · rw [O2 _ _ (s1 _ _ hh) xa xc] at hx; cases hx
    have S5 := S2.of_same s25
    have S6 := S5.of_same s6
    have L0 : LE H H7 a c N Fo So (t + 1) 0 nm [] [] [] := by
      refine ⟨S2.of_same s27, fun b u z m1 m2 => s27 _ _ (O2 _ _ (s1 _ _ z) m1 m2), s7 _ _ (s6 _ _ g5), s7 _ _ g6, g7, ?_, ?_, ?_, fr2 _ (s25.free nF), fr2 _ (s25.free (s6.free nS)), ?_, S5.na nF, S6.na nS, rfl, fun i p e z => by simp at z, fun i e z => by simp at z, fun j x _ _ => rfl, fun p hp => by cases hp⟩
      · exact ne_of_none g5 nF
      · exact ne_of_none (s6 _ _ g5) nS
      · exact ne_of_none g6 nS
      · exact (S2.of_same (s3.trans s4)).na nN
    clear g1 g2 g3 g4 g5 g6 g7
    walk_at "rd"
    refine ⟨a, c, t + 1, 4, rfl, L0.src, by omega, by decide, lg_small (by decide) (by decide), fun kk H8 k0 k1 S8 O8 => ?_⟩
    obtain ⟨kn, rfl⟩ := Int.eq_ofNat_of_zero_le k0
    have kl : kn < 4 := by omega
    have L8 := L0.go O8 S8
    walk_at "rd"
    refine ⟨by omega, by omega, ?_⟩
    refine for_range (fun i st H' => ∃ (x5 x6 x7 : Option V) (es : List Ent) (ps : List Addr) (t' : Nat), st = [some (.ref a), some (.ref N), some (.int (fn : Int)), some (.ref Fo), some (.ref So), x5, x6, x7, none, none, none, none, none] ∧ LE H H' a c N Fo So t' i nm es ps ps ∧ t' ≤ t + 2 + 50 * i ∧ es.length = i)
      ⟨none, none, none, [], [], t + 1 + 1, rfl, L8, by omega, rfl⟩ ?_ ?_
    · rintro i st Ha hi ⟨x5, x6, x7, es, ps, t1, rfl, La, t1b, esl⟩
      have ib : i < 4 := by omega
      walk_at "rd"
      refine ⟨⟨by decide, by decide, by decide⟩, ?_⟩
      walk_at "rd"
      refine ⟨(by show 2 ≤ sizeLine; decide), fun l nl => ?_⟩
      have lac := La.src.na nl
      refine ⟨a, c, t1, l, _, rfl, La.src.new nl, by omega, upd_same, lac.1, lac.2, by decide, by decide, fun x Hb hx Sb Ob => ?_⟩
      have Lb := (La.same (fun b u z => (upd_ne (ne_of_none z nl)).trans z)).go Ob Sb
      clear Ob Sb lac nl
      obtain ⟨mo, rfl, m0, m1⟩ : ∃ mo : Int, x = .int mo ∧ 1 ≤ mo ∧ mo ≤ 10 ^ 30 := by
        simp only [List.mem_cons, List.not_mem_nil, or_false] at hx
        rcases hx with rfl | rfl
        · exact ⟨_, rfl, by decide, by decide⟩
        · exact ⟨_, rfl, by decide, by decide⟩
      walk_at "rd"
      refine ⟨a, c, t1 + 1, mo, rfl, Lb.src, m0, m1, by omega, fun sp o s m Hc t2 nsp hsp fit t2b Sc Oc => ?_⟩
      have Lc := Lb.go Oc Sc
      clear Oc Sc
      obtain ⟨s0', s1', o0, o1, md⟩ := fit
      have SP : SideP o s m := ⟨by omega, by omega, s0', by omega, md⟩
      walk_at "rd"
      refine ⟨a, c, t2, 30, rfl, Lc.src, by omega, by decide, lg_small (by decide) (by decide), fun k3 Hd k30 k31 Sd' Od => ?_⟩
      have hsp2 := (TupK.oth Lc.src Od) _ _ hsp
      have Ld := Lc.go Od Sd'
      clear Od Sd' hsp
      walk_at "rd"
      refine ⟨(by show 6 ≤ sizeLine; decide), fun l nl => ?_⟩
      have lac := Ld.src.na nl
      generalize e8 : upd Hd l _ = He1
      have g8 : He1 l = some (.lst [.int 0, .int 1, .int 2, .int 3, .int 60, .int k3]) := by rw [← e8]; exact upd_same
      have s8' : Same Hd He1 := by rw [← e8]; exact fun b u z => (upd_ne (ne_of_none z nl)).trans z
      clear e8
      have Le1 := Ld.same s8'
      refine ⟨a, c, t2 + 1, l, _, rfl, Le1.src, by omega, g8, lac.1, lac.2, (by show 0 < 6; decide), (by show 6 < 2 ^ 60; decide), fun x He hx Se Oe => ?_⟩
      have hsp3 := (TupK.oth Le1.src Oe) _ _ (s8' _ _ hsp2)
      have Le := Le1.go Oe Se
      clear Oe Se lac nl Le1 hsp2
      obtain ⟨pl, rfl, p60⟩ : ∃ pl : Nat, x = .int (pl : Int) ∧ pl ≤ 60 := by
        simp only [List.mem_cons, List.not_mem_nil, or_false] at hx
        rcases hx with rfl | rfl | rfl | rfl | rfl | rfl
        · exact ⟨0, rfl, by decide⟩
        · exact ⟨1, rfl, by decide⟩
        · exact ⟨2, rfl, by decide⟩
        · exact ⟨3, rfl, by decide⟩
        · exact ⟨60, rfl, by decide⟩
        · obtain ⟨k, rfl⟩ := Int.eq_ofNat_of_zero_le k30
          exact ⟨k, rfl, by omega⟩
      walk_at "rd"
      refine ⟨.inl ⟨rfl, _, SqL.of Le.hF⟩, ?_⟩
      obtain ⟨nx, ex⟩ : ∃ nx, nm[i]? = some nx := ⟨_, List.getElem?_eq_getElem (by omega)⟩
      walk_at "rd"
      refine ⟨N, _, _, _, rfl, rfl, SqL.of Le.hN, (by rw [Int.zero_add]; exact at_nat (by rw [List.getElem?_map, ex]; rfl)), ?_⟩
      walk_at "rd"
      refine ⟨(by show 4 ≤ sizeLine; decide), fun p np => ?_⟩
      generalize e9 : upd He p _ = Hf
      have g9 : Hf p = some (.tup [.str "side", .str nx, .ref sp, .int (pl : Int)]) := by rw [← e9]; exact upd_same
      have s9 : Same He Hf := by rw [← e9]; exact fun b u z => (upd_ne (ne_of_none z np)).trans z
      clear e9
      have Lf := Le.same s9
      have ea : EntAt Hf p (.side nx o s m pl) := ⟨sp, g9, s9 _ _ hsp3⟩
      have nN := nmn nx (List.mem_of_getElem? ex)
      have eo : EntOk es (.side nx o s m pl) := ⟨nN, Le.fr i nx (Nat.le_refl _) ex, SP, p60⟩
      have psl := Lf.len
      have Lg := Lf.addF (i := i) (u' := i + 1) ea eo ex nmd (by omega) (by omega)
      refine ⟨Fo, _, _, rfl, rfl, Lf.hF, ?_, ?_⟩
      · rw [List.length_map]
        exact Nat.lt_of_le_of_lt (by omega : _ ≤ 4) (by decide)
      have e10 : ps.map V.ref ++ [V.ref p] = (ps ++ [p]).map V.ref := by rw [List.map_append]; rfl
      rw [e10]
      generalize e11 : upd Hf Fo _ = Hg at Lg ⊢
      have ea2 : EntAt Hg p (.side nx o s m pl) := by rw [← e11]; exact ea.tk (TupK.lst Lf.hF)
      clear e11
      walk_at "rd"
      refine ⟨.inl ⟨rfl, _, SqL.of Lg.hS⟩, ?_⟩
      walk_at "rd"
      refine ⟨Fo, _, _, _, rfl, rfl, SqL.of Lg.hF, (by rw [List.map_append]; exact atI_last _ _), ?_⟩
      have sdp : SdN Hg (es ++ [.side nx o s m pl]) p nx := ⟨o, s, m, pl, nN, ea2, find_new (Le.fr i nx (Nat.le_refl _) ex), SP, p60⟩
      have Lh := Lg.addS sdp
      refine ⟨So, _, _, rfl, rfl, Lg.hS, ?_, ?_⟩
      · rw [List.length_map]
        exact Nat.lt_of_le_of_lt (by omega : _ ≤ 4) (by decide)
      rw [e10]
      exact ⟨_, _, _, es ++ [.side nx o s m pl], ps ++ [p], t2 + 1 + 1, rfl, Lh, by omega, by rw [List.length_append, esl]; rfl⟩
    rintro st Ha ⟨x5, x6, x7, es, ps, t1, rfl, La, t1b, esl⟩
    walk_at "rd"
    refine ⟨a, c, t1, 4, rfl, La.src, by omega, by decide, lg_small (by decide) (by decide), fun k2 Hb k20 k21 Sb Ob => ?_⟩
    obtain ⟨kn2, rfl⟩ := Int.eq_ofNat_of_zero_le k20
    have kl2 : kn2 < 4 := by omega
    have Lb := La.go Ob Sb
    walk_at "rd"
    refine ⟨by omega, by omega, ?_⟩
    rw [Int.toNat_natCast]
    have Lu := Lb.up (u' := 4 + 2 * 0) (by omega)
    have psl := Lb.len
    refine for_range (fun i st H' => ∃ (x5 x6 x7 x8 x9 x10 x11 x12 : Option V) (es : List Ent) (ps sd : List Addr) (t' : Nat), st = [some (.ref a), some (.ref N), some (.int (fn : Int)), some (.ref Fo), some (.ref So), x5, x6, x7, x8, x9, x10, x11, x12] ∧ LE H H' a c N Fo So t' (4 + 2 * i) nm es ps sd ∧ t' ≤ t + 210 + 80 * i ∧ 1 ≤ sd.length ∧ sd.length ≤ 4 ∧ 1 ≤ es.length ∧ es.length ≤ 4 + 2 * i)
      ⟨_, _, _, none, none, none, none, none, es, ps, ps, t1 + 1, rfl, Lu, by omega, by omega, by omega, by omega, by omega⟩ ?_ ?_
    · clear La t1b esl Lb Lu psl Sb Ob L8 S8 O8 L0 x5 x6 x7 es ps t1 Ha Hb
      rintro i st Ha hi ⟨x5, x6, x7, x8, x9, x10, x11, x12, es, ps, sd, t1, rfl, La, t1b, sd1, sd4, es1, es4⟩
      walk_at "rd"
      refine ⟨a, c, t1, 4, rfl, La.src, by omega, by decide, lg_small (by decide) (by decide), fun k3 Hb k30 k31 Sb Ob => ?_⟩
      obtain ⟨kn3, rfl⟩ := Int.eq_ofNat_of_zero_le k30
      have kl3 : kn3 < 4 := by omega
      have Lb := La.go Ob Sb
      clear Ob Sb La
      walk_at "rd"
      refine ⟨by omega, by omega, fun D nD => ?_⟩
      have fD := Lb.free nD
      have naD := Lb.src.na nD
      have nND := ne_of_none Lb.hN nD
      have nFD := ne_of_none Lb.hF nD
      have nSD := ne_of_none Lb.hS nD
      refine lc_range (fun j Hj => ∃ (qs : List Addr) (t' : Nat), Hj D = some (.lst (qs.map V.ref)) ∧ qs.length = j ∧ (∀ q ∈ qs, q ∈ sd) ∧ LE H Hj a c N Fo So t' (4 + 2 * i) nm es ps sd ∧ t' ≤ t1 + 1 + j) ⟨[], t1 + 1, upd_same, rfl, (fun q hq => by cases hq), Lb.same fun b u z => (upd_ne (ne_of_none z nD)).trans z, by omega⟩ ?_ ?_
      · rintro j Hj hj ⟨qs, t2, hD, ql, qm, Lj, t2b⟩
        refine ⟨rfl, ?_⟩
        walk_at "rd"
        refine ⟨a, c, t2, So, _, rfl, Lj.src, by omega, Lj.hS, Lj.aS.1, Lj.aS.2, by rw [List.length_map]; omega, by rw [List.length_map]; omega, fun x Hk hx Sk Ok => ?_⟩
        obtain ⟨q, hq, rfl⟩ := List.mem_map.mp hx
        have Lk := Lj.go Ok Sk
        have hDk := Ok _ _ hD naD.1 naD.2
        refine ⟨_, hDk, ?_, qs ++ [q], t2 + 1, ?_, by rw [List.length_append, ql]; rfl, ?_, Lk.other hDk fD nND nFD nSD naD, by omega⟩
        · rw [List.length_map]
          exact Nat.lt_of_le_of_lt (by omega : _ ≤ 4) (by decide)
        · rw [List.map_append]
          exact upd_same
        · intro y hy
          rcases List.mem_append.mp hy with hy | hy
          · exact qm y hy
          · rcases List.mem_singleton.mp hy with rfl
            exact hq
      rintro Hc ⟨qs, t2, hD, ql, qm, Lc, t2b⟩
      have ql' : qs.length = kn3 + 1 := by omega
      obtain ⟨ns, nsl, nsp⟩ := names_of (H := Hc) (es := es) qs fun q hq => Lc.sdn q (qm q hq)
      obtain ⟨nx, ex⟩ : ∃ nx, nm[4 + 2 * i]? = some nx := ⟨_, List.getElem?_eq_getElem (by omega)⟩
      walk_at "rd"
      refine ⟨.inl ⟨by decide, by decide⟩, ?_⟩
      walk_at "rd"
      refine ⟨N, _, _, _, rfl, rfl, SqL.of Lc.hN, (by rw [show (4 : Int) + 2 * (0 + (i : Int)) = ((4 + 2 * i : Nat) : Int) by omega]; exact at_nat (by rw [List.getElem?_map, ex]; rfl)), ?_⟩
      walk_at "rd"
      refine ⟨.inl ⟨rfl, _, SqL.of Lc.hF⟩, ?_⟩
      walk_at "rd"
      refine ⟨⟨_, SqL.of hD⟩, fun D2 nD2 => ?_⟩
      refine lc_it (walk_list (K := K) (a := D) (xs := qs.map V.ref)) (fun j Hj => Hj D2 = some (.lst ((ns.take j).map V.str)) ∧ Same Hc Hj) ⟨upd_same, fun b u z => (upd_ne (ne_of_none z nD2)).trans z⟩ (fun _ _ _ ⟨_, s3⟩ => SqL.of (s3 _ _ hD)) ?_ ?_
      · rintro j y Hj Hk hj ⟨hD2, sj⟩ ⟨rfl, ey⟩
        rw [List.getElem?_map] at ey
        obtain ⟨q, eq, rfl⟩ := Option.map_eq_some_iff.mp ey
        rw [List.length_map] at hj
        obtain ⟨x, exn⟩ : ∃ x, ns[j]? = some x := ⟨_, List.getElem?_eq_getElem (by omega)⟩
        obtain ⟨o, s, m, pl, nN, ⟨qa, hp, hq⟩, fe, SP, p60⟩ := nsp j q x eq exn
        refine ⟨rfl, ?_⟩
        walk_at "rd"
        refine ⟨q, _, _, _, rfl, rfl, SqT.of (sj _ _ hp), at_nat (k := 1) rfl, ?_⟩
        refine ⟨_, hD2, ?_, ?_, fun b u z => (upd_ne (ne_of_none z nD2)).trans (sj _ _ z)⟩
        · rw [List.length_map, List.length_take]
          exact Nat.lt_of_le_of_lt (by omega : _ ≤ 4) (by decide)
        · rw [List.take_succ, exn, List.map_append]
          exact upd_same
      rintro Hd ⟨hD2, sd'⟩
      rw [List.length_map, ← nsl, List.take_length] at hD2
      walk_at "rd"
      refine ⟨D2, _, rfl, .inl ⟨SqL.of hD2, fun tp ntp => ?_⟩⟩
      generalize e8 : upd Hd tp _ = He
      have g8 : He tp = some (.tup (ns.map V.str)) := by rw [← e8]; exact upd_same
      have s8' : Same Hd He := by rw [← e8]; exact fun b u z => (upd_ne (ne_of_none z ntp)).trans z
      clear e8
      walk_at "rd"
      refine ⟨(by show 3 ≤ sizeLine; decide), fun p np => ?_⟩
      generalize e9 : upd He p _ = Hf
      have g9 : Hf p = some (.tup [.str "set", .str nx, .ref tp]) := by rw [← e9]; exact upd_same
      have s9 : Same He Hf := by rw [← e9]; exact fun b u z => (upd_ne (ne_of_none z np)).trans z
      clear e9
      have sc := sd'.trans (s8'.trans s9)
      have Lf := Lc.same sc
      have hDf := sc _ _ hD
      have nspf : ∀ (i : Nat) (q : Addr) (x : Str), qs[i]? = some q → ns[i]? = some x → SdN Hf es q x := fun i q x a b => (nsp i q x a b).tk fun b xs h => sc _ _ h
      have ea : EntAt Hf p (.set nx ns) := ⟨tp, g9, s9 _ _ g8⟩
      have nN := nmn nx (List.mem_of_getElem? ex)
      have eo : EntOk es (.set nx ns) := by
        refine ⟨nN, Lc.fr (4 + 2 * i) nx (Nat.le_refl _) ex, by omega, by omega, fun x hx => ?_⟩
        obtain ⟨j, hj⟩ := List.getElem?_of_mem hx
        have jl : j < ns.length := (List.getElem?_eq_some_iff.mp hj).1
        obtain ⟨q, hq⟩ : ∃ q, qs[j]? = some q := ⟨_, List.getElem?_eq_getElem (by omega)⟩
        obtain ⟨o, s, m, pl, nN, _, fe, _, _⟩ := nsp j q x hq hj
        exact ⟨nN, o, s, m, pl, fe⟩
      have psl := Lf.len
      have Lg := Lf.addF (i := 4 + 2 * i) (u' := 4 + 2 * i + 1) ea eo ex nmd (by omega) (by omega)
      refine ⟨Fo, _, _, rfl, rfl, Lf.hF, ?_, ?_⟩
      · rw [List.length_map]
        exact Nat.lt_of_le_of_lt (by omega : _ ≤ 10) (by decide)
      have e10 : ps.map V.ref ++ [V.ref p] = (ps ++ [p]).map V.ref := by rw [List.map_append]; rfl
      rw [e10]
      have kf : TupK Hf (upd Hf Fo (.lst ((ps ++ [p]).map V.ref))) := TupK.lst Lf.hF
      have hDg := (upd_ne (H := Hf) (o := .lst ((ps ++ [p]).map V.ref)) nFD.symm).trans hDf
      generalize upd Hf Fo (.lst ((ps ++ [p]).map V.ref)) = Hg at Lg kf hDg ⊢
      have nspg : ∀ (i : Nat) (q : Addr) (x : Str), qs[i]? = some q → ns[i]? = some x → SdN Hg (es ++ [.set nx ns]) q x := fun i q x a b => ((nspf i q x a b).tk kf).add _
      have fg : findE (es ++ [.set nx ns]) nx = some (.set nx ns) := find_new (e := .set nx ns) eo.2.1
      clear nsp nspf hD hDf Lf Lc sd' s8' s9 sc g8 g9 hD2 ea kf
      have esl : (es ++ [Ent.set nx ns]).length = es.length + 1 := by rw [List.length_append]; rfl
      generalize es ++ [Ent.set nx ns] = es2 at Lg nspg fg esl
      generalize ps ++ [p] = ps2 at Lg
      walk_at "rd"
      refine ⟨a, c, t2, 2, rfl, Lg.src, by omega, by decide, lg_small (by decide) (by decide), fun k4 Hh k40 k41 Sh Oh => ?_⟩
      have Lh := Lg.go Oh Sh
      have hDh := Oh _ _ hDg naD.1 naD.2
      have kh : TupK Hg Hh := TupK.oth Lg.src Oh
      walk_at "rd"
      refine ⟨rfl, _, rfl, ?_⟩
      refine ite2 (fun _ => ?_) (fun _ => ?_)
      · walk_at "rd"
        refine ⟨(by show 0 ≤ sizeLine; decide), fun Ln nLn => ?_⟩
        have fLn := Lh.free nLn
        have naL := Lh.src.na nLn
        have nNL := ne_of_none Lh.hN nLn
        have nFL := ne_of_none Lh.hF nLn
        have nSL := ne_of_none Lh.hS nLn
        have nDL := ne_of_none hDh nLn
        generalize e12 : upd Hh Ln _ = Hi
        have g12 : Hi Ln = some (.lst []) := by rw [← e12]; exact upd_same
        have s12 : Same Hh Hi := by rw [← e12]; exact fun b u z => (upd_ne (ne_of_none z nLn)).trans z
        clear e12
        have Li := Lh.same s12
        have hDi := s12 _ _ hDh
        have ki : TupK Hg Hi := fun b xs h => s12 _ _ (kh b xs h)
        clear hDh kh Lh Sh Oh hDg
        walk_at "rd"
        refine ⟨a, c, t2 + 1, 5, rfl, Li.src, by omega, by decide, lg_small (by decide) (by decide), fun k5 Hj k50 k51 Sj Oj => ?_⟩
        obtain ⟨kn5, rfl⟩ := Int.eq_ofNat_of_zero_le k50
        have kl5 : kn5 < 5 := by omega
        have Lj := Li.go Oj Sj
        have hDj := Oj _ _ hDi naD.1 naD.2
        have hLj := Oj _ _ g12 naL.1 naL.2
        have kj : TupK Hg Hj := fun b xs h => TupK.oth Li.src Oj b xs (ki b xs h)
        clear Li hDi g12 ki s12 Sj Oj
        walk_at "rd"
        refine ⟨by omega, by omega, ?_⟩
        rw [Int.toNat_natCast]
        refine for_range (fun j st H' => ∃ (x6 x8 x12 : Option V) (rs : List Addr) (ls : List (Str × Str)) (t' : Nat), st = [some (.ref a), some (.ref N), some (.int (fn : Int)), some (.ref Fo), some (.ref So), some (.int (0 + (i : Int))), x6, x7, x8, some (.ref D), some (.str nx), some (.ref Ln), x12] ∧ LE H H' a c N Fo So t' (4 + 2 * i + 1) nm es2 ps2 sd ∧ H' D = some (.lst (qs.map V.ref)) ∧ H' Ln = some (.lst (rs.map V.ref)) ∧ TupK Hg H' ∧ rs.length = ls.length ∧ ls.length = j ∧ (∀ (i : Nat) (r : Addr) (l : Str × Str), rs[i]? = some r → ls[i]? = some l → H' r = some (.tup [.str l.1, .str l.2])) ∧
          (∀ l ∈ ls, l.1 ∈ ns ∧ NameP l.1 ∧ ∃ o s m pl fig, findE es2 l.1 = some (.side l.1 o s m pl) ∧ -10 ^ 62 < fig ∧ fig < 10 ^ 62 ∧ pl ≤ 60 ∧ l.2 = textM fig pl false false 0) ∧ t' ≤ t2 + 2 + 9 * j)
          ⟨_, _, _, [], [], t2 + 1 + 1, rfl, Lj, hDj, hLj, kj, rfl, rfl, (fun i r l h => by simp at h), (fun l h => by cases h), by omega⟩ ?_ ?_
        · clear Lj hDj hLj kj
          rintro j st Hj hj ⟨x6, x8, x12, rs, ls, t3, rfl, Lj, hDj, hLj, kj, rl, ll, rat, lok, t3b⟩
          walk_at "rd"
          refine ⟨a, c, t3, D, _, rfl, Lj.src, by omega, hDj, naD.1, naD.2, by rw [List.length_map]; omega, by rw [List.length_map]; omega, fun x Hk hx Sk Ok => ?_⟩
          obtain ⟨q, hq, rfl⟩ := List.mem_map.mp hx
          obtain ⟨jq, ejq⟩ := List.getElem?_of_mem hq
          have jql : jq < qs.length := (List.getElem?_eq_some_iff.mp ejq).1
          obtain ⟨xn, exn⟩ : ∃ x, ns[jq]? = some x := ⟨_, List.getElem?_eq_getElem (by omega)⟩
          obtain ⟨o, s, m, pl, nN', ea', fe, SP, p60⟩ := nspg jq q xn ejq exn
          have kk : TupK Hj Hk := TupK.oth Lj.src Ok
          have Lk := Lj.go Ok Sk
          have hDk := Ok _ _ hDj naD.1 naD.2
          have hLk := Ok _ _ hLj naL.1 naL.2
          clear Lj hDj hLj Ok Sk
          walk_at "rd"
          refine ⟨⟨by decide, by decide, by decide⟩, ?_⟩
          walk_at "rd"
          refine ⟨(by show 3 ≤ sizeLine; decide), fun l nl => ?_⟩
          have lac := Lk.src.na nl
          generalize e13 : upd Hk l _ = Hl
          have g13 : Hl l = some (.lst [.int 1, .int 100, .int ((10 : Int) ^ (40 : Int).toNat)]) := by rw [← e13]; exact upd_same
          have s13 : Same Hk Hl := by rw [← e13]; exact fun b u z => (upd_ne (ne_of_none z nl)).trans z
          clear e13
          have Ll := Lk.same s13
          refine ⟨a, c, t3 + 1, l, _, rfl, Ll.src, by omega, g13, lac.1, lac.2, by decide, by decide, fun x Hm hx Sm Om => ?_⟩
          obtain ⟨lim, rfl, l0, l1⟩ : ∃ lim : Int, x = .int lim ∧ 1 ≤ lim ∧ lim ≤ 10 ^ 40 := by
            simp only [List.mem_cons, List.not_mem_nil, or_false] at hx
            rcases hx with rfl | rfl | rfl
            · exact ⟨_, rfl, by decide, by decide⟩
            · exact ⟨_, rfl, by decide, by decide⟩
            · exact ⟨_, rfl, by decide, by decide⟩
          have Lm := Ll.go Om Sm
          refine ⟨a, c, t3 + 1 + 1, lim, rfl, Lm.src, by omega, by omega, fun g Hn gg0 gg1 Sn On => ?_⟩
          have Ln' := Lm.go On Sn
          walk_at "rd"
          refine ⟨a, c, t3 + 1 + 1 + 5, 100, rfl, Ln'.src, by omega, by decide, lg_small (by decide) (by decide), fun k6 Ho k60 k61 So' Oo => ?_⟩
          have Lo := Ln'.go Oo So'
          have hDo := Oo _ _ (On _ _ (Om _ _ (s13 _ _ hDk) naD.1 naD.2) naD.1 naD.2) naD.1 naD.2
          have hLo := Oo _ _ (On _ _ (Om _ _ (s13 _ _ hLk) naL.1 naL.2) naL.1 naL.2) naL.1 naL.2
          have ko : TupK Hj Ho := fun b xs h => TupK.oth Ln'.src Oo b xs (TupK.oth Lm.src On b xs (TupK.oth Ll.src Om b xs (s13 _ _ (kk b xs h))))
          clear Lk hDk hLk g13 s13 Ll Om Sm Lm On Sn Ln' Oo So' kk hx
          obtain ⟨qa, hp, hq'⟩ := id ea'
          have hpo := ko _ _ (kj _ _ hp)
          walk_at "rd"
          refine ⟨.inl ⟨rfl, _, SqL.of hLo⟩, ?_⟩
          walk_at "rd"
          refine ⟨q, _, _, _, rfl, rfl, SqT.of hpo, at_nat (k := 1) rfl, ?_⟩
          walk_at "rd"
          refine ⟨q, _, _, _, rfl, rfl, SqT.of hpo, at_nat (k := 3) rfl, ?_⟩
          walk_at "rd"
          refine ⟨g - k6, pl, rfl, by omega, by omega, p60, ?_⟩
          walk_at "rd"
          refine ⟨(by show 2 ≤ sizeLine; decide), fun r nr => ?_⟩
          generalize e14 : upd Ho r _ = Hp'
          have g14 : Hp' r = some (.tup [.str xn, .str (textM (g - k6) pl false false 0)]) := by rw [← e14]; exact upd_same
          have s14 : Same Ho Hp' := by rw [← e14]; exact fun b u z => (upd_ne (ne_of_none z nr)).trans z
          clear e14
          have Lp := Lo.same s14
          have hDp := s14 _ _ hDo
          have hLp := s14 _ _ hLo
          refine ⟨Ln, _, _, rfl, rfl, hLp, ?_, ?_⟩
          · rw [List.length_map]
            exact Nat.lt_of_le_of_lt (by omega : _ ≤ 5) (by decide)
          have kp : TupK Hp' (upd Hp' Ln (.lst ((rs ++ [r]).map V.ref))) := TupK.lst hLp
          have Lq := Lp.other (o := .lst ((rs ++ [r]).map V.ref)) hLp fLn nNL nFL nSL naL
          have hDq := (upd_ne (H := Hp') (o := .lst ((rs ++ [r]).map V.ref)) nDL).trans hDp
          have e15 : rs.map V.ref ++ [V.ref r] = (rs ++ [r]).map V.ref := by rw [List.map_append]; rfl
          rw [e15]
          have kq : TupK Hj (upd Hp' Ln (.lst ((rs ++ [r]).map V.ref))) := fun b xs h => kp b xs (s14 _ _ (ko b xs h))
          refine ⟨_, _, _, rs ++ [r], ls ++ [(xn, textM (g - k6) pl false false 0)], t3 + 1 + 1 + 5 + 1, rfl, Lq, hDq, upd_same, fun b xs h => kq b xs (kj b xs h), by rw [List.length_append, List.length_append, rl]; rfl, by rw [List.length_append, ll]; rfl, ?_, ?_, by omega⟩
          · intro i' r' l' h1 h2
            by_cases gi : i' < rs.length
            · rw [List.getElem?_append_left gi] at h1
              rw [List.getElem?_append_left (by omega)] at h2
              exact kq _ _ (rat i' r' l' h1 h2)
            · have il : i' < (rs ++ [r]).length := (List.getElem?_eq_some_iff.mp h1).1
              rw [List.length_append, List.length_singleton] at il
              obtain rfl : i' = rs.length := by omega
              rw [List.getElem?_append_right (by omega), Nat.sub_self] at h1
              rw [List.getElem?_append_right (by omega), rl, Nat.sub_self] at h2
              injection h1 with h1
              injection h2 with h2
              subst h1
              subst h2
              exact kp _ _ g14
          · intro l' hl'
            rcases List.mem_append.mp hl' with h1 | h1
            · exact lok l' h1
            · rcases List.mem_singleton.mp h1 with rfl
              exact ⟨List.mem_of_getElem? exn, nN', o, s, m, pl, g - k6, fe, by omega, by omega, p60, rfl⟩
        rintro st Hj ⟨x6, x8, x12, rs, ls, t3, rfl, Lj, hDj, hLj, kj, rl, ll, rat, lok, t3b⟩
        obtain ⟨ny, ey⟩ : ∃ ny, nm[5 + 2 * i]? = some ny := ⟨_, List.getElem?_eq_getElem (by omega)⟩
        walk_at "rd"
        refine ⟨.inl ⟨rfl, _, SqL.of Lj.hF⟩, ?_⟩
        walk_at "rd"
        refine ⟨.inl ⟨by decide, by decide⟩, ?_⟩
        walk_at "rd"
        refine ⟨N, _, _, _, rfl, rfl, SqL.of Lj.hN, (by rw [show (5 : Int) + 2 * (0 + (i : Int)) = ((5 + 2 * i : Nat) : Int) by omega]; exact at_nat (by rw [List.getElem?_map, ey]; rfl)), ?_⟩
        walk_at "rd"
        refine ⟨Ln, _, rfl, .inl ⟨SqL.of hLj, fun tq ntq => ?_⟩⟩
        generalize e16 : upd Hj tq _ = Hk
        have g16 : Hk tq = some (.tup (rs.map V.ref)) := by rw [← e16]; exact upd_same
        have s16 : Same Hj Hk := by rw [← e16]; exact fun b u z => (upd_ne (ne_of_none z ntq)).trans z
        clear e16
        walk_at "rd"
        refine ⟨(by show 4 ≤ sizeLine; decide), fun p2 np2 => ?_⟩
        generalize e17 : upd Hk p2 _ = Hl
        have g17 : Hl p2 = some (.tup [.str "log", .str ny, .str nx, .ref tq]) := by rw [← e17]; exact upd_same
        have s17 : Same Hk Hl := by rw [← e17]; exact fun b u z => (upd_ne (ne_of_none z np2)).trans z
        clear e17
        have Ll := Lj.same (s16.trans s17)
        have eb : EntAt Hl p2 (.log ny nx ls) := ⟨tq, rs, g17, s17 _ _ g16, rl, fun i' r' l' h1 h2 => s17 _ _ (s16 _ _ (rat i' r' l' h1 h2))⟩
        have ebo : EntOk es2 (.log ny nx ls) := by
          refine ⟨nmn ny (List.mem_of_getElem? ey), Lj.fr (5 + 2 * i) ny (by omega) ey, ⟨ns, by omega, nN, fg, fun l hl => (lok l hl).1⟩, by omega, fun l hl => ?_⟩
          obtain ⟨_, h1, o, s, m, pl, fig, h2, h3, h4, h5, h6⟩ := lok l hl
          exact ⟨h1, o, s, m, pl, fig, h2, h3, h4, h5, h6⟩
        have Lm := Ll.addF (i := 5 + 2 * i) (u' := 4 + 2 * i + 2) eb ebo ey nmd (by omega) (by omega)
        have psl2 := Ll.len
        refine ⟨Fo, _, _, rfl, rfl, Ll.hF, ?_, ?_⟩
        · rw [List.length_map]
          exact Nat.lt_of_le_of_lt (by omega : _ ≤ 12) (by decide)
        have e18 : ps2.map V.ref ++ [V.ref p2] = (ps2 ++ [p2]).map V.ref := by rw [List.map_append]; rfl
        rw [e18]
        exact ⟨_, _, _, _, _, _, _, _, es2 ++ [.log ny nx ls], ps2 ++ [p2], sd, t3, rfl, Lm, by omega, sd1, sd4, by rw [List.length_append]; omega, by rw [List.length_append, List.length_singleton]; omega⟩
      · exact ⟨_, _, _, _, _, _, _, _, es2, ps2, sd, t2 + 1, rfl, Lh.up (by omega), by omega, sd1, sd4, by omega, by omega⟩
    rintro st Hz ⟨x5', x6', x7', x8, x9, x10, x11, x12, es', ps', sd, tz, rfl, Lz, tzb, sd1, sd4, es1, es4⟩
    walk_at "rd"
    exact q Fo Hz es' tz Lz.fF (by omega) Lz.src Lz.oth Lz.aF.1 Lz.aF.2 ⟨ps', Lz.len, Lz.hF, Lz.at_⟩ Lz.ok es1 (by omega)
end
end HT
namespace HT
open PySem L2 TL
theorem spl1_cases (s : Nat) (L : List Nat) : (s ∉ L ∧ spl [s] 0 [] L = [L]) ∨ ∃ a b, L = a ++ s :: b ∧ s ∉ a ∧ spl [s] 0 [] L = a :: spl [s] 0 [] b := by
  by_cases h : s ∈ L
  · obtain ⟨a, b, e, n⟩ := List.eq_append_cons_of_mem h
    refine .inr ⟨a, b, e, n, ?_⟩
    rw [e]
    exact spl_part1 (s := s) (S := []) (p := a) (rest := b) (acc := []) n
  · exact .inl ⟨h, spl_last1 (s := s) (S := []) (p := L) (acc := []) h⟩
theorem spl1_mem (s : Nat) : ∀ (n : Nat) (L : List Nat), L.length = n → ∀ p ∈ spl [s] 0 [] L, p.length ≤ n ∧ s ∉ p ∧ ∀ c ∈ p, c ∈ L := by
  intro n
  induction n using Nat.strongRecOn with
  | ind n ih =>
    intro L hL p hp
    rcases spl1_cases s L with ⟨h, e⟩ | ⟨a, b, e, na, e2⟩
    · rw [e] at hp
      rw [List.mem_singleton.mp hp]
      exact ⟨by omega, h, fun c hc => hc⟩
    · rw [e2] at hp
      have ln : L.length = a.length + b.length + 1 := by rw [e]; simp; omega
      rcases List.mem_cons.mp hp with hp | hp
      · rw [hp]
        exact ⟨by omega, na, fun c hc => by rw [e]; exact List.mem_append_left _ hc⟩
      · obtain ⟨x, z, y⟩ := ih b.length (by omega) b rfl p hp
        exact ⟨by omega, z, fun c hc => by rw [e]; exact List.mem_append_right _ (List.mem_cons_of_mem _ (y c hc))⟩
theorem lay_iff {z : Str} : PyData.canLay0 (.str z) = true ↔ ∀ c ∈ tl z, c < 0x110000 := by
  refine ⟨lay_tl, fun h => ?_⟩
  show z.cps.all (· < 0x110000) = true
  rw [← Array.all_toList, List.all_eq_true]
  exact fun c hc => decide_eq_true (h c hc)
theorem word_mem {y x : Str} (h : x ∈ wordsOfL y) : tl x ∈ spl [32] 0 [] (tl y) ∧ tl x ≠ [] := by
  have m : tl x ∈ wl (tl y) := by rw [← words_wl]; exact List.mem_map_of_mem h
  unfold wl at m
  obtain ⟨a, b⟩ := List.mem_filter.mp m
  exact ⟨a, of_decide_eq_true b⟩
theorem word_facts {y x : Str} (h : x ∈ wordsOfL y) : x.length ≤ y.length ∧ 32 ∉ tl x ∧ tl x ≠ [] ∧ ∀ c ∈ tl x, c ∈ tl y := by
  obtain ⟨a, b⟩ := word_mem h
  obtain ⟨c, d, e⟩ := spl1_mem 32 _ _ rfl _ a
  exact ⟨by rw [len_tl, len_tl]; exact c, d, b, e⟩
theorem words_count (y : Str) : (wordsOfL y).length ≤ y.length + 1 := Nat.le_trans (List.length_filter_le _ _) (parts_len y)
/-- a line that can be read -/
structure LnOk (y : Str) : Prop where
  len : y.length ≤ 25000
  l : ∀ x ∈ wordsOfL y, x.length ≤ 10000
  two : (wordsOfL y).length = 2 → ∀ x ∈ wordsOfL y, x.length ≤ 510
  ok : PyData.canLay0 (.str y) = true
theorem LnOk.words {y : Str} (h : LnOk y) : WordsP (wordsOfL y) :=
  ⟨Nat.le_trans (words_count y) (by have := h.len; omega), h.l, h.two, fun x hx => lay_iff.mpr fun c hc => lay_iff.mp h.ok c ((word_facts hx).2.2.2 c hc)⟩
theorem line_short {y : Str} (l : y.length ≤ 510) (ok : PyData.canLay0 (.str y) = true) : LnOk y :=
  ⟨by omega, fun x hx => Nat.le_trans (word_facts hx).1 (by omega), fun _ x hx => Nat.le_trans (word_facts hx).1 l, ok⟩
theorem textP_of {z : Str} {ls : List Str} (e : Txt.split z "\n" = ls) (zl : z.length ≤ 16000000) (n : ls.length ≤ 900) (h : ∀ y ∈ ls, LnOk y) : TextP z :=
  ⟨zl, fun y hy => by
    rw [e] at hy
    have := h y hy
    exact ⟨by have := this.len; omega, Nat.le_trans (parts_len y) (by have := this.len; omega), this.words⟩, by rw [e]; exact n⟩
theorem split_nl (z : Str) : (Txt.split z "\n").map tl = spl [10] 0 [] (tl z) := by
  have e := split_spl z ("\n" : Str) (by decide +kernel) (kind_ok (by decide +kernel))
  rwa [tl_nl] at e
theorem line_mem {z y : Str} (h : y ∈ Txt.split z "\n") : y.length ≤ z.length ∧ 10 ∉ tl y ∧ ∀ c ∈ tl y, c ∈ tl z := by
  have m : tl y ∈ spl [10] 0 [] (tl z) := by rw [← split_nl]; exact List.mem_map_of_mem h
  obtain ⟨c, d, e⟩ := spl1_mem 10 _ _ rfl _ m
  exact ⟨by rw [len_tl, len_tl]; exact c, d, e⟩
theorem lines_count (z : Str) : (Txt.split z "\n").length ≤ z.length + 1 := by
  have e := split_nl z
  have := spl_len [10] (tl z) 0 []
  rw [← e, List.length_map] at this
  rw [len_tl]
  exact this
theorem text_short' {z : Str} (l : z.length ≤ 510) (ok : PyData.canLay0 (.str z) = true) : TextP z :=
  textP_of rfl (by omega) (Nat.le_trans (lines_count z) (by omega)) fun y hy => by
    obtain ⟨a, _, c⟩ := line_mem hy
    exact line_short (by omega) (lay_iff.mpr fun x hx => lay_iff.mp ok x (c x hx))
theorem joinL_len (s : List Nat) : ∀ ps : List (List Nat), ∀ B, (∀ p ∈ ps, p.length ≤ B) → (joinL s ps).length ≤ ps.length * (B + s.length)
  | [], _, _ => Nat.zero_le _
  | [p], B, h => by
    have := h p List.mem_cons_self
    show p.length ≤ 1 * (B + s.length)
    omega
  | p :: q :: r, B, h => by
    have a := joinL_len s (q :: r) B fun x hx => h x (List.mem_cons_of_mem _ hx)
    have b := h p List.mem_cons_self
    show (p ++ (s ++ joinL s (q :: r))).length ≤ (r.length + 1 + 1) * (B + s.length)
    rw [List.length_append, List.length_append]
    rw [List.length_cons] at a
    have e : (r.length + 1 + 1) * (B + s.length) = (r.length + 1) * (B + s.length) + (B + s.length) := by rw [Nat.add_mul (r.length + 1) 1, Nat.one_mul]
    omega
theorem joinL_mem (s : List Nat) : ∀ (ps : List (List Nat)) (c : Nat), c ∈ joinL s ps → c ∈ s ∨ ∃ p ∈ ps, c ∈ p
  | [], _, h => by cases h
  | [p], c, h => .inr ⟨p, List.mem_cons_self, h⟩
  | p :: q :: r, c, h => by
    have h' : c ∈ p ++ (s ++ joinL s (q :: r)) := h
    rcases List.mem_append.mp h' with h | h
    · exact .inr ⟨p, List.mem_cons_self, h⟩
    · rcases List.mem_append.mp h with h | h
      · exact .inl h
      · rcases joinL_mem s (q :: r) c h with h | ⟨x, hx, hc⟩
        · exact .inl h
        · exact .inr ⟨x, List.mem_cons_of_mem _ hx, hc⟩
theorem textP_join {ls : List Str} (ne : ls ≠ []) (nl : ∀ y ∈ ls, 10 ∉ tl y) (h : ∀ y ∈ ls, LnOk y) (n : ls.length ≤ 600) : TextP (Txt.join "\n" ls) := by
  have e : Txt.split (Txt.join "\n" ls) "\n" = ls := split_join (s := 10) (S := []) tl_nl (by decide +kernel) ne nl
  refine textP_of e ?_ (by omega) h
  have b := joinL_len [10] (ls.map tl) 25000 fun p hp => by
    obtain ⟨y, hy, rfl⟩ := List.mem_map.mp hp
    rw [← len_tl]
    exact (h y hy).len
  have t : tl (Txt.join "\n" ls) = joinL [10] (ls.map tl) := by
    rw [TL.join_eq, TL.tl_join, tl_nl]
  rw [len_tl, t]
  rw [List.length_map] at b
  refine Nat.le_trans b ?_
  show ls.length * (25000 + 1) ≤ 16000000
  exact Nat.le_trans (Nat.mul_le_mul_right _ n) (by decide)
/-- a word that a spoilt line may take -/
structure WordS (x : Str) : Prop where
  ne : tl x ≠ []
  le : x.length ≤ 510
  sp : 32 ∉ tl x
  nl : 10 ∉ tl x
  ok : PyData.canLay0 (.str x) = true
/-- a line of a text, spoilt k times at most -/
structure LnS (k : Nat) (y : Str) : Prop where
  nl : 10 ∉ tl y
  n : (wordsOfL y).length ≤ 20 + k
  w : ∀ x ∈ wordsOfL y, x.length ≤ 510
  ok : PyData.canLay0 (.str y) = true
  len : y.length ≤ 25000
theorem LnS.ln {k : Nat} {y : Str} (h : LnS k y) : LnOk y := ⟨h.len, fun x hx => Nat.le_trans (h.w x hx) (by decide), fun _ => h.w, h.ok⟩
theorem LnS.up {k : Nat} {y : Str} (h : LnS k y) : LnS (k + 1) y := { h with n := Nat.le_succ_of_le h.n }
theorem LnS.word {k : Nat} {y : Str} (h : LnS k y) {x : Str} (hx : x ∈ wordsOfL y) : WordS x := by
  obtain ⟨_, b, c, d⟩ := word_facts hx
  exact ⟨c, h.w x hx, b, fun z => h.nl (d _ z), lay_iff.mpr fun c hc => lay_iff.mp h.ok c (d c hc)⟩
theorem tl_joinS (ws : List Str) : tl (Txt.join " " ws) = joinL [32] (ws.map tl) := by rw [TL.join_eq, TL.tl_join, tl_sp]
theorem join_words {ws : List Str} (h : ∀ x ∈ ws, WordS x) : wordsOfL (Txt.join " " ws) = ws := by
  refine map_tl_inj ?_
  rw [words_wl, tl_joinS]
  have := wl_body 0 0 (ws.map tl) fun p hp => by
    obtain ⟨x, hx, rfl⟩ := List.mem_map.mp hp
    exact ⟨(h x hx).sp, (h x hx).ne⟩
  rwa [show List.replicate 0 32 = ([] : List Nat) from rfl, List.append_nil] at this
theorem join_S {k : Nat} {ws : List Str} (h : ∀ x ∈ ws, WordS x) (n : ws.length ≤ 20 + k) (k9 : k ≤ 20) : LnS k (Txt.join " " ws) := by
  have b := joinL_len [32] (ws.map tl) 510 fun p hp => by
    obtain ⟨y, hy, rfl⟩ := List.mem_map.mp hp
    rw [← len_tl]
    exact (h y hy).le
  rw [List.length_map] at b
  have chars : ∀ c ∈ tl (Txt.join " " ws), c = 32 ∨ ∃ x ∈ ws, c ∈ tl x := fun c hc => by
    rw [tl_joinS] at hc
    rcases joinL_mem _ _ c hc with h | ⟨p, hp, hc⟩
    · exact .inl (List.mem_singleton.mp h)
    · obtain ⟨x, hx, rfl⟩ := List.mem_map.mp hp
      exact .inr ⟨x, hx, hc⟩
  refine ⟨fun z => ?_, by rw [join_words h]; exact n, by rw [join_words h]; exact fun x hx => (h x hx).le, lay_iff.mpr fun c hc => ?_, ?_⟩
  · rcases chars _ z with e | ⟨x, hx, hc⟩
    · exact absurd e (by decide)
    · exact (h x hx).nl hc
  · rcases chars c hc with e | ⟨x, hx, hc⟩
    · rw [e]; decide
    · exact lay_iff.mp (h x hx).ok c hc
  · rw [len_tl, tl_joinS]
    refine Nat.le_trans b ?_
    show ws.length * 511 ≤ 25000
    exact Nat.le_trans (Nat.mul_le_mul_right _ (by omega : ws.length ≤ 40)) (by decide)
/-- a written line of the entries -/
theorem lineP_S {ws : List Str} (p : LineP ws) : LnS 0 (lineW ws) := by
  refine join_S (fun x hx => ?_) (by have := p.le; omega) (by decide)
  have := p.al x hx
  exact ⟨this.ne, by have := this.le; omega, this.sp, this.nl, lay_iff.mpr fun c hc => Nat.lt_of_lt_of_le (this.ok c hc) (by decide)⟩
theorem empty_S : LnS 0 "" := ⟨by decide +kernel, by rw [words_none]; decide, by rw [words_none]; exact (fun x hx => by cases hx), by decide +kernel, by decide +kernel⟩
theorem short_S {y : Str} (nl : 10 ∉ tl y) (l : y.length ≤ 510) (n : (wordsOfL y).length ≤ 20) (ok : PyData.canLay0 (.str y) = true) : LnS 0 y :=
  ⟨nl, n, fun x hx => Nat.le_trans (word_facts hx).1 l, ok, by omega⟩
theorem LnS.mono {k j : Nat} {y : Str} (h : LnS k y) (l : k ≤ j) : LnS j y := { h with n := Nat.le_trans h.n (by omega) }
end HT
namespace HT
open PySem L2 TL
def oth0 : List Str := [(Str.ofString ""), (Str.ofString "\t"), (Str.ofString " \t"), (Str.ofString "side"), (Str.ofString "set"), (Str.ofString "log"), (Str.ofString "end"), (Str.ofString "side x"), (Str.ofString "side x 5 up places 2 at")]
def oth1 : List Str := oth0 ++ [(Str.ofString "side x 5 up places 2 at 0")]
def oth2 : List Str := oth1 ++ [(Str.ofString "side x 5 up places 2 at -3"), (Str.ofString "side x 5 up places 2 at -0"), (Str.ofString "side x 5 up places 2 to 3")]
def oth3 : List Str := oth2 ++ [(Str.ofString "set x usd")]
def oth4 : List Str := oth3 ++ [(Str.ofString "side x 5 up places 2 at 3 4"), (Str.ofString "side x 5 up place 2"), (Str.ofString "side x 0 up places 2")]
def oth5 : List Str := oth4 ++ [(Str.ofString "side x -5 up places 2")]
def oth6 : List Str := oth5 ++ [(Str.ofString "side x 5 near places 2"), (Str.ofString "side x 5 up places 61"), (Str.ofString "side x 5 up places 60")]
def oth7 : List Str := oth6 ++ [(Str.ofString "side x 5 up places -1")]
def oth8 : List Str := oth7 ++ [(Str.ofString "side x 05 up places 2"), (Str.ofString "side x +5 up places 2"), (Str.ofString "side x 5_0 up places 2")]
def oth9 : List Str := oth8 ++ [(Str.ofString "side x 5\t up places 2")]
def oth10 : List Str := oth9 ++ [(Str.ofString "side at 5 up places 2"), (Str.ofString "side a1 5 up places 2"), (Str.ofString "side x up 5 places 2")]
def oth11 : List Str := oth10 ++ [(Str.ofString "side abcdefghi 5 up places 2")]
def oth12 : List Str := oth11 ++ [(((Str.ofString "side x ") ++ (Txt.mul (Str.ofString "1") 41)) ++ (Str.ofString " up places 2")), (((Str.ofString "side x ") ++ (Txt.mul (Str.ofString "1") 42)) ++ (Str.ofString " up places 2"))]
def oth13 : List Str := oth12 ++ [(Str.ofString "Side x 5 up places 2")]
def oth14 : List Str := oth13 ++ ([(Str.ofString "-05"), (Str.ofString "-0"), (Str.ofString "-00"), (Str.ofString "--5"), (Str.ofString "-"), (Str.ofString "0"), (Str.ofString "00"), (Str.ofString "5-")] : List Str).map (fun w : Str => (((Str.ofString "side x ") ++ w) ++ (Str.ofString " up places 2")))
def oth15 : List Str := oth14 ++ ([(Str.ofString "-05"), (Str.ofString "-0"), (Str.ofString "-"), (Str.ofString "02"), (Str.ofString "+2"), (Str.ofString "2 at -05")] : List Str).map (fun w : Str => ((Str.ofString "side x 5 up places ") ++ w))
def oth16 : List Str := oth15 ++ [(Str.ofString "side x\t 5 up places 2"), (Str.ofString "set x\t usd"), (Str.ofString "log x\t pair"), (Str.ofString "logs x pair"), (Str.ofString "sides x 5 up places 2")]
def oth17 : List Str := oth16 ++ [(Str.ofString "side usd 0 up places 2"), (Str.ofString "side at 5 near places 61"), (Str.ofString "set usd usd usd usd usd usd")]
def oth18 : List Str := oth17 ++ [(Str.ofString "set x zz usd usd usd usd")]
def oth19 : List Str := oth18 ++ [(Str.ofString "side Usd 5 up places 2"), (Str.ofString "side aB 5 up places 2"), (Str.ofString "set Pair usd"), (Str.ofString "log Way pair")]
def oth20 : List Str := oth19 ++ [((Str.ofString "side x 5 up places 2 at -1") ++ (Txt.mul (Str.ofString "0") 40))]
def oth21 : List Str := oth20 ++ [((Str.ofString "side x 5 up places 2 at 1") ++ (Txt.mul (Str.ofString "0") 40)), ((Str.ofString "side x 5 up places 2 at ") ++ (Txt.mul (Str.ofString "9") 41)), (Str.ofString "set x"), (Str.ofString "set x zz")]
def oth22 : List Str := oth21 ++ [((Str.ofString "side x 5 up places ") ++ (Txt.mul (Str.ofString "1") 400)), (Str.ofString "set x usd usd usd usd"), (Str.ofString "set end usd"), (Str.ofString "set x end")]
def oth23 : List Str := oth22 ++ [(Str.ofString "set x set")]
def oth24 : List Str := oth23 ++ [(Str.ofString "set x usd usd usd usd usd"), (Str.ofString "set usd usd"), (Str.ofString "set b_b usd"), (Str.ofString "set x usd,"), (Str.ofString "log x"), (Str.ofString "log x z")]
def oth25 : List Str := oth24 ++ [(Str.ofString "log x usd")]
def oth26 : List Str := [(Str.ofString "at"), (Str.ofString "down"), (Str.ofString "end"), (Str.ofString "log"), (Str.ofString "places"), (Str.ofString "set"), (Str.ofString "side"), (Str.ofString "up")]
def oth27 : List Str := oth25 ++ oth26.map (fun w : Str => (((Str.ofString "side ") ++ w) ++ (Str.ofString " 5 up places 2")))
def oth28 : List Str := oth27 ++ [(Str.ofString "usd 5.00"), (Str.ofString "set x usd zz usd usd usd")]
def oth29 : List Str := oth28 ++ [(Str.ofString "log all usd end"), (Str.ofString "log pair usd"), (Str.ofString "usd 0.00"), (Str.ofString "end end"), (Str.ofString "sets x usd"), (Str.ofString "sides x")]
def oth30 : List Str := oth29 ++ [(Str.ofString "side usd 5 up places 2")]
def spOthers : Sp := fun vs H Q _ => vs = [] ∧ ∀ (l : Addr) (H' : Hp), H l = none → Same H H' → H' l = some (.lst (oth30.map V.str)) → Q (.ref l) H'
section
variable {P : Program} {w : World} {K : PySem.W.Frag} {mg : Str → Option Value} {base : Heap}
set_option maxHeartbeats 0 in
theorem ok_L_others {f : Addr} {fd : FuncData} (F : Fun K "_law_others" "_law_others" s_L_others f fd) : FnOk P w K mg base CX0 1 f fd [] spOthers := by
  refine F.ok sc_L_others (fun vs H Q E h => ?_) (fun cdv A outer s0 H vs Q E hr h => ?_)
  · obtain ⟨rfl, _⟩ := h
    rfl
  · obtain ⟨rfl, q⟩ := h
    have nd := sc_L_others.nd
    refine ⟨_, (pss_cons (ps_mid (ps_set (i := 0) nd rfl (Or.inl rfl) (pe_lst (pa_cons pe_str (pa_cons pe_str (pa_cons pe_str (pa_cons pe_str (pa_cons pe_str (pa_cons pe_str (pa_cons pe_str (pa_cons pe_str (pa_cons pe_str pa_nil))))))))))))
      (pss_cons (ps_mid (ps_set (i := 0) nd rfl (Or.inl rfl) (pe_op op_cat (pv 0) (pe_lst (pa_cons pe_str pa_nil)))))
      (pss_cons (ps_mid (ps_set (i := 0) nd rfl (Or.inl rfl) (pe_op op_cat (pv 0) (pe_lst (pa_cons pe_str (pa_cons pe_str (pa_cons pe_str pa_nil)))))))
      (pss_cons (ps_mid (ps_set (i := 0) nd rfl (Or.inl rfl) (pe_op op_cat (pv 0) (pe_lst (pa_cons pe_str pa_nil)))))
      (pss_cons (ps_mid (ps_set (i := 0) nd rfl (Or.inl rfl) (pe_op op_cat (pv 0) (pe_lst (pa_cons pe_str (pa_cons pe_str (pa_cons pe_str pa_nil)))))))
      (pss_cons (ps_mid (ps_set (i := 0) nd rfl (Or.inl rfl) (pe_op op_cat (pv 0) (pe_lst (pa_cons pe_str pa_nil)))))
      (pss_cons (ps_mid (ps_set (i := 0) nd rfl (Or.inl rfl) (pe_op op_cat (pv 0) (pe_lst (pa_cons pe_str (pa_cons pe_str (pa_cons pe_str pa_nil)))))))
      (pss_cons (ps_mid (ps_set (i := 0) nd rfl (Or.inl rfl) (pe_op op_cat (pv 0) (pe_lst (pa_cons pe_str pa_nil)))))
      (pss_cons (ps_mid (ps_set (i := 0) nd rfl (Or.inl rfl) (pe_op op_cat (pv 0) (pe_lst (pa_cons pe_str (pa_cons pe_str (pa_cons pe_str pa_nil)))))))
      (pss_cons (ps_mid (ps_set (i := 0) nd rfl (Or.inl rfl) (pe_op op_cat (pv 0) (pe_lst (pa_cons pe_str pa_nil)))))
      (pss_cons (ps_mid (ps_set (i := 0) nd rfl (Or.inl rfl) (pe_op op_cat (pv 0) (pe_lst (pa_cons pe_str (pa_cons pe_str (pa_cons pe_str pa_nil)))))))
      (pss_cons (ps_mid (ps_set (i := 0) nd rfl (Or.inl rfl) (pe_op op_cat (pv 0) (pe_lst (pa_cons pe_str pa_nil)))))
      (pss_cons (ps_mid (ps_set (i := 0) nd rfl (Or.inl rfl) (pe_op op_cat (pv 0) (pe_lst (pa_cons (pe_op op_add_str (pe_op op_add_str pe_str (pe_op op_mulS pe_str pe_int)) pe_str) (pa_cons (pe_op op_add_str (pe_op op_add_str pe_str (pe_op op_mulS pe_str pe_int)) pe_str) pa_nil))))))
      (pss_cons (ps_mid (ps_set (i := 0) nd rfl (Or.inl rfl) (pe_op op_cat (pv 0) (pe_lst (pa_cons pe_str pa_nil)))))
      (pss_cons (ps_mid (ps_set (i := 0) nd rfl (Or.inl rfl) (pe_op op_cat (pv 0) (pe_lc (own := [("_law_word", 1)]) (g := gName 1) (tt := tYes) rfl nd (pi_list (pe_lst (pa_cons pe_str (pa_cons pe_str (pa_cons pe_str (pa_cons pe_str (pa_cons pe_str (pa_cons pe_str (pa_cons pe_str (pa_cons pe_str pa_nil)))))))))) (blkOk_by (N := ["_law_some", "_law_word", "_law_words"]) (sc := defScope s_L_others) (by decide +kernel)) (fun _ _ _ _ _ => pg_name (i := 1) nd rfl (Or.inl rfl)) (fun _ _ _ _ _ => pts_nil) (fun _ _ _ _ _ => (pe_op op_add_str (pe_op op_add_str pe_str (pv 1)) pe_str))))))
      (pss_cons (ps_mid (ps_set (i := 0) nd rfl (Or.inl rfl) (pe_op op_cat (pv 0) (pe_lc (own := [("_law_word", 1)]) (g := gName 1) (tt := tYes) rfl nd (pi_list (pe_lst (pa_cons pe_str (pa_cons pe_str (pa_cons pe_str (pa_cons pe_str (pa_cons pe_str (pa_cons pe_str pa_nil)))))))) (blkOk_by (N := ["_law_some", "_law_word", "_law_words"]) (sc := defScope s_L_others) (by decide +kernel)) (fun _ _ _ _ _ => pg_name (i := 1) nd rfl (Or.inl rfl)) (fun _ _ _ _ _ => pts_nil) (fun _ _ _ _ _ => (pe_op op_add_str pe_str (pv 1)))))))
      (pss_cons (ps_mid (ps_set (i := 0) nd rfl (Or.inl rfl) (pe_op op_cat (pv 0) (pe_lst (pa_cons pe_str (pa_cons pe_str (pa_cons pe_str (pa_cons pe_str (pa_cons pe_str pa_nil)))))))))
      (pss_cons (ps_mid (ps_set (i := 0) nd rfl (Or.inl rfl) (pe_op op_cat (pv 0) (pe_lst (pa_cons pe_str (pa_cons pe_str (pa_cons pe_str pa_nil)))))))
      (pss_cons (ps_mid (ps_set (i := 0) nd rfl (Or.inl rfl) (pe_op op_cat (pv 0) (pe_lst (pa_cons pe_str pa_nil)))))
      (pss_cons (ps_mid (ps_set (i := 0) nd rfl (Or.inl rfl) (pe_op op_cat (pv 0) (pe_lst (pa_cons pe_str (pa_cons pe_str (pa_cons pe_str (pa_cons pe_str pa_nil))))))))
      (pss_cons (ps_mid (ps_set (i := 0) nd rfl (Or.inl rfl) (pe_op op_cat (pv 0) (pe_lst (pa_cons (pe_op op_add_str pe_str (pe_op op_mulS pe_str pe_int)) pa_nil)))))
      (pss_cons (ps_mid (ps_set (i := 0) nd rfl (Or.inl rfl) (pe_op op_cat (pv 0) (pe_lst (pa_cons (pe_op op_add_str pe_str (pe_op op_mulS pe_str pe_int)) (pa_cons (pe_op op_add_str pe_str (pe_op op_mulS pe_str pe_int)) (pa_cons pe_str (pa_cons pe_str pa_nil))))))))
      (pss_cons (ps_mid (ps_set (i := 0) nd rfl (Or.inl rfl) (pe_op op_cat (pv 0) (pe_lst (pa_cons (pe_op op_add_str pe_str (pe_op op_mulS pe_str pe_int)) (pa_cons pe_str (pa_cons pe_str (pa_cons pe_str pa_nil))))))))
      (pss_cons (ps_mid (ps_set (i := 0) nd rfl (Or.inl rfl) (pe_op op_cat (pv 0) (pe_lst (pa_cons pe_str pa_nil)))))
      (pss_cons (ps_mid (ps_set (i := 0) nd rfl (Or.inl rfl) (pe_op op_cat (pv 0) (pe_lst (pa_cons pe_str (pa_cons pe_str (pa_cons pe_str (pa_cons pe_str (pa_cons pe_str (pa_cons pe_str pa_nil))))))))))
      (pss_cons (ps_mid (ps_set (i := 0) nd rfl (Or.inl rfl) (pe_op op_cat (pv 0) (pe_lst (pa_cons pe_str pa_nil)))))
      (pss_cons (ps_mid (ps_set (i := 2) nd rfl (Or.inl rfl) (pe_lst (pa_cons pe_str (pa_cons pe_str (pa_cons pe_str (pa_cons pe_str (pa_cons pe_str (pa_cons pe_str (pa_cons pe_str (pa_cons pe_str pa_nil)))))))))))
      (pss_cons (ps_mid (ps_set (i := 0) nd rfl (Or.inl rfl) (pe_op op_cat (pe_op op_cat (pv 0) (pe_lc (own := [("_law_word", 1)]) (g := gName 1) (tt := tYes) rfl nd (pi_list (pv 2)) (blkOk_by (N := ["_law_some", "_law_word", "_law_words"]) (sc := defScope s_L_others) (by decide +kernel)) (fun _ _ _ _ _ => pg_name (i := 1) nd rfl (Or.inl rfl)) (fun _ _ _ _ _ => pts_nil) (fun _ _ _ _ _ => (pe_op op_add_str (pe_op op_add_str pe_str (pv 1)) pe_str)))) (pe_lst (pa_cons pe_str (pa_cons pe_str pa_nil))))))
      (pss_cons (ps_mid (ps_set (i := 0) nd rfl (Or.inl rfl) (pe_op op_cat (pv 0) (pe_lst (pa_cons pe_str (pa_cons pe_str (pa_cons pe_str (pa_cons pe_str (pa_cons pe_str (pa_cons pe_str pa_nil))))))))))
      (pss_one (ps_ret (pe_op op_cat (pv 0) (pe_lst (pa_cons pe_str pa_nil)))))))))))))))))))))))))))))))))), ?_⟩
    refine ⟨fun st Hz => ∃ lz, st = [some (.ref lz), none, none] ∧ Hz lz = some (.lst (oth0.map V.str)) ∧ Same H Hz, ?_, ?_⟩
    · skip
      walk_at "rd"
      refine ⟨(by show 9 ≤ sizeLine; decide), fun a1 na1 => ?_⟩
      generalize e3 : upd H a1 _ = H2
      have g4 : H2 a1 = some (.lst (oth0.map V.str)) := by rw [← e3]; exact upd_same
      have s5 : Same H H2 := by rw [← e3]; exact fun b u z => (upd_ne (ne_of_none z na1)).trans z
      clear e3
      exact ⟨_, rfl, g4, s5⟩
    rintro st H6 ⟨l9, rfl, c7, t8⟩
    refine ⟨fun st Hz => ∃ lz, st = [some (.ref lz), none, none] ∧ Hz lz = some (.lst (oth1.map V.str)) ∧ Same H Hz, ?_, ?_⟩
    · skip
      walk_at "rd"
      refine ⟨(by show 1 ≤ sizeLine; decide), fun a10 na10 => ?_⟩
      generalize e12 : upd H6 a10 _ = H11
      have g13 : H11 a10 = some (.lst (([(Str.ofString "side x 5 up places 2 at 0")] : List Str).map V.str)) := by rw [← e12]; exact upd_same
      have s14 : Same H6 H11 := by rw [← e12]; exact fun b u z => (upd_ne (ne_of_none z na10)).trans z
      clear e12
      refine ⟨l9, a10, _, _, rfl, rfl, (s14 _ _ c7), g13, (by decide +kernel), fun a15 na15 => ?_⟩
      generalize e17 : upd H11 a15 _ = H16
      have g18 : H16 a15 = some (.lst (oth1.map V.str)) := by rw [← e17]; rw [show oth1 = oth0 ++ [(Str.ofString "side x 5 up places 2 at 0")] from rfl, List.map_append]; exact upd_same
      have s19 : Same H11 H16 := by rw [← e17]; exact fun b u z => (upd_ne (ne_of_none z na15)).trans z
      clear e17
      exact ⟨_, rfl, g18, (t8.trans (s14.trans s19))⟩
    rintro st H20 ⟨l23, rfl, c21, t22⟩
    refine ⟨fun st Hz => ∃ lz, st = [some (.ref lz), none, none] ∧ Hz lz = some (.lst (oth2.map V.str)) ∧ Same H Hz, ?_, ?_⟩
    · skip
      walk_at "rd"
      refine ⟨(by show 3 ≤ sizeLine; decide), fun a24 na24 => ?_⟩
      generalize e26 : upd H20 a24 _ = H25
      have g27 : H25 a24 = some (.lst (([(Str.ofString "side x 5 up places 2 at -3"), (Str.ofString "side x 5 up places 2 at -0"), (Str.ofString "side x 5 up places 2 to 3")] : List Str).map V.str)) := by rw [← e26]; exact upd_same
      have s28 : Same H20 H25 := by rw [← e26]; exact fun b u z => (upd_ne (ne_of_none z na24)).trans z
      clear e26
      refine ⟨l23, a24, _, _, rfl, rfl, (s28 _ _ c21), g27, (by decide +kernel), fun a29 na29 => ?_⟩
      generalize e31 : upd H25 a29 _ = H30
      have g32 : H30 a29 = some (.lst (oth2.map V.str)) := by rw [← e31]; rw [show oth2 = oth1 ++ [(Str.ofString "side x 5 up places 2 at -3"), (Str.ofString "side x 5 up places 2 at -0"), (Str.ofString "side x 5 up places 2 to 3")] from rfl, List.map_append]; exact upd_same
      have s33 : Same H25 H30 := by rw [← e31]; exact fun b u z => (upd_ne (ne_of_none z na29)).trans z
      clear e31
      exact ⟨_, rfl, g32, (t22.trans (s28.trans s33))⟩
    rintro st H34 ⟨l37, rfl, c35, t36⟩
    refine ⟨fun st Hz => ∃ lz, st = [some (.ref lz), none, none] ∧ Hz lz = some (.lst (oth3.map V.str)) ∧ Same H Hz, ?_, ?_⟩
    · skip
      walk_at "rd"
      refine ⟨(by show 1 ≤ sizeLine; decide), fun a38 na38 => ?_⟩
      generalize e40 : upd H34 a38 _ = H39
      have g41 : H39 a38 = some (.lst (([(Str.ofString "set x usd")] : List Str).map V.str)) := by rw [← e40]; exact upd_same
      have s42 : Same H34 H39 := by rw [← e40]; exact fun b u z => (upd_ne (ne_of_none z na38)).trans z
      clear e40
      refine ⟨l37, a38, _, _, rfl, rfl, (s42 _ _ c35), g41, (by decide +kernel), fun a43 na43 => ?_⟩
      generalize e45 : upd H39 a43 _ = H44
      have g46 : H44 a43 = some (.lst (oth3.map V.str)) := by rw [← e45]; rw [show oth3 = oth2 ++ [(Str.ofString "set x usd")] from rfl, List.map_append]; exact upd_same
      have s47 : Same H39 H44 := by rw [← e45]; exact fun b u z => (upd_ne (ne_of_none z na43)).trans z
      clear e45
      exact ⟨_, rfl, g46, (t36.trans (s42.trans s47))⟩
    rintro st H48 ⟨l51, rfl, c49, t50⟩
    refine ⟨fun st Hz => ∃ lz, st = [some (.ref lz), none, none] ∧ Hz lz = some (.lst (oth4.map V.str)) ∧ Same H Hz, ?_, ?_⟩
    · skip
      walk_at "rd"
      refine ⟨(by show 3 ≤ sizeLine; decide), fun a52 na52 => ?_⟩
      generalize e54 : upd H48 a52 _ = H53
      have g55 : H53 a52 = some (.lst (([(Str.ofString "side x 5 up places 2 at 3 4"), (Str.ofString "side x 5 up place 2"), (Str.ofString "side x 0 up places 2")] : List Str).map V.str)) := by rw [← e54]; exact upd_same
      have s56 : Same H48 H53 := by rw [← e54]; exact fun b u z => (upd_ne (ne_of_none z na52)).trans z
      clear e54
      refine ⟨l51, a52, _, _, rfl, rfl, (s56 _ _ c49), g55, (by decide +kernel), fun a57 na57 => ?_⟩
      generalize e59 : upd H53 a57 _ = H58
      have g60 : H58 a57 = some (.lst (oth4.map V.str)) := by rw [← e59]; rw [show oth4 = oth3 ++ [(Str.ofString "side x 5 up places 2 at 3 4"), (Str.ofString "side x 5 up place 2"), (Str.ofString "side x 0 up places 2")] from rfl, List.map_append]; exact upd_same
      have s61 : Same H53 H58 := by rw [← e59]; exact fun b u z => (upd_ne (ne_of_none z na57)).trans z
      clear e59
      exact ⟨_, rfl, g60, (t50.trans (s56.trans s61))⟩
    rintro st H62 ⟨l65, rfl, c63, t64⟩
    refine ⟨fun st Hz => ∃ lz, st = [some (.ref lz), none, none] ∧ Hz lz = some (.lst (oth5.map V.str)) ∧ Same H Hz, ?_, ?_⟩
    · skip
      walk_at "rd"
      refine ⟨(by show 1 ≤ sizeLine; decide), fun a66 na66 => ?_⟩
      generalize e68 : upd H62 a66 _ = H67
      have g69 : H67 a66 = some (.lst (([(Str.ofString "side x -5 up places 2")] : List Str).map V.str)) := by rw [← e68]; exact upd_same
      have s70 : Same H62 H67 := by rw [← e68]; exact fun b u z => (upd_ne (ne_of_none z na66)).trans z
      clear e68
      refine ⟨l65, a66, _, _, rfl, rfl, (s70 _ _ c63), g69, (by decide +kernel), fun a71 na71 => ?_⟩
      generalize e73 : upd H67 a71 _ = H72
      have g74 : H72 a71 = some (.lst (oth5.map V.str)) := by rw [← e73]; rw [show oth5 = oth4 ++ [(Str.ofString "side x -5 up places 2")] from rfl, List.map_append]; exact upd_same
      have s75 : Same H67 H72 := by rw [← e73]; exact fun b u z => (upd_ne (ne_of_none z na71)).trans z
      clear e73
      exact ⟨_, rfl, g74, (t64.trans (s70.trans s75))⟩
    rintro st H76 ⟨l79, rfl, c77, t78⟩
    refine ⟨fun st Hz => ∃ lz, st = [some (.ref lz), none, none] ∧ Hz lz = some (.lst (oth6.map V.str)) ∧ Same H Hz, ?_, ?_⟩
    · skip
      walk_at "rd"
      refine ⟨(by show 3 ≤ sizeLine; decide), fun a80 na80 => ?_⟩
      generalize e82 : upd H76 a80 _ = H81
      have g83 : H81 a80 = some (.lst (([(Str.ofString "side x 5 near places 2"), (Str.ofString "side x 5 up places 61"), (Str.ofString "side x 5 up places 60")] : List Str).map V.str)) := by rw [← e82]; exact upd_same
      have s84 : Same H76 H81 := by rw [← e82]; exact fun b u z => (upd_ne (ne_of_none z na80)).trans z
      clear e82
      refine ⟨l79, a80, _, _, rfl, rfl, (s84 _ _ c77), g83, (by decide +kernel), fun a85 na85 => ?_⟩
      generalize e87 : upd H81 a85 _ = H86
      have g88 : H86 a85 = some (.lst (oth6.map V.str)) := by rw [← e87]; rw [show oth6 = oth5 ++ [(Str.ofString "side x 5 near places 2"), (Str.ofString "side x 5 up places 61"), (Str.ofString "side x 5 up places 60")] from rfl, List.map_append]; exact upd_same
      have s89 : Same H81 H86 := by rw [← e87]; exact fun b u z => (upd_ne (ne_of_none z na85)).trans z
      clear e87
      exact ⟨_, rfl, g88, (t78.trans (s84.trans s89))⟩
    rintro st H90 ⟨l93, rfl, c91, t92⟩
    refine ⟨fun st Hz => ∃ lz, st = [some (.ref lz), none, none] ∧ Hz lz = some (.lst (oth7.map V.str)) ∧ Same H Hz, ?_, ?_⟩
    · skip
      walk_at "rd"
      refine ⟨(by show 1 ≤ sizeLine; decide), fun a94 na94 => ?_⟩
      generalize e96 : upd H90 a94 _ = H95
      have g97 : H95 a94 = some (.lst (([(Str.ofString "side x 5 up places -1")] : List Str).map V.str)) := by rw [← e96]; exact upd_same
      have s98 : Same H90 H95 := by rw [← e96]; exact fun b u z => (upd_ne (ne_of_none z na94)).trans z
      clear e96
      refine ⟨l93, a94, _, _, rfl, rfl, (s98 _ _ c91), g97, (by decide +kernel), fun a99 na99 => ?_⟩
      generalize e101 : upd H95 a99 _ = H100
      have g102 : H100 a99 = some (.lst (oth7.map V.str)) := by rw [← e101]; rw [show oth7 = oth6 ++ [(Str.ofString "side x 5 up places -1")] from rfl, List.map_append]; exact upd_same
      have s103 : Same H95 H100 := by rw [← e101]; exact fun b u z => (upd_ne (ne_of_none z na99)).trans z
      clear e101
      exact ⟨_, rfl, g102, (t92.trans (s98.trans s103))⟩
    rintro st H104 ⟨l107, rfl, c105, t106⟩
    refine ⟨fun st Hz => ∃ lz, st = [some (.ref lz), none, none] ∧ Hz lz = some (.lst (oth8.map V.str)) ∧ Same H Hz, ?_, ?_⟩
    · skip
      walk_at "rd"
      refine ⟨(by show 3 ≤ sizeLine; decide), fun a108 na108 => ?_⟩
      generalize e110 : upd H104 a108 _ = H109
      have g111 : H109 a108 = some (.lst (([(Str.ofString "side x 05 up places 2"), (Str.ofString "side x +5 up places 2"), (Str.ofString "side x 5_0 up places 2")] : List Str).map V.str)) := by rw [← e110]; exact upd_same
      have s112 : Same H104 H109 := by rw [← e110]; exact fun b u z => (upd_ne (ne_of_none z na108)).trans z
      clear e110
      refine ⟨l107, a108, _, _, rfl, rfl, (s112 _ _ c105), g111, (by decide +kernel), fun a113 na113 => ?_⟩
      generalize e115 : upd H109 a113 _ = H114
      have g116 : H114 a113 = some (.lst (oth8.map V.str)) := by rw [← e115]; rw [show oth8 = oth7 ++ [(Str.ofString "side x 05 up places 2"), (Str.ofString "side x +5 up places 2"), (Str.ofString "side x 5_0 up places 2")] from rfl, List.map_append]; exact upd_same
      have s117 : Same H109 H114 := by rw [← e115]; exact fun b u z => (upd_ne (ne_of_none z na113)).trans z
      clear e115
      exact ⟨_, rfl, g116, (t106.trans (s112.trans s117))⟩
    rintro st H118 ⟨l121, rfl, c119, t120⟩
    refine ⟨fun st Hz => ∃ lz, st = [some (.ref lz), none, none] ∧ Hz lz = some (.lst (oth9.map V.str)) ∧ Same H Hz, ?_, ?_⟩
    · skip
      walk_at "rd"
      refine ⟨(by show 1 ≤ sizeLine; decide), fun a122 na122 => ?_⟩
      generalize e124 : upd H118 a122 _ = H123
      have g125 : H123 a122 = some (.lst (([(Str.ofString "side x 5\t up places 2")] : List Str).map V.str)) := by rw [← e124]; exact upd_same
      have s126 : Same H118 H123 := by rw [← e124]; exact fun b u z => (upd_ne (ne_of_none z na122)).trans z
      clear e124
      refine ⟨l121, a122, _, _, rfl, rfl, (s126 _ _ c119), g125, (by decide +kernel), fun a127 na127 => ?_⟩
      generalize e129 : upd H123 a127 _ = H128
      have g130 : H128 a127 = some (.lst (oth9.map V.str)) := by rw [← e129]; rw [show oth9 = oth8 ++ [(Str.ofString "side x 5\t up places 2")] from rfl, List.map_append]; exact upd_same
      have s131 : Same H123 H128 := by rw [← e129]; exact fun b u z => (upd_ne (ne_of_none z na127)).trans z
      clear e129
      exact ⟨_, rfl, g130, (t120.trans (s126.trans s131))⟩
    rintro st H132 ⟨l135, rfl, c133, t134⟩
    refine ⟨fun st Hz => ∃ lz, st = [some (.ref lz), none, none] ∧ Hz lz = some (.lst (oth10.map V.str)) ∧ Same H Hz, ?_, ?_⟩
    · skip
      walk_at "rd"
      refine ⟨(by show 3 ≤ sizeLine; decide), fun a136 na136 => ?_⟩
      generalize e138 : upd H132 a136 _ = H137
      have g139 : H137 a136 = some (.lst (([(Str.ofString "side at 5 up places 2"), (Str.ofString "side a1 5 up places 2"), (Str.ofString "side x up 5 places 2")] : List Str).map V.str)) := by rw [← e138]; exact upd_same
      have s140 : Same H132 H137 := by rw [← e138]; exact fun b u z => (upd_ne (ne_of_none z na136)).trans z
      clear e138
      refine ⟨l135, a136, _, _, rfl, rfl, (s140 _ _ c133), g139, (by decide +kernel), fun a141 na141 => ?_⟩
      generalize e143 : upd H137 a141 _ = H142
      have g144 : H142 a141 = some (.lst (oth10.map V.str)) := by rw [← e143]; rw [show oth10 = oth9 ++ [(Str.ofString "side at 5 up places 2"), (Str.ofString "side a1 5 up places 2"), (Str.ofString "side x up 5 places 2")] from rfl, List.map_append]; exact upd_same
      have s145 : Same H137 H142 := by rw [← e143]; exact fun b u z => (upd_ne (ne_of_none z na141)).trans z
      clear e143
      exact ⟨_, rfl, g144, (t134.trans (s140.trans s145))⟩
    rintro st H146 ⟨l149, rfl, c147, t148⟩
    refine ⟨fun st Hz => ∃ lz, st = [some (.ref lz), none, none] ∧ Hz lz = some (.lst (oth11.map V.str)) ∧ Same H Hz, ?_, ?_⟩
    · skip
      walk_at "rd"
      refine ⟨(by show 1 ≤ sizeLine; decide), fun a150 na150 => ?_⟩
      generalize e152 : upd H146 a150 _ = H151
      have g153 : H151 a150 = some (.lst (([(Str.ofString "side abcdefghi 5 up places 2")] : List Str).map V.str)) := by rw [← e152]; exact upd_same
      have s154 : Same H146 H151 := by rw [← e152]; exact fun b u z => (upd_ne (ne_of_none z na150)).trans z
      clear e152
      refine ⟨l149, a150, _, _, rfl, rfl, (s154 _ _ c147), g153, (by decide +kernel), fun a155 na155 => ?_⟩
      generalize e157 : upd H151 a155 _ = H156
      have g158 : H156 a155 = some (.lst (oth11.map V.str)) := by rw [← e157]; rw [show oth11 = oth10 ++ [(Str.ofString "side abcdefghi 5 up places 2")] from rfl, List.map_append]; exact upd_same
      have s159 : Same H151 H156 := by rw [← e157]; exact fun b u z => (upd_ne (ne_of_none z na155)).trans z
      clear e157
      exact ⟨_, rfl, g158, (t148.trans (s154.trans s159))⟩
    rintro st H160 ⟨l163, rfl, c161, t162⟩
    refine ⟨fun st Hz => ∃ lz, st = [some (.ref lz), none, none] ∧ Hz lz = some (.lst (oth12.map V.str)) ∧ Same H Hz, ?_, ?_⟩
    · skip
      walk_at "rd"
      refine ⟨mul1_ok (show tl (Str.ofString "1") = [49] by decide +kernel) (by decide) (by decide), ?_⟩
      walk_at "rd"
      refine ⟨(by decide +kernel), ?_⟩
      walk_at "rd"
      refine ⟨(by decide +kernel), ?_⟩
      walk_at "rd"
      refine ⟨mul1_ok (show tl (Str.ofString "1") = [49] by decide +kernel) (by decide) (by decide), ?_⟩
      walk_at "rd"
      refine ⟨(by decide +kernel), ?_⟩
      walk_at "rd"
      refine ⟨(by decide +kernel), ?_⟩
      walk_at "rd"
      refine ⟨(by show 2 ≤ sizeLine; decide), fun a164 na164 => ?_⟩
      generalize e166 : upd H160 a164 _ = H165
      have g167 : H165 a164 = some (.lst (([(((Str.ofString "side x ") ++ (Txt.mul (Str.ofString "1") 41)) ++ (Str.ofString " up places 2")), (((Str.ofString "side x ") ++ (Txt.mul (Str.ofString "1") 42)) ++ (Str.ofString " up places 2"))] : List Str).map V.str)) := by rw [← e166]; exact upd_same
      have s168 : Same H160 H165 := by rw [← e166]; exact fun b u z => (upd_ne (ne_of_none z na164)).trans z
      clear e166
      refine ⟨l163, a164, _, _, rfl, rfl, (s168 _ _ c161), g167, (by decide +kernel), fun a169 na169 => ?_⟩
      generalize e171 : upd H165 a169 _ = H170
      have g172 : H170 a169 = some (.lst (oth12.map V.str)) := by rw [← e171]; rw [show oth12 = oth11 ++ [(((Str.ofString "side x ") ++ (Txt.mul (Str.ofString "1") 41)) ++ (Str.ofString " up places 2")), (((Str.ofString "side x ") ++ (Txt.mul (Str.ofString "1") 42)) ++ (Str.ofString " up places 2"))] from rfl, List.map_append]; exact upd_same
      have s173 : Same H165 H170 := by rw [← e171]; exact fun b u z => (upd_ne (ne_of_none z na169)).trans z
      clear e171
      exact ⟨_, rfl, g172, (t162.trans (s168.trans s173))⟩
    rintro st H174 ⟨l177, rfl, c175, t176⟩
    refine ⟨fun st Hz => ∃ lz, st = [some (.ref lz), none, none] ∧ Hz lz = some (.lst (oth13.map V.str)) ∧ Same H Hz, ?_, ?_⟩
    · skip
      walk_at "rd"
      refine ⟨(by show 1 ≤ sizeLine; decide), fun a178 na178 => ?_⟩
      generalize e180 : upd H174 a178 _ = H179
      have g181 : H179 a178 = some (.lst (([(Str.ofString "Side x 5 up places 2")] : List Str).map V.str)) := by rw [← e180]; exact upd_same
      have s182 : Same H174 H179 := by rw [← e180]; exact fun b u z => (upd_ne (ne_of_none z na178)).trans z
      clear e180
      refine ⟨l177, a178, _, _, rfl, rfl, (s182 _ _ c175), g181, (by decide +kernel), fun a183 na183 => ?_⟩
      generalize e185 : upd H179 a183 _ = H184
      have g186 : H184 a183 = some (.lst (oth13.map V.str)) := by rw [← e185]; rw [show oth13 = oth12 ++ [(Str.ofString "Side x 5 up places 2")] from rfl, List.map_append]; exact upd_same
      have s187 : Same H179 H184 := by rw [← e185]; exact fun b u z => (upd_ne (ne_of_none z na183)).trans z
      clear e185
      exact ⟨_, rfl, g186, (t176.trans (s182.trans s187))⟩
    rintro st H188 ⟨l191, rfl, c189, t190⟩
    refine ⟨fun st Hz => ∃ lz, st = [some (.ref lz), none, none] ∧ Hz lz = some (.lst (oth14.map V.str)) ∧ Same H Hz, ?_, ?_⟩
    · skip
      walk_at "rd"
      refine ⟨(by show 8 ≤ sizeLine; decide), fun a192 na192 => ?_⟩
      generalize e194 : upd H188 a192 _ = H193
      have g195 : H193 a192 = some (.lst (([(Str.ofString "-05"), (Str.ofString "-0"), (Str.ofString "-00"), (Str.ofString "--5"), (Str.ofString "-"), (Str.ofString "0"), (Str.ofString "00"), (Str.ofString "5-")] : List Str).map V.str)) := by rw [← e194]; exact upd_same
      have s196 : Same H188 H193 := by rw [← e194]; exact fun b u z => (upd_ne (ne_of_none z na192)).trans z
      clear e194
      walk_at "rd"
      have m198 : H193 a192 = some (.lst (([(Str.ofString "-05"), (Str.ofString "-0"), (Str.ofString "-00"), (Str.ofString "--5"), (Str.ofString "-"), (Str.ofString "0"), (Str.ofString "00"), (Str.ofString "5-")] : List Str).map V.str)) := g195
      refine ⟨⟨_, SqL.of m198⟩, fun D197 nD197 => ?_⟩
      refine lc_it (walk_list (K := K) (a := a192) (xs := ([(Str.ofString "-05"), (Str.ofString "-0"), (Str.ofString "-00"), (Str.ofString "--5"), (Str.ofString "-"), (Str.ofString "0"), (Str.ofString "00"), (Str.ofString "5-")] : List Str).map V.str)) (fun j Hj => Hj D197 = some (.lst (((([(Str.ofString "-05"), (Str.ofString "-0"), (Str.ofString "-00"), (Str.ofString "--5"), (Str.ofString "-"), (Str.ofString "0"), (Str.ofString "00"), (Str.ofString "5-")] : List Str).take j).map (fun w : Str => (((Str.ofString "side x ") ++ w) ++ (Str.ofString " up places 2")))).map V.str)) ∧ Same H193 Hj) ⟨upd_same, fun b u z => (upd_ne (ne_of_none z nD197)).trans z⟩ (fun _ _ _ ⟨_, sj⟩ => SqL.of (sj _ _ m198)) ?_ ?_
      · rintro j y Hj Hk hj ⟨hDj, sj⟩ ⟨rfl, ey⟩
        rw [List.getElem?_map] at ey
        obtain ⟨x, ex, rfl⟩ := Option.map_eq_some_iff.mp ey
        have xb : x.length ≤ 100 := (by decide +kernel : ∀ x ∈ ([(Str.ofString "-05"), (Str.ofString "-0"), (Str.ofString "-00"), (Str.ofString "--5"), (Str.ofString "-"), (Str.ofString "0"), (Str.ofString "00"), (Str.ofString "5-")] : List Str), x.length ≤ 100) x (List.mem_of_getElem? ex)
        refine ⟨rfl, ?_⟩
        walk_at "rd"
        refine ⟨(by first | (rw [Str.length_append]; refine Nat.le_trans (Nat.add_le_add (Nat.add_le_add (show _ ≤ 100 by decide +kernel) xb) (show _ ≤ 100 by decide +kernel)) (by decide)) | exact Nat.le_trans (Nat.add_le_add (show _ ≤ 100 by decide +kernel) xb) (by decide)), ?_⟩
        walk_at "rd"
        refine ⟨(by first | (rw [Str.length_append]; refine Nat.le_trans (Nat.add_le_add (Nat.add_le_add (show _ ≤ 100 by decide +kernel) xb) (show _ ≤ 100 by decide +kernel)) (by decide)) | exact Nat.le_trans (Nat.add_le_add (show _ ≤ 100 by decide +kernel) xb) (by decide)), ?_⟩
        refine ⟨_, hDj, ?_, ?_, fun b u z => (upd_ne (ne_of_none z nD197)).trans (sj _ _ z)⟩
        · rw [List.length_map, List.length_map, List.length_take]
          exact Nat.lt_of_le_of_lt (Nat.min_le_right _ _) (by decide +kernel)
        · rw [List.take_succ, ex, List.map_append, List.map_append]
          exact upd_same
      rintro H199 ⟨g200, s201⟩
      rw [List.length_map, List.take_length] at g200
      walk_at "rd"
      refine ⟨l191, D197, _, _, rfl, rfl, (s201 _ _ (s196 _ _ c189)), g200, (by decide +kernel), fun a202 na202 => ?_⟩
      generalize e204 : upd H199 a202 _ = H203
      have g205 : H203 a202 = some (.lst (oth14.map V.str)) := by rw [← e204]; rw [show oth14 = oth13 ++ ([(Str.ofString "-05"), (Str.ofString "-0"), (Str.ofString "-00"), (Str.ofString "--5"), (Str.ofString "-"), (Str.ofString "0"), (Str.ofString "00"), (Str.ofString "5-")] : List Str).map (fun w : Str => (((Str.ofString "side x ") ++ w) ++ (Str.ofString " up places 2"))) from rfl, List.map_append]; exact upd_same
      have s206 : Same H199 H203 := by rw [← e204]; exact fun b u z => (upd_ne (ne_of_none z na202)).trans z
      clear e204
      exact ⟨_, rfl, g205, (t190.trans ((s196.trans s201).trans s206))⟩
    rintro st H207 ⟨l210, rfl, c208, t209⟩
    refine ⟨fun st Hz => ∃ lz, st = [some (.ref lz), none, none] ∧ Hz lz = some (.lst (oth15.map V.str)) ∧ Same H Hz, ?_, ?_⟩
    · skip
      walk_at "rd"
      refine ⟨(by show 6 ≤ sizeLine; decide), fun a211 na211 => ?_⟩
      generalize e213 : upd H207 a211 _ = H212
      have g214 : H212 a211 = some (.lst (([(Str.ofString "-05"), (Str.ofString "-0"), (Str.ofString "-"), (Str.ofString "02"), (Str.ofString "+2"), (Str.ofString "2 at -05")] : List Str).map V.str)) := by rw [← e213]; exact upd_same
      have s215 : Same H207 H212 := by rw [← e213]; exact fun b u z => (upd_ne (ne_of_none z na211)).trans z
      clear e213
      walk_at "rd"
      have m217 : H212 a211 = some (.lst (([(Str.ofString "-05"), (Str.ofString "-0"), (Str.ofString "-"), (Str.ofString "02"), (Str.ofString "+2"), (Str.ofString "2 at -05")] : List Str).map V.str)) := g214
      refine ⟨⟨_, SqL.of m217⟩, fun D216 nD216 => ?_⟩
      refine lc_it (walk_list (K := K) (a := a211) (xs := ([(Str.ofString "-05"), (Str.ofString "-0"), (Str.ofString "-"), (Str.ofString "02"), (Str.ofString "+2"), (Str.ofString "2 at -05")] : List Str).map V.str)) (fun j Hj => Hj D216 = some (.lst (((([(Str.ofString "-05"), (Str.ofString "-0"), (Str.ofString "-"), (Str.ofString "02"), (Str.ofString "+2"), (Str.ofString "2 at -05")] : List Str).take j).map (fun w : Str => ((Str.ofString "side x 5 up places ") ++ w))).map V.str)) ∧ Same H212 Hj) ⟨upd_same, fun b u z => (upd_ne (ne_of_none z nD216)).trans z⟩ (fun _ _ _ ⟨_, sj⟩ => SqL.of (sj _ _ m217)) ?_ ?_
      · rintro j y Hj Hk hj ⟨hDj, sj⟩ ⟨rfl, ey⟩
        rw [List.getElem?_map] at ey
        obtain ⟨x, ex, rfl⟩ := Option.map_eq_some_iff.mp ey
        have xb : x.length ≤ 100 := (by decide +kernel : ∀ x ∈ ([(Str.ofString "-05"), (Str.ofString "-0"), (Str.ofString "-"), (Str.ofString "02"), (Str.ofString "+2"), (Str.ofString "2 at -05")] : List Str), x.length ≤ 100) x (List.mem_of_getElem? ex)
        refine ⟨rfl, ?_⟩
        walk_at "rd"
        refine ⟨(by first | (rw [Str.length_append]; refine Nat.le_trans (Nat.add_le_add (Nat.add_le_add (show _ ≤ 100 by decide +kernel) xb) (show _ ≤ 100 by decide +kernel)) (by decide)) | exact Nat.le_trans (Nat.add_le_add (show _ ≤ 100 by decide +kernel) xb) (by decide)), ?_⟩
        refine ⟨_, hDj, ?_, ?_, fun b u z => (upd_ne (ne_of_none z nD216)).trans (sj _ _ z)⟩
        · rw [List.length_map, List.length_map, List.length_take]
          exact Nat.lt_of_le_of_lt (Nat.min_le_right _ _) (by decide +kernel)
        · rw [List.take_succ, ex, List.map_append, List.map_append]
          exact upd_same
      rintro H218 ⟨g219, s220⟩
      rw [List.length_map, List.take_length] at g219
      walk_at "rd"
      refine ⟨l210, D216, _, _, rfl, rfl, (s220 _ _ (s215 _ _ c208)), g219, (by decide +kernel), fun a221 na221 => ?_⟩
      generalize e223 : upd H218 a221 _ = H222
      have g224 : H222 a221 = some (.lst (oth15.map V.str)) := by rw [← e223]; rw [show oth15 = oth14 ++ ([(Str.ofString "-05"), (Str.ofString "-0"), (Str.ofString "-"), (Str.ofString "02"), (Str.ofString "+2"), (Str.ofString "2 at -05")] : List Str).map (fun w : Str => ((Str.ofString "side x 5 up places ") ++ w)) from rfl, List.map_append]; exact upd_same
      have s225 : Same H218 H222 := by rw [← e223]; exact fun b u z => (upd_ne (ne_of_none z na221)).trans z
      clear e223
      exact ⟨_, rfl, g224, (t209.trans ((s215.trans s220).trans s225))⟩
    rintro st H226 ⟨l229, rfl, c227, t228⟩
    refine ⟨fun st Hz => ∃ lz, st = [some (.ref lz), none, none] ∧ Hz lz = some (.lst (oth16.map V.str)) ∧ Same H Hz, ?_, ?_⟩
    · skip
      walk_at "rd"
      refine ⟨(by show 5 ≤ sizeLine; decide), fun a230 na230 => ?_⟩
      generalize e232 : upd H226 a230 _ = H231
      have g233 : H231 a230 = some (.lst (([(Str.ofString "side x\t 5 up places 2"), (Str.ofString "set x\t usd"), (Str.ofString "log x\t pair"), (Str.ofString "logs x pair"), (Str.ofString "sides x 5 up places 2")] : List Str).map V.str)) := by rw [← e232]; exact upd_same
      have s234 : Same H226 H231 := by rw [← e232]; exact fun b u z => (upd_ne (ne_of_none z na230)).trans z
      clear e232
      refine ⟨l229, a230, _, _, rfl, rfl, (s234 _ _ c227), g233, (by decide +kernel), fun a235 na235 => ?_⟩
      generalize e237 : upd H231 a235 _ = H236
      have g238 : H236 a235 = some (.lst (oth16.map V.str)) := by rw [← e237]; rw [show oth16 = oth15 ++ [(Str.ofString "side x\t 5 up places 2"), (Str.ofString "set x\t usd"), (Str.ofString "log x\t pair"), (Str.ofString "logs x pair"), (Str.ofString "sides x 5 up places 2")] from rfl, List.map_append]; exact upd_same
      have s239 : Same H231 H236 := by rw [← e237]; exact fun b u z => (upd_ne (ne_of_none z na235)).trans z
      clear e237
      exact ⟨_, rfl, g238, (t228.trans (s234.trans s239))⟩
    rintro st H240 ⟨l243, rfl, c241, t242⟩
    refine ⟨fun st Hz => ∃ lz, st = [some (.ref lz), none, none] ∧ Hz lz = some (.lst (oth17.map V.str)) ∧ Same H Hz, ?_, ?_⟩
    · skip
      walk_at "rd"
      refine ⟨(by show 3 ≤ sizeLine; decide), fun a244 na244 => ?_⟩
      generalize e246 : upd H240 a244 _ = H245
      have g247 : H245 a244 = some (.lst (([(Str.ofString "side usd 0 up places 2"), (Str.ofString "side at 5 near places 61"), (Str.ofString "set usd usd usd usd usd usd")] : List Str).map V.str)) := by rw [← e246]; exact upd_same
      have s248 : Same H240 H245 := by rw [← e246]; exact fun b u z => (upd_ne (ne_of_none z na244)).trans z
      clear e246
      refine ⟨l243, a244, _, _, rfl, rfl, (s248 _ _ c241), g247, (by decide +kernel), fun a249 na249 => ?_⟩
      generalize e251 : upd H245 a249 _ = H250
      have g252 : H250 a249 = some (.lst (oth17.map V.str)) := by rw [← e251]; rw [show oth17 = oth16 ++ [(Str.ofString "side usd 0 up places 2"), (Str.ofString "side at 5 near places 61"), (Str.ofString "set usd usd usd usd usd usd")] from rfl, List.map_append]; exact upd_same
      have s253 : Same H245 H250 := by rw [← e251]; exact fun b u z => (upd_ne (ne_of_none z na249)).trans z
      clear e251
      exact ⟨_, rfl, g252, (t242.trans (s248.trans s253))⟩
    rintro st H254 ⟨l257, rfl, c255, t256⟩
    refine ⟨fun st Hz => ∃ lz, st = [some (.ref lz), none, none] ∧ Hz lz = some (.lst (oth18.map V.str)) ∧ Same H Hz, ?_, ?_⟩
    · skip
      walk_at "rd"
      refine ⟨(by show 1 ≤ sizeLine; decide), fun a258 na258 => ?_⟩
      generalize e260 : upd H254 a258 _ = H259
      have g261 : H259 a258 = some (.lst (([(Str.ofString "set x zz usd usd usd usd")] : List Str).map V.str)) := by rw [← e260]; exact upd_same
      have s262 : Same H254 H259 := by rw [← e260]; exact fun b u z => (upd_ne (ne_of_none z na258)).trans z
      clear e260
      refine ⟨l257, a258, _, _, rfl, rfl, (s262 _ _ c255), g261, (by decide +kernel), fun a263 na263 => ?_⟩
      generalize e265 : upd H259 a263 _ = H264
      have g266 : H264 a263 = some (.lst (oth18.map V.str)) := by rw [← e265]; rw [show oth18 = oth17 ++ [(Str.ofString "set x zz usd usd usd usd")] from rfl, List.map_append]; exact upd_same
      have s267 : Same H259 H264 := by rw [← e265]; exact fun b u z => (upd_ne (ne_of_none z na263)).trans z
      clear e265
      exact ⟨_, rfl, g266, (t256.trans (s262.trans s267))⟩
    rintro st H268 ⟨l271, rfl, c269, t270⟩
    refine ⟨fun st Hz => ∃ lz, st = [some (.ref lz), none, none] ∧ Hz lz = some (.lst (oth19.map V.str)) ∧ Same H Hz, ?_, ?_⟩
    · skip
      walk_at "rd"
      refine ⟨(by show 4 ≤ sizeLine; decide), fun a272 na272 => ?_⟩
      generalize e274 : upd H268 a272 _ = H273
      have g275 : H273 a272 = some (.lst (([(Str.ofString "side Usd 5 up places 2"), (Str.ofString "side aB 5 up places 2"), (Str.ofString "set Pair usd"), (Str.ofString "log Way pair")] : List Str).map V.str)) := by rw [← e274]; exact upd_same
      have s276 : Same H268 H273 := by rw [← e274]; exact fun b u z => (upd_ne (ne_of_none z na272)).trans z
      clear e274
      refine ⟨l271, a272, _, _, rfl, rfl, (s276 _ _ c269), g275, (by decide +kernel), fun a277 na277 => ?_⟩
      generalize e279 : upd H273 a277 _ = H278
      have g280 : H278 a277 = some (.lst (oth19.map V.str)) := by rw [← e279]; rw [show oth19 = oth18 ++ [(Str.ofString "side Usd 5 up places 2"), (Str.ofString "side aB 5 up places 2"), (Str.ofString "set Pair usd"), (Str.ofString "log Way pair")] from rfl, List.map_append]; exact upd_same
      have s281 : Same H273 H278 := by rw [← e279]; exact fun b u z => (upd_ne (ne_of_none z na277)).trans z
      clear e279
      exact ⟨_, rfl, g280, (t270.trans (s276.trans s281))⟩
    rintro st H282 ⟨l285, rfl, c283, t284⟩
    refine ⟨fun st Hz => ∃ lz, st = [some (.ref lz), none, none] ∧ Hz lz = some (.lst (oth20.map V.str)) ∧ Same H Hz, ?_, ?_⟩
    · skip
      walk_at "rd"
      refine ⟨mul1_ok (show tl (Str.ofString "0") = [48] by decide +kernel) (by decide) (by decide), ?_⟩
      walk_at "rd"
      refine ⟨(by decide +kernel), ?_⟩
      walk_at "rd"
      refine ⟨(by show 1 ≤ sizeLine; decide), fun a286 na286 => ?_⟩
      generalize e288 : upd H282 a286 _ = H287
      have g289 : H287 a286 = some (.lst (([((Str.ofString "side x 5 up places 2 at -1") ++ (Txt.mul (Str.ofString "0") 40))] : List Str).map V.str)) := by rw [← e288]; exact upd_same
      have s290 : Same H282 H287 := by rw [← e288]; exact fun b u z => (upd_ne (ne_of_none z na286)).trans z
      clear e288
      refine ⟨l285, a286, _, _, rfl, rfl, (s290 _ _ c283), g289, (by decide +kernel), fun a291 na291 => ?_⟩
      generalize e293 : upd H287 a291 _ = H292
      have g294 : H292 a291 = some (.lst (oth20.map V.str)) := by rw [← e293]; rw [show oth20 = oth19 ++ [((Str.ofString "side x 5 up places 2 at -1") ++ (Txt.mul (Str.ofString "0") 40))] from rfl, List.map_append]; exact upd_same
      have s295 : Same H287 H292 := by rw [← e293]; exact fun b u z => (upd_ne (ne_of_none z na291)).trans z
      clear e293
      exact ⟨_, rfl, g294, (t284.trans (s290.trans s295))⟩
    rintro st H296 ⟨l299, rfl, c297, t298⟩
    refine ⟨fun st Hz => ∃ lz, st = [some (.ref lz), none, none] ∧ Hz lz = some (.lst (oth21.map V.str)) ∧ Same H Hz, ?_, ?_⟩
    · skip
      walk_at "rd"
      refine ⟨mul1_ok (show tl (Str.ofString "0") = [48] by decide +kernel) (by decide) (by decide), ?_⟩
      walk_at "rd"
      refine ⟨(by decide +kernel), ?_⟩
      walk_at "rd"
      refine ⟨mul1_ok (show tl (Str.ofString "9") = [57] by decide +kernel) (by decide) (by decide), ?_⟩
      walk_at "rd"
      refine ⟨(by decide +kernel), ?_⟩
      walk_at "rd"
      refine ⟨(by show 4 ≤ sizeLine; decide), fun a300 na300 => ?_⟩
      generalize e302 : upd H296 a300 _ = H301
      have g303 : H301 a300 = some (.lst (([((Str.ofString "side x 5 up places 2 at 1") ++ (Txt.mul (Str.ofString "0") 40)), ((Str.ofString "side x 5 up places 2 at ") ++ (Txt.mul (Str.ofString "9") 41)), (Str.ofString "set x"), (Str.ofString "set x zz")] : List Str).map V.str)) := by rw [← e302]; exact upd_same
      have s304 : Same H296 H301 := by rw [← e302]; exact fun b u z => (upd_ne (ne_of_none z na300)).trans z
      clear e302
      refine ⟨l299, a300, _, _, rfl, rfl, (s304 _ _ c297), g303, (by decide +kernel), fun a305 na305 => ?_⟩
      generalize e307 : upd H301 a305 _ = H306
      have g308 : H306 a305 = some (.lst (oth21.map V.str)) := by rw [← e307]; rw [show oth21 = oth20 ++ [((Str.ofString "side x 5 up places 2 at 1") ++ (Txt.mul (Str.ofString "0") 40)), ((Str.ofString "side x 5 up places 2 at ") ++ (Txt.mul (Str.ofString "9") 41)), (Str.ofString "set x"), (Str.ofString "set x zz")] from rfl, List.map_append]; exact upd_same
      have s309 : Same H301 H306 := by rw [← e307]; exact fun b u z => (upd_ne (ne_of_none z na305)).trans z
      clear e307
      exact ⟨_, rfl, g308, (t298.trans (s304.trans s309))⟩
    rintro st H310 ⟨l313, rfl, c311, t312⟩
    refine ⟨fun st Hz => ∃ lz, st = [some (.ref lz), none, none] ∧ Hz lz = some (.lst (oth22.map V.str)) ∧ Same H Hz, ?_, ?_⟩
    · skip
      walk_at "rd"
      refine ⟨mul1_ok (show tl (Str.ofString "1") = [49] by decide +kernel) (by decide) (by decide), ?_⟩
      walk_at "rd"
      refine ⟨(by decide +kernel), ?_⟩
      walk_at "rd"
      refine ⟨(by show 4 ≤ sizeLine; decide), fun a314 na314 => ?_⟩
      generalize e316 : upd H310 a314 _ = H315
      have g317 : H315 a314 = some (.lst (([((Str.ofString "side x 5 up places ") ++ (Txt.mul (Str.ofString "1") 400)), (Str.ofString "set x usd usd usd usd"), (Str.ofString "set end usd"), (Str.ofString "set x end")] : List Str).map V.str)) := by rw [← e316]; exact upd_same
      have s318 : Same H310 H315 := by rw [← e316]; exact fun b u z => (upd_ne (ne_of_none z na314)).trans z
      clear e316
      refine ⟨l313, a314, _, _, rfl, rfl, (s318 _ _ c311), g317, (by decide +kernel), fun a319 na319 => ?_⟩
      generalize e321 : upd H315 a319 _ = H320
      have g322 : H320 a319 = some (.lst (oth22.map V.str)) := by rw [← e321]; rw [show oth22 = oth21 ++ [((Str.ofString "side x 5 up places ") ++ (Txt.mul (Str.ofString "1") 400)), (Str.ofString "set x usd usd usd usd"), (Str.ofString "set end usd"), (Str.ofString "set x end")] from rfl, List.map_append]; exact upd_same
      have s323 : Same H315 H320 := by rw [← e321]; exact fun b u z => (upd_ne (ne_of_none z na319)).trans z
      clear e321
      exact ⟨_, rfl, g322, (t312.trans (s318.trans s323))⟩
    rintro st H324 ⟨l327, rfl, c325, t326⟩
    refine ⟨fun st Hz => ∃ lz, st = [some (.ref lz), none, none] ∧ Hz lz = some (.lst (oth23.map V.str)) ∧ Same H Hz, ?_, ?_⟩
    · skip
      walk_at "rd"
      refine ⟨(by show 1 ≤ sizeLine; decide), fun a328 na328 => ?_⟩
      generalize e330 : upd H324 a328 _ = H329
      have g331 : H329 a328 = some (.lst (([(Str.ofString "set x set")] : List Str).map V.str)) := by rw [← e330]; exact upd_same
      have s332 : Same H324 H329 := by rw [← e330]; exact fun b u z => (upd_ne (ne_of_none z na328)).trans z
      clear e330
      refine ⟨l327, a328, _, _, rfl, rfl, (s332 _ _ c325), g331, (by decide +kernel), fun a333 na333 => ?_⟩
      generalize e335 : upd H329 a333 _ = H334
      have g336 : H334 a333 = some (.lst (oth23.map V.str)) := by rw [← e335]; rw [show oth23 = oth22 ++ [(Str.ofString "set x set")] from rfl, List.map_append]; exact upd_same
      have s337 : Same H329 H334 := by rw [← e335]; exact fun b u z => (upd_ne (ne_of_none z na333)).trans z
      clear e335
      exact ⟨_, rfl, g336, (t326.trans (s332.trans s337))⟩
    rintro st H338 ⟨l341, rfl, c339, t340⟩
    refine ⟨fun st Hz => ∃ lz, st = [some (.ref lz), none, none] ∧ Hz lz = some (.lst (oth24.map V.str)) ∧ Same H Hz, ?_, ?_⟩
    · skip
      walk_at "rd"
      refine ⟨(by show 6 ≤ sizeLine; decide), fun a342 na342 => ?_⟩
      generalize e344 : upd H338 a342 _ = H343
      have g345 : H343 a342 = some (.lst (([(Str.ofString "set x usd usd usd usd usd"), (Str.ofString "set usd usd"), (Str.ofString "set b_b usd"), (Str.ofString "set x usd,"), (Str.ofString "log x"), (Str.ofString "log x z")] : List Str).map V.str)) := by rw [← e344]; exact upd_same
      have s346 : Same H338 H343 := by rw [← e344]; exact fun b u z => (upd_ne (ne_of_none z na342)).trans z
      clear e344
      refine ⟨l341, a342, _, _, rfl, rfl, (s346 _ _ c339), g345, (by decide +kernel), fun a347 na347 => ?_⟩
      generalize e349 : upd H343 a347 _ = H348
      have g350 : H348 a347 = some (.lst (oth24.map V.str)) := by rw [← e349]; rw [show oth24 = oth23 ++ [(Str.ofString "set x usd usd usd usd usd"), (Str.ofString "set usd usd"), (Str.ofString "set b_b usd"), (Str.ofString "set x usd,"), (Str.ofString "log x"), (Str.ofString "log x z")] from rfl, List.map_append]; exact upd_same
      have s351 : Same H343 H348 := by rw [← e349]; exact fun b u z => (upd_ne (ne_of_none z na347)).trans z
      clear e349
      exact ⟨_, rfl, g350, (t340.trans (s346.trans s351))⟩
    rintro st H352 ⟨l355, rfl, c353, t354⟩
    refine ⟨fun st Hz => ∃ lz, st = [some (.ref lz), none, none] ∧ Hz lz = some (.lst (oth25.map V.str)) ∧ Same H Hz, ?_, ?_⟩
    · skip
      walk_at "rd"
      refine ⟨(by show 1 ≤ sizeLine; decide), fun a356 na356 => ?_⟩
      generalize e358 : upd H352 a356 _ = H357
      have g359 : H357 a356 = some (.lst (([(Str.ofString "log x usd")] : List Str).map V.str)) := by rw [← e358]; exact upd_same
      have s360 : Same H352 H357 := by rw [← e358]; exact fun b u z => (upd_ne (ne_of_none z na356)).trans z
      clear e358
      refine ⟨l355, a356, _, _, rfl, rfl, (s360 _ _ c353), g359, (by decide +kernel), fun a361 na361 => ?_⟩
      generalize e363 : upd H357 a361 _ = H362
      have g364 : H362 a361 = some (.lst (oth25.map V.str)) := by rw [← e363]; rw [show oth25 = oth24 ++ [(Str.ofString "log x usd")] from rfl, List.map_append]; exact upd_same
      have s365 : Same H357 H362 := by rw [← e363]; exact fun b u z => (upd_ne (ne_of_none z na361)).trans z
      clear e363
      exact ⟨_, rfl, g364, (t354.trans (s360.trans s365))⟩
    rintro st H366 ⟨l369, rfl, c367, t368⟩
    refine ⟨fun st Hz => ∃ lz wz, st = [some (.ref lz), none, some (.ref wz)] ∧ Hz lz = some (.lst (oth25.map V.str)) ∧ Hz wz = some (.lst (oth26.map V.str)) ∧ Same H Hz, ?_, ?_⟩
    · skip
      walk_at "rd"
      refine ⟨(by show 8 ≤ sizeLine; decide), fun a370 na370 => ?_⟩
      generalize e372 : upd H366 a370 _ = H371
      have g373 : H371 a370 = some (.lst (oth26.map V.str)) := by rw [← e372]; exact upd_same
      have s374 : Same H366 H371 := by rw [← e372]; exact fun b u z => (upd_ne (ne_of_none z na370)).trans z
      clear e372
      exact ⟨_, _, rfl, (s374 _ _ c367), g373, (t368.trans s374)⟩
    rintro st H375 ⟨l378, w379, rfl, c376, d380, t377⟩
    refine ⟨fun st Hz => ∃ lz wz, st = [some (.ref lz), none, some (.ref wz)] ∧ Hz lz = some (.lst (oth28.map V.str)) ∧ Hz wz = some (.lst (oth26.map V.str)) ∧ Same H Hz, ?_, ?_⟩
    · skip
      walk_at "rd"
      have m382 : H375 w379 = some (.lst (oth26.map V.str)) := d380
      refine ⟨⟨_, SqL.of m382⟩, fun D381 nD381 => ?_⟩
      refine lc_it (walk_list (K := K) (a := w379) (xs := oth26.map V.str)) (fun j Hj => Hj D381 = some (.lst (((oth26.take j).map (fun w : Str => (((Str.ofString "side ") ++ w) ++ (Str.ofString " 5 up places 2")))).map V.str)) ∧ Same H375 Hj) ⟨upd_same, fun b u z => (upd_ne (ne_of_none z nD381)).trans z⟩ (fun _ _ _ ⟨_, sj⟩ => SqL.of (sj _ _ m382)) ?_ ?_
      · rintro j y Hj Hk hj ⟨hDj, sj⟩ ⟨rfl, ey⟩
        rw [List.getElem?_map] at ey
        obtain ⟨x, ex, rfl⟩ := Option.map_eq_some_iff.mp ey
        have xb : x.length ≤ 100 := (by decide +kernel : ∀ x ∈ oth26, x.length ≤ 100) x (List.mem_of_getElem? ex)
        refine ⟨rfl, ?_⟩
        walk_at "rd"
        refine ⟨(by first | (rw [Str.length_append]; refine Nat.le_trans (Nat.add_le_add (Nat.add_le_add (show _ ≤ 100 by decide +kernel) xb) (show _ ≤ 100 by decide +kernel)) (by decide)) | exact Nat.le_trans (Nat.add_le_add (show _ ≤ 100 by decide +kernel) xb) (by decide)), ?_⟩
        walk_at "rd"
        refine ⟨(by first | (rw [Str.length_append]; refine Nat.le_trans (Nat.add_le_add (Nat.add_le_add (show _ ≤ 100 by decide +kernel) xb) (show _ ≤ 100 by decide +kernel)) (by decide)) | exact Nat.le_trans (Nat.add_le_add (show _ ≤ 100 by decide +kernel) xb) (by decide)), ?_⟩
        refine ⟨_, hDj, ?_, ?_, fun b u z => (upd_ne (ne_of_none z nD381)).trans (sj _ _ z)⟩
        · rw [List.length_map, List.length_map, List.length_take]
          exact Nat.lt_of_le_of_lt (Nat.min_le_right _ _) (by decide +kernel)
        · rw [List.take_succ, ex, List.map_append, List.map_append]
          exact upd_same
      rintro H383 ⟨g384, s385⟩
      rw [List.length_map, List.take_length] at g384
      walk_at "rd"
      refine ⟨l378, D381, _, _, rfl, rfl, (s385 _ _ c376), g384, (by decide +kernel), fun a386 na386 => ?_⟩
      generalize e388 : upd H383 a386 _ = H387
      have g389 : H387 a386 = some (.lst (oth27.map V.str)) := by rw [← e388]; rw [show oth27 = oth25 ++ oth26.map (fun w : Str => (((Str.ofString "side ") ++ w) ++ (Str.ofString " 5 up places 2"))) from rfl, List.map_append]; exact upd_same
      have s390 : Same H383 H387 := by rw [← e388]; exact fun b u z => (upd_ne (ne_of_none z na386)).trans z
      clear e388
      walk_at "rd"
      refine ⟨(by show 2 ≤ sizeLine; decide), fun a391 na391 => ?_⟩
      generalize e393 : upd H387 a391 _ = H392
      have g394 : H392 a391 = some (.lst (([(Str.ofString "usd 5.00"), (Str.ofString "set x usd zz usd usd usd")] : List Str).map V.str)) := by rw [← e393]; exact upd_same
      have s395 : Same H387 H392 := by rw [← e393]; exact fun b u z => (upd_ne (ne_of_none z na391)).trans z
      clear e393
      refine ⟨a386, a391, _, _, rfl, rfl, (s395 _ _ g389), g394, (by decide +kernel), fun a396 na396 => ?_⟩
      generalize e398 : upd H392 a396 _ = H397
      have g399 : H397 a396 = some (.lst (oth28.map V.str)) := by rw [← e398]; rw [show oth28 = oth27 ++ [(Str.ofString "usd 5.00"), (Str.ofString "set x usd zz usd usd usd")] from rfl, List.map_append]; exact upd_same
      have s400 : Same H392 H397 := by rw [← e398]; exact fun b u z => (upd_ne (ne_of_none z na396)).trans z
      clear e398
      exact ⟨_, _, rfl, g399, (s400 _ _ (s395 _ _ (s390 _ _ (s385 _ _ d380)))), (t377.trans (((s385.trans s390).trans s395).trans s400))⟩
    rintro st H401 ⟨l404, w405, rfl, c402, d406, t403⟩
    refine ⟨fun st Hz => ∃ lz wz, st = [some (.ref lz), none, some (.ref wz)] ∧ Hz lz = some (.lst (oth29.map V.str)) ∧ Hz wz = some (.lst (oth26.map V.str)) ∧ Same H Hz, ?_, ?_⟩
    · skip
      walk_at "rd"
      refine ⟨(by show 6 ≤ sizeLine; decide), fun a407 na407 => ?_⟩
      generalize e409 : upd H401 a407 _ = H408
      have g410 : H408 a407 = some (.lst (([(Str.ofString "log all usd end"), (Str.ofString "log pair usd"), (Str.ofString "usd 0.00"), (Str.ofString "end end"), (Str.ofString "sets x usd"), (Str.ofString "sides x")] : List Str).map V.str)) := by rw [← e409]; exact upd_same
      have s411 : Same H401 H408 := by rw [← e409]; exact fun b u z => (upd_ne (ne_of_none z na407)).trans z
      clear e409
      refine ⟨l404, a407, _, _, rfl, rfl, (s411 _ _ c402), g410, (by decide +kernel), fun a412 na412 => ?_⟩
      generalize e414 : upd H408 a412 _ = H413
      have g415 : H413 a412 = some (.lst (oth29.map V.str)) := by rw [← e414]; rw [show oth29 = oth28 ++ [(Str.ofString "log all usd end"), (Str.ofString "log pair usd"), (Str.ofString "usd 0.00"), (Str.ofString "end end"), (Str.ofString "sets x usd"), (Str.ofString "sides x")] from rfl, List.map_append]; exact upd_same
      have s416 : Same H408 H413 := by rw [← e414]; exact fun b u z => (upd_ne (ne_of_none z na412)).trans z
      clear e414
      exact ⟨_, _, rfl, g415, (s416 _ _ (s411 _ _ d406)), (t403.trans (s411.trans s416))⟩
    rintro st H417 ⟨l420, w421, rfl, c418, d422, t419⟩
    walk_at "rd"
    refine ⟨(by show 1 ≤ sizeLine; decide), fun a423 na423 => ?_⟩
    generalize e425 : upd H417 a423 _ = H424
    have g426 : H424 a423 = some (.lst (([(Str.ofString "side usd 5 up places 2")] : List Str).map V.str)) := by rw [← e425]; exact upd_same
    have s427 : Same H417 H424 := by rw [← e425]; exact fun b u z => (upd_ne (ne_of_none z na423)).trans z
    clear e425
    refine ⟨l420, a423, _, _, rfl, rfl, (s427 _ _ c418), g426, (by decide +kernel), fun a428 na428 => ?_⟩
    generalize e430 : upd H424 a428 _ = H429
    have g431 : H429 a428 = some (.lst (oth30.map V.str)) := by rw [← e430]; rw [show oth30 = oth29 ++ [(Str.ofString "side usd 5 up places 2")] from rfl, List.map_append]; exact upd_same
    have s432 : Same H424 H429 := by rw [← e430]; exact fun b u z => (upd_ne (ne_of_none z na428)).trans z
    clear e430
    exact q a428 _ ((t419.trans s427).free na428) (t419.trans (s427.trans s432)) g431
end
def lgl0 : List Str := [(Str.ofString "usd 5.00"), (Str.ofString "eur 5"), (Str.ofString "usd 5"), (Str.ofString "usd 5.0"), (Str.ofString "usd 05.00"), (Str.ofString "usd -5.00"), (Str.ofString "usd -0.00"), (Str.ofString "usd 0.00"), (Str.ofString "usd +5.00")]
def lgl1 : List Str := lgl0 ++ [(Str.ofString "usd 1,000.00"), (Str.ofString "usd -1000.05"), (Str.ofString "pt 5.00"), (Str.ofString "zz 5.00"), (Str.ofString "1 5.00"), (Str.ofString "usd 5.00 5"), (Str.ofString "usd")]
def lgl2 : List Str := lgl1 ++ [(Str.ofString "usd .50"), (Str.ofString "usd 5.")]
def lgl3 : List Str := lgl2 ++ [(Str.ofString "usd 5.00e1"), (Str.ofString "\t"), (Str.ofString "end x"), (Str.ofString "x end"), (Str.ofString "log y pair"), (Str.ofString "side y 5 up places 2")]
def lgl4 : List Str := lgl3 ++ [(((Str.ofString "usd ") ++ (Txt.mul (Str.ofString "9") 300)) ++ (Str.ofString ".99"))]
def lgl5 : List Str := lgl4 ++ [(Str.ofString "usd 5_0.00"), (Str.ofString "Usd 5.00"), (Str.ofString "eur 0"), (Str.ofString "eur -0"), (Str.ofString "eur 5."), (Str.ofString "eur 5.0"), (Str.ofString "usd 5.00\t"), (Str.ofString "usd\t5.00")]
def lgl6 : List Str := lgl5 ++ [(Str.ofString "end end")]
def lgl7 : List Str := lgl6 ++ [(Str.ofString "usd end"), (Str.ofString "pair 5.00"), (Str.ofString "eur 10000000000000000000000000000000000000000000000"), (Str.ofString "end"), (Str.ofString ""), (Str.ofString "  ")]
def spLogLines : Sp := fun vs H Q _ => vs = [] ∧ ∀ (l : Addr) (H' : Hp), H l = none → Same H H' → H' l = some (.lst (lgl7.map V.str)) → Q (.ref l) H'
section
variable {P : Program} {w : World} {K : PySem.W.Frag} {mg : Str → Option Value} {base : Heap}
set_option maxHeartbeats 0 in
theorem ok_L_log_lines {f : Addr} {fd : FuncData} (F : Fun K "_law_log_lines" "_law_log_lines" s_L_log_lines f fd) : FnOk P w K mg base CX0 1 f fd [] spLogLines := by
  refine F.ok sc_L_log_lines (fun vs H Q E h => ?_) (fun cdv A outer s0 H vs Q E hr h => ?_)
  · obtain ⟨rfl, _⟩ := h
    rfl
  · obtain ⟨rfl, q⟩ := h
    have nd := sc_L_log_lines.nd
    refine ⟨_, (pss_cons (ps_mid (ps_set (i := 0) nd rfl (Or.inl rfl) (pe_lst (pa_cons pe_str (pa_cons pe_str (pa_cons pe_str (pa_cons pe_str (pa_cons pe_str (pa_cons pe_str (pa_cons pe_str (pa_cons pe_str (pa_cons pe_str pa_nil))))))))))))
      (pss_cons (ps_mid (ps_set (i := 0) nd rfl (Or.inl rfl) (pe_op op_cat (pv 0) (pe_lst (pa_cons pe_str (pa_cons pe_str (pa_cons pe_str (pa_cons pe_str (pa_cons pe_str (pa_cons pe_str (pa_cons pe_str pa_nil)))))))))))
      (pss_cons (ps_mid (ps_set (i := 0) nd rfl (Or.inl rfl) (pe_op op_cat (pv 0) (pe_lst (pa_cons pe_str (pa_cons pe_str pa_nil))))))
      (pss_cons (ps_mid (ps_set (i := 0) nd rfl (Or.inl rfl) (pe_op op_cat (pv 0) (pe_lst (pa_cons pe_str (pa_cons pe_str (pa_cons pe_str (pa_cons pe_str (pa_cons pe_str (pa_cons pe_str pa_nil))))))))))
      (pss_cons (ps_mid (ps_set (i := 0) nd rfl (Or.inl rfl) (pe_op op_cat (pv 0) (pe_lst (pa_cons (pe_op op_add_str (pe_op op_add_str pe_str (pe_op op_mulS pe_str pe_int)) pe_str) pa_nil)))))
      (pss_cons (ps_mid (ps_set (i := 0) nd rfl (Or.inl rfl) (pe_op op_cat (pv 0) (pe_lst (pa_cons pe_str (pa_cons pe_str (pa_cons pe_str (pa_cons pe_str (pa_cons pe_str (pa_cons pe_str (pa_cons pe_str (pa_cons pe_str pa_nil))))))))))))
      (pss_cons (ps_mid (ps_set (i := 0) nd rfl (Or.inl rfl) (pe_op op_cat (pv 0) (pe_lst (pa_cons pe_str pa_nil)))))
      (pss_one (ps_ret (pe_op op_cat (pv 0) (pe_lst (pa_cons pe_str (pa_cons pe_str (pa_cons pe_str (pa_cons pe_str (pa_cons pe_str (pa_cons pe_str pa_nil))))))))))))))))), ?_⟩
    refine ⟨fun st Hz => ∃ lz, st = [some (.ref lz)] ∧ Hz lz = some (.lst (lgl0.map V.str)) ∧ Same H Hz, ?_, ?_⟩
    · skip
      walk_at "rd"
      refine ⟨(by show 9 ≤ sizeLine; decide), fun a1 na1 => ?_⟩
      generalize e3 : upd H a1 _ = H2
      have g4 : H2 a1 = some (.lst (lgl0.map V.str)) := by rw [← e3]; exact upd_same
      have s5 : Same H H2 := by rw [← e3]; exact fun b u z => (upd_ne (ne_of_none z na1)).trans z
      clear e3
      exact ⟨_, rfl, g4, s5⟩
    rintro st H6 ⟨l9, rfl, c7, t8⟩
    refine ⟨fun st Hz => ∃ lz, st = [some (.ref lz)] ∧ Hz lz = some (.lst (lgl1.map V.str)) ∧ Same H Hz, ?_, ?_⟩
    · skip
      walk_at "rd"
      refine ⟨(by show 7 ≤ sizeLine; decide), fun a10 na10 => ?_⟩
      generalize e12 : upd H6 a10 _ = H11
      have g13 : H11 a10 = some (.lst (([(Str.ofString "usd 1,000.00"), (Str.ofString "usd -1000.05"), (Str.ofString "pt 5.00"), (Str.ofString "zz 5.00"), (Str.ofString "1 5.00"), (Str.ofString "usd 5.00 5"), (Str.ofString "usd")] : List Str).map V.str)) := by rw [← e12]; exact upd_same
      have s14 : Same H6 H11 := by rw [← e12]; exact fun b u z => (upd_ne (ne_of_none z na10)).trans z
      clear e12
      refine ⟨l9, a10, _, _, rfl, rfl, (s14 _ _ c7), g13, (by decide +kernel), fun a15 na15 => ?_⟩
      generalize e17 : upd H11 a15 _ = H16
      have g18 : H16 a15 = some (.lst (lgl1.map V.str)) := by rw [← e17]; rw [show lgl1 = lgl0 ++ [(Str.ofString "usd 1,000.00"), (Str.ofString "usd -1000.05"), (Str.ofString "pt 5.00"), (Str.ofString "zz 5.00"), (Str.ofString "1 5.00"), (Str.ofString "usd 5.00 5"), (Str.ofString "usd")] from rfl, List.map_append]; exact upd_same
      have s19 : Same H11 H16 := by rw [← e17]; exact fun b u z => (upd_ne (ne_of_none z na15)).trans z
      clear e17
      exact ⟨_, rfl, g18, (t8.trans (s14.trans s19))⟩
    rintro st H20 ⟨l23, rfl, c21, t22⟩
    refine ⟨fun st Hz => ∃ lz, st = [some (.ref lz)] ∧ Hz lz = some (.lst (lgl2.map V.str)) ∧ Same H Hz, ?_, ?_⟩
    · skip
      walk_at "rd"
      refine ⟨(by show 2 ≤ sizeLine; decide), fun a24 na24 => ?_⟩
      generalize e26 : upd H20 a24 _ = H25
      have g27 : H25 a24 = some (.lst (([(Str.ofString "usd .50"), (Str.ofString "usd 5.")] : List Str).map V.str)) := by rw [← e26]; exact upd_same
      have s28 : Same H20 H25 := by rw [← e26]; exact fun b u z => (upd_ne (ne_of_none z na24)).trans z
      clear e26
      refine ⟨l23, a24, _, _, rfl, rfl, (s28 _ _ c21), g27, (by decide +kernel), fun a29 na29 => ?_⟩
      generalize e31 : upd H25 a29 _ = H30
      have g32 : H30 a29 = some (.lst (lgl2.map V.str)) := by rw [← e31]; rw [show lgl2 = lgl1 ++ [(Str.ofString "usd .50"), (Str.ofString "usd 5.")] from rfl, List.map_append]; exact upd_same
      have s33 : Same H25 H30 := by rw [← e31]; exact fun b u z => (upd_ne (ne_of_none z na29)).trans z
      clear e31
      exact ⟨_, rfl, g32, (t22.trans (s28.trans s33))⟩
    rintro st H34 ⟨l37, rfl, c35, t36⟩
    refine ⟨fun st Hz => ∃ lz, st = [some (.ref lz)] ∧ Hz lz = some (.lst (lgl3.map V.str)) ∧ Same H Hz, ?_, ?_⟩
    · skip
      walk_at "rd"
      refine ⟨(by show 6 ≤ sizeLine; decide), fun a38 na38 => ?_⟩
      generalize e40 : upd H34 a38 _ = H39
      have g41 : H39 a38 = some (.lst (([(Str.ofString "usd 5.00e1"), (Str.ofString "\t"), (Str.ofString "end x"), (Str.ofString "x end"), (Str.ofString "log y pair"), (Str.ofString "side y 5 up places 2")] : List Str).map V.str)) := by rw [← e40]; exact upd_same
      have s42 : Same H34 H39 := by rw [← e40]; exact fun b u z => (upd_ne (ne_of_none z na38)).trans z
      clear e40
      refine ⟨l37, a38, _, _, rfl, rfl, (s42 _ _ c35), g41, (by decide +kernel), fun a43 na43 => ?_⟩
      generalize e45 : upd H39 a43 _ = H44
      have g46 : H44 a43 = some (.lst (lgl3.map V.str)) := by rw [← e45]; rw [show lgl3 = lgl2 ++ [(Str.ofString "usd 5.00e1"), (Str.ofString "\t"), (Str.ofString "end x"), (Str.ofString "x end"), (Str.ofString "log y pair"), (Str.ofString "side y 5 up places 2")] from rfl, List.map_append]; exact upd_same
      have s47 : Same H39 H44 := by rw [← e45]; exact fun b u z => (upd_ne (ne_of_none z na43)).trans z
      clear e45
      exact ⟨_, rfl, g46, (t36.trans (s42.trans s47))⟩
    rintro st H48 ⟨l51, rfl, c49, t50⟩
    refine ⟨fun st Hz => ∃ lz, st = [some (.ref lz)] ∧ Hz lz = some (.lst (lgl4.map V.str)) ∧ Same H Hz, ?_, ?_⟩
    · skip
      walk_at "rd"
      refine ⟨mul1_ok (show tl (Str.ofString "9") = [57] by decide +kernel) (by decide) (by decide), ?_⟩
      walk_at "rd"
      refine ⟨(by decide +kernel), ?_⟩
      walk_at "rd"
      refine ⟨(by decide +kernel), ?_⟩
      walk_at "rd"
      refine ⟨(by show 1 ≤ sizeLine; decide), fun a52 na52 => ?_⟩
      generalize e54 : upd H48 a52 _ = H53
      have g55 : H53 a52 = some (.lst (([(((Str.ofString "usd ") ++ (Txt.mul (Str.ofString "9") 300)) ++ (Str.ofString ".99"))] : List Str).map V.str)) := by rw [← e54]; exact upd_same
      have s56 : Same H48 H53 := by rw [← e54]; exact fun b u z => (upd_ne (ne_of_none z na52)).trans z
      clear e54
      refine ⟨l51, a52, _, _, rfl, rfl, (s56 _ _ c49), g55, (by decide +kernel), fun a57 na57 => ?_⟩
      generalize e59 : upd H53 a57 _ = H58
      have g60 : H58 a57 = some (.lst (lgl4.map V.str)) := by rw [← e59]; rw [show lgl4 = lgl3 ++ [(((Str.ofString "usd ") ++ (Txt.mul (Str.ofString "9") 300)) ++ (Str.ofString ".99"))] from rfl, List.map_append]; exact upd_same
      have s61 : Same H53 H58 := by rw [← e59]; exact fun b u z => (upd_ne (ne_of_none z na57)).trans z
      clear e59
      exact ⟨_, rfl, g60, (t50.trans (s56.trans s61))⟩
    rintro st H62 ⟨l65, rfl, c63, t64⟩
    refine ⟨fun st Hz => ∃ lz, st = [some (.ref lz)] ∧ Hz lz = some (.lst (lgl5.map V.str)) ∧ Same H Hz, ?_, ?_⟩
    · skip
      walk_at "rd"
      refine ⟨(by show 8 ≤ sizeLine; decide), fun a66 na66 => ?_⟩
      generalize e68 : upd H62 a66 _ = H67
      have g69 : H67 a66 = some (.lst (([(Str.ofString "usd 5_0.00"), (Str.ofString "Usd 5.00"), (Str.ofString "eur 0"), (Str.ofString "eur -0"), (Str.ofString "eur 5."), (Str.ofString "eur 5.0"), (Str.ofString "usd 5.00\t"), (Str.ofString "usd\t5.00")] : List Str).map V.str)) := by rw [← e68]; exact upd_same
      have s70 : Same H62 H67 := by rw [← e68]; exact fun b u z => (upd_ne (ne_of_none z na66)).trans z
      clear e68
      refine ⟨l65, a66, _, _, rfl, rfl, (s70 _ _ c63), g69, (by decide +kernel), fun a71 na71 => ?_⟩
      generalize e73 : upd H67 a71 _ = H72
      have g74 : H72 a71 = some (.lst (lgl5.map V.str)) := by rw [← e73]; rw [show lgl5 = lgl4 ++ [(Str.ofString "usd 5_0.00"), (Str.ofString "Usd 5.00"), (Str.ofString "eur 0"), (Str.ofString "eur -0"), (Str.ofString "eur 5."), (Str.ofString "eur 5.0"), (Str.ofString "usd 5.00\t"), (Str.ofString "usd\t5.00")] from rfl, List.map_append]; exact upd_same
      have s75 : Same H67 H72 := by rw [← e73]; exact fun b u z => (upd_ne (ne_of_none z na71)).trans z
      clear e73
      exact ⟨_, rfl, g74, (t64.trans (s70.trans s75))⟩
    rintro st H76 ⟨l79, rfl, c77, t78⟩
    refine ⟨fun st Hz => ∃ lz, st = [some (.ref lz)] ∧ Hz lz = some (.lst (lgl6.map V.str)) ∧ Same H Hz, ?_, ?_⟩
    · skip
      walk_at "rd"
      refine ⟨(by show 1 ≤ sizeLine; decide), fun a80 na80 => ?_⟩
      generalize e82 : upd H76 a80 _ = H81
      have g83 : H81 a80 = some (.lst (([(Str.ofString "end end")] : List Str).map V.str)) := by rw [← e82]; exact upd_same
      have s84 : Same H76 H81 := by rw [← e82]; exact fun b u z => (upd_ne (ne_of_none z na80)).trans z
      clear e82
      refine ⟨l79, a80, _, _, rfl, rfl, (s84 _ _ c77), g83, (by decide +kernel), fun a85 na85 => ?_⟩
      generalize e87 : upd H81 a85 _ = H86
      have g88 : H86 a85 = some (.lst (lgl6.map V.str)) := by rw [← e87]; rw [show lgl6 = lgl5 ++ [(Str.ofString "end end")] from rfl, List.map_append]; exact upd_same
      have s89 : Same H81 H86 := by rw [← e87]; exact fun b u z => (upd_ne (ne_of_none z na85)).trans z
      clear e87
      exact ⟨_, rfl, g88, (t78.trans (s84.trans s89))⟩
    rintro st H90 ⟨l93, rfl, c91, t92⟩
    walk_at "rd"
    refine ⟨(by show 6 ≤ sizeLine; decide), fun a94 na94 => ?_⟩
    generalize e96 : upd H90 a94 _ = H95
    have g97 : H95 a94 = some (.lst (([(Str.ofString "usd end"), (Str.ofString "pair 5.00"), (Str.ofString "eur 10000000000000000000000000000000000000000000000"), (Str.ofString "end"), (Str.ofString ""), (Str.ofString "  ")] : List Str).map V.str)) := by rw [← e96]; exact upd_same
    have s98 : Same H90 H95 := by rw [← e96]; exact fun b u z => (upd_ne (ne_of_none z na94)).trans z
    clear e96
    refine ⟨l93, a94, _, _, rfl, rfl, (s98 _ _ c91), g97, (by decide +kernel), fun a99 na99 => ?_⟩
    generalize e101 : upd H95 a99 _ = H100
    have g102 : H100 a99 = some (.lst (lgl7.map V.str)) := by rw [← e101]; rw [show lgl7 = lgl6 ++ [(Str.ofString "usd end"), (Str.ofString "pair 5.00"), (Str.ofString "eur 10000000000000000000000000000000000000000000000"), (Str.ofString "end"), (Str.ofString ""), (Str.ofString "  ")] from rfl, List.map_append]; exact upd_same
    have s103 : Same H95 H100 := by rw [← e101]; exact fun b u z => (upd_ne (ne_of_none z na99)).trans z
    clear e101
    exact q a99 _ ((t92.trans s98).free na99) (t92.trans (s98.trans s103)) g102
end
end HT
namespace HT
open PySem L2 TL
/-- a line that may be put into any text -/
def lineBo (l : List Nat) : Bool := (!decide (10 ∈ l) && decide (l.length ≤ 420)) && (decide ((wl l).length ≤ 20) && l.all fun c => decide (c < 0x110000))
theorem lineBo_ok {y : Str} (h : lineBo (tl y) = true) : LnS 0 y ∧ y.length ≤ 420 := by
  unfold lineBo at h
  simp only [Bool.and_eq_true, Bool.not_eq_true', decide_eq_false_iff_not, decide_eq_true_eq] at h
  obtain ⟨⟨a, b⟩, c, d⟩ := h
  have e : (wordsOfL y).length ≤ 20 := by
    rw [← List.length_map (f := tl), words_wl]
    exact c
  have l : y.length ≤ 420 := by rw [len_tl]; exact b
  exact ⟨short_S a (by omega) e (lay_iff.mpr fun c hc => of_decide_eq_true (List.all_eq_true.mp d c hc)), l⟩
theorem oth_all : (oth30.all fun y => lineBo (tl y)) = true := by decide +kernel
theorem lgl_all : (lgl7.all fun y => lineBo (tl y)) = true := by decide +kernel
theorem oth_line {y : Str} (h : y ∈ oth30) : LnS 0 y ∧ y.length ≤ 420 := lineBo_ok (List.all_eq_true.mp oth_all y h)
theorem lgl_line {y : Str} (h : y ∈ lgl7) : LnS 0 y ∧ y.length ≤ 420 := lineBo_ok (List.all_eq_true.mp lgl_all y h)
end HT
namespace HT
open PySem L2 TL
theorem lgl_330 : ∀ y ∈ lgl7, y.length ≤ 330 := fun y hy => of_decide_eq_true (List.all_eq_true.mp (show (lgl7.all fun y => decide (y.length ≤ 330)) = true by decide +kernel) y hy)
end HT
namespace HT
open PySem L2 TL
def spLSpoil : Sp := fun vs H Q _ => ∃ (a c : Addr) (t k : Nat) (L W : Addr) (ls ws : List Str), vs = [.ref a, .ref L, .ref W] ∧ Src H a c t ∧ t + 10 < 2 ^ 30 ∧ k ≤ 10 ∧ H L = some (.lst (ls.map V.str)) ∧ ls ≠ [] ∧ ls.length ≤ 600 ∧ (∀ y ∈ ls, LnS k y) ∧ L ≠ a ∧ L ≠ c ∧ H W = some (.lst (ws.map V.str)) ∧ W ≠ a ∧ W ≠ c ∧ ws.length ≤ 100 ∧ (∀ x ∈ ws, WordS x) ∧
  ∀ (R : Addr) (H' : Hp) (zs : List Str) (t' : Nat), H R = none → R ≠ a → R ≠ c → H' R = some (.lst (zs.map V.str)) → zs ≠ [] → zs.length ≤ ls.length + 1 → (∀ y ∈ zs, LnS (k + 1) y) → t' ≤ t + 6 → Src H' a c t' → Oth a c H H' → Q (.ref R) H'
theorem pcl0 {X : Cx} {x : Str} {k j : Nat} {ps : List Str} {sp : Sp} {f : Addr} {fd : FuncData} {p pos : Pos} (C : Cal X.prog X.w X.K X.mg X.base x k ps sp f fd) (hr : Room j X.A) (hj : k ≤ j) (hg : Gl X x) (hdb : (x == ("__debug__" : Str)) = false := by decide) : PE X (.Call (.Name x p) [] [] pos) (tCall sp [] E0 tNil) :=
  pe_call0 C.ok (hr.mono hj) hg C.gl C.kp C.bd .nil pass0 hdb
theorem oth_same {a c : Addr} {H H' : Hp} (s : Same H H') : Oth a c H H' := fun b u z _ _ => s b u z
section
variable {P : Program} {w : World} {K : PySem.W.Frag} {mg : Str → Option Value} {base : Heap} {fD fP fO : Addr} {dD dP dO : FuncData}
theorem ok_L_spoiled {f : Addr} {fd : FuncData} (F : Fun K "_law_spoiled" "_law_spoiled" s_L_spoiled f fd) (T : LwT mg) (B : Blt mg) (D : Cal P w K mg base "_law_draw" 1 ["_law_source_here", "_law_limit"] spDraw fD dD) (Pk : Cal P w K mg base "_law_pick" 2 ["_law_source_here", "_law_values"] spPick fP dP) (Ot : Cal P w K mg base "_law_others" 1 [] spOthers fO dO) : FnOk P w K mg base CX0 3 f fd ["_law_source_here", "_law_lines", "_law_words"] spLSpoil := by
  refine F.ok sc_L_spoiled (fun vs H Q E h => ?_) (fun cdv A outer s0 H vs Q E hr h => ?_)
  · obtain ⟨a, c, t, k, L, W, ls, ws, rfl, _⟩ := h
    rfl
  · obtain ⟨a, c, t, k, L, W, ls, ws, rfl, S0, ht, k10, hL, lne, ll, lok, La, Lc, hW, Wa, Wc, wl1, wok, q⟩ := h
    have nd := sc_L_spoiled.nd
    refine ⟨_, (pss_cons (ps_mid (ps_set (i := 3) nd rfl (Or.inl rfl) (pcl D hr (by decide) (by rfl) (pa_cons (pv 0) (pa_cons (pe_callB call_len_seq (by rfl) T.len PySem.boot_len (pa_cons (pv 1) pa_nil)) pa_nil)))))
      (pss_cons (ps_mid (ps_set (i := 4) nd rfl (Or.inl rfl) (pcl D hr (by decide) (by rfl) (pa_cons (pv 0) (pa_cons pe_int pa_nil)))))
      (pss_cons (ps_mid (ps_setLc (i := 6) (own := [("_law_word", 5)]) (g := gName 5) rfl nd rfl rfl (sw_true rfl rfl rfl (by decide +kernel)) (pi_list (pe_bm PySem.F.plainAttrs_str PySem.F.slot_str_split PySem.F.type_str_split mt_split (pe_ix ix_list (pv 1) (pv 3) (fun _ _ => rfl)) (pa_cons pe_str pa_nil))) (blkOk_by (N := ["_law_source_here", "_law_lines", "_law_words", "_law_at", "_law_door", "_law_word", "_law_here", "_law_place", "_law_middle", "_law_line"]) (sc := defScope s_L_spoiled) (by decide +kernel)) (fun _ _ _ _ _ => pg_name (i := 5) nd rfl (Or.inl rfl)) (fun _ _ _ _ _ => (pts_one (pt_cmpR op_ne (pv 5) pe_str (nomark _)))) (fun _ _ _ _ _ => (pv 5))))
      (pss_cons (ps_if (pt_cmpR op_eq (pv 4) pe_int (nomark _)) (pss_one (ps_ret (pe_op op_cat (pe_op op_cat (pe_slice sl_list (pv 1) po_none (po_some (pv 3))) (pe_slice sl_list (pv 1) (po_some (pe_op op_add (pv 3) pe_int)) po_none)) (pe_lst (pa_cons pe_str pa_nil))))) pss_nil)
      (pss_cons (ps_if (pt_cmpR op_eq (pv 4) pe_int (nomark _)) (pss_one (ps_ret (pe_op op_cat (pe_op op_cat (pe_slice sl_list (pv 1) po_none (po_some (pv 3))) (pe_lst (pa_cons (pe_ix ix_list (pv 1) (pv 3) (fun _ _ => rfl)) pa_nil))) (pe_slice sl_list (pv 1) (po_some (pv 3)) po_none)))) pss_nil)
      (pss_cons (ps_if (pt_cmpR op_eq (pv 4) pe_int (nomark _)) (pss_one (ps_ret (pe_revL (pv 1)))) pss_nil)
      (pss_cons (ps_if (PW.pt (pw_or (pt_cmpR op_eq (pv 4) pe_int (nomark _)) (pw_or1 (pt_cmpR (op_eqD hr.units) (pv 6) (pe_lst pa_nil) (nomark _))))) (pss_one (ps_ret (pe_op op_cat (pe_op op_cat (pe_slice sl_list (pv 1) po_none (po_some (pv 3))) (pe_lst (pa_cons (pcl Pk hr (by decide) (by rfl) (pa_cons (pv 0) (pa_cons (pcl0 Ot hr (by decide) (by rfl)) pa_nil))) pa_nil))) (pe_slice sl_list (pv 1) (po_some (pv 3)) po_none)))) pss_nil)
      (pss_cons (ps_mid (ps_set (i := 7) nd rfl (Or.inl rfl) (pcl D hr (by decide) (by rfl) (pa_cons (pv 0) (pa_cons (pe_callB call_len_seq (by rfl) T.len PySem.boot_len (pa_cons (pv 6) pa_nil)) pa_nil)))))
      (pss_cons (ps_mid (ps_set (i := 5) nd rfl (Or.inl rfl) (pcl Pk hr (by decide) (by rfl) (pa_cons (pv 0) (pa_cons (pe_op op_cat (pv 2) (pv 6)) pa_nil)))))
      (pss_cons (ps_mid (ps_set (i := 8) nd rfl (Or.inl rfl) (pe_ix ix_list (pe_lst (pa_cons (pe_lst pa_nil) (pa_cons (pe_lst (pa_cons (pv 5) pa_nil)) (pa_cons (pe_lst (pa_cons (pv 5) (pa_cons (pe_ix ix_list (pv 6) (pv 7) (fun _ _ => rfl)) pa_nil))) (pa_cons (pe_lst (pa_cons (pe_ix ix_list (pv 6) (pv 7) (fun _ _ => rfl)) (pa_cons (pv 5) pa_nil))) pa_nil))))) (pe_op op_sub (pv 4) pe_int) (fun _ _ => rfl))))
      (pss_cons (ps_mid (ps_set (i := 9) nd rfl (Or.inl rfl) (pe_bm PySem.F.plainAttrs_str PySem.F.slot_str_join PySem.F.type_str_join mt_join pe_str (pa_cons (pe_op op_cat (pe_op op_cat (pe_slice sl_list (pv 6) po_none (po_some (pv 7))) (pv 8)) (pe_slice sl_list (pv 6) (po_some (pe_op op_add (pv 7) pe_int)) po_none)) pa_nil))))
      (pss_one (ps_ret (pe_op op_cat (pe_op op_cat (pe_slice sl_list (pv 1) po_none (po_some (pv 3))) (pe_lst (pa_cons (pv 9) pa_nil))) (pe_slice sl_list (pv 1) (po_some (pe_op op_add (pv 3) pe_int)) po_none))))))))))))))), ?_⟩
    have lpos : 0 < ls.length := List.length_pos_iff.mpr lne
    refine ⟨fun st Hz => ∃ p : Nat, st = [some (.ref a), some (.ref L), some (.ref W), some (.int (p : Int)), none, none, none, none, none, none] ∧ p < ls.length ∧ Src Hz a c (t + 1) ∧ Oth a c H Hz, ?_, ?_⟩
    · walk_at "rd"
      refine ⟨L, _, rfl, .inl (SqL.of hL), ?_⟩
      rw [List.length_map]
      walk_at "rd"
      refine ⟨a, c, t, _, rfl, S0, by omega, by omega, lg_small (by omega) (by omega), fun kk H1 k0 k1 S1 O1 => ?_⟩
      obtain ⟨p, rfl⟩ := Int.eq_ofNat_of_zero_le k0
      exact ⟨p, rfl, by omega, S1, O1⟩
    rintro st H1 ⟨p, rfl, pl, S1, O1⟩
    refine ⟨fun st Hz => ∃ d : Nat, st = [some (.ref a), some (.ref L), some (.ref W), some (.int (p : Int)), some (.int (d : Int)), none, none, none, none, none] ∧ d < 8 ∧ Src Hz a c (t + 2) ∧ Oth a c H Hz, ?_, ?_⟩
    · walk_at "rd"
      refine ⟨a, c, t + 1, 8, rfl, S1, by omega, by decide, lg_small (by decide) (by decide), fun kk H2 k0 k1 S2 O2 => ?_⟩
      obtain ⟨d, rfl⟩ := Int.eq_ofNat_of_zero_le k0
      exact ⟨d, rfl, by omega, S2, O1.trans O2⟩
    rintro st H2 ⟨d, rfl, d8, S2, O2⟩
    obtain ⟨y, ey⟩ : ∃ y, ls[p]? = some y := ⟨_, List.getElem?_eq_getElem pl⟩
    have ymem := List.mem_of_getElem? ey
    have yS := lok y ymem
    have hL2 := O2 _ _ hL La Lc
    have ep : (ls.map V.str)[p]? = some (.str y) := by rw [List.getElem?_map, ey]; rfl
    refine ⟨fun st Hz => ∃ Wd : Addr, st = [some (.ref a), some (.ref L), some (.ref W), some (.int (p : Int)), some (.int (d : Int)), none, some (.ref Wd), none, none, none] ∧ Hz Wd = some (.lst ((wordsOfL y).map V.str)) ∧ Wd ≠ a ∧ Wd ≠ c ∧ Src Hz a c (t + 2) ∧ Oth a c H Hz, ?_, ?_⟩
    · walk_at "rd"
      refine ⟨L, _, _, .str y, rfl, rfl, SqL.of hL2, at_nat (k := p) ep, ?_⟩
      walk_at "rd"
      refine ⟨rfl, ?_⟩
      walk_at "rd"
      refine ⟨by decide +kernel, Nat.le_trans (by have := yS.len; omega : y.length + 2 ≤ 16000002) (by decide), fun S nS => ?_⟩
      generalize e8 : upd H2 S _ = H8
      have g8 : H8 S = some (.lst ((Txt.split y (Str.ofString " ")).map V.str)) := by rw [← e8]; exact upd_same
      have s8 : Same H2 H8 := by rw [← e8]; exact fun b u y => (upd_ne (ne_of_none y nS)).trans y
      clear e8
      refine ⟨S, rfl, ⟨_, SqL.of g8⟩, fun Wd nW => ?_⟩
      refine lc_it (walk_list (K := K) (a := S) (xs := (Txt.split y (Str.ofString " ")).map V.str)) (fun j H9 => H9 Wd = some (.lst ((((Txt.split y (Str.ofString " ")).take j).filter fun z => decide (z ≠ ("" : Str))).map V.str)) ∧ Same H8 H9) ⟨upd_same, fun b u z => (upd_ne (ne_of_none z nW)).trans z⟩ (fun _ _ _ ⟨_, s3⟩ => SqL.of (s3 _ _ g8)) ?_ ?_
      · rintro j yy H9 HA hj ⟨hW, s9⟩ ⟨rfl, eyy⟩
        rw [List.getElem?_map] at eyy
        obtain ⟨wd, ew, rfl⟩ := Option.map_eq_some_iff.mp eyy
        rw [List.length_map] at hj
        refine ⟨rfl, ?_⟩
        walk_at "rd"
        refine ⟨rfl, _, rfl, ?_⟩
        have tk : (((Txt.split y (Str.ofString " ")).take (j + 1)).filter fun z => decide (z ≠ ("" : Str))) = (((Txt.split y (Str.ofString " ")).take j).filter fun z => decide (z ≠ ("" : Str))) ++ (if wd = ("" : Str) then [] else [wd]) := by
          rw [List.take_succ, ew, List.filter_append]
          congr 1
          show List.filter _ [wd] = _
          by_cases e : wd = ("" : Str)
          · rw [List.filter_cons, if_neg (by simp [e]), if_pos e]
            rfl
          · rw [List.filter_cons, if_pos (by simp [e]), if_neg e]
            rfl
        refine ite2 (fun b => ?_) (fun b => ?_)
        · have e : ¬ wd = ("" : Str) := fun e => by rw [e] at b; exact absurd b (by decide +kernel)
          walk_at "rd"
          refine ⟨_, hW, ?_, ?_, fun b u z => (upd_ne (ne_of_none z nW)).trans (s9 _ _ z)⟩
          · rw [List.length_map]
            refine Nat.lt_of_le_of_lt (List.length_filter_le _ _) ?_
            rw [List.length_take]
            have pz : (Txt.split y (Str.ofString " ")).length ≤ y.length + 1 := parts_len y
            have := yS.len
            exact Nat.lt_of_le_of_lt (by omega : _ ≤ 1000000) (by decide)
          · rw [tk, if_neg e, List.map_append]
            exact upd_same
        · have e : wd = ("" : Str) := by
            by_cases e : wd = ("" : Str)
            · exact e
            · exact absurd (by rw [decide_eq_false fun z => e (V.str.inj z)]; rfl) b
          rw [tk, if_pos e, List.append_nil]
          exact ⟨hW, s9⟩
      rintro H9 ⟨hW, s9⟩
      rw [List.length_map, List.take_length] at hW
      obtain ⟨na, nc⟩ := (S2.of_same s8).na nW
      exact ⟨Wd, rfl, hW, na, nc, (S2.of_same s8).of_same s9, O2.trans ((oth_same s8).trans (oth_same s9))⟩
    rintro st H3 ⟨Wd, rfl, hWd, Wda, Wdc, S3, O3⟩
    have hL3 := O3 _ _ hL La Lc
    have hW3 := O3 _ _ hW Wa Wc
    have wS : ∀ x ∈ wordsOfL y, WordS x := fun x hx => yS.word hx
    have wn := yS.n
    generalize wordsOfL y = vs at hWd wS wn
    have subT : ∀ j, ∀ z ∈ ls.take j, LnS (k + 1) z := fun j z hz => (lok z (List.mem_of_mem_take hz)).up
    have subD : ∀ j, ∀ z ∈ ls.drop j, LnS (k + 1) z := fun j z hz => (lok z (List.mem_of_mem_drop hz)).up
    -- a result, at a heap Hz that only holds more
    have done : ∀ (R : Addr) (Hz : Hp) (zs : List Str) (t' : Nat) (Hy : Hp), Src Hy a c t' → Oth a c H Hy → Hy R = none → Same Hy Hz → Hz R = some (.lst (zs.map V.str)) → zs ≠ [] → zs.length ≤ ls.length + 1 → (∀ y ∈ zs, LnS (k + 1) y) → t' ≤ t + 6 → Q (.ref R) Hz := fun R Hz zs t' Hy Sy Oy nR s g z1 z2 z3 z4 => by
      obtain ⟨na, nc⟩ := Sy.na nR
      refine q R Hz zs t' ?_ na nc g z1 z2 z3 z4 (Sy.of_same s) (Oy.trans (oth_same s))
      cases hh : H R with
      | none => rfl
      | some u => rw [Oy _ _ hh na nc] at nR; cases nR
    walk_at "rd"
    refine ⟨rfl, _, rfl, ?_⟩
    refine ite2 (fun hd0 => ?_) (fun hd0 => ?_)
    · walk_at "rd"
      refine ⟨L, _, rfl, SqL.of hL3, fun x1 nx1 => ?_⟩
      generalize ex1 : upd H3 x1 _ = H4
      have gx1 : H4 x1 = some (.lst (((ls).take p).map V.str)) := by rw [← ex1]; rw [upd_same, cutV_to _ p (by rw [List.length_map]; omega), List.map_take]
      have sx1 : Same H3 H4 := by rw [← ex1]; exact fun b u z => (upd_ne (ne_of_none z nx1)).trans z
      clear ex1
      walk_at "rd"
      refine ⟨L, _, rfl, SqL.of (sx1 _ _ hL3), fun x2 nx2 => ?_⟩
      generalize ex2 : upd H4 x2 _ = H5
      have gx2 : H5 x2 = some (.lst (((ls).drop (p + 1)).map V.str)) := by rw [← ex2]; rw [upd_same, List.map_drop]; exact congrArg (fun z => some (HO.lst z)) (cut_anyN ((ls).map V.str) (p + 1))
      have sx2 : Same H4 H5 := by rw [← ex2]; exact fun b u z => (upd_ne (ne_of_none z nx2)).trans z
      clear ex2
      refine ⟨x1, x2, _, _, rfl, rfl, (sx2 _ _ gx1), gx2, (by simp only [List.length_map, List.length_append, List.length_take, List.length_drop, List.length_cons, List.length_nil]; exact Nat.le_trans (by omega : _ ≤ 1000) (by decide)), fun x3 nx3 => ?_⟩
      generalize ex3 : upd H5 x3 _ = H6
      have gx3 : H6 x3 = some (.lst ((ls.take p ++ ls.drop (p + 1)).map V.str)) := by rw [← ex3, upd_same]; simp only [List.map_append, List.map_cons, List.map_nil]
      have sx3 : Same H5 H6 := by rw [← ex3]; exact fun b u z => (upd_ne (ne_of_none z nx3)).trans z
      clear ex3
      walk_at "rd"
      refine ⟨(by show 1 ≤ sizeLine; decide), fun x4 nx4 => ?_⟩
      generalize ex4 : upd H6 x4 _ = H7
      have gx4 : H7 x4 = some (.lst ([.str ""])) := by rw [← ex4]; exact upd_same
      have sx4 : Same H6 H7 := by rw [← ex4]; exact fun b u z => (upd_ne (ne_of_none z nx4)).trans z
      clear ex4
      refine ⟨x3, x4, _, _, rfl, rfl, (sx4 _ _ gx3), gx4, (by simp only [List.length_map, List.length_append, List.length_take, List.length_drop, List.length_cons, List.length_nil]; exact Nat.le_trans (by omega : _ ≤ 1000) (by decide)), fun x5 nx5 => ?_⟩
      generalize ex5 : upd H7 x5 _ = H8
      have gx5 : H8 x5 = some (.lst (((ls.take p ++ ls.drop (p + 1)) ++ [("" : Str)]).map V.str)) := by rw [← ex5, upd_same]; simp only [List.map_append, List.map_cons, List.map_nil]
      have sx5 : Same H7 H8 := by rw [← ex5]; exact fun b u z => (upd_ne (ne_of_none z nx5)).trans z
      clear ex5
      have s37 := sx1.trans (sx2.trans (sx3.trans sx4))
      refine done x5 H8 ((ls.take p ++ ls.drop (p + 1)) ++ [("" : Str)]) (t + 2) H7 (S3.of_same s37) (O3.trans (oth_same s37)) nx5 sx5 gx5 (by simp) (by simp only [List.length_append, List.length_take, List.length_drop, List.length_cons, List.length_nil]; omega) (fun z hz => ?_) (by omega)
      rcases List.mem_append.mp hz with hz | hz
      · rcases List.mem_append.mp hz with hz | hz
        · exact subT _ z hz
        · exact subD _ z hz
      · rw [List.mem_singleton.mp hz]
        exact empty_S.mono (by omega)
    walk_at "rd"
    refine ⟨rfl, _, rfl, ?_⟩
    refine ite2 (fun hd1 => ?_) (fun hd1 => ?_)
    · walk_at "rd"
      refine ⟨L, _, rfl, SqL.of hL3, fun x1 nx1 => ?_⟩
      generalize ex1 : upd H3 x1 _ = H4
      have gx1 : H4 x1 = some (.lst (((ls).take p).map V.str)) := by rw [← ex1]; rw [upd_same, cutV_to _ p (by rw [List.length_map]; omega), List.map_take]
      have sx1 : Same H3 H4 := by rw [← ex1]; exact fun b u z => (upd_ne (ne_of_none z nx1)).trans z
      clear ex1
      walk_at "rd"
      refine ⟨L, _, _, .str y, rfl, rfl, SqL.of (sx1 _ _ hL3), at_nat (k := p) ep, ?_⟩
      walk_at "rd"
      refine ⟨(by show 1 ≤ sizeLine; decide), fun x2 nx2 => ?_⟩
      generalize ex2 : upd H4 x2 _ = H5
      have gx2 : H5 x2 = some (.lst ([.str y])) := by rw [← ex2]; exact upd_same
      have sx2 : Same H4 H5 := by rw [← ex2]; exact fun b u z => (upd_ne (ne_of_none z nx2)).trans z
      clear ex2
      refine ⟨x1, x2, _, _, rfl, rfl, (sx2 _ _ gx1), gx2, (by simp only [List.length_map, List.length_append, List.length_take, List.length_drop, List.length_cons, List.length_nil]; exact Nat.le_trans (by omega : _ ≤ 1000) (by decide)), fun x3 nx3 => ?_⟩
      generalize ex3 : upd H5 x3 _ = H6
      have gx3 : H6 x3 = some (.lst ((ls.take p ++ [y]).map V.str)) := by rw [← ex3, upd_same]; simp only [List.map_append, List.map_cons, List.map_nil]
      have sx3 : Same H5 H6 := by rw [← ex3]; exact fun b u z => (upd_ne (ne_of_none z nx3)).trans z
      clear ex3
      walk_at "rd"
      refine ⟨L, _, rfl, SqL.of (sx3 _ _ (sx2 _ _ (sx1 _ _ hL3))), fun x4 nx4 => ?_⟩
      generalize ex4 : upd H6 x4 _ = H7
      have gx4 : H7 x4 = some (.lst (((ls).drop (p)).map V.str)) := by rw [← ex4]; rw [upd_same, List.map_drop]; exact congrArg (fun z => some (HO.lst z)) (cut_anyN ((ls).map V.str) (p))
      have sx4 : Same H6 H7 := by rw [← ex4]; exact fun b u z => (upd_ne (ne_of_none z nx4)).trans z
      clear ex4
      refine ⟨x3, x4, _, _, rfl, rfl, (sx4 _ _ gx3), gx4, (by simp only [List.length_map, List.length_append, List.length_take, List.length_drop, List.length_cons, List.length_nil]; exact Nat.le_trans (by omega : _ ≤ 1000) (by decide)), fun x5 nx5 => ?_⟩
      generalize ex5 : upd H7 x5 _ = H8
      have gx5 : H8 x5 = some (.lst (((ls.take p ++ [y]) ++ ls.drop p).map V.str)) := by rw [← ex5, upd_same]; simp only [List.map_append, List.map_cons, List.map_nil]
      have sx5 : Same H7 H8 := by rw [← ex5]; exact fun b u z => (upd_ne (ne_of_none z nx5)).trans z
      clear ex5
      have s37 := sx1.trans (sx2.trans (sx3.trans sx4))
      refine done x5 H8 ((ls.take p ++ [y]) ++ ls.drop p) (t + 2) H7 (S3.of_same s37) (O3.trans (oth_same s37)) nx5 sx5 gx5 (by simp) (by simp only [List.length_append, List.length_take, List.length_drop, List.length_cons, List.length_nil]; omega) (fun z hz => ?_) (by omega)
      rcases List.mem_append.mp hz with hz | hz
      · rcases List.mem_append.mp hz with hz | hz
        · exact subT _ z hz
        · rw [List.mem_singleton.mp hz]
          exact yS.up
      · exact subD _ z hz
    walk_at "rd"
    refine ⟨rfl, _, rfl, ?_⟩
    refine ite2 (fun hd2 => ?_) (fun hd2 => ?_)
    · walk_at "rd"
      refine ⟨L, _, rfl, SqL.of hL3, fun x1 nx1 => ?_⟩
      generalize ex1 : upd H3 x1 _ = H4
      have gx1 : H4 x1 = some (.lst (ls.reverse.map V.str)) := by rw [← ex1]; rw [upd_same, List.map_reverse]
      have sx1 : Same H3 H4 := by rw [← ex1]; exact fun b u z => (upd_ne (ne_of_none z nx1)).trans z
      clear ex1
      refine done x1 H4 ls.reverse (t + 2) H3 S3 O3 nx1 sx1 gx1 (by simpa using lne) (by rw [List.length_reverse]; omega) (fun z hz => ?_) (by omega)
      exact (lok z (List.mem_reverse.mp hz)).up
    have n0 : ¬ d = 0 := fun e => hd0 (decide_eq_true (by rw [e]; rfl))
    have n1 : ¬ d = 1 := fun e => hd1 (decide_eq_true (by rw [e]; rfl))
    have n2 : ¬ d = 2 := fun e => hd2 (decide_eq_true (by rw [e]; rfl))
    walk_at "rd"
    refine ⟨rfl, _, rfl, ?_⟩
    refine ite2 (fun hd3 => ?_) (fun hd3 => ?_)
    · walk_at "rd"
      refine ⟨L, _, rfl, SqL.of hL3, fun x1 nx1 => ?_⟩
      generalize ex1 : upd H3 x1 _ = H4
      have gx1 : H4 x1 = some (.lst (((ls).take p).map V.str)) := by rw [← ex1]; rw [upd_same, cutV_to _ p (by rw [List.length_map]; omega), List.map_take]
      have sx1 : Same H3 H4 := by rw [← ex1]; exact fun b u z => (upd_ne (ne_of_none z nx1)).trans z
      clear ex1
      walk_at "rd"
      refine ⟨rfl, fun x2 H5 nx2 sx2 gx2 => ?_⟩
      obtain ⟨oa, oc⟩ := (S3.of_same sx1).na nx2
      walk_at "rd"
      refine ⟨a, c, t + 2, x2, _, rfl, (S3.of_same sx1).of_same sx2, by omega, gx2, oa, oc, (by rw [List.length_map]; decide +kernel), (by rw [List.length_map]; decide +kernel), fun v H6 hv S6 O6 => ?_⟩
      obtain ⟨o, ho, rfl⟩ := List.mem_map.mp hv
      have O36 : Oth a c H H6 := O3.trans ((oth_same (sx1.trans sx2)).trans O6)
      obtain ⟨xa, xc⟩ := S3.na nx1
      have gx1' := O6 _ _ (sx2 _ _ gx1) xa xc
      have hL6 := O36 _ _ hL La Lc
      walk_at "rd"
      refine ⟨(by show 1 ≤ sizeLine; decide), fun x3 nx3 => ?_⟩
      generalize ex3 : upd H6 x3 _ = H7
      have gx3 : H7 x3 = some (.lst ([.str o])) := by rw [← ex3]; exact upd_same
      have sx3 : Same H6 H7 := by rw [← ex3]; exact fun b u z => (upd_ne (ne_of_none z nx3)).trans z
      clear ex3
      refine ⟨x1, x3, _, _, rfl, rfl, (sx3 _ _ gx1'), gx3, (by simp only [List.length_map, List.length_append, List.length_take, List.length_drop, List.length_cons, List.length_nil]; exact Nat.le_trans (by omega : _ ≤ 1000) (by decide)), fun x4 nx4 => ?_⟩
      generalize ex4 : upd H7 x4 _ = H8
      have gx4 : H8 x4 = some (.lst ((ls.take p ++ [o]).map V.str)) := by rw [← ex4, upd_same]; simp only [List.map_append, List.map_cons, List.map_nil]
      have sx4 : Same H7 H8 := by rw [← ex4]; exact fun b u z => (upd_ne (ne_of_none z nx4)).trans z
      clear ex4
      walk_at "rd"
      refine ⟨L, _, rfl, SqL.of (sx4 _ _ (sx3 _ _ hL6)), fun x5 nx5 => ?_⟩
      generalize ex5 : upd H8 x5 _ = H9
      have gx5 : H9 x5 = some (.lst (((ls).drop (p)).map V.str)) := by rw [← ex5]; rw [upd_same, List.map_drop]; exact congrArg (fun z => some (HO.lst z)) (cut_anyN ((ls).map V.str) (p))
      have sx5 : Same H8 H9 := by rw [← ex5]; exact fun b u z => (upd_ne (ne_of_none z nx5)).trans z
      clear ex5
      refine ⟨x4, x5, _, _, rfl, rfl, (sx5 _ _ gx4), gx5, (by simp only [List.length_map, List.length_append, List.length_take, List.length_drop, List.length_cons, List.length_nil]; exact Nat.le_trans (by omega : _ ≤ 1000) (by decide)), fun x6 nx6 => ?_⟩
      generalize ex6 : upd H9 x6 _ = HA
      have gx6 : HA x6 = some (.lst (((ls.take p ++ [o]) ++ ls.drop p).map V.str)) := by rw [← ex6, upd_same]; simp only [List.map_append, List.map_cons, List.map_nil]
      have sx6 : Same H9 HA := by rw [← ex6]; exact fun b u z => (upd_ne (ne_of_none z nx6)).trans z
      clear ex6
      have s37 := sx3.trans (sx4.trans sx5)
      refine done x6 HA ((ls.take p ++ [o]) ++ ls.drop p) (t + 3) H9 (S6.of_same s37) (O36.trans (oth_same s37)) nx6 sx6 gx6 (by simp) (by simp only [List.length_append, List.length_take, List.length_drop, List.length_cons, List.length_nil]; omega) (fun z hz => ?_) (by omega)
      rcases List.mem_append.mp hz with hz | hz
      · rcases List.mem_append.mp hz with hz | hz
        · exact subT _ z hz
        · rw [List.mem_singleton.mp hz]
          exact (oth_line ho).1.mono (by omega)
      · exact subD _ z hz
    have n3 : ¬ d = 3 := fun e => hd3 (decide_eq_true (by rw [e]; rfl))
    walk_at "rd"
    refine ⟨(by show 0 ≤ sizeLine; decide), fun b1 nb1 => ?_⟩
    generalize eb1 : upd H3 b1 _ = Hb
    have gb1 : Hb b1 = some (.lst ([])) := by rw [← eb1]; exact upd_same
    have sb1 : Same H3 Hb := by rw [← eb1]; exact fun b u z => (upd_ne (ne_of_none z nb1)).trans z
    clear eb1
    have Sb := S3.of_same sb1
    have Ob : Oth a c H Hb := O3.trans (oth_same sb1)
    have hLb := sb1 _ _ hL3
    have hWb := sb1 _ _ hW3
    have hWdb := sb1 _ _ hWd
    have shv := words_shaped (ws := vs) fun x hx => (wS x hx).ok
    refine ⟨_, _, .lst (SqL.of hWdb) (dp_words vs), .lst (SqL.of gb1) .nil, shv, by decide +kernel, ?_⟩
    have ev1 : PyData.eqv (.list (vs.map PyData.str)) (.list []) = decide (vs = []) := eqv_words vs []
    rw [ev1]
    refine ⟨_, rfl, ?_⟩
    refine ite2 (fun hv0 => ?_) (fun hv0 => ?_)
    · walk_at "rd"
      refine ⟨L, _, rfl, SqL.of hLb, fun x1 nx1 => ?_⟩
      generalize ex1 : upd Hb x1 _ = H4
      have gx1 : H4 x1 = some (.lst (((ls).take p).map V.str)) := by rw [← ex1]; rw [upd_same, cutV_to _ p (by rw [List.length_map]; omega), List.map_take]
      have sx1 : Same Hb H4 := by rw [← ex1]; exact fun b u z => (upd_ne (ne_of_none z nx1)).trans z
      clear ex1
      walk_at "rd"
      refine ⟨rfl, fun x2 H5 nx2 sx2 gx2 => ?_⟩
      obtain ⟨oa, oc⟩ := (Sb.of_same sx1).na nx2
      walk_at "rd"
      refine ⟨a, c, t + 2, x2, _, rfl, (Sb.of_same sx1).of_same sx2, by omega, gx2, oa, oc, (by rw [List.length_map]; decide +kernel), (by rw [List.length_map]; decide +kernel), fun v H6 hv S6 O6 => ?_⟩
      obtain ⟨o, ho, rfl⟩ := List.mem_map.mp hv
      have O36 : Oth a c H H6 := Ob.trans ((oth_same (sx1.trans sx2)).trans O6)
      obtain ⟨xa, xc⟩ := Sb.na nx1
      have gx1' := O6 _ _ (sx2 _ _ gx1) xa xc
      have hL6 := O36 _ _ hL La Lc
      walk_at "rd"
      refine ⟨(by show 1 ≤ sizeLine; decide), fun x3 nx3 => ?_⟩
      generalize ex3 : upd H6 x3 _ = H7
      have gx3 : H7 x3 = some (.lst ([.str o])) := by rw [← ex3]; exact upd_same
      have sx3 : Same H6 H7 := by rw [← ex3]; exact fun b u z => (upd_ne (ne_of_none z nx3)).trans z
      clear ex3
      refine ⟨x1, x3, _, _, rfl, rfl, (sx3 _ _ gx1'), gx3, (by simp only [List.length_map, List.length_append, List.length_take, List.length_drop, List.length_cons, List.length_nil]; exact Nat.le_trans (by omega : _ ≤ 1000) (by decide)), fun x4 nx4 => ?_⟩
      generalize ex4 : upd H7 x4 _ = H8
      have gx4 : H8 x4 = some (.lst ((ls.take p ++ [o]).map V.str)) := by rw [← ex4, upd_same]; simp only [List.map_append, List.map_cons, List.map_nil]
      have sx4 : Same H7 H8 := by rw [← ex4]; exact fun b u z => (upd_ne (ne_of_none z nx4)).trans z
      clear ex4
      walk_at "rd"
      refine ⟨L, _, rfl, SqL.of (sx4 _ _ (sx3 _ _ hL6)), fun x5 nx5 => ?_⟩
      generalize ex5 : upd H8 x5 _ = H9
      have gx5 : H9 x5 = some (.lst (((ls).drop (p)).map V.str)) := by rw [← ex5]; rw [upd_same, List.map_drop]; exact congrArg (fun z => some (HO.lst z)) (cut_anyN ((ls).map V.str) (p))
      have sx5 : Same H8 H9 := by rw [← ex5]; exact fun b u z => (upd_ne (ne_of_none z nx5)).trans z
      clear ex5
      refine ⟨x4, x5, _, _, rfl, rfl, (sx5 _ _ gx4), gx5, (by simp only [List.length_map, List.length_append, List.length_take, List.length_drop, List.length_cons, List.length_nil]; exact Nat.le_trans (by omega : _ ≤ 1000) (by decide)), fun x6 nx6 => ?_⟩
      generalize ex6 : upd H9 x6 _ = HA
      have gx6 : HA x6 = some (.lst (((ls.take p ++ [o]) ++ ls.drop p).map V.str)) := by rw [← ex6, upd_same]; simp only [List.map_append, List.map_cons, List.map_nil]
      have sx6 : Same H9 HA := by rw [← ex6]; exact fun b u z => (upd_ne (ne_of_none z nx6)).trans z
      clear ex6
      have s37 := sx3.trans (sx4.trans sx5)
      refine done x6 HA ((ls.take p ++ [o]) ++ ls.drop p) (t + 3) H9 (S6.of_same s37) (O36.trans (oth_same s37)) nx6 sx6 gx6 (by simp) (by simp only [List.length_append, List.length_take, List.length_drop, List.length_cons, List.length_nil]; omega) (fun z hz => ?_) (by omega)
      rcases List.mem_append.mp hz with hz | hz
      · rcases List.mem_append.mp hz with hz | hz
        · exact subT _ z hz
        · rw [List.mem_singleton.mp hz]
          exact (oth_line ho).1.mono (by omega)
      · exact subD _ z hz
    have vne : vs ≠ [] := fun e => hv0 (decide_eq_true e)
    have vpos : 0 < vs.length := List.length_pos_iff.mpr vne
    refine ⟨fun st Hz => ∃ q' : Nat, st = [some (.ref a), some (.ref L), some (.ref W), some (.int (p : Int)), some (.int (d : Int)), none, some (.ref Wd), some (.int (q' : Int)), none, none] ∧ q' < vs.length ∧ Src Hz a c (t + 3) ∧ Oth a c Hb Hz, ?_, ?_⟩
    · walk_at "rd"
      refine ⟨Wd, _, rfl, .inl (SqL.of hWdb), ?_⟩
      rw [List.length_map]
      walk_at "rd"
      refine ⟨a, c, t + 2, _, rfl, Sb, by omega, by omega, lg_small (by omega) (by omega), fun kk H5 k0 k1 S5 O5 => ?_⟩
      obtain ⟨q', rfl⟩ := Int.eq_ofNat_of_zero_le k0
      exact ⟨q', rfl, by omega, S5, O5⟩
    rintro st H5 ⟨q', rfl, ql, S5, O5⟩
    have hW5 := O5 _ _ hWb Wa Wc
    have hWd5 := O5 _ _ hWdb Wda Wdc
    obtain ⟨v, ev⟩ : ∃ v, vs[q']? = some v := ⟨_, List.getElem?_eq_getElem ql⟩
    have vS := wS v (List.mem_of_getElem? ev)
    have evV : (vs.map V.str)[q']? = some (.str v) := by rw [List.getElem?_map, ev]; rfl
    refine ⟨fun st Hz => ∃ x : Str, st = [some (.ref a), some (.ref L), some (.ref W), some (.int (p : Int)), some (.int (d : Int)), some (.str x), some (.ref Wd), some (.int (q' : Int)), none, none] ∧ WordS x ∧ Src Hz a c (t + 4) ∧ Oth a c Hb Hz, ?_, ?_⟩
    · walk_at "rd"
      refine ⟨W, Wd, _, _, rfl, rfl, hW5, hWd5, (by rw [List.length_map, List.length_map]; exact Nat.le_trans (by omega : _ ≤ 1000) (by decide)), fun x1 nx1 => ?_⟩
      generalize ex1 : upd H5 x1 _ = H6
      have gx1 : H6 x1 = some (.lst ((ws ++ vs).map V.str)) := by rw [← ex1, upd_same]; simp only [List.map_append, List.map_cons, List.map_nil]
      have sx1 : Same H5 H6 := by rw [← ex1]; exact fun b u z => (upd_ne (ne_of_none z nx1)).trans z
      clear ex1
      obtain ⟨xa, xc⟩ := S5.na nx1
      walk_at "rd"
      refine ⟨a, c, t + 3, x1, _, rfl, S5.of_same sx1, by omega, gx1, xa, xc, (by rw [List.length_map, List.length_append]; omega), (by rw [List.length_map, List.length_append]; exact Nat.lt_of_le_of_lt (by omega : _ ≤ 1000) (by decide)), fun u H7 hu S7 O7 => ?_⟩
      obtain ⟨x, hx, rfl⟩ := List.mem_map.mp hu
      exact ⟨x, rfl, (List.mem_append.mp hx).elim (wok x) (wS x), S7, O5.trans ((oth_same sx1).trans O7)⟩
    rintro st H7 ⟨x, rfl, xS, S7, O7⟩
    have hWd7 := O7 _ _ hWdb Wda Wdc
    refine ⟨fun st Hz => ∃ (md : Addr) (ms : List Str), st = [some (.ref a), some (.ref L), some (.ref W), some (.int (p : Int)), some (.int (d : Int)), some (.str x), some (.ref Wd), some (.int (q' : Int)), some (.ref md), none] ∧ Hz md = some (.lst (ms.map V.str)) ∧ ms.length ≤ 2 ∧ (∀ z ∈ ms, WordS z) ∧ md ≠ a ∧ md ≠ c ∧ Src Hz a c (t + 4) ∧ Oth a c Hb Hz, ?_, ?_⟩
    · skip
      walk_at "rd"
      refine ⟨(by show 0 ≤ sizeLine; decide), fun m1 nm1 => ?_⟩
      generalize em1 : upd H7 m1 _ = H8
      have gm1 : H8 m1 = some (.lst ([])) := by rw [← em1]; exact upd_same
      have sm1 : Same H7 H8 := by rw [← em1]; exact fun b u z => (upd_ne (ne_of_none z nm1)).trans z
      clear em1
      walk_at "rd"
      refine ⟨(by show 1 ≤ sizeLine; decide), fun m2 nm2 => ?_⟩
      generalize em2 : upd H8 m2 _ = H9
      have gm2 : H9 m2 = some (.lst ([.str x])) := by rw [← em2]; exact upd_same
      have sm2 : Same H8 H9 := by rw [← em2]; exact fun b u z => (upd_ne (ne_of_none z nm2)).trans z
      clear em2
      walk_at "rd"
      refine ⟨Wd, _, _, .str v, rfl, rfl, SqL.of (sm2 _ _ (sm1 _ _ hWd7)), at_nat (k := q') evV, ?_⟩
      walk_at "rd"
      refine ⟨(by show 2 ≤ sizeLine; decide), fun m3 nm3 => ?_⟩
      generalize em3 : upd H9 m3 _ = HA
      have gm3 : HA m3 = some (.lst ([.str x, .str v])) := by rw [← em3]; exact upd_same
      have sm3 : Same H9 HA := by rw [← em3]; exact fun b u z => (upd_ne (ne_of_none z nm3)).trans z
      clear em3
      walk_at "rd"
      refine ⟨Wd, _, _, .str v, rfl, rfl, SqL.of (sm3 _ _ (sm2 _ _ (sm1 _ _ hWd7))), at_nat (k := q') evV, ?_⟩
      walk_at "rd"
      refine ⟨(by show 2 ≤ sizeLine; decide), fun m4 nm4 => ?_⟩
      generalize em4 : upd HA m4 _ = HB
      have gm4 : HB m4 = some (.lst ([.str v, .str x])) := by rw [← em4]; exact upd_same
      have sm4 : Same HA HB := by rw [← em4]; exact fun b u z => (upd_ne (ne_of_none z nm4)).trans z
      clear em4
      walk_at "rd"
      refine ⟨(by show 4 ≤ sizeLine; decide), fun m5 nm5 => ?_⟩
      generalize em5 : upd HB m5 _ = HC
      have gm5 : HC m5 = some (.lst ([.ref m1, .ref m2, .ref m3, .ref m4])) := by rw [← em5]; exact upd_same
      have sm5 : Same HB HC := by rw [← em5]; exact fun b u z => (upd_ne (ne_of_none z nm5)).trans z
      clear em5
      walk_at "rd"
      have s7C := sm1.trans (sm2.trans (sm3.trans (sm4.trans sm5)))
      have SC := S7.of_same s7C
      have OC := O7.trans (oth_same s7C)
      obtain ⟨a1, c1⟩ := S7.na nm1
      obtain ⟨a2, c2⟩ := (S7.of_same sm1).na nm2
      obtain ⟨a3, c3⟩ := (S7.of_same (sm1.trans sm2)).na nm3
      obtain ⟨a4, c4⟩ := (S7.of_same (sm1.trans (sm2.trans sm3))).na nm4
      have r1 := sm5 _ _ (sm4 _ _ (sm3 _ _ (sm2 _ _ gm1)))
      have r2 := sm5 _ _ (sm4 _ _ (sm3 _ _ gm2))
      have r3 := sm5 _ _ (sm4 _ _ gm3)
      have r4 := sm5 _ _ gm4
      have d4 : d = 4 ∨ d = 5 ∨ d = 6 ∨ d = 7 := by omega
      have one : ∀ z ∈ [x], WordS z := fun z hz => by rw [List.mem_singleton.mp hz]; exact xS
      have two : ∀ u w, WordS u → WordS w → ∀ z ∈ [u, w], WordS z := fun u w hu hw z hz => by
        simp only [List.mem_cons, List.not_mem_nil, or_false] at hz
        rcases hz with rfl | rfl
        · exact hu
        · exact hw
      rcases d4 with rfl | rfl | rfl | rfl
      · refine ⟨m5, _, _, .ref m1, rfl, rfl, SqL.of gm5, at_nat (k := 0) rfl, ?_⟩
        exact ⟨m1, [], rfl, r1, by simp, (fun z hz => by cases hz), a1, c1, SC, OC⟩
      · refine ⟨m5, _, _, .ref m2, rfl, rfl, SqL.of gm5, at_nat (k := 1) rfl, ?_⟩
        exact ⟨m2, [x], rfl, r2, by simp, one, a2, c2, SC, OC⟩
      · refine ⟨m5, _, _, .ref m3, rfl, rfl, SqL.of gm5, at_nat (k := 2) rfl, ?_⟩
        exact ⟨m3, [x, v], rfl, r3, by simp, two x v xS vS, a3, c3, SC, OC⟩
      · refine ⟨m5, _, _, .ref m4, rfl, rfl, SqL.of gm5, at_nat (k := 3) rfl, ?_⟩
        exact ⟨m4, [v, x], rfl, r4, by simp, two v x vS xS, a4, c4, SC, OC⟩
    rintro st H8 ⟨md, ms, rfl, hmd, ml, msS, mda, mdc, S8, O8⟩
    have hWd8 := O8 _ _ hWdb Wda Wdc
    refine ⟨fun st Hz => ∃ z : Str, st = [some (.ref a), some (.ref L), some (.ref W), some (.int (p : Int)), some (.int (d : Int)), some (.str x), some (.ref Wd), some (.int (q' : Int)), some (.ref md), some (.str z)] ∧ LnS (k + 1) z ∧ Src Hz a c (t + 4) ∧ Oth a c Hb Hz, ?_, ?_⟩
    · skip
      walk_at "rd"
      refine ⟨rfl, ?_⟩
      walk_at "rd"
      refine ⟨Wd, _, rfl, SqL.of hWd8, fun x1 nx1 => ?_⟩
      generalize ex1 : upd H8 x1 _ = H9
      have gx1 : H9 x1 = some (.lst (((vs).take q').map V.str)) := by rw [← ex1]; rw [upd_same, cutV_to _ q' (by rw [List.length_map]; omega), List.map_take]
      have sx1 : Same H8 H9 := by rw [← ex1]; exact fun b u z => (upd_ne (ne_of_none z nx1)).trans z
      clear ex1
      walk_at "rd"
      refine ⟨x1, md, _, _, rfl, rfl, gx1, (sx1 _ _ hmd), (by simp only [List.length_map, List.length_append, List.length_take, List.length_drop, List.length_cons, List.length_nil]; exact Nat.le_trans (by omega : _ ≤ 1000) (by decide)), fun x2 nx2 => ?_⟩
      generalize ex2 : upd H9 x2 _ = HA
      have gx2 : HA x2 = some (.lst ((vs.take q' ++ ms).map V.str)) := by rw [← ex2, upd_same]; simp only [List.map_append, List.map_cons, List.map_nil]
      have sx2 : Same H9 HA := by rw [← ex2]; exact fun b u z => (upd_ne (ne_of_none z nx2)).trans z
      clear ex2
      walk_at "rd"
      refine ⟨Wd, _, rfl, SqL.of (sx2 _ _ (sx1 _ _ hWd8)), fun x3 nx3 => ?_⟩
      generalize ex3 : upd HA x3 _ = HB
      have gx3 : HB x3 = some (.lst (((vs).drop (q' + 1)).map V.str)) := by rw [← ex3]; rw [upd_same, List.map_drop]; exact congrArg (fun z => some (HO.lst z)) (cut_anyN ((vs).map V.str) (q' + 1))
      have sx3 : Same HA HB := by rw [← ex3]; exact fun b u z => (upd_ne (ne_of_none z nx3)).trans z
      clear ex3
      refine ⟨x2, x3, _, _, rfl, rfl, (sx3 _ _ gx2), gx3, (by simp only [List.length_map, List.length_append, List.length_take, List.length_drop, List.length_cons, List.length_nil]; exact Nat.le_trans (by omega : _ ≤ 1000) (by decide)), fun x4 nx4 => ?_⟩
      generalize ex4 : upd HB x4 _ = HC
      have gx4 : HC x4 = some (.lst (((vs.take q' ++ ms) ++ vs.drop (q' + 1)).map V.str)) := by rw [← ex4, upd_same]; simp only [List.map_append, List.map_cons, List.map_nil]
      have sx4 : Same HB HC := by rw [← ex4]; exact fun b u z => (upd_ne (ne_of_none z nx4)).trans z
      clear ex4
      walk_at "rd"
      have zsS : ∀ z ∈ (vs.take q' ++ ms) ++ vs.drop (q' + 1), WordS z := fun z hz => by
        rcases List.mem_append.mp hz with hz | hz
        · rcases List.mem_append.mp hz with hz | hz
          · exact wS z (List.mem_of_mem_take hz)
          · exact msS z hz
        · exact wS z (List.mem_of_mem_drop hz)
      have zl : ((vs.take q' ++ ms) ++ vs.drop (q' + 1)).length ≤ 20 + (k + 1) := by
        simp only [List.length_append, List.length_take, List.length_drop]
        omega
      generalize (vs.take q' ++ ms) ++ vs.drop (q' + 1) = zs at zsS zl gx4
      refine ⟨Str.ofString " ", x4, zs, rfl, rfl, .inl (SqL.of gx4), ?_, ?_⟩
      · have b := StrLaws.sumLen_le (B := 510) zs fun y hy => (zsS y hy).le
        have : zs.length * 510 ≤ 31 * 510 := Nat.mul_le_mul_right _ (by omega)
        have e1 : (Str.ofString " ").length = 1 := by decide +kernel
        rw [e1]
        omega
      have s8C := sx1.trans (sx2.trans (sx3.trans sx4))
      exact ⟨_, rfl, join_S zsS zl (by omega), S8.of_same s8C, O8.trans (oth_same s8C)⟩
    rintro st H9 ⟨z, rfl, zS, S9, O9⟩
    have hL9 := O9 _ _ hLb La Lc
    walk_at "rd"
    refine ⟨L, _, rfl, SqL.of hL9, fun x1 nx1 => ?_⟩
    generalize ex1 : upd H9 x1 _ = HA
    have gx1 : HA x1 = some (.lst (((ls).take p).map V.str)) := by rw [← ex1]; rw [upd_same, cutV_to _ p (by rw [List.length_map]; omega), List.map_take]
    have sx1 : Same H9 HA := by rw [← ex1]; exact fun b u z => (upd_ne (ne_of_none z nx1)).trans z
    clear ex1
    walk_at "rd"
    refine ⟨(by show 1 ≤ sizeLine; decide), fun x2 nx2 => ?_⟩
    generalize ex2 : upd HA x2 _ = HB
    have gx2 : HB x2 = some (.lst ([.str z])) := by rw [← ex2]; exact upd_same
    have sx2 : Same HA HB := by rw [← ex2]; exact fun b u z => (upd_ne (ne_of_none z nx2)).trans z
    clear ex2
    refine ⟨x1, x2, _, _, rfl, rfl, (sx2 _ _ gx1), gx2, (by simp only [List.length_map, List.length_append, List.length_take, List.length_drop, List.length_cons, List.length_nil]; exact Nat.le_trans (by omega : _ ≤ 1000) (by decide)), fun x3 nx3 => ?_⟩
    generalize ex3 : upd HB x3 _ = HC
    have gx3 : HC x3 = some (.lst ((ls.take p ++ [z]).map V.str)) := by rw [← ex3, upd_same]; simp only [List.map_append, List.map_cons, List.map_nil]
    have sx3 : Same HB HC := by rw [← ex3]; exact fun b u z => (upd_ne (ne_of_none z nx3)).trans z
    clear ex3
    walk_at "rd"
    refine ⟨L, _, rfl, SqL.of (sx3 _ _ (sx2 _ _ (sx1 _ _ hL9))), fun x4 nx4 => ?_⟩
    generalize ex4 : upd HC x4 _ = HD
    have gx4 : HD x4 = some (.lst (((ls).drop (p + 1)).map V.str)) := by rw [← ex4]; rw [upd_same, List.map_drop]; exact congrArg (fun z => some (HO.lst z)) (cut_anyN ((ls).map V.str) (p + 1))
    have sx4 : Same HC HD := by rw [← ex4]; exact fun b u z => (upd_ne (ne_of_none z nx4)).trans z
    clear ex4
    refine ⟨x3, x4, _, _, rfl, rfl, (sx4 _ _ gx3), gx4, (by simp only [List.length_map, List.length_append, List.length_take, List.length_drop, List.length_cons, List.length_nil]; exact Nat.le_trans (by omega : _ ≤ 1000) (by decide)), fun x5 nx5 => ?_⟩
    generalize ex5 : upd HD x5 _ = HE
    have gx5 : HE x5 = some (.lst (((ls.take p ++ [z]) ++ ls.drop (p + 1)).map V.str)) := by rw [← ex5, upd_same]; simp only [List.map_append, List.map_cons, List.map_nil]
    have sx5 : Same HD HE := by rw [← ex5]; exact fun b u z => (upd_ne (ne_of_none z nx5)).trans z
    clear ex5
    have s37 := sx1.trans (sx2.trans (sx3.trans sx4))
    refine done x5 HE ((ls.take p ++ [z]) ++ ls.drop (p + 1)) (t + 4) HD (S9.of_same s37) ((Ob.trans O9).trans (oth_same s37)) nx5 sx5 gx5 (by simp) (by simp only [List.length_append, List.length_take, List.length_drop, List.length_cons, List.length_nil]; omega) (fun z hz => ?_) (by omega)
    rcases List.mem_append.mp hz with hz | hz
    · rcases List.mem_append.mp hz with hz | hz
      · exact subT _ _ hz
      · rw [List.mem_singleton.mp hz]
        exact zS
    · exact subD _ _ hz
end
end HT
namespace HT
open PySem L2 TL
def Ent.strs : Ent → List Str
  | .side n _ _ m _ => [n, m]
  | .set n ns => n :: ns
  | .log n g ls => n :: g :: (ls.flatMap fun l => [l.1, l.2])
abbrev LayS (xs : List Str) : Prop := ∀ x ∈ xs, PyData.canLay0 (.str x) = true
theorem lay_entX {e : Ent} (h : LayS e.strs) : PyData.canLay0 (entD e) = true ∧ PyData.depth (entD e) ≤ 3 := by
  obtain ⟨kS, kT, kL⟩ := ky
  have i (z : Int) : PyData.canLay0 (.int z) = true := rfl
  cases e with
  | side n o s m pl =>
    have a := h n (by simp [Ent.strs])
    have b := h m (by simp [Ent.strs])
    refine ⟨?_, by simp [entD, PyData.depth, PyData.depthAll]⟩
    simp only [entD, PyData.canLay0, PyData.canLayAll0, Bool.and_true, Bool.true_and] at a b kS ⊢
    rw [a, b, kS]
    rfl
  | set n ns =>
    have a := h n (by simp [Ent.strs])
    obtain ⟨b, c⟩ := words_lay ns fun y hy => h y (by simp [Ent.strs, hy])
    refine ⟨?_, ?_⟩
    · simp only [entD, PyData.canLay0, PyData.canLayAll0, Bool.and_true] at a kT ⊢
      rw [a, b, kT]
      rfl
    · simp only [entD, PyData.depth, PyData.depthAll]
      omega
  | log n g ls =>
    have a := h n (by simp [Ent.strs])
    have b := h g (by simp [Ent.strs])
    obtain ⟨c, d⟩ := lay_list lineD 1 ls fun l hl => by
      have w1 := h l.1 (by simp only [Ent.strs, List.mem_cons, List.mem_flatMap]; exact .inr (.inr ⟨l, hl, by simp⟩))
      have w2 := h l.2 (by simp only [Ent.strs, List.mem_cons, List.mem_flatMap]; exact .inr (.inr ⟨l, hl, by simp⟩))
      refine ⟨?_, by simp [lineD, PyData.depth, PyData.depthAll]⟩
      simp only [lineD, PyData.canLay0, PyData.canLayAll0, Bool.and_true] at w1 w2 ⊢
      rw [w1, w2]
      rfl
    refine ⟨?_, ?_⟩
    · simp only [entD, PyData.canLay0, PyData.canLayAll0, Bool.and_true] at a b c kL ⊢
      rw [a, b, c, kL]
      rfl
    · simp only [entD, PyData.depth, PyData.depthAll]
      omega
def EsLay (es : List Ent) : Prop := ∀ e ∈ es, LayS e.strs
def OpLay : OpnS → Prop
  | none => True
  | some (n, g, ls) => LayS (Ent.log n g ls).strs
theorem EsLay.add {es : List Ent} {e : Ent} (h : EsLay es) (k : LayS e.strs) : EsLay (es ++ [e]) := fun x hx => by
  rcases List.mem_append.mp hx with hx | hx
  · exact h x hx
  · rw [List.mem_singleton.mp hx]; exact k
theorem toEnt_strs (e : RawE) : ∀ x ∈ (toEnt e).strs, x ∈ e.strs := by
  cases e <;> intro x hx <;> simpa [toEnt, Ent.strs, RawE.strs] using hx
theorem step_lay {es es' : List Ent} {o o' : OpnS} {ws : List Str} (hw : LayS ws) (he : EsLay es) (ho : OpLay o) (h : stepS es o ws = .ok (es', o')) : EsLay es' ∧ OpLay o' := by
  unfold stepS at h
  by_cases e : ws = []
  · rw [if_pos e] at h
    cases h
    exact ⟨he, ho⟩
  rw [if_neg e] at h
  cases o with
  | none =>
    have h' : (match startB es ws with | .error r => Except.error r | .ok e => Except.ok (openB es e)) = Except.ok (es', o') := h
    cases sb : startB es ws with
    | error r => rw [sb] at h'; cases h'
    | ok r =>
      rw [sb] at h'
      have ee : entryE ws = some r := by
        unfold startB at sb
        split at sb
        · cases sb
        · split at sb
          · split at sb
            · cases sb
              assumption
            · cases sb
          · cases sb
      have ls : LayS r.strs := fun x hx => hw x ((entry_facts ee).1 x hx)
      cases r with
      | side n o s m pl =>
        cases h'
        exact ⟨he.add fun x hx => ls x (toEnt_strs _ x hx), trivial⟩
      | set n ns =>
        cases h'
        exact ⟨he.add fun x hx => ls x (toEnt_strs _ x hx), trivial⟩
      | log n g =>
        cases h'
        exact ⟨he, fun x hx => ls x (by simpa [Ent.strs, RawE.strs] using hx)⟩
  | some o =>
    obtain ⟨n, g, ls⟩ := o
    have h' : (if ws = [("end" : Str)] then (if 50 < ls.length then Except.error ("value" : Str) else Except.ok (es ++ [.log n g ls], none)) else (match rowB es g ws with | .error r => Except.error r | .ok l => Except.ok (es, some (n, g, ls ++ [l])))) = Except.ok (es', o') := h
    split at h'
    · split at h'
      · cases h'
      · cases h'
        exact ⟨he.add ho, trivial⟩
    · cases rb : rowB es g ws with
      | error r => rw [rb] at h'; cases h'
      | ok r =>
        rw [rb] at h'
        cases h'
        refine ⟨he, fun x hx => ?_⟩
        have rm : r.1 ∈ ws ∧ r.2 ∈ ws := by
          unfold rowB at rb
          split at rb
          · split at rb
            · split at rb
              · cases rb
                exact ⟨by simp, by simp⟩
              · cases rb
            · cases rb
          · cases rb
        simp only [Ent.strs, List.mem_cons, List.flatMap_append, List.mem_append, List.flatMap_cons, List.flatMap_nil, List.append_nil] at hx
        rcases hx with hx | hx | hx | hx
        · exact ho x (by simp [Ent.strs, hx])
        · exact ho x (by simp [Ent.strs, hx])
        · exact ho x (by simp only [Ent.strs, List.mem_cons]; exact .inr (.inr hx))
        · simp only [List.mem_cons, List.not_mem_nil, or_false] at hx
          rcases hx with rfl | rfl
          · exact hw _ rm.1
          · exact hw _ rm.2
def reasons : List Str := ["line", "name", "value"]
theorem step_err {es : List Ent} {o : OpnS} {ws : List Str} {r : Str} (h : stepS es o ws = .error r) : r ∈ reasons := by
  have m1 : ("line" : Str) ∈ reasons := by simp [reasons]
  have m2 : ("name" : Str) ∈ reasons := by simp [reasons]
  have m3 : ("value" : Str) ∈ reasons := by simp [reasons]
  unfold stepS at h
  by_cases e : ws = []
  · rw [if_pos e] at h
    cases h
  rw [if_neg e] at h
  cases o with
  | none =>
    have h' : (match startB es ws with | .error r => Except.error r | .ok e => Except.ok (openB es e)) = Except.error r := h
    cases sb : startB es ws with
    | ok r => rw [sb] at h'; cases h'
    | error r' =>
      rw [sb] at h'
      cases h'
      unfold startB at sb
      split at sb
      · cases sb; exact m1
      · split at sb
        · split at sb
          · cases sb
          · cases sb; exact m3
        · cases sb; exact m2
  | some o =>
    obtain ⟨n, g, ls⟩ := o
    have h' : (if ws = [("end" : Str)] then (if 50 < ls.length then Except.error ("value" : Str) else Except.ok (es ++ [.log n g ls], none)) else (match rowB es g ws with | .error r => Except.error r | .ok l => Except.ok (es, some (n, g, ls ++ [l])))) = Except.error r := h
    split at h'
    · split at h'
      · cases h'; exact m3
      · cases h'
    · cases rb : rowB es g ws with
      | ok r => rw [rb] at h'; cases h'
      | error r' =>
        rw [rb] at h'
        cases h'
        unfold rowB at rb
        split at rb
        · split at rb
          · split at rb
            · cases rb
            · cases rb; exact m3
          · cases rb; exact m2
        · cases rb; exact m1
theorem run_lay : ∀ (W : List (List Str)) (i : Nat) (es : List Ent) (o : OpnS), (∀ ws ∈ W, LayS ws) → EsLay es → OpLay o → (∀ r, runS W i es o = .ok r → EsLay r) ∧ ∀ j r, runS W i es o = .error (j, r) → r ∈ reasons
  | [], i, es, o, _, he, ho => by
    cases o with
    | none => exact ⟨fun r h => by cases h; exact he, fun j r h => by cases h⟩
    | some o => exact ⟨fun r h => (by cases h), fun j r h => by cases h; simp [reasons]⟩
  | ws :: W, i, es, o, hW, he, ho => by
    have u : runS (ws :: W) i es o = (match stepS es o ws with | .error r => .error (i, r) | .ok (es', o') => runS W (i + 1) es' o') := rfl
    rw [u]
    cases st : stepS es o ws with
    | error r => exact ⟨fun r h => (by cases h), fun j r h => by cases h; exact step_err st⟩
    | ok q =>
      obtain ⟨es', o'⟩ := q
      obtain ⟨a, b⟩ := step_lay (hW ws List.mem_cons_self) he ho st
      exact run_lay W (i + 1) es' o' (fun x hx => hW x (List.mem_cons_of_mem _ hx)) a b
/-- what is told of a text, as data -/
def dataZ (z : Str) : PyData := match runS (linesOf z) 0 [] none with
  | .ok es => .tuple [.str "right", papD es]
  | .error (i, r) => .tuple [.int (i : Int), .str r]
def dataN : PyData := .tuple [.int 0, .str "text"]
theorem shaped_of {d : PyData} (a : PyData.canLay0 d = true) (b : PyData.depth d ≤ 64) : SeqAt.shaped d = true := by
  show (PyData.canLay0 d && decide (PyData.depth d ≤ 64)) = true
  rw [a, decide_eq_true b]
  rfl
theorem dataZ_shaped {z : Str} (TP : TextP z) : SeqAt.shaped (dataZ z) = true := by
  obtain ⟨a, b⟩ := run_lay (linesOf z) 0 [] none (fun ws hws => by
    obtain ⟨y, hy, rfl⟩ := List.mem_map.mp hws
    exact (TP.y y hy).2.2.ok) (fun e he => by cases he) trivial
  unfold dataZ
  cases rn : runS (linesOf z) 0 [] none with
  | ok es =>
    have el := a es rn
    obtain ⟨c, d⟩ := lay_list entD 3 es fun e he => lay_entX (el e he)
    have kr : PyData.canLay0 (.str ("right" : Str)) = true := by decide +kernel
    refine shaped_of ?_ ?_
    · simp only [papD, PyData.canLay0, PyData.canLayAll0, Bool.and_true] at kr ⊢
      rw [kr, c]
      rfl
    · simp only [papD, PyData.depth, PyData.depthAll]
      omega
  | error q =>
    obtain ⟨i, r⟩ := q
    have kr : PyData.canLay0 (.str r) = true := by
      have m := b i r rn
      simp only [reasons, List.mem_cons, List.not_mem_nil, or_false] at m
      rcases m with rfl | rfl | rfl <;> decide +kernel
    refine shaped_of ?_ (by simp [PyData.depth, PyData.depthAll])
    simp only [PyData.canLay0, PyData.canLayAll0, Bool.and_true, Bool.true_and] at kr ⊢
    exact kr
theorem dataN_shaped : SeqAt.shaped dataN = true := by decide +kernel
theorem due_go {K : PySem.W.Frag} {z : Str} {H : Hp} {Q : VK} {E : XK} (TP : TextP z) (k : ∀ (v : V) (H' : Hp), Same H H' → Dp K H' v (dataZ z) → Q v H') : spLDue [.str z] H Q E := by
  refine ⟨.str z, rfl, .inr ⟨z, rfl, TP, fun es rn p le H' s hp at_ => ?_, fun i r rn p H' s hp => ?_⟩⟩
  · refine k _ _ s ?_
    unfold dataZ
    rw [rn]
    exact .tup (SqT.of hp) (.cons (.str _) (.cons (dp_pap at_) .nil))
  · refine k _ _ s ?_
    unfold dataZ
    rw [rn]
    exact .tup (SqT.of hp) (.cons (.int _) (.cons (.str _) .nil))
theorem due_no {K : PySem.W.Frag} {x : V} {n : String} {H : Hp} {Q : VK} {E : XK} (t : Th H x n) (hn : (n == "str") = false) (k : ∀ (v : V) (H' : Hp), Same H H' → Dp K H' v dataN → Q v H') : spLDue [x] H Q E := by
  refine ⟨x, rfl, .inl ⟨n, t, hn, fun p H' s hp => k _ _ s ?_⟩⟩
  exact .tup (SqT.of hp) (.cons (.int _) (.cons (.str _) .nil))
end HT
namespace HT
open PySem L2 TL
abbrev lgP : Str := Str.ofString "side x 5 up places "
abbrev lgO : Str := Txt.mul (Str.ofString "1") 4400
theorem tl_lgO : tl lgO = List.replicate 4400 49 := tl_mul1 (show tl (Str.ofString "1") = [49] by decide +kernel) 4400
theorem lgO_len : lgO.length = 4400 := by rw [len_tl, tl_lgO, List.length_replicate]
theorem lgP_len : lgP.length = 19 := by decide +kernel
theorem lg_words : wordsOfL (lgP ++ lgO) = [("side" : Str), "x", "5", "up", "places", lgO] := by
  refine map_tl_inj ?_
  rw [words_wl, tl_append]
  have e : tl lgP = tl ("side" : Str) ++ ([32] ++ (tl ("x" : Str) ++ ([32] ++ (tl ("5" : Str) ++ ([32] ++ (tl ("up" : Str) ++ ([32] ++ (tl ("places" : Str) ++ [32])))))))) := by decide +kernel
  have j : tl lgP ++ tl lgO = joinL [32] ([("side" : Str), "x", "5", "up", "places", lgO].map tl) := by
    rw [e]
    simp only [List.append_assoc]
    rfl
  rw [j]
  have := wl_body 0 0 ([("side" : Str), "x", "5", "up", "places", lgO].map tl) fun p hp => by
    obtain ⟨x, hx, rfl⟩ := List.mem_map.mp hp
    simp only [List.mem_cons, List.not_mem_nil, or_false] at hx
    rcases hx with rfl | rfl | rfl | rfl | rfl | rfl
    · decide +kernel
    · decide +kernel
    · decide +kernel
    · decide +kernel
    · decide +kernel
    · rw [tl_lgO]
      refine ⟨fun z => ?_, fun z => ?_⟩
      · exact absurd (List.eq_of_mem_replicate z) (by decide)
      · have := congrArg List.length z
        rw [List.length_replicate] at this
        cases this
  rwa [show List.replicate 0 32 = ([] : List Nat) from rfl, List.append_nil] at this
theorem lg_lay : PyData.canLay0 (.str (lgP ++ lgO)) = true := lay_iff.mpr fun c hc => by
  rw [tl_append, tl_lgO] at hc
  rcases List.mem_append.mp hc with hc | hc
  · exact lay_iff.mp (show PyData.canLay0 (.str lgP) = true by decide +kernel) c hc
  · rw [List.eq_of_mem_replicate hc]; decide
theorem lg_nl : 10 ∉ tl (lgP ++ lgO) := fun z => by
  rw [tl_append, tl_lgO] at z
  rcases List.mem_append.mp z with z | z
  · exact absurd z (by decide +kernel)
  · exact absurd (List.eq_of_mem_replicate z) (by decide)
theorem lg_line : LnOk (lgP ++ lgO) := by
  refine ⟨by rw [Str.length_append, lgO_len, lgP_len]; decide, fun x hx => ?_, fun h => ?_, lg_lay⟩
  · rw [lg_words] at hx
    simp only [List.mem_cons, List.not_mem_nil, or_false] at hx
    rcases hx with rfl | rfl | rfl | rfl | rfl | rfl
    · decide +kernel
    · decide +kernel
    · decide +kernel
    · decide +kernel
    · decide +kernel
    · rw [lgO_len]; decide
  · rw [lg_words] at h
    cases h
theorem lg_one : TextP (lgP ++ lgO) := by
  have e : Txt.join "\n" [lgP ++ lgO] = lgP ++ lgO := ext_tl (by rw [TL.join_eq, TL.tl_join, tl_nl]; rfl)
  rw [← e]
  exact textP_join (by simp) (fun y hy => by rw [List.mem_singleton.mp hy]; exact lg_nl) (fun y hy => by rw [List.mem_singleton.mp hy]; exact lg_line) (by simp)
def bgL : List Str := ["side usd 5 half_up places 2", "side eur 7 up places 0", "set pair usd eur usd"]
theorem bgL_ok : (bgL.all fun y => lineBo (tl y)) = true := by decide +kernel
theorem bg_line {y : Str} (h : y ∈ bgL) : LnS 0 y := (lineBo_ok (List.all_eq_true.mp bgL_ok y h)).1
theorem bg_tl (R : List Nat) : tl (Str.ofString "side usd 5 half_up places 2\nside eur 7 up places 0\nset pair usd eur usd\n") ++ R = joinL [10] (bgL.map tl ++ [R]) := by
  have e : tl (Str.ofString "side usd 5 half_up places 2\nside eur 7 up places 0\nset pair usd eur usd\n") = tl ("side usd 5 half_up places 2" : Str) ++ ([10] ++ (tl ("side eur 7 up places 0" : Str) ++ ([10] ++ (tl ("set pair usd eur usd" : Str) ++ [10])))) := by decide +kernel
  rw [e]
  simp only [List.append_assoc]
  rfl
theorem bg_more (R S : List Nat) : joinL [10] (bgL.map tl ++ [R, S]) = joinL [10] (bgL.map tl ++ [R ++ ([10] ++ S)]) := by
  show joinL [10] (_ :: _ :: _ :: [R, S]) = joinL [10] (_ :: _ :: _ :: [R ++ ([10] ++ S)])
  rfl
abbrev bgT : Str := Str.ofString "side usd 5 half_up places 2\nside eur 7 up places 0\nset pair usd eur usd\n"
theorem sy_line : LnS 0 (Str.ofString "side y") := (lineBo_ok (show lineBo (tl (Str.ofString "side y")) = true by decide +kernel)).1
theorem lg_two : TextP ((bgT ++ (lgP ++ lgO)) ++ Str.ofString "\nside y") := by
  have e : Txt.join "\n" (bgL ++ [lgP ++ lgO, Str.ofString "side y"]) = (bgT ++ (lgP ++ lgO)) ++ Str.ofString "\nside y" := by
    refine ext_tl ?_
    rw [TL.join_eq, TL.tl_join, tl_nl, tl_append, tl_append, List.append_assoc, bg_tl]
    have y : tl (Str.ofString "\nside y") = [10] ++ tl (Str.ofString "side y") := by decide +kernel
    rw [y, List.map_append]
    show joinL [10] (bgL.map tl ++ [tl (lgP ++ lgO), tl (Str.ofString "side y")]) = _
    generalize tl (lgP ++ lgO) = R
    generalize tl (Str.ofString "side y") = S
    exact bg_more _ _
  rw [← e]
  have mem : ∀ x ∈ bgL ++ [lgP ++ lgO, Str.ofString "side y"], x ∈ bgL ∨ x = lgP ++ lgO ∨ x = Str.ofString "side y" := fun x hx => by
    rcases List.mem_append.mp hx with hx | hx
    · exact .inl hx
    · simpa using Or.inr hx
  refine textP_join (by simp) (fun x hx => ?_) (fun x hx => ?_) (by rw [List.length_append]; show 3 + 2 ≤ 600; decide)
  · rcases mem x hx with h | rfl | rfl
    · exact (bg_line h).nl
    · exact lg_nl
    · exact sy_line.nl
  · rcases mem x hx with h | rfl | rfl
    · exact (bg_line h).ln
    · exact lg_line
    · exact sy_line.ln
theorem lg_mul : PySem.MulOk (Str.ofString "1") 4400 := PyProof.Rows.mulOk_of 1 4400 (by decide +kernel) (by decide) (by decide) (by decide) (by decide)
theorem lg_facts {o : Str} (e : Txt.mul (Str.ofString "1") 4400 = o) : (lgP.length + o.length ≤ sizeLine) ∧ TextP (lgP ++ o) ∧ TextP ((bgT ++ (lgP ++ o)) ++ Str.ofString "\nside y") ∧ (lgP ++ o).length ≤ 4500 := by
  have k : o.length = 4400 := Eq.subst (motive := fun o : Str => o.length = 4400) e lgO_len
  refine ⟨?_, Eq.subst (motive := fun o : Str => TextP (lgP ++ o)) e lg_one, Eq.subst (motive := fun o : Str => TextP ((bgT ++ (lgP ++ o)) ++ Str.ofString "\nside y")) e lg_two, ?_⟩
  · rw [k, lgP_len]
    decide
  · rw [Str.length_append, k, lgP_len]
    decide
theorem row_mul {m : Nat} (h : m ≤ 60) : PySem.MulOk (Str.ofString "usd 5.00\n") (m : Int) := PyProof.Rows.mulOk_of 9 60 (by decide +kernel) (by omega) (by omega) (by decide) (by decide)
theorem row_len {m : Nat} (h : m ≤ 60) : (Txt.mul (Str.ofString "usd 5.00\n") (m : Int)).length ≤ 600 := Nat.le_trans (PyProof.Rows.len_mul_leN (L := 9) (N := 60) (by decide +kernel) (by omega)) (by decide)
def rowsL (m : Nat) : List Str := bgL ++ (("log x pair" : Str) :: (List.replicate m ("usd 5.00" : Str) ++ [("end" : Str)]))
theorem rows_ok : ([("log x pair" : Str), "usd 5.00", "end"].all fun y => lineBo (tl y)) = true := by decide +kernel
theorem rows_line {m : Nat} {y : Str} (h : y ∈ rowsL m) : LnS 0 y := by
  rcases List.mem_append.mp h with h | h
  · exact bg_line h
  · have m3 : y ∈ [("log x pair" : Str), "usd 5.00", "end"] := by
      rcases List.mem_cons.mp h with h | h
      · rw [h]; simp
      · rcases List.mem_append.mp h with h | h
        · rw [List.eq_of_mem_replicate h]; simp
        · rw [List.mem_singleton.mp h]; simp
    exact (lineBo_ok (List.all_eq_true.mp rows_ok y m3)).1
theorem foldl_reps (c : Array Nat) : ∀ (k : Nat) (acc : Array Nat), ((List.replicate k c).foldl (· ++ ·) acc).toList = acc.toList ++ (List.replicate k c.toList).flatten
  | 0, acc => by simp
  | k + 1, acc => by
    rw [List.replicate_succ, List.foldl_cons, foldl_reps c k]
    simp [List.replicate_succ]
theorem tl_mulN (x : Str) (n : Nat) : tl (Txt.mul x (n : Int)) = (List.replicate n (tl x)).flatten := by
  unfold Txt.mul
  by_cases h1 : (n : Int) < 1
  · rw [if_pos h1]
    have e : n = 0 := by omega
    rw [e]; rfl
  · rw [if_neg h1]
    by_cases h2 : ((n : Int) == 1 || x.length == 0) = true
    · rw [if_pos h2]
      rcases Bool.or_eq_true_iff.mp h2 with h | h
      · have e : n = 1 := by have := eq_of_beq h; omega
        rw [e]; simp
      · have e : tl x = [] := List.eq_nil_of_length_eq_zero (by rw [← len_tl]; exact eq_of_beq h)
        rw [e]
        simp
    · rw [if_neg h2]
      show ((List.replicate (n : Int).toNat x.cps).foldl (· ++ ·) #[]).toList = _
      rw [foldl_reps, Int.toNat_natCast]
      rfl
theorem joinL_cons (s p : List Nat) : ∀ {r : List (List Nat)}, r ≠ [] → joinL s (p :: r) = p ++ (s ++ joinL s r)
  | [], h => absurd rfl h
  | _ :: _, _ => rfl
theorem rep_join (u e : List Nat) : ∀ m : Nat, (List.replicate m (u ++ [10])).flatten ++ e = joinL [10] (List.replicate m u ++ [e])
  | 0 => rfl
  | m + 1 => by
    rw [List.replicate_succ, List.replicate_succ, List.flatten_cons, List.append_assoc, List.append_assoc, rep_join u e m]
    show _ = joinL [10] (u :: (List.replicate m u ++ [e]))
    rw [joinL_cons [10] u (r := List.replicate m u ++ [e]) (by simp)]
theorem rows_tl (m : Nat) : tl (((bgT ++ Str.ofString "log x pair\n") ++ Txt.mul (Str.ofString "usd 5.00\n") (m : Int)) ++ Str.ofString "end") = joinL [10] ((rowsL m).map tl) := by
  have e1 : tl (Str.ofString "log x pair\n") = tl ("log x pair" : Str) ++ [10] := by decide +kernel
  have e2 : tl (Str.ofString "usd 5.00\n") = tl ("usd 5.00" : Str) ++ [10] := by decide +kernel
  have e3 : tl (Str.ofString "end") = tl ("end" : Str) := by decide +kernel
  rw [tl_append, tl_append, tl_append, tl_mulN, e1, e2, e3, List.append_assoc, List.append_assoc, rep_join]
  have j : joinL [10] ((rowsL m).map tl) = joinL [10] (bgL.map tl ++ [joinL [10] (tl ("log x pair" : Str) :: (List.replicate m (tl ("usd 5.00" : Str)) ++ [tl ("end" : Str)]))]) := by
    unfold rowsL
    rw [List.map_append, List.map_cons, List.map_append, List.map_replicate]
    show joinL [10] (_ :: _ :: _ :: _ :: (_ ++ [_])) = joinL [10] (_ :: _ :: _ :: [joinL _ (_ :: _)])
    rw [joinL_cons _ _ (by simp), joinL_cons _ _ (by simp), joinL_cons _ _ (by simp)]
    rfl
  rw [j, ← bg_tl, joinL_cons _ _ (by simp)]
  simp only [List.append_assoc]
theorem rows_P {m : Nat} (h : m ≤ 60) : TextP (((bgT ++ Str.ofString "log x pair\n") ++ Txt.mul (Str.ofString "usd 5.00\n") (m : Int)) ++ Str.ofString "end") := by
  have e : Txt.join "\n" (rowsL m) = ((bgT ++ Str.ofString "log x pair\n") ++ Txt.mul (Str.ofString "usd 5.00\n") (m : Int)) ++ Str.ofString "end" := by
    refine ext_tl ?_
    rw [TL.join_eq, TL.tl_join, tl_nl]
    exact (rows_tl m).symm
  rw [← e]
  refine textP_join (by simp [rowsL]) (fun y hy => (rows_line hy).nl) (fun y hy => (rows_line hy).ln) ?_
  have : (rowsL m).length = 3 + (1 + (m + 1)) := by simp [rowsL, bgL]; omega
  omega
/-- a text of lines spoilt ten times at most -/
theorem lines_P {k : Nat} {ls : List Str} (ne : ls ≠ []) (h : ∀ y ∈ ls, LnS k y) (n : ls.length ≤ 600) : TextP (Txt.join "\n" ls) := textP_join ne (fun y hy => (h y hy).nl) (fun y hy => (h y hy).ln) n
theorem lines_sum {es : List Ent} (p : ∀ ws ∈ allW es, LineP ws) (l : (allW es).length ≤ 520) : (paperT es).length ≤ 7000000 := by
  have b := StrLaws.sumLen_le (B := 12011) (((allW es).map lineW).map (fun z => z ++ ("\n" : Str))) (fun y hy => by
    obtain ⟨z, hz, rfl⟩ := List.mem_map.mp hy
    obtain ⟨ws, hw, rfl⟩ := List.mem_map.mp hz
    have := line_len (p ws hw)
    have c : ("\n" : Str).length = 1 := by decide +kernel
    rw [Str.length_append, c]
    omega)
  have e : (Txt.join ("" : Str) (((allW es).map lineW).map (fun z => z ++ ("\n" : Str)))).length = ((((allW es).map lineW).map (fun z => z ++ ("\n" : Str))).map (·.length)).sum + ((((allW es).map lineW).map (fun z => z ++ ("\n" : Str))).length - 1) * ("" : Str).length := size_glued _ _
  unfold paperT
  have c : ("" : Str).length = 0 := by decide +kernel
  rw [e, c, Nat.mul_zero]
  rw [List.length_map, List.length_map] at b
  have : (allW es).length * 12011 ≤ 520 * 12011 := Nat.mul_le_mul_right _ l
  omega
theorem all_facts {es : List Ent} (ok : AllOk es) (l : es.length ≤ 10) : (∀ ws ∈ allW es, LineP ws) ∧ (allW es).length ≤ 520 := by
  obtain ⟨a, b⟩ := all_words es [] (fun i e h => ok i e h)
  exact ⟨b, by omega⟩
theorem paper_ls {es : List Ent} (ok : AllOk es) (l : es.length ≤ 10) : (paperT es).length + 2 ≤ sizeLine ∧ ∃ ls, Txt.split (paperT es) (Str.ofString "\n") = ls ∧ ls ≠ [] ∧ ls.length ≤ 521 ∧ ∀ y ∈ ls, LnS 0 y := by
  obtain ⟨p, al⟩ := all_facts ok l
  refine ⟨Nat.le_trans (Nat.add_le_add_right (lines_sum p al) 2) (by decide), _, paper_split p, by simp, by rw [List.length_append, List.length_map]; exact Nat.add_le_add_right al 1, fun y hy => ?_⟩
  rcases List.mem_append.mp hy with hy | hy
  · obtain ⟨ws, hw, rfl⟩ := List.mem_map.mp hy
    exact lineP_S (p ws hw)
  · rw [List.mem_singleton.mp hy]
    exact empty_S
def wordBo (l : List Nat) : Bool := (decide (l ≠ []) && decide (l.length ≤ 510)) && (!decide (32 ∈ l) && (!decide (10 ∈ l) && l.all fun c => decide (c < 0x110000)))
theorem wordBo_ok {y : Str} (h : wordBo (tl y) = true) : WordS y := by
  unfold wordBo at h
  simp only [Bool.and_eq_true, Bool.not_eq_true', decide_eq_false_iff_not, decide_eq_true_eq] at h
  obtain ⟨⟨a, b⟩, c, d, e⟩ := h
  exact ⟨a, by rw [len_tl]; exact b, c, d, lay_iff.mpr fun c hc => of_decide_eq_true (List.all_eq_true.mp e c hc)⟩
end HT
namespace HT
open PySem L2 TL
theorem eqv_self {d : PyData} (h : SeqAt.shaped d = true) : (!PyData.eqv d d) = false := by rw [SeqAt.eqv_refl _ (SeqAt.canLay_of_shaped h)]; rfl
theorem sh_ok {z : Str} (TP : TextP z) {es : List Ent} (rn : runS (linesOf z) 0 [] none = .ok es) : SeqAt.shaped (.tuple [.str ("right" : Str), papD es]) = true := by
  have h := dataZ_shaped TP
  unfold dataZ at h
  rw [rn] at h
  exact h
theorem sh_er {z : Str} (TP : TextP z) {i : Nat} {r : Str} (rn : runS (linesOf z) 0 [] none = .error (i, r)) : SeqAt.shaped (.tuple [.int (i : Int), .str r]) = true := by
  have h := dataZ_shaped TP
  unfold dataZ at h
  rw [rn] at h
  exact h
theorem lay_cat {x y : Str} (h : PyData.canLay0 (.str x) = true) (k : PyData.canLay0 (.str y) = true) : PyData.canLay0 (.str (x ++ y)) = true := lay_iff.mpr fun c hc => by
  rw [tl_append] at hc
  rcases List.mem_append.mp hc with hc | hc
  · exact lay_iff.mp h c hc
  · exact lay_iff.mp k c hc
abbrev bgS : Str := Str.ofString "side usd 5 half_up places 2\nside eur 7 up places 0\nset pair usd eur usd\n"
theorem bg_facts : bgS.length ≤ 75 ∧ PyData.canLay0 (.str bgS) = true := by decide +kernel
def lw0 : List Str := [Str.ofString "0", Str.ofString "1", Str.ofString "-1", Str.ofString "2", Str.ofString "7.00", Str.ofString "end", Str.ofString "at", Str.ofString "usd", Str.ofString "x", Str.ofString "places", Str.ofString "up", Str.ofString "down", Str.ofString "side", Str.ofString "set", Str.ofString "log"]
def lw1 : List Str := lw0 ++ [Str.ofString "0.5"]
theorem lw1_S : ∀ x ∈ lw1, WordS x := fun x hx => wordBo_ok (List.all_eq_true.mp (show (lw1.all fun y => wordBo (tl y)) = true by decide +kernel) x hx)
def spLaw (K : PySem.W.Frag) : Sp := fun vs H Q _ => ∃ (l : Addr) (ns : List Int), vs = [.ref l] ∧ SqL K H l (ns.map V.int) ∧ ns.length ≤ 63 ∧ ∀ H', Q (.bl true) H'
section
variable {P : Program} {w : World} {K : PySem.W.Frag} {mg : Str → Option Value} {base : Heap} {f1 f2 f3 f4 f5 f6 f7 f8 f9 : Addr} {d1 d2 d3 d4 d5 d6 d7 d8 d9 : FuncData}
theorem ok_law {f : Addr} {fd : FuncData} (F : Fun K "law" "law" s_law f fd) (T : LwT mg) (B : Blt mg) (So : Cal P w K mg base "_law_source" 1 ["_law_script"] (spSource K) f1 d1) (D : Cal P w K mg base "_law_draw" 1 ["_law_source_here", "_law_limit"] spDraw f2 d2) (En : Cal P w K mg base "_law_entries" 5 ["_law_source_here"] spLEnts f3 d3) (Pt : Cal P w K mg base "paper_text" 9 ["entries"] spPaper f4 d4) (Ot : Cal P w K mg base "_law_others" 1 [] spOthers f5 d5) (Lo : Cal P w K mg base "_law_log_lines" 1 [] spLogLines f6 d6) (Sl : Cal P w K mg base "_law_spoiled" 3 ["_law_source_here", "_law_lines", "_law_words"] spLSpoil f7 d7) (To : Cal P w K mg base "_law_told" 11 ["_law_text_here"] spLDue f8 d8) (Du : Cal P w K mg base "_law_due" 5 ["_law_text_here"] spLDue f9 d9) : FnOk P w K mg base CX0 12 f fd ["_law_script"] (spLaw K) := by
  refine F.ok sc_law (fun vs H Q E h => ?_) (fun cdv A outer s0 H vs Q E hr h => ?_)
  · obtain ⟨l, ns, rfl, _⟩ := h
    rfl
  · obtain ⟨l, ns, rfl, hl, nl, q⟩ := h
    have nd := sc_law.nd
    refine ⟨_, (pss_cons (ps_mid (ps_set (i := 1) nd rfl (Or.inl rfl) (pcl So hr (by decide) (by rfl) (pa_cons (pv 0) pa_nil))))
      (pss_cons (ps_mid (ps_for PassesOwn.never rfl (pi_list (pe_lst (pa_cons pe_non (pa_cons pe_int (pa_cons (pe_lst pa_nil) (pa_cons (pe_lst (pa_cons pe_str pa_nil)) (pa_cons (pe_tup pa_nil) (pa_cons pe_bl (pa_cons pe_dnewK pa_nil))))))))) (pg_name (i := 2) nd rfl (Or.inl rfl)) (pss_one (ps_if (pt_mid (pt_cmpR (op_neD hr.units) (pcl To hr (by decide) (by rfl) (pa_cons (pv 2) pa_nil)) (pcl Du hr (by decide) (by rfl) (pa_cons (pv 2) pa_nil)) (nomark _))) (pss_one (ps_ret pe_bl)) pss_nil))))
      (pss_cons (ps_mid (ps_set (i := 3) nd rfl (Or.inl rfl) pe_str))
      (pss_cons (ps_mid (ps_for PassesOwn.never rfl (pi_list (pcl0 Ot hr (by decide) (by rfl))) (pg_name (i := 4) nd rfl (Or.inl rfl)) (pss_one (ps_mid (ps_for PassesOwn.never rfl (pi_list (pe_lst (pa_cons (pv 4) (pa_cons (pe_op op_add_str (pv 3) (pv 4)) (pa_cons (pe_op op_add_str (pe_op op_add_str (pv 4) pe_str) (pv 3)) (pa_cons (pe_op op_add_str (pe_op op_add_str (pv 3) (pv 4)) pe_str) pa_nil)))))) (pg_name (i := 5) nd rfl (Or.inl rfl)) (pss_one (ps_if (pt_mid (pt_cmpR (op_neD hr.units) (pcl To hr (by decide) (by rfl) (pa_cons (pv 5) pa_nil)) (pcl Du hr (by decide) (by rfl) (pa_cons (pv 5) pa_nil)) (nomark _))) (pss_one (ps_ret pe_bl)) pss_nil)))))))
      (pss_cons (ps_mid (ps_for PassesOwn.never rfl (pi_list (pcl0 Lo hr (by decide) (by rfl))) (pg_name (i := 4) nd rfl (Or.inl rfl)) (pss_one (ps_mid (ps_for PassesOwn.never rfl (pi_list (pe_lst (pa_cons (pe_op op_add_str (pe_op op_add_str (pv 3) pe_str) (pv 4)) (pa_cons (pe_op op_add_str (pe_op op_add_str (pe_op op_add_str (pv 3) pe_str) (pv 4)) pe_str) pa_nil)))) (pg_name (i := 5) nd rfl (Or.inl rfl)) (pss_one (ps_if (pt_mid (pt_cmpR (op_neD hr.units) (pcl To hr (by decide) (by rfl) (pa_cons (pv 5) pa_nil)) (pcl Du hr (by decide) (by rfl) (pa_cons (pv 5) pa_nil)) (nomark _))) (pss_one (ps_ret pe_bl)) pss_nil)))))))
      (pss_cons (ps_mid (ps_set (i := 6) nd rfl (Or.inl rfl) (pe_op op_add_str pe_str (pe_op op_mulS pe_str pe_int))))
      (pss_cons (ps_mid (ps_for PassesOwn.never rfl (pi_list (pe_lst (pa_cons (pv 6) (pa_cons (pe_op op_add_str (pe_op op_add_str (pv 3) (pv 6)) pe_str) pa_nil)))) (pg_name (i := 5) nd rfl (Or.inl rfl)) (pss_one (ps_if (pt_mid (pt_cmpR (op_neD hr.units) (pcl To hr (by decide) (by rfl) (pa_cons (pv 5) pa_nil)) (pcl Du hr (by decide) (by rfl) (pa_cons (pv 5) pa_nil)) (nomark _))) (pss_one (ps_ret pe_bl)) pss_nil))))
      (pss_cons (ps_mid (ps_for PassesOwn.never rfl (pi_list (pe_lst (pa_cons pe_int (pa_cons pe_int pa_nil)))) (pg_name (i := 7) nd rfl (Or.inl rfl)) (pss_cons (ps_mid (ps_set (i := 5) nd rfl (Or.inl rfl) (pe_op op_add_str (pe_op op_add_str (pe_op op_add_str (pv 3) pe_str) (pe_op op_mulS pe_str (pv 7))) pe_str)))
      (pss_one (ps_if (pt_mid (pt_cmpR (op_neD hr.units) (pcl To hr (by decide) (by rfl) (pa_cons (pv 5) pa_nil)) (pcl Du hr (by decide) (by rfl) (pa_cons (pv 5) pa_nil)) (nomark _))) (pss_one (ps_ret pe_bl)) pss_nil)))))
      (pss_cons (ps_mid (ps_set (i := 8) nd rfl (Or.inl rfl) (pe_lst (pa_cons pe_str (pa_cons pe_str (pa_cons pe_str (pa_cons pe_str (pa_cons pe_str (pa_cons pe_str (pa_cons pe_str (pa_cons pe_str (pa_cons pe_str (pa_cons pe_str (pa_cons pe_str (pa_cons pe_str (pa_cons pe_str (pa_cons pe_str (pa_cons pe_str pa_nil))))))))))))))))))
      (pss_cons (ps_mid (ps_set (i := 8) nd rfl (Or.inl rfl) (pe_op op_cat (pv 8) (pe_lst (pa_cons pe_str pa_nil)))))
      (pss_cons (ps_mid (ps_for PassesOwn.never rfl (pi_range1 (by rfl) T.range (pa_cons pe_int pa_nil)) (pg_name (i := 9) nd rfl (Or.inl rfl)) (pss_cons (ps_mid (ps_set (i := 10) nd rfl (Or.inl rfl) (pe_bm PySem.F.plainAttrs_str PySem.F.slot_str_split PySem.F.type_str_split mt_split (pcl Pt hr (by decide) (by rfl) (pa_cons (pcl En hr (by decide) (by rfl) (pa_cons (pv 1) pa_nil)) pa_nil)) (pa_cons pe_str pa_nil))))
      (pss_cons (ps_mid (ps_for PassesOwn.never rfl (pi_range1 (by rfl) T.range (pa_cons (pcl D hr (by decide) (by rfl) (pa_cons (pv 1) (pa_cons pe_int pa_nil))) pa_nil)) (pg_name (i := 11) nd rfl (Or.inl rfl)) (pss_cons (ps_mid (ps_set (i := 10) nd rfl (Or.inl rfl) (pcl Sl hr (by decide) (by rfl) (pa_cons (pv 1) (pa_cons (pv 10) (pa_cons (pv 8) pa_nil))))))
      (pss_one (ps_expr (pe_bm PySem.F.plainAttrs_list PySem.F.slot_list_append PySem.F.type_list_append mt_append (pv 10) (pa_cons pe_str pa_nil)))))))
      (pss_cons (ps_mid (ps_set (i := 5) nd rfl (Or.inl rfl) (pe_bm PySem.F.plainAttrs_str PySem.F.slot_str_join PySem.F.type_str_join mt_join pe_str (pa_cons (pv 10) pa_nil))))
      (pss_one (ps_if (pt_mid (pt_cmpR (op_neD hr.units) (pcl To hr (by decide) (by rfl) (pa_cons (pv 5) pa_nil)) (pcl Du hr (by decide) (by rfl) (pa_cons (pv 5) pa_nil)) (nomark _))) (pss_one (ps_ret pe_bl)) pss_nil)))))))
      (pss_one (ps_ret pe_bl))))))))))))), ?_⟩
    refine ⟨fun st Hz => ∃ a c : Addr, st = [some (.ref l), some (.ref a), none, none, none, none, none, none, none, none, none, none] ∧ Src Hz a c 0, ?_, ?_⟩
    · walk_at "rd"
      refine ⟨l, ns, rfl, hl, nl, fun a c H1 _ _ _ S1 => ?_⟩
      exact ⟨a, c, rfl, S1⟩
    rintro st H1 ⟨a, c, rfl, S1⟩
    refine ⟨fun st Hz => ∃ x2 : Option V, st = [some (.ref l), some (.ref a), x2, none, none, none, none, none, none, none, none, none] ∧ Src Hz a c 0, ?_, ?_⟩
    · skip
      walk_at "rd"
      refine ⟨(by show 0 ≤ sizeLine; decide), fun p1 np1 => ?_⟩
      generalize ep1 : upd H1 p1 _ = H2
      have gp1 : H2 p1 = some (.lst ([])) := by rw [← ep1]; exact upd_same
      have sp1 : Same H1 H2 := by rw [← ep1]; exact fun b u z => (upd_ne (ne_of_none z np1)).trans z
      clear ep1
      walk_at "rd"
      refine ⟨(by show 1 ≤ sizeLine; decide), fun p2 np2 => ?_⟩
      generalize ep2 : upd H2 p2 _ = H3
      have gp2 : H3 p2 = some (.lst ([.str "side"])) := by rw [← ep2]; exact upd_same
      have sp2 : Same H2 H3 := by rw [← ep2]; exact fun b u z => (upd_ne (ne_of_none z np2)).trans z
      clear ep2
      walk_at "rd"
      refine ⟨(by show 0 ≤ sizeLine; decide), fun p3 np3 => ?_⟩
      generalize ep3 : upd H3 p3 _ = H4
      have gp3 : H4 p3 = some (.tup ([])) := by rw [← ep3]; exact upd_same
      have sp3 : Same H3 H4 := by rw [← ep3]; exact fun b u z => (upd_ne (ne_of_none z np3)).trans z
      clear ep3
      walk_at "rd"
      intro p4 np4
      generalize ep4 : upd H4 p4 _ = H5
      have gp4 : H5 p4 = some (.dK ([])) := by rw [← ep4]; exact upd_same
      have sp4 : Same H4 H5 := by rw [← ep4]; exact fun b u z => (upd_ne (ne_of_none z np4)).trans z
      clear ep4
      walk_at "rd"
      refine ⟨(by show 7 ≤ sizeLine; decide), fun p5 np5 => ?_⟩
      generalize ep5 : upd H5 p5 _ = H6
      have gp5 : H6 p5 = some (.lst ([.non, .int 0, .ref p1, .ref p2, .ref p3, .bl true, .ref p4])) := by rw [← ep5]; exact upd_same
      have sp5 : Same H5 H6 := by rw [← ep5]; exact fun b u z => (upd_ne (ne_of_none z np5)).trans z
      clear ep5
      have s16 := sp1.trans (sp2.trans (sp3.trans (sp4.trans sp5)))
      refine ⟨p5, rfl, ⟨_, SqL.of gp5⟩, ?_⟩
      refine for_it (walk_list (K := K) (a := p5) (xs := [.non, .int 0, .ref p1, .ref p2, .ref p3, .bl true, .ref p4])) (fun i st Hz => ∃ x2 : Option V, st = [some (.ref l), some (.ref a), x2, none, none, none, none, none, none, none, none, none] ∧ Same H6 Hz) ⟨none, rfl, Same.refl _⟩ (fun _ _ _ _ ⟨_, _, s⟩ => SqL.of (s _ _ gp5)) ?_ ?_
      · rintro i x st H7 H8 hi ⟨x2, rfl, s7⟩ ⟨rfl, ex⟩
        have th : ∃ n, Th H8 x n ∧ (n == "str") = false := by
          have m := List.mem_of_getElem? ex
          simp only [List.mem_cons, List.not_mem_nil, or_false] at m
          rcases m with rfl | rfl | rfl | rfl | rfl | rfl | rfl
          · exact ⟨_, .non, rfl⟩
          · exact ⟨_, .int _, rfl⟩
          · exact ⟨_, .lst (s7 _ _ (sp5 _ _ (sp4 _ _ (sp3 _ _ (sp2 _ _ gp1))))), rfl⟩
          · exact ⟨_, .lst (s7 _ _ (sp5 _ _ (sp4 _ _ (sp3 _ _ gp2)))), rfl⟩
          · exact ⟨_, .tup (s7 _ _ (sp5 _ _ (sp4 _ _ gp3))), rfl⟩
          · exact ⟨_, .bl _, rfl⟩
          · exact ⟨_, .dk (s7 _ _ (sp5 _ _ gp4)), rfl⟩
        obtain ⟨n, t, hn⟩ := th
        walk_at "rd"
        refine ⟨fun b Hz => b = false ∧ Same H8 Hz, ?_, ?_⟩
        · walk_at "rd"
          refine .inl ⟨n, t, hn, fun q1 H9 s9 g9 => ?_⟩
          walk_at "rd"
          refine .inl ⟨n, t.same s9, hn, fun q2 HA sA gA => ?_⟩
          refine ⟨_, _, .tup (SqT.of (sA _ _ g9)) (.cons (.int _) (.cons (.str _) .nil)), .tup (SqT.of gA) (.cons (.int _) (.cons (.str _) .nil)), dataN_shaped, dataN_shaped, ?_⟩
          exact ⟨_, rfl, by decide +kernel, s9.trans sA⟩
        · rintro b H9 ⟨rfl, s9⟩
          refine ite2 (fun z => absurd z (by decide)) (fun _ => ?_)
          exact ⟨_, rfl, fun b u z => s9 _ _ (s7 _ _ z)⟩
      · rintro st H7 ⟨x2, rfl, s7⟩
        exact ⟨x2, rfl, (S1.of_same s16).of_same s7⟩
    rintro st H2 ⟨x2, rfl, S2⟩
    refine ⟨fun st Hz => ∃ x2 : Option V, st = [some (.ref l), some (.ref a), x2, some (.str bgS), none, none, none, none, none, none, none, none] ∧ Src Hz a c 0, ?_, ?_⟩
    · walk_at "rd"
      exact S2
    rintro st H3 ⟨x2, rfl, S3⟩
    refine ⟨fun st Hz => ∃ x2 x4 x5 : Option V, st = [some (.ref l), some (.ref a), x2, some (.str bgS), x4, x5, none, none, none, none, none, none] ∧ Src Hz a c 0, ?_, ?_⟩
    · walk_at "rd"
      refine ⟨rfl, fun ol H4 nol s4 g4 => ?_⟩
      refine ⟨ol, rfl, ⟨_, SqL.of g4⟩, ?_⟩
      refine for_it (walk_list (K := K) (a := ol) (xs := oth30.map V.str)) (fun i st Hz => ∃ x4 x5 : Option V, st = [some (.ref l), some (.ref a), x2, some (.str bgS), x4, x5, none, none, none, none, none, none] ∧ Same H4 Hz) ⟨none, none, rfl, Same.refl _⟩ (fun _ _ _ _ ⟨_, _, _, s⟩ => SqL.of (s _ _ g4)) ?_ ?_
      · rintro i x st H5 H6 hi ⟨x4, x5, rfl, s5⟩ ⟨rfl, ex⟩
        rw [List.getElem?_map] at ex
        obtain ⟨o, eo, rfl⟩ := Option.map_eq_some_iff.mp ex
        obtain ⟨oS, o420⟩ := oth_line (List.mem_of_getElem? eo)
        obtain ⟨b75, bl⟩ := bg_facts
        have nl1 : (Str.ofString "\n").length = 1 := by decide +kernel
        have nlk : PyData.canLay0 (.str (Str.ofString "\n")) = true := by decide +kernel
        have el4 : (Str.ofString "\nend").length = 4 := by decide +kernel
        have ek : PyData.canLay0 (.str (Str.ofString "\nend")) = true := by decide +kernel
        walk_at "rd"
        refine ⟨fun st Hz => ∃ x5 : Option V, st = [some (.ref l), some (.ref a), x2, some (.str bgS), some (.str o), x5, none, none, none, none, none, none] ∧ Same H6 Hz, ?_, ?_⟩
        · walk_at "rd"
          refine ⟨(Nat.le_trans (by omega : _ ≤ 1000) (by decide)), ?_⟩
          walk_at "rd"
          refine ⟨(Nat.le_trans (by omega : _ ≤ 1000) (by decide)), ?_⟩
          walk_at "rd"
          refine ⟨(by rw [Str.length_append]; exact Nat.le_trans (by omega : _ ≤ 1000) (by decide)), ?_⟩
          walk_at "rd"
          refine ⟨(Nat.le_trans (by omega : _ ≤ 1000) (by decide)), ?_⟩
          walk_at "rd"
          refine ⟨(by rw [Str.length_append]; exact Nat.le_trans (by omega : _ ≤ 1000) (by decide)), ?_⟩
          walk_at "rd"
          refine ⟨(by show 4 ≤ sizeLine; decide), fun p9 np9 => ?_⟩
          generalize ep9 : upd H6 p9 _ = H8
          have gp9 : H8 p9 = some (.lst ([.str o, .str (bgS ++ o), .str ((o ++ Str.ofString "\n") ++ bgS), .str ((bgS ++ o) ++ Str.ofString "\nend")])) := by rw [← ep9]; exact upd_same
          have sp9 : Same H6 H8 := by rw [← ep9]; exact fun b u z => (upd_ne (ne_of_none z np9)).trans z
          clear ep9
          have tx : ∀ x ∈ ([.str o, .str (bgS ++ o), .str ((o ++ Str.ofString "\n") ++ bgS), .str ((bgS ++ o) ++ Str.ofString "\nend")] : List V), ∃ z, x = .str z ∧ TextP z := fun x hx => by
            simp only [List.mem_cons, List.not_mem_nil, or_false] at hx
            rcases hx with rfl | rfl | rfl | rfl
            · exact ⟨_, rfl, text_short' (by omega) oS.ok⟩
            · exact ⟨_, rfl, text_short' (by rw [Str.length_append]; omega) (lay_cat bl oS.ok)⟩
            · exact ⟨_, rfl, text_short' (by rw [Str.length_append, Str.length_append]; omega) (lay_cat (lay_cat oS.ok nlk) bl)⟩
            · exact ⟨_, rfl, text_short' (by rw [Str.length_append, Str.length_append]; omega) (lay_cat (lay_cat bl oS.ok) ek)⟩
          refine ⟨p9, rfl, ⟨_, SqL.of gp9⟩, ?_⟩
          refine for_it (walk_list (K := K) (a := p9) (xs := [.str o, .str (bgS ++ o), .str ((o ++ Str.ofString "\n") ++ bgS), .str ((bgS ++ o) ++ Str.ofString "\nend")])) (fun i st Hz => ∃ x5 : Option V, st = [some (.ref l), some (.ref a), x2, some (.str bgS), some (.str o), x5, none, none, none, none, none, none] ∧ Same H8 Hz) ⟨_, rfl, Same.refl _⟩ (fun _ _ _ _ ⟨_, _, s⟩ => SqL.of (s _ _ gp9)) ?_ ?_
          · rintro i x st HE HF hi ⟨x5, rfl, sF⟩ ⟨rfl, ex⟩
            obtain ⟨z, rfl, TP⟩ := tx x (List.mem_of_getElem? ex)
            walk_at "rd"
            refine ⟨fun b Hz => b = false ∧ Same HF Hz, ?_, ?_⟩
            · walk_at "rd"
              refine .inr ⟨z, rfl, TP, fun es rn q1 le H9 s9 g9 at9 => ?_, fun i r rn q1 H9 s9 g9 => ?_⟩
              · walk_at "rd"
                refine .inr ⟨z, rfl, TP, fun es' rn' q2 le' HA sA gA atA => ?_, fun i' r' rn' q2 HA sA gA => by rw [rn] at rn'; cases rn'⟩
                rw [rn] at rn'
                cases rn'
                refine ⟨_, _, .tup (SqT.of (sA _ _ g9)) (.cons (.str _) (.cons (dp_pap (at9.same sA)) .nil)), .tup (SqT.of gA) (.cons (.str _) (.cons (dp_pap atA) .nil)), sh_ok TP rn, sh_ok TP rn, ?_⟩
                exact ⟨_, rfl, eqv_self (sh_ok TP rn), s9.trans sA⟩
              · walk_at "rd"
                refine .inr ⟨z, rfl, TP, fun es' rn' q2 le' HA sA gA atA => (by rw [rn] at rn'; cases rn'), fun i' r' rn' q2 HA sA gA => ?_⟩
                rw [rn] at rn'
                cases rn'
                refine ⟨_, _, .tup (SqT.of (sA _ _ g9)) (.cons (.int _) (.cons (.str _) .nil)), .tup (SqT.of gA) (.cons (.int _) (.cons (.str _) .nil)), sh_er TP rn, sh_er TP rn, ?_⟩
                exact ⟨_, rfl, eqv_self (sh_er TP rn), s9.trans sA⟩
            rintro b HG ⟨rfl, sG⟩
            refine ite2 (fun z => absurd z (by decide)) (fun _ => ?_)
            exact ⟨_, rfl, fun b u z => sG _ _ (sF _ _ z)⟩
          · rintro st HE ⟨x5, rfl, sF⟩
            exact ⟨x5, rfl, sp9.trans sF⟩
        rintro st H7 ⟨x5', rfl, s7⟩
        exact ⟨_, _, rfl, fun b u z => s7 _ _ (s5 _ _ z)⟩
      · rintro st H5 ⟨x4, x5, rfl, s5⟩
        exact ⟨_, _, _, rfl, (S3.of_same s4).of_same s5⟩
    rintro st H4 ⟨x2, x4, x5, rfl, S4⟩
    refine ⟨fun st Hz => ∃ x2 x4 x5 : Option V, st = [some (.ref l), some (.ref a), x2, some (.str bgS), x4, x5, none, none, none, none, none, none] ∧ Src Hz a c 0, ?_, ?_⟩
    · walk_at "rd"
      refine ⟨rfl, fun ol H5 nol s5 g5 => ?_⟩
      refine ⟨ol, rfl, ⟨_, SqL.of g5⟩, ?_⟩
      refine for_it (walk_list (K := K) (a := ol) (xs := lgl7.map V.str)) (fun i st Hz => ∃ x4 x5 : Option V, st = [some (.ref l), some (.ref a), x2, some (.str bgS), x4, x5, none, none, none, none, none, none] ∧ Same H5 Hz) ⟨x4, x5, rfl, Same.refl _⟩ (fun _ _ _ _ ⟨_, _, _, s⟩ => SqL.of (s _ _ g5)) ?_ ?_
      · rintro i x st H5' H6 hi ⟨x4, x5, rfl, s5'⟩ ⟨rfl, ex⟩
        rw [List.getElem?_map] at ex
        obtain ⟨o, eo, rfl⟩ := Option.map_eq_some_iff.mp ex
        obtain ⟨oS, _⟩ := lgl_line (List.mem_of_getElem? eo)
        have o420 : o.length ≤ 330 := lgl_330 o (List.mem_of_getElem? eo)
        obtain ⟨b75, bl⟩ := bg_facts
        have n1 : (Str.ofString "log x pair\n").length ≤ 20 := by decide +kernel
        have k1 : PyData.canLay0 (.str (Str.ofString "log x pair\n")) = true := by decide +kernel
        have n2 : (Str.ofString "log x pair\neur 7\n\n").length ≤ 30 := by decide +kernel
        have k2 : PyData.canLay0 (.str (Str.ofString "log x pair\neur 7\n\n")) = true := by decide +kernel
        have n3 : (Str.ofString "\nend\n").length ≤ 10 := by decide +kernel
        have k3 : PyData.canLay0 (.str (Str.ofString "\nend\n")) = true := by decide +kernel
        have b72 : bgS.length ≤ 72 := by decide +kernel
        walk_at "rd"
        refine ⟨fun st Hz => ∃ x5 : Option V, st = [some (.ref l), some (.ref a), x2, some (.str bgS), some (.str o), x5, none, none, none, none, none, none] ∧ Same H6 Hz, ?_, ?_⟩
        · walk_at "rd"
          refine ⟨(Nat.le_trans (by omega : _ ≤ 1000) (by decide)), ?_⟩
          walk_at "rd"
          refine ⟨(by rw [Str.length_append]; exact Nat.le_trans (by omega : _ ≤ 1000) (by decide)), ?_⟩
          walk_at "rd"
          refine ⟨(Nat.le_trans (by omega : _ ≤ 1000) (by decide)), ?_⟩
          walk_at "rd"
          refine ⟨(by rw [Str.length_append]; exact Nat.le_trans (by omega : _ ≤ 1000) (by decide)), ?_⟩
          walk_at "rd"
          refine ⟨(by rw [Str.length_append, Str.length_append]; exact Nat.le_trans (by omega : _ ≤ 1000) (by decide)), ?_⟩
          walk_at "rd"
          refine ⟨(by show 2 ≤ sizeLine; decide), fun p9 np9 => ?_⟩
          generalize ep9 : upd H6 p9 _ = H8
          have gp9 : H8 p9 = some (.lst ([.str ((bgS ++ Str.ofString "log x pair\n") ++ o), .str (((bgS ++ Str.ofString "log x pair\neur 7\n\n") ++ o) ++ Str.ofString "\nend\n")])) := by rw [← ep9]; exact upd_same
          have sp9 : Same H6 H8 := by rw [← ep9]; exact fun b u z => (upd_ne (ne_of_none z np9)).trans z
          clear ep9
          have tx : ∀ x ∈ ([.str ((bgS ++ Str.ofString "log x pair\n") ++ o), .str (((bgS ++ Str.ofString "log x pair\neur 7\n\n") ++ o) ++ Str.ofString "\nend\n")] : List V), ∃ z, x = .str z ∧ TextP z := fun x hx => by
            simp only [List.mem_cons, List.not_mem_nil, or_false] at hx
            rcases hx with rfl | rfl
            · exact ⟨_, rfl, text_short' (by rw [Str.length_append, Str.length_append]; omega) (lay_cat (lay_cat bl k1) oS.ok)⟩
            · exact ⟨_, rfl, text_short' (by rw [Str.length_append, Str.length_append, Str.length_append]; omega) (lay_cat (lay_cat (lay_cat bl k2) oS.ok) k3)⟩
          refine ⟨p9, rfl, ⟨_, SqL.of gp9⟩, ?_⟩
          refine for_it (walk_list (K := K) (a := p9) (xs := [.str ((bgS ++ Str.ofString "log x pair\n") ++ o), .str (((bgS ++ Str.ofString "log x pair\neur 7\n\n") ++ o) ++ Str.ofString "\nend\n")])) (fun i st Hz => ∃ x5 : Option V, st = [some (.ref l), some (.ref a), x2, some (.str bgS), some (.str o), x5, none, none, none, none, none, none] ∧ Same H8 Hz) ⟨_, rfl, Same.refl _⟩ (fun _ _ _ _ ⟨_, _, s⟩ => SqL.of (s _ _ gp9)) ?_ ?_
          · rintro i x st HE HF hi ⟨x5, rfl, sF⟩ ⟨rfl, ex⟩
            obtain ⟨z, rfl, TP⟩ := tx x (List.mem_of_getElem? ex)
            walk_at "rd"
            refine ⟨fun b Hz => b = false ∧ Same HF Hz, ?_, ?_⟩
            · walk_at "rd"
              refine .inr ⟨z, rfl, TP, fun es rn q1 le H9 s9 g9 at9 => ?_, fun i r rn q1 H9 s9 g9 => ?_⟩
              · walk_at "rd"
                refine .inr ⟨z, rfl, TP, fun es' rn' q2 le' HA sA gA atA => ?_, fun i' r' rn' q2 HA sA gA => by rw [rn] at rn'; cases rn'⟩
                rw [rn] at rn'
                cases rn'
                refine ⟨_, _, .tup (SqT.of (sA _ _ g9)) (.cons (.str _) (.cons (dp_pap (at9.same sA)) .nil)), .tup (SqT.of gA) (.cons (.str _) (.cons (dp_pap atA) .nil)), sh_ok TP rn, sh_ok TP rn, ?_⟩
                exact ⟨_, rfl, eqv_self (sh_ok TP rn), s9.trans sA⟩
              · walk_at "rd"
                refine .inr ⟨z, rfl, TP, fun es' rn' q2 le' HA sA gA atA => (by rw [rn] at rn'; cases rn'), fun i' r' rn' q2 HA sA gA => ?_⟩
                rw [rn] at rn'
                cases rn'
                refine ⟨_, _, .tup (SqT.of (sA _ _ g9)) (.cons (.int _) (.cons (.str _) .nil)), .tup (SqT.of gA) (.cons (.int _) (.cons (.str _) .nil)), sh_er TP rn, sh_er TP rn, ?_⟩
                exact ⟨_, rfl, eqv_self (sh_er TP rn), s9.trans sA⟩
            rintro b HG ⟨rfl, sG⟩
            refine ite2 (fun z => absurd z (by decide)) (fun _ => ?_)
            exact ⟨_, rfl, fun b u z => sG _ _ (sF _ _ z)⟩
          · rintro st HE ⟨x5, rfl, sF⟩
            exact ⟨x5, rfl, sp9.trans sF⟩
        rintro st H7 ⟨x5', rfl, s7⟩
        exact ⟨_, _, rfl, fun b u z => s7 _ _ (s5' _ _ z)⟩
      · rintro st H6 ⟨x4, x5, rfl, s6⟩
        exact ⟨_, _, _, rfl, (S4.of_same s5).of_same s6⟩
    rintro st H5 ⟨x2, x4, x5, rfl, S5⟩
    refine ⟨fun st Hz => ∃ (x2 x4 x5 : Option V) (lg : Str), st = [some (.ref l), some (.ref a), x2, some (.str bgS), x4, x5, some (.str lg), none, none, none, none, none] ∧ TextP lg ∧ TextP ((bgS ++ lg) ++ Str.ofString "\nside y") ∧ lg.length ≤ 4500 ∧ Src Hz a c 0, ?_, ?_⟩
    · walk_at "rd"
      refine ⟨lg_mul, ?_⟩
      generalize eo : Txt.mul (Str.ofString "1") 4400 = o
      walk_at "rd"
      obtain ⟨o1, o2, o3, o4⟩ := lg_facts eo
      refine ⟨o1, ?_⟩
      exact ⟨x2, x4, x5, _, rfl, o2, o3, o4, S5⟩
    rintro st H6 ⟨x2, x4, x5, lg, rfl, T1, T2, ll, S6⟩
    have b72 : bgS.length ≤ 72 := by decide +kernel
    have y7 : (Str.ofString "\nside y").length ≤ 7 := by decide +kernel
    refine ⟨fun st Hz => ∃ x5 : Option V, st = [some (.ref l), some (.ref a), x2, some (.str bgS), x4, x5, some (.str lg), none, none, none, none, none] ∧ Same H6 Hz, ?_, ?_⟩
    · walk_at "rd"
      refine ⟨(Nat.le_trans (by omega : _ ≤ 6000) (by decide)), ?_⟩
      walk_at "rd"
      refine ⟨(by rw [Str.length_append]; exact Nat.le_trans (by omega : _ ≤ 6000) (by decide)), ?_⟩
      walk_at "rd"
      refine ⟨(by show 2 ≤ sizeLine; decide), fun p9 np9 => ?_⟩
      generalize ep9 : upd H6 p9 _ = H8
      have gp9 : H8 p9 = some (.lst ([.str lg, .str ((bgS ++ lg) ++ Str.ofString "\nside y")])) := by rw [← ep9]; exact upd_same
      have sp9 : Same H6 H8 := by rw [← ep9]; exact fun b u z => (upd_ne (ne_of_none z np9)).trans z
      clear ep9
      have tx : ∀ x ∈ ([.str lg, .str ((bgS ++ lg) ++ Str.ofString "\nside y")] : List V), ∃ z, x = .str z ∧ TextP z := fun x hx => by
        simp only [List.mem_cons, List.not_mem_nil, or_false] at hx
        rcases hx with rfl | rfl
        · exact ⟨_, rfl, T1⟩
        · exact ⟨_, rfl, T2⟩
      refine ⟨p9, rfl, ⟨_, SqL.of gp9⟩, ?_⟩
      refine for_it (walk_list (K := K) (a := p9) (xs := [.str lg, .str ((bgS ++ lg) ++ Str.ofString "\nside y")])) (fun i st Hz => ∃ x5 : Option V, st = [some (.ref l), some (.ref a), x2, some (.str bgS), x4, x5, some (.str lg), none, none, none, none, none] ∧ Same H8 Hz) ⟨_, rfl, Same.refl _⟩ (fun _ _ _ _ ⟨_, _, s⟩ => SqL.of (s _ _ gp9)) ?_ ?_
      · rintro i x st HE HF hi ⟨x5, rfl, sF⟩ ⟨rfl, ex⟩
        obtain ⟨z, rfl, TP⟩ := tx x (List.mem_of_getElem? ex)
        walk_at "rd"
        refine ⟨fun b Hz => b = false ∧ Same HF Hz, ?_, ?_⟩
        · walk_at "rd"
          refine .inr ⟨z, rfl, TP, fun es rn q1 le H9 s9 g9 at9 => ?_, fun i r rn q1 H9 s9 g9 => ?_⟩
          · walk_at "rd"
            refine .inr ⟨z, rfl, TP, fun es' rn' q2 le' HA sA gA atA => ?_, fun i' r' rn' q2 HA sA gA => by rw [rn] at rn'; cases rn'⟩
            rw [rn] at rn'
            cases rn'
            refine ⟨_, _, .tup (SqT.of (sA _ _ g9)) (.cons (.str _) (.cons (dp_pap (at9.same sA)) .nil)), .tup (SqT.of gA) (.cons (.str _) (.cons (dp_pap atA) .nil)), sh_ok TP rn, sh_ok TP rn, ?_⟩
            exact ⟨_, rfl, eqv_self (sh_ok TP rn), s9.trans sA⟩
          · walk_at "rd"
            refine .inr ⟨z, rfl, TP, fun es' rn' q2 le' HA sA gA atA => (by rw [rn] at rn'; cases rn'), fun i' r' rn' q2 HA sA gA => ?_⟩
            rw [rn] at rn'
            cases rn'
            refine ⟨_, _, .tup (SqT.of (sA _ _ g9)) (.cons (.int _) (.cons (.str _) .nil)), .tup (SqT.of gA) (.cons (.int _) (.cons (.str _) .nil)), sh_er TP rn, sh_er TP rn, ?_⟩
            exact ⟨_, rfl, eqv_self (sh_er TP rn), s9.trans sA⟩
        rintro b HG ⟨rfl, sG⟩
        refine ite2 (fun z => absurd z (by decide)) (fun _ => ?_)
        exact ⟨_, rfl, fun b u z => sG _ _ (sF _ _ z)⟩
      · rintro st HE ⟨x5, rfl, sF⟩
        exact ⟨x5, rfl, sp9.trans sF⟩
    rintro st H7 ⟨x5b, rfl, s7⟩
    have S7 := S6.of_same s7
    clear s7 S6 T1 T2 ll y7 x5
    refine ⟨fun st Hz => ∃ x5 x7 : Option V, st = [some (.ref l), some (.ref a), x2, some (.str bgS), x4, x5, some (.str lg), x7, none, none, none, none] ∧ Src Hz a c 0, ?_, ?_⟩
    · walk_at "rd"
      refine ⟨(by show 2 ≤ sizeLine; decide), fun p9 np9 => ?_⟩
      generalize ep9 : upd H7 p9 _ = H8
      have gp9 : H8 p9 = some (.lst ([.int 50, .int 51])) := by rw [← ep9]; exact upd_same
      have sp9 : Same H7 H8 := by rw [← ep9]; exact fun b u z => (upd_ne (ne_of_none z np9)).trans z
      clear ep9
      refine ⟨p9, rfl, ⟨_, SqL.of gp9⟩, ?_⟩
      refine for_it (walk_list (K := K) (a := p9) (xs := [.int 50, .int 51])) (fun i st Hz => ∃ x5 x7 : Option V, st = [some (.ref l), some (.ref a), x2, some (.str bgS), x4, x5, some (.str lg), x7, none, none, none, none] ∧ Same H8 Hz) ⟨_, _, rfl, Same.refl _⟩ (fun _ _ _ _ ⟨_, _, _, s⟩ => SqL.of (s _ _ gp9)) ?_ ?_
      · rintro i x st HE HF hi ⟨x5, x7, rfl, sF⟩ ⟨rfl, ex⟩
        obtain ⟨m, rfl, m60⟩ : ∃ m : Nat, x = V.int (m : Int) ∧ m ≤ 60 := by
          have hx := List.mem_of_getElem? ex
          simp only [List.mem_cons, List.not_mem_nil, or_false] at hx
          rcases hx with rfl | rfl
          · exact ⟨50, rfl, by decide⟩
          · exact ⟨51, rfl, by decide⟩
        have n1 : (Str.ofString "log x pair\n").length ≤ 20 := by decide +kernel
        have n2 : (Str.ofString "end").length ≤ 20 := by decide +kernel
        have n3 := row_len m60
        walk_at "rd"
        refine ⟨fun st Hz => ∃ z : Str, st = [some (.ref l), some (.ref a), x2, some (.str bgS), x4, some (.str z), some (.str lg), some (.int (m : Int)), none, none, none, none] ∧ TextP z ∧ Same HF Hz, ?_, ?_⟩
        · walk_at "rd"
          refine ⟨(Nat.le_trans (by omega : _ ≤ 1000) (by decide)), ?_⟩
          walk_at "rd"
          refine ⟨row_mul m60, ?_⟩
          walk_at "rd"
          refine ⟨(by rw [Str.length_append]; exact Nat.le_trans (by omega : _ ≤ 1000) (by decide)), ?_⟩
          walk_at "rd"
          refine ⟨(by rw [Str.length_append, Str.length_append]; exact Nat.le_trans (by omega : _ ≤ 1000) (by decide)), ?_⟩
          exact ⟨_, rfl, rows_P m60, Same.refl _⟩
        rintro st HT0 ⟨z, rfl, TP, sT⟩
        refine ⟨fun b Hz => b = false ∧ Same HT0 Hz, ?_, ?_⟩
        · walk_at "rd"
          refine .inr ⟨z, rfl, TP, fun es rn q1 le H9 s9 g9 at9 => ?_, fun i r rn q1 H9 s9 g9 => ?_⟩
          · walk_at "rd"
            refine .inr ⟨z, rfl, TP, fun es' rn' q2 le' HA sA gA atA => ?_, fun i' r' rn' q2 HA sA gA => by rw [rn] at rn'; cases rn'⟩
            rw [rn] at rn'
            cases rn'
            refine ⟨_, _, .tup (SqT.of (sA _ _ g9)) (.cons (.str _) (.cons (dp_pap (at9.same sA)) .nil)), .tup (SqT.of gA) (.cons (.str _) (.cons (dp_pap atA) .nil)), sh_ok TP rn, sh_ok TP rn, ?_⟩
            exact ⟨_, rfl, eqv_self (sh_ok TP rn), s9.trans sA⟩
          · walk_at "rd"
            refine .inr ⟨z, rfl, TP, fun es' rn' q2 le' HA sA gA atA => (by rw [rn] at rn'; cases rn'), fun i' r' rn' q2 HA sA gA => ?_⟩
            rw [rn] at rn'
            cases rn'
            refine ⟨_, _, .tup (SqT.of (sA _ _ g9)) (.cons (.int _) (.cons (.str _) .nil)), .tup (SqT.of gA) (.cons (.int _) (.cons (.str _) .nil)), sh_er TP rn, sh_er TP rn, ?_⟩
            exact ⟨_, rfl, eqv_self (sh_er TP rn), s9.trans sA⟩
        rintro b HG ⟨rfl, sG⟩
        refine ite2 (fun z => absurd z (by decide)) (fun _ => ?_)
        exact ⟨_, _, rfl, fun b u z => sG _ _ (sT _ _ (sF _ _ z))⟩
      · rintro st HE ⟨x5, x7, rfl, sF⟩
        exact ⟨x5, x7, rfl, S7.of_same (sp9.trans sF)⟩
    rintro st H8 ⟨x5, x7, rfl, S8⟩
    refine ⟨fun st Hz => ∃ W : Addr, st = [some (.ref l), some (.ref a), x2, some (.str bgS), x4, x5, some (.str lg), x7, some (.ref W), none, none, none] ∧ Hz W = some (.lst (lw0.map V.str)) ∧ W ≠ a ∧ W ≠ c ∧ Src Hz a c 0, ?_, ?_⟩
    · walk_at "rd"
      refine ⟨(by show 15 ≤ sizeLine; decide), fun W nW => ?_⟩
      obtain ⟨Wa, Wc⟩ := S8.na nW
      exact ⟨W, rfl, upd_same, Wa, Wc, S8.new nW⟩
    rintro st H9 ⟨W, rfl, hW, Wa, Wc, S9⟩
    refine ⟨fun st Hz => ∃ W : Addr, st = [some (.ref l), some (.ref a), x2, some (.str bgS), x4, x5, some (.str lg), x7, some (.ref W), none, none, none] ∧ Hz W = some (.lst (lw1.map V.str)) ∧ W ≠ a ∧ W ≠ c ∧ Src Hz a c 0, ?_, ?_⟩
    · walk_at "rd"
      refine ⟨(by show 1 ≤ sizeLine; decide), fun p9 np9 => ?_⟩
      generalize ep9 : upd H9 p9 _ = HA
      have gp9 : HA p9 = some (.lst (([Str.ofString "0.5"].map V.str))) := by rw [← ep9]; exact upd_same
      have sp9 : Same H9 HA := by rw [← ep9]; exact fun b u z => (upd_ne (ne_of_none z np9)).trans z
      clear ep9
      refine ⟨W, p9, _, _, rfl, rfl, sp9 _ _ hW, gp9, (by decide +kernel), fun W2 nW2 => ?_⟩
      have SA := S9.of_same sp9
      obtain ⟨Wa2, Wc2⟩ := SA.na nW2
      exact ⟨W2, rfl, by rw [upd_same, lw1, List.map_append], Wa2, Wc2, SA.new nW2⟩
    rintro st HA ⟨W, rfl, hW, Wa, Wc, SA⟩
    clear hl nl S1 S2 S3 S4 S5 S7 S8 S9
    refine ⟨fun st Hz => True, ?_, fun st Hz _ => ?_⟩
    · walk_at "rd"
      refine ⟨by decide, by decide, ?_⟩
      refine for_range (n := 30) (fun i st Hz => ∃ (x5 x9 x10 x11 : Option V) (t : Nat), st = [some (.ref l), some (.ref a), x2, some (.str bgS), x4, x5, some (.str lg), x7, some (.ref W), x9, x10, x11] ∧ Src Hz a c t ∧ t ≤ 1000 * i ∧ Hz W = some (.lst (lw1.map V.str))) ⟨x5, none, none, none, 0, rfl, SA, by omega, hW⟩ ?_ (fun _ _ _ => trivial)
      rintro i st HB hi ⟨x5, x9, x10, x11, t, rfl, SB, tb, hW⟩
      walk_at "rd"
      refine ⟨fun st Hz => ∃ (L : Addr) (ls : List Str) (t' : Nat), st = [some (.ref l), some (.ref a), x2, some (.str bgS), x4, x5, some (.str lg), x7, some (.ref W), some (.int (0 + (i : Int))), some (.ref L), x11] ∧ Src Hz a c t' ∧ t' ≤ t + 900 ∧ Hz W = some (.lst (lw1.map V.str)) ∧ Hz L = some (.lst (ls.map V.str)) ∧ L ≠ a ∧ L ≠ c ∧ L ≠ W ∧ ls ≠ [] ∧ ls.length ≤ 521 ∧ ∀ y ∈ ls, LnS 0 y, ?_, ?_⟩
      · walk_at "rd"
        refine ⟨a, c, t, rfl, SB, by omega, fun en HC es t1 nen t1b SC OC na nc ea ok e1 e10 => ?_⟩
        have hW2 := OC _ _ hW Wa Wc
        walk_at "rd"
        refine ⟨en, es, rfl, ea, ok, by omega, fun HD sD => ?_⟩
        obtain ⟨l16, ls, els, lne, ll, lok⟩ := paper_ls ok e10
        generalize paperT es = pt at l16 els ⊢
        walk_at "rd"
        refine ⟨rfl, ?_⟩
        walk_at "rd"
        refine ⟨by decide +kernel, l16, ?_⟩
        rw [els]
        refine fun L nL => ?_
        have SD := SC.of_same sD
        obtain ⟨La, Lc⟩ := SD.na nL
        have hW3 := sD _ _ hW2
        have LW : L ≠ W := (ne_of_none hW3 nL).symm
        exact ⟨L, ls, t1, rfl, SD.new nL, by omega, (upd_ne LW.symm).trans hW3, upd_same, La, Lc, LW, lne, ll, lok⟩
      rintro st HC ⟨L, ls, t1, rfl, SC, t1b, hW, hL, La, Lc, LW, lne, ll, lok⟩
      refine ⟨fun st Hz => ∃ (L : Addr) (ls : List Str) (t' : Nat) (x11 : Option V), st = [some (.ref l), some (.ref a), x2, some (.str bgS), x4, x5, some (.str lg), x7, some (.ref W), some (.int (0 + (i : Int))), some (.ref L), x11] ∧ Src Hz a c t' ∧ t' ≤ t + 930 ∧ Hz W = some (.lst (lw1.map V.str)) ∧ Hz L = some (.lst (ls.map V.str)) ∧ ls ≠ [] ∧ ls.length ≤ 529 ∧ ∀ y ∈ ls, LnS 4 y, ?_, ?_⟩
      · walk_at "rd"
        refine ⟨a, c, t1, 5, rfl, SC, by omega, by decide, lg_small (by decide) (by decide), fun kk HD k0 k1 SD OD => ?_⟩
        obtain ⟨kn, rfl⟩ := Int.eq_ofNat_of_zero_le k0
        have kl : kn < 5 := by omega
        walk_at "rd"
        refine ⟨by omega, by omega, ?_⟩
        refine for_range (fun j st Hz => ∃ (L : Addr) (ls : List Str) (t' : Nat) (x11 : Option V), st = [some (.ref l), some (.ref a), x2, some (.str bgS), x4, x5, some (.str lg), x7, some (.ref W), some (.int (0 + (i : Int))), some (.ref L), x11] ∧ Src Hz a c t' ∧ t' ≤ t + 901 + 6 * j ∧ Hz W = some (.lst (lw1.map V.str)) ∧ Hz L = some (.lst (ls.map V.str)) ∧ L ≠ a ∧ L ≠ c ∧ L ≠ W ∧ ls ≠ [] ∧ ls.length ≤ 521 + 2 * j ∧ ∀ y ∈ ls, LnS j y)
          ⟨L, ls, t1 + 1, x11, rfl, SD, by omega, OD _ _ hW Wa Wc, OD _ _ hL La Lc, La, Lc, LW, lne, by omega, lok⟩ ?_ ?_
        · rintro j st HE hj ⟨L, ls, t2, y11, rfl, SE, t2b, hW, hL, La, Lc, LW, lne, ll, lok⟩
          have jb : j < 4 := by omega
          walk_at "rd"
          refine ⟨fun st Hz => ∃ (L : Addr) (ls : List Str) (t' : Nat), st = [some (.ref l), some (.ref a), x2, some (.str bgS), x4, x5, some (.str lg), x7, some (.ref W), some (.int (0 + (i : Int))), some (.ref L), some (.int (0 + (j : Int)))] ∧ Src Hz a c t' ∧ t' ≤ t + 901 + 6 * (j + 1) ∧ Hz W = some (.lst (lw1.map V.str)) ∧ Hz L = some (.lst (ls.map V.str)) ∧ L ≠ a ∧ L ≠ c ∧ L ≠ W ∧ ls ≠ [] ∧ ls.length ≤ 521 + 2 * j + 1 ∧ ∀ y ∈ ls, LnS (j + 1) y, ?_, ?_⟩
          · walk_at "rd"
            refine ⟨a, c, t2, j, L, W, ls, lw1, rfl, SE, by omega, by omega, hL, lne, by omega, lok, La, Lc, hW, Wa, Wc, by decide +kernel, lw1_S, fun R HF zs t3 nR Ra Rc hR zne zl zok t3b SF OF => ?_⟩
            have RW : R ≠ W := (ne_of_none hW nR).symm
            exact ⟨R, zs, t3, rfl, SF, by omega, OF _ _ hW Wa Wc, hR, Ra, Rc, RW, zne, by omega, zok⟩
          rintro st HF ⟨L, ls, t3, rfl, SF, t3b, hW, hL, La, Lc, LW, lne, ll, lok⟩
          walk_at "rd"
          refine ⟨.inl ⟨rfl, _, SqL.of hL⟩, ?_⟩
          walk_at "rd"
          refine ⟨L, _, _, rfl, rfl, hL, (by rw [List.length_map]; exact Nat.lt_of_le_of_lt (by omega : _ ≤ 600) (by decide)), ?_⟩
          have SG : Src (upd HF L (.lst (ls.map V.str ++ [.str (Str.ofString "")]))) a c t3 := by
            obtain ⟨cs, h, l⟩ := SF.cl
            exact ⟨SF.ne, (upd_ne La.symm).trans SF.ob, cs, (upd_ne Lc.symm).trans h, l⟩
          refine ⟨L, ls ++ [Str.ofString ""], t3, _, rfl, SG, by omega, (upd_ne LW.symm).trans hW, by rw [upd_same, List.map_append]; rfl, La, Lc, LW, by simp, by rw [List.length_append]; show ls.length + 1 ≤ _; omega, fun y hy => ?_⟩
          rcases List.mem_append.mp hy with hy | hy
          · exact lok y hy
          · rw [List.mem_singleton.mp hy]
            exact empty_S.mono (Nat.zero_le _)
        · rintro st HE ⟨L, ls, t2, y11, rfl, SE, t2b, hW, hL, La, Lc, LW, lne, ll, lok⟩
          exact ⟨L, ls, t2, y11, rfl, SE, by omega, hW, hL, lne, by omega, fun y hy => (lok y hy).mono (by omega)⟩
      rintro st HD ⟨L, ls, t2, y11, rfl, SD, t2b, hW, hL, lne, ll, lok⟩
      refine ⟨fun st Hz => ∃ z : Str, st = [some (.ref l), some (.ref a), x2, some (.str bgS), x4, some (.str z), some (.str lg), x7, some (.ref W), some (.int (0 + (i : Int))), some (.ref L), y11] ∧ Same HD Hz ∧ TextP z, ?_, ?_⟩
      · walk_at "rd"
        have sm := StrLaws.sumLen_le (B := 25000) ls (fun y hy => (lok y hy).len)
        have sm2 : ls.length * 25000 ≤ 529 * 25000 := Nat.mul_le_mul_right _ ll
        have n1 : (Str.ofString "\n").length = 1 := by decide +kernel
        refine ⟨rfl, ?_⟩
        walk_at "rd"
        refine ⟨_, L, ls, rfl, rfl, .inl (SqL.of hL), (by rw [n1, Nat.mul_one]; omega), ?_⟩
        exact ⟨_, rfl, Same.refl _, lines_P lne lok (by omega)⟩
      rintro st HT0 ⟨z, rfl, sT, TP⟩
      refine ⟨fun b Hz => b = false ∧ Same HT0 Hz, ?_, ?_⟩
      · walk_at "rd"
        refine .inr ⟨z, rfl, TP, fun es rn q1 le H9 s9 g9 at9 => ?_, fun i r rn q1 H9 s9 g9 => ?_⟩
        · walk_at "rd"
          refine .inr ⟨z, rfl, TP, fun es' rn' q2 le' HA sA gA atA => ?_, fun i' r' rn' q2 HA sA gA => by rw [rn] at rn'; cases rn'⟩
          rw [rn] at rn'
          cases rn'
          refine ⟨_, _, .tup (SqT.of (sA _ _ g9)) (.cons (.str _) (.cons (dp_pap (at9.same sA)) .nil)), .tup (SqT.of gA) (.cons (.str _) (.cons (dp_pap atA) .nil)), sh_ok TP rn, sh_ok TP rn, ?_⟩
          exact ⟨_, rfl, eqv_self (sh_ok TP rn), s9.trans sA⟩
        · walk_at "rd"
          refine .inr ⟨z, rfl, TP, fun es' rn' q2 le' HA sA gA atA => (by rw [rn] at rn'; cases rn'), fun i' r' rn' q2 HA sA gA => ?_⟩
          rw [rn] at rn'
          cases rn'
          refine ⟨_, _, .tup (SqT.of (sA _ _ g9)) (.cons (.int _) (.cons (.str _) .nil)), .tup (SqT.of gA) (.cons (.int _) (.cons (.str _) .nil)), sh_er TP rn, sh_er TP rn, ?_⟩
          exact ⟨_, rfl, eqv_self (sh_er TP rn), s9.trans sA⟩
      rintro b HG ⟨rfl, sG⟩
      refine ite2 (fun z => absurd z (by decide)) (fun _ => ?_)
      have sTG := sT.trans sG
      exact ⟨_, _, _, _, t2, rfl, SD.of_same sTG, by omega, sTG _ _ hW⟩
    walk_at "rd"
    exact q _
end
end HT
namespace HT
open PySem L2 TL CwR
theorem tx_to {vs : List V} {H : Hp} {Q : VK} {E : XK} (h : spTxFits vs H Q E) : spTxX vs H Q E := by
  obtain ⟨n, z, d, es, o, s, m, pl, fig, rfl, hk, fe, f0, f1, p60, rfl, q⟩ := h
  have l := text_short f0 f1 p60
  refine ⟨n, _, d, es, o, s, m, pl, rfl, hk, fe, by omega, p60, ?_⟩
  rw [(fits_iff p60 (by omega)).mpr (text_isT (by omega) (by omega) p60)]
  exact q
section
variable {P : Program} {w : World} {K : PySem.W.Frag} {mg : Str → Option Value} {base : Heap}
theorem tx_good {k : Nat} {f : Addr} {fd : FuncData} {ps : List Str} (F : FnOk P w K mg base CX0 k f fd ps spTxX) : FnOk P w K mg base CX0 k f fd ps spTxFits :=
  ⟨fun vs H Q E h => F.len vs H Q E (tx_to h), fun A outer s H args us vs Q E hr he hb hv hs => F.run A outer s H args us vs Q E hr he hb hv (tx_to hs)⟩
end
end HT
namespace HT
open PySem L2 TL CwR
/-- what is looked up of an own class -/
def clsB (K : PySem.W.Frag) (C : Addr) : Bool := PySem.W.plainGet K C Str.empty && (PySem.W.hasDictIn K C && (PySem.W.plainOver K C && decide (PySem.W.findIn K (.ref C) "__setattr__" = some (some (.builtin "object.__setattr__")))))
theorem clsB_ok {K : PySem.W.Frag} {C : Addr} (h : clsB K C = true) : Cls K C := by
  unfold clsB at h
  simp only [Bool.and_eq_true, decide_eq_true_eq] at h
  obtain ⟨a, b, c, d⟩ := h
  exact ⟨a, b, c, d⟩
def errB (K : PySem.W.Frag) (C : Addr) : Bool := (PySem.W.clsIn K C).isSome && (decide (PySem.W.findIn K (.ref C) "__getattribute__" = some (some (.builtin "BaseException.__getattribute__"))) && (decide (PySem.W.findIn K (.ref C) "__getattr__" = some none) && (decide (PySem.W.subIn K (.ref C) (.type "BaseException") = some true) &&
  (decide (PySem.W.findIn K (.ref C) "__class__" = some (some (.builtin "object.__class__"))) && decide (PySem.W.mroIn K C (.type "object") = some true)))))
theorem errB_ok {K : PySem.W.Frag} {C : Addr} (h : errB K C = true) : ErrC K C := by
  unfold errB at h
  simp only [Bool.and_eq_true, decide_eq_true_eq] at h
  obtain ⟨a, b, c, d, e, f⟩ := h
  exact ⟨a, b, c, d, e, f⟩
def exB (K : PySem.W.Frag) (C : Addr) : Bool := PySem.W.excIn K C [.type "ValueError", .type "Exception", .type "BaseException", .type "object"] "ValueError.__new__" && PySem.W.keepIn K (.ref C)
theorem all_mk {l : PySem.W.OpenLaw} {w : World} {K : PySem.W.Frag} {h : Heap} {mg : Str → Option Value} {fa aM aN aD f_is_int f_is_int_between f_check_value f_check_side f_is_side f_text_of f_check_style f_grouped f_mark f_read_text f_past_whole f_past_groups f_past_places f_past_digits f_known_entries f_is_formed f_are_lines f_names_fit f_is_name f_is_known f_is_in_set f_worths_fit f_text_fits f_paper_text f_lines_of f_side_line f_read_paper f_entry_of f_side_entry_of f_is_number f_L_source f_L_draw f_L_pick f_L_great f_L_ten f_L_step f_L_side f_L_text f_L_entries f_L_is_whole f_L_is_name f_L_is_side f_L_is_text f_L_is_right f_L_number f_L_side_entry f_L_started f_L_log_line f_L_due f_L_told f_L_others f_L_log_lines f_L_spoiled f_law cR fR_init fR_fault fR_entry fR_within fR_end fR_add cT cS cL cV cB fiT fiL : Addr} (X : K.In h) (G : h.Ns mainGlobals mg) (hfa : mg "law" = some (.ref fa))
    {odM odN od_is_int an_is_int od_is_int_between an_is_int_between od_check_value an_check_value od_check_side an_check_side od_is_side an_is_side od_text_of an_text_of od_check_style an_check_style od_grouped an_grouped od_mark an_mark od_read_text an_read_text od_past_whole an_past_whole od_past_groups an_past_groups od_past_places an_past_places od_past_digits an_past_digits od_known_entries an_known_entries od_is_formed an_is_formed od_are_lines an_are_lines od_names_fit an_names_fit od_is_name an_is_name od_is_known an_is_known od_is_in_set an_is_in_set od_worths_fit an_worths_fit od_text_fits an_text_fits od_paper_text an_paper_text od_lines_of an_lines_of od_side_line an_side_line od_read_paper an_read_paper od_entry_of an_entry_of od_side_entry_of an_side_entry_of od_is_number an_is_number od_L_source an_L_source od_L_draw an_L_draw od_L_pick an_L_pick od_L_great an_L_great od_L_ten an_L_ten od_L_step an_L_step od_L_side an_L_side od_L_text an_L_text od_L_entries an_L_entries od_L_is_whole an_L_is_whole od_L_is_name an_L_is_name od_L_is_side an_L_is_side od_L_is_text an_L_is_text od_L_is_right an_L_is_right od_L_number an_L_number od_L_side_entry an_L_side_entry od_L_started an_L_started od_L_log_line an_L_log_line od_L_due an_L_due od_L_told an_L_told od_L_others an_L_others od_L_log_lines an_L_log_lines od_L_spoiled an_L_spoiled od_law an_law odRinit anRinit odRfault anRfault odRentry anRentry odRwithin anRwithin odRend anRend odRadd anRadd odT anT odL anL : Option Addr} {slM slN sl_is_int sl_is_int_between sl_check_value sl_check_side sl_is_side sl_text_of sl_check_style sl_grouped sl_mark sl_read_text sl_past_whole sl_past_groups sl_past_places sl_past_digits sl_known_entries sl_is_formed sl_are_lines sl_names_fit sl_is_name sl_is_known sl_is_in_set sl_worths_fit sl_text_fits sl_paper_text sl_lines_of sl_side_line sl_read_paper sl_entry_of sl_side_entry_of sl_is_number sl_L_source sl_L_draw sl_L_pick sl_L_great sl_L_ten sl_L_step sl_L_side sl_L_text sl_L_entries sl_L_is_whole sl_L_is_name sl_L_is_side sl_L_is_text sl_L_is_right sl_L_number sl_L_side_entry sl_L_started sl_L_log_line sl_L_due sl_L_told sl_L_others sl_L_log_lines sl_L_spoiled sl_law slRinit slRfault slRentry slRwithin slRend slRadd slT slL : Array (Option Value)} {nM nN : Nat} {itsM itsN : Array Value} {tP tW tD tL tML tMS tSN tMD : Tok} {oc_is_int kV_is_int dc_is_int pm_is_int cd_is_int ct_is_int oc_is_int_between kV_is_int_between dc_is_int_between pm_is_int_between cd_is_int_between ct_is_int_between oc_check_value kV_check_value dc_check_value pm_check_value cd_check_value ct_check_value oc_check_side kV_check_side dc_check_side pm_check_side cd_check_side ct_check_side oc_is_side kV_is_side dc_is_side pm_is_side cd_is_side ct_is_side oc_text_of dc_text_of pm_text_of cd_text_of ct_text_of oc_check_style kV_check_style dc_check_style pm_check_style cd_check_style ct_check_style oc_grouped kV_grouped dc_grouped pm_grouped cd_grouped ct_grouped oc_mark kV_mark dc_mark pm_mark cd_mark ct_mark oc_read_text kV_read_text dc_read_text pm_read_text cd_read_text ct_read_text oc_past_whole kV_past_whole dc_past_whole pm_past_whole cd_past_whole ct_past_whole oc_past_groups kV_past_groups dc_past_groups pm_past_groups cd_past_groups ct_past_groups oc_past_places kV_past_places dc_past_places pm_past_places cd_past_places ct_past_places oc_past_digits kV_past_digits dc_past_digits pm_past_digits cd_past_digits ct_past_digits oc_known_entries kV_known_entries dc_known_entries pm_known_entries cd_known_entries ct_known_entries oc_is_formed kV_is_formed dc_is_formed pm_is_formed cd_is_formed ct_is_formed oc_are_lines kV_are_lines dc_are_lines pm_are_lines cd_are_lines ct_are_lines oc_names_fit kV_names_fit dc_names_fit pm_names_fit cd_names_fit ct_names_fit oc_is_name kV_is_name dc_is_name pm_is_name cd_is_name ct_is_name oc_is_known kV_is_known dc_is_known pm_is_known cd_is_known ct_is_known oc_is_in_set kV_is_in_set dc_is_in_set pm_is_in_set cd_is_in_set ct_is_in_set oc_worths_fit kV_worths_fit dc_worths_fit pm_worths_fit cd_worths_fit ct_worths_fit oc_text_fits kV_text_fits dc_text_fits pm_text_fits cd_text_fits ct_text_fits oc_paper_text kV_paper_text dc_paper_text pm_paper_text cd_paper_text ct_paper_text oc_lines_of kV_lines_of dc_lines_of pm_lines_of cd_lines_of ct_lines_of oc_side_line kV_side_line dc_side_line pm_side_line cd_side_line ct_side_line oc_read_paper kV_read_paper dc_read_paper pm_read_paper cd_read_paper ct_read_paper oc_entry_of kV_entry_of dc_entry_of pm_entry_of cd_entry_of ct_entry_of oc_side_entry_of kV_side_entry_of dc_side_entry_of pm_side_entry_of cd_side_entry_of ct_side_entry_of oc_is_number kV_is_number dc_is_number pm_is_number cd_is_number ct_is_number oc_L_source kV_L_source dc_L_source pm_L_source cd_L_source ct_L_source oc_L_draw kV_L_draw dc_L_draw pm_L_draw cd_L_draw ct_L_draw oc_L_pick kV_L_pick dc_L_pick pm_L_pick cd_L_pick ct_L_pick oc_L_great kV_L_great dc_L_great pm_L_great cd_L_great ct_L_great oc_L_ten kV_L_ten dc_L_ten pm_L_ten cd_L_ten ct_L_ten oc_L_step kV_L_step dc_L_step pm_L_step cd_L_step ct_L_step oc_L_side kV_L_side dc_L_side pm_L_side cd_L_side ct_L_side oc_L_text kV_L_text dc_L_text pm_L_text cd_L_text ct_L_text oc_L_entries kV_L_entries dc_L_entries pm_L_entries cd_L_entries ct_L_entries oc_L_is_whole kV_L_is_whole dc_L_is_whole pm_L_is_whole cd_L_is_whole ct_L_is_whole oc_L_is_name kV_L_is_name dc_L_is_name pm_L_is_name cd_L_is_name ct_L_is_name oc_L_is_side kV_L_is_side dc_L_is_side pm_L_is_side cd_L_is_side ct_L_is_side oc_L_is_text kV_L_is_text dc_L_is_text pm_L_is_text cd_L_is_text ct_L_is_text oc_L_is_right kV_L_is_right dc_L_is_right pm_L_is_right cd_L_is_right ct_L_is_right oc_L_number kV_L_number dc_L_number pm_L_number cd_L_number ct_L_number oc_L_side_entry kV_L_side_entry dc_L_side_entry pm_L_side_entry cd_L_side_entry ct_L_side_entry oc_L_started kV_L_started dc_L_started pm_L_started cd_L_started ct_L_started oc_L_log_line kV_L_log_line dc_L_log_line pm_L_log_line cd_L_log_line ct_L_log_line oc_L_due kV_L_due dc_L_due pm_L_due cd_L_due ct_L_due oc_L_told kV_L_told dc_L_told pm_L_told cd_L_told ct_L_told oc_L_others kV_L_others dc_L_others pm_L_others cd_L_others ct_L_others oc_L_log_lines kV_L_log_lines dc_L_log_lines pm_L_log_lines cd_L_log_lines ct_L_log_lines oc_L_spoiled kV_L_spoiled dc_L_spoiled pm_L_spoiled cd_L_spoiled ct_L_spoiled oc_law kV_law dc_law pm_law cd_law ct_law u_sign u_group u_width ocRinit kVRinit dcRinit pmRinit cdRinit ctRinit ocRfault kVRfault dcRfault pmRfault cdRfault ctRfault ocRentry kVRentry dcRentry pmRentry cdRentry ctRentry ocRwithin kVRwithin dcRwithin pmRwithin cdRwithin ctRwithin ocRend kVRend dcRend pmRend cdRend ctRend ocRadd kVRadd dcRadd pmRadd cdRadd ctRadd ocT kVT dcT pmT cdT ctT ocL kVL dcL pmL cdL ctL : Value} {nmT qT nmL qL : Str} {NT NL : Addr} {bsT subT bsL subL : List Value} {snT snL : List Str} {abT abL : Bool} {colT colL : Option Bool} {ddT ddL : Option Addr} {m0T m1T m2T m3T m5T m0L m1L m2L m3L m5L : Option Value}
    (a_is_int : PySem.W.nsIn K mainGlobals "is_int" = some (some (.ref f_is_int)))
    (l_is_int : K.lookup f_is_int = some ⟨oc_is_int, od_is_int, .func (PySem.W.fnOf "is_int" "is_int" (defArgs s_is_int) (defBody s_is_int) (defScope s_is_int) .none kV_is_int dc_is_int pm_is_int an_is_int cd_is_int ct_is_int), sl_is_int⟩)
    (c_is_int : PySem.W.codeIn K cd_is_int "is_int" = true) (k_is_int : PySem.W.keepIn K (.ref f_is_int) = true)
    (a_is_int_between : PySem.W.nsIn K mainGlobals "is_int_between" = some (some (.ref f_is_int_between)))
    (l_is_int_between : K.lookup f_is_int_between = some ⟨oc_is_int_between, od_is_int_between, .func (PySem.W.fnOf "is_int_between" "is_int_between" (defArgs s_is_int_between) (defBody s_is_int_between) (defScope s_is_int_between) .none kV_is_int_between dc_is_int_between pm_is_int_between an_is_int_between cd_is_int_between ct_is_int_between), sl_is_int_between⟩)
    (c_is_int_between : PySem.W.codeIn K cd_is_int_between "is_int_between" = true) (k_is_int_between : PySem.W.keepIn K (.ref f_is_int_between) = true)
    (a_check_value : PySem.W.nsIn K mainGlobals "check_value" = some (some (.ref f_check_value)))
    (l_check_value : K.lookup f_check_value = some ⟨oc_check_value, od_check_value, .func (PySem.W.fnOf "check_value" "check_value" (defArgs s_check_value) (defBody s_check_value) (defScope s_check_value) .none kV_check_value dc_check_value pm_check_value an_check_value cd_check_value ct_check_value), sl_check_value⟩)
    (c_check_value : PySem.W.codeIn K cd_check_value "check_value" = true) (k_check_value : PySem.W.keepIn K (.ref f_check_value) = true)
    (a_check_side : PySem.W.nsIn K mainGlobals "check_side" = some (some (.ref f_check_side)))
    (l_check_side : K.lookup f_check_side = some ⟨oc_check_side, od_check_side, .func (PySem.W.fnOf "check_side" "check_side" (defArgs s_check_side) (defBody s_check_side) (defScope s_check_side) .none kV_check_side dc_check_side pm_check_side an_check_side cd_check_side ct_check_side), sl_check_side⟩)
    (c_check_side : PySem.W.codeIn K cd_check_side "check_side" = true) (k_check_side : PySem.W.keepIn K (.ref f_check_side) = true)
    (a_is_side : PySem.W.nsIn K mainGlobals "is_side" = some (some (.ref f_is_side)))
    (l_is_side : K.lookup f_is_side = some ⟨oc_is_side, od_is_side, .func (PySem.W.fnOf "is_side" "is_side" (defArgs s_is_side) (defBody s_is_side) (defScope s_is_side) .none kV_is_side dc_is_side pm_is_side an_is_side cd_is_side ct_is_side), sl_is_side⟩)
    (c_is_side : PySem.W.codeIn K cd_is_side "is_side" = true) (k_is_side : PySem.W.keepIn K (.ref f_is_side) = true)
    (a_text_of : PySem.W.nsIn K mainGlobals "text_of" = some (some (.ref f_text_of)))
    (l_text_of : K.lookup f_text_of = some ⟨oc_text_of, od_text_of, .func (PySem.W.fnOf "text_of" "text_of" (defArgs s_text_of) (defBody s_text_of) (defScope s_text_of) .none (.ref aD) dc_text_of pm_text_of an_text_of cd_text_of ct_text_of), sl_text_of⟩)
    (c_text_of : PySem.W.codeIn K cd_text_of "text_of" = true) (k_text_of : PySem.W.keepIn K (.ref f_text_of) = true)
    (a_check_style : PySem.W.nsIn K mainGlobals "_check_style" = some (some (.ref f_check_style)))
    (l_check_style : K.lookup f_check_style = some ⟨oc_check_style, od_check_style, .func (PySem.W.fnOf "_check_style" "_check_style" (defArgs s_check_style) (defBody s_check_style) (defScope s_check_style) .none kV_check_style dc_check_style pm_check_style an_check_style cd_check_style ct_check_style), sl_check_style⟩)
    (c_check_style : PySem.W.codeIn K cd_check_style "_check_style" = true) (k_check_style : PySem.W.keepIn K (.ref f_check_style) = true)
    (a_grouped : PySem.W.nsIn K mainGlobals "_grouped" = some (some (.ref f_grouped)))
    (l_grouped : K.lookup f_grouped = some ⟨oc_grouped, od_grouped, .func (PySem.W.fnOf "_grouped" "_grouped" (defArgs s_grouped) (defBody s_grouped) (defScope s_grouped) .none kV_grouped dc_grouped pm_grouped an_grouped cd_grouped ct_grouped), sl_grouped⟩)
    (c_grouped : PySem.W.codeIn K cd_grouped "_grouped" = true) (k_grouped : PySem.W.keepIn K (.ref f_grouped) = true)
    (a_mark : PySem.W.nsIn K mainGlobals "_mark" = some (some (.ref f_mark)))
    (l_mark : K.lookup f_mark = some ⟨oc_mark, od_mark, .func (PySem.W.fnOf "_mark" "_mark" (defArgs s_mark) (defBody s_mark) (defScope s_mark) .none kV_mark dc_mark pm_mark an_mark cd_mark ct_mark), sl_mark⟩)
    (c_mark : PySem.W.codeIn K cd_mark "_mark" = true) (k_mark : PySem.W.keepIn K (.ref f_mark) = true)
    (a_read_text : PySem.W.nsIn K mainGlobals "read_text" = some (some (.ref f_read_text)))
    (l_read_text : K.lookup f_read_text = some ⟨oc_read_text, od_read_text, .func (PySem.W.fnOf "read_text" "read_text" (defArgs s_read_text) (defBody s_read_text) (defScope s_read_text) .none kV_read_text dc_read_text pm_read_text an_read_text cd_read_text ct_read_text), sl_read_text⟩)
    (c_read_text : PySem.W.codeIn K cd_read_text "read_text" = true) (k_read_text : PySem.W.keepIn K (.ref f_read_text) = true)
    (a_past_whole : PySem.W.nsIn K mainGlobals "_past_whole" = some (some (.ref f_past_whole)))
    (l_past_whole : K.lookup f_past_whole = some ⟨oc_past_whole, od_past_whole, .func (PySem.W.fnOf "_past_whole" "_past_whole" (defArgs s_past_whole) (defBody s_past_whole) (defScope s_past_whole) .none kV_past_whole dc_past_whole pm_past_whole an_past_whole cd_past_whole ct_past_whole), sl_past_whole⟩)
    (c_past_whole : PySem.W.codeIn K cd_past_whole "_past_whole" = true) (k_past_whole : PySem.W.keepIn K (.ref f_past_whole) = true)
    (a_past_groups : PySem.W.nsIn K mainGlobals "_past_groups" = some (some (.ref f_past_groups)))
    (l_past_groups : K.lookup f_past_groups = some ⟨oc_past_groups, od_past_groups, .func (PySem.W.fnOf "_past_groups" "_past_groups" (defArgs s_past_groups) (defBody s_past_groups) (defScope s_past_groups) .none kV_past_groups dc_past_groups pm_past_groups an_past_groups cd_past_groups ct_past_groups), sl_past_groups⟩)
    (c_past_groups : PySem.W.codeIn K cd_past_groups "_past_groups" = true) (k_past_groups : PySem.W.keepIn K (.ref f_past_groups) = true)
    (a_past_places : PySem.W.nsIn K mainGlobals "_past_places" = some (some (.ref f_past_places)))
    (l_past_places : K.lookup f_past_places = some ⟨oc_past_places, od_past_places, .func (PySem.W.fnOf "_past_places" "_past_places" (defArgs s_past_places) (defBody s_past_places) (defScope s_past_places) .none kV_past_places dc_past_places pm_past_places an_past_places cd_past_places ct_past_places), sl_past_places⟩)
    (c_past_places : PySem.W.codeIn K cd_past_places "_past_places" = true) (k_past_places : PySem.W.keepIn K (.ref f_past_places) = true)
    (a_past_digits : PySem.W.nsIn K mainGlobals "_past_digits" = some (some (.ref f_past_digits)))
    (l_past_digits : K.lookup f_past_digits = some ⟨oc_past_digits, od_past_digits, .func (PySem.W.fnOf "_past_digits" "_past_digits" (defArgs s_past_digits) (defBody s_past_digits) (defScope s_past_digits) .none kV_past_digits dc_past_digits pm_past_digits an_past_digits cd_past_digits ct_past_digits), sl_past_digits⟩)
    (c_past_digits : PySem.W.codeIn K cd_past_digits "_past_digits" = true) (k_past_digits : PySem.W.keepIn K (.ref f_past_digits) = true)
    (a_known_entries : PySem.W.nsIn K mainGlobals "known_entries" = some (some (.ref f_known_entries)))
    (l_known_entries : K.lookup f_known_entries = some ⟨oc_known_entries, od_known_entries, .func (PySem.W.fnOf "known_entries" "known_entries" (defArgs s_known_entries) (defBody s_known_entries) (defScope s_known_entries) .none kV_known_entries dc_known_entries pm_known_entries an_known_entries cd_known_entries ct_known_entries), sl_known_entries⟩)
    (c_known_entries : PySem.W.codeIn K cd_known_entries "known_entries" = true) (k_known_entries : PySem.W.keepIn K (.ref f_known_entries) = true)
    (a_is_formed : PySem.W.nsIn K mainGlobals "_is_formed" = some (some (.ref f_is_formed)))
    (l_is_formed : K.lookup f_is_formed = some ⟨oc_is_formed, od_is_formed, .func (PySem.W.fnOf "_is_formed" "_is_formed" (defArgs s_is_formed) (defBody s_is_formed) (defScope s_is_formed) .none kV_is_formed dc_is_formed pm_is_formed an_is_formed cd_is_formed ct_is_formed), sl_is_formed⟩)
    (c_is_formed : PySem.W.codeIn K cd_is_formed "_is_formed" = true) (k_is_formed : PySem.W.keepIn K (.ref f_is_formed) = true)
    (a_are_lines : PySem.W.nsIn K mainGlobals "_are_lines" = some (some (.ref f_are_lines)))
    (l_are_lines : K.lookup f_are_lines = some ⟨oc_are_lines, od_are_lines, .func (PySem.W.fnOf "_are_lines" "_are_lines" (defArgs s_are_lines) (defBody s_are_lines) (defScope s_are_lines) .none kV_are_lines dc_are_lines pm_are_lines an_are_lines cd_are_lines ct_are_lines), sl_are_lines⟩)
    (c_are_lines : PySem.W.codeIn K cd_are_lines "_are_lines" = true) (k_are_lines : PySem.W.keepIn K (.ref f_are_lines) = true)
    (a_names_fit : PySem.W.nsIn K mainGlobals "names_fit" = some (some (.ref f_names_fit)))
    (l_names_fit : K.lookup f_names_fit = some ⟨oc_names_fit, od_names_fit, .func (PySem.W.fnOf "names_fit" "names_fit" (defArgs s_names_fit) (defBody s_names_fit) (defScope s_names_fit) .none kV_names_fit dc_names_fit pm_names_fit an_names_fit cd_names_fit ct_names_fit), sl_names_fit⟩)
    (c_names_fit : PySem.W.codeIn K cd_names_fit "names_fit" = true) (k_names_fit : PySem.W.keepIn K (.ref f_names_fit) = true)
    (a_is_name : PySem.W.nsIn K mainGlobals "_is_name" = some (some (.ref f_is_name)))
    (l_is_name : K.lookup f_is_name = some ⟨oc_is_name, od_is_name, .func (PySem.W.fnOf "_is_name" "_is_name" (defArgs s_is_name) (defBody s_is_name) (defScope s_is_name) .none kV_is_name dc_is_name pm_is_name an_is_name cd_is_name ct_is_name), sl_is_name⟩)
    (c_is_name : PySem.W.codeIn K cd_is_name "_is_name" = true) (k_is_name : PySem.W.keepIn K (.ref f_is_name) = true)
    (a_is_known : PySem.W.nsIn K mainGlobals "is_known" = some (some (.ref f_is_known)))
    (l_is_known : K.lookup f_is_known = some ⟨oc_is_known, od_is_known, .func (PySem.W.fnOf "is_known" "is_known" (defArgs s_is_known) (defBody s_is_known) (defScope s_is_known) .none kV_is_known dc_is_known pm_is_known an_is_known cd_is_known ct_is_known), sl_is_known⟩)
    (c_is_known : PySem.W.codeIn K cd_is_known "is_known" = true) (k_is_known : PySem.W.keepIn K (.ref f_is_known) = true)
    (a_is_in_set : PySem.W.nsIn K mainGlobals "is_in_set" = some (some (.ref f_is_in_set)))
    (l_is_in_set : K.lookup f_is_in_set = some ⟨oc_is_in_set, od_is_in_set, .func (PySem.W.fnOf "is_in_set" "is_in_set" (defArgs s_is_in_set) (defBody s_is_in_set) (defScope s_is_in_set) .none kV_is_in_set dc_is_in_set pm_is_in_set an_is_in_set cd_is_in_set ct_is_in_set), sl_is_in_set⟩)
    (c_is_in_set : PySem.W.codeIn K cd_is_in_set "is_in_set" = true) (k_is_in_set : PySem.W.keepIn K (.ref f_is_in_set) = true)
    (a_worths_fit : PySem.W.nsIn K mainGlobals "worths_fit" = some (some (.ref f_worths_fit)))
    (l_worths_fit : K.lookup f_worths_fit = some ⟨oc_worths_fit, od_worths_fit, .func (PySem.W.fnOf "worths_fit" "worths_fit" (defArgs s_worths_fit) (defBody s_worths_fit) (defScope s_worths_fit) .none kV_worths_fit dc_worths_fit pm_worths_fit an_worths_fit cd_worths_fit ct_worths_fit), sl_worths_fit⟩)
    (c_worths_fit : PySem.W.codeIn K cd_worths_fit "worths_fit" = true) (k_worths_fit : PySem.W.keepIn K (.ref f_worths_fit) = true)
    (a_text_fits : PySem.W.nsIn K mainGlobals "text_fits" = some (some (.ref f_text_fits)))
    (l_text_fits : K.lookup f_text_fits = some ⟨oc_text_fits, od_text_fits, .func (PySem.W.fnOf "text_fits" "text_fits" (defArgs s_text_fits) (defBody s_text_fits) (defScope s_text_fits) .none kV_text_fits dc_text_fits pm_text_fits an_text_fits cd_text_fits ct_text_fits), sl_text_fits⟩)
    (c_text_fits : PySem.W.codeIn K cd_text_fits "text_fits" = true) (k_text_fits : PySem.W.keepIn K (.ref f_text_fits) = true)
    (a_paper_text : PySem.W.nsIn K mainGlobals "paper_text" = some (some (.ref f_paper_text)))
    (l_paper_text : K.lookup f_paper_text = some ⟨oc_paper_text, od_paper_text, .func (PySem.W.fnOf "paper_text" "paper_text" (defArgs s_paper_text) (defBody s_paper_text) (defScope s_paper_text) .none kV_paper_text dc_paper_text pm_paper_text an_paper_text cd_paper_text ct_paper_text), sl_paper_text⟩)
    (c_paper_text : PySem.W.codeIn K cd_paper_text "paper_text" = true) (k_paper_text : PySem.W.keepIn K (.ref f_paper_text) = true)
    (a_lines_of : PySem.W.nsIn K mainGlobals "_lines_of" = some (some (.ref f_lines_of)))
    (l_lines_of : K.lookup f_lines_of = some ⟨oc_lines_of, od_lines_of, .func (PySem.W.fnOf "_lines_of" "_lines_of" (defArgs s_lines_of) (defBody s_lines_of) (defScope s_lines_of) .none kV_lines_of dc_lines_of pm_lines_of an_lines_of cd_lines_of ct_lines_of), sl_lines_of⟩)
    (c_lines_of : PySem.W.codeIn K cd_lines_of "_lines_of" = true) (k_lines_of : PySem.W.keepIn K (.ref f_lines_of) = true)
    (a_side_line : PySem.W.nsIn K mainGlobals "_side_line" = some (some (.ref f_side_line)))
    (l_side_line : K.lookup f_side_line = some ⟨oc_side_line, od_side_line, .func (PySem.W.fnOf "_side_line" "_side_line" (defArgs s_side_line) (defBody s_side_line) (defScope s_side_line) .none kV_side_line dc_side_line pm_side_line an_side_line cd_side_line ct_side_line), sl_side_line⟩)
    (c_side_line : PySem.W.codeIn K cd_side_line "_side_line" = true) (k_side_line : PySem.W.keepIn K (.ref f_side_line) = true)
    (a_read_paper : PySem.W.nsIn K mainGlobals "read_paper" = some (some (.ref f_read_paper)))
    (l_read_paper : K.lookup f_read_paper = some ⟨oc_read_paper, od_read_paper, .func (PySem.W.fnOf "read_paper" "read_paper" (defArgs s_read_paper) (defBody s_read_paper) (defScope s_read_paper) .none kV_read_paper dc_read_paper pm_read_paper an_read_paper cd_read_paper ct_read_paper), sl_read_paper⟩)
    (c_read_paper : PySem.W.codeIn K cd_read_paper "read_paper" = true) (k_read_paper : PySem.W.keepIn K (.ref f_read_paper) = true)
    (a_entry_of : PySem.W.nsIn K mainGlobals "_entry_of" = some (some (.ref f_entry_of)))
    (l_entry_of : K.lookup f_entry_of = some ⟨oc_entry_of, od_entry_of, .func (PySem.W.fnOf "_entry_of" "_entry_of" (defArgs s_entry_of) (defBody s_entry_of) (defScope s_entry_of) .none kV_entry_of dc_entry_of pm_entry_of an_entry_of cd_entry_of ct_entry_of), sl_entry_of⟩)
    (c_entry_of : PySem.W.codeIn K cd_entry_of "_entry_of" = true) (k_entry_of : PySem.W.keepIn K (.ref f_entry_of) = true)
    (a_side_entry_of : PySem.W.nsIn K mainGlobals "_side_entry_of" = some (some (.ref f_side_entry_of)))
    (l_side_entry_of : K.lookup f_side_entry_of = some ⟨oc_side_entry_of, od_side_entry_of, .func (PySem.W.fnOf "_side_entry_of" "_side_entry_of" (defArgs s_side_entry_of) (defBody s_side_entry_of) (defScope s_side_entry_of) .none kV_side_entry_of dc_side_entry_of pm_side_entry_of an_side_entry_of cd_side_entry_of ct_side_entry_of), sl_side_entry_of⟩)
    (c_side_entry_of : PySem.W.codeIn K cd_side_entry_of "_side_entry_of" = true) (k_side_entry_of : PySem.W.keepIn K (.ref f_side_entry_of) = true)
    (a_is_number : PySem.W.nsIn K mainGlobals "_is_number" = some (some (.ref f_is_number)))
    (l_is_number : K.lookup f_is_number = some ⟨oc_is_number, od_is_number, .func (PySem.W.fnOf "_is_number" "_is_number" (defArgs s_is_number) (defBody s_is_number) (defScope s_is_number) .none kV_is_number dc_is_number pm_is_number an_is_number cd_is_number ct_is_number), sl_is_number⟩)
    (c_is_number : PySem.W.codeIn K cd_is_number "_is_number" = true) (k_is_number : PySem.W.keepIn K (.ref f_is_number) = true)
    (a_L_source : PySem.W.nsIn K mainGlobals "_law_source" = some (some (.ref f_L_source)))
    (l_L_source : K.lookup f_L_source = some ⟨oc_L_source, od_L_source, .func (PySem.W.fnOf "_law_source" "_law_source" (defArgs s_L_source) (defBody s_L_source) (defScope s_L_source) .none kV_L_source dc_L_source pm_L_source an_L_source cd_L_source ct_L_source), sl_L_source⟩)
    (c_L_source : PySem.W.codeIn K cd_L_source "_law_source" = true) (k_L_source : PySem.W.keepIn K (.ref f_L_source) = true)
    (a_L_draw : PySem.W.nsIn K mainGlobals "_law_draw" = some (some (.ref f_L_draw)))
    (l_L_draw : K.lookup f_L_draw = some ⟨oc_L_draw, od_L_draw, .func (PySem.W.fnOf "_law_draw" "_law_draw" (defArgs s_L_draw) (defBody s_L_draw) (defScope s_L_draw) .none kV_L_draw dc_L_draw pm_L_draw an_L_draw cd_L_draw ct_L_draw), sl_L_draw⟩)
    (c_L_draw : PySem.W.codeIn K cd_L_draw "_law_draw" = true) (k_L_draw : PySem.W.keepIn K (.ref f_L_draw) = true)
    (a_L_pick : PySem.W.nsIn K mainGlobals "_law_pick" = some (some (.ref f_L_pick)))
    (l_L_pick : K.lookup f_L_pick = some ⟨oc_L_pick, od_L_pick, .func (PySem.W.fnOf "_law_pick" "_law_pick" (defArgs s_L_pick) (defBody s_L_pick) (defScope s_L_pick) .none kV_L_pick dc_L_pick pm_L_pick an_L_pick cd_L_pick ct_L_pick), sl_L_pick⟩)
    (c_L_pick : PySem.W.codeIn K cd_L_pick "_law_pick" = true) (k_L_pick : PySem.W.keepIn K (.ref f_L_pick) = true)
    (a_L_great : PySem.W.nsIn K mainGlobals "_law_great" = some (some (.ref f_L_great)))
    (l_L_great : K.lookup f_L_great = some ⟨oc_L_great, od_L_great, .func (PySem.W.fnOf "_law_great" "_law_great" (defArgs s_L_great) (defBody s_L_great) (defScope s_L_great) .none kV_L_great dc_L_great pm_L_great an_L_great cd_L_great ct_L_great), sl_L_great⟩)
    (c_L_great : PySem.W.codeIn K cd_L_great "_law_great" = true) (k_L_great : PySem.W.keepIn K (.ref f_L_great) = true)
    (a_L_ten : PySem.W.nsIn K mainGlobals "_law_ten" = some (some (.ref f_L_ten)))
    (l_L_ten : K.lookup f_L_ten = some ⟨oc_L_ten, od_L_ten, .func (PySem.W.fnOf "_law_ten" "_law_ten" (defArgs s_L_ten) (defBody s_L_ten) (defScope s_L_ten) .none kV_L_ten dc_L_ten pm_L_ten an_L_ten cd_L_ten ct_L_ten), sl_L_ten⟩)
    (c_L_ten : PySem.W.codeIn K cd_L_ten "_law_ten" = true) (k_L_ten : PySem.W.keepIn K (.ref f_L_ten) = true)
    (a_L_step : PySem.W.nsIn K mainGlobals "_law_step" = some (some (.ref f_L_step)))
    (l_L_step : K.lookup f_L_step = some ⟨oc_L_step, od_L_step, .func (PySem.W.fnOf "_law_step" "_law_step" (defArgs s_L_step) (defBody s_L_step) (defScope s_L_step) .none kV_L_step dc_L_step pm_L_step an_L_step cd_L_step ct_L_step), sl_L_step⟩)
    (c_L_step : PySem.W.codeIn K cd_L_step "_law_step" = true) (k_L_step : PySem.W.keepIn K (.ref f_L_step) = true)
    (a_L_side : PySem.W.nsIn K mainGlobals "_law_side" = some (some (.ref f_L_side)))
    (l_L_side : K.lookup f_L_side = some ⟨oc_L_side, od_L_side, .func (PySem.W.fnOf "_law_side" "_law_side" (defArgs s_L_side) (defBody s_L_side) (defScope s_L_side) .none kV_L_side dc_L_side pm_L_side an_L_side cd_L_side ct_L_side), sl_L_side⟩)
    (c_L_side : PySem.W.codeIn K cd_L_side "_law_side" = true) (k_L_side : PySem.W.keepIn K (.ref f_L_side) = true)
    (a_L_text : PySem.W.nsIn K mainGlobals "_law_text" = some (some (.ref f_L_text)))
    (l_L_text : K.lookup f_L_text = some ⟨oc_L_text, od_L_text, .func (PySem.W.fnOf "_law_text" "_law_text" (defArgs s_L_text) (defBody s_L_text) (defScope s_L_text) .none kV_L_text dc_L_text pm_L_text an_L_text cd_L_text ct_L_text), sl_L_text⟩)
    (c_L_text : PySem.W.codeIn K cd_L_text "_law_text" = true) (k_L_text : PySem.W.keepIn K (.ref f_L_text) = true)
    (a_L_entries : PySem.W.nsIn K mainGlobals "_law_entries" = some (some (.ref f_L_entries)))
    (l_L_entries : K.lookup f_L_entries = some ⟨oc_L_entries, od_L_entries, .func (PySem.W.fnOf "_law_entries" "_law_entries" (defArgs s_L_entries) (defBody s_L_entries) (defScope s_L_entries) .none kV_L_entries dc_L_entries pm_L_entries an_L_entries cd_L_entries ct_L_entries), sl_L_entries⟩)
    (c_L_entries : PySem.W.codeIn K cd_L_entries "_law_entries" = true) (k_L_entries : PySem.W.keepIn K (.ref f_L_entries) = true)
    (a_L_is_whole : PySem.W.nsIn K mainGlobals "_law_is_whole" = some (some (.ref f_L_is_whole)))
    (l_L_is_whole : K.lookup f_L_is_whole = some ⟨oc_L_is_whole, od_L_is_whole, .func (PySem.W.fnOf "_law_is_whole" "_law_is_whole" (defArgs s_L_is_whole) (defBody s_L_is_whole) (defScope s_L_is_whole) .none kV_L_is_whole dc_L_is_whole pm_L_is_whole an_L_is_whole cd_L_is_whole ct_L_is_whole), sl_L_is_whole⟩)
    (c_L_is_whole : PySem.W.codeIn K cd_L_is_whole "_law_is_whole" = true) (k_L_is_whole : PySem.W.keepIn K (.ref f_L_is_whole) = true)
    (a_L_is_name : PySem.W.nsIn K mainGlobals "_law_is_name" = some (some (.ref f_L_is_name)))
    (l_L_is_name : K.lookup f_L_is_name = some ⟨oc_L_is_name, od_L_is_name, .func (PySem.W.fnOf "_law_is_name" "_law_is_name" (defArgs s_L_is_name) (defBody s_L_is_name) (defScope s_L_is_name) .none kV_L_is_name dc_L_is_name pm_L_is_name an_L_is_name cd_L_is_name ct_L_is_name), sl_L_is_name⟩)
    (c_L_is_name : PySem.W.codeIn K cd_L_is_name "_law_is_name" = true) (k_L_is_name : PySem.W.keepIn K (.ref f_L_is_name) = true)
    (a_L_is_side : PySem.W.nsIn K mainGlobals "_law_is_side" = some (some (.ref f_L_is_side)))
    (l_L_is_side : K.lookup f_L_is_side = some ⟨oc_L_is_side, od_L_is_side, .func (PySem.W.fnOf "_law_is_side" "_law_is_side" (defArgs s_L_is_side) (defBody s_L_is_side) (defScope s_L_is_side) .none kV_L_is_side dc_L_is_side pm_L_is_side an_L_is_side cd_L_is_side ct_L_is_side), sl_L_is_side⟩)
    (c_L_is_side : PySem.W.codeIn K cd_L_is_side "_law_is_side" = true) (k_L_is_side : PySem.W.keepIn K (.ref f_L_is_side) = true)
    (a_L_is_text : PySem.W.nsIn K mainGlobals "_law_is_text" = some (some (.ref f_L_is_text)))
    (l_L_is_text : K.lookup f_L_is_text = some ⟨oc_L_is_text, od_L_is_text, .func (PySem.W.fnOf "_law_is_text" "_law_is_text" (defArgs s_L_is_text) (defBody s_L_is_text) (defScope s_L_is_text) .none kV_L_is_text dc_L_is_text pm_L_is_text an_L_is_text cd_L_is_text ct_L_is_text), sl_L_is_text⟩)
    (c_L_is_text : PySem.W.codeIn K cd_L_is_text "_law_is_text" = true) (k_L_is_text : PySem.W.keepIn K (.ref f_L_is_text) = true)
    (a_L_is_right : PySem.W.nsIn K mainGlobals "_law_is_right" = some (some (.ref f_L_is_right)))
    (l_L_is_right : K.lookup f_L_is_right = some ⟨oc_L_is_right, od_L_is_right, .func (PySem.W.fnOf "_law_is_right" "_law_is_right" (defArgs s_L_is_right) (defBody s_L_is_right) (defScope s_L_is_right) .none kV_L_is_right dc_L_is_right pm_L_is_right an_L_is_right cd_L_is_right ct_L_is_right), sl_L_is_right⟩)
    (c_L_is_right : PySem.W.codeIn K cd_L_is_right "_law_is_right" = true) (k_L_is_right : PySem.W.keepIn K (.ref f_L_is_right) = true)
    (a_L_number : PySem.W.nsIn K mainGlobals "_law_number" = some (some (.ref f_L_number)))
    (l_L_number : K.lookup f_L_number = some ⟨oc_L_number, od_L_number, .func (PySem.W.fnOf "_law_number" "_law_number" (defArgs s_L_number) (defBody s_L_number) (defScope s_L_number) .none kV_L_number dc_L_number pm_L_number an_L_number cd_L_number ct_L_number), sl_L_number⟩)
    (c_L_number : PySem.W.codeIn K cd_L_number "_law_number" = true) (k_L_number : PySem.W.keepIn K (.ref f_L_number) = true)
    (a_L_side_entry : PySem.W.nsIn K mainGlobals "_law_side_entry" = some (some (.ref f_L_side_entry)))
    (l_L_side_entry : K.lookup f_L_side_entry = some ⟨oc_L_side_entry, od_L_side_entry, .func (PySem.W.fnOf "_law_side_entry" "_law_side_entry" (defArgs s_L_side_entry) (defBody s_L_side_entry) (defScope s_L_side_entry) .none kV_L_side_entry dc_L_side_entry pm_L_side_entry an_L_side_entry cd_L_side_entry ct_L_side_entry), sl_L_side_entry⟩)
    (c_L_side_entry : PySem.W.codeIn K cd_L_side_entry "_law_side_entry" = true) (k_L_side_entry : PySem.W.keepIn K (.ref f_L_side_entry) = true)
    (a_L_started : PySem.W.nsIn K mainGlobals "_law_started" = some (some (.ref f_L_started)))
    (l_L_started : K.lookup f_L_started = some ⟨oc_L_started, od_L_started, .func (PySem.W.fnOf "_law_started" "_law_started" (defArgs s_L_started) (defBody s_L_started) (defScope s_L_started) .none kV_L_started dc_L_started pm_L_started an_L_started cd_L_started ct_L_started), sl_L_started⟩)
    (c_L_started : PySem.W.codeIn K cd_L_started "_law_started" = true) (k_L_started : PySem.W.keepIn K (.ref f_L_started) = true)
    (a_L_log_line : PySem.W.nsIn K mainGlobals "_law_log_line" = some (some (.ref f_L_log_line)))
    (l_L_log_line : K.lookup f_L_log_line = some ⟨oc_L_log_line, od_L_log_line, .func (PySem.W.fnOf "_law_log_line" "_law_log_line" (defArgs s_L_log_line) (defBody s_L_log_line) (defScope s_L_log_line) .none kV_L_log_line dc_L_log_line pm_L_log_line an_L_log_line cd_L_log_line ct_L_log_line), sl_L_log_line⟩)
    (c_L_log_line : PySem.W.codeIn K cd_L_log_line "_law_log_line" = true) (k_L_log_line : PySem.W.keepIn K (.ref f_L_log_line) = true)
    (a_L_due : PySem.W.nsIn K mainGlobals "_law_due" = some (some (.ref f_L_due)))
    (l_L_due : K.lookup f_L_due = some ⟨oc_L_due, od_L_due, .func (PySem.W.fnOf "_law_due" "_law_due" (defArgs s_L_due) (defBody s_L_due) (defScope s_L_due) .none kV_L_due dc_L_due pm_L_due an_L_due cd_L_due ct_L_due), sl_L_due⟩)
    (c_L_due : PySem.W.codeIn K cd_L_due "_law_due" = true) (k_L_due : PySem.W.keepIn K (.ref f_L_due) = true)
    (a_L_told : PySem.W.nsIn K mainGlobals "_law_told" = some (some (.ref f_L_told)))
    (l_L_told : K.lookup f_L_told = some ⟨oc_L_told, od_L_told, .func (PySem.W.fnOf "_law_told" "_law_told" (defArgs s_L_told) (defBody s_L_told) (defScope s_L_told) .none kV_L_told dc_L_told pm_L_told an_L_told cd_L_told ct_L_told), sl_L_told⟩)
    (c_L_told : PySem.W.codeIn K cd_L_told "_law_told" = true) (k_L_told : PySem.W.keepIn K (.ref f_L_told) = true)
    (a_L_others : PySem.W.nsIn K mainGlobals "_law_others" = some (some (.ref f_L_others)))
    (l_L_others : K.lookup f_L_others = some ⟨oc_L_others, od_L_others, .func (PySem.W.fnOf "_law_others" "_law_others" (defArgs s_L_others) (defBody s_L_others) (defScope s_L_others) .none kV_L_others dc_L_others pm_L_others an_L_others cd_L_others ct_L_others), sl_L_others⟩)
    (c_L_others : PySem.W.codeIn K cd_L_others "_law_others" = true) (k_L_others : PySem.W.keepIn K (.ref f_L_others) = true)
    (a_L_log_lines : PySem.W.nsIn K mainGlobals "_law_log_lines" = some (some (.ref f_L_log_lines)))
    (l_L_log_lines : K.lookup f_L_log_lines = some ⟨oc_L_log_lines, od_L_log_lines, .func (PySem.W.fnOf "_law_log_lines" "_law_log_lines" (defArgs s_L_log_lines) (defBody s_L_log_lines) (defScope s_L_log_lines) .none kV_L_log_lines dc_L_log_lines pm_L_log_lines an_L_log_lines cd_L_log_lines ct_L_log_lines), sl_L_log_lines⟩)
    (c_L_log_lines : PySem.W.codeIn K cd_L_log_lines "_law_log_lines" = true) (k_L_log_lines : PySem.W.keepIn K (.ref f_L_log_lines) = true)
    (a_L_spoiled : PySem.W.nsIn K mainGlobals "_law_spoiled" = some (some (.ref f_L_spoiled)))
    (l_L_spoiled : K.lookup f_L_spoiled = some ⟨oc_L_spoiled, od_L_spoiled, .func (PySem.W.fnOf "_law_spoiled" "_law_spoiled" (defArgs s_L_spoiled) (defBody s_L_spoiled) (defScope s_L_spoiled) .none kV_L_spoiled dc_L_spoiled pm_L_spoiled an_L_spoiled cd_L_spoiled ct_L_spoiled), sl_L_spoiled⟩)
    (c_L_spoiled : PySem.W.codeIn K cd_L_spoiled "_law_spoiled" = true) (k_L_spoiled : PySem.W.keepIn K (.ref f_L_spoiled) = true)
    (a_law : PySem.W.nsIn K mainGlobals "law" = some (some (.ref f_law)))
    (l_law : K.lookup f_law = some ⟨oc_law, od_law, .func (PySem.W.fnOf "law" "law" (defArgs s_law) (defBody s_law) (defScope s_law) .none kV_law dc_law pm_law an_law cd_law ct_law), sl_law⟩)
    (c_law : PySem.W.codeIn K cd_law "law" = true) (k_law : PySem.W.keepIn K (.ref f_law) = true)
    (z_isinstance : PySem.W.nsIn K mainGlobals "isinstance" = some none)
    (z_int : PySem.W.nsIn K mainGlobals "int" = some none)
    (z_bool : PySem.W.nsIn K mainGlobals "bool" = some none)
    (z_len : PySem.W.nsIn K mainGlobals "len" = some none)
    (z_str : PySem.W.nsIn K mainGlobals "str" = some none)
    (z_abs : PySem.W.nsIn K mainGlobals "abs" = some none)
    (z_range : PySem.W.nsIn K mainGlobals "range" = some none)
    (z_max : PySem.W.nsIn K mainGlobals "max" = some none)
    (z_min : PySem.W.nsIn K mainGlobals "min" = some none)
    (z_tuple : PySem.W.nsIn K mainGlobals "tuple" = some none)
    (z_divmod : PySem.W.nsIn K mainGlobals "divmod" = some none)
    (z_list : PySem.W.nsIn K mainGlobals "list" = some none)
    (z_all : PySem.W.nsIn K mainGlobals "all" = some none)
    (z_enumerate : PySem.W.nsIn K mainGlobals "enumerate" = some none)
    (z_ValueError : PySem.W.nsIn K mainGlobals "ValueError" = some none)
    (a_MODES : PySem.W.nsIn K mainGlobals "MODES" = some (some (.ref aM)))
    (l_MODES : K.lookup aM = some ⟨.type "tuple", odM, .seq itsM nM, slM⟩)
    (v_MODES : itsM.size ≤ sizeLine ∧ Vals modesV itsM.toList)
    (a_NO : PySem.W.nsIn K mainGlobals "NO_NAMES" = some (some (.ref aN)))
    (l_NO : K.lookup aN = some ⟨.type "tuple", odN, .seq itsN nN, slN⟩)
    (v_NO : itsN.size ≤ sizeLine ∧ Vals noN itsN.toList)
    (v_P : PySem.W.nsIn K mainGlobals "MOST_PLACES" = some (some (.int 60 tP)))
    (v_W : PySem.W.nsIn K mainGlobals "MOST_WIDTH" = some (some (.int 200 tW)))
    (v_D : PySem.W.nsIn K mainGlobals "DIGITS" = some (some (.str ("0123456789" : Str) tD)))
    (v_L : PySem.W.nsIn K mainGlobals "LETTERS" = some (some (.str lettS tL)))
    (v_ML : PySem.W.nsIn K mainGlobals "MOST_LETTERS" = some (some (.int 8 tML)))
    (v_MS : PySem.W.nsIn K mainGlobals "MOST_SIDES" = some (some (.int 4 tMS)))
    (v_SN : PySem.W.nsIn K mainGlobals "MOST_SEEN" = some (some (.int 50 tSN)))
    (v_MD : PySem.W.nsIn K mainGlobals "MOST_DIGITS" = some (some (.int 41 tMD)))
    (z_L : PySem.W.nsIn K cStatics "sys.int_max_str_digits" = some none)
    (z_S : PySem.W.nsIn K cStatics sharingNotToldKey = some none)
    (q_sign : PySem.W.nsIn K aD "sign" = some (some u_sign))
    (r_sign : RelV (.bl false) u_sign)
    (q_group : PySem.W.nsIn K aD "group" = some (some u_group))
    (r_group : RelV (.bl false) u_group)
    (q_width : PySem.W.nsIn K aD "width" = some (some u_width))
    (r_width : RelV (.int 0) u_width)
    (a_Reader : PySem.W.nsIn K mainGlobals "Reader" = some (some (.ref cR)))
    (cb_R : clsB K cR = true)
    (mk_R : PySem.W.makesIn K cR = true)
    (kp_R : PySem.W.keepIn K (.ref cR) = true)
    (at_R_init : PySem.W.findIn K (.ref cR) "__init__" = some (some (.ref fR_init)))
    (fn_R_init : PySem.W.isFn K (.ref fR_init) = true)
    (l_R_init : K.lookup fR_init = some ⟨ocRinit, odRinit, .func (PySem.W.fnOf "__init__" "Reader.__init__" (defArgs s_R_init) (defBody s_R_init) (defScope s_R_init) .none kVRinit dcRinit pmRinit anRinit cdRinit ctRinit), slRinit⟩)
    (c_R_init : PySem.W.codeIn K cdRinit "Reader.__init__" = true)
    (k_R_init : PySem.W.keepIn K (.ref fR_init) = true)
    (at_R_fault : PySem.W.findIn K (.ref cR) "fault_of" = some (some (.ref fR_fault)))
    (fn_R_fault : PySem.W.isFn K (.ref fR_fault) = true)
    (l_R_fault : K.lookup fR_fault = some ⟨ocRfault, odRfault, .func (PySem.W.fnOf "fault_of" "Reader.fault_of" (defArgs s_R_fault) (defBody s_R_fault) (defScope s_R_fault) .none kVRfault dcRfault pmRfault anRfault cdRfault ctRfault), slRfault⟩)
    (c_R_fault : PySem.W.codeIn K cdRfault "Reader.fault_of" = true)
    (k_R_fault : PySem.W.keepIn K (.ref fR_fault) = true)
    (at_R_entry : PySem.W.findIn K (.ref cR) "_fault_of_entry" = some (some (.ref fR_entry)))
    (fn_R_entry : PySem.W.isFn K (.ref fR_entry) = true)
    (l_R_entry : K.lookup fR_entry = some ⟨ocRentry, odRentry, .func (PySem.W.fnOf "_fault_of_entry" "Reader._fault_of_entry" (defArgs s_R_entry) (defBody s_R_entry) (defScope s_R_entry) .none kVRentry dcRentry pmRentry anRentry cdRentry ctRentry), slRentry⟩)
    (c_R_entry : PySem.W.codeIn K cdRentry "Reader._fault_of_entry" = true)
    (k_R_entry : PySem.W.keepIn K (.ref fR_entry) = true)
    (at_R_within : PySem.W.findIn K (.ref cR) "_fault_within" = some (some (.ref fR_within)))
    (fn_R_within : PySem.W.isFn K (.ref fR_within) = true)
    (l_R_within : K.lookup fR_within = some ⟨ocRwithin, odRwithin, .func (PySem.W.fnOf "_fault_within" "Reader._fault_within" (defArgs s_R_within) (defBody s_R_within) (defScope s_R_within) .none kVRwithin dcRwithin pmRwithin anRwithin cdRwithin ctRwithin), slRwithin⟩)
    (c_R_within : PySem.W.codeIn K cdRwithin "Reader._fault_within" = true)
    (k_R_within : PySem.W.keepIn K (.ref fR_within) = true)
    (at_R_end : PySem.W.findIn K (.ref cR) "_fault_of_end" = some (some (.ref fR_end)))
    (fn_R_end : PySem.W.isFn K (.ref fR_end) = true)
    (l_R_end : K.lookup fR_end = some ⟨ocRend, odRend, .func (PySem.W.fnOf "_fault_of_end" "Reader._fault_of_end" (defArgs s_R_end) (defBody s_R_end) (defScope s_R_end) .none kVRend dcRend pmRend anRend cdRend ctRend), slRend⟩)
    (c_R_end : PySem.W.codeIn K cdRend "Reader._fault_of_end" = true)
    (k_R_end : PySem.W.keepIn K (.ref fR_end) = true)
    (at_R_add : PySem.W.findIn K (.ref cR) "_add" = some (some (.ref fR_add)))
    (fn_R_add : PySem.W.isFn K (.ref fR_add) = true)
    (l_R_add : K.lookup fR_add = some ⟨ocRadd, odRadd, .func (PySem.W.fnOf "_add" "Reader._add" (defArgs s_R_add) (defBody s_R_add) (defScope s_R_add) .none kVRadd dcRadd pmRadd anRadd cdRadd ctRadd), slRadd⟩)
    (c_R_add : PySem.W.codeIn K cdRadd "Reader._add" = true)
    (k_R_add : PySem.W.keepIn K (.ref fR_add) = true)
    (na_entries : PySem.W.findIn K (.ref cR) "entries" = some none)
    (na_log : PySem.W.findIn K (.ref cR) "log" = some none)
    (na_lines : PySem.W.findIn K (.ref cR) "_lines" = some none)
    (na_known : PySem.W.findIn K (.ref cR) "_known" = some none)
    (g_T : PySem.W.nsIn K mainGlobals "InvalidText" = some (some (.ref cT)))
    (g_S : PySem.W.nsIn K mainGlobals "InvalidSide" = some (some (.ref cS)))
    (g_L : PySem.W.nsIn K mainGlobals "InvalidLine" = some (some (.ref cL)))
    (g_V : PySem.W.nsIn K mainGlobals "InvalidEntries" = some (some (.ref cV)))
    (g_B : PySem.W.nsIn K mainGlobals "HandedError" = some (some (.ref cB)))
    (xS : PySem.W.excIn K cS [.type "ValueError", .type "Exception", .type "BaseException", .type "object"] "ValueError.__new__" = true)
    (kcS : PySem.W.keepIn K (.ref cS) = true)
    (sbS : PySem.W.subIn K (.ref cS) (.type "BaseException") = some true)
    (tyS : PySem.W.typeIn K (.ref cS) = some (.type "type"))
    (emS : PySem.W.exmOne K (.ref cS) (.ref cS) = some true)
    (gsp : PySem.W.specialIn K (.builtin "object.__class__") "__get__" = some (some (.builtin "getset_descriptor.__get__")))
    (gtk : PySem.W.takesIn K (.builtin "object.__class__") = some true)
    (etT : errB K cT = true)
    (xT : K.lookup cT = some (excClassObj nmT qT cT NT bsT [.ref cB, .type "ValueError", .type "Exception", .type "BaseException", .type "object"] true snT subT abT colT ddT m0T m1T m2T m3T m5T "ValueError.__new__"))
    (saT : PySem.W.findIn K (.ref cT) "__setattr__" = some (some (.builtin "object.__setattr__")))
    (tyT : PySem.W.typeIn K (.ref cT) = some (.type "type"))
    (kcT : PySem.W.keepIn K (.ref cT) = true)
    (hdT : PySem.W.hasDictIn K cT = true)
    (inT : PySem.W.findIn K (.ref cT) "__init__" = some (some (.ref fiT)))
    (tfT : PySem.W.typeIn K (.ref fiT) = some (.type "function"))
    (liT : K.lookup fiT = some ⟨ocT, odT, .func (PySem.W.fnOf "__init__" "InvalidText.__init__" (defArgs sIT) (defBody sIT) (defScope sIT) .none kVT dcT pmT anT cdT ctT), slT⟩)
    (ciT : PySem.W.codeIn K cdT "InvalidText.__init__" = true)
    (kiT : PySem.W.keepIn K (.ref fiT) = true)
    (etL : errB K cL = true)
    (xL : K.lookup cL = some (excClassObj nmL qL cL NL bsL [.ref cB, .type "ValueError", .type "Exception", .type "BaseException", .type "object"] true snL subL abL colL ddL m0L m1L m2L m3L m5L "ValueError.__new__"))
    (saL : PySem.W.findIn K (.ref cL) "__setattr__" = some (some (.builtin "object.__setattr__")))
    (tyL : PySem.W.typeIn K (.ref cL) = some (.type "type"))
    (kcL : PySem.W.keepIn K (.ref cL) = true)
    (hdL : PySem.W.hasDictIn K cL = true)
    (inL : PySem.W.findIn K (.ref cL) "__init__" = some (some (.ref fiL)))
    (tfL : PySem.W.typeIn K (.ref fiL) = some (.type "function"))
    (liL : K.lookup fiL = some ⟨ocL, odL, .func (PySem.W.fnOf "__init__" "InvalidLine.__init__" (defArgs sIL) (defBody sIL) (defScope sIL) .none kVL dcL pmL anL cdL ctL), slL⟩)
    (ciL : PySem.W.codeIn K cdL "InvalidLine.__init__" = true)
    (kiL : PySem.W.keepIn K (.ref fiL) = true)
    (noat : PySem.W.findIn K (.ref cT) "at" = some none)
    (noli : PySem.W.findIn K (.ref cL) "line" = some none)
    (nore : PySem.W.findIn K (.ref cL) "reason" = some none)
    (emT : PySem.W.exmOne K (.ref cT) (.ref cT) = some true)
    (kD : PySem.W.kitOne K (.ref cL) (.ref cL) = some true)
    (kV : PySem.W.kitOne K (.ref cL) (.ref cV) = some false)
    (kE : PySem.W.kitOne K (.ref cL) (.type "ValueError") = some true)
    (em : PySem.W.exmOne K (.ref cL) (.ref cB) = some true) :
    ∃ fd : FuncData, (∀ (s : Shared) (v : Value), BindsTo s fd ⟨[v], []⟩ [("_law_script", v)]) ∧ ∀ base : Heap, K.In base → base.Ns mainGlobals mg → FnOk l.prog w K mg base CX0 12 fa fd ["_law_script"] (spLaw K) := by
  have e := hfa.symm.trans (PySem.W.mg_of X G a_law)
  cases e
  have F_is_int := fun_mk (st := s_is_int) l_is_int c_is_int k_is_int
  have b_is_int := F_is_int.binds (ps := ["thing"]) fun _ _ _ _ _ _ us hl => match us, hl with | [_], _ => rfl
  have m_is_int := PySem.W.mg_of X G a_is_int
  have F_is_int_between := fun_mk (st := s_is_int_between) l_is_int_between c_is_int_between k_is_int_between
  have b_is_int_between := F_is_int_between.binds (ps := ["thing", "least", "most"]) fun _ _ _ _ _ _ us hl => match us, hl with | [_, _, _], _ => rfl
  have m_is_int_between := PySem.W.mg_of X G a_is_int_between
  have F_check_value := fun_mk (st := s_check_value) l_check_value c_check_value k_check_value
  have b_check_value := F_check_value.binds (ps := ["value"]) fun _ _ _ _ _ _ us hl => match us, hl with | [_], _ => rfl
  have m_check_value := PySem.W.mg_of X G a_check_value
  have F_check_side := fun_mk (st := s_check_side) l_check_side c_check_side k_check_side
  have b_check_side := F_check_side.binds (ps := ["side"]) fun _ _ _ _ _ _ us hl => match us, hl with | [_], _ => rfl
  have m_check_side := PySem.W.mg_of X G a_check_side
  have F_is_side := fun_mk (st := s_is_side) l_is_side c_is_side k_is_side
  have b_is_side := F_is_side.binds (ps := ["thing"]) fun _ _ _ _ _ _ us hl => match us, hl with | [_], _ => rfl
  have m_is_side := PySem.W.mg_of X G a_is_side
  have m_text_of := PySem.W.mg_of X G a_text_of
  have F_check_style := fun_mk (st := s_check_style) l_check_style c_check_style k_check_style
  have b_check_style := F_check_style.binds (ps := ["sign", "group", "width"]) fun _ _ _ _ _ _ us hl => match us, hl with | [_, _, _], _ => rfl
  have m_check_style := PySem.W.mg_of X G a_check_style
  have F_grouped := fun_mk (st := s_grouped) l_grouped c_grouped k_grouped
  have b_grouped := F_grouped.binds (ps := ["digits"]) fun _ _ _ _ _ _ us hl => match us, hl with | [_], _ => rfl
  have m_grouped := PySem.W.mg_of X G a_grouped
  have F_mark := fun_mk (st := s_mark) l_mark c_mark k_mark
  have b_mark := F_mark.binds (ps := ["figure", "sign"]) fun _ _ _ _ _ _ us hl => match us, hl with | [_, _], _ => rfl
  have m_mark := PySem.W.mg_of X G a_mark
  have F_read_text := fun_mk (st := s_read_text) l_read_text c_read_text k_read_text
  have b_read_text := F_read_text.binds (ps := ["text"]) fun _ _ _ _ _ _ us hl => match us, hl with | [_], _ => rfl
  have m_read_text := PySem.W.mg_of X G a_read_text
  have F_past_whole := fun_mk (st := s_past_whole) l_past_whole c_past_whole k_past_whole
  have b_past_whole := F_past_whole.binds (ps := ["text", "at"]) fun _ _ _ _ _ _ us hl => match us, hl with | [_, _], _ => rfl
  have m_past_whole := PySem.W.mg_of X G a_past_whole
  have F_past_groups := fun_mk (st := s_past_groups) l_past_groups c_past_groups k_past_groups
  have b_past_groups := F_past_groups.binds (ps := ["text", "at"]) fun _ _ _ _ _ _ us hl => match us, hl with | [_, _], _ => rfl
  have m_past_groups := PySem.W.mg_of X G a_past_groups
  have F_past_places := fun_mk (st := s_past_places) l_past_places c_past_places k_past_places
  have b_past_places := F_past_places.binds (ps := ["text", "at"]) fun _ _ _ _ _ _ us hl => match us, hl with | [_, _], _ => rfl
  have m_past_places := PySem.W.mg_of X G a_past_places
  have F_past_digits := fun_mk (st := s_past_digits) l_past_digits c_past_digits k_past_digits
  have b_past_digits := F_past_digits.binds (ps := ["text", "at", "most"]) fun _ _ _ _ _ _ us hl => match us, hl with | [_, _, _], _ => rfl
  have m_past_digits := PySem.W.mg_of X G a_past_digits
  have F_known_entries := fun_mk (st := s_known_entries) l_known_entries c_known_entries k_known_entries
  have b_known_entries := F_known_entries.binds (ps := ["entries"]) fun _ _ _ _ _ _ us hl => match us, hl with | [_], _ => rfl
  have m_known_entries := PySem.W.mg_of X G a_known_entries
  have F_is_formed := fun_mk (st := s_is_formed) l_is_formed c_is_formed k_is_formed
  have b_is_formed := F_is_formed.binds (ps := ["thing"]) fun _ _ _ _ _ _ us hl => match us, hl with | [_], _ => rfl
  have m_is_formed := PySem.W.mg_of X G a_is_formed
  have F_are_lines := fun_mk (st := s_are_lines) l_are_lines c_are_lines k_are_lines
  have b_are_lines := F_are_lines.binds (ps := ["thing"]) fun _ _ _ _ _ _ us hl => match us, hl with | [_], _ => rfl
  have m_are_lines := PySem.W.mg_of X G a_are_lines
  have F_names_fit := fun_mk (st := s_names_fit) l_names_fit c_names_fit k_names_fit
  have b_names_fit := F_names_fit.binds (ps := ["entry", "known"]) fun _ _ _ _ _ _ us hl => match us, hl with | [_, _], _ => rfl
  have m_names_fit := PySem.W.mg_of X G a_names_fit
  have F_is_name := fun_mk (st := s_is_name) l_is_name c_is_name k_is_name
  have b_is_name := F_is_name.binds (ps := ["thing"]) fun _ _ _ _ _ _ us hl => match us, hl with | [_], _ => rfl
  have m_is_name := PySem.W.mg_of X G a_is_name
  have F_is_known := fun_mk (st := s_is_known) l_is_known c_is_known k_is_known
  have b_is_known := F_is_known.binds (ps := ["kind", "name", "known"]) fun _ _ _ _ _ _ us hl => match us, hl with | [_, _, _], _ => rfl
  have m_is_known := PySem.W.mg_of X G a_is_known
  have F_is_in_set := fun_mk (st := s_is_in_set) l_is_in_set c_is_in_set k_is_in_set
  have b_is_in_set := F_is_in_set.binds (ps := ["name", "group", "known"]) fun _ _ _ _ _ _ us hl => match us, hl with | [_, _, _], _ => rfl
  have m_is_in_set := PySem.W.mg_of X G a_is_in_set
  have F_worths_fit := fun_mk (st := s_worths_fit) l_worths_fit c_worths_fit k_worths_fit
  have b_worths_fit := F_worths_fit.binds (ps := ["entry", "known"]) fun _ _ _ _ _ _ us hl => match us, hl with | [_, _], _ => rfl
  have m_worths_fit := PySem.W.mg_of X G a_worths_fit
  have F_text_fits := fun_mk (st := s_text_fits) l_text_fits c_text_fits k_text_fits
  have b_text_fits := F_text_fits.binds (ps := ["name", "text", "known"]) fun _ _ _ _ _ _ us hl => match us, hl with | [_, _, _], _ => rfl
  have m_text_fits := PySem.W.mg_of X G a_text_fits
  have F_paper_text := fun_mk (st := s_paper_text) l_paper_text c_paper_text k_paper_text
  have b_paper_text := F_paper_text.binds (ps := ["entries"]) fun _ _ _ _ _ _ us hl => match us, hl with | [_], _ => rfl
  have m_paper_text := PySem.W.mg_of X G a_paper_text
  have F_lines_of := fun_mk (st := s_lines_of) l_lines_of c_lines_of k_lines_of
  have b_lines_of := F_lines_of.binds (ps := ["entry"]) fun _ _ _ _ _ _ us hl => match us, hl with | [_], _ => rfl
  have m_lines_of := PySem.W.mg_of X G a_lines_of
  have F_side_line := fun_mk (st := s_side_line) l_side_line c_side_line k_side_line
  have b_side_line := F_side_line.binds (ps := ["entry"]) fun _ _ _ _ _ _ us hl => match us, hl with | [_], _ => rfl
  have m_side_line := PySem.W.mg_of X G a_side_line
  have F_read_paper := fun_mk (st := s_read_paper) l_read_paper c_read_paper k_read_paper
  have b_read_paper := F_read_paper.binds (ps := ["text"]) fun _ _ _ _ _ _ us hl => match us, hl with | [_], _ => rfl
  have m_read_paper := PySem.W.mg_of X G a_read_paper
  have F_entry_of := fun_mk (st := s_entry_of) l_entry_of c_entry_of k_entry_of
  have b_entry_of := F_entry_of.binds (ps := ["words"]) fun _ _ _ _ _ _ us hl => match us, hl with | [_], _ => rfl
  have m_entry_of := PySem.W.mg_of X G a_entry_of
  have F_side_entry_of := fun_mk (st := s_side_entry_of) l_side_entry_of c_side_entry_of k_side_entry_of
  have b_side_entry_of := F_side_entry_of.binds (ps := ["words"]) fun _ _ _ _ _ _ us hl => match us, hl with | [_], _ => rfl
  have m_side_entry_of := PySem.W.mg_of X G a_side_entry_of
  have F_is_number := fun_mk (st := s_is_number) l_is_number c_is_number k_is_number
  have b_is_number := F_is_number.binds (ps := ["word"]) fun _ _ _ _ _ _ us hl => match us, hl with | [_], _ => rfl
  have m_is_number := PySem.W.mg_of X G a_is_number
  have F_L_source := fun_mk (st := s_L_source) l_L_source c_L_source k_L_source
  have b_L_source := F_L_source.binds (ps := ["_law_script"]) fun _ _ _ _ _ _ us hl => match us, hl with | [_], _ => rfl
  have m_L_source := PySem.W.mg_of X G a_L_source
  have F_L_draw := fun_mk (st := s_L_draw) l_L_draw c_L_draw k_L_draw
  have b_L_draw := F_L_draw.binds (ps := ["_law_source_here", "_law_limit"]) fun _ _ _ _ _ _ us hl => match us, hl with | [_, _], _ => rfl
  have m_L_draw := PySem.W.mg_of X G a_L_draw
  have F_L_pick := fun_mk (st := s_L_pick) l_L_pick c_L_pick k_L_pick
  have b_L_pick := F_L_pick.binds (ps := ["_law_source_here", "_law_values"]) fun _ _ _ _ _ _ us hl => match us, hl with | [_, _], _ => rfl
  have m_L_pick := PySem.W.mg_of X G a_L_pick
  have F_L_great := fun_mk (st := s_L_great) l_L_great c_L_great k_L_great
  have b_L_great := F_L_great.binds (ps := ["_law_source_here", "_law_limit"]) fun _ _ _ _ _ _ us hl => match us, hl with | [_, _], _ => rfl
  have m_L_great := PySem.W.mg_of X G a_L_great
  have F_L_ten := fun_mk (st := s_L_ten) l_L_ten c_L_ten k_L_ten
  have b_L_ten := F_L_ten.binds (ps := ["_law_many"]) fun _ _ _ _ _ _ us hl => match us, hl with | [_], _ => rfl
  have m_L_ten := PySem.W.mg_of X G a_L_ten
  have F_L_step := fun_mk (st := s_L_step) l_L_step c_L_step k_L_step
  have b_L_step := F_L_step.binds (ps := ["_law_source_here", "_law_most"]) fun _ _ _ _ _ _ us hl => match us, hl with | [_, _], _ => rfl
  have m_L_step := PySem.W.mg_of X G a_L_step
  have F_L_side := fun_mk (st := s_L_side) l_L_side c_L_side k_L_side
  have b_L_side := F_L_side.binds (ps := ["_law_source_here", "_law_most"]) fun _ _ _ _ _ _ us hl => match us, hl with | [_, _], _ => rfl
  have m_L_side := PySem.W.mg_of X G a_L_side
  have F_L_text := fun_mk (st := s_L_text) l_L_text c_L_text k_L_text
  have b_L_text := F_L_text.binds (ps := ["_law_figure", "_law_places"]) fun _ _ _ _ _ _ us hl => match us, hl with | [_, _], _ => rfl
  have m_L_text := PySem.W.mg_of X G a_L_text
  have F_L_entries := fun_mk (st := s_L_entries) l_L_entries c_L_entries k_L_entries
  have b_L_entries := F_L_entries.binds (ps := ["_law_source_here"]) fun _ _ _ _ _ _ us hl => match us, hl with | [_], _ => rfl
  have m_L_entries := PySem.W.mg_of X G a_L_entries
  have F_L_is_whole := fun_mk (st := s_L_is_whole) l_L_is_whole c_L_is_whole k_L_is_whole
  have b_L_is_whole := F_L_is_whole.binds (ps := ["_law_value", "_law_least", "_law_most"]) fun _ _ _ _ _ _ us hl => match us, hl with | [_, _, _], _ => rfl
  have m_L_is_whole := PySem.W.mg_of X G a_L_is_whole
  have F_L_is_name := fun_mk (st := s_L_is_name) l_L_is_name c_L_is_name k_L_is_name
  have b_L_is_name := F_L_is_name.binds (ps := ["_law_value"]) fun _ _ _ _ _ _ us hl => match us, hl with | [_], _ => rfl
  have m_L_is_name := PySem.W.mg_of X G a_L_is_name
  have F_L_is_side := fun_mk (st := s_L_is_side) l_L_is_side c_L_is_side k_L_is_side
  have b_L_is_side := F_L_is_side.binds (ps := ["_law_value"]) fun _ _ _ _ _ _ us hl => match us, hl with | [_], _ => rfl
  have m_L_is_side := PySem.W.mg_of X G a_L_is_side
  have F_L_is_text := fun_mk (st := s_L_is_text) l_L_is_text c_L_is_text k_L_is_text
  have b_L_is_text := F_L_is_text.binds (ps := ["_law_value", "_law_places"]) fun _ _ _ _ _ _ us hl => match us, hl with | [_, _], _ => rfl
  have m_L_is_text := PySem.W.mg_of X G a_L_is_text
  have F_L_is_right := fun_mk (st := s_L_is_right) l_L_is_right c_L_is_right k_L_is_right
  have b_L_is_right := F_L_is_right.binds (ps := ["_law_entry", "_law_sides", "_law_sets"]) fun _ _ _ _ _ _ us hl => match us, hl with | [_, _, _], _ => rfl
  have m_L_is_right := PySem.W.mg_of X G a_L_is_right
  have F_L_number := fun_mk (st := s_L_number) l_L_number c_L_number k_L_number
  have b_L_number := F_L_number.binds (ps := ["_law_word"]) fun _ _ _ _ _ _ us hl => match us, hl with | [_], _ => rfl
  have m_L_number := PySem.W.mg_of X G a_L_number
  have F_L_side_entry := fun_mk (st := s_L_side_entry) l_L_side_entry c_L_side_entry k_L_side_entry
  have b_L_side_entry := F_L_side_entry.binds (ps := ["_law_words"]) fun _ _ _ _ _ _ us hl => match us, hl with | [_], _ => rfl
  have m_L_side_entry := PySem.W.mg_of X G a_L_side_entry
  have F_L_started := fun_mk (st := s_L_started) l_L_started c_L_started k_L_started
  have b_L_started := F_L_started.binds (ps := ["_law_words", "_law_sides", "_law_sets", "_law_names"]) fun _ _ _ _ _ _ us hl => match us, hl with | [_, _, _, _], _ => rfl
  have m_L_started := PySem.W.mg_of X G a_L_started
  have F_L_log_line := fun_mk (st := s_L_log_line) l_L_log_line c_L_log_line k_L_log_line
  have b_L_log_line := F_L_log_line.binds (ps := ["_law_words", "_law_log", "_law_sides", "_law_sets"]) fun _ _ _ _ _ _ us hl => match us, hl with | [_, _, _, _], _ => rfl
  have m_L_log_line := PySem.W.mg_of X G a_L_log_line
  have F_L_due := fun_mk (st := s_L_due) l_L_due c_L_due k_L_due
  have b_L_due := F_L_due.binds (ps := ["_law_text_here"]) fun _ _ _ _ _ _ us hl => match us, hl with | [_], _ => rfl
  have m_L_due := PySem.W.mg_of X G a_L_due
  have F_L_told := fun_mk (st := s_L_told) l_L_told c_L_told k_L_told
  have b_L_told := F_L_told.binds (ps := ["_law_text_here"]) fun _ _ _ _ _ _ us hl => match us, hl with | [_], _ => rfl
  have m_L_told := PySem.W.mg_of X G a_L_told
  have F_L_others := fun_mk (st := s_L_others) l_L_others c_L_others k_L_others
  have b_L_others := F_L_others.binds (ps := []) fun _ _ _ _ _ _ us hl => match us, hl with | [], _ => rfl
  have m_L_others := PySem.W.mg_of X G a_L_others
  have F_L_log_lines := fun_mk (st := s_L_log_lines) l_L_log_lines c_L_log_lines k_L_log_lines
  have b_L_log_lines := F_L_log_lines.binds (ps := []) fun _ _ _ _ _ _ us hl => match us, hl with | [], _ => rfl
  have m_L_log_lines := PySem.W.mg_of X G a_L_log_lines
  have F_L_spoiled := fun_mk (st := s_L_spoiled) l_L_spoiled c_L_spoiled k_L_spoiled
  have b_L_spoiled := F_L_spoiled.binds (ps := ["_law_source_here", "_law_lines", "_law_words"]) fun _ _ _ _ _ _ us hl => match us, hl with | [_, _, _], _ => rfl
  have m_L_spoiled := PySem.W.mg_of X G a_L_spoiled
  have F_law := fun_mk (st := s_law) l_law c_law k_law
  have b_law := F_law.binds (ps := ["_law_script"]) fun _ _ _ _ _ _ us hl => match us, hl with | [_], _ => rfl
  have m_law := PySem.W.mg_of X G a_law
  have n_isinstance := PySem.W.mg_none_of X G z_isinstance
  have n_int := PySem.W.mg_none_of X G z_int
  have n_bool := PySem.W.mg_none_of X G z_bool
  have n_len := PySem.W.mg_none_of X G z_len
  have n_str := PySem.W.mg_none_of X G z_str
  have n_abs := PySem.W.mg_none_of X G z_abs
  have n_range := PySem.W.mg_none_of X G z_range
  have n_max := PySem.W.mg_none_of X G z_max
  have n_min := PySem.W.mg_none_of X G z_min
  have n_tuple := PySem.W.mg_none_of X G z_tuple
  have n_divmod := PySem.W.mg_none_of X G z_divmod
  have n_list := PySem.W.mg_none_of X G z_list
  have n_all := PySem.W.mg_none_of X G z_all
  have n_enumerate := PySem.W.mg_none_of X G z_enumerate
  have n_ValueError := PySem.W.mg_none_of X G z_ValueError
  have F_R_init := fun_mk (st := s_R_init) l_R_init c_R_init k_R_init
  have b_R_init := F_R_init.binds (ps := ["self"]) fun _ _ _ _ _ _ us hl => match us, hl with | [_], _ => rfl
  have F_R_fault := fun_mk (st := s_R_fault) l_R_fault c_R_fault k_R_fault
  have b_R_fault := F_R_fault.binds (ps := ["self", "words"]) fun _ _ _ _ _ _ us hl => match us, hl with | [_, _], _ => rfl
  have F_R_entry := fun_mk (st := s_R_entry) l_R_entry c_R_entry k_R_entry
  have b_R_entry := F_R_entry.binds (ps := ["self", "words"]) fun _ _ _ _ _ _ us hl => match us, hl with | [_, _], _ => rfl
  have F_R_within := fun_mk (st := s_R_within) l_R_within c_R_within k_R_within
  have b_R_within := F_R_within.binds (ps := ["self", "words"]) fun _ _ _ _ _ _ us hl => match us, hl with | [_, _], _ => rfl
  have F_R_end := fun_mk (st := s_R_end) l_R_end c_R_end k_R_end
  have b_R_end := F_R_end.binds (ps := ["self"]) fun _ _ _ _ _ _ us hl => match us, hl with | [_], _ => rfl
  have F_R_add := fun_mk (st := s_R_add) l_R_add c_R_add k_R_add
  have b_R_add := F_R_add.binds (ps := ["self", "entry"]) fun _ _ _ _ _ _ us hl => match us, hl with | [_, _], _ => rfl
  have BL : Blt mg := ⟨n_len, n_abs, n_int, n_range⟩
  have TT : TxtT mg tP tW := ⟨n_isinstance, n_int, n_bool, n_len, n_str, n_abs, n_range, n_max, PySem.W.mg_of X G v_P, PySem.W.mg_of X G v_W⟩
  have RT : ReadT mg := ⟨n_isinstance, n_str, n_len, n_int, n_max⟩
  have gD := PySem.W.mg_of X G v_D
  have gP := PySem.W.mg_of X G v_P
  have ST : SideT K mg aM := ⟨n_isinstance, n_int, n_bool, n_tuple, n_len, n_divmod, PySem.W.mg_of X G a_MODES, fun _ => .inr ⟨_, _, _, l_MODES, rfl, rfl, v_MODES.1, v_MODES.2⟩⟩
  have T : EnT K mg aN := { isi := n_isinstance, str := n_str, tuple := n_tuple, list := n_list, len := n_len, all := n_all, gN := PySem.W.mg_of X G a_NO, tN := fun _ => .inr ⟨_, _, _, l_NO, rfl, rfl, v_NO.1, v_NO.2⟩, lt := ⟨_, PySem.W.mg_of X G v_L⟩, ml := ⟨_, PySem.W.mg_of X G v_ML⟩, ms := ⟨_, PySem.W.mg_of X G v_MS⟩, mp := ⟨_, PySem.W.mg_of X G v_P⟩, sn := ⟨_, PySem.W.mg_of X G v_SN⟩ }
  have NT : NumT mg := { len := n_len, all := n_all, int := n_int, md := ⟨_, PySem.W.mg_of X G v_MD⟩, dg := ⟨_, PySem.W.mg_of X G v_D⟩ }
  have MT : MaxT mg := ⟨n_max, n_min⟩
  have LT : LwT mg := ⟨n_isinstance, n_str, n_tuple, n_list, n_len, n_int, n_bool, n_range, n_ValueError⟩
  have ECT := errB_ok etT
  have OT : OexC K cT := ⟨⟨_, _, _, _, _, _, _, _, _, _, _, _, _, _, _, xT, rfl⟩, saT, ECT.sb, tyT, kcT⟩
  have XT : XfC K cT := ⟨ECT.ga, ECT.gg, ECT.sb, hdT⟩
  have FT := fun_mk (st := sIT) liT ciT kiT
  have bT := FT.binds (ps := ["self", "at"]) fun _ _ _ _ _ _ us hl => match us, hl with | [_, _], _ => rfl
  have ECL := errB_ok etL
  have OL : OexC K cL := ⟨⟨_, _, _, _, _, _, _, _, _, _, _, _, _, _, _, xL, rfl⟩, saL, ECL.sb, tyL, kcL⟩
  have XL : XfC K cL := ⟨ECL.ga, ECL.gg, ECL.sb, hdL⟩
  have FL := fun_mk (st := sIL) liL ciL kiL
  have bL := FL.binds (ps := ["self", "line", "reason"]) fun _ _ _ _ _ _ us hl => match us, hl with | [_, _, _], _ => rfl
  have RS : Rz K mg "InvalidSide" cS := ⟨xS, PySem.W.mg_of X G g_S, kcS, sbS, tyS, emS⟩
  have EL : EtL K mg cL cV cB := { isi := n_isinstance, ve := n_ValueError, gB := PySem.W.mg_of X G g_B, gD := PySem.W.mg_of X G g_L, gV := PySem.W.mg_of X G g_V, ec := ECL, eg := ⟨gsp, gtk⟩, xf := XL, nl := noli, nr := nore, kD := kD, kV := kV, kE := kE, em := em }
  have gR := PySem.W.mg_of X G a_Reader
  have D_text_of : FunD K "text_of" "text_of" (defArgs s_text_of) (defBody s_text_of) (defScope s_text_of) [] [("sign", .bl false), ("group", .bl false), ("width", .int 0)] f_text_of _ := ⟨⟨_, _, _, _, _, _, _, _, _, _, rfl, l_text_of, c_text_of, .inl ⟨rfl, rfl⟩, .inr ⟨aD, rfl, fun q hq => by
    simp only [List.mem_cons, List.not_mem_nil, or_false] at hq
    rcases hq with e | e | e <;> subst e
    · exact ⟨_, q_sign, r_sign⟩
    · exact ⟨_, q_group, r_group⟩
    · exact ⟨_, q_width, r_width⟩⟩⟩, k_text_of⟩
  have clR := clsB_ok cb_R
  have MK : Mk K cR fR_init := ⟨mk_R, at_R_init, fn_R_init, kp_R⟩
  have ME_fault : Meth K cR "fault_of" fR_fault := ⟨at_R_fault, fn_R_fault, k_R_fault⟩
  have ME_entry : Meth K cR "_fault_of_entry" fR_entry := ⟨at_R_entry, fn_R_entry, k_R_entry⟩
  have ME_within : Meth K cR "_fault_within" fR_within := ⟨at_R_within, fn_R_within, k_R_within⟩
  have ME_end : Meth K cR "_fault_of_end" fR_end := ⟨at_R_end, fn_R_end, k_R_end⟩
  have ME_add : Meth K cR "_add" fR_add := ⟨at_R_add, fn_R_add, k_R_add⟩
  refine ⟨PySem.W.fnOf "law" "law" (defArgs s_law) (defBody s_law) (defScope s_law) .none kV_law dc_law pm_law an_law cd_law ct_law, fun s v => .of_eq rfl, fun base _ _ => ?_⟩
  have IC : ItC l.prog w K mg base cT fiT _ := ⟨OT, XT, inT, tfT, ok_IT FT OT noat, bT, PySem.W.mg_of X G g_T⟩
  have IL : IlC l.prog w K mg base cL fiL _ := ⟨OL, XL, inL, tfL, ok_IL FL OL noli nore, bL, PySem.W.mg_of X G g_L⟩
  have C_is_int : Cal l.prog w K mg base "is_int" 1 ["thing"] spIsInt f_is_int _ := ⟨ok_is_int F_is_int TT, m_is_int, k_is_int, b_is_int⟩
  have C_is_int_between : Cal l.prog w K mg base "is_int_between" 2 ["thing", "least", "most"] spBetween f_is_int_between _ := ⟨ok_between F_is_int_between C_is_int, m_is_int_between, k_is_int_between, b_is_int_between⟩
  have C_check_value : Cal l.prog w K mg base "check_value" 2 ["value"] spCheckValue f_check_value _ := ⟨ok_check_value F_check_value C_is_int, m_check_value, k_check_value, b_check_value⟩
  have C_check_side : Cal l.prog w K mg base "check_side" 3 ["side"] spCheckSide f_check_side _ := ⟨ok_check_side F_check_side ST C_is_int_between, m_check_side, k_check_side, b_check_side⟩
  have C_is_side : Cal l.prog w K mg base "is_side" 4 ["thing"] spIsSide f_is_side _ := ⟨ok_is_side F_is_side C_check_side, m_is_side, k_is_side, b_is_side⟩
  have C_check_style : Cal l.prog w K mg base "_check_style" 3 ["sign", "group", "width"] spStyle f_check_style _ := ⟨ok_style F_check_style TT C_is_int_between, m_check_style, k_check_style, b_check_style⟩
  have C_grouped : Cal l.prog w K mg base "_grouped" 1 ["digits"] spGrouped f_grouped _ := ⟨ok_grouped F_grouped TT, m_grouped, k_grouped, b_grouped⟩
  have C_mark : Cal l.prog w K mg base "_mark" 1 ["figure", "sign"] spMark f_mark _ := ⟨ok_mark F_mark, m_mark, k_mark, b_mark⟩
  have C_TX : TxC l.prog w K mg base f_text_of _ := ⟨D_text_of, ok_text_of D_text_of TT C_check_value C_is_int_between C_check_style C_grouped C_mark (fun _ _ h0 h1 hp => dig_ok h0 h1 hp), m_text_of, k_text_of⟩
  have C_past_digits : Cal l.prog w K mg base "_past_digits" 1 ["text", "at", "most"] spPastD f_past_digits _ := ⟨ok_past_digits F_past_digits n_len gD, m_past_digits, k_past_digits, b_past_digits⟩
  have C_past_places : CalX l.prog w K mg base "_past_places" 3 ["text", "at"] (spPlaces cT) f_past_places _ := ⟨ok_past_places F_past_places gP IC C_past_digits, m_past_places, k_past_places, b_past_places⟩
  have C_past_groups : CalX l.prog w K mg base "_past_groups" 3 ["text", "at"] (spGroups cT) f_past_groups _ := ⟨ok_past_groups F_past_groups IC C_past_digits, m_past_groups, k_past_groups, b_past_groups⟩
  have C_past_whole : CalX l.prog w K mg base "_past_whole" 4 ["text", "at"] (spWhole cT) f_past_whole _ := ⟨ok_past_whole F_past_whole n_len IC C_past_digits C_past_groups, m_past_whole, k_past_whole, b_past_whole⟩
  have C_read_text : CalX l.prog w K mg base "read_text" 5 ["text"] (spRead cT) f_read_text _ := ⟨ok_read_text F_read_text RT IC C_past_whole C_past_places, m_read_text, k_read_text, b_read_text⟩
  have X_check_side : CalX l.prog w K mg base "check_side" 3 ["side"] (spSideX cS) f_check_side _ := ⟨ok_check_side_x F_check_side ST RS C_is_int_between, m_check_side, k_check_side, b_check_side⟩
  have X_is_side : Cal l.prog w K mg base "is_side" 4 ["thing"] spIsSideX f_is_side _ := ⟨ok_is_side_x F_is_side RS X_check_side, m_is_side, k_is_side, b_is_side⟩
  have C_is_name : Cal l.prog w K mg base "_is_name" 1 ["thing"] spName f_is_name _ := ⟨ok_is_name F_is_name T, m_is_name, k_is_name, b_is_name⟩
  have X_is_name : Cal l.prog w K mg base "_is_name" 1 ["thing"] spNameX f_is_name _ := ⟨ok_is_name_x F_is_name T, m_is_name, k_is_name, b_is_name⟩
  have C_is_known : Cal l.prog w K mg base "is_known" 1 ["kind", "name", "known"] spIsKn f_is_known _ := ⟨ok_is_known F_is_known T, m_is_known, k_is_known, b_is_known⟩
  have X_is_known : Cal l.prog w K mg base "is_known" 1 ["kind", "name", "known"] spIsKnX f_is_known _ := ⟨ok_is_known_x F_is_known T, m_is_known, k_is_known, b_is_known⟩
  have C_is_in_set : Cal l.prog w K mg base "is_in_set" 1 ["name", "group", "known"] spInSet f_is_in_set _ := ⟨ok_in_set F_is_in_set, m_is_in_set, k_is_in_set, b_is_in_set⟩
  have X_is_in_set : Cal l.prog w K mg base "is_in_set" 1 ["name", "group", "known"] spInSetX f_is_in_set _ := ⟨ok_in_set_x F_is_in_set, m_is_in_set, k_is_in_set, b_is_in_set⟩
  have X_text_fits : Cal l.prog w K mg base "text_fits" 6 ["name", "text", "known"] spTxX f_text_fits _ := ⟨ok_text_fits_x F_text_fits C_TX (PySem.W.mg_of X G g_T) emT C_read_text, m_text_fits, k_text_fits, b_text_fits⟩
  have C_text_fits : Cal l.prog w K mg base "text_fits" 6 ["name", "text", "known"] spTxFits f_text_fits _ := ⟨tx_good X_text_fits.ok, m_text_fits, k_text_fits, b_text_fits⟩
  have C_names_fit : Cal l.prog w K mg base "names_fit" 2 ["entry", "known"] spFits f_names_fit _ := ⟨ok_names_fit F_names_fit T C_is_name C_is_known C_is_in_set, m_names_fit, k_names_fit, b_names_fit⟩
  have X_names_fit : Cal l.prog w K mg base "names_fit" 2 ["entry", "known"] spNamesX f_names_fit _ := ⟨ok_names_fit_x F_names_fit T X_is_name X_is_known X_is_in_set, m_names_fit, k_names_fit, b_names_fit⟩
  have C_worths_fit : Cal l.prog w K mg base "worths_fit" 7 ["entry", "known"] spFits f_worths_fit _ := ⟨ok_worths F_worths_fit T C_is_side C_is_int_between C_text_fits, m_worths_fit, k_worths_fit, b_worths_fit⟩
  have X_worths_fit : Cal l.prog w K mg base "worths_fit" 7 ["entry", "known"] spWorthsX f_worths_fit _ := ⟨ok_worths_x F_worths_fit T X_is_side C_is_int_between X_text_fits, m_worths_fit, k_worths_fit, b_worths_fit⟩
  have C_are_lines : Cal l.prog w K mg base "_are_lines" 1 ["thing"] spLines f_are_lines _ := ⟨ok_are_lines F_are_lines T, m_are_lines, k_are_lines, b_are_lines⟩
  have C_is_formed : Cal l.prog w K mg base "_is_formed" 2 ["thing"] spFormed f_is_formed _ := ⟨ok_formed F_is_formed T C_are_lines, m_is_formed, k_is_formed, b_is_formed⟩
  have C_known_entries : Cal l.prog w K mg base "known_entries" 8 ["entries"] spKnE f_known_entries _ := ⟨ok_known F_known_entries T C_is_formed C_names_fit C_worths_fit, m_known_entries, k_known_entries, b_known_entries⟩
  have C_side_line : Cal l.prog w K mg base "_side_line" 1 ["entry"] spSideLine f_side_line _ := ⟨ok_side_line F_side_line, m_side_line, k_side_line, b_side_line⟩
  have C_lines_of : Cal l.prog w K mg base "_lines_of" 2 ["entry"] spLinesOf f_lines_of _ := ⟨ok_lines_of F_lines_of C_side_line, m_lines_of, k_lines_of, b_lines_of⟩
  have C_paper_text : Cal l.prog w K mg base "paper_text" 9 ["entries"] spPaper f_paper_text _ := ⟨ok_paper F_paper_text C_known_entries C_lines_of, m_paper_text, k_paper_text, b_paper_text⟩
  have C_is_number : Cal l.prog w K mg base "_is_number" 1 ["word"] spNumX f_is_number _ := ⟨ok_is_number_x F_is_number NT, m_is_number, k_is_number, b_is_number⟩
  have C_side_entry_of : Cal l.prog w K mg base "_side_entry_of" 2 ["words"] spSideEntX f_side_entry_of _ := ⟨ok_side_entry_x F_side_entry_of NT C_is_number, m_side_entry_of, k_side_entry_of, b_side_entry_of⟩
  have C_entry_of : Cal l.prog w K mg base "_entry_of" 3 ["words"] spEntryX f_entry_of _ := ⟨ok_entry_of_x F_entry_of T C_side_entry_of, m_entry_of, k_entry_of, b_entry_of⟩
  have M_init : FnOk l.prog w K mg base CX0 1 fR_init _ ["self"] (spRInit cR) := ok_R_init F_R_init clR na_entries na_log na_lines na_known
  have M_add : FnOk l.prog w K mg base CX0 1 fR_add _ ["self", "entry"] (spAdd cR) := ok_R_add F_R_add clR na_entries na_known
  have M_end : FnOk l.prog w K mg base CX0 2 fR_end _ ["self"] (spEndX cR) := ok_R_end_x F_R_end T clR na_log na_lines ME_add M_add b_R_add
  have M_within : FnOk l.prog w K mg base CX0 7 fR_within _ ["self", "words"] (spWithinX cR) := ok_R_within_x F_R_within T clR na_log na_lines na_known X_is_in_set X_text_fits
  have M_entry : FnOk l.prog w K mg base CX0 8 fR_entry _ ["self", "words"] (spREntryX cR) := ok_R_entry_x F_R_entry clR na_log na_lines na_known C_entry_of X_names_fit X_worths_fit ME_add M_add b_R_add
  have M_fault : FnOk l.prog w K mg base CX0 9 fR_fault _ ["self", "words"] (spFaultX cR) := ok_R_fault_x F_R_fault clR na_log ME_entry M_entry b_R_entry ME_end M_end b_R_end ME_within M_within b_R_within
  have C_read_paper : CalX l.prog w K mg base "read_paper" 10 ["text"] (spReadPX cL) f_read_paper _ := ⟨ok_read_paper_x F_read_paper T n_enumerate gR clR na_entries na_log MK M_init b_R_init ME_fault M_fault b_R_fault IL, m_read_paper, k_read_paper, b_read_paper⟩
  have C_L_source : Cal l.prog w K mg base "_law_source" 1 ["_law_script"] (spSource K) f_L_source _ := ⟨ok_source F_L_source BL, m_L_source, k_L_source, b_L_source⟩
  have C_L_draw : Cal l.prog w K mg base "_law_draw" 1 ["_law_source_here", "_law_limit"] spDraw f_L_draw _ := ⟨ok_draw F_L_draw BL, m_L_draw, k_L_draw, b_L_draw⟩
  have C_L_pick : Cal l.prog w K mg base "_law_pick" 2 ["_law_source_here", "_law_values"] spPick f_L_pick _ := ⟨ok_pick F_L_pick BL C_L_draw, m_L_pick, k_L_pick, b_L_pick⟩
  have C_L_great : Cal l.prog w K mg base "_law_great" 2 ["_law_source_here", "_law_limit"] spGreat f_L_great _ := ⟨ok_great F_L_great BL C_L_draw, m_L_great, k_L_great, b_L_great⟩
  have C_L_ten : Cal l.prog w K mg base "_law_ten" 1 ["_law_many"] spTen f_L_ten _ := ⟨ok_ten F_L_ten BL, m_L_ten, k_L_ten, b_L_ten⟩
  have C_L_step : Cal l.prog w K mg base "_law_step" 3 ["_law_source_here", "_law_most"] spStep f_L_step _ := ⟨ok_step F_L_step BL MT C_L_draw C_L_pick C_L_great C_L_ten, m_L_step, k_L_step, b_L_step⟩
  have C_L_side : Cal l.prog w K mg base "_law_side" 4 ["_law_source_here", "_law_most"] spSide f_L_side _ := ⟨ok_side F_L_side BL C_L_step C_L_pick C_L_great, m_L_side, k_L_side, b_L_side⟩
  have C_L_text : Cal l.prog w K mg base "_law_text" 1 ["_law_figure", "_law_places"] spLText f_L_text _ := ⟨ok_L_text F_L_text T BL MT, m_L_text, k_L_text, b_L_text⟩
  have C_L_entries : Cal l.prog w K mg base "_law_entries" 5 ["_law_source_here"] spLEnts f_L_entries _ := ⟨ok_L_entries F_L_entries T BL C_L_draw C_L_pick C_L_great C_L_side C_L_text, m_L_entries, k_L_entries, b_L_entries⟩
  have C_L_is_whole : Cal l.prog w K mg base "_law_is_whole" 1 ["_law_value", "_law_least", "_law_most"] spWhole1 f_L_is_whole _ := ⟨ok_L_whole F_L_is_whole LT, m_L_is_whole, k_L_is_whole, b_L_is_whole⟩
  have C_L_is_name : Cal l.prog w K mg base "_law_is_name" 1 ["_law_value"] spLName f_L_is_name _ := ⟨ok_L_name F_L_is_name LT, m_L_is_name, k_L_is_name, b_L_is_name⟩
  have C_L_is_side : Cal l.prog w K mg base "_law_is_side" 2 ["_law_value"] spLSide f_L_is_side _ := ⟨ok_L_side_x F_L_is_side LT C_L_is_whole, m_L_is_side, k_L_is_side, b_L_is_side⟩
  have C_L_is_text : Cal l.prog w K mg base "_law_is_text" 1 ["_law_value", "_law_places"] spIsTxL f_L_is_text _ := ⟨ok_L_is_text F_L_is_text LT, m_L_is_text, k_L_is_text, b_L_is_text⟩
  have C_L_number : Cal l.prog w K mg base "_law_number" 1 ["_law_word"] spLNum f_L_number _ := ⟨ok_L_number F_L_number LT, m_L_number, k_L_number, b_L_number⟩
  have C_L_side_entry : Cal l.prog w K mg base "_law_side_entry" 2 ["_law_words"] spLSideEnt f_L_side_entry _ := ⟨ok_L_side_entry F_L_side_entry LT C_L_number, m_L_side_entry, k_L_side_entry, b_L_side_entry⟩
  have C_L_is_right : Cal l.prog w K mg base "_law_is_right" 3 ["_law_entry", "_law_sides", "_law_sets"] spLRight f_L_is_right _ := ⟨ok_L_is_right F_L_is_right LT C_L_is_side C_L_is_whole C_L_is_text, m_L_is_right, k_L_is_right, b_L_is_right⟩
  have C_L_started : Cal l.prog w K mg base "_law_started" 4 ["_law_words", "_law_sides", "_law_sets", "_law_names"] spLStart f_L_started _ := ⟨ok_L_started F_L_started LT C_L_side_entry C_L_is_name C_L_is_right, m_L_started, k_L_started, b_L_started⟩
  have C_L_log_line : Cal l.prog w K mg base "_law_log_line" 2 ["_law_words", "_law_log", "_law_sides", "_law_sets"] spLRow f_L_log_line _ := ⟨ok_L_log_line F_L_log_line LT C_L_is_text, m_L_log_line, k_L_log_line, b_L_log_line⟩
  have C_L_due : Cal l.prog w K mg base "_law_due" 5 ["_law_text_here"] spLDue f_L_due _ := ⟨ok_L_due F_L_due LT C_L_started C_L_log_line, m_L_due, k_L_due, b_L_due⟩
  have C_L_told : Cal l.prog w K mg base "_law_told" 11 ["_law_text_here"] spLDue f_L_told _ := ⟨ok_L_told F_L_told EL C_read_paper, m_L_told, k_L_told, b_L_told⟩
  have C_L_others : Cal l.prog w K mg base "_law_others" 1 [] spOthers f_L_others _ := ⟨ok_L_others F_L_others, m_L_others, k_L_others, b_L_others⟩
  have C_L_log_lines : Cal l.prog w K mg base "_law_log_lines" 1 [] spLogLines f_L_log_lines _ := ⟨ok_L_log_lines F_L_log_lines, m_L_log_lines, k_L_log_lines, b_L_log_lines⟩
  have C_L_spoiled : Cal l.prog w K mg base "_law_spoiled" 3 ["_law_source_here", "_law_lines", "_law_words"] spLSpoil f_L_spoiled _ := ⟨ok_L_spoiled F_L_spoiled LT BL C_L_draw C_L_pick C_L_others, m_L_spoiled, k_L_spoiled, b_L_spoiled⟩
  exact ok_law F_law LT BL C_L_source C_L_draw C_L_entries C_paper_text C_L_others C_L_log_lines C_L_spoiled C_L_told C_L_due
theorem walk {l : PySem.W.OpenLaw} {q : Program} {loose : List Str} {XP : (Str → Option Value) → Heap → Prop} {YP : World → Heap → Prop} {d : DefRec} {K : Params → PySem.W.Frag} (hn : l.most = some 63) (hdf : d.params.defaults = [])
    (hY : ∀ (w : World) (h : Heap), YP w h → (K w.params).In h)
    (F : ∀ (w : World) (mg : Str → Option Value) (fa : Addr) (h : Heap), (K w.params).In h → h.Ns mainGlobals mg → mg d.name = some (.ref fa) →
      ∃ fd : FuncData, (∀ (s : Shared) (u : Value), BindsTo s fd ⟨[u], []⟩ [("_law_script", u)]) ∧ ∀ base : Heap, (K w.params).In base → base.Ns mainGlobals mg → FnOk l.prog w (K w.params) mg base CX0 12 fa fd ["_law_script"] (spLaw (K w.params))) :
    PySem.W.WalkO q loose XP YP l.row.toRowW d [] (fun f vs => PySem.call f vs) :=
  L2.walk_of (n := 63) (k := 12) (x := "_law_script") (CX := fun _ => CX0) (sp := fun w => spLaw (K w.params)) hn (by decide) hdf ⟨rfl, by decide, by decide⟩ hY F (fun _ _ a ns hl _ hS => ⟨a, ns, rfl, hS, hl, fun _ => rfl⟩) fun _ _ _ _ _ z => z
end HT
open PySem PySem.W PyProof.Rows
set_option maxRecDepth 100000 in
set_option maxHeartbeats 0 in
theorem PySem.Challenge.cw_handedtext_k42_wrong_texts_holds : PySem.Challenge.rw_handedtext_k42_wrong_texts.Holds := by
  w_on; o_law; k_head; (case hw => w_witness2)
  k_fill
  refine HT.walk (l := PySem.Challenge.rw_handedtext_k42_wrong_texts) rfl rfl (fun w h Y => PySem.W.kIn_of Y) ?F
  case F =>
    intro w mg fa h KX G hmg
    refine' HT.all_mk KX G hmg ?a_is_int ?l_is_int ?c_is_int ?k_is_int ?a_is_int_between ?l_is_int_between ?c_is_int_between ?k_is_int_between ?a_check_value ?l_check_value ?c_check_value ?k_check_value ?a_check_side ?l_check_side ?c_check_side ?k_check_side ?a_is_side ?l_is_side ?c_is_side ?k_is_side ?a_text_of ?l_text_of ?c_text_of ?k_text_of ?a_check_style ?l_check_style ?c_check_style ?k_check_style ?a_grouped ?l_grouped ?c_grouped ?k_grouped ?a_mark ?l_mark ?c_mark ?k_mark ?a_read_text ?l_read_text ?c_read_text ?k_read_text ?a_past_whole ?l_past_whole ?c_past_whole ?k_past_whole ?a_past_groups ?l_past_groups ?c_past_groups ?k_past_groups ?a_past_places ?l_past_places ?c_past_places ?k_past_places ?a_past_digits ?l_past_digits ?c_past_digits ?k_past_digits ?a_known_entries ?l_known_entries ?c_known_entries ?k_known_entries ?a_is_formed ?l_is_formed ?c_is_formed ?k_is_formed ?a_are_lines ?l_are_lines ?c_are_lines ?k_are_lines ?a_names_fit ?l_names_fit ?c_names_fit ?k_names_fit ?a_is_name ?l_is_name ?c_is_name ?k_is_name ?a_is_known ?l_is_known ?c_is_known ?k_is_known ?a_is_in_set ?l_is_in_set ?c_is_in_set ?k_is_in_set ?a_worths_fit ?l_worths_fit ?c_worths_fit ?k_worths_fit ?a_text_fits ?l_text_fits ?c_text_fits ?k_text_fits ?a_paper_text ?l_paper_text ?c_paper_text ?k_paper_text ?a_lines_of ?l_lines_of ?c_lines_of ?k_lines_of ?a_side_line ?l_side_line ?c_side_line ?k_side_line ?a_read_paper ?l_read_paper ?c_read_paper ?k_read_paper ?a_entry_of ?l_entry_of ?c_entry_of ?k_entry_of ?a_side_entry_of ?l_side_entry_of ?c_side_entry_of ?k_side_entry_of ?a_is_number ?l_is_number ?c_is_number ?k_is_number ?a_L_source ?l_L_source ?c_L_source ?k_L_source ?a_L_draw ?l_L_draw ?c_L_draw ?k_L_draw ?a_L_pick ?l_L_pick ?c_L_pick ?k_L_pick ?a_L_great ?l_L_great ?c_L_great ?k_L_great ?a_L_ten ?l_L_ten ?c_L_ten ?k_L_ten ?a_L_step ?l_L_step ?c_L_step ?k_L_step ?a_L_side ?l_L_side ?c_L_side ?k_L_side ?a_L_text ?l_L_text ?c_L_text ?k_L_text ?a_L_entries ?l_L_entries ?c_L_entries ?k_L_entries ?a_L_is_whole ?l_L_is_whole ?c_L_is_whole ?k_L_is_whole ?a_L_is_name ?l_L_is_name ?c_L_is_name ?k_L_is_name ?a_L_is_side ?l_L_is_side ?c_L_is_side ?k_L_is_side ?a_L_is_text ?l_L_is_text ?c_L_is_text ?k_L_is_text ?a_L_is_right ?l_L_is_right ?c_L_is_right ?k_L_is_right ?a_L_number ?l_L_number ?c_L_number ?k_L_number ?a_L_side_entry ?l_L_side_entry ?c_L_side_entry ?k_L_side_entry ?a_L_started ?l_L_started ?c_L_started ?k_L_started ?a_L_log_line ?l_L_log_line ?c_L_log_line ?k_L_log_line ?a_L_due ?l_L_due ?c_L_due ?k_L_due ?a_L_told ?l_L_told ?c_L_told ?k_L_told ?a_L_others ?l_L_others ?c_L_others ?k_L_others ?a_L_log_lines ?l_L_log_lines ?c_L_log_lines ?k_L_log_lines ?a_L_spoiled ?l_L_spoiled ?c_L_spoiled ?k_L_spoiled ?a_law ?l_law ?c_law ?k_law ?z_isinstance ?z_int ?z_bool ?z_len ?z_str ?z_abs ?z_range ?z_max ?z_min ?z_tuple ?z_divmod ?z_list ?z_all ?z_enumerate ?z_ValueError ?a_MODES ?l_MODES ?v_MODES ?a_NO ?l_NO ?v_NO ?v_P ?v_W ?v_D ?v_L ?v_ML ?v_MS ?v_SN ?v_MD ?z_L ?z_S ?q_sign ?r_sign ?q_group ?r_group ?q_width ?r_width ?a_Reader ?cb_R ?mk_R ?kp_R ?at_R_init ?fn_R_init ?l_R_init ?c_R_init ?k_R_init ?at_R_fault ?fn_R_fault ?l_R_fault ?c_R_fault ?k_R_fault ?at_R_entry ?fn_R_entry ?l_R_entry ?c_R_entry ?k_R_entry ?at_R_within ?fn_R_within ?l_R_within ?c_R_within ?k_R_within ?at_R_end ?fn_R_end ?l_R_end ?c_R_end ?k_R_end ?at_R_add ?fn_R_add ?l_R_add ?c_R_add ?k_R_add ?na_entries ?na_log ?na_lines ?na_known ?g_T ?g_S ?g_L ?g_V ?g_B ?xS ?kcS ?sbS ?tyS ?emS ?gsp ?gtk ?etT ?xT ?saT ?tyT ?kcT ?hdT ?inT ?tfT ?liT ?ciT ?kiT ?etL ?xL ?saL ?tyL ?kcL ?hdL ?inL ?tfL ?liL ?ciL ?kiL ?noat ?noli ?nore ?emT ?kD ?kV ?kE ?em
    (case a_is_int => k_is)
    (case l_is_int => k_is)
    (case c_is_int => k_is)
    (case k_is_int => k_is)
    (case a_is_int_between => k_is)
    (case l_is_int_between => k_is)
    (case c_is_int_between => k_is)
    (case k_is_int_between => k_is)
    (case a_check_value => k_is)
    (case l_check_value => k_is)
    (case c_check_value => k_is)
    (case k_check_value => k_is)
    (case a_check_side => k_is)
    (case l_check_side => k_is)
    (case c_check_side => k_is)
    (case k_check_side => k_is)
    (case a_is_side => k_is)
    (case l_is_side => k_is)
    (case c_is_side => k_is)
    (case k_is_side => k_is)
    (case a_text_of => k_is)
    (case l_text_of => k_is)
    (case c_text_of => k_is)
    (case k_text_of => k_is)
    (case a_check_style => k_is)
    (case l_check_style => k_is)
    (case c_check_style => k_is)
    (case k_check_style => k_is)
    (case a_grouped => k_is)
    (case l_grouped => k_is)
    (case c_grouped => k_is)
    (case k_grouped => k_is)
    (case a_mark => k_is)
    (case l_mark => k_is)
    (case c_mark => k_is)
    (case k_mark => k_is)
    (case a_read_text => k_is)
    (case l_read_text => k_is)
    (case c_read_text => k_is)
    (case k_read_text => k_is)
    (case a_past_whole => k_is)
    (case l_past_whole => k_is)
    (case c_past_whole => k_is)
    (case k_past_whole => k_is)
    (case a_past_groups => k_is)
    (case l_past_groups => k_is)
    (case c_past_groups => k_is)
    (case k_past_groups => k_is)
    (case a_past_places => k_is)
    (case l_past_places => k_is)
    (case c_past_places => k_is)
    (case k_past_places => k_is)
    (case a_past_digits => k_is)
    (case l_past_digits => k_is)
    (case c_past_digits => k_is)
    (case k_past_digits => k_is)
    (case a_known_entries => k_is)
    (case l_known_entries => k_is)
    (case c_known_entries => k_is)
    (case k_known_entries => k_is)
    (case a_is_formed => k_is)
    (case l_is_formed => k_is)
    (case c_is_formed => k_is)
    (case k_is_formed => k_is)
    (case a_are_lines => k_is)
    (case l_are_lines => k_is)
    (case c_are_lines => k_is)
    (case k_are_lines => k_is)
    (case a_names_fit => k_is)
    (case l_names_fit => k_is)
    (case c_names_fit => k_is)
    (case k_names_fit => k_is)
    (case a_is_name => k_is)
    (case l_is_name => k_is)
    (case c_is_name => k_is)
    (case k_is_name => k_is)
    (case a_is_known => k_is)
    (case l_is_known => k_is)
    (case c_is_known => k_is)
    (case k_is_known => k_is)
    (case a_is_in_set => k_is)
    (case l_is_in_set => k_is)
    (case c_is_in_set => k_is)
    (case k_is_in_set => k_is)
    (case a_worths_fit => k_is)
    (case l_worths_fit => k_is)
    (case c_worths_fit => k_is)
    (case k_worths_fit => k_is)
    (case a_text_fits => k_is)
    (case l_text_fits => k_is)
    (case c_text_fits => k_is)
    (case k_text_fits => k_is)
    (case a_paper_text => k_is)
    (case l_paper_text => k_is)
    (case c_paper_text => k_is)
    (case k_paper_text => k_is)
    (case a_lines_of => k_is)
    (case l_lines_of => k_is)
    (case c_lines_of => k_is)
    (case k_lines_of => k_is)
    (case a_side_line => k_is)
    (case l_side_line => k_is)
    (case c_side_line => k_is)
    (case k_side_line => k_is)
    (case a_read_paper => k_is)
    (case l_read_paper => k_is)
    (case c_read_paper => k_is)
    (case k_read_paper => k_is)
    (case a_entry_of => k_is)
    (case l_entry_of => k_is)
    (case c_entry_of => k_is)
    (case k_entry_of => k_is)
    (case a_side_entry_of => k_is)
    (case l_side_entry_of => k_is)
    (case c_side_entry_of => k_is)
    (case k_side_entry_of => k_is)
    (case a_is_number => k_is)
    (case l_is_number => k_is)
    (case c_is_number => k_is)
    (case k_is_number => k_is)
    (case a_L_source => k_is)
    (case l_L_source => k_is)
    (case c_L_source => k_is)
    (case k_L_source => k_is)
    (case a_L_draw => k_is)
    (case l_L_draw => k_is)
    (case c_L_draw => k_is)
    (case k_L_draw => k_is)
    (case a_L_pick => k_is)
    (case l_L_pick => k_is)
    (case c_L_pick => k_is)
    (case k_L_pick => k_is)
    (case a_L_great => k_is)
    (case l_L_great => k_is)
    (case c_L_great => k_is)
    (case k_L_great => k_is)
    (case a_L_ten => k_is)
    (case l_L_ten => k_is)
    (case c_L_ten => k_is)
    (case k_L_ten => k_is)
    (case a_L_step => k_is)
    (case l_L_step => k_is)
    (case c_L_step => k_is)
    (case k_L_step => k_is)
    (case a_L_side => k_is)
    (case l_L_side => k_is)
    (case c_L_side => k_is)
    (case k_L_side => k_is)
    (case a_L_text => k_is)
    (case l_L_text => k_is)
    (case c_L_text => k_is)
    (case k_L_text => k_is)
    (case a_L_entries => k_is)
    (case l_L_entries => k_is)
    (case c_L_entries => k_is)
    (case k_L_entries => k_is)
    (case a_L_is_whole => k_is)
    (case l_L_is_whole => k_is)
    (case c_L_is_whole => k_is)
    (case k_L_is_whole => k_is)
    (case a_L_is_name => k_is)
    (case l_L_is_name => k_is)
    (case c_L_is_name => k_is)
    (case k_L_is_name => k_is)
    (case a_L_is_side => k_is)
    (case l_L_is_side => k_is)
    (case c_L_is_side => k_is)
    (case k_L_is_side => k_is)
    (case a_L_is_text => k_is)
    (case l_L_is_text => k_is)
    (case c_L_is_text => k_is)
    (case k_L_is_text => k_is)
    (case a_L_is_right => k_is)
    (case l_L_is_right => k_is)
    (case c_L_is_right => k_is)
    (case k_L_is_right => k_is)
    (case a_L_number => k_is)
    (case l_L_number => k_is)
    (case c_L_number => k_is)
    (case k_L_number => k_is)
    (case a_L_side_entry => k_is)
    (case l_L_side_entry => k_is)
    (case c_L_side_entry => k_is)
    (case k_L_side_entry => k_is)
    (case a_L_started => k_is)
    (case l_L_started => k_is)
    (case c_L_started => k_is)
    (case k_L_started => k_is)
    (case a_L_log_line => k_is)
    (case l_L_log_line => k_is)
    (case c_L_log_line => k_is)
    (case k_L_log_line => k_is)
    (case a_L_due => k_is)
    (case l_L_due => k_is)
    (case c_L_due => k_is)
    (case k_L_due => k_is)
    (case a_L_told => k_is)
    (case l_L_told => k_is)
    (case c_L_told => k_is)
    (case k_L_told => k_is)
    (case a_L_others => k_is)
    (case l_L_others => k_is)
    (case c_L_others => k_is)
    (case k_L_others => k_is)
    (case a_L_log_lines => k_is)
    (case l_L_log_lines => k_is)
    (case c_L_log_lines => k_is)
    (case k_L_log_lines => k_is)
    (case a_L_spoiled => k_is)
    (case l_L_spoiled => k_is)
    (case c_L_spoiled => k_is)
    (case k_L_spoiled => k_is)
    (case a_law => k_is)
    (case l_law => k_is)
    (case c_law => k_is)
    (case k_law => k_is)
    (case z_isinstance => k_is)
    (case z_int => k_is)
    (case z_bool => k_is)
    (case z_len => k_is)
    (case z_str => k_is)
    (case z_abs => k_is)
    (case z_range => k_is)
    (case z_max => k_is)
    (case z_min => k_is)
    (case z_tuple => k_is)
    (case z_divmod => k_is)
    (case z_list => k_is)
    (case z_all => k_is)
    (case z_enumerate => k_is)
    (case z_ValueError => k_is)
    (case a_MODES => k_is)
    (case l_MODES => k_is)
    (case v_MODES => exact ⟨by decide, .cons ⟨_, rfl⟩ (.cons ⟨_, rfl⟩ (.cons ⟨_, rfl⟩ (.cons ⟨_, rfl⟩ (.cons ⟨_, rfl⟩ .nil))))⟩)
    (case a_NO => k_is)
    (case l_NO => k_is)
    (case v_NO => exact ⟨by decide, .cons ⟨_, rfl⟩ (.cons ⟨_, rfl⟩ (.cons ⟨_, rfl⟩ (.cons ⟨_, rfl⟩ (.cons ⟨_, rfl⟩ (.cons ⟨_, rfl⟩ (.cons ⟨_, rfl⟩ (.cons ⟨_, rfl⟩ .nil)))))))⟩)
    (case v_P => k_is)
    (case v_W => k_is)
    (case v_D => k_is)
    (case v_L => k_is)
    (case v_ML => k_is)
    (case v_MS => k_is)
    (case v_SN => k_is)
    (case v_MD => k_is)
    (case z_L => k_is)
    (case z_S => k_is)
    (case q_sign => k_is)
    (case r_sign => first | exact rfl | exact ⟨_, rfl⟩)
    (case q_group => k_is)
    (case r_group => first | exact rfl | exact ⟨_, rfl⟩)
    (case q_width => k_is)
    (case r_width => first | exact rfl | exact ⟨_, rfl⟩)
    (case a_Reader => k_is)
    (case cb_R => kernel_rfl)
    (case mk_R => kernel_rfl)
    (case kp_R => kernel_rfl)
    (case at_R_init => k_is)
    (case fn_R_init => kernel_rfl)
    (case l_R_init => k_is)
    (case c_R_init => k_is)
    (case k_R_init => k_is)
    (case at_R_fault => k_is)
    (case fn_R_fault => kernel_rfl)
    (case l_R_fault => k_is)
    (case c_R_fault => k_is)
    (case k_R_fault => k_is)
    (case at_R_entry => k_is)
    (case fn_R_entry => kernel_rfl)
    (case l_R_entry => k_is)
    (case c_R_entry => k_is)
    (case k_R_entry => k_is)
    (case at_R_within => k_is)
    (case fn_R_within => kernel_rfl)
    (case l_R_within => k_is)
    (case c_R_within => k_is)
    (case k_R_within => k_is)
    (case at_R_end => k_is)
    (case fn_R_end => kernel_rfl)
    (case l_R_end => k_is)
    (case c_R_end => k_is)
    (case k_R_end => k_is)
    (case at_R_add => k_is)
    (case fn_R_add => kernel_rfl)
    (case l_R_add => k_is)
    (case c_R_add => k_is)
    (case k_R_add => k_is)
    (case na_entries => k_is)
    (case na_log => k_is)
    (case na_lines => k_is)
    (case na_known => k_is)
    (case g_T => k_is)
    (case g_S => k_is)
    (case g_L => k_is)
    (case g_V => k_is)
    (case g_B => k_is)
    (case xS => kernel_rfl)
    (case kcS => kernel_rfl)
    (case sbS => kernel_rfl)
    (case tyS => k_is)
    (case emS => kernel_rfl)
    (case gsp => k_is)
    (case gtk => k_is)
    (case etT => kernel_rfl)
    (case xT => k_is)
    (case saT => k_is)
    (case tyT => k_is)
    (case kcT => k_is)
    (case hdT => k_is)
    (case inT => k_is)
    (case tfT => k_is)
    (case liT => k_is)
    (case ciT => k_is)
    (case kiT => k_is)
    (case etL => kernel_rfl)
    (case xL => k_is)
    (case saL => k_is)
    (case tyL => k_is)
    (case kcL => k_is)
    (case hdL => k_is)
    (case inL => k_is)
    (case tfL => k_is)
    (case liL => k_is)
    (case ciL => k_is)
    (case kiL => k_is)
    (case noat => k_is)
    (case noli => k_is)
    (case nore => k_is)
    (case emT => kernel_rfl)
    (case kD => kernel_rfl)
    (case kV => kernel_rfl)
    (case kE => kernel_rfl)
    (case em => kernel_rfl)
#print axioms PySem.Challenge.cw_handedtext_k42_wrong_texts_holds
