import PyProof.Rows.All
import Wide.All
import OpenK.AllK
import Wide.FinOn
import HandS.CallSlots
import HandS.Deep
import HandS.Defaults
import HandS.Exc
import HandS.ExcField
import HandS.ExcInit
import HandS.ExcIs
import HandS.ExcValue
import HandS.ForMost
import HandS.HotCalls
import HandS.IsInst
import HandS.MakeKwOnly
import HandS.More
import HandS.NoneIn
import HandS.RaiseFrom
import HandS.Replace
import HandS.ReplaceLit
import HandS.Iter
import HandS.StrMore
import HandS.Style
import HandS.SuiteRaise
import HandS.TryOnly
import HandS.Wide
import HandS.WideBits
import HandS.WordsExc
import KE.KEqDeep
import KE.KEqSeq
import KE.KExcIs
import PySem.Challenge.RW_handedtext_k03_wrong_texts
set_option Elab.async false
set_option linter.all false
set_option maxRecDepth 100000
set_option maxHeartbeats 4000000
set_option exponentiation.threshold 3000
open PySem L2
local macro_rules | `(tactic| walk_at "rd") => `(tactic| repeat (first | refine ⟨_, rfl, ?_⟩ | refine ⟨_, _, rfl, rfl, ?_⟩ | refine .inl ⟨_, rfl, ?_⟩))
namespace L2
open PySem PySem.Spec PyProof.Rows
/-- an error that was caught and kept, at a -/
def ExK (cls : Value) (dd : Option Addr) (a : Addr) : HO := .ext fun hp => ∃ (rec' : Obj) (cells : Array Value), hp.get? a = some rec' ∧ Zc cls dd rec' ∧ rec'.data = .fields cells
/-- wKeep: what 'except x as n' wishes, where the error stays tracked behind the suite -/
def wKeep (K : PySem.W.Frag) (c : Value) (i : Nat) (ts : Addr → Value → Option Addr → TS) (Wout : WX) (D : Ends) : WX := fun kl dd st H =>
  ∃ yes, PySem.W.exmOne K kl c = some yes ∧ (yes = true → ∀ a, H a = none → ts a kl dd { nx := fun st' H' => D.nx (st'.set i none) (upd H' a (ExK kl dd a)), rt := D.rt, bk := fun st' H' => D.bk (st'.set i none) H', ct := fun st' H' => D.ct (st'.set i none) H' } (st.set i (some (.ref a))) H) ∧
    (yes = false → Wout kl dd st H)
section
variable {X : Cx} {pins : List (Addr × Obj)} {st : St} {H : Hp} {sh : Shared}
theorem Inv.adopt {a : Addr} {kl : Value} {dd : Option Addr} {rc : Obj} {cells : Array Value} (iv : Inv X pins st H sh) (new0 : X.s_0.heap.get? a = none) (free : H a = none) (at0 : sh.heap.get? a = some rc) (zc : Zc kl dd rc) (fl : rc.data = .fields cells) (nl : a ≠ X.env.locals)
    (np : ∀ p ∈ X.pn ++ pins, p.1 ≠ a) : Inv X pins st (upd H a (ExK kl dd a)) sh := by
  have old : ∀ c rr, X.s_0.heap.get? c = some rr → c ≠ a := fun c rr e z => by
    rw [z, new0] at e
    cases e
  have other : ∀ c u, H c = some u → upd H a (ExK kl dd a) c = some u := fun c u e => (upd_ne (ne_of_none e free)).trans e
  refine ⟨iv.ok, iv.os, iv.bare, ⟨iv.base.keep, iv.base.slot, fun c rr e n0 nx => ?_, iv.base.there, fun c xs e => other _ _ (iv.base.tups c xs e), fun c rr u e => other _ _ (iv.base.frzs c rr u e), fun c ps e => ?_⟩, iv.loc, iv.cell, ?_, fun y c e => ?_, fun p hp => ?_, fun c u e => ?_, iv.len⟩
  · exact (upd_ne (old c rr e)).trans (iv.base.free c rr e n0 nx)
  · obtain ⟨more, e2⟩ := iv.base.tbls c ps e
    exact ⟨more, other _ _ e2⟩
  · exact (upd_ne nl.symm).trans iv.free
  · obtain ⟨w, rr, e2, e3⟩ := iv.cell y c e
    refine (upd_ne fun z => ?_).trans (iv.freeC y c e)
    subst z
    rw [at0] at e2
    cases e2
    simp [fl] at e3
  · obtain ⟨e1, e2, e3, e4, e5⟩ := iv.pin p hp
    exact ⟨e1, (upd_ne (np p hp)).trans e2, e3, e4, e5⟩
  · by_cases ca : c = a
    · subst ca
      rw [upd_same] at e
      cases e
      exact ⟨⟨rc, cells, at0, zc, fl⟩, ⟨rc, at0⟩, fun _ _ ⟨r2, c2, e2, e3⟩ same => ⟨r2, c2, same _ e2, e3⟩⟩
    · rw [upd_ne ca] at e
      exact (iv.hok c u e).stay (fun _ _ _ e2 => e2) (fun c2 e2 => other _ _ e2) fun c2 xs e2 => other _ _ e2
end
end L2
namespace L2
open PySem PySem.Spec PyProof.Rows
section
variable {X : Cx} {x n : Str} {c : Value} {i : Nat} {body suite : List Stmt} {first : Stmt} {np pos pos' : Pos} {tb : WX → TS} {ts : Addr → Value → Option Addr → TS} {Wout : WX}
/-- try: .. except x as n: suite; the caught error stays tracked behind it -/
theorem ps_try_keep (stk : X.stack = X.env :: X.outer) (frm : X.env.frame = some X.env.locals) (noex : X.ex = []) (dist : X.N.Nodup) (slot : X.N[i]? = some n) (loc : X.env.kindOf n = some .local) (nam : Names X x c) (tk : Takes X Wout)
    (inner : ∀ (W : WX) (pn : List (Addr × Obj)) (xe : Value → Shared → Prop), Takes (X.tr pn xe) W → PassesOwn (model X.prog X.w) X.A X.env xe → PSs (X.tr pn xe) body (tb W))
    (caught : ∀ (a : Addr) (rc : Obj) (kl : Value) (dd : Option Addr) (pn : List (Addr × Obj)), Zc kl dd rc → (∃ cells, rc.data = .fields cells) → PSs (X.suite a ((a, rc) :: pn)) (first :: suite) (ts a kl dd)) :
    PS X (.Try body [.ExceptHandler (some (.Name x np)) (some n) (first :: suite) pos'] [] [] pos) (fun D st H => tb (wKeep X.K c i ts Wout D) D st H) where
  run := fun pins sh st H D iv want => by
    have fine := iv.ok
    have frames : X.A.frames = some (X.env :: X.outer) := by rw [fine.frames, stk]
    refine wpAny_Try_except (wpAny_mono ((inner (wKeep X.K c i ts Wout D) (X.pn ++ pins) _ (fun u sh' air => ?_) PassesOwn.looking).run [] sh st H D (iv.toTry _) want) ?_ fun _ _ e => e)
    · obtain ⟨a, B, shI, pins', st1, H1, kl, dd, rfl, ivT, inB, upTo, sky, freeA, sameOs, bareG, yes, dec, onYes, onNo⟩ := air
      have iv1 : Inv X pins st1 H1 shI := ivT.ofTry fine
      rw [stk] at sky
      refine Sky.land Zc.steady frames frm sky fun hp3 fly3 up3 => ?_
      have bNone : B.get? a = none := fly3.2.1
      have iv3 : Inv X pins st1 H1 { sh' with heap := hp3 } := iv1.landed inB fly3.1 (upTo.trans up3) sameOs bareG
      obtain ⟨rc3, cells3, at3, zc3, dt3⟩ := fly3.there
      have offFrames : a ∉ frs (X.env :: X.outer) := fun mem => by
        obtain ⟨_, r2, e2, bad⟩ := fly3.2.2.1.mem mem
        rw [at3] at e2
        cases e2
        exact bad _ dt3
      have offL : a ≠ X.env.locals := fun z => offFrames (List.mem_filterMap.mpr ⟨X.env, List.mem_cons_self, by rw [frm, z]⟩)
      have offF : a ∉ X.fs := fun mem => by
        obtain ⟨ee, inn, ef⟩ := List.mem_filterMap.mp mem
        exact offFrames (List.mem_filterMap.mpr ⟨ee, List.mem_cons_of_mem _ inn, ef⟩)
      have notThere : shI.heap.get? a = none := by
        cases e : shI.heap.get? a with
        | none => rfl
        | some rr =>
          have z := inB a rr e (by rw [stk]; exact offFrames)
          rw [bNone] at z
          cases z
      have new0 : X.s_0.heap.get? a = none := by
        cases e : X.s_0.heap.get? a with
        | none => rfl
        | some rr =>
          obtain ⟨r2, e2⟩ := iv1.base.there a rr e (by rw [noex]; exact List.not_mem_nil)
          rw [notThere] at e2
          cases e2
      have pinsOff : ∀ p ∈ X.pn ++ pins, p.1 ≠ a := fun p hp z => by
        have e2 := (iv1.pin p hp).1
        rw [z, notThere] at e2
        cases e2
      have inSuite := iv3.suite at3 dt3 freeA offL offF
      refine wpAny_handleBy_cons (codeAny_handlers_test ?_) (by intro q; cases q)
      have theClass : PySem.W.Looks (model X.prog X.w) hp3 (typeOf (.ref a)) kl := fun A' Q' E' s' kk qq => wpAny_typeOf_ref (kk _ _ at3) (by rw [zc3.1]; exact qq)
      have theTest := PySem.W.exm_one (M := model X.prog X.w) iv3.kIn theClass dec
      have clause : ∀ {Q' : Value → Shared → Prop} {E' : Value → Shared → Prop}, Q' c { sh' with heap := hp3 } → wpAny (model X.prog X.w) (X.A.mark (some (.ref a))) (eval (.Name x np) X.env) Q' E' { sh' with heap := hp3 } := fun {Q' E'} qq => by
        obtain ⟨g1, g2, g3 | ⟨g3, g4, g5⟩⟩ := nam
        · exact ld_glob (X := X.suite a ((a, rc3) :: (X.pn ++ pins))) inSuite g1 g3 qq g2
        · exact ld_blt (X := X.suite a ((a, rc3) :: (X.pn ++ pins))) inSuite g1 g3 g4 qq g5 g2
      refine clause (theTest.here ?_)
      cases yes with
      | true =>
        have go := onYes rfl
        refine codeAny_handlers_suite_as (HandSPX.lands_againZ fly3 fun hp4 fly4 up4 => ?_)
        have iv4 : Inv X pins st1 H1 { sh' with heap := hp4 } := iv1.landed inB fly4.1 ((upTo.trans up3).trans up4) sameOs bareG
        obtain ⟨rc4, cells4, at4, zc4, dt4⟩ := fly4.there
        refine store_ok (X := X.suite a ((a, rc4) :: (X.pn ++ pins))) (v := .ref a) (iv4.suite at4 dt4 freeA offL offF) dist slot (.inl loc) rfl (fun sh5 iv5 => ?_) (.inr loc)
        refine wpAny_mono ((caught a rc4 kl dd (X.pn ++ pins) zc4 ⟨_, dt4⟩).run [] sh5 _ H1 _ iv5 (go a freeA)) (fun flow sh6 came => ?_) fun _ _ z => z.elim
        cases flow with
        | next =>
          obtain ⟨st6, H6, iv6, q6⟩ := came
          have more : Inv X ((a, rc4) :: pins) st6 H6 sh6 := ⟨fine, iv6.os, iv6.bare, iv6.base, iv6.loc, iv6.cell, iv6.free, iv6.freeC, fun p hp => iv6.pin p (List.mem_append_left _ ?_), iv6.hok, iv6.len⟩
          refine gone_ok more dist slot loc fun sh7 iv7 => ?_
          have there : (a, rc4) ∈ X.pn ++ (a, rc4) :: pins := List.mem_append_right _ List.mem_cons_self
          obtain ⟨e1, e2, e3, _⟩ := iv7.pin (a, rc4) there
          have less : Inv X pins (st6.set i none) H6 sh7 := ⟨fine, iv7.os, iv7.bare, iv7.base, iv7.loc, iv7.cell, iv7.free, iv7.freeC, fun p hp => iv7.pin p ?_, iv7.hok, iv7.len⟩
          · exact ⟨_, _, less.adopt new0 e2 e1 zc4 dt4 e3 pinsOff, q6⟩
          · rcases List.mem_append.mp hp with hq | hq
            · exact List.mem_append_left _ hq
            · exact List.mem_append_right _ (List.mem_cons_of_mem _ hq)
          · rcases List.mem_append.mp hp with hq | hq
            · exact List.mem_cons_of_mem _ (List.mem_append_left _ hq)
            · rcases List.mem_cons.mp hq with hr | hr
              · rw [hr]; exact List.mem_cons_self
              · exact List.mem_cons_of_mem _ (List.mem_append_right _ hr)
        | brk =>
          obtain ⟨st6, H6, iv6, q6⟩ := came
          exact gone_ok (iv6.unsuite fine) dist slot loc fun sh7 iv7 => ⟨_, _, iv7, q6⟩
        | cont =>
          obtain ⟨st6, H6, iv6, q6⟩ := came
          exact gone_ok (iv6.unsuite fine) dist slot loc fun sh7 iv7 => ⟨_, _, iv7, q6⟩
        | ret u =>
          obtain ⟨v6, st6, H6, iv6, r6, q6⟩ := came
          exact gone_ok (iv6.unsuite fine) dist slot loc fun sh7 iv7 => ⟨_, _, _, iv7, r6, q6⟩
      | false =>
        show wpAny _ X.A (handleBy (.ref a) X.env []) _ _ _
        refine wpAny_handleBy_nil ?_
        obtain ⟨_, _, _, rc5, cells5, tr5, _, _, at5, _, dt5, at1, _⟩ := id fly3
        unfold PySem.passOn
        refine wpAny_bind (wpAny_field at5 dt5 at1 ?_)
        rw [if_neg (by simp : ¬ (Value.ref tr5 == Value.none) = true)]
        have out : wpAny (model X.prog X.w) X.A (setFlight (.ref a) X.env.frame) (fun _ sh8 => wpAny (model X.prog X.w) X.A (throw (.ref a) : Sem Flow) (SP X pins D) X.xe sh8) X.xe { sh' with heap := hp3 } := by
          rw [frm]
          refine HandSPX.setFlight_upZ fly3 fun hp8 held up8 => wpAny_throw (tk _ _ ?_)
          exact ⟨a, B, shI, pins, st1, H1, kl, dd, rfl, iv1, inB, (upTo.trans up3).trans up8, .inr (.inr (by rw [stk]; exact held)), freeA, sameOs, bareG, onNo rfl⟩
        first
          | exact wpAny_bind out
          | exact wpAny_bind (wpAny_pure (wpAny_bind out))
    · intro flow sh1 came
      cases flow with
      | next =>
        obtain ⟨st1, H1, iv1, q1⟩ := came
        exact wpAny_execs_nil ⟨st1, H1, iv1.ofTry fine, q1⟩
      | brk =>
        obtain ⟨st1, H1, iv1, q1⟩ := came
        exact ⟨st1, H1, iv1.ofTry fine, q1⟩
      | cont =>
        obtain ⟨st1, H1, iv1, q1⟩ := came
        exact ⟨st1, H1, iv1.ofTry fine, q1⟩
      | ret u =>
        obtain ⟨v1, st1, H1, iv1, r1, q1⟩ := came
        exact ⟨v1, st1, H1, iv1.ofTry fine, r1, q1⟩
end
end L2
namespace L2
open PySem PySem.Spec PyProof.Rows
/-- what the written part says of an error class, for isinstance -/
structure ErrC (K : PySem.W.Frag) (C : Addr) : Prop where
  cl : (PySem.W.clsIn K C).isSome = true
  ga : PySem.W.findIn K (.ref C) "__getattribute__" = some (some (.builtin "BaseException.__getattribute__"))
  gg : PySem.W.findIn K (.ref C) "__getattr__" = some none
  sb : PySem.W.subIn K (.ref C) (.type "BaseException") = some true
  cn : PySem.W.findIn K (.ref C) "__class__" = some (some (.builtin "object.__class__"))
  mo : PySem.W.mroIn K C (.type "object") = some true
/-- .. of the attribute __class__ of all objects -/
structure ErrG (K : PySem.W.Frag) : Prop where
  sp : PySem.W.specialIn K (.builtin "object.__class__") "__get__" = some (some (.builtin "getset_descriptor.__get__"))
  tk : PySem.W.takesIn K (.builtin "object.__class__") = some true
/-- a kept error at a, of the class at C; its dict, if it has one, stands -/
def Kept (H : Hp) (a C : Addr) : Prop := H a = some (ExK (.ref C) none a) ∨ ∃ (d : Addr) (fs : List (Str × V)), H a = some (ExK (.ref C) (some d) a) ∧ H d = some (.xd fs)
def rIsKept (K : PySem.W.Frag) : List V → Hp → VK → Prop := fun xs H Q => ∃ (a C : Addr) (c : V) (cv : Value) (b : Bool), xs = [.ref a, c] ∧ ClsV c cv ∧ Kept H a C ∧ ErrC K C ∧ ErrG K ∧ PySem.W.kitOne K (.ref C) cv = some b ∧ Q (.bl b) H
theorem kept_inst {X : Cx} {pins : List (Addr × Obj)} {st : St} {H : Hp} {sh : Shared} {a C : Addr} (iv : Inv X pins st H sh) (k : Kept H a C) : ∃ (oe : Obj) (od : Option Obj), sh.heap.get? a = some oe ∧ PySem.W.InstAt sh.heap a oe C od := by
  rcases k with at' | ⟨d, fs, at', ad⟩
  · obtain ⟨⟨oe, vs, ho, hz, hd⟩, _, _⟩ := iv.hok a _ at'
    refine ⟨oe, none, ho, ?_⟩
    obtain ⟨oc, od, oda, osl⟩ := oe
    obtain ⟨h1, h2⟩ := hz
    dsimp only at h1 h2 hd
    subst h1 h2 hd
    exact ⟨ho, rfl, rfl, trivial⟩
  · obtain ⟨⟨oe, vs, ho, hz, hd⟩, _, _⟩ := iv.hok a _ at'
    have hx : ObjOk X.prog X.w H sh.heap d (.xd fs) := iv.hok d _ ad
    obtain ⟨mA, hns, hr⟩ := hx
    obtain ⟨od, hod, hl⟩ := lookIn_ns hns
    exact ⟨oe, some od, ho, ⟨ho, hz.1, by unfold PySem.W.notCls; rw [hd] <;> rfl, by rw [hz.2]; exact hod⟩⟩
theorem call_isKept {X : Cx} : CallR X (.builtin "isinstance") (rIsKept X.K) := by
  intro pins sh st H xs us Q iv r h
  obtain ⟨a, C, c, cv, b, rfl, k, at', T, G, e, q⟩ := h
  obtain ⟨u1, u2, rfl, r1, r2⟩ := vals2 r
  have e2 := k.eq r2
  subst e2
  obtain rfl : u1 = Value.ref a := r1
  obtain ⟨oe, od, _, J⟩ := kept_inst iv at'
  exact PySem.W.kia_one (PySem.W.kitx_exc T.cl T.ga T.gg T.sb T.cn G.sp G.tk T.mo) iv.kIn J e (fun z => nomatch z) fun tk => ⟨.bl b, H, iv.tok tk, rfl, q⟩
/-- e.n of a kept error with a dict of its own -/
theorem pe_kept {X : Cx} {e : Expr} {te : TE} {pos : Pos} {n : Str} (he : PE X e te) (hb : attributeBase e n X.env (eval e X.env) = eval e X.env := by rfl) :
    PE X (.Attribute e n pos) (fun σ H Q => te σ H fun x H1 => ∃ (a C d : Addr) (fs : List (Str × V)) (v : V), x = .ref a ∧ XfC X.K C ∧ PySem.W.findIn X.K (.ref C) n = some none ∧ H1 a = some (ExK (.ref C) (some d) a) ∧ H1 d = some (.xd fs) ∧ fs.lookup n = some v ∧ Q v H1) := by
  refine ⟨fun pins sh st H Q iv want => ?_⟩
  refine attr_of hb (thn (he.run pins sh st H _ iv want) fun u sh1 hh => ?_)
  obtain ⟨x, H1, iv1, rx, a, C, d, fs, v, ex, T, no, ea, ed, l, q⟩ := hh
  subst ex
  obtain rfl : u = Value.ref a := rx
  obtain ⟨⟨oe, vs, ho, hz, hd⟩, _, _⟩ := iv1.hok a _ ea
  have hx : ObjOk X.prog X.w H1 sh1.heap d (.xd fs) := iv1.hok d _ ed
  obtain ⟨mA, hns, hr⟩ := hx
  obtain ⟨od, hod, hl⟩ := lookIn_ns hns
  obtain ⟨u, hu, ru⟩ := RelO.some_of (v := v) (o := mA n) (by rw [← l]; exact hr n)
  have J : PySem.W.InstAt sh1.heap a oe C (some od) := ⟨ho, hz.1, by unfold PySem.W.notCls; rw [hd] <;> rfl, by rw [hz.2]; exact hod⟩
  exact HandSPX.exc_get iv1.kIn J T.ga T.gg T.exC (PySem.W.findObj_own T.hdC no rfl (by rw [hl, hu])) (handed_of ru) ⟨v, H1, iv1.tok _, ru, q⟩
end L2
namespace HT
open PySem L2
def top (i : Nat) : Stmt := PySem.Challenge.pw_handedtext_k03_wrong_texts.main.body.getD i (.Pass ⟨0, 0, 0, 0⟩)
abbrev s_read_text : Stmt := top 7
abbrev s_past_whole : Stmt := top 8
abbrev s_past_groups : Stmt := top 9
abbrev s_past_places : Stmt := top 10
abbrev s_past_digits : Stmt := top 11
abbrev s_L_source : Stmt := top 13
abbrev s_L_draw : Stmt := top 14
abbrev s_L_pick : Stmt := top 15
abbrev s_L_run : Stmt := top 16
abbrev s_L_front : Stmt := top 17
abbrev s_L_due : Stmt := top 18
abbrev s_L_read : Stmt := top 19
abbrev s_L_text : Stmt := top 20
abbrev s_L_bent : Stmt := top 21
abbrev s_law : Stmt := top 22
/- read_text: 0:text 1:start 2:whole 3:point 4:end 5:figure -/
theorem sc_read_text : FnScope ["text", "start", "whole", "point", "end", "figure"] ["text"] (defScope s_read_text) := ⟨rfl, rfl, rfl, by decide +kernel, rfl, by decide +kernel, by decide +kernel⟩
/- _past_whole: 0:text 1:at 2:end -/
theorem sc_past_whole : FnScope ["text", "at", "end"] ["text", "at"] (defScope s_past_whole) := ⟨rfl, rfl, rfl, by decide +kernel, rfl, by decide +kernel, by decide +kernel⟩
/- _past_groups: 0:text 1:at 2:end -/
theorem sc_past_groups : FnScope ["text", "at", "end"] ["text", "at"] (defScope s_past_groups) := ⟨rfl, rfl, rfl, by decide +kernel, rfl, by decide +kernel, by decide +kernel⟩
/- _past_places: 0:text 1:at 2:end -/
theorem sc_past_places : FnScope ["text", "at", "end"] ["text", "at"] (defScope s_past_places) := ⟨rfl, rfl, rfl, by decide +kernel, rfl, by decide +kernel, by decide +kernel⟩
/- _past_digits: 0:text 1:at 2:most 3:end -/
theorem sc_past_digits : FnScope ["text", "at", "most", "end"] ["text", "at", "most"] (defScope s_past_digits) := ⟨rfl, rfl, rfl, by decide +kernel, rfl, by decide +kernel, by decide +kernel⟩
/- _law_source: 0:_law_script 1:_law_cells 2:_law_k -/
theorem sc_L_source : FnScope ["_law_script", "_law_cells", "_law_k"] ["_law_script"] (defScope s_L_source) := ⟨rfl, rfl, rfl, by decide +kernel, rfl, by decide +kernel, by decide +kernel⟩
/- _law_draw: 0:_law_source_here 1:_law_limit 2:_law_cells 3:_law_turn 4:_law_place 5:_law_cell 6:_law_number -/
theorem sc_L_draw : FnScope ["_law_source_here", "_law_limit", "_law_cells", "_law_turn", "_law_place", "_law_cell", "_law_number"] ["_law_source_here", "_law_limit"] (defScope s_L_draw) := ⟨rfl, rfl, rfl, by decide +kernel, rfl, by decide +kernel, by decide +kernel⟩
/- _law_pick: 0:_law_source_here 1:_law_values -/
theorem sc_L_pick : FnScope ["_law_source_here", "_law_values"] ["_law_source_here", "_law_values"] (defScope s_L_pick) := ⟨rfl, rfl, rfl, by decide +kernel, rfl, by decide +kernel, by decide +kernel⟩
/- _law_run: 0:_law_text_here 1:_law_at 2:_law_end -/
theorem sc_L_run : FnScope ["_law_text_here", "_law_at", "_law_end"] ["_law_text_here", "_law_at"] (defScope s_L_run) := ⟨rfl, rfl, rfl, by decide +kernel, rfl, by decide +kernel, by decide +kernel⟩
/- _law_front: 0:_law_text_here 1:_law_at 2:_law_many 3:_law_end 4:_law_more -/
theorem sc_L_front : FnScope ["_law_text_here", "_law_at", "_law_many", "_law_end", "_law_more"] ["_law_text_here", "_law_at"] (defScope s_L_front) := ⟨rfl, rfl, rfl, by decide +kernel, rfl, by decide +kernel, by decide +kernel⟩
/- _law_due: 0:_law_text_here 1:_law_at 2:_law_begin 3:_law_good 4:_law_middle 5:_law_many 6:_law_number 7:_law_sign -/
theorem sc_L_due : FnScope ["_law_text_here", "_law_at", "_law_begin", "_law_good", "_law_middle", "_law_many", "_law_number", "_law_sign"] ["_law_text_here"] (defScope s_L_due) := ⟨rfl, rfl, rfl, by decide +kernel, rfl, by decide +kernel, by decide +kernel⟩
/- _law_read: 0:_law_text_here 1:_law_caught 2:_law_found 3:e -/
theorem sc_L_read : FnScope ["_law_text_here", "_law_caught", "_law_found", "e"] ["_law_text_here"] (defScope s_L_read) := ⟨rfl, rfl, rfl, by decide +kernel, rfl, by decide +kernel, by decide +kernel⟩
/- _law_text: 0:_law_source_here 1:_law_front_here 2:_law_rest -/
theorem sc_L_text : FnScope ["_law_source_here", "_law_front_here", "_law_rest"] ["_law_source_here"] (defScope s_L_text) := ⟨rfl, rfl, rfl, by decide +kernel, rfl, by decide +kernel, by decide +kernel⟩
/- _law_bent: 0:_law_source_here 1:_law_text_here 2:_law_signs 3:_law_at 4:_law_way -/
theorem sc_L_bent : FnScope ["_law_source_here", "_law_text_here", "_law_signs", "_law_at", "_law_way"] ["_law_source_here", "_law_text_here"] (defScope s_L_bent) := ⟨rfl, rfl, rfl, by decide +kernel, rfl, by decide +kernel, by decide +kernel⟩
/- law: 0:_law_script 1:_law_source_here 2:_law_turn 3:_law_text_here 4:_law_k 5:_law_value -/
theorem sc_law : FnScope ["_law_script", "_law_source_here", "_law_turn", "_law_text_here", "_law_k", "_law_value"] ["_law_script"] (defScope s_law) := ⟨rfl, rfl, rfl, by decide +kernel, rfl, by decide +kernel, by decide +kernel⟩

end HT
namespace L2
open PySem PySem.Spec PyProof.Rows
/-- powers of great numbers -/
def CPowW (i j : Int) : Prop := 0 ≤ j ∧ (Builtin.Int.intBits i : Int) * j ≤ 2 ^ 27
theorem op_powW {X : Cx} : OpR X (binaryOp .Pow) (rI CPowW fun i j => .int (i ^ j.toNat)) := opI fun _ _ _ _ _ _ _ hc q => pow_int hc.1 hc.2 q
end L2
namespace HT
open PySem L2
/-- the law's source of draws: a list of its cells' list and the turn -/
structure Src (H : Hp) (a c : Addr) (t : Nat) : Prop where
  ne : a ≠ c
  ob : H a = some (.lst [.ref c, .int (t : Int)])
  cl : ∃ cs : List Int, H c = some (.lst (cs.map V.int)) ∧ 0 < cs.length ∧ cs.length ≤ 63
/-- nothing else is touched -/
def Oth (a c : Addr) (H H' : Hp) : Prop := ∀ b o, H b = some o → b ≠ a → b ≠ c → H' b = some o
theorem Oth.refl (a c : Addr) (H : Hp) : Oth a c H H := fun _ _ h _ _ => h
theorem Oth.trans {a c : Addr} {H H1 H2 : Hp} (x : Oth a c H H1) (y : Oth a c H1 H2) : Oth a c H H2 := fun b o h n m => y b o (x b o h n m) n m
theorem Oth.new {a c p : Addr} {H H1 : Hp} {o : HO} (x : Oth a c H H1) (n : H1 p = none) : Oth a c H (upd H1 p o) := fun b u h na nc => by
  rw [upd_ne (ne_of_none (x b u h na nc) n)]
  exact x b u h na nc
theorem Src.new {a c p : Addr} {H : Hp} {t : Nat} {o : HO} (S : Src H a c t) (n : H p = none) : Src (upd H p o) a c t := by
  obtain ⟨cs, h, l⟩ := S.cl
  exact ⟨S.ne, by rw [upd_ne (ne_of_none S.ob n)]; exact S.ob, cs, by rw [upd_ne (ne_of_none h n)]; exact h, l⟩
theorem Src.of_same {a c : Addr} {H H' : Hp} {t : Nat} (S : Src H a c t) (e : Same H H') : Src H' a c t := by
  obtain ⟨cs, h, l⟩ := S.cl
  exact ⟨S.ne, e _ _ S.ob, cs, e _ _ h, l⟩
theorem Src.na {a c p : Addr} {H : Hp} {t : Nat} (S : Src H a c t) (n : H p = none) : p ≠ a ∧ p ≠ c := by
  obtain ⟨cs, h, l⟩ := S.cl
  exact ⟨(ne_of_none S.ob n).symm, (ne_of_none h n).symm⟩
theorem Src.nt {a c p : Addr} {H : Hp} {t : Nat} {xs : List V} (S : Src H a c t) (n : H p = some (.tup xs)) : p ≠ a ∧ p ≠ c := by
  obtain ⟨cs, h, l⟩ := S.cl
  exact ⟨ne_of n S.ob (by intro z; cases z), ne_of n h (by intro z; cases z)⟩
def spSource (K : PySem.W.Frag) : Sp := fun vs H Q _ => ∃ (l : Addr) (ns : List Int), vs = [.ref l] ∧ SqL K H l (ns.map V.int) ∧ ns.length ≤ 63 ∧
  ∀ a c H', Same H H' → H a = none → H c = none → Src H' a c 0 → Q (.ref a) H'
def spDraw : Sp := fun vs H Q _ => ∃ (a c : Addr) (t : Nat) (lim : Int), vs = [.ref a, .int lim] ∧ Src H a c t ∧ t < 2 ^ 30 ∧ 0 < lim ∧ lim.natAbs.log2 < 9000 ∧
  ∀ k H', 0 ≤ k → k < lim → Src H' a c (t + 1) → Oth a c H H' → Q (.int k) H'
/-- what the walk asks of the names that the text does not bind -/
structure Blt (mg : Str → Option Value) : Prop where
  len : mg "len" = none
  abs : mg "abs" = none
  int : mg "int" = none
  range : mg "range" = none
section
variable {P : Program} {w : World} {K : PySem.W.Frag} {mg : Str → Option Value} {base : Heap}
theorem fdiv_ok (i : Int) {j : Int} (h : 0 < j) (h9 : j.natAbs.log2 < 9000) : CDivW i j := ⟨h, h9⟩
theorem atI_in {xs : List Int} {i : Int} (h0 : 0 ≤ i) (h : i < (xs.length : Int)) : atI (xs.map V.int) i = some (.int (xs.getD i.toNat 0)) := by
  have e : ixN (xs.map V.int).length i = some i.toNat := by
    unfold ixN
    rw [List.length_map, if_pos h0, if_pos h]
  unfold atI
  rw [e]
  show (xs.map V.int)[i.toNat]? = _
  have hl : i.toNat < xs.length := by omega
  rw [List.getElem?_map, List.getElem?_eq_getElem hl, List.getD_eq_getElem?_getD, List.getElem?_eq_getElem hl]
  rfl
theorem ixN_in {n : Nat} {i : Int} (h0 : 0 ≤ i) (h : i < (n : Int)) : ixN n i = some i.toNat := by
  unfold ixN
  rw [if_pos h0, if_pos h]
theorem b_mod (x : Int) : -(2 ^ 64) < x % 2147483629 ∧ x % 2147483629 < 2 ^ 64 := by omega
theorem b_mod1 (x : Int) : -(2 ^ 64) < x % 2147483647 ∧ x % 2147483647 < 2 ^ 64 := by omega
theorem b_t {t : Nat} (h : t < 2 ^ 30) : -(2 ^ 64) < (t : Int) ∧ (t : Int) < 2 ^ 64 := by omega
theorem b_tt {t : Nat} (h : t < 2 ^ 30) : -(2 ^ 64) < (t : Int) * t ∧ (t : Int) * t < 2 ^ 64 := by
  have h1 : t * t < 2 ^ 30 * 2 ^ 30 := Nat.mul_lt_mul'' h h
  have h2 : ((t * t : Nat) : Int) = (t : Int) * t := Int.natCast_mul t t
  omega
theorem set_ints (xs : List Int) (j : Nat) (y : Int) : (xs.map V.int).set j (.int y) = (xs.set j y).map V.int := by
  rw [List.map_set]
theorem ok_draw {f : Addr} {fd : FuncData} (F : Fun K "_law_draw" "_law_draw" s_L_draw f fd) (B : Blt mg) : FnOk P w K mg base CX0 1 f fd ["_law_source_here", "_law_limit"] spDraw := by
  refine F.ok sc_L_draw (fun vs H Q E h => ?_) (fun cdv A outer s H vs Q E hr h => ?_)
  · obtain ⟨a, c, t, lim, rfl, _⟩ := h
    rfl
  · obtain ⟨a, c, t, lim, rfl, S, ht, hl0, hl9, q⟩ := h
    obtain ⟨cs, hc, hn0, hn⟩ := S.cl
    have nd := sc_L_draw.nd
    refine ⟨_, pss_cons (ps_asg (pv 0) (pg_unl (n := 2) (by rfl) (pgs_cons (pg_name (i := 2) nd rfl (Or.inl rfl)) (pgs_cons (pg_name (i := 3) nd rfl (Or.inl rfl)) pgs_nil))))
      (pss_cons (ps_set (i := 4) nd rfl (Or.inl rfl) (pe_op op_mod (pe_callTy call_int1 (by rfl) B.int (by decide +kernel) (pa_cons (pv 3) pa_nil)) (pe_callB call_len_seq (by rfl) B.len PySem.boot_len (pa_cons (pv 2) pa_nil))))
      (pss_cons (ps_set (i := 5) nd rfl (Or.inl rfl) (pe_ix ix_list (pv 2) (pv 4) (fun _ _ => rfl)))
      (pss_cons (ps_asg (pe_op op_add (pv 3) pe_int) (pg_sub (pv 0) pe_int set_list))
      (pss_cons (ps_if (pt_cmpR op_ge (pv 5) (pe_op op_pow pe_int pe_int) (nomark _))
        (pss_cons (ps_asg (pe_op op_fdivW (pv 5) (pv 1)) (pg_sub (pv 2) (pv 4) set_list))
          (pss_one (ps_ret (pe_op op_mod (pe_callTy call_int1 (by rfl) B.int (by decide +kernel) (pa_cons (pv 5) pa_nil)) (pv 1))))) pss_nil)
      (pss_cons (ps_set (i := 6) nd rfl (Or.inl rfl) (pe_op op_mod (pe_callTy call_int1 (by rfl) B.int (by decide +kernel) (pa_cons
          (pe_op op_add (pe_op op_add (pe_op op_mul (pe_op op_mod (pe_callTy call_int1 (by rfl) B.int (by decide +kernel) (pa_cons (pv 5) pa_nil)) pe_int) pe_int) (pe_op op_mul (pe_op op_mul (pv 3) (pv 3)) pe_int)) pe_int) pa_nil)) pe_int))
      (pss_cons (ps_set (i := 6) nd rfl (Or.inl rfl) (pe_op op_mod (pe_callTy call_int1 (by rfl) B.int (by decide +kernel) (pa_cons (pe_op op_mul (pv 6) (pv 6)) pa_nil)) pe_int))
      (pss_cons (ps_set (i := 6) nd rfl (Or.inl rfl) (pe_op op_mod (pe_callTy call_int1 (by rfl) B.int (by decide +kernel) (pa_cons (pe_op op_mul (pv 6) (pv 6)) pa_nil)) pe_int))
      (pss_one (ps_ret (pe_op op_mod (pe_callTy call_int1 (by rfl) B.int (by decide +kernel) (pa_cons (pv 6) pa_nil)) (pv 1))))))))))), ?_⟩
    -- _law_cells, _law_turn = _law_source_here
    walk_at "rd"
    refine ⟨a, _, rfl, SqL.of S.ob, rfl, _, _, rfl, _, _, rfl, rfl, ?_⟩
    -- _law_place
    walk_at "rd"
    have hn0' : (0 : Int) < ((cs.map V.int).length : Nat) := by rw [List.length_map]; omega
    refine ⟨c, _, rfl, .inl (SqL.of hc), _, _, rfl, rfl, hn0', ?_⟩
    have hp0 : 0 ≤ (t : Int) % ((cs.map V.int).length : Nat) := Int.emod_nonneg _ (by omega)
    have hp1 : (t : Int) % ((cs.map V.int).length : Nat) < ((cs.map V.int).length : Nat) := Int.emod_lt_of_pos _ hn0'
    have hp1' : (t : Int) % ((cs.map V.int).length : Nat) < (cs.length : Int) := by rw [List.length_map] at hp1 ⊢; exact hp1
    -- _law_cell
    walk_at "rd"
    refine ⟨c, _, _, _, rfl, rfl, SqL.of hc, atI_in hp0 hp1', ?_⟩
    -- _law_source_here[1] = _law_turn + 1
    walk_at "rd"
    refine ⟨a, _, 1, 1, rfl, rfl, S.ob, rfl, ?_⟩
    have S1 : Src (upd H a (.lst ([V.ref c, V.int t].set 1 (.int ((t : Int) + 1))))) a c (t + 1) := ⟨S.ne, by rw [upd_same]; rfl, cs, by rw [upd_ne S.ne.symm]; exact hc, hn0, hn⟩
    have O1 : Oth a c H (upd H a (.lst ([V.ref c, V.int t].set 1 (.int ((t : Int) + 1))))) := fun b o h na _ => by rw [upd_ne na]; exact h
    have hc1 : upd H a (.lst ([V.ref c, V.int t].set 1 (.int ((t : Int) + 1)))) c = some (.lst (cs.map V.int)) := by rw [upd_ne S.ne.symm]; exact hc
    generalize upd H a (.lst ([V.ref c, V.int t].set 1 (.int ((t : Int) + 1)))) = H1 at S1 O1 hc1 ⊢
    -- if _law_cell >= 10 ** 18
    walk_at "rd"
    refine ⟨⟨by decide, by decide, by decide⟩, ?_⟩
    walk_at "rd"
    refine ite2 (fun _ => ?_) (fun _ => ?_)
    · walk_at "rd"
      refine ⟨fdiv_ok _ hl0 hl9, ?_⟩
      walk_at "rd"
      refine ⟨c, _, _, _, rfl, rfl, hc1, ixN_in hp0 hp1, ?_⟩
      walk_at "rd"
      refine ⟨hl0, ?_⟩
      rw [set_ints]
      refine q _ _ (Int.emod_nonneg _ (by omega)) (Int.emod_lt_of_pos _ hl0) ⟨S1.ne, by rw [upd_ne S1.ne]; exact S1.ob, _, upd_same, by rw [List.length_set]; exact hn0, by rw [List.length_set]; exact hn⟩ fun b o h na nc => ?_
      rw [upd_ne nc]
      exact O1 b o h na nc
    · walk_at "rd"
      refine ⟨(by show (0 : Int) < 2147483629; decide), ?_⟩
      walk_at "rd"
      refine ⟨.inl (b_mod _), ?_⟩
      walk_at "rd"
      refine ⟨.inl (b_t ht), ?_⟩
      walk_at "rd"
      refine ⟨.inl (b_tt ht), ?_⟩
      walk_at "rd"
      refine ⟨(by show (0 : Int) < 2147483647; decide), ?_⟩
      walk_at "rd"
      refine ⟨.inl (b_mod1 _), ?_⟩
      walk_at "rd"
      refine ⟨(by show (0 : Int) < 2147483629; decide), ?_⟩
      walk_at "rd"
      refine ⟨.inl (b_mod _), ?_⟩
      walk_at "rd"
      refine ⟨(by show (0 : Int) < 2147483587; decide), ?_⟩
      walk_at "rd"
      refine ⟨hl0, ?_⟩
      exact q _ _ (Int.emod_nonneg _ (by omega)) (Int.emod_lt_of_pos _ hl0) S1 O1
end
end HT
namespace HT
open PySem L2
/-- a def of the text that may be called by its name, and what it promises -/
structure Cal (P : Program) (w : World) (K : PySem.W.Frag) (mg : Str → Option Value) (base : Heap) (x : Str) (k : Nat) (ps : List Str) (sp : Sp) (f : Addr) (fd : FuncData) : Prop where
  ok : FnOk P w K mg base CX0 k f fd ps sp
  gl : mg x = some (.ref f)
  kp : PySem.W.keepIn K (.ref f) = true
  bd : Binds K fd ps []
theorem pcl {X : Cx} {x : Str} {k j : Nat} {ps : List Str} {sp : Sp} {f : Addr} {fd : FuncData} {e : Expr} {es : List Expr} {t : TA} {p pos : Pos} (C : Cal X.prog X.w X.K X.mg X.base x k ps sp f fd) (hr : Room j X.A) (hj : k ≤ j) (hg : Gl X x) (ha : PA X (e :: es) t)
    (hdb : (x == ("__debug__" : Str)) = false := by decide) (he : starEach (e :: es) X.env = (false, eval e X.env) :: starEach es X.env := by rfl) (hpl : (backTo pos (starEach es X.env)).any (·.1) = false := by rfl) : PE X (.Call (.Name x p) (e :: es) [] pos) (tCall sp [] E0 t) :=
  pe_call C.ok (hr.mono hj) hg C.gl C.kp C.bd .nil pass0 ha hdb he hpl
section
variable {P : Program} {w : World} {K : PySem.W.Frag} {mg : Str → Option Value} {base : Heap}
theorem cut63 {ns : List Int} (h : ns.length ≤ 63) : cutV (ns.map V.int) none (some 63) = ns.map V.int := by
  have e1 : HT.sIx (ns.map V.int).length 0 none = 0 := rfl
  have e2 : HT.sIx (ns.map V.int).length (ns.map V.int).length (some 63) = (ns.map V.int).length := by
    have := HT.sIx_nat (ns.map V.int).length (ns.map V.int).length 63
    rw [show ((63 : Nat) : Int) = 63 from rfl] at this
    rw [this, List.length_map]
    omega
  unfold cutV
  rw [e1, e2, List.drop_zero, Nat.sub_zero, List.take_length]
theorem dpInts (H : Hp) : ∀ ns : List Int, DpAll K H (ns.map V.int) (ns.map PyData.int)
  | [] => .nil
  | n :: r => .cons (.int n) (dpInts H r)
theorem pow_ok : CPowW ((10 : Int) ^ (60 : Int).toNat) 20 := ⟨by decide, by decide +kernel⟩
theorem pow_pos' : (0 : Int) < ((10 : Int) ^ (60 : Int).toNat) ^ (20 : Int).toNat := by decide +kernel
theorem ok_source {f : Addr} {fd : FuncData} (F : Fun K "_law_source" "_law_source" s_L_source f fd) (B : Blt mg) : FnOk P w K mg base CX0 1 f fd ["_law_script"] (spSource K) := by
  refine F.ok sc_L_source (fun vs H Q E h => ?_) (fun cdv A outer s H vs Q E hr h => ?_)
  · obtain ⟨l, ns, rfl, _⟩ := h
    rfl
  · obtain ⟨l, ns, rfl, hL, hn, q⟩ := h
    have nd := sc_L_source.nd
    refine ⟨_, pss_cons (ps_set (i := 1) nd rfl (Or.inl rfl) (pe_slice sl_list (pv 0) po_none (po_some pe_int)))
      (pss_cons (ps_for PassesOwn.never rfl (pi_range1 (by rfl) B.range (pa_cons (pe_callB call_len_seq (by rfl) B.len PySem.boot_len (pa_cons (pv 1) pa_nil)) pa_nil)) (pg_name (i := 2) nd rfl (Or.inl rfl))
        (pss_one (ps_if (pt_cmpR op_ge (pe_callB call_abs (by rfl) B.abs (by decide +kernel) (pa_cons (pe_ix ix_list (pv 1) (pv 2) (fun _ _ => rfl)) pa_nil)) (pe_op op_pow pe_int pe_int) (nomark _))
          (pss_one (ps_asg (pe_op op_mod (pe_callTy call_int1 (by rfl) B.int (by decide +kernel) (pa_cons (pe_ix ix_list (pv 1) (pv 2) (fun _ _ => rfl)) pa_nil)) (pe_op op_powW (pe_op op_pow pe_int pe_int) pe_int)) (pg_sub (pv 1) (pv 2) set_list))) pss_nil)))
      (pss_cons (ps_if (pt_cmpR (op_eqD hr.units) (pv 1) (pe_lst pa_nil) (nomark _)) (pss_one (ps_set (i := 1) nd rfl (Or.inl rfl) (pe_lst (pa_cons pe_int pa_nil)))) pss_nil)
      (pss_one (ps_ret (pe_lst (pa_cons (pv 1) (pa_cons pe_int pa_nil))))))), ?_⟩
    walk_at "rd"
    refine ⟨l, _, rfl, hL, fun p np => ?_⟩
    rw [cut63 hn]
    walk_at "rd"
    refine ⟨p, _, rfl, .inl (SqL.of upd_same), _, rfl, by omega, ?_, ?_⟩
    · show ((ns.map V.int).length : Int) < 2 ^ 62
      rw [List.length_map]
      omega
    have en : ((ns.map V.int).length : Int).toNat = ns.length := by rw [List.length_map]; omega
    rw [en]
    refine for_range (fun i σ H' => ∃ (cs : List Int) (kv : Option V), σ = [some (.ref l), some (.ref p), kv] ∧ H' p = some (.lst (cs.map V.int)) ∧ cs.length = ns.length ∧ Same H H') ⟨ns, none, rfl, upd_same, rfl, fun b o e => by rw [upd_ne (ne_of_none e np)]; exact e⟩ ?_ ?_
    · rintro i σ H' hi ⟨cs, kv, rfl, hp, hl, sm⟩
      have h0 : (0 : Int) ≤ 0 + (i : Int) := by omega
      have h1 : (0 : Int) + (i : Int) < (cs.length : Int) := by omega
      walk_at "rd"
      refine ⟨p, _, _, _, rfl, rfl, SqL.of hp, atI_in h0 h1, ?_⟩
      walk_at "rd"
      refine ⟨⟨by decide, by decide, by decide⟩, ?_⟩
      walk_at "rd"
      refine ite2 (fun _ => ?_) (fun _ => ?_)
      · walk_at "rd"
        refine ⟨p, _, _, _, rfl, rfl, SqL.of hp, atI_in h0 h1, ?_⟩
        walk_at "rd"
        refine ⟨⟨by decide, by decide, by decide⟩, ?_⟩
        walk_at "rd"
        refine ⟨pow_ok, ?_⟩
        walk_at "rd"
        refine ⟨pow_pos', ?_⟩
        walk_at "rd"
        refine ⟨p, _, _, _, rfl, rfl, hp, ixN_in h0 (by rw [List.length_map]; exact h1), ?_⟩
        rw [set_ints]
        exact ⟨_, _, rfl, upd_same, by rw [List.length_set]; exact hl, fun b o e => by rw [upd_ne (ne_of_none e np)]; exact sm b o e⟩
      · exact ⟨cs, _, rfl, hp, hl, sm⟩
    · rintro σ H' ⟨cs, kv, rfl, hp, hl, sm⟩
      walk_at "rd"
      refine ⟨by decide, fun e ne => ?_⟩
      have hpe : upd H' e (.lst []) p = some (.lst (cs.map V.int)) := by rw [upd_ne (ne_of_none hp ne)]; exact hp
      have sm1 : Same H (upd H' e (.lst [])) := fun b o z => by rw [upd_ne (ne_of_none (sm b o z) ne)]; exact sm b o z
      refine ⟨_, _, .lst (SqL.of hpe) (dpInts _ cs), .lst (SqL.of upd_same) .nil, PySem.W.ke_shaped_ints cs, by decide +kernel, ?_⟩
      walk_at "rd"
      have hb : PyData.eqv (.list (cs.map PyData.int)) (.list []) = decide (cs = []) := by
        have z := PySem.W.ked_eqvAll cs []
        rw [← z]
        rfl
      rw [hb]
      refine ite2 (fun _ => ?_) (fun hne => ?_)
      · walk_at "rd"
        refine ⟨by decide, fun c nc => ?_⟩
        walk_at "rd"
        refine ⟨(by show 2 ≤ sizeLine; decide), fun a na => ?_⟩
        have sm2 : Same H (upd (upd H' e (.lst [])) c (.lst [.int 0])) := fun b o z => by rw [upd_ne (ne_of_none (sm1 b o z) nc)]; exact sm1 b o z
        have nac : a ≠ c := (ne_of_none upd_same na).symm
        refine q a c _ (fun b o z => by rw [upd_ne (ne_of_none (sm2 b o z) na)]; exact sm2 b o z) (sm2.free na) (sm1.free nc) ⟨nac, upd_same, [0], by rw [upd_ne nac.symm]; exact upd_same, by decide, by decide⟩
      · walk_at "rd"
        refine ⟨(by show 2 ≤ sizeLine; decide), fun a na => ?_⟩
        have nap : a ≠ p := (ne_of_none hpe na).symm
        refine q a p _ (fun b o z => by rw [upd_ne (ne_of_none (sm1 b o z) na)]; exact sm1 b o z) (sm1.free na) np ⟨nap, upd_same, cs, by rw [upd_ne nap.symm]; exact hpe, ?_, by omega⟩
        have : cs ≠ [] := fun z => hne (decide_eq_true z)
        exact List.length_pos_iff.mpr this
end
end HT
namespace HT
open PySem L2
/-- a thing of any kind, with its type's name -/
inductive Th (H : Hp) : V → String → Prop where
  | int (i : Int) : Th H (.int i) "int"
  | bl (b : Bool) : Th H (.bl b) "bool"
  | non : Th H .non "NoneType"
  | str (s : Str) : Th H (.str s) "str"
  | tup {p : Addr} {xs : List V} (h : H p = some (.tup xs)) : Th H (.ref p) "tuple"
  | lst {p : Addr} {xs : List V} (h : H p = some (.lst xs)) : Th H (.ref p) "list"
  | dk {p : Addr} {kvs : List (Key × V)} (h : H p = some (.dK kvs)) : Th H (.ref p) "dict"
theorem Th.ty {K : PySem.W.Frag} {H : Hp} {x : V} {n : String} (t : Th H x n) : TyX K H x (.type n) := by
  cases t with
  | int i => exact .base (.int i)
  | bl b => exact .base (.bl b)
  | non => exact .base .non
  | str s => exact .base (.str s)
  | tup h => exact .base (.tup h)
  | lst h => exact .base (.lst h)
  | dk h => exact .base (.dK h)
theorem Th.kint {K : PySem.W.Frag} {H : Hp} {x : V} {n : String} (t : Th H x n) : PySem.W.kitOne K (.type n) (.type "int") = some (n == "int" || n == "bool") := by
  cases t <;> exact kit_ty (by decide +kernel)
theorem Th.kbool {K : PySem.W.Frag} {H : Hp} {x : V} {n : String} (t : Th H x n) : PySem.W.kitOne K (.type n) (.type "bool") = some (n == "bool") := by
  cases t <;> exact kit_ty (by decide +kernel)
theorem Th.ktup {K : PySem.W.Frag} {H : Hp} {x : V} {n : String} (t : Th H x n) : PySem.W.kitOne K (.type n) (.type "tuple") = some (n == "tuple") := by
  cases t <;> exact kit_ty (by decide +kernel)
theorem Th.klst {K : PySem.W.Frag} {H : Hp} {x : V} {n : String} (t : Th H x n) : PySem.W.kitOne K (.type n) (.type "list") = some (n == "list") := by
  cases t <;> exact kit_ty (by decide +kernel)
theorem Th.same {H H' : Hp} {x : V} {n : String} (t : Th H x n) (s : Same H H') : Th H' x n := by
  cases t with
  | int i => exact .int i
  | bl b => exact .bl b
  | non => exact .non
  | str x => exact .str x
  | tup h => exact .tup (s _ _ h)
  | lst h => exact .lst (s _ _ h)
  | dk h => exact .dk (s _ _ h)
def isI (n : String) : Bool := n == "int"
def spIsAny : Sp := fun vs H Q _ => ∃ (x : V) (n : String), vs = [x] ∧ Th H x n ∧ Q (.bl (isI n)) H
/-- an int between the ends -/
def inB (x : V) (a b : Int) : Bool := match x with
  | .int i => decide (a ≤ i) && decide (i ≤ b)
  | _ => false
def spBetAny : Sp := fun vs H Q _ => ∃ (x : V) (n : String) (a b : Int), vs = [x, .int a, .int b] ∧ Th H x n ∧ Q (.bl (inB x a b)) H
/-- the names that the text of checks does not bind -/
structure ChkT (mg : Str → Option Value) : Prop where
  isi : mg "isinstance" = none
  int : mg "int" = none
  bool : mg "bool" = none
  tuple : mg "tuple" = none
  list : mg "list" = none
  len : mg "len" = none
end HT
namespace HT
open PySem L2
theorem dec_int (a b : Int) : decide (V.int a = V.int b) = decide (a = b) := by
  by_cases h : a = b
  · rw [decide_eq_true h, h, decide_eq_true rfl]
  · rw [decide_eq_false h, decide_eq_false (fun z => h (V.int.inj z))]
theorem dec_str (a b : Str) : decide (V.str a = V.str b) = decide (a = b) := by
  by_cases h : a = b
  · rw [decide_eq_true h, h, decide_eq_true rfl]
  · rw [decide_eq_false h, decide_eq_false (fun z => h (V.str.inj z))]
theorem dec_bl (a b : Bool) : decide (V.bl a = V.bl b) = decide (a = b) := by
  by_cases h : a = b
  · rw [decide_eq_true h, h, decide_eq_true rfl]
  · rw [decide_eq_false h, decide_eq_false (fun z => h (V.bl.inj z))]
theorem str_t {a b : Str} (h : decide (V.str a = V.str b) = true) : a = b := V.str.inj (of_decide_eq_true h)
theorem str_f {a b : Str} (h : ¬ decide (V.str a = V.str b) = true) : ¬ a = b := fun z => h (decide_eq_true (congrArg V.str z))
theorem int_t {a b : Int} (h : decide (V.int a = V.int b) = true) : a = b := V.int.inj (of_decide_eq_true h)
theorem int_f {a b : Int} (h : ¬ decide (V.int a = V.int b) = true) : ¬ a = b := fun z => h (decide_eq_true (congrArg V.int z))
theorem not_t {b : Bool} (h : (!b) = true) : ¬ b = true := by cases b <;> simp_all
theorem not_f {b : Bool} (h : ¬ (!b) = true) : b = true := by cases b <;> simp_all
end HT
namespace HT
open PySem L2
def spPick : Sp := fun vs H Q _ => ∃ (a c : Addr) (t : Nat) (l : Addr) (xs : List V), vs = [.ref a, .ref l] ∧ Src H a c t ∧ t < 2 ^ 30 ∧ H l = some (.lst xs) ∧ l ≠ a ∧ l ≠ c ∧ 0 < xs.length ∧ xs.length < 2 ^ 60 ∧
  ∀ x H', x ∈ xs → Src H' a c (t + 1) → Oth a c H H' → Q x H'
theorem lg_nat {n : Nat} (h : n < 2 ^ 200) : ((n : Int)).natAbs.log2 < 9000 := by
  rw [Int.natAbs_natCast]
  by_cases e : n = 0
  · rw [e]; decide
  · have := (Nat.log2_lt e).mpr h
    omega
section
variable {P : Program} {w : World} {K : PySem.W.Frag} {mg : Str → Option Value} {base : Heap} {fD fP fG : Addr} {dD dP dG : FuncData}
theorem ok_pick {f : Addr} {fd : FuncData} (F : Fun K "_law_pick" "_law_pick" s_L_pick f fd) (B : Blt mg) (D : Cal P w K mg base "_law_draw" 1 ["_law_source_here", "_law_limit"] spDraw fD dD) :
    FnOk P w K mg base CX0 2 f fd ["_law_source_here", "_law_values"] spPick := by
  refine F.ok sc_L_pick (fun vs H Q E h => ?_) (fun cdv A outer s H vs Q E hr h => ?_)
  · obtain ⟨a, c, t, l, xs, rfl, _⟩ := h
    rfl
  · obtain ⟨a, c, t, l, xs, rfl, S, ht, hl, na, nc, h0, h1, q⟩ := h
    refine ⟨_, pss_one (ps_ret (pe_ix ix_list (pv 1) (pcl D hr (by decide) (by rfl) (pa_cons (pv 0) (pa_cons (pe_callB call_len_seq (by rfl) B.len PySem.boot_len (pa_cons (pv 1) pa_nil)) pa_nil))) (fun _ _ => rfl))), ?_⟩
    walk_at "rd"
    refine ⟨l, _, rfl, .inl (SqL.of hl), ?_⟩
    have p1 : (0 : Int) < (xs.length : Int) := by omega
    refine ⟨a, c, t, _, rfl, S, ht, p1, lg_nat (Nat.lt_of_lt_of_le h1 (Nat.pow_le_pow_right (by decide) (by decide))), fun k H' k0 k1 S' O => ?_⟩
    have hl' : k.toNat < xs.length := by omega
    have e : atI xs k = some xs[k.toNat] := by
      unfold atI
      rw [ixN_in k0 k1]
      exact List.getElem?_eq_getElem hl'
    refine ⟨l, _, _, _, rfl, rfl, SqL.of (O _ _ hl na nc), e, ?_⟩
    exact q _ _ (List.getElem_mem hl') S' O
end
end HT
namespace L2
open PySem PySem.Spec PyProof.Rows
/-- a def of which any kind of error may come -/
theorem Fun.okAny {CX' : CXT} {P : Program} {w : World} {K : PySem.W.Frag} {mg : Str → Option Value} {base : Heap} {nm qu : Str} {row : Stmt} {at0 : Addr} {fd : FuncData} {names pars : List Str} {lev : Nat} {want : Sp} (F : Fun K nm qu row at0 fd) (S : FnScope names pars (defScope row)) (len : ∀ vs H Q E, want vs H Q E → vs.length = pars.length)
    (body : ∀ (code : Value) (A : Around) (outer : List Env) (sh : Shared) (H : Hp) (vs : List V) (Q : VK) (E : XK), Room lev (A.deeper (envOfC qu (defScope row) sh.heap.objs.size at0 code)) → want vs H Q E →
      ∃ t, PSs (cxOf CX' P w K mg base names qu (defScope row) at0 code A outer sh H E) (defBody row) t ∧ t { nx := fun _ H' => Q .non H', rt := Q } (start names vs) H) : FnOk P w K mg base CX' (lev + 1) at0 fd pars want := by
  obtain ⟨_, _, _, _, _, _, code, _, _, rfl, there, isCode⟩ := F.ex
  exact fn_of there isCode S len (body code)
/-- X('..') of an own class, for a raise .. from None -/
theorem pmk5_own {X : Cx} {C : Addr} {bmB : List Value} {B newId initId : String} {x m : Str} {j : Nat} {p p2 pos : Pos} (F : ExcBaseFacts B newId initId bmB) (q : PySem.W.excIn X.K C bmB newId = true) (gC : X.mg x = some (.ref C)) (kC : PySem.W.keepIn X.K (.ref C) = true) (r : Raises X (.ref C)) (hg : Gl X x)
    (plain : (x == ("__debug__" : Str)) = false := by decide) : L2H.PMk5 X (.Call (.Name x p) [.Constant (.str m) j p2] [] pos) (fun _ H Q => Q (.ref C) none H) := by
  intro pins sh st H Q iv want
  have arg : PA X [.Constant (.str m) j p2] (tCons (tC (.str m)) tNil) := pa_cons pe_str pa_nil
  refine wpAny_Call_Name_kw (ld_glob iv hg gC (PySem.W.callWith_K (h₀ := X.base) iv.ok.mod.kin kC (thn (arg.run pos pins sh st H (fun vs H1 => vs = [V.str m] ∧ H = H1) iv ⟨rfl, rfl⟩) ?_)) plain)
  rintro us sh1 ⟨vs, H1, iv1, rel, rfl, rfl⟩
  refine ⟨iv1.kIn, ?_⟩
  match us, rel with
  | [u], .cons _ .nil =>
    show wpAny _ _ (call (.ref C) [u]) _ _ _
    obtain ⟨_, _, _, _, _, _, _, _, _, _, _, _, _, _, _, _, _, hC, hN, hni, T⟩ := exc_obj iv1.kIn q
    exact wpAny_call_exc_subT F T hC hN hni (fun h' e made => L2H.mk_of5 iv1 made r want (iv1.hok.gone made.new)) (by show 1 ≤ sizeLine; decide)
/-- try: .. except x: suite, the suite raising: ps_try_onlyX with its reading under a name, for a loop around it -/
def tTryX (K : PySem.W.Frag) (c : Value) (ts : Addr → Value → Option Addr → TS) (Wout : WX) (tb : WX → TS) : TS := fun D st H => tb (wOnly K c ts Wout D) D st H
theorem ps_tryX {X : Cx} {x : Str} {c : Value} {body suite : List Stmt} {first : Stmt} {np pos pos' : Pos} {tb : WX → TS} {ts : Addr → Value → Option Addr → TS} {Wout : WX} (h1 : X.stack = X.env :: X.outer) (h2 : X.env.frame = some X.env.locals) (h3 : Names X x c)
    (h4 : ∀ hd : Option Value, PassesOwnAt (model X.prog X.w) (X.A.mark hd) X.A X.env X.xe) (h5 : L2.Takes X Wout)
    (h6 : ∀ (W : WX) (pn : List (Addr × Obj)) (xe : Value → Shared → Prop), L2N.Takes (X.tr pn xe) W → L2.Takes (X.tr pn xe) (L2H.wPass X.K c Wout) → PassesOwn (model X.prog X.w) X.A X.env xe → PSs (X.tr pn xe) body (tb W))
    (h7 : ∀ (a : Addr) (oe : Obj) (cls : Value) (d : Option Addr) (pn : List (Addr × Obj)), L2N.Zn cls d oe → (∃ vs, oe.data = .fields vs) → L2.Takes (L2H.suiteX X a ((a, oe) :: pn)) Wout → L2H.HotC (L2H.suiteX X a ((a, oe) :: pn)) → PSs (L2H.suiteX X a ((a, oe) :: pn)) (first :: suite) (ts a cls d)) :
    PS X (.Try body [.ExceptHandler (some (.Name x np)) none (first :: suite) pos'] [] [] pos) (tTryX X.K c ts Wout tb) := L2H.ps_try_onlyX h1 h2 h3 h4 h5 h6 h7
end L2
namespace HT
open PySem L2
theorem false_go {A B : Prop} (h : B) : if false = true then A else B := h
/-- the digits' own signs -/
def digS : Str := "0123456789"
/-- how many of the first signs are digits, at most m of them -/
def dgRun : Nat → List Nat → Nat
  | 0, _ => 0
  | _ + 1, [] => 0
  | m + 1, c :: r => if c ∈ digS.cps.toList then dgRun m r + 1 else 0
theorem dgRun_zero (l : List Nat) : dgRun 0 l = 0 := by cases l <;> rfl
theorem dgRun_nil (m : Nat) : dgRun m [] = 0 := by cases m <;> rfl
theorem dgRun_le : ∀ (m : Nat) (l : List Nat), dgRun m l ≤ l.length ∧ dgRun m l ≤ m
  | 0, l => by rw [dgRun_zero]; exact ⟨Nat.zero_le _, Nat.zero_le _⟩
  | m + 1, [] => by rw [dgRun_nil]; exact ⟨Nat.zero_le _, Nat.zero_le _⟩
  | m + 1, c :: r => by
    have h := dgRun_le m r
    unfold dgRun
    rw [List.length_cons]
    split <;> omega
def pastD (z : Str) (a m : Nat) : Nat := a + dgRun m (z.cps.toList.drop a)
def spPastD : Sp := fun vs H Q _ => ∃ (z : Str) (a m : Nat), vs = [.str z, .int a, .int m] ∧ a ≤ z.length ∧ z.length ≤ sizeLine ∧ Q (.int (pastD z a m)) H
section
variable {P : Program} {w : World} {K : PySem.W.Frag} {mg : Str → Option Value} {base : Heap} {tD : Tok}
theorem ok_past_digits {f : Addr} {fd : FuncData} (F : Fun K "_past_digits" "_past_digits" s_past_digits f fd) (gL : mg "len" = none) (gD : mg "DIGITS" = some (.str digS tD)) : FnOk P w K mg base CX0 1 f fd ["text", "at", "most"] spPastD := by
  refine F.ok sc_past_digits (fun vs H Q E h => ?_) (fun cdv A outer s H vs Q E hr h => ?_)
  · obtain ⟨z, a, m, rfl, _⟩ := h
    rfl
  · obtain ⟨z, a, m, rfl, az, zl, q⟩ := h
    have nd := sc_past_digits.nd
    refine ⟨_, pss_cons (ps_set (i := 3) nd rfl (Or.inl rfl) (pv 1))
      (pss_cons (ps_while PassesOwn.never (PW.pt (pw_and (pt_cmpR op_lt (pv 3) (pe_callB call_len_str (by rfl) gL PySem.boot_len (pa_cons (pv 0) pa_nil)) (nomark _))
          (pw_and (pt_cmpR op_lt (pe_op op_sub (pv 3) (pv 1)) (pv 2) (nomark _))
          (pw_and1 (pt_cmpR op_in_sign (pe_ix ix_str (pv 0) (pv 3) (fun _ _ => rfl)) (pe_glob (v := .str digS) (by rfl) gD ⟨_, rfl⟩) (by rfl))))))
        (pss_one (ps_aug (i := 3) nd rfl (Or.inl rfl) pe_int ip_add)))
      (pss_one (ps_ret (pv 3)))), ?_⟩
    walk_at "rd"
    have hl : z.cps.toList.length = z.length := Array.length_toList
    refine ⟨fun μ σ H' => ∃ e : Nat, a ≤ e ∧ e ≤ z.length ∧ e - a ≤ m ∧ pastD z a m = e + dgRun (m - (e - a)) (z.cps.toList.drop e) ∧ μ = z.length - e ∧ σ = [some (.str z), some (.int a), some (.int m), some (.int e)] ∧ H' = H, ⟨_, a, Nat.le_refl _, az, by omega, by rw [Nat.sub_self]; rfl, rfl, rfl, rfl⟩, ?_⟩
    rintro μ σ H' ⟨e, ae, ez, em, pe, rfl, rfl, rfl⟩
    have out : dgRun (m - (e - a)) (z.cps.toList.drop e) = 0 → Q (.int e) H' := fun h => by
      rw [pe, h] at q
      exact q
    walk_at "rd"
    refine ⟨zl, ?_⟩
    walk_at "rd"
    refine ite2 (fun h1 => ?_) (fun h1 => ?_)
    · have l1 : e < z.length := by
        have := of_decide_eq_true h1
        omega
      obtain ⟨c, hc⟩ : ∃ c, z.cps.toList[e]? = some c := ⟨z.cps.toList[e]'(by omega), List.getElem?_eq_getElem _⟩
      have dr : z.cps.toList.drop e = c :: z.cps.toList.drop (e + 1) := by
        have lt : e < z.cps.toList.length := by omega
        rw [List.drop_eq_getElem_cons lt]
        rw [List.getElem?_eq_getElem lt] at hc
        injection hc with hc
        rw [hc]
      walk_at "rd"
      refine ite2 (fun h2 => ?_) (fun h2 => ?_)
      · have l2 : e - a < m := by
          have := of_decide_eq_true h2
          omega
        obtain ⟨k, hk⟩ : ∃ k, m - (e - a) = k + 1 := ⟨m - (e - a) - 1, by omega⟩
        walk_at "rd"
        refine ⟨z, (e : Int), c, rfl, rfl, zl, atI_nat hc, ?_⟩
        refine ⟨c, digS, rfl, rfl, ?_⟩
        walk_at "rd"
        refine ite2 (fun h3 => ?_) (fun h3 => ?_)
        · have l3 := of_decide_eq_true h3
          refine ⟨fun σ' H1 => σ' = [some (.str z), some (.int a), some (.int m), some (.int ((e + 1 : Nat) : Int))] ∧ H1 = H', ?_, ?_⟩
          · rintro σ' H1 ⟨rfl, rfl⟩
            refine ⟨z.length - (e + 1), by omega, e + 1, by omega, by omega, by omega, ?_, rfl, rfl, rfl⟩
            rw [pe, dr, hk]
            have k1 : m - (e + 1 - a) = k := by omega
            rw [k1]
            show e + (if c ∈ digS.cps.toList then dgRun k (z.cps.toList.drop (e + 1)) + 1 else 0) = _
            rw [if_pos l3]
            omega
          · walk_at "rd"
            exact ⟨rfl, rfl⟩
        · refine ⟨_, rfl, out ?_⟩
          rw [dr, hk]
          show (if c ∈ digS.cps.toList then dgRun k (z.cps.toList.drop (e + 1)) + 1 else 0) = 0
          rw [if_neg (fun x => h3 (decide_eq_true x))]
      · have l2 : ¬ e - a < m := fun x => h2 (decide_eq_true (by omega))
        refine false_go ⟨_, rfl, out ?_⟩
        have k0 : m - (e - a) = 0 := by omega
        rw [k0, dgRun_zero]
    · have l1 : ¬ e < z.length := fun x => h1 (decide_eq_true (by omega))
      refine false_go ⟨_, rfl, out ?_⟩
      rw [List.drop_eq_nil_of_le (by omega), dgRun_nil]
end
end HT
namespace HT
open PySem L2
def inCls (s : Stmt) (i : Nat) : Stmt := match s with
  | .ClassDef _ _ _ body .. => body.getD i (.Pass ⟨0, 0, 0, 0⟩)
  | _ => .Pass ⟨0, 0, 0, 0⟩
abbrev sIT : Stmt := inCls (top 3) 0
theorem scIT : FnScope ["self", "at"] ["self", "at"] (defScope sIT) := ⟨rfl, rfl, rfl, by decide +kernel, rfl, by decide +kernel, by decide +kernel⟩
def spIT (D : Addr) : Sp := fun vs H Q _ => ∃ (a : Addr) (y : V), vs = [.ref a, y] ∧ H a = some (exo a D none) ∧ ∀ dx, H dx = none → dx ≠ a → Q .non (upd (upd H dx (exd dx [("at", y)])) a (exo a D (some dx)))
theorem ok_IT {P : Program} {w : World} {K : PySem.W.Frag} {mg : Str → Option Value} {base : Heap} {D f : Addr} {fd : FuncData} (F : Fun K "__init__" "InvalidText.__init__" sIT f fd) (O : OexC K D) (no : PySem.W.findIn K (.ref D) "at" = some none) : FnOk P w K mg base CX0 1 f fd ["self", "at"] (spIT D) := by
  refine F.ok scIT (fun vs H Q E h => ?_) (fun cdv A outer s H vs Q E hr h => ?_)
  · obtain ⟨a, y, rfl, _⟩ := h
    rfl
  · obtain ⟨a, y, rfl, ha, q⟩ := h
    refine ⟨_, pss_one (ps_ost (pv 0) (pv 1)), ?_⟩
    walk_at "rd"
    refine ⟨a, D, rfl, O, no, .inl ⟨ha, fun dx nd ne => ?_⟩⟩
    exact q dx nd ne
/-- InvalidText, to be raised -/
structure ItC (P : Program) (w : World) (K : PySem.W.Frag) (mg : Str → Option Value) (base : Heap) (D fI : Addr) (fd : FuncData) : Prop where
  o : OexC K D
  xf : XfC K D
  i : PySem.W.findIn K (.ref D) "__init__" = some (some (.ref fI))
  t : PySem.W.typeIn K (.ref fI) = some (.type "function")
  ok : FnOk P w K mg base CX0 1 fI fd ["self", "at"] (spIT D)
  bd : Binds K fd ["self", "at"] []
  gl : mg "InvalidText" = some (.ref D)
theorem pmk_it {X : Cx} {j : Nat} {D fI : Addr} {fd : FuncData} {e : Expr} {es : List Expr} {ta : TA} {p pos : Pos} (I : ItC X.prog X.w X.K X.mg X.base D fI fd) (hr : Room j X.A) (hj : 2 ≤ j) (hg : Gl X "InvalidText") (ha : PA X (e :: es) ta)
    (he : starEach (e :: es) X.env = (false, eval e X.env) :: starEach es X.env := by rfl) (hpl : (backTo pos (starEach es X.env)).any (·.1) = false := by rfl) : PMk X (.Call (.Name "InvalidText" p) (e :: es) [] pos) (tMkO D (spIT D) [] ta) :=
  pmk_oex I.o I.i I.t I.ok (hr.mono hj) I.bd .nil pass0 hg I.gl ha (by decide) he hpl
/-- what a raised InvalidText leaves -/
def Err (D : Addr) (E : XK) (H : Hp) (n : Int) : Prop := ∀ (d : Addr) (H' : Hp), H d = none → Same H H' → H' d = some (.xd [("at", .int n)]) → E (.ref D) (some d) H'
theorem Err.go {D : Addr} {E : XK} {H : Hp} {n : Int} (h : Err D E H n) : ([V.int n] : List V).length ≤ 1000 ∧ ∀ a, H a = none → spIT D (.ref a :: ([V.int n] ++ [])) (upd H a (exo a D none)) (fun v H2 => v = .non ∧ ∃ (d : Addr) (fs : List (Str × V)), H2 a = some (exo a D (some d)) ∧ H2 d = some (exd d fs) ∧ H d = none ∧ E (.ref D) (some d) (upd (del H2 a) d (.xd fs))) (fun _ _ _ => False) := by
  refine ⟨(by show 1 ≤ 1000; decide), fun a na => ⟨a, .int n, rfl, upd_same, fun dx nd ne => ⟨rfl, dx, [("at", .int n)], upd_same, (upd_ne ne).trans upd_same, (upd_ne ne).symm.trans nd, ?_⟩⟩⟩
  have hd : H dx = none := (upd_ne ne).symm.trans nd
  refine h dx _ hd (fun b u z => ?_) upd_same
  have b1 := ne_of_none z na
  have b2 := ne_of_none z hd
  rw [upd_ne b2, del_ne b1, upd_ne b1, upd_ne b2, upd_ne b1]
  exact z
theorem Err.same {D : Addr} {E : XK} {H H1 : Hp} {n : Int} (h : Err D E H n) (s : Same H H1) : Err D E H1 n := fun d H' hd s' e => by
  refine h d H' ?_ (s.trans s') e
  cases hh : H d with
  | none => rfl
  | some u =>
    have := s _ _ hh
    rw [hd] at this
    cases this
/-! ### what the text's parts come to -/
def at1 (z : Str) (a : Nat) : Str := cutS z (some (a : Int)) (some ((a : Int) + 1))
def groupsM (z : Str) : Nat → Nat → Bool × Nat
  | 0, a => (true, a)
  | n + 1, a => if at1 z a = "," then (if pastD z (a + 1) 3 < a + 4 then (false, pastD z (a + 1) 3) else groupsM z n (pastD z (a + 1) 3)) else (true, a)
def chAt (z : Str) (a : Nat) : Nat := z.cps.toList.getD a 0
def wholeM (z : Str) (a : Nat) : Bool × Nat :=
  if pastD z a z.length = a then (false, a) else if (⟨#[chAt z a]⟩ : Str) = "0" then (true, a + 1) else if 3 < pastD z a z.length - a then (true, pastD z a z.length) else groupsM z z.length (pastD z a z.length)
def placesM (z : Str) (a : Nat) : Bool × Nat := if at1 z a = "." then (if pastD z (a + 1) 60 = a + 1 then (false, a + 1) else (true, pastD z (a + 1) 60)) else (true, a)
/-- the outcome of a part: a place, or an error's -/
def Out (D : Addr) (Q : VK) (E : XK) (H : Hp) (r : Bool × Nat) : Prop := (r.1 = true → Q (.int (r.2 : Int)) H) ∧ (r.1 = false → Err D E H (r.2 : Int))
def spWhole (D : Addr) : Sp := fun vs H Q E => ∃ (z : Str) (a : Nat), vs = [.str z, .int a] ∧ a ≤ z.length ∧ z.length ≤ 2000 ∧ Out D Q E H (wholeM z a)
def spGroups (D : Addr) : Sp := fun vs H Q E => ∃ (z : Str) (a n : Nat), vs = [.str z, .int a] ∧ a ≤ z.length ∧ z.length ≤ 2000 ∧ z.length < a + 4 * n + 1 ∧ Out D Q E H (groupsM z n a)
def spPlaces (D : Addr) : Sp := fun vs H Q E => ∃ (z : Str) (a : Nat), vs = [.str z, .int a] ∧ a ≤ z.length ∧ z.length ≤ 2000 ∧ Out D Q E H (placesM z a)
theorem at1_lt {z : Str} {a : Nat} {s : Str} (h : at1 z a = s) (hs : s.length = 1) : a < z.length := by
  have e := congrArg Str.length h
  rw [hs] at e
  have : (cutS z (some (a : Int)) (some ((a : Int) + 1))).length = 1 := e
  have h1 : ((z.cps.toList.drop (HT.sIx z.length 0 (some (a : Int)))).take (HT.sIx z.length z.length (some ((a + 1 : Nat) : Int)) - HT.sIx z.length 0 (some (a : Int)))).toArray.size = 1 := this
  rw [HT.sIx_nat, HT.sIx_nat, List.size_toArray, List.length_take] at h1
  omega
theorem past_le (z : Str) (a m : Nat) (h : a ≤ z.length) : a ≤ pastD z a m ∧ pastD z a m ≤ z.length ∧ pastD z a m ≤ a + m := by
  have := dgRun_le m (z.cps.toList.drop a)
  have hz : z.cps.toList.length = z.length := Array.length_toList
  rw [List.length_drop, hz] at this
  unfold pastD
  omega
theorem len_comma : ("," : Str).length = 1 := by decide +kernel
theorem len_dot : ("." : Str).length = 1 := by decide +kernel
section
variable {P : Program} {w : World} {K : PySem.W.Frag} {mg : Str → Option Value} {base : Heap} {tM : Tok} {fD fG D fI : Addr} {dD dG dI : FuncData}
theorem ok_past_places {f : Addr} {fd : FuncData} (F : Fun K "_past_places" "_past_places" s_past_places f fd) (gM : mg "MOST_PLACES" = some (.int 60 tM)) (I : ItC P w K mg base D fI dI) (Pd : Cal P w K mg base "_past_digits" 1 ["text", "at", "most"] spPastD fD dD) : FnOk P w K mg base (L2.CX P w) 3 f fd ["text", "at"] (spPlaces D) := by
  refine F.okX sc_past_places (fun vs H Q E h => ?_) (fun cdv A outer s H vs Q E hr h => ?_)
  · obtain ⟨z, a, rfl, _⟩ := h
    rfl
  · obtain ⟨z, a, rfl, az, zl, ok, er⟩ := h
    have zs : z.length ≤ sizeLine := Nat.le_trans zl (by decide)
    have nd := sc_past_places.nd
    refine ⟨_, pss_cons (ps_if (pt_cmpR op_ne (pe_slice sl_str (pv 0) (po_some (pv 1)) (po_some (pe_op op_add (pv 1) pe_int))) pe_str (nomark _)) (pss_one (ps_ret (pv 1))) pss_nil)
      (pss_cons (ps_set (i := 2) nd rfl (Or.inl rfl) (pcl Pd hr (by decide) (by rfl) (pa_cons (pv 0) (pa_cons (pe_op op_add (pv 1) pe_int) (pa_cons (pe_glob (v := .int 60) (by rfl) gM ⟨_, rfl⟩) pa_nil)))))
      (pss_cons (ps_if (pt_cmpR op_eq (pv 2) (pe_op op_add (pv 1) pe_int) (nomark _)) (pss_one (ps_raise rfl (takes_of rfl rfl rfl rfl) (pmk_it I hr (by decide) (by rfl) (pa_cons (pv 2) pa_nil)))) pss_nil)
      (pss_one (ps_ret (pv 2))))), ?_⟩
    unfold placesM at ok er
    walk_at "rd"
    refine ⟨zs, ?_⟩
    walk_at "rd"
    refine ⟨rfl, ?_⟩
    walk_at "rd"
    refine ite2 (fun h => ?_) (fun h => ?_)
    · have h' : ¬ at1 z a = "." := fun e => not_t h (decide_eq_true (congrArg V.str e))
      rw [if_neg h'] at ok
      exact ⟨_, rfl, ok rfl⟩
    · have h' : at1 z a = "." := str_t (not_f h)
      rw [if_pos h'] at ok er
      have lt := at1_lt h' len_dot
      walk_at "rd"
      refine ⟨z, a + 1, 60, rfl, lt, zs, ?_⟩
      walk_at "rd"
      refine ⟨rfl, ?_⟩
      walk_at "rd"
      refine ite2 (fun h => ?_) (fun h => ?_)
      · have e : pastD z (a + 1) 60 = a + 1 := by
          have := int_t h
          omega
        rw [if_pos e] at er
        walk_at "rd"
        rw [e]
        exact (er rfl).go
      · have e : ¬ pastD z (a + 1) 60 = a + 1 := fun x => int_f h (by rw [x]; rfl)
        rw [if_neg e] at ok
        exact ⟨_, rfl, ok rfl⟩
theorem ok_past_groups {f : Addr} {fd : FuncData} (F : Fun K "_past_groups" "_past_groups" s_past_groups f fd) (I : ItC P w K mg base D fI dI) (Pd : Cal P w K mg base "_past_digits" 1 ["text", "at", "most"] spPastD fD dD) : FnOk P w K mg base (L2.CX P w) 3 f fd ["text", "at"] (spGroups D) := by
  refine F.okX sc_past_groups (fun vs H Q E h => ?_) (fun cdv A outer s H vs Q E hr h => ?_)
  · obtain ⟨z, a, n, rfl, _⟩ := h
    rfl
  · obtain ⟨z, a, n, rfl, az, zl, fu, ok, er⟩ := h
    have zs : z.length ≤ sizeLine := Nat.le_trans zl (by decide)
    have nd := sc_past_groups.nd
    refine ⟨_, pss_cons (ps_while (passes_of rfl) (pt_cmpR op_eq (pe_slice sl_str (pv 0) (po_some (pv 1)) (po_some (pe_op op_add (pv 1) pe_int))) pe_str (nomark _))
        (pss_cons (ps_set (i := 2) nd rfl (Or.inl rfl) (pcl Pd hr (by decide) (by rfl) (pa_cons (pv 0) (pa_cons (pe_op op_add (pv 1) pe_int) (pa_cons pe_int pa_nil)))))
        (pss_cons (ps_if (pt_cmpR op_lt (pv 2) (pe_op op_add (pv 1) pe_int) (nomark _)) (pss_one (ps_raise rfl (takes_of rfl rfl rfl rfl) (pmk_it I hr (by decide) (by rfl) (pa_cons (pv 2) pa_nil)))) pss_nil)
        (pss_one (ps_set (i := 1) nd rfl (Or.inl rfl) (pv 2))))))
      (pss_one (ps_ret (pv 1))), ?_⟩
    refine ⟨fun μ σ H' => ∃ (b : Nat) (x : Option V), b ≤ z.length ∧ z.length < b + 4 * μ + 1 ∧ ((groupsM z μ b).1 = true → Q (.int ((groupsM z μ b).2 : Int)) H) ∧ ((groupsM z μ b).1 = false → Err D E H ((groupsM z μ b).2 : Int)) ∧ σ = [some (.str z), some (.int (b : Int)), x] ∧ H' = H, ⟨_, a, none, az, fu, ok, er, rfl, rfl⟩, ?_⟩
    rintro μ σ H' ⟨b, x, bz, fu, ok, er, rfl, rfl⟩
    walk_at "rd"
    refine ⟨zs, ?_⟩
    walk_at "rd"
    refine ⟨rfl, ?_⟩
    walk_at "rd"
    refine ite2 (fun h => ?_) (fun h => ?_)
    · have h' : at1 z b = "," := str_t h
      have lt := at1_lt h' len_comma
      obtain ⟨m, rfl⟩ : ∃ m, μ = m + 1 := ⟨μ - 1, by omega⟩
      have st : groupsM z (m + 1) b = if pastD z (b + 1) 3 < b + 4 then (false, pastD z (b + 1) 3) else groupsM z m (pastD z (b + 1) 3) := by
        show (if at1 z b = "," then _ else _) = _
        rw [if_pos h']
      rw [st] at ok er
      obtain ⟨p1, p2, p3⟩ := past_le z (b + 1) 3 lt
      refine ⟨fun σ' H1 => ¬ pastD z (b + 1) 3 < b + 4 ∧ σ' = [some (.str z), some (.int ((pastD z (b + 1) 3 : Nat) : Int)), some (.int ((pastD z (b + 1) 3 : Nat) : Int))] ∧ H1 = H', ?_, ?_⟩
      · rintro σ' H1 ⟨ge, rfl, rfl⟩
        rw [if_neg ge] at ok er
        exact ⟨m, by omega, _, _, p2, by omega, ok, er, rfl, rfl⟩
      walk_at "rd"
      refine ⟨z, b + 1, 3, rfl, lt, zs, ?_⟩
      walk_at "rd"
      refine ite2 (fun h => ?_) (fun h => ?_)
      · have l4 : pastD z (b + 1) 3 < b + 4 := by
          have := of_decide_eq_true h
          omega
        rw [if_pos l4] at er
        walk_at "rd"
        exact (er rfl).go
      · have l4 : ¬ pastD z (b + 1) 3 < b + 4 := fun x => h (decide_eq_true (by omega))
        walk_at "rd"
        exact ⟨l4, rfl, rfl⟩
    · have h' : ¬ at1 z b = "," := str_f h
      have st : groupsM z μ b = (true, b) := by
        cases μ with
        | zero => rfl
        | succ m =>
          show (if at1 z b = "," then _ else _) = _
          rw [if_neg h']
      rw [st] at ok
      exact ⟨_, rfl, ok rfl⟩
end
end HT
namespace HT
open PySem L2
/-- a def of which errors may come, and its call -/
structure CalX (P : Program) (w : World) (K : PySem.W.Frag) (mg : Str → Option Value) (base : Heap) (x : Str) (k : Nat) (ps : List Str) (sp : Sp) (f : Addr) (fd : FuncData) : Prop where
  ok : FnOk P w K mg base (L2.CX P w) k f fd ps sp
  mgf : mg x = some (.ref f)
  kp : PySem.W.keepIn K (.ref f) = true
  b : Binds K fd ps []
theorem pcx {X : Cx} {x : Str} {k j : Nat} {ps : List Str} {sp : Sp} {f : Addr} {fd : FuncData} {e : Expr} {es : List Expr} {t : TA} {p pos : Pos} {W : WX} (C : CalX X.prog X.w X.K X.mg X.base x k ps sp f fd) (hr : Room j X.A) (hj : k ≤ j) (hg : Gl X x) (tk : L2.Takes X W) (ha : PA X (e :: es) t)
    (hdb : (x == ("__debug__" : Str)) = false := by decide) (he : starEach (e :: es) X.env = (false, eval e X.env) :: starEach es X.env := by rfl) (hpl : (backTo pos (starEach es X.env)).any (·.1) = false := by rfl) : PE X (.Call (.Name x p) (e :: es) [] pos) (tCallS sp (WE W) t) :=
  pe_callS C.ok (hr.mono hj) hg C.mgf C.kp C.b (fun σ => L2.passAt tk σ) ha hdb he hpl
end HT
namespace HT
open PySem L2
theorem chAt_get {z : Str} {a : Nat} (h : a < z.length) : z.cps.toList[a]? = some (chAt z a) := by
  have hz : a < z.cps.toList.length := by
    rw [Array.length_toList]
    exact h
  unfold chAt
  rw [List.getD_eq_getElem?_getD, List.getElem?_eq_getElem hz]
  rfl
section
variable {P : Program} {w : World} {K : PySem.W.Frag} {mg : Str → Option Value} {base : Heap} {tM : Tok} {fD fG D fI : Addr} {dD dG dI : FuncData}
theorem ok_past_whole {f : Addr} {fd : FuncData} (F : Fun K "_past_whole" "_past_whole" s_past_whole f fd) (gL : mg "len" = none) (I : ItC P w K mg base D fI dI) (Pd : Cal P w K mg base "_past_digits" 1 ["text", "at", "most"] spPastD fD dD) (Gr : CalX P w K mg base "_past_groups" 3 ["text", "at"] (spGroups D) fG dG) : FnOk P w K mg base (L2.CX P w) 4 f fd ["text", "at"] (spWhole D) := by
  refine F.okX sc_past_whole (fun vs H Q E h => ?_) (fun cdv A outer s H vs Q E hr h => ?_)
  · obtain ⟨z, a, rfl, _⟩ := h
    rfl
  · obtain ⟨z, a, rfl, az, zl, ok, er⟩ := h
    have zs : z.length ≤ sizeLine := Nat.le_trans zl (by decide)
    have nd := sc_past_whole.nd
    refine ⟨_, pss_cons (ps_set (i := 2) nd rfl (Or.inl rfl) (pcl Pd hr (by decide) (by rfl) (pa_cons (pv 0) (pa_cons (pv 1) (pa_cons (pe_callB call_len_str (by rfl) gL PySem.boot_len (pa_cons (pv 0) pa_nil)) pa_nil)))))
      (pss_cons (ps_if (pt_cmpR op_eq (pv 2) (pv 1) (nomark _)) (pss_one (ps_raise rfl (takes_of rfl rfl rfl rfl) (pmk_it I hr (by decide) (by rfl) (pa_cons (pv 1) pa_nil)))) pss_nil)
      (pss_cons (ps_if (pt_cmpR op_eq (pe_ix ix_str (pv 0) (pv 1) (fun _ _ => rfl)) pe_str (nomark _)) (pss_one (ps_ret (pe_op op_add (pv 1) pe_int))) pss_nil)
      (pss_cons (ps_if (pt_cmpR op_gt (pe_op op_sub (pv 2) (pv 1)) pe_int (nomark _)) (pss_one (ps_ret (pv 2))) pss_nil)
      (pss_one (ps_ret (pcx Gr hr (by decide) (by rfl) (takes_of rfl rfl rfl rfl) (pa_cons (pv 0) (pa_cons (pv 2) pa_nil)))))))), ?_⟩
    obtain ⟨p1, p2, _⟩ := past_le z a z.length az
    unfold wholeM at ok er
    walk_at "rd"
    refine ⟨zs, ?_⟩
    refine ⟨z, a, z.length, rfl, az, zs, ?_⟩
    generalize pastD z a z.length = e at p1 p2 ok er
    walk_at "rd"
    refine ⟨rfl, ?_⟩
    walk_at "rd"
    refine ite2 (fun h => ?_) (fun h => ?_)
    · have ea : e = a := by
        have := int_t h
        omega
      rw [if_pos ea] at er
      walk_at "rd"
      exact (er rfl).go
    have ea : ¬ e = a := fun x => int_f h (by rw [x])
    rw [if_neg ea] at ok er
    walk_at "rd"
    refine ⟨z, (a : Int), chAt z a, rfl, rfl, zs, atI_nat (chAt_get (by omega)), ?_⟩
    walk_at "rd"
    refine ⟨rfl, ?_⟩
    walk_at "rd"
    refine ite2 (fun h => ?_) (fun h => ?_)
    · rw [if_pos (str_t h)] at ok
      walk_at "rd"
      exact ok rfl
    rw [if_neg (str_f h)] at ok er
    walk_at "rd"
    refine ite2 (fun h2 => ?_) (fun h2 => ?_)
    · have g : 3 < e - a := by
        have := of_decide_eq_true h2
        omega
      rw [if_pos g] at ok
      exact ⟨_, rfl, ok rfl⟩
    · have g : ¬ 3 < e - a := fun x => h2 (decide_eq_true (by omega))
      rw [if_neg g] at ok er
      walk_at "rd"
      exact ⟨z, e, z.length, rfl, p2, zl, by omega, ok, er⟩
end
end HT
namespace HT
open PySem L2 PySem.NumText TL
theorem tl_digS : tl digS = [48, 49, 50, 51, 52, 53, 54, 55, 56, 57] := by
  show tl (Str.ofString "0123456789") = _
  rw [tl_ofString]
  rfl
theorem mem_digS {c : Nat} : c ∈ digS.cps.toList ↔ 48 ≤ c ∧ c ≤ 57 := by
  rw [show digS.cps.toList = [48, 49, 50, 51, 52, 53, 54, 55, 56, 57] from tl_digS]
  simp only [List.mem_cons, List.not_mem_nil, or_false]
  omega
theorem tl_cut (z : Str) (a b : Nat) (h : b ≤ (tl z).length) : tl (cutS z (some (a : Int)) (some (b : Int))) = ((tl z).drop a).take (b - a) := by
  have hz : z.length = (tl z).length := len_tl z
  show ((tl z).drop (HT.sIx z.length 0 (some (a : Int)))).take (HT.sIx z.length z.length (some (b : Int)) - HT.sIx z.length 0 (some (a : Int))) = _
  rw [HT.sIx_nat, HT.sIx_nat, hz, Nat.min_eq_left h]
  by_cases g : a ≤ (tl z).length
  · rw [Nat.min_eq_left g]
  · rw [Nat.min_eq_right (by omega), List.drop_eq_nil_of_le (Nat.le_refl _), List.drop_eq_nil_of_le (by omega), List.take_nil, List.take_nil]
theorem tl_at1 (z : Str) (a : Nat) : tl (at1 z a) = ((tl z).drop a).take 1 := by
  have hz : z.length = (tl z).length := len_tl z
  show ((tl z).drop (HT.sIx z.length 0 (some (a : Int)))).take (HT.sIx z.length z.length (some ((a + 1 : Nat) : Int)) - HT.sIx z.length 0 (some (a : Int))) = _
  rw [HT.sIx_nat, HT.sIx_nat, hz]
  by_cases g : a < (tl z).length
  · rw [Nat.min_eq_left (by omega), Nat.min_eq_left (by omega)]
    congr 1
    omega
  · rw [Nat.min_eq_right (by omega), Nat.min_eq_right (by omega), List.drop_eq_nil_of_le (Nat.le_refl _), List.drop_eq_nil_of_le (by omega), List.take_nil, List.take_nil]
theorem at1_is {z : Str} {a c : Nat} {s : Str} (hs : tl s = [c]) : at1 z a = s ↔ ((tl z).drop a).head? = some c := by
  constructor
  · intro h
    have e := congrArg tl h
    rw [tl_at1, hs] at e
    cases hd : (tl z).drop a with
    | nil => rw [hd] at e; cases e
    | cons d l =>
      rw [hd] at e
      have e1 : d = c := by injection e
      rw [e1]
      rfl
  · intro h
    refine ext_tl ?_
    rw [tl_at1, hs]
    cases hd : (tl z).drop a with
    | nil => rw [hd] at h; cases h
    | cons d l =>
      rw [hd] at h
      injection h with h
      rw [h]
      rfl
theorem tl_comma : tl ("," : Str) = [44] := by
  show tl (Str.ofString ",") = _
  rw [tl_ofString]
  rfl
theorem tl_dot : tl ("." : Str) = [46] := by
  show tl (Str.ofString ".") = _
  rw [tl_ofString]
  rfl
theorem tl_minus : tl ("-" : Str) = [45] := by
  show tl (Str.ofString "-") = _
  rw [tl_ofString]
  rfl
theorem tl_plus : tl ("+" : Str) = [43] := by
  show tl (Str.ofString "+") = _
  rw [tl_ofString]
  rfl
theorem tl_zero : tl ("0" : Str) = [48] := by
  show tl (Str.ofString "0") = _
  rw [tl_ofString]
  rfl
theorem tl_blank : tl (" " : Str) = [32] := by
  show tl (Str.ofString " ") = _
  rw [tl_ofString]
  rfl
theorem tl_empty : tl ("" : Str) = [] := by
  show tl (Str.ofString "") = _
  rw [tl_ofString]
  rfl
theorem one_is {c d : Nat} {s : Str} (hs : tl s = [d]) : (⟨#[c]⟩ : Str) = s ↔ c = d := by
  constructor
  · intro h
    have e := congrArg tl h
    rw [hs] at e
    have e1 : [c] = [d] := e
    injection e1
  · intro h
    refine ext_tl ?_
    rw [hs, ← h]
theorem filter_dg {l : List Nat} (h : AllDigits l) {c : Nat} (hc : c < 48) : l.filter (· != c) = l := by
  refine List.filter_eq_self.mpr (fun d hd => ?_)
  have := h d hd
  simp only [bne_iff_ne]
  omega
end HT
namespace HT
open PySem L2 PySem.NumText TL
def isDg (c : Nat) : Bool := decide (48 ≤ c) && decide (c ≤ 57)
theorem isDg_t {c : Nat} : isDg c = true ↔ 48 ≤ c ∧ c ≤ 57 := by
  unfold isDg
  rw [Bool.and_eq_true, decide_eq_true_eq, decide_eq_true_eq]
/-- digits, commas and points from a to b -/
def Seg (z : Str) (a b : Nat) : Prop := ∀ i c, a ≤ i → i < b → z.cps.toList[i]? = some c → (48 ≤ c ∧ c ≤ 57) ∨ c = 44 ∨ c = 46
theorem Seg.trans {z : Str} {a b d : Nat} (h : Seg z a b) (g : Seg z b d) : Seg z a d := fun i c h1 h2 e => by
  by_cases x : i < b
  · exact h i c h1 x e
  · exact g i c (by omega) h2 e
theorem dgRun_in : ∀ (m : Nat) (l : List Nat) (i c : Nat), i < dgRun m l → l[i]? = some c → 48 ≤ c ∧ c ≤ 57
  | 0, l, i, c, h, _ => by rw [dgRun_zero] at h; omega
  | m + 1, [], i, c, h, _ => by rw [dgRun_nil] at h; omega
  | m + 1, d :: l, i, c, h, e => by
    have st : dgRun (m + 1) (d :: l) = if d ∈ digS.cps.toList then dgRun m l + 1 else 0 := rfl
    rw [st] at h
    by_cases hd : d ∈ digS.cps.toList
    · rw [if_pos hd] at h
      cases i with
      | zero =>
        injection e with e
        rw [← e]
        exact mem_digS.mp hd
      | succ i => exact dgRun_in m l i c (by omega) e
    · rw [if_neg hd] at h
      omega
theorem past_seg (z : Str) (a m : Nat) : Seg z a (pastD z a m) := fun i c h1 h2 e => by
  refine .inl (dgRun_in m (z.cps.toList.drop a) (i - a) c ?_ ?_)
  · unfold pastD at h2
    omega
  · rw [List.getElem?_drop, show a + (i - a) = i by omega]
    exact e
theorem one_seg {z : Str} {a d : Nat} {s : Str} (h : at1 z a = s) (hs : tl s = [d]) (hd : d = 44 ∨ d = 46) : Seg z a (a + 1) := fun i c h1 h2 e => by
  have hh := (at1_is hs).mp h
  obtain rfl : i = a := by omega
  rw [List.head?_drop] at hh
  rw [show (tl z)[i]? = some c from e] at hh
  injection hh with hh
  rw [hh]
  exact .inr hd
theorem groups_seg (z : Str) : ∀ (n a p : Nat), a ≤ z.length → groupsM z n a = (true, p) → a ≤ p ∧ p ≤ z.length ∧ Seg z a p
  | 0, a, p, ha, h => by
    injection h with h1 h2
    subst h2
    exact ⟨Nat.le_refl _, ha, fun i c h1 h2 => by omega⟩
  | n + 1, a, p, ha, h => by
    have st : groupsM z (n + 1) a = if at1 z a = "," then (if pastD z (a + 1) 3 < a + 4 then (false, pastD z (a + 1) 3) else groupsM z n (pastD z (a + 1) 3)) else (true, a) := rfl
    rw [st] at h
    by_cases hc : at1 z a = ","
    · rw [if_pos hc] at h
      have lt := at1_lt hc len_comma
      obtain ⟨p1, p2, p3⟩ := past_le z (a + 1) 3 lt
      by_cases g : pastD z (a + 1) 3 < a + 4
      · rw [if_pos g] at h
        cases h
      · rw [if_neg g] at h
        obtain ⟨q1, q2, q3⟩ := groups_seg z n _ p p2 h
        exact ⟨by omega, q2, (one_seg hc tl_comma (.inl rfl)).trans ((past_seg z (a + 1) 3).trans q3)⟩
    · rw [if_neg hc] at h
      injection h with h1 h2
      subst h2
      exact ⟨Nat.le_refl _, ha, fun i c h1 h2 => by omega⟩
theorem past_pos {z : Str} {a m : Nat} (h : pastD z a m ≠ a) : ∃ c, z.cps.toList[a]? = some c ∧ 48 ≤ c ∧ c ≤ 57 := by
  have hd : 0 < dgRun m (z.cps.toList.drop a) := by
    unfold pastD at h
    omega
  cases e : z.cps.toList[a]? with
  | none =>
    have : z.cps.toList.drop a = [] := List.drop_eq_nil_of_le (List.getElem?_eq_none_iff.mp e)
    rw [this, dgRun_nil] at hd
    omega
  | some c =>
    refine ⟨c, rfl, dgRun_in m (z.cps.toList.drop a) 0 c hd ?_⟩
    rw [List.getElem?_drop]
    exact e
theorem whole_seg {z : Str} {a p : Nat} (ha : a ≤ z.length) (h : wholeM z a = (true, p)) : a < p ∧ p ≤ z.length ∧ Seg z a p ∧ ∃ c, z.cps.toList[a]? = some c ∧ 48 ≤ c ∧ c ≤ 57 := by
  obtain ⟨p1, p2, _⟩ := past_le z a z.length ha
  unfold wholeM at h
  by_cases g1 : pastD z a z.length = a
  · rw [if_pos g1] at h
    cases h
  rw [if_neg g1] at h
  obtain ⟨c, hc, c1, c2⟩ := past_pos g1
  have first : Seg z a (a + 1) := fun i d h1 h2 e => by
    obtain rfl : i = a := by omega
    rw [hc] at e
    injection e with e
    rw [← e]
    exact .inl ⟨c1, c2⟩
  by_cases g2 : (⟨#[chAt z a]⟩ : Str) = "0"
  · rw [if_pos g2] at h
    injection h with h1 h2
    subst h2
    exact ⟨by omega, by omega, first, c, hc, c1, c2⟩
  rw [if_neg g2] at h
  by_cases g3 : 3 < pastD z a z.length - a
  · rw [if_pos g3] at h
    injection h with h1 h2
    subst h2
    exact ⟨by omega, p2, past_seg z a z.length, c, hc, c1, c2⟩
  · rw [if_neg g3] at h
    obtain ⟨q1, q2, q3⟩ := groups_seg z _ _ p p2 h
    exact ⟨by omega, q2, (past_seg z a z.length).trans q3, c, hc, c1, c2⟩
theorem places_seg {z : Str} {a p : Nat} (ha : a ≤ z.length) (h : placesM z a = (true, p)) : a ≤ p ∧ p ≤ z.length ∧ Seg z a p := by
  unfold placesM at h
  by_cases g : at1 z a = "."
  · rw [if_pos g] at h
    have lt := at1_lt g len_dot
    obtain ⟨p1, p2, p3⟩ := past_le z (a + 1) 60 lt
    by_cases g2 : pastD z (a + 1) 60 = a + 1
    · rw [if_pos g2] at h
      cases h
    · rw [if_neg g2] at h
      injection h with h1 h2
      subst h2
      exact ⟨by omega, p2, (one_seg g tl_dot (.inr rfl)).trans (past_seg z (a + 1) 60)⟩
  · rw [if_neg g] at h
    injection h with h1 h2
    subst h2
    exact ⟨Nat.le_refl _, ha, fun i c h1 h2 => by omega⟩
def markQ (z : Str) (a : Nat) : Bool := decide (at1 z a = "-") || decide (at1 z a = "+")
def blanks (z : Str) : Nat := z.length - (Txt.lstripChars z " ").length
def wholeAt (z : Str) : Nat := if markQ z (blanks z) = true then blanks z + 1 else blanks z
theorem blanks_le (z : Str) : blanks z ≤ z.length := Nat.sub_le _ _
theorem mark_lt {z : Str} {a : Nat} (h : markQ z a = true) : a < z.length := by
  unfold markQ at h
  rw [Bool.or_eq_true, decide_eq_true_eq, decide_eq_true_eq] at h
  rcases h with h | h
  · exact at1_lt h (by decide +kernel)
  · exact at1_lt h (by decide +kernel)
theorem wholeAt_le (z : Str) : blanks z ≤ wholeAt z ∧ wholeAt z ≤ z.length := by
  have := blanks_le z
  unfold wholeAt
  by_cases h : markQ z (blanks z) = true
  · rw [if_pos h]
    have := mark_lt h
    omega
  · rw [if_neg h]
    omega
/-- true and the point's place, or false and the place of the error -/
def outM (z : Str) : Bool × Nat :=
  if (wholeM z (wholeAt z)).1 = true then (if (placesM z (wholeM z (wholeAt z)).2).1 = true then (if (placesM z (wholeM z (wholeAt z)).2).2 < z.length then (false, (placesM z (wholeM z (wholeAt z)).2).2) else (true, (wholeM z (wholeAt z)).2)) else (false, (placesM z (wholeM z (wholeAt z)).2).2)) else (false, (wholeM z (wholeAt z)).2)
def numM (z : Str) : Nat := digitsVal (((tl z).drop (wholeAt z)).filter isDg)
def figM (z : Str) : Int := if (⟨#[chAt z (blanks z)]⟩ : Str) = "-" then -(numM z : Int) else (numM z : Int)
/-- what is left of a good text is digits, commas and points -/
theorem good_seg {z : Str} {p e : Nat} (h1 : wholeM z (wholeAt z) = (true, p)) (h2 : placesM z p = (true, e)) (h3 : ¬ e < z.length) : wholeAt z < z.length ∧ p ≤ z.length ∧ e = z.length ∧ (∀ c ∈ (tl z).drop (wholeAt z), (48 ≤ c ∧ c ≤ 57) ∨ c = 44 ∨ c = 46) ∧ ((tl z).drop (wholeAt z)).filter isDg ≠ [] := by
  obtain ⟨a1, a2, a3, c, hc, c1, c2⟩ := whole_seg (wholeAt_le z).2 h1
  obtain ⟨b1, b2, b3⟩ := places_seg a2 h2
  have ez : e = z.length := by omega
  refine ⟨by omega, a2, ez, fun d hd => ?_, fun x => ?_⟩
  · obtain ⟨i, hi, ei⟩ := List.getElem_of_mem hd
    have e2 : ((tl z).drop (wholeAt z))[i]? = some d := by rw [List.getElem?_eq_getElem hi, ei]
    rw [List.getElem?_drop] at e2
    have lt := (List.getElem?_eq_some_iff.mp e2).1
    rw [← len_tl] at lt
    exact (a3.trans b3) _ d (by omega) (by omega) e2
  · have hm : c ∈ (tl z).drop (wholeAt z) := by
      have : ((tl z).drop (wholeAt z))[0]? = some c := by
        rw [List.getElem?_drop]
        exact hc
      exact List.mem_of_getElem? this
    have : c ∈ ((tl z).drop (wholeAt z)).filter isDg := List.mem_filter.mpr ⟨hm, isDg_t.mpr ⟨c1, c2⟩⟩
    rw [x] at this
    cases this
theorem struck {l : List Nat} (h : ∀ c ∈ l, (48 ≤ c ∧ c ≤ 57) ∨ c = 44 ∨ c = 46) : (l.filter (· != 44)).filter (· != 46) = l.filter isDg := by
  rw [List.filter_filter]
  refine List.filter_congr (fun c hc => ?_)
  have := h c hc
  by_cases g : 48 ≤ c ∧ c ≤ 57
  · rw [isDg_t.mpr g]
    have a : (c != 44) = true := by
      simp only [bne_iff_ne]
      omega
    have b : (c != 46) = true := by
      simp only [bne_iff_ne]
      omega
    rw [a, b]
    rfl
  · have i : isDg c = false := by
      cases x : isDg c with
      | false => rfl
      | true => exact (g (isDg_t.mp x)).elim
    rw [i]
    rcases this with h | h | h
    · exact (g h).elim
    · subst h
      decide
    · subst h
      decide
theorem dg_all (l : List Nat) : AllDigits (l.filter isDg) := fun c hc => isDg_t.mp (List.mem_filter.mp hc).2
theorem good_int {z : Str} (zl : z.length ≤ 600) (h : ∀ c ∈ (tl z).drop (wholeAt z), (48 ≤ c ∧ c ≤ 57) ∨ c = 44 ∨ c = 46) (ne : ((tl z).drop (wholeAt z)).filter isDg ≠ []) :
    (Txt.replace (cutS z (some (wholeAt z : Int)) (some (z.length : Int))) "," "").length ≤ 2000 ∧ (Txt.replace (Txt.replace (cutS z (some (wholeAt z : Int)) (some (z.length : Int))) "," "") "." "").length ≤ 640 ∧
      PySem.intText? (Txt.replace (Txt.replace (cutS z (some (wholeAt z : Int)) (some (z.length : Int))) "," "") "." "") = some ((numM z : Nat) : Int) := by
  have cm : ("," : Str) = ⟨#[44]⟩ := ext_tl (by rw [tl_comma])
  have dm : ("." : Str) = ⟨#[46]⟩ := ext_tl (by rw [tl_dot])
  have em : ("" : Str) = ⟨#[]⟩ := ext_tl (by rw [tl_empty])
  have tc : tl (cutS z (some (wholeAt z : Int)) (some (z.length : Int))) = (tl z).drop (wholeAt z) := by
    rw [tl_cut _ _ _ (by rw [len_tl]; exact Nat.le_refl _), List.take_of_length_le]
    rw [List.length_drop, len_tl]
    exact Nat.le_refl _
  have r1 : tl (Txt.replace (cutS z (some (wholeAt z : Int)) (some (z.length : Int))) "," "") = ((tl z).drop (wholeAt z)).filter (· != 44) := by
    rw [cm, em]
    refine (PyProof.Rows.replace_strikes _ 44).trans ?_
    rw [show (cutS z (some (wholeAt z : Int)) (some (z.length : Int))).cps.toList = _ from tc]
  have r2 : tl (Txt.replace (Txt.replace (cutS z (some (wholeAt z : Int)) (some (z.length : Int))) "," "") "." "") = ((tl z).drop (wholeAt z)).filter isDg := by
    rw [dm]
    rw [em] at r1 ⊢
    refine (PyProof.Rows.replace_strikes _ 46).trans ?_
    rw [show (Txt.replace (cutS z (some (wholeAt z : Int)) (some (z.length : Int))) "," ⟨#[]⟩).cps.toList = _ from r1, struck h]
  have l0 : ((tl z).drop (wholeAt z)).length ≤ 600 := by
    rw [List.length_drop, ← len_tl]
    omega
  have l2 : (Txt.replace (Txt.replace (cutS z (some (wholeAt z : Int)) (some (z.length : Int))) "," "") "." "").length ≤ 600 := by
    rw [len_tl, r2]
    exact Nat.le_trans (List.length_filter_le _ _) l0
  refine ⟨?_, by omega, ?_⟩
  · rw [len_tl, r1]
    have := List.length_filter_le (· != 44) ((tl z).drop (wholeAt z))
    omega
  · have := intText_digits (x := Txt.replace (Txt.replace (cutS z (some (wholeAt z : Int)) (some (z.length : Int))) "," "") "." "") (by rw [show (Txt.replace (Txt.replace (cutS z (some (wholeAt z : Int)) (some (z.length : Int))) "," "") "." "").cps.toList = _ from r2]; exact dg_all _) (by rw [show (Txt.replace (Txt.replace (cutS z (some (wholeAt z : Int)) (some (z.length : Int))) "," "") "." "").cps.toList = _ from r2]; exact ne) (by omega)
    rw [show (Txt.replace (Txt.replace (cutS z (some (wholeAt z : Int)) (some (z.length : Int))) "," "") "." "").cps.toList = _ from r2] at this
    exact this
end HT
namespace HT
open PySem PySem.Spec PyProof.Rows L2 CwR
section
variable {X : Cx} {a b : Expr} {ta tb : TE} {rest : List Stmt} {u : TS} {pos' p2 pos : Pos}
/-- x = a - b; ..: behind it a token is out -/
theorem pss_subT {i : Nat} {x : Str} (hN : X.N.Nodup) (hi : X.N[i]? = some x) (hx : Loc X.env.scope x) (ha : PE X a ta) (hb : PE X b tb) (h2 : PSsT X rest u)
    (hs : swapsWith (.BinOp a .Sub b p2) (some (.Name x pos')) pos.line X.env = pure false := by rfl) (hf : X.fn x = true ∨ X.env.scope.names.lookup x = some .local := by first | exact .inl rfl | exact .inr rfl | assumption) :
    PSs X (.Assign [.Name x pos'] (.BinOp a .Sub b p2) pos :: rest) (tSeq (tAsg (tOp (rI0 fun i j => .int (i - j)) ta tb) (gName i)) u) := by
  refine ⟨fun pins s σ H D I h => ?_⟩
  refine wpAny_execs_cons (wpAny_Assign_Name (wpAny_BinOp (thn (ha.run pins s σ H _ I h) fun v s1 ⟨y, H1, I1, r1, q1⟩ => thn (hb.run pins s1 σ H1 _ I1 q1) fun w s2 ⟨z, H2, I2, r2, q2⟩ => ?_)) hs)
  obtain ⟨m, n, e1, e2, q⟩ := q2
  subst e1
  subst e2
  obtain ⟨t1, rfl⟩ := r1
  obtain ⟨t2, rfl⟩ := r2
  refine PyProof.Rows.sub_int ?_
  have st := store_ok (M := model X.prog X.w) (A := X.A) (E := X.xe) (u := .int (m - n) s2.toks) (v := .int (m - n)) (Q := fun _ s' => Inv X pins (σ.set i (some (.int (m - n)))) H2 s') (I2.tok (s2.toks + 1)) hN hi hx ⟨_, rfl⟩ (fun s' I' => I') hf
  refine wpAny_mono (PySem.wpAny_toks st) (fun _ s3 z => ?_) fun _ _ z => z.2
  obtain ⟨hk, I3⟩ := z
  exact h2 pins s3 _ H2 D (Nat.le_trans (Nat.le_add_left 1 s2.toks) hk) I3 q
end
end HT
namespace HT
open PySem PySem.Spec PyProof.Rows L2 CwR
section
variable {X : Cx} {e : Expr} {es : List Expr} {te : TE} {t : TA} {pos' p pos : Pos} {T x : Str} {r : List V → Hp → VK → Prop}
theorem pst_set {i : Nat} {y : Str} (hN : X.N.Nodup) (hi : X.N[i]? = some y) (hx : Loc X.env.scope y) (he : PET X e te) (hs : swapsWith e (some (.Name y pos')) pos.line X.env = pure false := by rfl) (hf : X.fn y = true ∨ X.env.scope.names.lookup y = some .local := by first | exact .inl rfl | exact .inr rfl | assumption) :
    PST X (.Assign [.Name y pos'] e pos) (tAsg te (gName i)) := by
  intro pins s σ H D h0 I h
  refine wpAny_Assign_Name (thn (he pins s σ H _ h0 I h) fun v s1 ⟨z, H1, I1, r1, q1⟩ => ?_) hs
  exact store_ok I1 hN hi hx r1 (fun s2 I2 => ⟨_, H1, I2, q1⟩) hf
theorem pet_int (hc : CallR X (.type "int") r) (hg : Gl X "int") (hm : X.mg "int" = none) (ha : PAT X (e :: es) t)
    (he : starEach (e :: es) X.env = (false, eval e X.env) :: starEach es X.env := by rfl) (hpl : (backTo pos (starEach es X.env)).any (·.1) = false := by rfl) : PET X (.Call (.Name "int" p) (e :: es) [] pos) (tCB r t) := by
  intro pins s σ H Q h0 I h
  refine wpAny_Call_Name_kw (ld_blt I hg hm (show bootBuiltins "int" = some (.type "int") by decide +kernel) ?_ (by decide) (by decide))
  exact PyProof.Rows.callWith_type1 (thn (ha pos pins s σ H _ h0 I h) fun us s1 ⟨vs, H1, I1, r1, q1⟩ => hc pins s1 σ H1 vs us Q I1 r1 q1) he hpl
end
end HT
namespace HT
open PySem L2 CwR
theorem Th.kstr {K : PySem.W.Frag} {H : Hp} {x : V} {n : String} (t : Th H x n) : PySem.W.kitOne K (.type n) (.type "str") = some (n == "str") := by
  cases t <;> exact kit_ty (by decide +kernel)
theorem cutS_len_le (z : Str) (lo hi : Option Int) : (cutS z lo hi).length ≤ z.length := by
  show ((z.cps.toList.drop _).take _).toArray.size ≤ z.cps.size
  simp only [List.size_toArray, List.length_take, List.length_drop, Array.length_toList]
  omega
theorem same_upd {H : Hp} {a : Addr} {o : HO} (n : H a = none) : Same H (upd H a o) := fun b u z => (upd_ne (ne_of_none z n)).trans z
def spRead (D : Addr) : Sp := fun vs H Q E => ∃ x : V, vs = [x] ∧ ((∃ n, Th H x n ∧ (n == "str") = false ∧ Err D E H 0) ∨ ∃ z : Str, x = .str z ∧ z.length ≤ 600 ∧
  ((outM z).1 = true → ∀ (q : Addr) (H' : Hp), H q = none → Same H H' → H' q = some (.tup [.int (figM z), .int (max 0 ((z.length : Int) - ((outM z).2 : Int) - 1))]) → Q (.ref q) H') ∧ ((outM z).1 = false → Err D E H ((outM z).2 : Int)))
structure ReadT (mg : Str → Option Value) : Prop where
  isi : mg "isinstance" = none
  str : mg "str" = none
  len : mg "len" = none
  int : mg "int" = none
  max : mg "max" = none
section
variable {P : Program} {w : World} {K : PySem.W.Frag} {mg : Str → Option Value} {base : Heap} {fW fL D fI : Addr} {dW dL dI : FuncData}
theorem ok_read_text {f : Addr} {fd : FuncData} (F : Fun K "read_text" "read_text" s_read_text f fd) (T : ReadT mg) (I : ItC P w K mg base D fI dI) (W : CalX P w K mg base "_past_whole" 4 ["text", "at"] (spWhole D) fW dW) (L : CalX P w K mg base "_past_places" 3 ["text", "at"] (spPlaces D) fL dL) : FnOk P w K mg base (L2.CX P w) 5 f fd ["text"] (spRead D) := by
  refine F.okX sc_read_text (fun vs H Q E h => ?_) (fun cdv A outer s H vs Q E hr h => ?_)
  · obtain ⟨x, rfl, _⟩ := h
    rfl
  · obtain ⟨x, rfl, h⟩ := h
    have nd := sc_read_text.nd
    refine ⟨_, pss_cons (ps_if (pt_not (pt_val (pe_callB call_isi (by rfl) T.isi (by decide +kernel) (pa_cons (pv 0) (pa_cons (pe_bltn (v := .ty "str") (by rfl) T.str (by decide +kernel) rfl) pa_nil))))) (pss_one (ps_raise rfl (takes_of rfl rfl rfl rfl) (pmk_it I hr (by decide) (by rfl) (pa_cons pe_int pa_nil)))) pss_nil)
      (pss_subT (i := 1) nd rfl (Or.inl rfl) (pe_callB call_len_str (by rfl) T.len PySem.boot_len (pa_cons (pv 0) pa_nil)) (pe_callB call_len_str (by rfl) T.len PySem.boot_len (pa_cons (pe_bm PySem.F.plainAttrs_str PySem.F.slot_str_lstrip PySem.F.type_str_lstrip mt_lstripChars (pv 0) (pa_cons pe_str pa_nil)) pa_nil))
      (psst_cons (PST.of (ps_set (i := 2) nd rfl (Or.inl rfl) (pv 1)))
      (psst_cons (PST.of (ps_if (pt_cmpR op_in_seq (pe_slice sl_str (pv 0) (po_some (pv 1)) (po_some (pe_op op_add (pv 1) pe_int))) (pe_tup (pa_cons pe_str (pa_cons pe_str pa_nil))) (by rfl)) (pss_one (ps_set (i := 2) nd rfl (Or.inl rfl) (pe_op op_add (pv 1) pe_int))) pss_nil))
      (psst_cons (PST.of (ps_set (i := 3) nd rfl (Or.inl rfl) (pcx W hr (by decide) (by rfl) (takes_of rfl rfl rfl rfl) (pa_cons (pv 0) (pa_cons (pv 2) pa_nil)))))
      (psst_cons (PST.of (ps_set (i := 4) nd rfl (Or.inl rfl) (pcx L hr (by decide) (by rfl) (takes_of rfl rfl rfl rfl) (pa_cons (pv 0) (pa_cons (pv 3) pa_nil)))))
      (psst_cons (PST.of (ps_if (pt_cmpR op_lt (pv 4) (pe_callB call_len_str (by rfl) T.len PySem.boot_len (pa_cons (pv 0) pa_nil)) (nomark _)) (pss_one (ps_raise rfl (takes_of rfl rfl rfl rfl) (pmk_it I hr (by decide) (by rfl) (pa_cons (pv 4) pa_nil)))) pss_nil))
      (psst_cons (pst_set (i := 5) nd rfl (Or.inl rfl) (pet_int call_int_str (by rfl) T.int (pat_cons (pet_replT (pet_replC (pe_slice sl_str (pv 0) (po_some (pv 2)) (po_some (pv 4))))) pat_nil)))
      (psst_cons (PST.of (ps_if (pt_cmpR op_eq (pe_ix ix_str (pv 0) (pv 1) (fun _ _ => rfl)) pe_str (nomark _)) (pss_one (ps_set (i := 5) nd rfl (Or.inl rfl) (pe_un un_neg (pv 5)))) pss_nil))
      (psst_one (PST.of (ps_ret (pe_tup (pa_cons (pv 5) (pa_cons (pe_callB (call_max2 rfl) (by rfl) T.max (by decide +kernel) (pa_cons pe_int (pa_cons (pe_op op_sub (pe_op op_sub (pv 4) (pv 3)) pe_int) pa_nil))) pa_nil)))))))))))))), ?_⟩
    rcases h with ⟨n, t, hn, er⟩ | ⟨z, rfl, zl, ok, er⟩
    · walk_at "rd"
      refine ⟨_, _, _, _, _, rfl, .ty "str", t.ty, t.kstr, ?_⟩
      walk_at "rd"
      refine ite2 (fun _ => ?_) (fun x => absurd (by rw [hn]; rfl) x)
      walk_at "rd"
      exact er.go
    have zs : z.length ≤ sizeLine := Nat.le_trans zl (by decide)
    walk_at "rd"
    refine ⟨_, _, _, _, _, rfl, .ty "str", .base (.str _), kit_ty (r := true) (by decide +kernel), ?_⟩
    walk_at "rd"
    refine ⟨zs, ?_⟩
    walk_at "rd"
    have ll : (Txt.lstripChars z " ").length ≤ z.length := PyProof.Rows.len_lstripChars z " "
    have eb : (z.length : Int) - ((Txt.lstripChars z " ").length : Int) = (blanks z : Int) := by
      unfold blanks
      omega
    refine ⟨rfl, ?_⟩
    walk_at "rd"
    refine ⟨zs, ?_⟩
    walk_at "rd"
    refine ⟨Nat.le_trans ll zs, ?_⟩
    walk_at "rd"
    dsimp only
    rw [eb]
    refine ⟨zs, ?_⟩
    walk_at "rd"
    refine ⟨by show 2 ≤ sizeLine; decide, fun tq tn => ?_⟩
    have tf : (upd H tq (.tup [.str "-", .str "+"])) tq = some (.tup [.str "-", .str "+"]) := upd_same ..
    refine ⟨tq, _, rfl, .inr (SqT.of tf), rfl, rfl, ?_⟩
    walk_at "rd"
    have mq : markQ z (blanks z) = inV (V.str (at1 z (blanks z))) [V.str "-", V.str "+"] := by
      have f : ∀ t r : Str, eqV (V.str r) (V.str t) = decide (t = r) := fun t r => by
        show (r == t) = decide (t = r)
        by_cases g : t = r
        · rw [g, decide_eq_true rfl, beq_self_eq_true]
        · rw [decide_eq_false g]
          exact beq_eq_false_iff_ne.mpr (fun x => g x.symm)
      unfold markQ inV
      rw [List.any_cons, List.any_cons, List.any_nil, f, f, Bool.or_false]
    have sm : Same H (upd H tq (.tup [.str "-", .str "+"])) := fun b o hb => by
      rw [upd_ne (fun x => by rw [x, tn] at hb; cases hb)]
      exact hb
    obtain ⟨wl1, wl2⟩ := wholeAt_le z
    refine ite2 (fun h => ?A) (fun h => ?B)
    case' A =>
      have hw : blanks z + 1 = wholeAt z := by
        unfold wholeAt
        rw [if_pos (mq.trans h)]
    case' B =>
      have hw : blanks z = wholeAt z := by
        unfold wholeAt
        rw [if_neg (fun x => h (mq.symm.trans x))]
    all_goals
      walk_at "rd"
      refine ⟨z, wholeAt z, (by first | (rw [← hw]; rfl) | rw [← hw]), wl2, by omega, fun hp => ?_, fun hp => ?_⟩
      · obtain ⟨p, ep⟩ : ∃ p, wholeM z (wholeAt z) = (true, p) := ⟨(wholeM z (wholeAt z)).2, by rw [← hp]⟩
        have o1 : outM z = if (placesM z p).1 = true then (if (placesM z p).2 < z.length then (false, (placesM z p).2) else (true, p)) else (false, (placesM z p).2) := by
          unfold outM
          rw [ep]
          rfl
        obtain ⟨_, pz, _, _⟩ := whole_seg wl2 ep
        rw [ep]
        walk_at "rd"
        refine ⟨z, p, rfl, pz, by omega, fun hq => ?_, fun hq => ?_⟩
        · obtain ⟨e, ee⟩ : ∃ e, placesM z p = (true, e) := ⟨(placesM z p).2, by rw [← hq]⟩
          rw [ee] at o1 ⊢
          rw [if_pos rfl] at o1
          walk_at "rd"
          refine ⟨zs, ?_⟩
          walk_at "rd"
          refine ite2 (fun h => ?_) (fun h => ?_)
          · have lt : e < z.length := by
              have := of_decide_eq_true h
              omega
            rw [if_pos lt] at o1
            rw [o1] at er
            walk_at "rd"
            exact ((er rfl).same sm).go
          have ge : ¬ e < z.length := fun x => h (decide_eq_true (by omega))
          rw [if_neg ge] at o1
          rw [o1] at ok
          obtain ⟨w1, _, ez, sg, ne⟩ := good_seg ep ee ge
          obtain ⟨r1, r2, dig⟩ := good_int zl sg ne
          subst ez
          rw [← hw] at r1 r2 dig
          walk_at "rd"
          refine ⟨zs, ?_⟩
          walk_at "rd"
          refine ⟨by rw [show (("" : Str)).length = 0 from rfl]; exact Nat.le_trans (cutS_len_le z _ _) (Nat.le_trans zl (by decide)), ?_⟩
          refine ⟨_, rfl, by rw [show (("" : Str)).length = 0 from rfl]; exact Nat.le_trans r1 (by decide), ?_⟩
          walk_at "rd"
          refine ⟨_, _, rfl, dig, r2, ?_⟩
          walk_at "rd"
          refine ⟨z, (blanks z : Int), chAt z (blanks z), rfl, rfl, zs, atI_nat (chAt_get (by omega)), ?_⟩
          walk_at "rd"
          refine ⟨rfl, ?_⟩
          walk_at "rd"
          have fin : ∀ (q' : Addr), (upd H tq (.tup [.str "-", .str "+"])) q' = none → ∀ r : Int, r = figM z → Q (.ref q') (upd (upd H tq (.tup [.str "-", .str "+"])) q' (.tup [.int r, .int (if (z.length : Int) - p - 1 > 0 then (z.length : Int) - p - 1 else 0)])) := fun q' qn r hr => by
            refine ok rfl q' _ ?_ (sm.trans (same_upd qn)) ?_
            · cases hh : H q' with
              | none => rfl
              | some u =>
                have := sm _ _ hh
                rw [qn] at this
                cases this
            · rw [upd_same, hr]
              have e1 : (if (z.length : Int) - p - 1 > 0 then (z.length : Int) - p - 1 else 0) = max 0 ((z.length : Int) - p - 1) := by split <;> omega
              rw [e1]
          refine ite2 (fun h => ?_) (fun h => ?_)
          · walk_at "rd"
            refine ⟨0, _, rfl, ?_⟩
            walk_at "rd"
            refine ⟨by show 2 ≤ sizeLine; decide, fun q' qn => ?_⟩
            exact fin q' qn _ (by unfold figM; rw [if_pos (str_t h)])
          · walk_at "rd"
            refine ⟨0, _, rfl, ?_⟩
            walk_at "rd"
            refine ⟨by show 2 ≤ sizeLine; decide, fun q' qn => ?_⟩
            exact fin q' qn _ (by unfold figM; rw [if_neg (str_f h)])
        · have e : outM z = (false, (placesM z p).2) := by rw [o1, if_neg (by rw [hq]; decide)]
          rw [e] at er
          exact (er rfl).same sm
      · have e : outM z = (false, (wholeM z (wholeAt z)).2) := by
          unfold outM
          rw [if_neg (by rw [hp]; decide)]
        rw [e] at er
        exact (er rfl).same sm
end
end HT
namespace HT
open PySem L2 CwR TL
def runM (z : Str) (a : Nat) : Nat := pastD z a z.length - a
def spRun : Sp := fun vs H Q _ => ∃ (z : Str) (a : Nat), vs = [.str z, .int (a : Int)] ∧ a ≤ z.length ∧ z.length ≤ 600 ∧ Q (.int (runM z a : Int)) H
theorem digS_eq : digS = ("0123456789" : Str) := rfl
/-- a new list of two -/
def Two (H : Hp) (Q : VK) (x y : V) : Prop := ∀ (l : Addr) (H' : Hp), H l = none → Same H H' → H' l = some (.lst [x, y]) → Q (.ref l) H'
def spFront : Sp := fun vs H Q _ => ∃ (z : Str) (a : Nat), vs = [.str z, .int (a : Int)] ∧ a ≤ z.length ∧ z.length ≤ 600 ∧ Two H Q (.bl (wholeM z a).1) (.int ((wholeM z a).2 : Int))
theorem Two.go {H : Hp} {Q : VK} {x y : V} (h : Two H Q x y) : 2 ≤ sizeLine ∧ ∀ p, H p = none → Q (.ref p) (upd H p (.lst [x, y])) := ⟨by decide, fun p n => h p _ n (same_upd n) upd_same⟩
theorem dgRun_full : ∀ (m : Nat) (l : List Nat), l.length ≤ m → dgRun m l = dgRun l.length l
  | m, [], _ => by rw [dgRun_nil, dgRun_nil]
  | 0, c :: l, h => by simp at h
  | m + 1, c :: l, h => by
    have ih := dgRun_full m l (by simpa using h)
    show (if c ∈ digS.cps.toList then dgRun m l + 1 else 0) = if c ∈ digS.cps.toList then dgRun l.length l + 1 else 0
    rw [ih]
theorem dgRun_min : ∀ (k : Nat) (m : Nat) (l : List Nat), l.length ≤ m → dgRun k l = min k (dgRun m l)
  | 0, m, l, _ => by rw [dgRun_zero, Nat.zero_min]
  | k + 1, m, [], _ => by rw [dgRun_nil, dgRun_nil]; omega
  | k + 1, 0, c :: l, h => by simp at h
  | k + 1, m + 1, c :: l, h => by
    have ih := dgRun_min k m l (by simpa using h)
    show (if c ∈ digS.cps.toList then dgRun k l + 1 else 0) = min (k + 1) (if c ∈ digS.cps.toList then dgRun m l + 1 else 0)
    rw [ih]
    split <;> omega
theorem past_min (z : Str) (a k : Nat) : pastD z a k = a + min k (runM z a) := by
  unfold runM pastD
  have hz : (z.cps.toList.drop a).length ≤ z.length := by
    rw [List.length_drop]
    have : z.cps.toList.length = z.length := Array.length_toList
    omega
  rw [dgRun_min k z.length _ hz]
  omega
section
variable {P : Program} {w : World} {K : PySem.W.Frag} {mg : Str → Option Value} {base : Heap} {fR : Addr} {dR : FuncData}
theorem ok_run {f : Addr} {fd : FuncData} (F : Fun K "_law_run" "_law_run" s_L_run f fd) (B : Blt mg) : FnOk P w K mg base CX0 1 f fd ["_law_text_here", "_law_at"] spRun := by
  refine F.ok sc_L_run (fun vs H Q E h => ?_) (fun cdv A outer s H vs Q E hr h => ?_)
  · obtain ⟨z, a, rfl, _⟩ := h
    rfl
  · obtain ⟨z, a, rfl, az, zl, q⟩ := h
    have zs : z.length ≤ sizeLine := Nat.le_trans zl (by decide)
    have nd := sc_L_run.nd
    refine ⟨_, pss_cons (ps_set (i := 2) nd rfl (Or.inl rfl) (pv 1))
      (pss_cons (ps_while PassesOwn.never (PW.pt (pw_and (pt_cmpR op_lt (pv 2) (pe_callB call_len_str (by rfl) B.len PySem.boot_len (pa_cons (pv 0) pa_nil)) (nomark _))
          (pw_and1 (pt_cmpR op_in_sign (pe_ix ix_str (pv 0) (pv 2) (fun _ _ => rfl)) pe_str (by rfl)))))
        (pss_one (ps_set (i := 2) nd rfl (Or.inl rfl) (pe_op op_add (pv 2) pe_int))))
      (pss_one (ps_ret (pe_op op_sub (pv 2) (pv 1))))), ?_⟩
    have hl : z.cps.toList.length = z.length := Array.length_toList
    walk_at "rd"
    refine ⟨fun μ σ H' => ∃ e : Nat, a ≤ e ∧ e ≤ z.length ∧ pastD z a z.length = e + dgRun (z.length - (e - a)) (z.cps.toList.drop e) ∧ μ = z.length - e ∧ σ = [some (.str z), some (.int a), some (.int e)] ∧ H' = H, ⟨_, a, Nat.le_refl _, az, by rw [Nat.sub_self]; rfl, rfl, rfl, rfl⟩, ?_⟩
    rintro μ σ H' ⟨e, ae, ez, pe, rfl, rfl, rfl⟩
    have out : dgRun (z.length - (e - a)) (z.cps.toList.drop e) = 0 → Q (.int ((e : Int) - (a : Int))) H' := fun h => by
      have : (e : Int) - (a : Int) = (runM z a : Int) := by
        unfold runM
        omega
      rw [this]
      exact q
    walk_at "rd"
    refine ⟨zs, ?_⟩
    walk_at "rd"
    refine ite2 (fun h1 => ?_) (fun h1 => ?_)
    · have l1 : e < z.length := by
        have := of_decide_eq_true h1
        omega
      obtain ⟨c, hc⟩ : ∃ c, z.cps.toList[e]? = some c := ⟨z.cps.toList[e]'(by omega), List.getElem?_eq_getElem _⟩
      have dr : z.cps.toList.drop e = c :: z.cps.toList.drop (e + 1) := by
        have lt : e < z.cps.toList.length := by omega
        rw [List.drop_eq_getElem_cons lt]
        rw [List.getElem?_eq_getElem lt] at hc
        injection hc with hc
        rw [hc]
      obtain ⟨k, hk⟩ : ∃ k, z.length - (e - a) = k + 1 := ⟨z.length - (e - a) - 1, by omega⟩
      walk_at "rd"
      refine ⟨z, (e : Int), c, rfl, rfl, zs, atI_nat hc, ?_⟩
      refine ⟨c, ("0123456789" : Str), rfl, rfl, ?_⟩
      walk_at "rd"
      refine ite2 (fun h3 => ?_) (fun h3 => ?_)
      · have l3 : c ∈ digS.cps.toList := of_decide_eq_true h3
        refine ⟨fun σ' H1 => σ' = [some (.str z), some (.int a), some (.int ((e + 1 : Nat) : Int))] ∧ H1 = H', ?_, ?_⟩
        · rintro σ' H1 ⟨rfl, rfl⟩
          refine ⟨z.length - (e + 1), by omega, e + 1, by omega, by omega, ?_, rfl, rfl, rfl⟩
          rw [pe, dr, hk]
          have k1 : z.length - (e + 1 - a) = k := by omega
          rw [k1]
          show e + (if c ∈ digS.cps.toList then dgRun k (z.cps.toList.drop (e + 1)) + 1 else 0) = _
          rw [if_pos l3]
          omega
        · walk_at "rd"
          exact ⟨rfl, rfl⟩
      · walk_at "rd"
        refine out ?_
        rw [dr, hk]
        show (if c ∈ digS.cps.toList then dgRun k (z.cps.toList.drop (e + 1)) + 1 else 0) = 0
        have n3 : ¬ c ∈ digS.cps.toList := fun x => h3 (decide_eq_true x)
        rw [if_neg n3]
    · have l1 : ¬ e < z.length := fun x => h1 (decide_eq_true (by omega))
      refine false_go ?_
      walk_at "rd"
      refine out ?_
      rw [List.drop_eq_nil_of_le (by omega), dgRun_nil]
theorem ok_front {f : Addr} {fd : FuncData} (F : Fun K "_law_front" "_law_front" s_L_front f fd) (gMin : mg "min" = none) (Rn : Cal P w K mg base "_law_run" 1 ["_law_text_here", "_law_at"] spRun fR dR) : FnOk P w K mg base CX0 2 f fd ["_law_text_here", "_law_at"] spFront := by
  refine F.ok sc_L_front (fun vs H Q E h => ?_) (fun cdv A outer s H vs Q E hr h => ?_)
  · obtain ⟨z, a, rfl, _⟩ := h
    rfl
  · obtain ⟨z, a, rfl, az, zl, q⟩ := h
    have zs : z.length ≤ sizeLine := Nat.le_trans zl (by decide)
    have nd := sc_L_front.nd
    refine ⟨_, pss_cons (ps_set (i := 2) nd rfl (Or.inl rfl) (pcl Rn hr (by decide) (by rfl) (pa_cons (pv 0) (pa_cons (pv 1) pa_nil))))
      (pss_cons (ps_if (pt_cmpR op_eq (pv 2) pe_int (nomark _)) (pss_one (ps_ret (pe_lst (pa_cons pe_bl (pa_cons (pv 1) pa_nil))))) pss_nil)
      (pss_cons (ps_if (pt_cmpR op_eq (pe_ix ix_str (pv 0) (pv 1) (fun _ _ => rfl)) pe_str (nomark _)) (pss_one (ps_ret (pe_lst (pa_cons pe_bl (pa_cons (pe_op op_add (pv 1) pe_int) pa_nil))))) pss_nil)
      (pss_cons (ps_set (i := 3) nd rfl (Or.inl rfl) (pe_op op_add (pv 1) (pv 2)))
      (pss_cons (ps_while PassesOwn.never (PW.pt (pw_and (pt_cmpR op_lt (pv 2) pe_int (nomark _)) (pw_and1 (pt_cmpR op_eq (pe_slice sl_str (pv 0) (po_some (pv 3)) (po_some (pe_op op_add (pv 3) pe_int))) pe_str (nomark _)))))
        (pss_cons (ps_set (i := 4) nd rfl (Or.inl rfl) (pe_callB (call_min2 rfl) (by rfl) gMin (by decide +kernel) (pa_cons pe_int (pa_cons (pcl Rn hr (by decide) (by rfl) (pa_cons (pv 0) (pa_cons (pe_op op_add (pv 3) pe_int) pa_nil))) pa_nil))))
        (pss_cons (ps_if (pt_cmpR op_lt (pv 4) pe_int (nomark _)) (pss_one (ps_ret (pe_lst (pa_cons pe_bl (pa_cons (pe_op op_add (pe_op op_add (pv 3) pe_int) (pv 4)) pa_nil))))) pss_nil)
        (pss_one (ps_set (i := 3) nd rfl (Or.inl rfl) (pe_op op_add (pv 3) pe_int))))))
      (pss_one (ps_ret (pe_lst (pa_cons pe_bl (pa_cons (pv 3) pa_nil))))))))), ?_⟩
    obtain ⟨p1, p2, _⟩ := past_le z a z.length az
    have er : (runM z a : Int) = (pastD z a z.length : Int) - (a : Int) := by
      unfold runM
      omega
    unfold wholeM at q
    walk_at "rd"
    refine ⟨z, a, rfl, az, zl, ?_⟩
    walk_at "rd"
    refine ⟨rfl, ?_⟩
    walk_at "rd"
    generalize hE : pastD z a z.length = e at p1 p2 q er
    refine ite2 (fun h => ?_) (fun h => ?_)
    · have ea : e = a := by
        have := int_t h
        omega
      rw [if_pos ea] at q
      walk_at "rd"
      exact q.go
    have ea : ¬ e = a := fun x => int_f h (by omega)
    rw [if_neg ea] at q
    walk_at "rd"
    refine ⟨z, (a : Int), chAt z a, rfl, rfl, zs, atI_nat (chAt_get (by omega)), ?_⟩
    walk_at "rd"
    refine ⟨rfl, ?_⟩
    walk_at "rd"
    refine ite2 (fun h => ?_) (fun h => ?_)
    · rw [if_pos (str_t h)] at q
      walk_at "rd"
      exact q.go
    rw [if_neg (str_f h)] at q
    walk_at "rd"
    refine ⟨fun μ σ H' => ∃ (b : Nat) (x4 : Option V), b ≤ z.length ∧ z.length < b + 4 * μ + 1 ∧ (runM z a < 4 → Two H Q (.bl (groupsM z μ b).1) (.int ((groupsM z μ b).2 : Int))) ∧ (¬ runM z a < 4 → b = e) ∧ σ = [some (.str z), some (.int (a : Int)), some (.int (runM z a : Int)), some (.int (b : Int)), x4] ∧ H' = H, ⟨z.length, e, none, p2, by omega, fun lt => ?_, fun _ => rfl, ?_, rfl⟩, ?_⟩
    · rw [if_neg (by omega)] at q
      exact q
    · rw [show (e : Int) = (a : Int) + (runM z a : Int) by omega]
      rfl
    rintro μ σ H' ⟨b, x4, bz, fu, g4, g5, rfl, rfl⟩
    walk_at "rd"
    refine ite2 (fun h1 => ?_) (fun h1 => ?_)
    · have lt4 : runM z a < 4 := by
        have := of_decide_eq_true h1
        omega
      have g := g4 lt4
      walk_at "rd"
      refine ⟨zs, ?_⟩
      walk_at "rd"
      refine ⟨rfl, ?_⟩
      walk_at "rd"
      refine ite2 (fun h2 => ?_) (fun h2 => ?_)
      · have h' : at1 z b = "," := str_t h2
        have lt := at1_lt h' len_comma
        obtain ⟨m, rfl⟩ : ∃ m, μ = m + 1 := ⟨μ - 1, by omega⟩
        have st : groupsM z (m + 1) b = if pastD z (b + 1) 3 < b + 4 then (false, pastD z (b + 1) 3) else groupsM z m (pastD z (b + 1) 3) := by
          show (if at1 z b = "," then _ else _) = _
          rw [if_pos h']
        have pm := past_min z (b + 1) 3
        rw [st] at g
        refine ⟨fun σ' H1 => ¬ pastD z (b + 1) 3 < b + 4 ∧ (∃ x4, σ' = [some (.str z), some (.int (a : Int)), some (.int (runM z a : Int)), some (.int ((b + 4 : Nat) : Int)), x4]) ∧ H1 = H', ?_, ?_⟩
        · rintro σ' H1 ⟨ge, ⟨x4, rfl⟩, rfl⟩
          have eq4 : pastD z (b + 1) 3 = b + 4 := by omega
          have := (past_le z (b + 1) 3 lt).2.1
          rw [if_neg ge, eq4] at g
          exact ⟨m, by omega, b + 4, x4, by omega, by omega, fun _ => g, fun n => absurd lt4 n, rfl, rfl⟩
        walk_at "rd"
        refine ⟨z, b + 1, rfl, lt, zl, ?_⟩
        walk_at "rd"
        refine ⟨3, (runM z (b + 1) : Int), rfl, ?_⟩
        have em : (if (runM z (b + 1) : Int) < 3 then (runM z (b + 1) : Int) else 3) = ((min 3 (runM z (b + 1)) : Nat) : Int) := by split <;> omega
        rw [em]
        walk_at "rd"
        refine ite2 (fun h3 => ?_) (fun h3 => ?_)
        · have l3 : min 3 (runM z (b + 1)) < 3 := by
            have := of_decide_eq_true h3
            omega
          rw [if_pos (by omega)] at g
          walk_at "rd"
          have eg : ((b : Int) + 1 + ((min 3 (runM z (b + 1)) : Nat) : Int)) = (pastD z (b + 1) 3 : Int) := by omega
          show 2 ≤ sizeLine ∧ ∀ p, H' p = none → Q (.ref p) (upd H' p (.lst [V.bl false, V.int ((b : Int) + 1 + ((min 3 (runM z (b + 1)) : Nat) : Int))]))
          rw [eg]
          exact g.go
        · have l3 : ¬ min 3 (runM z (b + 1)) < 3 := fun x => h3 (decide_eq_true (by omega))
          walk_at "rd"
          exact ⟨by omega, ⟨_, rfl⟩, rfl⟩
      · have h' : ¬ at1 z b = "," := str_f h2
        have st : groupsM z μ b = (true, b) := by
          cases μ with
          | zero => rfl
          | succ m =>
            show (if at1 z b = "," then _ else _) = _
            rw [if_neg h']
        rw [st] at g
        walk_at "rd"
        exact g.go
    · have ge4 : ¬ runM z a < 4 := fun x => h1 (decide_eq_true (by omega))
      have be := g5 ge4
      rw [if_pos (by omega), ← be] at q
      refine false_go ?_
      walk_at "rd"
      exact q.go
end
end HT
namespace HT
open PySem L2 CwR TL PySem.NumText
theorem stripLo_facts (z : Str) : (∀ i, i < blanks z → (tl z)[i]? = some 32) ∧ (tl z)[blanks z]? ≠ some 32 := by
  obtain ⟨f0, f1, f2⟩ := PyProof.Rows.lo_facts ((" " : Str).cps.contains) z
  have el : Txt.lstripChars z " " = PySem.Builtin.Str.strSub z (stripLo ((" " : Str).cps.contains) true z) z.length := by
    unfold Txt.lstripChars
    rw [PyProof.Rows.stripBy_eq]
    rfl
  have goes : ∀ c : Nat, ((" " : Str).cps.contains c) = decide (c = 32) := fun c => by
    rw [show (" " : Str).cps = #[32] by decide +kernel]
    simp
  generalize stripLo ((" " : Str).cps.contains) true z = lo at f0 f1 f2 el
  have ln : (Txt.lstripChars z " ").length = z.length - lo := by
    rw [el]
    show (z.cps.extract lo z.length).size = _
    rw [Array.size_extract]
    show min z.length z.cps.size - lo = _
    rw [show z.cps.size = z.length from rfl, Nat.min_self]
  have bl : blanks z = lo := by
    unfold blanks
    rw [ln]
    omega
  have get : ∀ i, z.cps.getD i 0 = ((tl z)[i]?).getD 0 := fun i => by
    show z.cps.getD i 0 = (z.cps.toList[i]?).getD 0
    rw [Array.getElem?_toList]
    simp [Array.getD_eq_getD_getElem?]
  rw [bl]
  refine ⟨fun i hi => ?_, fun x => ?_⟩
  · have f := f1 i hi
    rw [get, goes] at f
    have f' := of_decide_eq_true f
    cases e : (tl z)[i]? with
    | none => rw [e] at f'; exact absurd f' (by decide)
    | some c => rw [e] at f'; exact congrArg some f'
  · rcases f2 with f2 | f2
    · have lt := (List.getElem?_eq_some_iff.mp x).1
      rw [← len_tl] at lt
      omega
    · rw [get, goes, x] at f2
      exact absurd f2 (by decide)
theorem at1_get {z : Str} {a c : Nat} {s : Str} (hs : tl s = [c]) : at1 z a = s ↔ (tl z)[a]? = some c := by
  rw [at1_is hs, List.head?_drop]
theorem blank_in {z : Str} {i : Nat} (h : i < blanks z) : at1 z i = " " := (at1_get tl_blank).mpr ((stripLo_facts z).1 i h)
theorem blank_out (z : Str) : ¬ at1 z (blanks z) = " " := fun h => (stripLo_facts z).2 ((at1_get tl_blank).mp h)
theorem chAt_is {z : Str} {a c : Nat} {s : Str} (hs : tl s = [c]) (h : a < z.length) : (⟨#[chAt z a]⟩ : Str) = s ↔ at1 z a = s := by
  rw [at1_get hs, one_is hs, chAt_get h]
  exact ⟨fun e => congrArg some e, fun e => Option.some.inj e⟩
/-- the sign ahead, as the law looks at it -/
theorem neg_iff {z : Str} (h : wholeAt z < z.length) : (cutS z (some ((wholeAt z : Int) - 1)) (some (wholeAt z : Int)) = ("-" : Str) ↔ (⟨#[chAt z (blanks z)]⟩ : Str) = "-") ∧ (cutS z (some ((wholeAt z : Int) - 1)) (some (wholeAt z : Int)) = ("-" : Str) → 0 < wholeAt z) := by
  obtain ⟨w1, w2⟩ := wholeAt_le z
  have hb : blanks z < z.length := by omega
  rw [chAt_is tl_minus hb]
  have step : ∀ n : Nat, cutS z (some (((n + 1 : Nat) : Int) - 1)) (some ((n + 1 : Nat) : Int)) = at1 z n := fun n => by
    unfold at1
    rw [show ((n + 1 : Nat) : Int) - 1 = (n : Int) by omega]
    rfl
  by_cases m : markQ z (blanks z) = true
  · have hw : wholeAt z = blanks z + 1 := by
      unfold wholeAt
      rw [if_pos m]
    rw [hw, step]
    exact ⟨Iff.rfl, fun _ => by omega⟩
  · have hw : wholeAt z = blanks z := by
      unfold wholeAt
      rw [if_neg m]
    have nm : ¬ at1 z (blanks z) = "-" := fun x => m (by
      unfold markQ
      rw [decide_eq_true x]
      rfl)
    have no : ¬ cutS z (some ((wholeAt z : Int) - 1)) (some (wholeAt z : Int)) = ("-" : Str) := by
      rw [hw]
      cases eb : blanks z with
      | zero =>
        intro x
        have e := congrArg tl x
        rw [tl_minus] at e
        have e2 := congrArg List.length e
        have e3 : (((tl z).drop (HT.sIx z.length 0 (some (((0 : Nat) : Int) - 1)))).take (HT.sIx z.length z.length (some ((0 : Nat) : Int)) - HT.sIx z.length 0 (some (((0 : Nat) : Int) - 1)))).length = 1 := e2
        rw [HT.sIx_nat, Nat.min_eq_left (Nat.zero_le _), Nat.zero_sub, List.take_zero] at e3
        cases e3
      | succ n =>
        rw [step, blank_in (by omega)]
        intro x
        have := congrArg tl x
        rw [tl_blank, tl_minus] at this
        injection this with this
        cases this
    exact ⟨⟨fun x => (no x).elim, fun x => (nm x).elim⟩, fun x => (no x).elim⟩
theorem tl_post (z : Str) {i : Int} {n : Nat} (hi : i = (n : Int)) (h : n ≤ (tl z).length) : tl (cutS z (some i) none) = (tl z).drop n := by
  subst hi
  have hz : z.length = (tl z).length := len_tl z
  show ((tl z).drop (HT.sIx z.length 0 (some (n : Int)))).take (HT.sIx z.length z.length none - HT.sIx z.length 0 (some (n : Int))) = _
  rw [HT.sIx_none, HT.sIx_nat, hz, Nat.min_eq_left h, List.take_of_length_le]
  rw [List.length_drop]
  exact Nat.le_refl _
theorem occ_digit {r : Nat} (h : r < 10) : PySem.Builtin.Str.occurrences ("0123456789" : Str) ⟨#[48 + r]⟩ 0 ("0123456789" : Str).length 1 = [r] := by
  revert h
  revert r
  decide +kernel
def spDue : Sp := fun vs H Q _ => ∃ z : Str, vs = [.str z] ∧ z.length ≤ 600 ∧
  ((outM z).1 = true → ∀ (l t : Addr) (H' : Hp), Same H H' → H' l = some (.lst [.str "good", .ref t]) → H' t = some (.tup [.int (figM z), .int (max 0 ((z.length : Int) - ((outM z).2 : Int) - 1))]) → Q (.ref l) H') ∧
  ((outM z).1 = false → ∀ (l : Addr) (H' : Hp), Same H H' → H' l = some (.lst [.str "wrong", .int ((outM z).2 : Int)]) → Q (.ref l) H')
section
variable {P : Program} {w : World} {K : PySem.W.Frag} {mg : Str → Option Value} {base : Heap} {fR fF : Addr} {dR dF : FuncData}
theorem ok_due {f : Addr} {fd : FuncData} (F : Fun K "_law_due" "_law_due" s_L_due f fd) (B : Blt mg) (gMin : mg "min" = none) (gMax : mg "max" = none) (Rn : Cal P w K mg base "_law_run" 1 ["_law_text_here", "_law_at"] spRun fR dR) (Fr : Cal P w K mg base "_law_front" 2 ["_law_text_here", "_law_at"] spFront fF dF) : FnOk P w K mg base CX0 3 f fd ["_law_text_here"] spDue := by
  refine F.ok sc_L_due (fun vs H Q E h => ?_) (fun cdv A outer s H vs Q E hr h => ?_)
  · obtain ⟨z, rfl, _⟩ := h
    rfl
  · obtain ⟨z, rfl, zl, ok, er⟩ := h
    have zs : z.length ≤ sizeLine := Nat.le_trans zl (by decide)
    have nd := sc_L_due.nd
    refine ⟨_, pss_cons (ps_set (i := 1) nd rfl (Or.inl rfl) pe_int)
      (pss_cons (ps_while PassesOwn.never (pt_cmpR op_eq (pe_slice sl_str (pv 0) (po_some (pv 1)) (po_some (pe_op op_add (pv 1) pe_int))) pe_str (nomark _)) (pss_one (ps_set (i := 1) nd rfl (Or.inl rfl) (pe_op op_add (pv 1) pe_int))))
      (pss_cons (ps_set (i := 1) nd rfl (Or.inl rfl) (pe_op op_add (pv 1) (pe_callTy call_int1 (by rfl) B.int (by decide +kernel) (pa_cons (pe_cmpR op_in_seq (pe_slice sl_str (pv 0) (po_some (pv 1)) (po_some (pe_op op_add (pv 1) pe_int))) (pe_lst (pa_cons pe_str (pa_cons pe_str pa_nil))) (by rfl)) pa_nil))))
      (pss_cons (ps_set (i := 2) nd rfl (Or.inl rfl) (pv 1))
      (pss_cons (ps_asg (pcl Fr hr (by decide) (by rfl) (pa_cons (pv 0) (pa_cons (pv 1) pa_nil))) (pg_unl (n := 2) (by rfl) (pgs_cons (pg_name (i := 3) nd rfl (Or.inl rfl)) (pgs_cons (pg_name (i := 1) nd rfl (Or.inl rfl)) pgs_nil))))
      (pss_cons (ps_if (pt_not (pt_val (pv 3))) (pss_one (ps_ret (pe_lst (pa_cons pe_str (pa_cons (pv 1) pa_nil))))) pss_nil)
      (pss_cons (ps_set (i := 4) nd rfl (Or.inl rfl) (pv 1))
      (pss_cons (ps_if (pt_cmpR op_eq (pe_slice sl_str (pv 0) (po_some (pv 1)) (po_some (pe_op op_add (pv 1) pe_int))) pe_str (nomark _))
        (pss_cons (ps_set (i := 5) nd rfl (Or.inl rfl) (pe_callB (call_min2 rfl) (by rfl) gMin (by decide +kernel) (pa_cons pe_int (pa_cons (pcl Rn hr (by decide) (by rfl) (pa_cons (pv 0) (pa_cons (pe_op op_add (pv 1) pe_int) pa_nil))) pa_nil))))
        (pss_cons (ps_if (pt_cmpR op_eq (pv 5) pe_int (nomark _)) (pss_one (ps_ret (pe_lst (pa_cons pe_str (pa_cons (pe_op op_add (pv 1) pe_int) pa_nil))))) pss_nil)
        (pss_one (ps_set (i := 1) nd rfl (Or.inl rfl) (pe_op op_add (pe_op op_add (pv 1) pe_int) (pv 5)))))) pss_nil)
      (pss_cons (ps_if (pt_cmpR op_lt (pv 1) (pe_callB call_len_str (by rfl) B.len PySem.boot_len (pa_cons (pv 0) pa_nil)) (nomark _)) (pss_one (ps_ret (pe_lst (pa_cons pe_str (pa_cons (pv 1) pa_nil))))) pss_nil)
      (pss_cons (ps_set (i := 6) nd rfl (Or.inl rfl) pe_int)
      (pss_cons (ps_for PassesOwn.never rfl (pi_str (pe_slice sl_str (pv 0) (po_some (pv 2)) po_none)) (pg_name (i := 7) nd rfl (Or.inl rfl))
        (pss_one (ps_if (pt_cmpR op_in_sign (pv 7) pe_str (by rfl)) (pss_one (ps_set (i := 6) nd rfl (Or.inl rfl) (pe_op op_add (pe_op op_mul (pv 6) pe_int) (pe_bm PySem.F.plainAttrs_str PySem.F.slot_str_index PySem.F.type_str_index mt_sindex pe_str (pa_cons (pv 7) pa_nil))))) pss_nil)))
      (pss_cons (ps_if (PW.pt (pw_and (pt_cmpR op_eq (pe_slice sl_str (pv 0) (po_some (pe_op op_sub (pv 2) pe_int)) (po_some (pv 2))) pe_str (nomark _)) (pw_and1 (pt_cmpR op_gt (pv 2) pe_int (nomark _))))) (pss_one (ps_set (i := 6) nd rfl (Or.inl rfl) (pe_un un_neg (pv 6)))) pss_nil)
      (pss_one (ps_ret (pe_lst (pa_cons pe_str (pa_cons (pe_tup (pa_cons (pv 6) (pa_cons (pe_callB (call_max2 rfl) (by rfl) gMax (by decide +kernel) (pa_cons pe_int (pa_cons (pe_op op_sub (pe_op op_sub (pe_callB call_len_str (by rfl) B.len PySem.boot_len (pa_cons (pv 0) pa_nil)) (pv 4)) pe_int) pa_nil))) pa_nil))) pa_nil)))))))))))))))), ?_⟩
    obtain ⟨wl1, wl2⟩ := wholeAt_le z
    have bl := blanks_le z
    walk_at "rd"
    refine ⟨fun μ σ H' => ∃ i : Nat, i ≤ blanks z ∧ μ = blanks z - i ∧ σ = [some (.str z), some (.int (i : Int)), none, none, none, none, none, none] ∧ H' = H, ⟨_, 0, Nat.zero_le _, rfl, rfl, rfl⟩, ?_⟩
    rintro μ σ H' ⟨i, ib, rfl, rfl, rfl⟩
    walk_at "rd"
    refine ⟨zs, ?_⟩
    walk_at "rd"
    refine ⟨rfl, ?_⟩
    walk_at "rd"
    refine ite2 (fun h => ?_) (fun h => ?_)
    · have h' : at1 z i = " " := str_t h
      have lt : i < blanks z := by
        rcases Nat.lt_or_eq_of_le ib with g | g
        · exact g
        · rw [g] at h'
          exact (blank_out z h').elim
      refine ⟨fun σ' H1 => σ' = [some (.str z), some (.int ((i + 1 : Nat) : Int)), none, none, none, none, none, none] ∧ H1 = H', ?_, ?_⟩
      · rintro σ' H1 ⟨rfl, rfl⟩
        exact ⟨_, by omega, i + 1, lt, rfl, rfl, rfl⟩
      · walk_at "rd"
        exact ⟨rfl, rfl⟩
    have h' : ¬ at1 z i = " " := str_f h
    obtain rfl : i = blanks z := by
      rcases Nat.lt_or_eq_of_le ib with g | g
      · exact (h' (blank_in g)).elim
      · exact g
    walk_at "rd"
    refine ⟨zs, ?_⟩
    walk_at "rd"
    refine ⟨by show 2 ≤ sizeLine; decide, fun tq tn => ?_⟩
    have tf : (upd H' tq (.lst [.str "-", .str "+"])) tq = some (.lst [.str "-", .str "+"]) := upd_same ..
    have sm := same_upd (o := .lst [.str "-", .str "+"]) tn
    generalize upd H' tq (.lst [.str "-", .str "+"]) = H1 at tf sm
    refine ⟨tq, _, rfl, .inl (SqL.of tf), rfl, rfl, ?_⟩
    have mq : markQ z (blanks z) = inV (V.str (at1 z (blanks z))) [V.str "-", V.str "+"] := by
      have f : ∀ t r : Str, eqV (V.str r) (V.str t) = decide (t = r) := fun t r => by
        show (r == t) = decide (t = r)
        by_cases g : t = r
        · rw [g, decide_eq_true rfl, beq_self_eq_true]
        · rw [decide_eq_false g]
          exact beq_eq_false_iff_ne.mpr (fun x => g x.symm)
      unfold markQ inV
      rw [List.any_cons, List.any_cons, List.any_nil, f, f, Bool.or_false]
    walk_at "rd"
    refine .inr ⟨_, rfl, ?_⟩
    cases hm : inV (V.str (at1 z (blanks z))) [V.str "-", V.str "+"]
    case' true =>
      have hw : blanks z + 1 = wholeAt z := by
        unfold wholeAt
        rw [if_pos (mq.trans hm)]
      have ev : (if (if false = true then !inV (V.str (at1 z (blanks z))) [V.str "-", V.str "+"] else inV (V.str (at1 z (blanks z))) [V.str "-", V.str "+"]) = true then (1 : Int) else 0) = 1 := by
        rw [hm]
        rfl
      refine ⟨(blanks z : Int), 1, rfl, congrArg V.int ev, ?_⟩
    case' false =>
      have hw : blanks z + 0 = wholeAt z := by
        unfold wholeAt
        rw [if_neg (fun x => by rw [mq, hm] at x; cases x)]
        rfl
      have ev : (if (if false = true then !inV (V.str (at1 z (blanks z))) [V.str "-", V.str "+"] else inV (V.str (at1 z (blanks z))) [V.str "-", V.str "+"]) = true then (1 : Int) else 0) = 0 := by
        rw [hm]
        rfl
      refine ⟨(blanks z : Int), 0, rfl, congrArg V.int ev, ?_⟩
    all_goals
      walk_at "rd"
      refine ⟨z, wholeAt z, (by rw [← hw]; rfl), wl2, zl, fun l H2 nl s2 hl => ?_⟩
      refine ⟨l, _, rfl, SqL.of hl, rfl, _, _, rfl, _, _, rfl, rfl, ?_⟩
      have s02 := sm.trans s2
      clear hl s2 sm tf
      walk_at "rd"
      cases hp : (wholeM z (wholeAt z)).1
      · have o1 : outM z = (false, (wholeM z (wholeAt z)).2) := by
          unfold outM
          rw [if_neg (by rw [hp]; decide)]
        rw [o1] at er
        walk_at "rd"
        refine ⟨by show 2 ≤ sizeLine; decide, fun k kn => ?_⟩
        exact er rfl k _ (s02.trans (same_upd kn)) upd_same
      obtain ⟨p, ep⟩ : ∃ p, wholeM z (wholeAt z) = (true, p) := ⟨(wholeM z (wholeAt z)).2, by rw [← hp]⟩
      have o1 : outM z = if (placesM z p).1 = true then (if (placesM z p).2 < z.length then (false, (placesM z p).2) else (true, p)) else (false, (placesM z p).2) := by
        unfold outM
        rw [ep]
        rfl
      obtain ⟨_, pz, _, _⟩ := whole_seg wl2 ep
      rw [ep]
      clear hp
      walk_at "rd"
      refine ⟨zs, ?_⟩
      walk_at "rd"
      refine ⟨rfl, ?_⟩
      walk_at "rd"
      refine ite2 (fun h => ?_) (fun h => ?_)
      · have h' : at1 z p = "." := str_t h
        have lt := at1_lt h' len_dot
        have pm := past_min z (p + 1) 60
        have pl' : placesM z p = if pastD z (p + 1) 60 = p + 1 then (false, p + 1) else (true, pastD z (p + 1) 60) := by
          unfold placesM
          rw [if_pos h']
        walk_at "rd"
        refine ⟨z, p + 1, rfl, lt, zl, ?_⟩
        walk_at "rd"
        refine ⟨60, (runM z (p + 1) : Int), rfl, ?_⟩
        have em : (if (runM z (p + 1) : Int) < 60 then (runM z (p + 1) : Int) else 60) = ((min 60 (runM z (p + 1)) : Nat) : Int) := by split <;> omega
        rw [em]
        walk_at "rd"
        refine ⟨rfl, ?_⟩
        walk_at "rd"
        refine ite2 (fun h1 => ?_) (fun h1 => ?_)
        · have z0 := int_t h1
          rw [if_pos (by omega)] at pl'
          rw [pl', if_neg (by intro x; cases x)] at o1
          rw [o1] at er
          walk_at "rd"
          refine ⟨by show 2 ≤ sizeLine; decide, fun k kn => ?_⟩
          exact er rfl k _ (s02.trans (same_upd kn)) upd_same
        have n0 := int_f h1
        rw [if_neg (by omega)] at pl'
        obtain ⟨e, he⟩ : ∃ e, e = pastD z (p + 1) 60 := ⟨_, rfl⟩
        rw [← he] at pl' pm
        have ee := pl'
        rw [ee, if_pos rfl] at o1
        have ea : (p : Int) + 1 + ((min 60 (runM z (p + 1)) : Nat) : Int) = (e : Int) := by omega
        walk_at "rd"
        refine ⟨zs, ?_⟩
        walk_at "rd"
        refine ite2 (fun h2 => ?_) (fun h2 => ?_)
        · have lt : e < z.length := by
            have := of_decide_eq_true h2
            omega
          rw [if_pos lt] at o1
          rw [o1] at er
          walk_at "rd"
          refine ⟨by show 2 ≤ sizeLine; decide, fun k kn => ?_⟩
          exact er rfl k _ (s02.trans (same_upd kn)) (upd_same.trans (congrArg (fun n : Int => some (HO.lst [V.str "wrong", V.int n])) ea))
        have ge : ¬ e < z.length := fun x => h2 (decide_eq_true (by omega))
        rw [if_neg ge] at o1
        rw [o1] at ok
        obtain ⟨w1, _, ez, sg, ne⟩ := good_seg ep ee ge
        obtain ⟨ng1, ng2⟩ := neg_iff w1
        obtain ⟨X, hX⟩ : ∃ X, X = cutS z (some (wholeAt z : Int)) none := ⟨_, rfl⟩
        have tX : tl X = (tl z).drop (wholeAt z) := by rw [hX]; exact tl_post z rfl (by rw [← len_tl]; exact wl2)
        walk_at "rd"
        refine ⟨zs, ?_⟩
        refine ⟨X, (by rw [hX, ← hw]; rfl), ?_⟩
        have XL : X.cps.size = (tl X).length := len_tl X
        have Xl : (tl X).length ≤ 600 := by
          rw [tX, List.length_drop, ← len_tl]
          omega
        refine ⟨fun i m σ H'' => ∃ x1 x3 x5 x7 : Option V, σ = [some (.str z), x1, some (.int (wholeAt z : Int)), x3, some (.int (p : Int)), x5, some (.int ((digitsVal (((tl X).take i).filter isDg) : Nat) : Int)), x7] ∧ i ≤ (tl X).length ∧ m = (tl X).length - i ∧ H'' = H2, ⟨_, _, _, _, _, (by rw [← hw]; rfl), Nat.zero_le _, rfl, rfl⟩, ?_⟩
        rintro i m σ H'' ⟨x1, x3, x5, x7, rfl, il, rfl, rfl⟩
        rcases Nat.lt_or_eq_of_le il with lt | eqi
        · refine .inr ⟨by rw [show (Its X).go i H'' = (i < X.cps.size) from rfl, XL]; exact lt, ?_⟩
          refine ⟨fun σ' H1 => (∃ x1 x3 x5 x7 : Option V, σ' = [some (.str z), x1, some (.int (wholeAt z : Int)), x3, some (.int (p : Int)), x5, some (.int ((digitsVal (((tl X).take (i + 1)).filter isDg) : Nat) : Int)), x7]) ∧ H1 = H'', ?_, ?_⟩
          · rintro σ' H1 ⟨⟨x1, x3, x5, x7, rfl⟩, rfl⟩
            exact ⟨_, by omega, x1, x3, x5, x7, rfl, lt, rfl, rfl⟩
          rintro x Hx ⟨rfl, c, hc, rfl⟩
          have hc' : (tl X)[i]? = some c := by
            rw [← hc]
            exact Array.getElem?_toList
          have tk : (tl X).take (i + 1) = (tl X).take i ++ [c] := by
            rw [List.take_add_one, hc']
            rfl
          walk_at "rd"
          refine ite2 (fun h3 => ?_) (fun h3 => ?_)
          · have l3 : c ∈ digS.cps.toList := of_decide_eq_true h3
            obtain ⟨c1, c2⟩ := mem_digS.mp l3
            obtain ⟨r, hr, rfl⟩ : ∃ r, r < 10 ∧ c = 48 + r := ⟨c - 48, by omega, by omega⟩
            rw [tk, List.filter_append, List.filter_cons_of_pos (isDg_t.mpr ⟨c1, c2⟩), List.filter_nil, digitsVal_snoc]
            walk_at "rd"
            refine ⟨.inr ⟨by decide, by decide⟩, ?_⟩
            walk_at "rd"
            refine ⟨rfl, ?_⟩
            walk_at "rd"
            refine ⟨_, _, r, [], rfl, rfl, occ_digit hr, ?_⟩
            walk_at "rd"
            refine ⟨⟨x1, x3, x5, some (V.str ⟨#[48 + r]⟩), ?_⟩, rfl⟩
            show _ = [some (V.str z), x1, some (V.int (wholeAt z : Int)), x3, some (V.int (p : Int)), x5, some (V.int ((digitsVal (((tl X).take i).filter isDg) * 10 + (48 + r - 48) : Nat) : Int)), some (V.str ⟨#[48 + r]⟩)]
            rw [show ((digitsVal (((tl X).take i).filter isDg) * 10 + (48 + r - 48) : Nat) : Int) = (digitsVal (((tl X).take i).filter isDg) : Int) * 10 + (r : Int) by omega]
            rfl
          · have n3 : isDg c = false := by
              cases x : isDg c with
              | false => rfl
              | true => exact (h3 (decide_eq_true (mem_digS.mpr (isDg_t.mp x)))).elim
            rw [tk, List.filter_append, List.filter_cons_of_neg (by rw [n3]; decide), List.filter_nil, List.append_nil]
            exact ⟨⟨_, _, _, _, rfl⟩, rfl⟩
        · refine .inl ⟨by rw [show (Its X).stop i H'' = (X.cps.size ≤ i) from rfl, XL]; omega, ?_⟩
          subst eqi
          rw [List.take_length, tX]
          have nm : (digitsVal (((tl z).drop (wholeAt z)).filter isDg) : Int) = (numM z : Int) := rfl
          rw [nm]
          walk_at "rd"
          refine ⟨zs, ?_⟩
          walk_at "rd"
          refine ⟨rfl, ?_⟩
          walk_at "rd"
          refine ite2 (fun h5 => ?_) (fun h5 => ?_)
          · have cn := str_t h5
            have w0 := ng2 cn
            walk_at "rd"
            refine ite2 (fun h6 => ?_) (fun h6 => absurd (decide_eq_true (by omega)) h6)
            have ef : figM z = -(numM z : Int) := by
              unfold figM
              rw [if_pos (ng1.mp cn)]
            rw [ef] at ok
            walk_at "rd"
            refine ⟨zs, ?_⟩
            walk_at "rd"
            refine ⟨0, _, rfl, ?_⟩
            have em : (if (z.length : Int) - (p : Int) - 1 > 0 then (z.length : Int) - (p : Int) - 1 else 0) = max 0 ((z.length : Int) - (p : Int) - 1) := by split <;> omega
            walk_at "rd"
            refine ⟨by show 2 ≤ sizeLine; decide, fun t tn' => ?_⟩
            walk_at "rd"
            refine ⟨by show 2 ≤ sizeLine; decide, fun k kn => ?_⟩
            refine ok rfl k t _ ((s02.trans (same_upd tn')).trans (same_upd kn)) upd_same ((upd_ne (fun x => by rw [x] at tn'; rw [← x] at kn; exact absurd ((upd_same).symm.trans kn) (by intro y; cases y))).trans (upd_same.trans ?_))
            rw [← em]
          · have cn := str_f h5
            have ef : figM z = (numM z : Int) := by
              unfold figM
              rw [if_neg (fun x => cn (ng1.mpr x))]
            rw [ef] at ok
            refine false_go ?_
            walk_at "rd"
            refine ⟨zs, ?_⟩
            walk_at "rd"
            refine ⟨0, _, rfl, ?_⟩
            have em : (if (z.length : Int) - (p : Int) - 1 > 0 then (z.length : Int) - (p : Int) - 1 else 0) = max 0 ((z.length : Int) - (p : Int) - 1) := by split <;> omega
            walk_at "rd"
            refine ⟨by show 2 ≤ sizeLine; decide, fun t tn' => ?_⟩
            walk_at "rd"
            refine ⟨by show 2 ≤ sizeLine; decide, fun k kn => ?_⟩
            refine ok rfl k t _ ((s02.trans (same_upd tn')).trans (same_upd kn)) upd_same ((upd_ne (fun x => by rw [x] at tn'; rw [← x] at kn; exact absurd ((upd_same).symm.trans kn) (by intro y; cases y))).trans (upd_same.trans ?_))
            rw [← em]
      · have h' : ¬ at1 z p = "." := str_f h
        have ee : placesM z p = (true, p) := by
          unfold placesM
          rw [if_neg h']
        rw [ee, if_pos rfl] at o1
        have ep2 := ep
        obtain ⟨e, he⟩ : ∃ e, e = p := ⟨_, rfl⟩
        have ea : (p : Int) = (e : Int) := by rw [he]
        have ee : placesM z p = (true, e) := by rw [he]; exact ee
        rw [show (if (true, p).2 < z.length then (false, (true, p).2) else (true, p)) = (if e < z.length then (false, e) else (true, p)) by rw [he]] at o1
        walk_at "rd"
        refine ⟨zs, ?_⟩
        walk_at "rd"
        refine ite2 (fun h2 => ?_) (fun h2 => ?_)
        · have lt : e < z.length := by
            have := of_decide_eq_true h2
            omega
          rw [if_pos lt] at o1
          rw [o1] at er
          walk_at "rd"
          refine ⟨by show 2 ≤ sizeLine; decide, fun k kn => ?_⟩
          exact er rfl k _ (s02.trans (same_upd kn)) (upd_same.trans (congrArg (fun n : Int => some (HO.lst [V.str "wrong", V.int n])) ea))
        have ge : ¬ e < z.length := fun x => h2 (decide_eq_true (by omega))
        rw [if_neg ge] at o1
        rw [o1] at ok
        obtain ⟨w1, _, ez, sg, ne⟩ := good_seg ep ee ge
        obtain ⟨ng1, ng2⟩ := neg_iff w1
        obtain ⟨X, hX⟩ : ∃ X, X = cutS z (some (wholeAt z : Int)) none := ⟨_, rfl⟩
        have tX : tl X = (tl z).drop (wholeAt z) := by rw [hX]; exact tl_post z rfl (by rw [← len_tl]; exact wl2)
        walk_at "rd"
        refine ⟨zs, ?_⟩
        refine ⟨X, (by rw [hX, ← hw]; rfl), ?_⟩
        have XL : X.cps.size = (tl X).length := len_tl X
        have Xl : (tl X).length ≤ 600 := by
          rw [tX, List.length_drop, ← len_tl]
          omega
        refine ⟨fun i m σ H'' => ∃ x1 x3 x5 x7 : Option V, σ = [some (.str z), x1, some (.int (wholeAt z : Int)), x3, some (.int (p : Int)), x5, some (.int ((digitsVal (((tl X).take i).filter isDg) : Nat) : Int)), x7] ∧ i ≤ (tl X).length ∧ m = (tl X).length - i ∧ H'' = H2, ⟨_, _, _, _, _, (by rw [← hw]; rfl), Nat.zero_le _, rfl, rfl⟩, ?_⟩
        rintro i m σ H'' ⟨x1, x3, x5, x7, rfl, il, rfl, rfl⟩
        rcases Nat.lt_or_eq_of_le il with lt | eqi
        · refine .inr ⟨by rw [show (Its X).go i H'' = (i < X.cps.size) from rfl, XL]; exact lt, ?_⟩
          refine ⟨fun σ' H1 => (∃ x1 x3 x5 x7 : Option V, σ' = [some (.str z), x1, some (.int (wholeAt z : Int)), x3, some (.int (p : Int)), x5, some (.int ((digitsVal (((tl X).take (i + 1)).filter isDg) : Nat) : Int)), x7]) ∧ H1 = H'', ?_, ?_⟩
          · rintro σ' H1 ⟨⟨x1, x3, x5, x7, rfl⟩, rfl⟩
            exact ⟨_, by omega, x1, x3, x5, x7, rfl, lt, rfl, rfl⟩
          rintro x Hx ⟨rfl, c, hc, rfl⟩
          have hc' : (tl X)[i]? = some c := by
            rw [← hc]
            exact Array.getElem?_toList
          have tk : (tl X).take (i + 1) = (tl X).take i ++ [c] := by
            rw [List.take_add_one, hc']
            rfl
          walk_at "rd"
          refine ite2 (fun h3 => ?_) (fun h3 => ?_)
          · have l3 : c ∈ digS.cps.toList := of_decide_eq_true h3
            obtain ⟨c1, c2⟩ := mem_digS.mp l3
            obtain ⟨r, hr, rfl⟩ : ∃ r, r < 10 ∧ c = 48 + r := ⟨c - 48, by omega, by omega⟩
            rw [tk, List.filter_append, List.filter_cons_of_pos (isDg_t.mpr ⟨c1, c2⟩), List.filter_nil, digitsVal_snoc]
            walk_at "rd"
            refine ⟨.inr ⟨by decide, by decide⟩, ?_⟩
            walk_at "rd"
            refine ⟨rfl, ?_⟩
            walk_at "rd"
            refine ⟨_, _, r, [], rfl, rfl, occ_digit hr, ?_⟩
            walk_at "rd"
            refine ⟨⟨x1, x3, x5, some (V.str ⟨#[48 + r]⟩), ?_⟩, rfl⟩
            show _ = [some (V.str z), x1, some (V.int (wholeAt z : Int)), x3, some (V.int (p : Int)), x5, some (V.int ((digitsVal (((tl X).take i).filter isDg) * 10 + (48 + r - 48) : Nat) : Int)), some (V.str ⟨#[48 + r]⟩)]
            rw [show ((digitsVal (((tl X).take i).filter isDg) * 10 + (48 + r - 48) : Nat) : Int) = (digitsVal (((tl X).take i).filter isDg) : Int) * 10 + (r : Int) by omega]
            rfl
          · have n3 : isDg c = false := by
              cases x : isDg c with
              | false => rfl
              | true => exact (h3 (decide_eq_true (mem_digS.mpr (isDg_t.mp x)))).elim
            rw [tk, List.filter_append, List.filter_cons_of_neg (by rw [n3]; decide), List.filter_nil, List.append_nil]
            exact ⟨⟨_, _, _, _, rfl⟩, rfl⟩
        · refine .inl ⟨by rw [show (Its X).stop i H'' = (X.cps.size ≤ i) from rfl, XL]; omega, ?_⟩
          subst eqi
          rw [List.take_length, tX]
          have nm : (digitsVal (((tl z).drop (wholeAt z)).filter isDg) : Int) = (numM z : Int) := rfl
          rw [nm]
          walk_at "rd"
          refine ⟨zs, ?_⟩
          walk_at "rd"
          refine ⟨rfl, ?_⟩
          walk_at "rd"
          refine ite2 (fun h5 => ?_) (fun h5 => ?_)
          · have cn := str_t h5
            have w0 := ng2 cn
            walk_at "rd"
            refine ite2 (fun h6 => ?_) (fun h6 => absurd (decide_eq_true (by omega)) h6)
            have ef : figM z = -(numM z : Int) := by
              unfold figM
              rw [if_pos (ng1.mp cn)]
            rw [ef] at ok
            walk_at "rd"
            refine ⟨zs, ?_⟩
            walk_at "rd"
            refine ⟨0, _, rfl, ?_⟩
            have em : (if (z.length : Int) - (p : Int) - 1 > 0 then (z.length : Int) - (p : Int) - 1 else 0) = max 0 ((z.length : Int) - (p : Int) - 1) := by split <;> omega
            walk_at "rd"
            refine ⟨by show 2 ≤ sizeLine; decide, fun t tn' => ?_⟩
            walk_at "rd"
            refine ⟨by show 2 ≤ sizeLine; decide, fun k kn => ?_⟩
            refine ok rfl k t _ ((s02.trans (same_upd tn')).trans (same_upd kn)) upd_same ((upd_ne (fun x => by rw [x] at tn'; rw [← x] at kn; exact absurd ((upd_same).symm.trans kn) (by intro y; cases y))).trans (upd_same.trans ?_))
            rw [← em]
          · have cn := str_f h5
            have ef : figM z = (numM z : Int) := by
              unfold figM
              rw [if_neg (fun x => cn (ng1.mpr x))]
            rw [ef] at ok
            refine false_go ?_
            walk_at "rd"
            refine ⟨zs, ?_⟩
            walk_at "rd"
            refine ⟨0, _, rfl, ?_⟩
            have em : (if (z.length : Int) - (p : Int) - 1 > 0 then (z.length : Int) - (p : Int) - 1 else 0) = max 0 ((z.length : Int) - (p : Int) - 1) := by split <;> omega
            walk_at "rd"
            refine ⟨by show 2 ≤ sizeLine; decide, fun t tn' => ?_⟩
            walk_at "rd"
            refine ⟨by show 2 ≤ sizeLine; decide, fun k kn => ?_⟩
            refine ok rfl k t _ ((s02.trans (same_upd tn')).trans (same_upd kn)) upd_same ((upd_ne (fun x => by rw [x] at tn'; rw [← x] at kn; exact absurd ((upd_same).symm.trans kn) (by intro y; cases y))).trans (upd_same.trans ?_))
            rw [← em]
end
end HT
namespace HT
open PySem L2 CwR
/-- what the written part says of InvalidText (D), InvalidValue (V) and their base class (B) -/
structure Et (K : PySem.W.Frag) (mg : Str → Option Value) (D V B : Addr) : Prop where
  isi : mg "isinstance" = none
  ve : mg "ValueError" = none
  gB : mg "HandedError" = some (.ref B)
  gD : mg "InvalidText" = some (.ref D)
  gV : mg "InvalidValue" = some (.ref V)
  ec : ErrC K D
  eg : ErrG K
  xf : XfC K D
  no : PySem.W.findIn K (.ref D) "at" = some none
  kD : PySem.W.kitOne K (.ref D) (.ref D) = some true
  kV : PySem.W.kitOne K (.ref D) (.ref V) = some false
  kE : PySem.W.kitOne K (.ref D) (.type "ValueError") = some true
  em : PySem.W.exmOne K (.ref D) (.ref B) = some true
def spReadL : Sp := fun vs H Q _ => ∃ x : V, vs = [x] ∧ ((∃ n, Th H x n ∧ (n == "str") = false ∧ ∀ (l : Addr) (H' : Hp), Same H H' → H' l = some (.lst [.str "wrong", .int 0]) → Q (.ref l) H') ∨ ∃ z : Str, x = .str z ∧ z.length ≤ 600 ∧
  ((outM z).1 = true → ∀ (l t : Addr) (H' : Hp), Same H H' → H' l = some (.lst [.str "good", .ref t]) → H' t = some (.tup [.int (figM z), .int (max 0 ((z.length : Int) - ((outM z).2 : Int) - 1))]) → Q (.ref l) H') ∧
  ((outM z).1 = false → ∀ (l : Addr) (H' : Hp), Same H H' → H' l = some (.lst [.str "wrong", .int ((outM z).2 : Int)]) → Q (.ref l) H'))
section
variable {P : Program} {w : World} {K : PySem.W.Frag} {mg : Str → Option Value} {base : Heap} {fR D V0 B : Addr} {dR : FuncData}
theorem ok_read {f : Addr} {fd : FuncData} (F : Fun K "_law_read" "_law_read" s_L_read f fd) (R : Et K mg D V0 B) (Rd : CalX P w K mg base "read_text" 5 ["text"] (spRead D) fR dR) : FnOk P w K mg base CX0 6 f fd ["_law_text_here"] spReadL := by
  refine F.ok sc_L_read (fun vs H Q E h => ?_) (fun cdv A outer s0 H vs Q E hr h => ?_)
  · obtain ⟨x, rfl, _⟩ := h
    rfl
  · obtain ⟨x, rfl, h⟩ := h
    have nd := sc_L_read.nd
    refine ⟨_, pss_cons (ps_set (i := 1) nd rfl (Or.inl rfl) pe_non)
      (pss_cons (ps_set (i := 2) nd rfl (Or.inl rfl) pe_non)
      (pss_cons (ps_try_keep (i := 3) rfl rfl rfl nd rfl rfl ⟨rfl, by decide, .inl R.gB⟩ takes0 (fun W pn xe tk _ => pss_one (ps_set (i := 2) nd rfl (Or.inl rfl) (pcx Rd hr (by decide) (by rfl) tk (pa_cons (pv 0) pa_nil))))
        (fun a rc kl dd pn hz hf => pss_one (ps_set (i := 1) nd rfl (Or.inl rfl) (pv 3))))
      (pss_cons (ps_if (pt_cmpR op_isN (pv 1) pe_non (nomark _)) (pss_one (ps_ret (pe_lst (pa_cons pe_str (pa_cons (pv 2) pa_nil))))) pss_nil)
      (pss_cons (ps_if (PW.pt (pw_or (pt_not (pt_val (pe_callB call_isKept (by rfl) R.isi (by decide +kernel) (pa_cons (pv 1) (pa_cons (pe_glob (v := .ref D) (by rfl) R.gD rfl) pa_nil)))))
          (pw_or (pt_val (pe_callB call_isKept (by rfl) R.isi (by decide +kernel) (pa_cons (pv 1) (pa_cons (pe_glob (v := .ref V0) (by rfl) R.gV rfl) pa_nil))))
          (pw_or1 (pt_not (pt_val (pe_callB call_isKept (by rfl) R.isi (by decide +kernel) (pa_cons (pv 1) (pa_cons (pe_bltn (v := .ty "ValueError") (by rfl) R.ve (by decide +kernel) rfl) pa_nil)))))))))
        (pss_one (ps_ret (pe_lst (pa_cons pe_str (pa_cons pe_non pa_nil))))) pss_nil)
      (pss_one (ps_ret (pe_lst (pa_cons pe_str (pa_cons (pe_kept (pv 1)) pa_nil))))))))), ?_⟩
    walk_at "rd"
    rcases h with ⟨n, t, hn, er⟩ | ⟨z, rfl, zl, ok, er⟩
    · refine .inl ⟨n, t, hn, fun d H1 nd1 s1 hd => ?_⟩
      refine ⟨true, R.em, fun _ a ha => ?_, fun z => Bool.noConfusion z⟩
      have da : d ≠ a := fun x => by rw [x, ha] at hd; cases hd
      have k0 : Kept (upd H1 a (ExK (.ref D) (some d) a)) a D := .inr ⟨d, _, upd_same, (upd_ne da).trans hd⟩
      have ek : upd H1 a (ExK (.ref D) (some d) a) a = some (ExK (.ref D) (some d) a) := upd_same
      have ed : upd H1 a (ExK (.ref D) (some d) a) d = some (.xd [("at", V.int 0)]) := (upd_ne da).trans hd
      have s2 := s1.trans (same_upd (o := ExK (.ref D) (some d) a) ha)
      walk_at "rd"
      refine ⟨rfl, ?_⟩
      walk_at "rd"
      refine ⟨a, D, _, .ref D, true, rfl, .own _, k0, R.ec, R.eg, R.kD, ?_⟩
      walk_at "rd"
      refine ⟨a, D, _, .ref V0, false, rfl, .own _, k0, R.ec, R.eg, R.kV, ?_⟩
      walk_at "rd"
      refine ⟨a, D, _, .type "ValueError", true, rfl, .ty _, k0, R.ec, R.eg, R.kE, ?_⟩
      walk_at "rd"
      refine ⟨a, D, d, _, _, rfl, R.xf, R.no, ek, ed, rfl, ?_⟩
      walk_at "rd"
      refine ⟨by show 2 ≤ sizeLine; decide, fun l nl => ?_⟩
      exact er l _ (s2.trans (same_upd nl)) upd_same
    · refine .inr ⟨z, rfl, zl, fun hg q H1 nq s1 hq => ?_, fun hb d H1 nd1 s1 hd => ?_⟩
      · walk_at "rd"
        refine ⟨rfl, ?_⟩
        walk_at "rd"
        refine ⟨by show 2 ≤ sizeLine; decide, fun l nl => ?_⟩
        exact ok hg l q _ (s1.trans (same_upd nl)) upd_same ((upd_ne (ne_of_none hq nl)).trans hq)
      · refine ⟨true, R.em, fun _ a ha => ?_, fun z => Bool.noConfusion z⟩
        have da : d ≠ a := fun x => by rw [x, ha] at hd; cases hd
        have k0 : Kept (upd H1 a (ExK (.ref D) (some d) a)) a D := .inr ⟨d, _, upd_same, (upd_ne da).trans hd⟩
        have ek : upd H1 a (ExK (.ref D) (some d) a) a = some (ExK (.ref D) (some d) a) := upd_same
        have ed : upd H1 a (ExK (.ref D) (some d) a) d = some (.xd [("at", V.int ((outM z).2 : Int))]) := (upd_ne da).trans hd
        have s2 := s1.trans (same_upd (o := ExK (.ref D) (some d) a) ha)
        walk_at "rd"
        refine ⟨rfl, ?_⟩
        walk_at "rd"
        refine ⟨a, D, _, .ref D, true, rfl, .own _, k0, R.ec, R.eg, R.kD, ?_⟩
        walk_at "rd"
        refine ⟨a, D, _, .ref V0, false, rfl, .own _, k0, R.ec, R.eg, R.kV, ?_⟩
        walk_at "rd"
        refine ⟨a, D, _, .type "ValueError", true, rfl, .ty _, k0, R.ec, R.eg, R.kE, ?_⟩
        walk_at "rd"
        refine ⟨a, D, d, _, _, rfl, R.xf, R.no, ek, ed, rfl, ?_⟩
        walk_at "rd"
        refine ⟨by show 2 ≤ sizeLine; decide, fun l nl => ?_⟩
        exact er hb l _ (s2.trans (same_upd nl)) upd_same
end
end HT
namespace HT
open PySem L2 CwR TL
theorem op_mulS {X : Cx} : OpR X (binaryOp .Mult) (fun x y H Q => ∃ a n, x = .str a ∧ y = .int n ∧ PySem.MulOk a n ∧ Q (.str (Txt.mul a n)) H) := by
  intro pins s σ H x y v u Q I rx ry h
  obtain ⟨a, n, rfl, rfl, hm, q⟩ := h
  obtain ⟨t, rfl⟩ := rx
  obtain ⟨t2, rfl⟩ := ry
  exact PySem.SB.mul hm fun t' k => ⟨.str (Txt.mul a n), H, I.tok k, ⟨t', rfl⟩, q⟩
theorem foldl_app (c : Nat) : ∀ (n : Nat) (a : Array Nat), ((List.replicate n #[c]).foldl (· ++ ·) a).toList = a.toList ++ List.replicate n c
  | 0, a => by simp
  | n + 1, a => by
    rw [List.replicate_succ, List.foldl_cons, foldl_app c n, Array.toList_append, List.append_assoc]
    rfl
theorem tl_mul {z : Str} {c : Nat} (h : tl z = [c]) {n : Nat} (h2 : 2 ≤ n) : tl (Txt.mul z (n : Int)) = List.replicate n c := by
  have hz : z.length = 1 := by rw [len_tl, h]; rfl
  have hc : z.cps = #[c] := Array.toList_inj.mp h
  unfold Txt.mul
  rw [if_neg (by omega), if_neg (by rw [hz]; simp; omega), Int.toNat_natCast, hc]
  show ((List.replicate n #[c]).foldl (· ++ ·) #[]).toList = _
  rw [foldl_app]
  rfl
theorem str_app (a b : Str) : (a ++ b).length = a.length + b.length := by
  show (a.cps ++ b.cps).size = a.cps.size + b.cps.size
  exact Array.size_append
theorem mul_ok {z : Str} {n : Int} (h : z.length = 1) (h0 : 1 ≤ n) (h1 : n ≤ 100) : PySem.MulOk z n := by
  refine ⟨?_, fun _ _ => ?_, fun _ _ => ?_⟩
  · rw [decide_eq_false (by omega), decide_eq_false (by omega)]
    rfl
  · rw [h]
    intro x
    have : (1 : Int) ≤ (2 ^ 63 - 1) / n := by
      have hh : n * 1 ≤ 2 ^ 63 - 1 := by omega
      exact (Int.le_ediv_iff_mul_le (by omega)).mpr (by omega)
    have x' : (1 : Int) > (2 ^ 63 - 1) / n := x
    omega
  · rw [h, Nat.one_mul]
    unfold PySem.Builtin.Str.tooLong
    refine decide_eq_false (fun x => ?_)
    have e : PySem.sizeLine = 16777216 := by rw [PySem.sizeLine_eq]
    omega
theorem lg_small {n : Int} (h0 : 0 ≤ n) (h : n < 2 ^ 64) : n.natAbs.log2 < 9000 := by
  obtain ⟨m, rfl⟩ := Int.eq_ofNat_of_zero_le h0
  exact lg_nat (Nat.lt_of_lt_of_le (by omega : m < 2 ^ 64) (Nat.pow_le_pow_right (by decide) (by decide)))
theorem le_line {n b : Nat} (h : n ≤ b) (hb : b ≤ 5000 := by decide) : n ≤ sizeLine := Nat.le_trans h (Nat.le_trans hb (by decide))
/-- short texts -/
def Shorts (xs : List V) (b : Nat) : Prop := ∀ x ∈ xs, ∃ z : Str, x = .str z ∧ z.length ≤ b
theorem shorts_cons {z : Str} {xs : List V} {b : Nat} (h : z.length ≤ b) (r : Shorts xs b) : Shorts (.str z :: xs) b := fun x hx => by
  rcases List.mem_cons.mp hx with e | hx
  · exact ⟨z, e, h⟩
  · exact r x hx
theorem shorts_nil {b : Nat} : Shorts [] b := fun x hx => by cases hx
def spTextL : Sp := fun vs H Q _ => ∃ (a c : Addr) (t : Nat), vs = [.ref a] ∧ Src H a c t ∧ t + 10 < 2 ^ 30 ∧ ∀ (z : Str) (H' : Hp), z.length ≤ 100 → Src H' a c (t + 4) → Q (.str z) H'
def spBent : Sp := fun vs H Q _ => ∃ (a c : Addr) (t : Nat) (z : Str), vs = [.ref a, .str z] ∧ Src H a c t ∧ t + 10 < 2 ^ 30 ∧ z.length ≤ 400 ∧ ∀ (z' : Str) (t' : Nat) (H' : Hp), z'.length ≤ z.length + 2 → t' ≤ t + 3 → Src H' a c t' → Q (.str z') H'
section
variable {P : Program} {w : World} {K : PySem.W.Frag} {mg : Str → Option Value} {base : Heap} {f1 f2 : Addr} {d1 d2 : FuncData}
theorem ok_text {f : Addr} {fd : FuncData} (F : Fun K "_law_text" "_law_text" s_L_text f fd) (Pk : Cal P w K mg base "_law_pick" 2 ["_law_source_here", "_law_values"] spPick f2 d2) : FnOk P w K mg base CX0 3 f fd ["_law_source_here"] spTextL := by
  refine F.ok sc_L_text (fun vs H Q E h => ?_) (fun cdv A outer s H vs Q E hr h => ?_)
  · obtain ⟨a, c, t, rfl, _⟩ := h
    rfl
  · obtain ⟨a, c, t, rfl, S, ht, q⟩ := h
    have nd := sc_L_text.nd
    refine ⟨_, (pss_cons (ps_set (i := 1) nd rfl (Or.inl rfl) (pcl Pk hr (by decide) (by rfl) (pa_cons (pv 0) (pa_cons (pe_lst (pa_cons pe_str (pa_cons pe_str (pa_cons pe_str (pa_cons pe_str (pa_cons pe_str (pa_cons pe_str (pa_cons pe_str (pa_cons pe_str (pa_cons pe_str (pa_cons pe_str (pa_cons pe_str pa_nil)))))))))))) pa_nil))))
      (pss_cons (ps_set (i := 2) nd rfl (Or.inl rfl) (pcl Pk hr (by decide) (by rfl) (pa_cons (pv 0) (pa_cons (pe_lst (pa_cons pe_str (pa_cons pe_str (pa_cons pe_str (pa_cons pe_str (pa_cons pe_str (pa_cons pe_str (pa_cons pe_str (pa_cons pe_str (pa_cons (pe_op op_add_str pe_str (pe_op op_mulS pe_str pe_int)) (pa_cons (pe_op op_add_str pe_str (pe_op op_mulS pe_str pe_int)) pa_nil))))))))))) pa_nil))))
      (pss_one (ps_ret (pe_op op_add_str (pe_op op_add_str (pe_op op_add_str (pcl Pk hr (by decide) (by rfl) (pa_cons (pv 0) (pa_cons (pe_lst (pa_cons pe_str (pa_cons pe_str (pa_cons pe_str (pa_cons pe_str pa_nil))))) pa_nil))) (pcl Pk hr (by decide) (by rfl) (pa_cons (pv 0) (pa_cons (pe_lst (pa_cons pe_str (pa_cons pe_str (pa_cons pe_str (pa_cons pe_str (pa_cons pe_str (pa_cons pe_str pa_nil))))))) pa_nil)))) (pv 1)) (pv 2)))))), ?_⟩
    walk_at "rd"
    refine ⟨(by show 11 ≤ sizeLine; decide), fun l1 nl1 => ?_⟩
    obtain ⟨la, lc⟩ := S.na nl1
    refine ⟨a, c, _, l1, _, rfl, S.new nl1, by omega, upd_same, la, lc, by decide, by decide, fun x H1 hx S1 O1 => ?_⟩
    have sh1 : Shorts [V.str "0", .str "7", .str "12", .str "123", .str "1234", .str "1,234", .str "12,345,678", .str "00", .str "007", .str "1,23", .str "123456"] 16 := by
      repeat (first | exact shorts_nil | refine shorts_cons (by decide +kernel) ?_)
    obtain ⟨z1, rfl, hz1⟩ := sh1 x hx
    walk_at "rd"
    refine ⟨mul_ok (by decide +kernel) (by decide) (by decide), ?_⟩
    have m7 : (Txt.mul ("7" : Str) 60).length = 60 := by
      rw [len_tl, show (60 : Int) = ((60 : Nat) : Int) from rfl, tl_mul (c := 55) (by show tl (Str.ofString "7") = _; rw [tl_ofString]; rfl) (by decide), List.length_replicate]
    have m3 : (Txt.mul ("3" : Str) 61).length = 61 := by
      rw [len_tl, show (61 : Int) = ((61 : Nat) : Int) from rfl, tl_mul (c := 51) (by show tl (Str.ofString "3") = _; rw [tl_ofString]; rfl) (by decide), List.length_replicate]
    have ld : ("." : Str).length = 1 := len_dot
    walk_at "rd"
    refine ⟨by rw [m7, ld]; exact le_line (show 61 ≤ 61 by decide), ?_⟩
    walk_at "rd"
    refine ⟨mul_ok (by decide +kernel) (by decide) (by decide), ?_⟩
    walk_at "rd"
    refine ⟨by rw [m3, ld]; exact le_line (show 62 ≤ 62 by decide), ?_⟩
    walk_at "rd"
    refine ⟨(by show 10 ≤ sizeLine; decide), fun l2 nl2 => ?_⟩
    obtain ⟨la2, lc2⟩ := S1.na nl2
    refine ⟨a, c, _, l2, _, rfl, S1.new nl2, by omega, upd_same, la2, lc2, (by show 0 < 10; decide), (by show 10 < 2 ^ 60; decide), fun x H2 hx2 S2 O2 => ?_⟩
    have sh2 : Shorts [V.str "", .str "", .str ".5", .str ".50", .str ".123456", .str ".", .str ".0", .str ".1,234", .str (("." : Str) ++ Txt.mul ("7" : Str) 60), .str (("." : Str) ++ Txt.mul ("3" : Str) 61)] 62 := by
      refine shorts_cons (by decide +kernel) (shorts_cons (by decide +kernel) (shorts_cons (by decide +kernel) (shorts_cons (by decide +kernel) (shorts_cons (by decide +kernel) (shorts_cons (by decide +kernel) (shorts_cons (by decide +kernel) (shorts_cons (by decide +kernel) (shorts_cons ?_ (shorts_cons ?_ shorts_nil)))))))))
      · rw [str_app, m7, ld]
        decide
      · rw [str_app, m3, ld]
        decide
    obtain ⟨z2, rfl, hz2⟩ := sh2 x hx2
    walk_at "rd"
    refine ⟨(by show 4 ≤ sizeLine; decide), fun l3 nl3 => ?_⟩
    obtain ⟨la3, lc3⟩ := S2.na nl3
    refine ⟨a, c, _, l3, _, rfl, S2.new nl3, by omega, upd_same, la3, lc3, by decide, by decide, fun x H3 hx3 S3 O3 => ?_⟩
    have sh3 : Shorts [V.str "", .str "", .str " ", .str "   "] 3 := by
      repeat (first | exact shorts_nil | refine shorts_cons (by decide +kernel) ?_)
    obtain ⟨z3, rfl, hz3⟩ := sh3 x hx3
    walk_at "rd"
    refine ⟨(by show 6 ≤ sizeLine; decide), fun l4 nl4 => ?_⟩
    obtain ⟨la4, lc4⟩ := S3.na nl4
    refine ⟨a, c, _, l4, _, rfl, S3.new nl4, by omega, upd_same, la4, lc4, by decide, by decide, fun x H4 hx4 S4 O4 => ?_⟩
    have sh4 : Shorts [V.str "", .str "", .str "-", .str "+", .str "--", .str "- "] 2 := by
      repeat (first | exact shorts_nil | refine shorts_cons (by decide +kernel) ?_)
    obtain ⟨z4, rfl, hz4⟩ := sh4 x hx4
    walk_at "rd"
    refine ⟨le_line (show z3.length + z4.length ≤ 5 by omega), ?_⟩
    walk_at "rd"
    refine ⟨le_line (show (z3 ++ z4).length + z1.length ≤ 21 by rw [str_app]; omega), ?_⟩
    walk_at "rd"
    refine ⟨le_line (show (z3 ++ z4 ++ z1).length + z2.length ≤ 83 by rw [str_app, str_app]; omega), ?_⟩
    exact q _ _ (by rw [str_app, str_app, str_app]; omega) S4
theorem ok_bent {f : Addr} {fd : FuncData} (F : Fun K "_law_bent" "_law_bent" s_L_bent f fd) (B : Blt mg) (Dr : Cal P w K mg base "_law_draw" 1 ["_law_source_here", "_law_limit"] spDraw f1 d1) (Pk : Cal P w K mg base "_law_pick" 2 ["_law_source_here", "_law_values"] spPick f2 d2) : FnOk P w K mg base CX0 3 f fd ["_law_source_here", "_law_text_here"] spBent := by
  refine F.ok sc_L_bent (fun vs H Q E h => ?_) (fun cdv A outer s H vs Q E hr h => ?_)
  · obtain ⟨a, c, t, z, rfl, _⟩ := h
    rfl
  · obtain ⟨a, c, t, z, rfl, S, ht, zl, q⟩ := h
    have zs : z.length ≤ sizeLine := Nat.le_trans zl (by decide)
    have nd := sc_L_bent.nd
    refine ⟨_, (pss_cons (ps_set (i := 2) nd rfl (Or.inl rfl) (pe_lst (pa_cons pe_str (pa_cons pe_str (pa_cons pe_str (pa_cons pe_str (pa_cons pe_str (pa_cons pe_str (pa_cons pe_str (pa_cons pe_str (pa_cons pe_str (pa_cons pe_str (pa_cons pe_str (pa_cons pe_str (pa_cons pe_str (pa_cons pe_str (pa_cons pe_str (pa_cons pe_str pa_nil))))))))))))))))))
      (pss_cons (ps_set (i := 3) nd rfl (Or.inl rfl) (pcl Dr hr (by decide) (by rfl) (pa_cons (pv 0) (pa_cons (pe_op op_add (pe_callB call_len_str (by rfl) B.len PySem.boot_len (pa_cons (pv 1) pa_nil)) pe_int) pa_nil))))
      (pss_cons (ps_set (i := 4) nd rfl (Or.inl rfl) (pcl Dr hr (by decide) (by rfl) (pa_cons (pv 0) (pa_cons pe_int pa_nil))))
      (pss_cons (ps_if (pt_cmpR op_eq (pv 4) pe_int (nomark _)) (pss_one (ps_ret (pe_slice sl_str (pv 1) po_none (po_some (pv 3))))) pss_nil)
      (pss_cons (ps_if (pt_cmpR op_eq (pv 4) pe_int (nomark _)) (pss_one (ps_ret (pe_op op_add_str (pe_slice sl_str (pv 1) po_none (po_some (pv 3))) (pe_slice sl_str (pv 1) (po_some (pe_op op_add (pv 3) pe_int)) po_none)))) pss_nil)
      (pss_cons (ps_if (pt_cmpR op_eq (pv 4) pe_int (nomark _)) (pss_one (ps_ret (pe_op op_add_str (pe_op op_add_str (pe_slice sl_str (pv 1) po_none (po_some (pv 3))) (pcl Pk hr (by decide) (by rfl) (pa_cons (pv 0) (pa_cons (pv 2) pa_nil)))) (pe_slice sl_str (pv 1) (po_some (pe_op op_add (pv 3) pe_int)) po_none)))) pss_nil)
      (pss_one (ps_ret (pe_op op_add_str (pe_op op_add_str (pe_slice sl_str (pv 1) po_none (po_some (pv 3))) (pcl Pk hr (by decide) (by rfl) (pa_cons (pv 0) (pa_cons (pv 2) pa_nil)))) (pe_slice sl_str (pv 1) (po_some (pv 3)) po_none)))))))))), ?_⟩
    walk_at "rd"
    refine ⟨(by show 16 ≤ sizeLine; decide), fun sg nsg => ?_⟩
    obtain ⟨sa, sc⟩ := S.na nsg
    have S0 := S.new (o := .lst [V.str "0", .str "1", .str "9", .str ",", .str ".", .str "-", .str "+", .str " ", .str "e", .str "E", .str "_", .str "\t", .str "\n", .str "x", .str "'", .str "00"]) nsg
    have hsg : upd H sg (.lst [V.str "0", .str "1", .str "9", .str ",", .str ".", .str "-", .str "+", .str " ", .str "e", .str "E", .str "_", .str "\t", .str "\n", .str "x", .str "'", .str "00"]) sg = some (.lst [V.str "0", .str "1", .str "9", .str ",", .str ".", .str "-", .str "+", .str " ", .str "e", .str "E", .str "_", .str "\t", .str "\n", .str "x", .str "'", .str "00"]) := upd_same
    have shs : Shorts [V.str "0", .str "1", .str "9", .str ",", .str ".", .str "-", .str "+", .str " ", .str "e", .str "E", .str "_", .str "\t", .str "\n", .str "x", .str "'", .str "00"] 2 := by
      repeat (first | exact shorts_nil | refine shorts_cons (by decide +kernel) ?_)
    generalize upd H sg (.lst [V.str "0", .str "1", .str "9", .str ",", .str ".", .str "-", .str "+", .str " ", .str "e", .str "E", .str "_", .str "\t", .str "\n", .str "x", .str "'", .str "00"]) = H0 at S0 hsg ⊢
    walk_at "rd"
    refine ⟨zs, ?_⟩
    walk_at "rd"
    refine ⟨a, c, _, (z.length : Int) + 1, rfl, S0, by omega, by omega, lg_small (by omega) (by omega), fun k H1 k0 k1 S1 O1 => ?_⟩
    walk_at "rd"
    refine ⟨a, c, _, 5, rfl, S1, by omega, by decide, by decide, fun v H2 v0 v1 S2 O2 => ?_⟩
    have hsg2 := O2 _ _ (O1 _ _ hsg sa sc) sa sc
    have c1 := cutS_len_le z none (some k)
    obtain ⟨n, rfl⟩ := Int.eq_ofNat_of_zero_le k0
    have e1 : (cutS z none (some (n : Int))).length ≤ n := by
      show ((z.cps.toList.drop (HT.sIx z.length 0 none)).take (HT.sIx z.length z.length (some (n : Int)) - HT.sIx z.length 0 none)).toArray.size ≤ n
      rw [HT.sIx_nat, HT.sIx_none, List.size_toArray, List.length_take]
      omega
    have e2 : ∀ m : Nat, (cutS z (some (m : Int)) none).length ≤ z.length - m := fun m => by
      show ((z.cps.toList.drop (HT.sIx z.length 0 (some (m : Int)))).take (HT.sIx z.length z.length none - HT.sIx z.length 0 (some (m : Int)))).toArray.size ≤ z.length - m
      have hz : z.cps.toList.length = z.length := Array.length_toList
      rw [HT.sIx_nat, HT.sIx_none, List.size_toArray, List.length_take, List.length_drop, hz]
      omega
    have e3 := e2 (n + 1)
    have e4 := e2 n
    walk_at "rd"
    refine ⟨rfl, ?_⟩
    walk_at "rd"
    refine ite2 (fun h => ?_) (fun h => ?_)
    · walk_at "rd"
      refine ⟨zs, ?_⟩
      exact q _ _ _ (by omega) (by omega) S2
    walk_at "rd"
    refine ⟨rfl, ?_⟩
    walk_at "rd"
    refine ite2 (fun h => ?_) (fun h => ?_)
    · walk_at "rd"
      refine ⟨zs, ?_⟩
      walk_at "rd"
      refine ⟨zs, ?_⟩
      walk_at "rd"
      refine ⟨le_line (Nat.add_le_add (show _ ≤ 400 from Nat.le_trans c1 zl) (show _ ≤ 400 from Nat.le_trans (cutS_len_le z _ _) zl)), ?_⟩
      refine q _ _ _ ?_ (by omega) S2
      rw [str_app]
      exact Nat.le_trans (Nat.add_le_add e1 e3) (by omega)
    walk_at "rd"
    refine ⟨rfl, ?_⟩
    walk_at "rd"
    refine ite2 (fun h => ?_) (fun h => ?_)
    · walk_at "rd"
      refine ⟨zs, ?_⟩
      walk_at "rd"
      refine ⟨a, c, _, sg, _, rfl, S2, by omega, hsg2, sa, sc, by decide, by decide, fun x H3 hx S3 O3 => ?_⟩
      obtain ⟨y, rfl, hy⟩ := shs x hx
      walk_at "rd"
      refine ⟨le_line (Nat.add_le_add (show _ ≤ 400 from Nat.le_trans c1 zl) hy), ?_⟩
      walk_at "rd"
      refine ⟨zs, ?_⟩
      walk_at "rd"
      refine ⟨le_line (Nat.add_le_add (Nat.le_trans (Nat.le_of_eq (str_app _ _)) (Nat.add_le_add (Nat.le_trans c1 zl) hy)) (show _ ≤ 400 from Nat.le_trans (cutS_len_le z _ _) zl)), ?_⟩
      refine q _ _ _ ?_ (by omega) S3
      rw [str_app, str_app]
      exact Nat.le_trans (Nat.add_le_add (Nat.add_le_add e1 hy) e3) (by omega)
    · walk_at "rd"
      refine ⟨zs, ?_⟩
      walk_at "rd"
      refine ⟨a, c, _, sg, _, rfl, S2, by omega, hsg2, sa, sc, by decide, by decide, fun x H3 hx S3 O3 => ?_⟩
      obtain ⟨y, rfl, hy⟩ := shs x hx
      walk_at "rd"
      refine ⟨le_line (Nat.add_le_add (show _ ≤ 400 from Nat.le_trans c1 zl) hy), ?_⟩
      walk_at "rd"
      refine ⟨zs, ?_⟩
      walk_at "rd"
      refine ⟨le_line (Nat.add_le_add (Nat.le_trans (Nat.le_of_eq (str_app _ _)) (Nat.add_le_add (Nat.le_trans c1 zl) hy)) (show _ ≤ 400 from Nat.le_trans (cutS_len_le z _ _) zl)), ?_⟩
      refine q _ _ _ ?_ (by omega) S3
      rw [str_app, str_app]
      exact Nat.le_trans (Nat.add_le_add (Nat.add_le_add e1 hy) e4) (by omega)
end
end HT
namespace HT
open PySem L2 CwR TL
/-- law's: a list of at most 63 ints is handed in, True comes out -/
def spLaw (K : PySem.W.Frag) : Sp := fun vs H Q _ => ∃ (l : Addr) (ns : List Int), vs = [.ref l] ∧ SqL K H l (ns.map V.int) ∧ ns.length ≤ 63 ∧ ∀ H', Q (.bl true) H'
theorem out_empty : outM ("" : Str) = (false, 0) := by decide +kernel
theorem out_exp : outM ("1.5e3" : Str) = (false, 3) := by decide +kernel
theorem lay_w : PyData.canLay0 (.str ("wrong" : Str)) = true := by decide +kernel
theorem lay_g : PyData.canLay0 (.str ("good" : Str)) = true := by decide +kernel
theorem shaped_w (n : Int) : SeqAt.shaped (.list [.str "wrong", .int n]) = true := by
  show ((PyData.canLay0 (.str ("wrong" : Str)) && (true && true)) && decide (PyData.depth (.list [.str ("wrong" : Str), .int n]) ≤ 64)) = true
  rw [lay_w]
  rfl
theorem shaped_g (n m : Int) : SeqAt.shaped (.list [.str "good", .tuple [.int n, .int m]]) = true := by
  show ((PyData.canLay0 (.str ("good" : Str)) && ((true && (true && true)) && true)) && decide (PyData.depth (.list [.str ("good" : Str), .tuple [.int n, .int m]]) ≤ 64)) = true
  rw [lay_g]
  rfl
theorem eqW {K : PySem.W.Frag} {H : Hp} {p q : Addr} {n : Int} (hp : H p = some (.lst [.str "wrong", .int n])) (hq : H q = some (.lst [.str "wrong", .int n])) : ∃ d e, Dp K H (.ref p) d ∧ Dp K H (.ref q) e ∧ SeqAt.shaped d = true ∧ SeqAt.shaped e = true ∧ PyData.eqv d e = true :=
  ⟨.list [.str "wrong", .int n], .list [.str "wrong", .int n], .lst (SqL.of hp) (.cons (.str _) (.cons (.int _) .nil)), .lst (SqL.of hq) (.cons (.str _) (.cons (.int _) .nil)), shaped_w n, shaped_w n, by simp [PyData.eqv, PyData.eqvAll]⟩
theorem eqG {K : PySem.W.Frag} {H : Hp} {p q t u : Addr} {n m : Int} (hp : H p = some (.lst [.str "good", .ref t])) (ht : H t = some (.tup [.int n, .int m])) (hq : H q = some (.lst [.str "good", .ref u])) (hu : H u = some (.tup [.int n, .int m])) : ∃ d e, Dp K H (.ref p) d ∧ Dp K H (.ref q) e ∧ SeqAt.shaped d = true ∧ SeqAt.shaped e = true ∧ PyData.eqv d e = true :=
  ⟨.list [.str "good", .tuple [.int n, .int m]], .list [.str "good", .tuple [.int n, .int m]], .lst (SqL.of hp) (.cons (.str _) (.cons (.tup (SqT.of ht) (.cons (.int _) (.cons (.int _) .nil))) .nil)), .lst (SqL.of hq) (.cons (.str _) (.cons (.tup (SqT.of hu) (.cons (.int _) (.cons (.int _) .nil))) .nil)), shaped_g n m, shaped_g n m, by simp [PyData.eqv, PyData.eqvAll]⟩
section
variable {P : Program} {w : World} {K : PySem.W.Frag} {mg : Str → Option Value} {base : Heap} {f0 f1 f2 f3 f4 f5 f6 : Addr} {d0 d1 d2 d3 d4 d5 d6 : FuncData}
theorem ok_law {f : Addr} {fd : FuncData} (F : Fun K "law" "law" s_law f fd) (B : Blt mg) (So : Cal P w K mg base "_law_source" 1 ["_law_script"] (spSource K) f0 d0) (Dr : Cal P w K mg base "_law_draw" 1 ["_law_source_here", "_law_limit"] spDraw f1 d1)
    (Tx : Cal P w K mg base "_law_text" 3 ["_law_source_here"] spTextL f2 d2) (Bn : Cal P w K mg base "_law_bent" 3 ["_law_source_here", "_law_text_here"] spBent f3 d3) (Rd : Cal P w K mg base "_law_read" 6 ["_law_text_here"] spReadL f4 d4) (Du : Cal P w K mg base "_law_due" 3 ["_law_text_here"] spDue f5 d5) : FnOk P w K mg base CX0 7 f fd ["_law_script"] (spLaw K) := by
  refine F.ok sc_law (fun vs H Q E h => ?_) (fun cdv A outer s H vs Q E hr h => ?_)
  · obtain ⟨l, ns, rfl, _⟩ := h
    rfl
  · obtain ⟨l, ns, rfl, hL, hn, q⟩ := h
    have nd := sc_law.nd
    refine ⟨_, (pss_cons (ps_set (i := 1) nd rfl (Or.inl rfl) (pcl So hr (by decide) (by rfl) (pa_cons (pv 0) pa_nil)))
      (pss_cons (ps_for PassesOwn.never rfl (pi_range1 (by rfl) B.range (pa_cons pe_int pa_nil)) (pg_name (i := 2) nd rfl (Or.inl rfl)) (pss_cons (ps_set (i := 3) nd rfl (Or.inl rfl) (pcl Tx hr (by decide) (by rfl) (pa_cons (pv 1) pa_nil)))
      (pss_cons (ps_for PassesOwn.never rfl (pi_range1 (by rfl) B.range (pa_cons (pcl Dr hr (by decide) (by rfl) (pa_cons (pv 1) (pa_cons pe_int pa_nil))) pa_nil)) (pg_name (i := 4) nd rfl (Or.inl rfl)) (pss_one (ps_set (i := 3) nd rfl (Or.inl rfl) (pcl Bn hr (by decide) (by rfl) (pa_cons (pv 1) (pa_cons (pv 3) pa_nil))))))
      (pss_one (ps_if (pt_cmpR (op_neD hr.units) (pcl Rd hr (by decide) (by rfl) (pa_cons (pv 3) pa_nil)) (pcl Du hr (by decide) (by rfl) (pa_cons (pv 3) pa_nil)) (nomark _)) (pss_one (ps_ret pe_bl)) pss_nil)))))
      (pss_cons (ps_for PassesOwn.never rfl (pi_list (pe_lst (pa_cons pe_non (pa_cons pe_int (pa_cons pe_int (pa_cons pe_bl (pa_cons (pe_tup pa_nil) (pa_cons (pe_lst pa_nil) (pa_cons pe_dnewK (pa_cons (pe_lst (pa_cons pe_str pa_nil)) (pa_cons (pe_tup (pa_cons pe_str pa_nil)) pa_nil))))))))))) (pg_name (i := 5) nd rfl (Or.inl rfl)) (pss_one (ps_if (pt_cmpR (op_neD hr.units) (pcl Rd hr (by decide) (by rfl) (pa_cons (pv 5) pa_nil)) (pe_lst (pa_cons pe_str (pa_cons pe_int pa_nil))) (nomark _)) (pss_one (ps_ret pe_bl)) pss_nil)))
      (pss_one (ps_ret (pe_and (pe_cmpR (op_eqD hr.units) (pcl Rd hr (by decide) (by rfl) (pa_cons pe_str pa_nil)) (pe_lst (pa_cons pe_str (pa_cons pe_int pa_nil))) (nomark _)) (pe_one (pe_cmpR (op_eqD hr.units) (pcl Rd hr (by decide) (by rfl) (pa_cons pe_str pa_nil)) (pe_lst (pa_cons pe_str (pa_cons pe_int pa_nil))) (nomark _))))))))), ?_⟩
    walk_at "rd"
    refine ⟨l, ns, rfl, hL, hn, fun a c H0 sm na nc S0 => ?_⟩
    walk_at "rd"
    refine ⟨by decide, by decide, ?_⟩
    refine for_range (n := 60) (fun i σ H' => ∃ (x2 x3 x4 x5 : Option V) (t : Nat), σ = [some (.ref l), some (.ref a), x2, x3, x4, x5] ∧ t ≤ 20 * i ∧ Src H' a c t) ⟨none, none, none, none, 0, rfl, by omega, S0⟩ ?_ ?_
    · rintro i σ H' hi ⟨x2, x3, x4, x5, t, rfl, ht, S'⟩
      walk_at "rd"
      refine ⟨a, c, t, rfl, S', by omega, fun z H1 hz S1 => ?_⟩
      walk_at "rd"
      refine ⟨a, c, _, 3, rfl, S1, by omega, by decide, by decide, fun y H2 y0 y1 S2 O2 => ?_⟩
      walk_at "rd"
      refine ⟨by omega, by omega, ?_⟩
      refine for_range (n := y.toNat) (fun j σ H' => ∃ (x4 : Option V) (z : Str) (t' : Nat), σ = [some (.ref l), some (.ref a), some (.int (0 + (i : Int))), some (.str z), x4, x5] ∧ z.length ≤ 100 + 2 * j ∧ t' ≤ t + 5 + 3 * j ∧ Src H' a c t') ⟨x4, z, _, rfl, by omega, by omega, S2⟩ ?_ ?_
      · rintro j σ H3 hj ⟨x4, z, t', rfl, hz, ht', S3⟩
        walk_at "rd"
        refine ⟨a, c, t', z, rfl, S3, by omega, by omega, fun z' t2 H4 hz' ht2 S4 => ?_⟩
        walk_at "rd"
        exact ⟨_, z', t2, rfl, by omega, by omega, S4⟩
      · rintro σ H3 ⟨x4, z, t', rfl, hz, ht', S3⟩
        have zl : z.length ≤ 600 := by omega
        walk_at "rd"
        refine .inr ⟨z, rfl, zl, fun hg l1 t1 H4 s4 hl1 ht1 => ?_, fun hb l1 H4 s4 hl1 => ?_⟩
        · walk_at "rd"
          refine ⟨zl, fun _ l2 t2 H5 s5 hl2 ht2 => ?_, fun hb => absurd (hg.symm.trans hb) (by decide)⟩
          obtain ⟨d, e, z1, z2, z3, z4, z5⟩ := eqG (K := K) (s5 _ _ hl1) (s5 _ _ ht1) hl2 ht2
          refine ⟨d, e, z1, z2, z3, z4, ?_⟩
          rw [z5]
          walk_at "rd"
          exact ⟨_, _, _, _, _, rfl, by omega, S3.of_same (s4.trans s5)⟩
        · walk_at "rd"
          refine ⟨zl, fun hg => absurd (hb.symm.trans hg) (by decide), fun _ l2 H5 s5 hl2 => ?_⟩
          obtain ⟨d, e, z1, z2, z3, z4, z5⟩ := eqW (K := K) (s5 _ _ hl1) hl2
          refine ⟨d, e, z1, z2, z3, z4, ?_⟩
          rw [z5]
          walk_at "rd"
          exact ⟨_, _, _, _, _, rfl, by omega, S3.of_same (s4.trans s5)⟩
    · rintro σ H' ⟨x2, x3, x4, x5, t, rfl, ht, S'⟩
      walk_at "rd"
      refine ⟨by decide, fun te nte => ?_⟩
      have s1 := same_upd (o := .tup []) nte
      have hte : upd H' te (.tup []) te = some (.tup []) := upd_same
      generalize upd H' te (.tup []) = H1 at s1 hte ⊢
      walk_at "rd"
      refine ⟨by decide, fun le nle => ?_⟩
      have s2 := same_upd (o := .lst []) nle
      have hle : upd H1 le (.lst []) le = some (.lst []) := upd_same
      generalize upd H1 le (.lst []) = H2 at s2 hle ⊢
      walk_at "rd"
      intro de nde
      have s3 := same_upd (o := .dK []) nde
      have hde : upd H2 de (.dK []) de = some (.dK []) := upd_same
      generalize upd H2 de (.dK []) = H3 at s3 hde ⊢
      walk_at "rd"
      refine ⟨(by show 1 ≤ sizeLine; decide), fun ls nls => ?_⟩
      have s4 := same_upd (o := .lst [V.str "1"]) nls
      have hls : upd H3 ls (.lst [V.str "1"]) ls = some (.lst [V.str "1"]) := upd_same
      generalize upd H3 ls (.lst [V.str "1"]) = H4 at s4 hls ⊢
      walk_at "rd"
      refine ⟨(by show 1 ≤ sizeLine; decide), fun ts nts => ?_⟩
      have s5 := same_upd (o := .tup [V.str "1"]) nts
      have hts : upd H4 ts (.tup [V.str "1"]) ts = some (.tup [V.str "1"]) := upd_same
      generalize upd H4 ts (.tup [V.str "1"]) = H5 at s5 hts ⊢
      walk_at "rd"
      refine ⟨(by show 9 ≤ sizeLine; decide), fun lv nlv => ?_⟩
      have s6 := same_upd (o := .lst [V.non, V.int 0, V.int 12, V.bl true, V.ref te, V.ref le, V.ref de, V.ref ls, V.ref ts]) nlv
      have hlv : upd H5 lv (.lst [V.non, V.int 0, V.int 12, V.bl true, V.ref te, V.ref le, V.ref de, V.ref ls, V.ref ts]) lv = some (.lst [V.non, V.int 0, V.int 12, V.bl true, V.ref te, V.ref le, V.ref de, V.ref ls, V.ref ts]) := upd_same
      generalize upd H5 lv _ = H6 at s6 hlv ⊢
      have kt : ∀ x ∈ [V.non, V.int 0, V.int 12, V.bl true, V.ref te, V.ref le, V.ref de, V.ref ls, V.ref ts], ∃ n, Th H6 x n ∧ (n == "str") = false := fun x hx => by
        simp only [List.mem_cons, List.not_mem_nil, or_false] at hx
        rcases hx with e | e | e | e | e | e | e | e | e <;> subst e
        · exact ⟨_, .non, rfl⟩
        · exact ⟨_, .int 0, rfl⟩
        · exact ⟨_, .int 12, rfl⟩
        · exact ⟨_, .bl true, rfl⟩
        · exact ⟨_, .tup (s6 _ _ (s5 _ _ (s4 _ _ (s3 _ _ (s2 _ _ hte))))), rfl⟩
        · exact ⟨_, .lst (s6 _ _ (s5 _ _ (s4 _ _ (s3 _ _ hle)))), rfl⟩
        · exact ⟨_, .dk (s6 _ _ (s5 _ _ (s4 _ _ hde))), rfl⟩
        · exact ⟨_, .lst (s6 _ _ (s5 _ _ hls)), rfl⟩
        · exact ⟨_, .tup (s6 _ _ hts), rfl⟩
      obtain ⟨xs, hxs⟩ : ∃ xs, xs = [V.non, V.int 0, V.int 12, V.bl true, V.ref te, V.ref le, V.ref de, V.ref ls, V.ref ts] := ⟨_, rfl⟩
      rw [← hxs] at hlv kt
      refine ⟨lv, rfl, ⟨_, SqL.of hlv⟩, ?_⟩
      refine for_list (K := K) (a := lv) (xs := xs) (fun _ σ H7 => ∃ x5 : Option V, σ = [some (.ref l), some (.ref a), x2, x3, x4, x5] ∧ H7 lv = some (.lst xs) ∧ Same H6 H7) ⟨x5, rfl, hlv, Same.refl H6⟩ (fun _ _ _ _ ⟨_, _, z, _⟩ => SqL.of z) ?_ ?_
      · rintro y x σ H7 hx ⟨x5, rfl, hlv7, s7⟩
        obtain ⟨n, t, hn'⟩ := kt x (List.mem_of_getElem? hx)
        walk_at "rd"
        refine .inl ⟨n, t.same s7, hn', fun l1 H8 s8 hl1 => ?_⟩
        walk_at "rd"
        refine ⟨(by show 2 ≤ sizeLine; decide), fun p np => ?_⟩
        obtain ⟨d, e, z1, z2, z3, z4, z5⟩ := eqW (K := K) ((upd_ne (ne_of_none hl1 np)).trans hl1) (upd_same (o := .lst [.str "wrong", .int 0]))
        refine ⟨d, e, z1, z2, z3, z4, ?_⟩
        rw [z5]
        walk_at "rd"
        exact ⟨(upd_ne (ne_of_none (s8 _ _ hlv7) np)).trans (s8 _ _ hlv7), (s7.trans s8).trans (same_upd np)⟩
      · rintro σ H7 ⟨x5, rfl, hlv7, s7⟩
        walk_at "rd"
        refine .inr ⟨"", rfl, by decide +kernel, fun hg => absurd (hg.symm.trans (by rw [out_empty])) (by decide), fun _ l1 H8 s8 hl1 => ?_⟩
        rw [out_empty] at hl1
        walk_at "rd"
        refine ⟨(by show 2 ≤ sizeLine; decide), fun p np => ?_⟩
        obtain ⟨d, e, z1, z2, z3, z4, z5⟩ := eqW (K := K) ((upd_ne (ne_of_none hl1 np)).trans hl1) (upd_same (o := .lst [.str "wrong", .int ((0 : Nat) : Int)]))
        refine ⟨d, e, z1, z2, z3, z4, ?_⟩
        rw [z5]
        walk_at "rd"
        refine .inr ⟨"1.5e3", rfl, by decide +kernel, fun hg => absurd (hg.symm.trans (by rw [out_exp])) (by decide), fun _ l2 H9 s9 hl2 => ?_⟩
        rw [out_exp] at hl2
        walk_at "rd"
        refine ⟨(by show 2 ≤ sizeLine; decide), fun p2 np2 => ?_⟩
        obtain ⟨d, e, z1, z2, z3, z4, z5⟩ := eqW (K := K) ((upd_ne (ne_of_none hl2 np2)).trans hl2) (upd_same (o := .lst [.str "wrong", .int ((3 : Nat) : Int)]))
        refine ⟨d, e, z1, z2, z3, z4, ?_⟩
        rw [z5]
        exact q _
end
end HT
namespace HT
open PySem L2
def errB (K : PySem.W.Frag) (C : Addr) : Bool := (PySem.W.clsIn K C).isSome && (decide (PySem.W.findIn K (.ref C) "__getattribute__" = some (some (.builtin "BaseException.__getattribute__"))) && (decide (PySem.W.findIn K (.ref C) "__getattr__" = some none) && (decide (PySem.W.subIn K (.ref C) (.type "BaseException") = some true) &&
  (decide (PySem.W.findIn K (.ref C) "__class__" = some (some (.builtin "object.__class__"))) && decide (PySem.W.mroIn K C (.type "object") = some true)))))
theorem errB_ok {K : PySem.W.Frag} {C : Addr} (h : errB K C = true) : ErrC K C := by
  unfold errB at h
  simp only [Bool.and_eq_true, decide_eq_true_eq] at h
  obtain ⟨a, b, c, d, e, f⟩ := h
  exact ⟨a, b, c, d, e, f⟩
def exB (K : PySem.W.Frag) (C : Addr) : Bool := PySem.W.excIn K C [.type "ValueError", .type "Exception", .type "BaseException", .type "object"] "ValueError.__new__" && PySem.W.keepIn K (.ref C)
theorem all_mk {l : PySem.W.OpenLaw} {w : World} {K : PySem.W.Frag} {h : Heap} {mg : Str → Option Value} {fa cT cV cB fiT f_read_text f_past_whole f_past_groups f_past_places f_past_digits f_L_source f_L_draw f_L_pick f_L_run f_L_front f_L_due f_L_read f_L_text f_L_bent f_law : Addr} (X : K.In h) (G : h.Ns mainGlobals mg) (hfa : mg "law" = some (.ref fa))
    {od_read_text an_read_text od_past_whole an_past_whole od_past_groups an_past_groups od_past_places an_past_places od_past_digits an_past_digits od_L_source an_L_source od_L_draw an_L_draw od_L_pick an_L_pick od_L_run an_L_run od_L_front an_L_front od_L_due an_L_due od_L_read an_L_read od_L_text an_L_text od_L_bent an_L_bent od_law an_law : Option Addr} {sl_read_text sl_past_whole sl_past_groups sl_past_places sl_past_digits sl_L_source sl_L_draw sl_L_pick sl_L_run sl_L_front sl_L_due sl_L_read sl_L_text sl_L_bent sl_law : Array (Option Value)} {tP tD : Tok} {oc_read_text kV_read_text dc_read_text pm_read_text cd_read_text ct_read_text oc_past_whole kV_past_whole dc_past_whole pm_past_whole cd_past_whole ct_past_whole oc_past_groups kV_past_groups dc_past_groups pm_past_groups cd_past_groups ct_past_groups oc_past_places kV_past_places dc_past_places pm_past_places cd_past_places ct_past_places oc_past_digits kV_past_digits dc_past_digits pm_past_digits cd_past_digits ct_past_digits oc_L_source kV_L_source dc_L_source pm_L_source cd_L_source ct_L_source oc_L_draw kV_L_draw dc_L_draw pm_L_draw cd_L_draw ct_L_draw oc_L_pick kV_L_pick dc_L_pick pm_L_pick cd_L_pick ct_L_pick oc_L_run kV_L_run dc_L_run pm_L_run cd_L_run ct_L_run oc_L_front kV_L_front dc_L_front pm_L_front cd_L_front ct_L_front oc_L_due kV_L_due dc_L_due pm_L_due cd_L_due ct_L_due oc_L_read kV_L_read dc_L_read pm_L_read cd_L_read ct_L_read oc_L_text kV_L_text dc_L_text pm_L_text cd_L_text ct_L_text oc_L_bent kV_L_bent dc_L_bent pm_L_bent cd_L_bent ct_L_bent oc_law kV_law dc_law pm_law cd_law ct_law : Value}
    {nmT qT : Str} {NT : Addr} {bsT subT : List Value} {snT : List Str} {abT : Bool} {colT : Option Bool} {ddT : Option Addr} {m0T m1T m2T m3T m5T : Option Value} {odT anT : Option Addr} {slT : Array (Option Value)} {ocT kVT dcT pmT cdT ctT : Value}
    (a_read_text : PySem.W.nsIn K mainGlobals "read_text" = some (some (.ref f_read_text)))
    (l_read_text : K.lookup f_read_text = some ⟨oc_read_text, od_read_text, .func (PySem.W.fnOf "read_text" "read_text" (defArgs s_read_text) (defBody s_read_text) (defScope s_read_text) .none kV_read_text dc_read_text pm_read_text an_read_text cd_read_text ct_read_text), sl_read_text⟩)
    (c_read_text : PySem.W.codeIn K cd_read_text "read_text" = true) (k_read_text : PySem.W.keepIn K (.ref f_read_text) = true)
    (a_past_whole : PySem.W.nsIn K mainGlobals "_past_whole" = some (some (.ref f_past_whole)))
    (l_past_whole : K.lookup f_past_whole = some ⟨oc_past_whole, od_past_whole, .func (PySem.W.fnOf "_past_whole" "_past_whole" (defArgs s_past_whole) (defBody s_past_whole) (defScope s_past_whole) .none kV_past_whole dc_past_whole pm_past_whole an_past_whole cd_past_whole ct_past_whole), sl_past_whole⟩)
    (c_past_whole : PySem.W.codeIn K cd_past_whole "_past_whole" = true) (k_past_whole : PySem.W.keepIn K (.ref f_past_whole) = true)
    (a_past_groups : PySem.W.nsIn K mainGlobals "_past_groups" = some (some (.ref f_past_groups)))
    (l_past_groups : K.lookup f_past_groups = some ⟨oc_past_groups, od_past_groups, .func (PySem.W.fnOf "_past_groups" "_past_groups" (defArgs s_past_groups) (defBody s_past_groups) (defScope s_past_groups) .none kV_past_groups dc_past_groups pm_past_groups an_past_groups cd_past_groups ct_past_groups), sl_past_groups⟩)
    (c_past_groups : PySem.W.codeIn K cd_past_groups "_past_groups" = true) (k_past_groups : PySem.W.keepIn K (.ref f_past_groups) = true)
    (a_past_places : PySem.W.nsIn K mainGlobals "_past_places" = some (some (.ref f_past_places)))
    (l_past_places : K.lookup f_past_places = some ⟨oc_past_places, od_past_places, .func (PySem.W.fnOf "_past_places" "_past_places" (defArgs s_past_places) (defBody s_past_places) (defScope s_past_places) .none kV_past_places dc_past_places pm_past_places an_past_places cd_past_places ct_past_places), sl_past_places⟩)
    (c_past_places : PySem.W.codeIn K cd_past_places "_past_places" = true) (k_past_places : PySem.W.keepIn K (.ref f_past_places) = true)
    (a_past_digits : PySem.W.nsIn K mainGlobals "_past_digits" = some (some (.ref f_past_digits)))
    (l_past_digits : K.lookup f_past_digits = some ⟨oc_past_digits, od_past_digits, .func (PySem.W.fnOf "_past_digits" "_past_digits" (defArgs s_past_digits) (defBody s_past_digits) (defScope s_past_digits) .none kV_past_digits dc_past_digits pm_past_digits an_past_digits cd_past_digits ct_past_digits), sl_past_digits⟩)
    (c_past_digits : PySem.W.codeIn K cd_past_digits "_past_digits" = true) (k_past_digits : PySem.W.keepIn K (.ref f_past_digits) = true)
    (a_L_source : PySem.W.nsIn K mainGlobals "_law_source" = some (some (.ref f_L_source)))
    (l_L_source : K.lookup f_L_source = some ⟨oc_L_source, od_L_source, .func (PySem.W.fnOf "_law_source" "_law_source" (defArgs s_L_source) (defBody s_L_source) (defScope s_L_source) .none kV_L_source dc_L_source pm_L_source an_L_source cd_L_source ct_L_source), sl_L_source⟩)
    (c_L_source : PySem.W.codeIn K cd_L_source "_law_source" = true) (k_L_source : PySem.W.keepIn K (.ref f_L_source) = true)
    (a_L_draw : PySem.W.nsIn K mainGlobals "_law_draw" = some (some (.ref f_L_draw)))
    (l_L_draw : K.lookup f_L_draw = some ⟨oc_L_draw, od_L_draw, .func (PySem.W.fnOf "_law_draw" "_law_draw" (defArgs s_L_draw) (defBody s_L_draw) (defScope s_L_draw) .none kV_L_draw dc_L_draw pm_L_draw an_L_draw cd_L_draw ct_L_draw), sl_L_draw⟩)
    (c_L_draw : PySem.W.codeIn K cd_L_draw "_law_draw" = true) (k_L_draw : PySem.W.keepIn K (.ref f_L_draw) = true)
    (a_L_pick : PySem.W.nsIn K mainGlobals "_law_pick" = some (some (.ref f_L_pick)))
    (l_L_pick : K.lookup f_L_pick = some ⟨oc_L_pick, od_L_pick, .func (PySem.W.fnOf "_law_pick" "_law_pick" (defArgs s_L_pick) (defBody s_L_pick) (defScope s_L_pick) .none kV_L_pick dc_L_pick pm_L_pick an_L_pick cd_L_pick ct_L_pick), sl_L_pick⟩)
    (c_L_pick : PySem.W.codeIn K cd_L_pick "_law_pick" = true) (k_L_pick : PySem.W.keepIn K (.ref f_L_pick) = true)
    (a_L_run : PySem.W.nsIn K mainGlobals "_law_run" = some (some (.ref f_L_run)))
    (l_L_run : K.lookup f_L_run = some ⟨oc_L_run, od_L_run, .func (PySem.W.fnOf "_law_run" "_law_run" (defArgs s_L_run) (defBody s_L_run) (defScope s_L_run) .none kV_L_run dc_L_run pm_L_run an_L_run cd_L_run ct_L_run), sl_L_run⟩)
    (c_L_run : PySem.W.codeIn K cd_L_run "_law_run" = true) (k_L_run : PySem.W.keepIn K (.ref f_L_run) = true)
    (a_L_front : PySem.W.nsIn K mainGlobals "_law_front" = some (some (.ref f_L_front)))
    (l_L_front : K.lookup f_L_front = some ⟨oc_L_front, od_L_front, .func (PySem.W.fnOf "_law_front" "_law_front" (defArgs s_L_front) (defBody s_L_front) (defScope s_L_front) .none kV_L_front dc_L_front pm_L_front an_L_front cd_L_front ct_L_front), sl_L_front⟩)
    (c_L_front : PySem.W.codeIn K cd_L_front "_law_front" = true) (k_L_front : PySem.W.keepIn K (.ref f_L_front) = true)
    (a_L_due : PySem.W.nsIn K mainGlobals "_law_due" = some (some (.ref f_L_due)))
    (l_L_due : K.lookup f_L_due = some ⟨oc_L_due, od_L_due, .func (PySem.W.fnOf "_law_due" "_law_due" (defArgs s_L_due) (defBody s_L_due) (defScope s_L_due) .none kV_L_due dc_L_due pm_L_due an_L_due cd_L_due ct_L_due), sl_L_due⟩)
    (c_L_due : PySem.W.codeIn K cd_L_due "_law_due" = true) (k_L_due : PySem.W.keepIn K (.ref f_L_due) = true)
    (a_L_read : PySem.W.nsIn K mainGlobals "_law_read" = some (some (.ref f_L_read)))
    (l_L_read : K.lookup f_L_read = some ⟨oc_L_read, od_L_read, .func (PySem.W.fnOf "_law_read" "_law_read" (defArgs s_L_read) (defBody s_L_read) (defScope s_L_read) .none kV_L_read dc_L_read pm_L_read an_L_read cd_L_read ct_L_read), sl_L_read⟩)
    (c_L_read : PySem.W.codeIn K cd_L_read "_law_read" = true) (k_L_read : PySem.W.keepIn K (.ref f_L_read) = true)
    (a_L_text : PySem.W.nsIn K mainGlobals "_law_text" = some (some (.ref f_L_text)))
    (l_L_text : K.lookup f_L_text = some ⟨oc_L_text, od_L_text, .func (PySem.W.fnOf "_law_text" "_law_text" (defArgs s_L_text) (defBody s_L_text) (defScope s_L_text) .none kV_L_text dc_L_text pm_L_text an_L_text cd_L_text ct_L_text), sl_L_text⟩)
    (c_L_text : PySem.W.codeIn K cd_L_text "_law_text" = true) (k_L_text : PySem.W.keepIn K (.ref f_L_text) = true)
    (a_L_bent : PySem.W.nsIn K mainGlobals "_law_bent" = some (some (.ref f_L_bent)))
    (l_L_bent : K.lookup f_L_bent = some ⟨oc_L_bent, od_L_bent, .func (PySem.W.fnOf "_law_bent" "_law_bent" (defArgs s_L_bent) (defBody s_L_bent) (defScope s_L_bent) .none kV_L_bent dc_L_bent pm_L_bent an_L_bent cd_L_bent ct_L_bent), sl_L_bent⟩)
    (c_L_bent : PySem.W.codeIn K cd_L_bent "_law_bent" = true) (k_L_bent : PySem.W.keepIn K (.ref f_L_bent) = true)
    (a_law : PySem.W.nsIn K mainGlobals "law" = some (some (.ref f_law)))
    (l_law : K.lookup f_law = some ⟨oc_law, od_law, .func (PySem.W.fnOf "law" "law" (defArgs s_law) (defBody s_law) (defScope s_law) .none kV_law dc_law pm_law an_law cd_law ct_law), sl_law⟩)
    (c_law : PySem.W.codeIn K cd_law "law" = true) (k_law : PySem.W.keepIn K (.ref f_law) = true)
    (z_len : PySem.W.nsIn K mainGlobals "len" = some none)
    (z_abs : PySem.W.nsIn K mainGlobals "abs" = some none)
    (z_int : PySem.W.nsIn K mainGlobals "int" = some none)
    (z_range : PySem.W.nsIn K mainGlobals "range" = some none)
    (z_isinstance : PySem.W.nsIn K mainGlobals "isinstance" = some none)
    (z_str : PySem.W.nsIn K mainGlobals "str" = some none)
    (z_min : PySem.W.nsIn K mainGlobals "min" = some none)
    (z_max : PySem.W.nsIn K mainGlobals "max" = some none)
    (z_ValueError : PySem.W.nsIn K mainGlobals "ValueError" = some none)
    (g_T : PySem.W.nsIn K mainGlobals "InvalidText" = some (some (.ref cT)))
    (g_V : PySem.W.nsIn K mainGlobals "InvalidValue" = some (some (.ref cV)))
    (g_B : PySem.W.nsIn K mainGlobals "HandedError" = some (some (.ref cB)))
    (et : errB K cT = true)
    (kD : PySem.W.kitOne K (.ref cT) (.ref cT) = some true)
    (kV : PySem.W.kitOne K (.ref cT) (.ref cV) = some false)
    (kE : PySem.W.kitOne K (.ref cT) (.type "ValueError") = some true)
    (em : PySem.W.exmOne K (.ref cT) (.ref cB) = some true)
    (gsp : PySem.W.specialIn K (.builtin "object.__class__") "__get__" = some (some (.builtin "getset_descriptor.__get__")))
    (gtk : PySem.W.takesIn K (.builtin "object.__class__") = some true)
    (xT : K.lookup cT = some (excClassObj nmT qT cT NT bsT [.ref cB, .type "ValueError", .type "Exception", .type "BaseException", .type "object"] true snT subT abT colT ddT m0T m1T m2T m3T m5T "ValueError.__new__"))
    (saT : PySem.W.findIn K (.ref cT) "__setattr__" = some (some (.builtin "object.__setattr__")))
    (tyT : PySem.W.typeIn K (.ref cT) = some (.type "type"))
    (kcT : PySem.W.keepIn K (.ref cT) = true)
    (hdT : PySem.W.hasDictIn K cT = true)
    (inT : PySem.W.findIn K (.ref cT) "__init__" = some (some (.ref fiT)))
    (tfT : PySem.W.typeIn K (.ref fiT) = some (.type "function"))
    (liT : K.lookup fiT = some ⟨ocT, odT, .func (PySem.W.fnOf "__init__" "InvalidText.__init__" (defArgs sIT) (defBody sIT) (defScope sIT) .none kVT dcT pmT anT cdT ctT), slT⟩)
    (ciT : PySem.W.codeIn K cdT "InvalidText.__init__" = true)
    (kiT : PySem.W.keepIn K (.ref fiT) = true)
    (noat : PySem.W.findIn K (.ref cT) "at" = some none)
    (v_P : PySem.W.nsIn K mainGlobals "MOST_PLACES" = some (some (.int 60 tP)))
    (v_D : PySem.W.nsIn K mainGlobals "DIGITS" = some (some (.str ("0123456789" : Str) tD))) :
    ∃ fd : FuncData, (∀ (s : Shared) (v : Value), BindsTo s fd ⟨[v], []⟩ [("_law_script", v)]) ∧ ∀ base : Heap, K.In base → base.Ns mainGlobals mg → FnOk l.prog w K mg base CX0 7 fa fd ["_law_script"] (spLaw K) := by
  have e := hfa.symm.trans (PySem.W.mg_of X G a_law)
  cases e
  have F_read_text := fun_mk (st := s_read_text) l_read_text c_read_text k_read_text
  have b_read_text := F_read_text.binds (ps := ["text"]) fun _ _ _ _ _ _ us hl => match us, hl with | [_], _ => rfl
  have m_read_text := PySem.W.mg_of X G a_read_text
  have F_past_whole := fun_mk (st := s_past_whole) l_past_whole c_past_whole k_past_whole
  have b_past_whole := F_past_whole.binds (ps := ["text", "at"]) fun _ _ _ _ _ _ us hl => match us, hl with | [_, _], _ => rfl
  have m_past_whole := PySem.W.mg_of X G a_past_whole
  have F_past_groups := fun_mk (st := s_past_groups) l_past_groups c_past_groups k_past_groups
  have b_past_groups := F_past_groups.binds (ps := ["text", "at"]) fun _ _ _ _ _ _ us hl => match us, hl with | [_, _], _ => rfl
  have m_past_groups := PySem.W.mg_of X G a_past_groups
  have F_past_places := fun_mk (st := s_past_places) l_past_places c_past_places k_past_places
  have b_past_places := F_past_places.binds (ps := ["text", "at"]) fun _ _ _ _ _ _ us hl => match us, hl with | [_, _], _ => rfl
  have m_past_places := PySem.W.mg_of X G a_past_places
  have F_past_digits := fun_mk (st := s_past_digits) l_past_digits c_past_digits k_past_digits
  have b_past_digits := F_past_digits.binds (ps := ["text", "at", "most"]) fun _ _ _ _ _ _ us hl => match us, hl with | [_, _, _], _ => rfl
  have m_past_digits := PySem.W.mg_of X G a_past_digits
  have F_L_source := fun_mk (st := s_L_source) l_L_source c_L_source k_L_source
  have b_L_source := F_L_source.binds (ps := ["_law_script"]) fun _ _ _ _ _ _ us hl => match us, hl with | [_], _ => rfl
  have m_L_source := PySem.W.mg_of X G a_L_source
  have F_L_draw := fun_mk (st := s_L_draw) l_L_draw c_L_draw k_L_draw
  have b_L_draw := F_L_draw.binds (ps := ["_law_source_here", "_law_limit"]) fun _ _ _ _ _ _ us hl => match us, hl with | [_, _], _ => rfl
  have m_L_draw := PySem.W.mg_of X G a_L_draw
  have F_L_pick := fun_mk (st := s_L_pick) l_L_pick c_L_pick k_L_pick
  have b_L_pick := F_L_pick.binds (ps := ["_law_source_here", "_law_values"]) fun _ _ _ _ _ _ us hl => match us, hl with | [_, _], _ => rfl
  have m_L_pick := PySem.W.mg_of X G a_L_pick
  have F_L_run := fun_mk (st := s_L_run) l_L_run c_L_run k_L_run
  have b_L_run := F_L_run.binds (ps := ["_law_text_here", "_law_at"]) fun _ _ _ _ _ _ us hl => match us, hl with | [_, _], _ => rfl
  have m_L_run := PySem.W.mg_of X G a_L_run
  have F_L_front := fun_mk (st := s_L_front) l_L_front c_L_front k_L_front
  have b_L_front := F_L_front.binds (ps := ["_law_text_here", "_law_at"]) fun _ _ _ _ _ _ us hl => match us, hl with | [_, _], _ => rfl
  have m_L_front := PySem.W.mg_of X G a_L_front
  have F_L_due := fun_mk (st := s_L_due) l_L_due c_L_due k_L_due
  have b_L_due := F_L_due.binds (ps := ["_law_text_here"]) fun _ _ _ _ _ _ us hl => match us, hl with | [_], _ => rfl
  have m_L_due := PySem.W.mg_of X G a_L_due
  have F_L_read := fun_mk (st := s_L_read) l_L_read c_L_read k_L_read
  have b_L_read := F_L_read.binds (ps := ["_law_text_here"]) fun _ _ _ _ _ _ us hl => match us, hl with | [_], _ => rfl
  have m_L_read := PySem.W.mg_of X G a_L_read
  have F_L_text := fun_mk (st := s_L_text) l_L_text c_L_text k_L_text
  have b_L_text := F_L_text.binds (ps := ["_law_source_here"]) fun _ _ _ _ _ _ us hl => match us, hl with | [_], _ => rfl
  have m_L_text := PySem.W.mg_of X G a_L_text
  have F_L_bent := fun_mk (st := s_L_bent) l_L_bent c_L_bent k_L_bent
  have b_L_bent := F_L_bent.binds (ps := ["_law_source_here", "_law_text_here"]) fun _ _ _ _ _ _ us hl => match us, hl with | [_, _], _ => rfl
  have m_L_bent := PySem.W.mg_of X G a_L_bent
  have F_law := fun_mk (st := s_law) l_law c_law k_law
  have b_law := F_law.binds (ps := ["_law_script"]) fun _ _ _ _ _ _ us hl => match us, hl with | [_], _ => rfl
  have m_law := PySem.W.mg_of X G a_law
  have n_len := PySem.W.mg_none_of X G z_len
  have n_abs := PySem.W.mg_none_of X G z_abs
  have n_int := PySem.W.mg_none_of X G z_int
  have n_range := PySem.W.mg_none_of X G z_range
  have n_isinstance := PySem.W.mg_none_of X G z_isinstance
  have n_str := PySem.W.mg_none_of X G z_str
  have n_min := PySem.W.mg_none_of X G z_min
  have n_max := PySem.W.mg_none_of X G z_max
  have n_ValueError := PySem.W.mg_none_of X G z_ValueError
  have BL : Blt mg := ⟨n_len, n_abs, n_int, n_range⟩
  have RT : ReadT mg := ⟨n_isinstance, n_str, n_len, n_int, n_max⟩
  have gD := PySem.W.mg_of X G v_D
  have gP := PySem.W.mg_of X G v_P
  have EC := errB_ok et
  have OT : OexC K cT := ⟨⟨_, _, _, _, _, _, _, _, _, _, _, _, _, _, _, xT, rfl⟩, saT, EC.sb, tyT, kcT⟩
  have XT : XfC K cT := ⟨EC.ga, EC.gg, EC.sb, hdT⟩
  have FT := fun_mk (st := sIT) liT ciT kiT
  have bT := FT.binds (ps := ["self", "at"]) fun _ _ _ _ _ _ us hl => match us, hl with | [_, _], _ => rfl
  have R : Et K mg cT cV cB := { isi := n_isinstance, ve := n_ValueError, gB := PySem.W.mg_of X G g_B, gD := PySem.W.mg_of X G g_T, gV := PySem.W.mg_of X G g_V, ec := EC, eg := ⟨gsp, gtk⟩, xf := XT, no := noat, kD := kD, kV := kV, kE := kE, em := em }
  refine ⟨PySem.W.fnOf "law" "law" (defArgs s_law) (defBody s_law) (defScope s_law) .none kV_law dc_law pm_law an_law cd_law ct_law, fun s v => .of_eq rfl, fun base _ _ => ?_⟩
  have IC : ItC l.prog w K mg base cT fiT _ := ⟨OT, XT, inT, tfT, ok_IT FT OT noat, bT, PySem.W.mg_of X G g_T⟩
  have C_past_digits : Cal l.prog w K mg base "_past_digits" 1 ["text", "at", "most"] spPastD f_past_digits _ := ⟨ok_past_digits F_past_digits n_len gD, m_past_digits, k_past_digits, b_past_digits⟩
  have C_past_places : CalX l.prog w K mg base "_past_places" 3 ["text", "at"] (spPlaces cT) f_past_places _ := ⟨ok_past_places F_past_places gP IC C_past_digits, m_past_places, k_past_places, b_past_places⟩
  have C_past_groups : CalX l.prog w K mg base "_past_groups" 3 ["text", "at"] (spGroups cT) f_past_groups _ := ⟨ok_past_groups F_past_groups IC C_past_digits, m_past_groups, k_past_groups, b_past_groups⟩
  have C_past_whole : CalX l.prog w K mg base "_past_whole" 4 ["text", "at"] (spWhole cT) f_past_whole _ := ⟨ok_past_whole F_past_whole n_len IC C_past_digits C_past_groups, m_past_whole, k_past_whole, b_past_whole⟩
  have C_read_text : CalX l.prog w K mg base "read_text" 5 ["text"] (spRead cT) f_read_text _ := ⟨ok_read_text F_read_text RT IC C_past_whole C_past_places, m_read_text, k_read_text, b_read_text⟩
  have C_L_source : Cal l.prog w K mg base "_law_source" 1 ["_law_script"] (spSource K) f_L_source _ := ⟨ok_source F_L_source BL, m_L_source, k_L_source, b_L_source⟩
  have C_L_draw : Cal l.prog w K mg base "_law_draw" 1 ["_law_source_here", "_law_limit"] spDraw f_L_draw _ := ⟨ok_draw F_L_draw BL, m_L_draw, k_L_draw, b_L_draw⟩
  have C_L_pick : Cal l.prog w K mg base "_law_pick" 2 ["_law_source_here", "_law_values"] spPick f_L_pick _ := ⟨ok_pick F_L_pick BL C_L_draw, m_L_pick, k_L_pick, b_L_pick⟩
  have C_L_run : Cal l.prog w K mg base "_law_run" 1 ["_law_text_here", "_law_at"] spRun f_L_run _ := ⟨ok_run F_L_run BL, m_L_run, k_L_run, b_L_run⟩
  have C_L_front : Cal l.prog w K mg base "_law_front" 2 ["_law_text_here", "_law_at"] spFront f_L_front _ := ⟨ok_front F_L_front n_min C_L_run, m_L_front, k_L_front, b_L_front⟩
  have C_L_due : Cal l.prog w K mg base "_law_due" 3 ["_law_text_here"] spDue f_L_due _ := ⟨ok_due F_L_due BL n_min n_max C_L_run C_L_front, m_L_due, k_L_due, b_L_due⟩
  have C_L_read : Cal l.prog w K mg base "_law_read" 6 ["_law_text_here"] spReadL f_L_read _ := ⟨ok_read F_L_read R C_read_text, m_L_read, k_L_read, b_L_read⟩
  have C_L_text : Cal l.prog w K mg base "_law_text" 3 ["_law_source_here"] spTextL f_L_text _ := ⟨ok_text F_L_text C_L_pick, m_L_text, k_L_text, b_L_text⟩
  have C_L_bent : Cal l.prog w K mg base "_law_bent" 3 ["_law_source_here", "_law_text_here"] spBent f_L_bent _ := ⟨ok_bent F_L_bent BL C_L_draw C_L_pick, m_L_bent, k_L_bent, b_L_bent⟩
  exact ok_law F_law BL C_L_source C_L_draw C_L_text C_L_bent C_L_read C_L_due
theorem walk {l : PySem.W.OpenLaw} {q : Program} {loose : List Str} {XP : (Str → Option Value) → Heap → Prop} {YP : World → Heap → Prop} {d : DefRec} {K : Params → PySem.W.Frag} (hn : l.most = some 63) (hdf : d.params.defaults = [])
    (hY : ∀ (w : World) (h : Heap), YP w h → (K w.params).In h)
    (F : ∀ (w : World) (mg : Str → Option Value) (fa : Addr) (h : Heap), (K w.params).In h → h.Ns mainGlobals mg → mg d.name = some (.ref fa) →
      ∃ fd : FuncData, (∀ (s : Shared) (u : Value), BindsTo s fd ⟨[u], []⟩ [("_law_script", u)]) ∧ ∀ base : Heap, (K w.params).In base → base.Ns mainGlobals mg → FnOk l.prog w (K w.params) mg base CX0 7 fa fd ["_law_script"] (spLaw (K w.params))) :
    PySem.W.WalkO q loose XP YP l.row.toRowW d [] (fun f vs => PySem.call f vs) :=
  L2.walk_of (n := 63) (k := 7) (x := "_law_script") (CX := fun _ => CX0) (sp := fun w => spLaw (K w.params)) hn (by decide) hdf ⟨rfl, by decide, by decide⟩ hY F (fun _ _ a ns hl _ hS => ⟨a, ns, rfl, hS, hl, fun _ => rfl⟩) fun _ _ _ _ _ z => z
end HT
open PySem PySem.W PyProof.Rows
set_option maxRecDepth 100000 in
set_option maxHeartbeats 0 in
theorem PySem.Challenge.cw_handedtext_k03_wrong_texts_holds : PySem.Challenge.rw_handedtext_k03_wrong_texts.Holds := by
  w_on; o_law; k_head; (case hw => w_witness2)
  k_fill
  refine HT.walk (l := PySem.Challenge.rw_handedtext_k03_wrong_texts) rfl rfl (fun w h Y => PySem.W.kIn_of Y) ?F
  case F =>
    intro w mg fa h KX G hmg
    refine' HT.all_mk KX G hmg ?a_read_text ?l_read_text ?c_read_text ?k_read_text ?a_past_whole ?l_past_whole ?c_past_whole ?k_past_whole ?a_past_groups ?l_past_groups ?c_past_groups ?k_past_groups ?a_past_places ?l_past_places ?c_past_places ?k_past_places ?a_past_digits ?l_past_digits ?c_past_digits ?k_past_digits ?a_L_source ?l_L_source ?c_L_source ?k_L_source ?a_L_draw ?l_L_draw ?c_L_draw ?k_L_draw ?a_L_pick ?l_L_pick ?c_L_pick ?k_L_pick ?a_L_run ?l_L_run ?c_L_run ?k_L_run ?a_L_front ?l_L_front ?c_L_front ?k_L_front ?a_L_due ?l_L_due ?c_L_due ?k_L_due ?a_L_read ?l_L_read ?c_L_read ?k_L_read ?a_L_text ?l_L_text ?c_L_text ?k_L_text ?a_L_bent ?l_L_bent ?c_L_bent ?k_L_bent ?a_law ?l_law ?c_law ?k_law ?z_len ?z_abs ?z_int ?z_range ?z_isinstance ?z_str ?z_min ?z_max ?z_ValueError ?g_T ?g_V ?g_B ?et ?kD ?kV ?kE ?em ?gsp ?gtk ?xT ?saT ?tyT ?kcT ?hdT ?inT ?tfT ?liT ?ciT ?kiT ?noat ?v_P ?v_D
    (case a_read_text => k_is)
    (case l_read_text => k_is)
    (case c_read_text => k_is)
    (case k_read_text => k_is)
    (case a_past_whole => k_is)
    (case l_past_whole => k_is)
    (case c_past_whole => k_is)
    (case k_past_whole => k_is)
    (case a_past_groups => k_is)
    (case l_past_groups => k_is)
    (case c_past_groups => k_is)
    (case k_past_groups => k_is)
    (case a_past_places => k_is)
    (case l_past_places => k_is)
    (case c_past_places => k_is)
    (case k_past_places => k_is)
    (case a_past_digits => k_is)
    (case l_past_digits => k_is)
    (case c_past_digits => k_is)
    (case k_past_digits => k_is)
    (case a_L_source => k_is)
    (case l_L_source => k_is)
    (case c_L_source => k_is)
    (case k_L_source => k_is)
    (case a_L_draw => k_is)
    (case l_L_draw => k_is)
    (case c_L_draw => k_is)
    (case k_L_draw => k_is)
    (case a_L_pick => k_is)
    (case l_L_pick => k_is)
    (case c_L_pick => k_is)
    (case k_L_pick => k_is)
    (case a_L_run => k_is)
    (case l_L_run => k_is)
    (case c_L_run => k_is)
    (case k_L_run => k_is)
    (case a_L_front => k_is)
    (case l_L_front => k_is)
    (case c_L_front => k_is)
    (case k_L_front => k_is)
    (case a_L_due => k_is)
    (case l_L_due => k_is)
    (case c_L_due => k_is)
    (case k_L_due => k_is)
    (case a_L_read => k_is)
    (case l_L_read => k_is)
    (case c_L_read => k_is)
    (case k_L_read => k_is)
    (case a_L_text => k_is)
    (case l_L_text => k_is)
    (case c_L_text => k_is)
    (case k_L_text => k_is)
    (case a_L_bent => k_is)
    (case l_L_bent => k_is)
    (case c_L_bent => k_is)
    (case k_L_bent => k_is)
    (case a_law => k_is)
    (case l_law => k_is)
    (case c_law => k_is)
    (case k_law => k_is)
    (case z_len => k_is)
    (case z_abs => k_is)
    (case z_int => k_is)
    (case z_range => k_is)
    (case z_isinstance => k_is)
    (case z_str => k_is)
    (case z_min => k_is)
    (case z_max => k_is)
    (case z_ValueError => k_is)
    (case g_T => k_is)
    (case g_V => k_is)
    (case g_B => k_is)
    (case et => kernel_rfl)
    (case kD => kernel_rfl)
    (case kV => kernel_rfl)
    (case kE => kernel_rfl)
    (case em => kernel_rfl)
    (case gsp => k_is)
    (case gtk => k_is)
    (case xT => k_is)
    (case saT => k_is)
    (case tyT => k_is)
    (case kcT => k_is)
    (case hdT => k_is)
    (case inT => k_is)
    (case tfT => k_is)
    (case liT => k_is)
    (case ciT => k_is)
    (case kiT => k_is)
    (case noat => k_is)
    (case v_P => k_is)
    (case v_D => k_is)
#print axioms PySem.Challenge.cw_handedtext_k03_wrong_texts_holds
