import PyProof.Rows.All
import Wide.All
import OpenK.AllK
import Wide.FinOn
import HandS.CallSlots
import HandS.Deep
import HandS.Defaults
import HandS.Exc
import HandS.ExcField
import HandS.ExcInit
import HandS.ExcIs
import HandS.ExcValue
import HandS.ForMost
import HandS.HotCalls
import HandS.IsInst
import HandS.MakeKwOnly
import HandS.More
import HandS.NoneIn
import HandS.RaiseFrom
import HandS.ReplaceLit
import HandS.StrMore
import HandS.Style
import HandS.SuiteRaise
import HandS.TryOnly
import HandS.Wide
import HandS.WideBits
import HandS.WordsExc
import KE.KEqDeep
import KE.KEqSeq
import KE.KExcIs
import PySem.Challenge.RW_handedtext_k01_texts_written
set_option Elab.async false
set_option linter.all false
set_option maxRecDepth 100000
set_option maxHeartbeats 4000000
set_option exponentiation.threshold 3000
open PySem L2
local macro_rules | `(tactic| walk_at "rd") => `(tactic| repeat (first | refine ⟨_, rfl, ?_⟩ | refine ⟨_, _, rfl, rfl, ?_⟩ | refine .inl ⟨_, rfl, ?_⟩))
namespace L2
open PySem PySem.Spec PyProof.Rows
/-- an error that was caught and kept, at a -/
def ExK (cls : Value) (a : Addr) : HO := .ext fun hp => ∃ (rec' : Obj) (cells : Array Value), hp.get? a = some rec' ∧ Zc cls none rec' ∧ rec'.data = .fields cells
/-- wKeep: what 'except x as n' wishes, where the error stays tracked behind the suite -/
def wKeep (K : PySem.W.Frag) (c : Value) (i : Nat) (ts : Addr → Value → Option Addr → TS) (Wout : WX) (D : Ends) : WX := fun kl dd st H =>
  ∃ yes, PySem.W.exmOne K kl c = some yes ∧ (yes = true → dd = none ∧ ∀ a, H a = none → ts a kl dd { nx := fun st' H' => D.nx (st'.set i none) (upd H' a (ExK kl a)), rt := D.rt, bk := fun st' H' => D.bk (st'.set i none) H', ct := fun st' H' => D.ct (st'.set i none) H' } (st.set i (some (.ref a))) H) ∧
    (yes = false → Wout kl dd st H)
section
variable {X : Cx} {pins : List (Addr × Obj)} {st : St} {H : Hp} {sh : Shared}
theorem Inv.adopt {a : Addr} {kl : Value} {rc : Obj} {cells : Array Value} (iv : Inv X pins st H sh) (new0 : X.s_0.heap.get? a = none) (free : H a = none) (at0 : sh.heap.get? a = some rc) (zc : Zc kl none rc) (fl : rc.data = .fields cells) (nl : a ≠ X.env.locals)
    (np : ∀ p ∈ X.pn ++ pins, p.1 ≠ a) : Inv X pins st (upd H a (ExK kl a)) sh := by
  have old : ∀ c rr, X.s_0.heap.get? c = some rr → c ≠ a := fun c rr e z => by
    rw [z, new0] at e
    cases e
  have other : ∀ c u, H c = some u → upd H a (ExK kl a) c = some u := fun c u e => (upd_ne (ne_of_none e free)).trans e
  refine ⟨iv.ok, iv.os, iv.bare, ⟨iv.base.keep, iv.base.slot, fun c rr e n0 nx => ?_, iv.base.there, fun c xs e => other _ _ (iv.base.tups c xs e), fun c rr u e => other _ _ (iv.base.frzs c rr u e), fun c ps e => ?_⟩, iv.loc, iv.cell, ?_, fun y c e => ?_, fun p hp => ?_, fun c u e => ?_, iv.len⟩
  · exact (upd_ne (old c rr e)).trans (iv.base.free c rr e n0 nx)
  · obtain ⟨more, e2⟩ := iv.base.tbls c ps e
    exact ⟨more, other _ _ e2⟩
  · exact (upd_ne nl.symm).trans iv.free
  · obtain ⟨w, rr, e2, e3⟩ := iv.cell y c e
    refine (upd_ne fun z => ?_).trans (iv.freeC y c e)
    subst z
    rw [at0] at e2
    cases e2
    simp [fl] at e3
  · obtain ⟨e1, e2, e3, e4, e5⟩ := iv.pin p hp
    exact ⟨e1, (upd_ne (np p hp)).trans e2, e3, e4, e5⟩
  · by_cases ca : c = a
    · subst ca
      rw [upd_same] at e
      cases e
      exact ⟨⟨rc, cells, at0, zc, fl⟩, ⟨rc, at0⟩, fun _ _ ⟨r2, c2, e2, e3⟩ same => ⟨r2, c2, same _ e2, e3⟩⟩
    · rw [upd_ne ca] at e
      exact (iv.hok c u e).stay (fun _ _ _ e2 => e2) (fun c2 e2 => other _ _ e2) fun c2 xs e2 => other _ _ e2
end
end L2
namespace L2
open PySem PySem.Spec PyProof.Rows
section
variable {X : Cx} {x n : Str} {c : Value} {i : Nat} {body suite : List Stmt} {first : Stmt} {np pos pos' : Pos} {tb : WX → TS} {ts : Addr → Value → Option Addr → TS} {Wout : WX}
/-- try: .. except x as n: suite; the caught error stays tracked behind it -/
theorem ps_try_keep (stk : X.stack = X.env :: X.outer) (frm : X.env.frame = some X.env.locals) (noex : X.ex = []) (dist : X.N.Nodup) (slot : X.N[i]? = some n) (loc : X.env.kindOf n = some .local) (nam : Names X x c) (tk : Takes X Wout)
    (inner : ∀ (W : WX) (pn : List (Addr × Obj)) (xe : Value → Shared → Prop), Takes (X.tr pn xe) W → PassesOwn (model X.prog X.w) X.A X.env xe → PSs (X.tr pn xe) body (tb W))
    (caught : ∀ (a : Addr) (rc : Obj) (kl : Value) (dd : Option Addr) (pn : List (Addr × Obj)), Zc kl dd rc → (∃ cells, rc.data = .fields cells) → PSs (X.suite a ((a, rc) :: pn)) (first :: suite) (ts a kl dd)) :
    PS X (.Try body [.ExceptHandler (some (.Name x np)) (some n) (first :: suite) pos'] [] [] pos) (fun D st H => tb (wKeep X.K c i ts Wout D) D st H) where
  run := fun pins sh st H D iv want => by
    have fine := iv.ok
    have frames : X.A.frames = some (X.env :: X.outer) := by rw [fine.frames, stk]
    refine wpAny_Try_except (wpAny_mono ((inner (wKeep X.K c i ts Wout D) (X.pn ++ pins) _ (fun u sh' air => ?_) PassesOwn.looking).run [] sh st H D (iv.toTry _) want) ?_ fun _ _ e => e)
    · obtain ⟨a, B, shI, pins', st1, H1, kl, dd, rfl, ivT, inB, upTo, sky, freeA, sameOs, bareG, yes, dec, onYes, onNo⟩ := air
      have iv1 : Inv X pins st1 H1 shI := ivT.ofTry fine
      rw [stk] at sky
      refine Sky.land Zc.steady frames frm sky fun hp3 fly3 up3 => ?_
      have bNone : B.get? a = none := fly3.2.1
      have iv3 : Inv X pins st1 H1 { sh' with heap := hp3 } := iv1.landed inB fly3.1 (upTo.trans up3) sameOs bareG
      obtain ⟨rc3, cells3, at3, zc3, dt3⟩ := fly3.there
      have offFrames : a ∉ frs (X.env :: X.outer) := fun mem => by
        obtain ⟨_, r2, e2, bad⟩ := fly3.2.2.1.mem mem
        rw [at3] at e2
        cases e2
        exact bad _ dt3
      have offL : a ≠ X.env.locals := fun z => offFrames (List.mem_filterMap.mpr ⟨X.env, List.mem_cons_self, by rw [frm, z]⟩)
      have offF : a ∉ X.fs := fun mem => by
        obtain ⟨ee, inn, ef⟩ := List.mem_filterMap.mp mem
        exact offFrames (List.mem_filterMap.mpr ⟨ee, List.mem_cons_of_mem _ inn, ef⟩)
      have notThere : shI.heap.get? a = none := by
        cases e : shI.heap.get? a with
        | none => rfl
        | some rr =>
          have z := inB a rr e (by rw [stk]; exact offFrames)
          rw [bNone] at z
          cases z
      have new0 : X.s_0.heap.get? a = none := by
        cases e : X.s_0.heap.get? a with
        | none => rfl
        | some rr =>
          obtain ⟨r2, e2⟩ := iv1.base.there a rr e (by rw [noex]; exact List.not_mem_nil)
          rw [notThere] at e2
          cases e2
      have pinsOff : ∀ p ∈ X.pn ++ pins, p.1 ≠ a := fun p hp z => by
        have e2 := (iv1.pin p hp).1
        rw [z, notThere] at e2
        cases e2
      have inSuite := iv3.suite at3 dt3 freeA offL offF
      refine wpAny_handleBy_cons (codeAny_handlers_test ?_) (by intro q; cases q)
      have theClass : PySem.W.Looks (model X.prog X.w) hp3 (typeOf (.ref a)) kl := fun A' Q' E' s' kk qq => wpAny_typeOf_ref (kk _ _ at3) (by rw [zc3.1]; exact qq)
      have theTest := PySem.W.exm_one (M := model X.prog X.w) iv3.kIn theClass dec
      have clause : ∀ {Q' : Value → Shared → Prop} {E' : Value → Shared → Prop}, Q' c { sh' with heap := hp3 } → wpAny (model X.prog X.w) (X.A.mark (some (.ref a))) (eval (.Name x np) X.env) Q' E' { sh' with heap := hp3 } := fun {Q' E'} qq => by
        obtain ⟨g1, g2, g3 | ⟨g3, g4, g5⟩⟩ := nam
        · exact ld_glob (X := X.suite a ((a, rc3) :: (X.pn ++ pins))) inSuite g1 g3 qq g2
        · exact ld_blt (X := X.suite a ((a, rc3) :: (X.pn ++ pins))) inSuite g1 g3 g4 qq g5 g2
      refine clause (theTest.here ?_)
      cases yes with
      | true =>
        obtain ⟨rfl, go⟩ := onYes rfl
        refine codeAny_handlers_suite_as (HandSPX.lands_againZ fly3 fun hp4 fly4 up4 => ?_)
        have iv4 : Inv X pins st1 H1 { sh' with heap := hp4 } := iv1.landed inB fly4.1 ((upTo.trans up3).trans up4) sameOs bareG
        obtain ⟨rc4, cells4, at4, zc4, dt4⟩ := fly4.there
        refine store_ok (X := X.suite a ((a, rc4) :: (X.pn ++ pins))) (v := .ref a) (iv4.suite at4 dt4 freeA offL offF) dist slot (.inl loc) rfl (fun sh5 iv5 => ?_) (.inr loc)
        refine wpAny_mono ((caught a rc4 kl none (X.pn ++ pins) zc4 ⟨_, dt4⟩).run [] sh5 _ H1 _ iv5 (go a freeA)) (fun flow sh6 came => ?_) fun _ _ z => z.elim
        cases flow with
        | next =>
          obtain ⟨st6, H6, iv6, q6⟩ := came
          have more : Inv X ((a, rc4) :: pins) st6 H6 sh6 := ⟨fine, iv6.os, iv6.bare, iv6.base, iv6.loc, iv6.cell, iv6.free, iv6.freeC, fun p hp => iv6.pin p (List.mem_append_left _ ?_), iv6.hok, iv6.len⟩
          refine gone_ok more dist slot loc fun sh7 iv7 => ?_
          have there : (a, rc4) ∈ X.pn ++ (a, rc4) :: pins := List.mem_append_right _ List.mem_cons_self
          obtain ⟨e1, e2, e3, _⟩ := iv7.pin (a, rc4) there
          have less : Inv X pins (st6.set i none) H6 sh7 := ⟨fine, iv7.os, iv7.bare, iv7.base, iv7.loc, iv7.cell, iv7.free, iv7.freeC, fun p hp => iv7.pin p ?_, iv7.hok, iv7.len⟩
          · exact ⟨_, _, less.adopt new0 e2 e1 zc4 dt4 e3 pinsOff, q6⟩
          · rcases List.mem_append.mp hp with hq | hq
            · exact List.mem_append_left _ hq
            · exact List.mem_append_right _ (List.mem_cons_of_mem _ hq)
          · rcases List.mem_append.mp hp with hq | hq
            · exact List.mem_cons_of_mem _ (List.mem_append_left _ hq)
            · rcases List.mem_cons.mp hq with hr | hr
              · rw [hr]; exact List.mem_cons_self
              · exact List.mem_cons_of_mem _ (List.mem_append_right _ hr)
        | brk =>
          obtain ⟨st6, H6, iv6, q6⟩ := came
          exact gone_ok (iv6.unsuite fine) dist slot loc fun sh7 iv7 => ⟨_, _, iv7, q6⟩
        | cont =>
          obtain ⟨st6, H6, iv6, q6⟩ := came
          exact gone_ok (iv6.unsuite fine) dist slot loc fun sh7 iv7 => ⟨_, _, iv7, q6⟩
        | ret u =>
          obtain ⟨v6, st6, H6, iv6, r6, q6⟩ := came
          exact gone_ok (iv6.unsuite fine) dist slot loc fun sh7 iv7 => ⟨_, _, _, iv7, r6, q6⟩
      | false =>
        show wpAny _ X.A (handleBy (.ref a) X.env []) _ _ _
        refine wpAny_handleBy_nil ?_
        obtain ⟨_, _, _, rc5, cells5, tr5, _, _, at5, _, dt5, at1, _⟩ := id fly3
        unfold PySem.passOn
        refine wpAny_bind (wpAny_field at5 dt5 at1 ?_)
        rw [if_neg (by simp : ¬ (Value.ref tr5 == Value.none) = true)]
        have out : wpAny (model X.prog X.w) X.A (setFlight (.ref a) X.env.frame) (fun _ sh8 => wpAny (model X.prog X.w) X.A (throw (.ref a) : Sem Flow) (SP X pins D) X.xe sh8) X.xe { sh' with heap := hp3 } := by
          rw [frm]
          refine HandSPX.setFlight_upZ fly3 fun hp8 held up8 => wpAny_throw (tk _ _ ?_)
          exact ⟨a, B, shI, pins, st1, H1, kl, dd, rfl, iv1, inB, (upTo.trans up3).trans up8, .inr (.inr (by rw [stk]; exact held)), freeA, sameOs, bareG, onNo rfl⟩
        first
          | exact wpAny_bind out
          | exact wpAny_bind (wpAny_pure (wpAny_bind out))
    · intro flow sh1 came
      cases flow with
      | next =>
        obtain ⟨st1, H1, iv1, q1⟩ := came
        exact wpAny_execs_nil ⟨st1, H1, iv1.ofTry fine, q1⟩
      | brk =>
        obtain ⟨st1, H1, iv1, q1⟩ := came
        exact ⟨st1, H1, iv1.ofTry fine, q1⟩
      | cont =>
        obtain ⟨st1, H1, iv1, q1⟩ := came
        exact ⟨st1, H1, iv1.ofTry fine, q1⟩
      | ret u =>
        obtain ⟨v1, st1, H1, iv1, r1, q1⟩ := came
        exact ⟨v1, st1, H1, iv1.ofTry fine, r1, q1⟩
end
end L2
namespace L2
open PySem PySem.Spec PyProof.Rows
/-- what the written part says of an error class, for isinstance -/
structure ErrC (K : PySem.W.Frag) (C : Addr) : Prop where
  cl : (PySem.W.clsIn K C).isSome = true
  ga : PySem.W.findIn K (.ref C) "__getattribute__" = some (some (.builtin "BaseException.__getattribute__"))
  gg : PySem.W.findIn K (.ref C) "__getattr__" = some none
  sb : PySem.W.subIn K (.ref C) (.type "BaseException") = some true
  cn : PySem.W.findIn K (.ref C) "__class__" = some (some (.builtin "object.__class__"))
  mo : PySem.W.mroIn K C (.type "object") = some true
/-- .. of the attribute __class__ of all objects -/
structure ErrG (K : PySem.W.Frag) : Prop where
  sp : PySem.W.specialIn K (.builtin "object.__class__") "__get__" = some (some (.builtin "getset_descriptor.__get__"))
  tk : PySem.W.takesIn K (.builtin "object.__class__") = some true
def rIsKept (K : PySem.W.Frag) : List V → Hp → VK → Prop := fun xs H Q => ∃ (a C : Addr) (c : V) (cv : Value) (b : Bool), xs = [.ref a, c] ∧ ClsV c cv ∧ H a = some (ExK (.ref C) a) ∧ ErrC K C ∧ ErrG K ∧ PySem.W.kitOne K (.ref C) cv = some b ∧ Q (.bl b) H
theorem call_isKept {X : Cx} : CallR X (.builtin "isinstance") (rIsKept X.K) := by
  intro pins sh st H xs us Q iv r h
  obtain ⟨a, C, c, cv, b, rfl, k, at', T, G, e, q⟩ := h
  obtain ⟨u1, u2, rfl, r1, r2⟩ := vals2 r
  have e2 := k.eq r2
  subst e2
  obtain rfl : u1 = Value.ref a := r1
  obtain ⟨⟨oe, vs, ho, hz, hd⟩, _, _⟩ := iv.hok a _ at'
  have J : PySem.W.InstAt sh.heap a oe C none := by
    obtain ⟨oc, od, oda, osl⟩ := oe
    obtain ⟨h1, h2⟩ := hz
    dsimp only at h1 h2 hd
    subst h1 h2 hd
    exact ⟨ho, rfl, rfl, trivial⟩
  exact PySem.W.kia_one (PySem.W.kitx_exc T.cl T.ga T.gg T.sb T.cn G.sp G.tk T.mo) iv.kIn J e (fun z => nomatch z) fun tk => ⟨.bl b, H, iv.tok tk, rfl, q⟩
end L2
namespace HT
open PySem L2
def top (i : Nat) : Stmt := PySem.Challenge.pw_handedtext_k01_texts_written.main.body.getD i (.Pass ⟨0, 0, 0, 0⟩)
abbrev s_is_int : Stmt := top 6
abbrev s_is_int_between : Stmt := top 7
abbrev s_check_value : Stmt := top 8
abbrev s_text_of : Stmt := top 12
abbrev s_check_style : Stmt := top 13
abbrev s_grouped : Stmt := top 14
abbrev s_mark : Stmt := top 15
abbrev s_L_source : Stmt := top 17
abbrev s_L_draw : Stmt := top 18
abbrev s_L_pick : Stmt := top 19
abbrev s_L_great : Stmt := top 20
abbrev s_L_digits : Stmt := top 21
abbrev s_L_due : Stmt := top 22
abbrev s_L_asked : Stmt := top 23
abbrev s_L_is_whole : Stmt := top 24
abbrev s_L_word : Stmt := top 25
abbrev s_law : Stmt := top 26
/- is_int: 0:thing -/
theorem sc_is_int : FnScope ["thing"] ["thing"] (defScope s_is_int) := ⟨rfl, rfl, rfl, by decide +kernel, rfl, by decide +kernel, by decide +kernel⟩
/- is_int_between: 0:thing 1:least 2:most -/
theorem sc_is_int_between : FnScope ["thing", "least", "most"] ["thing", "least", "most"] (defScope s_is_int_between) := ⟨rfl, rfl, rfl, by decide +kernel, rfl, by decide +kernel, by decide +kernel⟩
/- check_value: 0:value -/
theorem sc_check_value : FnScope ["value"] ["value"] (defScope s_check_value) := ⟨rfl, rfl, rfl, by decide +kernel, rfl, by decide +kernel, by decide +kernel⟩
/- text_of: 0:figure 1:places 2:sign 3:group 4:width 5:digits 6:point 7:text -/
theorem sc_text_of : FnScope ["figure", "places", "sign", "group", "width", "digits", "point", "text"] ["figure", "places", "sign", "group", "width"] (defScope s_text_of) := ⟨rfl, rfl, rfl, by decide +kernel, rfl, by decide +kernel, by decide +kernel⟩
/- _check_style: 0:sign 1:group 2:width -/
theorem sc_check_style : FnScope ["sign", "group", "width"] ["sign", "group", "width"] (defScope s_check_style) := ⟨rfl, rfl, rfl, by decide +kernel, rfl, by decide +kernel, by decide +kernel⟩
/- _grouped: 0:digits 1:first 2:parts 3:at -/
theorem sc_grouped : FnScope ["digits", "first", "parts", "at"] ["digits"] (defScope s_grouped) := ⟨rfl, rfl, rfl, by decide +kernel, rfl, by decide +kernel, by decide +kernel⟩
/- _mark: 0:figure 1:sign -/
theorem sc_mark : FnScope ["figure", "sign"] ["figure", "sign"] (defScope s_mark) := ⟨rfl, rfl, rfl, by decide +kernel, rfl, by decide +kernel, by decide +kernel⟩
/- _law_source: 0:_law_script 1:_law_cells 2:_law_k -/
theorem sc_L_source : FnScope ["_law_script", "_law_cells", "_law_k"] ["_law_script"] (defScope s_L_source) := ⟨rfl, rfl, rfl, by decide +kernel, rfl, by decide +kernel, by decide +kernel⟩
/- _law_draw: 0:_law_source_here 1:_law_limit 2:_law_cells 3:_law_turn 4:_law_place 5:_law_cell 6:_law_number -/
theorem sc_L_draw : FnScope ["_law_source_here", "_law_limit", "_law_cells", "_law_turn", "_law_place", "_law_cell", "_law_number"] ["_law_source_here", "_law_limit"] (defScope s_L_draw) := ⟨rfl, rfl, rfl, by decide +kernel, rfl, by decide +kernel, by decide +kernel⟩
/- _law_pick: 0:_law_source_here 1:_law_values -/
theorem sc_L_pick : FnScope ["_law_source_here", "_law_values"] ["_law_source_here", "_law_values"] (defScope s_L_pick) := ⟨rfl, rfl, rfl, by decide +kernel, rfl, by decide +kernel, by decide +kernel⟩
/- _law_great: 0:_law_source_here 1:_law_digits_here 2:_law_number 3:_law_k -/
theorem sc_L_great : FnScope ["_law_source_here", "_law_digits_here", "_law_number", "_law_k"] ["_law_source_here", "_law_digits_here"] (defScope s_L_great) := ⟨rfl, rfl, rfl, by decide +kernel, rfl, by decide +kernel, by decide +kernel⟩
/- _law_digits: 0:_law_number 1:_law_found 2:_law_left -/
theorem sc_L_digits : FnScope ["_law_number", "_law_found", "_law_left"] ["_law_number"] (defScope s_L_digits) := ⟨rfl, rfl, rfl, by decide +kernel, rfl, by decide +kernel, by decide +kernel⟩
/- _law_due: 0:_law_figure 1:_law_places 2:_law_signed 3:_law_by_three 4:_law_wide 5:_law_digits_here 6:_law_front 7:_law_row 8:_law_at -/
theorem sc_L_due : FnScope ["_law_figure", "_law_places", "_law_signed", "_law_by_three", "_law_wide", "_law_digits_here", "_law_front", "_law_row", "_law_at"] ["_law_figure", "_law_places", "_law_signed", "_law_by_three", "_law_wide"] (defScope s_L_due) := ⟨rfl, rfl, rfl, by decide +kernel, rfl, by decide +kernel, by decide +kernel⟩
/- _law_asked: 0:_law_figure 1:_law_places 2:_law_signed 3:_law_by_three 4:_law_wide 5:_law_caught 6:_law_found 7:e 8:_law_hits -/
theorem sc_L_asked : FnScope ["_law_figure", "_law_places", "_law_signed", "_law_by_three", "_law_wide", "_law_caught", "_law_found", "e", "_law_hits"] ["_law_figure", "_law_places", "_law_signed", "_law_by_three", "_law_wide"] (defScope s_L_asked) := ⟨rfl, rfl, rfl, by decide +kernel, rfl, by decide +kernel, by decide +kernel⟩
/- _law_is_whole: 0:_law_value 1:_law_low 2:_law_high -/
theorem sc_L_is_whole : FnScope ["_law_value", "_law_low", "_law_high"] ["_law_value", "_law_low", "_law_high"] (defScope s_L_is_whole) := ⟨rfl, rfl, rfl, by decide +kernel, rfl, by decide +kernel, by decide +kernel⟩
/- _law_word: 0:_law_parts 1:_law_figure 2:_law_places 3:_law_signed 4:_law_by_three 5:_law_wide -/
theorem sc_L_word : FnScope ["_law_parts", "_law_figure", "_law_places", "_law_signed", "_law_by_three", "_law_wide"] ["_law_parts"] (defScope s_L_word) := ⟨rfl, rfl, rfl, by decide +kernel, rfl, by decide +kernel, by decide +kernel⟩
/- law: 0:_law_script 1:_law_source_here 2:_law_turn 3:_law_figure 4:_law_places 5:_law_signed 6:_law_by_three 7:_law_parts 8:_law_odd 9:_law_at 10:_law_other -/
theorem sc_law : FnScope ["_law_script", "_law_source_here", "_law_turn", "_law_figure", "_law_places", "_law_signed", "_law_by_three", "_law_parts", "_law_odd", "_law_at", "_law_other"] ["_law_script"] (defScope s_law) := ⟨rfl, rfl, rfl, by decide +kernel, rfl, by decide +kernel, by decide +kernel⟩

end HT
namespace L2
open PySem PySem.Spec PyProof.Rows
/-- powers of great numbers -/
def CPowW (i j : Int) : Prop := 0 ≤ j ∧ (Builtin.Int.intBits i : Int) * j ≤ 2 ^ 27
theorem op_powW {X : Cx} : OpR X (binaryOp .Pow) (rI CPowW fun i j => .int (i ^ j.toNat)) := opI fun _ _ _ _ _ _ _ hc q => pow_int hc.1 hc.2 q
end L2
namespace HT
open PySem L2
/-- the law's source of draws: a list of its cells' list and the turn -/
structure Src (H : Hp) (a c : Addr) (t : Nat) : Prop where
  ne : a ≠ c
  ob : H a = some (.lst [.ref c, .int (t : Int)])
  cl : ∃ cs : List Int, H c = some (.lst (cs.map V.int)) ∧ 0 < cs.length ∧ cs.length ≤ 63
/-- nothing else is touched -/
def Oth (a c : Addr) (H H' : Hp) : Prop := ∀ b o, H b = some o → b ≠ a → b ≠ c → H' b = some o
theorem Oth.refl (a c : Addr) (H : Hp) : Oth a c H H := fun _ _ h _ _ => h
theorem Oth.trans {a c : Addr} {H H1 H2 : Hp} (x : Oth a c H H1) (y : Oth a c H1 H2) : Oth a c H H2 := fun b o h n m => y b o (x b o h n m) n m
theorem Oth.new {a c p : Addr} {H H1 : Hp} {o : HO} (x : Oth a c H H1) (n : H1 p = none) : Oth a c H (upd H1 p o) := fun b u h na nc => by
  rw [upd_ne (ne_of_none (x b u h na nc) n)]
  exact x b u h na nc
theorem Src.new {a c p : Addr} {H : Hp} {t : Nat} {o : HO} (S : Src H a c t) (n : H p = none) : Src (upd H p o) a c t := by
  obtain ⟨cs, h, l⟩ := S.cl
  exact ⟨S.ne, by rw [upd_ne (ne_of_none S.ob n)]; exact S.ob, cs, by rw [upd_ne (ne_of_none h n)]; exact h, l⟩
theorem Src.of_same {a c : Addr} {H H' : Hp} {t : Nat} (S : Src H a c t) (e : Same H H') : Src H' a c t := by
  obtain ⟨cs, h, l⟩ := S.cl
  exact ⟨S.ne, e _ _ S.ob, cs, e _ _ h, l⟩
theorem Src.na {a c p : Addr} {H : Hp} {t : Nat} (S : Src H a c t) (n : H p = none) : p ≠ a ∧ p ≠ c := by
  obtain ⟨cs, h, l⟩ := S.cl
  exact ⟨(ne_of_none S.ob n).symm, (ne_of_none h n).symm⟩
theorem Src.nt {a c p : Addr} {H : Hp} {t : Nat} {xs : List V} (S : Src H a c t) (n : H p = some (.tup xs)) : p ≠ a ∧ p ≠ c := by
  obtain ⟨cs, h, l⟩ := S.cl
  exact ⟨ne_of n S.ob (by intro z; cases z), ne_of n h (by intro z; cases z)⟩
def spSource (K : PySem.W.Frag) : Sp := fun vs H Q _ => ∃ (l : Addr) (ns : List Int), vs = [.ref l] ∧ SqL K H l (ns.map V.int) ∧ ns.length ≤ 63 ∧
  ∀ a c H', Same H H' → H a = none → H c = none → Src H' a c 0 → Q (.ref a) H'
def spDraw : Sp := fun vs H Q _ => ∃ (a c : Addr) (t : Nat) (lim : Int), vs = [.ref a, .int lim] ∧ Src H a c t ∧ t < 2 ^ 30 ∧ 0 < lim ∧ lim.natAbs.log2 < 9000 ∧
  ∀ k H', 0 ≤ k → k < lim → Src H' a c (t + 1) → Oth a c H H' → Q (.int k) H'
/-- what the walk asks of the names that the text does not bind -/
structure Blt (mg : Str → Option Value) : Prop where
  len : mg "len" = none
  abs : mg "abs" = none
  int : mg "int" = none
  range : mg "range" = none
section
variable {P : Program} {w : World} {K : PySem.W.Frag} {mg : Str → Option Value} {base : Heap}
theorem fdiv_ok (i : Int) {j : Int} (h : 0 < j) (h9 : j.natAbs.log2 < 9000) : CDivW i j := ⟨h, h9⟩
theorem atI_in {xs : List Int} {i : Int} (h0 : 0 ≤ i) (h : i < (xs.length : Int)) : atI (xs.map V.int) i = some (.int (xs.getD i.toNat 0)) := by
  have e : ixN (xs.map V.int).length i = some i.toNat := by
    unfold ixN
    rw [List.length_map, if_pos h0, if_pos h]
  unfold atI
  rw [e]
  show (xs.map V.int)[i.toNat]? = _
  have hl : i.toNat < xs.length := by omega
  rw [List.getElem?_map, List.getElem?_eq_getElem hl, List.getD_eq_getElem?_getD, List.getElem?_eq_getElem hl]
  rfl
theorem ixN_in {n : Nat} {i : Int} (h0 : 0 ≤ i) (h : i < (n : Int)) : ixN n i = some i.toNat := by
  unfold ixN
  rw [if_pos h0, if_pos h]
theorem b_mod (x : Int) : -(2 ^ 64) < x % 2147483629 ∧ x % 2147483629 < 2 ^ 64 := by omega
theorem b_mod1 (x : Int) : -(2 ^ 64) < x % 2147483647 ∧ x % 2147483647 < 2 ^ 64 := by omega
theorem b_t {t : Nat} (h : t < 2 ^ 30) : -(2 ^ 64) < (t : Int) ∧ (t : Int) < 2 ^ 64 := by omega
theorem b_tt {t : Nat} (h : t < 2 ^ 30) : -(2 ^ 64) < (t : Int) * t ∧ (t : Int) * t < 2 ^ 64 := by
  have h1 : t * t < 2 ^ 30 * 2 ^ 30 := Nat.mul_lt_mul'' h h
  have h2 : ((t * t : Nat) : Int) = (t : Int) * t := Int.natCast_mul t t
  omega
theorem set_ints (xs : List Int) (j : Nat) (y : Int) : (xs.map V.int).set j (.int y) = (xs.set j y).map V.int := by
  rw [List.map_set]
theorem ok_draw {f : Addr} {fd : FuncData} (F : Fun K "_law_draw" "_law_draw" s_L_draw f fd) (B : Blt mg) : FnOk P w K mg base CX0 1 f fd ["_law_source_here", "_law_limit"] spDraw := by
  refine F.ok sc_L_draw (fun vs H Q E h => ?_) (fun cdv A outer s H vs Q E hr h => ?_)
  · obtain ⟨a, c, t, lim, rfl, _⟩ := h
    rfl
  · obtain ⟨a, c, t, lim, rfl, S, ht, hl0, hl9, q⟩ := h
    obtain ⟨cs, hc, hn0, hn⟩ := S.cl
    have nd := sc_L_draw.nd
    refine ⟨_, pss_cons (ps_asg (pv 0) (pg_unl (n := 2) (by rfl) (pgs_cons (pg_name (i := 2) nd rfl (Or.inl rfl)) (pgs_cons (pg_name (i := 3) nd rfl (Or.inl rfl)) pgs_nil))))
      (pss_cons (ps_set (i := 4) nd rfl (Or.inl rfl) (pe_op op_mod (pe_callTy call_int1 (by rfl) B.int (by decide +kernel) (pa_cons (pv 3) pa_nil)) (pe_callB call_len_seq (by rfl) B.len PySem.boot_len (pa_cons (pv 2) pa_nil))))
      (pss_cons (ps_set (i := 5) nd rfl (Or.inl rfl) (pe_ix ix_list (pv 2) (pv 4) (fun _ _ => rfl)))
      (pss_cons (ps_asg (pe_op op_add (pv 3) pe_int) (pg_sub (pv 0) pe_int set_list))
      (pss_cons (ps_if (pt_cmpR op_ge (pv 5) (pe_op op_pow pe_int pe_int) (nomark _))
        (pss_cons (ps_asg (pe_op op_fdivW (pv 5) (pv 1)) (pg_sub (pv 2) (pv 4) set_list))
          (pss_one (ps_ret (pe_op op_mod (pe_callTy call_int1 (by rfl) B.int (by decide +kernel) (pa_cons (pv 5) pa_nil)) (pv 1))))) pss_nil)
      (pss_cons (ps_set (i := 6) nd rfl (Or.inl rfl) (pe_op op_mod (pe_callTy call_int1 (by rfl) B.int (by decide +kernel) (pa_cons
          (pe_op op_add (pe_op op_add (pe_op op_mul (pe_op op_mod (pe_callTy call_int1 (by rfl) B.int (by decide +kernel) (pa_cons (pv 5) pa_nil)) pe_int) pe_int) (pe_op op_mul (pe_op op_mul (pv 3) (pv 3)) pe_int)) pe_int) pa_nil)) pe_int))
      (pss_cons (ps_set (i := 6) nd rfl (Or.inl rfl) (pe_op op_mod (pe_callTy call_int1 (by rfl) B.int (by decide +kernel) (pa_cons (pe_op op_mul (pv 6) (pv 6)) pa_nil)) pe_int))
      (pss_cons (ps_set (i := 6) nd rfl (Or.inl rfl) (pe_op op_mod (pe_callTy call_int1 (by rfl) B.int (by decide +kernel) (pa_cons (pe_op op_mul (pv 6) (pv 6)) pa_nil)) pe_int))
      (pss_one (ps_ret (pe_op op_mod (pe_callTy call_int1 (by rfl) B.int (by decide +kernel) (pa_cons (pv 6) pa_nil)) (pv 1))))))))))), ?_⟩
    -- _law_cells, _law_turn = _law_source_here
    walk_at "rd"
    refine ⟨a, _, rfl, SqL.of S.ob, rfl, _, _, rfl, _, _, rfl, rfl, ?_⟩
    -- _law_place
    walk_at "rd"
    have hn0' : (0 : Int) < ((cs.map V.int).length : Nat) := by rw [List.length_map]; omega
    refine ⟨c, _, rfl, .inl (SqL.of hc), _, _, rfl, rfl, hn0', ?_⟩
    have hp0 : 0 ≤ (t : Int) % ((cs.map V.int).length : Nat) := Int.emod_nonneg _ (by omega)
    have hp1 : (t : Int) % ((cs.map V.int).length : Nat) < ((cs.map V.int).length : Nat) := Int.emod_lt_of_pos _ hn0'
    have hp1' : (t : Int) % ((cs.map V.int).length : Nat) < (cs.length : Int) := by rw [List.length_map] at hp1 ⊢; exact hp1
    -- _law_cell
    walk_at "rd"
    refine ⟨c, _, _, _, rfl, rfl, SqL.of hc, atI_in hp0 hp1', ?_⟩
    -- _law_source_here[1] = _law_turn + 1
    walk_at "rd"
    refine ⟨a, _, 1, 1, rfl, rfl, S.ob, rfl, ?_⟩
    have S1 : Src (upd H a (.lst ([V.ref c, V.int t].set 1 (.int ((t : Int) + 1))))) a c (t + 1) := ⟨S.ne, by rw [upd_same]; rfl, cs, by rw [upd_ne S.ne.symm]; exact hc, hn0, hn⟩
    have O1 : Oth a c H (upd H a (.lst ([V.ref c, V.int t].set 1 (.int ((t : Int) + 1))))) := fun b o h na _ => by rw [upd_ne na]; exact h
    have hc1 : upd H a (.lst ([V.ref c, V.int t].set 1 (.int ((t : Int) + 1)))) c = some (.lst (cs.map V.int)) := by rw [upd_ne S.ne.symm]; exact hc
    generalize upd H a (.lst ([V.ref c, V.int t].set 1 (.int ((t : Int) + 1)))) = H1 at S1 O1 hc1 ⊢
    -- if _law_cell >= 10 ** 18
    walk_at "rd"
    refine ⟨⟨by decide, by decide, by decide⟩, ?_⟩
    walk_at "rd"
    refine ite2 (fun _ => ?_) (fun _ => ?_)
    · walk_at "rd"
      refine ⟨fdiv_ok _ hl0 hl9, ?_⟩
      walk_at "rd"
      refine ⟨c, _, _, _, rfl, rfl, hc1, ixN_in hp0 hp1, ?_⟩
      walk_at "rd"
      refine ⟨hl0, ?_⟩
      rw [set_ints]
      refine q _ _ (Int.emod_nonneg _ (by omega)) (Int.emod_lt_of_pos _ hl0) ⟨S1.ne, by rw [upd_ne S1.ne]; exact S1.ob, _, upd_same, by rw [List.length_set]; exact hn0, by rw [List.length_set]; exact hn⟩ fun b o h na nc => ?_
      rw [upd_ne nc]
      exact O1 b o h na nc
    · walk_at "rd"
      refine ⟨(by show (0 : Int) < 2147483629; decide), ?_⟩
      walk_at "rd"
      refine ⟨.inl (b_mod _), ?_⟩
      walk_at "rd"
      refine ⟨.inl (b_t ht), ?_⟩
      walk_at "rd"
      refine ⟨.inl (b_tt ht), ?_⟩
      walk_at "rd"
      refine ⟨(by show (0 : Int) < 2147483647; decide), ?_⟩
      walk_at "rd"
      refine ⟨.inl (b_mod1 _), ?_⟩
      walk_at "rd"
      refine ⟨(by show (0 : Int) < 2147483629; decide), ?_⟩
      walk_at "rd"
      refine ⟨.inl (b_mod _), ?_⟩
      walk_at "rd"
      refine ⟨(by show (0 : Int) < 2147483587; decide), ?_⟩
      walk_at "rd"
      refine ⟨hl0, ?_⟩
      exact q _ _ (Int.emod_nonneg _ (by omega)) (Int.emod_lt_of_pos _ hl0) S1 O1
end
end HT
namespace HT
open PySem L2
/-- a def of the text that may be called by its name, and what it promises -/
structure Cal (P : Program) (w : World) (K : PySem.W.Frag) (mg : Str → Option Value) (base : Heap) (x : Str) (k : Nat) (ps : List Str) (sp : Sp) (f : Addr) (fd : FuncData) : Prop where
  ok : FnOk P w K mg base CX0 k f fd ps sp
  gl : mg x = some (.ref f)
  kp : PySem.W.keepIn K (.ref f) = true
  bd : Binds K fd ps []
theorem pcl {X : Cx} {x : Str} {k j : Nat} {ps : List Str} {sp : Sp} {f : Addr} {fd : FuncData} {e : Expr} {es : List Expr} {t : TA} {p pos : Pos} (C : Cal X.prog X.w X.K X.mg X.base x k ps sp f fd) (hr : Room j X.A) (hj : k ≤ j) (hg : Gl X x) (ha : PA X (e :: es) t)
    (hdb : (x == ("__debug__" : Str)) = false := by decide) (he : starEach (e :: es) X.env = (false, eval e X.env) :: starEach es X.env := by rfl) (hpl : (backTo pos (starEach es X.env)).any (·.1) = false := by rfl) : PE X (.Call (.Name x p) (e :: es) [] pos) (tCall sp [] E0 t) :=
  pe_call C.ok (hr.mono hj) hg C.gl C.kp C.bd .nil pass0 ha hdb he hpl
section
variable {P : Program} {w : World} {K : PySem.W.Frag} {mg : Str → Option Value} {base : Heap}
theorem cut63 {ns : List Int} (h : ns.length ≤ 63) : cutV (ns.map V.int) none (some 63) = ns.map V.int := by
  have e1 : HT.sIx (ns.map V.int).length 0 none = 0 := rfl
  have e2 : HT.sIx (ns.map V.int).length (ns.map V.int).length (some 63) = (ns.map V.int).length := by
    have := HT.sIx_nat (ns.map V.int).length (ns.map V.int).length 63
    rw [show ((63 : Nat) : Int) = 63 from rfl] at this
    rw [this, List.length_map]
    omega
  unfold cutV
  rw [e1, e2, List.drop_zero, Nat.sub_zero, List.take_length]
theorem dpInts (H : Hp) : ∀ ns : List Int, DpAll K H (ns.map V.int) (ns.map PyData.int)
  | [] => .nil
  | n :: r => .cons (.int n) (dpInts H r)
theorem pow_ok : CPowW ((10 : Int) ^ (60 : Int).toNat) 20 := ⟨by decide, by decide +kernel⟩
theorem pow_pos' : (0 : Int) < ((10 : Int) ^ (60 : Int).toNat) ^ (20 : Int).toNat := by decide +kernel
theorem ok_source {f : Addr} {fd : FuncData} (F : Fun K "_law_source" "_law_source" s_L_source f fd) (B : Blt mg) : FnOk P w K mg base CX0 1 f fd ["_law_script"] (spSource K) := by
  refine F.ok sc_L_source (fun vs H Q E h => ?_) (fun cdv A outer s H vs Q E hr h => ?_)
  · obtain ⟨l, ns, rfl, _⟩ := h
    rfl
  · obtain ⟨l, ns, rfl, hL, hn, q⟩ := h
    have nd := sc_L_source.nd
    refine ⟨_, pss_cons (ps_set (i := 1) nd rfl (Or.inl rfl) (pe_slice sl_list (pv 0) po_none (po_some pe_int)))
      (pss_cons (ps_for PassesOwn.never rfl (pi_range1 (by rfl) B.range (pa_cons (pe_callB call_len_seq (by rfl) B.len PySem.boot_len (pa_cons (pv 1) pa_nil)) pa_nil)) (pg_name (i := 2) nd rfl (Or.inl rfl))
        (pss_one (ps_if (pt_cmpR op_ge (pe_callB call_abs (by rfl) B.abs (by decide +kernel) (pa_cons (pe_ix ix_list (pv 1) (pv 2) (fun _ _ => rfl)) pa_nil)) (pe_op op_pow pe_int pe_int) (nomark _))
          (pss_one (ps_asg (pe_op op_mod (pe_callTy call_int1 (by rfl) B.int (by decide +kernel) (pa_cons (pe_ix ix_list (pv 1) (pv 2) (fun _ _ => rfl)) pa_nil)) (pe_op op_powW (pe_op op_pow pe_int pe_int) pe_int)) (pg_sub (pv 1) (pv 2) set_list))) pss_nil)))
      (pss_cons (ps_if (pt_cmpR (op_eqD hr.units) (pv 1) (pe_lst pa_nil) (nomark _)) (pss_one (ps_set (i := 1) nd rfl (Or.inl rfl) (pe_lst (pa_cons pe_int pa_nil)))) pss_nil)
      (pss_one (ps_ret (pe_lst (pa_cons (pv 1) (pa_cons pe_int pa_nil))))))), ?_⟩
    walk_at "rd"
    refine ⟨l, _, rfl, hL, fun p np => ?_⟩
    rw [cut63 hn]
    walk_at "rd"
    refine ⟨p, _, rfl, .inl (SqL.of upd_same), _, rfl, by omega, ?_, ?_⟩
    · show ((ns.map V.int).length : Int) < 2 ^ 62
      rw [List.length_map]
      omega
    have en : ((ns.map V.int).length : Int).toNat = ns.length := by rw [List.length_map]; omega
    rw [en]
    refine for_range (fun i σ H' => ∃ (cs : List Int) (kv : Option V), σ = [some (.ref l), some (.ref p), kv] ∧ H' p = some (.lst (cs.map V.int)) ∧ cs.length = ns.length ∧ Same H H') ⟨ns, none, rfl, upd_same, rfl, fun b o e => by rw [upd_ne (ne_of_none e np)]; exact e⟩ ?_ ?_
    · rintro i σ H' hi ⟨cs, kv, rfl, hp, hl, sm⟩
      have h0 : (0 : Int) ≤ 0 + (i : Int) := by omega
      have h1 : (0 : Int) + (i : Int) < (cs.length : Int) := by omega
      walk_at "rd"
      refine ⟨p, _, _, _, rfl, rfl, SqL.of hp, atI_in h0 h1, ?_⟩
      walk_at "rd"
      refine ⟨⟨by decide, by decide, by decide⟩, ?_⟩
      walk_at "rd"
      refine ite2 (fun _ => ?_) (fun _ => ?_)
      · walk_at "rd"
        refine ⟨p, _, _, _, rfl, rfl, SqL.of hp, atI_in h0 h1, ?_⟩
        walk_at "rd"
        refine ⟨⟨by decide, by decide, by decide⟩, ?_⟩
        walk_at "rd"
        refine ⟨pow_ok, ?_⟩
        walk_at "rd"
        refine ⟨pow_pos', ?_⟩
        walk_at "rd"
        refine ⟨p, _, _, _, rfl, rfl, hp, ixN_in h0 (by rw [List.length_map]; exact h1), ?_⟩
        rw [set_ints]
        exact ⟨_, _, rfl, upd_same, by rw [List.length_set]; exact hl, fun b o e => by rw [upd_ne (ne_of_none e np)]; exact sm b o e⟩
      · exact ⟨cs, _, rfl, hp, hl, sm⟩
    · rintro σ H' ⟨cs, kv, rfl, hp, hl, sm⟩
      walk_at "rd"
      refine ⟨by decide, fun e ne => ?_⟩
      have hpe : upd H' e (.lst []) p = some (.lst (cs.map V.int)) := by rw [upd_ne (ne_of_none hp ne)]; exact hp
      have sm1 : Same H (upd H' e (.lst [])) := fun b o z => by rw [upd_ne (ne_of_none (sm b o z) ne)]; exact sm b o z
      refine ⟨_, _, .lst (SqL.of hpe) (dpInts _ cs), .lst (SqL.of upd_same) .nil, PySem.W.ke_shaped_ints cs, by decide +kernel, ?_⟩
      walk_at "rd"
      have hb : PyData.eqv (.list (cs.map PyData.int)) (.list []) = decide (cs = []) := by
        have z := PySem.W.ked_eqvAll cs []
        rw [← z]
        rfl
      rw [hb]
      refine ite2 (fun _ => ?_) (fun hne => ?_)
      · walk_at "rd"
        refine ⟨by decide, fun c nc => ?_⟩
        walk_at "rd"
        refine ⟨(by show 2 ≤ sizeLine; decide), fun a na => ?_⟩
        have sm2 : Same H (upd (upd H' e (.lst [])) c (.lst [.int 0])) := fun b o z => by rw [upd_ne (ne_of_none (sm1 b o z) nc)]; exact sm1 b o z
        have nac : a ≠ c := (ne_of_none upd_same na).symm
        refine q a c _ (fun b o z => by rw [upd_ne (ne_of_none (sm2 b o z) na)]; exact sm2 b o z) (sm2.free na) (sm1.free nc) ⟨nac, upd_same, [0], by rw [upd_ne nac.symm]; exact upd_same, by decide, by decide⟩
      · walk_at "rd"
        refine ⟨(by show 2 ≤ sizeLine; decide), fun a na => ?_⟩
        have nap : a ≠ p := (ne_of_none hpe na).symm
        refine q a p _ (fun b o z => by rw [upd_ne (ne_of_none (sm1 b o z) na)]; exact sm1 b o z) (sm1.free na) np ⟨nap, upd_same, cs, by rw [upd_ne nap.symm]; exact hpe, ?_, by omega⟩
        have : cs ≠ [] := fun z => hne (decide_eq_true z)
        exact List.length_pos_iff.mpr this
end
end HT
namespace HT
open PySem L2
/-- a thing of any kind, with its type's name -/
inductive Th (H : Hp) : V → String → Prop where
  | int (i : Int) : Th H (.int i) "int"
  | bl (b : Bool) : Th H (.bl b) "bool"
  | non : Th H .non "NoneType"
  | str (s : Str) : Th H (.str s) "str"
  | tup {p : Addr} {xs : List V} (h : H p = some (.tup xs)) : Th H (.ref p) "tuple"
  | lst {p : Addr} {xs : List V} (h : H p = some (.lst xs)) : Th H (.ref p) "list"
  | dk {p : Addr} {kvs : List (Key × V)} (h : H p = some (.dK kvs)) : Th H (.ref p) "dict"
theorem Th.ty {K : PySem.W.Frag} {H : Hp} {x : V} {n : String} (t : Th H x n) : TyX K H x (.type n) := by
  cases t with
  | int i => exact .base (.int i)
  | bl b => exact .base (.bl b)
  | non => exact .base .non
  | str s => exact .base (.str s)
  | tup h => exact .base (.tup h)
  | lst h => exact .base (.lst h)
  | dk h => exact .base (.dK h)
theorem Th.kint {K : PySem.W.Frag} {H : Hp} {x : V} {n : String} (t : Th H x n) : PySem.W.kitOne K (.type n) (.type "int") = some (n == "int" || n == "bool") := by
  cases t <;> exact kit_ty (by decide +kernel)
theorem Th.kbool {K : PySem.W.Frag} {H : Hp} {x : V} {n : String} (t : Th H x n) : PySem.W.kitOne K (.type n) (.type "bool") = some (n == "bool") := by
  cases t <;> exact kit_ty (by decide +kernel)
theorem Th.ktup {K : PySem.W.Frag} {H : Hp} {x : V} {n : String} (t : Th H x n) : PySem.W.kitOne K (.type n) (.type "tuple") = some (n == "tuple") := by
  cases t <;> exact kit_ty (by decide +kernel)
theorem Th.klst {K : PySem.W.Frag} {H : Hp} {x : V} {n : String} (t : Th H x n) : PySem.W.kitOne K (.type n) (.type "list") = some (n == "list") := by
  cases t <;> exact kit_ty (by decide +kernel)
theorem Th.same {H H' : Hp} {x : V} {n : String} (t : Th H x n) (s : Same H H') : Th H' x n := by
  cases t with
  | int i => exact .int i
  | bl b => exact .bl b
  | non => exact .non
  | str x => exact .str x
  | tup h => exact .tup (s _ _ h)
  | lst h => exact .lst (s _ _ h)
  | dk h => exact .dk (s _ _ h)
def isI (n : String) : Bool := n == "int"
def spIsAny : Sp := fun vs H Q _ => ∃ (x : V) (n : String), vs = [x] ∧ Th H x n ∧ Q (.bl (isI n)) H
/-- an int between the ends -/
def inB (x : V) (a b : Int) : Bool := match x with
  | .int i => decide (a ≤ i) && decide (i ≤ b)
  | _ => false
def spBetAny : Sp := fun vs H Q _ => ∃ (x : V) (n : String) (a b : Int), vs = [x, .int a, .int b] ∧ Th H x n ∧ Q (.bl (inB x a b)) H
/-- the names that the text of checks does not bind -/
structure ChkT (mg : Str → Option Value) : Prop where
  isi : mg "isinstance" = none
  int : mg "int" = none
  bool : mg "bool" = none
  tuple : mg "tuple" = none
  list : mg "list" = none
  len : mg "len" = none
section
variable {P : Program} {w : World} {K : PySem.W.Frag} {mg : Str → Option Value} {base : Heap} {fI : Addr} {dI : FuncData}
theorem ok_is_any {f : Addr} {fd : FuncData} (F : Fun K "is_int" "is_int" s_is_int f fd) (T : ChkT mg) : FnOk P w K mg base CX0 1 f fd ["thing"] spIsAny := by
  refine F.ok sc_is_int (fun vs H Q E h => ?_) (fun cdv A outer s H vs Q E hr h => ?_)
  · obtain ⟨x, n, rfl, _⟩ := h
    rfl
  · obtain ⟨x, n, rfl, t, q⟩ := h
    refine ⟨_, pss_one (ps_ret (pe_and (pe_callB call_isi (by rfl) T.isi (by decide +kernel) (pa_cons (pv 0) (pa_cons (pe_bltn (v := .ty "int") (by rfl) T.int (by decide +kernel) rfl) pa_nil)))
      (pe_one (pe_not (pe_callB call_isi (by rfl) T.isi (by decide +kernel) (pa_cons (pv 0) (pa_cons (pe_bltn (v := .ty "bool") (by rfl) T.bool (by decide +kernel) rfl) pa_nil))))))), ?_⟩
    walk_at "rd"
    refine ⟨_, _, _, _, _, rfl, .ty "int", t.ty, t.kint, ?_⟩
    walk_at "rd"
    refine ite2 (fun h => ?_) (fun h => ?_)
    · walk_at "rd"
      refine ⟨_, _, _, _, _, rfl, .ty "bool", t.ty, t.kbool, ?_⟩
      walk_at "rd"
      have e : (!(n == "bool")) = isI n := by
        cases t <;> first | rfl | exact absurd h (by decide)
      rw [e]
      exact q
    · have e : isI n = false := by
        cases t <;> first | rfl | exact absurd (by decide) h
      rw [e] at q
      exact q
theorem ok_bet_any {f : Addr} {fd : FuncData} (F : Fun K "is_int_between" "is_int_between" s_is_int_between f fd) (I : Cal P w K mg base "is_int" 1 ["thing"] spIsAny fI dI) : FnOk P w K mg base CX0 2 f fd ["thing", "least", "most"] spBetAny := by
  refine F.ok sc_is_int_between (fun vs H Q E h => ?_) (fun cdv A outer s H vs Q E hr h => ?_)
  · obtain ⟨x, n, a, b, rfl, _⟩ := h
    rfl
  · obtain ⟨x, n, a, b, rfl, t, q⟩ := h
    refine ⟨_, pss_one (ps_ret (pe_and (pcl I hr (by decide) (by rfl) (pa_cons (pv 0) pa_nil)) (pe_one (pe_chain op_le op_le (pv 1) (pv 0) (pv 2))))), ?_⟩
    walk_at "rd"
    refine ⟨x, n, rfl, t, ?_⟩
    cases t with
    | int i =>
      walk_at "rd"
      refine ite2 (fun h => ?_) (fun h => ?_)
      · walk_at "rd"
        change Q (.bl (decide (a ≤ i) && decide (i ≤ b))) H at q
        rw [decide_eq_true (of_decide_eq_true h)] at q
        exact q
      · change Q (.bl (decide (a ≤ i) && decide (i ≤ b))) H at q
        rw [decide_eq_false (of_decide_eq_false (by simpa using h))] at q
        exact q
    | _ => exact ⟨_, rfl, q⟩
end
end HT
namespace HT
open PySem L2
theorem dec_int (a b : Int) : decide (V.int a = V.int b) = decide (a = b) := by
  by_cases h : a = b
  · rw [decide_eq_true h, h, decide_eq_true rfl]
  · rw [decide_eq_false h, decide_eq_false (fun z => h (V.int.inj z))]
theorem dec_str (a b : Str) : decide (V.str a = V.str b) = decide (a = b) := by
  by_cases h : a = b
  · rw [decide_eq_true h, h, decide_eq_true rfl]
  · rw [decide_eq_false h, decide_eq_false (fun z => h (V.str.inj z))]
theorem dec_bl (a b : Bool) : decide (V.bl a = V.bl b) = decide (a = b) := by
  by_cases h : a = b
  · rw [decide_eq_true h, h, decide_eq_true rfl]
  · rw [decide_eq_false h, decide_eq_false (fun z => h (V.bl.inj z))]
theorem str_t {a b : Str} (h : decide (V.str a = V.str b) = true) : a = b := V.str.inj (of_decide_eq_true h)
theorem str_f {a b : Str} (h : ¬ decide (V.str a = V.str b) = true) : ¬ a = b := fun z => h (decide_eq_true (congrArg V.str z))
theorem int_t {a b : Int} (h : decide (V.int a = V.int b) = true) : a = b := V.int.inj (of_decide_eq_true h)
theorem int_f {a b : Int} (h : ¬ decide (V.int a = V.int b) = true) : ¬ a = b := fun z => h (decide_eq_true (congrArg V.int z))
theorem not_t {b : Bool} (h : (!b) = true) : ¬ b = true := by cases b <;> simp_all
theorem not_f {b : Bool} (h : ¬ (!b) = true) : b = true := by cases b <;> simp_all
end HT
namespace HT
open PySem L2
def spPick : Sp := fun vs H Q _ => ∃ (a c : Addr) (t : Nat) (l : Addr) (xs : List V), vs = [.ref a, .ref l] ∧ Src H a c t ∧ t < 2 ^ 30 ∧ H l = some (.lst xs) ∧ l ≠ a ∧ l ≠ c ∧ 0 < xs.length ∧ xs.length < 2 ^ 60 ∧
  ∀ x H', x ∈ xs → Src H' a c (t + 1) → Oth a c H H' → Q x H'
theorem lg_nat {n : Nat} (h : n < 2 ^ 200) : ((n : Int)).natAbs.log2 < 9000 := by
  rw [Int.natAbs_natCast]
  by_cases e : n = 0
  · rw [e]; decide
  · have := (Nat.log2_lt e).mpr h
    omega
section
variable {P : Program} {w : World} {K : PySem.W.Frag} {mg : Str → Option Value} {base : Heap} {fD fP fG : Addr} {dD dP dG : FuncData}
theorem ok_pick {f : Addr} {fd : FuncData} (F : Fun K "_law_pick" "_law_pick" s_L_pick f fd) (B : Blt mg) (D : Cal P w K mg base "_law_draw" 1 ["_law_source_here", "_law_limit"] spDraw fD dD) :
    FnOk P w K mg base CX0 2 f fd ["_law_source_here", "_law_values"] spPick := by
  refine F.ok sc_L_pick (fun vs H Q E h => ?_) (fun cdv A outer s H vs Q E hr h => ?_)
  · obtain ⟨a, c, t, l, xs, rfl, _⟩ := h
    rfl
  · obtain ⟨a, c, t, l, xs, rfl, S, ht, hl, na, nc, h0, h1, q⟩ := h
    refine ⟨_, pss_one (ps_ret (pe_ix ix_list (pv 1) (pcl D hr (by decide) (by rfl) (pa_cons (pv 0) (pa_cons (pe_callB call_len_seq (by rfl) B.len PySem.boot_len (pa_cons (pv 1) pa_nil)) pa_nil))) (fun _ _ => rfl))), ?_⟩
    walk_at "rd"
    refine ⟨l, _, rfl, .inl (SqL.of hl), ?_⟩
    have p1 : (0 : Int) < (xs.length : Int) := by omega
    refine ⟨a, c, t, _, rfl, S, ht, p1, lg_nat (Nat.lt_of_lt_of_le h1 (Nat.pow_le_pow_right (by decide) (by decide))), fun k H' k0 k1 S' O => ?_⟩
    have hl' : k.toNat < xs.length := by omega
    have e : atI xs k = some xs[k.toNat] := by
      unfold atI
      rw [ixN_in k0 k1]
      exact List.getElem?_eq_getElem hl'
    refine ⟨l, _, _, _, rfl, rfl, SqL.of (O _ _ hl na nc), e, ?_⟩
    exact q _ _ (List.getElem_mem hl') S' O
end
end HT
namespace HT
open PySem L2
def spGreat : Sp := fun vs H Q _ => ∃ (a c : Addr) (t n : Nat), vs = [.ref a, .int (n : Int)] ∧ Src H a c t ∧ n ≤ 1000 ∧ t + n < 2 ^ 30 ∧
  ∀ k H', 0 ≤ k → k < 10 ^ n → Src H' a c (t + n) → Oth a c H H' → Q (.int k) H'
section
variable {P : Program} {w : World} {K : PySem.W.Frag} {mg : Str → Option Value} {base : Heap} {fD fP fG : Addr} {dD dP dG : FuncData}
theorem ok_great {f : Addr} {fd : FuncData} (F : Fun K "_law_great" "_law_great" s_L_great f fd) (B : Blt mg) (D : Cal P w K mg base "_law_draw" 1 ["_law_source_here", "_law_limit"] spDraw fD dD) :
    FnOk P w K mg base CX0 2 f fd ["_law_source_here", "_law_digits_here"] spGreat := by
  refine F.ok sc_L_great (fun vs H Q E h => ?_) (fun cdv A outer s H vs Q E hr h => ?_)
  · obtain ⟨a, c, t, n, rfl, _⟩ := h
    rfl
  · obtain ⟨a, c, t, n, rfl, S, hn, ht, q⟩ := h
    have nd := sc_L_great.nd
    refine ⟨_, pss_cons (ps_set (i := 2) nd rfl (Or.inl rfl) pe_int)
      (pss_cons (ps_for PassesOwn.never rfl (pi_range1 (by rfl) B.range (pa_cons (pv 1) pa_nil)) (pg_name (i := 3) nd rfl (Or.inl rfl))
        (pss_one (ps_set (i := 2) nd rfl (Or.inl rfl) (pe_op op_add (pe_op op_mul (pv 2) pe_int) (pcl D hr (by decide) (by rfl) (pa_cons (pv 0) (pa_cons pe_int pa_nil)))))))
      (pss_one (ps_ret (pv 2)))), ?_⟩
    walk_at "rd"
    refine ⟨by omega, by omega, ?_⟩
    rw [Int.toNat_natCast]
    refine for_range (fun i σ H' => ∃ (k : Int) (kv : Option V), σ = [some (.ref a), some (.int (n : Int)), some (.int k), kv] ∧ 0 ≤ k ∧ k < 10 ^ i ∧ Src H' a c (t + i) ∧ Oth a c H H') ⟨0, none, rfl, by decide, by decide, S, Oth.refl _ _ _⟩ ?_ ?_
    · rintro i σ H' hi ⟨k, kv, rfl, k0, k1, S', O⟩
      walk_at "rd"
      refine ⟨.inr ⟨by decide, by decide⟩, ?_⟩
      walk_at "rd"
      refine ⟨a, c, t + i, _, rfl, S', by omega, (by show (0 : Int) < 10; decide), (by show (10 : Int).natAbs.log2 < 9000; decide), fun y H2 y0 y1 S2 O2 => ?_⟩
      walk_at "rd"
      have y1' : y < 10 := y1
      refine ⟨_, _, rfl, (by show 0 ≤ k * 10 + y; omega), (by show k * 10 + y < 10 ^ (i + 1); rw [Int.pow_succ]; omega), S2, O.trans O2⟩
    · rintro σ H' ⟨k, kv, rfl, k0, k1, S', O⟩
      walk_at "rd"
      exact q _ _ k0 k1 S' O
end
end HT
namespace L2
open PySem PySem.Spec PyProof.Rows
/-- a def of which any kind of error may come -/
theorem Fun.okAny {CX' : CXT} {P : Program} {w : World} {K : PySem.W.Frag} {mg : Str → Option Value} {base : Heap} {nm qu : Str} {row : Stmt} {at0 : Addr} {fd : FuncData} {names pars : List Str} {lev : Nat} {want : Sp} (F : Fun K nm qu row at0 fd) (S : FnScope names pars (defScope row)) (len : ∀ vs H Q E, want vs H Q E → vs.length = pars.length)
    (body : ∀ (code : Value) (A : Around) (outer : List Env) (sh : Shared) (H : Hp) (vs : List V) (Q : VK) (E : XK), Room lev (A.deeper (envOfC qu (defScope row) sh.heap.objs.size at0 code)) → want vs H Q E →
      ∃ t, PSs (cxOf CX' P w K mg base names qu (defScope row) at0 code A outer sh H E) (defBody row) t ∧ t { nx := fun _ H' => Q .non H', rt := Q } (start names vs) H) : FnOk P w K mg base CX' (lev + 1) at0 fd pars want := by
  obtain ⟨_, _, _, _, _, _, code, _, _, rfl, there, isCode⟩ := F.ex
  exact fn_of there isCode S len (body code)
/-- X('..') of an own class, for a raise .. from None -/
theorem pmk5_own {X : Cx} {C : Addr} {bmB : List Value} {B newId initId : String} {x m : Str} {j : Nat} {p p2 pos : Pos} (F : ExcBaseFacts B newId initId bmB) (q : PySem.W.excIn X.K C bmB newId = true) (gC : X.mg x = some (.ref C)) (kC : PySem.W.keepIn X.K (.ref C) = true) (r : Raises X (.ref C)) (hg : Gl X x)
    (plain : (x == ("__debug__" : Str)) = false := by decide) : L2H.PMk5 X (.Call (.Name x p) [.Constant (.str m) j p2] [] pos) (fun _ H Q => Q (.ref C) none H) := by
  intro pins sh st H Q iv want
  have arg : PA X [.Constant (.str m) j p2] (tCons (tC (.str m)) tNil) := pa_cons pe_str pa_nil
  refine wpAny_Call_Name_kw (ld_glob iv hg gC (PySem.W.callWith_K (h₀ := X.base) iv.ok.mod.kin kC (thn (arg.run pos pins sh st H (fun vs H1 => vs = [V.str m] ∧ H = H1) iv ⟨rfl, rfl⟩) ?_)) plain)
  rintro us sh1 ⟨vs, H1, iv1, rel, rfl, rfl⟩
  refine ⟨iv1.kIn, ?_⟩
  match us, rel with
  | [u], .cons _ .nil =>
    show wpAny _ _ (call (.ref C) [u]) _ _ _
    obtain ⟨_, _, _, _, _, _, _, _, _, _, _, _, _, _, _, _, _, hC, hN, hni, T⟩ := exc_obj iv1.kIn q
    exact wpAny_call_exc_subT F T hC hN hni (fun h' e made => L2H.mk_of5 iv1 made r want (iv1.hok.gone made.new)) (by show 1 ≤ sizeLine; decide)
/-- try: .. except x: suite, the suite raising: ps_try_onlyX with its reading under a name, for a loop around it -/
def tTryX (K : PySem.W.Frag) (c : Value) (ts : Addr → Value → Option Addr → TS) (Wout : WX) (tb : WX → TS) : TS := fun D st H => tb (wOnly K c ts Wout D) D st H
theorem ps_tryX {X : Cx} {x : Str} {c : Value} {body suite : List Stmt} {first : Stmt} {np pos pos' : Pos} {tb : WX → TS} {ts : Addr → Value → Option Addr → TS} {Wout : WX} (h1 : X.stack = X.env :: X.outer) (h2 : X.env.frame = some X.env.locals) (h3 : Names X x c)
    (h4 : ∀ hd : Option Value, PassesOwnAt (model X.prog X.w) (X.A.mark hd) X.A X.env X.xe) (h5 : L2.Takes X Wout)
    (h6 : ∀ (W : WX) (pn : List (Addr × Obj)) (xe : Value → Shared → Prop), L2N.Takes (X.tr pn xe) W → L2.Takes (X.tr pn xe) (L2H.wPass X.K c Wout) → PassesOwn (model X.prog X.w) X.A X.env xe → PSs (X.tr pn xe) body (tb W))
    (h7 : ∀ (a : Addr) (oe : Obj) (cls : Value) (d : Option Addr) (pn : List (Addr × Obj)), L2N.Zn cls d oe → (∃ vs, oe.data = .fields vs) → L2.Takes (L2H.suiteX X a ((a, oe) :: pn)) Wout → L2H.HotC (L2H.suiteX X a ((a, oe) :: pn)) → PSs (L2H.suiteX X a ((a, oe) :: pn)) (first :: suite) (ts a cls d)) :
    PS X (.Try body [.ExceptHandler (some (.Name x np)) none (first :: suite) pos'] [] [] pos) (tTryX X.K c ts Wout tb) := L2H.ps_try_onlyX h1 h2 h3 h4 h5 h6 h7
end L2
namespace L2
open PySem PySem.Spec PyProof.Rows
/-- xs.count(y) of flat things -/
def rCntV (K : PySem.W.Frag) : V → List V → Hp → VK → Prop := fun x xs H Q => ∃ (p : Addr) (ys : List V) (y : V), x = .ref p ∧ xs = [y] ∧ SqL K H p ys ∧ flatV y = true ∧ ys.all flatV = true ∧ Q (.int (ys.countP (fun z => eqV z y) : Nat)) H
theorem count_eqU {x : V} : ∀ {xs : List V} {us : List Value}, Vals xs us → xs.all flatV = true → us.countP (eqU x) = xs.countP fun y => eqV y x
  | _, _, .nil, _ => rfl
  | y :: xs, u :: us, .cons r t, f => by
    obtain ⟨f1, f2⟩ := Bool.and_eq_true_iff.mp (List.all_cons ▸ f)
    rw [List.countP_cons, List.countP_cons, eqU_of r f1, count_eqU t f2]
theorem mt_cntV {X : Cx} : MtR X "list.count" (rCntV X.K) := by
  intro pins sh st H x xs v us Q iv rx rxs h
  obtain ⟨p, ys, y, rfl, rfl, hs, fy, fys, q⟩ := h
  cases rx
  obtain ⟨u, rfl, ru⟩ := rxs.one
  obtain ⟨its, rv, ⟨⟨cls, dd, data, sl⟩, n, ho, hc, hdn, hd⟩, hlen⟩ := iv.list hs
  dsimp only at hc hd
  subst hc hd
  refine call_meets PySem.F.slot_list_count ⟨_, ho, rfl⟩ PySem.F.entry_list_count (PySem.F.args_list_count_2 _ _) (SeqAt.list_countAt p its.toArray n dd sl u (eqU y)) ⟨ho, fun w hw => mem_eqAt ru fy rv fys w (by simpa using hw), ?_⟩
  refine ⟨.int (ys.countP (fun z => eqV z y) : Nat), H, iv.tok _, ⟨sh.toks, ?_⟩, q⟩
  rw [show its.toArray.toList.countP (eqU y) = ys.countP (fun z => eqV z y) from count_eqU rv fys]
end L2
namespace HT
open PySem L2
/-- the three classes by number, and their base class at B -/
structure Er (K : PySem.W.Frag) (mg : Str → Option Value) (C : Nat → Addr) (B : Addr) : Prop where
  isi : mg "isinstance" = none
  ve : mg "ValueError" = none
  gB : mg "HandedError" = some (.ref B)
  g0 : mg "InvalidValue" = some (.ref (C 0))
  g1 : mg "InvalidPlaces" = some (.ref (C 1))
  g2 : mg "InvalidStyle" = some (.ref (C 2))
  kit : ∀ i j, i < 3 → j < 3 → PySem.W.kitOne K (.ref (C i)) (.ref (C j)) = some (decide (i = j))
  kitV : ∀ i, i < 3 → PySem.W.kitOne K (.ref (C i)) (.type "ValueError") = some true
  ec : ∀ i, i < 3 → ErrC K (C i)
  eg : ErrG K
  ex : ∀ i, i < 3 → PySem.W.excIn K (C i) [.type "ValueError", .type "Exception", .type "BaseException", .type "object"] "ValueError.__new__" = true
  kp : ∀ i, i < 3 → PySem.W.keepIn K (.ref (C i)) = true
  sb : ∀ i, i < 3 → PySem.W.subIn K (.ref (C i)) (.type "BaseException") = some true
  ty : ∀ i, i < 3 → PySem.W.typeIn K (.ref (C i)) = some (.type "type")
  emB : ∀ i, i < 3 → PySem.W.exmOne K (.ref (C i)) (.ref B) = some true
end HT
namespace HT
open PySem L2
/-- the names that the text of figures does not bind, and its numbers -/
structure TxtT (mg : Str → Option Value) (tP tW : Tok) : Prop where
  isi : mg "isinstance" = none
  int : mg "int" = none
  bool : mg "bool" = none
  len : mg "len" = none
  str : mg "str" = none
  abs : mg "abs" = none
  range : mg "range" = none
  max : mg "max" = none
  gP : mg "MOST_PLACES" = some (.int 60 tP)
  gW : mg "MOST_WIDTH" = some (.int 200 tW)
/-! ### text_of -/
def spStyle : Sp := fun vs H Q _ => ∃ (sg gr : Bool) (wd : Int), vs = [.bl sg, .bl gr, .int wd] ∧ 0 ≤ wd ∧ wd ≤ 200 ∧ Q .non H
def markM (fig : Int) (sg : Bool) : Str := if fig < 0 then "-" else if 0 < fig ∧ sg = true then "+" else ""
def spMark : Sp := fun vs H Q _ => ∃ (fig : Int) (sg : Bool), vs = [.int fig, .bl sg] ∧ Q (.str (markM fig sg)) H
/-- the first group's length, and the number of groups behind it -/
def firstG (n : Nat) : Nat := (n - 1) % 3 + 1
def moreG (n : Nat) : Nat := (n - firstG n) / 3
def partsG (d : Str) (k : Nat) : List Str := cutS d none (some (firstG d.length : Nat)) :: (List.range k).map fun (j : Nat) => cutS d (some ((firstG d.length : Int) + (j : Int) * 3)) (some ((firstG d.length : Int) + (j : Int) * 3 + 3))
def groupM (d : Str) : Str := Txt.join "," (partsG d (moreG d.length))
def spGrouped : Sp := fun vs H Q _ => ∃ d : Str, vs = [.str d] ∧ 1 ≤ d.length ∧ d.length ≤ 1000 ∧ ∀ H', Same H H' → Q (.str (groupM d)) H'
def textM (fig : Int) (pl : Nat) (sg gr : Bool) (wd : Int) : Str :=
  let d := Txt.zfill (toString (if fig < 0 then -fig else fig)) ((pl : Int) + 1)
  let pt := (d.length : Int) - (pl : Int)
  let t := cutS d none (some pt)
  let t := if gr = true then groupM t else t
  let t := if 0 < pl then t ++ ("." : Str) ++ cutS d (some pt) none else t
  Txt.rjust (markM fig sg ++ t) wd
theorem firstG_eq {n : Nat} (h : 1 ≤ n) : ((n : Int) - 1) % 3 + 1 = (firstG n : Int) := by
  unfold firstG
  omega
theorem size3 {a b : Int} (h : a ≤ b) : Builtin.Range.rangeSize a b 3 = (if a < b then (b - a - 1) / 3 + 1 else 0) := by
  unfold Builtin.Range.rangeSize
  rw [if_pos (show (3 : Int) > 0 by decide)]
theorem small3 {a b : Int} (h0 : 0 ≤ a) (h1 : a ≤ b) (h2 : b ≤ 1000) : Builtin.Range.small a b 3 = true := by
  unfold Builtin.Range.small
  rw [size3 h1]
  have f : ∀ x : Int, 0 ≤ x → x ≤ 5000 → Builtin.Range.rangeFitsLong x = true := fun x a b => by
    unfold Builtin.Range.rangeFitsLong
    rw [decide_eq_true (show -(2 ^ 63) ≤ x by omega), decide_eq_true (show x < 2 ^ 63 by omega)]
    rfl
  have sz : 0 ≤ (if a < b then (b - a - 1) / 3 + 1 else 0) ∧ (if a < b then (b - a - 1) / 3 + 1 else 0) ≤ 1000 := by split <;> omega
  rw [f a h0 (by omega), f b (by omega) (by omega), f 3 (by decide) (by decide), f _ sz.1 (by omega), if_pos (show (3 : Int) > 0 by decide), f (b + (3 - 1)) (by omega) (by omega), Bool.or_true]
  rfl
theorem rgG {n : Nat} (h : 1 ≤ n) (h1 : n ≤ 1000) : RgC (firstG n : Int) (n : Int) 3 (moreG n) := by
  have hf : firstG n ≤ n := by
    unfold firstG
    omega
  refine ⟨by decide, by decide, small3 (by omega) (by omega) (by omega), ?_⟩
  rw [size3 (by omega)]
  unfold moreG firstG
  split <;> omega
theorem cutS_len_le (z : Str) (lo hi : Option Int) : (cutS z lo hi).length ≤ z.length := by
  show ((z.cps.toList.drop _).take _).toArray.size ≤ z.cps.size
  simp only [List.size_toArray, List.length_take, List.length_drop, Array.length_toList]
  omega
section
variable {P : Program} {w : World} {K : PySem.W.Frag} {mg : Str → Option Value} {base : Heap} {tP tW : Tok} {fI fB fV fC fG fM : Addr} {dI dB dV dC dG dM : FuncData}
theorem ok_mark {f : Addr} {fd : FuncData} (F : Fun K "_mark" "_mark" s_mark f fd) : FnOk P w K mg base CX0 1 f fd ["figure", "sign"] spMark := by
  refine F.ok sc_mark (fun vs H Q E h => ?_) (fun cdv A outer s H vs Q E hr h => ?_)
  · obtain ⟨fig, sg, rfl, _⟩ := h
    rfl
  · obtain ⟨fig, sg, rfl, q⟩ := h
    refine ⟨_, pss_cons (ps_if (pt_cmpR op_lt (pv 0) pe_int (nomark _)) (pss_one (ps_ret pe_str)) pss_nil)
      (pss_cons (ps_if (PW.pt (pw_and (pt_cmpR op_gt (pv 0) pe_int (nomark _)) (pw_and1 (pt_val (pv 1))))) (pss_one (ps_ret pe_str)) pss_nil)
      (pss_one (ps_ret pe_str))), ?_⟩
    unfold markM at q
    walk_at "rd"
    refine ite2 (fun h => ?_) (fun h1 => ?_)
    · rw [if_pos (of_decide_eq_true h)] at q
      exact q
    rw [if_neg (fun z => h1 (decide_eq_true z))] at q
    walk_at "rd"
    refine ite2 (fun h => ?_) (fun h2 => ?_)
    · walk_at "rd"
      refine ite2 (fun g => ?_) (fun g => ?_)
      · rw [if_pos ⟨of_decide_eq_true h, g⟩] at q
        exact q
      · rw [if_neg (fun z => g z.2)] at q
        exact q
    · rw [if_neg (fun z => h2 (decide_eq_true z.1))] at q
      exact q
theorem ok_grouped {f : Addr} {fd : FuncData} (F : Fun K "_grouped" "_grouped" s_grouped f fd) (T : TxtT mg tP tW) : FnOk P w K mg base CX0 1 f fd ["digits"] spGrouped := by
  refine F.ok sc_grouped (fun vs H Q E h => ?_) (fun cdv A outer s H vs Q E hr h => ?_)
  · obtain ⟨d, rfl, _⟩ := h
    rfl
  · obtain ⟨d, rfl, l0, l1, q⟩ := h
    have nd := sc_grouped.nd
    have sl : d.length ≤ sizeLine := Nat.le_trans l1 (by decide)
    refine ⟨_, pss_cons (ps_set (i := 1) nd rfl (Or.inl rfl) (pe_op op_add (pe_op op_mod (pe_op op_sub (pe_callB call_len_str (by rfl) T.len PySem.boot_len (pa_cons (pv 0) pa_nil)) pe_int) pe_int) pe_int))
      (pss_cons (ps_set (i := 2) nd rfl (Or.inl rfl) (pe_lst (pa_cons (pe_slice sl_str (pv 0) po_none (po_some (pv 1))) pa_nil)))
      (pss_cons (ps_for PassesOwn.never rfl (pi_range3 (by rfl) T.range (pa_cons (pv 1) (pa_cons (pe_callB call_len_str (by rfl) T.len PySem.boot_len (pa_cons (pv 0) pa_nil)) (pa_cons pe_int pa_nil)))) (pg_name (i := 3) nd rfl (Or.inl rfl))
        (pss_one (ps_expr (pe_bm PySem.F.plainAttrs_list PySem.F.slot_list_append PySem.F.type_list_append mt_append (pv 2) (pa_cons (pe_slice sl_str (pv 0) (po_some (pv 3)) (po_some (pe_op op_add (pv 3) pe_int))) pa_nil)))))
      (pss_one (ps_ret (pe_bm PySem.F.plainAttrs_str PySem.F.slot_str_join PySem.F.type_str_join mt_join pe_str (pa_cons (pv 2) pa_nil)))))), ?_⟩
    walk_at "rd"
    refine ⟨sl, ?_⟩
    walk_at "rd"
    refine ⟨(by show (0 : Int) < 3; decide), ?_⟩
    walk_at "rd"
    have fe := firstG_eq l0
    refine ⟨sl, ?_⟩
    refine ⟨(by show 1 ≤ sizeLine; decide), fun p np => ?_⟩
    have sm0 : Same H (upd H p (.lst [.str (cutS d none (some (((d.length : Int) - 1) % 3 + 1)))])) := fun b u z => (upd_ne (ne_of_none z np)).trans z
    have hp0 : upd H p (.lst [.str (cutS d none (some (((d.length : Int) - 1) % 3 + 1)))]) p = some (.lst ((partsG d 0).map V.str)) := by
      rw [upd_same, fe]
      unfold partsG
      rw [List.range_zero, List.map_nil, List.map_cons, List.map_nil]
    walk_at "rd"
    refine ⟨sl, ?_⟩
    walk_at "rd"
    refine ⟨_, _, _, moreG d.length, rfl, (by rw [fe]; exact rgG l0 l1), ?_⟩
    refine for_rangeC (lo := ((d.length : Int) - 1) % 3 + 1) (c := 3) (n := moreG d.length) (fun i σ H1 => ∃ kv : Option V, σ = [some (.str d), some (.int (((d.length : Int) - 1) % 3 + 1)), some (.ref p), kv] ∧ H1 p = some (.lst ((partsG d i).map V.str)) ∧ Same H H1) ⟨none, rfl, hp0, sm0⟩ ?_ ?_
    · rintro i σ H1 hi ⟨kv, rfl, hp, sm⟩
      walk_at "rd"
      refine ⟨.inl ⟨rfl, _, SqL.of hp⟩, ?_⟩
      walk_at "rd"
      refine ⟨sl, ?_⟩
      have ln : (partsG d i).length = i + 1 := by
        unfold partsG
        rw [List.length_cons, List.length_map, List.length_range]
      have mi : moreG d.length ≤ 1000 := by
        unfold moreG
        omega
      refine ⟨p, _, _, rfl, rfl, hp, (by rw [List.length_map, ln]; exact Nat.lt_of_le_of_lt (show i + 1 ≤ 1001 by omega) (by decide)), ?_⟩
      refine ⟨_, rfl, ?_, fun b u z => (upd_ne (ne_of_none z np)).trans (sm _ _ z)⟩
      rw [upd_same, fe]
      unfold partsG
      rw [List.range_succ, List.map_append, ← List.cons_append, List.map_append]
      rfl
    · rintro σ H1 ⟨kv, rfl, hp, sm⟩
      walk_at "rd"
      refine ⟨rfl, ?_⟩
      walk_at "rd"
      refine ⟨",", p, partsG d (moreG d.length), rfl, rfl, .inl (SqL.of hp), ?_, ?_⟩
      · have ln : (partsG d (moreG d.length)).length = moreG d.length + 1 := by
          unfold partsG
          rw [List.length_cons, List.length_map, List.length_range]
        have mi : moreG d.length ≤ 1000 := by
          unfold moreG
          omega
        have sum : ∀ xs : List Str, (∀ x ∈ xs, x.length ≤ 1000) → (xs.map (·.length)).sum ≤ xs.length * 1000 := by
          intro xs
          induction xs with
          | nil => intro _; exact Nat.zero_le _
          | cons y ys ih =>
            intro hx
            have a := hx y (List.mem_cons_self ..)
            have b := ih fun x h => hx x (List.mem_cons_of_mem _ h)
            rw [List.map_cons, List.sum_cons, List.length_cons, Nat.succ_mul]
            omega
        have all : ∀ x ∈ partsG d (moreG d.length), x.length ≤ 1000 := by
          intro x hx
          unfold partsG at hx
          rcases List.mem_cons.mp hx with e | hx
          · rw [e]
            exact Nat.le_trans (cutS_len_le _ _ _) l1
          · obtain ⟨j, _, e⟩ := List.mem_map.mp hx
            rw [← e]
            exact Nat.le_trans (cutS_len_le _ _ _) l1
        have := sum _ all
        rw [ln] at this ⊢
        have cm : (("," : Str)).length = 1 := by decide +kernel
        rw [cm]
        omega
      · exact q H1 sm
end
end HT
namespace HT
open PySem L2
theorem log_fig {fig : Int} (h0 : -10 ^ 62 < fig) (h1 : fig < 10 ^ 62) : (if fig < 0 then -fig else fig).natAbs.log2 < 1920 := by
  have h : (if fig < 0 then -fig else fig).natAbs < 2 ^ 210 := by split <;> omega
  exact Nat.lt_of_lt_of_le (PySem.Flt.log2_lt_of (by decide) h) (by decide)
theorem padOk {i : Int} (h0 : 0 ≤ i) (h1 : i ≤ 300) : PadOk i = true := by
  obtain ⟨n, rfl⟩ := Int.eq_ofNat_of_zero_le h0
  have hn : n ≤ 300 := by omega
  clear h0 h1
  revert hn
  revert n
  decide +kernel
/-- the digits: at least one more than places, at most 300 -/
structure DigOk (d : Str) (pl : Nat) : Prop where
  lo : pl + 1 ≤ d.length
  hi : d.length ≤ 300
def digM (fig : Int) (pl : Nat) : Str := Txt.zfill (toString (if fig < 0 then -fig else fig)) ((pl : Int) + 1)
theorem cut_pre {z : Str} {i : Int} (h : 0 ≤ i ∧ i ≤ (z.length : Int)) : (cutS z none (some i)).length = i.toNat := by
  obtain ⟨n, rfl⟩ := Int.eq_ofNat_of_zero_le h.1
  have hz : z.cps.toList.length = z.length := by
    show z.cps.toList.length = z.cps.size
    exact Array.length_toList
  show ((z.cps.toList.drop (HT.sIx z.length 0 none)).take (HT.sIx z.length z.length (some (n : Int)) - HT.sIx z.length 0 none)).toArray.size = _
  rw [HT.sIx_none, HT.sIx_nat, List.drop_zero, List.size_toArray, List.length_take, hz]
  have := h.2
  omega
theorem le_line {n b : Nat} (h : n ≤ b) (hb : b ≤ 5000 := by decide) : n ≤ sizeLine := Nat.le_trans h (Nat.le_trans hb (by decide))
theorem dl : (("." : Str)).length = 1 := by decide +kernel
theorem str_app (a b : Str) : (a ++ b).length = a.length + b.length := by
  show (a.cps ++ b.cps).size = a.cps.size + b.cps.size
  exact Array.size_append
theorem cut_three (z : Str) {i : Int} (h : 0 ≤ i) : (cutS z (some i) (some (i + 3))).length ≤ 3 := by
  obtain ⟨n, rfl⟩ := Int.eq_ofNat_of_zero_le h
  show ((z.cps.toList.drop (HT.sIx z.length 0 (some (n : Int)))).take (HT.sIx z.length z.length (some ((n + 3 : Nat) : Int)) - HT.sIx z.length 0 (some (n : Int)))).toArray.size ≤ 3
  rw [HT.sIx_nat, HT.sIx_nat, List.size_toArray, List.length_take]
  omega
theorem sum_le_three {α : Type} (f : α → Nat) : ∀ (l : List α), (∀ x ∈ l, f x ≤ 3) → (l.map f).sum ≤ 3 * l.length
  | [], _ => Nat.le_refl _
  | x :: l, h => by
    have a := h x (List.mem_cons_self ..)
    have b := sum_le_three f l (fun y hy => h y (List.mem_cons_of_mem _ hy))
    rw [List.map_cons, List.sum_cons, List.length_cons]
    omega
theorem group_len {d : Str} (h : 1 ≤ d.length) (h1 : d.length ≤ 300) : (groupM d).length ≤ 1300 := by
  have hf : firstG d.length ≤ d.length := by
    unfold firstG
    omega
  have hk : firstG d.length + 3 * moreG d.length = d.length := by
    unfold moreG firstG
    omega
  have hf3 : firstG d.length ≤ 3 := by
    unfold firstG
    omega
  have e := StrLaws.join_length_le "," (partsG d (moreG d.length))
  have e1 := sum_le_three (fun x : Str => x.length) (partsG d (moreG d.length)) (fun x hx => by
    rcases List.mem_cons.mp hx with rfl | hx
    · rw [cut_pre (by omega)]
      omega
    · obtain ⟨j, hj, rfl⟩ := List.mem_map.mp hx
      have := List.mem_range.mp hj
      exact cut_three d (by omega))
  have e2 : (partsG d (moreG d.length)).length = moreG d.length + 1 := by
    unfold partsG
    rw [List.length_cons, List.length_map, List.length_range]
  have e3 : ("," : Str).length = 1 := by decide +kernel
  rw [e2] at e1 e
  rw [e3] at e
  show (PySem.Builtin.Str.glued "," (partsG d (moreG d.length))).length ≤ 1300
  rw [StrLaws.glued_eq_join]
  have e4 : (List.map (fun x : Str => x.length) (partsG d (moreG d.length))).sum ≤ 3 * (moreG d.length + 1) := e1
  have e5 := Nat.le_trans e (Nat.add_le_add_right e4 _)
  omega
end HT
namespace HT
open PySem L2
theorem dig_ok {fig : Int} {pl : Nat} (h0 : -10 ^ 62 < fig) (h1 : fig < 10 ^ 62) (hp : pl ≤ 60) : DigOk (digM fig pl) pl := by
  have hn : 0 ≤ (if fig < 0 then -fig else fig) := by split <;> omega
  have hb : (if fig < 0 then -fig else fig) < 10 ^ 62 := by split <;> omega
  have e := PyProof.Rows.len_zfill (PySem.Str.ofString (toString (if fig < 0 then -fig else fig))) ((pl : Int) + 1)
  have b := PyProof.Rows.toString_length_le hn (k := 62) (by decide) hb
  have z : ((digM fig pl).length : Int) = _ := e
  have c : pl + 1 ≤ (digM fig pl).length ∧ (digM fig pl).length ≤ 300 := by
    by_cases g : decide (((PySem.Str.ofString (toString (if fig < 0 then -fig else fig))).length : Int) < (pl : Int) + 1) = true
    · rw [if_pos g] at z
      omega
    · rw [if_neg g] at z
      have g' : ¬ ((PySem.Str.ofString (toString (if fig < 0 then -fig else fig))).length : Int) < (pl : Int) + 1 := fun x => g (decide_eq_true x)
      omega
  exact ⟨c.1, c.2⟩
end HT
namespace HT
open PySem L2
/-- a def of which errors may come, and its call -/
structure CalX (P : Program) (w : World) (K : PySem.W.Frag) (mg : Str → Option Value) (base : Heap) (x : Str) (k : Nat) (ps : List Str) (sp : Sp) (f : Addr) (fd : FuncData) : Prop where
  ok : FnOk P w K mg base (L2.CX P w) k f fd ps sp
  mgf : mg x = some (.ref f)
  kp : PySem.W.keepIn K (.ref f) = true
  b : Binds K fd ps []
theorem pcx {X : Cx} {x : Str} {k j : Nat} {ps : List Str} {sp : Sp} {f : Addr} {fd : FuncData} {e : Expr} {es : List Expr} {t : TA} {p pos : Pos} {W : WX} (C : CalX X.prog X.w X.K X.mg X.base x k ps sp f fd) (hr : Room j X.A) (hj : k ≤ j) (hg : Gl X x) (tk : L2.Takes X W) (ha : PA X (e :: es) t)
    (hdb : (x == ("__debug__" : Str)) = false := by decide) (he : starEach (e :: es) X.env = (false, eval e X.env) :: starEach es X.env := by rfl) (hpl : (backTo pos (starEach es X.env)).any (·.1) = false := by rfl) : PE X (.Call (.Name x p) (e :: es) [] pos) (tCallS sp (WE W) t) :=
  pe_callS C.ok (hr.mono hj) hg C.mgf C.kp C.b (fun σ => L2.passAt tk σ) ha hdb he hpl
end HT
namespace HT
open PySem L2
def spValX (C : Nat → Addr) : Sp := fun vs H Q E => ∃ (x : V) (n : String), vs = [x] ∧ Th H x n ∧ (isI n = true → Q .non H) ∧ (isI n = false → E (.ref (C 0)) none H)
def isB (n : String) : Bool := n == "bool"
def spStyleX (C : Nat → Addr) : Sp := fun vs H Q E => ∃ (x y z : V) (n m o : String), vs = [x, y, z] ∧ Th H x n ∧ Th H y m ∧ Th H z o ∧ ((isB n && (isB m && inB z 0 200)) = true → Q .non H) ∧ ((isB n && (isB m && inB z 0 200)) = false → E (.ref (C 2)) none H)
/-- what text_of comes to: 0, 1, 2 are errors -/
inductive Come (H : Hp) (C : Nat → Addr) (Q : VK) (E : XK) : V → V → V → V → V → Prop where
  | val {x y z u v : V} {n : String} (t : Th H x n) (h : isI n = false) (q : E (.ref (C 0)) none H) : Come H C Q E x y z u v
  | plc {y z u v : V} {fig : Int} {n : String} (t : Th H y n) (h : inB y 0 60 = false) (q : E (.ref (C 1)) none H) : Come H C Q E (.int fig) y z u v
  | sty {z u v : V} {fig pl : Int} {n m o : String} (h : inB (.int pl) 0 60 = true) (t1 : Th H z n) (t2 : Th H u m) (t3 : Th H v o) (b : (isB n && (isB m && inB v 0 200)) = false) (q : E (.ref (C 2)) none H) : Come H C Q E (.int fig) (.int pl) z u v
  | good {fig : Int} {pl : Nat} {sg gr : Bool} {wd : Int} (f0 : -10 ^ 62 < fig) (f1 : fig < 10 ^ 62) (p1 : pl ≤ 60) (w0 : 0 ≤ wd) (w1 : wd ≤ 200) (q : ∀ H', Same H H' → Q (.str (textM fig pl sg gr wd)) H') : Come H C Q E (.int fig) (.int (pl : Int)) (.bl sg) (.bl gr) (.int wd)
def spTextX (C : Nat → Addr) : Sp := fun vs H Q E => ∃ x y z u v : V, vs = [x, y, z, u, v] ∧ Come H C Q E x y z u v
theorem int_of {H : Hp} {x : V} {n : String} (t : Th H x n) (h : isI n = true) : ∃ i, x = .int i := by
  cases t <;> first | exact ⟨_, rfl⟩ | exact absurd h (by decide)
theorem bl_of {H : Hp} {x : V} {n : String} (t : Th H x n) (h : isB n = true) : ∃ b, x = .bl b := by
  cases t <;> first | exact ⟨_, rfl⟩ | exact absurd h (by decide)
theorem inB_of {x : V} {a b : Int} (h : inB x a b = true) : ∃ i, x = .int i ∧ a ≤ i ∧ i ≤ b := by
  cases x with
  | int i =>
    have h' : (decide (a ≤ i) && decide (i ≤ b)) = true := h
    rw [Bool.and_eq_true] at h'
    exact ⟨i, rfl, of_decide_eq_true h'.1, of_decide_eq_true h'.2⟩
  | _ => cases h
section
variable {P : Program} {w : World} {K : PySem.W.Frag} {mg : Str → Option Value} {base : Heap} {tP tW : Tok} {fI fV fB fC fG fM B : Addr} {dI dV dB dC dG dM : FuncData} {C : Nat → Addr}
theorem ok_val_x {f : Addr} {fd : FuncData} (F : Fun K "check_value" "check_value" s_check_value f fd) (R : Er K mg C B) (I : Cal P w K mg base "is_int" 1 ["thing"] spIsAny fI dI) : FnOk P w K mg base (L2.CX P w) 2 f fd ["value"] (spValX C) := by
  refine F.okX sc_check_value (fun vs H Q E h => ?_) (fun cdv A outer s H vs Q E hr h => ?_)
  · obtain ⟨x, n, rfl, _⟩ := h
    rfl
  · obtain ⟨x, n, rfl, t, q1, q2⟩ := h
    refine ⟨_, pss_one (ps_if (pt_not (pt_val (pcl I hr (by decide) (by rfl) (pa_cons (pv 0) pa_nil)))) (pss_one (ps_raise rfl (takes_of rfl rfl rfl rfl) (pmk_own PySem.F.excBase_ValueError (R.ex 0 (by decide)) R.g0 (R.kp 0 (by decide)) (raises_own (R.sb 0 (by decide)) (R.ty 0 (by decide))) (by rfl)))) pss_nil), ?_⟩
    walk_at "rd"
    refine ⟨x, n, rfl, t, ?_⟩
    walk_at "rd"
    refine ite2 (fun h => ?_) (fun h => ?_)
    · exact q2 (by simpa using h)
    · exact q1 (not_f h)
theorem ok_style_x {f : Addr} {fd : FuncData} (F : Fun K "_check_style" "_check_style" s_check_style f fd) (T : TxtT mg tP tW) (R : Er K mg C B) (Bt : Cal P w K mg base "is_int_between" 2 ["thing", "least", "most"] spBetAny fB dB) : FnOk P w K mg base (L2.CX P w) 3 f fd ["sign", "group", "width"] (spStyleX C) := by
  refine F.okX sc_check_style (fun vs H Q E h => ?_) (fun cdv A outer s H vs Q E hr h => ?_)
  · obtain ⟨x, y, z, n, m, o, rfl, _⟩ := h
    rfl
  · obtain ⟨x, y, z, n, m, o, rfl, t1, t2, t3, q1, q2⟩ := h
    refine ⟨_, pss_cons (ps_if (PW.pt (pw_or (pt_not (pt_val (pe_callB call_isi (by rfl) T.isi (by decide +kernel) (pa_cons (pv 0) (pa_cons (pe_bltn (v := .ty "bool") (by rfl) T.bool (by decide +kernel) rfl) pa_nil)))))
        (pw_or1 (pt_not (pt_val (pe_callB call_isi (by rfl) T.isi (by decide +kernel) (pa_cons (pv 1) (pa_cons (pe_bltn (v := .ty "bool") (by rfl) T.bool (by decide +kernel) rfl) pa_nil)))))))) (pss_one (ps_raise rfl (takes_of rfl rfl rfl rfl) (pmk_own PySem.F.excBase_ValueError (R.ex 2 (by decide)) R.g2 (R.kp 2 (by decide)) (raises_own (R.sb 2 (by decide)) (R.ty 2 (by decide))) (by rfl)))) pss_nil)
      (pss_one (ps_if (pt_not (pt_val (pcl Bt hr (by decide) (by rfl) (pa_cons (pv 2) (pa_cons pe_int (pa_cons (pe_glob (v := .int 200) (by rfl) T.gW ⟨_, rfl⟩) pa_nil)))))) (pss_one (ps_raise rfl (takes_of rfl rfl rfl rfl) (pmk_own PySem.F.excBase_ValueError (R.ex 2 (by decide)) R.g2 (R.kp 2 (by decide)) (raises_own (R.sb 2 (by decide)) (R.ty 2 (by decide))) (by rfl)))) pss_nil)), ?_⟩
    walk_at "rd"
    refine ⟨_, _, _, _, _, rfl, .ty "bool", t1.ty, t1.kbool, ?_⟩
    walk_at "rd"
    refine ite2 (fun h => ?_) (fun h1 => ?_)
    · have e : isB n = false := by
        cases hh : isB n with
        | false => rfl
        | true => exact (not_t h hh).elim
      rw [e] at q2
      exact q2 rfl
    have e1 : isB n = true := not_f h1
    rw [e1] at q1 q2
    walk_at "rd"
    refine ⟨_, _, _, _, _, rfl, .ty "bool", t2.ty, t2.kbool, ?_⟩
    walk_at "rd"
    refine ite2 (fun h => ?_) (fun h2 => ?_)
    · have e : isB m = false := by
        cases hh : isB m with
        | false => rfl
        | true => exact (not_t h hh).elim
      rw [e] at q2
      exact q2 rfl
    have e2 : isB m = true := not_f h2
    rw [e2] at q1 q2
    walk_at "rd"
    refine ⟨_, _, _, _, rfl, t3, ?_⟩
    refine ⟨_, rfl, ?_⟩
    refine ite2 (fun h => ?_) (fun h3 => ?_)
    · exact q2 (by simpa using h)
    · exact q1 (not_f h3)
theorem ok_text_x {f : Addr} {fd : FuncData} (F : FunD K "text_of" "text_of" (defArgs s_text_of) (defBody s_text_of) (defScope s_text_of) [] [("sign", .bl false), ("group", .bl false), ("width", .int 0)] f fd) (T : TxtT mg tP tW) (R : Er K mg C B)
    (V' : CalX P w K mg base "check_value" 2 ["value"] (spValX C) fV dV) (Bt : Cal P w K mg base "is_int_between" 2 ["thing", "least", "most"] spBetAny fB dB) (St : CalX P w K mg base "_check_style" 3 ["sign", "group", "width"] (spStyleX C) fC dC)
    (G : Cal P w K mg base "_grouped" 1 ["digits"] spGrouped fG dG) (M : Cal P w K mg base "_mark" 1 ["figure", "sign"] spMark fM dM) :
    FnOk P w K mg base (L2.CX P w) 4 f fd ["figure", "places", "sign", "group", "width"] (spTextX C) := by
  refine F.ok sc_text_of (fun vs H Q E h => ?_) (fun cdv A outer s H vs Q E hr h => ?_)
  · obtain ⟨x, y, z, u, v, rfl, _⟩ := h
    rfl
  · obtain ⟨x, y, z, u, v, rfl, cm⟩ := h
    have nd := sc_text_of.nd
    refine ⟨_, pss_cons (ps_expr (pcx V' hr (by decide) (by rfl) (takes_of rfl rfl rfl rfl) (pa_cons (pv 0) pa_nil)))
      (pss_cons (ps_if (pt_not (pt_val (pcl Bt hr (by decide) (by rfl) (pa_cons (pv 1) (pa_cons pe_int (pa_cons (pe_glob (v := .int 60) (by rfl) T.gP ⟨_, rfl⟩) pa_nil)))))) (pss_one (ps_raise rfl (takes_of rfl rfl rfl rfl) (pmk_own PySem.F.excBase_ValueError (R.ex 1 (by decide)) R.g1 (R.kp 1 (by decide)) (raises_own (R.sb 1 (by decide)) (R.ty 1 (by decide))) (by rfl)))) pss_nil)
      (pss_cons (ps_expr (pcx St hr (by decide) (by rfl) (takes_of rfl rfl rfl rfl) (pa_cons (pv 2) (pa_cons (pv 3) (pa_cons (pv 4) pa_nil)))))
      (pss_cons (ps_set (i := 5) nd rfl (Or.inl rfl) (pe_bm PySem.F.plainAttrs_str PySem.F.slot_str_zfill PySem.F.type_str_zfill mt_zfill (pe_callTy call_str_int (by rfl) T.str (by decide +kernel) (pa_cons (pe_callB call_abs (by rfl) T.abs (by decide +kernel) (pa_cons (pv 0) pa_nil)) pa_nil)) (pa_cons (pe_op op_add (pv 1) pe_int) pa_nil)))
      (pss_cons (ps_set (i := 6) nd rfl (Or.inl rfl) (pe_op op_sub (pe_callB call_len_str (by rfl) T.len PySem.boot_len (pa_cons (pv 5) pa_nil)) (pv 1)))
      (pss_cons (ps_set (i := 7) nd rfl (Or.inl rfl) (pe_slice sl_str (pv 5) po_none (po_some (pv 6))))
      (pss_cons (ps_if (pt_val (pv 3)) (pss_one (ps_set (i := 7) nd rfl (Or.inl rfl) (pcl G hr (by decide) (by rfl) (pa_cons (pv 7) pa_nil)))) pss_nil)
      (pss_cons (ps_if (pt_cmpR op_gt (pv 1) pe_int (nomark _)) (pss_one (ps_set (i := 7) nd rfl (Or.inl rfl) (pe_op op_add_str (pe_op op_add_str (pv 7) pe_str) (pe_slice sl_str (pv 5) (po_some (pv 6)) po_none)))) pss_nil)
      (pss_one (ps_ret (pe_bm PySem.F.plainAttrs_str PySem.F.slot_str_rjust PySem.F.type_str_rjust mt_rjust (pe_op op_add_str (pcl M hr (by decide) (by rfl) (pa_cons (pv 0) (pa_cons (pv 2) pa_nil))) (pv 7)) (pa_cons (pv 4) pa_nil))))))))))), ?_⟩
    walk_at "rd"
    cases cm with
    | val t h q =>
      exact ⟨_, _, rfl, t, fun z => absurd (z.symm.trans h) (by decide), fun _ => q⟩
    | @plc _ _ _ _ fig n t h q =>
      refine ⟨_, _, rfl, .int fig, fun _ => ?_, fun z => absurd z (by decide)⟩
      walk_at "rd"
      refine ⟨_, _, _, _, rfl, t, ?_⟩
      refine ⟨_, rfl, ?_⟩
      exact ite2 (fun _ => q) (fun z => absurd (by rw [h]; rfl) z)
    | @sty _ _ _ fig pl n m o h t1 t2 t3 b q =>
      refine ⟨_, _, rfl, .int fig, fun _ => ?_, fun z => absurd z (by decide)⟩
      walk_at "rd"
      refine ⟨_, _, _, _, rfl, .int pl, ?_⟩
      refine ⟨_, rfl, ?_⟩
      refine ite2 (fun z => (not_t z h).elim) (fun _ => ?_)
      walk_at "rd"
      exact ⟨_, _, _, _, _, _, rfl, t1, t2, t3, fun z => absurd (z.symm.trans b) (by decide), fun _ => q⟩
    | @good fig pl sg gr wd f0 f1 p1 w0 w1 q =>
      refine ⟨_, _, rfl, .int fig, fun _ => ?_, fun z => absurd z (by decide)⟩
      walk_at "rd"
      have e1 : inB (.int (pl : Int)) 0 60 = true := by
        show (decide ((0 : Int) ≤ (pl : Int)) && decide ((pl : Int) ≤ 60)) = true
        rw [decide_eq_true (by omega), decide_eq_true (by omega)]
        rfl
      have e2 : inB (.int wd) 0 200 = true := by
        show (decide ((0 : Int) ≤ wd) && decide (wd ≤ 200)) = true
        rw [decide_eq_true w0, decide_eq_true w1]
        rfl
      refine ⟨_, _, _, _, rfl, .int (pl : Int), ?_⟩
      refine ⟨_, rfl, ?_⟩
      refine ite2 (fun z => (not_t z e1).elim) (fun _ => ?_)
      walk_at "rd"
      refine ⟨_, _, _, _, _, _, rfl, .bl sg, .bl gr, .int wd, fun _ => ?_, fun z => absurd z (by rw [e2]; decide)⟩
      walk_at "rd"
      have hD := dig_ok f0 f1 p1
      obtain ⟨dlo, dhi⟩ := id hD
      have sl : (digM fig pl).length ≤ sizeLine := Nat.le_trans dhi (by decide)
      refine ⟨log_fig f0 f1, ?_⟩
      refine ⟨rfl, ?_⟩
      walk_at "rd"
      refine ⟨padOk (by omega) (by omega), ?_⟩
      walk_at "rd"
      refine ⟨sl, ?_⟩
      walk_at "rd"
      refine ⟨sl, ?_⟩
      walk_at "rd"
      have cl : (cutS (digM fig pl) none (some (((digM fig pl).length : Int) - (pl : Int)))).length = (((digM fig pl).length : Int) - (pl : Int)).toNat := cut_pre (by omega)
      have cl2 := cutS_len_le (digM fig pl) (some (((digM fig pl).length : Int) - (pl : Int))) none
      have c1 : 1 ≤ (cutS (digM fig pl) none (some (((digM fig pl).length : Int) - (pl : Int)))).length := by rw [cl]; omega
      have c2 : (cutS (digM fig pl) none (some (((digM fig pl).length : Int) - (pl : Int)))).length ≤ 1000 := by rw [cl]; omega
      have c3 : (cutS (digM fig pl) none (some (((digM fig pl).length : Int) - (pl : Int)))).length ≤ 300 := by rw [cl]; omega
      have fin : ∀ (t : Str) (H' : Hp), t = (if gr = true then groupM (cutS (digM fig pl) none (some (((digM fig pl).length : Int) - (pl : Int)))) else cutS (digM fig pl) none (some (((digM fig pl).length : Int) - (pl : Int)))) → Same H H' →
          Q (.str (Txt.rjust (markM fig sg ++ (if 0 < pl then t ++ ("." : Str) ++ cutS (digM fig pl) (some (((digM fig pl).length : Int) - (pl : Int))) none else t)) wd)) H' := fun t H' e sm => by
        have z := q H' sm
        subst e
        exact z
      have mk : (markM fig sg).length ≤ 1 := by
        unfold markM
        split
        · decide +kernel
        · split <;> decide +kernel
      refine ite2 (fun h => ?A) (fun h => ?B)
      case' A =>
        walk_at "rd"
        refine ⟨c1, c2, fun H1 sm => ?_⟩
        obtain ⟨t, ht⟩ : ∃ t, t = groupM (cutS (digM fig pl) none (some (((digM fig pl).length : Int) - (pl : Int)))) := ⟨_, rfl⟩
        have tl : t.length ≤ 1300 := by rw [ht]; exact group_len c1 c3
        have fin' := fin t H1 (by rw [if_pos h, ht]) sm
      case' B =>
        obtain ⟨t, ht⟩ : ∃ t, t = cutS (digM fig pl) none (some (((digM fig pl).length : Int) - (pl : Int))) := ⟨_, rfl⟩
        have tl : t.length ≤ 1300 := by rw [ht]; omega
        have fin' := fin t H (by rw [if_neg h, ht]) (Same.refl H)
      all_goals
        walk_at "rd"
        refine ite2 (fun g => ?_) (fun g => ?_)
        · have g' : 0 < pl := by
            have := of_decide_eq_true g
            omega
          rw [if_pos g'] at fin'
          rw [ht] at fin' tl
          walk_at "rd"
          refine ⟨le_line (Nat.add_le_add tl (Nat.le_of_eq dl)), ?_⟩
          walk_at "rd"
          refine ⟨sl, ?_⟩
          walk_at "rd"
          refine ⟨le_line (Nat.add_le_add (Nat.le_trans (Nat.le_of_eq (str_app _ _)) (Nat.add_le_add tl (Nat.le_of_eq dl))) (Nat.le_trans cl2 dhi)), ?_⟩
          walk_at "rd"
          refine ⟨fig, sg, rfl, ?_⟩
          walk_at "rd"
          refine ⟨le_line (Nat.add_le_add mk (Nat.le_trans (Nat.le_of_eq (str_app _ _)) (Nat.add_le_add (Nat.le_trans (Nat.le_of_eq (str_app _ _)) (Nat.add_le_add tl (Nat.le_of_eq dl))) (Nat.le_trans cl2 dhi)))), ?_⟩
          refine ⟨rfl, ?_⟩
          walk_at "rd"
          exact ⟨padOk w0 (by omega), fin'⟩
        · have g' : ¬ 0 < pl := fun z => g (decide_eq_true (by omega))
          rw [if_neg g'] at fin'
          rw [ht] at fin' tl
          walk_at "rd"
          refine ⟨fig, sg, rfl, ?_⟩
          walk_at "rd"
          refine ⟨le_line (Nat.add_le_add mk tl), ?_⟩
          refine ⟨rfl, ?_⟩
          walk_at "rd"
          exact ⟨padOk w0 (by omega), fin'⟩
end
end HT
namespace HT
open PySem L2 PySem.Spec PyProof.Rows
/-- text_of, which may raise -/
structure TxX (P : Program) (w : World) (K : PySem.W.Frag) (mg : Str → Option Value) (base : Heap) (C : Nat → Addr) (f : Addr) (fd : FuncData) : Prop where
  D : FunD K "text_of" "text_of" (defArgs s_text_of) (defBody s_text_of) (defScope s_text_of) [] [("sign", .bl false), ("group", .bl false), ("width", .int 0)] f fd
  ok : FnOk P w K mg base (L2.CX P w) 4 f fd ["figure", "places", "sign", "group", "width"] (spTextX C)
  gl : mg "text_of" = some (.ref f)
  kp : PySem.W.keepIn K (.ref f) = true
/-- a call by keywords, where what is raised is wished for at the caller's slots -/
def tKS (n m : Nat) (sp : Sp) (gV : List V → List V → List V) (W : WX) (t tk : TA) : TE := fun σ H Q => t σ H fun vs H1 => tk σ H1 fun zs H2 => vs.length = n ∧ zs.length = m ∧ sp (gV vs zs) H2 Q (WE W σ)
section
variable {X : Cx} {k n : Nat} {f : Addr} {fd : FuncData} {ps ks : List Str} {sp : Sp} {x : Str} {p pos : Pos} {e : Expr} {es : List Expr} {kws : List Keyword} {t tk : TA} {W : WX} {g : List Value → List Value → List Value} {gV : List V → List V → List V}
theorem pe_kS (F : FnOk X.prog X.w X.K X.mg X.base (L2.CX X.prog X.w) k f fd ps sp) (room : Room k X.A) (glob : Gl X x) (mgx : X.mg x = some (.ref f)) (keep : PySem.W.keepIn X.K (.ref f) = true) (bind : KBn X.K fd ps n ks g gV) (takes : L2.Takes X W) (pos' : PA X (e :: es) t) (key' : PK X kws tk)
    (every : (backToKw pos (keywordEach kws X.env)).all (·.1.isSome) = true := by rfl) (names : (backToKw pos (keywordEach kws X.env)).filterMap (·.1) = ks := by rfl) (plain : (x == ("__debug__" : Str)) = false := by decide) (first : starEach (e :: es) X.env = (false, eval e X.env) :: starEach es X.env := by rfl)
    (star : ((backTo pos (starEach (e :: es) X.env)).any (·.1) || (backToKw pos (keywordEach kws X.env)).any (·.1.isNone)) = false := by rfl) : PE X (.Call (.Name x p) (e :: es) kws pos) (tKS n ks.length sp gV W t tk) where
  run := fun pins sh st H Q iv want => by
    refine wpAny_Call_Name_kw (ld_glob iv glob mgx (PySem.W.callWith_KW (h₀ := X.base) iv.ok.mod.kin keep every (thn (pos'.run pos pins sh st H _ iv want) fun us sh1 ⟨vs, H1, iv1, rel1, q1⟩ => ?_) star first) plain)
    refine thn (key'.run pos pins sh1 st H1 _ iv1 q1) fun ws sh2 ⟨zs, H2, iv2, rel2, len1, len2, q2⟩ => ⟨iv2.kIn, ?_⟩
    rw [names]
    have both := bind.rel rel1 rel2
    refine wpAny_call (codeAny_mono (F.run X.A X.stack sh2 H2 ⟨us, ks.zip ws⟩ (g us ws) (gV vs zs) Q (WE W st) room iv2.env0 (bind.to sh2 us ws iv2.kIn (rel1.length.symm.trans len1) (rel2.length.symm.trans len2)) both q2) fun res sh3 came => ?_)
    match res, came with
    | .error err, came => exact L2.passAt takes st pins H2 sh2 err sh3 iv2 came
    | .ok (.ret u), came => exact iv2.after came
    | .ok .next, came => exact came.elim
    | .ok .brk, came => exact came.elim
    | .ok .cont, came => exact came.elim
end
abbrev psT : List Str := ["figure", "places", "sign", "group", "width"]
section
variable {X : Cx} {j : Nat} {f : Addr} {fd : FuncData} {C : Nat → Addr} {e : Expr} {es : List Expr} {kws : List Keyword} {t tk : TA} {p pos : Pos} {W : WX}
/-- text_of(a, b) -/
theorem pcX2 (T : TxX X.prog X.w X.K X.mg X.base C f fd) (hr : Room j X.A) (hj : 4 ≤ j) (hg : Gl X "text_of") (takes : L2.Takes X W) (ha : PA X (e :: es) t)
    (he : starEach (e :: es) X.env = (false, eval e X.env) :: starEach es X.env := by rfl) (hpl : (backTo pos (starEach es X.env)).any (·.1) = false := by rfl) : PE X (.Call (.Name "text_of" p) (e :: es) [] pos) (tCallSD (spTextX C) [.bl false, .bl false, .int 0] (WE W) t) := by
  obtain ⟨ds, hd, hb⟩ := T.D.binds0 (ps := psT) 2 (by simp) rfl fun D doc pm an cdv ct us ks hu hk => match us, hu, ks, hk with
    | [_, _], _, [_, _, _], _ => ⟨_, _, _, _, _, _, rfl, rfl, _, _, _, _, _, _, rfl, rfl, _, _, _, _, _, _, rfl, rfl, rfl⟩
  exact pe_callSD T.ok (hr.mono hj) hg T.gl T.kp hb hd (fun σ => L2.passAt takes σ) ha (by decide) he hpl
/-- text_of(a, b, sign=, group=, width=) -/
theorem pcX3 (T : TxX X.prog X.w X.K X.mg X.base C f fd) (hr : Room j X.A) (hj : 4 ≤ j) (hg : Gl X "text_of") (takes : L2.Takes X W) (ha : PA X (e :: es) t) (hkw : PK X kws tk) (hall : (backToKw pos (keywordEach kws X.env)).all (·.1.isSome) = true := by rfl) (hks : (backToKw pos (keywordEach kws X.env)).filterMap (·.1) = (["sign", "group", "width"] : List Str) := by rfl)
    (he : starEach (e :: es) X.env = (false, eval e X.env) :: starEach es X.env := by rfl) (hpl : ((backTo pos (starEach (e :: es) X.env)).any (·.1) || (backToKw pos (keywordEach kws X.env)).any (·.1.isNone)) = false := by rfl) :
    PE X (.Call (.Name "text_of" p) (e :: es) kws pos) (tKS 2 3 (spTextX C) (fun vs zs => vs ++ zs) W t tk) := by
  obtain ⟨mv, hb⟩ := T.D.kbinds0 (ps := psT) 2 ["sign", "group", "width"] [] (fun a _ z => a ++ z) (by simp) (fun _ h => by cases h) (fun a _ c => a.append c) fun D doc pm an cdv ct us mv ws hu hm hw => match us, hu, mv, hm, ws, hw with
    | [_, _], _, [], _, [_, _, _], _ => rfl
  exact pe_kS T.ok (hr.mono hj) hg T.gl T.kp hb takes ha hkw hall hks (by decide) he hpl
/-- text_of(a, b, width=) -/
theorem pcXw (T : TxX X.prog X.w X.K X.mg X.base C f fd) (hr : Room j X.A) (hj : 4 ≤ j) (hg : Gl X "text_of") (takes : L2.Takes X W) (ha : PA X (e :: es) t) (hkw : PK X kws tk) (hall : (backToKw pos (keywordEach kws X.env)).all (·.1.isSome) = true := by rfl) (hks : (backToKw pos (keywordEach kws X.env)).filterMap (·.1) = (["width"] : List Str) := by rfl)
    (he : starEach (e :: es) X.env = (false, eval e X.env) :: starEach es X.env := by rfl) (hpl : ((backTo pos (starEach (e :: es) X.env)).any (·.1) || (backToKw pos (keywordEach kws X.env)).any (·.1.isNone)) = false := by rfl) :
    PE X (.Call (.Name "text_of" p) (e :: es) kws pos) (tKS 2 1 (spTextX C) (fun vs zs => vs ++ [.bl false, .bl false] ++ zs) W t tk) := by
  obtain ⟨mv, hb⟩ := T.D.kbinds0 (ps := psT) 2 ["width"] [("sign", .bl false), ("group", .bl false)] (fun a m z => a ++ m ++ z) (by simp) (fun q h => by
    simp only [List.mem_cons, List.not_mem_nil, or_false] at h ⊢
    rcases h with h | h
    · exact .inl h
    · exact .inr (.inl h)) (fun a b c => (a.append b).append c) fun D doc pm an cdv ct us mv ws hu hm hw => match us, hu, mv, hm, ws, hw with
    | [_, _], _, [_, _], _, [_], _ => ⟨_, _, _, _, _, _, rfl, rfl, _, _, _, _, _, _, rfl, rfl, rfl⟩
  exact pe_kS T.ok (hr.mono hj) hg T.gl T.kp hb takes ha hkw hall hks (by decide) he hpl
/-- text_of(a, b, group=) -/
theorem pcXg (T : TxX X.prog X.w X.K X.mg X.base C f fd) (hr : Room j X.A) (hj : 4 ≤ j) (hg : Gl X "text_of") (takes : L2.Takes X W) (ha : PA X (e :: es) t) (hkw : PK X kws tk) (hall : (backToKw pos (keywordEach kws X.env)).all (·.1.isSome) = true := by rfl) (hks : (backToKw pos (keywordEach kws X.env)).filterMap (·.1) = (["group"] : List Str) := by rfl)
    (he : starEach (e :: es) X.env = (false, eval e X.env) :: starEach es X.env := by rfl) (hpl : ((backTo pos (starEach (e :: es) X.env)).any (·.1) || (backToKw pos (keywordEach kws X.env)).any (·.1.isNone)) = false := by rfl) :
    PE X (.Call (.Name "text_of" p) (e :: es) kws pos) (tKS 2 1 (spTextX C) (fun vs zs => vs ++ (.bl false :: (zs ++ [.int 0]))) W t tk) := by
  obtain ⟨mv, hb⟩ := T.D.kbinds0 (ps := psT) 2 ["group"] [("sign", .bl false), ("width", .int 0)] (fun a m z => a ++ (m.take 1 ++ (z ++ m.drop 1))) (by simp) (fun q h => by
    simp only [List.mem_cons, List.not_mem_nil, or_false] at h ⊢
    rcases h with h | h
    · exact .inl h
    · exact .inr (.inr h)) (fun a b c => a.append ((b.take 1).append (c.append (b.drop 1)))) fun D doc pm an cdv ct us mv ws hu hm hw => match us, hu, mv, hm, ws, hw with
    | [_, _], _, [_, _], _, [_], _ => ⟨_, _, _, _, _, _, rfl, rfl, _, _, _, _, _, _, rfl, rfl, rfl⟩
  exact pe_kS T.ok (hr.mono hj) hg T.gl T.kp hb takes ha hkw hall hks (by decide) he hpl
end
end HT
namespace HT
open PySem L2 PySem.NumText TL
theorem tl_cut (z : Str) (a b : Nat) (h : b ≤ (tl z).length) : tl (cutS z (some (a : Int)) (some (b : Int))) = ((tl z).drop a).take (b - a) := by
  have hz : z.length = (tl z).length := len_tl z
  show ((tl z).drop (HT.sIx z.length 0 (some (a : Int)))).take (HT.sIx z.length z.length (some (b : Int)) - HT.sIx z.length 0 (some (a : Int))) = _
  rw [HT.sIx_nat, HT.sIx_nat, hz, Nat.min_eq_left h]
  by_cases g : a ≤ (tl z).length
  · rw [Nat.min_eq_left g]
  · rw [Nat.min_eq_right (by omega), List.drop_eq_nil_of_le (Nat.le_refl _), List.drop_eq_nil_of_le (by omega), List.take_nil, List.take_nil]
theorem tl_comma : tl ("," : Str) = [44] := by
  show tl (Str.ofString ",") = _
  rw [tl_ofString]
  rfl
theorem tl_dot : tl ("." : Str) = [46] := by
  show tl (Str.ofString ".") = _
  rw [tl_ofString]
  rfl
theorem tl_minus : tl ("-" : Str) = [45] := by
  show tl (Str.ofString "-") = _
  rw [tl_ofString]
  rfl
theorem tl_plus : tl ("+" : Str) = [43] := by
  show tl (Str.ofString "+") = _
  rw [tl_ofString]
  rfl
theorem tl_zero : tl ("0" : Str) = [48] := by
  show tl (Str.ofString "0") = _
  rw [tl_ofString]
  rfl
theorem tl_blank : tl (" " : Str) = [32] := by
  show tl (Str.ofString " ") = _
  rw [tl_ofString]
  rfl
theorem tl_empty : tl ("" : Str) = [] := by
  show tl (Str.ofString "") = _
  rw [tl_ofString]
  rfl
theorem one_is {c d : Nat} {s : Str} (hs : tl s = [d]) : (⟨#[c]⟩ : Str) = s ↔ c = d := by
  constructor
  · intro h
    have e := congrArg tl h
    rw [hs] at e
    have e1 : [c] = [d] := e
    injection e1
  · intro h
    refine ext_tl ?_
    rw [hs, ← h]
/-- the point and the digits behind it -/
def fracL : List Nat → List Nat
  | [] => []
  | c :: l => 46 :: c :: l
theorem fracL_len (D : List Nat) : (fracL D).length = if D.length = 0 then 0 else D.length + 1 := by
  cases D with
  | nil => rfl
  | cons c l => rfl
def grpL (gs : List (List Nat)) : List Nat := gs.flatMap (44 :: ·)
theorem grpL_cons (g : List Nat) (gs : List (List Nat)) : grpL (g :: gs) = 44 :: (g ++ grpL gs) := by
  unfold grpL
  rw [List.flatMap_cons]
  rfl
theorem grpL_len : ∀ gs : List (List Nat), (∀ g ∈ gs, g.length = 3) → (grpL gs).length = 4 * gs.length
  | [], _ => rfl
  | g :: gs, h => by
    have := h g (List.mem_cons_self ..)
    rw [grpL_cons, List.length_cons, List.length_append, grpL_len gs (fun x hx => h x (List.mem_cons_of_mem _ hx)), List.length_cons]
    omega
theorem grpL_drop : ∀ (gs : List (List Nat)) (j : Nat), (∀ g ∈ gs, g.length = 3) → j ≤ gs.length → ∀ R : List Nat, (grpL gs ++ R).drop (4 * j) = grpL (gs.drop j) ++ R
  | gs, 0, _, _, R => rfl
  | [], j + 1, _, h, R => absurd h (by simp)
  | g :: gs, j + 1, h, hj, R => by
    have h3 := h g (List.mem_cons_self ..)
    have ih := grpL_drop gs j (fun x hx => h x (List.mem_cons_of_mem _ hx)) (by rw [List.length_cons] at hj; omega) R
    rw [List.drop_succ_cons, ← ih, grpL_cons]
    obtain ⟨a, b, c, rfl⟩ : ∃ a b c, g = [a, b, c] := by
      match g, h3 with
      | [a, b, c], _ => exact ⟨a, b, c, rfl⟩
    rw [show 4 * (j + 1) = 4 * j + 1 + 1 + 1 + 1 by omega]
    rfl
theorem AllDg.append {a b : List Nat} (ha : AllDigits a) (hb : AllDigits b) : AllDigits (a ++ b) := fun c hc => (List.mem_append.mp hc).elim (ha c) (hb c)
end HT
namespace HT
open PySem L2 PySem.NumText TL
theorem numL_head : ∀ n : Nat, 1 ≤ n → (numL n).head? ≠ some 48 := by
  intro n
  induction n using Nat.strongRecOn with
  | _ n ih =>
    intro h
    by_cases g : n < 10
    · rw [numL_lt g]
      intro x
      injection x with x
      omega
    · rw [numL_step (by omega)]
      have := ih (n / 10) (by omega) (by omega)
      cases e : numL (n / 10) with
      | nil => exact absurd e (numL_ne _)
      | cons c l =>
        rw [e] at this
        exact this
theorem val_pad : ∀ (k : Nat) (l : List Nat), digitsVal (List.replicate k 48 ++ l) = digitsVal l
  | 0, l => rfl
  | k + 1, l => by
    rw [List.replicate_succ, List.cons_append, digitsVal_zero, val_pad k l]
def absN (fig : Int) : Nat := fig.natAbs
theorem absN_eq (fig : Int) : (if fig < 0 then -fig else fig) = ((absN fig : Nat) : Int) := by
  unfold absN
  split <;> omega
theorem dig_list (fig : Int) (pl : Nat) : tl (digM fig pl) = List.replicate (pl + 1 - (numL (absN fig)).length) 48 ++ numL (absN fig) := by
  unfold digM
  rw [absN_eq]
  have e : tl (Str.ofString (toString ((absN fig : Nat) : Int))) = numL (absN fig) := tl_num (absN fig)
  generalize Str.ofString (toString ((absN fig : Nat) : Int)) = x at e
  have hl : x.length = (numL (absN fig)).length := by rw [len_tl, e]
  unfold Txt.zfill
  by_cases h : (pl : Int) + 1 ≤ (x.length : Int)
  · rw [if_pos h, e, show pl + 1 - (numL (absN fig)).length = 0 by omega]
    rfl
  · rw [if_neg h]
    have hd : ∀ c, x.cps[0]? = some c → 48 ≤ c := fun c hc => by
      rw [← Array.getElem?_toList] at hc
      have : c ∈ tl x := List.mem_of_getElem? hc
      rw [e] at this
      exact (numL_digits _ c this).1
    have e2 : PySem.zfilled x (((pl : Int) + 1).toNat - x.length) = PySem.Builtin.Str.padded x (((pl : Int) + 1).toNat - x.length) 0 48 := by
      unfold PySem.zfilled
      split
      · rename_i h1
        have := hd _ h1
        omega
      · rename_i h1
        have := hd _ h1
        omega
      · rfl
    rw [e2]
    refine (PyProof.Rows.padded_list _ _ _ _).trans ?_
    rw [show x.cps.toList = numL (absN fig) from e, List.replicate_zero, List.append_nil, hl]
    congr 2
theorem tl_pre (z : Str) {i : Int} {n : Nat} (hi : i = (n : Int)) (h : n ≤ (tl z).length) : tl (cutS z none (some i)) = (tl z).take n := by
  subst hi
  have hz : z.length = (tl z).length := len_tl z
  show ((tl z).drop (HT.sIx z.length 0 none)).take (HT.sIx z.length z.length (some (n : Int)) - HT.sIx z.length 0 none) = _
  rw [HT.sIx_none, HT.sIx_nat, hz, Nat.min_eq_left h]
  rfl
theorem tl_post (z : Str) {i : Int} {n : Nat} (hi : i = (n : Int)) (h : n ≤ (tl z).length) : tl (cutS z (some i) none) = (tl z).drop n := by
  subst hi
  have hz : z.length = (tl z).length := len_tl z
  show ((tl z).drop (HT.sIx z.length 0 (some (n : Int)))).take (HT.sIx z.length z.length none - HT.sIx z.length 0 (some (n : Int))) = _
  rw [HT.sIx_none, HT.sIx_nat, hz, Nat.min_eq_left h, List.take_of_length_le]
  rw [List.length_drop]
  exact Nat.le_refl _
theorem tl_rjust (x : Str) {i : Int} (h : 0 ≤ i) : tl (Txt.rjust x i) = List.replicate (i.toNat - x.length) 32 ++ tl x := by
  unfold Txt.rjust
  by_cases g : i ≤ (x.length : Int)
  · rw [if_pos g, show i.toNat - x.length = 0 by omega]
    rfl
  · rw [if_neg g]
    refine (PyProof.Rows.padded_list _ _ _ _).trans ?_
    rw [List.replicate_zero, List.append_nil]
theorem tl_join : ∀ (ps : List Str) (x : Str), tl (Str.join "," (x :: ps)) = tl x ++ grpL (ps.map tl)
  | [], x => by
    show tl x = tl x ++ []
    rw [List.append_nil]
  | y :: ps, x => by
    show tl (x ++ ("," : Str) ++ Str.join "," (y :: ps)) = _
    rw [tl_append, tl_append, tl_comma, tl_join ps y, List.map_cons, grpL_cons, List.append_assoc]
    rfl
def chunks (l : List Nat) (k : Nat) : List (List Nat) := (List.range k).map fun j => (l.drop (3 * j)).take 3
theorem chunks_flat : ∀ (k : Nat) (l : List Nat), 3 * k ≤ l.length → (chunks l k).flatten = l.take (3 * k)
  | 0, l, _ => rfl
  | k + 1, l, h => by
    have ih := chunks_flat k l (by omega)
    unfold chunks at ih ⊢
    rw [List.range_succ, List.map_append, List.flatten_append, ih]
    show l.take (3 * k) ++ ((l.drop (3 * k)).take 3 ++ []) = _
    rw [List.append_nil, show 3 * (k + 1) = 3 * k + 3 by omega, List.take_add]
theorem chunk_mem {l : List Nat} {k : Nat} (h : 3 * k ≤ l.length) (ad : AllDigits l) : ∀ g ∈ chunks l k, AllDigits g ∧ g.length = 3 := fun g hg => by
  obtain ⟨j, hj, rfl⟩ := List.mem_map.mp hg
  have := List.mem_range.mp hj
  refine ⟨fun c hc => ad c (List.mem_of_mem_drop (List.mem_of_mem_take hc)), ?_⟩
  rw [List.length_take, List.length_drop]
  omega
theorem tl_group {d : Str} (h : 1 ≤ d.length) : tl (groupM d) = (tl d).take (firstG d.length) ++ grpL (chunks ((tl d).drop (firstG d.length)) (moreG d.length)) := by
  have hz : d.length = (tl d).length := len_tl d
  have hf : firstG d.length ≤ d.length := by
    unfold firstG
    omega
  have hk : firstG d.length + 3 * moreG d.length = d.length := by
    unfold moreG firstG
    omega
  show tl (PySem.Builtin.Str.glued "," (partsG d (moreG d.length))) = _
  rw [StrLaws.glued_eq_join]
  unfold partsG
  rw [tl_join, tl_pre d rfl (by omega), List.map_map]
  congr 2
  unfold chunks
  refine List.map_congr_left (fun j hj => ?_)
  have hj' := List.mem_range.mp hj
  show tl (cutS d (some ((firstG d.length : Int) + (j : Int) * 3)) (some ((firstG d.length : Int) + (j : Int) * 3 + 3))) = _
  rw [show (firstG d.length : Int) + (j : Int) * 3 = ((firstG d.length + 3 * j : Nat) : Int) by omega, show ((firstG d.length + 3 * j : Nat) : Int) + 3 = ((firstG d.length + 3 * j + 3 : Nat) : Int) by omega, tl_cut d _ _ (by omega), List.drop_drop]
  congr 1
  omega
theorem tl_mark (fig : Int) (sg : Bool) : tl (markM fig sg) = if fig < 0 then [45] else if 0 < fig ∧ sg = true then [43] else [] := by
  unfold markM
  split
  · exact tl_minus
  · split
    · exact tl_plus
    · exact tl_empty
end HT
namespace HT
open PySem L2 PySem.NumText TL
/-- the law's digits: none of nought -/
def dL (n : Nat) : List Nat := if n = 0 then [] else numL n
theorem dL_zero : dL 0 = [] := rfl
theorem dL_step {n : Nat} (h : 1 ≤ n) : dL n = dL (n / 10) ++ [48 + n % 10] := by
  unfold dL
  rw [if_neg (by omega)]
  by_cases g : n < 10
  · rw [numL_lt g, if_pos (by omega), List.nil_append, Nat.mod_eq_of_lt g]
  · rw [numL_step (by omega), if_neg (by omega)]
theorem dL_digits (n : Nat) : AllDigits (dL n) := by
  unfold dL
  split
  · exact fun _ h => by cases h
  · exact numL_digits n
theorem dL_len {n : Nat} (h : n < 10 ^ 62) : (dL n).length ≤ 62 := by
  unfold dL
  split
  · exact Nat.zero_le _
  · exact numL_len (by decide) h
/-- with noughts ahead, one more than places at least -/
def padL (n pl : Nat) : List Nat := List.replicate (pl + 1 - (dL n).length) 48 ++ dL n
theorem padL_eq (fig : Int) (pl : Nat) : padL (absN fig) pl = tl (digM fig pl) := by
  rw [dig_list]
  unfold padL dL
  by_cases h : absN fig = 0
  · rw [if_pos h, h, numL_lt (by decide)]
    show List.replicate (pl + 1) 48 ++ [] = List.replicate (pl + 1 - 1) 48 ++ [48]
    rw [List.append_nil, Nat.add_sub_cancel, List.replicate_succ']
  · rw [if_neg h]
/-- the digits ahead of the point behind i turns -/
def rowL (gr : Bool) (l : List Nat) : Nat → List Nat
  | 0 => []
  | i + 1 => rowL gr l i ++ ((if gr = true ∧ 0 < i ∧ (l.length - i) % 3 = 0 then [44] else []) ++ (l.drop i).take 1)
theorem take_snoc (l : List Nat) (i : Nat) : l.take i ++ (l.drop i).take 1 = l.take (i + 1) := by
  rw [List.take_add]
theorem rowL_plain (l : List Nat) : ∀ i : Nat, rowL false l i = l.take i
  | 0 => rfl
  | i + 1 => by
    show rowL false l i ++ ((if false = true ∧ 0 < i ∧ (l.length - i) % 3 = 0 then [44] else []) ++ (l.drop i).take 1) = _
    rw [rowL_plain l i, if_neg (fun z => by cases z.1), List.nil_append, take_snoc]
theorem rowL_first (l : List Nat) : ∀ i : Nat, i ≤ firstG l.length → i ≤ l.length → rowL true l i = l.take i
  | 0, _, _ => rfl
  | i + 1, h, hl => by
    show rowL true l i ++ ((if true = true ∧ 0 < i ∧ (l.length - i) % 3 = 0 then [44] else []) ++ (l.drop i).take 1) = _
    have : ¬ (true = true ∧ 0 < i ∧ (l.length - i) % 3 = 0) := fun z => by
      unfold firstG at h
      omega
    rw [rowL_first l i (by omega) (by omega), if_neg this, List.nil_append, take_snoc]
theorem grpL_snoc (gs : List (List Nat)) (g : List Nat) : grpL (gs ++ [g]) = grpL gs ++ (44 :: g) := by
  unfold grpL
  rw [List.flatMap_append]
  show _ ++ ((44 :: g) ++ []) = _
  rw [List.append_nil]
theorem rowL_groups (l : List Nat) (h1 : 1 ≤ l.length) : ∀ j : Nat, j ≤ moreG l.length → rowL true l (firstG l.length + 3 * j) = l.take (firstG l.length) ++ grpL (chunks (l.drop (firstG l.length)) j)
  | 0, _ => by
    rw [rowL_first l _ (by omega) (by unfold firstG; omega)]
    exact (List.append_nil _).symm
  | j + 1, h => by
    have ih := rowL_groups l h1 j (by omega)
    have hk : firstG l.length + 3 * moreG l.length = l.length := by
      unfold moreG firstG
      omega
    have f0 : 1 ≤ firstG l.length := by
      unfold firstG
      omega
    generalize firstG l.length = f at ih hk f0 ⊢
    generalize moreG l.length = m at h hk
    have st : ∀ i, rowL true l (i + 1) = rowL true l i ++ ((if true = true ∧ 0 < i ∧ (l.length - i) % 3 = 0 then [44] else []) ++ (l.drop i).take 1) := fun _ => rfl
    rw [show f + 3 * (j + 1) = f + 3 * j + 1 + 1 + 1 by omega, st, st, st, ih, if_pos ⟨rfl, by omega, by omega⟩, if_neg (fun z => by omega), if_neg (fun z => by omega)]
    have cs : chunks (l.drop f) (j + 1) = chunks (l.drop f) j ++ [((l.drop f).drop (3 * j)).take 3] := by
      unfold chunks
      rw [List.range_succ, List.map_append]
      rfl
    rw [cs, grpL_snoc, List.drop_drop, List.nil_append, List.nil_append]
    have e3 : (l.drop (f + 3 * j)).take 3 = (l.drop (f + 3 * j)).take 1 ++ ((l.drop (f + 3 * j + 1)).take 1 ++ (l.drop (f + 3 * j + 1 + 1)).take 1) := by
      rw [show (3 : Nat) = 1 + (1 + 1) from rfl, List.take_add, List.take_add, List.drop_drop, List.drop_drop]
    rw [e3]
    simp only [List.append_assoc, List.cons_append, List.nil_append]
def markL (fig : Int) (sg : Bool) : List Nat := if fig < 0 then [45] else if 0 < fig ∧ sg = true then [43] else []
def bodyL (fig : Int) (pl : Nat) (sg gr : Bool) : List Nat :=
  let d := padL (absN fig) pl
  let fr := d.take (d.length - pl)
  markL fig sg ++ (rowL gr fr fr.length ++ fracL (d.drop (d.length - pl)))
def dueL (fig : Int) (pl : Nat) (sg gr : Bool) (wd : Int) : List Nat := List.replicate (wd.toNat - (bodyL fig pl sg gr).length) 32 ++ bodyL fig pl sg gr
theorem due_text {fig : Int} {pl : Nat} {sg gr : Bool} {wd : Int} (h0 : -10 ^ 62 < fig) (h1 : fig < 10 ^ 62) (hp : pl ≤ 60) (w0 : 0 ≤ wd) : tl (textM fig pl sg gr wd) = dueL fig pl sg gr wd := by
  obtain ⟨d1, d2⟩ := dig_ok h0 h1 hp
  have dl := padL_eq fig pl
  obtain ⟨d, hd⟩ : ∃ d, d = digM fig pl := ⟨_, rfl⟩
  have et : textM fig pl sg gr wd = Txt.rjust (markM fig sg ++ (if 0 < pl then (if gr = true then groupM (cutS d none (some ((d.length : Int) - (pl : Int)))) else cutS d none (some ((d.length : Int) - (pl : Int)))) ++ ("." : Str) ++ cutS d (some ((d.length : Int) - (pl : Int))) none else (if gr = true then groupM (cutS d none (some ((d.length : Int) - (pl : Int)))) else cutS d none (some ((d.length : Int) - (pl : Int)))))) wd := by
    rw [hd]
    rfl
  rw [← hd] at d1 d2 dl
  have dn : d.length = (tl d).length := len_tl d
  obtain ⟨q, hq⟩ : ∃ q : Nat, q = d.length - pl := ⟨_, rfl⟩
  rw [show (d.length : Int) - (pl : Int) = (q : Int) by omega] at et
  have t1 : tl (cutS d none (some (q : Int))) = (tl d).take q := tl_pre d rfl (by omega)
  have t2 : tl (cutS d (some (q : Int)) none) = (tl d).drop q := tl_post d rfl (by omega)
  generalize cutS d none (some (q : Int)) = a at et t1
  generalize cutS d (some (q : Int)) none = b at et t2
  have al : a.length = (tl a).length := len_tl a
  have la : (tl a).length = q := by rw [t1, List.length_take]; omega
  have bl : (tl b).length = pl := by rw [t2, List.length_drop]; omega
  have fr : ∀ t : Str, tl (if 0 < pl then t ++ ("." : Str) ++ b else t) = tl t ++ fracL (tl b) := fun t => by
    by_cases g : 0 < pl
    · rw [if_pos g, tl_append, tl_append, tl_dot, List.append_assoc]
      cases e : tl b with
      | nil => rw [e] at bl; simp at bl; omega
      | cons c l => rfl
    · rw [if_neg g]
      cases e : tl b with
      | nil => exact (List.append_nil _).symm
      | cons c l => rw [e] at bl; simp at bl; omega
  have fg : tl (if gr = true then groupM a else a) = rowL gr (tl a) (tl a).length := by
    cases gr with
    | false => rw [if_neg (by decide), rowL_plain, List.take_length]
    | true =>
      rw [if_pos rfl, tl_group (by omega), al]
      have := rowL_groups (tl a) (by omega) (moreG (tl a).length) (Nat.le_refl _)
      have hk : firstG (tl a).length + 3 * moreG (tl a).length = (tl a).length := by
        unfold moreG firstG
        omega
      rw [hk] at this
      exact this.symm
  have bd : tl (markM fig sg ++ (if 0 < pl then (if gr = true then groupM a else a) ++ ("." : Str) ++ b else (if gr = true then groupM a else a))) = bodyL fig pl sg gr := by
    unfold bodyL markL
    dsimp only
    rw [tl_append, fr, fg, tl_mark, dl, ← dn, ← hq, t1, t2]
  rw [et, tl_rjust _ w0, bd, len_tl, bd]
  rfl
theorem rowL_len (gr : Bool) (l : List Nat) : ∀ i : Nat, (rowL gr l i).length ≤ 2 * i
  | 0 => Nat.le_refl _
  | i + 1 => by
    have := rowL_len gr l i
    show (rowL gr l i ++ ((if gr = true ∧ 0 < i ∧ (l.length - i) % 3 = 0 then [44] else []) ++ (l.drop i).take 1)).length ≤ _
    rw [List.length_append, List.length_append, List.length_take]
    split
    · have : [44].length = 1 := rfl
      omega
    · have : ([] : List Nat).length = 0 := rfl
      omega
theorem body_len {fig : Int} {pl : Nat} {sg gr : Bool} (h0 : -10 ^ 62 < fig) (h1 : fig < 10 ^ 62) (hp : pl ≤ 60) : (bodyL fig pl sg gr).length ≤ 1200 := by
  obtain ⟨d1, d2⟩ := dig_ok h0 h1 hp
  have dl := congrArg List.length (padL_eq fig pl)
  rw [← len_tl] at dl
  unfold bodyL
  dsimp only
  have r := rowL_len gr ((padL (absN fig) pl).take ((padL (absN fig) pl).length - pl)) ((padL (absN fig) pl).take ((padL (absN fig) pl).length - pl)).length
  rw [List.length_append, List.length_append, fracL_len, List.length_drop]
  have m : (markL fig sg).length ≤ 1 := by
    unfold markL
    split
    · decide
    · split <;> decide
  rw [List.length_take] at r ⊢
  split <;> omega
end HT
namespace HT
open PySem L2 CwR PySem.NumText TL
def chV (c : Nat) : V := .str ⟨#[c]⟩
theorem ch0 : chV 48 = V.str "0" := congrArg V.str (ext_tl (by rw [tl_zero]))
theorem chC : chV 44 = V.str "," := congrArg V.str (ext_tl (by rw [tl_comma]))
theorem chD : chV 46 = V.str "." := congrArg V.str (ext_tl (by rw [tl_dot]))
theorem chM : chV 45 = V.str "-" := congrArg V.str (ext_tl (by rw [tl_minus]))
theorem chP : chV 43 = V.str "+" := congrArg V.str (ext_tl (by rw [tl_plus]))
theorem chB : chV 32 = V.str " " := congrArg V.str (ext_tl (by rw [tl_blank]))
theorem tl_digits : tl ("0123456789" : Str) = [48, 49, 50, 51, 52, 53, 54, 55, 56, 57] := by
  show tl (Str.ofString "0123456789") = _
  rw [tl_ofString]
  rfl
theorem dig_at {r : Nat} (h : r < 10) : atI ("0123456789" : Str).cps.toList (r : Int) = some (48 + r) := by
  rw [show ("0123456789" : Str).cps.toList = [48, 49, 50, 51, 52, 53, 54, 55, 56, 57] from tl_digits]
  revert h
  revert r
  decide +kernel
def spDigits : Sp := fun vs H Q _ => ∃ n : Nat, vs = [.int (n : Int)] ∧ n < 10 ^ 62 ∧ ∀ (l : Addr) (H' : Hp), H l = none → Same H H' → H' l = some (.lst ((dL n).map chV)) → Q (.ref l) H'
section
variable {P : Program} {w : World} {K : PySem.W.Frag} {mg : Str → Option Value} {base : Heap} {fG : Addr} {dG : FuncData}
theorem ok_digits {f : Addr} {fd : FuncData} (F : Fun K "_law_digits" "_law_digits" s_L_digits f fd) (B : Blt mg) : FnOk P w K mg base CX0 1 f fd ["_law_number"] spDigits := by
  refine F.ok sc_L_digits (fun vs H Q E h => ?_) (fun cdv A outer s H vs Q E hr h => ?_)
  · obtain ⟨n, rfl, _⟩ := h
    rfl
  · obtain ⟨n, rfl, hn, q⟩ := h
    have nd := sc_L_digits.nd
    refine ⟨_, pss_cons (ps_set (i := 1) nd rfl (Or.inl rfl) (pe_lst pa_nil))
      (pss_cons (ps_set (i := 2) nd rfl (Or.inl rfl) (pv 0))
      (pss_cons (ps_while PassesOwn.never (pt_cmpR op_gt (pv 2) pe_int (nomark _))
        (pss_cons (ps_expr (pe_bm PySem.F.plainAttrs_list PySem.F.slot_list_append PySem.F.type_list_append mt_append (pv 1) (pa_cons (pe_ix ix_str pe_str (pe_op op_mod (pe_callTy call_int1 (by rfl) B.int (by decide +kernel) (pa_cons (pv 2) pa_nil)) pe_int) (fun _ _ => rfl)) pa_nil)))
        (pss_one (ps_set (i := 2) nd rfl (Or.inl rfl) (pe_op op_fdivW (pe_callTy call_int1 (by rfl) B.int (by decide +kernel) (pa_cons (pv 2) pa_nil)) pe_int)))))
      (pss_one (ps_ret (pe_revL (pv 1)))))), ?_⟩
    walk_at "rd"
    refine ⟨(by show 0 ≤ sizeLine; decide), fun p np => ?_⟩
    walk_at "rd"
    refine ⟨fun μ σ H' => ∃ (m : Nat) (ds : List Nat), μ = m ∧ σ = [some (.int (n : Int)), some (.ref p), some (.int (m : Int))] ∧ dL n = dL m ++ ds.reverse ∧ H' p = some (.lst (ds.map chV)) ∧ ds.length ≤ 62 ∧ Same H H', ⟨_, n, [], rfl, rfl, (List.append_nil _).symm, upd_same, Nat.zero_le _, fun b u z => (upd_ne (ne_of_none z np)).trans z⟩, ?_⟩
    rintro μ σ H' ⟨m, ds, rfl, rfl, e, hp, dl, sm⟩
    walk_at "rd"
    refine ite2 (fun h => ?_) (fun h => ?_)
    · have m1 : 1 ≤ μ := by
        have := of_decide_eq_true h
        omega
      have st := dL_step (n := μ) m1
      have dl2 : ds.length + 1 ≤ 62 := by
        have := congrArg List.length e
        rw [st, List.length_append, List.length_append, List.length_reverse] at this
        have := dL_len hn
        have : [48 + μ % 10].length = 1 := rfl
        omega
      refine ⟨fun σ' H1 => σ' = [some (.int (n : Int)), some (.ref p), some (.int ((μ / 10 : Nat) : Int))] ∧ H1 p = some (.lst ((ds ++ [48 + μ % 10]).map chV)) ∧ Same H H1, ?_, ?_⟩
      · rintro σ' H1 ⟨rfl, hp1, sm1⟩
        refine ⟨μ / 10, by omega, μ / 10, ds ++ [48 + μ % 10], rfl, rfl, ?_, hp1, by rw [List.length_append]; exact dl2, sm1⟩
        rw [e, st, List.reverse_append, List.append_assoc]
        rfl
      walk_at "rd"
      refine ⟨.inl ⟨rfl, _, SqL.of hp⟩, ?_⟩
      walk_at "rd"
      refine ⟨(by show (0 : Int) < 10; decide), ?_⟩
      refine ⟨_, _, 48 + μ % 10, rfl, rfl, (by rw [len_tl, tl_digits]; decide), ?_, ?_⟩
      · show atI ("0123456789" : Str).cps.toList ((μ : Int) % 10) = _
        rw [show (μ : Int) % 10 = ((μ % 10 : Nat) : Int) by omega]
        exact dig_at (Nat.mod_lt _ (by decide))
      refine ⟨p, _, _, rfl, rfl, hp, (by rw [List.length_map]; exact Nat.lt_of_le_of_lt (show _ ≤ 62 by omega) (by decide)), ?_⟩
      walk_at "rd"
      refine ⟨fdiv_ok _ (by decide) (by decide), ?_⟩
      refine ⟨rfl, ?_, fun b u z => (upd_ne (ne_of_none z np)).trans (sm _ _ z)⟩
      rw [upd_same, List.map_append]
      rfl
    · have m0 : μ = 0 := by
        have : ¬ (μ : Int) > 0 := fun x => h (decide_eq_true x)
        omega
      subst m0
      walk_at "rd"
      refine ⟨p, _, rfl, SqL.of hp, fun r nr => ?_⟩
      refine q r _ ?_ (fun b u z => (upd_ne (ne_of_none (sm _ _ z) nr)).trans (sm _ _ z)) ?_
      · cases hh : H r with
        | none => rfl
        | some u =>
          have := sm _ _ hh
          rw [nr] at this
          cases this
      · rw [upd_same, e, dL_zero, List.nil_append, List.map_reverse]
end
end HT
namespace HT
open PySem L2 CwR PySem.NumText TL
def spDueT : Sp := fun vs H Q _ => ∃ (fig : Int) (pl : Nat) (sg gr : Bool) (wd : Int), vs = [.int fig, .int (pl : Int), .bl sg, .bl gr, .int wd] ∧ -10 ^ 62 < fig ∧ fig < 10 ^ 62 ∧ pl ≤ 60 ∧ 0 ≤ wd ∧ wd ≤ 200 ∧ ∀ H', Same H H' → Q (.str (textM fig pl sg gr wd)) H'
theorem false_go {A B : Prop} (h : B) : if false = true then A else B := h
def chS (c : Nat) : Str := ⟨#[c]⟩
theorem chV_map (L : List Nat) : L.map chV = (L.map chS).map V.str := by
  rw [List.map_map]
  rfl
theorem tl_join0 : ∀ L : List Nat, tl (Str.join "" (L.map chS)) = L
  | [] => rfl
  | [c] => rfl
  | c :: d :: L => by
    have ih := tl_join0 (d :: L)
    show tl (chS c ++ ("" : Str) ++ Str.join "" ((d :: L).map chS)) = _
    rw [tl_append, tl_append, tl_empty, ih]
    rfl
theorem join_ch (L : List Nat) {z : Str} (h : tl z = L) : Txt.join "" (L.map chS) = z := by
  refine ext_tl ?_
  show tl (PySem.Builtin.Str.glued "" (L.map chS)) = _
  rw [StrLaws.glued_eq_join, tl_join0, h]
theorem sum_ch : ∀ L : List Nat, ((L.map chS).map (fun x : Str => x.length)).sum = L.length
  | [] => rfl
  | c :: L => by
    rw [List.map_cons, List.map_cons, List.sum_cons, sum_ch L, List.length_cons]
    show 1 + L.length = _
    omega
theorem cutV_pre {xs : List V} {i : Int} {n : Nat} (hi : i = (n : Int)) (h : n ≤ xs.length) : cutV xs none (some i) = xs.take n := by
  subst hi
  show (xs.drop (HT.sIx xs.length 0 none)).take (HT.sIx xs.length xs.length (some (n : Int)) - HT.sIx xs.length 0 none) = _
  rw [HT.sIx_none, HT.sIx_nat, Nat.min_eq_left h]
  rfl
theorem cutV_post {xs : List V} {i : Int} {n : Nat} (hi : i = (n : Int)) (h : n ≤ xs.length) : cutV xs (some i) none = xs.drop n := by
  subst hi
  show (xs.drop (HT.sIx xs.length 0 (some (n : Int)))).take (HT.sIx xs.length xs.length none - HT.sIx xs.length 0 (some (n : Int))) = _
  rw [HT.sIx_none, HT.sIx_nat, Nat.min_eq_left h, List.take_of_length_le]
  rw [List.length_drop]
  exact Nat.le_refl _
theorem rep_flat (x : V) : ∀ n : Nat, (List.replicate n [x]).flatten = List.replicate n x
  | 0 => rfl
  | n + 1 => by
    rw [List.replicate_succ, List.flatten_cons, rep_flat x n, List.replicate_succ]
    rfl
theorem rep_ch (n c : Nat) : List.replicate n (chV c) = (List.replicate n c).map chV := (List.map_replicate).symm
theorem same_upd {H : Hp} {a : Addr} {o : HO} (n : H a = none) : Same H (upd H a o) := fun b u z => (upd_ne (ne_of_none z n)).trans z
theorem pad_len {fig : Int} {pl : Nat} (h0 : -10 ^ 62 < fig) (h1 : fig < 10 ^ 62) (hp : pl ≤ 60) : pl + 1 ≤ (padL (absN fig) pl).length ∧ (padL (absN fig) pl).length ≤ 300 := by
  obtain ⟨d1, d2⟩ := dig_ok h0 h1 hp
  rw [padL_eq, ← len_tl]
  exact ⟨d1, d2⟩
section
variable {P : Program} {w : World} {K : PySem.W.Frag} {mg : Str → Option Value} {base : Heap} {fG : Addr} {dG : FuncData}
theorem ok_due {f : Addr} {fd : FuncData} (F : Fun K "_law_due" "_law_due" s_L_due f fd) (B : Blt mg) (Dg : Cal P w K mg base "_law_digits" 1 ["_law_number"] spDigits fG dG) : FnOk P w K mg base CX0 2 f fd ["_law_figure", "_law_places", "_law_signed", "_law_by_three", "_law_wide"] spDueT := by
  refine F.ok sc_L_due (fun vs H Q E h => ?_) (fun cdv A outer s H vs Q E hr h => ?_)
  · obtain ⟨fig, pl, sg, gr, wd, rfl, _⟩ := h
    rfl
  · obtain ⟨fig, pl, sg, gr, wd, rfl, f0, f1, p1, w0, w1, q⟩ := h
    have nd := sc_L_due.nd
    refine ⟨_, (pss_cons (ps_set (i := 5) nd rfl (Or.inl rfl) (pcl Dg hr (by decide) (by rfl) (pa_cons (pe_callB call_abs (by rfl) B.abs (by decide +kernel) (pa_cons (pv 0) pa_nil)) pa_nil)))
      (pss_cons (ps_set (i := 5) nd rfl (Or.inl rfl) (pe_op op_cat (pe_op op_rep (pe_lst (pa_cons pe_str pa_nil)) (pe_op op_sub (pe_op op_add (pv 1) pe_int) (pe_callB call_len_seq (by rfl) B.len PySem.boot_len (pa_cons (pv 5) pa_nil)))) (pv 5)))
      (pss_cons (ps_set (i := 6) nd rfl (Or.inl rfl) (pe_slice sl_list (pv 5) po_none (po_some (pe_op op_sub (pe_callB call_len_seq (by rfl) B.len PySem.boot_len (pa_cons (pv 5) pa_nil)) (pv 1)))))
      (pss_cons (ps_set (i := 7) nd rfl (Or.inl rfl) (pe_lst pa_nil))
      (pss_cons (ps_for PassesOwn.never rfl (pi_range1 (by rfl) B.range (pa_cons (pe_callB call_len_seq (by rfl) B.len PySem.boot_len (pa_cons (pv 6) pa_nil)) pa_nil)) (pg_name (i := 8) nd rfl (Or.inl rfl)) (pss_cons (ps_if (PW.pt (pw_and (pt_val (pv 3)) (pw_and (pt_cmpR op_gt (pv 8) pe_int (nomark _)) (pw_and1 (pt_cmpR op_eq (pe_op op_mod (pe_op op_sub (pe_callB call_len_seq (by rfl) B.len PySem.boot_len (pa_cons (pv 6) pa_nil)) (pv 8)) pe_int) pe_int (nomark _)))))) (pss_one (ps_expr (pe_bm PySem.F.plainAttrs_list PySem.F.slot_list_append PySem.F.type_list_append mt_append (pv 7) (pa_cons pe_str pa_nil)))) pss_nil)
      (pss_one (ps_expr (pe_bm PySem.F.plainAttrs_list PySem.F.slot_list_append PySem.F.type_list_append mt_append (pv 7) (pa_cons (pe_ix ix_list (pv 6) (pv 8) (fun _ _ => rfl)) pa_nil))))))
      (pss_cons (ps_if (pt_cmpR op_gt (pv 1) pe_int (nomark _)) (pss_one (ps_set (i := 7) nd rfl (Or.inl rfl) (pe_op op_cat (pe_op op_cat (pv 7) (pe_lst (pa_cons pe_str pa_nil))) (pe_slice sl_list (pv 5) (po_some (pe_op op_sub (pe_callB call_len_seq (by rfl) B.len PySem.boot_len (pa_cons (pv 5) pa_nil)) (pv 1))) po_none)))) pss_nil)
      (pss_cons (ps_if (pt_cmpR op_lt (pv 0) pe_int (nomark _)) (pss_one (ps_set (i := 7) nd rfl (Or.inl rfl) (pe_op op_cat (pe_lst (pa_cons pe_str pa_nil)) (pv 7)))) pss_nil)
      (pss_cons (ps_if (PW.pt (pw_and (pt_cmpR op_gt (pv 0) pe_int (nomark _)) (pw_and1 (pt_val (pv 2))))) (pss_one (ps_set (i := 7) nd rfl (Or.inl rfl) (pe_op op_cat (pe_lst (pa_cons pe_str pa_nil)) (pv 7)))) pss_nil)
      (pss_one (ps_ret (pe_bm PySem.F.plainAttrs_str PySem.F.slot_str_join PySem.F.type_str_join mt_join pe_str (pa_cons (pe_op op_cat (pe_op op_rep (pe_lst (pa_cons pe_str pa_nil)) (pe_op op_sub (pv 4) (pe_callB call_len_seq (by rfl) B.len PySem.boot_len (pa_cons (pv 7) pa_nil)))) (pv 7)) pa_nil)))))))))))), ?_⟩
    have ab : absN fig < 10 ^ 62 := by
      unfold absN
      omega
    have dl := dL_len ab
    obtain ⟨pd1, pd2⟩ := pad_len f0 f1 p1
    walk_at "rd"
    refine ⟨absN fig, (by show [V.int (if fig < 0 then -fig else fig)] = _; rw [absN_eq]), ab, fun l H1 nl m1 hl => ?_⟩
    walk_at "rd"
    refine ⟨(by show 1 ≤ sizeLine; decide), fun a na => ?_⟩
    have s2 := same_upd (o := .lst [V.str "0"]) na
    have ha : upd H1 a (.lst [V.str "0"]) a = some (.lst [V.str "0"]) := upd_same
    generalize upd H1 a (.lst [V.str "0"]) = H2 at s2 ha
    have hl2 := s2 _ _ hl
    walk_at "rd"
    refine ⟨l, _, rfl, .inl (SqL.of hl2), ?_⟩
    walk_at "rd"
    rw [List.length_map]
    refine ⟨a, _, _, rfl, rfl, ha, by omega, by omega, ?_, fun b nb => ?_⟩
    · refine Nat.le_trans (show _ ≤ 1 * 61 from Nat.mul_le_mul (Nat.le_refl _) (by omega)) (by decide)
    have s3 := same_upd (o := .lst (List.replicate ((pl : Int) + 1 - ((dL (absN fig)).length : Int)).toNat [V.str "0"]).flatten) nb
    have hb : upd H2 b (.lst (List.replicate ((pl : Int) + 1 - ((dL (absN fig)).length : Int)).toNat [V.str "0"]).flatten) b = some (.lst ((List.replicate (pl + 1 - (dL (absN fig)).length) 48).map chV)) := by
      rw [upd_same, rep_flat, ← ch0, rep_ch, show ((pl : Int) + 1 - ((dL (absN fig)).length : Int)).toNat = pl + 1 - (dL (absN fig)).length by omega]
    generalize upd H2 b _ = H3 at s3 hb ⊢
    have hl3 := s3 _ _ hl2
    walk_at "rd"
    refine ⟨b, l, _, _, rfl, rfl, hb, hl3, (by rw [List.length_map, List.length_map, List.length_replicate]; exact Nat.le_trans (show _ ≤ 200 by omega) (by decide)), fun d nd4 => ?_⟩
    rw [← List.map_append]
    have s4 := same_upd (o := .lst ((List.replicate (pl + 1 - (dL (absN fig)).length) 48 ++ dL (absN fig)).map chV)) nd4
    have hd : upd H3 d (.lst ((List.replicate (pl + 1 - (dL (absN fig)).length) 48 ++ dL (absN fig)).map chV)) d = some (.lst ((padL (absN fig) pl).map chV)) := upd_same
    generalize upd H3 d _ = H4 at s4 hd ⊢
    obtain ⟨D, hD⟩ : ∃ D, D = padL (absN fig) pl := ⟨_, rfl⟩
    rw [← hD] at hd pd1 pd2
    walk_at "rd"
    refine ⟨d, _, rfl, .inl (SqL.of hd), ?_⟩
    rw [List.length_map]
    obtain ⟨qn, hq⟩ : ∃ qn : Nat, qn = D.length - pl := ⟨_, rfl⟩
    have eq : (D.length : Int) - (pl : Int) = (qn : Int) := by omega
    walk_at "rd"
    refine ⟨d, _, rfl, SqL.of hd, fun r nr => ?_⟩
    have s5 := same_upd (o := .lst (cutV (D.map chV) none (some ((D.length : Int) - (pl : Int))))) nr
    have hf : upd H4 r (.lst (cutV (D.map chV) none (some ((D.length : Int) - (pl : Int))))) r = some (.lst ((D.take qn).map chV)) := by
      rw [upd_same, cutV_pre eq (by rw [List.length_map]; omega), List.map_take]
    generalize upd H4 r _ = H5 at s5 hf ⊢
    obtain ⟨F, hF⟩ : ∃ F, F = D.take qn := ⟨_, rfl⟩
    rw [← hF] at hf
    have Fl : F.length ≤ 300 := by
      rw [hF, List.length_take]
      omega
    walk_at "rd"
    refine ⟨(by show 0 ≤ sizeLine; decide), fun g ng => ?_⟩
    have s6 := same_upd (o := .lst []) ng
    have hg : upd H5 g (.lst []) g = some (.lst ((rowL gr F 0).map chV)) := upd_same
    have hf6 := s6 _ _ hf
    have hd6 := s6 _ _ (s5 _ _ hd)
    have gH : H g = none := by
      cases hh : H g with
      | none => rfl
      | some u =>
        have := s5 _ _ (s4 _ _ (s3 _ _ (s2 _ _ (m1 _ _ hh))))
        rw [ng] at this
        cases this
    have s06 : Same H (upd H5 g (.lst [])) := ((((m1.trans s2).trans s3).trans s4).trans s5).trans s6
    generalize upd H5 g (.lst []) = H6 at s6 hg hf6 hd6 s06 ⊢
    have gr1 : g ≠ r := fun x => by rw [x, hf] at ng; cases ng
    have gd1 : g ≠ d := fun x => by rw [x, s5 _ _ hd] at ng; cases ng
    clear s6 hf s5 s4 s3 s2 hl3 hl2 m1 hl ha hb hd ng nr nd4 nb na nl
    walk_at "rd"
    refine ⟨r, _, rfl, .inl (SqL.of hf6), ?_⟩
    rw [List.length_map]
    walk_at "rd"
    refine ⟨by omega, by omega, ?_⟩
    rw [Int.toNat_natCast]
    refine for_range (n := F.length) (fun i σ H' => ∃ x8 : Option V, σ = [some (.int fig), some (.int (pl : Int)), some (.bl sg), some (.bl gr), some (.int wd), some (.ref d), some (.ref r), some (.ref g), x8] ∧ H' g = some (.lst ((rowL gr F i).map chV)) ∧ H' r = some (.lst (F.map chV)) ∧ H' d = some (.lst (D.map chV)) ∧ Same H H')
      ⟨none, rfl, hg, hf6, hd6, s06⟩ ?_ ?_
    · rintro i σ H7 hi ⟨x8, rfl, hg7, hf7, hd7, s07⟩
      have rl := rowL_len gr F i
      obtain ⟨c, hc⟩ : ∃ c, F[i]? = some c := ⟨F[i]'hi, List.getElem?_eq_getElem hi⟩
      have fc : (F.drop i).take 1 = [c] := by
        rw [List.drop_eq_getElem_cons hi]
        rw [List.getElem?_eq_getElem hi] at hc
        injection hc with hc
        rw [hc]
        rfl
      have atc : atI (F.map chV) (0 + (i : Int)) = some (chV c) := by
        rw [show (0 : Int) + (i : Int) = (i : Int) by omega]
        exact atI_nat (by rw [List.getElem?_map, hc]; rfl)
      walk_at "rd"
      refine ite2 (fun h1 => ?_) (fun h1 => ?_)
      · walk_at "rd"
        refine ite2 (fun h2 => ?_) (fun h2 => ?_)
        · have i0 := of_decide_eq_true h2
          walk_at "rd"
          refine ⟨r, _, rfl, .inl (SqL.of hf7), ?_⟩
          rw [List.length_map]
          walk_at "rd"
          refine ⟨(by show (0 : Int) < 3; decide), ?_⟩
          walk_at "rd"
          refine ⟨rfl, ?_⟩
          walk_at "rd"
          refine ite2 (fun h3 => ?_) (fun h3 => ?_)
          · have m0 := int_t h3
            have yes : gr = true ∧ 0 < i ∧ (F.length - i) % 3 = 0 := ⟨h1, by omega, by omega⟩
            walk_at "rd"
            refine ⟨.inl ⟨rfl, _, SqL.of hg7⟩, ?_⟩
            walk_at "rd"
            refine ⟨g, _, _, rfl, rfl, hg7, (by rw [List.length_map]; exact Nat.lt_of_le_of_lt (show _ ≤ 600 by omega) (by decide)), ?_⟩
            have hg8 : upd H7 g (.lst ((rowL gr F i).map chV ++ [V.str ","])) g = some (.lst ((rowL gr F i ++ [44]).map chV)) := by
              rw [upd_same, List.map_append, ← chC]
              rfl
            have hf8 := (upd_ne (H := H7) (o := .lst ((rowL gr F i).map chV ++ [V.str ","])) gr1.symm).trans hf7
            have hd8 := (upd_ne (H := H7) (o := .lst ((rowL gr F i).map chV ++ [V.str ","])) gd1.symm).trans hd7
            have s08 : Same H (upd H7 g (.lst ((rowL gr F i).map chV ++ [V.str ","]))) := fun b u z => (upd_ne (fun x => by rw [x, gH] at z; cases z)).trans (s07 _ _ z)
            generalize upd H7 g (.lst ((rowL gr F i).map chV ++ [V.str ","])) = H8 at hg8 hf8 hd8 s08 ⊢
            walk_at "rd"
            refine ⟨.inl ⟨rfl, _, SqL.of hg8⟩, ?_⟩
            walk_at "rd"
            refine ⟨r, _, _, chV c, rfl, rfl, SqL.of hf8, atc, ?_⟩
            refine ⟨g, _, _, rfl, rfl, hg8, (by rw [List.length_map, List.length_append]; exact Nat.lt_of_le_of_lt (show _ ≤ 601 from Nat.add_le_add (show _ ≤ 600 by omega) (Nat.le_refl 1)) (by decide)), ?_⟩
            refine ⟨_, rfl, ?_, (upd_ne gr1.symm).trans hf8, (upd_ne gd1.symm).trans hd8, fun b u z => (upd_ne (fun x => by rw [x, gH] at z; cases z)).trans (s08 _ _ z)⟩
            rw [upd_same]
            show _ = some (HO.lst ((rowL gr F i ++ ((if gr = true ∧ 0 < i ∧ (F.length - i) % 3 = 0 then [44] else []) ++ (F.drop i).take 1)).map chV))
            rw [if_pos yes, fc, ← List.append_assoc, List.map_append (l₂ := [c])]
            rfl
          · have m0 := int_f h3
            have no : ¬ (gr = true ∧ 0 < i ∧ (F.length - i) % 3 = 0) := fun z => by omega
            walk_at "rd"
            refine ⟨.inl ⟨rfl, _, SqL.of hg7⟩, ?_⟩
            walk_at "rd"
            refine ⟨r, _, _, chV c, rfl, rfl, SqL.of hf7, atc, ?_⟩
            refine ⟨g, _, _, rfl, rfl, hg7, (by rw [List.length_map]; exact Nat.lt_of_le_of_lt (show _ ≤ 600 by omega) (by decide)), ?_⟩
            refine ⟨_, rfl, ?_, (upd_ne gr1.symm).trans hf7, (upd_ne gd1.symm).trans hd7, fun b u z => (upd_ne (fun x => by rw [x, gH] at z; cases z)).trans (s07 _ _ z)⟩
            rw [upd_same]
            show _ = some (HO.lst ((rowL gr F i ++ ((if gr = true ∧ 0 < i ∧ (F.length - i) % 3 = 0 then [44] else []) ++ (F.drop i).take 1)).map chV))
            rw [if_neg no, fc, List.nil_append, List.map_append]
            rfl
        · have i0 : ¬ (0 + (i : Int)) > 0 := fun x => h2 (decide_eq_true x)
          have no : ¬ (gr = true ∧ 0 < i ∧ (F.length - i) % 3 = 0) := fun z => by omega
          walk_at "rd"
          refine ⟨.inl ⟨rfl, _, SqL.of hg7⟩, ?_⟩
          walk_at "rd"
          refine ⟨r, _, _, chV c, rfl, rfl, SqL.of hf7, atc, ?_⟩
          refine ⟨g, _, _, rfl, rfl, hg7, (by rw [List.length_map]; exact Nat.lt_of_le_of_lt (show _ ≤ 600 by omega) (by decide)), ?_⟩
          refine ⟨_, rfl, ?_, (upd_ne gr1.symm).trans hf7, (upd_ne gd1.symm).trans hd7, fun b u z => (upd_ne (fun x => by rw [x, gH] at z; cases z)).trans (s07 _ _ z)⟩
          rw [upd_same]
          show _ = some (HO.lst ((rowL gr F i ++ ((if gr = true ∧ 0 < i ∧ (F.length - i) % 3 = 0 then [44] else []) ++ (F.drop i).take 1)).map chV))
          rw [if_neg no, fc, List.nil_append, List.map_append]
          rfl
      · have h1' := h1
        have no : ¬ (gr = true ∧ 0 < i ∧ (F.length - i) % 3 = 0) := fun z => h1' z.1
        walk_at "rd"
        refine ⟨.inl ⟨rfl, _, SqL.of hg7⟩, ?_⟩
        walk_at "rd"
        refine ⟨r, _, _, chV c, rfl, rfl, SqL.of hf7, atc, ?_⟩
        refine ⟨g, _, _, rfl, rfl, hg7, (by rw [List.length_map]; exact Nat.lt_of_le_of_lt (show _ ≤ 600 by omega) (by decide)), ?_⟩
        refine ⟨_, rfl, ?_, (upd_ne gr1.symm).trans hf7, (upd_ne gd1.symm).trans hd7, fun b u z => (upd_ne (fun x => by rw [x, gH] at z; cases z)).trans (s07 _ _ z)⟩
        rw [upd_same]
        show _ = some (HO.lst ((rowL gr F i ++ ((if gr = true ∧ 0 < i ∧ (F.length - i) % 3 = 0 then [44] else []) ++ (F.drop i).take 1)).map chV))
        rw [if_neg no, fc, List.nil_append, List.map_append]
        rfl
    · rintro σ H7 ⟨x8, rfl, hg7, hf7, hd7, s07⟩
      have rl := rowL_len gr F F.length
      have bk : (D.drop qn).length = pl := by
        rw [List.length_drop]
        omega
      -- with the point and the digits behind it
      have tail : ∀ (o : Addr) (ys : List Nat) (H8 : Hp), H8 o = some (.lst (ys.map chV)) → ys = rowL gr F F.length ++ fracL (D.drop qn) → Same H H8 → True := fun _ _ _ _ _ _ => trivial
      walk_at "rd"
      refine ite2 (fun h1 => ?A) (fun h1 => ?B)
      case' A =>
        have p0 : 0 < pl := by
          have := of_decide_eq_true h1
          omega
        walk_at "rd"
        refine ⟨(by show 1 ≤ sizeLine; decide), fun a na => ?_⟩
        have s8 := same_upd (o := .lst [V.str "."]) na
        have ha : upd H7 a (.lst [V.str "."]) a = some (.lst ([46].map chV)) := by
          rw [upd_same, ← chD]
          rfl
        generalize upd H7 a (.lst [V.str "."]) = H8 at s8 ha
        walk_at "rd"
        refine ⟨g, a, _, _, rfl, rfl, s8 _ _ hg7, ha, (by rw [List.length_map]; exact Nat.le_trans (show _ ≤ 601 from Nat.add_le_add (show _ ≤ 600 by omega) (Nat.le_refl 1)) (by decide)), fun b nb => ?_⟩
        rw [← List.map_append]
        have s9 := same_upd (o := .lst ((rowL gr F F.length ++ [46]).map chV)) nb
        have hb : upd H8 b (.lst ((rowL gr F F.length ++ [46]).map chV)) b = some (.lst ((rowL gr F F.length ++ [46]).map chV)) := upd_same
        generalize upd H8 b (.lst ((rowL gr F F.length ++ [46]).map chV)) = H9 at s9 hb
        have hd9 := s9 _ _ (s8 _ _ hd7)
        walk_at "rd"
        refine ⟨d, _, rfl, .inl (SqL.of hd9), ?_⟩
        rw [List.length_map]
        walk_at "rd"
        refine ⟨d, _, rfl, SqL.of hd9, fun e ne => ?_⟩
        have s10 := same_upd (o := .lst (cutV (D.map chV) (some ((D.length : Int) - (pl : Int))) none)) ne
        have he : upd H9 e (.lst (cutV (D.map chV) (some ((D.length : Int) - (pl : Int))) none)) e = some (.lst ((D.drop qn).map chV)) := by
          rw [upd_same, cutV_post eq (by rw [List.length_map]; omega), List.map_drop]
        generalize upd H9 e _ = H10 at s10 he ⊢
        have hb10 := s10 _ _ hb
        walk_at "rd"
        refine ⟨b, e, _, _, rfl, rfl, hb10, he, (by rw [List.length_map, List.length_map, List.length_append, bk]; exact Nat.le_trans (show _ ≤ 700 from Nat.add_le_add (Nat.add_le_add (show _ ≤ 600 by omega) (Nat.le_refl 1)) (show pl ≤ 99 by omega)) (by decide)), fun o no => ?_⟩
        rw [← List.map_append]
        have s11 := same_upd (o := .lst ((rowL gr F F.length ++ [46] ++ D.drop qn).map chV)) no
        have ho : upd H10 o (.lst ((rowL gr F F.length ++ [46] ++ D.drop qn).map chV)) o = some (.lst ((rowL gr F F.length ++ fracL (D.drop qn)).map chV)) := by
          rw [upd_same]
          cases eb : D.drop qn with
          | nil => rw [eb] at bk; simp at bk; omega
          | cons c l => rw [List.append_assoc]; rfl
        generalize upd H10 o _ = Hz at s11 ho ⊢
        have sz : Same H Hz := (((s07.trans s8).trans s9).trans s10).trans s11
        clear s8 ha s9 hb hd9 s10 he hb10 s11 no ne nb na
      case' B =>
        have p0 : pl = 0 := by
          have : ¬ (pl : Int) > 0 := fun x => h1 (decide_eq_true x)
          omega
        have ho : H7 g = some (.lst ((rowL gr F F.length ++ fracL (D.drop qn)).map chV)) := by
          cases eb : D.drop qn with
          | nil =>
            rw [hg7]
            show _ = some (HO.lst ((rowL gr F F.length ++ []).map chV))
            rw [List.append_nil]
          | cons c l => rw [eb] at bk; simp at bk; omega
        have sz := s07
        generalize H7 = Hz at ho sz ⊢
        generalize g = o at ho ⊢
      all_goals
        have bl := body_len (sg := sg) (gr := gr) f0 f1 p1
        have hB : bodyL fig pl sg gr = markL fig sg ++ (rowL gr F F.length ++ fracL (D.drop qn)) := by
          unfold bodyL
          dsimp only
          rw [← hD, ← hq, ← hF]
        generalize rowL gr F F.length ++ fracL (D.drop qn) = R at ho hB
        have Rl : R.length ≤ 1200 := by
          rw [hB, List.length_append] at bl
          omega
        walk_at "rd"
        refine ite2 (fun h2 => ?_) (fun h2 => ?_)
        · have fn := of_decide_eq_true h2
          walk_at "rd"
          refine ⟨(by show 1 ≤ sizeLine; decide), fun a na => ?_⟩
          have s8 := same_upd (o := .lst [V.str "-"]) na
          have ha : upd Hz a (.lst [V.str "-"]) a = some (.lst ([45].map chV)) := by
            rw [upd_same, ← chM]
            rfl
          generalize upd Hz a (.lst [V.str "-"]) = H8 at s8 ha
          walk_at "rd"
          refine ⟨a, o, _, _, rfl, rfl, ha, s8 _ _ ho, (by rw [List.length_map, List.length_map]; exact Nat.le_trans (show _ ≤ 1201 from Nat.le_trans (Nat.le_of_eq (Nat.add_comm _ _)) (Nat.add_le_add Rl (Nat.le_refl 1))) (by decide)), fun b nb => ?_⟩
          rw [← List.map_append]
          have s9 := same_upd (o := .lst (([45] ++ R).map chV)) nb
          have hb : upd H8 b (.lst (([45] ++ R).map chV)) b = some (.lst ((bodyL fig pl sg gr).map chV)) := by
            rw [upd_same, hB]
            unfold markL
            rw [if_pos fn]
          generalize upd H8 b _ = Hy at s9 hb ⊢
          have sy := (sz.trans s8).trans s9
          clear s8 ha s9 nb na
          walk_at "rd"
          refine ite2 (fun h3 => absurd (of_decide_eq_true h3) (by omega)) (fun h3 => ?_)
          refine false_go ?_
          walk_at "rd"
          refine ⟨rfl, ?_⟩
          walk_at "rd"
          refine ⟨(by show 1 ≤ sizeLine; decide), fun a2 na2 => ?_⟩
          have t1 := same_upd (o := .lst [V.str " "]) na2
          have ha2 : upd Hy a2 (.lst [V.str " "]) a2 = some (.lst [V.str " "]) := upd_same
          generalize upd Hy a2 (.lst [V.str " "]) = G1 at t1 ha2
          walk_at "rd"
          refine ⟨b, _, rfl, .inl (SqL.of (t1 _ _ hb)), ?_⟩
          rw [List.length_map]
          walk_at "rd"
          refine ⟨a2, _, _, rfl, rfl, ha2, by omega, by omega, ?_, fun c nc => ?_⟩
          · exact Nat.le_trans (show _ ≤ 1 * 200 from Nat.mul_le_mul (Nat.le_refl _) (by omega)) (by decide)
          have t2 := same_upd (o := .lst (List.replicate (wd - ((bodyL fig pl sg gr).length : Int)).toNat [V.str " "]).flatten) nc
          have hc : upd G1 c (.lst (List.replicate (wd - ((bodyL fig pl sg gr).length : Int)).toNat [V.str " "]).flatten) c = some (.lst ((List.replicate (wd.toNat - (bodyL fig pl sg gr).length) 32).map chV)) := by
            rw [upd_same, rep_flat, ← chB, rep_ch, show (wd - ((bodyL fig pl sg gr).length : Int)).toNat = wd.toNat - (bodyL fig pl sg gr).length by omega]
          generalize upd G1 c _ = G2 at t2 hc ⊢
          walk_at "rd"
          refine ⟨c, b, _, _, rfl, rfl, hc, t2 _ _ (t1 _ _ hb), (by rw [List.length_map, List.length_map, List.length_replicate]; exact Nat.le_trans (show _ ≤ 1500 by omega) (by decide)), fun e ne => ?_⟩
          rw [← List.map_append]
          have dd := due_text (sg := sg) (gr := gr) f0 f1 p1 w0
          have he : upd G2 e (.lst ((List.replicate (wd.toNat - (bodyL fig pl sg gr).length) 32 ++ bodyL fig pl sg gr).map chV)) e = some (.lst ((dueL fig pl sg gr wd).map chV)) := upd_same
          have t3 := same_upd (o := .lst ((List.replicate (wd.toNat - (bodyL fig pl sg gr).length) 32 ++ bodyL fig pl sg gr).map chV)) ne
          generalize upd G2 e _ = G3 at t3 he ⊢
          have dlen : (dueL fig pl sg gr wd).length ≤ 1500 := by
            unfold dueL
            rw [List.length_append, List.length_replicate]
            omega
          walk_at "rd"
          refine ⟨"", e, (dueL fig pl sg gr wd).map chS, rfl, rfl, .inl (SqL.of (by rw [he, chV_map])), ?_, ?_⟩
          · rw [sum_ch, List.length_map, show ("" : Str).length = 0 from rfl, Nat.mul_zero]
            omega
          · rw [join_ch _ dd]
            exact q _ (((sy.trans t1).trans t2).trans t3)
        · have fn : ¬ fig < 0 := fun x => h2 (decide_eq_true x)
          walk_at "rd"
          refine ite2 (fun h3 => ?_) (fun h3 => ?_)
          · have fp := of_decide_eq_true h3
            walk_at "rd"
            refine ite2 (fun h4 => ?_) (fun h4 => ?_)
            · have sgt : sg = true := h4
              walk_at "rd"
              refine ⟨(by show 1 ≤ sizeLine; decide), fun a na => ?_⟩
              have s8 := same_upd (o := .lst [V.str "+"]) na
              have ha : upd Hz a (.lst [V.str "+"]) a = some (.lst ([43].map chV)) := by
                rw [upd_same, ← chP]
                rfl
              generalize upd Hz a (.lst [V.str "+"]) = H8 at s8 ha
              walk_at "rd"
              refine ⟨a, o, _, _, rfl, rfl, ha, s8 _ _ ho, (by rw [List.length_map, List.length_map]; exact Nat.le_trans (show _ ≤ 1201 from Nat.le_trans (Nat.le_of_eq (Nat.add_comm _ _)) (Nat.add_le_add Rl (Nat.le_refl 1))) (by decide)), fun b nb => ?_⟩
              rw [← List.map_append]
              have s9 := same_upd (o := .lst (([43] ++ R).map chV)) nb
              have hb : upd H8 b (.lst (([43] ++ R).map chV)) b = some (.lst ((bodyL fig pl sg gr).map chV)) := by
                rw [upd_same, hB]
                unfold markL
                rw [if_neg fn, if_pos ⟨fp, sgt⟩]
              generalize upd H8 b _ = Hy at s9 hb ⊢
              have sy := (sz.trans s8).trans s9
              clear s8 ha s9 nb na
              walk_at "rd"
              refine ⟨rfl, ?_⟩
              walk_at "rd"
              refine ⟨(by show 1 ≤ sizeLine; decide), fun a2 na2 => ?_⟩
              have t1 := same_upd (o := .lst [V.str " "]) na2
              have ha2 : upd Hy a2 (.lst [V.str " "]) a2 = some (.lst [V.str " "]) := upd_same
              generalize upd Hy a2 (.lst [V.str " "]) = G1 at t1 ha2
              walk_at "rd"
              refine ⟨b, _, rfl, .inl (SqL.of (t1 _ _ hb)), ?_⟩
              rw [List.length_map]
              walk_at "rd"
              refine ⟨a2, _, _, rfl, rfl, ha2, by omega, by omega, ?_, fun c nc => ?_⟩
              · exact Nat.le_trans (show _ ≤ 1 * 200 from Nat.mul_le_mul (Nat.le_refl _) (by omega)) (by decide)
              have t2 := same_upd (o := .lst (List.replicate (wd - ((bodyL fig pl sg gr).length : Int)).toNat [V.str " "]).flatten) nc
              have hc : upd G1 c (.lst (List.replicate (wd - ((bodyL fig pl sg gr).length : Int)).toNat [V.str " "]).flatten) c = some (.lst ((List.replicate (wd.toNat - (bodyL fig pl sg gr).length) 32).map chV)) := by
                rw [upd_same, rep_flat, ← chB, rep_ch, show (wd - ((bodyL fig pl sg gr).length : Int)).toNat = wd.toNat - (bodyL fig pl sg gr).length by omega]
              generalize upd G1 c _ = G2 at t2 hc ⊢
              walk_at "rd"
              refine ⟨c, b, _, _, rfl, rfl, hc, t2 _ _ (t1 _ _ hb), (by rw [List.length_map, List.length_map, List.length_replicate]; exact Nat.le_trans (show _ ≤ 1500 by omega) (by decide)), fun e ne => ?_⟩
              rw [← List.map_append]
              have dd := due_text (sg := sg) (gr := gr) f0 f1 p1 w0
              have he : upd G2 e (.lst ((List.replicate (wd.toNat - (bodyL fig pl sg gr).length) 32 ++ bodyL fig pl sg gr).map chV)) e = some (.lst ((dueL fig pl sg gr wd).map chV)) := upd_same
              have t3 := same_upd (o := .lst ((List.replicate (wd.toNat - (bodyL fig pl sg gr).length) 32 ++ bodyL fig pl sg gr).map chV)) ne
              generalize upd G2 e _ = G3 at t3 he ⊢
              have dlen : (dueL fig pl sg gr wd).length ≤ 1500 := by
                unfold dueL
                rw [List.length_append, List.length_replicate]
                omega
              walk_at "rd"
              refine ⟨"", e, (dueL fig pl sg gr wd).map chS, rfl, rfl, .inl (SqL.of (by rw [he, chV_map])), ?_, ?_⟩
              · rw [sum_ch, List.length_map, show ("" : Str).length = 0 from rfl, Nat.mul_zero]
                omega
              · rw [join_ch _ dd]
                exact q _ (((sy.trans t1).trans t2).trans t3)
            · have sgf : ¬ sg = true := h4
              have hb : Hz o = some (.lst ((bodyL fig pl sg gr).map chV)) := by
                rw [hB]
                unfold markL
                rw [if_neg fn, if_neg (fun z => sgf z.2), List.nil_append]
                exact ho
              generalize Hz = Hy at hb sz ⊢
              generalize o = b at hb ⊢
              have sy := sz
              walk_at "rd"
              refine ⟨rfl, ?_⟩
              walk_at "rd"
              refine ⟨(by show 1 ≤ sizeLine; decide), fun a2 na2 => ?_⟩
              have t1 := same_upd (o := .lst [V.str " "]) na2
              have ha2 : upd Hy a2 (.lst [V.str " "]) a2 = some (.lst [V.str " "]) := upd_same
              generalize upd Hy a2 (.lst [V.str " "]) = G1 at t1 ha2
              walk_at "rd"
              refine ⟨b, _, rfl, .inl (SqL.of (t1 _ _ hb)), ?_⟩
              rw [List.length_map]
              walk_at "rd"
              refine ⟨a2, _, _, rfl, rfl, ha2, by omega, by omega, ?_, fun c nc => ?_⟩
              · exact Nat.le_trans (show _ ≤ 1 * 200 from Nat.mul_le_mul (Nat.le_refl _) (by omega)) (by decide)
              have t2 := same_upd (o := .lst (List.replicate (wd - ((bodyL fig pl sg gr).length : Int)).toNat [V.str " "]).flatten) nc
              have hc : upd G1 c (.lst (List.replicate (wd - ((bodyL fig pl sg gr).length : Int)).toNat [V.str " "]).flatten) c = some (.lst ((List.replicate (wd.toNat - (bodyL fig pl sg gr).length) 32).map chV)) := by
                rw [upd_same, rep_flat, ← chB, rep_ch, show (wd - ((bodyL fig pl sg gr).length : Int)).toNat = wd.toNat - (bodyL fig pl sg gr).length by omega]
              generalize upd G1 c _ = G2 at t2 hc ⊢
              walk_at "rd"
              refine ⟨c, b, _, _, rfl, rfl, hc, t2 _ _ (t1 _ _ hb), (by rw [List.length_map, List.length_map, List.length_replicate]; exact Nat.le_trans (show _ ≤ 1500 by omega) (by decide)), fun e ne => ?_⟩
              rw [← List.map_append]
              have dd := due_text (sg := sg) (gr := gr) f0 f1 p1 w0
              have he : upd G2 e (.lst ((List.replicate (wd.toNat - (bodyL fig pl sg gr).length) 32 ++ bodyL fig pl sg gr).map chV)) e = some (.lst ((dueL fig pl sg gr wd).map chV)) := upd_same
              have t3 := same_upd (o := .lst ((List.replicate (wd.toNat - (bodyL fig pl sg gr).length) 32 ++ bodyL fig pl sg gr).map chV)) ne
              generalize upd G2 e _ = G3 at t3 he ⊢
              have dlen : (dueL fig pl sg gr wd).length ≤ 1500 := by
                unfold dueL
                rw [List.length_append, List.length_replicate]
                omega
              walk_at "rd"
              refine ⟨"", e, (dueL fig pl sg gr wd).map chS, rfl, rfl, .inl (SqL.of (by rw [he, chV_map])), ?_, ?_⟩
              · rw [sum_ch, List.length_map, show ("" : Str).length = 0 from rfl, Nat.mul_zero]
                omega
              · rw [join_ch _ dd]
                exact q _ (((sy.trans t1).trans t2).trans t3)
          · have fp : ¬ 0 < fig := fun x => h3 (decide_eq_true x)
            refine false_go ?_
            have hb : Hz o = some (.lst ((bodyL fig pl sg gr).map chV)) := by
              rw [hB]
              unfold markL
              rw [if_neg fn, if_neg (fun z => fp z.1), List.nil_append]
              exact ho
            generalize Hz = Hy at hb sz ⊢
            generalize o = b at hb ⊢
            have sy := sz
            walk_at "rd"
            refine ⟨rfl, ?_⟩
            walk_at "rd"
            refine ⟨(by show 1 ≤ sizeLine; decide), fun a2 na2 => ?_⟩
            have t1 := same_upd (o := .lst [V.str " "]) na2
            have ha2 : upd Hy a2 (.lst [V.str " "]) a2 = some (.lst [V.str " "]) := upd_same
            generalize upd Hy a2 (.lst [V.str " "]) = G1 at t1 ha2
            walk_at "rd"
            refine ⟨b, _, rfl, .inl (SqL.of (t1 _ _ hb)), ?_⟩
            rw [List.length_map]
            walk_at "rd"
            refine ⟨a2, _, _, rfl, rfl, ha2, by omega, by omega, ?_, fun c nc => ?_⟩
            · exact Nat.le_trans (show _ ≤ 1 * 200 from Nat.mul_le_mul (Nat.le_refl _) (by omega)) (by decide)
            have t2 := same_upd (o := .lst (List.replicate (wd - ((bodyL fig pl sg gr).length : Int)).toNat [V.str " "]).flatten) nc
            have hc : upd G1 c (.lst (List.replicate (wd - ((bodyL fig pl sg gr).length : Int)).toNat [V.str " "]).flatten) c = some (.lst ((List.replicate (wd.toNat - (bodyL fig pl sg gr).length) 32).map chV)) := by
              rw [upd_same, rep_flat, ← chB, rep_ch, show (wd - ((bodyL fig pl sg gr).length : Int)).toNat = wd.toNat - (bodyL fig pl sg gr).length by omega]
            generalize upd G1 c _ = G2 at t2 hc ⊢
            walk_at "rd"
            refine ⟨c, b, _, _, rfl, rfl, hc, t2 _ _ (t1 _ _ hb), (by rw [List.length_map, List.length_map, List.length_replicate]; exact Nat.le_trans (show _ ≤ 1500 by omega) (by decide)), fun e ne => ?_⟩
            rw [← List.map_append]
            have dd := due_text (sg := sg) (gr := gr) f0 f1 p1 w0
            have he : upd G2 e (.lst ((List.replicate (wd.toNat - (bodyL fig pl sg gr).length) 32 ++ bodyL fig pl sg gr).map chV)) e = some (.lst ((dueL fig pl sg gr wd).map chV)) := upd_same
            have t3 := same_upd (o := .lst ((List.replicate (wd.toNat - (bodyL fig pl sg gr).length) 32 ++ bodyL fig pl sg gr).map chV)) ne
            generalize upd G2 e _ = G3 at t3 he ⊢
            have dlen : (dueL fig pl sg gr wd).length ≤ 1500 := by
              unfold dueL
              rw [List.length_append, List.length_replicate]
              omega
            walk_at "rd"
            refine ⟨"", e, (dueL fig pl sg gr wd).map chS, rfl, rfl, .inl (SqL.of (by rw [he, chV_map])), ?_, ?_⟩
            · rw [sum_ch, List.length_map, show ("" : Str).length = 0 from rfl, Nat.mul_zero]
              omega
            · rw [join_ch _ dd]
              exact q _ (((sy.trans t1).trans t2).trans t3)
end
end HT
namespace HT
open PySem L2
/-- what text_of comes to, as the law tells it -/
inductive Ans (H : Hp) : V → V → V → V → V → V → Prop where
  | val {x y z u v : V} {n : String} (t : Th H x n) (h : isI n = false) : Ans H x y z u v (.int 1)
  | plc {y z u v : V} {fig : Int} {n : String} (t : Th H y n) (h : inB y 0 60 = false) : Ans H (.int fig) y z u v (.int 2)
  | sty {z u v : V} {fig pl : Int} {n m o : String} (h : inB (.int pl) 0 60 = true) (t1 : Th H z n) (t2 : Th H u m) (t3 : Th H v o) (b : (isB n && (isB m && inB v 0 200)) = false) : Ans H (.int fig) (.int pl) z u v (.int 3)
  | good {fig : Int} {pl : Nat} {sg gr : Bool} {wd : Int} (f0 : -10 ^ 62 < fig) (f1 : fig < 10 ^ 62) (p1 : pl ≤ 60) (w0 : 0 ≤ wd) (w1 : wd ≤ 200) : Ans H (.int fig) (.int (pl : Int)) (.bl sg) (.bl gr) (.int wd) (.str (textM fig pl sg gr wd))
def spAsk : Sp := fun vs H Q _ => ∃ x y z u v r : V, vs = [x, y, z, u, v] ∧ Ans H x y z u v r ∧ ∀ H', Same H H' → Q r H'
section
variable {P : Program} {w : World} {K : PySem.W.Frag} {mg : Str → Option Value} {base : Heap} {fT B : Addr} {dT : FuncData} {C : Nat → Addr}
theorem ok_asked {f : Addr} {fd : FuncData} (F : Fun K "_law_asked" "_law_asked" s_L_asked f fd) (R : Er K mg C B) (Tx : TxX P w K mg base C fT dT) : FnOk P w K mg base CX0 5 f fd ["_law_figure", "_law_places", "_law_signed", "_law_by_three", "_law_wide"] spAsk := by
  refine F.ok sc_L_asked (fun vs H Q E h => ?_) (fun cdv A outer s0 H vs Q E hr h => ?_)
  · obtain ⟨x, y, z, u, v, r, rfl, _⟩ := h
    rfl
  · obtain ⟨x, y, z, u, v, r, rfl, an, q⟩ := h
    have nd := sc_L_asked.nd
    refine ⟨_, pss_cons (ps_set (i := 5) nd rfl (Or.inl rfl) pe_non)
      (pss_cons (ps_set (i := 6) nd rfl (Or.inl rfl) pe_non)
      (pss_cons (ps_try_keep (i := 7) rfl rfl rfl nd rfl rfl ⟨rfl, by decide, .inl R.gB⟩ takes0 (fun W pn xe tk _ => pss_one (ps_set (i := 6) nd rfl (Or.inl rfl) (pcX3 Tx hr (by decide) (by rfl) tk (pa_cons (pv 0) (pa_cons (pv 1) pa_nil)) (pk_cons (pv 2) (pk_cons (pv 3) (pk_cons (pv 4) pk_nil))))))
        (fun a rc kl dd pn hz hf => pss_one (ps_set (i := 5) nd rfl (Or.inl rfl) (pv 7))))
      (pss_cons (ps_if (pt_cmpR op_isN (pv 5) pe_non (nomark _)) (pss_one (ps_ret (pv 6))) pss_nil)
      (pss_cons (ps_set (i := 8) nd rfl (Or.inl rfl) (pe_lst (pa_cons (pe_callB call_isKept (by rfl) R.isi (by decide +kernel) (pa_cons (pv 5) (pa_cons (pe_glob (v := .ref (C 0)) (by rfl) R.g0 rfl) pa_nil))) (pa_cons (pe_callB call_isKept (by rfl) R.isi (by decide +kernel) (pa_cons (pv 5) (pa_cons (pe_glob (v := .ref (C 1)) (by rfl) R.g1 rfl) pa_nil))) (pa_cons (pe_callB call_isKept (by rfl) R.isi (by decide +kernel) (pa_cons (pv 5) (pa_cons (pe_glob (v := .ref (C 2)) (by rfl) R.g2 rfl) pa_nil))) pa_nil)))))
      (pss_cons (ps_if (PW.pt (pw_or (pt_cmpR op_ne (pe_bm PySem.F.plainAttrs_list PySem.F.slot_list_count PySem.F.type_list_count mt_cntV (pv 8) (pa_cons pe_bl pa_nil)) pe_int (nomark _)) (pw_or1 (pt_not (pt_val (pe_callB call_isKept (by rfl) R.isi (by decide +kernel) (pa_cons (pv 5) (pa_cons (pe_bltn (v := .ty "ValueError") (by rfl) R.ve (by decide +kernel) rfl) pa_nil)))))))) (pss_one (ps_ret pe_str)) pss_nil)
      (pss_one (ps_ret (pe_ix ix_list (pe_lst (pa_cons pe_int (pa_cons pe_int (pa_cons pe_int pa_nil)))) (pe_bm PySem.F.plainAttrs_list PySem.F.slot_list_index PySem.F.type_list_index mt_index (pv 8) (pa_cons pe_bl pa_nil)) (fun _ _ => rfl))))))))), ?_⟩
    walk_at "rd"
    cases an with
    | val t h =>
      refine ⟨rfl, rfl, _, _, _, _, _, rfl, .val t h ?_⟩
      refine ⟨true, R.emB 0 (by decide), fun _ => ⟨rfl, fun a ha => ?_⟩, fun z => Bool.noConfusion z⟩
      walk_at "rd"
      refine ⟨rfl, ?_⟩
      walk_at "rd"
      refine ⟨a, C 0, _, .ref (C 0), decide (0 = 0), rfl, .own _, upd_same, R.ec 0 (by decide), R.eg, R.kit 0 0 (by decide) (by decide), ?_⟩
      walk_at "rd"
      refine ⟨a, C 0, _, .ref (C 1), decide (0 = 1), rfl, .own _, upd_same, R.ec 0 (by decide), R.eg, R.kit 0 1 (by decide) (by decide), ?_⟩
      walk_at "rd"
      refine ⟨a, C 0, _, .ref (C 2), decide (0 = 2), rfl, .own _, upd_same, R.ec 0 (by decide), R.eg, R.kit 0 2 (by decide) (by decide), ?_⟩
      walk_at "rd"
      refine ⟨(by show 3 ≤ sizeLine; decide), fun l1 nl1 => ?_⟩
      have ea1 := (upd_ne (o := .lst [V.bl (decide (0 = 0)), .bl (decide (0 = 1)), .bl (decide (0 = 2))]) (ne_of_none upd_same nl1)).trans (upd_same (H := H) (a := a) (o := ExK (.ref (C 0)) a))
      walk_at "rd"
      refine ⟨.inl ⟨rfl, _, SqL.of upd_same⟩, ?_⟩
      walk_at "rd"
      refine ⟨l1, _, .bl true, rfl, rfl, SqL.of upd_same, rfl, rfl, ?_⟩
      walk_at "rd"
      refine ⟨rfl, ?_⟩
      walk_at "rd"
      refine ⟨a, C 0, _, .type "ValueError", true, rfl, .ty _, ea1, R.ec 0 (by decide), R.eg, R.kitV 0 (by decide), ?_⟩
      walk_at "rd"
      refine ⟨(by show 3 ≤ sizeLine; decide), fun l4 nl4 => ?_⟩
      have ea4 : ∀ b u, H b = some u → upd (upd (upd H a (ExK (.ref (C 0)) a)) l1 (.lst [V.bl (decide (0 = 0)), .bl (decide (0 = 1)), .bl (decide (0 = 2))])) l4 (.lst [.int 1, .int 2, .int 3]) b = some u := fun b u e0 => by
        have e1 := (upd_ne (o := ExK (.ref (C 0)) a) (ne_of_none e0 ha)).trans e0
        have e2 := (upd_ne (o := .lst [V.bl (decide (0 = 0)), .bl (decide (0 = 1)), .bl (decide (0 = 2))]) (ne_of_none e1 nl1)).trans e1
        exact (upd_ne (ne_of_none e2 nl4)).trans e2
      walk_at "rd"
      refine ⟨.inl ⟨rfl, _, SqL.of ((upd_ne (ne_of_none upd_same nl4)).trans upd_same)⟩, ?_⟩
      walk_at "rd"
      refine ⟨l1, _, .bl true, 0, .bl true, rfl, rfl, SqL.of ((upd_ne (ne_of_none upd_same nl4)).trans upd_same), rfl, rfl, rfl, rfl, fun m z' hm hz => ?_, ?_⟩
      · exact absurd hm (Nat.not_lt_zero _)
      refine ⟨l4, _, _, _, rfl, rfl, SqL.of upd_same, rfl, ?_⟩
      exact q _ ea4
    | plc t h =>
      refine ⟨rfl, rfl, _, _, _, _, _, rfl, .plc t h ?_⟩
      refine ⟨true, R.emB 1 (by decide), fun _ => ⟨rfl, fun a ha => ?_⟩, fun z => Bool.noConfusion z⟩
      walk_at "rd"
      refine ⟨rfl, ?_⟩
      walk_at "rd"
      refine ⟨a, C 1, _, .ref (C 0), decide (1 = 0), rfl, .own _, upd_same, R.ec 1 (by decide), R.eg, R.kit 1 0 (by decide) (by decide), ?_⟩
      walk_at "rd"
      refine ⟨a, C 1, _, .ref (C 1), decide (1 = 1), rfl, .own _, upd_same, R.ec 1 (by decide), R.eg, R.kit 1 1 (by decide) (by decide), ?_⟩
      walk_at "rd"
      refine ⟨a, C 1, _, .ref (C 2), decide (1 = 2), rfl, .own _, upd_same, R.ec 1 (by decide), R.eg, R.kit 1 2 (by decide) (by decide), ?_⟩
      walk_at "rd"
      refine ⟨(by show 3 ≤ sizeLine; decide), fun l1 nl1 => ?_⟩
      have ea1 := (upd_ne (o := .lst [V.bl (decide (1 = 0)), .bl (decide (1 = 1)), .bl (decide (1 = 2))]) (ne_of_none upd_same nl1)).trans (upd_same (H := H) (a := a) (o := ExK (.ref (C 1)) a))
      walk_at "rd"
      refine ⟨.inl ⟨rfl, _, SqL.of upd_same⟩, ?_⟩
      walk_at "rd"
      refine ⟨l1, _, .bl true, rfl, rfl, SqL.of upd_same, rfl, rfl, ?_⟩
      walk_at "rd"
      refine ⟨rfl, ?_⟩
      walk_at "rd"
      refine ⟨a, C 1, _, .type "ValueError", true, rfl, .ty _, ea1, R.ec 1 (by decide), R.eg, R.kitV 1 (by decide), ?_⟩
      walk_at "rd"
      refine ⟨(by show 3 ≤ sizeLine; decide), fun l4 nl4 => ?_⟩
      have ea4 : ∀ b u, H b = some u → upd (upd (upd H a (ExK (.ref (C 1)) a)) l1 (.lst [V.bl (decide (1 = 0)), .bl (decide (1 = 1)), .bl (decide (1 = 2))])) l4 (.lst [.int 1, .int 2, .int 3]) b = some u := fun b u e0 => by
        have e1 := (upd_ne (o := ExK (.ref (C 1)) a) (ne_of_none e0 ha)).trans e0
        have e2 := (upd_ne (o := .lst [V.bl (decide (1 = 0)), .bl (decide (1 = 1)), .bl (decide (1 = 2))]) (ne_of_none e1 nl1)).trans e1
        exact (upd_ne (ne_of_none e2 nl4)).trans e2
      walk_at "rd"
      refine ⟨.inl ⟨rfl, _, SqL.of ((upd_ne (ne_of_none upd_same nl4)).trans upd_same)⟩, ?_⟩
      walk_at "rd"
      refine ⟨l1, _, .bl true, 1, .bl true, rfl, rfl, SqL.of ((upd_ne (ne_of_none upd_same nl4)).trans upd_same), rfl, rfl, rfl, rfl, fun m z' hm hz => ?_, ?_⟩
      · rcases (by omega : m = 0) with rfl <;> (cases hz; rfl)
      refine ⟨l4, _, _, _, rfl, rfl, SqL.of upd_same, rfl, ?_⟩
      exact q _ ea4
    | sty h t1 t2 t3 b =>
      refine ⟨rfl, rfl, _, _, _, _, _, rfl, .sty h t1 t2 t3 b ?_⟩
      refine ⟨true, R.emB 2 (by decide), fun _ => ⟨rfl, fun a ha => ?_⟩, fun z => Bool.noConfusion z⟩
      walk_at "rd"
      refine ⟨rfl, ?_⟩
      walk_at "rd"
      refine ⟨a, C 2, _, .ref (C 0), decide (2 = 0), rfl, .own _, upd_same, R.ec 2 (by decide), R.eg, R.kit 2 0 (by decide) (by decide), ?_⟩
      walk_at "rd"
      refine ⟨a, C 2, _, .ref (C 1), decide (2 = 1), rfl, .own _, upd_same, R.ec 2 (by decide), R.eg, R.kit 2 1 (by decide) (by decide), ?_⟩
      walk_at "rd"
      refine ⟨a, C 2, _, .ref (C 2), decide (2 = 2), rfl, .own _, upd_same, R.ec 2 (by decide), R.eg, R.kit 2 2 (by decide) (by decide), ?_⟩
      walk_at "rd"
      refine ⟨(by show 3 ≤ sizeLine; decide), fun l1 nl1 => ?_⟩
      have ea1 := (upd_ne (o := .lst [V.bl (decide (2 = 0)), .bl (decide (2 = 1)), .bl (decide (2 = 2))]) (ne_of_none upd_same nl1)).trans (upd_same (H := H) (a := a) (o := ExK (.ref (C 2)) a))
      walk_at "rd"
      refine ⟨.inl ⟨rfl, _, SqL.of upd_same⟩, ?_⟩
      walk_at "rd"
      refine ⟨l1, _, .bl true, rfl, rfl, SqL.of upd_same, rfl, rfl, ?_⟩
      walk_at "rd"
      refine ⟨rfl, ?_⟩
      walk_at "rd"
      refine ⟨a, C 2, _, .type "ValueError", true, rfl, .ty _, ea1, R.ec 2 (by decide), R.eg, R.kitV 2 (by decide), ?_⟩
      walk_at "rd"
      refine ⟨(by show 3 ≤ sizeLine; decide), fun l4 nl4 => ?_⟩
      have ea4 : ∀ b u, H b = some u → upd (upd (upd H a (ExK (.ref (C 2)) a)) l1 (.lst [V.bl (decide (2 = 0)), .bl (decide (2 = 1)), .bl (decide (2 = 2))])) l4 (.lst [.int 1, .int 2, .int 3]) b = some u := fun b u e0 => by
        have e1 := (upd_ne (o := ExK (.ref (C 2)) a) (ne_of_none e0 ha)).trans e0
        have e2 := (upd_ne (o := .lst [V.bl (decide (2 = 0)), .bl (decide (2 = 1)), .bl (decide (2 = 2))]) (ne_of_none e1 nl1)).trans e1
        exact (upd_ne (ne_of_none e2 nl4)).trans e2
      walk_at "rd"
      refine ⟨.inl ⟨rfl, _, SqL.of ((upd_ne (ne_of_none upd_same nl4)).trans upd_same)⟩, ?_⟩
      walk_at "rd"
      refine ⟨l1, _, .bl true, 2, .bl true, rfl, rfl, SqL.of ((upd_ne (ne_of_none upd_same nl4)).trans upd_same), rfl, rfl, rfl, rfl, fun m z' hm hz => ?_, ?_⟩
      · rcases (by omega : m = 0 ∨ m = 1) with rfl | rfl <;> (cases hz; rfl)
      refine ⟨l4, _, _, _, rfl, rfl, SqL.of upd_same, rfl, ?_⟩
      exact q _ ea4
    | good f0 f1 p1 w0 w1 =>
      refine ⟨rfl, rfl, _, _, _, _, _, rfl, .good f0 f1 p1 w0 w1 fun H1 sm1 => ?_⟩
      walk_at "rd"
      refine ⟨rfl, ?_⟩
      walk_at "rd"
      exact q _ sm1
end
end HT
namespace HT
open PySem L2
def spWhole1 : Sp := fun vs H Q _ => ∃ (x : V) (n : String) (a b : Int), vs = [x, .int a, .int b] ∧ Th H x n ∧ Q (.bl (inB x a b)) H
def spWordT : Sp := fun vs H Q _ => ∃ (p : Addr) (x y z u v r : V), vs = [.ref p] ∧ H p = some (.lst [x, y, z, u, v]) ∧ Ans H x y z u v r ∧ (∀ i, x = .int i → -10 ^ 60 ≤ i ∧ i ≤ 10 ^ 60) ∧ ∀ H', Same H H' → Q r H'
section
variable {P : Program} {w : World} {K : PySem.W.Frag} {mg : Str → Option Value} {base : Heap} {fD fW B : Addr} {dD dW : FuncData} {C : Nat → Addr}
theorem ok_whole {f : Addr} {fd : FuncData} (F : Fun K "_law_is_whole" "_law_is_whole" s_L_is_whole f fd) (T : ChkT mg) : FnOk P w K mg base CX0 1 f fd ["_law_value", "_law_low", "_law_high"] spWhole1 := by
  refine F.ok sc_L_is_whole (fun vs H Q E h => ?_) (fun cdv A outer s H vs Q E hr h => ?_)
  · obtain ⟨x, n, a, b, rfl, _⟩ := h
    rfl
  · obtain ⟨x, n, a, b, rfl, t, q⟩ := h
    refine ⟨_, pss_one (ps_ret (pe_and (pe_callB call_isi (by rfl) T.isi (by decide +kernel) (pa_cons (pv 0) (pa_cons (pe_bltn (v := .ty "int") (by rfl) T.int (by decide +kernel) rfl) pa_nil)))
      (pe_and (pe_not (pe_callB call_isi (by rfl) T.isi (by decide +kernel) (pa_cons (pv 0) (pa_cons (pe_bltn (v := .ty "bool") (by rfl) T.bool (by decide +kernel) rfl) pa_nil))))
      (pe_and (pe_cmpR op_ge (pv 0) (pv 1) (nomark _)) (pe_one (pe_cmpR op_le (pv 0) (pv 2) (nomark _))))))), ?_⟩
    walk_at "rd"
    refine ⟨_, _, _, _, _, rfl, .ty "int", t.ty, t.kint, ?_⟩
    walk_at "rd"
    refine ite2 (fun h => ?_) (fun h => ?_)
    · walk_at "rd"
      refine ⟨_, _, _, _, _, rfl, .ty "bool", t.ty, t.kbool, ?_⟩
      walk_at "rd"
      cases t with
      | int i =>
        walk_at "rd"
        change Q (.bl (decide (a ≤ i) && decide (i ≤ b))) H at q
        refine ite2 (fun g => ?_) (fun g => ?_)
        · walk_at "rd"
          rw [decide_eq_true (show a ≤ i from of_decide_eq_true g), Bool.true_and] at q
          exact q
        · rw [decide_eq_false (show ¬ a ≤ i from fun z => g (decide_eq_true z))] at q
          exact q
      | bl b => exact q
      | _ => exact absurd h (by decide)
    · have e : inB x a b = false := by
        cases t <;> first | rfl | exact absurd (by decide) h
      rw [e] at q
      exact q
end
end HT
namespace HT
open PySem L2
theorem fig_in {fig : Int} (h : -10 ^ 60 ≤ fig ∧ fig ≤ 10 ^ 60) : inB (.int fig) (-(10 : Int) ^ (60 : Int).toNat) ((10 : Int) ^ (60 : Int).toNat) = true := by
  show (decide (-(10 : Int) ^ 60 ≤ fig) && decide (fig ≤ (10 : Int) ^ 60)) = true
  rw [decide_eq_true h.1, decide_eq_true h.2]
  rfl
section
variable {P : Program} {w : World} {K : PySem.W.Frag} {mg : Str → Option Value} {base : Heap} {fD fW B : Addr} {dD dW : FuncData} {C : Nat → Addr}
theorem ok_wordT {f : Addr} {fd : FuncData} (F : Fun K "_law_word" "_law_word" s_L_word f fd) (T : ChkT mg) (Wh : Cal P w K mg base "_law_is_whole" 1 ["_law_value", "_law_low", "_law_high"] spWhole1 fW dW) (Du : Cal P w K mg base "_law_due" 2 ["_law_figure", "_law_places", "_law_signed", "_law_by_three", "_law_wide"] spDueT fD dD) : FnOk P w K mg base CX0 3 f fd ["_law_parts"] spWordT := by
  refine F.ok sc_L_word (fun vs H Q E h => ?_) (fun cdv A outer s H vs Q E hr h => ?_)
  · obtain ⟨p, x, y, z, u, v, r, rfl, _⟩ := h
    rfl
  · obtain ⟨p, x, y, z, u, v, r, rfl, hp, an, xb, q⟩ := h
    have nd := sc_L_word.nd
    refine ⟨_, (pss_cons (ps_asg (pv 0) (pg_unl (n := 5) (by rfl) (pgs_cons (pg_name (i := 1) nd rfl (Or.inl rfl)) (pgs_cons (pg_name (i := 2) nd rfl (Or.inl rfl)) (pgs_cons (pg_name (i := 3) nd rfl (Or.inl rfl)) (pgs_cons (pg_name (i := 4) nd rfl (Or.inl rfl)) (pgs_cons (pg_name (i := 5) nd rfl (Or.inl rfl)) pgs_nil)))))))
      (pss_cons (ps_if (pt_not (pt_val (pcl Wh hr (by decide) (by rfl) (pa_cons (pv 1) (pa_cons (pe_un un_neg (pe_op op_pow pe_int pe_int)) (pa_cons (pe_op op_pow pe_int pe_int) pa_nil)))))) (pss_one (ps_ret pe_int)) pss_nil)
      (pss_cons (ps_if (pt_not (pt_val (pcl Wh hr (by decide) (by rfl) (pa_cons (pv 2) (pa_cons pe_int (pa_cons pe_int pa_nil)))))) (pss_one (ps_ret pe_int)) pss_nil)
      (pss_cons (ps_if (PW.pt (pw_or (pt_not (pt_val (pe_callB call_isi (by rfl) T.isi (by decide +kernel) (pa_cons (pv 3) (pa_cons (pe_bltn (v := .ty "bool") (by rfl) T.bool (by decide +kernel) rfl) pa_nil))))) (pw_or (pt_not (pt_val (pe_callB call_isi (by rfl) T.isi (by decide +kernel) (pa_cons (pv 4) (pa_cons (pe_bltn (v := .ty "bool") (by rfl) T.bool (by decide +kernel) rfl) pa_nil))))) (pw_or1 (pt_not (pt_val (pcl Wh hr (by decide) (by rfl) (pa_cons (pv 5) (pa_cons pe_int (pa_cons pe_int pa_nil)))))))))) (pss_one (ps_ret pe_int)) pss_nil)
      (pss_one (ps_ret (pcl Du hr (by decide) (by rfl) (pa_cons (pv 1) (pa_cons (pv 2) (pa_cons (pv 3) (pa_cons (pv 4) (pa_cons (pv 5) pa_nil)))))))))))), ?_⟩
    walk_at "rd"
    refine ⟨p, _, rfl, SqL.of hp, rfl, _, _, rfl, _, _, rfl, _, _, rfl, _, _, rfl, _, _, rfl, rfl, ?_⟩
    walk_at "rd"
    refine ⟨⟨by decide, by decide, by decide⟩, ?_⟩
    walk_at "rd"
    refine ⟨⟨by decide, by decide, by decide⟩, ?_⟩
    cases an with
    | val t h =>
      refine ⟨_, _, _, _, rfl, t, ?_⟩
      have e : inB x (-(10 : Int) ^ (60 : Int).toNat) ((10 : Int) ^ (60 : Int).toNat) = false := by
        cases t <;> first | rfl | exact absurd h (by decide)
      refine ⟨_, rfl, ?_⟩
      exact ite2 (fun _ => q _ (Same.refl H)) (fun z => absurd (by rw [e]; rfl) z)
    | @plc _ _ _ _ fig n t h =>
      have e1 : inB (.int fig) (-(10 : Int) ^ (60 : Int).toNat) ((10 : Int) ^ (60 : Int).toNat) = true := fig_in (xb fig rfl)
      refine ⟨_, _, _, _, rfl, .int fig, ?_⟩
      refine ⟨_, rfl, ?_⟩
      refine ite2 (fun z => (not_t z e1).elim) (fun _ => ?_)
      walk_at "rd"
      refine ⟨_, _, _, _, rfl, t, ?_⟩
      refine ⟨_, rfl, ?_⟩
      exact ite2 (fun _ => q _ (Same.refl H)) (fun z => absurd (by rw [h]; rfl) z)
    | @sty _ _ _ fig pl n m o h t1 t2 t3 b =>
      have e1 : inB (.int fig) (-(10 : Int) ^ (60 : Int).toNat) ((10 : Int) ^ (60 : Int).toNat) = true := fig_in (xb fig rfl)
      refine ⟨_, _, _, _, rfl, .int fig, ?_⟩
      refine ⟨_, rfl, ?_⟩
      refine ite2 (fun z => (not_t z e1).elim) (fun _ => ?_)
      walk_at "rd"
      refine ⟨_, _, _, _, rfl, .int pl, ?_⟩
      refine ⟨_, rfl, ?_⟩
      refine ite2 (fun z => (not_t z h).elim) (fun _ => ?_)
      walk_at "rd"
      refine ⟨_, _, _, _, _, rfl, .ty "bool", t1.ty, t1.kbool, ?_⟩
      walk_at "rd"
      refine ite2 (fun g => ?_) (fun g => ?_)
      · exact q _ (Same.refl H)
      have b1 : isB n = true := not_f g
      walk_at "rd"
      refine ⟨_, _, _, _, _, rfl, .ty "bool", t2.ty, t2.kbool, ?_⟩
      walk_at "rd"
      refine ite2 (fun g => ?_) (fun g => ?_)
      · walk_at "rd"
        exact q _ (Same.refl H)
      have b2 : isB m = true := not_f g
      walk_at "rd"
      refine ⟨_, _, _, _, rfl, t3, ?_⟩
      refine ⟨_, rfl, ?_⟩
      rw [b1, b2, Bool.true_and, Bool.true_and] at b
      exact ite2 (fun _ => q _ (Same.refl H)) (fun z => absurd (by rw [b]; rfl) z)
    | @good fig pl sg gr wd f0 f1 p1 w0 w1 =>
      have e1 : inB (.int fig) (-(10 : Int) ^ (60 : Int).toNat) ((10 : Int) ^ (60 : Int).toNat) = true := fig_in (xb fig rfl)
      have e2 : inB (.int (pl : Int)) 0 60 = true := by
        show (decide ((0 : Int) ≤ (pl : Int)) && decide ((pl : Int) ≤ 60)) = true
        rw [decide_eq_true (by omega), decide_eq_true (by omega)]
        rfl
      have e3 : inB (.int wd) 0 200 = true := by
        show (decide ((0 : Int) ≤ wd) && decide (wd ≤ 200)) = true
        rw [decide_eq_true w0, decide_eq_true w1]
        rfl
      refine ⟨_, _, _, _, rfl, .int fig, ?_⟩
      refine ⟨_, rfl, ?_⟩
      refine ite2 (fun z => (not_t z e1).elim) (fun _ => ?_)
      walk_at "rd"
      refine ⟨_, _, _, _, rfl, .int (pl : Int), ?_⟩
      refine ⟨_, rfl, ?_⟩
      refine ite2 (fun z => (not_t z e2).elim) (fun _ => ?_)
      walk_at "rd"
      refine ⟨_, _, _, _, _, rfl, .ty "bool", (Th.bl sg : Th H _ _).ty, (Th.bl sg : Th H _ _).kbool, ?_⟩
      walk_at "rd"
      refine ⟨_, _, _, _, _, rfl, .ty "bool", (Th.bl gr : Th H _ _).ty, (Th.bl gr : Th H _ _).kbool, ?_⟩
      walk_at "rd"
      refine ⟨_, _, _, _, rfl, .int wd, ?_⟩
      refine ⟨_, rfl, ?_⟩
      refine ite2 (fun z => (not_t z e3).elim) (fun _ => ?_)
      walk_at "rd"
      exact ⟨fig, pl, sg, gr, wd, rfl, f0, f1, p1, w0, w1, q⟩
end
end HT
namespace HT
open PySem L2 CwR TL
/-- law's: a list of at most 63 ints is handed in, True comes out -/
def spLaw (K : PySem.W.Frag) : Sp := fun vs H Q _ => ∃ (l : Addr) (ns : List Int), vs = [.ref l] ∧ SqL K H l (ns.map V.int) ∧ ns.length ≤ 63 ∧ ∀ H', Q (.bl true) H'
theorem sg2_of {x : V} (h : x ∈ [V.int 1, .int (-1)]) : ∃ j : Int, x = .int j ∧ (j = 1 ∨ j = -1) := by
  simp only [List.mem_cons, List.not_mem_nil, or_false] at h
  rcases h with h | h
  · exact ⟨_, h, .inl rfl⟩
  · exact ⟨_, h, .inr rfl⟩
theorem dg_of {x : V} (h : x ∈ [V.int 1, .int 2, .int 3, .int 4, .int 7, .int 30, .int 60]) : ∃ n : Nat, x = .int (n : Int) ∧ n ≤ 60 := by
  simp only [List.mem_cons, List.not_mem_nil, or_false] at h
  rcases h with h | h | h | h | h | h | h
  · exact ⟨1, h, by decide⟩
  · exact ⟨2, h, by decide⟩
  · exact ⟨3, h, by decide⟩
  · exact ⟨4, h, by decide⟩
  · exact ⟨7, h, by decide⟩
  · exact ⟨30, h, by decide⟩
  · exact ⟨60, h, by decide⟩
theorem pl_of {x : V} (h : x ∈ [V.int 0, .int 0, .int 1, .int 2, .int 3, .int 6, .int 60]) : ∃ n : Nat, x = .int (n : Int) ∧ n ≤ 60 := by
  simp only [List.mem_cons, List.not_mem_nil, or_false] at h
  rcases h with h | h | h | h | h | h | h
  · exact ⟨0, h, by decide⟩
  · exact ⟨0, h, by decide⟩
  · exact ⟨1, h, by decide⟩
  · exact ⟨2, h, by decide⟩
  · exact ⟨3, h, by decide⟩
  · exact ⟨6, h, by decide⟩
  · exact ⟨60, h, by decide⟩
theorem wd_of {x : V} (h : x ∈ [V.int 0, .int 0, .int 1, .int 5, .int 12, .int 199, .int 200]) : ∃ n : Int, x = .int n ∧ 0 ≤ n ∧ n ≤ 200 := by
  simp only [List.mem_cons, List.not_mem_nil, or_false] at h
  rcases h with h | h | h | h | h | h | h <;> exact ⟨_, h, by decide, by decide⟩
theorem pow10_le {n : Nat} (h : n ≤ 60) : (10 : Int) ^ n ≤ 10 ^ 60 := by
  have : (10 : Nat) ^ n ≤ 10 ^ 60 := Nat.pow_le_pow_right (by decide) h
  exact_mod_cast this
theorem Src.chg {a c p : Addr} {H : Hp} {t : Nat} {o : HO} (S : Src H a c t) (pa : p ≠ a) (pc : p ≠ c) : Src (upd H p o) a c t := by
  obtain ⟨cs, h, l⟩ := S.cl
  exact ⟨S.ne, (upd_ne pa.symm).trans S.ob, cs, (upd_ne pc.symm).trans h, l⟩
theorem five_text : textM (-5) 2 false false 0 = ("-0.05" : Str) := by
  refine ext_tl ?_
  rw [due_text (by decide) (by decide) (by decide) (by decide)]
  show _ = tl (Str.ofString "-0.05")
  rw [tl_ofString]
  decide +kernel
theorem group_text : textM 1234567 0 false true 0 = ("1,234,567" : Str) := by
  refine ext_tl ?_
  rw [due_text (by decide) (by decide) (by decide) (by decide)]
  show _ = tl (Str.ofString "1,234,567")
  rw [tl_ofString]
  decide +kernel
/-- a part: any thing, an int of 60 digits at most; what it is lies apart from the source and the parts -/
def Pt (a c p : Addr) (H : Hp) (x : V) : Prop := (∃ n, Th H x n) ∧ (∀ i, x = .int i → -10 ^ 60 ≤ i ∧ i ≤ 10 ^ 60) ∧ ∀ q, x = .ref q → q ≠ a ∧ q ≠ c ∧ q ≠ p
theorem Pt.keep {a c p : Addr} {H H' : Hp} {x : V} (h : Pt a c p H x) (k : ∀ b o, H b = some o → b ≠ a → b ≠ c → b ≠ p → H' b = some o) : Pt a c p H' x := by
  obtain ⟨⟨n, t⟩, ib, rf⟩ := h
  refine ⟨?_, ib, rf⟩
  cases t with
  | int i => exact ⟨_, .int i⟩
  | bl b => exact ⟨_, .bl b⟩
  | non => exact ⟨_, .non⟩
  | str s => exact ⟨_, .str s⟩
  | tup h => exact ⟨_, .tup (k _ _ h (rf _ rfl).1 (rf _ rfl).2.1 (rf _ rfl).2.2)⟩
  | lst h => exact ⟨_, .lst (k _ _ h (rf _ rfl).1 (rf _ rfl).2.1 (rf _ rfl).2.2)⟩
  | dk h => exact ⟨_, .dk (k _ _ h (rf _ rfl).1 (rf _ rfl).2.1 (rf _ rfl).2.2)⟩
theorem Pt.int {a c p : Addr} {H : Hp} {i : Int} (h : -10 ^ 60 ≤ i ∧ i ≤ 10 ^ 60) : Pt a c p H (.int i) := ⟨⟨_, .int i⟩, fun j e => by injection e with e; rw [← e]; exact h, fun _ e => by cases e⟩
theorem Pt.bl {a c p : Addr} {H : Hp} (b : Bool) : Pt a c p H (.bl b) := ⟨⟨_, .bl b⟩, (fun _ e => by cases e), (fun _ e => by cases e)⟩
theorem Pt.non {a c p : Addr} {H : Hp} : Pt a c p H .non := ⟨⟨_, .non⟩, (fun _ e => by cases e), (fun _ e => by cases e)⟩
theorem Pt.str {a c p : Addr} {H : Hp} (s : Str) : Pt a c p H (.str s) := ⟨⟨_, .str s⟩, (fun _ e => by cases e), (fun _ e => by cases e)⟩
theorem ans_ex {a c p : Addr} {H : Hp} {x y z u v : V} (hx : Pt a c p H x) (hy : Pt a c p H y) (hz : Pt a c p H z) (hu : Pt a c p H u) (hv : Pt a c p H v) : ∃ r, Ans H x y z u v r := by
  obtain ⟨⟨n, t⟩, ib, _⟩ := hx
  obtain ⟨⟨n2, t2⟩, _, _⟩ := hy
  obtain ⟨⟨n3, t3⟩, _, _⟩ := hz
  obtain ⟨⟨n4, t4⟩, _, _⟩ := hu
  obtain ⟨⟨n5, t5⟩, _, _⟩ := hv
  cases h1 : isI n with
  | false => exact ⟨_, .val t h1⟩
  | true =>
    obtain ⟨fig, rfl⟩ := int_of t h1
    cases h2 : inB y 0 60 with
    | false => exact ⟨_, .plc t2 h2⟩
    | true =>
      obtain ⟨pl, rfl, p0, p1⟩ := inB_of h2
      cases h3 : (isB n3 && (isB n4 && inB v 0 200)) with
      | false => exact ⟨_, .sty h2 t3 t4 t5 h3⟩
      | true =>
        rw [Bool.and_eq_true, Bool.and_eq_true] at h3
        obtain ⟨sg, rfl⟩ := bl_of t3 h3.1
        obtain ⟨gr, rfl⟩ := bl_of t4 h3.2.1
        obtain ⟨wd, rfl, w0, w1⟩ := inB_of h3.2.2
        obtain ⟨pn, rfl⟩ := Int.eq_ofNat_of_zero_le p0
        have := ib fig rfl
        exact ⟨_, .good (by omega) (by omega) (by omega) w0 w1⟩
theorem Ans.same {H H' : Hp} {x y z u v r : V} (h : Ans H x y z u v r) (s : Same H H') : Ans H' x y z u v r := by
  cases h with
  | val t h => exact .val (t.same s) h
  | plc t h => exact .plc (t.same s) h
  | sty h t1 t2 t3 b => exact .sty h (t1.same s) (t2.same s) (t3.same s) b
  | good f0 f1 p1 w0 w1 => exact .good f0 f1 p1 w0 w1
theorem Ans.flat {H : Hp} {x y z u v r : V} (h : Ans H x y z u v r) : (∃ k : Int, r = .int k) ∨ ∃ s : Str, r = .str s := by
  cases h with
  | val _ _ => exact .inl ⟨_, rfl⟩
  | plc _ _ => exact .inl ⟨_, rfl⟩
  | sty _ _ _ _ _ => exact .inl ⟨_, rfl⟩
  | good _ _ _ _ _ => exact .inr ⟨_, rfl⟩
section
variable {P : Program} {w : World} {K : PySem.W.Frag} {mg : Str → Option Value} {base : Heap} {f0 f1 f2 f3 f4 f5 f6 f7 : Addr} {d0 d1 d2 d3 d4 d5 d6 d7 : FuncData} {C : Nat → Addr}
theorem ok_law {f : Addr} {fd : FuncData} (F : Fun K "law" "law" s_law f fd) (B : Blt mg) (So : Cal P w K mg base "_law_source" 1 ["_law_script"] (spSource K) f0 d0) (D : Cal P w K mg base "_law_draw" 1 ["_law_source_here", "_law_limit"] spDraw f1 d1)
    (Pk : Cal P w K mg base "_law_pick" 2 ["_law_source_here", "_law_values"] spPick f2 d2) (G : Cal P w K mg base "_law_great" 2 ["_law_source_here", "_law_digits_here"] spGreat f3 d3)
    (As : Cal P w K mg base "_law_asked" 5 ["_law_figure", "_law_places", "_law_signed", "_law_by_three", "_law_wide"] spAsk f4 d4) (Wd : Cal P w K mg base "_law_word" 3 ["_law_parts"] spWordT f5 d5) (Du : Cal P w K mg base "_law_due" 2 ["_law_figure", "_law_places", "_law_signed", "_law_by_three", "_law_wide"] spDueT f6 d6)
    (Tx : TxX P w K mg base C f7 d7) : FnOk P w K mg base CX0 6 f fd ["_law_script"] (spLaw K) := by
  refine F.ok sc_law (fun vs H Q E h => ?_) (fun cdv A outer s H vs Q E hr h => ?_)
  · obtain ⟨l, ns, rfl, _⟩ := h
    rfl
  · obtain ⟨l, ns, rfl, hL, hn, q⟩ := h
    have nd := sc_law.nd
    refine ⟨_, (pss_cons (ps_set (i := 1) nd rfl (Or.inl rfl) (pcl So hr (by decide) (by rfl) (pa_cons (pv 0) pa_nil)))
      (pss_cons (ps_for PassesOwn.never rfl (pi_range1 (by rfl) B.range (pa_cons pe_int pa_nil)) (pg_name (i := 2) nd rfl (Or.inl rfl)) (pss_cons (ps_set (i := 3) nd rfl (Or.inl rfl) (pe_op op_mul (pcl G hr (by decide) (by rfl) (pa_cons (pv 1) (pa_cons (pcl Pk hr (by decide) (by rfl) (pa_cons (pv 1) (pa_cons (pe_lst (pa_cons pe_int (pa_cons pe_int (pa_cons pe_int (pa_cons pe_int (pa_cons pe_int (pa_cons pe_int (pa_cons pe_int pa_nil)))))))) pa_nil))) pa_nil))) (pcl Pk hr (by decide) (by rfl) (pa_cons (pv 1) (pa_cons (pe_lst (pa_cons pe_int (pa_cons (pe_un un_neg pe_int) pa_nil))) pa_nil)))))
      (pss_cons (ps_set (i := 4) nd rfl (Or.inl rfl) (pcl Pk hr (by decide) (by rfl) (pa_cons (pv 1) (pa_cons (pe_lst (pa_cons pe_int (pa_cons pe_int (pa_cons pe_int (pa_cons pe_int (pa_cons pe_int (pa_cons pe_int (pa_cons pe_int pa_nil)))))))) pa_nil))))
      (pss_cons (ps_par (i := 5) (j := 6) (by rfl) nd rfl rfl (by decide) rfl rfl (pa_cons (pe_cmpR op_eq (pcl D hr (by decide) (by rfl) (pa_cons (pv 1) (pa_cons pe_int pa_nil))) pe_int (nomark _)) (pa_cons (pe_cmpR op_eq (pcl D hr (by decide) (by rfl) (pa_cons (pv 1) (pa_cons pe_int pa_nil))) pe_int (nomark _)) pa_nil)) (by rfl))
      (pss_cons (ps_set (i := 7) nd rfl (Or.inl rfl) (pe_lst (pa_cons (pv 3) (pa_cons (pv 4) (pa_cons (pv 5) (pa_cons (pv 6) (pa_cons (pcl Pk hr (by decide) (by rfl) (pa_cons (pv 1) (pa_cons (pe_lst (pa_cons pe_int (pa_cons pe_int (pa_cons pe_int (pa_cons pe_int (pa_cons pe_int (pa_cons pe_int (pa_cons pe_int pa_nil)))))))) pa_nil))) pa_nil)))))))
      (pss_cons (ps_if (pt_cmpR op_ne (pcl As hr (by decide) (by rfl) (pa_cons (pe_ix ix_list (pv 7) pe_int (fun _ _ => rfl)) (pa_cons (pe_ix ix_list (pv 7) pe_int (fun _ _ => rfl)) (pa_cons (pe_ix ix_list (pv 7) pe_int (fun _ _ => rfl)) (pa_cons (pe_ix ix_list (pv 7) pe_int (fun _ _ => rfl)) (pa_cons (pe_ix ix_list (pv 7) pe_int (fun _ _ => rfl)) pa_nil)))))) (pcl Wd hr (by decide) (by rfl) (pa_cons (pv 7) pa_nil)) (nomark _)) (pss_one (ps_ret pe_bl)) pss_nil)
      (pss_cons (ps_if (pt_cmpR op_ne (pcX2 Tx hr (by decide) (by rfl) takes0 (pa_cons (pv 3) (pa_cons (pv 4) pa_nil))) (pcl Du hr (by decide) (by rfl) (pa_cons (pv 3) (pa_cons (pv 4) (pa_cons pe_bl (pa_cons pe_bl (pa_cons pe_int pa_nil)))))) (nomark _)) (pss_one (ps_ret pe_bl)) pss_nil)
      (pss_cons (ps_if (pt_cmpR op_ne (pcXw Tx hr (by decide) (by rfl) takes0 (pa_cons (pv 3) (pa_cons (pv 4) pa_nil)) (pk_cons pe_int pk_nil)) (pcl Du hr (by decide) (by rfl) (pa_cons (pv 3) (pa_cons (pv 4) (pa_cons pe_bl (pa_cons pe_bl (pa_cons pe_int pa_nil)))))) (nomark _)) (pss_one (ps_ret pe_bl)) pss_nil)
      (pss_cons (ps_set (i := 8) nd rfl (Or.inl rfl) (pe_lst (pa_cons pe_non (pa_cons pe_bl (pa_cons pe_bl (pa_cons pe_str (pa_cons pe_str (pa_cons (pe_lst pa_nil) (pa_cons (pe_tup pa_nil) (pa_cons pe_dnewK (pa_cons (pe_un un_neg pe_int) (pa_cons pe_int (pa_cons pe_int (pa_cons (pe_tup (pa_cons pe_int pa_nil)) (pa_cons pe_str (pa_cons pe_int (pa_cons pe_int pa_nil)))))))))))))))))
      (pss_cons (ps_par (i := 9) (j := 10) (by rfl) nd rfl rfl (by decide) rfl rfl (pa_cons (pcl D hr (by decide) (by rfl) (pa_cons (pv 1) (pa_cons pe_int pa_nil))) (pa_cons (pcl D hr (by decide) (by rfl) (pa_cons (pv 1) (pa_cons pe_int pa_nil))) pa_nil)) (by rfl))
      (pss_cons (ps_asg (pcl Pk hr (by decide) (by rfl) (pa_cons (pv 1) (pa_cons (pv 8) pa_nil))) (pg_sub (pv 7) (pv 9) set_list))
      (pss_cons (ps_if (pt_cmpR op_eq (pcl D hr (by decide) (by rfl) (pa_cons (pv 1) (pa_cons pe_int pa_nil))) pe_int (nomark _)) (pss_one (ps_asg (pcl Pk hr (by decide) (by rfl) (pa_cons (pv 1) (pa_cons (pv 8) pa_nil))) (pg_sub (pv 7) (pv 10) set_list))) pss_nil)
      (pss_one (ps_if (pt_cmpR op_ne (pcl As hr (by decide) (by rfl) (pa_cons (pe_ix ix_list (pv 7) pe_int (fun _ _ => rfl)) (pa_cons (pe_ix ix_list (pv 7) pe_int (fun _ _ => rfl)) (pa_cons (pe_ix ix_list (pv 7) pe_int (fun _ _ => rfl)) (pa_cons (pe_ix ix_list (pv 7) pe_int (fun _ _ => rfl)) (pa_cons (pe_ix ix_list (pv 7) pe_int (fun _ _ => rfl)) pa_nil)))))) (pcl Wd hr (by decide) (by rfl) (pa_cons (pv 7) pa_nil)) (nomark _)) (pss_one (ps_ret pe_bl)) pss_nil))))))))))))))
      (pss_one (ps_ret (pe_and (pe_cmpR op_eq (pcX2 Tx hr (by decide) (by rfl) takes0 (pa_cons (pe_un un_neg pe_int) (pa_cons pe_int pa_nil))) pe_str (nomark _)) (pe_one (pe_cmpR op_eq (pcXg Tx hr (by decide) (by rfl) takes0 (pa_cons pe_int (pa_cons pe_int pa_nil)) (pk_cons pe_bl pk_nil)) pe_str (nomark _)))))))), ?_⟩
    walk_at "rd"
    refine ⟨l, ns, rfl, hL, hn, fun a c H0 sm na nc S0 => ?_⟩
    walk_at "rd"
    refine ⟨by decide, by decide, ?_⟩
    refine for_range (n := 30) (fun i σ H' => ∃ (x2 x3 x4 x5 x6 x7 x8 x9 x10 : Option V) (t : Nat), σ = [some (.ref l), some (.ref a), x2, x3, x4, x5, x6, x7, x8, x9, x10] ∧ t ≤ 100 * i ∧ Src H' a c t) ⟨none, none, none, none, none, none, none, none, none, 0, rfl, by omega, S0⟩ ?_ ?_
    · rintro i σ H' hi ⟨x2, x3, x4, x5, x6, x7, x8, x9, x10, t, rfl, ht, S'⟩
      walk_at "rd"
      refine ⟨(by show 7 ≤ sizeLine; decide), fun l1 nl1 => ?_⟩
      obtain ⟨la, lc⟩ := S'.na nl1
      refine ⟨a, c, _, l1, _, rfl, S'.new nl1, by omega, upd_same, la, lc, by decide, by decide, fun x H1 hx S1 O1 => ?_⟩
      obtain ⟨n, rfl, hn⟩ := dg_of hx
      refine ⟨a, c, t + 1, n, rfl, S1, by omega, by omega, fun k H2 k0 k1 S2 O2 => ?_⟩
      walk_at "rd"
      refine ⟨(by show 2 ≤ sizeLine; decide), fun l2 nl2 => ?_⟩
      obtain ⟨la2, lc2⟩ := S2.na nl2
      refine ⟨a, c, _, l2, _, rfl, S2.new nl2, by omega, upd_same, la2, lc2, by decide, by decide, fun x H3 hx3 S3 O3 => ?_⟩
      obtain ⟨j, rfl, hj⟩ := sg2_of hx3
      walk_at "rd"
      refine ⟨.inr (by rcases hj with e | e <;> subst e <;> exact ⟨by decide, by decide⟩), ?_⟩
      have k60 : k < 10 ^ 60 := Int.lt_of_lt_of_le k1 (pow10_le hn)
      have g0 : -10 ^ 60 < k * j := by rcases hj with e | e <;> subst e <;> omega
      have g1 : k * j < 10 ^ 60 := by rcases hj with e | e <;> subst e <;> omega
      have b0 : -10 ^ 62 < k * j := by omega
      have b1 : k * j < 10 ^ 62 := by omega
      walk_at "rd"
      refine ⟨(by show 7 ≤ sizeLine; decide), fun l3 nl3 => ?_⟩
      obtain ⟨la3, lc3⟩ := S3.na nl3
      refine ⟨a, c, _, l3, _, rfl, S3.new nl3, by omega, upd_same, la3, lc3, by decide, by decide, fun x H4 hx4 S4 O4 => ?_⟩
      obtain ⟨pl, rfl, hpl⟩ := pl_of hx4
      walk_at "rd"
      refine ⟨a, c, _, 2, rfl, S4, by omega, by decide, by decide, fun v1 H5 v10 v11 S5 O5 => ?_⟩
      walk_at "rd"
      refine ⟨rfl, ?_⟩
      walk_at "rd"
      refine ⟨a, c, _, 2, rfl, S5, by omega, by decide, by decide, fun v2 H6 v20 v21 S6 O6 => ?_⟩
      walk_at "rd"
      refine ⟨rfl, ?_⟩
      walk_at "rd"
      refine ⟨_, _, rfl, ?_⟩
      walk_at "rd"
      refine ⟨(by show 7 ≤ sizeLine; decide), fun l4 nl4 => ?_⟩
      obtain ⟨la4, lc4⟩ := S6.na nl4
      refine ⟨a, c, _, l4, _, rfl, S6.new nl4, by omega, upd_same, la4, lc4, by decide, by decide, fun x H7 hx7 S7 O7 => ?_⟩
      obtain ⟨wd, rfl, w0, w1⟩ := wd_of hx7
      walk_at "rd"
      refine ⟨(by show 5 ≤ sizeLine; decide), fun p np => ?_⟩
      obtain ⟨pa, pc⟩ := S7.na np
      obtain ⟨sg, esg⟩ : ∃ sg, sg = decide (V.int v1 = V.int 0) := ⟨_, rfl⟩
      obtain ⟨gr, egr⟩ : ∃ gr, gr = decide (V.int v2 = V.int 0) := ⟨_, rfl⟩
      have hp : upd H7 p (.lst [V.int (k * j), V.int (pl : Int), V.bl (decide (V.int v1 = V.int 0)), V.bl (decide (V.int v2 = V.int 0)), V.int wd]) p = some (.lst [V.int (k * j), V.int (pl : Int), V.bl sg, V.bl gr, V.int wd]) := by rw [upd_same, esg, egr]
      have S8 := S7.new (o := .lst [V.int (k * j), V.int (pl : Int), V.bl (decide (V.int v1 = V.int 0)), V.bl (decide (V.int v2 = V.int 0)), V.int wd]) np
      have hp := hp
      generalize upd H7 p _ = H8 at hp S8 ⊢
      have an : ∀ H, Ans H (V.int (k * j)) (V.int (pl : Int)) (V.bl sg) (V.bl gr) (V.int wd) (.str (textM (k * j) pl sg gr wd)) := fun H => .good b0 b1 hpl w0 w1
      walk_at "rd"
      refine ⟨p, _, _, _, rfl, rfl, SqL.of hp, rfl, ?_⟩
      walk_at "rd"
      refine ⟨p, _, _, _, rfl, rfl, SqL.of hp, rfl, ?_⟩
      walk_at "rd"
      refine ⟨p, _, _, _, rfl, rfl, SqL.of hp, rfl, ?_⟩
      walk_at "rd"
      refine ⟨p, _, _, _, rfl, rfl, SqL.of hp, rfl, ?_⟩
      walk_at "rd"
      refine ⟨p, _, _, _, rfl, rfl, SqL.of hp, rfl, ?_⟩
      walk_at "rd"
      refine ⟨_, _, _, _, _, _, rfl, an _, fun H9 m9 => ?_⟩
      walk_at "rd"
      refine ⟨p, _, _, _, _, _, _, rfl, m9 _ _ hp, an _, fun ii e => (by injection e with e; rw [← e]; omega), fun H10 m10 => ?_⟩
      walk_at "rd"
      refine ⟨rfl, ?_⟩
      walk_at "rd"
      refine ite2 (fun h => (not_t h (decide_eq_true rfl)).elim) (fun _ => ?_)
      walk_at "rd"
      refine ⟨_, _, _, _, _, rfl, .good b0 b1 hpl (by decide) (by decide) fun H11 m11 => ?_⟩
      walk_at "rd"
      refine ⟨k * j, pl, false, false, 0, rfl, b0, b1, hpl, by decide, by decide, fun H12 m12 => ?_⟩
      walk_at "rd"
      refine ⟨rfl, ?_⟩
      walk_at "rd"
      refine ite2 (fun h => (not_t h (decide_eq_true rfl)).elim) (fun _ => ?_)
      walk_at "rd"
      refine ⟨rfl, rfl, _, _, _, _, _, rfl, .good b0 b1 hpl (by decide) (by decide) fun H13 m13 => ?_⟩
      walk_at "rd"
      refine ⟨k * j, pl, false, false, 9, rfl, b0, b1, hpl, by decide, by decide, fun H14 m14 => ?_⟩
      walk_at "rd"
      refine ⟨rfl, ?_⟩
      walk_at "rd"
      refine ite2 (fun h => (not_t h (decide_eq_true rfl)).elim) (fun _ => ?_)
      have s814 := ((((m9.trans m10).trans m11).trans m12).trans m13).trans m14
      have S14 := S8.of_same s814
      have hp14 := s814 _ _ hp
      clear S8 S7 S6 S5 S4 S3 S2 S1 O1 O2 O3 O4 O5 O6 O7 m9 m10 m11 m12 m13 m14 s814 hp an
      walk_at "rd"
      refine ⟨by decide, fun le nle => ?_⟩
      have s15 := same_upd (o := .lst []) nle
      have hle : upd H14 le (.lst []) le = some (.lst []) := upd_same
      generalize upd H14 le (.lst []) = H15 at s15 hle ⊢
      walk_at "rd"
      refine ⟨by decide, fun te nte => ?_⟩
      have s16 := same_upd (o := .tup []) nte
      have hte : upd H15 te (.tup []) te = some (.tup []) := upd_same
      generalize upd H15 te (.tup []) = H16 at s16 hte ⊢
      walk_at "rd"
      intro de nde
      have s17 := same_upd (o := .dK []) nde
      have hde : upd H16 de (.dK []) de = some (.dK []) := upd_same
      generalize upd H16 de (.dK []) = H17 at s17 hde ⊢
      walk_at "rd"
      refine ⟨(by show 1 ≤ sizeLine; decide), fun oe noe => ?_⟩
      have s18 := same_upd (o := .tup [V.int 1]) noe
      have hoe : upd H17 oe (.tup [V.int 1]) oe = some (.tup [V.int 1]) := upd_same
      generalize upd H17 oe (.tup [V.int 1]) = H18 at s18 hoe ⊢
      walk_at "rd"
      refine ⟨(by show 15 ≤ sizeLine; decide), fun od nod => ?_⟩
      have s19 := same_upd (o := .lst [V.non, V.bl true, V.bl false, V.str "1", V.str "", V.ref le, V.ref te, V.ref de, V.int (-1), V.int 61, V.int 201, V.ref oe, V.str "+", V.int 0, V.int 1]) nod
      have hod : upd H18 od (.lst [V.non, V.bl true, V.bl false, V.str "1", V.str "", V.ref le, V.ref te, V.ref de, V.int (-1), V.int 61, V.int 201, V.ref oe, V.str "+", V.int 0, V.int 1]) od = some (.lst [V.non, V.bl true, V.bl false, V.str "1", V.str "", V.ref le, V.ref te, V.ref de, V.int (-1), V.int 61, V.int 201, V.ref oe, V.str "+", V.int 0, V.int 1]) := upd_same
      have S18 := (((S14.of_same s15).of_same s16).of_same s17).of_same s18
      obtain ⟨oda, odc⟩ := S18.na nod
      have hp18 := s18 _ _ (s17 _ _ (s16 _ _ (s15 _ _ hp14)))
      have odp : od ≠ p := fun x => by rw [x, hp18] at nod; cases nod
      have S19 := S18.of_same s19
      have hp19 := s19 _ _ hp18
      have lea := S14.na nle
      have tea := (S14.of_same s15).na nte
      have dea := ((S14.of_same s15).of_same s16).na nde
      have oea := (((S14.of_same s15).of_same s16).of_same s17).na noe
      have lep : le ≠ p := fun x => by rw [x, hp14] at nle; cases nle
      have tep : te ≠ p := fun x => by rw [x, s15 _ _ hp14] at nte; cases nte
      have dep : de ≠ p := fun x => by rw [x, s16 _ _ (s15 _ _ hp14)] at nde; cases nde
      have oep : oe ≠ p := fun x => by rw [x, s17 _ _ (s16 _ _ (s15 _ _ hp14))] at noe; cases noe
      have hle9 := s19 _ _ (s18 _ _ (s17 _ _ (s16 _ _ hle)))
      have hte9 := s19 _ _ (s18 _ _ (s17 _ _ hte))
      have hde9 := s19 _ _ (s18 _ _ hde)
      have hoe9 := s19 _ _ hoe
      generalize upd H18 od _ = H19 at hod S19 hp19 hle9 hte9 hde9 hoe9 ⊢
      obtain ⟨odd, hodd⟩ : ∃ odd, odd = [V.non, V.bl true, V.bl false, V.str "1", V.str "", V.ref le, V.ref te, V.ref de, V.int (-1), V.int 61, V.int 201, V.ref oe, V.str "+", V.int 0, V.int 1] := ⟨_, rfl⟩
      have opt : ∀ x ∈ odd, Pt a c p H19 x := fun x hx => by
        rw [hodd] at hx
        simp only [List.mem_cons, List.not_mem_nil, or_false] at hx
        rcases hx with e | e | e | e | e | e | e | e | e | e | e | e | e | e | e <;> subst e
        · exact Pt.non
        · exact Pt.bl _
        · exact Pt.bl _
        · exact Pt.str _
        · exact Pt.str _
        · exact ⟨⟨_, .lst hle9⟩, (fun _ e => by cases e), fun q e => by injection e with e; rw [← e]; exact ⟨lea.1, lea.2, lep⟩⟩
        · exact ⟨⟨_, .tup hte9⟩, (fun _ e => by cases e), fun q e => by injection e with e; rw [← e]; exact ⟨tea.1, tea.2, tep⟩⟩
        · exact ⟨⟨_, .dk hde9⟩, (fun _ e => by cases e), fun q e => by injection e with e; rw [← e]; exact ⟨dea.1, dea.2, dep⟩⟩
        · exact Pt.int (by decide)
        · exact Pt.int (by decide)
        · exact Pt.int (by decide)
        · exact ⟨⟨_, .tup hoe9⟩, (fun _ e => by cases e), fun q e => by injection e with e; rw [← e]; exact ⟨oea.1, oea.2, oep⟩⟩
        · exact Pt.str _
        · exact Pt.int (by decide)
        · exact Pt.int (by decide)
      have olen : odd.length = 15 := by rw [hodd]; rfl
      rw [← hodd] at hod
      obtain ⟨xs, hxs⟩ : ∃ xs, xs = [V.int (k * j), V.int (pl : Int), V.bl sg, V.bl gr, V.int wd] := ⟨_, rfl⟩
      rw [← hxs] at hp19
      have xlen : xs.length = 5 := by rw [hxs]; rfl
      have xpt : ∀ x ∈ xs, Pt a c p H19 x := fun x hx => by
        rw [hxs] at hx
        simp only [List.mem_cons, List.not_mem_nil, or_false] at hx
        rcases hx with e | e | e | e | e <;> subst e
        · exact Pt.int (by omega)
        · exact Pt.int (by omega)
        · exact Pt.bl _
        · exact Pt.bl _
        · exact Pt.int (by omega)
      clear hle9 hte9 hde9 hoe9 hle hte hde hoe s15 s16 s17 s18 s19 hp18 S18 lea tea dea oea lep tep dep oep nle nte nde noe nod S14 hp14
      walk_at "rd"
      refine ⟨a, c, _, 5, rfl, S19, by omega, by decide, by decide, fun w1 H20 w10 w11 S20 O20 => ?_⟩
      walk_at "rd"
      refine ⟨a, c, _, 5, rfl, S20, by omega, by decide, by decide, fun w2 H21 w20 w21 S21 O21 => ?_⟩
      walk_at "rd"
      refine ⟨_, _, rfl, ?_⟩
      walk_at "rd"
      have hod21 := O21 _ _ (O20 _ _ hod oda odc) oda odc
      refine ⟨a, c, _, od, odd, rfl, S21, by omega, hod21, oda, odc, by omega, by rw [olen]; decide, fun x H22 hx22 S22 O22 => ?_⟩
      have O1922 := (O20.trans O21).trans O22
      have hp22 := O1922 _ _ hp19 pa pc
      walk_at "rd"
      refine ⟨p, _, _, _, rfl, rfl, hp22, ixN_in w10 (by rw [xlen]; exact w11), ?_⟩
      have hp23 : upd H22 p (.lst (xs.set w1.toNat x)) p = some (.lst (xs.set w1.toNat x)) := upd_same
      have S23 : Src (upd H22 p (.lst (xs.set w1.toNat x))) a c _ := S22.chg pa pc
      have k23 : ∀ b o, H19 b = some o → b ≠ a → b ≠ c → b ≠ p → upd H22 p (.lst (xs.set w1.toNat x)) b = some o := fun b o e ba bc bp => (upd_ne bp).trans (O1922 _ _ e ba bc)
      generalize upd H22 p (.lst (xs.set w1.toNat x)) = H23 at hp23 S23 k23 ⊢
      have ypt : ∀ y ∈ xs.set w1.toNat x, Pt a c p H23 y := fun y hy => by
        rcases List.mem_or_eq_of_mem_set hy with h | h
        · exact (xpt y h).keep k23
        · rw [h]
          exact (opt x hx22).keep k23
      have ylen : (xs.set w1.toNat x).length = 5 := by rw [List.length_set, xlen]
      generalize xs.set w1.toNat x = ys at hp23 ypt ylen ⊢
      have hod23 := k23 _ _ hod oda odc odp
      walk_at "rd"
      refine ⟨a, c, _, 3, rfl, S23, by omega, by decide, by decide, fun w3 H24 w30 w31 S24 O24 => ?_⟩
      have hp24 := O24 _ _ hp23 pa pc
      have hod24 := O24 _ _ hod23 oda odc
      have k24 : ∀ b o, H19 b = some o → b ≠ a → b ≠ c → b ≠ p → H24 b = some o := fun b o e ba bc bp => O24 _ _ (k23 _ _ e ba bc bp) ba bc
      have ypt24 : ∀ y ∈ ys, Pt a c p H24 y := fun y hy => (ypt y hy).keep fun b o e ba bc _ => O24 _ _ e ba bc
      walk_at "rd"
      refine ⟨rfl, ?_⟩
      walk_at "rd"
      refine ite2 (fun h3 => ?_) (fun h3 => ?_)
      · walk_at "rd"
        refine ⟨a, c, _, od, odd, rfl, S24, by omega, hod24, oda, odc, by omega, by rw [olen]; decide, fun x2' H25 hx25 S25 O25 => ?_⟩
        have hp25 := O25 _ _ hp24 pa pc
        walk_at "rd"
        refine ⟨p, _, _, _, rfl, rfl, hp25, ixN_in w20 (by rw [ylen]; exact w21), ?_⟩
        have hp26 : upd H25 p (.lst (ys.set w2.toNat x2')) p = some (.lst (ys.set w2.toNat x2')) := upd_same
        have S26 : Src (upd H25 p (.lst (ys.set w2.toNat x2'))) a c _ := S25.chg pa pc
        have k26 : ∀ b o, H24 b = some o → b ≠ a → b ≠ c → b ≠ p → upd H25 p (.lst (ys.set w2.toNat x2')) b = some o := fun b o e ba bc bp => (upd_ne bp).trans (O25 _ _ e ba bc)
        generalize upd H25 p (.lst (ys.set w2.toNat x2')) = H26 at hp26 S26 k26 ⊢
        have zpt : ∀ y ∈ ys.set w2.toNat x2', Pt a c p H26 y := fun y hy => by
          rcases List.mem_or_eq_of_mem_set hy with h | h
          · exact (ypt24 y h).keep k26
          · rw [h]
            exact ((opt x2' hx25).keep k24).keep k26
        have zlen : (ys.set w2.toNat x2').length = 5 := by rw [List.length_set, ylen]
        generalize ys.set w2.toNat x2' = zs at hp26 zpt zlen ⊢
        obtain ⟨x, y, z, u, v, ee⟩ : ∃ x y z u v, zs = [x, y, z, u, v] := by
          match zs, zlen with
          | [x, y, z, u, v], _ => exact ⟨x, y, z, u, v, rfl⟩
        rw [ee] at hp26 zpt
        have px := zpt x (by simp)
        obtain ⟨r, an⟩ := ans_ex px (zpt y (by simp)) (zpt z (by simp)) (zpt u (by simp)) (zpt v (by simp))
        walk_at "rd"
        refine ⟨p, _, _, _, rfl, rfl, SqL.of hp26, rfl, ?_⟩
        walk_at "rd"
        refine ⟨p, _, _, _, rfl, rfl, SqL.of hp26, rfl, ?_⟩
        walk_at "rd"
        refine ⟨p, _, _, _, rfl, rfl, SqL.of hp26, rfl, ?_⟩
        walk_at "rd"
        refine ⟨p, _, _, _, rfl, rfl, SqL.of hp26, rfl, ?_⟩
        walk_at "rd"
        refine ⟨p, _, _, _, rfl, rfl, SqL.of hp26, rfl, ?_⟩
        walk_at "rd"
        refine ⟨_, _, _, _, _, _, rfl, an, fun H9 m9 => ?_⟩
        walk_at "rd"
        refine ⟨p, _, _, _, _, _, _, rfl, m9 _ _ hp26, an.same m9, px.2.1, fun H10 m10 => ?_⟩
        walk_at "rd"
        rcases an.flat with ⟨rk, rfl⟩ | ⟨rs, rfl⟩
        · refine ⟨rfl, ?_⟩
          walk_at "rd"
          refine ite2 (fun h => (not_t h (decide_eq_true rfl)).elim) (fun _ => ?_)
          walk_at "rd"
          refine ⟨_, _, _, _, _, _, _, _, _, _, rfl, ?_, S26.of_same (m9.trans m10)⟩
          omega
        · refine ⟨rfl, ?_⟩
          walk_at "rd"
          refine ite2 (fun h => (not_t h (decide_eq_true rfl)).elim) (fun _ => ?_)
          walk_at "rd"
          refine ⟨_, _, _, _, _, _, _, _, _, _, rfl, ?_, S26.of_same (m9.trans m10)⟩
          omega
      · obtain ⟨x, y, z, u, v, ee⟩ : ∃ x y z u v, ys = [x, y, z, u, v] := by
          match ys, ylen with
          | [x, y, z, u, v], _ => exact ⟨x, y, z, u, v, rfl⟩
        rw [ee] at hp24 ypt24
        have px := ypt24 x (by simp)
        obtain ⟨r, an⟩ := ans_ex px (ypt24 y (by simp)) (ypt24 z (by simp)) (ypt24 u (by simp)) (ypt24 v (by simp))
        walk_at "rd"
        refine ⟨p, _, _, _, rfl, rfl, SqL.of hp24, rfl, ?_⟩
        walk_at "rd"
        refine ⟨p, _, _, _, rfl, rfl, SqL.of hp24, rfl, ?_⟩
        walk_at "rd"
        refine ⟨p, _, _, _, rfl, rfl, SqL.of hp24, rfl, ?_⟩
        walk_at "rd"
        refine ⟨p, _, _, _, rfl, rfl, SqL.of hp24, rfl, ?_⟩
        walk_at "rd"
        refine ⟨p, _, _, _, rfl, rfl, SqL.of hp24, rfl, ?_⟩
        walk_at "rd"
        refine ⟨_, _, _, _, _, _, rfl, an, fun H9 m9 => ?_⟩
        walk_at "rd"
        refine ⟨p, _, _, _, _, _, _, rfl, m9 _ _ hp24, an.same m9, px.2.1, fun H10 m10 => ?_⟩
        walk_at "rd"
        rcases an.flat with ⟨rk, rfl⟩ | ⟨rs, rfl⟩
        · refine ⟨rfl, ?_⟩
          walk_at "rd"
          refine ite2 (fun h => (not_t h (decide_eq_true rfl)).elim) (fun _ => ?_)
          walk_at "rd"
          refine ⟨_, _, _, _, _, _, _, _, _, _, rfl, ?_, S24.of_same (m9.trans m10)⟩
          omega
        · refine ⟨rfl, ?_⟩
          walk_at "rd"
          refine ite2 (fun h => (not_t h (decide_eq_true rfl)).elim) (fun _ => ?_)
          walk_at "rd"
          refine ⟨_, _, _, _, _, _, _, _, _, _, rfl, ?_, S24.of_same (m9.trans m10)⟩
          omega
    · rintro σ H' ⟨x2, x3, x4, x5, x6, x7, x8, x9, x10, t, rfl, ht, S'⟩
      walk_at "rd"
      refine ⟨_, _, _, _, _, rfl, .good (fig := -5) (pl := 2) (by decide) (by decide) (by decide) (by decide) (by decide) fun H1 m1 => ?_⟩
      rw [five_text]
      walk_at "rd"
      refine ⟨rfl, ?_⟩
      walk_at "rd"
      refine ⟨rfl, rfl, _, _, _, _, _, rfl, .good (fig := 1234567) (pl := 0) (by decide) (by decide) (by decide) (by decide) (by decide) fun H2 m2 => ?_⟩
      rw [group_text]
      walk_at "rd"
      refine ⟨rfl, ?_⟩
      exact q _
end
end HT
namespace HT
open PySem L2
def errB (K : PySem.W.Frag) (C : Addr) : Bool := (PySem.W.clsIn K C).isSome && (decide (PySem.W.findIn K (.ref C) "__getattribute__" = some (some (.builtin "BaseException.__getattribute__"))) && (decide (PySem.W.findIn K (.ref C) "__getattr__" = some none) && (decide (PySem.W.subIn K (.ref C) (.type "BaseException") = some true) &&
  (decide (PySem.W.findIn K (.ref C) "__class__" = some (some (.builtin "object.__class__"))) && decide (PySem.W.mroIn K C (.type "object") = some true)))))
theorem errB_ok {K : PySem.W.Frag} {C : Addr} (h : errB K C = true) : ErrC K C := by
  unfold errB at h
  simp only [Bool.and_eq_true, decide_eq_true_eq] at h
  obtain ⟨a, b, c, d, e, f⟩ := h
  exact ⟨a, b, c, d, e, f⟩
def exB (K : PySem.W.Frag) (C : Addr) : Bool := PySem.W.excIn K C [.type "ValueError", .type "Exception", .type "BaseException", .type "object"] "ValueError.__new__" && PySem.W.keepIn K (.ref C)
def erT (K : PySem.W.Frag) (C : Nat → Addr) (B : Addr) (i : Nat) : Bool := errB K (C i) && (exB K (C i) && (decide (PySem.W.kitOne K (.ref (C i)) (.type "ValueError") = some true) && (decide (PySem.W.subIn K (.ref (C i)) (.type "BaseException") = some true) && (decide (PySem.W.typeIn K (.ref (C i)) = some (.type "type")) && (decide (PySem.W.exmOne K (.ref (C i)) (.ref B) = some true) &&
  (List.range 3).all fun j => decide (PySem.W.kitOne K (.ref (C i)) (.ref (C j)) = some (decide (i = j))))))))
def cAt (l : List Addr) (i : Nat) : Addr := l.getD i 0
theorem all_of {p : Nat → Bool} {n : Nat} (h : (List.range n).all p = true) {i : Nat} (hi : i < n) : p i = true := List.all_eq_true.mp h i (List.mem_range.mpr hi)
theorem all_mk {l : PySem.W.OpenLaw} {w : World} {K : PySem.W.Frag} {h : Heap} {mg : Str → Option Value} {fa aD c0 c1 c2 cB f_is_int f_is_int_between f_check_value f_text_of f_check_style f_grouped f_mark f_L_source f_L_draw f_L_pick f_L_great f_L_digits f_L_due f_L_asked f_L_is_whole f_L_word f_law : Addr} (X : K.In h) (G : h.Ns mainGlobals mg) (hfa : mg "law" = some (.ref fa))
    {od_is_int an_is_int od_is_int_between an_is_int_between od_check_value an_check_value od_text_of an_text_of od_check_style an_check_style od_grouped an_grouped od_mark an_mark od_L_source an_L_source od_L_draw an_L_draw od_L_pick an_L_pick od_L_great an_L_great od_L_digits an_L_digits od_L_due an_L_due od_L_asked an_L_asked od_L_is_whole an_L_is_whole od_L_word an_L_word od_law an_law : Option Addr} {sl_is_int sl_is_int_between sl_check_value sl_text_of sl_check_style sl_grouped sl_mark sl_L_source sl_L_draw sl_L_pick sl_L_great sl_L_digits sl_L_due sl_L_asked sl_L_is_whole sl_L_word sl_law : Array (Option Value)} {tP tW : Tok} {oc_is_int kV_is_int dc_is_int pm_is_int cd_is_int ct_is_int oc_is_int_between kV_is_int_between dc_is_int_between pm_is_int_between cd_is_int_between ct_is_int_between oc_check_value kV_check_value dc_check_value pm_check_value cd_check_value ct_check_value oc_text_of dc_text_of pm_text_of cd_text_of ct_text_of oc_check_style kV_check_style dc_check_style pm_check_style cd_check_style ct_check_style oc_grouped kV_grouped dc_grouped pm_grouped cd_grouped ct_grouped oc_mark kV_mark dc_mark pm_mark cd_mark ct_mark oc_L_source kV_L_source dc_L_source pm_L_source cd_L_source ct_L_source oc_L_draw kV_L_draw dc_L_draw pm_L_draw cd_L_draw ct_L_draw oc_L_pick kV_L_pick dc_L_pick pm_L_pick cd_L_pick ct_L_pick oc_L_great kV_L_great dc_L_great pm_L_great cd_L_great ct_L_great oc_L_digits kV_L_digits dc_L_digits pm_L_digits cd_L_digits ct_L_digits oc_L_due kV_L_due dc_L_due pm_L_due cd_L_due ct_L_due oc_L_asked kV_L_asked dc_L_asked pm_L_asked cd_L_asked ct_L_asked oc_L_is_whole kV_L_is_whole dc_L_is_whole pm_L_is_whole cd_L_is_whole ct_L_is_whole oc_L_word kV_L_word dc_L_word pm_L_word cd_L_word ct_L_word oc_law kV_law dc_law pm_law cd_law ct_law u_sign u_group u_width : Value}
    (a_is_int : PySem.W.nsIn K mainGlobals "is_int" = some (some (.ref f_is_int)))
    (l_is_int : K.lookup f_is_int = some ⟨oc_is_int, od_is_int, .func (PySem.W.fnOf "is_int" "is_int" (defArgs s_is_int) (defBody s_is_int) (defScope s_is_int) .none kV_is_int dc_is_int pm_is_int an_is_int cd_is_int ct_is_int), sl_is_int⟩)
    (c_is_int : PySem.W.codeIn K cd_is_int "is_int" = true) (k_is_int : PySem.W.keepIn K (.ref f_is_int) = true)
    (a_is_int_between : PySem.W.nsIn K mainGlobals "is_int_between" = some (some (.ref f_is_int_between)))
    (l_is_int_between : K.lookup f_is_int_between = some ⟨oc_is_int_between, od_is_int_between, .func (PySem.W.fnOf "is_int_between" "is_int_between" (defArgs s_is_int_between) (defBody s_is_int_between) (defScope s_is_int_between) .none kV_is_int_between dc_is_int_between pm_is_int_between an_is_int_between cd_is_int_between ct_is_int_between), sl_is_int_between⟩)
    (c_is_int_between : PySem.W.codeIn K cd_is_int_between "is_int_between" = true) (k_is_int_between : PySem.W.keepIn K (.ref f_is_int_between) = true)
    (a_check_value : PySem.W.nsIn K mainGlobals "check_value" = some (some (.ref f_check_value)))
    (l_check_value : K.lookup f_check_value = some ⟨oc_check_value, od_check_value, .func (PySem.W.fnOf "check_value" "check_value" (defArgs s_check_value) (defBody s_check_value) (defScope s_check_value) .none kV_check_value dc_check_value pm_check_value an_check_value cd_check_value ct_check_value), sl_check_value⟩)
    (c_check_value : PySem.W.codeIn K cd_check_value "check_value" = true) (k_check_value : PySem.W.keepIn K (.ref f_check_value) = true)
    (a_text_of : PySem.W.nsIn K mainGlobals "text_of" = some (some (.ref f_text_of)))
    (l_text_of : K.lookup f_text_of = some ⟨oc_text_of, od_text_of, .func (PySem.W.fnOf "text_of" "text_of" (defArgs s_text_of) (defBody s_text_of) (defScope s_text_of) .none (.ref aD) dc_text_of pm_text_of an_text_of cd_text_of ct_text_of), sl_text_of⟩)
    (c_text_of : PySem.W.codeIn K cd_text_of "text_of" = true) (k_text_of : PySem.W.keepIn K (.ref f_text_of) = true)
    (a_check_style : PySem.W.nsIn K mainGlobals "_check_style" = some (some (.ref f_check_style)))
    (l_check_style : K.lookup f_check_style = some ⟨oc_check_style, od_check_style, .func (PySem.W.fnOf "_check_style" "_check_style" (defArgs s_check_style) (defBody s_check_style) (defScope s_check_style) .none kV_check_style dc_check_style pm_check_style an_check_style cd_check_style ct_check_style), sl_check_style⟩)
    (c_check_style : PySem.W.codeIn K cd_check_style "_check_style" = true) (k_check_style : PySem.W.keepIn K (.ref f_check_style) = true)
    (a_grouped : PySem.W.nsIn K mainGlobals "_grouped" = some (some (.ref f_grouped)))
    (l_grouped : K.lookup f_grouped = some ⟨oc_grouped, od_grouped, .func (PySem.W.fnOf "_grouped" "_grouped" (defArgs s_grouped) (defBody s_grouped) (defScope s_grouped) .none kV_grouped dc_grouped pm_grouped an_grouped cd_grouped ct_grouped), sl_grouped⟩)
    (c_grouped : PySem.W.codeIn K cd_grouped "_grouped" = true) (k_grouped : PySem.W.keepIn K (.ref f_grouped) = true)
    (a_mark : PySem.W.nsIn K mainGlobals "_mark" = some (some (.ref f_mark)))
    (l_mark : K.lookup f_mark = some ⟨oc_mark, od_mark, .func (PySem.W.fnOf "_mark" "_mark" (defArgs s_mark) (defBody s_mark) (defScope s_mark) .none kV_mark dc_mark pm_mark an_mark cd_mark ct_mark), sl_mark⟩)
    (c_mark : PySem.W.codeIn K cd_mark "_mark" = true) (k_mark : PySem.W.keepIn K (.ref f_mark) = true)
    (a_L_source : PySem.W.nsIn K mainGlobals "_law_source" = some (some (.ref f_L_source)))
    (l_L_source : K.lookup f_L_source = some ⟨oc_L_source, od_L_source, .func (PySem.W.fnOf "_law_source" "_law_source" (defArgs s_L_source) (defBody s_L_source) (defScope s_L_source) .none kV_L_source dc_L_source pm_L_source an_L_source cd_L_source ct_L_source), sl_L_source⟩)
    (c_L_source : PySem.W.codeIn K cd_L_source "_law_source" = true) (k_L_source : PySem.W.keepIn K (.ref f_L_source) = true)
    (a_L_draw : PySem.W.nsIn K mainGlobals "_law_draw" = some (some (.ref f_L_draw)))
    (l_L_draw : K.lookup f_L_draw = some ⟨oc_L_draw, od_L_draw, .func (PySem.W.fnOf "_law_draw" "_law_draw" (defArgs s_L_draw) (defBody s_L_draw) (defScope s_L_draw) .none kV_L_draw dc_L_draw pm_L_draw an_L_draw cd_L_draw ct_L_draw), sl_L_draw⟩)
    (c_L_draw : PySem.W.codeIn K cd_L_draw "_law_draw" = true) (k_L_draw : PySem.W.keepIn K (.ref f_L_draw) = true)
    (a_L_pick : PySem.W.nsIn K mainGlobals "_law_pick" = some (some (.ref f_L_pick)))
    (l_L_pick : K.lookup f_L_pick = some ⟨oc_L_pick, od_L_pick, .func (PySem.W.fnOf "_law_pick" "_law_pick" (defArgs s_L_pick) (defBody s_L_pick) (defScope s_L_pick) .none kV_L_pick dc_L_pick pm_L_pick an_L_pick cd_L_pick ct_L_pick), sl_L_pick⟩)
    (c_L_pick : PySem.W.codeIn K cd_L_pick "_law_pick" = true) (k_L_pick : PySem.W.keepIn K (.ref f_L_pick) = true)
    (a_L_great : PySem.W.nsIn K mainGlobals "_law_great" = some (some (.ref f_L_great)))
    (l_L_great : K.lookup f_L_great = some ⟨oc_L_great, od_L_great, .func (PySem.W.fnOf "_law_great" "_law_great" (defArgs s_L_great) (defBody s_L_great) (defScope s_L_great) .none kV_L_great dc_L_great pm_L_great an_L_great cd_L_great ct_L_great), sl_L_great⟩)
    (c_L_great : PySem.W.codeIn K cd_L_great "_law_great" = true) (k_L_great : PySem.W.keepIn K (.ref f_L_great) = true)
    (a_L_digits : PySem.W.nsIn K mainGlobals "_law_digits" = some (some (.ref f_L_digits)))
    (l_L_digits : K.lookup f_L_digits = some ⟨oc_L_digits, od_L_digits, .func (PySem.W.fnOf "_law_digits" "_law_digits" (defArgs s_L_digits) (defBody s_L_digits) (defScope s_L_digits) .none kV_L_digits dc_L_digits pm_L_digits an_L_digits cd_L_digits ct_L_digits), sl_L_digits⟩)
    (c_L_digits : PySem.W.codeIn K cd_L_digits "_law_digits" = true) (k_L_digits : PySem.W.keepIn K (.ref f_L_digits) = true)
    (a_L_due : PySem.W.nsIn K mainGlobals "_law_due" = some (some (.ref f_L_due)))
    (l_L_due : K.lookup f_L_due = some ⟨oc_L_due, od_L_due, .func (PySem.W.fnOf "_law_due" "_law_due" (defArgs s_L_due) (defBody s_L_due) (defScope s_L_due) .none kV_L_due dc_L_due pm_L_due an_L_due cd_L_due ct_L_due), sl_L_due⟩)
    (c_L_due : PySem.W.codeIn K cd_L_due "_law_due" = true) (k_L_due : PySem.W.keepIn K (.ref f_L_due) = true)
    (a_L_asked : PySem.W.nsIn K mainGlobals "_law_asked" = some (some (.ref f_L_asked)))
    (l_L_asked : K.lookup f_L_asked = some ⟨oc_L_asked, od_L_asked, .func (PySem.W.fnOf "_law_asked" "_law_asked" (defArgs s_L_asked) (defBody s_L_asked) (defScope s_L_asked) .none kV_L_asked dc_L_asked pm_L_asked an_L_asked cd_L_asked ct_L_asked), sl_L_asked⟩)
    (c_L_asked : PySem.W.codeIn K cd_L_asked "_law_asked" = true) (k_L_asked : PySem.W.keepIn K (.ref f_L_asked) = true)
    (a_L_is_whole : PySem.W.nsIn K mainGlobals "_law_is_whole" = some (some (.ref f_L_is_whole)))
    (l_L_is_whole : K.lookup f_L_is_whole = some ⟨oc_L_is_whole, od_L_is_whole, .func (PySem.W.fnOf "_law_is_whole" "_law_is_whole" (defArgs s_L_is_whole) (defBody s_L_is_whole) (defScope s_L_is_whole) .none kV_L_is_whole dc_L_is_whole pm_L_is_whole an_L_is_whole cd_L_is_whole ct_L_is_whole), sl_L_is_whole⟩)
    (c_L_is_whole : PySem.W.codeIn K cd_L_is_whole "_law_is_whole" = true) (k_L_is_whole : PySem.W.keepIn K (.ref f_L_is_whole) = true)
    (a_L_word : PySem.W.nsIn K mainGlobals "_law_word" = some (some (.ref f_L_word)))
    (l_L_word : K.lookup f_L_word = some ⟨oc_L_word, od_L_word, .func (PySem.W.fnOf "_law_word" "_law_word" (defArgs s_L_word) (defBody s_L_word) (defScope s_L_word) .none kV_L_word dc_L_word pm_L_word an_L_word cd_L_word ct_L_word), sl_L_word⟩)
    (c_L_word : PySem.W.codeIn K cd_L_word "_law_word" = true) (k_L_word : PySem.W.keepIn K (.ref f_L_word) = true)
    (a_law : PySem.W.nsIn K mainGlobals "law" = some (some (.ref f_law)))
    (l_law : K.lookup f_law = some ⟨oc_law, od_law, .func (PySem.W.fnOf "law" "law" (defArgs s_law) (defBody s_law) (defScope s_law) .none kV_law dc_law pm_law an_law cd_law ct_law), sl_law⟩)
    (c_law : PySem.W.codeIn K cd_law "law" = true) (k_law : PySem.W.keepIn K (.ref f_law) = true)
    (z_len : PySem.W.nsIn K mainGlobals "len" = some none)
    (z_abs : PySem.W.nsIn K mainGlobals "abs" = some none)
    (z_int : PySem.W.nsIn K mainGlobals "int" = some none)
    (z_range : PySem.W.nsIn K mainGlobals "range" = some none)
    (z_isinstance : PySem.W.nsIn K mainGlobals "isinstance" = some none)
    (z_bool : PySem.W.nsIn K mainGlobals "bool" = some none)
    (z_tuple : PySem.W.nsIn K mainGlobals "tuple" = some none)
    (z_list : PySem.W.nsIn K mainGlobals "list" = some none)
    (z_str : PySem.W.nsIn K mainGlobals "str" = some none)
    (z_max : PySem.W.nsIn K mainGlobals "max" = some none)
    (z_ValueError : PySem.W.nsIn K mainGlobals "ValueError" = some none)
    (g_0 : PySem.W.nsIn K mainGlobals "InvalidValue" = some (some (.ref c0)))
    (g_1 : PySem.W.nsIn K mainGlobals "InvalidPlaces" = some (some (.ref c1)))
    (g_2 : PySem.W.nsIn K mainGlobals "InvalidStyle" = some (some (.ref c2)))
    (g_B : PySem.W.nsIn K mainGlobals "HandedError" = some (some (.ref cB)))
    (et_0 : erT K (cAt [c0, c1, c2]) cB 0 = true)
    (et_1 : erT K (cAt [c0, c1, c2]) cB 1 = true)
    (et_2 : erT K (cAt [c0, c1, c2]) cB 2 = true)
    (gsp : PySem.W.specialIn K (.builtin "object.__class__") "__get__" = some (some (.builtin "getset_descriptor.__get__")))
    (gtk : PySem.W.takesIn K (.builtin "object.__class__") = some true)
    (v_P : PySem.W.nsIn K mainGlobals "MOST_PLACES" = some (some (.int 60 tP)))
    (v_W : PySem.W.nsIn K mainGlobals "MOST_WIDTH" = some (some (.int 200 tW)))
    (q_sign : PySem.W.nsIn K aD "sign" = some (some u_sign))
    (r_sign : RelV (.bl false) u_sign)
    (q_group : PySem.W.nsIn K aD "group" = some (some u_group))
    (r_group : RelV (.bl false) u_group)
    (q_width : PySem.W.nsIn K aD "width" = some (some u_width))
    (r_width : RelV (.int 0) u_width) :
    ∃ fd : FuncData, (∀ (s : Shared) (v : Value), BindsTo s fd ⟨[v], []⟩ [("_law_script", v)]) ∧ ∀ base : Heap, K.In base → base.Ns mainGlobals mg → FnOk l.prog w K mg base CX0 6 fa fd ["_law_script"] (spLaw K) := by
  have e := hfa.symm.trans (PySem.W.mg_of X G a_law)
  cases e
  have F_is_int := fun_mk (st := s_is_int) l_is_int c_is_int k_is_int
  have b_is_int := F_is_int.binds (ps := ["thing"]) fun _ _ _ _ _ _ us hl => match us, hl with | [_], _ => rfl
  have m_is_int := PySem.W.mg_of X G a_is_int
  have F_is_int_between := fun_mk (st := s_is_int_between) l_is_int_between c_is_int_between k_is_int_between
  have b_is_int_between := F_is_int_between.binds (ps := ["thing", "least", "most"]) fun _ _ _ _ _ _ us hl => match us, hl with | [_, _, _], _ => rfl
  have m_is_int_between := PySem.W.mg_of X G a_is_int_between
  have F_check_value := fun_mk (st := s_check_value) l_check_value c_check_value k_check_value
  have b_check_value := F_check_value.binds (ps := ["value"]) fun _ _ _ _ _ _ us hl => match us, hl with | [_], _ => rfl
  have m_check_value := PySem.W.mg_of X G a_check_value
  have m_text_of := PySem.W.mg_of X G a_text_of
  have F_check_style := fun_mk (st := s_check_style) l_check_style c_check_style k_check_style
  have b_check_style := F_check_style.binds (ps := ["sign", "group", "width"]) fun _ _ _ _ _ _ us hl => match us, hl with | [_, _, _], _ => rfl
  have m_check_style := PySem.W.mg_of X G a_check_style
  have F_grouped := fun_mk (st := s_grouped) l_grouped c_grouped k_grouped
  have b_grouped := F_grouped.binds (ps := ["digits"]) fun _ _ _ _ _ _ us hl => match us, hl with | [_], _ => rfl
  have m_grouped := PySem.W.mg_of X G a_grouped
  have F_mark := fun_mk (st := s_mark) l_mark c_mark k_mark
  have b_mark := F_mark.binds (ps := ["figure", "sign"]) fun _ _ _ _ _ _ us hl => match us, hl with | [_, _], _ => rfl
  have m_mark := PySem.W.mg_of X G a_mark
  have F_L_source := fun_mk (st := s_L_source) l_L_source c_L_source k_L_source
  have b_L_source := F_L_source.binds (ps := ["_law_script"]) fun _ _ _ _ _ _ us hl => match us, hl with | [_], _ => rfl
  have m_L_source := PySem.W.mg_of X G a_L_source
  have F_L_draw := fun_mk (st := s_L_draw) l_L_draw c_L_draw k_L_draw
  have b_L_draw := F_L_draw.binds (ps := ["_law_source_here", "_law_limit"]) fun _ _ _ _ _ _ us hl => match us, hl with | [_, _], _ => rfl
  have m_L_draw := PySem.W.mg_of X G a_L_draw
  have F_L_pick := fun_mk (st := s_L_pick) l_L_pick c_L_pick k_L_pick
  have b_L_pick := F_L_pick.binds (ps := ["_law_source_here", "_law_values"]) fun _ _ _ _ _ _ us hl => match us, hl with | [_, _], _ => rfl
  have m_L_pick := PySem.W.mg_of X G a_L_pick
  have F_L_great := fun_mk (st := s_L_great) l_L_great c_L_great k_L_great
  have b_L_great := F_L_great.binds (ps := ["_law_source_here", "_law_digits_here"]) fun _ _ _ _ _ _ us hl => match us, hl with | [_, _], _ => rfl
  have m_L_great := PySem.W.mg_of X G a_L_great
  have F_L_digits := fun_mk (st := s_L_digits) l_L_digits c_L_digits k_L_digits
  have b_L_digits := F_L_digits.binds (ps := ["_law_number"]) fun _ _ _ _ _ _ us hl => match us, hl with | [_], _ => rfl
  have m_L_digits := PySem.W.mg_of X G a_L_digits
  have F_L_due := fun_mk (st := s_L_due) l_L_due c_L_due k_L_due
  have b_L_due := F_L_due.binds (ps := ["_law_figure", "_law_places", "_law_signed", "_law_by_three", "_law_wide"]) fun _ _ _ _ _ _ us hl => match us, hl with | [_, _, _, _, _], _ => rfl
  have m_L_due := PySem.W.mg_of X G a_L_due
  have F_L_asked := fun_mk (st := s_L_asked) l_L_asked c_L_asked k_L_asked
  have b_L_asked := F_L_asked.binds (ps := ["_law_figure", "_law_places", "_law_signed", "_law_by_three", "_law_wide"]) fun _ _ _ _ _ _ us hl => match us, hl with | [_, _, _, _, _], _ => rfl
  have m_L_asked := PySem.W.mg_of X G a_L_asked
  have F_L_is_whole := fun_mk (st := s_L_is_whole) l_L_is_whole c_L_is_whole k_L_is_whole
  have b_L_is_whole := F_L_is_whole.binds (ps := ["_law_value", "_law_low", "_law_high"]) fun _ _ _ _ _ _ us hl => match us, hl with | [_, _, _], _ => rfl
  have m_L_is_whole := PySem.W.mg_of X G a_L_is_whole
  have F_L_word := fun_mk (st := s_L_word) l_L_word c_L_word k_L_word
  have b_L_word := F_L_word.binds (ps := ["_law_parts"]) fun _ _ _ _ _ _ us hl => match us, hl with | [_], _ => rfl
  have m_L_word := PySem.W.mg_of X G a_L_word
  have F_law := fun_mk (st := s_law) l_law c_law k_law
  have b_law := F_law.binds (ps := ["_law_script"]) fun _ _ _ _ _ _ us hl => match us, hl with | [_], _ => rfl
  have m_law := PySem.W.mg_of X G a_law
  have n_len := PySem.W.mg_none_of X G z_len
  have n_abs := PySem.W.mg_none_of X G z_abs
  have n_int := PySem.W.mg_none_of X G z_int
  have n_range := PySem.W.mg_none_of X G z_range
  have n_isinstance := PySem.W.mg_none_of X G z_isinstance
  have n_bool := PySem.W.mg_none_of X G z_bool
  have n_tuple := PySem.W.mg_none_of X G z_tuple
  have n_list := PySem.W.mg_none_of X G z_list
  have n_str := PySem.W.mg_none_of X G z_str
  have n_max := PySem.W.mg_none_of X G z_max
  have n_ValueError := PySem.W.mg_none_of X G z_ValueError
  have BL : Blt mg := ⟨n_len, n_abs, n_int, n_range⟩
  have TC : ChkT mg := ⟨n_isinstance, n_int, n_bool, n_tuple, n_list, n_len⟩
  have T : TxtT mg tP tW := ⟨n_isinstance, n_int, n_bool, n_len, n_str, n_abs, n_range, n_max, PySem.W.mg_of X G v_P, PySem.W.mg_of X G v_W⟩
  have D_text_of : FunD K "text_of" "text_of" (defArgs s_text_of) (defBody s_text_of) (defScope s_text_of) [] [("sign", .bl false), ("group", .bl false), ("width", .int 0)] f_text_of _ := ⟨⟨_, _, _, _, _, _, _, _, _, _, rfl, l_text_of, c_text_of, .inl ⟨rfl, rfl⟩, .inr ⟨aD, rfl, fun q hq => by
    simp only [List.mem_cons, List.not_mem_nil, or_false] at hq
    rcases hq with e | e | e <;> subst e
    · exact ⟨_, q_sign, r_sign⟩
    · exact ⟨_, q_group, r_group⟩
    · exact ⟨_, q_width, r_width⟩⟩⟩, k_text_of⟩
  have tab : ∀ i, i < 3 → erT K (cAt [c0, c1, c2]) cB i = true := fun i hi => by
    rcases (by omega : i = 0 ∨ i = 1 ∨ i = 2) with e | e | e <;> subst e
    · exact et_0
    · exact et_1
    · exact et_2
  have tb : ∀ i, i < 3 → errB K (cAt [c0, c1, c2] i) = true ∧ (PySem.W.excIn K (cAt [c0, c1, c2] i) [.type "ValueError", .type "Exception", .type "BaseException", .type "object"] "ValueError.__new__" = true ∧ PySem.W.keepIn K (.ref (cAt [c0, c1, c2] i)) = true) ∧ PySem.W.kitOne K (.ref (cAt [c0, c1, c2] i)) (.type "ValueError") = some true ∧ PySem.W.subIn K (.ref (cAt [c0, c1, c2] i)) (.type "BaseException") = some true ∧ PySem.W.typeIn K (.ref (cAt [c0, c1, c2] i)) = some (.type "type") ∧ PySem.W.exmOne K (.ref (cAt [c0, c1, c2] i)) (.ref cB) = some true ∧ ∀ j, j < 3 → PySem.W.kitOne K (.ref (cAt [c0, c1, c2] i)) (.ref (cAt [c0, c1, c2] j)) = some (decide (i = j)) := fun i hi => by
    have z := tab i hi
    unfold erT exB at z
    simp only [Bool.and_eq_true, decide_eq_true_eq] at z
    obtain ⟨a, b, c, d, e, f, g⟩ := z
    exact ⟨a, b, c, d, e, f, fun j hj => of_decide_eq_true (all_of g hj)⟩
  have R : Er K mg (cAt [c0, c1, c2]) cB := { isi := n_isinstance, ve := n_ValueError, gB := PySem.W.mg_of X G g_B, g0 := PySem.W.mg_of X G g_0, g1 := PySem.W.mg_of X G g_1, g2 := PySem.W.mg_of X G g_2, kit := fun i j hi hj => (tb i hi).2.2.2.2.2.2 j hj, kitV := fun i hi => (tb i hi).2.2.1, ec := fun i hi => errB_ok (tb i hi).1, eg := ⟨gsp, gtk⟩, ex := fun i hi => (tb i hi).2.1.1, kp := fun i hi => (tb i hi).2.1.2, sb := fun i hi => (tb i hi).2.2.2.1, ty := fun i hi => (tb i hi).2.2.2.2.1, emB := fun i hi => (tb i hi).2.2.2.2.2.1 }
  refine ⟨PySem.W.fnOf "law" "law" (defArgs s_law) (defBody s_law) (defScope s_law) .none kV_law dc_law pm_law an_law cd_law ct_law, fun s v => .of_eq rfl, fun base _ _ => ?_⟩
  have C_is_int : Cal l.prog w K mg base "is_int" 1 ["thing"] spIsAny f_is_int _ := ⟨ok_is_any F_is_int TC, m_is_int, k_is_int, b_is_int⟩
  have C_is_int_between : Cal l.prog w K mg base "is_int_between" 2 ["thing", "least", "most"] spBetAny f_is_int_between _ := ⟨ok_bet_any F_is_int_between C_is_int, m_is_int_between, k_is_int_between, b_is_int_between⟩
  have C_check_value : CalX l.prog w K mg base "check_value" 2 ["value"] (spValX (cAt [c0, c1, c2])) f_check_value _ := ⟨ok_val_x F_check_value R C_is_int, m_check_value, k_check_value, b_check_value⟩
  have C_check_style : CalX l.prog w K mg base "_check_style" 3 ["sign", "group", "width"] (spStyleX (cAt [c0, c1, c2])) f_check_style _ := ⟨ok_style_x F_check_style T R C_is_int_between, m_check_style, k_check_style, b_check_style⟩
  have C_grouped : Cal l.prog w K mg base "_grouped" 1 ["digits"] spGrouped f_grouped _ := ⟨ok_grouped F_grouped T, m_grouped, k_grouped, b_grouped⟩
  have C_mark : Cal l.prog w K mg base "_mark" 1 ["figure", "sign"] spMark f_mark _ := ⟨ok_mark F_mark, m_mark, k_mark, b_mark⟩
  have C_TX : TxX l.prog w K mg base (cAt [c0, c1, c2]) f_text_of _ := ⟨D_text_of, ok_text_x D_text_of T R C_check_value C_is_int_between C_check_style C_grouped C_mark, m_text_of, k_text_of⟩
  have C_L_source : Cal l.prog w K mg base "_law_source" 1 ["_law_script"] (spSource K) f_L_source _ := ⟨ok_source F_L_source BL, m_L_source, k_L_source, b_L_source⟩
  have C_L_draw : Cal l.prog w K mg base "_law_draw" 1 ["_law_source_here", "_law_limit"] spDraw f_L_draw _ := ⟨ok_draw F_L_draw BL, m_L_draw, k_L_draw, b_L_draw⟩
  have C_L_pick : Cal l.prog w K mg base "_law_pick" 2 ["_law_source_here", "_law_values"] spPick f_L_pick _ := ⟨ok_pick F_L_pick BL C_L_draw, m_L_pick, k_L_pick, b_L_pick⟩
  have C_L_great : Cal l.prog w K mg base "_law_great" 2 ["_law_source_here", "_law_digits_here"] spGreat f_L_great _ := ⟨ok_great F_L_great BL C_L_draw, m_L_great, k_L_great, b_L_great⟩
  have C_L_digits : Cal l.prog w K mg base "_law_digits" 1 ["_law_number"] spDigits f_L_digits _ := ⟨ok_digits F_L_digits BL, m_L_digits, k_L_digits, b_L_digits⟩
  have C_L_due : Cal l.prog w K mg base "_law_due" 2 ["_law_figure", "_law_places", "_law_signed", "_law_by_three", "_law_wide"] spDueT f_L_due _ := ⟨ok_due F_L_due BL C_L_digits, m_L_due, k_L_due, b_L_due⟩
  have C_L_asked : Cal l.prog w K mg base "_law_asked" 5 ["_law_figure", "_law_places", "_law_signed", "_law_by_three", "_law_wide"] spAsk f_L_asked _ := ⟨ok_asked F_L_asked R C_TX, m_L_asked, k_L_asked, b_L_asked⟩
  have C_L_is_whole : Cal l.prog w K mg base "_law_is_whole" 1 ["_law_value", "_law_low", "_law_high"] spWhole1 f_L_is_whole _ := ⟨ok_whole F_L_is_whole TC, m_L_is_whole, k_L_is_whole, b_L_is_whole⟩
  have C_L_word : Cal l.prog w K mg base "_law_word" 3 ["_law_parts"] spWordT f_L_word _ := ⟨ok_wordT F_L_word TC C_L_is_whole C_L_due, m_L_word, k_L_word, b_L_word⟩
  exact ok_law F_law BL C_L_source C_L_draw C_L_pick C_L_great C_L_asked C_L_word C_L_due C_TX
theorem walk {l : PySem.W.OpenLaw} {q : Program} {loose : List Str} {XP : (Str → Option Value) → Heap → Prop} {YP : World → Heap → Prop} {d : DefRec} {K : Params → PySem.W.Frag} (hn : l.most = some 63) (hdf : d.params.defaults = [])
    (hY : ∀ (w : World) (h : Heap), YP w h → (K w.params).In h)
    (F : ∀ (w : World) (mg : Str → Option Value) (fa : Addr) (h : Heap), (K w.params).In h → h.Ns mainGlobals mg → mg d.name = some (.ref fa) →
      ∃ fd : FuncData, (∀ (s : Shared) (u : Value), BindsTo s fd ⟨[u], []⟩ [("_law_script", u)]) ∧ ∀ base : Heap, (K w.params).In base → base.Ns mainGlobals mg → FnOk l.prog w (K w.params) mg base CX0 6 fa fd ["_law_script"] (spLaw (K w.params))) :
    PySem.W.WalkO q loose XP YP l.row.toRowW d [] (fun f vs => PySem.call f vs) :=
  L2.walk_of (n := 63) (k := 6) (x := "_law_script") (CX := fun _ => CX0) (sp := fun w => spLaw (K w.params)) hn (by decide) hdf ⟨rfl, by decide, by decide⟩ hY F (fun _ _ a ns hl _ hS => ⟨a, ns, rfl, hS, hl, fun _ => rfl⟩) fun _ _ _ _ _ z => z
end HT
open PySem PySem.W PyProof.Rows
set_option maxRecDepth 100000 in
set_option maxHeartbeats 0 in
theorem PySem.Challenge.cw_handedtext_k01_texts_written_holds : PySem.Challenge.rw_handedtext_k01_texts_written.Holds := by
  w_on; o_law; k_head; (case hw => w_witness2)
  k_fill
  refine HT.walk (l := PySem.Challenge.rw_handedtext_k01_texts_written) rfl rfl (fun w h Y => PySem.W.kIn_of Y) ?F
  case F =>
    intro w mg fa h KX G hmg
    refine' HT.all_mk KX G hmg ?a_is_int ?l_is_int ?c_is_int ?k_is_int ?a_is_int_between ?l_is_int_between ?c_is_int_between ?k_is_int_between ?a_check_value ?l_check_value ?c_check_value ?k_check_value ?a_text_of ?l_text_of ?c_text_of ?k_text_of ?a_check_style ?l_check_style ?c_check_style ?k_check_style ?a_grouped ?l_grouped ?c_grouped ?k_grouped ?a_mark ?l_mark ?c_mark ?k_mark ?a_L_source ?l_L_source ?c_L_source ?k_L_source ?a_L_draw ?l_L_draw ?c_L_draw ?k_L_draw ?a_L_pick ?l_L_pick ?c_L_pick ?k_L_pick ?a_L_great ?l_L_great ?c_L_great ?k_L_great ?a_L_digits ?l_L_digits ?c_L_digits ?k_L_digits ?a_L_due ?l_L_due ?c_L_due ?k_L_due ?a_L_asked ?l_L_asked ?c_L_asked ?k_L_asked ?a_L_is_whole ?l_L_is_whole ?c_L_is_whole ?k_L_is_whole ?a_L_word ?l_L_word ?c_L_word ?k_L_word ?a_law ?l_law ?c_law ?k_law ?z_len ?z_abs ?z_int ?z_range ?z_isinstance ?z_bool ?z_tuple ?z_list ?z_str ?z_max ?z_ValueError ?g_0 ?g_1 ?g_2 ?g_B ?et_0 ?et_1 ?et_2 ?gsp ?gtk ?v_P ?v_W ?q_sign ?r_sign ?q_group ?r_group ?q_width ?r_width
    (case a_is_int => k_is)
    (case l_is_int => k_is)
    (case c_is_int => k_is)
    (case k_is_int => k_is)
    (case a_is_int_between => k_is)
    (case l_is_int_between => k_is)
    (case c_is_int_between => k_is)
    (case k_is_int_between => k_is)
    (case a_check_value => k_is)
    (case l_check_value => k_is)
    (case c_check_value => k_is)
    (case k_check_value => k_is)
    (case a_text_of => k_is)
    (case l_text_of => k_is)
    (case c_text_of => k_is)
    (case k_text_of => k_is)
    (case a_check_style => k_is)
    (case l_check_style => k_is)
    (case c_check_style => k_is)
    (case k_check_style => k_is)
    (case a_grouped => k_is)
    (case l_grouped => k_is)
    (case c_grouped => k_is)
    (case k_grouped => k_is)
    (case a_mark => k_is)
    (case l_mark => k_is)
    (case c_mark => k_is)
    (case k_mark => k_is)
    (case a_L_source => k_is)
    (case l_L_source => k_is)
    (case c_L_source => k_is)
    (case k_L_source => k_is)
    (case a_L_draw => k_is)
    (case l_L_draw => k_is)
    (case c_L_draw => k_is)
    (case k_L_draw => k_is)
    (case a_L_pick => k_is)
    (case l_L_pick => k_is)
    (case c_L_pick => k_is)
    (case k_L_pick => k_is)
    (case a_L_great => k_is)
    (case l_L_great => k_is)
    (case c_L_great => k_is)
    (case k_L_great => k_is)
    (case a_L_digits => k_is)
    (case l_L_digits => k_is)
    (case c_L_digits => k_is)
    (case k_L_digits => k_is)
    (case a_L_due => k_is)
    (case l_L_due => k_is)
    (case c_L_due => k_is)
    (case k_L_due => k_is)
    (case a_L_asked => k_is)
    (case l_L_asked => k_is)
    (case c_L_asked => k_is)
    (case k_L_asked => k_is)
    (case a_L_is_whole => k_is)
    (case l_L_is_whole => k_is)
    (case c_L_is_whole => k_is)
    (case k_L_is_whole => k_is)
    (case a_L_word => k_is)
    (case l_L_word => k_is)
    (case c_L_word => k_is)
    (case k_L_word => k_is)
    (case a_law => k_is)
    (case l_law => k_is)
    (case c_law => k_is)
    (case k_law => k_is)
    (case z_len => k_is)
    (case z_abs => k_is)
    (case z_int => k_is)
    (case z_range => k_is)
    (case z_isinstance => k_is)
    (case z_bool => k_is)
    (case z_tuple => k_is)
    (case z_list => k_is)
    (case z_str => k_is)
    (case z_max => k_is)
    (case z_ValueError => k_is)
    (case g_0 => k_is)
    (case g_1 => k_is)
    (case g_2 => k_is)
    (case g_B => k_is)
    (case et_0 => kernel_rfl)
    (case et_1 => kernel_rfl)
    (case et_2 => kernel_rfl)
    (case gsp => k_is)
    (case gtk => k_is)
    (case v_P => k_is)
    (case v_W => k_is)
    (case q_sign => k_is)
    (case r_sign => first | exact rfl | exact ⟨_, rfl⟩)
    (case q_group => k_is)
    (case r_group => first | exact rfl | exact ⟨_, rfl⟩)
    (case q_width => k_is)
    (case r_width => first | exact rfl | exact ⟨_, rfl⟩)
#print axioms PySem.Challenge.cw_handedtext_k01_texts_written_holds
