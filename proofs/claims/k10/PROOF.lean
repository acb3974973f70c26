import PyProof.Rows.All
import Wide.All
import OpenK.AllK
import Wide.FinOn
import HandS.Exc
import HandS.ExcField
import HandS.ExcInit
import HandS.ExcIs
import HandS.ExcValue
import HandS.ForMost
import HandS.HotCalls
import HandS.IsInst
import HandS.NoneIn
import HandS.RaiseFrom
import HandS.SuiteRaise
import HandS.TryOnly
import HandS.Wide
import KE.KEqDeep
import KE.KEqSeq
import KE.KExcIs
import HandS.WordsExc
import HandS.WideBits
import HandS.More
import HandS.Deep
import PySem.Challenge.RW_handedtext_k10_along
set_option Elab.async false
set_option linter.all false
set_option maxRecDepth 100000
set_option maxHeartbeats 4000000
set_option exponentiation.threshold 3000
open PySem L2
local macro_rules | `(tactic| walk_at "rd") => `(tactic| repeat (first | refine ⟨_, rfl, ?_⟩ | refine ⟨_, _, rfl, rfl, ?_⟩ | refine .inl ⟨_, rfl, ?_⟩))
namespace L2
open PySem PySem.Spec PyProof.Rows
/-- an error that was caught and kept, at a -/
def ExK (cls : Value) (a : Addr) : HO := .ext fun hp => ∃ (rec' : Obj) (cells : Array Value), hp.get? a = some rec' ∧ Zc cls none rec' ∧ rec'.data = .fields cells
/-- wKeep: what 'except x as n' wishes, where the error stays tracked behind the suite -/
def wKeep (K : PySem.W.Frag) (c : Value) (i : Nat) (ts : Addr → Value → Option Addr → TS) (Wout : WX) (D : Ends) : WX := fun kl dd st H =>
  ∃ yes, PySem.W.exmOne K kl c = some yes ∧ (yes = true → dd = none ∧ ∀ a, H a = none → ts a kl dd { nx := fun st' H' => D.nx (st'.set i none) (upd H' a (ExK kl a)), rt := D.rt, bk := fun st' H' => D.bk (st'.set i none) H', ct := fun st' H' => D.ct (st'.set i none) H' } (st.set i (some (.ref a))) H) ∧
    (yes = false → Wout kl dd st H)
section
variable {X : Cx} {pins : List (Addr × Obj)} {st : St} {H : Hp} {sh : Shared}
theorem Inv.adopt {a : Addr} {kl : Value} {rc : Obj} {cells : Array Value} (iv : Inv X pins st H sh) (new0 : X.s_0.heap.get? a = none) (free : H a = none) (at0 : sh.heap.get? a = some rc) (zc : Zc kl none rc) (fl : rc.data = .fields cells) (nl : a ≠ X.env.locals)
    (np : ∀ p ∈ X.pn ++ pins, p.1 ≠ a) : Inv X pins st (upd H a (ExK kl a)) sh := by
  have old : ∀ c rr, X.s_0.heap.get? c = some rr → c ≠ a := fun c rr e z => by
    rw [z, new0] at e
    cases e
  have other : ∀ c u, H c = some u → upd H a (ExK kl a) c = some u := fun c u e => (upd_ne (ne_of_none e free)).trans e
  refine ⟨iv.ok, iv.os, iv.bare, ⟨iv.base.keep, iv.base.slot, fun c rr e n0 nx => ?_, iv.base.there, fun c xs e => other _ _ (iv.base.tups c xs e), fun c rr u e => other _ _ (iv.base.frzs c rr u e), fun c ps e => ?_⟩, iv.loc, iv.cell, ?_, fun y c e => ?_, fun p hp => ?_, fun c u e => ?_, iv.len⟩
  · exact (upd_ne (old c rr e)).trans (iv.base.free c rr e n0 nx)
  · obtain ⟨more, e2⟩ := iv.base.tbls c ps e
    exact ⟨more, other _ _ e2⟩
  · exact (upd_ne nl.symm).trans iv.free
  · obtain ⟨w, rr, e2, e3⟩ := iv.cell y c e
    refine (upd_ne fun z => ?_).trans (iv.freeC y c e)
    subst z
    rw [at0] at e2
    cases e2
    simp [fl] at e3
  · obtain ⟨e1, e2, e3, e4, e5⟩ := iv.pin p hp
    exact ⟨e1, (upd_ne (np p hp)).trans e2, e3, e4, e5⟩
  · by_cases ca : c = a
    · subst ca
      rw [upd_same] at e
      cases e
      exact ⟨⟨rc, cells, at0, zc, fl⟩, ⟨rc, at0⟩, fun _ _ ⟨r2, c2, e2, e3⟩ same => ⟨r2, c2, same _ e2, e3⟩⟩
    · rw [upd_ne ca] at e
      exact (iv.hok c u e).stay (fun _ _ _ e2 => e2) (fun c2 e2 => other _ _ e2) fun c2 xs e2 => other _ _ e2
end
end L2
namespace L2
open PySem PySem.Spec PyProof.Rows
section
variable {X : Cx} {x n : Str} {c : Value} {i : Nat} {body suite : List Stmt} {first : Stmt} {np pos pos' : Pos} {tb : WX → TS} {ts : Addr → Value → Option Addr → TS} {Wout : WX}
/-- try: .. except x as n: suite; the caught error stays tracked behind it -/
theorem ps_try_keep (stk : X.stack = X.env :: X.outer) (frm : X.env.frame = some X.env.locals) (noex : X.ex = []) (dist : X.N.Nodup) (slot : X.N[i]? = some n) (loc : X.env.kindOf n = some .local) (nam : Names X x c) (tk : Takes X Wout)
    (inner : ∀ (W : WX) (pn : List (Addr × Obj)) (xe : Value → Shared → Prop), Takes (X.tr pn xe) W → PassesOwn (model X.prog X.w) X.A X.env xe → PSs (X.tr pn xe) body (tb W))
    (caught : ∀ (a : Addr) (rc : Obj) (kl : Value) (dd : Option Addr) (pn : List (Addr × Obj)), Zc kl dd rc → (∃ cells, rc.data = .fields cells) → PSs (X.suite a ((a, rc) :: pn)) (first :: suite) (ts a kl dd)) :
    PS X (.Try body [.ExceptHandler (some (.Name x np)) (some n) (first :: suite) pos'] [] [] pos) (fun D st H => tb (wKeep X.K c i ts Wout D) D st H) where
  run := fun pins sh st H D iv want => by
    have fine := iv.ok
    have frames : X.A.frames = some (X.env :: X.outer) := by rw [fine.frames, stk]
    refine wpAny_Try_except (wpAny_mono ((inner (wKeep X.K c i ts Wout D) (X.pn ++ pins) _ (fun u sh' air => ?_) PassesOwn.looking).run [] sh st H D (iv.toTry _) want) ?_ fun _ _ e => e)
    · obtain ⟨a, B, shI, pins', st1, H1, kl, dd, rfl, ivT, inB, upTo, sky, freeA, sameOs, bareG, yes, dec, onYes, onNo⟩ := air
      have iv1 : Inv X pins st1 H1 shI := ivT.ofTry fine
      rw [stk] at sky
      refine Sky.land Zc.steady frames frm sky fun hp3 fly3 up3 => ?_
      have bNone : B.get? a = none := fly3.2.1
      have iv3 : Inv X pins st1 H1 { sh' with heap := hp3 } := iv1.landed inB fly3.1 (upTo.trans up3) sameOs bareG
      obtain ⟨rc3, cells3, at3, zc3, dt3⟩ := fly3.there
      have offFrames : a ∉ frs (X.env :: X.outer) := fun mem => by
        obtain ⟨_, r2, e2, bad⟩ := fly3.2.2.1.mem mem
        rw [at3] at e2
        cases e2
        exact bad _ dt3
      have offL : a ≠ X.env.locals := fun z => offFrames (List.mem_filterMap.mpr ⟨X.env, List.mem_cons_self, by rw [frm, z]⟩)
      have offF : a ∉ X.fs := fun mem => by
        obtain ⟨ee, inn, ef⟩ := List.mem_filterMap.mp mem
        exact offFrames (List.mem_filterMap.mpr ⟨ee, List.mem_cons_of_mem _ inn, ef⟩)
      have notThere : shI.heap.get? a = none := by
        cases e : shI.heap.get? a with
        | none => rfl
        | some rr =>
          have z := inB a rr e (by rw [stk]; exact offFrames)
          rw [bNone] at z
          cases z
      have new0 : X.s_0.heap.get? a = none := by
        cases e : X.s_0.heap.get? a with
        | none => rfl
        | some rr =>
          obtain ⟨r2, e2⟩ := iv1.base.there a rr e (by rw [noex]; exact List.not_mem_nil)
          rw [notThere] at e2
          cases e2
      have pinsOff : ∀ p ∈ X.pn ++ pins, p.1 ≠ a := fun p hp z => by
        have e2 := (iv1.pin p hp).1
        rw [z, notThere] at e2
        cases e2
      have inSuite := iv3.suite at3 dt3 freeA offL offF
      refine wpAny_handleBy_cons (codeAny_handlers_test ?_) (by intro q; cases q)
      have theClass : PySem.W.Looks (model X.prog X.w) hp3 (typeOf (.ref a)) kl := fun A' Q' E' s' kk qq => wpAny_typeOf_ref (kk _ _ at3) (by rw [zc3.1]; exact qq)
      have theTest := PySem.W.exm_one (M := model X.prog X.w) iv3.kIn theClass dec
      have clause : ∀ {Q' : Value → Shared → Prop} {E' : Value → Shared → Prop}, Q' c { sh' with heap := hp3 } → wpAny (model X.prog X.w) (X.A.mark (some (.ref a))) (eval (.Name x np) X.env) Q' E' { sh' with heap := hp3 } := fun {Q' E'} qq => by
        obtain ⟨g1, g2, g3 | ⟨g3, g4, g5⟩⟩ := nam
        · exact ld_glob (X := X.suite a ((a, rc3) :: (X.pn ++ pins))) inSuite g1 g3 qq g2
        · exact ld_blt (X := X.suite a ((a, rc3) :: (X.pn ++ pins))) inSuite g1 g3 g4 qq g5 g2
      refine clause (theTest.here ?_)
      cases yes with
      | true =>
        obtain ⟨rfl, go⟩ := onYes rfl
        refine codeAny_handlers_suite_as (HandSPX.lands_againZ fly3 fun hp4 fly4 up4 => ?_)
        have iv4 : Inv X pins st1 H1 { sh' with heap := hp4 } := iv1.landed inB fly4.1 ((upTo.trans up3).trans up4) sameOs bareG
        obtain ⟨rc4, cells4, at4, zc4, dt4⟩ := fly4.there
        refine store_ok (X := X.suite a ((a, rc4) :: (X.pn ++ pins))) (v := .ref a) (iv4.suite at4 dt4 freeA offL offF) dist slot (.inl loc) rfl (fun sh5 iv5 => ?_) (.inr loc)
        refine wpAny_mono ((caught a rc4 kl none (X.pn ++ pins) zc4 ⟨_, dt4⟩).run [] sh5 _ H1 _ iv5 (go a freeA)) (fun flow sh6 came => ?_) fun _ _ z => z.elim
        cases flow with
        | next =>
          obtain ⟨st6, H6, iv6, q6⟩ := came
          have more : Inv X ((a, rc4) :: pins) st6 H6 sh6 := ⟨fine, iv6.os, iv6.bare, iv6.base, iv6.loc, iv6.cell, iv6.free, iv6.freeC, fun p hp => iv6.pin p (List.mem_append_left _ ?_), iv6.hok, iv6.len⟩
          refine gone_ok more dist slot loc fun sh7 iv7 => ?_
          have there : (a, rc4) ∈ X.pn ++ (a, rc4) :: pins := List.mem_append_right _ List.mem_cons_self
          obtain ⟨e1, e2, e3, _⟩ := iv7.pin (a, rc4) there
          have less : Inv X pins (st6.set i none) H6 sh7 := ⟨fine, iv7.os, iv7.bare, iv7.base, iv7.loc, iv7.cell, iv7.free, iv7.freeC, fun p hp => iv7.pin p ?_, iv7.hok, iv7.len⟩
          · exact ⟨_, _, less.adopt new0 e2 e1 zc4 dt4 e3 pinsOff, q6⟩
          · rcases List.mem_append.mp hp with hq | hq
            · exact List.mem_append_left _ hq
            · exact List.mem_append_right _ (List.mem_cons_of_mem _ hq)
          · rcases List.mem_append.mp hp with hq | hq
            · exact List.mem_cons_of_mem _ (List.mem_append_left _ hq)
            · rcases List.mem_cons.mp hq with hr | hr
              · rw [hr]; exact List.mem_cons_self
              · exact List.mem_cons_of_mem _ (List.mem_append_right _ hr)
        | brk =>
          obtain ⟨st6, H6, iv6, q6⟩ := came
          exact gone_ok (iv6.unsuite fine) dist slot loc fun sh7 iv7 => ⟨_, _, iv7, q6⟩
        | cont =>
          obtain ⟨st6, H6, iv6, q6⟩ := came
          exact gone_ok (iv6.unsuite fine) dist slot loc fun sh7 iv7 => ⟨_, _, iv7, q6⟩
        | ret u =>
          obtain ⟨v6, st6, H6, iv6, r6, q6⟩ := came
          exact gone_ok (iv6.unsuite fine) dist slot loc fun sh7 iv7 => ⟨_, _, _, iv7, r6, q6⟩
      | false =>
        show wpAny _ X.A (handleBy (.ref a) X.env []) _ _ _
        refine wpAny_handleBy_nil ?_
        obtain ⟨_, _, _, rc5, cells5, tr5, _, _, at5, _, dt5, at1, _⟩ := id fly3
        unfold PySem.passOn
        refine wpAny_bind (wpAny_field at5 dt5 at1 ?_)
        rw [if_neg (by simp : ¬ (Value.ref tr5 == Value.none) = true)]
        have out : wpAny (model X.prog X.w) X.A (setFlight (.ref a) X.env.frame) (fun _ sh8 => wpAny (model X.prog X.w) X.A (throw (.ref a) : Sem Flow) (SP X pins D) X.xe sh8) X.xe { sh' with heap := hp3 } := by
          rw [frm]
          refine HandSPX.setFlight_upZ fly3 fun hp8 held up8 => wpAny_throw (tk _ _ ?_)
          exact ⟨a, B, shI, pins, st1, H1, kl, dd, rfl, iv1, inB, (upTo.trans up3).trans up8, .inr (.inr (by rw [stk]; exact held)), freeA, sameOs, bareG, onNo rfl⟩
        first
          | exact wpAny_bind out
          | exact wpAny_bind (wpAny_pure (wpAny_bind out))
    · intro flow sh1 came
      cases flow with
      | next =>
        obtain ⟨st1, H1, iv1, q1⟩ := came
        exact wpAny_execs_nil ⟨st1, H1, iv1.ofTry fine, q1⟩
      | brk =>
        obtain ⟨st1, H1, iv1, q1⟩ := came
        exact ⟨st1, H1, iv1.ofTry fine, q1⟩
      | cont =>
        obtain ⟨st1, H1, iv1, q1⟩ := came
        exact ⟨st1, H1, iv1.ofTry fine, q1⟩
      | ret u =>
        obtain ⟨v1, st1, H1, iv1, r1, q1⟩ := came
        exact ⟨v1, st1, H1, iv1.ofTry fine, r1, q1⟩
end
end L2
namespace HT
open PySem L2
def top (i : Nat) : Stmt := PySem.Challenge.pw_handedtext_k10_along.main.body.getD i (.Pass ⟨0, 0, 0, 0⟩)
abbrev s_is_int : Stmt := top 10
abbrev s_is_int_between : Stmt := top 11
abbrev s_check_value : Stmt := top 12
abbrev s_check_side : Stmt := top 15
abbrev s_figure : Stmt := top 17
abbrev s_goes_up : Stmt := top 18
abbrev s_written : Stmt := top 19
abbrev s_below : Stmt := top 20
abbrev s_threshold : Stmt := top 21
abbrev s_check_sides : Stmt := top 25
abbrev s_period_of : Stmt := top 26
abbrev s_common_period : Stmt := top 28
abbrev s_along : Stmt := top 30
abbrev s_check_numbers : Stmt := top 31
abbrev s_before : Stmt := top 32
abbrev s_route : Stmt := top 33
abbrev s_runs : Stmt := top 35
abbrev s_widened : Stmt := top 36
abbrev s_ends : Stmt := top 37
abbrev s_within : Stmt := top 38
abbrev s_holds : Stmt := top 39
abbrev s_way : Stmt := top 40
abbrev s_L_source : Stmt := top 42
abbrev s_L_draw : Stmt := top 43
abbrev s_L_pick : Stmt := top 44
abbrev s_L_great : Stmt := top 45
abbrev s_L_ten : Stmt := top 46
abbrev s_L_step : Stmt := top 47
abbrev s_L_side : Stmt := top 48
abbrev s_L_written : Stmt := top 49
abbrev s_L_word : Stmt := top 50
abbrev s_L_words : Stmt := top 51
abbrev s_L_doors_right : Stmt := top 52
abbrev s_law : Stmt := top 53
abbrev s_is_side : Stmt := top 16
abbrev s_moved : Stmt := top 27
abbrev s_fewest : Stmt := top 34
/- is_int: 0:thing -/
theorem sc_is_int : FnScope ["thing"] ["thing"] (defScope s_is_int) := ⟨rfl, rfl, rfl, by decide +kernel, rfl, by decide +kernel, by decide +kernel⟩
/- is_int_between: 0:thing 1:least 2:most -/
theorem sc_is_int_between : FnScope ["thing", "least", "most"] ["thing", "least", "most"] (defScope s_is_int_between) := ⟨rfl, rfl, rfl, by decide +kernel, rfl, by decide +kernel, by decide +kernel⟩
/- check_value: 0:value -/
theorem sc_check_value : FnScope ["value"] ["value"] (defScope s_check_value) := ⟨rfl, rfl, rfl, by decide +kernel, rfl, by decide +kernel, by decide +kernel⟩
/- check_side: 0:side 1:offset 2:step 3:mode -/
theorem sc_check_side : FnScope ["side", "offset", "step", "mode"] ["side"] (defScope s_check_side) := ⟨rfl, rfl, rfl, by decide +kernel, rfl, by decide +kernel, by decide +kernel⟩
/- _figure: 0:side 1:value 2:offset 3:step 4:mode 5:figure 6:rest -/
theorem sc_figure : FnScope ["side", "value", "offset", "step", "mode", "figure", "rest"] ["side", "value"] (defScope s_figure) := ⟨rfl, rfl, rfl, by decide +kernel, rfl, by decide +kernel, by decide +kernel⟩
/- _goes_up: 0:mode 1:step 2:figure 3:rest -/
theorem sc_goes_up : FnScope ["mode", "step", "figure", "rest"] ["mode", "step", "figure", "rest"] (defScope s_goes_up) := ⟨rfl, rfl, rfl, by decide +kernel, rfl, by decide +kernel, by decide +kernel⟩
/- written: 0:side 1:value 2:offset 3:step 4:_ -/
theorem sc_written : FnScope ["side", "value", "offset", "step", "_"] ["side", "value"] (defScope s_written) := ⟨rfl, rfl, rfl, by decide +kernel, rfl, by decide +kernel, by decide +kernel⟩
/- _below: 0:mode 1:step 2:figure -/
theorem sc_below : FnScope ["mode", "step", "figure"] ["mode", "step", "figure"] (defScope s_below) := ⟨rfl, rfl, rfl, by decide +kernel, rfl, by decide +kernel, by decide +kernel⟩
/- check_sides: 0:sides 1:side -/
theorem sc_check_sides : FnScope ["sides", "side"] ["sides"] (defScope s_check_sides) := ⟨rfl, rfl, rfl, by decide +kernel, rfl, by decide +kernel, by decide +kernel⟩
/- period_of: 0:side 1:_ 2:step 3:mode -/
theorem sc_period_of : FnScope ["side", "_", "step", "mode"] ["side"] (defScope s_period_of) := ⟨rfl, rfl, rfl, by decide +kernel, rfl, by decide +kernel, by decide +kernel⟩
/- common_period: 0:sides 1:many 2:side -/
theorem sc_common_period : FnScope ["sides", "many", "side"] ["sides"] (defScope s_common_period) := ⟨rfl, rfl, rfl, by decide +kernel, rfl, by decide +kernel, by decide +kernel⟩
/- along: 0:sides 1:numbers 2:value 3:values 4:here 5:number -/
theorem sc_along : FnScope ["sides", "numbers", "value", "values", "here", "number"] ["sides", "numbers", "value"] (defScope s_along) := ⟨rfl, rfl, rfl, by decide +kernel, rfl, by decide +kernel, by decide +kernel⟩
/- _check_numbers: 0:numbers 1:many 2:number -/
theorem sc_check_numbers : FnScope ["numbers", "many", "number"] ["numbers", "many"] (defScope s_check_numbers) := ⟨rfl, rfl, rfl, by decide +kernel, rfl, by decide +kernel, by decide +kernel⟩
/- before: 0:sides 1:value -/
theorem sc_before : FnScope ["sides", "value"] ["sides", "value"] (defScope s_before) := ⟨rfl, rfl, rfl, by decide +kernel, rfl, by decide +kernel, by decide +kernel⟩
/- _widened: 0:sides 1:run 2:least 3:greatest 4:low 5:high 6:side 7:first 8:last -/
theorem sc_widened : FnScope ["sides", "run", "least", "greatest", "low", "high", "side", "first", "last"] ["sides", "run"] (defScope s_widened) := ⟨rfl, rfl, rfl, by decide +kernel, rfl, by decide +kernel, by decide +kernel⟩
/- _ends: 0:sides 1:value 2:runs 3:many 4:window 5:least 6:greatest -/
theorem sc_ends : FnScope ["sides", "value", "runs", "many", "window", "least", "greatest"] ["sides", "value", "runs"] (defScope s_ends) := ⟨rfl, rfl, rfl, by decide +kernel, rfl, by decide +kernel, by decide +kernel⟩
/- _within: 0:run 1:window -/
theorem sc_within : FnScope ["run", "window"] ["run", "window"] (defScope s_within) := ⟨rfl, rfl, rfl, by decide +kernel, rfl, by decide +kernel, by decide +kernel⟩
/- _holds: 0:ends 1:value 2:least 3:greatest -/
theorem sc_holds : FnScope ["ends", "value", "least", "greatest"] ["ends", "value"] (defScope s_holds) := ⟨rfl, rfl, rfl, by decide +kernel, rfl, by decide +kernel, by decide +kernel⟩
/- _way: 0:sides 1:start 2:runs 3:numbers 4:here 5:many 6:run 7:side 8:places 9:number 10:place 11:fitting -/
theorem sc_way : FnScope ["sides", "start", "runs", "numbers", "here", "many", "run", "side", "places", "number", "place", "fitting"] ["sides", "start", "runs"] (defScope s_way) := ⟨rfl, rfl, rfl, by decide +kernel, rfl, by decide +kernel, by decide +kernel⟩
/- _law_source: 0:_law_script 1:_law_cells 2:_law_k -/
theorem sc_L_source : FnScope ["_law_script", "_law_cells", "_law_k"] ["_law_script"] (defScope s_L_source) := ⟨rfl, rfl, rfl, by decide +kernel, rfl, by decide +kernel, by decide +kernel⟩
/- _law_draw: 0:_law_source_here 1:_law_limit 2:_law_cells 3:_law_turn 4:_law_place 5:_law_cell 6:_law_number -/
theorem sc_L_draw : FnScope ["_law_source_here", "_law_limit", "_law_cells", "_law_turn", "_law_place", "_law_cell", "_law_number"] ["_law_source_here", "_law_limit"] (defScope s_L_draw) := ⟨rfl, rfl, rfl, by decide +kernel, rfl, by decide +kernel, by decide +kernel⟩
/- _law_pick: 0:_law_source_here 1:_law_values -/
theorem sc_L_pick : FnScope ["_law_source_here", "_law_values"] ["_law_source_here", "_law_values"] (defScope s_L_pick) := ⟨rfl, rfl, rfl, by decide +kernel, rfl, by decide +kernel, by decide +kernel⟩
/- _law_great: 0:_law_source_here 1:_law_limit 2:_law_total 3:_law_k -/
theorem sc_L_great : FnScope ["_law_source_here", "_law_limit", "_law_total", "_law_k"] ["_law_source_here", "_law_limit"] (defScope s_L_great) := ⟨rfl, rfl, rfl, by decide +kernel, rfl, by decide +kernel, by decide +kernel⟩
/- _law_ten: 0:_law_many 1:_law_found 2:_law_k -/
theorem sc_L_ten : FnScope ["_law_many", "_law_found", "_law_k"] ["_law_many"] (defScope s_L_ten) := ⟨rfl, rfl, rfl, by decide +kernel, rfl, by decide +kernel, by decide +kernel⟩
/- _law_step: 0:_law_source_here 1:_law_most 2:_law_joint -/
theorem sc_L_step : FnScope ["_law_source_here", "_law_most", "_law_joint"] ["_law_source_here", "_law_most"] (defScope s_L_step) := ⟨rfl, rfl, rfl, by decide +kernel, rfl, by decide +kernel, by decide +kernel⟩
/- _law_side: 0:_law_source_here 1:_law_most 2:_law_steps 3:_law_offset -/
theorem sc_L_side : FnScope ["_law_source_here", "_law_most", "_law_steps", "_law_offset"] ["_law_source_here", "_law_most"] (defScope s_L_side) := ⟨rfl, rfl, rfl, by decide +kernel, rfl, by decide +kernel, by decide +kernel⟩
/- _law_written: 0:_law_side_here 1:_law_value 2:_law_offset 3:_law_steps 4:_law_mode 5:_law_figure 6:_law_rest 7:_law_more -/
theorem sc_L_written : FnScope ["_law_side_here", "_law_value", "_law_offset", "_law_steps", "_law_mode", "_law_figure", "_law_rest", "_law_more"] ["_law_side_here", "_law_value"] (defScope s_L_written) := ⟨rfl, rfl, rfl, by decide +kernel, rfl, by decide +kernel, by decide +kernel⟩
/- _law_word: 0:_law_door 1:_law_sides 2:_law_numbers 3:_law_value 4:_law_caught 5:e 6:_law_found -/
theorem sc_L_word : FnScope ["_law_door", "_law_sides", "_law_numbers", "_law_value", "_law_caught", "e", "_law_found"] ["_law_door", "_law_sides", "_law_numbers", "_law_value"] (defScope s_L_word) := ⟨rfl, rfl, rfl, by decide +kernel, rfl, by decide +kernel, by decide +kernel⟩
/- _law_words: 0:_law_sides 1:_law_numbers 2:_law_value 3:_law_door -/
theorem sc_L_words : FnScope ["_law_sides", "_law_numbers", "_law_value", "_law_door"] ["_law_sides", "_law_numbers", "_law_value"] (defScope s_L_words) := ⟨rfl, rfl, rfl, by decide +kernel, rfl, by decide +kernel, by decide +kernel⟩
/- _law_doors_right: 0:_law_side_here 1:_law_odd 2:_law_bad 3:_law_sides 4:_law_value 5:_law_limits -/
theorem sc_L_doors_right : FnScope ["_law_side_here", "_law_odd", "_law_bad", "_law_sides", "_law_value", "_law_limits"] ["_law_side_here"] (defScope s_L_doors_right) := ⟨rfl, rfl, rfl, by decide +kernel, rfl, by decide +kernel, by decide +kernel⟩
/- law: 0:_law_script 1:_law_source_here 2:_law_turn 3:_law_most 4:_law_k 5:_law_sides 6:_law_numbers 7:_law_value 8:_law_kept 9:_law_one 10:_law_due 11:_law_now 12:_law_number 13:_law_found 14:_law_none -/
theorem sc_law : FnScope ["_law_script", "_law_source_here", "_law_turn", "_law_most", "_law_k", "_law_sides", "_law_numbers", "_law_value", "_law_kept", "_law_one", "_law_due", "_law_now", "_law_number", "_law_found", "_law_none"] ["_law_script"] (defScope s_law) := ⟨rfl, rfl, rfl, by decide +kernel, rfl, by decide +kernel, by decide +kernel⟩

/- is_side: 0:thing -/
theorem sc_is_side : FnScope ["thing"] ["thing"] (defScope s_is_side) := ⟨rfl, rfl, rfl, by decide +kernel, rfl, by decide +kernel, by decide +kernel⟩
/- threshold: 0:side 1:value 2:offset 3:step 4:mode 5:figure -/
theorem sc_threshold : FnScope ["side", "value", "offset", "step", "mode", "figure"] ["side", "value"] (defScope s_threshold) := ⟨rfl, rfl, rfl, by decide +kernel, rfl, by decide +kernel, by decide +kernel⟩
/- moved: 0:side 1:by 2:offset 3:step 4:mode -/
theorem sc_moved : FnScope ["side", "by", "offset", "step", "mode"] ["side", "by"] (defScope s_moved) := ⟨rfl, rfl, rfl, by decide +kernel, rfl, by decide +kernel, by decide +kernel⟩
/- route: 0:sides 1:start 2:value 3:runs 4:many -/
theorem sc_route : FnScope ["sides", "start", "value", "runs", "many"] ["sides", "start", "value"] (defScope s_route) := ⟨rfl, rfl, rfl, by decide +kernel, rfl, by decide +kernel, by decide +kernel⟩
/- _fewest: 0:sides 1:start 2:value 3:runs 4:many 5:run -/
theorem sc_fewest : FnScope ["sides", "start", "value", "runs", "many", "run"] ["sides", "start", "value", "runs"] (defScope s_fewest) := ⟨rfl, rfl, rfl, by decide +kernel, rfl, by decide +kernel, by decide +kernel⟩
/- _runs: 0:sides 1:value 2:side 3:near 4:runs 5:many 6:run 7:least 8:greatest -/
theorem sc_runs : FnScope ["sides", "value", "side", "near", "runs", "many", "run", "least", "greatest"] ["sides", "value"] (defScope s_runs) := ⟨rfl, rfl, rfl, by decide +kernel, rfl, by decide +kernel, by decide +kernel⟩
end HT
namespace L2
open PySem PySem.Spec PyProof.Rows
/-- powers of great numbers -/
def CPowW (i j : Int) : Prop := 0 ≤ j ∧ (Builtin.Int.intBits i : Int) * j ≤ 2 ^ 27
theorem op_powW {X : Cx} : OpR X (binaryOp .Pow) (rI CPowW fun i j => .int (i ^ j.toNat)) := opI fun _ _ _ _ _ _ _ hc q => pow_int hc.1 hc.2 q
end L2
namespace HT
open PySem L2
/-- the law's source of draws: a list of its cells' list and the turn -/
structure Src (H : Hp) (a c : Addr) (t : Nat) : Prop where
  ne : a ≠ c
  ob : H a = some (.lst [.ref c, .int (t : Int)])
  cl : ∃ cs : List Int, H c = some (.lst (cs.map V.int)) ∧ 0 < cs.length ∧ cs.length ≤ 63
/-- nothing else is touched -/
def Oth (a c : Addr) (H H' : Hp) : Prop := ∀ b o, H b = some o → b ≠ a → b ≠ c → H' b = some o
theorem Oth.refl (a c : Addr) (H : Hp) : Oth a c H H := fun _ _ h _ _ => h
theorem Oth.trans {a c : Addr} {H H1 H2 : Hp} (x : Oth a c H H1) (y : Oth a c H1 H2) : Oth a c H H2 := fun b o h n m => y b o (x b o h n m) n m
theorem Oth.new {a c p : Addr} {H H1 : Hp} {o : HO} (x : Oth a c H H1) (n : H1 p = none) : Oth a c H (upd H1 p o) := fun b u h na nc => by
  rw [upd_ne (ne_of_none (x b u h na nc) n)]
  exact x b u h na nc
theorem Src.new {a c p : Addr} {H : Hp} {t : Nat} {o : HO} (S : Src H a c t) (n : H p = none) : Src (upd H p o) a c t := by
  obtain ⟨cs, h, l⟩ := S.cl
  exact ⟨S.ne, by rw [upd_ne (ne_of_none S.ob n)]; exact S.ob, cs, by rw [upd_ne (ne_of_none h n)]; exact h, l⟩
theorem Src.of_same {a c : Addr} {H H' : Hp} {t : Nat} (S : Src H a c t) (e : Same H H') : Src H' a c t := by
  obtain ⟨cs, h, l⟩ := S.cl
  exact ⟨S.ne, e _ _ S.ob, cs, e _ _ h, l⟩
theorem Src.na {a c p : Addr} {H : Hp} {t : Nat} (S : Src H a c t) (n : H p = none) : p ≠ a ∧ p ≠ c := by
  obtain ⟨cs, h, l⟩ := S.cl
  exact ⟨(ne_of_none S.ob n).symm, (ne_of_none h n).symm⟩
theorem Src.nt {a c p : Addr} {H : Hp} {t : Nat} {xs : List V} (S : Src H a c t) (n : H p = some (.tup xs)) : p ≠ a ∧ p ≠ c := by
  obtain ⟨cs, h, l⟩ := S.cl
  exact ⟨ne_of n S.ob (by intro z; cases z), ne_of n h (by intro z; cases z)⟩
def spSource (K : PySem.W.Frag) : Sp := fun vs H Q _ => ∃ (l : Addr) (ns : List Int), vs = [.ref l] ∧ SqL K H l (ns.map V.int) ∧ ns.length ≤ 63 ∧
  ∀ a c H', Same H H' → H a = none → H c = none → Src H' a c 0 → Q (.ref a) H'
def spDraw : Sp := fun vs H Q _ => ∃ (a c : Addr) (t : Nat) (lim : Int), vs = [.ref a, .int lim] ∧ Src H a c t ∧ t < 2 ^ 30 ∧ 0 < lim ∧ lim.natAbs.log2 < 9000 ∧
  ∀ k H', 0 ≤ k → k < lim → Src H' a c (t + 1) → Oth a c H H' → Q (.int k) H'
/-- what the walk asks of the names that the text does not bind -/
structure Blt (mg : Str → Option Value) : Prop where
  len : mg "len" = none
  abs : mg "abs" = none
  int : mg "int" = none
  range : mg "range" = none
section
variable {P : Program} {w : World} {K : PySem.W.Frag} {mg : Str → Option Value} {base : Heap}
theorem fdiv_ok (i : Int) {j : Int} (h : 0 < j) (h9 : j.natAbs.log2 < 9000) : CDivW i j := ⟨h, h9⟩
theorem atI_in {xs : List Int} {i : Int} (h0 : 0 ≤ i) (h : i < (xs.length : Int)) : atI (xs.map V.int) i = some (.int (xs.getD i.toNat 0)) := by
  have e : ixN (xs.map V.int).length i = some i.toNat := by
    unfold ixN
    rw [List.length_map, if_pos h0, if_pos h]
  unfold atI
  rw [e]
  show (xs.map V.int)[i.toNat]? = _
  have hl : i.toNat < xs.length := by omega
  rw [List.getElem?_map, List.getElem?_eq_getElem hl, List.getD_eq_getElem?_getD, List.getElem?_eq_getElem hl]
  rfl
theorem ixN_in {n : Nat} {i : Int} (h0 : 0 ≤ i) (h : i < (n : Int)) : ixN n i = some i.toNat := by
  unfold ixN
  rw [if_pos h0, if_pos h]
theorem b_mod (x : Int) : -(2 ^ 64) < x % 2147483629 ∧ x % 2147483629 < 2 ^ 64 := by omega
theorem b_mod1 (x : Int) : -(2 ^ 64) < x % 2147483647 ∧ x % 2147483647 < 2 ^ 64 := by omega
theorem b_t {t : Nat} (h : t < 2 ^ 30) : -(2 ^ 64) < (t : Int) ∧ (t : Int) < 2 ^ 64 := by omega
theorem b_tt {t : Nat} (h : t < 2 ^ 30) : -(2 ^ 64) < (t : Int) * t ∧ (t : Int) * t < 2 ^ 64 := by
  have h1 : t * t < 2 ^ 30 * 2 ^ 30 := Nat.mul_lt_mul'' h h
  have h2 : ((t * t : Nat) : Int) = (t : Int) * t := Int.natCast_mul t t
  omega
theorem set_ints (xs : List Int) (j : Nat) (y : Int) : (xs.map V.int).set j (.int y) = (xs.set j y).map V.int := by
  rw [List.map_set]
theorem ok_draw {f : Addr} {fd : FuncData} (F : Fun K "_law_draw" "_law_draw" s_L_draw f fd) (B : Blt mg) : FnOk P w K mg base CX0 1 f fd ["_law_source_here", "_law_limit"] spDraw := by
  refine F.ok sc_L_draw (fun vs H Q E h => ?_) (fun cdv A outer s H vs Q E hr h => ?_)
  · obtain ⟨a, c, t, lim, rfl, _⟩ := h
    rfl
  · obtain ⟨a, c, t, lim, rfl, S, ht, hl0, hl9, q⟩ := h
    obtain ⟨cs, hc, hn0, hn⟩ := S.cl
    have nd := sc_L_draw.nd
    refine ⟨_, pss_cons (ps_asg (pv 0) (pg_unl (n := 2) (by rfl) (pgs_cons (pg_name (i := 2) nd rfl (Or.inl rfl)) (pgs_cons (pg_name (i := 3) nd rfl (Or.inl rfl)) pgs_nil))))
      (pss_cons (ps_set (i := 4) nd rfl (Or.inl rfl) (pe_op op_mod (pe_callTy call_int1 (by rfl) B.int (by decide +kernel) (pa_cons (pv 3) pa_nil)) (pe_callB call_len_seq (by rfl) B.len PySem.boot_len (pa_cons (pv 2) pa_nil))))
      (pss_cons (ps_set (i := 5) nd rfl (Or.inl rfl) (pe_ix ix_list (pv 2) (pv 4) (fun _ _ => rfl)))
      (pss_cons (ps_asg (pe_op op_add (pv 3) pe_int) (pg_sub (pv 0) pe_int set_list))
      (pss_cons (ps_if (pt_cmpR op_ge (pv 5) (pe_op op_pow pe_int pe_int) (nomark _))
        (pss_cons (ps_asg (pe_op op_fdivW (pv 5) (pv 1)) (pg_sub (pv 2) (pv 4) set_list))
          (pss_one (ps_ret (pe_op op_mod (pe_callTy call_int1 (by rfl) B.int (by decide +kernel) (pa_cons (pv 5) pa_nil)) (pv 1))))) pss_nil)
      (pss_cons (ps_set (i := 6) nd rfl (Or.inl rfl) (pe_op op_mod (pe_callTy call_int1 (by rfl) B.int (by decide +kernel) (pa_cons
          (pe_op op_add (pe_op op_add (pe_op op_mul (pe_op op_mod (pe_callTy call_int1 (by rfl) B.int (by decide +kernel) (pa_cons (pv 5) pa_nil)) pe_int) pe_int) (pe_op op_mul (pe_op op_mul (pv 3) (pv 3)) pe_int)) pe_int) pa_nil)) pe_int))
      (pss_cons (ps_set (i := 6) nd rfl (Or.inl rfl) (pe_op op_mod (pe_callTy call_int1 (by rfl) B.int (by decide +kernel) (pa_cons (pe_op op_mul (pv 6) (pv 6)) pa_nil)) pe_int))
      (pss_cons (ps_set (i := 6) nd rfl (Or.inl rfl) (pe_op op_mod (pe_callTy call_int1 (by rfl) B.int (by decide +kernel) (pa_cons (pe_op op_mul (pv 6) (pv 6)) pa_nil)) pe_int))
      (pss_one (ps_ret (pe_op op_mod (pe_callTy call_int1 (by rfl) B.int (by decide +kernel) (pa_cons (pv 6) pa_nil)) (pv 1))))))))))), ?_⟩
    -- _law_cells, _law_turn = _law_source_here
    walk_at "rd"
    refine ⟨a, _, rfl, SqL.of S.ob, rfl, _, _, rfl, _, _, rfl, rfl, ?_⟩
    -- _law_place
    walk_at "rd"
    have hn0' : (0 : Int) < ((cs.map V.int).length : Nat) := by rw [List.length_map]; omega
    refine ⟨c, _, rfl, .inl (SqL.of hc), _, _, rfl, rfl, hn0', ?_⟩
    have hp0 : 0 ≤ (t : Int) % ((cs.map V.int).length : Nat) := Int.emod_nonneg _ (by omega)
    have hp1 : (t : Int) % ((cs.map V.int).length : Nat) < ((cs.map V.int).length : Nat) := Int.emod_lt_of_pos _ hn0'
    have hp1' : (t : Int) % ((cs.map V.int).length : Nat) < (cs.length : Int) := by rw [List.length_map] at hp1 ⊢; exact hp1
    -- _law_cell
    walk_at "rd"
    refine ⟨c, _, _, _, rfl, rfl, SqL.of hc, atI_in hp0 hp1', ?_⟩
    -- _law_source_here[1] = _law_turn + 1
    walk_at "rd"
    refine ⟨a, _, 1, 1, rfl, rfl, S.ob, rfl, ?_⟩
    have S1 : Src (upd H a (.lst ([V.ref c, V.int t].set 1 (.int ((t : Int) + 1))))) a c (t + 1) := ⟨S.ne, by rw [upd_same]; rfl, cs, by rw [upd_ne S.ne.symm]; exact hc, hn0, hn⟩
    have O1 : Oth a c H (upd H a (.lst ([V.ref c, V.int t].set 1 (.int ((t : Int) + 1))))) := fun b o h na _ => by rw [upd_ne na]; exact h
    have hc1 : upd H a (.lst ([V.ref c, V.int t].set 1 (.int ((t : Int) + 1)))) c = some (.lst (cs.map V.int)) := by rw [upd_ne S.ne.symm]; exact hc
    generalize upd H a (.lst ([V.ref c, V.int t].set 1 (.int ((t : Int) + 1)))) = H1 at S1 O1 hc1 ⊢
    -- if _law_cell >= 10 ** 18
    walk_at "rd"
    refine ⟨⟨by decide, by decide, by decide⟩, ?_⟩
    walk_at "rd"
    refine ite2 (fun _ => ?_) (fun _ => ?_)
    · walk_at "rd"
      refine ⟨fdiv_ok _ hl0 hl9, ?_⟩
      walk_at "rd"
      refine ⟨c, _, _, _, rfl, rfl, hc1, ixN_in hp0 hp1, ?_⟩
      walk_at "rd"
      refine ⟨hl0, ?_⟩
      rw [set_ints]
      refine q _ _ (Int.emod_nonneg _ (by omega)) (Int.emod_lt_of_pos _ hl0) ⟨S1.ne, by rw [upd_ne S1.ne]; exact S1.ob, _, upd_same, by rw [List.length_set]; exact hn0, by rw [List.length_set]; exact hn⟩ fun b o h na nc => ?_
      rw [upd_ne nc]
      exact O1 b o h na nc
    · walk_at "rd"
      refine ⟨(by show (0 : Int) < 2147483629; decide), ?_⟩
      walk_at "rd"
      refine ⟨.inl (b_mod _), ?_⟩
      walk_at "rd"
      refine ⟨.inl (b_t ht), ?_⟩
      walk_at "rd"
      refine ⟨.inl (b_tt ht), ?_⟩
      walk_at "rd"
      refine ⟨(by show (0 : Int) < 2147483647; decide), ?_⟩
      walk_at "rd"
      refine ⟨.inl (b_mod1 _), ?_⟩
      walk_at "rd"
      refine ⟨(by show (0 : Int) < 2147483629; decide), ?_⟩
      walk_at "rd"
      refine ⟨.inl (b_mod _), ?_⟩
      walk_at "rd"
      refine ⟨(by show (0 : Int) < 2147483587; decide), ?_⟩
      walk_at "rd"
      refine ⟨hl0, ?_⟩
      exact q _ _ (Int.emod_nonneg _ (by omega)) (Int.emod_lt_of_pos _ hl0) S1 O1
end
end HT
namespace HT
open PySem L2
/-- a def of the text that may be called by its name, and what it promises -/
structure Cal (P : Program) (w : World) (K : PySem.W.Frag) (mg : Str → Option Value) (base : Heap) (x : Str) (k : Nat) (ps : List Str) (sp : Sp) (f : Addr) (fd : FuncData) : Prop where
  ok : FnOk P w K mg base CX0 k f fd ps sp
  gl : mg x = some (.ref f)
  kp : PySem.W.keepIn K (.ref f) = true
  bd : Binds K fd ps []
theorem pcl {X : Cx} {x : Str} {k j : Nat} {ps : List Str} {sp : Sp} {f : Addr} {fd : FuncData} {e : Expr} {es : List Expr} {t : TA} {p pos : Pos} (C : Cal X.prog X.w X.K X.mg X.base x k ps sp f fd) (hr : Room j X.A) (hj : k ≤ j) (hg : Gl X x) (ha : PA X (e :: es) t)
    (hdb : (x == ("__debug__" : Str)) = false := by decide) (he : starEach (e :: es) X.env = (false, eval e X.env) :: starEach es X.env := by rfl) (hpl : (backTo pos (starEach es X.env)).any (·.1) = false := by rfl) : PE X (.Call (.Name x p) (e :: es) [] pos) (tCall sp [] E0 t) :=
  pe_call C.ok (hr.mono hj) hg C.gl C.kp C.bd .nil pass0 ha hdb he hpl
section
variable {P : Program} {w : World} {K : PySem.W.Frag} {mg : Str → Option Value} {base : Heap}
theorem cut63 {ns : List Int} (h : ns.length ≤ 63) : cutV (ns.map V.int) none (some 63) = ns.map V.int := by
  have e1 : HT.sIx (ns.map V.int).length 0 none = 0 := rfl
  have e2 : HT.sIx (ns.map V.int).length (ns.map V.int).length (some 63) = (ns.map V.int).length := by
    have := HT.sIx_nat (ns.map V.int).length (ns.map V.int).length 63
    rw [show ((63 : Nat) : Int) = 63 from rfl] at this
    rw [this, List.length_map]
    omega
  unfold cutV
  rw [e1, e2, List.drop_zero, Nat.sub_zero, List.take_length]
theorem dpInts (H : Hp) : ∀ ns : List Int, DpAll K H (ns.map V.int) (ns.map PyData.int)
  | [] => .nil
  | n :: r => .cons (.int n) (dpInts H r)
theorem pow_ok : CPowW ((10 : Int) ^ (60 : Int).toNat) 20 := ⟨by decide, by decide +kernel⟩
theorem pow_pos' : (0 : Int) < ((10 : Int) ^ (60 : Int).toNat) ^ (20 : Int).toNat := by decide +kernel
theorem ok_source {f : Addr} {fd : FuncData} (F : Fun K "_law_source" "_law_source" s_L_source f fd) (B : Blt mg) : FnOk P w K mg base CX0 1 f fd ["_law_script"] (spSource K) := by
  refine F.ok sc_L_source (fun vs H Q E h => ?_) (fun cdv A outer s H vs Q E hr h => ?_)
  · obtain ⟨l, ns, rfl, _⟩ := h
    rfl
  · obtain ⟨l, ns, rfl, hL, hn, q⟩ := h
    have nd := sc_L_source.nd
    refine ⟨_, pss_cons (ps_set (i := 1) nd rfl (Or.inl rfl) (pe_slice sl_list (pv 0) po_none (po_some pe_int)))
      (pss_cons (ps_for PassesOwn.never rfl (pi_range1 (by rfl) B.range (pa_cons (pe_callB call_len_seq (by rfl) B.len PySem.boot_len (pa_cons (pv 1) pa_nil)) pa_nil)) (pg_name (i := 2) nd rfl (Or.inl rfl))
        (pss_one (ps_if (pt_cmpR op_ge (pe_callB call_abs (by rfl) B.abs (by decide +kernel) (pa_cons (pe_ix ix_list (pv 1) (pv 2) (fun _ _ => rfl)) pa_nil)) (pe_op op_pow pe_int pe_int) (nomark _))
          (pss_one (ps_asg (pe_op op_mod (pe_callTy call_int1 (by rfl) B.int (by decide +kernel) (pa_cons (pe_ix ix_list (pv 1) (pv 2) (fun _ _ => rfl)) pa_nil)) (pe_op op_powW (pe_op op_pow pe_int pe_int) pe_int)) (pg_sub (pv 1) (pv 2) set_list))) pss_nil)))
      (pss_cons (ps_if (pt_cmpR (op_eqD hr.units) (pv 1) (pe_lst pa_nil) (nomark _)) (pss_one (ps_set (i := 1) nd rfl (Or.inl rfl) (pe_lst (pa_cons pe_int pa_nil)))) pss_nil)
      (pss_one (ps_ret (pe_lst (pa_cons (pv 1) (pa_cons pe_int pa_nil))))))), ?_⟩
    walk_at "rd"
    refine ⟨l, _, rfl, hL, fun p np => ?_⟩
    rw [cut63 hn]
    walk_at "rd"
    refine ⟨p, _, rfl, .inl (SqL.of upd_same), _, rfl, by omega, ?_, ?_⟩
    · show ((ns.map V.int).length : Int) < 2 ^ 62
      rw [List.length_map]
      omega
    have en : ((ns.map V.int).length : Int).toNat = ns.length := by rw [List.length_map]; omega
    rw [en]
    refine for_range (fun i σ H' => ∃ (cs : List Int) (kv : Option V), σ = [some (.ref l), some (.ref p), kv] ∧ H' p = some (.lst (cs.map V.int)) ∧ cs.length = ns.length ∧ Same H H') ⟨ns, none, rfl, upd_same, rfl, fun b o e => by rw [upd_ne (ne_of_none e np)]; exact e⟩ ?_ ?_
    · rintro i σ H' hi ⟨cs, kv, rfl, hp, hl, sm⟩
      have h0 : (0 : Int) ≤ 0 + (i : Int) := by omega
      have h1 : (0 : Int) + (i : Int) < (cs.length : Int) := by omega
      walk_at "rd"
      refine ⟨p, _, _, _, rfl, rfl, SqL.of hp, atI_in h0 h1, ?_⟩
      walk_at "rd"
      refine ⟨⟨by decide, by decide, by decide⟩, ?_⟩
      walk_at "rd"
      refine ite2 (fun _ => ?_) (fun _ => ?_)
      · walk_at "rd"
        refine ⟨p, _, _, _, rfl, rfl, SqL.of hp, atI_in h0 h1, ?_⟩
        walk_at "rd"
        refine ⟨⟨by decide, by decide, by decide⟩, ?_⟩
        walk_at "rd"
        refine ⟨pow_ok, ?_⟩
        walk_at "rd"
        refine ⟨pow_pos', ?_⟩
        walk_at "rd"
        refine ⟨p, _, _, _, rfl, rfl, hp, ixN_in h0 (by rw [List.length_map]; exact h1), ?_⟩
        rw [set_ints]
        exact ⟨_, _, rfl, upd_same, by rw [List.length_set]; exact hl, fun b o e => by rw [upd_ne (ne_of_none e np)]; exact sm b o e⟩
      · exact ⟨cs, _, rfl, hp, hl, sm⟩
    · rintro σ H' ⟨cs, kv, rfl, hp, hl, sm⟩
      walk_at "rd"
      refine ⟨by decide, fun e ne => ?_⟩
      have hpe : upd H' e (.lst []) p = some (.lst (cs.map V.int)) := by rw [upd_ne (ne_of_none hp ne)]; exact hp
      have sm1 : Same H (upd H' e (.lst [])) := fun b o z => by rw [upd_ne (ne_of_none (sm b o z) ne)]; exact sm b o z
      refine ⟨_, _, .lst (SqL.of hpe) (dpInts _ cs), .lst (SqL.of upd_same) .nil, PySem.W.ke_shaped_ints cs, by decide +kernel, ?_⟩
      walk_at "rd"
      have hb : PyData.eqv (.list (cs.map PyData.int)) (.list []) = decide (cs = []) := by
        have z := PySem.W.ked_eqvAll cs []
        rw [← z]
        rfl
      rw [hb]
      refine ite2 (fun _ => ?_) (fun hne => ?_)
      · walk_at "rd"
        refine ⟨by decide, fun c nc => ?_⟩
        walk_at "rd"
        refine ⟨(by show 2 ≤ sizeLine; decide), fun a na => ?_⟩
        have sm2 : Same H (upd (upd H' e (.lst [])) c (.lst [.int 0])) := fun b o z => by rw [upd_ne (ne_of_none (sm1 b o z) nc)]; exact sm1 b o z
        have nac : a ≠ c := (ne_of_none upd_same na).symm
        refine q a c _ (fun b o z => by rw [upd_ne (ne_of_none (sm2 b o z) na)]; exact sm2 b o z) (sm2.free na) (sm1.free nc) ⟨nac, upd_same, [0], by rw [upd_ne nac.symm]; exact upd_same, by decide, by decide⟩
      · walk_at "rd"
        refine ⟨(by show 2 ≤ sizeLine; decide), fun a na => ?_⟩
        have nap : a ≠ p := (ne_of_none hpe na).symm
        refine q a p _ (fun b o z => by rw [upd_ne (ne_of_none (sm1 b o z) na)]; exact sm1 b o z) (sm1.free na) np ⟨nap, upd_same, cs, by rw [upd_ne nap.symm]; exact hpe, ?_, by omega⟩
        have : cs ≠ [] := fun z => hne (decide_eq_true z)
        exact List.length_pos_iff.mpr this
end
end HT
namespace L2
open PySem PySem.Spec PyProof.Rows
/-- what the written part says of an error class, for isinstance -/
structure ErrC (K : PySem.W.Frag) (C : Addr) : Prop where
  cl : (PySem.W.clsIn K C).isSome = true
  ga : PySem.W.findIn K (.ref C) "__getattribute__" = some (some (.builtin "BaseException.__getattribute__"))
  gg : PySem.W.findIn K (.ref C) "__getattr__" = some none
  sb : PySem.W.subIn K (.ref C) (.type "BaseException") = some true
  cn : PySem.W.findIn K (.ref C) "__class__" = some (some (.builtin "object.__class__"))
  mo : PySem.W.mroIn K C (.type "object") = some true
/-- .. of the attribute __class__ of all objects -/
structure ErrG (K : PySem.W.Frag) : Prop where
  sp : PySem.W.specialIn K (.builtin "object.__class__") "__get__" = some (some (.builtin "getset_descriptor.__get__"))
  tk : PySem.W.takesIn K (.builtin "object.__class__") = some true
def rIsKept (K : PySem.W.Frag) : List V → Hp → VK → Prop := fun xs H Q => ∃ (a C : Addr) (c : V) (cv : Value) (b : Bool), xs = [.ref a, c] ∧ ClsV c cv ∧ H a = some (ExK (.ref C) a) ∧ ErrC K C ∧ ErrG K ∧ PySem.W.kitOne K (.ref C) cv = some b ∧ Q (.bl b) H
theorem call_isKept {X : Cx} : CallR X (.builtin "isinstance") (rIsKept X.K) := by
  intro pins sh st H xs us Q iv r h
  obtain ⟨a, C, c, cv, b, rfl, k, at', T, G, e, q⟩ := h
  obtain ⟨u1, u2, rfl, r1, r2⟩ := vals2 r
  have e2 := k.eq r2
  subst e2
  obtain rfl : u1 = Value.ref a := r1
  obtain ⟨⟨oe, vs, ho, hz, hd⟩, _, _⟩ := iv.hok a _ at'
  have J : PySem.W.InstAt sh.heap a oe C none := by
    obtain ⟨oc, od, oda, osl⟩ := oe
    obtain ⟨h1, h2⟩ := hz
    dsimp only at h1 h2 hd
    subst h1 h2 hd
    exact ⟨ho, rfl, rfl, trivial⟩
  exact PySem.W.kia_one (PySem.W.kitx_exc T.cl T.ga T.gg T.sb T.cn G.sp G.tk T.mo) iv.kIn J e (fun z => nomatch z) fun tk => ⟨.bl b, H, iv.tok tk, rfl, q⟩
end L2
namespace HT
open PySem L2
/-- a thing of any kind, with its type's name -/
inductive Th (H : Hp) : V → String → Prop where
  | int (i : Int) : Th H (.int i) "int"
  | bl (b : Bool) : Th H (.bl b) "bool"
  | non : Th H .non "NoneType"
  | str (s : Str) : Th H (.str s) "str"
  | tup {p : Addr} {xs : List V} (h : H p = some (.tup xs)) : Th H (.ref p) "tuple"
  | lst {p : Addr} {xs : List V} (h : H p = some (.lst xs)) : Th H (.ref p) "list"
  | dk {p : Addr} {kvs : List (Key × V)} (h : H p = some (.dK kvs)) : Th H (.ref p) "dict"
theorem Th.ty {K : PySem.W.Frag} {H : Hp} {x : V} {n : String} (t : Th H x n) : TyX K H x (.type n) := by
  cases t with
  | int i => exact .base (.int i)
  | bl b => exact .base (.bl b)
  | non => exact .base .non
  | str s => exact .base (.str s)
  | tup h => exact .base (.tup h)
  | lst h => exact .base (.lst h)
  | dk h => exact .base (.dK h)
theorem Th.kint {K : PySem.W.Frag} {H : Hp} {x : V} {n : String} (t : Th H x n) : PySem.W.kitOne K (.type n) (.type "int") = some (n == "int" || n == "bool") := by
  cases t <;> exact kit_ty (by decide +kernel)
theorem Th.kbool {K : PySem.W.Frag} {H : Hp} {x : V} {n : String} (t : Th H x n) : PySem.W.kitOne K (.type n) (.type "bool") = some (n == "bool") := by
  cases t <;> exact kit_ty (by decide +kernel)
theorem Th.ktup {K : PySem.W.Frag} {H : Hp} {x : V} {n : String} (t : Th H x n) : PySem.W.kitOne K (.type n) (.type "tuple") = some (n == "tuple") := by
  cases t <;> exact kit_ty (by decide +kernel)
theorem Th.klst {K : PySem.W.Frag} {H : Hp} {x : V} {n : String} (t : Th H x n) : PySem.W.kitOne K (.type n) (.type "list") = some (n == "list") := by
  cases t <;> exact kit_ty (by decide +kernel)
theorem Th.same {H H' : Hp} {x : V} {n : String} (t : Th H x n) (s : Same H H') : Th H' x n := by
  cases t with
  | int i => exact .int i
  | bl b => exact .bl b
  | non => exact .non
  | str x => exact .str x
  | tup h => exact .tup (s _ _ h)
  | lst h => exact .lst (s _ _ h)
  | dk h => exact .dk (s _ _ h)
def isI (n : String) : Bool := n == "int"
def spIsAny : Sp := fun vs H Q _ => ∃ (x : V) (n : String), vs = [x] ∧ Th H x n ∧ Q (.bl (isI n)) H
/-- an int between the ends -/
def inB (x : V) (a b : Int) : Bool := match x with
  | .int i => decide (a ≤ i) && decide (i ≤ b)
  | _ => false
def spBetAny : Sp := fun vs H Q _ => ∃ (x : V) (n : String) (a b : Int), vs = [x, .int a, .int b] ∧ Th H x n ∧ Q (.bl (inB x a b)) H
/-- the names that the text of checks does not bind -/
structure ChkT (mg : Str → Option Value) : Prop where
  isi : mg "isinstance" = none
  int : mg "int" = none
  bool : mg "bool" = none
  tuple : mg "tuple" = none
  list : mg "list" = none
  len : mg "len" = none
section
variable {P : Program} {w : World} {K : PySem.W.Frag} {mg : Str → Option Value} {base : Heap} {fI : Addr} {dI : FuncData}
theorem ok_is_any {f : Addr} {fd : FuncData} (F : Fun K "is_int" "is_int" s_is_int f fd) (T : ChkT mg) : FnOk P w K mg base CX0 1 f fd ["thing"] spIsAny := by
  refine F.ok sc_is_int (fun vs H Q E h => ?_) (fun cdv A outer s H vs Q E hr h => ?_)
  · obtain ⟨x, n, rfl, _⟩ := h
    rfl
  · obtain ⟨x, n, rfl, t, q⟩ := h
    refine ⟨_, pss_one (ps_ret (pe_and (pe_callB call_isi (by rfl) T.isi (by decide +kernel) (pa_cons (pv 0) (pa_cons (pe_bltn (v := .ty "int") (by rfl) T.int (by decide +kernel) rfl) pa_nil)))
      (pe_one (pe_not (pe_callB call_isi (by rfl) T.isi (by decide +kernel) (pa_cons (pv 0) (pa_cons (pe_bltn (v := .ty "bool") (by rfl) T.bool (by decide +kernel) rfl) pa_nil))))))), ?_⟩
    walk_at "rd"
    refine ⟨_, _, _, _, _, rfl, .ty "int", t.ty, t.kint, ?_⟩
    walk_at "rd"
    refine ite2 (fun h => ?_) (fun h => ?_)
    · walk_at "rd"
      refine ⟨_, _, _, _, _, rfl, .ty "bool", t.ty, t.kbool, ?_⟩
      walk_at "rd"
      have e : (!(n == "bool")) = isI n := by
        cases t <;> first | rfl | exact absurd h (by decide)
      rw [e]
      exact q
    · have e : isI n = false := by
        cases t <;> first | rfl | exact absurd (by decide) h
      rw [e] at q
      exact q
theorem ok_bet_any {f : Addr} {fd : FuncData} (F : Fun K "is_int_between" "is_int_between" s_is_int_between f fd) (I : Cal P w K mg base "is_int" 1 ["thing"] spIsAny fI dI) : FnOk P w K mg base CX0 2 f fd ["thing", "least", "most"] spBetAny := by
  refine F.ok sc_is_int_between (fun vs H Q E h => ?_) (fun cdv A outer s H vs Q E hr h => ?_)
  · obtain ⟨x, n, a, b, rfl, _⟩ := h
    rfl
  · obtain ⟨x, n, a, b, rfl, t, q⟩ := h
    refine ⟨_, pss_one (ps_ret (pe_and (pcl I hr (by decide) (by rfl) (pa_cons (pv 0) pa_nil)) (pe_one (pe_chain op_le op_le (pv 1) (pv 0) (pv 2))))), ?_⟩
    walk_at "rd"
    refine ⟨x, n, rfl, t, ?_⟩
    cases t with
    | int i =>
      walk_at "rd"
      refine ite2 (fun h => ?_) (fun h => ?_)
      · walk_at "rd"
        change Q (.bl (decide (a ≤ i) && decide (i ≤ b))) H at q
        rw [decide_eq_true (of_decide_eq_true h)] at q
        exact q
      · change Q (.bl (decide (a ≤ i) && decide (i ≤ b))) H at q
        rw [decide_eq_false (of_decide_eq_false (by simpa using h))] at q
        exact q
    | _ => exact ⟨_, rfl, q⟩
end
end HT
namespace HT
open PySem L2
theorem dec_int (a b : Int) : decide (V.int a = V.int b) = decide (a = b) := by
  by_cases h : a = b
  · rw [decide_eq_true h, h, decide_eq_true rfl]
  · rw [decide_eq_false h, decide_eq_false (fun z => h (V.int.inj z))]
theorem dec_str (a b : Str) : decide (V.str a = V.str b) = decide (a = b) := by
  by_cases h : a = b
  · rw [decide_eq_true h, h, decide_eq_true rfl]
  · rw [decide_eq_false h, decide_eq_false (fun z => h (V.str.inj z))]
theorem dec_bl (a b : Bool) : decide (V.bl a = V.bl b) = decide (a = b) := by
  by_cases h : a = b
  · rw [decide_eq_true h, h, decide_eq_true rfl]
  · rw [decide_eq_false h, decide_eq_false (fun z => h (V.bl.inj z))]
theorem str_t {a b : Str} (h : decide (V.str a = V.str b) = true) : a = b := V.str.inj (of_decide_eq_true h)
theorem str_f {a b : Str} (h : ¬ decide (V.str a = V.str b) = true) : ¬ a = b := fun z => h (decide_eq_true (congrArg V.str z))
theorem int_t {a b : Int} (h : decide (V.int a = V.int b) = true) : a = b := V.int.inj (of_decide_eq_true h)
theorem int_f {a b : Int} (h : ¬ decide (V.int a = V.int b) = true) : ¬ a = b := fun z => h (decide_eq_true (congrArg V.int z))
theorem not_t {b : Bool} (h : (!b) = true) : ¬ b = true := by cases b <;> simp_all
theorem not_f {b : Bool} (h : ¬ (!b) = true) : b = true := by cases b <;> simp_all
end HT
namespace HT
open PySem L2
/-- the modes -/
def Mode (m : Str) : Prop := m = "down" ∨ m = "up" ∨ m = "half_down" ∨ m = "half_up" ∨ m = "half_even"
/-- a side's parts -/
structure SideP (o s : Int) (m : Str) : Prop where
  o0 : -10 ^ 40 ≤ o
  o1 : o ≤ 10 ^ 40
  s0 : 1 ≤ s
  s1 : s ≤ 10 ^ 30
  md : Mode m
def sideV (o s : Int) (m : Str) : HO := .tup [.int o, .int s, .str m]
def modesV : List V := [.str "down", .str "up", .str "half_down", .str "half_up", .str "half_even"]
def modesD : List PyData := [.str "down", .str "up", .str "half_down", .str "half_up", .str "half_even"]
/-- a mode's place is taken by something else -/
def NoMode (d : PyData) : Prop := SeqAt.shaped d = true ∧ (modesD.any fun z => PyData.eqv z d) = false
/-- the five classes by number, and their base class at B -/
structure Er (K : PySem.W.Frag) (mg : Str → Option Value) (C : Nat → Addr) (B : Addr) : Prop where
  isi : mg "isinstance" = none
  ve : mg "ValueError" = none
  gB : mg "HandedError" = some (.ref B)
  g0 : mg "InvalidSide" = some (.ref (C 0))
  g1 : mg "InvalidSides" = some (.ref (C 1))
  g2 : mg "InvalidNumbers" = some (.ref (C 2))
  g3 : mg "InvalidValue" = some (.ref (C 3))
  g4 : mg "InvalidNumber" = some (.ref (C 4))
  kit : ∀ i j, i < 5 → j < 5 → PySem.W.kitOne K (.ref (C i)) (.ref (C j)) = some (decide (i = j))
  kitV : ∀ i, i < 5 → PySem.W.kitOne K (.ref (C i)) (.type "ValueError") = some true
  ec : ∀ i, i < 5 → ErrC K (C i)
  eg : ErrG K
  ex : ∀ i, i < 5 → PySem.W.excIn K (C i) [.type "ValueError", .type "Exception", .type "BaseException", .type "object"] "ValueError.__new__" = true
  kp : ∀ i, i < 5 → PySem.W.keepIn K (.ref (C i)) = true
  sb : ∀ i, i < 5 → PySem.W.subIn K (.ref (C i)) (.type "BaseException") = some true
  ty : ∀ i, i < 5 → PySem.W.typeIn K (.ref (C i)) = some (.type "type")
  emB : ∀ i, i < 5 → PySem.W.exmOne K (.ref (C i)) (.ref B) = some true
  em0 : PySem.W.exmOne K (.ref (C 0)) (.ref (C 0)) = some true
/-- flat data, and a list of one text -/
inductive Fl (H : Hp) : V → PyData → Prop where
  | non : Fl H .non .none
  | bl (b : Bool) : Fl H (.bl b) (.bool b)
  | int (i : Int) : Fl H (.int i) (.int i)
  | str (s : Str) : Fl H (.str s) (.str s)
  | one {l : Addr} {s : Str} (h : H l = some (.lst [.str s])) : Fl H (.ref l) (.list [.str s])
theorem Fl.dp {K : PySem.W.Frag} {H : Hp} {c : V} {d : PyData} (f : Fl H c d) : Dp K H c d := by
  cases f with
  | non => exact .non
  | bl b => exact .bl b
  | int i => exact .int i
  | str s => exact .str s
  | one h => exact .lst (SqL.of h) (.cons (.str _) .nil)
theorem Fl.same {H H' : Hp} {c : V} {d : PyData} (f : Fl H c d) (s : Same H H') : Fl H' c d := by
  cases f with
  | non => exact .non
  | bl b => exact .bl b
  | int i => exact .int i
  | str x => exact .str x
  | one h => exact .one (s _ _ h)
/-- no side -/
inductive BadS (K : PySem.W.Frag) (H : Hp) : V → Prop where
  | kind {x : V} {n : String} (t : Th H x n) (h : (n == "tuple") = false) : BadS K H x
  | len {p : Addr} {xs : List V} (hp : H p = some (.tup xs)) (h : ¬ xs.length = 3) : BadS K H (.ref p)
  | off {p : Addr} {a b c : V} {n : String} (hp : H p = some (.tup [a, b, c])) (t : Th H a n) (h : inB a (-10 ^ 40) (10 ^ 40) = false) : BadS K H (.ref p)
  | stp {p : Addr} {a b c : V} {n m : String} (hp : H p = some (.tup [a, b, c])) (t : Th H a n) (h : inB a (-10 ^ 40) (10 ^ 40) = true) (u : Th H b m) (g : inB b 1 (10 ^ 30) = false) : BadS K H (.ref p)
  | mod {p : Addr} {a b c : V} {n m : String} {d : PyData} (hp : H p = some (.tup [a, b, c])) (t : Th H a n) (h : inB a (-10 ^ 40) (10 ^ 40) = true) (u : Th H b m) (g : inB b 1 (10 ^ 30) = true) (dp : Fl H c d) (hd : NoMode d) : BadS K H (.ref p)
theorem BadS.same {K : PySem.W.Frag} {H H' : Hp} {x : V} (b : BadS K H x) (e : Same H H') : BadS K H' x := by
  cases b with
  | kind t h => exact .kind (t.same e) h
  | len hp h => exact .len (e _ _ hp) h
  | off hp t h => exact .off (e _ _ hp) (t.same e) h
  | stp hp t h u g => exact .stp (e _ _ hp) (t.same e) h (u.same e) g
  | mod hp t h u g dp hd => exact .mod (e _ _ hp) (t.same e) h (u.same e) g (dp.same e) hd
def GoodS (H : Hp) (x : V) : Prop := ∃ (p : Addr) (o s : Int) (m : Str), x = .ref p ∧ H p = some (sideV o s m) ∧ SideP o s m
def spValX (C : Nat → Addr) : Sp := fun vs H Q E => ∃ (x : V) (n : String), vs = [x] ∧ Th H x n ∧ (isI n = true → Q .non H) ∧ (isI n = false → E (.ref (C 3)) none H)
def spSideX (K : PySem.W.Frag) (C : Nat → Addr) : Sp := fun vs H Q E => ∃ x : V, vs = [x] ∧ ((GoodS H x ∧ Q .non H) ∨ (BadS K H x ∧ E (.ref (C 0)) none H))
def rNotInT (K : PySem.W.Frag) : R2 := fun x y H Q => ∃ d ds, Dp K H x d ∧ Dp K H y (.tuple ds) ∧ SeqAt.shaped d = true ∧ PyData.canLayAll0 ds = true ∧ PyData.depthAll ds ≤ 60 ∧ Q (.bl (!ds.any fun z => PyData.eqv z d)) H
theorem op_notInT {X : Cx} (hu : X.A.units + 64 < cLine) : OpR X (compareOp .NotIn) (rNotInT X.K) := by
  intro pins sh st H x y v u Q iv rx ry h
  obtain ⟨d, ds, hd, he, sd, se, sz, q⟩ := h
  obtain ⟨as, r1⟩ := Dp.reads iv d x v hd rx
  obtain ⟨bs, r2⟩ := Dp.reads iv (.tuple ds) y u he ry
  refine SeqAt.notIn_tuple_reads r2 r1 se (SeqAt.canLay_of_shaped sd) ?_ ⟨.bl _, H, iv, rfl, q⟩
  have : min (PyData.depthAll ds) d.depth ≤ PyData.depthAll ds := Nat.min_le_left _ _
  omega
/-- the table of modes -/
structure ModT (K : PySem.W.Frag) (mg : Str → Option Value) (aM : Addr) : Prop where
  gM : mg "MODES" = some (.ref aM)
  tM : ∀ H, SqT K H aM modesV
theorem dpModes {K : PySem.W.Frag} {H : Hp} {aM : Addr} (t : SqT K H aM modesV) : Dp K H (.ref aM) (.tuple modesD) := .tup t (.cons (.str _) (.cons (.str _) (.cons (.str _) (.cons (.str _) (.cons (.str _) .nil)))))
theorem mode_in {m : Str} (h : Mode m) : SeqAt.shaped (.str m) = true ∧ (modesD.any fun z => PyData.eqv z (.str m)) = true := by
  rcases h with e | e | e | e | e <;> subst e <;> decide +kernel
section
variable {P : Program} {w : World} {K : PySem.W.Frag} {mg : Str → Option Value} {base : Heap} {aM fI fB fV fC fL fN fW B : Addr} {dI dB dV dC dL dN dW : FuncData} {C : Nat → Addr}
theorem ok_val_x {f : Addr} {fd : FuncData} (F : Fun K "check_value" "check_value" s_check_value f fd) (R : Er K mg C B) (I : Cal P w K mg base "is_int" 1 ["thing"] spIsAny fI dI) : FnOk P w K mg base (L2.CX P w) 2 f fd ["value"] (spValX C) := by
  refine F.okX sc_check_value (fun vs H Q E h => ?_) (fun cdv A outer s H vs Q E hr h => ?_)
  · obtain ⟨x, n, rfl, _⟩ := h
    rfl
  · obtain ⟨x, n, rfl, t, q1, q2⟩ := h
    refine ⟨_, pss_one (ps_if (pt_not (pt_val (pcl I hr (by decide) (by rfl) (pa_cons (pv 0) pa_nil)))) (pss_one (ps_raise rfl (takes_of rfl rfl rfl rfl) (pmk_own PySem.F.excBase_ValueError (R.ex 3 (by decide)) R.g3 (R.kp 3 (by decide)) (raises_own (R.sb 3 (by decide)) (R.ty 3 (by decide))) (by rfl)))) pss_nil), ?_⟩
    walk_at "rd"
    refine ⟨x, n, rfl, t, ?_⟩
    walk_at "rd"
    refine ite2 (fun h => ?_) (fun h => ?_)
    · exact q2 (by simpa using h)
    · exact q1 (not_f h)
end
end HT
namespace HT
open PySem L2
/-! ### the mathematics of a side -/
def goesUp (m : Str) (s q r : Int) : Bool := if m = "down" then false else if m = "up" then decide (0 < r) else if 2 * r = s then (if m = "half_even" then decide (q % 2 = 1) else decide (m = "half_up")) else decide (s < 2 * r)
/-- the figure to which v comes -/
def figM (o s : Int) (m : Str) (v : Int) : Int := if goesUp m s ((v - o) / s) ((v - o) % s) = true then (v - o) / s + 1 else (v - o) / s
def dueM (o s : Int) (m : Str) (v : Int) : Int := o + s * figM o s m v
theorem d_u : ¬ (("up" : Str) = "down") := by decide +kernel
theorem hd_d : ¬ (("half_down" : Str) = "down") := by decide +kernel
theorem hd_u : ¬ (("half_down" : Str) = "up") := by decide +kernel
theorem hu_d : ¬ (("half_up" : Str) = "down") := by decide +kernel
theorem hu_u : ¬ (("half_up" : Str) = "up") := by decide +kernel
theorem he_d : ¬ (("half_even" : Str) = "down") := by decide +kernel
theorem he_u : ¬ (("half_even" : Str) = "up") := by decide +kernel
theorem hd_e : ¬ (("half_down" : Str) = "half_even") := by decide +kernel
theorem hu_e : ¬ (("half_up" : Str) = "half_even") := by decide +kernel
theorem hd_hu : ¬ (("half_down" : Str) = "half_up") := by decide +kernel
theorem he_hu : ¬ (("half_even" : Str) = "half_up") := by decide +kernel
theorem u_hd : ¬ (("up" : Str) = "half_down") := by decide +kernel
theorem hu_hd : ¬ (("half_up" : Str) = "half_down") := by decide +kernel
theorem he_hd : ¬ (("half_even" : Str) = "half_down") := by decide +kernel
theorem go_down (s q r : Int) : goesUp "down" s q r = false := by unfold goesUp; rw [if_pos rfl]
theorem go_up (s q r : Int) : goesUp "up" s q r = decide (0 < r) := by unfold goesUp; rw [if_neg d_u, if_pos rfl]
theorem go_hd (s q r : Int) : goesUp "half_down" s q r = decide (s < 2 * r) := by
  unfold goesUp
  rw [if_neg hd_d, if_neg hd_u, if_neg hd_e, decide_eq_false hd_hu]
  by_cases h : 2 * r = s
  · rw [if_pos h, decide_eq_false (by omega)]
  · rw [if_neg h]
theorem go_hu (s q r : Int) : goesUp "half_up" s q r = decide (s ≤ 2 * r) := by
  unfold goesUp
  rw [if_neg hu_d, if_neg hu_u, if_neg hu_e, decide_eq_true rfl]
  by_cases h : 2 * r = s
  · rw [if_pos h, decide_eq_true (by omega)]
  · rw [if_neg h]
    by_cases g : s < 2 * r
    · rw [decide_eq_true g, decide_eq_true (by omega)]
    · rw [decide_eq_false g, decide_eq_false (by omega)]
theorem go_he (s q r : Int) : goesUp "half_even" s q r = (decide (s < 2 * r) || (decide (2 * r = s) && decide (q % 2 = 1))) := by
  unfold goesUp
  rw [if_neg he_d, if_neg he_u, if_pos rfl]
  by_cases h : 2 * r = s
  · rw [if_pos h, decide_eq_false (show ¬ s < 2 * r by omega), decide_eq_true h]
    rfl
  · rw [if_neg h, decide_eq_false h]
    simp
/-- what is known of a figure -/
structure Fig (o s : Int) (m : Str) (v q r k : Int) : Prop where
  eq : v - o = s * q + r
  r0 : 0 ≤ r
  r1 : r < s
  wh : (goesUp m s q r = true ∧ k = q + 1) ∨ (goesUp m s q r = false ∧ k = q)
theorem fig_of {o s : Int} {m : Str} {v : Int} (hs : 1 ≤ s) : Fig o s m v ((v - o) / s) ((v - o) % s) (figM o s m v) := by
  refine ⟨?_, Int.emod_nonneg _ (by omega), Int.emod_lt_of_pos _ (by omega), ?_⟩
  · have := Int.mul_ediv_add_emod (v - o) s
    omega
  · unfold figM
    cases h : goesUp m s ((v - o) / s) ((v - o) % s)
    · exact .inr ⟨rfl, by simp⟩
    · exact .inl ⟨rfl, by simp⟩
theorem divmod_eq {s q r x : Int} (hs : 1 ≤ s) (h : x = s * q + r) (r0 : 0 ≤ r) (r1 : r < s) : x / s = q ∧ x % s = r := by
  subst h
  constructor
  · rw [Int.add_comm, Int.add_mul_ediv_left _ _ (by omega), Int.ediv_eq_zero_of_lt r0 r1]
    omega
  · rw [Int.add_comm, Int.add_mul_emod_self_left]
    exact Int.emod_eq_of_lt r0 r1
theorem fig_uniq {o s : Int} {m : Str} {v q r k : Int} (hs : 1 ≤ s) (F : Fig o s m v q r k) : figM o s m v = k := by
  obtain ⟨e1, e2⟩ := divmod_eq hs F.eq F.r0 F.r1
  unfold figM
  rw [e1, e2]
  rcases F.wh with ⟨h, e⟩ | ⟨h, e⟩
  · rw [h, if_pos rfl, e]
  · rw [h, if_neg (by decide), e]
/-- going up wants a rest, and not going up a small one -/
theorem go_pos {m : Str} {s q r : Int} (hm : Mode m) (hs : 1 ≤ s) (r0 : 0 ≤ r) (h : goesUp m s q r = true) : 0 < r := by
  rcases hm with e | e | e | e | e <;> subst e
  · rw [go_down] at h; cases h
  · rw [go_up] at h; exact of_decide_eq_true h
  · rw [go_hd] at h; have := of_decide_eq_true h; omega
  · rw [go_hu] at h; have := of_decide_eq_true h; omega
  · rw [go_he, Bool.or_eq_true, Bool.and_eq_true] at h
    rcases h with h | ⟨h, _⟩ <;> have := of_decide_eq_true h <;> omega
theorem due_near {o s : Int} {m : Str} {v : Int} (hm : Mode m) (hs : 1 ≤ s) : dueM o s m v - v < s ∧ v - dueM o s m v < s := by
  have F := fig_of (o := o) (m := m) (v := v) hs
  unfold dueM
  generalize (v - o) / s = q at F
  generalize (v - o) % s = r at F
  obtain ⟨eq, r0, r1, wh⟩ := F
  rcases wh with ⟨h, e⟩ | ⟨h, e⟩
  · have := go_pos hm hs r0 h
    rw [e, Int.mul_add, Int.mul_one]
    generalize s * q = z at eq ⊢
    omega
  · rw [e]
    generalize s * q = z at eq ⊢
    omega
def half (m : Str) : Prop := m = "half_down" ∨ m = "half_up" ∨ m = "half_even"
theorem due_half {o s : Int} {m : Str} {v : Int} (hm : half m) (hs : 1 ≤ s) : 2 * (dueM o s m v - v) ≤ s ∧ 2 * (v - dueM o s m v) ≤ s := by
  have F := fig_of (o := o) (m := m) (v := v) hs
  unfold dueM
  generalize (v - o) / s = q at F
  generalize (v - o) % s = r at F
  obtain ⟨eq, r0, r1, wh⟩ := F
  have hb : (goesUp m s q r = true → s ≤ 2 * r) ∧ (goesUp m s q r = false → 2 * r ≤ s) := by
    rcases hm with e | e | e <;> subst e
    · rw [go_hd]; exact ⟨fun h => by have := of_decide_eq_true h; omega, fun h => by have := of_decide_eq_false h; omega⟩
    · rw [go_hu]; exact ⟨fun h => by have := of_decide_eq_true h; omega, fun h => by have := of_decide_eq_false h; omega⟩
    · rw [go_he]
      refine ⟨fun h => ?_, fun h => ?_⟩
      · rw [Bool.or_eq_true, Bool.and_eq_true] at h
        rcases h with h | ⟨h, _⟩ <;> have := of_decide_eq_true h <;> omega
      · rw [Bool.or_eq_false_iff] at h
        have := of_decide_eq_false h.1
        omega
  rcases wh with ⟨h, e⟩ | ⟨h, e⟩
  · have := hb.1 h
    rw [e, Int.mul_add, Int.mul_one]
    generalize s * q = z at eq ⊢
    omega
  · have := hb.2 h
    rw [e]
    generalize s * q = z at eq ⊢
    omega
theorem go_zero {m : Str} {s q : Int} (hm : Mode m) (hs : 1 ≤ s) : goesUp m s q 0 = false := by
  cases h : goesUp m s q 0 with
  | false => rfl
  | true => exact absurd (go_pos hm hs (Int.le_refl _) h) (by omega)
/-- what is written stands and is written as it is -/
theorem fig_at {o s k : Int} {m : Str} (hm : Mode m) (hs : 1 ≤ s) : figM o s m (o + s * k) = k :=
  fig_uniq (q := k) (r := 0) hs ⟨by omega, Int.le_refl _, by omega, .inr ⟨go_zero hm hs, rfl⟩⟩
theorem stands_at {o s k : Int} : (o + s * k - o) % s = 0 := by
  rw [show o + s * k - o = s * k by omega]
  exact Int.mul_emod_right s k
theorem due_eq {o s : Int} {m : Str} {v : Int} (hm : Mode m) (hs : 1 ≤ s) : (v - o) % s = 0 ↔ dueM o s m v = v := by
  have F := fig_of (o := o) (m := m) (v := v) hs
  unfold dueM
  generalize (v - o) / s = q at F
  generalize (v - o) % s = r at F ⊢
  obtain ⟨eq, r0, r1, wh⟩ := F
  rcases wh with ⟨h, e⟩ | ⟨h, e⟩
  · have := go_pos hm hs r0 h
    rw [e, Int.mul_add, Int.mul_one]
    generalize s * q = z at eq ⊢
    omega
  · rw [e]
    generalize s * q = z at eq ⊢
    omega
theorem go_mono {m : Str} {s q r : Int} (hm : Mode m) (h : goesUp m s q r = true) : goesUp m s q (r + 1) = true := by
  rcases hm with e | e | e | e | e <;> subst e
  · rw [go_down] at h; cases h
  · rw [go_up] at h ⊢; have := of_decide_eq_true h; exact decide_eq_true (by omega)
  · rw [go_hd] at h ⊢; have := of_decide_eq_true h; exact decide_eq_true (by omega)
  · rw [go_hu] at h ⊢; have := of_decide_eq_true h; exact decide_eq_true (by omega)
  · rw [go_he] at h ⊢
    have : s ≤ 2 * r := by
      rw [Bool.or_eq_true, Bool.and_eq_true] at h
      rcases h with h | ⟨h, _⟩ <;> have := of_decide_eq_true h <;> omega
    rw [decide_eq_true (show s < 2 * (r + 1) by omega)]
    rfl
theorem fig_mono {o s : Int} {m : Str} {v : Int} (hm : Mode m) (hs : 1 ≤ s) : figM o s m v ≤ figM o s m (v + 1) := by
  have F := fig_of (o := o) (m := m) (v := v) hs
  generalize (v - o) / s = q at F
  generalize (v - o) % s = r at F
  obtain ⟨eq, r0, r1, wh⟩ := F
  by_cases hr : r + 1 < s
  · cases g : goesUp m s q (r + 1) with
    | true =>
      rw [fig_uniq (v := v + 1) (q := q) (r := r + 1) (k := q + 1) hs ⟨by omega, by omega, hr, .inl ⟨g, rfl⟩⟩]
      rcases wh with ⟨_, e⟩ | ⟨_, e⟩ <;> omega
    | false =>
      rw [fig_uniq (v := v + 1) (q := q) (r := r + 1) (k := q) hs ⟨by omega, by omega, hr, .inr ⟨g, rfl⟩⟩]
      rcases wh with ⟨h, e⟩ | ⟨_, e⟩
      · rw [go_mono hm h] at g
        cases g
      · omega
  · rw [fig_uniq (v := v + 1) (q := q + 1) (r := 0) (k := q + 1) hs ⟨by rw [Int.mul_add, Int.mul_one]; omega, by omega, by omega, .inr ⟨go_zero hm hs, rfl⟩⟩]
    rcases wh with ⟨_, e⟩ | ⟨_, e⟩ <;> omega
theorem due_mono {o s : Int} {m : Str} {v : Int} (hm : Mode m) (hs : 1 ≤ s) : dueM o s m v ≤ dueM o s m (v + 1) := by
  unfold dueM
  have := Int.mul_le_mul_of_nonneg_left (fig_mono (o := o) (v := v) hm hs) (show 0 ≤ s by omega)
  omega
theorem go_two {m : Str} {s q r : Int} (hm : Mode m) : goesUp m s (q + 2) r = goesUp m s q r := by
  rcases hm with e | e | e | e | e <;> subst e
  · rw [go_down, go_down]
  · rw [go_up, go_up]
  · rw [go_hd, go_hd]
  · rw [go_hu, go_hu]
  · rw [go_he, go_he, show (q + 2) % 2 = q % 2 by omega]
theorem due_two {o s : Int} {m : Str} {v : Int} (hm : Mode m) (hs : 1 ≤ s) : dueM o s m (v + s * 2) = dueM o s m v + s * 2 := by
  have F := fig_of (o := o) (m := m) (v := v) hs
  unfold dueM
  generalize (v - o) / s = q at F
  generalize (v - o) % s = r at F
  obtain ⟨eq, r0, r1, wh⟩ := F
  rw [fig_uniq (v := v + s * 2) (q := q + 2) (r := r) (k := figM o s m v + 2) hs ⟨by rw [Int.mul_add]; omega, r0, r1, ?_⟩, Int.mul_add]
  · omega
  · rw [go_two hm]
    rcases wh with ⟨h, e⟩ | ⟨h, e⟩
    · exact .inl ⟨h, by omega⟩
    · exact .inr ⟨h, by omega⟩
/-! ### bounds -/
def Bd (x : Int) : Prop := -2 ^ 1000 < x ∧ x < 2 ^ 1000
theorem div_bd {x s b : Int} (hs : 1 ≤ s) (h0 : -b < x) (h1 : x < b) : -b < x / s ∧ x / s < b := by
  by_cases hx : 0 ≤ x
  · have a := Int.ediv_nonneg hx (show 0 ≤ s by omega)
    have c := Int.ediv_le_self s hx
    omega
  · have a : x ≤ x / s := by
      rw [Int.le_ediv_iff_mul_le (by omega)]
      have := Int.mul_le_mul_of_nonpos_left (show x ≤ 0 by omega) hs
      omega
    have c : x / s < 0 := Int.ediv_neg_of_neg_of_pos (by omega) (by omega)
    omega
end HT
namespace HT
open PySem L2
/-! ### spans -/
def below (m : Str) (s k : Int) : Int := if m = "down" then 0 else if m = "up" then s - 1 else if m = "half_up" ∨ (m = "half_even" ∧ k % 2 = 0) then s / 2 else (s - 1) / 2
def mir (m : Str) : Str := if m = "down" then "up" else if m = "up" then "down" else if m = "half_down" then "half_up" else if m = "half_up" then "half_down" else "half_even"
def lowM (o s : Int) (m : Str) (k : Int) : Int := o + s * k - below m s k
def highM (o s : Int) (m : Str) (k : Int) : Int := o + s * k + below (mir m) s k
theorem mir_d : mir "down" = "up" := by unfold mir; rw [if_pos rfl]
theorem mir_u : mir "up" = "down" := by unfold mir; rw [if_neg d_u, if_pos rfl]
theorem mir_hd : mir "half_down" = "half_up" := by unfold mir; rw [if_neg hd_d, if_neg hd_u, if_pos rfl]
theorem mir_hu : mir "half_up" = "half_down" := by unfold mir; rw [if_neg hu_d, if_neg hu_u, if_neg hu_hd, if_pos rfl]
theorem mir_he : mir "half_even" = "half_even" := by unfold mir; rw [if_neg he_d, if_neg he_u, if_neg he_hd, if_neg he_hu]
theorem be_d (s k : Int) : below "down" s k = 0 := by unfold below; rw [if_pos rfl]
theorem be_u (s k : Int) : below "up" s k = s - 1 := by unfold below; rw [if_neg d_u, if_pos rfl]
theorem be_hd (s k : Int) : below "half_down" s k = (s - 1) / 2 := by
  unfold below
  rw [if_neg hd_d, if_neg hd_u, if_neg]
  rintro (z | ⟨z, _⟩)
  · exact hd_hu z
  · exact hd_e z
theorem be_hu (s k : Int) : below "half_up" s k = s / 2 := by unfold below; rw [if_neg hu_d, if_neg hu_u, if_pos (.inl rfl)]
theorem be_he (s k : Int) : below "half_even" s k = if k % 2 = 0 then s / 2 else (s - 1) / 2 := by
  unfold below
  rw [if_neg he_d, if_neg he_u]
  by_cases h : k % 2 = 0
  · rw [if_pos (.inr ⟨rfl, h⟩), if_pos h]
  · rw [if_neg h, if_neg]
    rintro (z | ⟨_, z⟩)
    · exact he_hu z
    · exact h z
theorem mir_mode {m : Str} (h : Mode m) : Mode (mir m) := by
  rcases h with e | e | e | e | e <;> subst e
  · rw [mir_d]; exact .inr (.inl rfl)
  · rw [mir_u]; exact .inl rfl
  · rw [mir_hd]; exact .inr (.inr (.inr (.inl rfl)))
  · rw [mir_hu]; exact .inr (.inr (.inl rfl))
  · rw [mir_he]; exact .inr (.inr (.inr (.inr rfl)))
theorem below_bd {m : Str} {s k : Int} (h : Mode m) (hs : 1 ≤ s) : 0 ≤ below m s k ∧ below m s k < s := by
  rcases h with e | e | e | e | e <;> subst e
  · rw [be_d]; omega
  · rw [be_u]; omega
  · rw [be_hd]; omega
  · rw [be_hu]; omega
  · rw [be_he]; split <;> omega
theorem up_iff {m : Str} {s q r : Int} (h : Mode m) (r0 : 0 ≤ r) (r1 : r < s) : goesUp m s q r = true ↔ below (mir m) s q < r := by
  rcases h with e | e | e | e | e <;> subst e
  · rw [go_down, mir_d, be_u]
    exact ⟨fun z => (Bool.false_ne_true z).elim, fun z => absurd z (by omega)⟩
  · rw [go_up, mir_u, be_d, decide_eq_true_eq]
  · rw [go_hd, mir_hd, be_hu, decide_eq_true_eq]; omega
  · rw [go_hu, mir_hu, be_hd, decide_eq_true_eq]; omega
  · rw [go_he, mir_he, be_he, Bool.or_eq_true, Bool.and_eq_true, decide_eq_true_eq, decide_eq_true_eq, decide_eq_true_eq]
    split <;> omega
theorem touch {m : Str} {s : Int} (q : Int) (h : Mode m) (hs : 1 ≤ s) : below m s (q + 1) + below (mir m) s q = s - 1 := by
  rcases h with e | e | e | e | e <;> subst e
  · rw [be_d, mir_d, be_u]; omega
  · rw [be_u, mir_u, be_d]; omega
  · rw [be_hd, mir_hd, be_hu]; omega
  · rw [be_hu, mir_hu, be_hd]; omega
  · rw [be_he, mir_he, be_he]; split <;> split <;> omega
theorem mul_lt_step {s q k : Int} (hs : 1 ≤ s) (h : q < k) : s * q + s ≤ s * k := by
  have := Int.mul_le_mul_of_nonneg_left (show q + 1 ≤ k by omega) (show 0 ≤ s by omega)
  rw [Int.mul_add, Int.mul_one] at this
  exact this
/-- a value comes to k just between the ends -/
theorem fig_iff {o s : Int} {m : Str} {v k : Int} (h : Mode m) (hs : 1 ≤ s) : figM o s m v = k ↔ lowM o s m k ≤ v ∧ v ≤ highM o s m k := by
  have F := fig_of (o := o) (m := m) (v := v) hs
  generalize (v - o) / s = q at F
  generalize (v - o) % s = r at F
  generalize figM o s m v = f at F ⊢
  obtain ⟨eq, r0, r1, wh⟩ := F
  have ui := up_iff (q := q) h r0 r1
  have t1 := touch (k - 1) h hs
  rw [show k - 1 + 1 = k by omega] at t1
  have bk := below_bd (k := k) (mir_mode h) hs
  have bk1 := below_bd (k := k - 1) (mir_mode h) hs
  have bq := below_bd (k := q) (mir_mode h) hs
  unfold lowM highM
  have hf : (f = q + 1 ∧ below (mir m) s q < r) ∨ (f = q ∧ r ≤ below (mir m) s q) := by
    rcases wh with ⟨g, e⟩ | ⟨g, e⟩
    · exact .inl ⟨e, ui.mp g⟩
    · refine .inr ⟨e, ?_⟩
      have : ¬ below (mir m) s q < r := fun z => by rw [ui.mpr z] at g; cases g
      omega
  rcases Int.lt_trichotomy q k with hq | hq | hq
  · rcases Int.lt_trichotomy (q + 1) k with hq1 | hq1 | hq1
    · have := mul_lt_step hs (show q + 1 < k from hq1)
      rw [Int.mul_add, Int.mul_one] at this
      generalize s * q = a at *
      generalize s * k = b at *
      constructor
      · intro z; omega
      · intro z; omega
    · have e : q = k - 1 := by omega
      subst e
      have : s * (k - 1) = s * k - s := by rw [Int.mul_sub, Int.mul_one]
      generalize s * (k - 1) = a at *
      generalize s * k = b at *
      constructor
      · intro z; omega
      · intro z; omega
    · omega
  · subst hq
    generalize s * q = a at *
    constructor
    · intro z; omega
    · intro z; omega
  · have := mul_lt_step hs hq
    generalize s * q = a at *
    generalize s * k = b at *
    constructor
    · intro z; omega
    · intro z; omega
theorem low_high {o s : Int} {m : Str} {k : Int} (h : Mode m) (hs : 1 ≤ s) : lowM o s m k ≤ o + s * k ∧ o + s * k ≤ highM o s m k := by
  have a := below_bd (k := k) h hs
  have b := below_bd (k := k) (mir_mode h) hs
  unfold lowM highM
  omega
theorem low_next {o s : Int} {m : Str} (k : Int) (h : Mode m) (hs : 1 ≤ s) : lowM o s m (k + 1) = highM o s m k + 1 := by
  have := touch k h hs
  unfold lowM highM
  rw [Int.mul_add, Int.mul_one]
  omega
theorem high_prev {o s : Int} {m : Str} (k : Int) (h : Mode m) (hs : 1 ≤ s) : highM o s m (k - 1) = lowM o s m k - 1 := by
  have := low_next (o := o) (k - 1) h hs
  rw [show k - 1 + 1 = k by omega] at this
  omega
theorem fig_low {o s : Int} {m : Str} (k : Int) (h : Mode m) (hs : 1 ≤ s) : figM o s m (lowM o s m k) = k := by
  have a := low_high (o := o) (k := k) h hs
  exact (fig_iff h hs).mpr ⟨by omega, by omega⟩
theorem fig_high {o s : Int} {m : Str} (k : Int) (h : Mode m) (hs : 1 ≤ s) : figM o s m (highM o s m k) = k := by
  have a := low_high (o := o) (k := k) h hs
  exact (fig_iff h hs).mpr ⟨by omega, by omega⟩
theorem fig_low1 {o s : Int} {m : Str} (k : Int) (h : Mode m) (hs : 1 ≤ s) : figM o s m (lowM o s m k - 1) = k - 1 := by
  rw [← high_prev k h hs]
  exact fig_high _ h hs
theorem fig_high1 {o s : Int} {m : Str} (k : Int) (h : Mode m) (hs : 1 ≤ s) : figM o s m (highM o s m k + 1) = k + 1 := by
  rw [← low_next k h hs]
  exact fig_low _ h hs
/-- the figure of the least standing value that is not less -/
def ceilM (o s v : Int) : Int := -((o - v) / s)
theorem ceil_eq {o s v : Int} (hs : 1 ≤ s) : v ≤ o + s * ceilM o s v ∧ o + s * (ceilM o s v - 1) < v := by
  have a := Int.mul_ediv_add_emod (o - v) s
  have b := Int.emod_nonneg (o - v) (show s ≠ 0 by omega)
  have c := Int.emod_lt_of_pos (o - v) (show 0 < s by omega)
  unfold ceilM
  rw [Int.mul_sub, Int.mul_one, Int.mul_neg]
  omega
def backM (o s : Int) (m : Str) (v : Int) : Int := lowM o s m (ceilM o s v)
theorem back_ge {o s : Int} {m : Str} {v : Int} (h : Mode m) (hs : 1 ≤ s) : v ≤ dueM o s m (backM o s m v) := by
  unfold dueM backM
  rw [fig_low _ h hs]
  exact (ceil_eq hs).1
theorem back_lt {o s : Int} {m : Str} {v : Int} (h : Mode m) (hs : 1 ≤ s) : dueM o s m (backM o s m v - 1) < v := by
  unfold dueM backM
  rw [fig_low1 _ h hs]
  exact (ceil_eq hs).2
theorem mul_b {s k : Int} (s0 : 1 ≤ s) (s1 : s ≤ 10 ^ 30) (h : -2 ^ 720 < k ∧ k < 2 ^ 720) : -2 ^ 820 < s * k ∧ s * k < 2 ^ 820 := by
  have h1 : (s * k).natAbs < 2 ^ (100 + 720) := wide_lt (a := 100) (b := 720) (by omega) (by omega)
  omega
end HT
namespace HT
open PySem L2
theorem lg_nat {n : Nat} (h : n < 2 ^ 200) : ((n : Int)).natAbs.log2 < 9000 := by
  rw [Int.natAbs_natCast]
  by_cases e : n = 0
  · rw [e]; decide
  · have := (Nat.log2_lt e).mpr h
    omega
theorem lg_small {n : Int} (h0 : 0 ≤ n) (h : n < 2 ^ 64) : n.natAbs.log2 < 9000 := by
  obtain ⟨m, rfl⟩ := Int.eq_ofNat_of_zero_le h0
  exact lg_nat (Nat.lt_of_lt_of_le (by omega : m < 2 ^ 64) (Nat.pow_le_pow_right (by decide) (by decide)))
theorem lg_big {n : Int} (h0 : 0 ≤ n) (h : n < 2 ^ 200) : n.natAbs.log2 < 9000 := by
  obtain ⟨m, rfl⟩ := Int.eq_ofNat_of_zero_le h0
  exact lg_nat (by omega)
theorem divp {o v s : Int} (hs : 1 ≤ s) (ho : -10 ^ 40 ≤ o ∧ o ≤ 10 ^ 40) (hv : Bd v) : CDivP (v - o) s := by
  refine divp_ok (by omega) ?_
  have h : (v - o).natAbs < 2 ^ 1010 := by
    have h1 := hv.1
    have h2 := hv.2
    omega
  have h2 : Builtin.Int.intBits (v - o) ≤ 1011 := by
    unfold Builtin.Int.intBits
    split
    · omega
    · have := PySem.Flt.log2_lt_of (by decide) h
      omega
  omega
theorem mulW {i j : Int} (hi : -2 ^ 1010 < i ∧ i < 2 ^ 1010) (hj : -2 ^ 1010 < j ∧ j < 2 ^ 1010) : CMulW i j := wide_mul (a := 1010) (b := 1010) (by omega) (by omega) (by decide) (by decide) (by decide)
theorem fig_bd {o s : Int} {m : Str} {v : Int} (S : SideP o s m) (hv : Bd v) : -2 ^ 1001 < figM o s m v ∧ figM o s m v < 2 ^ 1001 := by
  obtain ⟨h1, h2⟩ := hv
  obtain ⟨o0, o1, s0, s1, _⟩ := S
  have := div_bd (x := v - o) (b := 2 ^ 1000 + 10 ^ 40) s0 (by omega) (by omega)
  unfold figM
  split <;> omega
end HT
namespace L2
open PySem PySem.Spec PyProof.Rows
/-- a def of which any kind of error may come -/
theorem Fun.okAny {CX' : CXT} {P : Program} {w : World} {K : PySem.W.Frag} {mg : Str → Option Value} {base : Heap} {nm qu : Str} {row : Stmt} {at0 : Addr} {fd : FuncData} {names pars : List Str} {lev : Nat} {want : Sp} (F : Fun K nm qu row at0 fd) (S : FnScope names pars (defScope row)) (len : ∀ vs H Q E, want vs H Q E → vs.length = pars.length)
    (body : ∀ (code : Value) (A : Around) (outer : List Env) (sh : Shared) (H : Hp) (vs : List V) (Q : VK) (E : XK), Room lev (A.deeper (envOfC qu (defScope row) sh.heap.objs.size at0 code)) → want vs H Q E →
      ∃ t, PSs (cxOf CX' P w K mg base names qu (defScope row) at0 code A outer sh H E) (defBody row) t ∧ t { nx := fun _ H' => Q .non H', rt := Q } (start names vs) H) : FnOk P w K mg base CX' (lev + 1) at0 fd pars want := by
  obtain ⟨_, _, _, _, _, _, code, _, _, rfl, there, isCode⟩ := F.ex
  exact fn_of there isCode S len (body code)
/-- X('..') of an own class, for a raise .. from None -/
theorem pmk5_own {X : Cx} {C : Addr} {bmB : List Value} {B newId initId : String} {x m : Str} {j : Nat} {p p2 pos : Pos} (F : ExcBaseFacts B newId initId bmB) (q : PySem.W.excIn X.K C bmB newId = true) (gC : X.mg x = some (.ref C)) (kC : PySem.W.keepIn X.K (.ref C) = true) (r : Raises X (.ref C)) (hg : Gl X x)
    (plain : (x == ("__debug__" : Str)) = false := by decide) : L2H.PMk5 X (.Call (.Name x p) [.Constant (.str m) j p2] [] pos) (fun _ H Q => Q (.ref C) none H) := by
  intro pins sh st H Q iv want
  have arg : PA X [.Constant (.str m) j p2] (tCons (tC (.str m)) tNil) := pa_cons pe_str pa_nil
  refine wpAny_Call_Name_kw (ld_glob iv hg gC (PySem.W.callWith_K (h₀ := X.base) iv.ok.mod.kin kC (thn (arg.run pos pins sh st H (fun vs H1 => vs = [V.str m] ∧ H = H1) iv ⟨rfl, rfl⟩) ?_)) plain)
  rintro us sh1 ⟨vs, H1, iv1, rel, rfl, rfl⟩
  refine ⟨iv1.kIn, ?_⟩
  match us, rel with
  | [u], .cons _ .nil =>
    show wpAny _ _ (call (.ref C) [u]) _ _ _
    obtain ⟨_, _, _, _, _, _, _, _, _, _, _, _, _, _, _, _, _, hC, hN, hni, T⟩ := exc_obj iv1.kIn q
    exact wpAny_call_exc_subT F T hC hN hni (fun h' e made => L2H.mk_of5 iv1 made r want (iv1.hok.gone made.new)) (by show 1 ≤ sizeLine; decide)
/-- try: .. except x: suite, the suite raising: ps_try_onlyX with its reading under a name, for a loop around it -/
def tTryX (K : PySem.W.Frag) (c : Value) (ts : Addr → Value → Option Addr → TS) (Wout : WX) (tb : WX → TS) : TS := fun D st H => tb (wOnly K c ts Wout D) D st H
theorem ps_tryX {X : Cx} {x : Str} {c : Value} {body suite : List Stmt} {first : Stmt} {np pos pos' : Pos} {tb : WX → TS} {ts : Addr → Value → Option Addr → TS} {Wout : WX} (h1 : X.stack = X.env :: X.outer) (h2 : X.env.frame = some X.env.locals) (h3 : Names X x c)
    (h4 : ∀ hd : Option Value, PassesOwnAt (model X.prog X.w) (X.A.mark hd) X.A X.env X.xe) (h5 : L2.Takes X Wout)
    (h6 : ∀ (W : WX) (pn : List (Addr × Obj)) (xe : Value → Shared → Prop), L2N.Takes (X.tr pn xe) W → L2.Takes (X.tr pn xe) (L2H.wPass X.K c Wout) → PassesOwn (model X.prog X.w) X.A X.env xe → PSs (X.tr pn xe) body (tb W))
    (h7 : ∀ (a : Addr) (oe : Obj) (cls : Value) (d : Option Addr) (pn : List (Addr × Obj)), L2N.Zn cls d oe → (∃ vs, oe.data = .fields vs) → L2.Takes (L2H.suiteX X a ((a, oe) :: pn)) Wout → L2H.HotC (L2H.suiteX X a ((a, oe) :: pn)) → PSs (L2H.suiteX X a ((a, oe) :: pn)) (first :: suite) (ts a cls d)) :
    PS X (.Try body [.ExceptHandler (some (.Name x np)) none (first :: suite) pos'] [] [] pos) (tTryX X.K c ts Wout tb) := L2H.ps_try_onlyX h1 h2 h3 h4 h5 h6 h7
end L2
namespace HT
open PySem L2
section
variable {P : Program} {w : World} {K : PySem.W.Frag} {mg : Str → Option Value} {base : Heap} {aM fI fB fV fC fL fN fW B : Addr} {dI dB dV dC dL dN dW : FuncData} {C : Nat → Addr}
theorem ok_side_x {f : Addr} {fd : FuncData} (F : Fun K "check_side" "check_side" s_check_side f fd) (T : ChkT mg) (M : ModT K mg aM) (R : Er K mg C B) (Bt : Cal P w K mg base "is_int_between" 2 ["thing", "least", "most"] spBetAny fB dB) : FnOk P w K mg base (L2.CX P w) 3 f fd ["side"] (spSideX K C) := by
  refine F.okAny sc_check_side (fun vs H Q E h => ?_) (fun cdv A outer s0 H vs Q E hr h => ?_)
  · obtain ⟨x, rfl, _⟩ := h
    rfl
  · obtain ⟨x, rfl, h⟩ := h
    have nd := sc_check_side.nd
    refine ⟨_, pss_cons (ps_if (PW.pt (pw_or (pt_not (pt_val (pe_callB call_isi (by rfl) T.isi (by decide +kernel) (pa_cons (pv 0) (pa_cons (pe_bltn (v := .ty "tuple") (by rfl) T.tuple (by decide +kernel) rfl) pa_nil)))))
        (pw_or1 (pt_cmpR op_ne (pe_callB call_len_seq (by rfl) T.len PySem.boot_len (pa_cons (pv 0) pa_nil)) pe_int (nomark _))))) (pss_one (ps_raise rfl (takes_of rfl rfl rfl rfl) (pmk_own PySem.F.excBase_ValueError (R.ex 0 (by decide)) R.g0 (R.kp 0 (by decide)) (raises_own (R.sb 0 (by decide)) (R.ty 0 (by decide))) (by rfl)))) pss_nil)
      (pss_cons (ps_asg (pv 0) (pg_tup (by rfl) (pgs_cons (pg_name (i := 1) nd rfl (Or.inl rfl)) (pgs_cons (pg_name (i := 2) nd rfl (Or.inl rfl)) (pgs_cons (pg_name (i := 3) nd rfl (Or.inl rfl)) pgs_nil)))))
      (pss_cons (ps_if (pt_not (pt_val (pcl Bt hr (by decide) (by rfl) (pa_cons (pv 1) (pa_cons (pe_un un_neg (pe_op op_pow pe_int pe_int)) (pa_cons (pe_op op_pow pe_int pe_int) pa_nil)))))) (pss_one (ps_raise rfl (takes_of rfl rfl rfl rfl) (pmk_own PySem.F.excBase_ValueError (R.ex 0 (by decide)) R.g0 (R.kp 0 (by decide)) (raises_own (R.sb 0 (by decide)) (R.ty 0 (by decide))) (by rfl)))) pss_nil)
      (pss_cons (ps_if (pt_not (pt_val (pcl Bt hr (by decide) (by rfl) (pa_cons (pv 2) (pa_cons pe_int (pa_cons (pe_op op_pow pe_int pe_int) pa_nil)))))) (pss_one (ps_raise rfl (takes_of rfl rfl rfl rfl) (pmk_own PySem.F.excBase_ValueError (R.ex 0 (by decide)) R.g0 (R.kp 0 (by decide)) (raises_own (R.sb 0 (by decide)) (R.ty 0 (by decide))) (by rfl)))) pss_nil)
      (pss_one (ps_if (pt_cmpR (op_notInT hr.units) (pv 3) (pe_glob (v := .ref aM) (by rfl) M.gM rfl) (by rfl)) (pss_one (ps_raise rfl (takes_of rfl rfl rfl rfl) (pmk_own PySem.F.excBase_ValueError (R.ex 0 (by decide)) R.g0 (R.kp 0 (by decide)) (raises_own (R.sb 0 (by decide)) (R.ty 0 (by decide))) (by rfl)))) pss_nil))))), ?_⟩
    walk_at "rd"
    rcases h with ⟨⟨p, o, s, m, rfl, hp, S⟩, q⟩ | ⟨bad, q⟩
    · refine ⟨_, _, _, _, _, rfl, .ty "tuple", .base (.tup hp), kit_ty (r := true) (by decide +kernel), ?_⟩
      walk_at "rd"
      refine ⟨p, _, rfl, .inr (SqT.of hp), rfl, ?_⟩
      walk_at "rd"
      refine ⟨p, _, rfl, SqT.of hp, rfl, _, _, rfl, _, _, rfl, _, _, rfl, rfl, ?_⟩
      walk_at "rd"
      refine ⟨⟨by decide, by decide, by decide⟩, ?_⟩
      walk_at "rd"
      refine ⟨⟨by decide, by decide, by decide⟩, _, _, _, _, rfl, .int o, ?_⟩
      have e1 : inB (.int o) (-(10 : Int) ^ (40 : Int).toNat) ((10 : Int) ^ (40 : Int).toNat) = true := by
        show (decide (-(10 : Int) ^ (40 : Int).toNat ≤ o) && decide (o ≤ (10 : Int) ^ (40 : Int).toNat)) = true
        rw [decide_eq_true (show -(10 : Int) ^ (40 : Int).toNat ≤ o from S.o0), decide_eq_true (show o ≤ (10 : Int) ^ (40 : Int).toNat from S.o1)]
        rfl
      refine ⟨_, rfl, ?_⟩
      refine ite2 (fun h => (not_t h e1).elim) (fun _ => ?_)
      walk_at "rd"
      refine ⟨⟨by decide, by decide, by decide⟩, _, _, _, _, rfl, .int s, ?_⟩
      have e2 : inB (.int s) 1 ((10 : Int) ^ (30 : Int).toNat) = true := by
        show (decide ((1 : Int) ≤ s) && decide (s ≤ (10 : Int) ^ (30 : Int).toNat)) = true
        rw [decide_eq_true S.s0, decide_eq_true (show s ≤ (10 : Int) ^ (30 : Int).toNat from S.s1)]
        rfl
      refine ⟨_, rfl, ?_⟩
      refine ite2 (fun h => (not_t h e2).elim) (fun _ => ?_)
      walk_at "rd"
      refine ⟨_, _, .str m, dpModes (M.tM H), (mode_in S.md).1, by decide +kernel, by decide +kernel, ?_⟩
      walk_at "rd"
      refine ite2 (fun h => (not_t h (mode_in S.md).2).elim) (fun _ => ?_)
      exact q
    · cases bad with
      | kind t h =>
        refine ⟨_, _, _, _, _, rfl, .ty "tuple", t.ty, t.ktup, ?_⟩
        walk_at "rd"
        refine ite2 (fun _ => ?_) (fun z => absurd (by rw [h]; rfl) z)
        exact q
      | len hp h =>
        refine ⟨_, _, _, _, _, rfl, .ty "tuple", .base (.tup hp), kit_ty (r := true) (by decide +kernel), ?_⟩
        walk_at "rd"
        refine ⟨_, _, rfl, .inr (SqT.of hp), ?_⟩
        walk_at "rd"
        refine ⟨rfl, ?_⟩
        walk_at "rd"
        refine ite2 (fun _ => q) (fun z => absurd ?_ z)
        rw [dec_int, decide_eq_false (fun y => h (by omega))]
        rfl
      | off hp t h =>
        refine ⟨_, _, _, _, _, rfl, .ty "tuple", .base (.tup hp), kit_ty (r := true) (by decide +kernel), ?_⟩
        walk_at "rd"
        refine ⟨_, _, rfl, .inr (SqT.of hp), rfl, ?_⟩
        walk_at "rd"
        refine ⟨_, _, rfl, SqT.of hp, rfl, _, _, rfl, _, _, rfl, _, _, rfl, rfl, ?_⟩
        walk_at "rd"
        refine ⟨⟨by decide, by decide, by decide⟩, ?_⟩
        walk_at "rd"
        refine ⟨⟨by decide, by decide, by decide⟩, _, _, _, _, rfl, t, ?_⟩
        refine ⟨_, rfl, ?_⟩
        exact ite2 (fun _ => q) (fun z => absurd (by rw [show inB _ (-(10 : Int) ^ (40 : Int).toNat) ((10 : Int) ^ (40 : Int).toNat) = false from h]; rfl) z)
      | stp hp t h u g =>
        refine ⟨_, _, _, _, _, rfl, .ty "tuple", .base (.tup hp), kit_ty (r := true) (by decide +kernel), ?_⟩
        walk_at "rd"
        refine ⟨_, _, rfl, .inr (SqT.of hp), rfl, ?_⟩
        walk_at "rd"
        refine ⟨_, _, rfl, SqT.of hp, rfl, _, _, rfl, _, _, rfl, _, _, rfl, rfl, ?_⟩
        walk_at "rd"
        refine ⟨⟨by decide, by decide, by decide⟩, ?_⟩
        walk_at "rd"
        refine ⟨⟨by decide, by decide, by decide⟩, _, _, _, _, rfl, t, ?_⟩
        refine ⟨_, rfl, ?_⟩
        refine ite2 (fun z => (not_t z (show inB _ (-(10 : Int) ^ (40 : Int).toNat) ((10 : Int) ^ (40 : Int).toNat) = true from h)).elim) (fun _ => ?_)
        walk_at "rd"
        refine ⟨⟨by decide, by decide, by decide⟩, _, _, _, _, rfl, u, ?_⟩
        refine ⟨_, rfl, ?_⟩
        exact ite2 (fun _ => q) (fun z => absurd (by rw [show inB _ 1 ((10 : Int) ^ (30 : Int).toNat) = false from g]; rfl) z)
      | mod hp t h u g dp hd =>
        refine ⟨_, _, _, _, _, rfl, .ty "tuple", .base (.tup hp), kit_ty (r := true) (by decide +kernel), ?_⟩
        walk_at "rd"
        refine ⟨_, _, rfl, .inr (SqT.of hp), rfl, ?_⟩
        walk_at "rd"
        refine ⟨_, _, rfl, SqT.of hp, rfl, _, _, rfl, _, _, rfl, _, _, rfl, rfl, ?_⟩
        walk_at "rd"
        refine ⟨⟨by decide, by decide, by decide⟩, ?_⟩
        walk_at "rd"
        refine ⟨⟨by decide, by decide, by decide⟩, _, _, _, _, rfl, t, ?_⟩
        refine ⟨_, rfl, ?_⟩
        refine ite2 (fun z => (not_t z (show inB _ (-(10 : Int) ^ (40 : Int).toNat) ((10 : Int) ^ (40 : Int).toNat) = true from h)).elim) (fun _ => ?_)
        walk_at "rd"
        refine ⟨⟨by decide, by decide, by decide⟩, _, _, _, _, rfl, u, ?_⟩
        refine ⟨_, rfl, ?_⟩
        refine ite2 (fun z => (not_t z (show inB _ 1 ((10 : Int) ^ (30 : Int).toNat) = true from g)).elim) (fun _ => ?_)
        walk_at "rd"
        refine ⟨_, _, dp.dp, dpModes (M.tM H), hd.1, by decide +kernel, by decide +kernel, ?_⟩
        walk_at "rd"
        refine ite2 (fun _ => q) (fun z => absurd (by rw [hd.2]; rfl) z)
end
end HT
namespace HT
open PySem L2
/-- a def of which errors may come, and its call -/
structure CalX (P : Program) (w : World) (K : PySem.W.Frag) (mg : Str → Option Value) (base : Heap) (x : Str) (k : Nat) (ps : List Str) (sp : Sp) (f : Addr) (fd : FuncData) : Prop where
  ok : FnOk P w K mg base (L2.CX P w) k f fd ps sp
  mgf : mg x = some (.ref f)
  kp : PySem.W.keepIn K (.ref f) = true
  b : Binds K fd ps []
theorem pcx {X : Cx} {x : Str} {k j : Nat} {ps : List Str} {sp : Sp} {f : Addr} {fd : FuncData} {e : Expr} {es : List Expr} {t : TA} {p pos : Pos} {W : WX} (C : CalX X.prog X.w X.K X.mg X.base x k ps sp f fd) (hr : Room j X.A) (hj : k ≤ j) (hg : Gl X x) (tk : L2.Takes X W) (ha : PA X (e :: es) t)
    (hdb : (x == ("__debug__" : Str)) = false := by decide) (he : starEach (e :: es) X.env = (false, eval e X.env) :: starEach es X.env := by rfl) (hpl : (backTo pos (starEach es X.env)).any (·.1) = false := by rfl) : PE X (.Call (.Name x p) (e :: es) [] pos) (tCallS sp (WE W) t) :=
  pe_callS C.ok (hr.mono hj) hg C.mgf C.kp C.b (fun σ => L2.passAt tk σ) ha hdb he hpl
end HT
namespace HT
open PySem L2
def GoodL (H : Hp) (l : Addr) (xs : List V) : Prop := H l = some (.lst xs) ∧ 1 ≤ xs.length ∧ xs.length ≤ 4 ∧ ∀ y ∈ xs, GoodS H y
/-- no list of sides -/
inductive BadL (K : PySem.W.Frag) (H : Hp) : V → Prop where
  | kind {x : V} {n : String} (t : Th H x n) (h : (n == "list") = false) : BadL K H x
  | len {l : Addr} {xs : List V} (hl : H l = some (.lst xs)) (h : ¬ (1 ≤ xs.length ∧ xs.length ≤ 4)) : BadL K H (.ref l)
  | item {l : Addr} {xs : List V} {i : Nat} {y : V} (hl : H l = some (.lst xs)) (h1 : 1 ≤ xs.length) (h2 : xs.length ≤ 4) (hi : xs[i]? = some y) (bad : BadS K H y) (good : ∀ j z, j < i → xs[j]? = some z → GoodS H z) : BadL K H (.ref l)
def spIsSide (K : PySem.W.Frag) : Sp := fun vs H Q _ => ∃ x : V, vs = [x] ∧ ((GoodS H x ∧ Q (.bl true) H) ∨ (BadS K H x ∧ Q (.bl false) H))
def spSidesX (K : PySem.W.Frag) (C : Nat → Addr) : Sp := fun vs H Q E => ∃ x : V, vs = [x] ∧ ((∃ l xs, x = .ref l ∧ GoodL H l xs ∧ Q .non H) ∨ (BadL K H x ∧ E (.ref (C 1)) none H))
/-- the numbers of among's top -/
structure AmT (mg : Str → Option Value) : Prop where
  ms : ∃ t, mg "MOST_SIDES" = some (.int 4 t)
  mh : ∃ t, mg "MOST_HANDOVERS" = some (.int 1000 t)
section
variable {P : Program} {w : World} {K : PySem.W.Frag} {mg : Str → Option Value} {base : Heap} {aM fI fB fV fC fL fN fW B : Addr} {dI dB dV dC dL dN dW : FuncData} {C : Nat → Addr}
theorem ok_is_side {f : Addr} {fd : FuncData} (F : Fun K "is_side" "is_side" s_is_side f fd) (R : Er K mg C B) (Ck : CalX P w K mg base "check_side" 3 ["side"] (spSideX K C) fC dC) : FnOk P w K mg base CX0 4 f fd ["thing"] (spIsSide K) := by
  refine F.ok sc_is_side (fun vs H Q E h => ?_) (fun cdv A outer s0 H vs Q E hr h => ?_)
  · obtain ⟨x, rfl, _⟩ := h
    rfl
  · obtain ⟨x, rfl, h⟩ := h
    refine ⟨_, pss_cons (ps_try_only rfl rfl ⟨rfl, by decide, .inl R.g0⟩ takes0 (fun W pn xe tk _ => pss_one (ps_expr (pcx Ck hr (by decide) (by rfl) tk (pa_cons (pv 0) pa_nil)))) (fun a oe cls d pn _ _ => pss_one (ps_ret pe_bl))) (pss_one (ps_ret pe_bl)), ?_⟩
    walk_at "rd"
    rcases h with ⟨good, q⟩ | ⟨bad, q⟩
    · refine .inl ⟨good, ?_⟩
      walk_at "rd"
      exact q
    · refine .inr ⟨bad, ?_⟩
      exact ⟨true, R.em0, fun _ a ha => q, fun z => Bool.noConfusion z⟩
theorem ok_sides_x {f : Addr} {fd : FuncData} (F : Fun K "check_sides" "check_sides" s_check_sides f fd) (T : ChkT mg) (A' : AmT mg) (R : Er K mg C B) (Ck : Cal P w K mg base "is_side" 4 ["thing"] (spIsSide K) fC dC) : FnOk P w K mg base (L2.CX P w) 5 f fd ["sides"] (spSidesX K C) := by
  refine F.okAny sc_check_sides (fun vs H Q E h => ?_) (fun cdv A outer s0 H vs Q E hr h => ?_)
  · obtain ⟨x, rfl, _⟩ := h
    rfl
  · obtain ⟨x, rfl, h⟩ := h
    have nd := sc_check_sides.nd
    obtain ⟨tms, hms⟩ := A'.ms
    refine ⟨_, pss_cons (ps_if (PW.pt (pw_or (pt_not (pt_val (pe_callB call_isi (by rfl) T.isi (by decide +kernel) (pa_cons (pv 0) (pa_cons (pe_bltn (v := .ty "list") (by rfl) T.list (by decide +kernel) rfl) pa_nil)))))
        (pw_or1 (pt_not (pt_chain op_le op_le pe_int (pe_callB call_len_seq (by rfl) T.len PySem.boot_len (pa_cons (pv 0) pa_nil)) (pe_glob (v := .int 4) (by rfl) hms ⟨_, rfl⟩)))))) (pss_one (ps_raise rfl (takes_of rfl rfl rfl rfl) (pmk_own PySem.F.excBase_ValueError (R.ex 1 (by decide)) R.g1 (R.kp 1 (by decide)) (raises_own (R.sb 1 (by decide)) (R.ty 1 (by decide))) (by rfl)))) pss_nil)
      (pss_one (ps_for (passes_of rfl) rfl (pi_list (pv 0)) (pg_name (i := 1) nd rfl (Or.inl rfl))
        (pss_one (ps_if (pt_not (pt_val (pcl Ck hr (by decide) (by rfl) (pa_cons (pv 1) pa_nil)))) (pss_one (ps_raise rfl (takes_of rfl rfl rfl rfl) (pmk_own PySem.F.excBase_ValueError (R.ex 1 (by decide)) R.g1 (R.kp 1 (by decide)) (raises_own (R.sb 1 (by decide)) (R.ty 1 (by decide))) (by rfl)))) pss_nil)))), ?_⟩
    walk_at "rd"
    rcases h with ⟨l, xs, rfl, ⟨hl, l1, l4, good⟩, q⟩ | ⟨bad, q⟩
    · refine ⟨_, _, _, _, _, rfl, .ty "list", .base (.lst hl), kit_ty (r := true) (by decide +kernel), ?_⟩
      walk_at "rd"
      refine ⟨l, _, rfl, .inl (SqL.of hl), ?_⟩
      walk_at "rd"
      refine ite2 (fun _ => ?_) (fun z => absurd (decide_eq_true (by omega)) z)
      walk_at "rd"
      refine ite2 (fun z => ?_) (fun _ => ?_)
      · exfalso
        have e : decide ((xs.length : Int) ≤ 4) = true := decide_eq_true (by omega)
        exact not_t z e
      walk_at "rd"
      refine ⟨⟨_, SqL.of hl⟩, ?_⟩
      refine for_list (K := K) (a := l) (xs := xs) (fun i σ H' => ∃ y : Option V, σ = [some (.ref l), y] ∧ H' = H) ⟨none, rfl, rfl⟩ (fun _ _ _ _ ⟨_, _, e⟩ => e ▸ SqL.of hl) ?_ ?_
      · rintro i y σ H' hy ⟨z, rfl, rfl⟩
        walk_at "rd"
        refine .inl ⟨good y (List.mem_of_getElem? hy), _, rfl, ?_⟩
        refine ite2 (fun z => (not_t z rfl).elim) (fun _ => ?_)
        exact ⟨_, rfl, rfl⟩
      · rintro σ H' ⟨z, rfl, rfl⟩
        exact q
    · cases bad with
      | kind t h =>
        refine ⟨_, _, _, _, _, rfl, .ty "list", t.ty, t.klst, ?_⟩
        walk_at "rd"
        refine ite2 (fun _ => ?_) (fun z => absurd (by rw [h]; rfl) z)
        exact q
      | @len l xs hl h =>
        refine ⟨_, _, _, _, _, rfl, .ty "list", .base (.lst hl), kit_ty (r := true) (by decide +kernel), ?_⟩
        walk_at "rd"
        refine ⟨l, _, rfl, .inl (SqL.of hl), ?_⟩
        walk_at "rd"
        refine ite2 (fun z1 => ?_) (fun z1 => ?_)
        · have z1' := of_decide_eq_true z1
          walk_at "rd"
          refine ite2 (fun _ => q) (fun z => absurd ?_ z)
          have e : decide ((xs.length : Int) ≤ 4) = false := decide_eq_false (by omega)
          rw [e]
          rfl
        · walk_at "rd"
          exact q
      | @item l xs i0 y0 hl l1 l4 hi bad good =>
        refine ⟨_, _, _, _, _, rfl, .ty "list", .base (.lst hl), kit_ty (r := true) (by decide +kernel), ?_⟩
        walk_at "rd"
        refine ⟨l, _, rfl, .inl (SqL.of hl), ?_⟩
        walk_at "rd"
        refine ite2 (fun _ => ?_) (fun z => absurd (decide_eq_true (by omega)) z)
        walk_at "rd"
        refine ite2 (fun z => ?_) (fun _ => ?_)
        · exfalso
          have e : decide ((xs.length : Int) ≤ 4) = true := decide_eq_true (by omega)
          exact not_t z e
        walk_at "rd"
        refine ⟨⟨_, SqL.of hl⟩, ?_⟩
        have i0l : i0 < xs.length := (List.getElem?_eq_some_iff.mp hi).1
        refine for_list (K := K) (a := l) (xs := xs) (fun i σ H' => ∃ y : Option V, σ = [some (.ref l), y] ∧ H' = H ∧ i ≤ i0) ⟨none, rfl, rfl, Nat.zero_le _⟩ (fun _ _ _ _ ⟨_, _, e, _⟩ => e ▸ SqL.of hl) ?_ ?_
        · rintro i y σ H' hy ⟨z, rfl, rfl, le⟩
          walk_at "rd"
          rcases Nat.lt_or_eq_of_le le with lt | eq
          · refine .inl ⟨good i y lt hy, _, rfl, ?_⟩
            refine ite2 (fun z => (not_t z rfl).elim) (fun _ => ?_)
            exact ⟨_, rfl, rfl, lt⟩
          · subst eq
            have ey : y = y0 := by rw [hi] at hy; exact (Option.some.inj hy).symm
            subst ey
            refine .inr ⟨bad, _, rfl, ?_⟩
            refine ite2 (fun _ => ?_) (fun z => absurd rfl z)
            exact q
        · rintro σ H' ⟨z, rfl, rfl, le⟩
          omega
end
end HT
namespace HT
open PySem L2
def nV (k : Nat) : V := .int (k : Int)
/-- no list of numbers of n sides -/
inductive BadN (H : Hp) (n : Int) : V → Prop where
  | kind {x : V} {m : String} (t : Th H x m) (h : (m == "list") = false) : BadN H n x
  | len {l : Addr} {xs : List V} (hl : H l = some (.lst xs)) (h : 1000 < xs.length) (h2 : xs.length < 2 ^ 60) : BadN H n (.ref l)
  | item {l : Addr} {xs : List V} {i : Nat} {y : V} {m : String} (hl : H l = some (.lst xs)) (h : xs.length ≤ 1000) (hi : xs[i]? = some y) (t : Th H y m) (bad : inB y 0 (n - 1) = false) (good : ∀ j z, j < i → xs[j]? = some z → inB z 0 (n - 1) = true) : BadN H n (.ref l)
def spNumX (C : Nat → Addr) : Sp := fun vs H Q E => ∃ (x : V) (n : Int), vs = [x, .int n] ∧ ((∃ (l : Addr) (ks : List Nat), x = .ref l ∧ H l = some (.lst (ks.map nV)) ∧ ks.length ≤ 1000 ∧ (∀ k ∈ ks, (k : Int) < n) ∧ Q .non H) ∨ (BadN H n x ∧ E (.ref (C 2)) none H))
def spBefX (K : PySem.W.Frag) (C : Nat → Addr) : Sp := fun vs H _ E => ∃ x y : V, vs = [x, y] ∧ ((BadL K H x ∧ E (.ref (C 1)) none H) ∨ (∃ l xs n, x = .ref l ∧ GoodL H l xs ∧ Th H y n ∧ isI n = false ∧ E (.ref (C 3)) none H))
def spRouX (K : PySem.W.Frag) (C : Nat → Addr) : Sp := fun vs H _ E => ∃ x y z : V, vs = [x, y, z] ∧ ((BadL K H x ∧ E (.ref (C 1)) none H) ∨ (∃ l xs n m, x = .ref l ∧ GoodL H l xs ∧ Th H y n ∧ Th H z m ∧ (isI n && isI m) = false ∧ E (.ref (C 3)) none H))
theorem inB_int {y : V} {a b : Int} (h : inB y a b = true) : ∃ i : Int, y = .int i ∧ a ≤ i ∧ i ≤ b := by
  cases y with
  | int i =>
    have h' : (decide (a ≤ i) && decide (i ≤ b)) = true := h
    rw [Bool.and_eq_true] at h'
    exact ⟨i, rfl, of_decide_eq_true h'.1, of_decide_eq_true h'.2⟩
  | _ => cases h
section
variable {P : Program} {w : World} {K : PySem.W.Frag} {mg : Str → Option Value} {base : Heap} {aM fI fB fV fC fL fN fW B : Addr} {dI dB dV dC dL dN dW : FuncData} {C : Nat → Addr}
theorem ok_num_x {f : Addr} {fd : FuncData} (F : Fun K "_check_numbers" "_check_numbers" s_check_numbers f fd) (T : ChkT mg) (A' : AmT mg) (R : Er K mg C B) (Bt : Cal P w K mg base "is_int_between" 2 ["thing", "least", "most"] spBetAny fB dB) : FnOk P w K mg base (L2.CX P w) 3 f fd ["numbers", "many"] (spNumX C) := by
  refine F.okAny sc_check_numbers (fun vs H Q E h => ?_) (fun cdv A outer s0 H vs Q E hr h => ?_)
  · obtain ⟨x, n, rfl, _⟩ := h
    rfl
  · obtain ⟨x, n, rfl, h⟩ := h
    have nd := sc_check_numbers.nd
    obtain ⟨tmh, hmh⟩ := A'.mh
    refine ⟨_, pss_cons (ps_if (PW.pt (pw_or (pt_not (pt_val (pe_callB call_isi (by rfl) T.isi (by decide +kernel) (pa_cons (pv 0) (pa_cons (pe_bltn (v := .ty "list") (by rfl) T.list (by decide +kernel) rfl) pa_nil)))))
        (pw_or1 (pt_cmpR op_gt (pe_callB call_len_seq (by rfl) T.len PySem.boot_len (pa_cons (pv 0) pa_nil)) (pe_glob (v := .int 1000) (by rfl) hmh ⟨_, rfl⟩) (nomark _))))) (pss_one (ps_raise rfl (takes_of rfl rfl rfl rfl) (pmk_own PySem.F.excBase_ValueError (R.ex 2 (by decide)) R.g2 (R.kp 2 (by decide)) (raises_own (R.sb 2 (by decide)) (R.ty 2 (by decide))) (by rfl)))) pss_nil)
      (pss_one (ps_for (passes_of rfl) rfl (pi_list (pv 0)) (pg_name (i := 2) nd rfl (Or.inl rfl))
        (pss_one (ps_if (pt_not (pt_val (pcl Bt hr (by decide) (by rfl) (pa_cons (pv 2) (pa_cons pe_int (pa_cons (pe_op op_sub (pv 1) pe_int) pa_nil)))))) (pss_one (ps_raise rfl (takes_of rfl rfl rfl rfl) (pmk_own PySem.F.excBase_ValueError (R.ex 2 (by decide)) R.g2 (R.kp 2 (by decide)) (raises_own (R.sb 2 (by decide)) (R.ty 2 (by decide))) (by rfl)))) pss_nil)))), ?_⟩
    walk_at "rd"
    rcases h with ⟨l, ks, rfl, hl, l4, good, q⟩ | ⟨bad, q⟩
    · refine ⟨_, _, _, _, _, rfl, .ty "list", .base (.lst hl), kit_ty (r := true) (by decide +kernel), ?_⟩
      walk_at "rd"
      refine ⟨l, _, rfl, .inl (SqL.of hl), ?_⟩
      walk_at "rd"
      refine ite2 (fun z => ?_) (fun _ => ?_)
      · have := of_decide_eq_true z
        rw [List.length_map] at this
        omega
      walk_at "rd"
      refine ⟨⟨_, SqL.of hl⟩, ?_⟩
      refine for_list (K := K) (a := l) (xs := ks.map nV) (fun i σ H' => ∃ y : Option V, σ = [some (.ref l), some (.int n), y] ∧ H' = H) ⟨none, rfl, rfl⟩ (fun _ _ _ _ ⟨_, _, e⟩ => e ▸ SqL.of hl) ?_ ?_
      · rintro i y σ H' hy ⟨z, rfl, rfl⟩
        obtain ⟨k, hk, rfl⟩ : ∃ k ∈ ks, y = .int (k : Int) := by
          have := List.mem_of_getElem? hy
          obtain ⟨k, hk, e⟩ := List.mem_map.mp this
          exact ⟨k, hk, e.symm⟩
        have kb := good k hk
        walk_at "rd"
        refine ⟨.int (k : Int), _, 0, _, rfl, .int _, ?_⟩
        refine ⟨_, rfl, ?_⟩
        refine ite2 (fun z => (not_t z ?_).elim) (fun _ => ?_)
        · show (decide ((0 : Int) ≤ (k : Int)) && decide ((k : Int) ≤ n - 1)) = true
          rw [decide_eq_true (by omega : (0 : Int) ≤ (k : Int)), decide_eq_true (by omega : (k : Int) ≤ n - 1)]
          rfl
        · exact ⟨_, rfl, rfl⟩
      · rintro σ H' ⟨z, rfl, rfl⟩
        exact q
    · cases bad with
      | kind t h =>
        refine ⟨_, _, _, _, _, rfl, .ty "list", t.ty, t.klst, ?_⟩
        walk_at "rd"
        refine ite2 (fun _ => ?_) (fun z => absurd (by rw [h]; rfl) z)
        exact q
      | @len l xs hl h h2 =>
        refine ⟨_, _, _, _, _, rfl, .ty "list", .base (.lst hl), kit_ty (r := true) (by decide +kernel), ?_⟩
        walk_at "rd"
        refine ⟨l, _, rfl, .inl (SqL.of hl), ?_⟩
        walk_at "rd"
        refine ite2 (fun _ => q) (fun z => absurd (decide_eq_true (by omega)) z)
      | @item l xs i0 y0 m hl l4 hi t0 bad good =>
        refine ⟨_, _, _, _, _, rfl, .ty "list", .base (.lst hl), kit_ty (r := true) (by decide +kernel), ?_⟩
        walk_at "rd"
        refine ⟨l, _, rfl, .inl (SqL.of hl), ?_⟩
        walk_at "rd"
        refine ite2 (fun z => by have := of_decide_eq_true z; omega) (fun _ => ?_)
        walk_at "rd"
        refine ⟨⟨_, SqL.of hl⟩, ?_⟩
        have i0l : i0 < xs.length := (List.getElem?_eq_some_iff.mp hi).1
        refine for_list (K := K) (a := l) (xs := xs) (fun i σ H' => ∃ y : Option V, σ = [some (.ref l), some (.int n), y] ∧ H' = H ∧ i ≤ i0) ⟨none, rfl, rfl, Nat.zero_le _⟩ (fun _ _ _ _ ⟨_, _, e, _⟩ => e ▸ SqL.of hl) ?_ ?_
        · rintro i y σ H' hy ⟨z, rfl, rfl, le⟩
          walk_at "rd"
          rcases Nat.lt_or_eq_of_le le with lt | eq
          · have gd := good i y lt hy
            obtain ⟨k, rfl, k0, k1⟩ := inB_int gd
            refine ⟨.int k, _, 0, _, rfl, .int _, ?_⟩
            refine ⟨_, rfl, ?_⟩
            refine ite2 (fun z => (not_t z gd).elim) (fun _ => ?_)
            exact ⟨_, rfl, rfl, lt⟩
          · subst eq
            have ey : y = y0 := by rw [hi] at hy; exact (Option.some.inj hy).symm
            subst ey
            refine ⟨y, _, 0, _, rfl, t0, ?_⟩
            refine ⟨_, rfl, ?_⟩
            exact ite2 (fun _ => q) (fun z => absurd (by rw [bad]; rfl) z)
        · rintro σ H' ⟨z, rfl, rfl, le⟩
          omega
theorem ok_before_x {f : Addr} {fd : FuncData} (F : Fun K "before" "before" s_before f fd) (Ls : CalX P w K mg base "check_sides" 5 ["sides"] (spSidesX K C) fL dL) (Vl : CalX P w K mg base "check_value" 2 ["value"] (spValX C) fV dV) : FnOk P w K mg base (L2.CX P w) 6 f fd ["sides", "value"]
    (spBefX K C) := by
  refine F.okAny sc_before (fun vs H Q E h => ?_) (fun cdv A outer s0 H vs Q E hr h => ?_)
  · obtain ⟨x, y, rfl, _⟩ := h
    rfl
  · obtain ⟨x, y, rfl, h⟩ := h
    refine ⟨_, pss_cons (ps_expr (pcx Ls hr (by decide) (by rfl) (takes_of rfl rfl rfl rfl) (pa_cons (pv 0) pa_nil)))
      (pss_cons (ps_expr (pcx Vl hr (by decide) (by rfl) (takes_of rfl rfl rfl rfl) (pa_cons (pv 1) pa_nil)))
      (pss_one ps_never)), ?_⟩
    walk_at "rd"
    rcases h with ⟨bad, q⟩ | ⟨l, xs, n, rfl, gl, ty, ni, q⟩
    · exact .inr ⟨bad, q⟩
    · refine .inl ⟨l, xs, rfl, gl, ?_⟩
      walk_at "rd"
      exact ⟨_, n, rfl, ty, fun z => absurd z (by rw [ni]; decide), fun _ => q⟩
theorem ok_route_x {f : Addr} {fd : FuncData} (F : Fun K "route" "route" s_route f fd) (Ls : CalX P w K mg base "check_sides" 5 ["sides"] (spSidesX K C) fL dL) (Vl : CalX P w K mg base "check_value" 2 ["value"] (spValX C) fV dV) : FnOk P w K mg base (L2.CX P w) 6 f fd ["sides", "start", "value"]
    (spRouX K C) := by
  refine F.okAny sc_route (fun vs H Q E h => ?_) (fun cdv A outer s0 H vs Q E hr h => ?_)
  · obtain ⟨x, y, z, rfl, _⟩ := h
    rfl
  · obtain ⟨x, y, z, rfl, h⟩ := h
    refine ⟨_, pss_cons (ps_expr (pcx Ls hr (by decide) (by rfl) (takes_of rfl rfl rfl rfl) (pa_cons (pv 0) pa_nil)))
      (pss_cons (ps_expr (pcx Vl hr (by decide) (by rfl) (takes_of rfl rfl rfl rfl) (pa_cons (pv 1) pa_nil)))
      (pss_cons (ps_expr (pcx Vl hr (by decide) (by rfl) (takes_of rfl rfl rfl rfl) (pa_cons (pv 2) pa_nil)))
      (pss_cons ps_never (pss_cons ps_never (pss_cons ps_never (pss_one ps_never)))))), ?_⟩
    walk_at "rd"
    rcases h with ⟨bad, q⟩ | ⟨l, xs, n, m, rfl, gl, t1, t2, ni, q⟩
    · exact .inr ⟨bad, q⟩
    · refine .inl ⟨l, xs, rfl, gl, ?_⟩
      walk_at "rd"
      refine ⟨_, n, rfl, t1, fun z1 => ?_, fun _ => q⟩
      walk_at "rd"
      exact ⟨_, m, rfl, t2, fun z2 => absurd ni (by rw [z1, z2]; decide), fun _ => q⟩
end
end HT
namespace HT
open PySem L2
/-- the further names that the text of sides does not bind, and its table of modes -/
structure SideT (K : PySem.W.Frag) (mg : Str → Option Value) (aM : Addr) : Prop where
  isi : mg "isinstance" = none
  int : mg "int" = none
  bool : mg "bool" = none
  tuple : mg "tuple" = none
  len : mg "len" = none
  dm : mg "divmod" = none
  gM : mg "MODES" = some (.ref aM)
  tM : ∀ H, SqT K H aM modesV
def spGo : Sp := fun vs H Q _ => ∃ (m : Str) (s q r : Int), vs = [.str m, .int s, .int q, .int r] ∧ Q (.bl (goesUp m s q r)) H
def spSV (f : Int → Int → Str → Int → V) : Sp := fun vs H Q _ => ∃ (p : Addr) (o s : Int) (m : Str) (v : Int), vs = [.ref p, .int v] ∧ H p = some (sideV o s m) ∧ SideP o s m ∧ Bd v ∧ ∀ H', Same H H' → Q (f o s m v) H'
def spFig : Sp := spSV fun o s m v => .int (figM o s m v)
def spDue : Sp := spSV fun o s m v => .int (dueM o s m v)
section
variable {P : Program} {w : World} {K : PySem.W.Frag} {mg : Str → Option Value} {base : Heap} {aM fI fB fV fC fG fF : Addr} {dI dB dV dC dG dF : FuncData}
theorem ok_goes_up {f : Addr} {fd : FuncData} (F : Fun K "_goes_up" "_goes_up" s_goes_up f fd) : FnOk P w K mg base CX0 1 f fd ["mode", "step", "figure", "rest"] spGo := by
  refine F.ok sc_goes_up (fun vs H Q E h => ?_) (fun cdv A outer s H vs Q E hr h => ?_)
  · obtain ⟨m, s, q, r, rfl, _⟩ := h
    rfl
  · obtain ⟨m, s, fg, r, rfl, q⟩ := h
    refine ⟨_, pss_cons (ps_if (pt_cmpR op_eq (pv 0) pe_str (nomark _)) (pss_one (ps_ret pe_bl)) pss_nil)
      (pss_cons (ps_if (pt_cmpR op_eq (pv 0) pe_str (nomark _)) (pss_one (ps_ret (pe_cmpR op_gt (pv 3) pe_int (nomark _)))) pss_nil)
      (pss_cons (ps_if (pt_cmpR op_ne (pe_op op_mul pe_int (pv 3)) (pv 1) (nomark _)) (pss_one (ps_ret (pe_cmpR op_gt (pe_op op_mul pe_int (pv 3)) (pv 1) (nomark _)))) pss_nil)
      (pss_cons (ps_if (pt_cmpR op_eq (pv 0) pe_str (nomark _)) (pss_one (ps_ret (pe_cmpR op_eq (pe_op op_mod (pv 2) pe_int) pe_int (nomark _)))) pss_nil)
      (pss_one (ps_ret (pe_cmpR op_eq (pv 0) pe_str (nomark _))))))), ?_⟩
    unfold goesUp at q
    walk_at "rd"
    refine ⟨rfl, ?_⟩
    walk_at "rd"
    refine ite2 (fun h => ?_) (fun h1 => ?_)
    · rw [if_pos (str_t h)] at q
      exact q
    rw [if_neg (str_f h1)] at q
    walk_at "rd"
    refine ⟨rfl, ?_⟩
    walk_at "rd"
    refine ite2 (fun h => ?_) (fun h2 => ?_)
    · rw [if_pos (str_t h)] at q
      walk_at "rd"
      exact q
    rw [if_neg (str_f h2)] at q
    walk_at "rd"
    refine ⟨.inl ⟨by decide, by decide⟩, ?_⟩
    walk_at "rd"
    refine ⟨rfl, ?_⟩
    walk_at "rd"
    refine ite2 (fun h => ?_) (fun h3 => ?_)
    · rw [if_neg (int_f (not_t h))] at q
      walk_at "rd"
      refine ⟨.inl ⟨by decide, by decide⟩, ?_⟩
      walk_at "rd"
      exact q
    rw [if_pos (int_t (not_f h3))] at q
    walk_at "rd"
    refine ⟨rfl, ?_⟩
    walk_at "rd"
    refine ite2 (fun h => ?_) (fun h4 => ?_)
    · rw [if_pos (str_t h), ← dec_int] at q
      walk_at "rd"
      refine ⟨(by show (0 : Int) < 2; decide), ?_⟩
      walk_at "rd"
      exact ⟨rfl, q⟩
    · rw [if_neg (str_f h4), ← dec_str] at q
      walk_at "rd"
      exact ⟨rfl, q⟩
theorem ok_figure {f : Addr} {fd : FuncData} (F : Fun K "_figure" "_figure" s_figure f fd) (T : SideT K mg aM)
    (G : Cal P w K mg base "_goes_up" 1 ["mode", "step", "figure", "rest"] spGo fG dG) : FnOk P w K mg base CX0 2 f fd ["side", "value"] spFig := by
  refine F.ok sc_figure (fun vs H Q E h => ?_) (fun cdv A outer s H vs Q E hr h => ?_)
  · obtain ⟨p, o, s, m, v, rfl, _⟩ := h
    rfl
  · obtain ⟨p, o, s, m, v, rfl, hp, S, hv, q⟩ := h
    have nd := sc_figure.nd
    refine ⟨_, pss_cons (ps_asg (pv 0) (pg_tup (by rfl) (pgs_cons (pg_name (i := 2) nd rfl (Or.inl rfl)) (pgs_cons (pg_name (i := 3) nd rfl (Or.inl rfl)) (pgs_cons (pg_name (i := 4) nd rfl (Or.inl rfl)) pgs_nil)))))
      (pss_cons (ps_asg (pe_callB call_divmodW (by rfl) T.dm (by decide +kernel) (pa_cons (pe_op op_sub (pv 1) (pv 2)) (pa_cons (pv 3) pa_nil))) (pg_tup (by rfl) (pgs_cons (pg_name (i := 5) nd rfl (Or.inl rfl)) (pgs_cons (pg_name (i := 6) nd rfl (Or.inl rfl)) pgs_nil))))
      (pss_cons (ps_if (pt_val (pcl G hr (by decide) (by rfl) (pa_cons (pv 4) (pa_cons (pv 3) (pa_cons (pv 5) (pa_cons (pv 6) pa_nil)))))) (pss_one (ps_ret (pe_op op_add (pv 5) pe_int))) pss_nil)
      (pss_one (ps_ret (pv 5))))), ?_⟩
    walk_at "rd"
    refine ⟨p, _, rfl, SqT.of hp, rfl, _, _, rfl, _, _, rfl, _, _, rfl, rfl, ?_⟩
    walk_at "rd"
    refine ⟨_, _, rfl, divp S.s0 ⟨S.o0, S.o1⟩ hv, fun d nd' => ?_⟩
    refine ⟨d, _, rfl, SqT.of upd_same, rfl, _, _, rfl, _, _, rfl, rfl, ?_⟩
    have sm : Same H (upd H d (.tup [.int ((v - o) / s), .int ((v - o) % s)])) := fun b u z => by rw [upd_ne (ne_of_none z nd')]; exact z
    have q' : Q (.int (figM o s m v)) (upd H d (.tup [.int ((v - o) / s), .int ((v - o) % s)])) := q _ sm
    unfold figM at q'
    walk_at "rd"
    refine ⟨_, _, _, _, rfl, ?_⟩
    walk_at "rd"
    refine ite2 (fun h => ?_) (fun h => ?_)
    · rw [if_pos h] at q'
      walk_at "rd"
      exact q'
    · rw [if_neg h] at q'
      walk_at "rd"
      exact q'
theorem ok_written {f : Addr} {fd : FuncData} (F : Fun K "written" "written" s_written f fd) (G : Cal P w K mg base "_figure" 2 ["side", "value"] spFig fF dF) : FnOk P w K mg base CX0 3 f fd ["side", "value"] spDue := by
  refine F.ok sc_written (fun vs H Q E h => ?_) (fun cdv A outer s H vs Q E hr h => ?_)
  · obtain ⟨p, o, s, m, v, rfl, _⟩ := h
    rfl
  · obtain ⟨p, o, s, m, v, rfl, hp, S, hv, q⟩ := h
    have nd := sc_written.nd
    refine ⟨_, pss_cons (ps_asg (pv 0) (pg_tup (by rfl) (pgs_cons (pg_name (i := 2) nd rfl (Or.inl rfl)) (pgs_cons (pg_name (i := 3) nd rfl (Or.inl rfl)) (pgs_cons (pg_name (i := 4) nd rfl (Or.inl rfl)) pgs_nil)))))
      (pss_one (ps_ret (pe_op op_add (pv 2) (pe_op op_mulW (pv 3) (pcl G hr (by decide) (by rfl) (pa_cons (pv 0) (pa_cons (pv 1) pa_nil))))))), ?_⟩
    walk_at "rd"
    refine ⟨p, _, rfl, SqT.of hp, rfl, _, _, rfl, _, _, rfl, _, _, rfl, rfl, ?_⟩
    walk_at "rd"
    refine ⟨p, o, s, m, v, rfl, hp, S, hv, fun H' sm => ?_⟩
    walk_at "rd"
    have b1 := fig_bd S hv
    have b2 := S.s0
    have b3 := S.s1
    refine ⟨mulW (by omega) (by omega), ?_⟩
    walk_at "rd"
    exact q H' sm
end
end HT
namespace HT
open PySem L2
structure Sd where
  o : Int
  s : Int
  m : Str
/-- the list at l holds sides with these parts -/
structure SidesAt (H : Hp) (l : Addr) (xs : List V) (ss : List Sd) : Prop where
  hl : H l = some (.lst xs)
  len : xs.length = ss.length
  l1 : 1 ≤ ss.length
  l4 : ss.length ≤ 4
  at_ : ∀ (i : Nat) (d : Sd), ss[i]? = some d → ∃ p : Addr, xs[i]? = some (V.ref p) ∧ H p = some (sideV d.o d.s d.m) ∧ SideP d.o d.s d.m
theorem SidesAt.good {H : Hp} {l : Addr} {xs : List V} {ss : List Sd} (S : SidesAt H l xs ss) : GoodL H l xs := by
  refine ⟨S.hl, by rw [S.len]; exact S.l1, by rw [S.len]; exact S.l4, fun y hy => ?_⟩
  obtain ⟨i, hi, rfl⟩ := List.mem_iff_getElem.mp hy
  have hi' : i < ss.length := S.len ▸ hi
  obtain ⟨p, e, hp, sp⟩ := S.at_ i ss[i] (List.getElem?_eq_getElem hi')
  rw [List.getElem?_eq_getElem hi] at e
  exact ⟨p, _, _, _, Option.some.inj e, hp, sp⟩
theorem SidesAt.same {H H' : Hp} {l : Addr} {xs : List V} {ss : List Sd} (S : SidesAt H l xs ss) (e : Same H H') : SidesAt H' l xs ss :=
  ⟨e _ _ S.hl, S.len, S.l1, S.l4, fun i d h => let ⟨p, a, b, c⟩ := S.at_ i d h; ⟨p, a, e _ _ b, c⟩⟩
/-- one hand-over more -/
def stepW (ss : List Sd) (a : List Int × Int) (k : Nat) : List Int × Int :=
  match ss[k]? with
  | some d => (a.1 ++ [dueM d.o d.s d.m a.2], dueM d.o d.s d.m a.2)
  | none => (a.1 ++ [a.2], a.2)
def walkW (ss : List Sd) (ks : List Nat) (v : Int) : List Int × Int := ks.foldl (stepW ss) ([], v)
theorem walk_snoc {ss : List Sd} {ks : List Nat} {v : Int} {i k : Nat} (h : ks[i]? = some k) : walkW ss (ks.take (i + 1)) v = stepW ss (walkW ss (ks.take i) v) k := by
  unfold walkW
  rw [List.take_succ, h, List.foldl_append]
  rfl
theorem stepW_len {ss : List Sd} {a : List Int × Int} {k : Nat} : (stepW ss a k).1.length = a.1.length + 1 := by
  unfold stepW
  split <;> simp
def spAlongX (K : PySem.W.Frag) (C : Nat → Addr) : Sp := fun vs H Q E => ∃ x y z : V, vs = [x, y, z] ∧ ((BadL K H x ∧ E (.ref (C 1)) none H) ∨ (∃ l xs ss, x = .ref l ∧ SidesAt H l xs ss ∧
  ((BadN H (ss.length : Int) y ∧ E (.ref (C 2)) none H) ∨ (∃ (kl : Addr) (ks : List Nat), y = .ref kl ∧ H kl = some (.lst (ks.map nV)) ∧ ks.length ≤ 1000 ∧ (∀ k ∈ ks, k < ss.length) ∧
    ((∃ n, Th H z n ∧ isI n = false ∧ E (.ref (C 3)) none H) ∨ (∃ v : Int, z = .int v ∧ (-2 ^ 200 < v ∧ v < 2 ^ 200) ∧ ∀ d H', H d = none → Same H H' → H' d = some (.lst ((walkW ss ks v).1.map V.int)) → Q (.ref d) H'))))))
theorem due_far {o s v b : Int} {m : Str} (S : SideP o s m) (h : -b < v ∧ v < b) : -(b + 10 ^ 30) < dueM o s m v ∧ dueM o s m v < b + 10 ^ 30 := by
  have h1 := due_near (o := o) (v := v) S.md S.s0
  have h2 := S.s1
  omega
section
variable {P : Program} {w : World} {K : PySem.W.Frag} {mg : Str → Option Value} {base : Heap} {aM fI fB fV fC fL fN fW B : Addr} {dI dB dV dC dL dN dW : FuncData} {C : Nat → Addr}
theorem ok_along_x {f : Addr} {fd : FuncData} (F : Fun K "along" "along" s_along f fd) (T : ChkT mg) (Ls : CalX P w K mg base "check_sides" 5 ["sides"] (spSidesX K C) fL dL) (Nm : CalX P w K mg base "_check_numbers" 3 ["numbers", "many"] (spNumX C) fN dN)
    (Vl : CalX P w K mg base "check_value" 2 ["value"] (spValX C) fV dV) (Wr : Cal P w K mg base "written" 3 ["side", "value"] spDue fW dW) : FnOk P w K mg base (L2.CX P w) 6 f fd ["sides", "numbers", "value"] (spAlongX K C) := by
  refine F.okAny sc_along (fun vs H Q E h => ?_) (fun cdv A outer s0 H vs Q E hr h => ?_)
  · obtain ⟨x, y, z, rfl, _⟩ := h
    rfl
  · obtain ⟨x, y, z, rfl, h⟩ := h
    have nd := sc_along.nd
    refine ⟨_, pss_cons (ps_expr (pcx Ls hr (by decide) (by rfl) (takes_of rfl rfl rfl rfl) (pa_cons (pv 0) pa_nil)))
      (pss_cons (ps_expr (pcx Nm hr (by decide) (by rfl) (takes_of rfl rfl rfl rfl) (pa_cons (pv 1) (pa_cons (pe_callB call_len_seq (by rfl) T.len PySem.boot_len (pa_cons (pv 0) pa_nil)) pa_nil))))
      (pss_cons (ps_expr (pcx Vl hr (by decide) (by rfl) (takes_of rfl rfl rfl rfl) (pa_cons (pv 2) pa_nil)))
      (pss_cons (ps_set (i := 3) nd rfl (Or.inl rfl) (pe_lst pa_nil))
      (pss_cons (ps_set (i := 4) nd rfl (Or.inl rfl) (pv 2))
      (pss_cons (ps_for (passes_of rfl) rfl (pi_list (pv 1)) (pg_name (i := 5) nd rfl (Or.inl rfl))
        (pss_cons (ps_set (i := 4) nd rfl (Or.inl rfl) (pcl Wr hr (by decide) (by rfl) (pa_cons (pe_ix ix_list (pv 0) (pv 5) (fun _ _ => rfl)) (pa_cons (pv 4) pa_nil))))
        (pss_one (ps_expr (pe_bm PySem.F.plainAttrs_list PySem.F.slot_list_append PySem.F.type_list_append mt_append (pv 3) (pa_cons (pv 4) pa_nil))))))
      (pss_one (ps_ret (pv 3)))))))), ?_⟩
    walk_at "rd"
    rcases h with ⟨bad, q⟩ | ⟨l, xs, ss, rfl, S, h⟩
    · exact .inr ⟨bad, q⟩
    refine .inl ⟨l, xs, rfl, S.good, ?_⟩
    walk_at "rd"
    refine ⟨l, _, rfl, .inl (SqL.of S.hl), ?_⟩
    refine ⟨y, _, rfl, ?_⟩
    rw [S.len]
    rcases h with ⟨bad, q⟩ | ⟨kl, ks, rfl, hk, kn, kg, h⟩
    · exact .inr ⟨bad, q⟩
    refine .inl ⟨kl, ks, rfl, hk, kn, fun k hk' => by have := kg k hk'; omega, ?_⟩
    walk_at "rd"
    rcases h with ⟨n, t, ni, q⟩ | ⟨v, rfl, vb, q⟩
    · exact ⟨z, n, rfl, t, fun y => absurd y (by rw [ni]; decide), fun _ => q⟩
    refine ⟨.int v, _, rfl, .int v, fun _ => ?_, fun y => absurd y (by decide)⟩
    walk_at "rd"
    refine ⟨by decide, fun d nd' => ?_⟩
    walk_at "rd"
    refine ⟨⟨_, SqL.of ((upd_ne (ne_of_none hk nd')).trans hk)⟩, ?_⟩
    have dk : kl ≠ d := ne_of_none hk nd'
    refine for_list (K := K) (a := kl) (xs := ks.map nV) (fun i σ H' => ∃ (x5 : Option V), σ = [some (.ref l), some (.ref kl), some (.int v), some (.ref d), some (.int (walkW ss (ks.take i) v).2), x5] ∧ H' d = some (.lst ((walkW ss (ks.take i) v).1.map V.int)) ∧ Same H H' ∧ i ≤ ks.length ∧ (walkW ss (ks.take i) v).1.length = i ∧ (-(2 ^ 200 + 10 ^ 30 * (i : Int)) < (walkW ss (ks.take i) v).2 ∧ (walkW ss (ks.take i) v).2 < 2 ^ 200 + 10 ^ 30 * (i : Int)))
      ⟨none, rfl, upd_same, fun b u z => (upd_ne (ne_of_none z nd')).trans z, Nat.zero_le _, rfl, (by show -(2 ^ 200 + 10 ^ 30 * ((0 : Nat) : Int)) < v ∧ v < 2 ^ 200 + 10 ^ 30 * ((0 : Nat) : Int); omega)⟩ (fun _ _ _ _ ⟨_, _, _, sm, _⟩ => SqL.of (sm _ _ hk)) ?_ ?_
    · rintro i y σ H' hy ⟨x5, rfl, hd, sm, hi, hlen, hb⟩
      obtain ⟨k, hkk, rfl⟩ : ∃ k, ks[i]? = some k ∧ y = nV k := by
        rw [List.getElem?_map] at hy
        cases e : ks[i]? with
        | none => rw [e] at hy; cases hy
        | some k => rw [e] at hy; exact ⟨k, rfl, (Option.some.inj hy).symm⟩
      have hi' : i < ks.length := (List.getElem?_eq_some_iff.mp hkk).1
      have kl' := kg k (List.mem_of_getElem? hkk)
      obtain ⟨p, ep, hp, sp⟩ := S.at_ k ss[k] (List.getElem?_eq_getElem kl')
      have en : atI xs ((k : Nat) : Int) = some (.ref p) := by
        unfold atI
        rw [ixN_in (by omega) (by rw [S.len]; omega)]
        exact ep
      have ws : walkW ss (ks.take (i + 1)) v = ((walkW ss (ks.take i) v).1 ++ [dueM ss[k].o ss[k].s ss[k].m (walkW ss (ks.take i) v).2], dueM ss[k].o ss[k].s ss[k].m (walkW ss (ks.take i) v).2) := by
        rw [walk_snoc hkk]
        unfold stepW
        rw [List.getElem?_eq_getElem kl']
      walk_at "rd"
      refine ⟨l, _, _, _, rfl, rfl, SqL.of (sm _ _ S.hl), en, ?_⟩
      walk_at "rd"
      refine ⟨p, ss[k].o, ss[k].s, ss[k].m, _, rfl, sm _ _ hp, sp, (by unfold Bd; omega), fun H2 sm2 => ?_⟩
      walk_at "rd"
      have hd2 := sm2 _ _ hd
      refine ⟨.inl ⟨rfl, _, SqL.of hd2⟩, ?_⟩
      walk_at "rd"
      refine ⟨d, _, _, rfl, rfl, hd2, (by rw [List.length_map, hlen]; exact Nat.lt_of_lt_of_le (by omega : i < 1000) (by decide)), ?_⟩
      have far := due_far (v := (walkW ss (ks.take i) v).2) sp hb
      rw [ws]
      refine ⟨_, rfl, ?_, fun b u z => (upd_ne (ne_of_none z nd')).trans (sm2 _ _ (sm _ _ z)), hi', by rw [List.length_append, hlen]; rfl, ?_⟩
      · rw [List.map_append]; exact upd_same
      · show -(2 ^ 200 + 10 ^ 30 * ((i + 1 : Nat) : Int)) < dueM ss[k].o ss[k].s ss[k].m (walkW ss (ks.take i) v).2 ∧ _ < 2 ^ 200 + 10 ^ 30 * ((i + 1 : Nat) : Int)
        omega
    · rintro σ H' ⟨x5, rfl, hd, sm, hi, hlen, hb⟩
      walk_at "rd"
      rw [List.length_map, List.take_length] at hd
      exact q d H' nd' sm hd
end
end HT
namespace L2
open PySem PySem.Spec PyProof.Rows
/-- xs.count(y) of flat things -/
def rCntV (K : PySem.W.Frag) : V → List V → Hp → VK → Prop := fun x xs H Q => ∃ (p : Addr) (ys : List V) (y : V), x = .ref p ∧ xs = [y] ∧ SqL K H p ys ∧ flatV y = true ∧ ys.all flatV = true ∧ Q (.int (ys.countP (fun z => eqV z y) : Nat)) H
theorem count_eqU {x : V} : ∀ {xs : List V} {us : List Value}, Vals xs us → xs.all flatV = true → us.countP (eqU x) = xs.countP fun y => eqV y x
  | _, _, .nil, _ => rfl
  | y :: xs, u :: us, .cons r t, f => by
    obtain ⟨f1, f2⟩ := Bool.and_eq_true_iff.mp (List.all_cons ▸ f)
    rw [List.countP_cons, List.countP_cons, eqU_of r f1, count_eqU t f2]
theorem mt_cntV {X : Cx} : MtR X "list.count" (rCntV X.K) := by
  intro pins sh st H x xs v us Q iv rx rxs h
  obtain ⟨p, ys, y, rfl, rfl, hs, fy, fys, q⟩ := h
  cases rx
  obtain ⟨u, rfl, ru⟩ := rxs.one
  obtain ⟨its, rv, ⟨⟨cls, dd, data, sl⟩, n, ho, hc, hdn, hd⟩, hlen⟩ := iv.list hs
  dsimp only at hc hd
  subst hc hd
  refine call_meets PySem.F.slot_list_count ⟨_, ho, rfl⟩ PySem.F.entry_list_count (PySem.F.args_list_count_2 _ _) (SeqAt.list_countAt p its.toArray n dd sl u (eqU y)) ⟨ho, fun w hw => mem_eqAt ru fy rv fys w (by simpa using hw), ?_⟩
  refine ⟨.int (ys.countP (fun z => eqV z y) : Nat), H, iv.tok _, ⟨sh.toks, ?_⟩, q⟩
  rw [show its.toArray.toList.countP (eqU y) = ys.countP (fun z => eqV z y) from count_eqU rv fys]
end L2
namespace HT
open PySem L2
/-! ### pick, great, ten, step, side -/
def spPick : Sp := fun vs H Q _ => ∃ (a c : Addr) (t : Nat) (l : Addr) (xs : List V), vs = [.ref a, .ref l] ∧ Src H a c t ∧ t < 2 ^ 30 ∧ H l = some (.lst xs) ∧ l ≠ a ∧ l ≠ c ∧ 0 < xs.length ∧ xs.length < 2 ^ 60 ∧
  ∀ x H', x ∈ xs → Src H' a c (t + 1) → Oth a c H H' → Q x H'
def spGreat : Sp := fun vs H Q _ => ∃ (a c : Addr) (t : Nat) (lim : Int), vs = [.ref a, .int lim] ∧ Src H a c t ∧ 0 < lim ∧ t + 5 < 2 ^ 30 ∧
  ∀ k H', 0 ≤ k → k < lim → Src H' a c (t + 5) → Oth a c H H' → Q (.int k) H'
def spTen : Sp := fun vs H Q _ => ∃ (n : Nat), vs = [.int (n : Int)] ∧ n ≤ 1000 ∧ Q (.int (10 ^ n)) H
def spStep : Sp := fun vs H Q _ => ∃ (a c : Addr) (t : Nat) (mo : Int), vs = [.ref a, .int mo] ∧ Src H a c t ∧ 1 ≤ mo ∧ mo ≤ 10 ^ 30 ∧ t + 20 < 2 ^ 30 ∧
  ∀ s H' t', 1 ≤ s → s ≤ mo → t' ≤ t + 20 → Src H' a c t' → Oth a c H H' → Q (.int s) H'
def spSide : Sp := fun vs H Q _ => ∃ (a c : Addr) (t : Nat) (mo : Int), vs = [.ref a, .int mo] ∧ Src H a c t ∧ 1 ≤ mo ∧ mo ≤ 10 ^ 30 ∧ t + 40 < 2 ^ 30 ∧
  ∀ p o s m H' t', H p = none → H' p = some (sideV o s m) → (1 ≤ s ∧ s ≤ mo ∧ -s ≤ o ∧ o < 2 * s ∧ Mode m) → t' ≤ t + 40 → Src H' a c t' → Oth a c H H' → Q (.ref p) H'
section
variable {P : Program} {w : World} {K : PySem.W.Frag} {mg : Str → Option Value} {base : Heap} {fD fP fG fT fS : Addr} {dD dP dG dT dS : FuncData}
theorem ok_pick {f : Addr} {fd : FuncData} (F : Fun K "_law_pick" "_law_pick" s_L_pick f fd) (B : Blt mg) (D : Cal P w K mg base "_law_draw" 1 ["_law_source_here", "_law_limit"] spDraw fD dD) :
    FnOk P w K mg base CX0 2 f fd ["_law_source_here", "_law_values"] spPick := by
  refine F.ok sc_L_pick (fun vs H Q E h => ?_) (fun cdv A outer s H vs Q E hr h => ?_)
  · obtain ⟨a, c, t, l, xs, rfl, _⟩ := h
    rfl
  · obtain ⟨a, c, t, l, xs, rfl, S, ht, hl, na, nc, h0, h1, q⟩ := h
    refine ⟨_, pss_one (ps_ret (pe_ix ix_list (pv 1) (pcl D hr (by decide) (by rfl) (pa_cons (pv 0) (pa_cons (pe_callB call_len_seq (by rfl) B.len PySem.boot_len (pa_cons (pv 1) pa_nil)) pa_nil))) (fun _ _ => rfl))), ?_⟩
    walk_at "rd"
    refine ⟨l, _, rfl, .inl (SqL.of hl), ?_⟩
    have p1 : (0 : Int) < (xs.length : Int) := by omega
    refine ⟨a, c, t, _, rfl, S, ht, p1, lg_nat (Nat.lt_of_lt_of_le h1 (Nat.pow_le_pow_right (by decide) (by decide))), fun k H' k0 k1 S' O => ?_⟩
    have hl' : k.toNat < xs.length := by omega
    have e : atI xs k = some xs[k.toNat] := by
      unfold atI
      rw [ixN_in k0 k1]
      exact List.getElem?_eq_getElem hl'
    refine ⟨l, _, _, _, rfl, rfl, SqL.of (O _ _ hl na nc), e, ?_⟩
    exact q _ _ (List.getElem_mem hl') S' O
theorem ok_great {f : Addr} {fd : FuncData} (F : Fun K "_law_great" "_law_great" s_L_great f fd) (B : Blt mg) (D : Cal P w K mg base "_law_draw" 1 ["_law_source_here", "_law_limit"] spDraw fD dD) :
    FnOk P w K mg base CX0 2 f fd ["_law_source_here", "_law_limit"] spGreat := by
  refine F.ok sc_L_great (fun vs H Q E h => ?_) (fun cdv A outer s H vs Q E hr h => ?_)
  · obtain ⟨a, c, t, lim, rfl, _⟩ := h
    rfl
  · obtain ⟨a, c, t, lim, rfl, S, hl, ht, q⟩ := h
    have nd := sc_L_great.nd
    refine ⟨_, pss_cons (ps_set (i := 2) nd rfl (Or.inl rfl) pe_int)
      (pss_cons (ps_for PassesOwn.never rfl (pi_range1 (by rfl) B.range (pa_cons pe_int pa_nil)) (pg_name (i := 3) nd rfl (Or.inl rfl))
        (pss_one (ps_set (i := 2) nd rfl (Or.inl rfl) (pe_op op_add (pe_op op_mul (pv 2) (pe_op op_pow pe_int pe_int)) (pcl D hr (by decide) (by rfl) (pa_cons (pv 0) (pa_cons (pe_op op_pow pe_int pe_int) pa_nil)))))))
      (pss_one (ps_ret (pe_op op_mod (pe_callTy call_int1 (by rfl) B.int (by decide +kernel) (pa_cons (pv 2) pa_nil)) (pv 1))))), ?_⟩
    walk_at "rd"
    refine ⟨by decide, by decide, ?_⟩
    refine for_range (n := 5) (fun i σ H' => ∃ (k : Int) (kv : Option V), σ = [some (.ref a), some (.int lim), some (.int k), kv] ∧ Src H' a c (t + i) ∧ Oth a c H H') ⟨0, none, rfl, S, Oth.refl _ _ _⟩ ?_ ?_
    · rintro i σ H' hi ⟨k, kv, rfl, S', O⟩
      walk_at "rd"
      refine ⟨⟨by decide, by decide, by decide⟩, ?_⟩
      walk_at "rd"
      refine ⟨.inr ⟨by decide, by decide⟩, ?_⟩
      walk_at "rd"
      refine ⟨⟨by decide, by decide, by decide⟩, ?_⟩
      refine ⟨a, c, t + i, _, rfl, S', by omega, (by decide), lg_small (by decide) (by decide), fun y H2 y0 y1 S2 O2 => ?_⟩
      walk_at "rd"
      exact ⟨_, _, rfl, S2, O.trans O2⟩
    · rintro σ H' ⟨k, kv, rfl, S', O⟩
      walk_at "rd"
      refine ⟨hl, ?_⟩
      exact q _ _ (Int.emod_nonneg _ (by omega)) (Int.emod_lt_of_pos _ hl) S' O
theorem ok_ten {f : Addr} {fd : FuncData} (F : Fun K "_law_ten" "_law_ten" s_L_ten f fd) (B : Blt mg) : FnOk P w K mg base CX0 1 f fd ["_law_many"] spTen := by
  refine F.ok sc_L_ten (fun vs H Q E h => ?_) (fun cdv A outer s H vs Q E hr h => ?_)
  · obtain ⟨n, rfl, _⟩ := h
    rfl
  · obtain ⟨n, rfl, hn, q⟩ := h
    have nd := sc_L_ten.nd
    refine ⟨_, pss_cons (ps_set (i := 1) nd rfl (Or.inl rfl) pe_int)
      (pss_cons (ps_for PassesOwn.never rfl (pi_range1 (by rfl) B.range (pa_cons (pv 0) pa_nil)) (pg_name (i := 2) nd rfl (Or.inl rfl))
        (pss_one (ps_set (i := 1) nd rfl (Or.inl rfl) (pe_op op_mul (pv 1) pe_int))))
      (pss_one (ps_ret (pv 1)))), ?_⟩
    walk_at "rd"
    refine ⟨by omega, by omega, ?_⟩
    rw [Int.toNat_natCast]
    refine for_range (fun i σ H' => ∃ (kv : Option V), σ = [some (.int (n : Int)), some (.int (10 ^ i)), kv] ∧ H' = H) ⟨none, rfl, rfl⟩ ?_ ?_
    · rintro i σ H' hi ⟨kv, rfl, rfl⟩
      walk_at "rd"
      refine ⟨.inr ⟨by decide, by decide⟩, ?_⟩
      exact ⟨_, rfl, rfl⟩
    · rintro σ H' ⟨kv, rfl, rfl⟩
      walk_at "rd"
      exact q
theorem mode_of {x : V} (h : x ∈ [V.str "down", .str "up", .str "half_down", .str "half_up", .str "half_even"]) : ∃ m : Str, x = .str m ∧ Mode m := by
  simp only [List.mem_cons, List.not_mem_nil, or_false] at h
  rcases h with h | h | h | h | h
  · exact ⟨_, h, .inl rfl⟩
  · exact ⟨_, h, .inr (.inl rfl)⟩
  · exact ⟨_, h, .inr (.inr (.inl rfl))⟩
  · exact ⟨_, h, .inr (.inr (.inr (.inl rfl)))⟩
  · exact ⟨_, h, .inr (.inr (.inr (.inr rfl)))⟩
end
end HT
namespace HT
open PySem L2
def kS (x : Str) : Key := Sum.inr x
def five (a b c d e : V) : List (Key × V) := putK (mergeK [] [(kS "down", a), (kS "up", b), (kS "half_down", c), (kS "half_up", d)]) (kS "half_even") e
theorem five_d {a b c d e : V} : valV (five a b c d e) (kS "down") = some a := by rfl
theorem five_u {a b c d e : V} : valV (five a b c d e) (kS "up") = some b := by rfl
theorem five_hd {a b c d e : V} : valV (five a b c d e) (kS "half_down") = some c := by rfl
theorem five_hu {a b c d e : V} : valV (five a b c d e) (kS "half_up") = some d := by rfl
theorem five_he {a b c d e : V} : valV (five a b c d e) (kS "half_even") = some e := by rfl
theorem five_at {f : Str → V} {m : Str} (hm : Mode m) : valV (five (f "down") (f "up") (f "half_down") (f "half_up") (f "half_even")) (kS m) = some (f m) := by
  rcases hm with e | e | e | e | e <;> subst e
  · exact five_d
  · exact five_u
  · exact five_hd
  · exact five_hu
  · exact five_he
theorem cgt (a b : Int) : decide (a > b) = decide (b < a) := rfl
theorem cge (a b : Int) : decide (a ≥ b) = decide (b ≤ a) := rfl
theorem due_fig {o s v : Int} {m : Str} : dueM o s m v = o + s * ((v - o) / s + if goesUp m s ((v - o) / s) ((v - o) % s) = true then 1 else 0) := by
  unfold dueM figM
  split
  · rfl
  · rw [Int.add_zero]
section
variable {P : Program} {w : World} {K : PySem.W.Frag} {mg : Str → Option Value} {base : Heap} {fD fP fG fT fS fE : Addr} {dD dP dG dT dS dE : FuncData}
theorem ok_L_written {f : Addr} {fd : FuncData} (F : Fun K "_law_written" "_law_written" s_L_written f fd) (B : Blt mg) : FnOk P w K mg base CX0 1 f fd ["_law_side_here", "_law_value"] spDue := by
  refine F.ok sc_L_written (fun vs H Q E h => ?_) (fun cdv A outer s H vs Q E hr h => ?_)
  · obtain ⟨p, o, s, m, v, rfl, _⟩ := h
    rfl
  · obtain ⟨p, o, s, m, v, rfl, hp, S, hv, q⟩ := h
    have nd := sc_L_written.nd
    have hu := hu_of hr
    refine ⟨_, (pss_cons (ps_asg (pv 0) (pg_tup (by rfl) (pgs_cons (pg_name (i := 2) nd rfl (Or.inl rfl)) (pgs_cons (pg_name (i := 3) nd rfl (Or.inl rfl)) (pgs_cons (pg_name (i := 4) nd rfl (Or.inl rfl)) pgs_nil)))))
      (pss_cons (ps_set (i := 5) nd rfl (Or.inl rfl) (pe_op op_fdivW (pe_op op_sub (pv 1) (pv 2)) (pv 3)))
      (pss_cons (ps_set (i := 6) nd rfl (Or.inl rfl) (pe_op op_mod (pe_callTy call_int1 (by rfl) B.int (by decide +kernel) (pa_cons (pe_op op_sub (pv 1) (pv 2)) pa_nil)) (pv 3)))
      (pss_cons (ps_set (i := 7) nd rfl (Or.inl rfl) (pe_disp (pps_cons pe_str pe_bl (pps_cons pe_str (pe_cmpR op_gt (pv 6) pe_int (nomark _)) (pps_cons pe_str (pe_cmpR op_gt (pe_op op_mul pe_int (pv 6)) (pv 3) (nomark _)) (pps_cons pe_str (pe_cmpR op_ge (pe_op op_mul pe_int (pv 6)) (pv 3) (nomark _)) pps_nil)))) (by rfl) (by rfl) (fun z => by cases z) (by decide)))
      (pss_cons (ps_dput hu (pv 7) pe_str (pe_or (pe_cmpR op_gt (pe_op op_mul pe_int (pv 6)) (pv 3) (nomark _)) (pe_one (pe_and (pe_cmpR op_eq (pe_op op_mul pe_int (pv 6)) (pv 3) (nomark _)) (pe_one (pe_cmpR op_eq (pe_op op_mod (pe_callTy call_int1 (by rfl) B.int (by decide +kernel) (pa_cons (pv 5) pa_nil)) pe_int) pe_int (nomark _)))))) rfl)
      (pss_one (ps_ret (pe_op op_add (pv 2) (pe_op op_mulW (pv 3) (pe_op op_add (pv 5) (pe_callTy call_int1 (by rfl) B.int (by decide +kernel) (pa_cons (pe_dget hu (pv 7) (pv 4) (fun _ _ => rfl)) pa_nil)))))))))))), ?_⟩
    have b0 := S.s0
    have b1 := S.s1
    have b2 := S.o0
    have b3 := S.o1
    have b4 := hv.1
    have b5 := hv.2
    have fb := fig_bd S hv
    have d5 := div_bd (x := v - o) (b := 2 ^ 1001) S.s0 (by omega) (by omega)
    have r0 := Int.emod_nonneg (v - o) (show s ≠ 0 by omega)
    have r1 := Int.emod_lt_of_pos (v - o) (show 0 < s by omega)
    walk_at "rd"
    refine ⟨p, _, rfl, SqT.of hp, rfl, _, _, rfl, _, _, rfl, _, _, rfl, rfl, ?_⟩
    walk_at "rd"
    refine ⟨fdiv_ok _ (by omega) (lg_big (by omega) (by omega)), ?_⟩
    walk_at "rd"
    refine ⟨by omega, ?_⟩
    intro d nd'
    walk_at "rd"
    refine ⟨.inl ⟨by decide, by decide⟩, ?_⟩
    walk_at "rd"
    refine ⟨.inl ⟨by decide, by decide⟩, ?_⟩
    walk_at "rd"
    refine ⟨upd_same, [(kS "down", .bl false), (kS "up", .bl (decide ((v - o) % s > 0))), (kS "half_down", .bl (decide (2 * ((v - o) % s) > s))), (kS "half_up", .bl (decide (2 * ((v - o) % s) ≥ s)))], rfl, (by show 4 ≤ 15; decide), ?_⟩
    have lk : ∀ b : Bool, b = goesUp "half_even" s ((v - o) / s) ((v - o) % s) → valV (five (.bl false) (.bl (decide ((v - o) % s > 0))) (.bl (decide (2 * ((v - o) % s) > s))) (.bl (decide (2 * ((v - o) % s) ≥ s))) (.bl b)) (kS m) = some (V.bl (goesUp m s ((v - o) / s) ((v - o) % s))) := fun b hb => by
      have := five_at (f := fun m => V.bl (goesUp m s ((v - o) / s) ((v - o) % s))) S.md
      simp only [go_down, go_up, go_hd, go_hu] at this
      rw [hb]
      exact this
    have q' : ∀ H', Same H H' → Q (.int (o + s * ((v - o) / s + if goesUp m s ((v - o) / s) ((v - o) % s) = true then 1 else 0))) H' := fun H' sm => by rw [← due_fig]; exact q H' sm
    have ge := go_he s ((v - o) / s) ((v - o) % s)
    walk_at "rd"
    refine ⟨.inl ⟨by decide, by decide⟩, ?_⟩
    walk_at "rd"
    refine ite2 (fun h => ?_) (fun h => ?_)
    · have h' := of_decide_eq_true h
      walk_at "rd"
      refine ⟨d, _, rfl, DPut.k (k := kS "half_even") upd_same (by show 4 < sizeLine; decide), ?_⟩
      walk_at "rd"
      refine ⟨d, _, rfl, (lk _ (by rw [ge, decide_eq_true (by omega : s < 2 * ((v - o) % s)), Bool.true_or])) ▸ DGet.k (k := kS m) upd_same, .inr ⟨_, rfl, ?_⟩⟩
      walk_at "rd"
      refine ⟨mulW (by omega) (by split <;> omega), ?_⟩
      walk_at "rd"
      exact q' _ fun b u z => by rw [upd_ne (ne_of_none z nd'), upd_ne (ne_of_none z nd'), upd_ne (ne_of_none z nd')]; exact z
    have h' : ¬ s < 2 * ((v - o) % s) := fun z => h (decide_eq_true z)
    walk_at "rd"
    refine ⟨.inl ⟨by decide, by decide⟩, ?_⟩
    walk_at "rd"
    refine ⟨rfl, ?_⟩
    walk_at "rd"
    refine ite2 (fun c => ?_) (fun c => ?_)
    · have c' := int_t c
      walk_at "rd"
      refine ⟨(by show (0 : Int) < 2; decide), ?_⟩
      walk_at "rd"
      refine ⟨rfl, ?_⟩
      walk_at "rd"
      refine ⟨d, _, rfl, DPut.k (k := kS "half_even") upd_same (by show 4 < sizeLine; decide), ?_⟩
      walk_at "rd"
      refine ⟨d, _, rfl, (lk (decide (V.int ((v - o) / s % 2) = V.int 1)) (by rw [ge, decide_eq_false h', decide_eq_true c', dec_int, Bool.true_and, Bool.false_or])) ▸ DGet.k (k := kS m) upd_same, .inr ⟨_, rfl, ?_⟩⟩
      walk_at "rd"
      refine ⟨mulW (by omega) (by split <;> omega), ?_⟩
      walk_at "rd"
      exact q' _ fun b u z => by rw [upd_ne (ne_of_none z nd'), upd_ne (ne_of_none z nd'), upd_ne (ne_of_none z nd')]; exact z
    · have c' := int_f c
      walk_at "rd"
      refine ⟨d, _, rfl, DPut.k (k := kS "half_even") upd_same (by show 4 < sizeLine; decide), ?_⟩
      walk_at "rd"
      refine ⟨d, _, rfl, (lk _ (by rw [ge, decide_eq_false h', decide_eq_false c', Bool.false_and, Bool.or_false])) ▸ DGet.k (k := kS m) upd_same, .inr ⟨_, rfl, ?_⟩⟩
      walk_at "rd"
      refine ⟨mulW (by omega) (by split <;> omega), ?_⟩
      walk_at "rd"
      exact q' _ fun b u z => by rw [upd_ne (ne_of_none z nd'), upd_ne (ne_of_none z nd'), upd_ne (ne_of_none z nd')]; exact z
end
end HT
namespace HT
open PySem L2
theorem pow10_le {n k : Nat} (h : n ≤ k) : (10 : Int) ^ n ≤ 10 ^ k := by
  have z := Nat.pow_le_pow_right (show 0 < 10 by decide) h
  have e : ∀ j : Nat, ((10 ^ j : Nat) : Int) = (10 : Int) ^ j := fun j => Int.natCast_pow 10 j
  rw [← e, ← e]
  omega
structure MaxT (mg : Str → Option Value) : Prop where
  max : mg "max" = none
  min : mg "min" = none
theorem joint_of {x : V} (h : x ∈ [V.int 1, .int 2, .int 6, .int ((10 : Int) ^ (9 : Int).toNat), .int 360, .int ((2 : Int) ^ (40 : Int).toNat), .int ((10 : Int) ^ (9 : Int).toNat + 7), .int ((10 : Int) ^ (15 : Int).toNat), .int ((3 : Int) ^ (20 : Int).toNat)]) : ∃ j : Int, x = .int j ∧ 1 ≤ j ∧ j ≤ 10 ^ 15 := by
  simp only [List.mem_cons, List.not_mem_nil, or_false] at h
  rcases h with h | h | h | h | h | h | h | h | h <;> exact ⟨_, h, by decide, by decide⟩
theorem sq_bound {a b : Int} (a0 : 1 ≤ a) (b0 : 1 ≤ b) : 1 ≤ a * b := Int.mul_pos a0 b0
section
variable {P : Program} {w : World} {K : PySem.W.Frag} {mg : Str → Option Value} {base : Heap} {fD fP fG fT fS fE fI fW : Addr} {dD dP dG dT dS dE dI dW : FuncData}
theorem ok_step {f : Addr} {fd : FuncData} (F : Fun K "_law_step" "_law_step" s_L_step f fd) (B : Blt mg) (MT : MaxT mg) (D : Cal P w K mg base "_law_draw" 1 ["_law_source_here", "_law_limit"] spDraw fD dD)
    (Pk : Cal P w K mg base "_law_pick" 2 ["_law_source_here", "_law_values"] spPick fP dP) (G : Cal P w K mg base "_law_great" 2 ["_law_source_here", "_law_limit"] spGreat fG dG) (Tn : Cal P w K mg base "_law_ten" 1 ["_law_many"] spTen fT dT) : FnOk P w K mg base CX0 3 f fd ["_law_source_here", "_law_most"] spStep := by
  refine F.ok sc_L_step (fun vs H Q E h => ?_) (fun cdv A outer s H vs Q E hr h => ?_)
  · obtain ⟨a, c, t, mo, rfl, _⟩ := h
    rfl
  · obtain ⟨a, c, t, mo, rfl, S, m0, m1, ht, q⟩ := h
    have nd := sc_L_step.nd
    refine ⟨_, (pss_cons (ps_if (pt_cmpR op_lt (pv 1) pe_int (nomark _)) (pss_one (ps_ret (pe_op op_add pe_int (pcl D hr (by decide) (by rfl) (pa_cons (pv 0) (pa_cons (pv 1) pa_nil)))))) pss_nil)
      (pss_cons (ps_set (i := 2) nd rfl (Or.inl rfl) (pcl Pk hr (by decide) (by rfl) (pa_cons (pv 0) (pa_cons (pe_lst (pa_cons pe_int (pa_cons pe_int (pa_cons pe_int (pa_cons (pe_op op_pow pe_int pe_int) (pa_cons pe_int (pa_cons (pe_op op_pow pe_int pe_int) (pa_cons (pe_op op_add (pe_op op_pow pe_int pe_int) pe_int) (pa_cons (pe_op op_pow pe_int pe_int) (pa_cons (pe_op op_pow pe_int pe_int) pa_nil)))))))))) pa_nil))))
      (pss_one (ps_ret (pe_callB (call_min2 rfl) (by rfl) MT.min (by decide +kernel) (pa_cons (pv 1) (pa_cons (pe_op op_mulW (pv 2) (pe_op op_add pe_int (pcl G hr (by decide) (by rfl) (pa_cons (pv 0) (pa_cons (pcl Tn hr (by decide) (by rfl) (pa_cons (pe_op op_add pe_int (pcl D hr (by decide) (by rfl) (pa_cons (pv 0) (pa_cons pe_int pa_nil)))) pa_nil)) pa_nil))))) pa_nil))))))), ?_⟩
    walk_at "rd"
    refine ite2 (fun h => ?_) (fun h => ?_)
    · have h' := of_decide_eq_true h
      walk_at "rd"
      refine ⟨a, c, t, mo, rfl, S, by omega, by omega, lg_small (by omega) (by omega), fun k H1 k0 k1 S1 O1 => ?_⟩
      walk_at "rd"
      exact q _ _ _ (by omega) (by omega) (by omega) S1 O1
    walk_at "rd"
    refine ⟨⟨by decide, by decide, by decide⟩, ?_⟩
    walk_at "rd"
    refine ⟨⟨by decide, by decide, by decide⟩, ?_⟩
    walk_at "rd"
    refine ⟨⟨by decide, by decide, by decide⟩, ?_⟩
    walk_at "rd"
    refine ⟨⟨by decide, by decide, by decide⟩, ?_⟩
    walk_at "rd"
    refine ⟨⟨by decide, by decide, by decide⟩, ?_⟩
    refine ⟨(by show 9 ≤ sizeLine; decide), fun l nl => ?_⟩
    obtain ⟨la, lc⟩ := S.na nl
    refine ⟨a, c, t, l, _, rfl, S.new nl, by omega, upd_same, la, lc, by decide, by decide, fun x H1 hx S1 O1 => ?_⟩
    obtain ⟨j, rfl, j0, j1⟩ := joint_of hx
    have O1' : Oth a c H H1 := ((Oth.refl a c H).new nl).trans O1
    walk_at "rd"
    refine ⟨a, c, _, 22, rfl, S1, by omega, by decide, lg_small (by decide) (by decide), fun k H2 k0 k1 S2 O2 => ?_⟩
    walk_at "rd"
    refine ⟨(1 + k).toNat, (by show [V.int (1 + k)] = [V.int _]; rw [Int.toNat_of_nonneg (by omega)]), by omega, ?_⟩
    have tp : (1 : Int) ≤ 10 ^ (1 + k).toNat := Int.pow_pos (by decide)
    have tb : (10 : Int) ^ (1 + k).toNat ≤ 10 ^ 22 := pow10_le (by omega)
    refine ⟨a, c, _, _, rfl, S2, by omega, by omega, fun g H3 g0 g1 S3 O3 => ?_⟩
    walk_at "rd"
    refine ⟨mulW (by omega) (by omega), ?_⟩
    refine ⟨_, _, rfl, ?_⟩
    have p1 := sq_bound (a := j) (b := 1 + g) j0 (by omega)
    have fin : ∀ z : Int, 1 ≤ z → z ≤ mo → Q (.int z) H3 := fun z z0 z1 => q z H3 _ z0 z1 (by omega) S3 ((O1'.trans O2).trans O3)
    refine fin _ ?_ ?_
    · split <;> omega
    · split <;> omega
theorem ok_side {f : Addr} {fd : FuncData} (F : Fun K "_law_side" "_law_side" s_L_side f fd) (B : Blt mg) (St : Cal P w K mg base "_law_step" 3 ["_law_source_here", "_law_most"] spStep fS dS)
    (Pk : Cal P w K mg base "_law_pick" 2 ["_law_source_here", "_law_values"] spPick fP dP) (G : Cal P w K mg base "_law_great" 2 ["_law_source_here", "_law_limit"] spGreat fG dG) : FnOk P w K mg base CX0 4 f fd ["_law_source_here", "_law_most"] spSide := by
  refine F.ok sc_L_side (fun vs H Q E h => ?_) (fun cdv A outer s H vs Q E hr h => ?_)
  · obtain ⟨a, c, t, mo, rfl, _⟩ := h
    rfl
  · obtain ⟨a, c, t, mo, rfl, S, m0, m1, ht, q⟩ := h
    have nd := sc_L_side.nd
    refine ⟨_, (pss_cons (ps_set (i := 2) nd rfl (Or.inl rfl) (pcl St hr (by decide) (by rfl) (pa_cons (pv 0) (pa_cons (pv 1) pa_nil))))
      (pss_cons (ps_set (i := 3) nd rfl (Or.inl rfl) (pe_op op_sub (pcl G hr (by decide) (by rfl) (pa_cons (pv 0) (pa_cons (pe_op op_mul pe_int (pv 2)) pa_nil))) (pv 2)))
      (pss_one (ps_ret (pe_tup (pa_cons (pv 3) (pa_cons (pv 2) (pa_cons (pcl Pk hr (by decide) (by rfl) (pa_cons (pv 0) (pa_cons (pe_lst (pa_cons pe_str (pa_cons pe_str (pa_cons pe_str (pa_cons pe_str (pa_cons pe_str pa_nil)))))) pa_nil))) pa_nil)))))))), ?_⟩
    walk_at "rd"
    refine ⟨a, c, t, mo, rfl, S, m0, m1, by omega, fun s H1 t1 s0 s1 ht1 S1 O1 => ?_⟩
    walk_at "rd"
    refine ⟨.inl ⟨by decide, by decide⟩, ?_⟩
    refine ⟨a, c, t1, 3 * s, rfl, S1, by omega, by omega, fun g H2 g0 g1 S2 O2 => ?_⟩
    walk_at "rd"
    refine ⟨(by show 5 ≤ sizeLine; decide), fun l nl => ?_⟩
    obtain ⟨la, lc⟩ := S2.na nl
    refine ⟨a, c, _, l, _, rfl, S2.new nl, by omega, upd_same, la, lc, by decide, by decide, fun x H3 hx S3 O3 => ?_⟩
    obtain ⟨m, rfl, hm⟩ := mode_of hx
    refine ⟨(by show 3 ≤ sizeLine; decide), fun d nd' => ?_⟩
    have O4 : Oth a c H H3 := (O1.trans O2).trans (((Oth.refl a c H2).new nl).trans O3)
    have hdn : H d = none := by
      cases e : H d with
      | none => rfl
      | some u =>
        by_cases da : d = a
        · subst da; rw [S3.ob] at nd'; cases nd'
        · by_cases dc : d = c
          · obtain ⟨cs, hcs, _⟩ := S3.cl
            subst dc; rw [hcs] at nd'; cases nd'
          · rw [O4 _ _ e da dc] at nd'; cases nd'
    exact q d _ s m _ _ hdn upd_same ⟨s0, s1, by omega, by omega, hm⟩ (by omega) (S3.new nd') (O4.new nd')
end
end HT
namespace HT
open PySem L2
/-- what a call by a door comes to: the word for it -/
inductive Word (K : PySem.W.Frag) (H : Hp) (dr : Nat) (x y z : V) : Str → Prop where
  | sides (bad : BadL K H x) : Word K H dr x y z "sides"
  | nums {l : Addr} {xs : List V} {ss : List Sd} (e : x = .ref l) (S : SidesAt H l xs ss) (d0 : dr = 0) (bad : BadN H (ss.length : Int) y) : Word K H dr x y z "numbers"
  | val0 {l kl : Addr} {xs : List V} {ss : List Sd} {ks : List Nat} {n : String} (e : x = .ref l) (S : SidesAt H l xs ss) (d0 : dr = 0) (ey : y = .ref kl) (hk : H kl = some (.lst (ks.map nV))) (kn : ks.length ≤ 1000) (kg : ∀ k ∈ ks, k < ss.length) (t : Th H z n) (ni : isI n = false) : Word K H dr x y z "value"
  | val {l : Addr} {xs : List V} {n : String} (e : x = .ref l) (S : GoodL H l xs) (d0 : ¬ dr = 0) (t : Th H z n) (ni : isI n = false) : Word K H dr x y z "value"
  | good {l kl : Addr} {xs : List V} {ss : List Sd} {ks : List Nat} {v : Int} (e : x = .ref l) (S : SidesAt H l xs ss) (d0 : dr = 0) (ey : y = .ref kl) (hk : H kl = some (.lst (ks.map nV))) (kn : ks.length ≤ 1000) (kg : ∀ k ∈ ks, k < ss.length) (ez : z = .int v) (vb : -2 ^ 200 < v ∧ v < 2 ^ 200) : Word K H dr x y z "good"
def spWord (K : PySem.W.Frag) : Sp := fun vs H Q _ => ∃ (dr : Nat) (x y z : V) (r : Str), vs = [.int (dr : Int), x, y, z] ∧ dr < 4 ∧ Word K H dr x y z r ∧ ∀ H', Same H H' → Q (.str r) H'
section
variable {P : Program} {w : World} {K : PySem.W.Frag} {mg : Str → Option Value} {base : Heap} {aM fA fB fR B : Addr} {dA dB dR : FuncData} {C : Nat → Addr}
theorem ok_word {f : Addr} {fd : FuncData} (F : Fun K "_law_word" "_law_word" s_L_word f fd) (R : Er K mg C B) (Al : CalX P w K mg base "along" 6 ["sides", "numbers", "value"] (spAlongX K C) fA dA) (Be : CalX P w K mg base "before" 6 ["sides", "value"] (spBefX K C) fB dB) (Ro : CalX P w K mg base "route" 6 ["sides", "start", "value"] (spRouX K C) fR dR) : FnOk P w K mg base CX0 7 f fd ["_law_door", "_law_sides", "_law_numbers", "_law_value"] (spWord K) := by
  refine F.ok sc_L_word (fun vs H Q E h => ?_) (fun cdv A outer s0 H vs Q E hr h => ?_)
  · obtain ⟨dr, x, y, z, r, rfl, _⟩ := h
    rfl
  · obtain ⟨dr, x, y, z, r, rfl, hd, wd, q⟩ := h
    have nd := sc_L_word.nd
    refine ⟨_, pss_cons (ps_set (i := 4) nd rfl (Or.inl rfl) pe_non)
      (pss_cons (ps_try_keep (i := 5) rfl rfl rfl nd rfl rfl ⟨rfl, by decide, .inl R.gB⟩ takes0 (fun W pn xe tk _ => pss_one (ps_if (pt_cmpR op_eq (pv 0) pe_int (nomark _)) (pss_one (ps_expr (pcx Al hr (by decide) (by rfl) tk (pa_cons (pv 1) (pa_cons (pv 2) (pa_cons (pv 3) pa_nil))))))
          (pss_one (ps_if (pt_cmpR op_eq (pv 0) pe_int (nomark _)) (pss_one (ps_expr (pcx Be hr (by decide) (by rfl) tk (pa_cons (pv 1) (pa_cons (pv 3) pa_nil)))))
          (pss_one (ps_if (pt_cmpR op_eq (pv 0) pe_int (nomark _)) (pss_one (ps_expr (pcx Ro hr (by decide) (by rfl) tk (pa_cons (pv 1) (pa_cons (pv 3) (pa_cons pe_int pa_nil)))))) (pss_one (ps_expr (pcx Ro hr (by decide) (by rfl) tk (pa_cons (pv 1) (pa_cons pe_int (pa_cons (pv 3) pa_nil))))))))))))
        (fun a rc kl dd pn hz hf => pss_one (ps_set (i := 4) nd rfl (Or.inl rfl) (pv 5))))
      (pss_cons (ps_if (pt_cmpR op_isN (pv 4) pe_non (nomark _)) (pss_one (ps_ret pe_str)) pss_nil)
      (pss_cons (ps_set (i := 6) nd rfl (Or.inl rfl) (pe_lst (pa_cons (pe_callB call_isKept (by rfl) R.isi (by decide +kernel) (pa_cons (pv 4) (pa_cons (pe_glob (v := .ref (C 1)) (by rfl) R.g1 rfl) pa_nil))) (pa_cons (pe_callB call_isKept (by rfl) R.isi (by decide +kernel) (pa_cons (pv 4) (pa_cons (pe_glob (v := .ref (C 2)) (by rfl) R.g2 rfl) pa_nil))) (pa_cons (pe_callB call_isKept (by rfl) R.isi (by decide +kernel) (pa_cons (pv 4) (pa_cons (pe_glob (v := .ref (C 3)) (by rfl) R.g3 rfl) pa_nil))) pa_nil)))))
      (pss_cons (ps_set (i := 6) nd rfl (Or.inl rfl) (pe_op op_cat (pv 6) (pe_lst (pa_cons (pe_callB call_isKept (by rfl) R.isi (by decide +kernel) (pa_cons (pv 4) (pa_cons (pe_glob (v := .ref (C 0)) (by rfl) R.g0 rfl) pa_nil))) (pa_cons (pe_callB call_isKept (by rfl) R.isi (by decide +kernel) (pa_cons (pv 4) (pa_cons (pe_glob (v := .ref (C 4)) (by rfl) R.g4 rfl) pa_nil))) pa_nil)))))
      (pss_cons (ps_if (PW.pt (pw_or (pt_cmpR op_ne (pe_bm PySem.F.plainAttrs_list PySem.F.slot_list_count PySem.F.type_list_count mt_cntV (pv 6) (pa_cons pe_bl pa_nil)) pe_int (nomark _)) (pw_or1 (pt_not (pt_val (pe_callB call_isKept (by rfl) R.isi (by decide +kernel) (pa_cons (pv 4) (pa_cons (pe_bltn (v := .ty "ValueError") (by rfl) R.ve (by decide +kernel) rfl) pa_nil)))))))) (pss_one (ps_ret pe_str)) pss_nil)
      (pss_one (ps_ret (pe_ix ix_list (pe_lst (pa_cons pe_str (pa_cons pe_str (pa_cons pe_str (pa_cons pe_str (pa_cons pe_str pa_nil)))))) (pe_bm PySem.F.plainAttrs_list PySem.F.slot_list_index PySem.F.type_list_index mt_index (pv 6) (pa_cons pe_bl pa_nil)) (fun _ _ => rfl))))))))), ?_⟩
    walk_at "rd"
    rcases (by omega : dr = 0 ∨ dr = 1 ∨ dr = 2 ∨ dr = 3) with rfl | rfl | rfl | rfl
    · cases wd with
      | sides bad =>
        refine ⟨rfl, ?_⟩
        walk_at "rd"
        refine ⟨_, _, _, rfl, .inl ⟨bad, ?_⟩⟩
        refine ⟨true, R.emB 1 (by decide), fun _ => ⟨rfl, fun a ha => ?_⟩, fun z => Bool.noConfusion z⟩
        walk_at "rd"
        refine ⟨rfl, ?_⟩
        walk_at "rd"
        refine ⟨a, C 1, _, .ref (C 1), decide (1 = 1), rfl, .own _, upd_same, R.ec 1 (by decide), R.eg, R.kit 1 1 (by decide) (by decide), ?_⟩
        walk_at "rd"
        refine ⟨a, C 1, _, .ref (C 2), decide (1 = 2), rfl, .own _, upd_same, R.ec 1 (by decide), R.eg, R.kit 1 2 (by decide) (by decide), ?_⟩
        walk_at "rd"
        refine ⟨a, C 1, _, .ref (C 3), decide (1 = 3), rfl, .own _, upd_same, R.ec 1 (by decide), R.eg, R.kit 1 3 (by decide) (by decide), ?_⟩
        walk_at "rd"
        refine ⟨(by show 3 ≤ sizeLine; decide), fun l1 nl1 => ?_⟩
        have ea1 := (upd_ne (o := .lst [V.bl (decide (1 = 1)), .bl (decide (1 = 2)), .bl (decide (1 = 3))]) (ne_of_none upd_same nl1)).trans (upd_same (H := H) (a := a) (o := ExK (.ref (C 1)) a))
        walk_at "rd"
        refine ⟨a, C 1, _, .ref (C 0), decide (1 = 0), rfl, .own _, ea1, R.ec 1 (by decide), R.eg, R.kit 1 0 (by decide) (by decide), ?_⟩
        walk_at "rd"
        refine ⟨a, C 1, _, .ref (C 4), decide (1 = 4), rfl, .own _, ea1, R.ec 1 (by decide), R.eg, R.kit 1 4 (by decide) (by decide), ?_⟩
        walk_at "rd"
        refine ⟨(by show 2 ≤ sizeLine; decide), fun l2 nl2 => ?_⟩
        have ea2 := (upd_ne (o := .lst [V.bl (decide (1 = 0)), .bl (decide (1 = 4))]) (ne_of_none ea1 nl2)).trans ea1
        refine ⟨l1, l2, _, _, rfl, rfl, (upd_ne (ne_of_none upd_same nl2)).trans upd_same, upd_same, by decide, fun l3 nl3 => ?_⟩
        have ea3 := (upd_ne (o := .lst ([V.bl (decide (1 = 1)), .bl (decide (1 = 2)), .bl (decide (1 = 3))] ++ [V.bl (decide (1 = 0)), .bl (decide (1 = 4))])) (ne_of_none ea2 nl3)).trans ea2
        walk_at "rd"
        refine ⟨.inl ⟨rfl, _, SqL.of upd_same⟩, ?_⟩
        walk_at "rd"
        refine ⟨l3, _, .bl true, rfl, rfl, SqL.of upd_same, rfl, rfl, ?_⟩
        walk_at "rd"
        refine ⟨rfl, ?_⟩
        walk_at "rd"
        refine ⟨a, C 1, _, .type "ValueError", true, rfl, .ty _, ea3, R.ec 1 (by decide), R.eg, R.kitV 1 (by decide), ?_⟩
        walk_at "rd"
        refine ⟨(by show 5 ≤ sizeLine; decide), fun l4 nl4 => ?_⟩
        have ea4 : ∀ b u, H b = some u → upd (upd (upd (upd (upd H a (ExK (.ref (C 1)) a)) l1 (.lst [V.bl (decide (1 = 1)), .bl (decide (1 = 2)), .bl (decide (1 = 3))])) l2 (.lst [V.bl (decide (1 = 0)), .bl (decide (1 = 4))])) l3 (.lst ([V.bl (decide (1 = 1)), .bl (decide (1 = 2)), .bl (decide (1 = 3))] ++ [V.bl (decide (1 = 0)), .bl (decide (1 = 4))]))) l4 (.lst [.str "sides", .str "numbers", .str "value", .str "side", .str "number"]) b = some u := fun b u e0 => by
          have e1 := (upd_ne (o := ExK (.ref (C 1)) a) (ne_of_none e0 ha)).trans e0
          have e2 := (upd_ne (o := .lst [V.bl (decide (1 = 1)), .bl (decide (1 = 2)), .bl (decide (1 = 3))]) (ne_of_none e1 nl1)).trans e1
          have e3 := (upd_ne (o := .lst [V.bl (decide (1 = 0)), .bl (decide (1 = 4))]) (ne_of_none e2 nl2)).trans e2
          have e4 := (upd_ne (o := .lst ([V.bl (decide (1 = 1)), .bl (decide (1 = 2)), .bl (decide (1 = 3))] ++ [V.bl (decide (1 = 0)), .bl (decide (1 = 4))])) (ne_of_none e3 nl3)).trans e3
          exact (upd_ne (ne_of_none e4 nl4)).trans e4
        walk_at "rd"
        refine ⟨.inl ⟨rfl, _, SqL.of ((upd_ne (ne_of_none upd_same nl4)).trans upd_same)⟩, ?_⟩
        walk_at "rd"
        refine ⟨l3, _, .bl true, 0, .bl true, rfl, rfl, SqL.of ((upd_ne (ne_of_none upd_same nl4)).trans upd_same), rfl, rfl, rfl, rfl, fun m z' hm hz => ?_, ?_⟩
        · exact absurd hm (Nat.not_lt_zero _)
        refine ⟨l4, _, _, _, rfl, rfl, SqL.of upd_same, rfl, ?_⟩
        exact q _ ea4
      | nums e S d0 bad =>
        subst e
        refine ⟨rfl, ?_⟩
        walk_at "rd"
        refine ⟨_, _, _, rfl, .inr ⟨_, _, _, rfl, S, .inl ⟨bad, ?_⟩⟩⟩
        refine ⟨true, R.emB 2 (by decide), fun _ => ⟨rfl, fun a ha => ?_⟩, fun z => Bool.noConfusion z⟩
        walk_at "rd"
        refine ⟨rfl, ?_⟩
        walk_at "rd"
        refine ⟨a, C 2, _, .ref (C 1), decide (2 = 1), rfl, .own _, upd_same, R.ec 2 (by decide), R.eg, R.kit 2 1 (by decide) (by decide), ?_⟩
        walk_at "rd"
        refine ⟨a, C 2, _, .ref (C 2), decide (2 = 2), rfl, .own _, upd_same, R.ec 2 (by decide), R.eg, R.kit 2 2 (by decide) (by decide), ?_⟩
        walk_at "rd"
        refine ⟨a, C 2, _, .ref (C 3), decide (2 = 3), rfl, .own _, upd_same, R.ec 2 (by decide), R.eg, R.kit 2 3 (by decide) (by decide), ?_⟩
        walk_at "rd"
        refine ⟨(by show 3 ≤ sizeLine; decide), fun l1 nl1 => ?_⟩
        have ea1 := (upd_ne (o := .lst [V.bl (decide (2 = 1)), .bl (decide (2 = 2)), .bl (decide (2 = 3))]) (ne_of_none upd_same nl1)).trans (upd_same (H := H) (a := a) (o := ExK (.ref (C 2)) a))
        walk_at "rd"
        refine ⟨a, C 2, _, .ref (C 0), decide (2 = 0), rfl, .own _, ea1, R.ec 2 (by decide), R.eg, R.kit 2 0 (by decide) (by decide), ?_⟩
        walk_at "rd"
        refine ⟨a, C 2, _, .ref (C 4), decide (2 = 4), rfl, .own _, ea1, R.ec 2 (by decide), R.eg, R.kit 2 4 (by decide) (by decide), ?_⟩
        walk_at "rd"
        refine ⟨(by show 2 ≤ sizeLine; decide), fun l2 nl2 => ?_⟩
        have ea2 := (upd_ne (o := .lst [V.bl (decide (2 = 0)), .bl (decide (2 = 4))]) (ne_of_none ea1 nl2)).trans ea1
        refine ⟨l1, l2, _, _, rfl, rfl, (upd_ne (ne_of_none upd_same nl2)).trans upd_same, upd_same, by decide, fun l3 nl3 => ?_⟩
        have ea3 := (upd_ne (o := .lst ([V.bl (decide (2 = 1)), .bl (decide (2 = 2)), .bl (decide (2 = 3))] ++ [V.bl (decide (2 = 0)), .bl (decide (2 = 4))])) (ne_of_none ea2 nl3)).trans ea2
        walk_at "rd"
        refine ⟨.inl ⟨rfl, _, SqL.of upd_same⟩, ?_⟩
        walk_at "rd"
        refine ⟨l3, _, .bl true, rfl, rfl, SqL.of upd_same, rfl, rfl, ?_⟩
        walk_at "rd"
        refine ⟨rfl, ?_⟩
        walk_at "rd"
        refine ⟨a, C 2, _, .type "ValueError", true, rfl, .ty _, ea3, R.ec 2 (by decide), R.eg, R.kitV 2 (by decide), ?_⟩
        walk_at "rd"
        refine ⟨(by show 5 ≤ sizeLine; decide), fun l4 nl4 => ?_⟩
        have ea4 : ∀ b u, H b = some u → upd (upd (upd (upd (upd H a (ExK (.ref (C 2)) a)) l1 (.lst [V.bl (decide (2 = 1)), .bl (decide (2 = 2)), .bl (decide (2 = 3))])) l2 (.lst [V.bl (decide (2 = 0)), .bl (decide (2 = 4))])) l3 (.lst ([V.bl (decide (2 = 1)), .bl (decide (2 = 2)), .bl (decide (2 = 3))] ++ [V.bl (decide (2 = 0)), .bl (decide (2 = 4))]))) l4 (.lst [.str "sides", .str "numbers", .str "value", .str "side", .str "number"]) b = some u := fun b u e0 => by
          have e1 := (upd_ne (o := ExK (.ref (C 2)) a) (ne_of_none e0 ha)).trans e0
          have e2 := (upd_ne (o := .lst [V.bl (decide (2 = 1)), .bl (decide (2 = 2)), .bl (decide (2 = 3))]) (ne_of_none e1 nl1)).trans e1
          have e3 := (upd_ne (o := .lst [V.bl (decide (2 = 0)), .bl (decide (2 = 4))]) (ne_of_none e2 nl2)).trans e2
          have e4 := (upd_ne (o := .lst ([V.bl (decide (2 = 1)), .bl (decide (2 = 2)), .bl (decide (2 = 3))] ++ [V.bl (decide (2 = 0)), .bl (decide (2 = 4))])) (ne_of_none e3 nl3)).trans e3
          exact (upd_ne (ne_of_none e4 nl4)).trans e4
        walk_at "rd"
        refine ⟨.inl ⟨rfl, _, SqL.of ((upd_ne (ne_of_none upd_same nl4)).trans upd_same)⟩, ?_⟩
        walk_at "rd"
        refine ⟨l3, _, .bl true, 1, .bl true, rfl, rfl, SqL.of ((upd_ne (ne_of_none upd_same nl4)).trans upd_same), rfl, rfl, rfl, rfl, fun m z' hm hz => ?_, ?_⟩
        · rcases (by omega : m = 0) with rfl <;> (cases hz; rfl)
        refine ⟨l4, _, _, _, rfl, rfl, SqL.of upd_same, rfl, ?_⟩
        exact q _ ea4
      | val0 e S d0 ey hk kn kg t ni =>
        subst e ey
        refine ⟨rfl, ?_⟩
        walk_at "rd"
        refine ⟨_, _, _, rfl, .inr ⟨_, _, _, rfl, S, .inr ⟨_, _, rfl, hk, kn, kg, .inl ⟨_, t, ni, ?_⟩⟩⟩⟩
        refine ⟨true, R.emB 3 (by decide), fun _ => ⟨rfl, fun a ha => ?_⟩, fun z => Bool.noConfusion z⟩
        walk_at "rd"
        refine ⟨rfl, ?_⟩
        walk_at "rd"
        refine ⟨a, C 3, _, .ref (C 1), decide (3 = 1), rfl, .own _, upd_same, R.ec 3 (by decide), R.eg, R.kit 3 1 (by decide) (by decide), ?_⟩
        walk_at "rd"
        refine ⟨a, C 3, _, .ref (C 2), decide (3 = 2), rfl, .own _, upd_same, R.ec 3 (by decide), R.eg, R.kit 3 2 (by decide) (by decide), ?_⟩
        walk_at "rd"
        refine ⟨a, C 3, _, .ref (C 3), decide (3 = 3), rfl, .own _, upd_same, R.ec 3 (by decide), R.eg, R.kit 3 3 (by decide) (by decide), ?_⟩
        walk_at "rd"
        refine ⟨(by show 3 ≤ sizeLine; decide), fun l1 nl1 => ?_⟩
        have ea1 := (upd_ne (o := .lst [V.bl (decide (3 = 1)), .bl (decide (3 = 2)), .bl (decide (3 = 3))]) (ne_of_none upd_same nl1)).trans (upd_same (H := H) (a := a) (o := ExK (.ref (C 3)) a))
        walk_at "rd"
        refine ⟨a, C 3, _, .ref (C 0), decide (3 = 0), rfl, .own _, ea1, R.ec 3 (by decide), R.eg, R.kit 3 0 (by decide) (by decide), ?_⟩
        walk_at "rd"
        refine ⟨a, C 3, _, .ref (C 4), decide (3 = 4), rfl, .own _, ea1, R.ec 3 (by decide), R.eg, R.kit 3 4 (by decide) (by decide), ?_⟩
        walk_at "rd"
        refine ⟨(by show 2 ≤ sizeLine; decide), fun l2 nl2 => ?_⟩
        have ea2 := (upd_ne (o := .lst [V.bl (decide (3 = 0)), .bl (decide (3 = 4))]) (ne_of_none ea1 nl2)).trans ea1
        refine ⟨l1, l2, _, _, rfl, rfl, (upd_ne (ne_of_none upd_same nl2)).trans upd_same, upd_same, by decide, fun l3 nl3 => ?_⟩
        have ea3 := (upd_ne (o := .lst ([V.bl (decide (3 = 1)), .bl (decide (3 = 2)), .bl (decide (3 = 3))] ++ [V.bl (decide (3 = 0)), .bl (decide (3 = 4))])) (ne_of_none ea2 nl3)).trans ea2
        walk_at "rd"
        refine ⟨.inl ⟨rfl, _, SqL.of upd_same⟩, ?_⟩
        walk_at "rd"
        refine ⟨l3, _, .bl true, rfl, rfl, SqL.of upd_same, rfl, rfl, ?_⟩
        walk_at "rd"
        refine ⟨rfl, ?_⟩
        walk_at "rd"
        refine ⟨a, C 3, _, .type "ValueError", true, rfl, .ty _, ea3, R.ec 3 (by decide), R.eg, R.kitV 3 (by decide), ?_⟩
        walk_at "rd"
        refine ⟨(by show 5 ≤ sizeLine; decide), fun l4 nl4 => ?_⟩
        have ea4 : ∀ b u, H b = some u → upd (upd (upd (upd (upd H a (ExK (.ref (C 3)) a)) l1 (.lst [V.bl (decide (3 = 1)), .bl (decide (3 = 2)), .bl (decide (3 = 3))])) l2 (.lst [V.bl (decide (3 = 0)), .bl (decide (3 = 4))])) l3 (.lst ([V.bl (decide (3 = 1)), .bl (decide (3 = 2)), .bl (decide (3 = 3))] ++ [V.bl (decide (3 = 0)), .bl (decide (3 = 4))]))) l4 (.lst [.str "sides", .str "numbers", .str "value", .str "side", .str "number"]) b = some u := fun b u e0 => by
          have e1 := (upd_ne (o := ExK (.ref (C 3)) a) (ne_of_none e0 ha)).trans e0
          have e2 := (upd_ne (o := .lst [V.bl (decide (3 = 1)), .bl (decide (3 = 2)), .bl (decide (3 = 3))]) (ne_of_none e1 nl1)).trans e1
          have e3 := (upd_ne (o := .lst [V.bl (decide (3 = 0)), .bl (decide (3 = 4))]) (ne_of_none e2 nl2)).trans e2
          have e4 := (upd_ne (o := .lst ([V.bl (decide (3 = 1)), .bl (decide (3 = 2)), .bl (decide (3 = 3))] ++ [V.bl (decide (3 = 0)), .bl (decide (3 = 4))])) (ne_of_none e3 nl3)).trans e3
          exact (upd_ne (ne_of_none e4 nl4)).trans e4
        walk_at "rd"
        refine ⟨.inl ⟨rfl, _, SqL.of ((upd_ne (ne_of_none upd_same nl4)).trans upd_same)⟩, ?_⟩
        walk_at "rd"
        refine ⟨l3, _, .bl true, 2, .bl true, rfl, rfl, SqL.of ((upd_ne (ne_of_none upd_same nl4)).trans upd_same), rfl, rfl, rfl, rfl, fun m z' hm hz => ?_, ?_⟩
        · rcases (by omega : m = 0 ∨ m = 1) with rfl | rfl <;> (cases hz; rfl)
        refine ⟨l4, _, _, _, rfl, rfl, SqL.of upd_same, rfl, ?_⟩
        exact q _ ea4
      | val e S d0 t ni => exact absurd rfl d0
      | good e S d0 ey hk kn kg ez vb =>
        subst e ey ez
        refine ⟨rfl, ?_⟩
        walk_at "rd"
        refine ⟨_, _, _, rfl, .inr ⟨_, _, _, rfl, S, .inr ⟨_, _, rfl, hk, kn, kg, .inr ⟨_, rfl, vb, fun d1 H1 nd1 sm1 hd1 => ?_⟩⟩⟩⟩
        walk_at "rd"
        refine ⟨rfl, ?_⟩
        walk_at "rd"
        exact q _ sm1
    · cases wd with
      | sides bad =>
        refine ⟨rfl, ?_⟩
        walk_at "rd"
        refine ⟨rfl, ?_⟩
        walk_at "rd"
        refine ⟨_, _, rfl, .inl ⟨bad, ?_⟩⟩
        refine ⟨true, R.emB 1 (by decide), fun _ => ⟨rfl, fun a ha => ?_⟩, fun z => Bool.noConfusion z⟩
        walk_at "rd"
        refine ⟨rfl, ?_⟩
        walk_at "rd"
        refine ⟨a, C 1, _, .ref (C 1), decide (1 = 1), rfl, .own _, upd_same, R.ec 1 (by decide), R.eg, R.kit 1 1 (by decide) (by decide), ?_⟩
        walk_at "rd"
        refine ⟨a, C 1, _, .ref (C 2), decide (1 = 2), rfl, .own _, upd_same, R.ec 1 (by decide), R.eg, R.kit 1 2 (by decide) (by decide), ?_⟩
        walk_at "rd"
        refine ⟨a, C 1, _, .ref (C 3), decide (1 = 3), rfl, .own _, upd_same, R.ec 1 (by decide), R.eg, R.kit 1 3 (by decide) (by decide), ?_⟩
        walk_at "rd"
        refine ⟨(by show 3 ≤ sizeLine; decide), fun l1 nl1 => ?_⟩
        have ea1 := (upd_ne (o := .lst [V.bl (decide (1 = 1)), .bl (decide (1 = 2)), .bl (decide (1 = 3))]) (ne_of_none upd_same nl1)).trans (upd_same (H := H) (a := a) (o := ExK (.ref (C 1)) a))
        walk_at "rd"
        refine ⟨a, C 1, _, .ref (C 0), decide (1 = 0), rfl, .own _, ea1, R.ec 1 (by decide), R.eg, R.kit 1 0 (by decide) (by decide), ?_⟩
        walk_at "rd"
        refine ⟨a, C 1, _, .ref (C 4), decide (1 = 4), rfl, .own _, ea1, R.ec 1 (by decide), R.eg, R.kit 1 4 (by decide) (by decide), ?_⟩
        walk_at "rd"
        refine ⟨(by show 2 ≤ sizeLine; decide), fun l2 nl2 => ?_⟩
        have ea2 := (upd_ne (o := .lst [V.bl (decide (1 = 0)), .bl (decide (1 = 4))]) (ne_of_none ea1 nl2)).trans ea1
        refine ⟨l1, l2, _, _, rfl, rfl, (upd_ne (ne_of_none upd_same nl2)).trans upd_same, upd_same, by decide, fun l3 nl3 => ?_⟩
        have ea3 := (upd_ne (o := .lst ([V.bl (decide (1 = 1)), .bl (decide (1 = 2)), .bl (decide (1 = 3))] ++ [V.bl (decide (1 = 0)), .bl (decide (1 = 4))])) (ne_of_none ea2 nl3)).trans ea2
        walk_at "rd"
        refine ⟨.inl ⟨rfl, _, SqL.of upd_same⟩, ?_⟩
        walk_at "rd"
        refine ⟨l3, _, .bl true, rfl, rfl, SqL.of upd_same, rfl, rfl, ?_⟩
        walk_at "rd"
        refine ⟨rfl, ?_⟩
        walk_at "rd"
        refine ⟨a, C 1, _, .type "ValueError", true, rfl, .ty _, ea3, R.ec 1 (by decide), R.eg, R.kitV 1 (by decide), ?_⟩
        walk_at "rd"
        refine ⟨(by show 5 ≤ sizeLine; decide), fun l4 nl4 => ?_⟩
        have ea4 : ∀ b u, H b = some u → upd (upd (upd (upd (upd H a (ExK (.ref (C 1)) a)) l1 (.lst [V.bl (decide (1 = 1)), .bl (decide (1 = 2)), .bl (decide (1 = 3))])) l2 (.lst [V.bl (decide (1 = 0)), .bl (decide (1 = 4))])) l3 (.lst ([V.bl (decide (1 = 1)), .bl (decide (1 = 2)), .bl (decide (1 = 3))] ++ [V.bl (decide (1 = 0)), .bl (decide (1 = 4))]))) l4 (.lst [.str "sides", .str "numbers", .str "value", .str "side", .str "number"]) b = some u := fun b u e0 => by
          have e1 := (upd_ne (o := ExK (.ref (C 1)) a) (ne_of_none e0 ha)).trans e0
          have e2 := (upd_ne (o := .lst [V.bl (decide (1 = 1)), .bl (decide (1 = 2)), .bl (decide (1 = 3))]) (ne_of_none e1 nl1)).trans e1
          have e3 := (upd_ne (o := .lst [V.bl (decide (1 = 0)), .bl (decide (1 = 4))]) (ne_of_none e2 nl2)).trans e2
          have e4 := (upd_ne (o := .lst ([V.bl (decide (1 = 1)), .bl (decide (1 = 2)), .bl (decide (1 = 3))] ++ [V.bl (decide (1 = 0)), .bl (decide (1 = 4))])) (ne_of_none e3 nl3)).trans e3
          exact (upd_ne (ne_of_none e4 nl4)).trans e4
        walk_at "rd"
        refine ⟨.inl ⟨rfl, _, SqL.of ((upd_ne (ne_of_none upd_same nl4)).trans upd_same)⟩, ?_⟩
        walk_at "rd"
        refine ⟨l3, _, .bl true, 0, .bl true, rfl, rfl, SqL.of ((upd_ne (ne_of_none upd_same nl4)).trans upd_same), rfl, rfl, rfl, rfl, fun m z' hm hz => ?_, ?_⟩
        · exact absurd hm (Nat.not_lt_zero _)
        refine ⟨l4, _, _, _, rfl, rfl, SqL.of upd_same, rfl, ?_⟩
        exact q _ ea4
      | nums e S d0 bad => exact absurd d0 (by decide)
      | val0 e S d0 ey hk kn kg t ni => exact absurd d0 (by decide)
      | val e S d0 t ni =>
        subst e
        refine ⟨rfl, ?_⟩
        walk_at "rd"
        refine ⟨rfl, ?_⟩
        walk_at "rd"
        refine ⟨_, _, rfl, .inr ⟨_, _, _, rfl, S, t, ni, ?_⟩⟩
        refine ⟨true, R.emB 3 (by decide), fun _ => ⟨rfl, fun a ha => ?_⟩, fun z => Bool.noConfusion z⟩
        walk_at "rd"
        refine ⟨rfl, ?_⟩
        walk_at "rd"
        refine ⟨a, C 3, _, .ref (C 1), decide (3 = 1), rfl, .own _, upd_same, R.ec 3 (by decide), R.eg, R.kit 3 1 (by decide) (by decide), ?_⟩
        walk_at "rd"
        refine ⟨a, C 3, _, .ref (C 2), decide (3 = 2), rfl, .own _, upd_same, R.ec 3 (by decide), R.eg, R.kit 3 2 (by decide) (by decide), ?_⟩
        walk_at "rd"
        refine ⟨a, C 3, _, .ref (C 3), decide (3 = 3), rfl, .own _, upd_same, R.ec 3 (by decide), R.eg, R.kit 3 3 (by decide) (by decide), ?_⟩
        walk_at "rd"
        refine ⟨(by show 3 ≤ sizeLine; decide), fun l1 nl1 => ?_⟩
        have ea1 := (upd_ne (o := .lst [V.bl (decide (3 = 1)), .bl (decide (3 = 2)), .bl (decide (3 = 3))]) (ne_of_none upd_same nl1)).trans (upd_same (H := H) (a := a) (o := ExK (.ref (C 3)) a))
        walk_at "rd"
        refine ⟨a, C 3, _, .ref (C 0), decide (3 = 0), rfl, .own _, ea1, R.ec 3 (by decide), R.eg, R.kit 3 0 (by decide) (by decide), ?_⟩
        walk_at "rd"
        refine ⟨a, C 3, _, .ref (C 4), decide (3 = 4), rfl, .own _, ea1, R.ec 3 (by decide), R.eg, R.kit 3 4 (by decide) (by decide), ?_⟩
        walk_at "rd"
        refine ⟨(by show 2 ≤ sizeLine; decide), fun l2 nl2 => ?_⟩
        have ea2 := (upd_ne (o := .lst [V.bl (decide (3 = 0)), .bl (decide (3 = 4))]) (ne_of_none ea1 nl2)).trans ea1
        refine ⟨l1, l2, _, _, rfl, rfl, (upd_ne (ne_of_none upd_same nl2)).trans upd_same, upd_same, by decide, fun l3 nl3 => ?_⟩
        have ea3 := (upd_ne (o := .lst ([V.bl (decide (3 = 1)), .bl (decide (3 = 2)), .bl (decide (3 = 3))] ++ [V.bl (decide (3 = 0)), .bl (decide (3 = 4))])) (ne_of_none ea2 nl3)).trans ea2
        walk_at "rd"
        refine ⟨.inl ⟨rfl, _, SqL.of upd_same⟩, ?_⟩
        walk_at "rd"
        refine ⟨l3, _, .bl true, rfl, rfl, SqL.of upd_same, rfl, rfl, ?_⟩
        walk_at "rd"
        refine ⟨rfl, ?_⟩
        walk_at "rd"
        refine ⟨a, C 3, _, .type "ValueError", true, rfl, .ty _, ea3, R.ec 3 (by decide), R.eg, R.kitV 3 (by decide), ?_⟩
        walk_at "rd"
        refine ⟨(by show 5 ≤ sizeLine; decide), fun l4 nl4 => ?_⟩
        have ea4 : ∀ b u, H b = some u → upd (upd (upd (upd (upd H a (ExK (.ref (C 3)) a)) l1 (.lst [V.bl (decide (3 = 1)), .bl (decide (3 = 2)), .bl (decide (3 = 3))])) l2 (.lst [V.bl (decide (3 = 0)), .bl (decide (3 = 4))])) l3 (.lst ([V.bl (decide (3 = 1)), .bl (decide (3 = 2)), .bl (decide (3 = 3))] ++ [V.bl (decide (3 = 0)), .bl (decide (3 = 4))]))) l4 (.lst [.str "sides", .str "numbers", .str "value", .str "side", .str "number"]) b = some u := fun b u e0 => by
          have e1 := (upd_ne (o := ExK (.ref (C 3)) a) (ne_of_none e0 ha)).trans e0
          have e2 := (upd_ne (o := .lst [V.bl (decide (3 = 1)), .bl (decide (3 = 2)), .bl (decide (3 = 3))]) (ne_of_none e1 nl1)).trans e1
          have e3 := (upd_ne (o := .lst [V.bl (decide (3 = 0)), .bl (decide (3 = 4))]) (ne_of_none e2 nl2)).trans e2
          have e4 := (upd_ne (o := .lst ([V.bl (decide (3 = 1)), .bl (decide (3 = 2)), .bl (decide (3 = 3))] ++ [V.bl (decide (3 = 0)), .bl (decide (3 = 4))])) (ne_of_none e3 nl3)).trans e3
          exact (upd_ne (ne_of_none e4 nl4)).trans e4
        walk_at "rd"
        refine ⟨.inl ⟨rfl, _, SqL.of ((upd_ne (ne_of_none upd_same nl4)).trans upd_same)⟩, ?_⟩
        walk_at "rd"
        refine ⟨l3, _, .bl true, 2, .bl true, rfl, rfl, SqL.of ((upd_ne (ne_of_none upd_same nl4)).trans upd_same), rfl, rfl, rfl, rfl, fun m z' hm hz => ?_, ?_⟩
        · rcases (by omega : m = 0 ∨ m = 1) with rfl | rfl <;> (cases hz; rfl)
        refine ⟨l4, _, _, _, rfl, rfl, SqL.of upd_same, rfl, ?_⟩
        exact q _ ea4
      | good e S d0 ey hk kn kg ez vb => exact absurd d0 (by decide)
    · cases wd with
      | sides bad =>
        refine ⟨rfl, ?_⟩
        walk_at "rd"
        refine ⟨rfl, ?_⟩
        walk_at "rd"
        refine ⟨rfl, ?_⟩
        walk_at "rd"
        refine ⟨_, _, _, rfl, .inl ⟨bad, ?_⟩⟩
        refine ⟨true, R.emB 1 (by decide), fun _ => ⟨rfl, fun a ha => ?_⟩, fun z => Bool.noConfusion z⟩
        walk_at "rd"
        refine ⟨rfl, ?_⟩
        walk_at "rd"
        refine ⟨a, C 1, _, .ref (C 1), decide (1 = 1), rfl, .own _, upd_same, R.ec 1 (by decide), R.eg, R.kit 1 1 (by decide) (by decide), ?_⟩
        walk_at "rd"
        refine ⟨a, C 1, _, .ref (C 2), decide (1 = 2), rfl, .own _, upd_same, R.ec 1 (by decide), R.eg, R.kit 1 2 (by decide) (by decide), ?_⟩
        walk_at "rd"
        refine ⟨a, C 1, _, .ref (C 3), decide (1 = 3), rfl, .own _, upd_same, R.ec 1 (by decide), R.eg, R.kit 1 3 (by decide) (by decide), ?_⟩
        walk_at "rd"
        refine ⟨(by show 3 ≤ sizeLine; decide), fun l1 nl1 => ?_⟩
        have ea1 := (upd_ne (o := .lst [V.bl (decide (1 = 1)), .bl (decide (1 = 2)), .bl (decide (1 = 3))]) (ne_of_none upd_same nl1)).trans (upd_same (H := H) (a := a) (o := ExK (.ref (C 1)) a))
        walk_at "rd"
        refine ⟨a, C 1, _, .ref (C 0), decide (1 = 0), rfl, .own _, ea1, R.ec 1 (by decide), R.eg, R.kit 1 0 (by decide) (by decide), ?_⟩
        walk_at "rd"
        refine ⟨a, C 1, _, .ref (C 4), decide (1 = 4), rfl, .own _, ea1, R.ec 1 (by decide), R.eg, R.kit 1 4 (by decide) (by decide), ?_⟩
        walk_at "rd"
        refine ⟨(by show 2 ≤ sizeLine; decide), fun l2 nl2 => ?_⟩
        have ea2 := (upd_ne (o := .lst [V.bl (decide (1 = 0)), .bl (decide (1 = 4))]) (ne_of_none ea1 nl2)).trans ea1
        refine ⟨l1, l2, _, _, rfl, rfl, (upd_ne (ne_of_none upd_same nl2)).trans upd_same, upd_same, by decide, fun l3 nl3 => ?_⟩
        have ea3 := (upd_ne (o := .lst ([V.bl (decide (1 = 1)), .bl (decide (1 = 2)), .bl (decide (1 = 3))] ++ [V.bl (decide (1 = 0)), .bl (decide (1 = 4))])) (ne_of_none ea2 nl3)).trans ea2
        walk_at "rd"
        refine ⟨.inl ⟨rfl, _, SqL.of upd_same⟩, ?_⟩
        walk_at "rd"
        refine ⟨l3, _, .bl true, rfl, rfl, SqL.of upd_same, rfl, rfl, ?_⟩
        walk_at "rd"
        refine ⟨rfl, ?_⟩
        walk_at "rd"
        refine ⟨a, C 1, _, .type "ValueError", true, rfl, .ty _, ea3, R.ec 1 (by decide), R.eg, R.kitV 1 (by decide), ?_⟩
        walk_at "rd"
        refine ⟨(by show 5 ≤ sizeLine; decide), fun l4 nl4 => ?_⟩
        have ea4 : ∀ b u, H b = some u → upd (upd (upd (upd (upd H a (ExK (.ref (C 1)) a)) l1 (.lst [V.bl (decide (1 = 1)), .bl (decide (1 = 2)), .bl (decide (1 = 3))])) l2 (.lst [V.bl (decide (1 = 0)), .bl (decide (1 = 4))])) l3 (.lst ([V.bl (decide (1 = 1)), .bl (decide (1 = 2)), .bl (decide (1 = 3))] ++ [V.bl (decide (1 = 0)), .bl (decide (1 = 4))]))) l4 (.lst [.str "sides", .str "numbers", .str "value", .str "side", .str "number"]) b = some u := fun b u e0 => by
          have e1 := (upd_ne (o := ExK (.ref (C 1)) a) (ne_of_none e0 ha)).trans e0
          have e2 := (upd_ne (o := .lst [V.bl (decide (1 = 1)), .bl (decide (1 = 2)), .bl (decide (1 = 3))]) (ne_of_none e1 nl1)).trans e1
          have e3 := (upd_ne (o := .lst [V.bl (decide (1 = 0)), .bl (decide (1 = 4))]) (ne_of_none e2 nl2)).trans e2
          have e4 := (upd_ne (o := .lst ([V.bl (decide (1 = 1)), .bl (decide (1 = 2)), .bl (decide (1 = 3))] ++ [V.bl (decide (1 = 0)), .bl (decide (1 = 4))])) (ne_of_none e3 nl3)).trans e3
          exact (upd_ne (ne_of_none e4 nl4)).trans e4
        walk_at "rd"
        refine ⟨.inl ⟨rfl, _, SqL.of ((upd_ne (ne_of_none upd_same nl4)).trans upd_same)⟩, ?_⟩
        walk_at "rd"
        refine ⟨l3, _, .bl true, 0, .bl true, rfl, rfl, SqL.of ((upd_ne (ne_of_none upd_same nl4)).trans upd_same), rfl, rfl, rfl, rfl, fun m z' hm hz => ?_, ?_⟩
        · exact absurd hm (Nat.not_lt_zero _)
        refine ⟨l4, _, _, _, rfl, rfl, SqL.of upd_same, rfl, ?_⟩
        exact q _ ea4
      | nums e S d0 bad => exact absurd d0 (by decide)
      | val0 e S d0 ey hk kn kg t ni => exact absurd d0 (by decide)
      | val e S d0 t ni =>
        subst e
        refine ⟨rfl, ?_⟩
        walk_at "rd"
        refine ⟨rfl, ?_⟩
        walk_at "rd"
        refine ⟨rfl, ?_⟩
        walk_at "rd"
        refine ⟨_, _, _, rfl, .inr ⟨_, _, _, "int", rfl, S, t, .int 5, (by rw [ni]; rfl), ?_⟩⟩
        refine ⟨true, R.emB 3 (by decide), fun _ => ⟨rfl, fun a ha => ?_⟩, fun z => Bool.noConfusion z⟩
        walk_at "rd"
        refine ⟨rfl, ?_⟩
        walk_at "rd"
        refine ⟨a, C 3, _, .ref (C 1), decide (3 = 1), rfl, .own _, upd_same, R.ec 3 (by decide), R.eg, R.kit 3 1 (by decide) (by decide), ?_⟩
        walk_at "rd"
        refine ⟨a, C 3, _, .ref (C 2), decide (3 = 2), rfl, .own _, upd_same, R.ec 3 (by decide), R.eg, R.kit 3 2 (by decide) (by decide), ?_⟩
        walk_at "rd"
        refine ⟨a, C 3, _, .ref (C 3), decide (3 = 3), rfl, .own _, upd_same, R.ec 3 (by decide), R.eg, R.kit 3 3 (by decide) (by decide), ?_⟩
        walk_at "rd"
        refine ⟨(by show 3 ≤ sizeLine; decide), fun l1 nl1 => ?_⟩
        have ea1 := (upd_ne (o := .lst [V.bl (decide (3 = 1)), .bl (decide (3 = 2)), .bl (decide (3 = 3))]) (ne_of_none upd_same nl1)).trans (upd_same (H := H) (a := a) (o := ExK (.ref (C 3)) a))
        walk_at "rd"
        refine ⟨a, C 3, _, .ref (C 0), decide (3 = 0), rfl, .own _, ea1, R.ec 3 (by decide), R.eg, R.kit 3 0 (by decide) (by decide), ?_⟩
        walk_at "rd"
        refine ⟨a, C 3, _, .ref (C 4), decide (3 = 4), rfl, .own _, ea1, R.ec 3 (by decide), R.eg, R.kit 3 4 (by decide) (by decide), ?_⟩
        walk_at "rd"
        refine ⟨(by show 2 ≤ sizeLine; decide), fun l2 nl2 => ?_⟩
        have ea2 := (upd_ne (o := .lst [V.bl (decide (3 = 0)), .bl (decide (3 = 4))]) (ne_of_none ea1 nl2)).trans ea1
        refine ⟨l1, l2, _, _, rfl, rfl, (upd_ne (ne_of_none upd_same nl2)).trans upd_same, upd_same, by decide, fun l3 nl3 => ?_⟩
        have ea3 := (upd_ne (o := .lst ([V.bl (decide (3 = 1)), .bl (decide (3 = 2)), .bl (decide (3 = 3))] ++ [V.bl (decide (3 = 0)), .bl (decide (3 = 4))])) (ne_of_none ea2 nl3)).trans ea2
        walk_at "rd"
        refine ⟨.inl ⟨rfl, _, SqL.of upd_same⟩, ?_⟩
        walk_at "rd"
        refine ⟨l3, _, .bl true, rfl, rfl, SqL.of upd_same, rfl, rfl, ?_⟩
        walk_at "rd"
        refine ⟨rfl, ?_⟩
        walk_at "rd"
        refine ⟨a, C 3, _, .type "ValueError", true, rfl, .ty _, ea3, R.ec 3 (by decide), R.eg, R.kitV 3 (by decide), ?_⟩
        walk_at "rd"
        refine ⟨(by show 5 ≤ sizeLine; decide), fun l4 nl4 => ?_⟩
        have ea4 : ∀ b u, H b = some u → upd (upd (upd (upd (upd H a (ExK (.ref (C 3)) a)) l1 (.lst [V.bl (decide (3 = 1)), .bl (decide (3 = 2)), .bl (decide (3 = 3))])) l2 (.lst [V.bl (decide (3 = 0)), .bl (decide (3 = 4))])) l3 (.lst ([V.bl (decide (3 = 1)), .bl (decide (3 = 2)), .bl (decide (3 = 3))] ++ [V.bl (decide (3 = 0)), .bl (decide (3 = 4))]))) l4 (.lst [.str "sides", .str "numbers", .str "value", .str "side", .str "number"]) b = some u := fun b u e0 => by
          have e1 := (upd_ne (o := ExK (.ref (C 3)) a) (ne_of_none e0 ha)).trans e0
          have e2 := (upd_ne (o := .lst [V.bl (decide (3 = 1)), .bl (decide (3 = 2)), .bl (decide (3 = 3))]) (ne_of_none e1 nl1)).trans e1
          have e3 := (upd_ne (o := .lst [V.bl (decide (3 = 0)), .bl (decide (3 = 4))]) (ne_of_none e2 nl2)).trans e2
          have e4 := (upd_ne (o := .lst ([V.bl (decide (3 = 1)), .bl (decide (3 = 2)), .bl (decide (3 = 3))] ++ [V.bl (decide (3 = 0)), .bl (decide (3 = 4))])) (ne_of_none e3 nl3)).trans e3
          exact (upd_ne (ne_of_none e4 nl4)).trans e4
        walk_at "rd"
        refine ⟨.inl ⟨rfl, _, SqL.of ((upd_ne (ne_of_none upd_same nl4)).trans upd_same)⟩, ?_⟩
        walk_at "rd"
        refine ⟨l3, _, .bl true, 2, .bl true, rfl, rfl, SqL.of ((upd_ne (ne_of_none upd_same nl4)).trans upd_same), rfl, rfl, rfl, rfl, fun m z' hm hz => ?_, ?_⟩
        · rcases (by omega : m = 0 ∨ m = 1) with rfl | rfl <;> (cases hz; rfl)
        refine ⟨l4, _, _, _, rfl, rfl, SqL.of upd_same, rfl, ?_⟩
        exact q _ ea4
      | good e S d0 ey hk kn kg ez vb => exact absurd d0 (by decide)
    · cases wd with
      | sides bad =>
        refine ⟨rfl, ?_⟩
        walk_at "rd"
        refine ⟨rfl, ?_⟩
        walk_at "rd"
        refine ⟨rfl, ?_⟩
        walk_at "rd"
        refine ⟨_, _, _, rfl, .inl ⟨bad, ?_⟩⟩
        refine ⟨true, R.emB 1 (by decide), fun _ => ⟨rfl, fun a ha => ?_⟩, fun z => Bool.noConfusion z⟩
        walk_at "rd"
        refine ⟨rfl, ?_⟩
        walk_at "rd"
        refine ⟨a, C 1, _, .ref (C 1), decide (1 = 1), rfl, .own _, upd_same, R.ec 1 (by decide), R.eg, R.kit 1 1 (by decide) (by decide), ?_⟩
        walk_at "rd"
        refine ⟨a, C 1, _, .ref (C 2), decide (1 = 2), rfl, .own _, upd_same, R.ec 1 (by decide), R.eg, R.kit 1 2 (by decide) (by decide), ?_⟩
        walk_at "rd"
        refine ⟨a, C 1, _, .ref (C 3), decide (1 = 3), rfl, .own _, upd_same, R.ec 1 (by decide), R.eg, R.kit 1 3 (by decide) (by decide), ?_⟩
        walk_at "rd"
        refine ⟨(by show 3 ≤ sizeLine; decide), fun l1 nl1 => ?_⟩
        have ea1 := (upd_ne (o := .lst [V.bl (decide (1 = 1)), .bl (decide (1 = 2)), .bl (decide (1 = 3))]) (ne_of_none upd_same nl1)).trans (upd_same (H := H) (a := a) (o := ExK (.ref (C 1)) a))
        walk_at "rd"
        refine ⟨a, C 1, _, .ref (C 0), decide (1 = 0), rfl, .own _, ea1, R.ec 1 (by decide), R.eg, R.kit 1 0 (by decide) (by decide), ?_⟩
        walk_at "rd"
        refine ⟨a, C 1, _, .ref (C 4), decide (1 = 4), rfl, .own _, ea1, R.ec 1 (by decide), R.eg, R.kit 1 4 (by decide) (by decide), ?_⟩
        walk_at "rd"
        refine ⟨(by show 2 ≤ sizeLine; decide), fun l2 nl2 => ?_⟩
        have ea2 := (upd_ne (o := .lst [V.bl (decide (1 = 0)), .bl (decide (1 = 4))]) (ne_of_none ea1 nl2)).trans ea1
        refine ⟨l1, l2, _, _, rfl, rfl, (upd_ne (ne_of_none upd_same nl2)).trans upd_same, upd_same, by decide, fun l3 nl3 => ?_⟩
        have ea3 := (upd_ne (o := .lst ([V.bl (decide (1 = 1)), .bl (decide (1 = 2)), .bl (decide (1 = 3))] ++ [V.bl (decide (1 = 0)), .bl (decide (1 = 4))])) (ne_of_none ea2 nl3)).trans ea2
        walk_at "rd"
        refine ⟨.inl ⟨rfl, _, SqL.of upd_same⟩, ?_⟩
        walk_at "rd"
        refine ⟨l3, _, .bl true, rfl, rfl, SqL.of upd_same, rfl, rfl, ?_⟩
        walk_at "rd"
        refine ⟨rfl, ?_⟩
        walk_at "rd"
        refine ⟨a, C 1, _, .type "ValueError", true, rfl, .ty _, ea3, R.ec 1 (by decide), R.eg, R.kitV 1 (by decide), ?_⟩
        walk_at "rd"
        refine ⟨(by show 5 ≤ sizeLine; decide), fun l4 nl4 => ?_⟩
        have ea4 : ∀ b u, H b = some u → upd (upd (upd (upd (upd H a (ExK (.ref (C 1)) a)) l1 (.lst [V.bl (decide (1 = 1)), .bl (decide (1 = 2)), .bl (decide (1 = 3))])) l2 (.lst [V.bl (decide (1 = 0)), .bl (decide (1 = 4))])) l3 (.lst ([V.bl (decide (1 = 1)), .bl (decide (1 = 2)), .bl (decide (1 = 3))] ++ [V.bl (decide (1 = 0)), .bl (decide (1 = 4))]))) l4 (.lst [.str "sides", .str "numbers", .str "value", .str "side", .str "number"]) b = some u := fun b u e0 => by
          have e1 := (upd_ne (o := ExK (.ref (C 1)) a) (ne_of_none e0 ha)).trans e0
          have e2 := (upd_ne (o := .lst [V.bl (decide (1 = 1)), .bl (decide (1 = 2)), .bl (decide (1 = 3))]) (ne_of_none e1 nl1)).trans e1
          have e3 := (upd_ne (o := .lst [V.bl (decide (1 = 0)), .bl (decide (1 = 4))]) (ne_of_none e2 nl2)).trans e2
          have e4 := (upd_ne (o := .lst ([V.bl (decide (1 = 1)), .bl (decide (1 = 2)), .bl (decide (1 = 3))] ++ [V.bl (decide (1 = 0)), .bl (decide (1 = 4))])) (ne_of_none e3 nl3)).trans e3
          exact (upd_ne (ne_of_none e4 nl4)).trans e4
        walk_at "rd"
        refine ⟨.inl ⟨rfl, _, SqL.of ((upd_ne (ne_of_none upd_same nl4)).trans upd_same)⟩, ?_⟩
        walk_at "rd"
        refine ⟨l3, _, .bl true, 0, .bl true, rfl, rfl, SqL.of ((upd_ne (ne_of_none upd_same nl4)).trans upd_same), rfl, rfl, rfl, rfl, fun m z' hm hz => ?_, ?_⟩
        · exact absurd hm (Nat.not_lt_zero _)
        refine ⟨l4, _, _, _, rfl, rfl, SqL.of upd_same, rfl, ?_⟩
        exact q _ ea4
      | nums e S d0 bad => exact absurd d0 (by decide)
      | val0 e S d0 ey hk kn kg t ni => exact absurd d0 (by decide)
      | val e S d0 t ni =>
        subst e
        refine ⟨rfl, ?_⟩
        walk_at "rd"
        refine ⟨rfl, ?_⟩
        walk_at "rd"
        refine ⟨rfl, ?_⟩
        walk_at "rd"
        refine ⟨_, _, _, rfl, .inr ⟨_, _, "int", _, rfl, S, .int 5, t, (by rw [ni]; rfl), ?_⟩⟩
        refine ⟨true, R.emB 3 (by decide), fun _ => ⟨rfl, fun a ha => ?_⟩, fun z => Bool.noConfusion z⟩
        walk_at "rd"
        refine ⟨rfl, ?_⟩
        walk_at "rd"
        refine ⟨a, C 3, _, .ref (C 1), decide (3 = 1), rfl, .own _, upd_same, R.ec 3 (by decide), R.eg, R.kit 3 1 (by decide) (by decide), ?_⟩
        walk_at "rd"
        refine ⟨a, C 3, _, .ref (C 2), decide (3 = 2), rfl, .own _, upd_same, R.ec 3 (by decide), R.eg, R.kit 3 2 (by decide) (by decide), ?_⟩
        walk_at "rd"
        refine ⟨a, C 3, _, .ref (C 3), decide (3 = 3), rfl, .own _, upd_same, R.ec 3 (by decide), R.eg, R.kit 3 3 (by decide) (by decide), ?_⟩
        walk_at "rd"
        refine ⟨(by show 3 ≤ sizeLine; decide), fun l1 nl1 => ?_⟩
        have ea1 := (upd_ne (o := .lst [V.bl (decide (3 = 1)), .bl (decide (3 = 2)), .bl (decide (3 = 3))]) (ne_of_none upd_same nl1)).trans (upd_same (H := H) (a := a) (o := ExK (.ref (C 3)) a))
        walk_at "rd"
        refine ⟨a, C 3, _, .ref (C 0), decide (3 = 0), rfl, .own _, ea1, R.ec 3 (by decide), R.eg, R.kit 3 0 (by decide) (by decide), ?_⟩
        walk_at "rd"
        refine ⟨a, C 3, _, .ref (C 4), decide (3 = 4), rfl, .own _, ea1, R.ec 3 (by decide), R.eg, R.kit 3 4 (by decide) (by decide), ?_⟩
        walk_at "rd"
        refine ⟨(by show 2 ≤ sizeLine; decide), fun l2 nl2 => ?_⟩
        have ea2 := (upd_ne (o := .lst [V.bl (decide (3 = 0)), .bl (decide (3 = 4))]) (ne_of_none ea1 nl2)).trans ea1
        refine ⟨l1, l2, _, _, rfl, rfl, (upd_ne (ne_of_none upd_same nl2)).trans upd_same, upd_same, by decide, fun l3 nl3 => ?_⟩
        have ea3 := (upd_ne (o := .lst ([V.bl (decide (3 = 1)), .bl (decide (3 = 2)), .bl (decide (3 = 3))] ++ [V.bl (decide (3 = 0)), .bl (decide (3 = 4))])) (ne_of_none ea2 nl3)).trans ea2
        walk_at "rd"
        refine ⟨.inl ⟨rfl, _, SqL.of upd_same⟩, ?_⟩
        walk_at "rd"
        refine ⟨l3, _, .bl true, rfl, rfl, SqL.of upd_same, rfl, rfl, ?_⟩
        walk_at "rd"
        refine ⟨rfl, ?_⟩
        walk_at "rd"
        refine ⟨a, C 3, _, .type "ValueError", true, rfl, .ty _, ea3, R.ec 3 (by decide), R.eg, R.kitV 3 (by decide), ?_⟩
        walk_at "rd"
        refine ⟨(by show 5 ≤ sizeLine; decide), fun l4 nl4 => ?_⟩
        have ea4 : ∀ b u, H b = some u → upd (upd (upd (upd (upd H a (ExK (.ref (C 3)) a)) l1 (.lst [V.bl (decide (3 = 1)), .bl (decide (3 = 2)), .bl (decide (3 = 3))])) l2 (.lst [V.bl (decide (3 = 0)), .bl (decide (3 = 4))])) l3 (.lst ([V.bl (decide (3 = 1)), .bl (decide (3 = 2)), .bl (decide (3 = 3))] ++ [V.bl (decide (3 = 0)), .bl (decide (3 = 4))]))) l4 (.lst [.str "sides", .str "numbers", .str "value", .str "side", .str "number"]) b = some u := fun b u e0 => by
          have e1 := (upd_ne (o := ExK (.ref (C 3)) a) (ne_of_none e0 ha)).trans e0
          have e2 := (upd_ne (o := .lst [V.bl (decide (3 = 1)), .bl (decide (3 = 2)), .bl (decide (3 = 3))]) (ne_of_none e1 nl1)).trans e1
          have e3 := (upd_ne (o := .lst [V.bl (decide (3 = 0)), .bl (decide (3 = 4))]) (ne_of_none e2 nl2)).trans e2
          have e4 := (upd_ne (o := .lst ([V.bl (decide (3 = 1)), .bl (decide (3 = 2)), .bl (decide (3 = 3))] ++ [V.bl (decide (3 = 0)), .bl (decide (3 = 4))])) (ne_of_none e3 nl3)).trans e3
          exact (upd_ne (ne_of_none e4 nl4)).trans e4
        walk_at "rd"
        refine ⟨.inl ⟨rfl, _, SqL.of ((upd_ne (ne_of_none upd_same nl4)).trans upd_same)⟩, ?_⟩
        walk_at "rd"
        refine ⟨l3, _, .bl true, 2, .bl true, rfl, rfl, SqL.of ((upd_ne (ne_of_none upd_same nl4)).trans upd_same), rfl, rfl, rfl, rfl, fun m z' hm hz => ?_, ?_⟩
        · rcases (by omega : m = 0 ∨ m = 1) with rfl | rfl <;> (cases hz; rfl)
        refine ⟨l4, _, _, _, rfl, rfl, SqL.of upd_same, rfl, ?_⟩
        exact q _ ea4
      | good e S d0 ey hk kn kg ez vb => exact absurd d0 (by decide)
end
end HT
namespace HT
open PySem L2
theorem Th.lift {H H' : Hp} (s : Same H H') {x : V} {n : String} (t : Th H x n) : Th H' x n := t.same s
def spWords (K : PySem.W.Frag) : Sp := fun vs H Q _ => ∃ (x y z : V) (r : Str), vs = [x, y, z] ∧ (∀ d, d < 4 → ∀ H', Same H H' → Word K H' d x y z r) ∧ ∀ D H', H D = none → Same H H' → H' D = some (.lst [.str r, .str r, .str r, .str r]) → Q (.ref D) H'
section
variable {P : Program} {w : World} {K : PySem.W.Frag} {mg : Str → Option Value} {base : Heap} {fW : Addr} {dW : FuncData} {C : Nat → Addr}
theorem ok_words {f : Addr} {fd : FuncData} (F : Fun K "_law_words" "_law_words" s_L_words f fd) (B : Blt mg) (Wd : Cal P w K mg base "_law_word" 7 ["_law_door", "_law_sides", "_law_numbers", "_law_value"] (spWord K) fW dW) : FnOk P w K mg base CX0 8 f fd ["_law_sides", "_law_numbers", "_law_value"] (spWords K) := by
  refine F.ok sc_L_words (fun vs H Q E h => ?_) (fun cdv A outer s0 H vs Q E hr h => ?_)
  · obtain ⟨x, y, z, r, rfl, _⟩ := h
    rfl
  · obtain ⟨x, y, z, r, rfl, hw, q⟩ := h
    have nd := sc_L_words.nd
    refine ⟨_, (pss_one (ps_ret (pe_lc (own := [("_law_door", 3)]) (g := gName 3) (tt := tYes) rfl nd (pi_range1 (by rfl) B.range (pa_cons pe_int pa_nil)) (blkOk_by (N := ["_law_sides", "_law_numbers", "_law_value", "_law_door"]) (sc := defScope s_L_words) (by decide +kernel)) (fun _ _ _ _ _ => pg_name (i := 3) nd rfl (Or.inl rfl)) (fun _ _ _ _ _ => pts_nil) (fun _ _ _ _ _ => (pcl Wd hr (by decide) (by rfl) (pa_cons (pv 3) (pa_cons (pv 0) (pa_cons (pv 1) (pa_cons (pv 2) pa_nil))))))))), ?_⟩
    walk_at "rd"
    refine ⟨by decide, by decide, fun D nD => ?_⟩
    refine lc_range (lo := 0) (n := 4) (fun j H5 => H5 D = some (.lst (List.replicate j (V.str r))) ∧ Same H H5) ⟨upd_same, fun b u e => (upd_ne (ne_of_none e nD)).trans e⟩ ?_ ?_
    · rintro j H5 hj ⟨hD, sm⟩
      refine ⟨rfl, ?_⟩
      walk_at "rd"
      refine ⟨j, x, y, z, r, (by show [V.int (0 + (j : Int)), x, y, z] = _; rw [Int.zero_add]), hj, hw j hj H5 sm, fun H6 sm6 => ?_⟩
      refine ⟨_, sm6 _ _ hD, (by rw [List.length_replicate]; exact Nat.lt_trans hj (by decide)), ?_, fun b u e => ?_⟩
      · rw [show List.replicate j (V.str r) ++ [V.str r] = List.replicate (j + 1) (V.str r) from (List.replicate_succ' ..).symm]
        exact upd_same
      · exact (upd_ne (ne_of_none e nD)).trans (sm6 _ _ (sm _ _ e))
    · rintro H5 ⟨hD, sm⟩
      walk_at "rd"
      exact q D H5 nD sm hD
end
end HT
namespace HT
open PySem L2
theorem BadN.same {H H' : Hp} {n : Int} {x : V} (b : BadN H n x) (e : Same H H') : BadN H' n x := by
  cases b with
  | kind t h => exact .kind (t.same e) h
  | len hl h h2 => exact .len (e _ _ hl) h h2
  | item hl h hi t bad good => exact .item (e _ _ hl) h hi (t.same e) bad good
theorem GoodS.same {H H' : Hp} {x : V} (g : GoodS H x) (e : Same H H') : GoodS H' x := let ⟨p, o, s, m, a, b, c⟩ := g; ⟨p, o, s, m, a, e _ _ b, c⟩
theorem BadL.same {K : PySem.W.Frag} {H H' : Hp} {x : V} (b : BadL K H x) (e : Same H H') : BadL K H' x := by
  cases b with
  | kind t h => exact .kind (t.same e) h
  | len hl h => exact .len (e _ _ hl) h
  | item hl h1 h2 hi bad good => exact .item (e _ _ hl) h1 h2 hi (bad.same e) fun j z a b => (good j z a b).same e
theorem rep_len (n : Nat) (x : V) : (List.replicate n [x]).flatten.length = n := by
  rw [List.length_flatten, List.map_replicate, List.sum_replicate_nat]
  simp
theorem rep_zero : some (HO.lst (List.replicate 1000 [V.int 0]).flatten) = some (.lst ((List.replicate 1000 0).map nV)) := by
  have e : ∀ n : Nat, (List.replicate n [V.int 0]).flatten = (List.replicate n 0).map nV := fun n => by
    induction n with
    | zero => rfl
    | succ n ih => rw [List.replicate_succ, List.replicate_succ, List.flatten_cons, ih, List.map_cons]; rfl
  rw [e]
theorem one_side {H : Hp} {l p : Addr} {o s : Int} {m : Str} (hl : H l = some (.lst [.ref p])) (hp : H p = some (sideV o s m)) (S : SideP o s m) : SidesAt H l [.ref p] [⟨o, s, m⟩] :=
  ⟨hl, rfl, (by show 1 ≤ 1; decide), (by show 1 ≤ 4; decide), fun i d h => by
    have : i < 1 := (List.getElem?_eq_some_iff.mp h).1
    obtain rfl : i = 0 := by omega
    cases h
    exact ⟨p, rfl, hp, S⟩⟩
theorem two_sides {H : Hp} {l p q : Addr} (hl : H l = some (.lst [.ref p, .ref q, .ref p, .ref q])) (hp : H p = some (.tup [.int (10 ^ 40), .int (10 ^ 30), .str "half_even"])) (hq : H q = some (.tup [.int (0 - 10 ^ 40), .int 1, .str "up"])) :
    SidesAt H l [.ref p, .ref q, .ref p, .ref q] [⟨10 ^ 40, 10 ^ 30, "half_even"⟩, ⟨0 - 10 ^ 40, 1, "up"⟩, ⟨10 ^ 40, 10 ^ 30, "half_even"⟩, ⟨0 - 10 ^ 40, 1, "up"⟩] :=
  have A : SideP (10 ^ 40) (10 ^ 30) "half_even" := ⟨by decide, by decide, by decide, by decide, .inr (.inr (.inr (.inr rfl)))⟩
  have B : SideP (0 - 10 ^ 40) 1 "up" := ⟨by decide, by decide, by decide, by decide, .inr (.inl rfl)⟩
  ⟨hl, rfl, by decide, by decide, fun i d h => by
    have : i < 4 := (List.getElem?_eq_some_iff.mp h).1
    rcases (by omega : i = 0 ∨ i = 1 ∨ i = 2 ∨ i = 3) with rfl | rfl | rfl | rfl <;> cases h
    · exact ⟨p, rfl, hp, A⟩
    · exact ⟨q, rfl, hq, B⟩
    · exact ⟨p, rfl, hp, A⟩
    · exact ⟨q, rfl, hq, B⟩⟩
def spDoors : Sp := fun vs H Q _ => ∃ (p : Addr) (o s : Int) (m : Str), vs = [.ref p] ∧ H p = some (sideV o s m) ∧ SideP o s m ∧ ∀ H', Same H H' → Q (.bl true) H'
section
variable {P : Program} {w : World} {K : PySem.W.Frag} {mg : Str → Option Value} {base : Heap} {fW fS : Addr} {dW dS : FuncData} {C : Nat → Addr}
theorem ok_doors {f : Addr} {fd : FuncData} (F : Fun K "_law_doors_right" "_law_doors_right" s_L_doors_right f fd) (Wd : Cal P w K mg base "_law_word" 7 ["_law_door", "_law_sides", "_law_numbers", "_law_value"] (spWord K) fW dW) (Ws : Cal P w K mg base "_law_words" 8 ["_law_sides", "_law_numbers", "_law_value"] (spWords K) fS dS) : FnOk P w K mg base CX0 9 f fd ["_law_side_here"] spDoors := by
  refine F.ok sc_L_doors_right (fun vs H Q E h => ?_) (fun cdv A outer s0 H vs Q E hr h => ?_)
  · obtain ⟨p, o, s, m, rfl, _⟩ := h
    rfl
  · obtain ⟨p, o, s, m, rfl, hp, S, q⟩ := h
    have nd := sc_L_doors_right.nd
    refine ⟨_, (pss_cons (ps_set (i := 1) nd rfl (Or.inl rfl) (pe_lst (pa_cons pe_non (pa_cons pe_int (pa_cons (pe_tup pa_nil) (pa_cons (pe_tup (pa_cons pe_int (pa_cons pe_int pa_nil))) (pa_cons (pe_tup (pa_cons pe_int (pa_cons pe_int (pa_cons pe_str (pa_cons pe_int pa_nil))))) (pa_cons (pe_lst (pa_cons pe_int (pa_cons pe_int (pa_cons pe_str pa_nil)))) (pa_cons (pe_tup (pa_cons pe_int (pa_cons pe_int (pa_cons pe_str pa_nil)))) (pa_cons (pe_tup (pa_cons pe_int (pa_cons (pe_un un_neg pe_int) (pa_cons pe_str pa_nil)))) (pa_cons (pe_tup (pa_cons pe_non (pa_cons pe_int (pa_cons pe_str pa_nil)))) pa_nil)))))))))))
      (pss_cons (ps_set (i := 1) nd rfl (Or.inl rfl) (pe_op op_cat (pv 1) (pe_lst (pa_cons (pe_tup (pa_cons pe_int (pa_cons pe_int (pa_cons pe_str pa_nil)))) (pa_cons (pe_tup (pa_cons pe_int (pa_cons pe_int (pa_cons pe_non pa_nil)))) (pa_cons (pe_tup (pa_cons pe_bl (pa_cons pe_int (pa_cons pe_str pa_nil)))) (pa_cons (pe_tup (pa_cons pe_int (pa_cons pe_bl (pa_cons pe_str pa_nil)))) (pa_cons (pe_tup (pa_cons pe_int (pa_cons (pe_op op_add (pe_op op_pow pe_int pe_int) pe_int) (pa_cons pe_str pa_nil)))) (pa_cons pe_str pa_nil)))))))))
      (pss_cons (ps_set (i := 1) nd rfl (Or.inl rfl) (pe_op op_cat (pv 1) (pe_lst (pa_cons (pe_tup (pa_cons (pe_op op_add (pe_op op_pow pe_int pe_int) pe_int) (pa_cons pe_int (pa_cons pe_str pa_nil)))) (pa_cons (pe_tup (pa_cons (pe_op op_sub (pe_op op_sub pe_int (pe_op op_pow pe_int pe_int)) pe_int) (pa_cons pe_int (pa_cons pe_str pa_nil)))) (pa_cons (pe_tup (pa_cons pe_int (pa_cons pe_str (pa_cons pe_str pa_nil)))) (pa_cons (pe_tup (pa_cons pe_int (pa_cons pe_int (pa_cons (pe_lst (pa_cons pe_str pa_nil)) pa_nil)))) (pa_cons pe_dnewK (pa_cons (pe_lst (pa_cons (pv 0) pa_nil)) pa_nil)))))))))
      (pss_cons (ps_for PassesOwn.never rfl (pi_list (pv 1)) (pg_name (i := 2) nd rfl (Or.inl rfl)) (pss_cons (ps_if (PW.pt (pw_or (pt_cmpR (op_neD hr.units) (pcl Ws hr (by decide) (by rfl) (pa_cons (pe_lst (pa_cons (pv 0) (pa_cons (pv 2) pa_nil))) (pa_cons pe_non (pa_cons pe_non pa_nil)))) (pe_op op_rep (pe_lst (pa_cons pe_str pa_nil)) pe_int) (nomark _)) (pw_or1 (pt_cmpR (op_neD hr.units) (pcl Ws hr (by decide) (by rfl) (pa_cons (pe_lst (pa_cons (pv 2) pa_nil)) (pa_cons pe_non (pa_cons pe_non pa_nil)))) (pe_op op_rep (pe_lst (pa_cons pe_str pa_nil)) pe_int) (nomark _))))) (pss_one (ps_ret pe_bl)) pss_nil)
      (pss_one (ps_for PassesOwn.never rfl (pi_list (pe_lst (pa_cons (pe_lst (pa_cons (pv 2) (pa_cons (pv 0) pa_nil))) (pa_cons (pe_lst (pa_cons (pv 0) (pa_cons (pv 2) (pa_cons (pv 0) pa_nil)))) pa_nil)))) (pg_name (i := 3) nd rfl (Or.inl rfl)) (pss_one (ps_if (pt_cmpR (op_neD hr.units) (pcl Ws hr (by decide) (by rfl) (pa_cons (pv 3) (pa_cons pe_non (pa_cons pe_non pa_nil)))) (pe_op op_rep (pe_lst (pa_cons pe_str pa_nil)) pe_int) (nomark _)) (pss_one (ps_ret pe_bl)) pss_nil))))))
      (pss_cons (ps_for PassesOwn.never rfl (pi_list (pe_lst (pa_cons pe_non (pa_cons (pe_lst pa_nil) (pa_cons (pe_tup pa_nil) (pa_cons (pe_tup (pa_cons (pv 0) pa_nil)) (pa_cons (pv 0) (pa_cons (pe_op op_rep (pe_lst (pa_cons (pv 0) pa_nil)) pe_int) (pa_cons pe_dnewK (pa_cons pe_str (pa_cons pe_int pa_nil))))))))))) (pg_name (i := 2) nd rfl (Or.inl rfl)) (pss_one (ps_if (pt_cmpR (op_neD hr.units) (pcl Ws hr (by decide) (by rfl) (pa_cons (pv 2) (pa_cons pe_non (pa_cons pe_non pa_nil)))) (pe_op op_rep (pe_lst (pa_cons pe_str pa_nil)) pe_int) (nomark _)) (pss_one (ps_ret pe_bl)) pss_nil)))
      (pss_cons (ps_set (i := 1) nd rfl (Or.inl rfl) (pe_lst (pa_cons (pe_lst (pa_cons pe_int (pa_cons pe_int pa_nil))) (pa_cons (pe_lst (pa_cons pe_int (pa_cons pe_non (pa_cons pe_int pa_nil)))) (pa_cons (pe_lst (pa_cons pe_int (pa_cons pe_bl pa_nil))) (pa_cons (pe_lst (pa_cons pe_int (pa_cons pe_int (pa_cons (pe_un un_neg pe_int) pa_nil)))) (pa_cons pe_non (pa_cons (pe_tup pa_nil) (pa_cons (pe_tup (pa_cons pe_int pa_nil)) (pa_cons (pe_lst (pa_cons pe_int pa_nil)) (pa_cons (pe_lst (pa_cons (pe_un un_neg pe_int) pa_nil)) (pa_cons (pe_lst (pa_cons pe_bl pa_nil)) (pa_cons (pe_lst (pa_cons pe_bl pa_nil)) (pa_cons (pe_lst (pa_cons pe_str pa_nil)) (pa_cons (pe_lst (pa_cons pe_non pa_nil)) pa_nil)))))))))))))))
      (pss_cons (ps_for PassesOwn.never rfl (pi_list (pe_op op_cat (pv 1) (pe_lst (pa_cons pe_dnewK (pa_cons pe_int (pa_cons pe_str (pa_cons (pe_op op_rep (pe_lst (pa_cons pe_int pa_nil)) pe_int) (pa_cons (pe_lst (pa_cons (pe_lst (pa_cons pe_int pa_nil)) pa_nil)) pa_nil)))))))) (pg_name (i := 2) nd rfl (Or.inl rfl)) (pss_one (ps_if (pt_cmpR op_ne (pcl Wd hr (by decide) (by rfl) (pa_cons pe_int (pa_cons (pe_lst (pa_cons (pv 0) pa_nil)) (pa_cons (pv 2) (pa_cons pe_non pa_nil))))) pe_str (nomark _)) (pss_one (ps_ret pe_bl)) pss_nil)))
      (pss_cons (ps_for PassesOwn.never rfl (pi_list (pe_lst (pa_cons pe_non (pa_cons pe_bl (pa_cons pe_bl (pa_cons pe_str (pa_cons (pe_lst pa_nil) (pa_cons (pe_tup (pa_cons pe_int pa_nil)) pa_nil)))))))) (pg_name (i := 4) nd rfl (Or.inl rfl)) (pss_one (ps_if (PW.pt (pw_or (pt_cmpR (op_neD hr.units) (pcl Ws hr (by decide) (by rfl) (pa_cons (pe_lst (pa_cons (pv 0) pa_nil)) (pa_cons (pe_lst pa_nil) (pa_cons (pv 4) pa_nil)))) (pe_op op_rep (pe_lst (pa_cons pe_str pa_nil)) pe_int) (nomark _)) (pw_or1 (pt_cmpR op_ne (pcl Wd hr (by decide) (by rfl) (pa_cons pe_int (pa_cons (pe_lst (pa_cons (pv 0) pa_nil)) (pa_cons (pe_lst (pa_cons pe_int pa_nil)) (pa_cons (pv 4) pa_nil))))) pe_str (nomark _))))) (pss_one (ps_ret pe_bl)) pss_nil)))
      (pss_cons (ps_set (i := 5) nd rfl (Or.inl rfl) (pe_lst (pa_cons (pe_tup (pa_cons (pe_op op_pow pe_int pe_int) (pa_cons (pe_op op_pow pe_int pe_int) (pa_cons pe_str pa_nil)))) (pa_cons (pe_tup (pa_cons (pe_op op_sub pe_int (pe_op op_pow pe_int pe_int)) (pa_cons pe_int (pa_cons pe_str pa_nil)))) pa_nil))))
      (pss_one (ps_ret (pe_and (pe_cmpR op_eq (pcl Wd hr (by decide) (by rfl) (pa_cons pe_int (pa_cons (pe_op op_rep (pv 5) pe_int) (pa_cons (pe_lst (pa_cons pe_int (pa_cons pe_int (pa_cons pe_int (pa_cons pe_int pa_nil))))) (pa_cons pe_int pa_nil))))) pe_str (nomark _)) (pe_one (pe_cmpR op_eq (pcl Wd hr (by decide) (by rfl) (pa_cons pe_int (pa_cons (pe_lst (pa_cons (pv 0) pa_nil)) (pa_cons (pe_op op_rep (pe_lst (pa_cons pe_int pa_nil)) pe_int) (pa_cons pe_int pa_nil))))) pe_str (nomark _))))))))))))))), ?_⟩
    walk_at "rd"
    walk_at "rd"
    refine ⟨by decide, fun t1 nt1 => ?_⟩
    have ft1 : upd H t1 (.tup []) t1 = some (.tup []) := upd_same
    have sG2 : Same H (upd H t1 (.tup [])) := fun b u z => (upd_ne (ne_of_none z nt1)).trans z
    generalize eG2 : upd H t1 _ = G2
    replace ft1 : G2 t1 = some (.tup []) := eG2 ▸ ft1
    replace sG2 : Same H G2 := eG2 ▸ sG2
    clear eG2
    walk_at "rd"
    refine ⟨(by show 2 ≤ sizeLine; decide), fun t3 nt3 => ?_⟩
    have ft3 : upd G2 t3 (.tup [(V.int 0), (V.int 5)]) t3 = some (.tup [(V.int 0), (V.int 5)]) := upd_same
    have sG4 : Same G2 (upd G2 t3 (.tup [(V.int 0), (V.int 5)])) := fun b u z => (upd_ne (ne_of_none z nt3)).trans z
    generalize eG4 : upd G2 t3 _ = G4
    replace ft3 : G4 t3 = some (.tup [(V.int 0), (V.int 5)]) := eG4 ▸ ft3
    replace sG4 : Same G2 G4 := eG4 ▸ sG4
    clear eG4
    walk_at "rd"
    refine ⟨(by show 4 ≤ sizeLine; decide), fun t5 nt5 => ?_⟩
    have ft5 : upd G4 t5 (.tup [(V.int 0), (V.int 5), (V.str "down"), (V.int 0)]) t5 = some (.tup [(V.int 0), (V.int 5), (V.str "down"), (V.int 0)]) := upd_same
    have sG6 : Same G4 (upd G4 t5 (.tup [(V.int 0), (V.int 5), (V.str "down"), (V.int 0)])) := fun b u z => (upd_ne (ne_of_none z nt5)).trans z
    generalize eG6 : upd G4 t5 _ = G6
    replace ft5 : G6 t5 = some (.tup [(V.int 0), (V.int 5), (V.str "down"), (V.int 0)]) := eG6 ▸ ft5
    replace sG6 : Same G4 G6 := eG6 ▸ sG6
    clear eG6
    walk_at "rd"
    refine ⟨(by show 3 ≤ sizeLine; decide), fun l7 nl7 => ?_⟩
    have fl7 : upd G6 l7 (.lst [(V.int 0), (V.int 5), (V.str "down")]) l7 = some (.lst [(V.int 0), (V.int 5), (V.str "down")]) := upd_same
    have sG8 : Same G6 (upd G6 l7 (.lst [(V.int 0), (V.int 5), (V.str "down")])) := fun b u z => (upd_ne (ne_of_none z nl7)).trans z
    generalize eG8 : upd G6 l7 _ = G8
    replace fl7 : G8 l7 = some (.lst [(V.int 0), (V.int 5), (V.str "down")]) := eG8 ▸ fl7
    replace sG8 : Same G6 G8 := eG8 ▸ sG8
    clear eG8
    walk_at "rd"
    refine ⟨(by show 3 ≤ sizeLine; decide), fun t9 nt9 => ?_⟩
    have ft9 : upd G8 t9 (.tup [(V.int 0), (V.int 0), (V.str "down")]) t9 = some (.tup [(V.int 0), (V.int 0), (V.str "down")]) := upd_same
    have sG10 : Same G8 (upd G8 t9 (.tup [(V.int 0), (V.int 0), (V.str "down")])) := fun b u z => (upd_ne (ne_of_none z nt9)).trans z
    generalize eG10 : upd G8 t9 _ = G10
    replace ft9 : G10 t9 = some (.tup [(V.int 0), (V.int 0), (V.str "down")]) := eG10 ▸ ft9
    replace sG10 : Same G8 G10 := eG10 ▸ sG10
    clear eG10
    walk_at "rd"
    walk_at "rd"
    refine ⟨(by show 3 ≤ sizeLine; decide), fun t11 nt11 => ?_⟩
    have ft11 : upd G10 t11 (.tup [(V.int 0), (V.int (-1)), (V.str "up")]) t11 = some (.tup [(V.int 0), (V.int (-1)), (V.str "up")]) := upd_same
    have sG12 : Same G10 (upd G10 t11 (.tup [(V.int 0), (V.int (-1)), (V.str "up")])) := fun b u z => (upd_ne (ne_of_none z nt11)).trans z
    generalize eG12 : upd G10 t11 _ = G12
    replace ft11 : G12 t11 = some (.tup [(V.int 0), (V.int (-1)), (V.str "up")]) := eG12 ▸ ft11
    replace sG12 : Same G10 G12 := eG12 ▸ sG12
    clear eG12
    walk_at "rd"
    refine ⟨(by show 3 ≤ sizeLine; decide), fun t13 nt13 => ?_⟩
    have ft13 : upd G12 t13 (.tup [V.non, (V.int 5), (V.str "up")]) t13 = some (.tup [V.non, (V.int 5), (V.str "up")]) := upd_same
    have sG14 : Same G12 (upd G12 t13 (.tup [V.non, (V.int 5), (V.str "up")])) := fun b u z => (upd_ne (ne_of_none z nt13)).trans z
    generalize eG14 : upd G12 t13 _ = G14
    replace ft13 : G14 t13 = some (.tup [V.non, (V.int 5), (V.str "up")]) := eG14 ▸ ft13
    replace sG14 : Same G12 G14 := eG14 ▸ sG14
    clear eG14
    walk_at "rd"
    refine ⟨(by show 9 ≤ sizeLine; decide), fun l15 nl15 => ?_⟩
    have fl15 : upd G14 l15 (.lst [V.non, (V.int 7), (V.ref t1), (V.ref t3), (V.ref t5), (V.ref l7), (V.ref t9), (V.ref t11), (V.ref t13)]) l15 = some (.lst [V.non, (V.int 7), (V.ref t1), (V.ref t3), (V.ref t5), (V.ref l7), (V.ref t9), (V.ref t11), (V.ref t13)]) := upd_same
    have sG16 : Same G14 (upd G14 l15 (.lst [V.non, (V.int 7), (V.ref t1), (V.ref t3), (V.ref t5), (V.ref l7), (V.ref t9), (V.ref t11), (V.ref t13)])) := fun b u z => (upd_ne (ne_of_none z nl15)).trans z
    generalize eG16 : upd G14 l15 _ = G16
    replace fl15 : G16 l15 = some (.lst [V.non, (V.int 7), (V.ref t1), (V.ref t3), (V.ref t5), (V.ref l7), (V.ref t9), (V.ref t11), (V.ref t13)]) := eG16 ▸ fl15
    replace sG16 : Same G14 G16 := eG16 ▸ sG16
    clear eG16
    walk_at "rd"
    walk_at "rd"
    refine ⟨(by show 3 ≤ sizeLine; decide), fun t17 nt17 => ?_⟩
    have ft17 : upd G16 t17 (.tup [(V.int 0), (V.int 5), (V.str "near")]) t17 = some (.tup [(V.int 0), (V.int 5), (V.str "near")]) := upd_same
    have sG18 : Same G16 (upd G16 t17 (.tup [(V.int 0), (V.int 5), (V.str "near")])) := fun b u z => (upd_ne (ne_of_none z nt17)).trans z
    generalize eG18 : upd G16 t17 _ = G18
    replace ft17 : G18 t17 = some (.tup [(V.int 0), (V.int 5), (V.str "near")]) := eG18 ▸ ft17
    replace sG18 : Same G16 G18 := eG18 ▸ sG18
    clear eG18
    walk_at "rd"
    refine ⟨(by show 3 ≤ sizeLine; decide), fun t19 nt19 => ?_⟩
    have ft19 : upd G18 t19 (.tup [(V.int 0), (V.int 5), V.non]) t19 = some (.tup [(V.int 0), (V.int 5), V.non]) := upd_same
    have sG20 : Same G18 (upd G18 t19 (.tup [(V.int 0), (V.int 5), V.non])) := fun b u z => (upd_ne (ne_of_none z nt19)).trans z
    generalize eG20 : upd G18 t19 _ = G20
    replace ft19 : G20 t19 = some (.tup [(V.int 0), (V.int 5), V.non]) := eG20 ▸ ft19
    replace sG20 : Same G18 G20 := eG20 ▸ sG20
    clear eG20
    walk_at "rd"
    refine ⟨(by show 3 ≤ sizeLine; decide), fun t21 nt21 => ?_⟩
    have ft21 : upd G20 t21 (.tup [(V.bl true), (V.int 5), (V.str "up")]) t21 = some (.tup [(V.bl true), (V.int 5), (V.str "up")]) := upd_same
    have sG22 : Same G20 (upd G20 t21 (.tup [(V.bl true), (V.int 5), (V.str "up")])) := fun b u z => (upd_ne (ne_of_none z nt21)).trans z
    generalize eG22 : upd G20 t21 _ = G22
    replace ft21 : G22 t21 = some (.tup [(V.bl true), (V.int 5), (V.str "up")]) := eG22 ▸ ft21
    replace sG22 : Same G20 G22 := eG22 ▸ sG22
    clear eG22
    walk_at "rd"
    refine ⟨(by show 3 ≤ sizeLine; decide), fun t23 nt23 => ?_⟩
    have ft23 : upd G22 t23 (.tup [(V.int 0), (V.bl true), (V.str "up")]) t23 = some (.tup [(V.int 0), (V.bl true), (V.str "up")]) := upd_same
    have sG24 : Same G22 (upd G22 t23 (.tup [(V.int 0), (V.bl true), (V.str "up")])) := fun b u z => (upd_ne (ne_of_none z nt23)).trans z
    generalize eG24 : upd G22 t23 _ = G24
    replace ft23 : G24 t23 = some (.tup [(V.int 0), (V.bl true), (V.str "up")]) := eG24 ▸ ft23
    replace sG24 : Same G22 G24 := eG24 ▸ sG24
    clear eG24
    walk_at "rd"
    refine ⟨⟨by decide, by decide, by decide⟩, ?_⟩
    walk_at "rd"
    walk_at "rd"
    refine ⟨(by show 3 ≤ sizeLine; decide), fun t25 nt25 => ?_⟩
    have ft25 : upd G24 t25 (.tup [(V.int 0), (V.int (10 ^ 30 + 1)), (V.str "up")]) t25 = some (.tup [(V.int 0), (V.int (10 ^ 30 + 1)), (V.str "up")]) := upd_same
    have sG26 : Same G24 (upd G24 t25 (.tup [(V.int 0), (V.int (10 ^ 30 + 1)), (V.str "up")])) := fun b u z => (upd_ne (ne_of_none z nt25)).trans z
    generalize eG26 : upd G24 t25 _ = G26
    replace ft25 : G26 t25 = some (.tup [(V.int 0), (V.int (10 ^ 30 + 1)), (V.str "up")]) := eG26 ▸ ft25
    replace sG26 : Same G24 G26 := eG26 ▸ sG26
    clear eG26
    walk_at "rd"
    refine ⟨(by show 6 ≤ sizeLine; decide), fun l27 nl27 => ?_⟩
    have fl27 : upd G26 l27 (.lst [(V.ref t17), (V.ref t19), (V.ref t21), (V.ref t23), (V.ref t25), (V.str "down")]) l27 = some (.lst [(V.ref t17), (V.ref t19), (V.ref t21), (V.ref t23), (V.ref t25), (V.str "down")]) := upd_same
    have sG28 : Same G26 (upd G26 l27 (.lst [(V.ref t17), (V.ref t19), (V.ref t21), (V.ref t23), (V.ref t25), (V.str "down")])) := fun b u z => (upd_ne (ne_of_none z nl27)).trans z
    generalize eG28 : upd G26 l27 _ = G28
    replace fl27 : G28 l27 = some (.lst [(V.ref t17), (V.ref t19), (V.ref t21), (V.ref t23), (V.ref t25), (V.str "down")]) := eG28 ▸ fl27
    replace sG28 : Same G26 G28 := eG28 ▸ sG28
    clear eG28
    refine ⟨l15, l27, _, _, rfl, rfl, ((((((sG18.trans sG20).trans sG22).trans sG24).trans sG26).trans sG28) _ _ fl15), ((Same.refl _) _ _ fl27), (by show 15 ≤ sizeLine; decide), fun l29 nl29 => ?_⟩
    have fl29 : upd G28 l29 (.lst [V.non, (V.int 7), (V.ref t1), (V.ref t3), (V.ref t5), (V.ref l7), (V.ref t9), (V.ref t11), (V.ref t13), (V.ref t17), (V.ref t19), (V.ref t21), (V.ref t23), (V.ref t25), (V.str "down")]) l29 = some (.lst [V.non, (V.int 7), (V.ref t1), (V.ref t3), (V.ref t5), (V.ref l7), (V.ref t9), (V.ref t11), (V.ref t13), (V.ref t17), (V.ref t19), (V.ref t21), (V.ref t23), (V.ref t25), (V.str "down")]) := upd_same
    have sG30 : Same G28 (upd G28 l29 (.lst [V.non, (V.int 7), (V.ref t1), (V.ref t3), (V.ref t5), (V.ref l7), (V.ref t9), (V.ref t11), (V.ref t13), (V.ref t17), (V.ref t19), (V.ref t21), (V.ref t23), (V.ref t25), (V.str "down")])) := fun b u z => (upd_ne (ne_of_none z nl29)).trans z
    generalize eG30 : upd G28 l29 _ = G30
    replace fl29 : G30 l29 = some (.lst [V.non, (V.int 7), (V.ref t1), (V.ref t3), (V.ref t5), (V.ref l7), (V.ref t9), (V.ref t11), (V.ref t13), (V.ref t17), (V.ref t19), (V.ref t21), (V.ref t23), (V.ref t25), (V.str "down")]) := eG30 ▸ fl29
    replace sG30 : Same G28 G30 := eG30 ▸ sG30
    clear eG30
    walk_at "rd"
    walk_at "rd"
    refine ⟨⟨by decide, by decide, by decide⟩, ?_⟩
    walk_at "rd"
    walk_at "rd"
    refine ⟨(by show 3 ≤ sizeLine; decide), fun t31 nt31 => ?_⟩
    have ft31 : upd G30 t31 (.tup [(V.int (10 ^ 40 + 1)), (V.int 5), (V.str "up")]) t31 = some (.tup [(V.int (10 ^ 40 + 1)), (V.int 5), (V.str "up")]) := upd_same
    have sG32 : Same G30 (upd G30 t31 (.tup [(V.int (10 ^ 40 + 1)), (V.int 5), (V.str "up")])) := fun b u z => (upd_ne (ne_of_none z nt31)).trans z
    generalize eG32 : upd G30 t31 _ = G32
    replace ft31 : G32 t31 = some (.tup [(V.int (10 ^ 40 + 1)), (V.int 5), (V.str "up")]) := eG32 ▸ ft31
    replace sG32 : Same G30 G32 := eG32 ▸ sG32
    clear eG32
    walk_at "rd"
    refine ⟨⟨by decide, by decide, by decide⟩, ?_⟩
    walk_at "rd"
    walk_at "rd"
    refine ⟨(by show 3 ≤ sizeLine; decide), fun t33 nt33 => ?_⟩
    have ft33 : upd G32 t33 (.tup [(V.int (0 - 10 ^ 40 - 1)), (V.int 5), (V.str "up")]) t33 = some (.tup [(V.int (0 - 10 ^ 40 - 1)), (V.int 5), (V.str "up")]) := upd_same
    have sG34 : Same G32 (upd G32 t33 (.tup [(V.int (0 - 10 ^ 40 - 1)), (V.int 5), (V.str "up")])) := fun b u z => (upd_ne (ne_of_none z nt33)).trans z
    generalize eG34 : upd G32 t33 _ = G34
    replace ft33 : G34 t33 = some (.tup [(V.int (0 - 10 ^ 40 - 1)), (V.int 5), (V.str "up")]) := eG34 ▸ ft33
    replace sG34 : Same G32 G34 := eG34 ▸ sG34
    clear eG34
    walk_at "rd"
    refine ⟨(by show 3 ≤ sizeLine; decide), fun t35 nt35 => ?_⟩
    have ft35 : upd G34 t35 (.tup [(V.int 0), (V.str "5"), (V.str "up")]) t35 = some (.tup [(V.int 0), (V.str "5"), (V.str "up")]) := upd_same
    have sG36 : Same G34 (upd G34 t35 (.tup [(V.int 0), (V.str "5"), (V.str "up")])) := fun b u z => (upd_ne (ne_of_none z nt35)).trans z
    generalize eG36 : upd G34 t35 _ = G36
    replace ft35 : G36 t35 = some (.tup [(V.int 0), (V.str "5"), (V.str "up")]) := eG36 ▸ ft35
    replace sG36 : Same G34 G36 := eG36 ▸ sG36
    clear eG36
    walk_at "rd"
    refine ⟨(by show 1 ≤ sizeLine; decide), fun l37 nl37 => ?_⟩
    have fl37 : upd G36 l37 (.lst [(V.str "up")]) l37 = some (.lst [(V.str "up")]) := upd_same
    have sG38 : Same G36 (upd G36 l37 (.lst [(V.str "up")])) := fun b u z => (upd_ne (ne_of_none z nl37)).trans z
    generalize eG38 : upd G36 l37 _ = G38
    replace fl37 : G38 l37 = some (.lst [(V.str "up")]) := eG38 ▸ fl37
    replace sG38 : Same G36 G38 := eG38 ▸ sG38
    clear eG38
    walk_at "rd"
    refine ⟨(by show 3 ≤ sizeLine; decide), fun t39 nt39 => ?_⟩
    have ft39 : upd G38 t39 (.tup [(V.int 0), (V.int 5), (V.ref l37)]) t39 = some (.tup [(V.int 0), (V.int 5), (V.ref l37)]) := upd_same
    have sG40 : Same G38 (upd G38 t39 (.tup [(V.int 0), (V.int 5), (V.ref l37)])) := fun b u z => (upd_ne (ne_of_none z nt39)).trans z
    generalize eG40 : upd G38 t39 _ = G40
    replace ft39 : G40 t39 = some (.tup [(V.int 0), (V.int 5), (V.ref l37)]) := eG40 ▸ ft39
    replace sG40 : Same G38 G40 := eG40 ▸ sG40
    clear eG40
    walk_at "rd"
    intro k41 nk41
    have fk41 : upd G40 k41 (.dK []) k41 = some (.dK []) := upd_same
    have sG42 : Same G40 (upd G40 k41 (.dK [])) := fun b u z => (upd_ne (ne_of_none z nk41)).trans z
    generalize eG42 : upd G40 k41 _ = G42
    replace fk41 : G42 k41 = some (.dK []) := eG42 ▸ fk41
    replace sG42 : Same G40 G42 := eG42 ▸ sG42
    clear eG42
    walk_at "rd"
    walk_at "rd"
    refine ⟨(by show 1 ≤ sizeLine; decide), fun l43 nl43 => ?_⟩
    have fl43 : upd G42 l43 (.lst [(V.ref p)]) l43 = some (.lst [(V.ref p)]) := upd_same
    have sG44 : Same G42 (upd G42 l43 (.lst [(V.ref p)])) := fun b u z => (upd_ne (ne_of_none z nl43)).trans z
    generalize eG44 : upd G42 l43 _ = G44
    replace fl43 : G44 l43 = some (.lst [(V.ref p)]) := eG44 ▸ fl43
    replace sG44 : Same G42 G44 := eG44 ▸ sG44
    clear eG44
    walk_at "rd"
    refine ⟨(by show 6 ≤ sizeLine; decide), fun l45 nl45 => ?_⟩
    have fl45 : upd G44 l45 (.lst [(V.ref t31), (V.ref t33), (V.ref t35), (V.ref t39), (V.ref k41), (V.ref l43)]) l45 = some (.lst [(V.ref t31), (V.ref t33), (V.ref t35), (V.ref t39), (V.ref k41), (V.ref l43)]) := upd_same
    have sG46 : Same G44 (upd G44 l45 (.lst [(V.ref t31), (V.ref t33), (V.ref t35), (V.ref t39), (V.ref k41), (V.ref l43)])) := fun b u z => (upd_ne (ne_of_none z nl45)).trans z
    generalize eG46 : upd G44 l45 _ = G46
    replace fl45 : G46 l45 = some (.lst [(V.ref t31), (V.ref t33), (V.ref t35), (V.ref t39), (V.ref k41), (V.ref l43)]) := eG46 ▸ fl45
    replace sG46 : Same G44 G46 := eG46 ▸ sG46
    clear eG46
    refine ⟨l29, l45, _, _, rfl, rfl, ((((((((sG32.trans sG34).trans sG36).trans sG38).trans sG40).trans sG42).trans sG44).trans sG46) _ _ fl29), ((Same.refl _) _ _ fl45), (by show 21 ≤ sizeLine; decide), fun l47 nl47 => ?_⟩
    have fl47 : upd G46 l47 (.lst [V.non, (V.int 7), (V.ref t1), (V.ref t3), (V.ref t5), (V.ref l7), (V.ref t9), (V.ref t11), (V.ref t13), (V.ref t17), (V.ref t19), (V.ref t21), (V.ref t23), (V.ref t25), (V.str "down"), (V.ref t31), (V.ref t33), (V.ref t35), (V.ref t39), (V.ref k41), (V.ref l43)]) l47 = some (.lst [V.non, (V.int 7), (V.ref t1), (V.ref t3), (V.ref t5), (V.ref l7), (V.ref t9), (V.ref t11), (V.ref t13), (V.ref t17), (V.ref t19), (V.ref t21), (V.ref t23), (V.ref t25), (V.str "down"), (V.ref t31), (V.ref t33), (V.ref t35), (V.ref t39), (V.ref k41), (V.ref l43)]) := upd_same
    have sG48 : Same G46 (upd G46 l47 (.lst [V.non, (V.int 7), (V.ref t1), (V.ref t3), (V.ref t5), (V.ref l7), (V.ref t9), (V.ref t11), (V.ref t13), (V.ref t17), (V.ref t19), (V.ref t21), (V.ref t23), (V.ref t25), (V.str "down"), (V.ref t31), (V.ref t33), (V.ref t35), (V.ref t39), (V.ref k41), (V.ref l43)])) := fun b u z => (upd_ne (ne_of_none z nl47)).trans z
    generalize eG48 : upd G46 l47 _ = G48
    replace fl47 : G48 l47 = some (.lst [V.non, (V.int 7), (V.ref t1), (V.ref t3), (V.ref t5), (V.ref l7), (V.ref t9), (V.ref t11), (V.ref t13), (V.ref t17), (V.ref t19), (V.ref t21), (V.ref t23), (V.ref t25), (V.str "down"), (V.ref t31), (V.ref t33), (V.ref t35), (V.ref t39), (V.ref k41), (V.ref l43)]) := eG48 ▸ fl47
    replace sG48 : Same G46 G48 := eG48 ▸ sG48
    clear eG48
    have bads : ∀ y ∈ [V.non, (V.int 7), (V.ref t1), (V.ref t3), (V.ref t5), (V.ref l7), (V.ref t9), (V.ref t11), (V.ref t13), (V.ref t17), (V.ref t19), (V.ref t21), (V.ref t23), (V.ref t25), (V.str "down"), (V.ref t31), (V.ref t33), (V.ref t35), (V.ref t39), (V.ref k41), (V.ref l43)], BadS K G48 y := by
      intro y hy
      simp only [List.mem_cons, List.not_mem_nil, or_false] at hy
      rcases hy with rfl | rfl | rfl | rfl | rfl | rfl | rfl | rfl | rfl | rfl | rfl | rfl | rfl | rfl | rfl | rfl | rfl | rfl | rfl | rfl | rfl
      · exact .kind .non (by decide)
      · exact .kind (.int _) (by decide)
      · exact .len (((((((((((((((((((((((sG4.trans sG6).trans sG8).trans sG10).trans sG12).trans sG14).trans sG16).trans sG18).trans sG20).trans sG22).trans sG24).trans sG26).trans sG28).trans sG30).trans sG32).trans sG34).trans sG36).trans sG38).trans sG40).trans sG42).trans sG44).trans sG46).trans sG48) _ _ ft1) (by decide)
      · exact .len ((((((((((((((((((((((sG6.trans sG8).trans sG10).trans sG12).trans sG14).trans sG16).trans sG18).trans sG20).trans sG22).trans sG24).trans sG26).trans sG28).trans sG30).trans sG32).trans sG34).trans sG36).trans sG38).trans sG40).trans sG42).trans sG44).trans sG46).trans sG48) _ _ ft3) (by decide)
      · exact .len (((((((((((((((((((((sG8.trans sG10).trans sG12).trans sG14).trans sG16).trans sG18).trans sG20).trans sG22).trans sG24).trans sG26).trans sG28).trans sG30).trans sG32).trans sG34).trans sG36).trans sG38).trans sG40).trans sG42).trans sG44).trans sG46).trans sG48) _ _ ft5) (by decide)
      · exact .kind (.lst ((((((((((((((((((((sG10.trans sG12).trans sG14).trans sG16).trans sG18).trans sG20).trans sG22).trans sG24).trans sG26).trans sG28).trans sG30).trans sG32).trans sG34).trans sG36).trans sG38).trans sG40).trans sG42).trans sG44).trans sG46).trans sG48) _ _ fl7)) (by decide)
      · exact .stp (((((((((((((((((((sG12.trans sG14).trans sG16).trans sG18).trans sG20).trans sG22).trans sG24).trans sG26).trans sG28).trans sG30).trans sG32).trans sG34).trans sG36).trans sG38).trans sG40).trans sG42).trans sG44).trans sG46).trans sG48) _ _ ft9) (.int _) (by decide +kernel) (.int _) (by decide +kernel)
      · exact .stp ((((((((((((((((((sG14.trans sG16).trans sG18).trans sG20).trans sG22).trans sG24).trans sG26).trans sG28).trans sG30).trans sG32).trans sG34).trans sG36).trans sG38).trans sG40).trans sG42).trans sG44).trans sG46).trans sG48) _ _ ft11) (.int _) (by decide +kernel) (.int _) (by decide +kernel)
      · exact .off (((((((((((((((((sG16.trans sG18).trans sG20).trans sG22).trans sG24).trans sG26).trans sG28).trans sG30).trans sG32).trans sG34).trans sG36).trans sG38).trans sG40).trans sG42).trans sG44).trans sG46).trans sG48) _ _ ft13) .non (by decide +kernel)
      · exact .mod (((((((((((((((sG20.trans sG22).trans sG24).trans sG26).trans sG28).trans sG30).trans sG32).trans sG34).trans sG36).trans sG38).trans sG40).trans sG42).trans sG44).trans sG46).trans sG48) _ _ ft17) (.int _) (by decide +kernel) (.int _) (by decide +kernel) (.str _) ⟨by decide +kernel, by decide +kernel⟩
      · exact .mod ((((((((((((((sG22.trans sG24).trans sG26).trans sG28).trans sG30).trans sG32).trans sG34).trans sG36).trans sG38).trans sG40).trans sG42).trans sG44).trans sG46).trans sG48) _ _ ft19) (.int _) (by decide +kernel) (.int _) (by decide +kernel) .non ⟨by decide +kernel, by decide +kernel⟩
      · exact .off (((((((((((((sG24.trans sG26).trans sG28).trans sG30).trans sG32).trans sG34).trans sG36).trans sG38).trans sG40).trans sG42).trans sG44).trans sG46).trans sG48) _ _ ft21) (.bl _) (by decide +kernel)
      · exact .stp ((((((((((((sG26.trans sG28).trans sG30).trans sG32).trans sG34).trans sG36).trans sG38).trans sG40).trans sG42).trans sG44).trans sG46).trans sG48) _ _ ft23) (.int _) (by decide +kernel) (.bl _) (by decide +kernel)
      · exact .stp (((((((((((sG28.trans sG30).trans sG32).trans sG34).trans sG36).trans sG38).trans sG40).trans sG42).trans sG44).trans sG46).trans sG48) _ _ ft25) (.int _) (by decide +kernel) (.int _) (by decide +kernel)
      · exact .kind (.str _) (by decide)
      · exact .off ((((((((sG34.trans sG36).trans sG38).trans sG40).trans sG42).trans sG44).trans sG46).trans sG48) _ _ ft31) (.int _) (by decide +kernel)
      · exact .off (((((((sG36.trans sG38).trans sG40).trans sG42).trans sG44).trans sG46).trans sG48) _ _ ft33) (.int _) (by decide +kernel)
      · exact .stp ((((((sG38.trans sG40).trans sG42).trans sG44).trans sG46).trans sG48) _ _ ft35) (.int _) (by decide +kernel) (.str _) (by decide +kernel)
      · exact .mod ((((sG42.trans sG44).trans sG46).trans sG48) _ _ ft39) (.int _) (by decide +kernel) (.int _) (by decide +kernel) (.one (((((sG40.trans sG42).trans sG44).trans sG46).trans sG48) _ _ fl37)) ⟨by decide +kernel, by decide +kernel⟩
      · exact .kind (.dk (((sG44.trans sG46).trans sG48) _ _ fk41)) (by decide)
      · exact .kind (.lst ((sG46.trans sG48) _ _ fl43)) (by decide)
    have hp1 : G48 p = some (sideV o s m) := (((((((((((((((((((((((sG2.trans sG4).trans sG6).trans sG8).trans sG10).trans sG12).trans sG14).trans sG16).trans sG18).trans sG20).trans sG22).trans sG24).trans sG26).trans sG28).trans sG30).trans sG32).trans sG34).trans sG36).trans sG38).trans sG40).trans sG42).trans sG44).trans sG46).trans sG48) _ _ hp
    have hL1 : G48 l47 = some (.lst [V.non, (V.int 7), (V.ref t1), (V.ref t3), (V.ref t5), (V.ref l7), (V.ref t9), (V.ref t11), (V.ref t13), (V.ref t17), (V.ref t19), (V.ref t21), (V.ref t23), (V.ref t25), (V.str "down"), (V.ref t31), (V.ref t33), (V.ref t35), (V.ref t39), (V.ref k41), (V.ref l43)]) := fl47
    walk_at "rd"
    refine ⟨⟨_, SqL.of hL1⟩, ?_⟩
    refine for_list (K := K) (a := l47) (xs := [V.non, (V.int 7), (V.ref t1), (V.ref t3), (V.ref t5), (V.ref l7), (V.ref t9), (V.ref t11), (V.ref t13), (V.ref t17), (V.ref t19), (V.ref t21), (V.ref t23), (V.ref t25), (V.str "down"), (V.ref t31), (V.ref t33), (V.ref t35), (V.ref t39), (V.ref k41), (V.ref l43)]) (fun _ st H1 => ∃ (x2 x3 : Option V), st = [some (.ref p), some (.ref l47), x2, x3, none, none] ∧ Same G48 H1)
      ⟨none, none, rfl, Same.refl _⟩ (fun _ _ _ _ ⟨_, _, _, sm⟩ => SqL.of (sm _ _ hL1)) ?_ ?_
    · rintro i y st H1 hy ⟨x2, x3, rfl, sm1⟩
      have by0 := bads y (List.mem_of_getElem? hy)
      have gp : GoodS G48 (V.ref p) := ⟨p, _, _, _, rfl, hp1, S⟩
      walk_at "rd"
      walk_at "rd"
      walk_at "rd"
      walk_at "rd"
      refine ⟨(by show 2 ≤ sizeLine; decide), fun l49 nl49 => ?_⟩
      have fl49 : upd H1 l49 (.lst [(V.ref p), y]) l49 = some (.lst [(V.ref p), y]) := upd_same
      have sG50 : Same H1 (upd H1 l49 (.lst [(V.ref p), y])) := fun b u z => (upd_ne (ne_of_none z nl49)).trans z
      generalize eG50 : upd H1 l49 _ = G50
      replace fl49 : G50 l49 = some (.lst [(V.ref p), y]) := eG50 ▸ fl49
      replace sG50 : Same H1 G50 := eG50 ▸ sG50
      clear eG50
      walk_at "rd"
      refine ⟨(V.ref l49), .non, .non, "sides", rfl, (fun d hd H' s' => .sides (.item (i := 1) (s' _ _ ((Same.refl _) _ _ fl49)) (by show 1 ≤ 2; decide) (by show 2 ≤ 4; decide) rfl ((by0.same (sm1.trans sG50)).same s') (fun j z hj hz => by rcases (by omega : j = 0) with rfl; cases hz; exact ⟨p, _, _, _, rfl, s' _ _ ((sm1.trans sG50) _ _ hp1), S⟩))), fun D51 G52 nD51 sG52 hD51 => ?_⟩
      walk_at "rd"
      walk_at "rd"
      refine ⟨(by show 1 ≤ sizeLine; decide), fun l53 nl53 => ?_⟩
      have fl53 : upd G52 l53 (.lst [(V.str "sides")]) l53 = some (.lst [(V.str "sides")]) := upd_same
      have sG54 : Same G52 (upd G52 l53 (.lst [(V.str "sides")])) := fun b u z => (upd_ne (ne_of_none z nl53)).trans z
      generalize eG54 : upd G52 l53 _ = G54
      replace fl53 : G54 l53 = some (.lst [(V.str "sides")]) := eG54 ▸ fl53
      replace sG54 : Same G52 G54 := eG54 ▸ sG54
      clear eG54
      walk_at "rd"
      refine ⟨l53, 4, _, rfl, rfl, (Same.refl _) _ _ fl53, by decide, by decide, (by show 4 ≤ sizeLine; decide), fun l55 nl55 => ?_⟩
      have fl55 : upd G54 l55 (.lst [(V.str "sides"), (V.str "sides"), (V.str "sides"), (V.str "sides")]) l55 = some (.lst [(V.str "sides"), (V.str "sides"), (V.str "sides"), (V.str "sides")]) := upd_same
      have sG56 : Same G54 (upd G54 l55 (.lst [(V.str "sides"), (V.str "sides"), (V.str "sides"), (V.str "sides")])) := fun b u z => (upd_ne (ne_of_none z nl55)).trans z
      generalize eG56 : upd G54 l55 _ = G56
      replace fl55 : G56 l55 = some (.lst [(V.str "sides"), (V.str "sides"), (V.str "sides"), (V.str "sides")]) := eG56 ▸ fl55
      replace sG56 : Same G54 G56 := eG56 ▸ sG56
      clear eG56
      walk_at "rd"
      refine ⟨.list [.str "sides", .str "sides", .str "sides", .str "sides"], .list [.str "sides", .str "sides", .str "sides", .str "sides"], .lst (SqL.of ((sG54.trans sG56) _ _ hD51)) (.cons (.str _) (.cons (.str _) (.cons (.str _) (.cons (.str _) .nil)))), .lst (SqL.of fl55) (.cons (.str _) (.cons (.str _) (.cons (.str _) (.cons (.str _) .nil)))), by decide +kernel, by decide +kernel, ?_⟩
      walk_at "rd"
      first
        | refine ite2 (fun z => (not_t z (SeqAt.eqv_refl (.list [.str "sides", .str "sides", .str "sides", .str "sides"]) (by decide +kernel))).elim) (fun _ => ?_)
        | skip
      walk_at "rd"
      walk_at "rd"
      walk_at "rd"
      refine ⟨(by show 1 ≤ sizeLine; decide), fun l57 nl57 => ?_⟩
      have fl57 : upd G56 l57 (.lst [y]) l57 = some (.lst [y]) := upd_same
      have sG58 : Same G56 (upd G56 l57 (.lst [y])) := fun b u z => (upd_ne (ne_of_none z nl57)).trans z
      generalize eG58 : upd G56 l57 _ = G58
      replace fl57 : G58 l57 = some (.lst [y]) := eG58 ▸ fl57
      replace sG58 : Same G56 G58 := eG58 ▸ sG58
      clear eG58
      walk_at "rd"
      refine ⟨(V.ref l57), .non, .non, "sides", rfl, (fun d hd H' s' => .sides (.item (i := 0) (s' _ _ ((Same.refl _) _ _ fl57)) (by show 1 ≤ 1; decide) (by show 1 ≤ 4; decide) rfl ((by0.same (((((sm1.trans sG50).trans sG52).trans sG54).trans sG56).trans sG58)).same s') (fun j z hj hz => absurd hj (Nat.not_lt_zero _)))), fun D59 G60 nD59 sG60 hD59 => ?_⟩
      walk_at "rd"
      walk_at "rd"
      refine ⟨(by show 1 ≤ sizeLine; decide), fun l61 nl61 => ?_⟩
      have fl61 : upd G60 l61 (.lst [(V.str "sides")]) l61 = some (.lst [(V.str "sides")]) := upd_same
      have sG62 : Same G60 (upd G60 l61 (.lst [(V.str "sides")])) := fun b u z => (upd_ne (ne_of_none z nl61)).trans z
      generalize eG62 : upd G60 l61 _ = G62
      replace fl61 : G62 l61 = some (.lst [(V.str "sides")]) := eG62 ▸ fl61
      replace sG62 : Same G60 G62 := eG62 ▸ sG62
      clear eG62
      walk_at "rd"
      refine ⟨l61, 4, _, rfl, rfl, (Same.refl _) _ _ fl61, by decide, by decide, (by show 4 ≤ sizeLine; decide), fun l63 nl63 => ?_⟩
      have fl63 : upd G62 l63 (.lst [(V.str "sides"), (V.str "sides"), (V.str "sides"), (V.str "sides")]) l63 = some (.lst [(V.str "sides"), (V.str "sides"), (V.str "sides"), (V.str "sides")]) := upd_same
      have sG64 : Same G62 (upd G62 l63 (.lst [(V.str "sides"), (V.str "sides"), (V.str "sides"), (V.str "sides")])) := fun b u z => (upd_ne (ne_of_none z nl63)).trans z
      generalize eG64 : upd G62 l63 _ = G64
      replace fl63 : G64 l63 = some (.lst [(V.str "sides"), (V.str "sides"), (V.str "sides"), (V.str "sides")]) := eG64 ▸ fl63
      replace sG64 : Same G62 G64 := eG64 ▸ sG64
      clear eG64
      walk_at "rd"
      refine ⟨.list [.str "sides", .str "sides", .str "sides", .str "sides"], .list [.str "sides", .str "sides", .str "sides", .str "sides"], .lst (SqL.of ((sG62.trans sG64) _ _ hD59)) (.cons (.str _) (.cons (.str _) (.cons (.str _) (.cons (.str _) .nil)))), .lst (SqL.of fl63) (.cons (.str _) (.cons (.str _) (.cons (.str _) (.cons (.str _) .nil)))), by decide +kernel, by decide +kernel, ?_⟩
      walk_at "rd"
      first
        | refine ite2 (fun z => (not_t z (SeqAt.eqv_refl (.list [.str "sides", .str "sides", .str "sides", .str "sides"]) (by decide +kernel))).elim) (fun _ => ?_)
        | skip
      walk_at "rd"
      walk_at "rd"
      walk_at "rd"
      walk_at "rd"
      refine ⟨(by show 2 ≤ sizeLine; decide), fun l65 nl65 => ?_⟩
      have fl65 : upd G64 l65 (.lst [y, (V.ref p)]) l65 = some (.lst [y, (V.ref p)]) := upd_same
      have sG66 : Same G64 (upd G64 l65 (.lst [y, (V.ref p)])) := fun b u z => (upd_ne (ne_of_none z nl65)).trans z
      generalize eG66 : upd G64 l65 _ = G66
      replace fl65 : G66 l65 = some (.lst [y, (V.ref p)]) := eG66 ▸ fl65
      replace sG66 : Same G64 G66 := eG66 ▸ sG66
      clear eG66
      walk_at "rd"
      walk_at "rd"
      walk_at "rd"
      walk_at "rd"
      refine ⟨(by show 3 ≤ sizeLine; decide), fun l67 nl67 => ?_⟩
      have fl67 : upd G66 l67 (.lst [(V.ref p), y, (V.ref p)]) l67 = some (.lst [(V.ref p), y, (V.ref p)]) := upd_same
      have sG68 : Same G66 (upd G66 l67 (.lst [(V.ref p), y, (V.ref p)])) := fun b u z => (upd_ne (ne_of_none z nl67)).trans z
      generalize eG68 : upd G66 l67 _ = G68
      replace fl67 : G68 l67 = some (.lst [(V.ref p), y, (V.ref p)]) := eG68 ▸ fl67
      replace sG68 : Same G66 G68 := eG68 ▸ sG68
      clear eG68
      walk_at "rd"
      refine ⟨(by show 2 ≤ sizeLine; decide), fun l69 nl69 => ?_⟩
      have fl69 : upd G68 l69 (.lst [(V.ref l65), (V.ref l67)]) l69 = some (.lst [(V.ref l65), (V.ref l67)]) := upd_same
      have sG70 : Same G68 (upd G68 l69 (.lst [(V.ref l65), (V.ref l67)])) := fun b u z => (upd_ne (ne_of_none z nl69)).trans z
      generalize eG70 : upd G68 l69 _ = G70
      replace fl69 : G70 l69 = some (.lst [(V.ref l65), (V.ref l67)]) := eG70 ▸ fl69
      replace sG70 : Same G68 G70 := eG70 ▸ sG70
      clear eG70
      have fy := by0.same (((((((((((sm1.trans sG50).trans sG52).trans sG54).trans sG56).trans sG58).trans sG60).trans sG62).trans sG64).trans sG66).trans sG68).trans sG70)
      have fla := ((sG68.trans sG70) _ _ fl65)
      have flb := (sG70 _ _ fl67)
      have hp2 := (((((((((((sm1.trans sG50).trans sG52).trans sG54).trans sG56).trans sG58).trans sG60).trans sG62).trans sG64).trans sG66).trans sG68).trans sG70) _ _ hp1
      have smb := (((((((((((sm1.trans sG50).trans sG52).trans sG54).trans sG56).trans sG58).trans sG60).trans sG62).trans sG64).trans sG66).trans sG68).trans sG70)
      walk_at "rd"
      refine ⟨⟨_, SqL.of fl69⟩, ?_⟩
      refine for_list (K := K) (a := l69) (xs := [(V.ref l65), (V.ref l67)]) (fun _ st H2 => ∃ (x3 : Option V), st = [some (.ref p), some (.ref l47), some y, x3, none, none] ∧ Same G70 H2)
        ⟨x3, rfl, Same.refl _⟩ (fun _ _ _ _ ⟨_, _, sm⟩ => SqL.of (sm _ _ fl69)) ?_ ?_
      · rintro i2 q2 st H2 hy2 ⟨x4, rfl, sm2⟩
        have ws : ∀ d, d < 4 → ∀ H', Same H2 H' → Word K H' d q2 .non .non "sides" := fun d hd H' s' => by
          have i2l : i2 < 2 := (List.getElem?_eq_some_iff.mp hy2).1
          rcases (by omega : i2 = 0 ∨ i2 = 1) with rfl | rfl
          · cases hy2
            exact .sides (.item (i := 0) (s' _ _ (sm2 _ _ fla)) (by show 1 ≤ 2; decide) (by show 2 ≤ 4; decide) rfl ((fy.same sm2).same s') (fun j z hj hz => absurd hj (Nat.not_lt_zero _)))
          · cases hy2
            exact .sides (.item (i := 1) (s' _ _ (sm2 _ _ flb)) (by show 1 ≤ 3; decide) (by show 3 ≤ 4; decide) rfl ((fy.same sm2).same s') (fun j z hj hz => by rcases (by omega : j = 0) with rfl; cases hz; exact ⟨p, _, _, _, rfl, s' _ _ (sm2 _ _ hp2), S⟩))
        walk_at "rd"
        refine ⟨q2, .non, .non, "sides", rfl, ws, fun D71 G72 nD71 sG72 hD71 => ?_⟩
        walk_at "rd"
        walk_at "rd"
        refine ⟨(by show 1 ≤ sizeLine; decide), fun l73 nl73 => ?_⟩
        have fl73 : upd G72 l73 (.lst [(V.str "sides")]) l73 = some (.lst [(V.str "sides")]) := upd_same
        have sG74 : Same G72 (upd G72 l73 (.lst [(V.str "sides")])) := fun b u z => (upd_ne (ne_of_none z nl73)).trans z
        generalize eG74 : upd G72 l73 _ = G74
        replace fl73 : G74 l73 = some (.lst [(V.str "sides")]) := eG74 ▸ fl73
        replace sG74 : Same G72 G74 := eG74 ▸ sG74
        clear eG74
        walk_at "rd"
        refine ⟨l73, 4, _, rfl, rfl, (Same.refl _) _ _ fl73, by decide, by decide, (by show 4 ≤ sizeLine; decide), fun l75 nl75 => ?_⟩
        have fl75 : upd G74 l75 (.lst [(V.str "sides"), (V.str "sides"), (V.str "sides"), (V.str "sides")]) l75 = some (.lst [(V.str "sides"), (V.str "sides"), (V.str "sides"), (V.str "sides")]) := upd_same
        have sG76 : Same G74 (upd G74 l75 (.lst [(V.str "sides"), (V.str "sides"), (V.str "sides"), (V.str "sides")])) := fun b u z => (upd_ne (ne_of_none z nl75)).trans z
        generalize eG76 : upd G74 l75 _ = G76
        replace fl75 : G76 l75 = some (.lst [(V.str "sides"), (V.str "sides"), (V.str "sides"), (V.str "sides")]) := eG76 ▸ fl75
        replace sG76 : Same G74 G76 := eG76 ▸ sG76
        clear eG76
        walk_at "rd"
        refine ⟨.list [.str "sides", .str "sides", .str "sides", .str "sides"], .list [.str "sides", .str "sides", .str "sides", .str "sides"], .lst (SqL.of ((sG74.trans sG76) _ _ hD71)) (.cons (.str _) (.cons (.str _) (.cons (.str _) (.cons (.str _) .nil)))), .lst (SqL.of fl75) (.cons (.str _) (.cons (.str _) (.cons (.str _) (.cons (.str _) .nil)))), by decide +kernel, by decide +kernel, ?_⟩
        walk_at "rd"
        first
          | refine ite2 (fun z => (not_t z (SeqAt.eqv_refl (.list [.str "sides", .str "sides", .str "sides", .str "sides"]) (by decide +kernel))).elim) (fun _ => ?_)
          | skip
        exact (((sm2.trans sG72).trans sG74).trans sG76)
      · rintro st H2 ⟨x4, rfl, sm2⟩
        exact ⟨_, _, rfl, smb.trans sm2⟩
    rintro st H1 ⟨x2, x3, rfl, sm1⟩
    walk_at "rd"
    walk_at "rd"
    refine ⟨by decide, fun l77 nl77 => ?_⟩
    have fl77 : upd H1 l77 (.lst []) l77 = some (.lst []) := upd_same
    have sG78 : Same H1 (upd H1 l77 (.lst [])) := fun b u z => (upd_ne (ne_of_none z nl77)).trans z
    generalize eG78 : upd H1 l77 _ = G78
    replace fl77 : G78 l77 = some (.lst []) := eG78 ▸ fl77
    replace sG78 : Same H1 G78 := eG78 ▸ sG78
    clear eG78
    walk_at "rd"
    refine ⟨by decide, fun t79 nt79 => ?_⟩
    have ft79 : upd G78 t79 (.tup []) t79 = some (.tup []) := upd_same
    have sG80 : Same G78 (upd G78 t79 (.tup [])) := fun b u z => (upd_ne (ne_of_none z nt79)).trans z
    generalize eG80 : upd G78 t79 _ = G80
    replace ft79 : G80 t79 = some (.tup []) := eG80 ▸ ft79
    replace sG80 : Same G78 G80 := eG80 ▸ sG80
    clear eG80
    walk_at "rd"
    walk_at "rd"
    refine ⟨(by show 1 ≤ sizeLine; decide), fun t81 nt81 => ?_⟩
    have ft81 : upd G80 t81 (.tup [(V.ref p)]) t81 = some (.tup [(V.ref p)]) := upd_same
    have sG82 : Same G80 (upd G80 t81 (.tup [(V.ref p)])) := fun b u z => (upd_ne (ne_of_none z nt81)).trans z
    generalize eG82 : upd G80 t81 _ = G82
    replace ft81 : G82 t81 = some (.tup [(V.ref p)]) := eG82 ▸ ft81
    replace sG82 : Same G80 G82 := eG82 ▸ sG82
    clear eG82
    walk_at "rd"
    walk_at "rd"
    walk_at "rd"
    refine ⟨(by show 1 ≤ sizeLine; decide), fun l83 nl83 => ?_⟩
    have fl83 : upd G82 l83 (.lst [(V.ref p)]) l83 = some (.lst [(V.ref p)]) := upd_same
    have sG84 : Same G82 (upd G82 l83 (.lst [(V.ref p)])) := fun b u z => (upd_ne (ne_of_none z nl83)).trans z
    generalize eG84 : upd G82 l83 _ = G84
    replace fl83 : G84 l83 = some (.lst [(V.ref p)]) := eG84 ▸ fl83
    replace sG84 : Same G82 G84 := eG84 ▸ sG84
    clear eG84
    walk_at "rd"
    refine ⟨l83, 5, _, rfl, rfl, (Same.refl _) _ _ fl83, by decide, by decide, (by show 5 ≤ sizeLine; decide), fun l85 nl85 => ?_⟩
    have fl85 : upd G84 l85 (.lst [(V.ref p), (V.ref p), (V.ref p), (V.ref p), (V.ref p)]) l85 = some (.lst [(V.ref p), (V.ref p), (V.ref p), (V.ref p), (V.ref p)]) := upd_same
    have sG86 : Same G84 (upd G84 l85 (.lst [(V.ref p), (V.ref p), (V.ref p), (V.ref p), (V.ref p)])) := fun b u z => (upd_ne (ne_of_none z nl85)).trans z
    generalize eG86 : upd G84 l85 _ = G86
    replace fl85 : G86 l85 = some (.lst [(V.ref p), (V.ref p), (V.ref p), (V.ref p), (V.ref p)]) := eG86 ▸ fl85
    replace sG86 : Same G84 G86 := eG86 ▸ sG86
    clear eG86
    walk_at "rd"
    intro k87 nk87
    have fk87 : upd G86 k87 (.dK []) k87 = some (.dK []) := upd_same
    have sG88 : Same G86 (upd G86 k87 (.dK [])) := fun b u z => (upd_ne (ne_of_none z nk87)).trans z
    generalize eG88 : upd G86 k87 _ = G88
    replace fk87 : G88 k87 = some (.dK []) := eG88 ▸ fk87
    replace sG88 : Same G86 G88 := eG88 ▸ sG88
    clear eG88
    walk_at "rd"
    refine ⟨(by show 9 ≤ sizeLine; decide), fun l89 nl89 => ?_⟩
    have fl89 : upd G88 l89 (.lst [V.non, (V.ref l77), (V.ref t79), (V.ref t81), (V.ref p), (V.ref l85), (V.ref k87), (V.str "down"), (V.int 0)]) l89 = some (.lst [V.non, (V.ref l77), (V.ref t79), (V.ref t81), (V.ref p), (V.ref l85), (V.ref k87), (V.str "down"), (V.int 0)]) := upd_same
    have sG90 : Same G88 (upd G88 l89 (.lst [V.non, (V.ref l77), (V.ref t79), (V.ref t81), (V.ref p), (V.ref l85), (V.ref k87), (V.str "down"), (V.int 0)])) := fun b u z => (upd_ne (ne_of_none z nl89)).trans z
    generalize eG90 : upd G88 l89 _ = G90
    replace fl89 : G90 l89 = some (.lst [V.non, (V.ref l77), (V.ref t79), (V.ref t81), (V.ref p), (V.ref l85), (V.ref k87), (V.str "down"), (V.int 0)]) := eG90 ▸ fl89
    replace sG90 : Same G88 G90 := eG90 ▸ sG90
    clear eG90
    have bad3 : ∀ y ∈ [V.non, (V.ref l77), (V.ref t79), (V.ref t81), (V.ref p), (V.ref l85), (V.ref k87), (V.str "down"), (V.int 0)], BadL K G90 y := by
      intro y hy
      simp only [List.mem_cons, List.not_mem_nil, or_false] at hy
      rcases hy with rfl | rfl | rfl | rfl | rfl | rfl | rfl | rfl | rfl
      · exact .kind .non (by decide)
      · exact .len ((((((sG80.trans sG82).trans sG84).trans sG86).trans sG88).trans sG90) _ _ fl77) (by show ¬ (1 ≤ 0 ∧ 0 ≤ 4); decide)
      · exact .kind (.tup (((((sG82.trans sG84).trans sG86).trans sG88).trans sG90) _ _ ft79)) (by decide)
      · exact .kind (.tup ((((sG84.trans sG86).trans sG88).trans sG90) _ _ ft81)) (by decide)
      · exact .kind (.tup ((((((((((((((((((((((((((((((((sG2.trans sG4).trans sG6).trans sG8).trans sG10).trans sG12).trans sG14).trans sG16).trans sG18).trans sG20).trans sG22).trans sG24).trans sG26).trans sG28).trans sG30).trans sG32).trans sG34).trans sG36).trans sG38).trans sG40).trans sG42).trans sG44).trans sG46).trans sG48).trans sm1).trans sG78).trans sG80).trans sG82).trans sG84).trans sG86).trans sG88).trans sG90) _ _ hp)) (by decide)
      · exact .len ((sG88.trans sG90) _ _ fl85) (by show ¬ (1 ≤ 5 ∧ 5 ≤ 4); decide)
      · exact .kind (.dk (sG90 _ _ fk87)) (by decide)
      · exact .kind (.str _) (by decide)
      · exact .kind (.int _) (by decide)
    clear bads
    walk_at "rd"
    refine ⟨⟨_, SqL.of fl89⟩, ?_⟩
    refine for_list (K := K) (a := l89) (xs := [V.non, (V.ref l77), (V.ref t79), (V.ref t81), (V.ref p), (V.ref l85), (V.ref k87), (V.str "down"), (V.int 0)]) (fun _ st H1 => ∃ (x2 : Option V), st = [some (.ref p), some (.ref l47), x2, x3, none, none] ∧ Same G90 H1)
      ⟨x2, rfl, Same.refl _⟩ (fun _ _ _ _ ⟨_, _, sm⟩ => SqL.of (sm _ _ fl89)) ?_ ?_
    · rintro i y st H3 hy ⟨x4, rfl, sm3⟩
      have by3 := bad3 y (List.mem_of_getElem? hy)
      walk_at "rd"
      refine ⟨y, .non, .non, "sides", rfl, (fun d hd H' s' => .sides ((by3.same sm3).same s')), fun D91 G92 nD91 sG92 hD91 => ?_⟩
      walk_at "rd"
      walk_at "rd"
      refine ⟨(by show 1 ≤ sizeLine; decide), fun l93 nl93 => ?_⟩
      have fl93 : upd G92 l93 (.lst [(V.str "sides")]) l93 = some (.lst [(V.str "sides")]) := upd_same
      have sG94 : Same G92 (upd G92 l93 (.lst [(V.str "sides")])) := fun b u z => (upd_ne (ne_of_none z nl93)).trans z
      generalize eG94 : upd G92 l93 _ = G94
      replace fl93 : G94 l93 = some (.lst [(V.str "sides")]) := eG94 ▸ fl93
      replace sG94 : Same G92 G94 := eG94 ▸ sG94
      clear eG94
      walk_at "rd"
      refine ⟨l93, 4, _, rfl, rfl, (Same.refl _) _ _ fl93, by decide, by decide, (by show 4 ≤ sizeLine; decide), fun l95 nl95 => ?_⟩
      have fl95 : upd G94 l95 (.lst [(V.str "sides"), (V.str "sides"), (V.str "sides"), (V.str "sides")]) l95 = some (.lst [(V.str "sides"), (V.str "sides"), (V.str "sides"), (V.str "sides")]) := upd_same
      have sG96 : Same G94 (upd G94 l95 (.lst [(V.str "sides"), (V.str "sides"), (V.str "sides"), (V.str "sides")])) := fun b u z => (upd_ne (ne_of_none z nl95)).trans z
      generalize eG96 : upd G94 l95 _ = G96
      replace fl95 : G96 l95 = some (.lst [(V.str "sides"), (V.str "sides"), (V.str "sides"), (V.str "sides")]) := eG96 ▸ fl95
      replace sG96 : Same G94 G96 := eG96 ▸ sG96
      clear eG96
      walk_at "rd"
      refine ⟨.list [.str "sides", .str "sides", .str "sides", .str "sides"], .list [.str "sides", .str "sides", .str "sides", .str "sides"], .lst (SqL.of ((sG94.trans sG96) _ _ hD91)) (.cons (.str _) (.cons (.str _) (.cons (.str _) (.cons (.str _) .nil)))), .lst (SqL.of fl95) (.cons (.str _) (.cons (.str _) (.cons (.str _) (.cons (.str _) .nil)))), by decide +kernel, by decide +kernel, ?_⟩
      walk_at "rd"
      first
        | refine ite2 (fun z => (not_t z (SeqAt.eqv_refl (.list [.str "sides", .str "sides", .str "sides", .str "sides"]) (by decide +kernel))).elim) (fun _ => ?_)
        | skip
      exact (((sm3.trans sG92).trans sG94).trans sG96)
    rintro st H3 ⟨x4, rfl, sm3⟩
    clear bad3
    walk_at "rd"
    walk_at "rd"
    refine ⟨(by show 2 ≤ sizeLine; decide), fun l97 nl97 => ?_⟩
    have fl97 : upd H3 l97 (.lst [(V.int 0), (V.int 1)]) l97 = some (.lst [(V.int 0), (V.int 1)]) := upd_same
    have sG98 : Same H3 (upd H3 l97 (.lst [(V.int 0), (V.int 1)])) := fun b u z => (upd_ne (ne_of_none z nl97)).trans z
    generalize eG98 : upd H3 l97 _ = G98
    replace fl97 : G98 l97 = some (.lst [(V.int 0), (V.int 1)]) := eG98 ▸ fl97
    replace sG98 : Same H3 G98 := eG98 ▸ sG98
    clear eG98
    walk_at "rd"
    refine ⟨(by show 3 ≤ sizeLine; decide), fun l99 nl99 => ?_⟩
    have fl99 : upd G98 l99 (.lst [(V.int 0), V.non, (V.int 0)]) l99 = some (.lst [(V.int 0), V.non, (V.int 0)]) := upd_same
    have sG100 : Same G98 (upd G98 l99 (.lst [(V.int 0), V.non, (V.int 0)])) := fun b u z => (upd_ne (ne_of_none z nl99)).trans z
    generalize eG100 : upd G98 l99 _ = G100
    replace fl99 : G100 l99 = some (.lst [(V.int 0), V.non, (V.int 0)]) := eG100 ▸ fl99
    replace sG100 : Same G98 G100 := eG100 ▸ sG100
    clear eG100
    walk_at "rd"
    refine ⟨(by show 2 ≤ sizeLine; decide), fun l101 nl101 => ?_⟩
    have fl101 : upd G100 l101 (.lst [(V.int 0), (V.bl true)]) l101 = some (.lst [(V.int 0), (V.bl true)]) := upd_same
    have sG102 : Same G100 (upd G100 l101 (.lst [(V.int 0), (V.bl true)])) := fun b u z => (upd_ne (ne_of_none z nl101)).trans z
    generalize eG102 : upd G100 l101 _ = G102
    replace fl101 : G102 l101 = some (.lst [(V.int 0), (V.bl true)]) := eG102 ▸ fl101
    replace sG102 : Same G100 G102 := eG102 ▸ sG102
    clear eG102
    walk_at "rd"
    walk_at "rd"
    refine ⟨(by show 3 ≤ sizeLine; decide), fun l103 nl103 => ?_⟩
    have fl103 : upd G102 l103 (.lst [(V.int 0), (V.int 0), (V.int (-1))]) l103 = some (.lst [(V.int 0), (V.int 0), (V.int (-1))]) := upd_same
    have sG104 : Same G102 (upd G102 l103 (.lst [(V.int 0), (V.int 0), (V.int (-1))])) := fun b u z => (upd_ne (ne_of_none z nl103)).trans z
    generalize eG104 : upd G102 l103 _ = G104
    replace fl103 : G104 l103 = some (.lst [(V.int 0), (V.int 0), (V.int (-1))]) := eG104 ▸ fl103
    replace sG104 : Same G102 G104 := eG104 ▸ sG104
    clear eG104
    walk_at "rd"
    refine ⟨by decide, fun t105 nt105 => ?_⟩
    have ft105 : upd G104 t105 (.tup []) t105 = some (.tup []) := upd_same
    have sG106 : Same G104 (upd G104 t105 (.tup [])) := fun b u z => (upd_ne (ne_of_none z nt105)).trans z
    generalize eG106 : upd G104 t105 _ = G106
    replace ft105 : G106 t105 = some (.tup []) := eG106 ▸ ft105
    replace sG106 : Same G104 G106 := eG106 ▸ sG106
    clear eG106
    walk_at "rd"
    refine ⟨(by show 1 ≤ sizeLine; decide), fun t107 nt107 => ?_⟩
    have ft107 : upd G106 t107 (.tup [(V.int 0)]) t107 = some (.tup [(V.int 0)]) := upd_same
    have sG108 : Same G106 (upd G106 t107 (.tup [(V.int 0)])) := fun b u z => (upd_ne (ne_of_none z nt107)).trans z
    generalize eG108 : upd G106 t107 _ = G108
    replace ft107 : G108 t107 = some (.tup [(V.int 0)]) := eG108 ▸ ft107
    replace sG108 : Same G106 G108 := eG108 ▸ sG108
    clear eG108
    walk_at "rd"
    refine ⟨(by show 1 ≤ sizeLine; decide), fun l109 nl109 => ?_⟩
    have fl109 : upd G108 l109 (.lst [(V.int 1)]) l109 = some (.lst [(V.int 1)]) := upd_same
    have sG110 : Same G108 (upd G108 l109 (.lst [(V.int 1)])) := fun b u z => (upd_ne (ne_of_none z nl109)).trans z
    generalize eG110 : upd G108 l109 _ = G110
    replace fl109 : G110 l109 = some (.lst [(V.int 1)]) := eG110 ▸ fl109
    replace sG110 : Same G108 G110 := eG110 ▸ sG110
    clear eG110
    walk_at "rd"
    walk_at "rd"
    refine ⟨(by show 1 ≤ sizeLine; decide), fun l111 nl111 => ?_⟩
    have fl111 : upd G110 l111 (.lst [(V.int (-1))]) l111 = some (.lst [(V.int (-1))]) := upd_same
    have sG112 : Same G110 (upd G110 l111 (.lst [(V.int (-1))])) := fun b u z => (upd_ne (ne_of_none z nl111)).trans z
    generalize eG112 : upd G110 l111 _ = G112
    replace fl111 : G112 l111 = some (.lst [(V.int (-1))]) := eG112 ▸ fl111
    replace sG112 : Same G110 G112 := eG112 ▸ sG112
    clear eG112
    walk_at "rd"
    refine ⟨(by show 1 ≤ sizeLine; decide), fun l113 nl113 => ?_⟩
    have fl113 : upd G112 l113 (.lst [(V.bl true)]) l113 = some (.lst [(V.bl true)]) := upd_same
    have sG114 : Same G112 (upd G112 l113 (.lst [(V.bl true)])) := fun b u z => (upd_ne (ne_of_none z nl113)).trans z
    generalize eG114 : upd G112 l113 _ = G114
    replace fl113 : G114 l113 = some (.lst [(V.bl true)]) := eG114 ▸ fl113
    replace sG114 : Same G112 G114 := eG114 ▸ sG114
    clear eG114
    walk_at "rd"
    refine ⟨(by show 1 ≤ sizeLine; decide), fun l115 nl115 => ?_⟩
    have fl115 : upd G114 l115 (.lst [(V.bl false)]) l115 = some (.lst [(V.bl false)]) := upd_same
    have sG116 : Same G114 (upd G114 l115 (.lst [(V.bl false)])) := fun b u z => (upd_ne (ne_of_none z nl115)).trans z
    generalize eG116 : upd G114 l115 _ = G116
    replace fl115 : G116 l115 = some (.lst [(V.bl false)]) := eG116 ▸ fl115
    replace sG116 : Same G114 G116 := eG116 ▸ sG116
    clear eG116
    walk_at "rd"
    refine ⟨(by show 1 ≤ sizeLine; decide), fun l117 nl117 => ?_⟩
    have fl117 : upd G116 l117 (.lst [(V.str "0")]) l117 = some (.lst [(V.str "0")]) := upd_same
    have sG118 : Same G116 (upd G116 l117 (.lst [(V.str "0")])) := fun b u z => (upd_ne (ne_of_none z nl117)).trans z
    generalize eG118 : upd G116 l117 _ = G118
    replace fl117 : G118 l117 = some (.lst [(V.str "0")]) := eG118 ▸ fl117
    replace sG118 : Same G116 G118 := eG118 ▸ sG118
    clear eG118
    walk_at "rd"
    refine ⟨(by show 1 ≤ sizeLine; decide), fun l119 nl119 => ?_⟩
    have fl119 : upd G118 l119 (.lst [V.non]) l119 = some (.lst [V.non]) := upd_same
    have sG120 : Same G118 (upd G118 l119 (.lst [V.non])) := fun b u z => (upd_ne (ne_of_none z nl119)).trans z
    generalize eG120 : upd G118 l119 _ = G120
    replace fl119 : G120 l119 = some (.lst [V.non]) := eG120 ▸ fl119
    replace sG120 : Same G118 G120 := eG120 ▸ sG120
    clear eG120
    walk_at "rd"
    refine ⟨(by show 13 ≤ sizeLine; decide), fun l121 nl121 => ?_⟩
    have fl121 : upd G120 l121 (.lst [(V.ref l97), (V.ref l99), (V.ref l101), (V.ref l103), V.non, (V.ref t105), (V.ref t107), (V.ref l109), (V.ref l111), (V.ref l113), (V.ref l115), (V.ref l117), (V.ref l119)]) l121 = some (.lst [(V.ref l97), (V.ref l99), (V.ref l101), (V.ref l103), V.non, (V.ref t105), (V.ref t107), (V.ref l109), (V.ref l111), (V.ref l113), (V.ref l115), (V.ref l117), (V.ref l119)]) := upd_same
    have sG122 : Same G120 (upd G120 l121 (.lst [(V.ref l97), (V.ref l99), (V.ref l101), (V.ref l103), V.non, (V.ref t105), (V.ref t107), (V.ref l109), (V.ref l111), (V.ref l113), (V.ref l115), (V.ref l117), (V.ref l119)])) := fun b u z => (upd_ne (ne_of_none z nl121)).trans z
    generalize eG122 : upd G120 l121 _ = G122
    replace fl121 : G122 l121 = some (.lst [(V.ref l97), (V.ref l99), (V.ref l101), (V.ref l103), V.non, (V.ref t105), (V.ref t107), (V.ref l109), (V.ref l111), (V.ref l113), (V.ref l115), (V.ref l117), (V.ref l119)]) := eG122 ▸ fl121
    replace sG122 : Same G120 G122 := eG122 ▸ sG122
    clear eG122
    walk_at "rd"
    walk_at "rd"
    intro k123 nk123
    have fk123 : upd G122 k123 (.dK []) k123 = some (.dK []) := upd_same
    have sG124 : Same G122 (upd G122 k123 (.dK [])) := fun b u z => (upd_ne (ne_of_none z nk123)).trans z
    generalize eG124 : upd G122 k123 _ = G124
    replace fk123 : G124 k123 = some (.dK []) := eG124 ▸ fk123
    replace sG124 : Same G122 G124 := eG124 ▸ sG124
    clear eG124
    walk_at "rd"
    refine ⟨(by show 1 ≤ sizeLine; decide), fun l125 nl125 => ?_⟩
    have fl125 : upd G124 l125 (.lst [(V.int 0)]) l125 = some (.lst [(V.int 0)]) := upd_same
    have sG126 : Same G124 (upd G124 l125 (.lst [(V.int 0)])) := fun b u z => (upd_ne (ne_of_none z nl125)).trans z
    generalize eG126 : upd G124 l125 _ = G126
    replace fl125 : G126 l125 = some (.lst [(V.int 0)]) := eG126 ▸ fl125
    replace sG126 : Same G124 G126 := eG126 ▸ sG126
    clear eG126
    walk_at "rd"
    refine ⟨l125, 1001, _, rfl, rfl, (Same.refl _) _ _ fl125, by decide, by decide, (by show 1001 ≤ sizeLine; decide), fun l127 nl127 => ?_⟩
    have fl127 : upd G126 l127 (.lst (List.replicate 1001 [(V.int 0)]).flatten) l127 = some (.lst (List.replicate 1001 [(V.int 0)]).flatten) := upd_same
    have sG128 : Same G126 (upd G126 l127 (.lst (List.replicate 1001 [(V.int 0)]).flatten)) := fun b u z => (upd_ne (ne_of_none z nl127)).trans z
    generalize eG128 : upd G126 l127 _ = G128
    replace fl127 : G128 l127 = some (.lst (List.replicate 1001 [(V.int 0)]).flatten) := eG128 ▸ fl127
    replace sG128 : Same G126 G128 := eG128 ▸ sG128
    clear eG128
    walk_at "rd"
    refine ⟨(by show 1 ≤ sizeLine; decide), fun l129 nl129 => ?_⟩
    have fl129 : upd G128 l129 (.lst [(V.int 0)]) l129 = some (.lst [(V.int 0)]) := upd_same
    have sG130 : Same G128 (upd G128 l129 (.lst [(V.int 0)])) := fun b u z => (upd_ne (ne_of_none z nl129)).trans z
    generalize eG130 : upd G128 l129 _ = G130
    replace fl129 : G130 l129 = some (.lst [(V.int 0)]) := eG130 ▸ fl129
    replace sG130 : Same G128 G130 := eG130 ▸ sG130
    clear eG130
    walk_at "rd"
    refine ⟨(by show 1 ≤ sizeLine; decide), fun l131 nl131 => ?_⟩
    have fl131 : upd G130 l131 (.lst [(V.ref l129)]) l131 = some (.lst [(V.ref l129)]) := upd_same
    have sG132 : Same G130 (upd G130 l131 (.lst [(V.ref l129)])) := fun b u z => (upd_ne (ne_of_none z nl131)).trans z
    generalize eG132 : upd G130 l131 _ = G132
    replace fl131 : G132 l131 = some (.lst [(V.ref l129)]) := eG132 ▸ fl131
    replace sG132 : Same G130 G132 := eG132 ▸ sG132
    clear eG132
    walk_at "rd"
    refine ⟨(by show 5 ≤ sizeLine; decide), fun l133 nl133 => ?_⟩
    have fl133 : upd G132 l133 (.lst [(V.ref k123), (V.int 0), (V.str "0"), (V.ref l127), (V.ref l131)]) l133 = some (.lst [(V.ref k123), (V.int 0), (V.str "0"), (V.ref l127), (V.ref l131)]) := upd_same
    have sG134 : Same G132 (upd G132 l133 (.lst [(V.ref k123), (V.int 0), (V.str "0"), (V.ref l127), (V.ref l131)])) := fun b u z => (upd_ne (ne_of_none z nl133)).trans z
    generalize eG134 : upd G132 l133 _ = G134
    replace fl133 : G134 l133 = some (.lst [(V.ref k123), (V.int 0), (V.str "0"), (V.ref l127), (V.ref l131)]) := eG134 ▸ fl133
    replace sG134 : Same G132 G134 := eG134 ▸ sG134
    clear eG134
    refine ⟨l121, l133, _, _, rfl, rfl, ((((((sG124.trans sG126).trans sG128).trans sG130).trans sG132).trans sG134) _ _ fl121), ((Same.refl _) _ _ fl133), (by show 18 ≤ sizeLine; decide), fun l135 nl135 => ?_⟩
    have fl135 : upd G134 l135 (.lst [(V.ref l97), (V.ref l99), (V.ref l101), (V.ref l103), V.non, (V.ref t105), (V.ref t107), (V.ref l109), (V.ref l111), (V.ref l113), (V.ref l115), (V.ref l117), (V.ref l119), (V.ref k123), (V.int 0), (V.str "0"), (V.ref l127), (V.ref l131)]) l135 = some (.lst [(V.ref l97), (V.ref l99), (V.ref l101), (V.ref l103), V.non, (V.ref t105), (V.ref t107), (V.ref l109), (V.ref l111), (V.ref l113), (V.ref l115), (V.ref l117), (V.ref l119), (V.ref k123), (V.int 0), (V.str "0"), (V.ref l127), (V.ref l131)]) := upd_same
    have sG136 : Same G134 (upd G134 l135 (.lst [(V.ref l97), (V.ref l99), (V.ref l101), (V.ref l103), V.non, (V.ref t105), (V.ref t107), (V.ref l109), (V.ref l111), (V.ref l113), (V.ref l115), (V.ref l117), (V.ref l119), (V.ref k123), (V.int 0), (V.str "0"), (V.ref l127), (V.ref l131)])) := fun b u z => (upd_ne (ne_of_none z nl135)).trans z
    generalize eG136 : upd G134 l135 _ = G136
    replace fl135 : G136 l135 = some (.lst [(V.ref l97), (V.ref l99), (V.ref l101), (V.ref l103), V.non, (V.ref t105), (V.ref t107), (V.ref l109), (V.ref l111), (V.ref l113), (V.ref l115), (V.ref l117), (V.ref l119), (V.ref k123), (V.int 0), (V.str "0"), (V.ref l127), (V.ref l131)]) := eG136 ▸ fl135
    replace sG136 : Same G134 G136 := eG136 ▸ sG136
    clear eG136
    have bad4 : ∀ y ∈ [(V.ref l97), (V.ref l99), (V.ref l101), (V.ref l103), V.non, (V.ref t105), (V.ref t107), (V.ref l109), (V.ref l111), (V.ref l113), (V.ref l115), (V.ref l117), (V.ref l119), (V.ref k123), (V.int 0), (V.str "0"), (V.ref l127), (V.ref l131)], BadN G136 1 y := by
      intro y hy
      simp only [List.mem_cons, List.not_mem_nil, or_false] at hy
      rcases hy with rfl | rfl | rfl | rfl | rfl | rfl | rfl | rfl | rfl | rfl | rfl | rfl | rfl | rfl | rfl | rfl | rfl | rfl
      · exact .item (i := 1) (((((((((((((((((((sG100.trans sG102).trans sG104).trans sG106).trans sG108).trans sG110).trans sG112).trans sG114).trans sG116).trans sG118).trans sG120).trans sG122).trans sG124).trans sG126).trans sG128).trans sG130).trans sG132).trans sG134).trans sG136) _ _ fl97) (by show 2 ≤ 1000; decide) rfl (.int _) (by decide +kernel) (fun j z hj hz => by rcases (by omega : j = 0) with rfl <;> (cases hz; decide +kernel))
      · exact .item (i := 1) ((((((((((((((((((sG102.trans sG104).trans sG106).trans sG108).trans sG110).trans sG112).trans sG114).trans sG116).trans sG118).trans sG120).trans sG122).trans sG124).trans sG126).trans sG128).trans sG130).trans sG132).trans sG134).trans sG136) _ _ fl99) (by show 3 ≤ 1000; decide) rfl .non (by decide +kernel) (fun j z hj hz => by rcases (by omega : j = 0) with rfl <;> (cases hz; decide +kernel))
      · exact .item (i := 1) (((((((((((((((((sG104.trans sG106).trans sG108).trans sG110).trans sG112).trans sG114).trans sG116).trans sG118).trans sG120).trans sG122).trans sG124).trans sG126).trans sG128).trans sG130).trans sG132).trans sG134).trans sG136) _ _ fl101) (by show 2 ≤ 1000; decide) rfl (.bl _) (by decide +kernel) (fun j z hj hz => by rcases (by omega : j = 0) with rfl <;> (cases hz; decide +kernel))
      · exact .item (i := 2) ((((((((((((((((sG106.trans sG108).trans sG110).trans sG112).trans sG114).trans sG116).trans sG118).trans sG120).trans sG122).trans sG124).trans sG126).trans sG128).trans sG130).trans sG132).trans sG134).trans sG136) _ _ fl103) (by show 3 ≤ 1000; decide) rfl (.int _) (by decide +kernel) (fun j z hj hz => by rcases (by omega : j = 0 ∨ j = 1) with rfl | rfl <;> (cases hz; decide +kernel))
      · exact .kind .non (by decide)
      · exact .kind (.tup (((((((((((((((sG108.trans sG110).trans sG112).trans sG114).trans sG116).trans sG118).trans sG120).trans sG122).trans sG124).trans sG126).trans sG128).trans sG130).trans sG132).trans sG134).trans sG136) _ _ ft105)) (by decide)
      · exact .kind (.tup ((((((((((((((sG110.trans sG112).trans sG114).trans sG116).trans sG118).trans sG120).trans sG122).trans sG124).trans sG126).trans sG128).trans sG130).trans sG132).trans sG134).trans sG136) _ _ ft107)) (by decide)
      · exact .item (i := 0) (((((((((((((sG112.trans sG114).trans sG116).trans sG118).trans sG120).trans sG122).trans sG124).trans sG126).trans sG128).trans sG130).trans sG132).trans sG134).trans sG136) _ _ fl109) (by show 1 ≤ 1000; decide) rfl (.int _) (by decide +kernel) (fun j z hj hz => absurd hj (Nat.not_lt_zero _))
      · exact .item (i := 0) ((((((((((((sG114.trans sG116).trans sG118).trans sG120).trans sG122).trans sG124).trans sG126).trans sG128).trans sG130).trans sG132).trans sG134).trans sG136) _ _ fl111) (by show 1 ≤ 1000; decide) rfl (.int _) (by decide +kernel) (fun j z hj hz => absurd hj (Nat.not_lt_zero _))
      · exact .item (i := 0) (((((((((((sG116.trans sG118).trans sG120).trans sG122).trans sG124).trans sG126).trans sG128).trans sG130).trans sG132).trans sG134).trans sG136) _ _ fl113) (by show 1 ≤ 1000; decide) rfl (.bl _) (by decide +kernel) (fun j z hj hz => absurd hj (Nat.not_lt_zero _))
      · exact .item (i := 0) ((((((((((sG118.trans sG120).trans sG122).trans sG124).trans sG126).trans sG128).trans sG130).trans sG132).trans sG134).trans sG136) _ _ fl115) (by show 1 ≤ 1000; decide) rfl (.bl _) (by decide +kernel) (fun j z hj hz => absurd hj (Nat.not_lt_zero _))
      · exact .item (i := 0) (((((((((sG120.trans sG122).trans sG124).trans sG126).trans sG128).trans sG130).trans sG132).trans sG134).trans sG136) _ _ fl117) (by show 1 ≤ 1000; decide) rfl (.str _) (by decide +kernel) (fun j z hj hz => absurd hj (Nat.not_lt_zero _))
      · exact .item (i := 0) ((((((((sG122.trans sG124).trans sG126).trans sG128).trans sG130).trans sG132).trans sG134).trans sG136) _ _ fl119) (by show 1 ≤ 1000; decide) rfl .non (by decide +kernel) (fun j z hj hz => absurd hj (Nat.not_lt_zero _))
      · exact .kind (.dk ((((((sG126.trans sG128).trans sG130).trans sG132).trans sG134).trans sG136) _ _ fk123)) (by decide)
      · exact .kind (.int _) (by decide)
      · exact .kind (.str _) (by decide)
      · exact .len ((((sG130.trans sG132).trans sG134).trans sG136) _ _ fl127) (by rw [rep_len]; decide) (by rw [rep_len]; decide)
      · exact .item (i := 0) ((sG134.trans sG136) _ _ fl131) (by show 1 ≤ 1000; decide) rfl (.lst (((sG132.trans sG134).trans sG136) _ _ fl129)) rfl (fun j z hj hz => absurd hj (Nat.not_lt_zero _))
    have hp4 := ((((((((((((((((((((((((((((((((((((((((((((((((((((sG2.trans sG4).trans sG6).trans sG8).trans sG10).trans sG12).trans sG14).trans sG16).trans sG18).trans sG20).trans sG22).trans sG24).trans sG26).trans sG28).trans sG30).trans sG32).trans sG34).trans sG36).trans sG38).trans sG40).trans sG42).trans sG44).trans sG46).trans sG48).trans sm1).trans sG78).trans sG80).trans sG82).trans sG84).trans sG86).trans sG88).trans sG90).trans sm3).trans sG98).trans sG100).trans sG102).trans sG104).trans sG106).trans sG108).trans sG110).trans sG112).trans sG114).trans sG116).trans sG118).trans sG120).trans sG122).trans sG124).trans sG126).trans sG128).trans sG130).trans sG132).trans sG134).trans sG136) _ _ hp
    walk_at "rd"
    refine ⟨⟨_, SqL.of fl135⟩, ?_⟩
    refine for_list (K := K) (a := l135) (xs := [(V.ref l97), (V.ref l99), (V.ref l101), (V.ref l103), V.non, (V.ref t105), (V.ref t107), (V.ref l109), (V.ref l111), (V.ref l113), (V.ref l115), (V.ref l117), (V.ref l119), (V.ref k123), (V.int 0), (V.str "0"), (V.ref l127), (V.ref l131)]) (fun _ st H1 => ∃ (x2 : Option V), st = [some (.ref p), some (.ref l121), x2, x3, none, none] ∧ Same G136 H1)
      ⟨x4, rfl, Same.refl _⟩ (fun _ _ _ _ ⟨_, _, sm⟩ => SqL.of (sm _ _ fl135)) ?_ ?_
    · rintro i y st H4 hy ⟨x5, rfl, sm4⟩
      have by4 := bad4 y (List.mem_of_getElem? hy)
      walk_at "rd"
      walk_at "rd"
      walk_at "rd"
      refine ⟨(by show 1 ≤ sizeLine; decide), fun l137 nl137 => ?_⟩
      have fl137 : upd H4 l137 (.lst [(V.ref p)]) l137 = some (.lst [(V.ref p)]) := upd_same
      have sG138 : Same H4 (upd H4 l137 (.lst [(V.ref p)])) := fun b u z => (upd_ne (ne_of_none z nl137)).trans z
      generalize eG138 : upd H4 l137 _ = G138
      replace fl137 : G138 l137 = some (.lst [(V.ref p)]) := eG138 ▸ fl137
      replace sG138 : Same H4 G138 := eG138 ▸ sG138
      clear eG138
      walk_at "rd"
      refine ⟨0, (V.ref l137), y, .non, "numbers", rfl, by decide, .nums rfl (one_side ((Same.refl _) _ _ fl137) ((sm4.trans sG138) _ _ hp4) S) rfl (by4.same (sm4.trans sG138)), fun H5 sm5 => ?_⟩
      walk_at "rd"
      refine ⟨rfl, ?_⟩
      walk_at "rd"
      exact ((sm4.trans sG138).trans sm5)
    rintro st H4 ⟨x5, rfl, sm4⟩
    clear bad4
    walk_at "rd"
    walk_at "rd"
    refine ⟨by decide, fun l139 nl139 => ?_⟩
    have fl139 : upd H4 l139 (.lst []) l139 = some (.lst []) := upd_same
    have sG140 : Same H4 (upd H4 l139 (.lst [])) := fun b u z => (upd_ne (ne_of_none z nl139)).trans z
    generalize eG140 : upd H4 l139 _ = G140
    replace fl139 : G140 l139 = some (.lst []) := eG140 ▸ fl139
    replace sG140 : Same H4 G140 := eG140 ▸ sG140
    clear eG140
    walk_at "rd"
    refine ⟨(by show 1 ≤ sizeLine; decide), fun t141 nt141 => ?_⟩
    have ft141 : upd G140 t141 (.tup [(V.int 1)]) t141 = some (.tup [(V.int 1)]) := upd_same
    have sG142 : Same G140 (upd G140 t141 (.tup [(V.int 1)])) := fun b u z => (upd_ne (ne_of_none z nt141)).trans z
    generalize eG142 : upd G140 t141 _ = G142
    replace ft141 : G142 t141 = some (.tup [(V.int 1)]) := eG142 ▸ ft141
    replace sG142 : Same G140 G142 := eG142 ▸ sG142
    clear eG142
    walk_at "rd"
    refine ⟨(by show 6 ≤ sizeLine; decide), fun l143 nl143 => ?_⟩
    have fl143 : upd G142 l143 (.lst [V.non, (V.bl true), (V.bl false), (V.str "0"), (V.ref l139), (V.ref t141)]) l143 = some (.lst [V.non, (V.bl true), (V.bl false), (V.str "0"), (V.ref l139), (V.ref t141)]) := upd_same
    have sG144 : Same G142 (upd G142 l143 (.lst [V.non, (V.bl true), (V.bl false), (V.str "0"), (V.ref l139), (V.ref t141)])) := fun b u z => (upd_ne (ne_of_none z nl143)).trans z
    generalize eG144 : upd G142 l143 _ = G144
    replace fl143 : G144 l143 = some (.lst [V.non, (V.bl true), (V.bl false), (V.str "0"), (V.ref l139), (V.ref t141)]) := eG144 ▸ fl143
    replace sG144 : Same G142 G144 := eG144 ▸ sG144
    clear eG144
    have bad5 : ∀ y ∈ [V.non, (V.bl true), (V.bl false), (V.str "0"), (V.ref l139), (V.ref t141)], ∃ n, Th G144 y n ∧ isI n = false := by
      intro y hy
      simp only [List.mem_cons, List.not_mem_nil, or_false] at hy
      rcases hy with rfl | rfl | rfl | rfl | rfl | rfl
      · exact ⟨_, .non, by decide⟩
      · exact ⟨_, (.bl _), by decide⟩
      · exact ⟨_, (.bl _), by decide⟩
      · exact ⟨_, (.str _), by decide⟩
      · exact ⟨_, (.lst ((sG142.trans sG144) _ _ fl139)), by decide⟩
      · exact ⟨_, (.tup (sG144 _ _ ft141)), by decide⟩
    have hp5 := ((((((((((((((((((((((((((((((((((((((((((((((((((((((((sG2.trans sG4).trans sG6).trans sG8).trans sG10).trans sG12).trans sG14).trans sG16).trans sG18).trans sG20).trans sG22).trans sG24).trans sG26).trans sG28).trans sG30).trans sG32).trans sG34).trans sG36).trans sG38).trans sG40).trans sG42).trans sG44).trans sG46).trans sG48).trans sm1).trans sG78).trans sG80).trans sG82).trans sG84).trans sG86).trans sG88).trans sG90).trans sm3).trans sG98).trans sG100).trans sG102).trans sG104).trans sG106).trans sG108).trans sG110).trans sG112).trans sG114).trans sG116).trans sG118).trans sG120).trans sG122).trans sG124).trans sG126).trans sG128).trans sG130).trans sG132).trans sG134).trans sG136).trans sm4).trans sG140).trans sG142).trans sG144) _ _ hp
    walk_at "rd"
    refine ⟨⟨_, SqL.of fl143⟩, ?_⟩
    refine for_list (K := K) (a := l143) (xs := [V.non, (V.bl true), (V.bl false), (V.str "0"), (V.ref l139), (V.ref t141)]) (fun _ st H1 => ∃ (xv : Option V), st = [some (.ref p), some (.ref l121), x5, x3, xv, none] ∧ Same G144 H1)
      ⟨none, rfl, Same.refl _⟩ (fun _ _ _ _ ⟨_, _, sm⟩ => SqL.of (sm _ _ fl143)) ?_ ?_
    · rintro i y st H6 hy ⟨xv, rfl, sm6⟩
      obtain ⟨nn, ty, ni⟩ := bad5 y (List.mem_of_getElem? hy)
      walk_at "rd"
      walk_at "rd"
      walk_at "rd"
      refine ⟨(by show 1 ≤ sizeLine; decide), fun l145 nl145 => ?_⟩
      have fl145 : upd H6 l145 (.lst [(V.ref p)]) l145 = some (.lst [(V.ref p)]) := upd_same
      have sG146 : Same H6 (upd H6 l145 (.lst [(V.ref p)])) := fun b u z => (upd_ne (ne_of_none z nl145)).trans z
      generalize eG146 : upd H6 l145 _ = G146
      replace fl145 : G146 l145 = some (.lst [(V.ref p)]) := eG146 ▸ fl145
      replace sG146 : Same H6 G146 := eG146 ▸ sG146
      clear eG146
      walk_at "rd"
      walk_at "rd"
      refine ⟨by decide, fun l147 nl147 => ?_⟩
      have fl147 : upd G146 l147 (.lst []) l147 = some (.lst []) := upd_same
      have sG148 : Same G146 (upd G146 l147 (.lst [])) := fun b u z => (upd_ne (ne_of_none z nl147)).trans z
      generalize eG148 : upd G146 l147 _ = G148
      replace fl147 : G148 l147 = some (.lst []) := eG148 ▸ fl147
      replace sG148 : Same G146 G148 := eG148 ▸ sG148
      clear eG148
      walk_at "rd"
      have os := one_side (sG148 _ _ fl145) (((sm6.trans sG146).trans sG148) _ _ hp5) S
      have ek := ((Same.refl _) _ _ fl147)
      have tyy := ty.same ((sm6.trans sG146).trans sG148)
      refine ⟨(V.ref l145), (V.ref l147), y, "value", rfl, (fun d hd H' s' => by
        by_cases d0 : d = 0
        · exact .val0 (ks := []) rfl (os.same s') d0 rfl (s' _ _ ek) (by decide) (fun k hk => absurd hk List.not_mem_nil) (tyy.same s') ni
        · exact .val rfl (os.same s').good d0 (tyy.same s') ni), fun D149 G150 nD149 sG150 hD149 => ?_⟩
      walk_at "rd"
      walk_at "rd"
      refine ⟨(by show 1 ≤ sizeLine; decide), fun l151 nl151 => ?_⟩
      have fl151 : upd G150 l151 (.lst [(V.str "value")]) l151 = some (.lst [(V.str "value")]) := upd_same
      have sG152 : Same G150 (upd G150 l151 (.lst [(V.str "value")])) := fun b u z => (upd_ne (ne_of_none z nl151)).trans z
      generalize eG152 : upd G150 l151 _ = G152
      replace fl151 : G152 l151 = some (.lst [(V.str "value")]) := eG152 ▸ fl151
      replace sG152 : Same G150 G152 := eG152 ▸ sG152
      clear eG152
      walk_at "rd"
      refine ⟨l151, 4, _, rfl, rfl, (Same.refl _) _ _ fl151, by decide, by decide, (by show 4 ≤ sizeLine; decide), fun l153 nl153 => ?_⟩
      have fl153 : upd G152 l153 (.lst [(V.str "value"), (V.str "value"), (V.str "value"), (V.str "value")]) l153 = some (.lst [(V.str "value"), (V.str "value"), (V.str "value"), (V.str "value")]) := upd_same
      have sG154 : Same G152 (upd G152 l153 (.lst [(V.str "value"), (V.str "value"), (V.str "value"), (V.str "value")])) := fun b u z => (upd_ne (ne_of_none z nl153)).trans z
      generalize eG154 : upd G152 l153 _ = G154
      replace fl153 : G154 l153 = some (.lst [(V.str "value"), (V.str "value"), (V.str "value"), (V.str "value")]) := eG154 ▸ fl153
      replace sG154 : Same G152 G154 := eG154 ▸ sG154
      clear eG154
      walk_at "rd"
      refine ⟨.list [.str "value", .str "value", .str "value", .str "value"], .list [.str "value", .str "value", .str "value", .str "value"], .lst (SqL.of ((sG152.trans sG154) _ _ hD149)) (.cons (.str _) (.cons (.str _) (.cons (.str _) (.cons (.str _) .nil)))), .lst (SqL.of fl153) (.cons (.str _) (.cons (.str _) (.cons (.str _) (.cons (.str _) .nil)))), by decide +kernel, by decide +kernel, ?_⟩
      walk_at "rd"
      first
        | refine ite2 (fun z => (not_t z (SeqAt.eqv_refl (.list [.str "value", .str "value", .str "value", .str "value"]) (by decide +kernel))).elim) (fun _ => ?_)
        | skip
      walk_at "rd"
      walk_at "rd"
      walk_at "rd"
      refine ⟨(by show 1 ≤ sizeLine; decide), fun l155 nl155 => ?_⟩
      have fl155 : upd G154 l155 (.lst [(V.ref p)]) l155 = some (.lst [(V.ref p)]) := upd_same
      have sG156 : Same G154 (upd G154 l155 (.lst [(V.ref p)])) := fun b u z => (upd_ne (ne_of_none z nl155)).trans z
      generalize eG156 : upd G154 l155 _ = G156
      replace fl155 : G156 l155 = some (.lst [(V.ref p)]) := eG156 ▸ fl155
      replace sG156 : Same G154 G156 := eG156 ▸ sG156
      clear eG156
      walk_at "rd"
      walk_at "rd"
      refine ⟨(by show 1 ≤ sizeLine; decide), fun l157 nl157 => ?_⟩
      have fl157 : upd G156 l157 (.lst [(V.int 0)]) l157 = some (.lst [(V.int 0)]) := upd_same
      have sG158 : Same G156 (upd G156 l157 (.lst [(V.int 0)])) := fun b u z => (upd_ne (ne_of_none z nl157)).trans z
      generalize eG158 : upd G156 l157 _ = G158
      replace fl157 : G158 l157 = some (.lst [(V.int 0)]) := eG158 ▸ fl157
      replace sG158 : Same G156 G158 := eG158 ▸ sG158
      clear eG158
      walk_at "rd"
      refine ⟨0, (V.ref l155), (V.ref l157), y, "value", rfl, by decide, .val0 (ks := [0]) rfl (one_side (sG158 _ _ fl155) ((((((((sm6.trans sG146).trans sG148).trans sG150).trans sG152).trans sG154).trans sG156).trans sG158) _ _ hp5) S) rfl rfl ((Same.refl _) _ _ fl157) (by decide) (fun k hk => by rw [List.mem_singleton.mp hk]; show 0 < 1; decide) (ty.same (((((((sm6.trans sG146).trans sG148).trans sG150).trans sG152).trans sG154).trans sG156).trans sG158)) ni, fun H7 sm7 => ?_⟩
      walk_at "rd"
      refine ⟨rfl, ?_⟩
      walk_at "rd"
      exact ((((((((sm6.trans sG146).trans sG148).trans sG150).trans sG152).trans sG154).trans sG156).trans sG158).trans sm7)
    rintro st H6 ⟨xv, rfl, sm6⟩
    clear bad5
    walk_at "rd"
    walk_at "rd"
    refine ⟨⟨by decide, by decide, by decide⟩, ?_⟩
    walk_at "rd"
    walk_at "rd"
    refine ⟨⟨by decide, by decide, by decide⟩, ?_⟩
    walk_at "rd"
    walk_at "rd"
    refine ⟨(by show 3 ≤ sizeLine; decide), fun t159 nt159 => ?_⟩
    have ft159 : upd H6 t159 (.tup [(V.int (10 ^ 40)), (V.int (10 ^ 30)), (V.str "half_even")]) t159 = some (.tup [(V.int (10 ^ 40)), (V.int (10 ^ 30)), (V.str "half_even")]) := upd_same
    have sG160 : Same H6 (upd H6 t159 (.tup [(V.int (10 ^ 40)), (V.int (10 ^ 30)), (V.str "half_even")])) := fun b u z => (upd_ne (ne_of_none z nt159)).trans z
    generalize eG160 : upd H6 t159 _ = G160
    replace ft159 : G160 t159 = some (.tup [(V.int (10 ^ 40)), (V.int (10 ^ 30)), (V.str "half_even")]) := eG160 ▸ ft159
    replace sG160 : Same H6 G160 := eG160 ▸ sG160
    clear eG160
    walk_at "rd"
    refine ⟨⟨by decide, by decide, by decide⟩, ?_⟩
    walk_at "rd"
    walk_at "rd"
    refine ⟨(by show 3 ≤ sizeLine; decide), fun t161 nt161 => ?_⟩
    have ft161 : upd G160 t161 (.tup [(V.int (0 - 10 ^ 40)), (V.int 1), (V.str "up")]) t161 = some (.tup [(V.int (0 - 10 ^ 40)), (V.int 1), (V.str "up")]) := upd_same
    have sG162 : Same G160 (upd G160 t161 (.tup [(V.int (0 - 10 ^ 40)), (V.int 1), (V.str "up")])) := fun b u z => (upd_ne (ne_of_none z nt161)).trans z
    generalize eG162 : upd G160 t161 _ = G162
    replace ft161 : G162 t161 = some (.tup [(V.int (0 - 10 ^ 40)), (V.int 1), (V.str "up")]) := eG162 ▸ ft161
    replace sG162 : Same G160 G162 := eG162 ▸ sG162
    clear eG162
    walk_at "rd"
    refine ⟨(by show 2 ≤ sizeLine; decide), fun l163 nl163 => ?_⟩
    have fl163 : upd G162 l163 (.lst [(V.ref t159), (V.ref t161)]) l163 = some (.lst [(V.ref t159), (V.ref t161)]) := upd_same
    have sG164 : Same G162 (upd G162 l163 (.lst [(V.ref t159), (V.ref t161)])) := fun b u z => (upd_ne (ne_of_none z nl163)).trans z
    generalize eG164 : upd G162 l163 _ = G164
    replace fl163 : G164 l163 = some (.lst [(V.ref t159), (V.ref t161)]) := eG164 ▸ fl163
    replace sG164 : Same G162 G164 := eG164 ▸ sG164
    clear eG164
    walk_at "rd"
    refine ⟨l163, 2, _, rfl, rfl, (Same.refl _) _ _ fl163, by decide, by decide, (by show 4 ≤ sizeLine; decide), fun l165 nl165 => ?_⟩
    have fl165 : upd G164 l165 (.lst [(V.ref t159), (V.ref t161), (V.ref t159), (V.ref t161)]) l165 = some (.lst [(V.ref t159), (V.ref t161), (V.ref t159), (V.ref t161)]) := upd_same
    have sG166 : Same G164 (upd G164 l165 (.lst [(V.ref t159), (V.ref t161), (V.ref t159), (V.ref t161)])) := fun b u z => (upd_ne (ne_of_none z nl165)).trans z
    generalize eG166 : upd G164 l165 _ = G166
    replace fl165 : G166 l165 = some (.lst [(V.ref t159), (V.ref t161), (V.ref t159), (V.ref t161)]) := eG166 ▸ fl165
    replace sG166 : Same G164 G166 := eG166 ▸ sG166
    clear eG166
    walk_at "rd"
    walk_at "rd"
    refine ⟨(by show 4 ≤ sizeLine; decide), fun l167 nl167 => ?_⟩
    have fl167 : upd G166 l167 (.lst [(V.int 3), (V.int 0), (V.int 1), (V.int 2)]) l167 = some (.lst [(V.int 3), (V.int 0), (V.int 1), (V.int 2)]) := upd_same
    have sG168 : Same G166 (upd G166 l167 (.lst [(V.int 3), (V.int 0), (V.int 1), (V.int 2)])) := fun b u z => (upd_ne (ne_of_none z nl167)).trans z
    generalize eG168 : upd G166 l167 _ = G168
    replace fl167 : G168 l167 = some (.lst [(V.int 3), (V.int 0), (V.int 1), (V.int 2)]) := eG168 ▸ fl167
    replace sG168 : Same G166 G168 := eG168 ▸ sG168
    clear eG168
    walk_at "rd"
    refine ⟨0, (V.ref l165), (V.ref l167), .int 0, "good", rfl, by decide, .good (ks := [3, 0, 1, 2]) rfl (two_sides (sG168 _ _ fl165) ((((sG162.trans sG164).trans sG166).trans sG168) _ _ ft159) (((sG164.trans sG166).trans sG168) _ _ ft161)) rfl rfl ((Same.refl _) _ _ fl167) (by decide) (fun k hk => by have : k = 3 ∨ k = 0 ∨ k = 1 ∨ k = 2 := (by simpa using hk); show k < 4; omega) rfl (by decide), fun H8 sm8 => ?_⟩
    walk_at "rd"
    refine ⟨rfl, ?_⟩
    walk_at "rd"
    walk_at "rd"
    walk_at "rd"
    refine ⟨(by show 1 ≤ sizeLine; decide), fun l169 nl169 => ?_⟩
    have fl169 : upd H8 l169 (.lst [(V.ref p)]) l169 = some (.lst [(V.ref p)]) := upd_same
    have sG170 : Same H8 (upd H8 l169 (.lst [(V.ref p)])) := fun b u z => (upd_ne (ne_of_none z nl169)).trans z
    generalize eG170 : upd H8 l169 _ = G170
    replace fl169 : G170 l169 = some (.lst [(V.ref p)]) := eG170 ▸ fl169
    replace sG170 : Same H8 G170 := eG170 ▸ sG170
    clear eG170
    walk_at "rd"
    walk_at "rd"
    refine ⟨(by show 1 ≤ sizeLine; decide), fun l171 nl171 => ?_⟩
    have fl171 : upd G170 l171 (.lst [(V.int 0)]) l171 = some (.lst [(V.int 0)]) := upd_same
    have sG172 : Same G170 (upd G170 l171 (.lst [(V.int 0)])) := fun b u z => (upd_ne (ne_of_none z nl171)).trans z
    generalize eG172 : upd G170 l171 _ = G172
    replace fl171 : G172 l171 = some (.lst [(V.int 0)]) := eG172 ▸ fl171
    replace sG172 : Same G170 G172 := eG172 ▸ sG172
    clear eG172
    walk_at "rd"
    refine ⟨l171, 1000, _, rfl, rfl, (Same.refl _) _ _ fl171, by decide, by decide, (by show 1000 ≤ sizeLine; decide), fun l173 nl173 => ?_⟩
    have fl173 : upd G172 l173 (.lst (List.replicate 1000 [(V.int 0)]).flatten) l173 = some (.lst (List.replicate 1000 [(V.int 0)]).flatten) := upd_same
    have sG174 : Same G172 (upd G172 l173 (.lst (List.replicate 1000 [(V.int 0)]).flatten)) := fun b u z => (upd_ne (ne_of_none z nl173)).trans z
    generalize eG174 : upd G172 l173 _ = G174
    replace fl173 : G174 l173 = some (.lst (List.replicate 1000 [(V.int 0)]).flatten) := eG174 ▸ fl173
    replace sG174 : Same G172 G174 := eG174 ▸ sG174
    clear eG174
    walk_at "rd"
    refine ⟨0, (V.ref l169), (V.ref l173), .int 7, "good", rfl, by decide, .good (ks := List.replicate 1000 0) rfl (one_side ((sG172.trans sG174) _ _ fl169) (((((((((((((((((((((((((((((((((((((((((((((((((((((((((((((((((((sG2.trans sG4).trans sG6).trans sG8).trans sG10).trans sG12).trans sG14).trans sG16).trans sG18).trans sG20).trans sG22).trans sG24).trans sG26).trans sG28).trans sG30).trans sG32).trans sG34).trans sG36).trans sG38).trans sG40).trans sG42).trans sG44).trans sG46).trans sG48).trans sm1).trans sG78).trans sG80).trans sG82).trans sG84).trans sG86).trans sG88).trans sG90).trans sm3).trans sG98).trans sG100).trans sG102).trans sG104).trans sG106).trans sG108).trans sG110).trans sG112).trans sG114).trans sG116).trans sG118).trans sG120).trans sG122).trans sG124).trans sG126).trans sG128).trans sG130).trans sG132).trans sG134).trans sG136).trans sm4).trans sG140).trans sG142).trans sG144).trans sm6).trans sG160).trans sG162).trans sG164).trans sG166).trans sG168).trans sm8).trans sG170).trans sG172).trans sG174) _ _ hp) S) rfl rfl (((Same.refl _) _ _ fl173).trans rep_zero) (by rw [List.length_replicate]; decide) (fun k hk => by rw [List.eq_of_mem_replicate hk]; show 0 < 1; decide) rfl (by decide), fun H9 sm9 => ?_⟩
    walk_at "rd"
    exact ⟨rfl, q _ (((((((((((((((((((((((((((((((((((((((((((((((((((((((((((((((((((sG2.trans sG4).trans sG6).trans sG8).trans sG10).trans sG12).trans sG14).trans sG16).trans sG18).trans sG20).trans sG22).trans sG24).trans sG26).trans sG28).trans sG30).trans sG32).trans sG34).trans sG36).trans sG38).trans sG40).trans sG42).trans sG44).trans sG46).trans sG48).trans sm1).trans sG78).trans sG80).trans sG82).trans sG84).trans sG86).trans sG88).trans sG90).trans sm3).trans sG98).trans sG100).trans sG102).trans sG104).trans sG106).trans sG108).trans sG110).trans sG112).trans sG114).trans sG116).trans sG118).trans sG120).trans sG122).trans sG124).trans sG126).trans sG128).trans sG130).trans sG132).trans sG134).trans sG136).trans sm4).trans sG140).trans sG142).trans sG144).trans sm6).trans sG160).trans sG162).trans sG164).trans sG166).trans sG168).trans sm8).trans sG170).trans sG172).trans sG174).trans sm9)⟩
end
end HT
namespace HT
open PySem L2
def spLaw (K : PySem.W.Frag) : Sp := fun vs H Q _ => ∃ (l : Addr) (ns : List Int), vs = [.ref l] ∧ SqL K H l (ns.map V.int) ∧ ns.length ≤ 63 ∧ ∀ H', Q (.bl true) H'
/-- sides of at most so great steps -/
structure SdL (mo : Int) (H : Hp) (xs : List V) (ss : List Sd) : Prop where
  len : xs.length = ss.length
  at_ : ∀ (i : Nat) (d : Sd), ss[i]? = some d → ∃ p : Addr, xs[i]? = some (V.ref p) ∧ H p = some (sideV d.o d.s d.m) ∧ (1 ≤ d.s ∧ d.s ≤ mo ∧ -d.s ≤ d.o ∧ d.o < 2 * d.s ∧ Mode d.m)
theorem SdL.oth {mo : Int} {H H' : Hp} {xs : List V} {ss : List Sd} {a c : Addr} {t : Nat} (S : SdL mo H xs ss) (s : Src H a c t) (o : Oth a c H H') : SdL mo H' xs ss :=
  ⟨S.len, fun i d h => let ⟨p, e, hp, r⟩ := S.at_ i d h; ⟨p, e, o _ _ hp (s.nt hp).1 (s.nt hp).2, r⟩⟩
theorem SdL.same {mo : Int} {H H' : Hp} {xs : List V} {ss : List Sd} (S : SdL mo H xs ss) (e : Same H H') : SdL mo H' xs ss :=
  ⟨S.len, fun i d h => let ⟨p, e1, hp, r⟩ := S.at_ i d h; ⟨p, e1, e _ _ hp, r⟩⟩
theorem two_plain {H : Hp} {l p q : Addr} (hl : H l = some (.lst [.ref p, .ref q])) (hp : H p = some (.tup [.int 0, .int 10, .str "half_up"])) (hq : H q = some (.tup [.int 0, .int 100, .str "half_up"])) : SidesAt H l [.ref p, .ref q] [⟨0, 10, "half_up"⟩, ⟨0, 100, "half_up"⟩] :=
  have A : SideP 0 10 "half_up" := ⟨by decide, by decide, by decide, by decide, .inr (.inr (.inr (.inl rfl)))⟩
  have B : SideP 0 100 "half_up" := ⟨by decide, by decide, by decide, by decide, .inr (.inr (.inr (.inl rfl)))⟩
  ⟨hl, rfl, by decide, by decide, fun i d h => by
    have : i < 2 := (List.getElem?_eq_some_iff.mp h).1
    rcases (by omega : i = 0 ∨ i = 1) with rfl | rfl <;> cases h
    · exact ⟨p, rfl, hp, A⟩
    · exact ⟨q, rfl, hq, B⟩⟩
theorem getI {ns : List Int} {i : Nat} {x : V} (h : (ns.map V.int)[i]? = some x) : ∃ z, x = V.int z ∧ z ∈ ns := by
  obtain ⟨z, hz, e⟩ := List.mem_map.mp (List.mem_of_getElem? h)
  exact ⟨z, e.symm, hz⟩
theorem SdL.put {mo : Int} {H : Hp} {xs : List V} {ss : List Sd} {l : Addr} {ys zs : List V} (S : SdL mo H xs ss) (hl : H l = some (.lst ys)) : SdL mo (upd H l (.lst zs)) xs ss :=
  ⟨S.len, fun i d h => let ⟨p, e1, hp, r⟩ := S.at_ i d h; ⟨p, e1, (upd_ne (ne_of hp hl (by intro z; cases z))).trans hp, r⟩⟩
theorem Src.chg {a c p : Addr} {H : Hp} {t : Nat} {o : HO} (S : Src H a c t) (na : p ≠ a) (nc : p ≠ c) : Src (upd H p o) a c t := by
  obtain ⟨cs, h, l⟩ := S.cl
  exact ⟨S.ne, (upd_ne na.symm).trans S.ob, cs, (upd_ne nc.symm).trans h, l⟩
theorem SdL.snoc {mo : Int} {H : Hp} {xs : List V} {ss : List Sd} {p : Addr} {d : Sd} (S : SdL mo H xs ss) (hp : H p = some (sideV d.o d.s d.m)) (r : 1 ≤ d.s ∧ d.s ≤ mo ∧ -d.s ≤ d.o ∧ d.o < 2 * d.s ∧ Mode d.m) : SdL mo H (xs ++ [V.ref p]) (ss ++ [d]) := by
  refine ⟨by rw [List.length_append, List.length_append, S.len]; rfl, fun i e h => ?_⟩
  have hi : i < ss.length + 1 := by
    have := (List.getElem?_eq_some_iff.mp h).1
    rw [List.length_append] at this
    exact this
  rcases Nat.lt_or_eq_of_le (Nat.le_of_lt_succ hi) with lt | eq
  · rw [List.getElem?_append_left lt] at h
    obtain ⟨q, e1, e2⟩ := S.at_ i e h
    exact ⟨q, by rw [List.getElem?_append_left (by rw [S.len]; exact lt)]; exact e1, e2⟩
  · subst eq
    rw [List.getElem?_append_right (Nat.le_refl _), Nat.sub_self] at h
    cases h
    exact ⟨p, by rw [← S.len, List.getElem?_append_right (Nat.le_refl _), Nat.sub_self]; rfl, hp, r⟩
theorem SdL.sides {mo : Int} {H : Hp} {l : Addr} {xs : List V} {ss : List Sd} (S : SdL mo H xs ss) (hmo : mo ≤ 10 ^ 30) (hl : H l = some (.lst xs)) (h1 : 1 ≤ ss.length) (h4 : ss.length ≤ 4) : SidesAt H l xs ss :=
  ⟨hl, S.len, h1, h4, fun i d h => let ⟨p, e, hp, a, b, c, c2, m⟩ := S.at_ i d h; ⟨p, e, hp, by omega, by omega, a, by omega, m⟩⟩
theorem map_nV_snoc (ks : List Nat) (k : Nat) : ks.map nV ++ [nV k] = (ks ++ [k]).map nV := by rw [List.map_append]; rfl
def sdD (d : Sd) : PyData := .tuple [.int d.o, .int d.s, .str d.m]
def nD (k : Nat) : PyData := .int (k : Int)
def rLenS (K : PySem.W.Frag) : List V → Hp → VK → Prop := fun xs H Q => ∃ p ys, xs = [.ref p] ∧ (SqL K H p ys ∨ SqT K H p ys) ∧ Q (.int ys.length) H
theorem strOk_mode {m : Str} (h : Mode m) : PyData.canLay0 (.str m) = true := by
  rcases h with e | e | e | e | e <;> subst e <;> decide +kernel
theorem can_sides : ∀ {ss : List Sd}, (∀ d ∈ ss, Mode d.m) → PyData.canLayAll0 (ss.map sdD) = true ∧ PyData.depthAll (ss.map sdD) ≤ 1
  | [], _ => ⟨rfl, Nat.zero_le _⟩
  | d :: r, h => by
    have ⟨a, b⟩ := can_sides (ss := r) fun e he => h e (List.mem_cons_of_mem _ he)
    have c := strOk_mode (h d List.mem_cons_self)
    constructor
    · show ((true && (true && (PyData.canLay0 (.str d.m) && true))) && PyData.canLayAll0 (r.map sdD)) = true
      rw [c, a]
      rfl
    · show max 1 (PyData.depthAll (r.map sdD)) ≤ 1
      omega
theorem can_nums : ∀ ks : List Nat, PyData.canLayAll0 (ks.map nD) = true ∧ PyData.depthAll (ks.map nD) = 0
  | [] => ⟨rfl, rfl⟩
  | k :: r => by
    have ⟨a, b⟩ := can_nums r
    constructor
    · show (true && _) = true
      rw [a]; rfl
    · show max 0 _ = 0
      rw [b]; rfl
def keptD (ss : List Sd) (ks : List Nat) : PyData := .list [.list (ss.map sdD), .list (ks.map nD)]
theorem can_kept {ss : List Sd} (ks : List Nat) (h : ∀ d ∈ ss, Mode d.m) : PyData.canLay0 (keptD ss ks) = true ∧ SeqAt.shaped (keptD ss ks) = true := by
  have ⟨a, b⟩ := can_sides h
  have ⟨c, d⟩ := can_nums ks
  have e : PyData.canLay0 (keptD ss ks) = true := by
    show (PyData.canLayAll0 (ss.map sdD) && (PyData.canLayAll0 (ks.map nD) && true)) = true
    rw [a, c]; rfl
  refine ⟨e, ?_⟩
  unfold SeqAt.shaped
  rw [e]
  show (true && decide (max (PyData.depthAll (ss.map sdD) + 1) (max (PyData.depthAll (ks.map nD) + 1) 0) + 1 ≤ 64)) = true
  rw [d, decide_eq_true (by omega)]
  rfl
theorem dpNums {K : PySem.W.Frag} {H : Hp} : ∀ ks : List Nat, DpAll K H (ks.map nV) (ks.map nD)
  | [] => .nil
  | _ :: r => .cons (.int _) (dpNums r)
theorem SdL.dp {K : PySem.W.Frag} {mo : Int} {H : Hp} : ∀ {xs : List V} {ss : List Sd}, SdL mo H xs ss → DpAll K H xs (ss.map sdD)
  | [], [], _ => .nil
  | [], _ :: _, S => nomatch S.len
  | _ :: _, [], S => nomatch S.len
  | x :: xs, d :: ss, S => by
    obtain ⟨p, e, hp, _⟩ := S.at_ 0 d rfl
    cases e
    exact .cons (.tup (SqT.of hp) (.cons (.int _) (.cons (.int _) (.cons (.str _) .nil)))) (SdL.dp ⟨Nat.succ.inj S.len, fun i e h => S.at_ (i + 1) e h⟩)
theorem SdL.modes {mo : Int} {H : Hp} {xs : List V} {ss : List Sd} (S : SdL mo H xs ss) : ∀ d ∈ ss, Mode d.m := fun d hd => by
  obtain ⟨i, hi, rfl⟩ := List.mem_iff_getElem.mp hd
  obtain ⟨_, _, _, _, _, _, _, m⟩ := S.at_ i _ (List.getElem?_eq_getElem hi)
  exact m
theorem most_at (i : Nat) : ∃ mo : Int, atI [V.int 12, V.int ((10 : Int) ^ (30 : Int).toNat)] ((0 + (i : Int)) % 2) = some (.int mo) ∧ 1 ≤ mo ∧ mo ≤ 10 ^ 30 := by
  rcases (by omega : (0 + (i : Int)) % 2 = 0 ∨ (0 + (i : Int)) % 2 = 1) with h | h
  · rw [h]; exact ⟨12, rfl, by decide, by decide⟩
  · rw [h]; exact ⟨(10 : Int) ^ (30 : Int).toNat, rfl, by decide, by decide⟩
section
variable {P : Program} {w : World} {K : PySem.W.Frag} {mg : Str → Option Value} {base : Heap} {f0 f1 f2 f3 f4 f5 f6 : Addr} {d0 d1 d2 d3 d4 d5 d6 : FuncData} {C : Nat → Addr}
theorem ok_law {f : Addr} {fd : FuncData} (F : Fun K "law" "law" s_law f fd) (B : Blt mg) (T : ChkT mg) (So : Cal P w K mg base "_law_source" 1 ["_law_script"] (spSource K) f0 d0) (D : Cal P w K mg base "_law_draw" 1 ["_law_source_here", "_law_limit"] spDraw f1 d1)
    (Sd : Cal P w K mg base "_law_side" 4 ["_law_source_here", "_law_most"] spSide f2 d2) (G : Cal P w K mg base "_law_great" 2 ["_law_source_here", "_law_limit"] spGreat f3 d3) (W : Cal P w K mg base "_law_written" 1 ["_law_side_here", "_law_value"] spDue f4 d4)
    (Dr : Cal P w K mg base "_law_doors_right" 9 ["_law_side_here"] spDoors f5 d5) (Al : CalX P w K mg base "along" 6 ["sides", "numbers", "value"] (spAlongX K C) f6 d6) : FnOk P w K mg base CX0 10 f fd ["_law_script"] (spLaw K) := by
  refine F.ok sc_law (fun vs H Q E h => ?_) (fun cdv A outer s0 H vs Q E hr h => ?_)
  · obtain ⟨l, ns, rfl, _⟩ := h
    rfl
  · obtain ⟨l, ns, rfl, hL, hn, q⟩ := h
    have nd := sc_law.nd
    refine ⟨_, (pss_cons (ps_set (i := 1) nd rfl (Or.inr rfl) (pcl So hr (by decide) (by rfl) (pa_cons (pv 0) pa_nil)))
      (pss_cons (ps_for PassesOwn.never rfl (pi_range1 (by rfl) B.range (pa_cons pe_int pa_nil)) (pg_name (i := 2) nd rfl (Or.inl rfl)) (pss_cons (ps_set (i := 3) nd rfl (Or.inr rfl) (pe_ix ix_list (pe_lst (pa_cons pe_int (pa_cons (pe_op op_pow pe_int pe_int) pa_nil))) (pe_op op_mod (pv 2) pe_int) (fun _ _ => rfl)))
      (pss_cons (ps_set (i := 5) nd rfl (Or.inr rfl) (pe_lc (own := [("_law_k", 4)]) (g := gName 4) (tt := tYes) rfl nd (pi_range1 (by rfl) B.range (pa_cons (pe_op op_add pe_int (pcl D hr (by decide) (by rfl) (pa_cons (pv 1) (pa_cons pe_int pa_nil)))) pa_nil)) (blkOk_by (N := ["_law_script", "_law_source_here", "_law_turn", "_law_most", "_law_k", "_law_sides", "_law_numbers", "_law_value", "_law_kept", "_law_one", "_law_due", "_law_now", "_law_number", "_law_found", "_law_none"]) (sc := defScope s_law) (by decide +kernel)) (fun _ _ _ _ _ => pg_name (i := 4) nd rfl (Or.inl rfl)) (fun _ _ _ _ _ => pts_nil) (fun _ _ _ _ _ => (pcl Sd hr (by decide) (by rfl) (pa_cons (pv 1) (pa_cons (pv 3) pa_nil))))))
      (pss_cons (ps_setLc (i := 6) (own := [("_law_k", 4)]) (g := gName 4) (tt := tYes) rfl nd rfl rfl (sw_true rfl rfl rfl (by decide +kernel)) (pi_range1 (by rfl) B.range (pa_cons (pcl D hr (by decide) (by rfl) (pa_cons (pv 1) (pa_cons pe_int pa_nil))) pa_nil)) (blkOk_by (N := ["_law_script", "_law_source_here", "_law_turn", "_law_most", "_law_k", "_law_sides", "_law_numbers", "_law_value", "_law_kept", "_law_one", "_law_due", "_law_now", "_law_number", "_law_found", "_law_none"]) (sc := defScope s_law) (by decide +kernel)) (fun _ _ _ _ _ => pg_name (i := 4) nd rfl (Or.inl rfl)) (fun _ _ _ _ _ => pts_nil) (fun _ _ _ _ _ => (pcl D hr (by decide) (by rfl) (pa_cons (pv 1) (pa_cons (pe_callB (r := rLenS K) (by exact call_len_seq) (by rfl) B.len PySem.boot_len (pa_cons (pv 5) pa_nil)) pa_nil)))))
      (pss_cons (ps_set (i := 7) nd rfl (Or.inl rfl) (pe_op op_sub (pcl G hr (by decide) (by rfl) (pa_cons (pv 1) (pa_cons (pe_op op_mul pe_int (pv 3)) pa_nil))) (pv 3)))
      (pss_cons (ps_set (i := 8) nd rfl (Or.inl rfl) (pe_lst (pa_cons (pe_callTy call_list_of (by rfl) T.list (by decide +kernel) (pa_cons (pv 5) pa_nil)) (pa_cons (pe_callTy call_list_of (by rfl) T.list (by decide +kernel) (pa_cons (pv 6) pa_nil)) pa_nil))))
      (pss_cons (ps_for PassesOwn.never rfl (pi_list (pe_lst (pa_cons (pv 7) (pa_cons pe_int (pa_cons (pe_ix ix_tup (pe_ix ix_list (pv 5) pe_int (fun _ _ => rfl)) pe_int (fun _ _ => rfl)) (pa_cons (pe_op op_add (pe_ix ix_tup (pe_ix ix_list (pv 5) pe_int (fun _ _ => rfl)) pe_int (fun _ _ => rfl)) (pe_op op_fdiv (pe_ix ix_tup (pe_ix ix_list (pv 5) pe_int (fun _ _ => rfl)) pe_int (fun _ _ => rfl)) pe_int)) (pa_cons (pe_op op_sub (pe_ix ix_tup (pe_ix ix_list (pv 5) (pe_un un_neg pe_int) (fun _ _ => rfl)) pe_int (fun _ _ => rfl)) pe_int) pa_nil))))))) (pg_name (i := 9) nd rfl (Or.inl rfl)) (pss_cons (ps_par (i := 10) (j := 11) (by rfl) nd rfl rfl (by decide) rfl rfl (pa_cons (pe_lst pa_nil) (pa_cons (pv 9) pa_nil)) (by rfl))
      (pss_cons (ps_for PassesOwn.never rfl (pi_list (pv 6)) (pg_name (i := 12) nd rfl (Or.inl rfl)) (pss_cons (ps_set (i := 11) nd rfl (Or.inl rfl) (pcl W hr (by decide) (by rfl) (pa_cons (pe_ix ix_list (pv 5) (pv 12) (fun _ _ => rfl)) (pa_cons (pv 11) pa_nil))))
      (pss_one (ps_expr (pe_bm PySem.F.plainAttrs_list PySem.F.slot_list_append PySem.F.type_list_append mt_append (pv 10) (pa_cons (pv 11) pa_nil))))))
      (pss_cons (ps_set (i := 13) nd rfl (Or.inl rfl) (pcx Al hr (by decide) (by rfl) takes0 (pa_cons (pv 5) (pa_cons (pv 6) (pa_cons (pv 9) pa_nil)))))
      (pss_cons (ps_if (pt_cmpR (op_neD hr.units) (pv 13) (pv 10) (nomark _)) (pss_one (ps_ret pe_bl)) pss_nil)
      (pss_cons (ps_expr (pe_bm PySem.F.plainAttrs_list PySem.F.slot_list_append PySem.F.type_list_append mt_append (pv 13) (pa_cons pe_non pa_nil)))
      (pss_one (ps_if (PW.pt (pw_or (pt_cmpR (op_neD hr.units) (pcx Al hr (by decide) (by rfl) takes0 (pa_cons (pv 5) (pa_cons (pv 6) (pa_cons (pv 9) pa_nil)))) (pv 10) (nomark _)) (pw_or1 (pt_cmpR (op_neD hr.units) (pe_lst (pa_cons (pv 5) (pa_cons (pv 6) pa_nil))) (pv 8) (nomark _))))) (pss_one (ps_ret pe_bl)) pss_nil))))))))
      (pss_cons (ps_set (i := 14) nd rfl (Or.inl rfl) (pe_lst pa_nil))
      (pss_cons (ps_expr (pe_bm PySem.F.plainAttrs_list PySem.F.slot_list_append PySem.F.type_list_append mt_append (pcx Al hr (by decide) (by rfl) takes0 (pa_cons (pv 5) (pa_cons (pv 14) (pa_cons (pv 7) pa_nil)))) (pa_cons pe_non pa_nil)))
      (pss_cons (ps_if (pt_cmpR (op_neD hr.units) (pv 14) (pe_lst pa_nil) (nomark _)) (pss_one (ps_ret pe_bl)) pss_nil)
      (pss_one (ps_if (PW.pt (pw_and (pt_cmpR op_eq (pe_op op_mod (pv 2) pe_int) pe_int (nomark _)) (pw_and1 (pt_not (pt_val (pcl Dr hr (by decide) (by rfl) (pa_cons (pe_ix ix_list (pv 5) pe_int (fun _ _ => rfl)) pa_nil))))))) (pss_one (ps_ret pe_bl)) pss_nil))))))))))))
      (pss_one (ps_ret (pe_cmpR (op_eqD hr.units) (pcx Al hr (by decide) (by rfl) takes0 (pa_cons (pe_lst (pa_cons (pe_tup (pa_cons pe_int (pa_cons pe_int (pa_cons pe_str pa_nil)))) (pa_cons (pe_tup (pa_cons pe_int (pa_cons pe_int (pa_cons pe_str pa_nil)))) pa_nil))) (pa_cons (pe_lst (pa_cons pe_int (pa_cons pe_int pa_nil))) (pa_cons pe_int pa_nil)))) (pe_lst (pa_cons pe_int (pa_cons pe_int pa_nil))) (nomark _)))))), ?_⟩
    walk_at "rd"
    refine ⟨l, ns, rfl, hL, hn, fun a c H0 sm na nc S0 => ?_⟩
    walk_at "rd"
    refine ⟨by decide, by decide, ?_⟩
    refine for_range (n := 40) (fun i σ H' => ∃ (x2 x3 x5 x6 x7 x8 x9 x10 x11 x12 x13 x14 : Option V) (t : Nat), σ = [some (.ref l), some (.ref a), x2, x3, none, x5, x6, x7, x8, x9, x10, x11, x12, x13, x14] ∧ t ≤ 400 * i ∧ Src H' a c t) ⟨none, none, none, none, none, none, none, none, none, none, none, none, 0, rfl, by omega, S0⟩ ?_ ?_
    · rintro i σ H' hi ⟨x2, x3, x5, x6, x7, x8, x9, x10, x11, x12, x13, x14, t, rfl, ht, S'⟩
      obtain ⟨mo, emo, mo0, mo1⟩ := most_at i
      walk_at "rd"
      refine ⟨⟨by decide, by decide, by decide⟩, (by show 2 ≤ sizeLine; decide), fun lm nlm => ?_⟩
      walk_at "rd"
      refine ⟨(by show (0 : Int) < 2; decide), ?_⟩
      refine ⟨lm, _, _, _, rfl, rfl, SqL.of upd_same, emo, ?_⟩
      have S1 := S'.new (o := .lst [V.int 12, V.int ((10 : Int) ^ (30 : Int).toNat)]) nlm
      generalize upd H' lm _ = H1 at S1 ⊢
      walk_at "rd"
      refine ⟨a, c, t, 4, rfl, S1, by omega, by decide, lg_small (by decide) (by decide), fun y H2 y0 y1 S2 O2 => ?_⟩
      walk_at "rd"
      refine ⟨by omega, by omega, fun Ls nLs => ?_⟩
      obtain ⟨La, Lc⟩ := S2.na nLs
      refine lc_range (lo := 0) (n := (1 + y).toNat) (fun j H5 => ∃ (xs : List V) (ss : List HT.Sd) (t' : Nat), H5 Ls = some (.lst xs) ∧ SdL mo H5 xs ss ∧ ss.length = j ∧ t' ≤ t + 1 + 40 * j ∧ Src H5 a c t')
        ⟨[], [], t + 1, upd_same, ⟨rfl, fun i d h => nomatch h⟩, rfl, by omega, S2.new nLs⟩ ?_ ?_
      · rintro j H5 hj ⟨xs, ss, t', hLs, SS, hlen, ht', S5⟩
        refine ⟨rfl, ?_⟩
        walk_at "rd"
        refine ⟨a, c, t', mo, rfl, S5, mo0, mo1, by omega, fun p o s m H6 t6 np hp hh ht6 S6 O6 => ?_⟩
        refine ⟨_, O6 _ _ hLs La Lc, (by rw [SS.len, hlen]; exact Nat.lt_of_lt_of_le (by omega : j < 100) (by decide)), xs ++ [.ref p], ss ++ [⟨o, s, m⟩], t6, upd_same, ?_, by rw [List.length_append, hlen]; rfl, by omega, ?_⟩
        · have SS6 := (SS.oth S5 O6).snoc (d := ⟨o, s, m⟩) hp hh
          exact ⟨SS6.len, fun i d h => let ⟨p2, e1, hp2, r⟩ := SS6.at_ i d h; ⟨p2, e1, (upd_ne (ne_of hp2 (O6 _ _ hLs La Lc) (by intro z; cases z))).trans hp2, r⟩⟩
        · obtain ⟨cs, hcs, hl2⟩ := S6.cl
          exact ⟨S6.ne, (upd_ne La.symm).trans S6.ob, cs, (upd_ne Lc.symm).trans hcs, hl2⟩
      · rintro H5 ⟨xs, ss, t', hLs, SS, hlen, ht', S5⟩
        walk_at "rd"
        have ss1 : 1 ≤ ss.length := by omega
        have ss4 : ss.length ≤ 4 := by omega
        refine ⟨a, c, t', 11, rfl, S5, by omega, by decide, lg_small (by decide) (by decide), fun y2 H6 y20 y21 S6 O6 => ?_⟩
        have hLs6 := O6 _ _ hLs La Lc
        have SS6 := SS.oth S5 O6
        walk_at "rd"
        refine ⟨by omega, by omega, fun Ln nLn => ?_⟩
        obtain ⟨Lna, Lnc⟩ := S6.na nLn
        refine lc_range (lo := 0) (n := y2.toNat) (fun j H7 => ∃ (ks : List Nat) (t7 : Nat), H7 Ln = some (.lst (ks.map nV)) ∧ ks.length = j ∧ (∀ k ∈ ks, k < ss.length) ∧ t7 ≤ t + 200 + j ∧ Src H7 a c t7 ∧ H7 Ls = some (.lst xs) ∧ SdL mo H7 xs ss)
          ⟨[], t' + 1, upd_same, rfl, fun k hk => absurd hk List.not_mem_nil, by omega, S6.new nLn, (upd_ne (ne_of_none hLs6 nLn)).trans hLs6, SS6.same fun b u z => (upd_ne (ne_of_none z nLn)).trans z⟩ ?_ ?_
        · rintro j H7 hj ⟨ks, t7, hLn, hkl, hkb, ht7, S7, hLs7, SS7⟩
          refine ⟨rfl, ?_⟩
          walk_at "rd"
          refine ⟨Ls, _, rfl, .inl (SqL.of hLs7), ?_⟩
          refine ⟨a, c, t7, _, rfl, S7, by omega, (by rw [SS7.len]; omega), lg_small (by omega) (by rw [SS7.len]; omega), fun k H8 k0 k1 S8 O8 => ?_⟩
          rw [SS7.len] at k1
          have hLn8 := O8 _ _ hLn Lna Lnc
          have eV : V.int k = nV k.toNat := by
            show V.int k = V.int ((k.toNat : Nat) : Int)
            rw [Int.toNat_of_nonneg k0]
          refine ⟨_, hLn8, (by rw [List.length_map, hkl]; exact Nat.lt_of_lt_of_le (by omega : j < 100) (by decide)), ks ++ [k.toNat], t7 + 1, ?_, by rw [List.length_append, hkl]; rfl, fun k' hk' => ?_, by omega, S8.chg Lna Lnc, ?_, ?_⟩
          · rw [← map_nV_snoc, ← eV]; exact upd_same
          · rcases List.mem_append.mp hk' with h | h
            · exact hkb k' h
            · rw [List.mem_singleton.mp h]; omega
          · exact (upd_ne (ne_of_none hLs6 nLn)).trans (O8 _ _ hLs7 La Lc)
          · exact (SS7.oth S7 O8).put hLn8
        · rintro H7 ⟨ks, t7, hLn, hkl, hkb, ht7, S7, hLs7, SS7⟩
          have kn : ks.length ≤ 10 := by omega
          walk_at "rd"
          refine ⟨.inl ⟨by decide, by decide⟩, ?_⟩
          refine ⟨a, c, t7, 3 * mo, rfl, S7, by omega, by omega, fun v H8 v0 v1 S8 O8 => ?_⟩
          have hLs8 := O8 _ _ hLs7 La Lc
          have hLn8 := O8 _ _ hLn Lna Lnc
          have SS8 := SS7.oth S7 O8
          walk_at "rd"
          refine ⟨Ls, _, rfl, .inl (SqL.of hLs8), fun k1 nk1 => ?_⟩
          have fk1 : upd H8 k1 (.lst xs) k1 = some (.lst xs) := upd_same
          have s9 : Same H8 (upd H8 k1 (.lst xs)) := fun b u z => (upd_ne (ne_of_none z nk1)).trans z
          generalize e9 : upd H8 k1 _ = H9
          replace fk1 : H9 k1 = some (.lst xs) := e9 ▸ fk1
          replace s9 : Same H8 H9 := e9 ▸ s9
          clear e9
          walk_at "rd"
          refine ⟨Ln, _, rfl, .inl (SqL.of (s9 _ _ hLn8)), fun k2 nk2 => ?_⟩
          have fk2 : upd H9 k2 (.lst (ks.map nV)) k2 = some (.lst (ks.map nV)) := upd_same
          have s10 : Same H9 (upd H9 k2 (.lst (ks.map nV))) := fun b u z => (upd_ne (ne_of_none z nk2)).trans z
          generalize e10 : upd H9 k2 _ = H10
          replace fk2 : H10 k2 = some (.lst (ks.map nV)) := e10 ▸ fk2
          replace s10 : Same H9 H10 := e10 ▸ s10
          clear e10
          walk_at "rd"
          refine ⟨(by show 2 ≤ sizeLine; decide), fun k3 nk3 => ?_⟩
          have fk3 : upd H10 k3 (.lst [.ref k1, .ref k2]) k3 = some (.lst [.ref k1, .ref k2]) := upd_same
          have s11 : Same H10 (upd H10 k3 (.lst [.ref k1, .ref k2])) := fun b u z => (upd_ne (ne_of_none z nk3)).trans z
          generalize e11 : upd H10 k3 _ = H11
          replace fk3 : H11 k3 = some (.lst [.ref k1, .ref k2]) := e11 ▸ fk3
          replace s11 : Same H10 H11 := e11 ▸ s11
          clear e11
          have s8 : Same H8 H11 := (s9.trans s10).trans s11
          have hLsB := s8 _ _ hLs8
          have hLnB := s8 _ _ hLn8
          have SSB := SS8.same s8
          have SB := S8.of_same s8
          have k1B := s11 _ _ (s10 _ _ fk1)
          have k2B := s11 _ _ fk2
          clear hLs8 hLn8 SS8 fk1 fk2
          -- the first and the last side
          obtain ⟨pf, ef, hpf, f0, f1, f2, f3, fm⟩ := SSB.at_ 0 ss[0] (List.getElem?_eq_getElem (by omega))
          obtain ⟨pl, el, hpl, g0, g1, g2, g3, gm⟩ := SSB.at_ (ss.length - 1) ss[ss.length - 1] (List.getElem?_eq_getElem (by omega))
          have afst : atI xs 0 = some (.ref pf) := by
            unfold atI
            rw [ixN_in (by omega) (by rw [SSB.len]; omega)]
            exact ef
          have alst : atI xs (-1) = some (.ref pl) := by
            unfold atI ixN
            rw [if_neg (by omega), if_pos (by rw [SSB.len]; omega), SSB.len]
            rw [show (-1 + (ss.length : Int)).toNat = ss.length - 1 by omega]
            exact el
          walk_at "rd"
          refine ⟨Ls, _, _, _, rfl, rfl, SqL.of hLsB, afst, ?_⟩
          walk_at "rd"
          refine ⟨pf, _, 0, _, rfl, rfl, SqT.of hpf, rfl, ?_⟩
          walk_at "rd"
          refine ⟨Ls, _, _, _, rfl, rfl, SqL.of hLsB, afst, ?_⟩
          walk_at "rd"
          refine ⟨pf, _, 0, _, rfl, rfl, SqT.of hpf, rfl, ?_⟩
          walk_at "rd"
          refine ⟨Ls, _, _, _, rfl, rfl, SqL.of hLsB, afst, ?_⟩
          walk_at "rd"
          refine ⟨pf, _, 1, _, rfl, rfl, SqT.of hpf, rfl, ?_⟩
          walk_at "rd"
          refine ⟨⟨by decide, by decide⟩, ?_⟩
          walk_at "rd"
          refine ⟨Ls, _, _, _, rfl, rfl, SqL.of hLsB, alst, ?_⟩
          walk_at "rd"
          refine ⟨pl, _, 0, _, rfl, rfl, SqT.of hpl, rfl, ?_⟩
          walk_at "rd"
          refine ⟨(by show 5 ≤ sizeLine; decide), fun L5 nL5 => ?_⟩
          have fL5 : upd H11 L5 (.lst ([v - mo, 0, ss[0].o, ss[0].o + ss[0].s / 2, ss[ss.length - 1].o - 1].map V.int)) L5 = some (.lst ([v - mo, 0, ss[0].o, ss[0].o + ss[0].s / 2, ss[ss.length - 1].o - 1].map V.int)) := upd_same
          have s12 : Same H11 (upd H11 L5 (.lst ([v - mo, 0, ss[0].o, ss[0].o + ss[0].s / 2, ss[ss.length - 1].o - 1].map V.int))) := fun b u z => (upd_ne (ne_of_none z nL5)).trans z
          generalize e12 : upd H11 L5 _ = H12
          replace fL5 : H12 L5 = some (.lst ([v - mo, 0, ss[0].o, ss[0].o + ss[0].s / 2, ss[ss.length - 1].o - 1].map V.int)) := e12 ▸ fL5
          replace s12 : Same H11 H12 := e12 ▸ s12
          clear e12
          replace hLsB := s12 _ _ hLsB
          replace hLnB := s12 _ _ hLnB
          replace SSB := SSB.same s12
          replace SB := SB.of_same s12
          replace k1B := s12 _ _ k1B
          replace k2B := s12 _ _ k2B
          replace fk3 := s12 _ _ fk3
          have SI := SSB.sides mo1 hLsB ss1 ss4
          refine ⟨L5, rfl, ⟨_, SqL.of fL5⟩, ?_⟩
          refine for_list (K := K) (a := L5) (xs := [v - mo, 0, ss[0].o, ss[0].o + ss[0].s / 2, ss[ss.length - 1].o - 1].map V.int) (fun _ st H' => ∃ (x9 x10 x11 x12 x13 : Option V), st = [some (.ref l), some (.ref a), some (.int (0 + (i : Int))), some (.int mo), none, some (.ref Ls), some (.ref Ln), some (.int (v - mo)), some (.ref k3), x9, x10, x11, x12, x13, x14] ∧ Same H12 H')
            ⟨x9, x10, x11, x12, x13, rfl, Same.refl _⟩ (fun _ _ _ _ ⟨_, _, _, _, _, _, sm⟩ => SqL.of (sm _ _ fL5)) ?_ ?_
          · rintro i2 y3 st H13 hy3 ⟨x9, x10, x11, x12, x13, rfl, sm13⟩
            obtain ⟨one, rfl, hone⟩ := getI hy3
            have oneb : -2 ^ 120 < one ∧ one < 2 ^ 120 := by
              simp only [List.mem_cons, List.not_mem_nil, or_false] at hone
              omega
            walk_at "rd"
            refine ⟨by decide, fun Ld nLd => ?_⟩
            walk_at "rd"
            refine ⟨_, _, rfl, ?_⟩
            have hLn13 := sm13 _ _ hLnB
            walk_at "rd"
            refine ⟨⟨_, SqL.of ((upd_ne (ne_of_none hLn13 nLd)).trans hLn13)⟩, ?_⟩
            refine for_list (K := K) (a := Ln) (xs := ks.map nV) (fun j st H' => ∃ (x12 : Option V), st = [some (.ref l), some (.ref a), some (.int (0 + (i : Int))), some (.int mo), none, some (.ref Ls), some (.ref Ln), some (.int (v - mo)), some (.ref k3), some (.int one), some (.ref Ld), some (.int (walkW ss (ks.take j) one).2), x12, x13, x14] ∧ H' Ld = some (.lst ((walkW ss (ks.take j) one).1.map V.int)) ∧ Same H13 H' ∧ (walkW ss (ks.take j) one).1.length = j ∧ (-(2 ^ 120 + 10 ^ 30 * (j : Int)) < (walkW ss (ks.take j) one).2 ∧ (walkW ss (ks.take j) one).2 < 2 ^ 120 + 10 ^ 30 * (j : Int)) ∧ j ≤ ks.length)
              ⟨x12, rfl, upd_same, fun b u z => (upd_ne (ne_of_none z nLd)).trans z, rfl, (by show -(2 ^ 120 + 10 ^ 30 * ((0 : Nat) : Int)) < one ∧ one < 2 ^ 120 + 10 ^ 30 * ((0 : Nat) : Int); omega), Nat.zero_le _⟩ (fun _ _ _ _ ⟨_, _, _, sm, _⟩ => SqL.of (sm _ _ hLn13)) ?_ ?_
            · rintro j y4 st H14 hy4 ⟨x12, rfl, hLd, sm14, hlen4, hb4, hj4⟩
              obtain ⟨k, hkk, rfl⟩ : ∃ k, ks[j]? = some k ∧ y4 = nV k := by
                rw [List.getElem?_map] at hy4
                cases e : ks[j]? with
                | none => rw [e] at hy4; cases hy4
                | some k => rw [e] at hy4; exact ⟨k, rfl, (Option.some.inj hy4).symm⟩
              have hj' : j < ks.length := (List.getElem?_eq_some_iff.mp hkk).1
              have kl' := hkb k (List.mem_of_getElem? hkk)
              obtain ⟨p, ep, hp, sp⟩ := SI.at_ k ss[k] (List.getElem?_eq_getElem kl')
              have en : atI xs ((k : Nat) : Int) = some (.ref p) := by
                unfold atI
                rw [ixN_in (by omega) (by rw [SI.len]; omega)]
                exact ep
              have ws : walkW ss (ks.take (j + 1)) one = ((walkW ss (ks.take j) one).1 ++ [dueM ss[k].o ss[k].s ss[k].m (walkW ss (ks.take j) one).2], dueM ss[k].o ss[k].s ss[k].m (walkW ss (ks.take j) one).2) := by
                rw [walk_snoc hkk]
                unfold stepW
                rw [List.getElem?_eq_getElem kl']
              have sm1314 := sm13.trans sm14
              walk_at "rd"
              refine ⟨Ls, _, _, _, rfl, rfl, SqL.of (sm1314 _ _ hLsB), en, ?_⟩
              walk_at "rd"
              refine ⟨p, ss[k].o, ss[k].s, ss[k].m, _, rfl, sm1314 _ _ hp, sp, (by unfold Bd; omega), fun H15 sm15 => ?_⟩
              walk_at "rd"
              have hd2 := sm15 _ _ hLd
              refine ⟨.inl ⟨rfl, _, SqL.of hd2⟩, ?_⟩
              walk_at "rd"
              refine ⟨Ld, _, _, rfl, rfl, hd2, (by rw [List.length_map, hlen4]; exact Nat.lt_of_lt_of_le (by omega : j < 1000) (by decide)), ?_⟩
              have far := due_far (v := (walkW ss (ks.take j) one).2) sp hb4
              rw [ws]
              refine ⟨_, rfl, ?_, fun b u z => (upd_ne (ne_of_none z nLd)).trans (sm15 _ _ (sm14 _ _ z)), by rw [List.length_append, hlen4]; rfl, ?_, hj'⟩
              · rw [List.map_append]; exact upd_same
              · show -(2 ^ 120 + 10 ^ 30 * ((j + 1 : Nat) : Int)) < dueM ss[k].o ss[k].s ss[k].m (walkW ss (ks.take j) one).2 ∧ _ < 2 ^ 120 + 10 ^ 30 * ((j + 1 : Nat) : Int)
                omega
            · rintro st H14 ⟨x12, rfl, hLd, sm14, hlen4, hb4, hj4⟩
              rw [List.length_map, List.take_length] at hLd
              obtain ⟨wv, ewv⟩ : ∃ wv, wv = (walkW ss ks one).1 := ⟨_, rfl⟩
              rw [← ewv] at hLd
              have sm1314 := sm13.trans sm14
              have SI14 := SI.same sm1314
              have hLn14 := sm1314 _ _ hLnB
              have shp := PySem.W.ke_shaped_ints wv
              have evw := SeqAt.eqv_refl (.list (wv.map PyData.int)) (SeqAt.canLay_of_shaped shp)
              walk_at "rd"
              refine ⟨_, _, _, rfl, .inr ⟨Ls, xs, ss, rfl, SI14, .inr ⟨Ln, ks, rfl, hLn14, by omega, hkb, .inr ⟨one, rfl, by omega, fun d H15 nd5 sm15 hd5 => ?_⟩⟩⟩⟩
              rw [← ewv] at hd5
              walk_at "rd"
              refine ⟨_, _, .lst (SqL.of hd5) (dpInts _ wv), .lst (SqL.of (sm15 _ _ hLd)) (dpInts _ wv), shp, shp, ?_⟩
              walk_at "rd"
              refine ite2 (fun z => (not_t z evw).elim) (fun _ => ?_)
              walk_at "rd"
              refine ⟨.inl ⟨rfl, _, SqL.of hd5⟩, ?_⟩
              walk_at "rd"
              rw [List.length_map, List.take_length] at hlen4
              have wl : wv.length < 100 := by rw [ewv, hlen4]; omega
              refine ⟨d, _, _, rfl, rfl, hd5, (by rw [List.length_map]; exact Nat.lt_of_lt_of_le wl (by decide)), ?_⟩
              have s16 : Same H14 (upd H15 d (.lst (wv.map V.int ++ [.non]))) := fun b u z => (upd_ne (ne_of_none z nd5)).trans (sm15 _ _ z)
              generalize e16 : upd H15 d _ = H16
              replace s16 : Same H14 H16 := e16 ▸ s16
              clear e16
              have hLd16 := s16 _ _ hLd
              have SI16 := SI14.same s16
              have hLn16 := s16 _ _ hLn14
              walk_at "rd"
              refine ⟨_, _, _, rfl, .inr ⟨Ls, xs, ss, rfl, SI16, .inr ⟨Ln, ks, rfl, hLn16, by omega, hkb, .inr ⟨one, rfl, by omega, fun d6 H17 nd6 sm17 hd6 => ?_⟩⟩⟩⟩
              rw [← ewv] at hd6
              walk_at "rd"
              refine ⟨_, _, .lst (SqL.of hd6) (dpInts _ wv), .lst (SqL.of (sm17 _ _ hLd16)) (dpInts _ wv), shp, shp, ?_⟩
              walk_at "rd"
              refine ite2 (fun z => (not_t z evw).elim) (fun _ => ?_)
              walk_at "rd"
              have smZ := (sm1314.trans s16).trans sm17
              refine ⟨(by show 2 ≤ sizeLine; decide), fun lz nlz => ?_⟩
              have smY : Same H12 (upd H17 lz (.lst [.ref Ls, .ref Ln])) := fun b u z => (upd_ne (ne_of_none (smZ _ _ z) nlz)).trans (smZ _ _ z)
              have ck := can_kept ks (SSB.modes)
              walk_at "rd"
              refine ⟨keptD ss ks, keptD ss ks, .lst (SqL.of upd_same) (.cons (.lst (SqL.of (smY _ _ hLsB)) (SSB.same smY).dp) (.cons (.lst (SqL.of (smY _ _ hLnB)) (dpNums ks)) .nil)), .lst (SqL.of (smY _ _ fk3)) (.cons (.lst (SqL.of (smY _ _ k1B)) (SSB.same smY).dp) (.cons (.lst (SqL.of (smY _ _ k2B)) (dpNums ks)) .nil)), ck.2, ck.2, ?_⟩
              walk_at "rd"
              refine ite2 (fun z => (not_t z (SeqAt.eqv_refl _ ck.1)).elim) (fun _ => ?_)
              exact ⟨_, _, _, _, _, rfl, smY⟩
          · rintro st H13 ⟨x9, x10, x11, x12, x13, rfl, sm13⟩
            walk_at "rd"
            refine ⟨by decide, fun Lz nLz => ?_⟩
            have fLz : upd H13 Lz (.lst []) Lz = some (.lst []) := upd_same
            have sZ : Same H12 (upd H13 Lz (.lst [])) := fun b u z => (upd_ne (ne_of_none (sm13 _ _ z) nLz)).trans (sm13 _ _ z)
            generalize eZ : upd H13 Lz _ = HZ
            replace fLz : HZ Lz = some (.lst []) := eZ ▸ fLz
            replace sZ : Same H12 HZ := eZ ▸ sZ
            clear eZ
            walk_at "rd"
            refine ⟨_, _, _, rfl, .inr ⟨Ls, xs, ss, rfl, SI.same sZ, .inr ⟨Lz, [], rfl, fLz, by decide, fun k hk => absurd hk List.not_mem_nil, .inr ⟨v - mo, rfl, by omega, fun d HY nd5 smY hd5 => ?_⟩⟩⟩⟩
            have hd5' : HY d = some (.lst []) := hd5
            refine ⟨.inl ⟨rfl, _, SqL.of hd5'⟩, ?_⟩
            walk_at "rd"
            refine ⟨d, _, _, rfl, rfl, hd5', by decide, ?_⟩
            have dz : Lz ≠ d := ne_of_none fLz nd5
            have sX : Same H12 (upd HY d (.lst ([] ++ [.non]))) := fun b u z => (upd_ne (ne_of_none (sZ _ _ z) nd5)).trans (smY _ _ (sZ _ _ z))
            have fLx : upd HY d (.lst ([] ++ [.non])) Lz = some (.lst []) := (upd_ne dz).trans (smY _ _ fLz)
            generalize eX : upd HY d _ = HX
            replace fLx : HX Lz = some (.lst []) := eX ▸ fLx
            replace sX : Same H12 HX := eX ▸ sX
            clear eX
            walk_at "rd"
            refine ⟨by decide, fun e ne => ?_⟩
            refine ⟨_, _, .lst (SqL.of ((upd_ne (ne_of_none fLx ne)).trans fLx)) .nil, .lst (SqL.of upd_same) .nil, by decide +kernel, by decide +kernel, ?_⟩
            walk_at "rd"
            have sW : Same H12 (upd HX e (.lst [])) := fun b u z => (upd_ne (ne_of_none (sX _ _ z) ne)).trans (sX _ _ z)
            first
              | refine ite2 (fun z => (not_t z (SeqAt.eqv_refl (.list []) rfl)).elim) (fun _ => ?_)
              | skip
            generalize eW : upd HX e _ = HW
            replace sW : Same H12 HW := eW ▸ sW
            clear eW
            have endT : ∃ (x2 x3 x5 x6 x7 x8 x9' x10' x11' x12' x13' x14 : Option V) (t' : Nat), [some (.ref l), some (.ref a), some (.int (0 + (i : Int))), some (.int mo), none, some (.ref Ls), some (.ref Ln), some (.int (v - mo)), some (.ref k3), x9, x10, x11, x12, x13, some (V.ref Lz)] = [some (.ref l), some (.ref a), x2, x3, none, x5, x6, x7, x8, x9', x10', x11', x12', x13', x14] ∧ t' ≤ 400 * (i + 1) ∧ Src HW a c t' :=
              ⟨_, _, _, _, _, _, _, _, _, _, _, _, _, rfl, by omega, SB.of_same sW⟩
            walk_at "rd"
            refine ⟨(by show (0 : Int) < 8; decide), ?_⟩
            walk_at "rd"
            refine ⟨rfl, ?_⟩
            walk_at "rd"
            refine ite2 (fun _ => ?_) (fun _ => ?_)
            · walk_at "rd"
              obtain ⟨pq, eq, hpq, spq⟩ := SI.at_ 0 ss[0] (List.getElem?_eq_getElem (by omega))
              have epq : pq = pf := by
                rw [ef] at eq
                cases eq
                rfl
              subst epq
              refine ⟨Ls, _, _, _, rfl, rfl, SqL.of (sW _ _ hLsB), afst, ?_⟩
              refine ⟨pq, ss[0].o, ss[0].s, ss[0].m, rfl, sW _ _ hpq, spq, fun HV sV => ?_⟩
              walk_at "rd"
              exact ⟨_, _, _, _, _, _, _, _, _, _, _, _, _, rfl, by omega, (SB.of_same sW).of_same sV⟩
            · exact endT
    · rintro σ H' ⟨x2, x3, x5, x6, x7, x8, x9, x10, x11, x12, x13, x14, t, rfl, ht, S'⟩
      walk_at "rd"
      refine ⟨(by show 3 ≤ sizeLine; decide), fun t1 nt1 => ?_⟩
      have ft1 : upd H' t1 (.tup [.int 0, .int 10, .str "half_up"]) t1 = some (.tup [.int 0, .int 10, .str "half_up"]) := upd_same
      generalize upd H' t1 _ = H1 at ft1 ⊢
      walk_at "rd"
      refine ⟨(by show 3 ≤ sizeLine; decide), fun t2 nt2 => ?_⟩
      have ft2 : upd H1 t2 (.tup [.int 0, .int 100, .str "half_up"]) t2 = some (.tup [.int 0, .int 100, .str "half_up"]) := upd_same
      replace ft1 := (upd_ne (o := .tup [.int 0, .int 100, .str "half_up"]) (ne_of_none ft1 nt2)).trans ft1
      generalize upd H1 t2 _ = H2 at ft1 ft2 ⊢
      walk_at "rd"
      refine ⟨(by show 2 ≤ sizeLine; decide), fun t3 nt3 => ?_⟩
      have ft3 : upd H2 t3 (.lst [.ref t1, .ref t2]) t3 = some (.lst [.ref t1, .ref t2]) := upd_same
      replace ft1 := (upd_ne (o := .lst [.ref t1, .ref t2]) (ne_of_none ft1 nt3)).trans ft1
      replace ft2 := (upd_ne (o := .lst [.ref t1, .ref t2]) (ne_of_none ft2 nt3)).trans ft2
      generalize upd H2 t3 _ = H3 at ft1 ft2 ft3 ⊢
      walk_at "rd"
      refine ⟨(by show 2 ≤ sizeLine; decide), fun t4 nt4 => ?_⟩
      have ft4 : upd H3 t4 (.lst [.int 0, .int 1]) t4 = some (.lst [.int 0, .int 1]) := upd_same
      replace ft1 := (upd_ne (o := .lst [.int 0, .int 1]) (ne_of_none ft1 nt4)).trans ft1
      replace ft2 := (upd_ne (o := .lst [.int 0, .int 1]) (ne_of_none ft2 nt4)).trans ft2
      replace ft3 := (upd_ne (o := .lst [.int 0, .int 1]) (ne_of_none ft3 nt4)).trans ft3
      generalize upd H3 t4 _ = H4 at ft1 ft2 ft3 ft4 ⊢
      walk_at "rd"
      refine ⟨_, _, _, rfl, .inr ⟨t3, _, [⟨0, 10, "half_up"⟩, ⟨0, 100, "half_up"⟩], rfl, two_plain ft3 ft1 ft2, .inr ⟨t4, [0, 1], rfl, ft4, by decide, fun k hk => (by have : k = 0 ∨ k = 1 := (by simpa using hk); show k < 2; omega), .inr ⟨45, rfl, by decide, fun d H5 nd5 sm5 hd5 => ?_⟩⟩⟩⟩
      have e45 : (walkW [⟨0, 10, "half_up"⟩, ⟨0, 100, "half_up"⟩] [0, 1] 45).1 = [50, 100] := by decide +kernel
      rw [e45] at hd5
      walk_at "rd"
      refine ⟨(by show 2 ≤ sizeLine; decide), fun t6 nt6 => ?_⟩
      refine ⟨.list [.int 50, .int 100], .list [.int 50, .int 100], .lst (SqL.of ((upd_ne (ne_of_none hd5 nt6)).trans hd5)) (.cons (.int _) (.cons (.int _) .nil)), .lst (SqL.of upd_same) (.cons (.int _) (.cons (.int _) .nil)), by decide +kernel, by decide +kernel, ?_⟩
      exact q _
end
end HT
namespace HT
open PySem L2
def errB (K : PySem.W.Frag) (C : Addr) : Bool := (PySem.W.clsIn K C).isSome && (decide (PySem.W.findIn K (.ref C) "__getattribute__" = some (some (.builtin "BaseException.__getattribute__"))) && (decide (PySem.W.findIn K (.ref C) "__getattr__" = some none) && (decide (PySem.W.subIn K (.ref C) (.type "BaseException") = some true) &&
  (decide (PySem.W.findIn K (.ref C) "__class__" = some (some (.builtin "object.__class__"))) && decide (PySem.W.mroIn K C (.type "object") = some true)))))
theorem errB_ok {K : PySem.W.Frag} {C : Addr} (h : errB K C = true) : ErrC K C := by
  unfold errB at h
  simp only [Bool.and_eq_true, decide_eq_true_eq] at h
  obtain ⟨a, b, c, d, e, f⟩ := h
  exact ⟨a, b, c, d, e, f⟩
def exB (K : PySem.W.Frag) (C : Addr) : Bool := PySem.W.excIn K C [.type "ValueError", .type "Exception", .type "BaseException", .type "object"] "ValueError.__new__" && PySem.W.keepIn K (.ref C)
def erT (K : PySem.W.Frag) (C : Nat → Addr) (B : Addr) (i : Nat) : Bool := errB K (C i) && (exB K (C i) && (decide (PySem.W.kitOne K (.ref (C i)) (.type "ValueError") = some true) && (decide (PySem.W.subIn K (.ref (C i)) (.type "BaseException") = some true) && (decide (PySem.W.typeIn K (.ref (C i)) = some (.type "type")) && (decide (PySem.W.exmOne K (.ref (C i)) (.ref B) = some true) &&
  (List.range 5).all fun j => decide (PySem.W.kitOne K (.ref (C i)) (.ref (C j)) = some (decide (i = j))))))))
def cAt (l : List Addr) (i : Nat) : Addr := l.getD i 0
theorem all_of {p : Nat → Bool} {n : Nat} (h : (List.range n).all p = true) {i : Nat} (hi : i < n) : p i = true := List.all_eq_true.mp h i (List.mem_range.mpr hi)
theorem all_mk {l : PySem.W.OpenLaw} {w : World} {K : PySem.W.Frag} {h : Heap} {mg : Str → Option Value} {fa aM c0 c1 c2 c3 c4 cB f_is_int f_is_int_between f_check_value f_check_side f_is_side f_figure f_goes_up f_written f_below f_threshold f_check_sides f_period_of f_moved f_common_period f_along f_check_numbers f_before f_route f_fewest f_runs f_widened f_ends f_within f_holds f_way f_L_source f_L_draw f_L_pick f_L_great f_L_ten f_L_step f_L_side f_L_written f_L_word f_L_words f_L_doors_right f_law : Addr} (X : K.In h) (G : h.Ns mainGlobals mg) (hfa : mg "law" = some (.ref fa))
    {odM od_is_int an_is_int od_is_int_between an_is_int_between od_check_value an_check_value od_check_side an_check_side od_is_side an_is_side od_figure an_figure od_goes_up an_goes_up od_written an_written od_below an_below od_threshold an_threshold od_check_sides an_check_sides od_period_of an_period_of od_moved an_moved od_common_period an_common_period od_along an_along od_check_numbers an_check_numbers od_before an_before od_route an_route od_fewest an_fewest od_runs an_runs od_widened an_widened od_ends an_ends od_within an_within od_holds an_holds od_way an_way od_L_source an_L_source od_L_draw an_L_draw od_L_pick an_L_pick od_L_great an_L_great od_L_ten an_L_ten od_L_step an_L_step od_L_side an_L_side od_L_written an_L_written od_L_word an_L_word od_L_words an_L_words od_L_doors_right an_L_doors_right od_law an_law : Option Addr} {slM sl_is_int sl_is_int_between sl_check_value sl_check_side sl_is_side sl_figure sl_goes_up sl_written sl_below sl_threshold sl_check_sides sl_period_of sl_moved sl_common_period sl_along sl_check_numbers sl_before sl_route sl_fewest sl_runs sl_widened sl_ends sl_within sl_holds sl_way sl_L_source sl_L_draw sl_L_pick sl_L_great sl_L_ten sl_L_step sl_L_side sl_L_written sl_L_word sl_L_words sl_L_doors_right sl_law : Array (Option Value)} {nM : Nat} {itsM : Array Value} {tMS tMH : Tok} {oc_is_int kV_is_int dc_is_int pm_is_int cd_is_int ct_is_int oc_is_int_between kV_is_int_between dc_is_int_between pm_is_int_between cd_is_int_between ct_is_int_between oc_check_value kV_check_value dc_check_value pm_check_value cd_check_value ct_check_value oc_check_side kV_check_side dc_check_side pm_check_side cd_check_side ct_check_side oc_is_side kV_is_side dc_is_side pm_is_side cd_is_side ct_is_side oc_figure kV_figure dc_figure pm_figure cd_figure ct_figure oc_goes_up kV_goes_up dc_goes_up pm_goes_up cd_goes_up ct_goes_up oc_written kV_written dc_written pm_written cd_written ct_written oc_below kV_below dc_below pm_below cd_below ct_below oc_threshold kV_threshold dc_threshold pm_threshold cd_threshold ct_threshold oc_check_sides kV_check_sides dc_check_sides pm_check_sides cd_check_sides ct_check_sides oc_period_of kV_period_of dc_period_of pm_period_of cd_period_of ct_period_of oc_moved kV_moved dc_moved pm_moved cd_moved ct_moved oc_common_period kV_common_period dc_common_period pm_common_period cd_common_period ct_common_period oc_along kV_along dc_along pm_along cd_along ct_along oc_check_numbers kV_check_numbers dc_check_numbers pm_check_numbers cd_check_numbers ct_check_numbers oc_before kV_before dc_before pm_before cd_before ct_before oc_route kV_route dc_route pm_route cd_route ct_route oc_fewest kV_fewest dc_fewest pm_fewest cd_fewest ct_fewest oc_runs kV_runs dc_runs pm_runs cd_runs ct_runs oc_widened kV_widened dc_widened pm_widened cd_widened ct_widened oc_ends kV_ends dc_ends pm_ends cd_ends ct_ends oc_within kV_within dc_within pm_within cd_within ct_within oc_holds kV_holds dc_holds pm_holds cd_holds ct_holds oc_way kV_way dc_way pm_way cd_way ct_way oc_L_source kV_L_source dc_L_source pm_L_source cd_L_source ct_L_source oc_L_draw kV_L_draw dc_L_draw pm_L_draw cd_L_draw ct_L_draw oc_L_pick kV_L_pick dc_L_pick pm_L_pick cd_L_pick ct_L_pick oc_L_great kV_L_great dc_L_great pm_L_great cd_L_great ct_L_great oc_L_ten kV_L_ten dc_L_ten pm_L_ten cd_L_ten ct_L_ten oc_L_step kV_L_step dc_L_step pm_L_step cd_L_step ct_L_step oc_L_side kV_L_side dc_L_side pm_L_side cd_L_side ct_L_side oc_L_written kV_L_written dc_L_written pm_L_written cd_L_written ct_L_written oc_L_word kV_L_word dc_L_word pm_L_word cd_L_word ct_L_word oc_L_words kV_L_words dc_L_words pm_L_words cd_L_words ct_L_words oc_L_doors_right kV_L_doors_right dc_L_doors_right pm_L_doors_right cd_L_doors_right ct_L_doors_right oc_law kV_law dc_law pm_law cd_law ct_law : Value}
    (a_is_int : PySem.W.nsIn K mainGlobals "is_int" = some (some (.ref f_is_int)))
    (l_is_int : K.lookup f_is_int = some ⟨oc_is_int, od_is_int, .func (PySem.W.fnOf "is_int" "is_int" (defArgs s_is_int) (defBody s_is_int) (defScope s_is_int) .none kV_is_int dc_is_int pm_is_int an_is_int cd_is_int ct_is_int), sl_is_int⟩)
    (c_is_int : PySem.W.codeIn K cd_is_int "is_int" = true) (k_is_int : PySem.W.keepIn K (.ref f_is_int) = true)
    (a_is_int_between : PySem.W.nsIn K mainGlobals "is_int_between" = some (some (.ref f_is_int_between)))
    (l_is_int_between : K.lookup f_is_int_between = some ⟨oc_is_int_between, od_is_int_between, .func (PySem.W.fnOf "is_int_between" "is_int_between" (defArgs s_is_int_between) (defBody s_is_int_between) (defScope s_is_int_between) .none kV_is_int_between dc_is_int_between pm_is_int_between an_is_int_between cd_is_int_between ct_is_int_between), sl_is_int_between⟩)
    (c_is_int_between : PySem.W.codeIn K cd_is_int_between "is_int_between" = true) (k_is_int_between : PySem.W.keepIn K (.ref f_is_int_between) = true)
    (a_check_value : PySem.W.nsIn K mainGlobals "check_value" = some (some (.ref f_check_value)))
    (l_check_value : K.lookup f_check_value = some ⟨oc_check_value, od_check_value, .func (PySem.W.fnOf "check_value" "check_value" (defArgs s_check_value) (defBody s_check_value) (defScope s_check_value) .none kV_check_value dc_check_value pm_check_value an_check_value cd_check_value ct_check_value), sl_check_value⟩)
    (c_check_value : PySem.W.codeIn K cd_check_value "check_value" = true) (k_check_value : PySem.W.keepIn K (.ref f_check_value) = true)
    (a_check_side : PySem.W.nsIn K mainGlobals "check_side" = some (some (.ref f_check_side)))
    (l_check_side : K.lookup f_check_side = some ⟨oc_check_side, od_check_side, .func (PySem.W.fnOf "check_side" "check_side" (defArgs s_check_side) (defBody s_check_side) (defScope s_check_side) .none kV_check_side dc_check_side pm_check_side an_check_side cd_check_side ct_check_side), sl_check_side⟩)
    (c_check_side : PySem.W.codeIn K cd_check_side "check_side" = true) (k_check_side : PySem.W.keepIn K (.ref f_check_side) = true)
    (a_is_side : PySem.W.nsIn K mainGlobals "is_side" = some (some (.ref f_is_side)))
    (l_is_side : K.lookup f_is_side = some ⟨oc_is_side, od_is_side, .func (PySem.W.fnOf "is_side" "is_side" (defArgs s_is_side) (defBody s_is_side) (defScope s_is_side) .none kV_is_side dc_is_side pm_is_side an_is_side cd_is_side ct_is_side), sl_is_side⟩)
    (c_is_side : PySem.W.codeIn K cd_is_side "is_side" = true) (k_is_side : PySem.W.keepIn K (.ref f_is_side) = true)
    (a_figure : PySem.W.nsIn K mainGlobals "_figure" = some (some (.ref f_figure)))
    (l_figure : K.lookup f_figure = some ⟨oc_figure, od_figure, .func (PySem.W.fnOf "_figure" "_figure" (defArgs s_figure) (defBody s_figure) (defScope s_figure) .none kV_figure dc_figure pm_figure an_figure cd_figure ct_figure), sl_figure⟩)
    (c_figure : PySem.W.codeIn K cd_figure "_figure" = true) (k_figure : PySem.W.keepIn K (.ref f_figure) = true)
    (a_goes_up : PySem.W.nsIn K mainGlobals "_goes_up" = some (some (.ref f_goes_up)))
    (l_goes_up : K.lookup f_goes_up = some ⟨oc_goes_up, od_goes_up, .func (PySem.W.fnOf "_goes_up" "_goes_up" (defArgs s_goes_up) (defBody s_goes_up) (defScope s_goes_up) .none kV_goes_up dc_goes_up pm_goes_up an_goes_up cd_goes_up ct_goes_up), sl_goes_up⟩)
    (c_goes_up : PySem.W.codeIn K cd_goes_up "_goes_up" = true) (k_goes_up : PySem.W.keepIn K (.ref f_goes_up) = true)
    (a_written : PySem.W.nsIn K mainGlobals "written" = some (some (.ref f_written)))
    (l_written : K.lookup f_written = some ⟨oc_written, od_written, .func (PySem.W.fnOf "written" "written" (defArgs s_written) (defBody s_written) (defScope s_written) .none kV_written dc_written pm_written an_written cd_written ct_written), sl_written⟩)
    (c_written : PySem.W.codeIn K cd_written "written" = true) (k_written : PySem.W.keepIn K (.ref f_written) = true)
    (a_below : PySem.W.nsIn K mainGlobals "_below" = some (some (.ref f_below)))
    (l_below : K.lookup f_below = some ⟨oc_below, od_below, .func (PySem.W.fnOf "_below" "_below" (defArgs s_below) (defBody s_below) (defScope s_below) .none kV_below dc_below pm_below an_below cd_below ct_below), sl_below⟩)
    (c_below : PySem.W.codeIn K cd_below "_below" = true) (k_below : PySem.W.keepIn K (.ref f_below) = true)
    (a_threshold : PySem.W.nsIn K mainGlobals "threshold" = some (some (.ref f_threshold)))
    (l_threshold : K.lookup f_threshold = some ⟨oc_threshold, od_threshold, .func (PySem.W.fnOf "threshold" "threshold" (defArgs s_threshold) (defBody s_threshold) (defScope s_threshold) .none kV_threshold dc_threshold pm_threshold an_threshold cd_threshold ct_threshold), sl_threshold⟩)
    (c_threshold : PySem.W.codeIn K cd_threshold "threshold" = true) (k_threshold : PySem.W.keepIn K (.ref f_threshold) = true)
    (a_check_sides : PySem.W.nsIn K mainGlobals "check_sides" = some (some (.ref f_check_sides)))
    (l_check_sides : K.lookup f_check_sides = some ⟨oc_check_sides, od_check_sides, .func (PySem.W.fnOf "check_sides" "check_sides" (defArgs s_check_sides) (defBody s_check_sides) (defScope s_check_sides) .none kV_check_sides dc_check_sides pm_check_sides an_check_sides cd_check_sides ct_check_sides), sl_check_sides⟩)
    (c_check_sides : PySem.W.codeIn K cd_check_sides "check_sides" = true) (k_check_sides : PySem.W.keepIn K (.ref f_check_sides) = true)
    (a_period_of : PySem.W.nsIn K mainGlobals "period_of" = some (some (.ref f_period_of)))
    (l_period_of : K.lookup f_period_of = some ⟨oc_period_of, od_period_of, .func (PySem.W.fnOf "period_of" "period_of" (defArgs s_period_of) (defBody s_period_of) (defScope s_period_of) .none kV_period_of dc_period_of pm_period_of an_period_of cd_period_of ct_period_of), sl_period_of⟩)
    (c_period_of : PySem.W.codeIn K cd_period_of "period_of" = true) (k_period_of : PySem.W.keepIn K (.ref f_period_of) = true)
    (a_moved : PySem.W.nsIn K mainGlobals "moved" = some (some (.ref f_moved)))
    (l_moved : K.lookup f_moved = some ⟨oc_moved, od_moved, .func (PySem.W.fnOf "moved" "moved" (defArgs s_moved) (defBody s_moved) (defScope s_moved) .none kV_moved dc_moved pm_moved an_moved cd_moved ct_moved), sl_moved⟩)
    (c_moved : PySem.W.codeIn K cd_moved "moved" = true) (k_moved : PySem.W.keepIn K (.ref f_moved) = true)
    (a_common_period : PySem.W.nsIn K mainGlobals "common_period" = some (some (.ref f_common_period)))
    (l_common_period : K.lookup f_common_period = some ⟨oc_common_period, od_common_period, .func (PySem.W.fnOf "common_period" "common_period" (defArgs s_common_period) (defBody s_common_period) (defScope s_common_period) .none kV_common_period dc_common_period pm_common_period an_common_period cd_common_period ct_common_period), sl_common_period⟩)
    (c_common_period : PySem.W.codeIn K cd_common_period "common_period" = true) (k_common_period : PySem.W.keepIn K (.ref f_common_period) = true)
    (a_along : PySem.W.nsIn K mainGlobals "along" = some (some (.ref f_along)))
    (l_along : K.lookup f_along = some ⟨oc_along, od_along, .func (PySem.W.fnOf "along" "along" (defArgs s_along) (defBody s_along) (defScope s_along) .none kV_along dc_along pm_along an_along cd_along ct_along), sl_along⟩)
    (c_along : PySem.W.codeIn K cd_along "along" = true) (k_along : PySem.W.keepIn K (.ref f_along) = true)
    (a_check_numbers : PySem.W.nsIn K mainGlobals "_check_numbers" = some (some (.ref f_check_numbers)))
    (l_check_numbers : K.lookup f_check_numbers = some ⟨oc_check_numbers, od_check_numbers, .func (PySem.W.fnOf "_check_numbers" "_check_numbers" (defArgs s_check_numbers) (defBody s_check_numbers) (defScope s_check_numbers) .none kV_check_numbers dc_check_numbers pm_check_numbers an_check_numbers cd_check_numbers ct_check_numbers), sl_check_numbers⟩)
    (c_check_numbers : PySem.W.codeIn K cd_check_numbers "_check_numbers" = true) (k_check_numbers : PySem.W.keepIn K (.ref f_check_numbers) = true)
    (a_before : PySem.W.nsIn K mainGlobals "before" = some (some (.ref f_before)))
    (l_before : K.lookup f_before = some ⟨oc_before, od_before, .func (PySem.W.fnOf "before" "before" (defArgs s_before) (defBody s_before) (defScope s_before) .none kV_before dc_before pm_before an_before cd_before ct_before), sl_before⟩)
    (c_before : PySem.W.codeIn K cd_before "before" = true) (k_before : PySem.W.keepIn K (.ref f_before) = true)
    (a_route : PySem.W.nsIn K mainGlobals "route" = some (some (.ref f_route)))
    (l_route : K.lookup f_route = some ⟨oc_route, od_route, .func (PySem.W.fnOf "route" "route" (defArgs s_route) (defBody s_route) (defScope s_route) .none kV_route dc_route pm_route an_route cd_route ct_route), sl_route⟩)
    (c_route : PySem.W.codeIn K cd_route "route" = true) (k_route : PySem.W.keepIn K (.ref f_route) = true)
    (a_fewest : PySem.W.nsIn K mainGlobals "_fewest" = some (some (.ref f_fewest)))
    (l_fewest : K.lookup f_fewest = some ⟨oc_fewest, od_fewest, .func (PySem.W.fnOf "_fewest" "_fewest" (defArgs s_fewest) (defBody s_fewest) (defScope s_fewest) .none kV_fewest dc_fewest pm_fewest an_fewest cd_fewest ct_fewest), sl_fewest⟩)
    (c_fewest : PySem.W.codeIn K cd_fewest "_fewest" = true) (k_fewest : PySem.W.keepIn K (.ref f_fewest) = true)
    (a_runs : PySem.W.nsIn K mainGlobals "_runs" = some (some (.ref f_runs)))
    (l_runs : K.lookup f_runs = some ⟨oc_runs, od_runs, .func (PySem.W.fnOf "_runs" "_runs" (defArgs s_runs) (defBody s_runs) (defScope s_runs) .none kV_runs dc_runs pm_runs an_runs cd_runs ct_runs), sl_runs⟩)
    (c_runs : PySem.W.codeIn K cd_runs "_runs" = true) (k_runs : PySem.W.keepIn K (.ref f_runs) = true)
    (a_widened : PySem.W.nsIn K mainGlobals "_widened" = some (some (.ref f_widened)))
    (l_widened : K.lookup f_widened = some ⟨oc_widened, od_widened, .func (PySem.W.fnOf "_widened" "_widened" (defArgs s_widened) (defBody s_widened) (defScope s_widened) .none kV_widened dc_widened pm_widened an_widened cd_widened ct_widened), sl_widened⟩)
    (c_widened : PySem.W.codeIn K cd_widened "_widened" = true) (k_widened : PySem.W.keepIn K (.ref f_widened) = true)
    (a_ends : PySem.W.nsIn K mainGlobals "_ends" = some (some (.ref f_ends)))
    (l_ends : K.lookup f_ends = some ⟨oc_ends, od_ends, .func (PySem.W.fnOf "_ends" "_ends" (defArgs s_ends) (defBody s_ends) (defScope s_ends) .none kV_ends dc_ends pm_ends an_ends cd_ends ct_ends), sl_ends⟩)
    (c_ends : PySem.W.codeIn K cd_ends "_ends" = true) (k_ends : PySem.W.keepIn K (.ref f_ends) = true)
    (a_within : PySem.W.nsIn K mainGlobals "_within" = some (some (.ref f_within)))
    (l_within : K.lookup f_within = some ⟨oc_within, od_within, .func (PySem.W.fnOf "_within" "_within" (defArgs s_within) (defBody s_within) (defScope s_within) .none kV_within dc_within pm_within an_within cd_within ct_within), sl_within⟩)
    (c_within : PySem.W.codeIn K cd_within "_within" = true) (k_within : PySem.W.keepIn K (.ref f_within) = true)
    (a_holds : PySem.W.nsIn K mainGlobals "_holds" = some (some (.ref f_holds)))
    (l_holds : K.lookup f_holds = some ⟨oc_holds, od_holds, .func (PySem.W.fnOf "_holds" "_holds" (defArgs s_holds) (defBody s_holds) (defScope s_holds) .none kV_holds dc_holds pm_holds an_holds cd_holds ct_holds), sl_holds⟩)
    (c_holds : PySem.W.codeIn K cd_holds "_holds" = true) (k_holds : PySem.W.keepIn K (.ref f_holds) = true)
    (a_way : PySem.W.nsIn K mainGlobals "_way" = some (some (.ref f_way)))
    (l_way : K.lookup f_way = some ⟨oc_way, od_way, .func (PySem.W.fnOf "_way" "_way" (defArgs s_way) (defBody s_way) (defScope s_way) .none kV_way dc_way pm_way an_way cd_way ct_way), sl_way⟩)
    (c_way : PySem.W.codeIn K cd_way "_way" = true) (k_way : PySem.W.keepIn K (.ref f_way) = true)
    (a_L_source : PySem.W.nsIn K mainGlobals "_law_source" = some (some (.ref f_L_source)))
    (l_L_source : K.lookup f_L_source = some ⟨oc_L_source, od_L_source, .func (PySem.W.fnOf "_law_source" "_law_source" (defArgs s_L_source) (defBody s_L_source) (defScope s_L_source) .none kV_L_source dc_L_source pm_L_source an_L_source cd_L_source ct_L_source), sl_L_source⟩)
    (c_L_source : PySem.W.codeIn K cd_L_source "_law_source" = true) (k_L_source : PySem.W.keepIn K (.ref f_L_source) = true)
    (a_L_draw : PySem.W.nsIn K mainGlobals "_law_draw" = some (some (.ref f_L_draw)))
    (l_L_draw : K.lookup f_L_draw = some ⟨oc_L_draw, od_L_draw, .func (PySem.W.fnOf "_law_draw" "_law_draw" (defArgs s_L_draw) (defBody s_L_draw) (defScope s_L_draw) .none kV_L_draw dc_L_draw pm_L_draw an_L_draw cd_L_draw ct_L_draw), sl_L_draw⟩)
    (c_L_draw : PySem.W.codeIn K cd_L_draw "_law_draw" = true) (k_L_draw : PySem.W.keepIn K (.ref f_L_draw) = true)
    (a_L_pick : PySem.W.nsIn K mainGlobals "_law_pick" = some (some (.ref f_L_pick)))
    (l_L_pick : K.lookup f_L_pick = some ⟨oc_L_pick, od_L_pick, .func (PySem.W.fnOf "_law_pick" "_law_pick" (defArgs s_L_pick) (defBody s_L_pick) (defScope s_L_pick) .none kV_L_pick dc_L_pick pm_L_pick an_L_pick cd_L_pick ct_L_pick), sl_L_pick⟩)
    (c_L_pick : PySem.W.codeIn K cd_L_pick "_law_pick" = true) (k_L_pick : PySem.W.keepIn K (.ref f_L_pick) = true)
    (a_L_great : PySem.W.nsIn K mainGlobals "_law_great" = some (some (.ref f_L_great)))
    (l_L_great : K.lookup f_L_great = some ⟨oc_L_great, od_L_great, .func (PySem.W.fnOf "_law_great" "_law_great" (defArgs s_L_great) (defBody s_L_great) (defScope s_L_great) .none kV_L_great dc_L_great pm_L_great an_L_great cd_L_great ct_L_great), sl_L_great⟩)
    (c_L_great : PySem.W.codeIn K cd_L_great "_law_great" = true) (k_L_great : PySem.W.keepIn K (.ref f_L_great) = true)
    (a_L_ten : PySem.W.nsIn K mainGlobals "_law_ten" = some (some (.ref f_L_ten)))
    (l_L_ten : K.lookup f_L_ten = some ⟨oc_L_ten, od_L_ten, .func (PySem.W.fnOf "_law_ten" "_law_ten" (defArgs s_L_ten) (defBody s_L_ten) (defScope s_L_ten) .none kV_L_ten dc_L_ten pm_L_ten an_L_ten cd_L_ten ct_L_ten), sl_L_ten⟩)
    (c_L_ten : PySem.W.codeIn K cd_L_ten "_law_ten" = true) (k_L_ten : PySem.W.keepIn K (.ref f_L_ten) = true)
    (a_L_step : PySem.W.nsIn K mainGlobals "_law_step" = some (some (.ref f_L_step)))
    (l_L_step : K.lookup f_L_step = some ⟨oc_L_step, od_L_step, .func (PySem.W.fnOf "_law_step" "_law_step" (defArgs s_L_step) (defBody s_L_step) (defScope s_L_step) .none kV_L_step dc_L_step pm_L_step an_L_step cd_L_step ct_L_step), sl_L_step⟩)
    (c_L_step : PySem.W.codeIn K cd_L_step "_law_step" = true) (k_L_step : PySem.W.keepIn K (.ref f_L_step) = true)
    (a_L_side : PySem.W.nsIn K mainGlobals "_law_side" = some (some (.ref f_L_side)))
    (l_L_side : K.lookup f_L_side = some ⟨oc_L_side, od_L_side, .func (PySem.W.fnOf "_law_side" "_law_side" (defArgs s_L_side) (defBody s_L_side) (defScope s_L_side) .none kV_L_side dc_L_side pm_L_side an_L_side cd_L_side ct_L_side), sl_L_side⟩)
    (c_L_side : PySem.W.codeIn K cd_L_side "_law_side" = true) (k_L_side : PySem.W.keepIn K (.ref f_L_side) = true)
    (a_L_written : PySem.W.nsIn K mainGlobals "_law_written" = some (some (.ref f_L_written)))
    (l_L_written : K.lookup f_L_written = some ⟨oc_L_written, od_L_written, .func (PySem.W.fnOf "_law_written" "_law_written" (defArgs s_L_written) (defBody s_L_written) (defScope s_L_written) .none kV_L_written dc_L_written pm_L_written an_L_written cd_L_written ct_L_written), sl_L_written⟩)
    (c_L_written : PySem.W.codeIn K cd_L_written "_law_written" = true) (k_L_written : PySem.W.keepIn K (.ref f_L_written) = true)
    (a_L_word : PySem.W.nsIn K mainGlobals "_law_word" = some (some (.ref f_L_word)))
    (l_L_word : K.lookup f_L_word = some ⟨oc_L_word, od_L_word, .func (PySem.W.fnOf "_law_word" "_law_word" (defArgs s_L_word) (defBody s_L_word) (defScope s_L_word) .none kV_L_word dc_L_word pm_L_word an_L_word cd_L_word ct_L_word), sl_L_word⟩)
    (c_L_word : PySem.W.codeIn K cd_L_word "_law_word" = true) (k_L_word : PySem.W.keepIn K (.ref f_L_word) = true)
    (a_L_words : PySem.W.nsIn K mainGlobals "_law_words" = some (some (.ref f_L_words)))
    (l_L_words : K.lookup f_L_words = some ⟨oc_L_words, od_L_words, .func (PySem.W.fnOf "_law_words" "_law_words" (defArgs s_L_words) (defBody s_L_words) (defScope s_L_words) .none kV_L_words dc_L_words pm_L_words an_L_words cd_L_words ct_L_words), sl_L_words⟩)
    (c_L_words : PySem.W.codeIn K cd_L_words "_law_words" = true) (k_L_words : PySem.W.keepIn K (.ref f_L_words) = true)
    (a_L_doors_right : PySem.W.nsIn K mainGlobals "_law_doors_right" = some (some (.ref f_L_doors_right)))
    (l_L_doors_right : K.lookup f_L_doors_right = some ⟨oc_L_doors_right, od_L_doors_right, .func (PySem.W.fnOf "_law_doors_right" "_law_doors_right" (defArgs s_L_doors_right) (defBody s_L_doors_right) (defScope s_L_doors_right) .none kV_L_doors_right dc_L_doors_right pm_L_doors_right an_L_doors_right cd_L_doors_right ct_L_doors_right), sl_L_doors_right⟩)
    (c_L_doors_right : PySem.W.codeIn K cd_L_doors_right "_law_doors_right" = true) (k_L_doors_right : PySem.W.keepIn K (.ref f_L_doors_right) = true)
    (a_law : PySem.W.nsIn K mainGlobals "law" = some (some (.ref f_law)))
    (l_law : K.lookup f_law = some ⟨oc_law, od_law, .func (PySem.W.fnOf "law" "law" (defArgs s_law) (defBody s_law) (defScope s_law) .none kV_law dc_law pm_law an_law cd_law ct_law), sl_law⟩)
    (c_law : PySem.W.codeIn K cd_law "law" = true) (k_law : PySem.W.keepIn K (.ref f_law) = true)
    (z_len : PySem.W.nsIn K mainGlobals "len" = some none)
    (z_abs : PySem.W.nsIn K mainGlobals "abs" = some none)
    (z_int : PySem.W.nsIn K mainGlobals "int" = some none)
    (z_range : PySem.W.nsIn K mainGlobals "range" = some none)
    (z_isinstance : PySem.W.nsIn K mainGlobals "isinstance" = some none)
    (z_bool : PySem.W.nsIn K mainGlobals "bool" = some none)
    (z_tuple : PySem.W.nsIn K mainGlobals "tuple" = some none)
    (z_list : PySem.W.nsIn K mainGlobals "list" = some none)
    (z_divmod : PySem.W.nsIn K mainGlobals "divmod" = some none)
    (z_min : PySem.W.nsIn K mainGlobals "min" = some none)
    (z_max : PySem.W.nsIn K mainGlobals "max" = some none)
    (z_ValueError : PySem.W.nsIn K mainGlobals "ValueError" = some none)
    (g_0 : PySem.W.nsIn K mainGlobals "InvalidSide" = some (some (.ref c0)))
    (g_1 : PySem.W.nsIn K mainGlobals "InvalidSides" = some (some (.ref c1)))
    (g_2 : PySem.W.nsIn K mainGlobals "InvalidNumbers" = some (some (.ref c2)))
    (g_3 : PySem.W.nsIn K mainGlobals "InvalidValue" = some (some (.ref c3)))
    (g_4 : PySem.W.nsIn K mainGlobals "InvalidNumber" = some (some (.ref c4)))
    (g_B : PySem.W.nsIn K mainGlobals "HandedError" = some (some (.ref cB)))
    (et_0 : erT K (cAt [c0, c1, c2, c3, c4]) cB 0 = true)
    (et_1 : erT K (cAt [c0, c1, c2, c3, c4]) cB 1 = true)
    (et_2 : erT K (cAt [c0, c1, c2, c3, c4]) cB 2 = true)
    (et_3 : erT K (cAt [c0, c1, c2, c3, c4]) cB 3 = true)
    (et_4 : erT K (cAt [c0, c1, c2, c3, c4]) cB 4 = true)
    (em_0 : PySem.W.exmOne K (.ref c0) (.ref c0) = some true)
    (gsp : PySem.W.specialIn K (.builtin "object.__class__") "__get__" = some (some (.builtin "getset_descriptor.__get__")))
    (gtk : PySem.W.takesIn K (.builtin "object.__class__") = some true)
    (a_MODES : PySem.W.nsIn K mainGlobals "MODES" = some (some (.ref aM)))
    (l_MODES : K.lookup aM = some ⟨.type "tuple", odM, .seq itsM nM, slM⟩)
    (v_MODES : itsM.size ≤ sizeLine ∧ Vals modesV itsM.toList)
    (a_MS : PySem.W.nsIn K mainGlobals "MOST_SIDES" = some (some (.int 4 tMS)))
    (a_MH : PySem.W.nsIn K mainGlobals "MOST_HANDOVERS" = some (some (.int 1000 tMH))) :
    ∃ fd : FuncData, (∀ (s : Shared) (v : Value), BindsTo s fd ⟨[v], []⟩ [("_law_script", v)]) ∧ ∀ base : Heap, K.In base → base.Ns mainGlobals mg → FnOk l.prog w K mg base CX0 10 fa fd ["_law_script"] (spLaw K) := by
  have e := hfa.symm.trans (PySem.W.mg_of X G a_law)
  cases e
  have F_is_int := fun_mk (st := s_is_int) l_is_int c_is_int k_is_int
  have b_is_int := F_is_int.binds (ps := ["thing"]) fun _ _ _ _ _ _ us hl => match us, hl with | [_], _ => rfl
  have m_is_int := PySem.W.mg_of X G a_is_int
  have F_is_int_between := fun_mk (st := s_is_int_between) l_is_int_between c_is_int_between k_is_int_between
  have b_is_int_between := F_is_int_between.binds (ps := ["thing", "least", "most"]) fun _ _ _ _ _ _ us hl => match us, hl with | [_, _, _], _ => rfl
  have m_is_int_between := PySem.W.mg_of X G a_is_int_between
  have F_check_value := fun_mk (st := s_check_value) l_check_value c_check_value k_check_value
  have b_check_value := F_check_value.binds (ps := ["value"]) fun _ _ _ _ _ _ us hl => match us, hl with | [_], _ => rfl
  have m_check_value := PySem.W.mg_of X G a_check_value
  have F_check_side := fun_mk (st := s_check_side) l_check_side c_check_side k_check_side
  have b_check_side := F_check_side.binds (ps := ["side"]) fun _ _ _ _ _ _ us hl => match us, hl with | [_], _ => rfl
  have m_check_side := PySem.W.mg_of X G a_check_side
  have F_is_side := fun_mk (st := s_is_side) l_is_side c_is_side k_is_side
  have b_is_side := F_is_side.binds (ps := ["thing"]) fun _ _ _ _ _ _ us hl => match us, hl with | [_], _ => rfl
  have m_is_side := PySem.W.mg_of X G a_is_side
  have F_figure := fun_mk (st := s_figure) l_figure c_figure k_figure
  have b_figure := F_figure.binds (ps := ["side", "value"]) fun _ _ _ _ _ _ us hl => match us, hl with | [_, _], _ => rfl
  have m_figure := PySem.W.mg_of X G a_figure
  have F_goes_up := fun_mk (st := s_goes_up) l_goes_up c_goes_up k_goes_up
  have b_goes_up := F_goes_up.binds (ps := ["mode", "step", "figure", "rest"]) fun _ _ _ _ _ _ us hl => match us, hl with | [_, _, _, _], _ => rfl
  have m_goes_up := PySem.W.mg_of X G a_goes_up
  have F_written := fun_mk (st := s_written) l_written c_written k_written
  have b_written := F_written.binds (ps := ["side", "value"]) fun _ _ _ _ _ _ us hl => match us, hl with | [_, _], _ => rfl
  have m_written := PySem.W.mg_of X G a_written
  have F_below := fun_mk (st := s_below) l_below c_below k_below
  have b_below := F_below.binds (ps := ["mode", "step", "figure"]) fun _ _ _ _ _ _ us hl => match us, hl with | [_, _, _], _ => rfl
  have m_below := PySem.W.mg_of X G a_below
  have F_threshold := fun_mk (st := s_threshold) l_threshold c_threshold k_threshold
  have b_threshold := F_threshold.binds (ps := ["side", "value"]) fun _ _ _ _ _ _ us hl => match us, hl with | [_, _], _ => rfl
  have m_threshold := PySem.W.mg_of X G a_threshold
  have F_check_sides := fun_mk (st := s_check_sides) l_check_sides c_check_sides k_check_sides
  have b_check_sides := F_check_sides.binds (ps := ["sides"]) fun _ _ _ _ _ _ us hl => match us, hl with | [_], _ => rfl
  have m_check_sides := PySem.W.mg_of X G a_check_sides
  have F_period_of := fun_mk (st := s_period_of) l_period_of c_period_of k_period_of
  have b_period_of := F_period_of.binds (ps := ["side"]) fun _ _ _ _ _ _ us hl => match us, hl with | [_], _ => rfl
  have m_period_of := PySem.W.mg_of X G a_period_of
  have F_moved := fun_mk (st := s_moved) l_moved c_moved k_moved
  have b_moved := F_moved.binds (ps := ["side", "by"]) fun _ _ _ _ _ _ us hl => match us, hl with | [_, _], _ => rfl
  have m_moved := PySem.W.mg_of X G a_moved
  have F_common_period := fun_mk (st := s_common_period) l_common_period c_common_period k_common_period
  have b_common_period := F_common_period.binds (ps := ["sides"]) fun _ _ _ _ _ _ us hl => match us, hl with | [_], _ => rfl
  have m_common_period := PySem.W.mg_of X G a_common_period
  have F_along := fun_mk (st := s_along) l_along c_along k_along
  have b_along := F_along.binds (ps := ["sides", "numbers", "value"]) fun _ _ _ _ _ _ us hl => match us, hl with | [_, _, _], _ => rfl
  have m_along := PySem.W.mg_of X G a_along
  have F_check_numbers := fun_mk (st := s_check_numbers) l_check_numbers c_check_numbers k_check_numbers
  have b_check_numbers := F_check_numbers.binds (ps := ["numbers", "many"]) fun _ _ _ _ _ _ us hl => match us, hl with | [_, _], _ => rfl
  have m_check_numbers := PySem.W.mg_of X G a_check_numbers
  have F_before := fun_mk (st := s_before) l_before c_before k_before
  have b_before := F_before.binds (ps := ["sides", "value"]) fun _ _ _ _ _ _ us hl => match us, hl with | [_, _], _ => rfl
  have m_before := PySem.W.mg_of X G a_before
  have F_route := fun_mk (st := s_route) l_route c_route k_route
  have b_route := F_route.binds (ps := ["sides", "start", "value"]) fun _ _ _ _ _ _ us hl => match us, hl with | [_, _, _], _ => rfl
  have m_route := PySem.W.mg_of X G a_route
  have F_fewest := fun_mk (st := s_fewest) l_fewest c_fewest k_fewest
  have b_fewest := F_fewest.binds (ps := ["sides", "start", "value", "runs"]) fun _ _ _ _ _ _ us hl => match us, hl with | [_, _, _, _], _ => rfl
  have m_fewest := PySem.W.mg_of X G a_fewest
  have F_runs := fun_mk (st := s_runs) l_runs c_runs k_runs
  have b_runs := F_runs.binds (ps := ["sides", "value"]) fun _ _ _ _ _ _ us hl => match us, hl with | [_, _], _ => rfl
  have m_runs := PySem.W.mg_of X G a_runs
  have F_widened := fun_mk (st := s_widened) l_widened c_widened k_widened
  have b_widened := F_widened.binds (ps := ["sides", "run"]) fun _ _ _ _ _ _ us hl => match us, hl with | [_, _], _ => rfl
  have m_widened := PySem.W.mg_of X G a_widened
  have F_ends := fun_mk (st := s_ends) l_ends c_ends k_ends
  have b_ends := F_ends.binds (ps := ["sides", "value", "runs"]) fun _ _ _ _ _ _ us hl => match us, hl with | [_, _, _], _ => rfl
  have m_ends := PySem.W.mg_of X G a_ends
  have F_within := fun_mk (st := s_within) l_within c_within k_within
  have b_within := F_within.binds (ps := ["run", "window"]) fun _ _ _ _ _ _ us hl => match us, hl with | [_, _], _ => rfl
  have m_within := PySem.W.mg_of X G a_within
  have F_holds := fun_mk (st := s_holds) l_holds c_holds k_holds
  have b_holds := F_holds.binds (ps := ["ends", "value"]) fun _ _ _ _ _ _ us hl => match us, hl with | [_, _], _ => rfl
  have m_holds := PySem.W.mg_of X G a_holds
  have F_way := fun_mk (st := s_way) l_way c_way k_way
  have b_way := F_way.binds (ps := ["sides", "start", "runs"]) fun _ _ _ _ _ _ us hl => match us, hl with | [_, _, _], _ => rfl
  have m_way := PySem.W.mg_of X G a_way
  have F_L_source := fun_mk (st := s_L_source) l_L_source c_L_source k_L_source
  have b_L_source := F_L_source.binds (ps := ["_law_script"]) fun _ _ _ _ _ _ us hl => match us, hl with | [_], _ => rfl
  have m_L_source := PySem.W.mg_of X G a_L_source
  have F_L_draw := fun_mk (st := s_L_draw) l_L_draw c_L_draw k_L_draw
  have b_L_draw := F_L_draw.binds (ps := ["_law_source_here", "_law_limit"]) fun _ _ _ _ _ _ us hl => match us, hl with | [_, _], _ => rfl
  have m_L_draw := PySem.W.mg_of X G a_L_draw
  have F_L_pick := fun_mk (st := s_L_pick) l_L_pick c_L_pick k_L_pick
  have b_L_pick := F_L_pick.binds (ps := ["_law_source_here", "_law_values"]) fun _ _ _ _ _ _ us hl => match us, hl with | [_, _], _ => rfl
  have m_L_pick := PySem.W.mg_of X G a_L_pick
  have F_L_great := fun_mk (st := s_L_great) l_L_great c_L_great k_L_great
  have b_L_great := F_L_great.binds (ps := ["_law_source_here", "_law_limit"]) fun _ _ _ _ _ _ us hl => match us, hl with | [_, _], _ => rfl
  have m_L_great := PySem.W.mg_of X G a_L_great
  have F_L_ten := fun_mk (st := s_L_ten) l_L_ten c_L_ten k_L_ten
  have b_L_ten := F_L_ten.binds (ps := ["_law_many"]) fun _ _ _ _ _ _ us hl => match us, hl with | [_], _ => rfl
  have m_L_ten := PySem.W.mg_of X G a_L_ten
  have F_L_step := fun_mk (st := s_L_step) l_L_step c_L_step k_L_step
  have b_L_step := F_L_step.binds (ps := ["_law_source_here", "_law_most"]) fun _ _ _ _ _ _ us hl => match us, hl with | [_, _], _ => rfl
  have m_L_step := PySem.W.mg_of X G a_L_step
  have F_L_side := fun_mk (st := s_L_side) l_L_side c_L_side k_L_side
  have b_L_side := F_L_side.binds (ps := ["_law_source_here", "_law_most"]) fun _ _ _ _ _ _ us hl => match us, hl with | [_, _], _ => rfl
  have m_L_side := PySem.W.mg_of X G a_L_side
  have F_L_written := fun_mk (st := s_L_written) l_L_written c_L_written k_L_written
  have b_L_written := F_L_written.binds (ps := ["_law_side_here", "_law_value"]) fun _ _ _ _ _ _ us hl => match us, hl with | [_, _], _ => rfl
  have m_L_written := PySem.W.mg_of X G a_L_written
  have F_L_word := fun_mk (st := s_L_word) l_L_word c_L_word k_L_word
  have b_L_word := F_L_word.binds (ps := ["_law_door", "_law_sides", "_law_numbers", "_law_value"]) fun _ _ _ _ _ _ us hl => match us, hl with | [_, _, _, _], _ => rfl
  have m_L_word := PySem.W.mg_of X G a_L_word
  have F_L_words := fun_mk (st := s_L_words) l_L_words c_L_words k_L_words
  have b_L_words := F_L_words.binds (ps := ["_law_sides", "_law_numbers", "_law_value"]) fun _ _ _ _ _ _ us hl => match us, hl with | [_, _, _], _ => rfl
  have m_L_words := PySem.W.mg_of X G a_L_words
  have F_L_doors_right := fun_mk (st := s_L_doors_right) l_L_doors_right c_L_doors_right k_L_doors_right
  have b_L_doors_right := F_L_doors_right.binds (ps := ["_law_side_here"]) fun _ _ _ _ _ _ us hl => match us, hl with | [_], _ => rfl
  have m_L_doors_right := PySem.W.mg_of X G a_L_doors_right
  have F_law := fun_mk (st := s_law) l_law c_law k_law
  have b_law := F_law.binds (ps := ["_law_script"]) fun _ _ _ _ _ _ us hl => match us, hl with | [_], _ => rfl
  have m_law := PySem.W.mg_of X G a_law
  have n_len := PySem.W.mg_none_of X G z_len
  have n_abs := PySem.W.mg_none_of X G z_abs
  have n_int := PySem.W.mg_none_of X G z_int
  have n_range := PySem.W.mg_none_of X G z_range
  have n_isinstance := PySem.W.mg_none_of X G z_isinstance
  have n_bool := PySem.W.mg_none_of X G z_bool
  have n_tuple := PySem.W.mg_none_of X G z_tuple
  have n_list := PySem.W.mg_none_of X G z_list
  have n_divmod := PySem.W.mg_none_of X G z_divmod
  have n_min := PySem.W.mg_none_of X G z_min
  have n_max := PySem.W.mg_none_of X G z_max
  have n_ValueError := PySem.W.mg_none_of X G z_ValueError
  have BL : Blt mg := ⟨n_len, n_abs, n_int, n_range⟩
  have TC : ChkT mg := ⟨n_isinstance, n_int, n_bool, n_tuple, n_list, n_len⟩
  have TM : ModT K mg aM := ⟨PySem.W.mg_of X G a_MODES, fun _ => .inr ⟨_, _, _, l_MODES, rfl, rfl, v_MODES.1, v_MODES.2⟩⟩
  have TS : SideT K mg aM := ⟨n_isinstance, n_int, n_bool, n_tuple, n_len, n_divmod, TM.gM, TM.tM⟩
  have AM : AmT mg := ⟨⟨_, PySem.W.mg_of X G a_MS⟩, ⟨_, PySem.W.mg_of X G a_MH⟩⟩
  have MX : MaxT mg := ⟨n_max, n_min⟩
  have tab : ∀ i, i < 5 → erT K (cAt [c0, c1, c2, c3, c4]) cB i = true := fun i hi => by
    rcases (by omega : i = 0 ∨ i = 1 ∨ i = 2 ∨ i = 3 ∨ i = 4) with e | e | e | e | e <;> subst e
    · exact et_0
    · exact et_1
    · exact et_2
    · exact et_3
    · exact et_4
  have tb : ∀ i, i < 5 → errB K (cAt [c0, c1, c2, c3, c4] i) = true ∧ (PySem.W.excIn K (cAt [c0, c1, c2, c3, c4] i) [.type "ValueError", .type "Exception", .type "BaseException", .type "object"] "ValueError.__new__" = true ∧ PySem.W.keepIn K (.ref (cAt [c0, c1, c2, c3, c4] i)) = true) ∧ PySem.W.kitOne K (.ref (cAt [c0, c1, c2, c3, c4] i)) (.type "ValueError") = some true ∧ PySem.W.subIn K (.ref (cAt [c0, c1, c2, c3, c4] i)) (.type "BaseException") = some true ∧ PySem.W.typeIn K (.ref (cAt [c0, c1, c2, c3, c4] i)) = some (.type "type") ∧ PySem.W.exmOne K (.ref (cAt [c0, c1, c2, c3, c4] i)) (.ref cB) = some true ∧ ∀ j, j < 5 → PySem.W.kitOne K (.ref (cAt [c0, c1, c2, c3, c4] i)) (.ref (cAt [c0, c1, c2, c3, c4] j)) = some (decide (i = j)) := fun i hi => by
    have z := tab i hi
    unfold erT exB at z
    simp only [Bool.and_eq_true, decide_eq_true_eq] at z
    obtain ⟨a, b, c, d, e, f, g⟩ := z
    exact ⟨a, b, c, d, e, f, fun j hj => of_decide_eq_true (all_of g hj)⟩
  have R : Er K mg (cAt [c0, c1, c2, c3, c4]) cB := { isi := n_isinstance, ve := n_ValueError, gB := PySem.W.mg_of X G g_B, g0 := PySem.W.mg_of X G g_0, g1 := PySem.W.mg_of X G g_1, g2 := PySem.W.mg_of X G g_2, g3 := PySem.W.mg_of X G g_3, g4 := PySem.W.mg_of X G g_4, kit := fun i j hi hj => (tb i hi).2.2.2.2.2.2 j hj, kitV := fun i hi => (tb i hi).2.2.1, ec := fun i hi => errB_ok (tb i hi).1, eg := ⟨gsp, gtk⟩, ex := fun i hi => (tb i hi).2.1.1, kp := fun i hi => (tb i hi).2.1.2, sb := fun i hi => (tb i hi).2.2.2.1, ty := fun i hi => (tb i hi).2.2.2.2.1, emB := fun i hi => (tb i hi).2.2.2.2.2.1, em0 := em_0 }
  refine ⟨PySem.W.fnOf "law" "law" (defArgs s_law) (defBody s_law) (defScope s_law) .none kV_law dc_law pm_law an_law cd_law ct_law, fun s v => .of_eq rfl, fun base _ _ => ?_⟩
  have C_is_int : Cal l.prog w K mg base "is_int" 1 ["thing"] spIsAny f_is_int _ := ⟨ok_is_any F_is_int TC, m_is_int, k_is_int, b_is_int⟩
  have C_is_int_between : Cal l.prog w K mg base "is_int_between" 2 ["thing", "least", "most"] spBetAny f_is_int_between _ := ⟨ok_bet_any F_is_int_between C_is_int, m_is_int_between, k_is_int_between, b_is_int_between⟩
  have C_check_value : CalX l.prog w K mg base "check_value" 2 ["value"] (spValX (cAt [c0, c1, c2, c3, c4])) f_check_value _ := ⟨ok_val_x F_check_value R C_is_int, m_check_value, k_check_value, b_check_value⟩
  have C_check_side : CalX l.prog w K mg base "check_side" 3 ["side"] (spSideX K (cAt [c0, c1, c2, c3, c4])) f_check_side _ := ⟨ok_side_x F_check_side TC TM R C_is_int_between, m_check_side, k_check_side, b_check_side⟩
  have C_is_side : Cal l.prog w K mg base "is_side" 4 ["thing"] (spIsSide K) f_is_side _ := ⟨ok_is_side F_is_side R C_check_side, m_is_side, k_is_side, b_is_side⟩
  have C_goes_up : Cal l.prog w K mg base "_goes_up" 1 ["mode", "step", "figure", "rest"] spGo f_goes_up _ := ⟨ok_goes_up F_goes_up, m_goes_up, k_goes_up, b_goes_up⟩
  have C_figure : Cal l.prog w K mg base "_figure" 2 ["side", "value"] spFig f_figure _ := ⟨ok_figure F_figure TS C_goes_up, m_figure, k_figure, b_figure⟩
  have C_written : Cal l.prog w K mg base "written" 3 ["side", "value"] spDue f_written _ := ⟨ok_written F_written C_figure, m_written, k_written, b_written⟩
  have C_check_sides : CalX l.prog w K mg base "check_sides" 5 ["sides"] (spSidesX K (cAt [c0, c1, c2, c3, c4])) f_check_sides _ := ⟨ok_sides_x F_check_sides TC AM R C_is_side, m_check_sides, k_check_sides, b_check_sides⟩
  have C_check_numbers : CalX l.prog w K mg base "_check_numbers" 3 ["numbers", "many"] (spNumX (cAt [c0, c1, c2, c3, c4])) f_check_numbers _ := ⟨ok_num_x F_check_numbers TC AM R C_is_int_between, m_check_numbers, k_check_numbers, b_check_numbers⟩
  have C_along : CalX l.prog w K mg base "along" 6 ["sides", "numbers", "value"] (spAlongX K (cAt [c0, c1, c2, c3, c4])) f_along _ := ⟨ok_along_x F_along TC C_check_sides C_check_numbers C_check_value C_written, m_along, k_along, b_along⟩
  have C_before : CalX l.prog w K mg base "before" 6 ["sides", "value"] (spBefX K (cAt [c0, c1, c2, c3, c4])) f_before _ := ⟨ok_before_x F_before C_check_sides C_check_value, m_before, k_before, b_before⟩
  have C_route : CalX l.prog w K mg base "route" 6 ["sides", "start", "value"] (spRouX K (cAt [c0, c1, c2, c3, c4])) f_route _ := ⟨ok_route_x F_route C_check_sides C_check_value, m_route, k_route, b_route⟩
  have C_L_source : Cal l.prog w K mg base "_law_source" 1 ["_law_script"] (spSource K) f_L_source _ := ⟨ok_source F_L_source BL, m_L_source, k_L_source, b_L_source⟩
  have C_L_draw : Cal l.prog w K mg base "_law_draw" 1 ["_law_source_here", "_law_limit"] spDraw f_L_draw _ := ⟨ok_draw F_L_draw BL, m_L_draw, k_L_draw, b_L_draw⟩
  have C_L_pick : Cal l.prog w K mg base "_law_pick" 2 ["_law_source_here", "_law_values"] spPick f_L_pick _ := ⟨ok_pick F_L_pick BL C_L_draw, m_L_pick, k_L_pick, b_L_pick⟩
  have C_L_great : Cal l.prog w K mg base "_law_great" 2 ["_law_source_here", "_law_limit"] spGreat f_L_great _ := ⟨ok_great F_L_great BL C_L_draw, m_L_great, k_L_great, b_L_great⟩
  have C_L_ten : Cal l.prog w K mg base "_law_ten" 1 ["_law_many"] spTen f_L_ten _ := ⟨ok_ten F_L_ten BL, m_L_ten, k_L_ten, b_L_ten⟩
  have C_L_step : Cal l.prog w K mg base "_law_step" 3 ["_law_source_here", "_law_most"] spStep f_L_step _ := ⟨ok_step F_L_step BL MX C_L_draw C_L_pick C_L_great C_L_ten, m_L_step, k_L_step, b_L_step⟩
  have C_L_side : Cal l.prog w K mg base "_law_side" 4 ["_law_source_here", "_law_most"] spSide f_L_side _ := ⟨ok_side F_L_side BL C_L_step C_L_pick C_L_great, m_L_side, k_L_side, b_L_side⟩
  have C_L_written : Cal l.prog w K mg base "_law_written" 1 ["_law_side_here", "_law_value"] spDue f_L_written _ := ⟨ok_L_written F_L_written BL, m_L_written, k_L_written, b_L_written⟩
  have C_L_word : Cal l.prog w K mg base "_law_word" 7 ["_law_door", "_law_sides", "_law_numbers", "_law_value"] (spWord K) f_L_word _ := ⟨ok_word F_L_word R C_along C_before C_route, m_L_word, k_L_word, b_L_word⟩
  have C_L_words : Cal l.prog w K mg base "_law_words" 8 ["_law_sides", "_law_numbers", "_law_value"] (spWords K) f_L_words _ := ⟨ok_words F_L_words BL C_L_word, m_L_words, k_L_words, b_L_words⟩
  have C_L_doors_right : Cal l.prog w K mg base "_law_doors_right" 9 ["_law_side_here"] spDoors f_L_doors_right _ := ⟨ok_doors F_L_doors_right C_L_word C_L_words, m_L_doors_right, k_L_doors_right, b_L_doors_right⟩
  exact ok_law F_law BL TC C_L_source C_L_draw C_L_side C_L_great C_L_written C_L_doors_right C_along
theorem walk {l : PySem.W.OpenLaw} {q : Program} {loose : List Str} {XP : (Str → Option Value) → Heap → Prop} {YP : World → Heap → Prop} {d : DefRec} {K : Params → PySem.W.Frag} (hn : l.most = some 63) (hdf : d.params.defaults = [])
    (hY : ∀ (w : World) (h : Heap), YP w h → (K w.params).In h)
    (F : ∀ (w : World) (mg : Str → Option Value) (fa : Addr) (h : Heap), (K w.params).In h → h.Ns mainGlobals mg → mg d.name = some (.ref fa) →
      ∃ fd : FuncData, (∀ (s : Shared) (u : Value), BindsTo s fd ⟨[u], []⟩ [("_law_script", u)]) ∧ ∀ base : Heap, (K w.params).In base → base.Ns mainGlobals mg → FnOk l.prog w (K w.params) mg base CX0 10 fa fd ["_law_script"] (spLaw (K w.params))) :
    PySem.W.WalkO q loose XP YP l.row.toRowW d [] (fun f vs => PySem.call f vs) :=
  L2.walk_of (n := 63) (k := 10) (x := "_law_script") (CX := fun _ => CX0) (sp := fun w => spLaw (K w.params)) hn (by decide) hdf ⟨rfl, by decide, by decide⟩ hY F (fun _ _ a ns hl _ hS => ⟨a, ns, rfl, hS, hl, fun _ => rfl⟩) fun _ _ _ _ _ z => z
end HT
open PySem PySem.W PyProof.Rows
set_option maxRecDepth 100000 in
set_option maxHeartbeats 0 in
theorem PySem.Challenge.cw_handedtext_k10_along_holds : PySem.Challenge.rw_handedtext_k10_along.Holds := by
  w_on; o_law; k_head; (case hw => w_witness2)
  k_fill
  refine HT.walk (l := PySem.Challenge.rw_handedtext_k10_along) rfl rfl (fun w h Y => PySem.W.kIn_of Y) ?F
  case F =>
    intro w mg fa h KX G hmg
    refine' HT.all_mk KX G hmg ?a_is_int ?l_is_int ?c_is_int ?k_is_int ?a_is_int_between ?l_is_int_between ?c_is_int_between ?k_is_int_between ?a_check_value ?l_check_value ?c_check_value ?k_check_value ?a_check_side ?l_check_side ?c_check_side ?k_check_side ?a_is_side ?l_is_side ?c_is_side ?k_is_side ?a_figure ?l_figure ?c_figure ?k_figure ?a_goes_up ?l_goes_up ?c_goes_up ?k_goes_up ?a_written ?l_written ?c_written ?k_written ?a_below ?l_below ?c_below ?k_below ?a_threshold ?l_threshold ?c_threshold ?k_threshold ?a_check_sides ?l_check_sides ?c_check_sides ?k_check_sides ?a_period_of ?l_period_of ?c_period_of ?k_period_of ?a_moved ?l_moved ?c_moved ?k_moved ?a_common_period ?l_common_period ?c_common_period ?k_common_period ?a_along ?l_along ?c_along ?k_along ?a_check_numbers ?l_check_numbers ?c_check_numbers ?k_check_numbers ?a_before ?l_before ?c_before ?k_before ?a_route ?l_route ?c_route ?k_route ?a_fewest ?l_fewest ?c_fewest ?k_fewest ?a_runs ?l_runs ?c_runs ?k_runs ?a_widened ?l_widened ?c_widened ?k_widened ?a_ends ?l_ends ?c_ends ?k_ends ?a_within ?l_within ?c_within ?k_within ?a_holds ?l_holds ?c_holds ?k_holds ?a_way ?l_way ?c_way ?k_way ?a_L_source ?l_L_source ?c_L_source ?k_L_source ?a_L_draw ?l_L_draw ?c_L_draw ?k_L_draw ?a_L_pick ?l_L_pick ?c_L_pick ?k_L_pick ?a_L_great ?l_L_great ?c_L_great ?k_L_great ?a_L_ten ?l_L_ten ?c_L_ten ?k_L_ten ?a_L_step ?l_L_step ?c_L_step ?k_L_step ?a_L_side ?l_L_side ?c_L_side ?k_L_side ?a_L_written ?l_L_written ?c_L_written ?k_L_written ?a_L_word ?l_L_word ?c_L_word ?k_L_word ?a_L_words ?l_L_words ?c_L_words ?k_L_words ?a_L_doors_right ?l_L_doors_right ?c_L_doors_right ?k_L_doors_right ?a_law ?l_law ?c_law ?k_law ?z_len ?z_abs ?z_int ?z_range ?z_isinstance ?z_bool ?z_tuple ?z_list ?z_divmod ?z_min ?z_max ?z_ValueError ?g_0 ?g_1 ?g_2 ?g_3 ?g_4 ?g_B ?et_0 ?et_1 ?et_2 ?et_3 ?et_4 ?em_0 ?gsp ?gtk ?a_MODES ?l_MODES ?v_MODES ?a_MS ?a_MH
    (case a_is_int => k_is)
    (case l_is_int => k_is)
    (case c_is_int => k_is)
    (case k_is_int => k_is)
    (case a_is_int_between => k_is)
    (case l_is_int_between => k_is)
    (case c_is_int_between => k_is)
    (case k_is_int_between => k_is)
    (case a_check_value => k_is)
    (case l_check_value => k_is)
    (case c_check_value => k_is)
    (case k_check_value => k_is)
    (case a_check_side => k_is)
    (case l_check_side => k_is)
    (case c_check_side => k_is)
    (case k_check_side => k_is)
    (case a_is_side => k_is)
    (case l_is_side => k_is)
    (case c_is_side => k_is)
    (case k_is_side => k_is)
    (case a_figure => k_is)
    (case l_figure => k_is)
    (case c_figure => k_is)
    (case k_figure => k_is)
    (case a_goes_up => k_is)
    (case l_goes_up => k_is)
    (case c_goes_up => k_is)
    (case k_goes_up => k_is)
    (case a_written => k_is)
    (case l_written => k_is)
    (case c_written => k_is)
    (case k_written => k_is)
    (case a_below => k_is)
    (case l_below => k_is)
    (case c_below => k_is)
    (case k_below => k_is)
    (case a_threshold => k_is)
    (case l_threshold => k_is)
    (case c_threshold => k_is)
    (case k_threshold => k_is)
    (case a_check_sides => k_is)
    (case l_check_sides => k_is)
    (case c_check_sides => k_is)
    (case k_check_sides => k_is)
    (case a_period_of => k_is)
    (case l_period_of => k_is)
    (case c_period_of => k_is)
    (case k_period_of => k_is)
    (case a_moved => k_is)
    (case l_moved => k_is)
    (case c_moved => k_is)
    (case k_moved => k_is)
    (case a_common_period => k_is)
    (case l_common_period => k_is)
    (case c_common_period => k_is)
    (case k_common_period => k_is)
    (case a_along => k_is)
    (case l_along => k_is)
    (case c_along => k_is)
    (case k_along => k_is)
    (case a_check_numbers => k_is)
    (case l_check_numbers => k_is)
    (case c_check_numbers => k_is)
    (case k_check_numbers => k_is)
    (case a_before => k_is)
    (case l_before => k_is)
    (case c_before => k_is)
    (case k_before => k_is)
    (case a_route => k_is)
    (case l_route => k_is)
    (case c_route => k_is)
    (case k_route => k_is)
    (case a_fewest => k_is)
    (case l_fewest => k_is)
    (case c_fewest => k_is)
    (case k_fewest => k_is)
    (case a_runs => k_is)
    (case l_runs => k_is)
    (case c_runs => k_is)
    (case k_runs => k_is)
    (case a_widened => k_is)
    (case l_widened => k_is)
    (case c_widened => k_is)
    (case k_widened => k_is)
    (case a_ends => k_is)
    (case l_ends => k_is)
    (case c_ends => k_is)
    (case k_ends => k_is)
    (case a_within => k_is)
    (case l_within => k_is)
    (case c_within => k_is)
    (case k_within => k_is)
    (case a_holds => k_is)
    (case l_holds => k_is)
    (case c_holds => k_is)
    (case k_holds => k_is)
    (case a_way => k_is)
    (case l_way => k_is)
    (case c_way => k_is)
    (case k_way => k_is)
    (case a_L_source => k_is)
    (case l_L_source => k_is)
    (case c_L_source => k_is)
    (case k_L_source => k_is)
    (case a_L_draw => k_is)
    (case l_L_draw => k_is)
    (case c_L_draw => k_is)
    (case k_L_draw => k_is)
    (case a_L_pick => k_is)
    (case l_L_pick => k_is)
    (case c_L_pick => k_is)
    (case k_L_pick => k_is)
    (case a_L_great => k_is)
    (case l_L_great => k_is)
    (case c_L_great => k_is)
    (case k_L_great => k_is)
    (case a_L_ten => k_is)
    (case l_L_ten => k_is)
    (case c_L_ten => k_is)
    (case k_L_ten => k_is)
    (case a_L_step => k_is)
    (case l_L_step => k_is)
    (case c_L_step => k_is)
    (case k_L_step => k_is)
    (case a_L_side => k_is)
    (case l_L_side => k_is)
    (case c_L_side => k_is)
    (case k_L_side => k_is)
    (case a_L_written => k_is)
    (case l_L_written => k_is)
    (case c_L_written => k_is)
    (case k_L_written => k_is)
    (case a_L_word => k_is)
    (case l_L_word => k_is)
    (case c_L_word => k_is)
    (case k_L_word => k_is)
    (case a_L_words => k_is)
    (case l_L_words => k_is)
    (case c_L_words => k_is)
    (case k_L_words => k_is)
    (case a_L_doors_right => k_is)
    (case l_L_doors_right => k_is)
    (case c_L_doors_right => k_is)
    (case k_L_doors_right => k_is)
    (case a_law => k_is)
    (case l_law => k_is)
    (case c_law => k_is)
    (case k_law => k_is)
    (case z_len => k_is)
    (case z_abs => k_is)
    (case z_int => k_is)
    (case z_range => k_is)
    (case z_isinstance => k_is)
    (case z_bool => k_is)
    (case z_tuple => k_is)
    (case z_list => k_is)
    (case z_divmod => k_is)
    (case z_min => k_is)
    (case z_max => k_is)
    (case z_ValueError => k_is)
    (case g_0 => k_is)
    (case g_1 => k_is)
    (case g_2 => k_is)
    (case g_3 => k_is)
    (case g_4 => k_is)
    (case g_B => k_is)
    (case et_0 => kernel_rfl)
    (case et_1 => kernel_rfl)
    (case et_2 => kernel_rfl)
    (case et_3 => kernel_rfl)
    (case et_4 => kernel_rfl)
    (case em_0 => kernel_rfl)
    (case gsp => k_is)
    (case gtk => k_is)
    (case a_MODES => k_is)
    (case l_MODES => k_is)
    (case v_MODES => exact ⟨by decide, .cons ⟨_, rfl⟩ (.cons ⟨_, rfl⟩ (.cons ⟨_, rfl⟩ (.cons ⟨_, rfl⟩ (.cons ⟨_, rfl⟩ .nil))))⟩)
    (case a_MS => k_is)
    (case a_MH => k_is)
#print axioms PySem.Challenge.cw_handedtext_k10_along_holds
