import PyProof.Rows.All
import Wide.All
import OpenK.AllK
import Wide.FinOn
import HandS.CallSlots
import HandS.Deep
import HandS.Defaults
import HandS.Exc
import HandS.ExcField
import HandS.ExcInit
import HandS.ExcIs
import HandS.ExcValue
import HandS.ForMost
import HandS.HotCalls
import HandS.IsInst
import HandS.MakeKwOnly
import HandS.More
import HandS.NoneIn
import HandS.RaiseFrom
import HandS.ReplaceLit
import HandS.StrMore
import HandS.Style
import HandS.SuiteRaise
import HandS.TryOnly
import HandS.Wide
import HandS.WideBits
import HandS.WordsExc
import KE.KEqDeep
import KE.KEqSeq
import KE.KExcIs
import HandS.Gcd
import HandS.SortKw
import HandS.Star
import HandS.Property
import HandS.OwnEq
import KE.KOpsOwn
import HandS.SortInts
import HandS.Deep
import HandS.TupSets
import KE.SortData
import PySem.Challenge.RW_handedtext_k82_wrong_sides_and_sets_as_v
set_option Elab.async false
set_option linter.all false
set_option maxRecDepth 100000
set_option maxHeartbeats 4000000
set_option exponentiation.threshold 9000
open PySem L2
local macro_rules | `(tactic| walk_at "rd") => `(tactic| repeat (first | refine ⟨_, rfl, ?_⟩ | refine ⟨_, _, rfl, rfl, ?_⟩ | refine .inl ⟨_, rfl, ?_⟩))
namespace L2
open PySem PySem.Spec PyProof.Rows
/-- an error that was caught and kept, at a -/
def ExK (cls : Value) (a : Addr) : HO := .ext fun hp => ∃ (rec' : Obj) (cells : Array Value), hp.get? a = some rec' ∧ Zc cls none rec' ∧ rec'.data = .fields cells
/-- wKeep: what 'except x as n' wishes, where the error stays tracked behind the suite -/
def wKeep (K : PySem.W.Frag) (c : Value) (i : Nat) (ts : Addr → Value → Option Addr → TS) (Wout : WX) (D : Ends) : WX := fun kl dd st H =>
  ∃ yes, PySem.W.exmOne K kl c = some yes ∧ (yes = true → dd = none ∧ ∀ a, H a = none → ts a kl dd { nx := fun st' H' => D.nx (st'.set i none) (upd H' a (ExK kl a)), rt := D.rt, bk := fun st' H' => D.bk (st'.set i none) H', ct := fun st' H' => D.ct (st'.set i none) H' } (st.set i (some (.ref a))) H) ∧
    (yes = false → Wout kl dd st H)
section
variable {X : Cx} {pins : List (Addr × Obj)} {st : St} {H : Hp} {sh : Shared}
theorem Inv.adopt {a : Addr} {kl : Value} {rc : Obj} {cells : Array Value} (iv : Inv X pins st H sh) (new0 : X.s_0.heap.get? a = none) (free : H a = none) (at0 : sh.heap.get? a = some rc) (zc : Zc kl none rc) (fl : rc.data = .fields cells) (nl : a ≠ X.env.locals)
    (np : ∀ p ∈ X.pn ++ pins, p.1 ≠ a) : Inv X pins st (upd H a (ExK kl a)) sh := by
  have old : ∀ c rr, X.s_0.heap.get? c = some rr → c ≠ a := fun c rr e z => by
    rw [z, new0] at e
    cases e
  have other : ∀ c u, H c = some u → upd H a (ExK kl a) c = some u := fun c u e => (upd_ne (ne_of_none e free)).trans e
  refine ⟨iv.ok, iv.os, iv.bare, ⟨iv.base.keep, iv.base.slot, fun c rr e n0 nx => ?_, iv.base.there, fun c xs e => other _ _ (iv.base.tups c xs e), fun c rr u e => other _ _ (iv.base.frzs c rr u e), fun c ps e => ?_⟩, iv.loc, iv.cell, ?_, fun y c e => ?_, fun p hp => ?_, fun c u e => ?_, iv.len⟩
  · exact (upd_ne (old c rr e)).trans (iv.base.free c rr e n0 nx)
  · obtain ⟨more, e2⟩ := iv.base.tbls c ps e
    exact ⟨more, other _ _ e2⟩
  · exact (upd_ne nl.symm).trans iv.free
  · obtain ⟨w, rr, e2, e3⟩ := iv.cell y c e
    refine (upd_ne fun z => ?_).trans (iv.freeC y c e)
    subst z
    rw [at0] at e2
    cases e2
    simp [fl] at e3
  · obtain ⟨e1, e2, e3, e4, e5⟩ := iv.pin p hp
    exact ⟨e1, (upd_ne (np p hp)).trans e2, e3, e4, e5⟩
  · by_cases ca : c = a
    · subst ca
      rw [upd_same] at e
      cases e
      exact ⟨⟨rc, cells, at0, zc, fl⟩, ⟨rc, at0⟩, fun _ _ ⟨r2, c2, e2, e3⟩ same => ⟨r2, c2, same _ e2, e3⟩⟩
    · rw [upd_ne ca] at e
      exact (iv.hok c u e).stay (fun _ _ _ e2 => e2) (fun c2 e2 => other _ _ e2) fun c2 xs e2 => other _ _ e2
end
end L2
namespace L2
open PySem PySem.Spec PyProof.Rows
section
variable {X : Cx} {x n : Str} {c : Value} {i : Nat} {body suite : List Stmt} {first : Stmt} {np pos pos' : Pos} {tb : WX → TS} {ts : Addr → Value → Option Addr → TS} {Wout : WX}
/-- try: .. except x as n: suite; the caught error stays tracked behind it -/
theorem ps_try_keep (stk : X.stack = X.env :: X.outer) (frm : X.env.frame = some X.env.locals) (noex : X.ex = []) (dist : X.N.Nodup) (slot : X.N[i]? = some n) (loc : X.env.kindOf n = some .local) (nam : Names X x c) (tk : Takes X Wout)
    (inner : ∀ (W : WX) (pn : List (Addr × Obj)) (xe : Value → Shared → Prop), Takes (X.tr pn xe) W → PassesOwn (model X.prog X.w) X.A X.env xe → PSs (X.tr pn xe) body (tb W))
    (caught : ∀ (a : Addr) (rc : Obj) (kl : Value) (dd : Option Addr) (pn : List (Addr × Obj)), Zc kl dd rc → (∃ cells, rc.data = .fields cells) → PSs (X.suite a ((a, rc) :: pn)) (first :: suite) (ts a kl dd)) :
    PS X (.Try body [.ExceptHandler (some (.Name x np)) (some n) (first :: suite) pos'] [] [] pos) (fun D st H => tb (wKeep X.K c i ts Wout D) D st H) where
  run := fun pins sh st H D iv want => by
    have fine := iv.ok
    have frames : X.A.frames = some (X.env :: X.outer) := by rw [fine.frames, stk]
    refine wpAny_Try_except (wpAny_mono ((inner (wKeep X.K c i ts Wout D) (X.pn ++ pins) _ (fun u sh' air => ?_) PassesOwn.looking).run [] sh st H D (iv.toTry _) want) ?_ fun _ _ e => e)
    · obtain ⟨a, B, shI, pins', st1, H1, kl, dd, rfl, ivT, inB, upTo, sky, freeA, sameOs, bareG, yes, dec, onYes, onNo⟩ := air
      have iv1 : Inv X pins st1 H1 shI := ivT.ofTry fine
      rw [stk] at sky
      refine Sky.land Zc.steady frames frm sky fun hp3 fly3 up3 => ?_
      have bNone : B.get? a = none := fly3.2.1
      have iv3 : Inv X pins st1 H1 { sh' with heap := hp3 } := iv1.landed inB fly3.1 (upTo.trans up3) sameOs bareG
      obtain ⟨rc3, cells3, at3, zc3, dt3⟩ := fly3.there
      have offFrames : a ∉ frs (X.env :: X.outer) := fun mem => by
        obtain ⟨_, r2, e2, bad⟩ := fly3.2.2.1.mem mem
        rw [at3] at e2
        cases e2
        exact bad _ dt3
      have offL : a ≠ X.env.locals := fun z => offFrames (List.mem_filterMap.mpr ⟨X.env, List.mem_cons_self, by rw [frm, z]⟩)
      have offF : a ∉ X.fs := fun mem => by
        obtain ⟨ee, inn, ef⟩ := List.mem_filterMap.mp mem
        exact offFrames (List.mem_filterMap.mpr ⟨ee, List.mem_cons_of_mem _ inn, ef⟩)
      have notThere : shI.heap.get? a = none := by
        cases e : shI.heap.get? a with
        | none => rfl
        | some rr =>
          have z := inB a rr e (by rw [stk]; exact offFrames)
          rw [bNone] at z
          cases z
      have new0 : X.s_0.heap.get? a = none := by
        cases e : X.s_0.heap.get? a with
        | none => rfl
        | some rr =>
          obtain ⟨r2, e2⟩ := iv1.base.there a rr e (by rw [noex]; exact List.not_mem_nil)
          rw [notThere] at e2
          cases e2
      have pinsOff : ∀ p ∈ X.pn ++ pins, p.1 ≠ a := fun p hp z => by
        have e2 := (iv1.pin p hp).1
        rw [z, notThere] at e2
        cases e2
      have inSuite := iv3.suite at3 dt3 freeA offL offF
      refine wpAny_handleBy_cons (codeAny_handlers_test ?_) (by intro q; cases q)
      have theClass : PySem.W.Looks (model X.prog X.w) hp3 (typeOf (.ref a)) kl := fun A' Q' E' s' kk qq => wpAny_typeOf_ref (kk _ _ at3) (by rw [zc3.1]; exact qq)
      have theTest := PySem.W.exm_one (M := model X.prog X.w) iv3.kIn theClass dec
      have clause : ∀ {Q' : Value → Shared → Prop} {E' : Value → Shared → Prop}, Q' c { sh' with heap := hp3 } → wpAny (model X.prog X.w) (X.A.mark (some (.ref a))) (eval (.Name x np) X.env) Q' E' { sh' with heap := hp3 } := fun {Q' E'} qq => by
        obtain ⟨g1, g2, g3 | ⟨g3, g4, g5⟩⟩ := nam
        · exact ld_glob (X := X.suite a ((a, rc3) :: (X.pn ++ pins))) inSuite g1 g3 qq g2
        · exact ld_blt (X := X.suite a ((a, rc3) :: (X.pn ++ pins))) inSuite g1 g3 g4 qq g5 g2
      refine clause (theTest.here ?_)
      cases yes with
      | true =>
        obtain ⟨rfl, go⟩ := onYes rfl
        refine codeAny_handlers_suite_as (HandSPX.lands_againZ fly3 fun hp4 fly4 up4 => ?_)
        have iv4 : Inv X pins st1 H1 { sh' with heap := hp4 } := iv1.landed inB fly4.1 ((upTo.trans up3).trans up4) sameOs bareG
        obtain ⟨rc4, cells4, at4, zc4, dt4⟩ := fly4.there
        refine store_ok (X := X.suite a ((a, rc4) :: (X.pn ++ pins))) (v := .ref a) (iv4.suite at4 dt4 freeA offL offF) dist slot (.inl loc) rfl (fun sh5 iv5 => ?_) (.inr loc)
        refine wpAny_mono ((caught a rc4 kl none (X.pn ++ pins) zc4 ⟨_, dt4⟩).run [] sh5 _ H1 _ iv5 (go a freeA)) (fun flow sh6 came => ?_) fun _ _ z => z.elim
        cases flow with
        | next =>
          obtain ⟨st6, H6, iv6, q6⟩ := came
          have more : Inv X ((a, rc4) :: pins) st6 H6 sh6 := ⟨fine, iv6.os, iv6.bare, iv6.base, iv6.loc, iv6.cell, iv6.free, iv6.freeC, fun p hp => iv6.pin p (List.mem_append_left _ ?_), iv6.hok, iv6.len⟩
          refine gone_ok more dist slot loc fun sh7 iv7 => ?_
          have there : (a, rc4) ∈ X.pn ++ (a, rc4) :: pins := List.mem_append_right _ List.mem_cons_self
          obtain ⟨e1, e2, e3, _⟩ := iv7.pin (a, rc4) there
          have less : Inv X pins (st6.set i none) H6 sh7 := ⟨fine, iv7.os, iv7.bare, iv7.base, iv7.loc, iv7.cell, iv7.free, iv7.freeC, fun p hp => iv7.pin p ?_, iv7.hok, iv7.len⟩
          · exact ⟨_, _, less.adopt new0 e2 e1 zc4 dt4 e3 pinsOff, q6⟩
          · rcases List.mem_append.mp hp with hq | hq
            · exact List.mem_append_left _ hq
            · exact List.mem_append_right _ (List.mem_cons_of_mem _ hq)
          · rcases List.mem_append.mp hp with hq | hq
            · exact List.mem_cons_of_mem _ (List.mem_append_left _ hq)
            · rcases List.mem_cons.mp hq with hr | hr
              · rw [hr]; exact List.mem_cons_self
              · exact List.mem_cons_of_mem _ (List.mem_append_right _ hr)
        | brk =>
          obtain ⟨st6, H6, iv6, q6⟩ := came
          exact gone_ok (iv6.unsuite fine) dist slot loc fun sh7 iv7 => ⟨_, _, iv7, q6⟩
        | cont =>
          obtain ⟨st6, H6, iv6, q6⟩ := came
          exact gone_ok (iv6.unsuite fine) dist slot loc fun sh7 iv7 => ⟨_, _, iv7, q6⟩
        | ret u =>
          obtain ⟨v6, st6, H6, iv6, r6, q6⟩ := came
          exact gone_ok (iv6.unsuite fine) dist slot loc fun sh7 iv7 => ⟨_, _, _, iv7, r6, q6⟩
      | false =>
        show wpAny _ X.A (handleBy (.ref a) X.env []) _ _ _
        refine wpAny_handleBy_nil ?_
        obtain ⟨_, _, _, rc5, cells5, tr5, _, _, at5, _, dt5, at1, _⟩ := id fly3
        unfold PySem.passOn
        refine wpAny_bind (wpAny_field at5 dt5 at1 ?_)
        rw [if_neg (by simp : ¬ (Value.ref tr5 == Value.none) = true)]
        have out : wpAny (model X.prog X.w) X.A (setFlight (.ref a) X.env.frame) (fun _ sh8 => wpAny (model X.prog X.w) X.A (throw (.ref a) : Sem Flow) (SP X pins D) X.xe sh8) X.xe { sh' with heap := hp3 } := by
          rw [frm]
          refine HandSPX.setFlight_upZ fly3 fun hp8 held up8 => wpAny_throw (tk _ _ ?_)
          exact ⟨a, B, shI, pins, st1, H1, kl, dd, rfl, iv1, inB, (upTo.trans up3).trans up8, .inr (.inr (by rw [stk]; exact held)), freeA, sameOs, bareG, onNo rfl⟩
        first
          | exact wpAny_bind out
          | exact wpAny_bind (wpAny_pure (wpAny_bind out))
    · intro flow sh1 came
      cases flow with
      | next =>
        obtain ⟨st1, H1, iv1, q1⟩ := came
        exact wpAny_execs_nil ⟨st1, H1, iv1.ofTry fine, q1⟩
      | brk =>
        obtain ⟨st1, H1, iv1, q1⟩ := came
        exact ⟨st1, H1, iv1.ofTry fine, q1⟩
      | cont =>
        obtain ⟨st1, H1, iv1, q1⟩ := came
        exact ⟨st1, H1, iv1.ofTry fine, q1⟩
      | ret u =>
        obtain ⟨v1, st1, H1, iv1, r1, q1⟩ := came
        exact ⟨v1, st1, H1, iv1.ofTry fine, r1, q1⟩
end
end L2
namespace HT
open PySem L2
/-- a special method of a class: a plain def -/
structure Spc (K : PySem.W.Frag) (C : Addr) (m : Str) (f : Addr) : Prop where
  at_ : PySem.W.findIn K (.ref C) m = some (some (.ref f))
  fn : PySem.W.isFn K (.ref f) = true
section
variable {X : Cx} {CX : CXT} {k : Nat} {C f : Addr} {sp : Sp} {E : XK} {pins : List (Addr × Obj)} {σ : St} {H : Hp} {s : Shared} {a dx : Addr} {fs : List (Str × V)}
theorem ins_inst (I : Inv X pins σ H s) (ea : H a = some (.ins C dx fs)) : ∃ ox od, PySem.W.InstAt s.heap a ox C od ∧ ox.data = .plain := by
  obtain ⟨mA, O, _⟩ := ins_get I.hok ea
  obtain ⟨od, J, _⟩ := O.look
  exact ⟨_, _, J, rfl⟩
/-- -x by an own __neg__ -/
theorem un_own (h : Spc X.K C "__neg__" f) (F : FnR X.prog X.w X.K X.mg X.base CX k f sp) (hr : Room k X.A) (hx : Passes CX X E) :
    UnR X (unaryOp .USub) (fun x H Q => ∃ a dx fs, x = .ref a ∧ H a = some (.ins C dx fs) ∧ sp [.ref a] H Q E) := by
  intro pins s σ H x v Q I rx q
  obtain ⟨a, dx, fs, rfl, ea, q⟩ := q
  obtain rfl : v = Value.ref a := rx
  obtain ⟨ox, od, J, _⟩ := ins_inst I ea
  obtain ⟨m, hF⟩ := I.fr
  exact PySem.W.ksp_neg hF I.ok.mod.kin J h.at_ h.fn (wpAny_call (run_fnR (us := [.ref a]) (vs := [.ref a]) F hr hx I (.cons rfl .nil) q))
/-- y in x by an own __contains__ that tells a truth value -/
theorem op_ownIn (h : Spc X.K C "__contains__" f) (F : FnR X.prog X.w X.K X.mg X.base CX k f sp) (hr : Room k X.A) (hx : Passes CX X E) :
    OpR X (compareOp .In) (fun y x H Q => ∃ a dx fs, x = .ref a ∧ H a = some (.ins C dx fs) ∧ sp [.ref a, y] H (fun v H' => ∃ b, v = .bl b ∧ Q (.bl b) H') E) := by
  intro pins s σ H y x u v Q I ry rx q
  obtain ⟨a, dx, fs, rfl, ea, q⟩ := q
  obtain rfl : v = Value.ref a := rx
  obtain ⟨ox, od, J, _⟩ := ins_inst I ea
  obtain ⟨m, hF⟩ := I.fr
  refine PySem.W.in_K hF I.ok.mod.kin J h.at_ h.fn (wpAny_mono (wpAny_call (run_fnR (us := [.ref a, u]) (vs := [.ref a, y]) F hr hx I (.cons rfl (.cons ry .nil)) q)) (fun r s' z => ?_) fun _ _ z => z)
  obtain ⟨w, H', I', rw', b, rfl, q'⟩ := z
  cases (show r = Value.bool b from rw')
  exact wpAny_pure ⟨.bl b, H', I', rfl, q'⟩
/-- x | y by an own __or__, y of the same class -/
theorem op_ownOr (h : Spc X.K C "__or__" f) (hc : PySem.W.selfFirst X.K C = true) (F : FnR X.prog X.w X.K X.mg X.base CX k f sp) (hr : Room k X.A) (hx : Passes CX X E) :
    OpR X (binaryOp .BitOr) (fun x y H Q => ∃ a dx fs b dy gs, x = .ref a ∧ y = .ref b ∧ H a = some (.ins C dx fs) ∧ H b = some (.ins C dy gs) ∧ sp [.ref a, .ref b] H Q E) := by
  intro pins s σ H x y v u Q I rx ry q
  obtain ⟨a, dx, fs, b, dy, gs, rfl, rfl, ea, eb, q⟩ := q
  obtain rfl : v = Value.ref a := rx
  obtain rfl : u = Value.ref b := ry
  obtain ⟨ox, od, J, _⟩ := ins_inst I ea
  obtain ⟨oy, oe, J', _⟩ := ins_inst I eb
  obtain ⟨m, hF⟩ := I.fr
  refine PySem.W.binop_K hF I.ok.mod.kin J J'.type hc h.at_ h.fn (wpAny_mono (wpAny_call (run_fnR (us := [.ref a, .ref b]) (vs := [.ref a, .ref b]) F hr hx I (.cons rfl (.cons rfl .nil)) q)) (fun r s' z => ?_) fun _ _ z => z)
  obtain ⟨w, H', I', rw', q'⟩ := z
  cases r <;> first | exact ⟨w, H', I', rw', q'⟩ | (cases w <;> first | exact nomatch rw' | (obtain ⟨_, z⟩ := rw'; cases z) | cases rw')
/-- x == y by an own __eq__, y of a type that does not come first -/
theorem op_ownEq (h : Spc X.K C "__eq__" f) (F : FnR X.prog X.w X.K X.mg X.base CX k f sp) (hr : Room k X.A) (hx : Passes CX X E) :
    OpR X (compareOp .Eq) (fun x y H Q => ∃ a dx fs tb, x = .ref a ∧ H a = some (.ins C dx fs) ∧ TyX X.K H y tb ∧ PySem.W.notFirst X.K C tb = true ∧ sp [.ref a, y] H Q E) := by
  intro pins s σ H x y v u Q I rx ry q
  obtain ⟨a, dx, fs, tb, rfl, ea, ty, nf, q⟩ := q
  obtain rfl : v = Value.ref a := rx
  obtain ⟨ox, od, J, _⟩ := ins_inst I ea
  obtain ⟨m, hF⟩ := I.fr
  obtain ⟨P, kx, p, _⟩ := kit_of I ry ty
  have L : PySem.W.Looks (model X.prog X.w) s.heap (typeOf u) tb := kx.ty _ _ I.kIn p
  refine PySem.W.cmp_K (op := .Eq) hr.units0 hF I.ok.mod.kin J L nf h.at_ h.fn (wpAny_mono (wpAny_call (run_fnR (us := [.ref a, u]) (vs := [.ref a, y]) F hr hx I (.cons rfl (.cons ry .nil)) q)) (fun r s' z => ?_) fun _ _ z => z)
  obtain ⟨w, H', I', rw', q'⟩ := z
  cases r <;> first | exact ⟨w, H', I', rw', q'⟩ | (cases w <;> first | exact nomatch rw' | (obtain ⟨_, z⟩ := rw'; cases z) | cases rw')
end
end HT
namespace HT
open PySem PySem.Spec PyProof.Rows L2
section
variable {X : Cx} {CX : CXT} {k : Nat} {C f : Addr} {sp : Sp} {E : XK} {ea eb : Expr} {ta tb : TE} {pos : Pos}
/-- x[y] by an own __getitem__ -/
def rOwn (C : Addr) (sp : Sp) (E : XK) : R2 := fun x y H Q => ∃ a dx fs, x = .ref a ∧ H a = some (.ins C dx fs) ∧ sp [.ref a, y] H Q E
theorem pe_ownIx (h : Spc X.K C "__getitem__" f) (hf : PySem.W.fnIn X.K f = true) (F : FnR X.prog X.w X.K X.mg X.base CX k f sp) (hr : Room (k + 1) X.A) (hx : Passes CX X E) (ha : PE X ea ta) (hb : PE X eb tb)
    (hsl : ∀ x i, subscripted eb true (.ref x) i = runValue (.builtin "lifetime.subscript" ⟨[.ref x, i], []⟩) := by intros; with_unfolding_all rfl) : PE X (.Subscript ea eb pos) (tOp (rOwn C sp E) ta tb) := by
  refine ⟨fun pins s σ H Q I h' => ?_⟩
  refine Subscript_ (binT ha hb I h' fun v u s2 x y H2 I2 rx ry q => ?_)
  obtain ⟨a, dx, fs, rfl, ea, q⟩ := q
  obtain rfl : v = Value.ref a := rx
  obtain ⟨ox, od, J, _⟩ := ins_inst I2 ea
  obtain ⟨m, hF⟩ := I2.fr
  refine PySem.W.sub_K hF I2.ok.mod.kin J h.at_ hf h.fn (wpAny_call (codeAny_mono (F X.A.in1 X.stack s2 H2 [.ref a, u] [.ref a, y] Q E hr.in1 I2.env0.in1 (.cons rfl (.cons ry .nil)) q) fun r s' hq => ?_)) (hsl _ _)
  cases r with
  | error e => exact hx _ _ _ _ e s' I2 hq
  | ok fl =>
    cases fl with
    | ret w => exact I2.after hq
    | next => exact False.elim hq
    | brk => exact False.elim hq
    | cont => exact False.elim hq
end
section
variable {prog : Program} {w : World} {A : Around} {E : Value → Shared → Prop} {s : Shared} {K : PySem.W.Frag} {x b C D f g : Addr} {ox oy : Obj} {od oe : Option Obj}
/-- an operator's own method where the right side is of another own class, none of the two below the other -/
theorem binop_other {op : Operator} {Q : Value → Shared → Prop} (X : K.In s.heap) (I : PySem.W.InstAt s.heap x ox C od) (J : PySem.W.InstAt s.heap b oy D oe) (hne : C ≠ D) (hc : PySem.W.selfFirst K C = true) (hd : PySem.W.selfFirst K D = true)
    (hs : PySem.W.findIn K (.ref C) (PySem.dunder op.info.2) = some (some (.ref f))) (hf : PySem.W.isFn K (.ref f) = true) (hr : PySem.W.findIn K (.ref C) (dunderR op.info.2) = some none)
    (ht : PySem.W.findIn K (.ref D) (PySem.dunder op.info.2) = some (some (.ref g))) (hu : PySem.W.findIn K (.ref D) (dunderR op.info.2) = some none) (hsub : PySem.W.subIn K (.ref D) (.ref C) = some false)
    (h : wpAny (model prog w) A (call (.ref f) [.ref x, .ref b]) (PySem.W.CmpBack Q) E s) : wpAny (model prog w) A (binaryOp op (.ref x) (.ref b)) Q E s := by
  obtain ⟨cd, rest, hcd, hm⟩ := PySem.W.ksp_first hc
  obtain ⟨cd', rest', hcd', hm'⟩ := PySem.W.ksp_first hd
  rcases hi : op.info with ⟨sym, nm'⟩
  rw [hi] at hs hr ht hu
  dsimp only at hs hr ht hu
  have one := PySem.W.ksp_try X I hs hf h
  obtain ⟨hh, gg, d, tt, os⟩ := s
  have L1 : PySem.W.Looks (model prog w) hh (typeOf (.ref x)) (.ref C) := I.type
  have L2 : PySem.W.Looks (model prog w) hh (typeOf (.ref b)) (.ref D) := J.type
  have L3 : PySem.W.Looks (model prog w) hh (fillsNumberSlot (.ref C) nm') true := PySem.W.fills_K X hcd hm hs
  have L4 : PySem.W.Looks (model prog w) hh (fillsNumberSlot (.ref D) nm') true := PySem.W.fills_K X hcd' hm' ht
  have L5 : PySem.W.Looks (model prog w) hh (isSubtype (.ref D) (.ref C)) false := PySem.W.looks_subIn X hsub
  have L6 : PySem.W.Looks (model prog w) hh (numberSlotInPython (.ref C) nm') true := PySem.W.ksp_inPy X hs hr (.inl rfl)
  have L7 : PySem.W.Looks (model prog w) hh (numberSlotInPython (.ref D) nm') true := PySem.W.ksp_inPy X ht hu (.inl rfl)
  have hne' : (Value.ref C == Value.ref D) = false := Bool.eq_false_iff.mpr fun q => hne (by cases beq_iff_eq.mp q; rfl)
  simp only [binaryOp, hi]
  refine wpAny_holding (wpAny_bind ?_)
  unfold binaryOp1
  refine wpAny_bind (L1.at (wpAny_bind (L2.at (wpAny_bind (L3.at ?_)))))
  simp only [hne', Bool.false_eq_true, if_false]
  repeat ((fail_if_success (with_reducible show wpAny _ _ (tryMethod _ _ _) _ _ _)); lk)
  refine wpAny_mono one (fun r s' hr' => ?_) fun _ _ e => e
  obtain ⟨v, rfl, hq⟩ := hr'
  repeat lk
  exact hq
end
end HT
namespace HT
open PySem PySem.Spec PyProof.Rows L2
section
variable {prog : Program} {w : World} {A : Around} {E : Value → Shared → Prop} {s : Shared} {K : PySem.W.Frag} {x C f : Addr} {ox : Obj} {od : Option Obj} {b tb : Value}
/-- a call of object's slot at an instance of an own class -/
theorem check_own {M : Model} {id n : String} {rest : List Value} {Q : Unit → Shared → Prop} (X : K.In s.heap) (I : PySem.W.InstAt s.heap x ox C od) (ho : PySem.W.subIn K (.ref C) (.type "object") = some true)
    (hk : builtinKind id = some .slot) (hs : splitId id = some ("object", n)) (ha : argsOk id ⟨.ref x :: rest, []⟩) (q : Q () s) : wpAny M A (checkBuiltinCall id ⟨.ref x :: rest, []⟩) Q E s := by
  obtain ⟨hh, gg, d, tt, os⟩ := s
  have L1 : PySem.W.Looks M hh (typeOf (.ref x)) (.ref C) := I.type
  have L2 : PySem.W.Looks M hh (isSubtype (.ref C) (.type "object")) true := PySem.W.looks_subIn X ho
  simp only [checkBuiltinCall, hk, hs]
  refine wpAny_bind ?_
  · unfold isInstance
    repeat lk
    cases hsig : Manifest.signature? id with
    | none => exact wpAny_pure q
    | some sig =>
      have e : Bind.checkArgs id sig ⟨.ref x :: rest, []⟩ = pure () := by
        have := ha
        unfold argsOk at this
        rw [hsig] at this
        exact this
      show wpAny M A (Bind.checkArgs id sig ⟨.ref x :: rest, []⟩) Q E _
      rw [e]
      exact wpAny_pure q
/-- object.__ne__ at an instance with an own __eq__ that tells a truth value -/
theorem try_ne {Q : Value → Shared → Prop} (hu : A.units + 1 < cLine) (X : K.In s.heap) (I : PySem.W.InstAt s.heap x ox C od) (ho : PySem.W.subIn K (.ref C) (.type "object") = some true) (hn : PySem.W.findIn K (.ref C) "__ne__" = some (some (.builtin "object.__ne__")))
    (hs : PySem.W.findIn K (.ref C) "__eq__" = some (some (.ref f))) (hf : PySem.W.isFn K (.ref f) = true)
    (h : wpAny (model prog w) A.in1 (call (.ref f) [.ref x, b]) (fun r s' => ∃ k, r = .bool k ∧ Q (.bool (!k)) s') E s) : wpAny (model prog w) A (tryCompare (.ref x) "__ne__" b) (fun r s' => ∃ v, r = some v ∧ Q v s') E s := by
  have FB := F.cmp_object
  unfold tryCompare
  refine wpAny_bind ?_
  simp only [callSpecialIfBound?, bindSpecialIfBound?]
  refine wpAny_holding (wpAny_bind (wpAny_bind (wpAny_bind (I.type.here ((PySem.W.looks_findIn X hn).here ?_)))))
  have hb : bindSpecial (.builtin "object.__ne__") (.ref x) = pure (.builtin "object.__ne__", [.ref x]) := FB.ne.bind _
  simp only [hb]
  refine wpAny_bind (wpAny_askSetting (wpAny_ite ?_))
  have fin : wpAny (model prog w) A (call (.builtin "object.__ne__") ([.ref x] ++ [b]) >>= fun v => pure (some v)) (fun r s' => wpAny (model prog w) A (match r with | some .notImplemented | none => pure none | some v => pure (some v)) (fun r s' => ∃ v, r = some v ∧ Q v s') E s') E s := by
    refine wpAny_bind (wpAny_call (codeAny_call_builtin FB.ne.plain F.cmpEntry_ne (check_own X I ho F.cmpKind_ne F.cmpSplit_ne (F.cmpArgs_ne _ _) ?_)))
    unfold Builtin.«object.__ne__»
    refine wpAny_bind (m := slotArgs "__ne__" 1 ⟨[.ref x] ++ [b], []⟩) (wpAny_pure ?_)
    refine wpAny_bind (wpAny_cRoomFor hu ?_)
    refine wpAny_bind (PySem.W.ifBound_K X I hs hf (wpAny_mono h (fun r s' z => ?_) fun _ _ e => e))
    obtain ⟨k, rfl, q⟩ := z
    refine wpAny_bind (wpAny_pure ?_)
    exact wpAny_pure (wpAny_pure (wpAny_pure ⟨_, rfl, q⟩))
  split
  · exact wpAny_bind (wpAny_pure (wpAny_pure fin))
  · exact wpAny_tryCatch (wpAny_bind (wpAny_pure (wpAny_pure fin)))
/-- a rich comparison whose left side answers -/
theorem rich_of {op : CmpOp} {Q : Value → Shared → Prop} (hu : A.units < cLine) (X : K.In s.heap) (I : PySem.W.InstAt s.heap x ox C od) (hb : PySem.W.Looks (model prog w) s.heap (typeOf b) tb) (hn : PySem.W.notFirst K C tb = true)
    (one : wpAny (model prog w) A (tryCompare (.ref x) (cmpInfo op).2.1 b) (fun r s' => ∃ v, r = some v ∧ Q v s') E s) : wpAny (model prog w) A (richCompare op (.ref x) b) Q E s := by
  unfold richCompare
  simp only [oneThing_ref]
  refine wpAny_holding (wpAny_bind (wpAny_cRoomFor hu (wpAny_bind (I.type.here (wpAny_bind (hb.here ?_))))))
  have tail : wpAny (model prog w) A (tryCompare (.ref x) (cmpInfo op).2.1 b) (fun r s' => ∃ v, r = some v ∧ wpAny (model prog w) A (pure v : Sem Value) Q E s') E s :=
    wpAny_mono one (fun r s' ⟨v, e, q⟩ => ⟨v, e, wpAny_pure q⟩) fun _ _ e => e

  split
  · rename_i q
    have e : PySem.W.subIn K tb (.ref C) = some false := by
      rcases Bool.or_eq_true_iff.mp hn with e | e
      · rw [beq_iff_eq.mp e] at q
        exact absurd q (by simp)
      · exact beq_iff_eq.mp e
    refine wpAny_bind ((PySem.W.looks_subIn X e).here ?_)
    rw [if_neg (by decide)]
    refine wpAny_bind (wpAny_mono tail (fun r s' ⟨v, e, q⟩ => ?_) fun _ _ e => e)
    subst e
    exact q
  · refine wpAny_bind (wpAny_pure ?_)
    rw [if_neg (by decide)]
    refine wpAny_bind (wpAny_mono tail (fun r s' ⟨v, e, q⟩ => ?_) fun _ _ e => e)
    subst e
    exact q
end
section
variable {X : Cx} {CX : CXT} {k : Nat} {C f : Addr} {sp : Sp} {E : XK}
/-- x != y by object's __ne__ over an own __eq__ -/
theorem op_ownNe (h : Spc X.K C "__eq__" f) (ho : PySem.W.subIn X.K (.ref C) (.type "object") = some true) (hn : PySem.W.findIn X.K (.ref C) "__ne__" = some (some (.builtin "object.__ne__"))) (F : FnR X.prog X.w X.K X.mg X.base CX k f sp) (hr : Room (k + 1) X.A) (hx : Passes CX X E) :
    OpR X (compareOp .NotEq) (fun x y H Q => ∃ a dx fs tb, x = .ref a ∧ H a = some (.ins C dx fs) ∧ TyX X.K H y tb ∧ PySem.W.notFirst X.K C tb = true ∧ sp [.ref a, y] H (fun v H' => ∃ b, v = .bl b ∧ Q (.bl (!b)) H') E) := by
  intro pins s σ H x y v u Q I rx ry q
  obtain ⟨a, dx, fs, tb, rfl, ea, ty, nf, q⟩ := q
  obtain rfl : v = Value.ref a := rx
  obtain ⟨ox, od, J, _⟩ := ins_inst I ea
  obtain ⟨P, kx, p, _⟩ := kit_of I ry ty
  refine rich_of (op := .NotEq) hr.units0 I.kIn J (kx.ty _ _ I.kIn p) nf (try_ne (by have := hr.units; omega) I.kIn J ho hn h.at_ h.fn (wpAny_call (codeAny_mono (F X.A.in1 X.stack s H [.ref a, u] [.ref a, y] _ E hr.in1 I.env0.in1 (.cons rfl (.cons ry .nil)) q) fun r s' hq => ?_)))
  cases r with
  | error e => exact hx _ _ _ _ e s' I hq
  | ok fl =>
    cases fl with
    | ret w =>
      obtain ⟨v, H', I', rv, b, rfl, q'⟩ := I.after hq
      cases (show w = Value.bool b from rv)
      exact ⟨b, rfl, .bl (!b), H', I', rfl, q'⟩
    | next => exact False.elim hq
    | brk => exact False.elim hq
    | cont => exact False.elim hq
/-- x | y by an own __or__, y of another own class -/
theorem op_ownOr2 {D g : Addr} (h : Spc X.K C "__or__" f) (h' : Spc X.K D "__or__" g) (hne : C ≠ D) (hc : PySem.W.selfFirst X.K C = true) (hd : PySem.W.selfFirst X.K D = true) (r1 : PySem.W.findIn X.K (.ref C) "__ror__" = some none) (r2 : PySem.W.findIn X.K (.ref D) "__ror__" = some none)
    (hsub : PySem.W.subIn X.K (.ref D) (.ref C) = some false) (F : FnR X.prog X.w X.K X.mg X.base CX k f sp) (hr : Room k X.A) (hx : Passes CX X E) :
    OpR X (binaryOp .BitOr) (fun x y H Q => ∃ a dx fs b dy gs, x = .ref a ∧ y = .ref b ∧ H a = some (.ins C dx fs) ∧ H b = some (.ins D dy gs) ∧ sp [.ref a, .ref b] H Q E) := by
  intro pins s σ H x y v u Q I rx ry q
  obtain ⟨a, dx, fs, b, dy, gs, rfl, rfl, ea, eb, q⟩ := q
  obtain rfl : v = Value.ref a := rx
  obtain rfl : u = Value.ref b := ry
  obtain ⟨ox, od, J, _⟩ := ins_inst I ea
  obtain ⟨oy, oe, J', _⟩ := ins_inst I eb
  refine binop_other (op := .BitOr) I.kIn J J' hne hc hd h.at_ h.fn r1 h'.at_ r2 hsub (wpAny_mono (wpAny_call (run_fnR (us := [.ref a, .ref b]) (vs := [.ref a, .ref b]) F hr hx I (.cons rfl (.cons rfl .nil)) q)) (fun r s' z => ?_) fun _ _ z => z)
  obtain ⟨w, H', I', rw', q'⟩ := z
  cases r <;> first | exact ⟨w, H', I', rw', q'⟩ | (cases w <;> first | exact nomatch rw' | (obtain ⟨_, z⟩ := rw'; cases z) | cases rw')
end
end HT
namespace HT
open PySem PySem.Spec PyProof.Rows L2
section
variable {X : Cx} {CX : CXT} {k : Nat} {C f g : Addr} {sp : Sp} {E : L2.St → XK} {fe e ea eb : Expr} {es : List Expr} {ta tb tf : TE} {t : TA} {pos : Pos}
theorem run_fnRS {pins : List (Addr × Obj)} {σ : L2.St} {H : Hp} {s : Shared} {Q : VK} {us : List Value} {vs : List V} (F : FnR X.prog X.w X.K X.mg X.base CX k f sp) (hr : Room k X.A) (hx : PassesAt CX X σ (E σ)) (I : Inv X pins σ H s) (r : Vals vs us) (h : sp vs H Q (E σ)) :
    codeAny (model X.prog X.w) X.A (.call (.ref f) ⟨us, []⟩) (fun r s' => match r with | .ok (.ret u) => EP X pins σ Q u s' | .ok _ => False | .error e => X.xe e s') s := by
  refine codeAny_mono (F X.A X.stack s H us vs Q (E σ) hr I.env0 r h) fun r s' hq => ?_
  cases r with
  | error e => exact hx pins H s e s' I hq
  | ok fl =>
    cases fl with
    | ret u => exact I.after hq
    | next => exact False.elim hq
    | brk => exact False.elim hq
    | cont => exact False.elim hq
/-- a call of an instance where what is raised is wished for at the caller's slots -/
def tCallOS (C : Addr) (sp : Sp) (E : L2.St → XK) (tf : TE) (t : TA) : TE := fun σ H Q => tf σ H fun y H1 => ∃ a, y = V.ref a ∧ t σ H1 fun vs H2 => (∃ dx fs, H2 a = some (.ins C dx fs)) ∧ sp (V.ref a :: vs) H2 Q (E σ)
theorem pe_callOS (hf : PE X fe tf) (c : StX.CallO X.K C g) (F : FnR X.prog X.w X.K X.mg X.base CX k g sp) (hr : Room k X.A) (hx : ∀ σ, PassesAt CX X σ (E σ)) (ha : PA X (e :: es) t)
    (ht : eval (.Call fe (e :: es) [] pos) X.env = (do callWith pos (← eval fe X.env) [] (backTo pos (starEach (e :: es) X.env)) (backToKw pos (keywordEach [] X.env))) := by rfl)
    (he : starEach (e :: es) X.env = (false, eval e X.env) :: starEach es X.env := by rfl) (hpl : (backTo pos (starEach es X.env)).any (·.1) = false := by rfl) : PE X (.Call fe (e :: es) [] pos) (tCallOS C sp E tf t) := by
  refine ⟨fun pins s σ H Q I h => ?_⟩
  refine Call_ (thn (hf.run pins s σ H _ I h) fun u s1 ⟨y, H1, I1, ry, a, ey, q⟩ => ?_) ht
  subst ey
  obtain rfl : u = Value.ref a := ry
  refine StX.callO_with (thn (ha.run pos pins s1 σ H1 _ I1 q) fun us s2 ⟨vs, H2, I2, r, hi, q2⟩ => ?_) he hpl
  obtain ⟨ox, od, J, hd⟩ := StX.insC_at I2 (.inr hi)
  exact ⟨⟨C, ox, od, J, hd⟩, wpAny_call (PySem.W.kco_code I2.kIn J hd c.at_ c.fn c.fi (run_fnRS (us := .ref a :: us) (vs := .ref a :: vs) F hr (hx σ) I2 (.cons rfl r) q2))⟩
/-- x[y] by an own __getitem__, the same -/
def tOwnS (C : Addr) (sp : Sp) (E : L2.St → XK) (ta tb : TE) : TE := fun σ H Q => ta σ H fun x H1 => tb σ H1 fun y H2 => ∃ a dx fs, x = .ref a ∧ H2 a = some (.ins C dx fs) ∧ sp [.ref a, y] H2 Q (E σ)
theorem pe_ownIxS (h : Spc X.K C "__getitem__" f) (hf : PySem.W.fnIn X.K f = true) (F : FnR X.prog X.w X.K X.mg X.base CX k f sp) (hr : Room (k + 1) X.A) (hx : ∀ σ, PassesAt CX X σ (E σ)) (ha : PE X ea ta) (hb : PE X eb tb)
    (hsl : ∀ x i, subscripted eb true (.ref x) i = runValue (.builtin "lifetime.subscript" ⟨[.ref x, i], []⟩) := by intros; with_unfolding_all rfl) : PE X (.Subscript ea eb pos) (tOwnS C sp E ta tb) := by
  refine ⟨fun pins s σ H Q I h' => ?_⟩
  refine Subscript_ (binT ha hb I h' fun v u s2 x y H2 I2 rx ry q => ?_)
  obtain ⟨a, dx, fs, rfl, ea, q⟩ := q
  obtain rfl : v = Value.ref a := rx
  obtain ⟨ox, od, J, _⟩ := ins_inst I2 ea
  obtain ⟨m, hF⟩ := I2.fr
  refine PySem.W.sub_K hF I2.ok.mod.kin J h.at_ hf h.fn (wpAny_call (codeAny_mono (F X.A.in1 X.stack s2 H2 [.ref a, u] [.ref a, y] Q (E σ) hr.in1 I2.env0.in1 (.cons rfl (.cons ry .nil)) q) fun r s' hq => ?_)) (hsl _ _)
  cases r with
  | error e => exact hx σ pins H2 s2 e s' I2 hq
  | ok fl =>
    cases fl with
    | ret w => exact I2.after hq
    | next => exact False.elim hq
    | brk => exact False.elim hq
    | cont => exact False.elim hq
end
end HT
namespace L2
open PySem PySem.Spec PyProof.Rows
/-- what the written part says of an error class, for isinstance -/
structure ErrC (K : PySem.W.Frag) (C : Addr) : Prop where
  cl : (PySem.W.clsIn K C).isSome = true
  ga : PySem.W.findIn K (.ref C) "__getattribute__" = some (some (.builtin "BaseException.__getattribute__"))
  gg : PySem.W.findIn K (.ref C) "__getattr__" = some none
  sb : PySem.W.subIn K (.ref C) (.type "BaseException") = some true
  cn : PySem.W.findIn K (.ref C) "__class__" = some (some (.builtin "object.__class__"))
  mo : PySem.W.mroIn K C (.type "object") = some true
/-- .. of the attribute __class__ of all objects -/
structure ErrG (K : PySem.W.Frag) : Prop where
  sp : PySem.W.specialIn K (.builtin "object.__class__") "__get__" = some (some (.builtin "getset_descriptor.__get__"))
  tk : PySem.W.takesIn K (.builtin "object.__class__") = some true
def rIsKept (K : PySem.W.Frag) : List V → Hp → VK → Prop := fun xs H Q => ∃ (a C : Addr) (c : V) (cv : Value) (b : Bool), xs = [.ref a, c] ∧ ClsV c cv ∧ H a = some (ExK (.ref C) a) ∧ ErrC K C ∧ ErrG K ∧ PySem.W.kitOne K (.ref C) cv = some b ∧ Q (.bl b) H
theorem call_isKept {X : Cx} : CallR X (.builtin "isinstance") (rIsKept X.K) := by
  intro pins sh st H xs us Q iv r h
  obtain ⟨a, C, c, cv, b, rfl, k, at', T, G, e, q⟩ := h
  obtain ⟨u1, u2, rfl, r1, r2⟩ := vals2 r
  have e2 := k.eq r2
  subst e2
  obtain rfl : u1 = Value.ref a := r1
  obtain ⟨⟨oe, vs, ho, hz, hd⟩, _, _⟩ := iv.hok a _ at'
  have J : PySem.W.InstAt sh.heap a oe C none := by
    obtain ⟨oc, od, oda, osl⟩ := oe
    obtain ⟨h1, h2⟩ := hz
    dsimp only at h1 h2 hd
    subst h1 h2 hd
    exact ⟨ho, rfl, rfl, trivial⟩
  exact PySem.W.kia_one (PySem.W.kitx_exc T.cl T.ga T.gg T.sb T.cn G.sp G.tk T.mo) iv.kIn J e (fun z => nomatch z) fun tk => ⟨.bl b, H, iv.tok tk, rfl, q⟩
end L2
namespace L2
open PySem PySem.Spec PyProof.Rows
/-- a def of which any kind of error may come -/
theorem Fun.okAny {CX' : CXT} {P : Program} {w : World} {K : PySem.W.Frag} {mg : Str → Option Value} {base : Heap} {nm qu : Str} {row : Stmt} {at0 : Addr} {fd : FuncData} {names pars : List Str} {lev : Nat} {want : Sp} (F : Fun K nm qu row at0 fd) (S : FnScope names pars (defScope row)) (len : ∀ vs H Q E, want vs H Q E → vs.length = pars.length)
    (body : ∀ (code : Value) (A : Around) (outer : List Env) (sh : Shared) (H : Hp) (vs : List V) (Q : VK) (E : XK), Room lev (A.deeper (envOfC qu (defScope row) sh.heap.objs.size at0 code)) → want vs H Q E →
      ∃ t, PSs (cxOf CX' P w K mg base names qu (defScope row) at0 code A outer sh H E) (defBody row) t ∧ t { nx := fun _ H' => Q .non H', rt := Q } (start names vs) H) : FnOk P w K mg base CX' (lev + 1) at0 fd pars want := by
  obtain ⟨_, _, _, _, _, _, code, _, _, rfl, there, isCode⟩ := F.ex
  exact fn_of there isCode S len (body code)
/-- X('..') of an own class, for a raise .. from None -/
theorem pmk5_own {X : Cx} {C : Addr} {bmB : List Value} {B newId initId : String} {x m : Str} {j : Nat} {p p2 pos : Pos} (F : ExcBaseFacts B newId initId bmB) (q : PySem.W.excIn X.K C bmB newId = true) (gC : X.mg x = some (.ref C)) (kC : PySem.W.keepIn X.K (.ref C) = true) (r : Raises X (.ref C)) (hg : Gl X x)
    (plain : (x == ("__debug__" : Str)) = false := by decide) : L2H.PMk5 X (.Call (.Name x p) [.Constant (.str m) j p2] [] pos) (fun _ H Q => Q (.ref C) none H) := by
  intro pins sh st H Q iv want
  have arg : PA X [.Constant (.str m) j p2] (tCons (tC (.str m)) tNil) := pa_cons pe_str pa_nil
  refine wpAny_Call_Name_kw (ld_glob iv hg gC (PySem.W.callWith_K (h₀ := X.base) iv.ok.mod.kin kC (thn (arg.run pos pins sh st H (fun vs H1 => vs = [V.str m] ∧ H = H1) iv ⟨rfl, rfl⟩) ?_)) plain)
  rintro us sh1 ⟨vs, H1, iv1, rel, rfl, rfl⟩
  refine ⟨iv1.kIn, ?_⟩
  match us, rel with
  | [u], .cons _ .nil =>
    show wpAny _ _ (call (.ref C) [u]) _ _ _
    obtain ⟨_, _, _, _, _, _, _, _, _, _, _, _, _, _, _, _, _, hC, hN, hni, T⟩ := exc_obj iv1.kIn q
    exact wpAny_call_exc_subT F T hC hN hni (fun h' e made => L2H.mk_of5 iv1 made r want (iv1.hok.gone made.new)) (by show 1 ≤ sizeLine; decide)
/-- try: .. except x: suite, the suite raising: ps_try_onlyX with its reading under a name, for a loop around it -/
def tTryX (K : PySem.W.Frag) (c : Value) (ts : Addr → Value → Option Addr → TS) (Wout : WX) (tb : WX → TS) : TS := fun D st H => tb (wOnly K c ts Wout D) D st H
theorem ps_tryX {X : Cx} {x : Str} {c : Value} {body suite : List Stmt} {first : Stmt} {np pos pos' : Pos} {tb : WX → TS} {ts : Addr → Value → Option Addr → TS} {Wout : WX} (h1 : X.stack = X.env :: X.outer) (h2 : X.env.frame = some X.env.locals) (h3 : Names X x c)
    (h4 : ∀ hd : Option Value, PassesOwnAt (model X.prog X.w) (X.A.mark hd) X.A X.env X.xe) (h5 : L2.Takes X Wout)
    (h6 : ∀ (W : WX) (pn : List (Addr × Obj)) (xe : Value → Shared → Prop), L2N.Takes (X.tr pn xe) W → L2.Takes (X.tr pn xe) (L2H.wPass X.K c Wout) → PassesOwn (model X.prog X.w) X.A X.env xe → PSs (X.tr pn xe) body (tb W))
    (h7 : ∀ (a : Addr) (oe : Obj) (cls : Value) (d : Option Addr) (pn : List (Addr × Obj)), L2N.Zn cls d oe → (∃ vs, oe.data = .fields vs) → L2.Takes (L2H.suiteX X a ((a, oe) :: pn)) Wout → L2H.HotC (L2H.suiteX X a ((a, oe) :: pn)) → PSs (L2H.suiteX X a ((a, oe) :: pn)) (first :: suite) (ts a cls d)) :
    PS X (.Try body [.ExceptHandler (some (.Name x np)) none (first :: suite) pos'] [] [] pos) (tTryX X.K c ts Wout tb) := L2H.ps_try_onlyX h1 h2 h3 h4 h5 h6 h7
end L2
namespace HT
open PySem L2
/-- a test whose ways are joined by a statement of the heap -/
def tMidT (t : TT) : TT := fun σ H Q => ∃ M : Bool → Hp → Prop, t σ H M ∧ ∀ b H', M b H' → Q b H'
def tMidE (t : TE) : TE := fun σ H Q => ∃ M : V → Hp → Prop, t σ H M ∧ ∀ v H', M v H' → Q v H'
def tMidS (t : TS) : TS := fun D σ H => ∃ M : St → Hp → Prop, t { D with nx := M } σ H ∧ ∀ σ' H', M σ' H' → D.nx σ' H'
theorem pt_mid {X : Cx} {e : Expr} {t : TT} (h : PT X e t) : PT X e (tMidT t) :=
  ⟨fun pins s σ H _ I ⟨M, a, b⟩ => thn (h.run pins s σ H M I a) fun c _ ⟨H1, I1, q1⟩ => ⟨H1, I1, b c H1 q1⟩⟩
theorem pe_mid {X : Cx} {e : Expr} {t : TE} (h : PE X e t) : PE X e (tMidE t) :=
  ⟨fun pins s σ H _ I ⟨M, a, b⟩ => thn (h.run pins s σ H M I a) fun _ _ ⟨v, H1, I1, r, q1⟩ => ⟨v, H1, I1, r, b v H1 q1⟩⟩
theorem ps_mid {X : Cx} {st : Stmt} {t : TS} (h : PS X st t) : PS X st (tMidS t) :=
  ⟨fun pins s σ H D I ⟨M, a, b⟩ => thn (h.run pins s σ H { D with nx := M } I a) fun f _ q => by
    cases f with
    | next => obtain ⟨σ', H', I', q⟩ := q; exact ⟨σ', H', I', b σ' H' q⟩
    | brk => exact q
    | cont => exact q
    | ret v => exact q⟩
end HT
namespace HT
open PySem L2
def top (i : Nat) : Stmt := PySem.Challenge.pw_handedtext_k82_wrong_sides_and_sets_as_v.main.body.getD i (.Pass ⟨0, 0, 0, 0⟩)
abbrev s_is_int : Stmt := top 8
abbrev s_is_int_between : Stmt := top 9
abbrev s_check_value : Stmt := top 10
abbrev s_check_side : Stmt := top 14
abbrev s_is_side : Stmt := top 15
abbrev s_figure : Stmt := top 16
abbrev s_goes_up : Stmt := top 17
abbrev s_handed : Stmt := top 18
abbrev s_written : Stmt := top 19
abbrev s_stands : Stmt := top 20
abbrev s_span : Stmt := top 21
abbrev s_uspan : Stmt := top 22
abbrev s_below : Stmt := top 23
abbrev s_threshold : Stmt := top 24
abbrev s_mirror : Stmt := top 25
abbrev s_form : Stmt := top 26
abbrev s_first_mode : Stmt := top 27
abbrev s_check_sides : Stmt := top 31
abbrev s_period_of : Stmt := top 32
abbrev s_moved : Stmt := top 33
abbrev s_common_period : Stmt := top 34
abbrev s_raisers : Stmt := top 35
abbrev s_raises_some : Stmt := top 36
abbrev s_highest : Stmt := top 37
abbrev s_mirrors : Stmt := top 38
abbrev s_first_hit : Stmt := top 40
abbrev s_first_between : Stmt := top 41
abbrev s_unraised : Stmt := top 43
abbrev s_first_in_block : Stmt := top 44
abbrev s_first_in_both : Stmt := top 45
abbrev s_reach : Stmt := top 48
abbrev s_check_few : Stmt := top 49
abbrev s_first_unraised : Stmt := top 50
abbrev s_first_unraised_by_two : Stmt := top 51
abbrev s_before : Stmt := top 53
abbrev s_route : Stmt := top 54
abbrev s_fewest : Stmt := top 55
abbrev s_runs : Stmt := top 56
abbrev s_widened : Stmt := top 57
abbrev s_ends : Stmt := top 58
abbrev s_within : Stmt := top 59
abbrev s_holds : Stmt := top 60
abbrev s_way : Stmt := top 61
abbrev s_listed : Stmt := top 65
abbrev s_L_source : Stmt := top 67
abbrev s_L_draw : Stmt := top 68
abbrev s_L_pick : Stmt := top 69
abbrev s_L_great : Stmt := top 70
abbrev s_L_side : Stmt := top 71
abbrev s_L_asked : Stmt := top 72
abbrev s_L_word : Stmt := top 73
abbrev s_L_many_fits : Stmt := top 74
abbrev s_L_odd_fits : Stmt := top 75
abbrev s_law : Stmt := top 76
/- is_int: 0:thing -/
theorem sc_is_int : FnScope ["thing"] ["thing"] (defScope s_is_int) := ⟨rfl, rfl, rfl, by decide +kernel, rfl, by decide +kernel, by decide +kernel⟩
/- is_int_between: 0:thing 1:least 2:most -/
theorem sc_is_int_between : FnScope ["thing", "least", "most"] ["thing", "least", "most"] (defScope s_is_int_between) := ⟨rfl, rfl, rfl, by decide +kernel, rfl, by decide +kernel, by decide +kernel⟩
/- check_value: 0:value -/
theorem sc_check_value : FnScope ["value"] ["value"] (defScope s_check_value) := ⟨rfl, rfl, rfl, by decide +kernel, rfl, by decide +kernel, by decide +kernel⟩
/- check_side: 0:side 1:offset 2:step 3:mode -/
theorem sc_check_side : FnScope ["side", "offset", "step", "mode"] ["side"] (defScope s_check_side) := ⟨rfl, rfl, rfl, by decide +kernel, rfl, by decide +kernel, by decide +kernel⟩
/- is_side: 0:thing -/
theorem sc_is_side : FnScope ["thing"] ["thing"] (defScope s_is_side) := ⟨rfl, rfl, rfl, by decide +kernel, rfl, by decide +kernel, by decide +kernel⟩
/- _figure: 0:side 1:value 2:offset 3:step 4:mode 5:figure 6:rest -/
theorem sc_figure : FnScope ["side", "value", "offset", "step", "mode", "figure", "rest"] ["side", "value"] (defScope s_figure) := ⟨rfl, rfl, rfl, by decide +kernel, rfl, by decide +kernel, by decide +kernel⟩
/- _goes_up: 0:mode 1:step 2:figure 3:rest -/
theorem sc_goes_up : FnScope ["mode", "step", "figure", "rest"] ["mode", "step", "figure", "rest"] (defScope s_goes_up) := ⟨rfl, rfl, rfl, by decide +kernel, rfl, by decide +kernel, by decide +kernel⟩
/- handed: 0:side 1:value -/
theorem sc_handed : FnScope ["side", "value"] ["side", "value"] (defScope s_handed) := ⟨rfl, rfl, rfl, by decide +kernel, rfl, by decide +kernel, by decide +kernel⟩
/- written: 0:side 1:value 2:offset 3:step 4:_ -/
theorem sc_written : FnScope ["side", "value", "offset", "step", "_"] ["side", "value"] (defScope s_written) := ⟨rfl, rfl, rfl, by decide +kernel, rfl, by decide +kernel, by decide +kernel⟩
/- stands: 0:side 1:value 2:offset 3:step 4:_ -/
theorem sc_stands : FnScope ["side", "value", "offset", "step", "_"] ["side", "value"] (defScope s_stands) := ⟨rfl, rfl, rfl, by decide +kernel, rfl, by decide +kernel, by decide +kernel⟩
/- span: 0:side 1:figure -/
theorem sc_span : FnScope ["side", "figure"] ["side", "figure"] (defScope s_span) := ⟨rfl, rfl, rfl, by decide +kernel, rfl, by decide +kernel, by decide +kernel⟩
/- _span: 0:side 1:figure 2:offset 3:step 4:mode 5:value -/
theorem sc_uspan : FnScope ["side", "figure", "offset", "step", "mode", "value"] ["side", "figure"] (defScope s_uspan) := ⟨rfl, rfl, rfl, by decide +kernel, rfl, by decide +kernel, by decide +kernel⟩
/- _below: 0:mode 1:step 2:figure -/
theorem sc_below : FnScope ["mode", "step", "figure"] ["mode", "step", "figure"] (defScope s_below) := ⟨rfl, rfl, rfl, by decide +kernel, rfl, by decide +kernel, by decide +kernel⟩
/- threshold: 0:side 1:value 2:offset 3:step 4:mode 5:figure -/
theorem sc_threshold : FnScope ["side", "value", "offset", "step", "mode", "figure"] ["side", "value"] (defScope s_threshold) := ⟨rfl, rfl, rfl, by decide +kernel, rfl, by decide +kernel, by decide +kernel⟩
/- mirror: 0:side 1:offset 2:step 3:mode -/
theorem sc_mirror : FnScope ["side", "offset", "step", "mode"] ["side"] (defScope s_mirror) := ⟨rfl, rfl, rfl, by decide +kernel, rfl, by decide +kernel, by decide +kernel⟩
/- form: 0:side 1:offset 2:step 3:mode 4:first -/
theorem sc_form : FnScope ["side", "offset", "step", "mode", "first"] ["side"] (defScope s_form) := ⟨rfl, rfl, rfl, by decide +kernel, rfl, by decide +kernel, by decide +kernel⟩
/- _first_mode: 0:step 1:mode -/
theorem sc_first_mode : FnScope ["step", "mode"] ["step", "mode"] (defScope s_first_mode) := ⟨rfl, rfl, rfl, by decide +kernel, rfl, by decide +kernel, by decide +kernel⟩
/- check_sides: 0:sides 1:side -/
theorem sc_check_sides : FnScope ["sides", "side"] ["sides"] (defScope s_check_sides) := ⟨rfl, rfl, rfl, by decide +kernel, rfl, by decide +kernel, by decide +kernel⟩
/- period_of: 0:side 1:_ 2:step 3:mode -/
theorem sc_period_of : FnScope ["side", "_", "step", "mode"] ["side"] (defScope s_period_of) := ⟨rfl, rfl, rfl, by decide +kernel, rfl, by decide +kernel, by decide +kernel⟩
/- moved: 0:side 1:by 2:offset 3:step 4:mode -/
theorem sc_moved : FnScope ["side", "by", "offset", "step", "mode"] ["side", "by"] (defScope s_moved) := ⟨rfl, rfl, rfl, by decide +kernel, rfl, by decide +kernel, by decide +kernel⟩
/- common_period: 0:sides 1:many 2:side -/
theorem sc_common_period : FnScope ["sides", "many", "side"] ["sides"] (defScope s_common_period) := ⟨rfl, rfl, rfl, by decide +kernel, rfl, by decide +kernel, by decide +kernel⟩
/- raisers: 0:sides 1:side -/
theorem sc_raisers : FnScope ["sides", "side"] ["sides"] (defScope s_raisers) := ⟨rfl, rfl, rfl, by decide +kernel, rfl, by decide +kernel, by decide +kernel⟩
/- _raises_some: 0:side 1:_ 2:mode -/
theorem sc_raises_some : FnScope ["side", "_", "mode"] ["side"] (defScope s_raises_some) := ⟨rfl, rfl, rfl, by decide +kernel, rfl, by decide +kernel, by decide +kernel⟩
/- highest: 0:sides 1:value 2:side -/
theorem sc_highest : FnScope ["sides", "value", "side"] ["sides", "value"] (defScope s_highest) := ⟨rfl, rfl, rfl, by decide +kernel, rfl, by decide +kernel, by decide +kernel⟩
/- mirrors: 0:sides 1:side -/
theorem sc_mirrors : FnScope ["sides", "side"] ["sides"] (defScope s_mirrors) := ⟨rfl, rfl, rfl, by decide +kernel, rfl, by decide +kernel, by decide +kernel⟩
/- first_hit: 0:start 1:step 2:most 3:modulus 4:least 5:greatest -/
theorem sc_first_hit : FnScope ["start", "step", "most", "modulus", "least", "greatest"] ["start", "step", "most", "modulus"] (defScope s_first_hit) := ⟨rfl, rfl, rfl, by decide +kernel, rfl, by decide +kernel, by decide +kernel⟩
/- _first_between: 0:step 1:least 2:greatest 3:modulus 4:many 5:rounds -/
theorem sc_first_between : FnScope ["step", "least", "greatest", "modulus", "many", "rounds"] ["step", "least", "greatest", "modulus"] (defScope s_first_between) := ⟨rfl, rfl, rfl, by decide +kernel, rfl, by decide +kernel, by decide +kernel⟩
/- unraised: 0:side 1:least 2:offset 3:step 4:_ 5:period 6:blocks 7:figure 8:low 9:high 10:start -/
theorem sc_unraised : FnScope ["side", "least", "offset", "step", "_", "period", "blocks", "figure", "low", "high", "start"] ["side", "least"] (defScope s_unraised) := ⟨rfl, rfl, rfl, by decide +kernel, rfl, by decide +kernel, by decide +kernel⟩
/- first_in_block: 0:block 1:value 2:start 3:most 4:period 5:past -/
theorem sc_first_in_block : FnScope ["block", "value", "start", "most", "period", "past"] ["block", "value"] (defScope s_first_in_block) := ⟨rfl, rfl, rfl, by decide +kernel, rfl, by decide +kernel, by decide +kernel⟩
/- first_in_both: 0:one 1:other 2:value 3:start 4:most 5:period 6:begin 7:found 8:other_start 9:other_most 10:other_period 11:many -/
theorem sc_first_in_both : FnScope ["one", "other", "value", "start", "most", "period", "begin", "found", "other_start", "other_most", "other_period", "many"] ["one", "other", "value"] (defScope s_first_in_both) := ⟨rfl, rfl, rfl, by decide +kernel, rfl, by decide +kernel, by decide +kernel⟩
/- reach: 0:sides 1:value 2:raising 3:lowering 4:least -/
theorem sc_reach : FnScope ["sides", "value", "raising", "lowering", "least"] ["sides", "value"] (defScope s_reach) := ⟨rfl, rfl, rfl, by decide +kernel, rfl, by decide +kernel, by decide +kernel⟩
/- _check_few: 0:raising -/
theorem sc_check_few : FnScope ["raising"] ["raising"] (defScope s_check_few) := ⟨rfl, rfl, rfl, by decide +kernel, rfl, by decide +kernel, by decide +kernel⟩
/- _first_unraised: 0:raising 1:value 2:end 3:worth -/
theorem sc_first_unraised : FnScope ["raising", "value", "end", "worth"] ["raising", "value"] (defScope s_first_unraised) := ⟨rfl, rfl, rfl, by decide +kernel, rfl, by decide +kernel, by decide +kernel⟩
/- _first_unraised_by_two: 0:first 1:second 2:value 3:found 4:one 5:other 6:near -/
theorem sc_first_unraised_by_two : FnScope ["first", "second", "value", "found", "one", "other", "near"] ["first", "second", "value"] (defScope s_first_unraised_by_two) := ⟨rfl, rfl, rfl, by decide +kernel, rfl, by decide +kernel, by decide +kernel⟩
/- before: 0:sides 1:value -/
theorem sc_before : FnScope ["sides", "value"] ["sides", "value"] (defScope s_before) := ⟨rfl, rfl, rfl, by decide +kernel, rfl, by decide +kernel, by decide +kernel⟩
/- route: 0:sides 1:start 2:value 3:runs 4:many -/
theorem sc_route : FnScope ["sides", "start", "value", "runs", "many"] ["sides", "start", "value"] (defScope s_route) := ⟨rfl, rfl, rfl, by decide +kernel, rfl, by decide +kernel, by decide +kernel⟩
/- _fewest: 0:sides 1:start 2:value 3:runs 4:many 5:run -/
theorem sc_fewest : FnScope ["sides", "start", "value", "runs", "many", "run"] ["sides", "start", "value", "runs"] (defScope s_fewest) := ⟨rfl, rfl, rfl, by decide +kernel, rfl, by decide +kernel, by decide +kernel⟩
/- _runs: 0:sides 1:value 2:side 3:near 4:runs 5:many 6:run 7:least 8:greatest -/
theorem sc_runs : FnScope ["sides", "value", "side", "near", "runs", "many", "run", "least", "greatest"] ["sides", "value"] (defScope s_runs) := ⟨rfl, rfl, rfl, by decide +kernel, rfl, by decide +kernel, by decide +kernel⟩
/- _widened: 0:sides 1:run 2:least 3:greatest 4:low 5:high 6:side 7:first 8:last -/
theorem sc_widened : FnScope ["sides", "run", "least", "greatest", "low", "high", "side", "first", "last"] ["sides", "run"] (defScope s_widened) := ⟨rfl, rfl, rfl, by decide +kernel, rfl, by decide +kernel, by decide +kernel⟩
/- _ends: 0:sides 1:value 2:runs 3:many 4:window 5:least 6:greatest -/
theorem sc_ends : FnScope ["sides", "value", "runs", "many", "window", "least", "greatest"] ["sides", "value", "runs"] (defScope s_ends) := ⟨rfl, rfl, rfl, by decide +kernel, rfl, by decide +kernel, by decide +kernel⟩
/- _within: 0:run 1:window -/
theorem sc_within : FnScope ["run", "window"] ["run", "window"] (defScope s_within) := ⟨rfl, rfl, rfl, by decide +kernel, rfl, by decide +kernel, by decide +kernel⟩
/- _holds: 0:ends 1:value 2:least 3:greatest -/
theorem sc_holds : FnScope ["ends", "value", "least", "greatest"] ["ends", "value"] (defScope s_holds) := ⟨rfl, rfl, rfl, by decide +kernel, rfl, by decide +kernel, by decide +kernel⟩
/- _way: 0:sides 1:start 2:runs 3:numbers 4:here 5:many 6:run 7:side 8:places 9:number 10:place 11:fitting -/
theorem sc_way : FnScope ["sides", "start", "runs", "numbers", "here", "many", "run", "side", "places", "number", "place", "fitting"] ["sides", "start", "runs"] (defScope s_way) := ⟨rfl, rfl, rfl, by decide +kernel, rfl, by decide +kernel, by decide +kernel⟩
/- _listed: 0:thing -/
theorem sc_listed : FnScope ["thing"] ["thing"] (defScope s_listed) := ⟨rfl, rfl, rfl, by decide +kernel, rfl, by decide +kernel, by decide +kernel⟩
/- _law_source: 0:_law_script 1:_law_cells 2:_law_k -/
theorem sc_L_source : FnScope ["_law_script", "_law_cells", "_law_k"] ["_law_script"] (defScope s_L_source) := ⟨rfl, rfl, rfl, by decide +kernel, rfl, by decide +kernel, by decide +kernel⟩
/- _law_draw: 0:_law_source_here 1:_law_limit 2:_law_cells 3:_law_turn 4:_law_place 5:_law_cell 6:_law_number -/
theorem sc_L_draw : FnScope ["_law_source_here", "_law_limit", "_law_cells", "_law_turn", "_law_place", "_law_cell", "_law_number"] ["_law_source_here", "_law_limit"] (defScope s_L_draw) := ⟨rfl, rfl, rfl, by decide +kernel, rfl, by decide +kernel, by decide +kernel⟩
/- _law_pick: 0:_law_source_here 1:_law_values -/
theorem sc_L_pick : FnScope ["_law_source_here", "_law_values"] ["_law_source_here", "_law_values"] (defScope s_L_pick) := ⟨rfl, rfl, rfl, by decide +kernel, rfl, by decide +kernel, by decide +kernel⟩
/- _law_great: 0:_law_source_here 1:_law_digits 2:_law_number 3:_law_k -/
theorem sc_L_great : FnScope ["_law_source_here", "_law_digits", "_law_number", "_law_k"] ["_law_source_here", "_law_digits"] (defScope s_L_great) := ⟨rfl, rfl, rfl, by decide +kernel, rfl, by decide +kernel, by decide +kernel⟩
/- _law_side: 0:_law_source_here 1:_law_digits 2:_law_step 3:_law_offset -/
theorem sc_L_side : FnScope ["_law_source_here", "_law_digits", "_law_step", "_law_offset"] ["_law_source_here", "_law_digits"] (defScope s_L_side) := ⟨rfl, rfl, rfl, by decide +kernel, rfl, by decide +kernel, by decide +kernel⟩
/- _law_asked: 0:_law_kind 1:_law_one 2:_law_value -/
theorem sc_L_asked : FnScope ["_law_kind", "_law_one", "_law_value"] ["_law_kind", "_law_one", "_law_value"] (defScope s_L_asked) := ⟨rfl, rfl, rfl, by decide +kernel, rfl, by decide +kernel, by decide +kernel⟩
/- _law_word: 0:_law_kind 1:_law_one 2:_law_value 3:_law_caught 4:e 5:_law_hits -/
theorem sc_L_word : FnScope ["_law_kind", "_law_one", "_law_value", "_law_caught", "e", "_law_hits"] ["_law_kind", "_law_one", "_law_value"] (defScope s_L_word) := ⟨rfl, rfl, rfl, by decide +kernel, rfl, by decide +kernel, by decide +kernel⟩
/- _law_many_fits: 0:_law_three 1:_law_great_here 2:_law_wide 3:_law_bad -/
theorem sc_L_many_fits : FnScope ["_law_three", "_law_great_here", "_law_wide", "_law_bad"] [] (defScope s_L_many_fits) := ⟨rfl, rfl, rfl, by decide +kernel, rfl, by decide +kernel, by decide +kernel⟩
/- _law_odd_fits: 0:_law_source_here 1:_law_side_here 2:_law_group 3:_law_data 4:_law_odd 5:_law_value 6:_law_kind 7:_law_words 8:_law_other -/
theorem sc_L_odd_fits : FnScope ["_law_source_here", "_law_side_here", "_law_group", "_law_data", "_law_odd", "_law_value", "_law_kind", "_law_words", "_law_other"] ["_law_source_here", "_law_side_here", "_law_group", "_law_data"] (defScope s_L_odd_fits) := ⟨rfl, rfl, rfl, by decide +kernel, rfl, by decide +kernel, by decide +kernel⟩
/- law: 0:_law_script 1:_law_source_here 2:_law_turn 3:_law_data 4:_law_other 5:_law_many 6:_law_side_here 7:_law_group 8:_law_more 9:_law_wish -/
theorem sc_law : FnScope ["_law_script", "_law_source_here", "_law_turn", "_law_data", "_law_other", "_law_many", "_law_side_here", "_law_group", "_law_more", "_law_wish"] ["_law_script"] (defScope s_law) := ⟨rfl, rfl, rfl, by decide +kernel, rfl, by decide +kernel, by decide +kernel⟩
/-- the i-th row of a class -/
def inCls (s : Stmt) (i : Nat) : Stmt := match s with
  | .ClassDef _ _ _ body .. => body.getD i (.Pass ⟨0, 0, 0, 0⟩)
  | _ => .Pass ⟨0, 0, 0, 0⟩
abbrev s_S_init : Stmt := inCls (top 63) 0
theorem sc_S_init : FnScope ["self", "data"] ["self", "data"] (defScope s_S_init) := ⟨rfl, rfl, rfl, by decide +kernel, rfl, by decide +kernel, by decide +kernel⟩
abbrev s_S_data : Stmt := inCls (top 63) 1
theorem sc_S_data : FnScope ["self"] ["self"] (defScope s_S_data) := ⟨rfl, rfl, rfl, by decide +kernel, rfl, by decide +kernel, by decide +kernel⟩
abbrev s_S_call : Stmt := inCls (top 63) 2
theorem sc_S_call : FnScope ["self", "value"] ["self", "value"] (defScope s_S_call) := ⟨rfl, rfl, rfl, by decide +kernel, rfl, by decide +kernel, by decide +kernel⟩
abbrev s_S_get : Stmt := inCls (top 63) 3
theorem sc_S_get : FnScope ["self", "figure", "offset", "step", "_"] ["self", "figure"] (defScope s_S_get) := ⟨rfl, rfl, rfl, by decide +kernel, rfl, by decide +kernel, by decide +kernel⟩
abbrev s_S_iter : Stmt := inCls (top 63) 4
theorem sc_S_iter : FnScope ["self"] ["self"] (defScope s_S_iter) := ⟨rfl, rfl, rfl, by decide +kernel, rfl, by decide +kernel, by decide +kernel⟩
abbrev s_S_has : Stmt := inCls (top 63) 5
theorem sc_S_has : FnScope ["self", "value"] ["self", "value"] (defScope s_S_has) := ⟨rfl, rfl, rfl, by decide +kernel, rfl, by decide +kernel, by decide +kernel⟩
abbrev s_S_eq : Stmt := inCls (top 63) 6
theorem sc_S_eq : FnScope ["self", "other"] ["self", "other"] (defScope s_S_eq) := ⟨rfl, rfl, rfl, by decide +kernel, rfl, by decide +kernel, by decide +kernel⟩
abbrev s_S_neg : Stmt := inCls (top 63) 7
theorem sc_S_neg : FnScope ["self"] ["self"] (defScope s_S_neg) := ⟨rfl, rfl, rfl, by decide +kernel, rfl, by decide +kernel, by decide +kernel⟩
abbrev s_S_or : Stmt := inCls (top 63) 8
theorem sc_S_or : FnScope ["self", "other"] ["self", "other"] (defScope s_S_or) := ⟨rfl, rfl, rfl, by decide +kernel, rfl, by decide +kernel, by decide +kernel⟩
abbrev s_Z_init : Stmt := inCls (top 64) 0
theorem sc_Z_init : FnScope ["self", "sides", "side"] ["self", "sides"] (defScope s_Z_init) := ⟨rfl, rfl, rfl, by decide +kernel, rfl, by decide +kernel, by decide +kernel⟩
abbrev s_Z_sides : Stmt := inCls (top 64) 1
theorem sc_Z_sides : FnScope ["self"] ["self"] (defScope s_Z_sides) := ⟨rfl, rfl, rfl, by decide +kernel, rfl, by decide +kernel, by decide +kernel⟩
abbrev s_Z_len : Stmt := inCls (top 64) 2
theorem sc_Z_len : FnScope ["self"] ["self"] (defScope s_Z_len) := ⟨rfl, rfl, rfl, by decide +kernel, rfl, by decide +kernel, by decide +kernel⟩
abbrev s_Z_call : Stmt := inCls (top 64) 3
theorem sc_Z_call : FnScope ["self", "value"] ["self", "value"] (defScope s_Z_call) := ⟨rfl, rfl, rfl, by decide +kernel, rfl, by decide +kernel, by decide +kernel⟩
abbrev s_Z_get : Stmt := inCls (top 64) 4
theorem sc_Z_get : FnScope ["self", "value"] ["self", "value"] (defScope s_Z_get) := ⟨rfl, rfl, rfl, by decide +kernel, rfl, by decide +kernel, by decide +kernel⟩
abbrev s_Z_iter : Stmt := inCls (top 64) 5
theorem sc_Z_iter : FnScope ["self"] ["self"] (defScope s_Z_iter) := ⟨rfl, rfl, rfl, by decide +kernel, rfl, by decide +kernel, by decide +kernel⟩
abbrev s_Z_lead : Stmt := inCls (top 64) 6
theorem sc_Z_lead : FnScope ["self", "start", "value"] ["self", "start", "value"] (defScope s_Z_lead) := ⟨rfl, rfl, rfl, by decide +kernel, rfl, by decide +kernel, by decide +kernel⟩
abbrev s_Z_has : Stmt := inCls (top 64) 7
theorem sc_Z_has : FnScope ["self", "side"] ["self", "side"] (defScope s_Z_has) := ⟨rfl, rfl, rfl, by decide +kernel, rfl, by decide +kernel, by decide +kernel⟩
abbrev s_Z_eq : Stmt := inCls (top 64) 8
theorem sc_Z_eq : FnScope ["self", "other"] ["self", "other"] (defScope s_Z_eq) := ⟨rfl, rfl, rfl, by decide +kernel, rfl, by decide +kernel, by decide +kernel⟩
abbrev s_Z_neg : Stmt := inCls (top 64) 9
theorem sc_Z_neg : FnScope ["self"] ["self"] (defScope s_Z_neg) := ⟨rfl, rfl, rfl, by decide +kernel, rfl, by decide +kernel, by decide +kernel⟩
abbrev s_Z_or : Stmt := inCls (top 64) 10
theorem sc_Z_or : FnScope ["self", "other"] ["self", "other"] (defScope s_Z_or) := ⟨rfl, rfl, rfl, by decide +kernel, rfl, by decide +kernel, by decide +kernel⟩
abbrev s_Z_sub : Stmt := inCls (top 64) 11
theorem sc_Z_sub : FnScope ["self", "other", "side", "forms"] ["self", "other"] (defScope s_Z_sub) := ⟨rfl, rfl, rfl, by decide +kernel, rfl, by decide +kernel, by decide +kernel⟩
end HT
namespace L2
open PySem PySem.Spec PyProof.Rows
/-- powers of great numbers -/
def CPowW (i j : Int) : Prop := 0 ≤ j ∧ (Builtin.Int.intBits i : Int) * j ≤ 2 ^ 27
theorem op_powW {X : Cx} : OpR X (binaryOp .Pow) (rI CPowW fun i j => .int (i ^ j.toNat)) := opI fun _ _ _ _ _ _ _ hc q => pow_int hc.1 hc.2 q
end L2
namespace HT
open PySem L2
/-- the law's source of draws: a list of its cells' list and the turn -/
structure Src (H : Hp) (a c : Addr) (t : Nat) : Prop where
  ne : a ≠ c
  ob : H a = some (.lst [.ref c, .int (t : Int)])
  cl : ∃ cs : List Int, H c = some (.lst (cs.map V.int)) ∧ 0 < cs.length ∧ cs.length ≤ 63
/-- nothing else is touched -/
def Oth (a c : Addr) (H H' : Hp) : Prop := ∀ b o, H b = some o → b ≠ a → b ≠ c → H' b = some o
theorem Oth.refl (a c : Addr) (H : Hp) : Oth a c H H := fun _ _ h _ _ => h
theorem Oth.trans {a c : Addr} {H H1 H2 : Hp} (x : Oth a c H H1) (y : Oth a c H1 H2) : Oth a c H H2 := fun b o h n m => y b o (x b o h n m) n m
theorem Oth.new {a c p : Addr} {H H1 : Hp} {o : HO} (x : Oth a c H H1) (n : H1 p = none) : Oth a c H (upd H1 p o) := fun b u h na nc => by
  rw [upd_ne (ne_of_none (x b u h na nc) n)]
  exact x b u h na nc
theorem Src.new {a c p : Addr} {H : Hp} {t : Nat} {o : HO} (S : Src H a c t) (n : H p = none) : Src (upd H p o) a c t := by
  obtain ⟨cs, h, l⟩ := S.cl
  exact ⟨S.ne, by rw [upd_ne (ne_of_none S.ob n)]; exact S.ob, cs, by rw [upd_ne (ne_of_none h n)]; exact h, l⟩
theorem Src.of_same {a c : Addr} {H H' : Hp} {t : Nat} (S : Src H a c t) (e : Same H H') : Src H' a c t := by
  obtain ⟨cs, h, l⟩ := S.cl
  exact ⟨S.ne, e _ _ S.ob, cs, e _ _ h, l⟩
theorem Src.na {a c p : Addr} {H : Hp} {t : Nat} (S : Src H a c t) (n : H p = none) : p ≠ a ∧ p ≠ c := by
  obtain ⟨cs, h, l⟩ := S.cl
  exact ⟨(ne_of_none S.ob n).symm, (ne_of_none h n).symm⟩
theorem Src.nt {a c p : Addr} {H : Hp} {t : Nat} {xs : List V} (S : Src H a c t) (n : H p = some (.tup xs)) : p ≠ a ∧ p ≠ c := by
  obtain ⟨cs, h, l⟩ := S.cl
  exact ⟨ne_of n S.ob (by intro z; cases z), ne_of n h (by intro z; cases z)⟩
def spSource (K : PySem.W.Frag) : Sp := fun vs H Q _ => ∃ (l : Addr) (ns : List Int), vs = [.ref l] ∧ SqL K H l (ns.map V.int) ∧ ns.length ≤ 63 ∧
  ∀ a c H', Same H H' → H a = none → H c = none → Src H' a c 0 → Q (.ref a) H'
def spDraw : Sp := fun vs H Q _ => ∃ (a c : Addr) (t : Nat) (lim : Int), vs = [.ref a, .int lim] ∧ Src H a c t ∧ t < 2 ^ 30 ∧ 0 < lim ∧ lim.natAbs.log2 < 9000 ∧
  ∀ k H', 0 ≤ k → k < lim → Src H' a c (t + 1) → Oth a c H H' → Q (.int k) H'
/-- what the walk asks of the names that the text does not bind -/
structure Blt (mg : Str → Option Value) : Prop where
  len : mg "len" = none
  abs : mg "abs" = none
  int : mg "int" = none
  range : mg "range" = none
section
variable {P : Program} {w : World} {K : PySem.W.Frag} {mg : Str → Option Value} {base : Heap}
theorem fdiv_ok (i : Int) {j : Int} (h : 0 < j) (h9 : j.natAbs.log2 < 9000) : CDivW i j := ⟨h, h9⟩
theorem atI_in {xs : List Int} {i : Int} (h0 : 0 ≤ i) (h : i < (xs.length : Int)) : atI (xs.map V.int) i = some (.int (xs.getD i.toNat 0)) := by
  have e : ixN (xs.map V.int).length i = some i.toNat := by
    unfold ixN
    rw [List.length_map, if_pos h0, if_pos h]
  unfold atI
  rw [e]
  show (xs.map V.int)[i.toNat]? = _
  have hl : i.toNat < xs.length := by omega
  rw [List.getElem?_map, List.getElem?_eq_getElem hl, List.getD_eq_getElem?_getD, List.getElem?_eq_getElem hl]
  rfl
theorem ixN_in {n : Nat} {i : Int} (h0 : 0 ≤ i) (h : i < (n : Int)) : ixN n i = some i.toNat := by
  unfold ixN
  rw [if_pos h0, if_pos h]
theorem b_mod (x : Int) : -(2 ^ 64) < x % 2147483629 ∧ x % 2147483629 < 2 ^ 64 := by omega
theorem b_mod1 (x : Int) : -(2 ^ 64) < x % 2147483647 ∧ x % 2147483647 < 2 ^ 64 := by omega
theorem b_t {t : Nat} (h : t < 2 ^ 30) : -(2 ^ 64) < (t : Int) ∧ (t : Int) < 2 ^ 64 := by omega
theorem b_tt {t : Nat} (h : t < 2 ^ 30) : -(2 ^ 64) < (t : Int) * t ∧ (t : Int) * t < 2 ^ 64 := by
  have h1 : t * t < 2 ^ 30 * 2 ^ 30 := Nat.mul_lt_mul'' h h
  have h2 : ((t * t : Nat) : Int) = (t : Int) * t := Int.natCast_mul t t
  omega
theorem set_ints (xs : List Int) (j : Nat) (y : Int) : (xs.map V.int).set j (.int y) = (xs.set j y).map V.int := by
  rw [List.map_set]
theorem ok_draw {f : Addr} {fd : FuncData} (F : Fun K "_law_draw" "_law_draw" s_L_draw f fd) (B : Blt mg) : FnOk P w K mg base CX0 1 f fd ["_law_source_here", "_law_limit"] spDraw := by
  refine F.ok sc_L_draw (fun vs H Q E h => ?_) (fun cdv A outer s H vs Q E hr h => ?_)
  · obtain ⟨a, c, t, lim, rfl, _⟩ := h
    rfl
  · obtain ⟨a, c, t, lim, rfl, S, ht, hl0, hl9, q⟩ := h
    obtain ⟨cs, hc, hn0, hn⟩ := S.cl
    have nd := sc_L_draw.nd
    refine ⟨_, pss_cons (ps_asg (pv 0) (pg_unl (n := 2) (by rfl) (pgs_cons (pg_name (i := 2) nd rfl (Or.inl rfl)) (pgs_cons (pg_name (i := 3) nd rfl (Or.inl rfl)) pgs_nil))))
      (pss_cons (ps_set (i := 4) nd rfl (Or.inl rfl) (pe_op op_mod (pe_callTy call_int1 (by rfl) B.int (by decide +kernel) (pa_cons (pv 3) pa_nil)) (pe_callB call_len_seq (by rfl) B.len PySem.boot_len (pa_cons (pv 2) pa_nil))))
      (pss_cons (ps_set (i := 5) nd rfl (Or.inl rfl) (pe_ix ix_list (pv 2) (pv 4) (fun _ _ => rfl)))
      (pss_cons (ps_asg (pe_op op_add (pv 3) pe_int) (pg_sub (pv 0) pe_int set_list))
      (pss_cons (ps_if (pt_cmpR op_ge (pv 5) (pe_op op_pow pe_int pe_int) (nomark _))
        (pss_cons (ps_asg (pe_op op_fdivW (pv 5) (pv 1)) (pg_sub (pv 2) (pv 4) set_list))
          (pss_one (ps_ret (pe_op op_mod (pe_callTy call_int1 (by rfl) B.int (by decide +kernel) (pa_cons (pv 5) pa_nil)) (pv 1))))) pss_nil)
      (pss_cons (ps_set (i := 6) nd rfl (Or.inl rfl) (pe_op op_mod (pe_callTy call_int1 (by rfl) B.int (by decide +kernel) (pa_cons
          (pe_op op_add (pe_op op_add (pe_op op_mul (pe_op op_mod (pe_callTy call_int1 (by rfl) B.int (by decide +kernel) (pa_cons (pv 5) pa_nil)) pe_int) pe_int) (pe_op op_mul (pe_op op_mul (pv 3) (pv 3)) pe_int)) pe_int) pa_nil)) pe_int))
      (pss_cons (ps_set (i := 6) nd rfl (Or.inl rfl) (pe_op op_mod (pe_callTy call_int1 (by rfl) B.int (by decide +kernel) (pa_cons (pe_op op_mul (pv 6) (pv 6)) pa_nil)) pe_int))
      (pss_cons (ps_set (i := 6) nd rfl (Or.inl rfl) (pe_op op_mod (pe_callTy call_int1 (by rfl) B.int (by decide +kernel) (pa_cons (pe_op op_mul (pv 6) (pv 6)) pa_nil)) pe_int))
      (pss_one (ps_ret (pe_op op_mod (pe_callTy call_int1 (by rfl) B.int (by decide +kernel) (pa_cons (pv 6) pa_nil)) (pv 1))))))))))), ?_⟩
    -- _law_cells, _law_turn = _law_source_here
    walk_at "rd"
    refine ⟨a, _, rfl, SqL.of S.ob, rfl, _, _, rfl, _, _, rfl, rfl, ?_⟩
    -- _law_place
    walk_at "rd"
    have hn0' : (0 : Int) < ((cs.map V.int).length : Nat) := by rw [List.length_map]; omega
    refine ⟨c, _, rfl, .inl (SqL.of hc), _, _, rfl, rfl, hn0', ?_⟩
    have hp0 : 0 ≤ (t : Int) % ((cs.map V.int).length : Nat) := Int.emod_nonneg _ (by omega)
    have hp1 : (t : Int) % ((cs.map V.int).length : Nat) < ((cs.map V.int).length : Nat) := Int.emod_lt_of_pos _ hn0'
    have hp1' : (t : Int) % ((cs.map V.int).length : Nat) < (cs.length : Int) := by rw [List.length_map] at hp1 ⊢; exact hp1
    -- _law_cell
    walk_at "rd"
    refine ⟨c, _, _, _, rfl, rfl, SqL.of hc, atI_in hp0 hp1', ?_⟩
    -- _law_source_here[1] = _law_turn + 1
    walk_at "rd"
    refine ⟨a, _, 1, 1, rfl, rfl, S.ob, rfl, ?_⟩
    have S1 : Src (upd H a (.lst ([V.ref c, V.int t].set 1 (.int ((t : Int) + 1))))) a c (t + 1) := ⟨S.ne, by rw [upd_same]; rfl, cs, by rw [upd_ne S.ne.symm]; exact hc, hn0, hn⟩
    have O1 : Oth a c H (upd H a (.lst ([V.ref c, V.int t].set 1 (.int ((t : Int) + 1))))) := fun b o h na _ => by rw [upd_ne na]; exact h
    have hc1 : upd H a (.lst ([V.ref c, V.int t].set 1 (.int ((t : Int) + 1)))) c = some (.lst (cs.map V.int)) := by rw [upd_ne S.ne.symm]; exact hc
    generalize upd H a (.lst ([V.ref c, V.int t].set 1 (.int ((t : Int) + 1)))) = H1 at S1 O1 hc1 ⊢
    -- if _law_cell >= 10 ** 18
    walk_at "rd"
    refine ⟨⟨by decide, by decide, by decide⟩, ?_⟩
    walk_at "rd"
    refine ite2 (fun _ => ?_) (fun _ => ?_)
    · walk_at "rd"
      refine ⟨fdiv_ok _ hl0 hl9, ?_⟩
      walk_at "rd"
      refine ⟨c, _, _, _, rfl, rfl, hc1, ixN_in hp0 hp1, ?_⟩
      walk_at "rd"
      refine ⟨hl0, ?_⟩
      rw [set_ints]
      refine q _ _ (Int.emod_nonneg _ (by omega)) (Int.emod_lt_of_pos _ hl0) ⟨S1.ne, by rw [upd_ne S1.ne]; exact S1.ob, _, upd_same, by rw [List.length_set]; exact hn0, by rw [List.length_set]; exact hn⟩ fun b o h na nc => ?_
      rw [upd_ne nc]
      exact O1 b o h na nc
    · walk_at "rd"
      refine ⟨(by show (0 : Int) < 2147483629; decide), ?_⟩
      walk_at "rd"
      refine ⟨.inl (b_mod _), ?_⟩
      walk_at "rd"
      refine ⟨.inl (b_t ht), ?_⟩
      walk_at "rd"
      refine ⟨.inl (b_tt ht), ?_⟩
      walk_at "rd"
      refine ⟨(by show (0 : Int) < 2147483647; decide), ?_⟩
      walk_at "rd"
      refine ⟨.inl (b_mod1 _), ?_⟩
      walk_at "rd"
      refine ⟨(by show (0 : Int) < 2147483629; decide), ?_⟩
      walk_at "rd"
      refine ⟨.inl (b_mod _), ?_⟩
      walk_at "rd"
      refine ⟨(by show (0 : Int) < 2147483587; decide), ?_⟩
      walk_at "rd"
      refine ⟨hl0, ?_⟩
      exact q _ _ (Int.emod_nonneg _ (by omega)) (Int.emod_lt_of_pos _ hl0) S1 O1
end
end HT
namespace HT
open PySem L2
/-- a def of the text that may be called by its name, and what it promises -/
structure Cal (P : Program) (w : World) (K : PySem.W.Frag) (mg : Str → Option Value) (base : Heap) (x : Str) (k : Nat) (ps : List Str) (sp : Sp) (f : Addr) (fd : FuncData) : Prop where
  ok : FnOk P w K mg base CX0 k f fd ps sp
  gl : mg x = some (.ref f)
  kp : PySem.W.keepIn K (.ref f) = true
  bd : Binds K fd ps []
theorem pcl {X : Cx} {x : Str} {k j : Nat} {ps : List Str} {sp : Sp} {f : Addr} {fd : FuncData} {e : Expr} {es : List Expr} {t : TA} {p pos : Pos} (C : Cal X.prog X.w X.K X.mg X.base x k ps sp f fd) (hr : Room j X.A) (hj : k ≤ j) (hg : Gl X x) (ha : PA X (e :: es) t)
    (hdb : (x == ("__debug__" : Str)) = false := by decide) (he : starEach (e :: es) X.env = (false, eval e X.env) :: starEach es X.env := by rfl) (hpl : (backTo pos (starEach es X.env)).any (·.1) = false := by rfl) : PE X (.Call (.Name x p) (e :: es) [] pos) (tCall sp [] E0 t) :=
  pe_call C.ok (hr.mono hj) hg C.gl C.kp C.bd .nil pass0 ha hdb he hpl
section
variable {P : Program} {w : World} {K : PySem.W.Frag} {mg : Str → Option Value} {base : Heap}
theorem cut63 {ns : List Int} (h : ns.length ≤ 63) : cutV (ns.map V.int) none (some 63) = ns.map V.int := by
  have e1 : HT.sIx (ns.map V.int).length 0 none = 0 := rfl
  have e2 : HT.sIx (ns.map V.int).length (ns.map V.int).length (some 63) = (ns.map V.int).length := by
    have := HT.sIx_nat (ns.map V.int).length (ns.map V.int).length 63
    rw [show ((63 : Nat) : Int) = 63 from rfl] at this
    rw [this, List.length_map]
    omega
  unfold cutV
  rw [e1, e2, List.drop_zero, Nat.sub_zero, List.take_length]
theorem dpInts (H : Hp) : ∀ ns : List Int, DpAll K H (ns.map V.int) (ns.map PyData.int)
  | [] => .nil
  | n :: r => .cons (.int n) (dpInts H r)
theorem pow_ok : CPowW ((10 : Int) ^ (60 : Int).toNat) 20 := ⟨by decide, by decide +kernel⟩
theorem pow_pos' : (0 : Int) < ((10 : Int) ^ (60 : Int).toNat) ^ (20 : Int).toNat := by decide +kernel
theorem ok_source {f : Addr} {fd : FuncData} (F : Fun K "_law_source" "_law_source" s_L_source f fd) (B : Blt mg) : FnOk P w K mg base CX0 1 f fd ["_law_script"] (spSource K) := by
  refine F.ok sc_L_source (fun vs H Q E h => ?_) (fun cdv A outer s H vs Q E hr h => ?_)
  · obtain ⟨l, ns, rfl, _⟩ := h
    rfl
  · obtain ⟨l, ns, rfl, hL, hn, q⟩ := h
    have nd := sc_L_source.nd
    refine ⟨_, pss_cons (ps_set (i := 1) nd rfl (Or.inl rfl) (pe_slice sl_list (pv 0) po_none (po_some pe_int)))
      (pss_cons (ps_for PassesOwn.never rfl (pi_range1 (by rfl) B.range (pa_cons (pe_callB call_len_seq (by rfl) B.len PySem.boot_len (pa_cons (pv 1) pa_nil)) pa_nil)) (pg_name (i := 2) nd rfl (Or.inl rfl))
        (pss_one (ps_if (pt_cmpR op_ge (pe_callB call_abs (by rfl) B.abs (by decide +kernel) (pa_cons (pe_ix ix_list (pv 1) (pv 2) (fun _ _ => rfl)) pa_nil)) (pe_op op_pow pe_int pe_int) (nomark _))
          (pss_one (ps_asg (pe_op op_mod (pe_callTy call_int1 (by rfl) B.int (by decide +kernel) (pa_cons (pe_ix ix_list (pv 1) (pv 2) (fun _ _ => rfl)) pa_nil)) (pe_op op_powW (pe_op op_pow pe_int pe_int) pe_int)) (pg_sub (pv 1) (pv 2) set_list))) pss_nil)))
      (pss_cons (ps_if (pt_cmpR (op_eqD hr.units) (pv 1) (pe_lst pa_nil) (nomark _)) (pss_one (ps_set (i := 1) nd rfl (Or.inl rfl) (pe_lst (pa_cons pe_int pa_nil)))) pss_nil)
      (pss_one (ps_ret (pe_lst (pa_cons (pv 1) (pa_cons pe_int pa_nil))))))), ?_⟩
    walk_at "rd"
    refine ⟨l, _, rfl, hL, fun p np => ?_⟩
    rw [cut63 hn]
    walk_at "rd"
    refine ⟨p, _, rfl, .inl (SqL.of upd_same), _, rfl, by omega, ?_, ?_⟩
    · show ((ns.map V.int).length : Int) < 2 ^ 62
      rw [List.length_map]
      omega
    have en : ((ns.map V.int).length : Int).toNat = ns.length := by rw [List.length_map]; omega
    rw [en]
    refine for_range (fun i σ H' => ∃ (cs : List Int) (kv : Option V), σ = [some (.ref l), some (.ref p), kv] ∧ H' p = some (.lst (cs.map V.int)) ∧ cs.length = ns.length ∧ Same H H') ⟨ns, none, rfl, upd_same, rfl, fun b o e => by rw [upd_ne (ne_of_none e np)]; exact e⟩ ?_ ?_
    · rintro i σ H' hi ⟨cs, kv, rfl, hp, hl, sm⟩
      have h0 : (0 : Int) ≤ 0 + (i : Int) := by omega
      have h1 : (0 : Int) + (i : Int) < (cs.length : Int) := by omega
      walk_at "rd"
      refine ⟨p, _, _, _, rfl, rfl, SqL.of hp, atI_in h0 h1, ?_⟩
      walk_at "rd"
      refine ⟨⟨by decide, by decide, by decide⟩, ?_⟩
      walk_at "rd"
      refine ite2 (fun _ => ?_) (fun _ => ?_)
      · walk_at "rd"
        refine ⟨p, _, _, _, rfl, rfl, SqL.of hp, atI_in h0 h1, ?_⟩
        walk_at "rd"
        refine ⟨⟨by decide, by decide, by decide⟩, ?_⟩
        walk_at "rd"
        refine ⟨pow_ok, ?_⟩
        walk_at "rd"
        refine ⟨pow_pos', ?_⟩
        walk_at "rd"
        refine ⟨p, _, _, _, rfl, rfl, hp, ixN_in h0 (by rw [List.length_map]; exact h1), ?_⟩
        rw [set_ints]
        exact ⟨_, _, rfl, upd_same, by rw [List.length_set]; exact hl, fun b o e => by rw [upd_ne (ne_of_none e np)]; exact sm b o e⟩
      · exact ⟨cs, _, rfl, hp, hl, sm⟩
    · rintro σ H' ⟨cs, kv, rfl, hp, hl, sm⟩
      walk_at "rd"
      refine ⟨by decide, fun e ne => ?_⟩
      have hpe : upd H' e (.lst []) p = some (.lst (cs.map V.int)) := by rw [upd_ne (ne_of_none hp ne)]; exact hp
      have sm1 : Same H (upd H' e (.lst [])) := fun b o z => by rw [upd_ne (ne_of_none (sm b o z) ne)]; exact sm b o z
      refine ⟨_, _, .lst (SqL.of hpe) (dpInts _ cs), .lst (SqL.of upd_same) .nil, PySem.W.ke_shaped_ints cs, by decide +kernel, ?_⟩
      walk_at "rd"
      have hb : PyData.eqv (.list (cs.map PyData.int)) (.list []) = decide (cs = []) := by
        have z := PySem.W.ked_eqvAll cs []
        rw [← z]
        rfl
      rw [hb]
      refine ite2 (fun _ => ?_) (fun hne => ?_)
      · walk_at "rd"
        refine ⟨by decide, fun c nc => ?_⟩
        walk_at "rd"
        refine ⟨(by show 2 ≤ sizeLine; decide), fun a na => ?_⟩
        have sm2 : Same H (upd (upd H' e (.lst [])) c (.lst [.int 0])) := fun b o z => by rw [upd_ne (ne_of_none (sm1 b o z) nc)]; exact sm1 b o z
        have nac : a ≠ c := (ne_of_none upd_same na).symm
        refine q a c _ (fun b o z => by rw [upd_ne (ne_of_none (sm2 b o z) na)]; exact sm2 b o z) (sm2.free na) (sm1.free nc) ⟨nac, upd_same, [0], by rw [upd_ne nac.symm]; exact upd_same, by decide, by decide⟩
      · walk_at "rd"
        refine ⟨(by show 2 ≤ sizeLine; decide), fun a na => ?_⟩
        have nap : a ≠ p := (ne_of_none hpe na).symm
        refine q a p _ (fun b o z => by rw [upd_ne (ne_of_none (sm1 b o z) na)]; exact sm1 b o z) (sm1.free na) np ⟨nap, upd_same, cs, by rw [upd_ne nap.symm]; exact hpe, ?_, by omega⟩
        have : cs ≠ [] := fun z => hne (decide_eq_true z)
        exact List.length_pos_iff.mpr this
end
end HT
namespace HT
open PySem L2
/-- a def of which errors may come, and its call -/
structure CalX (P : Program) (w : World) (K : PySem.W.Frag) (mg : Str → Option Value) (base : Heap) (x : Str) (k : Nat) (ps : List Str) (sp : Sp) (f : Addr) (fd : FuncData) : Prop where
  ok : FnOk P w K mg base (L2.CX P w) k f fd ps sp
  mgf : mg x = some (.ref f)
  kp : PySem.W.keepIn K (.ref f) = true
  b : Binds K fd ps []
theorem pcx {X : Cx} {x : Str} {k j : Nat} {ps : List Str} {sp : Sp} {f : Addr} {fd : FuncData} {e : Expr} {es : List Expr} {t : TA} {p pos : Pos} {W : WX} (C : CalX X.prog X.w X.K X.mg X.base x k ps sp f fd) (hr : Room j X.A) (hj : k ≤ j) (hg : Gl X x) (tk : L2.Takes X W) (ha : PA X (e :: es) t)
    (hdb : (x == ("__debug__" : Str)) = false := by decide) (he : starEach (e :: es) X.env = (false, eval e X.env) :: starEach es X.env := by rfl) (hpl : (backTo pos (starEach es X.env)).any (·.1) = false := by rfl) : PE X (.Call (.Name x p) (e :: es) [] pos) (tCallS sp (WE W) t) :=
  pe_callS C.ok (hr.mono hj) hg C.mgf C.kp C.b (fun σ => L2.passAt tk σ) ha hdb he hpl
end HT
namespace HT
open PySem L2
/-! ### pick, great, side -/
def spPick : Sp := fun vs H Q _ => ∃ (a c : Addr) (t : Nat) (l : Addr) (xs : List V), vs = [.ref a, .ref l] ∧ Src H a c t ∧ t < 2 ^ 30 ∧ H l = some (.lst xs) ∧ l ≠ a ∧ l ≠ c ∧ 0 < xs.length ∧ xs.length < 2 ^ 60 ∧
  ∀ x H', x ∈ xs → Src H' a c (t + 1) → Oth a c H H' → Q x H'
def spGreat : Sp := fun vs H Q _ => ∃ (a c : Addr) (t n : Nat), vs = [.ref a, .int (n : Int)] ∧ Src H a c t ∧ n ≤ 1000 ∧ t + n < 2 ^ 30 ∧
  ∀ k H', 0 ≤ k → k < 10 ^ n → Src H' a c (t + n) → Oth a c H H' → Q (.int k) H'
/-- the modes -/
def Mode (m : Str) : Prop := m = "down" ∨ m = "up" ∨ m = "half_down" ∨ m = "half_up" ∨ m = "half_even"
/-- a side's parts -/
structure SideP (o s : Int) (m : Str) : Prop where
  o0 : -10 ^ 40 ≤ o
  o1 : o ≤ 10 ^ 40
  s0 : 1 ≤ s
  s1 : s ≤ 10 ^ 30
  md : Mode m
def sideV (o s : Int) (m : Str) : HO := .tup [.int o, .int s, .str m]
def spSide : Sp := fun vs H Q _ => ∃ (a c : Addr) (t n : Nat), vs = [.ref a, .int (n : Int)] ∧ Src H a c t ∧ 1 ≤ n ∧ n ≤ 40 ∧ t + 200 < 2 ^ 30 ∧
  ∀ p o s m H' t', H p = none → H' p = some (sideV o s m) → SideP o s m → t' ≤ t + 200 → Src H' a c t' → Oth a c H H' → Q (.ref p) H'
theorem lg_nat {n : Nat} (h : n < 2 ^ 200) : ((n : Int)).natAbs.log2 < 9000 := by
  rw [Int.natAbs_natCast]
  by_cases e : n = 0
  · rw [e]; decide
  · have := (Nat.log2_lt e).mpr h
    omega
theorem lg_small {n : Int} (h0 : 0 ≤ n) (h : n < 2 ^ 64) : n.natAbs.log2 < 9000 := by
  obtain ⟨m, rfl⟩ := Int.eq_ofNat_of_zero_le h0
  exact lg_nat (Nat.lt_of_lt_of_le (by omega : m < 2 ^ 64) (Nat.pow_le_pow_right (by decide) (by decide)))
section
variable {P : Program} {w : World} {K : PySem.W.Frag} {mg : Str → Option Value} {base : Heap} {fD fP fG : Addr} {dD dP dG : FuncData}
theorem ok_pick {f : Addr} {fd : FuncData} (F : Fun K "_law_pick" "_law_pick" s_L_pick f fd) (B : Blt mg) (D : Cal P w K mg base "_law_draw" 1 ["_law_source_here", "_law_limit"] spDraw fD dD) :
    FnOk P w K mg base CX0 2 f fd ["_law_source_here", "_law_values"] spPick := by
  refine F.ok sc_L_pick (fun vs H Q E h => ?_) (fun cdv A outer s H vs Q E hr h => ?_)
  · obtain ⟨a, c, t, l, xs, rfl, _⟩ := h
    rfl
  · obtain ⟨a, c, t, l, xs, rfl, S, ht, hl, na, nc, h0, h1, q⟩ := h
    refine ⟨_, pss_one (ps_ret (pe_ix ix_list (pv 1) (pcl D hr (by decide) (by rfl) (pa_cons (pv 0) (pa_cons (pe_callB call_len_seq (by rfl) B.len PySem.boot_len (pa_cons (pv 1) pa_nil)) pa_nil))) (fun _ _ => rfl))), ?_⟩
    walk_at "rd"
    refine ⟨l, _, rfl, .inl (SqL.of hl), ?_⟩
    have p1 : (0 : Int) < (xs.length : Int) := by omega
    refine ⟨a, c, t, _, rfl, S, ht, p1, lg_nat (Nat.lt_of_lt_of_le h1 (Nat.pow_le_pow_right (by decide) (by decide))), fun k H' k0 k1 S' O => ?_⟩
    have hl' : k.toNat < xs.length := by omega
    have e : atI xs k = some xs[k.toNat] := by
      unfold atI
      rw [ixN_in k0 k1]
      exact List.getElem?_eq_getElem hl'
    refine ⟨l, _, _, _, rfl, rfl, SqL.of (O _ _ hl na nc), e, ?_⟩
    exact q _ _ (List.getElem_mem hl') S' O
theorem ok_great {f : Addr} {fd : FuncData} (F : Fun K "_law_great" "_law_great" s_L_great f fd) (B : Blt mg) (D : Cal P w K mg base "_law_draw" 1 ["_law_source_here", "_law_limit"] spDraw fD dD) :
    FnOk P w K mg base CX0 2 f fd ["_law_source_here", "_law_digits"] spGreat := by
  refine F.ok sc_L_great (fun vs H Q E h => ?_) (fun cdv A outer s H vs Q E hr h => ?_)
  · obtain ⟨a, c, t, n, rfl, _⟩ := h
    rfl
  · obtain ⟨a, c, t, n, rfl, S, hn, ht, q⟩ := h
    have nd := sc_L_great.nd
    refine ⟨_, pss_cons (ps_set (i := 2) nd rfl (Or.inl rfl) pe_int)
      (pss_cons (ps_for PassesOwn.never rfl (pi_range1 (by rfl) B.range (pa_cons (pv 1) pa_nil)) (pg_name (i := 3) nd rfl (Or.inl rfl))
        (pss_one (ps_set (i := 2) nd rfl (Or.inl rfl) (pe_op op_add (pe_op op_mul (pv 2) pe_int) (pcl D hr (by decide) (by rfl) (pa_cons (pv 0) (pa_cons pe_int pa_nil)))))))
      (pss_one (ps_ret (pv 2)))), ?_⟩
    walk_at "rd"
    refine ⟨by omega, by omega, ?_⟩
    rw [Int.toNat_natCast]
    refine for_range (fun i σ H' => ∃ (k : Int) (kv : Option V), σ = [some (.ref a), some (.int (n : Int)), some (.int k), kv] ∧ 0 ≤ k ∧ k < 10 ^ i ∧ Src H' a c (t + i) ∧ Oth a c H H') ⟨0, none, rfl, by decide, by decide, S, Oth.refl _ _ _⟩ ?_ ?_
    · rintro i σ H' hi ⟨k, kv, rfl, k0, k1, S', O⟩
      walk_at "rd"
      refine ⟨.inr ⟨by decide, by decide⟩, ?_⟩
      walk_at "rd"
      refine ⟨a, c, t + i, _, rfl, S', by omega, (by show (0 : Int) < 10; decide), (by show (10 : Int).natAbs.log2 < 9000; decide), fun y H2 y0 y1 S2 O2 => ?_⟩
      walk_at "rd"
      have y1' : y < 10 := y1
      refine ⟨_, _, rfl, (by show 0 ≤ k * 10 + y; omega), (by show k * 10 + y < 10 ^ (i + 1); rw [Int.pow_succ]; omega), S2, O.trans O2⟩
    · rintro σ H' ⟨k, kv, rfl, k0, k1, S', O⟩
      walk_at "rd"
      exact q _ _ k0 k1 S' O
theorem mode_of {x : V} (h : x ∈ [V.str "down", .str "up", .str "half_down", .str "half_up", .str "half_even"]) : ∃ m : Str, x = .str m ∧ Mode m := by
  simp only [List.mem_cons, List.not_mem_nil, or_false] at h
  rcases h with h | h | h | h | h
  · exact ⟨_, h, .inl rfl⟩
  · exact ⟨_, h, .inr (.inl rfl)⟩
  · exact ⟨_, h, .inr (.inr (.inl rfl))⟩
  · exact ⟨_, h, .inr (.inr (.inr (.inl rfl)))⟩
  · exact ⟨_, h, .inr (.inr (.inr (.inr rfl)))⟩
end
end HT
namespace HT
open PySem L2
/-! ### the mathematics of a side -/
def goesUp (m : Str) (s q r : Int) : Bool := if m = "down" then false else if m = "up" then decide (0 < r) else if 2 * r = s then (if m = "half_even" then decide (q % 2 = 1) else decide (m = "half_up")) else decide (s < 2 * r)
/-- the figure to which v comes -/
def figM (o s : Int) (m : Str) (v : Int) : Int := if goesUp m s ((v - o) / s) ((v - o) % s) = true then (v - o) / s + 1 else (v - o) / s
def dueM (o s : Int) (m : Str) (v : Int) : Int := o + s * figM o s m v
theorem d_u : ¬ (("up" : Str) = "down") := by decide +kernel
theorem hd_d : ¬ (("half_down" : Str) = "down") := by decide +kernel
theorem hd_u : ¬ (("half_down" : Str) = "up") := by decide +kernel
theorem hu_d : ¬ (("half_up" : Str) = "down") := by decide +kernel
theorem hu_u : ¬ (("half_up" : Str) = "up") := by decide +kernel
theorem he_d : ¬ (("half_even" : Str) = "down") := by decide +kernel
theorem he_u : ¬ (("half_even" : Str) = "up") := by decide +kernel
theorem hd_e : ¬ (("half_down" : Str) = "half_even") := by decide +kernel
theorem hu_e : ¬ (("half_up" : Str) = "half_even") := by decide +kernel
theorem hd_hu : ¬ (("half_down" : Str) = "half_up") := by decide +kernel
theorem he_hu : ¬ (("half_even" : Str) = "half_up") := by decide +kernel
theorem u_hd : ¬ (("up" : Str) = "half_down") := by decide +kernel
theorem hu_hd : ¬ (("half_up" : Str) = "half_down") := by decide +kernel
theorem he_hd : ¬ (("half_even" : Str) = "half_down") := by decide +kernel
theorem go_down (s q r : Int) : goesUp "down" s q r = false := by unfold goesUp; rw [if_pos rfl]
theorem go_up (s q r : Int) : goesUp "up" s q r = decide (0 < r) := by unfold goesUp; rw [if_neg d_u, if_pos rfl]
theorem go_hd (s q r : Int) : goesUp "half_down" s q r = decide (s < 2 * r) := by
  unfold goesUp
  rw [if_neg hd_d, if_neg hd_u, if_neg hd_e, decide_eq_false hd_hu]
  by_cases h : 2 * r = s
  · rw [if_pos h, decide_eq_false (by omega)]
  · rw [if_neg h]
theorem go_hu (s q r : Int) : goesUp "half_up" s q r = decide (s ≤ 2 * r) := by
  unfold goesUp
  rw [if_neg hu_d, if_neg hu_u, if_neg hu_e, decide_eq_true rfl]
  by_cases h : 2 * r = s
  · rw [if_pos h, decide_eq_true (by omega)]
  · rw [if_neg h]
    by_cases g : s < 2 * r
    · rw [decide_eq_true g, decide_eq_true (by omega)]
    · rw [decide_eq_false g, decide_eq_false (by omega)]
theorem go_he (s q r : Int) : goesUp "half_even" s q r = (decide (s < 2 * r) || (decide (2 * r = s) && decide (q % 2 = 1))) := by
  unfold goesUp
  rw [if_neg he_d, if_neg he_u, if_pos rfl]
  by_cases h : 2 * r = s
  · rw [if_pos h, decide_eq_false (show ¬ s < 2 * r by omega), decide_eq_true h]
    rfl
  · rw [if_neg h, decide_eq_false h]
    simp
/-- what is known of a figure -/
structure Fig (o s : Int) (m : Str) (v q r k : Int) : Prop where
  eq : v - o = s * q + r
  r0 : 0 ≤ r
  r1 : r < s
  wh : (goesUp m s q r = true ∧ k = q + 1) ∨ (goesUp m s q r = false ∧ k = q)
theorem fig_of {o s : Int} {m : Str} {v : Int} (hs : 1 ≤ s) : Fig o s m v ((v - o) / s) ((v - o) % s) (figM o s m v) := by
  refine ⟨?_, Int.emod_nonneg _ (by omega), Int.emod_lt_of_pos _ (by omega), ?_⟩
  · have := Int.mul_ediv_add_emod (v - o) s
    omega
  · unfold figM
    cases h : goesUp m s ((v - o) / s) ((v - o) % s)
    · exact .inr ⟨rfl, by simp⟩
    · exact .inl ⟨rfl, by simp⟩
theorem divmod_eq {s q r x : Int} (hs : 1 ≤ s) (h : x = s * q + r) (r0 : 0 ≤ r) (r1 : r < s) : x / s = q ∧ x % s = r := by
  subst h
  constructor
  · rw [Int.add_comm, Int.add_mul_ediv_left _ _ (by omega), Int.ediv_eq_zero_of_lt r0 r1]
    omega
  · rw [Int.add_comm, Int.add_mul_emod_self_left]
    exact Int.emod_eq_of_lt r0 r1
theorem fig_uniq {o s : Int} {m : Str} {v q r k : Int} (hs : 1 ≤ s) (F : Fig o s m v q r k) : figM o s m v = k := by
  obtain ⟨e1, e2⟩ := divmod_eq hs F.eq F.r0 F.r1
  unfold figM
  rw [e1, e2]
  rcases F.wh with ⟨h, e⟩ | ⟨h, e⟩
  · rw [h, if_pos rfl, e]
  · rw [h, if_neg (by decide), e]
/-- going up wants a rest, and not going up a small one -/
theorem go_pos {m : Str} {s q r : Int} (hm : Mode m) (hs : 1 ≤ s) (r0 : 0 ≤ r) (h : goesUp m s q r = true) : 0 < r := by
  rcases hm with e | e | e | e | e <;> subst e
  · rw [go_down] at h; cases h
  · rw [go_up] at h; exact of_decide_eq_true h
  · rw [go_hd] at h; have := of_decide_eq_true h; omega
  · rw [go_hu] at h; have := of_decide_eq_true h; omega
  · rw [go_he, Bool.or_eq_true, Bool.and_eq_true] at h
    rcases h with h | ⟨h, _⟩ <;> have := of_decide_eq_true h <;> omega
theorem due_near {o s : Int} {m : Str} {v : Int} (hm : Mode m) (hs : 1 ≤ s) : dueM o s m v - v < s ∧ v - dueM o s m v < s := by
  have F := fig_of (o := o) (m := m) (v := v) hs
  unfold dueM
  generalize (v - o) / s = q at F
  generalize (v - o) % s = r at F
  obtain ⟨eq, r0, r1, wh⟩ := F
  rcases wh with ⟨h, e⟩ | ⟨h, e⟩
  · have := go_pos hm hs r0 h
    rw [e, Int.mul_add, Int.mul_one]
    generalize s * q = z at eq ⊢
    omega
  · rw [e]
    generalize s * q = z at eq ⊢
    omega
def half (m : Str) : Prop := m = "half_down" ∨ m = "half_up" ∨ m = "half_even"
theorem due_half {o s : Int} {m : Str} {v : Int} (hm : half m) (hs : 1 ≤ s) : 2 * (dueM o s m v - v) ≤ s ∧ 2 * (v - dueM o s m v) ≤ s := by
  have F := fig_of (o := o) (m := m) (v := v) hs
  unfold dueM
  generalize (v - o) / s = q at F
  generalize (v - o) % s = r at F
  obtain ⟨eq, r0, r1, wh⟩ := F
  have hb : (goesUp m s q r = true → s ≤ 2 * r) ∧ (goesUp m s q r = false → 2 * r ≤ s) := by
    rcases hm with e | e | e <;> subst e
    · rw [go_hd]; exact ⟨fun h => by have := of_decide_eq_true h; omega, fun h => by have := of_decide_eq_false h; omega⟩
    · rw [go_hu]; exact ⟨fun h => by have := of_decide_eq_true h; omega, fun h => by have := of_decide_eq_false h; omega⟩
    · rw [go_he]
      refine ⟨fun h => ?_, fun h => ?_⟩
      · rw [Bool.or_eq_true, Bool.and_eq_true] at h
        rcases h with h | ⟨h, _⟩ <;> have := of_decide_eq_true h <;> omega
      · rw [Bool.or_eq_false_iff] at h
        have := of_decide_eq_false h.1
        omega
  rcases wh with ⟨h, e⟩ | ⟨h, e⟩
  · have := hb.1 h
    rw [e, Int.mul_add, Int.mul_one]
    generalize s * q = z at eq ⊢
    omega
  · have := hb.2 h
    rw [e]
    generalize s * q = z at eq ⊢
    omega
theorem go_zero {m : Str} {s q : Int} (hm : Mode m) (hs : 1 ≤ s) : goesUp m s q 0 = false := by
  cases h : goesUp m s q 0 with
  | false => rfl
  | true => exact absurd (go_pos hm hs (Int.le_refl _) h) (by omega)
/-- what is written stands and is written as it is -/
theorem fig_at {o s k : Int} {m : Str} (hm : Mode m) (hs : 1 ≤ s) : figM o s m (o + s * k) = k :=
  fig_uniq (q := k) (r := 0) hs ⟨by omega, Int.le_refl _, by omega, .inr ⟨go_zero hm hs, rfl⟩⟩
theorem stands_at {o s k : Int} : (o + s * k - o) % s = 0 := by
  rw [show o + s * k - o = s * k by omega]
  exact Int.mul_emod_right s k
theorem due_eq {o s : Int} {m : Str} {v : Int} (hm : Mode m) (hs : 1 ≤ s) : (v - o) % s = 0 ↔ dueM o s m v = v := by
  have F := fig_of (o := o) (m := m) (v := v) hs
  unfold dueM
  generalize (v - o) / s = q at F
  generalize (v - o) % s = r at F ⊢
  obtain ⟨eq, r0, r1, wh⟩ := F
  rcases wh with ⟨h, e⟩ | ⟨h, e⟩
  · have := go_pos hm hs r0 h
    rw [e, Int.mul_add, Int.mul_one]
    generalize s * q = z at eq ⊢
    omega
  · rw [e]
    generalize s * q = z at eq ⊢
    omega
theorem go_mono {m : Str} {s q r : Int} (hm : Mode m) (h : goesUp m s q r = true) : goesUp m s q (r + 1) = true := by
  rcases hm with e | e | e | e | e <;> subst e
  · rw [go_down] at h; cases h
  · rw [go_up] at h ⊢; have := of_decide_eq_true h; exact decide_eq_true (by omega)
  · rw [go_hd] at h ⊢; have := of_decide_eq_true h; exact decide_eq_true (by omega)
  · rw [go_hu] at h ⊢; have := of_decide_eq_true h; exact decide_eq_true (by omega)
  · rw [go_he] at h ⊢
    have : s ≤ 2 * r := by
      rw [Bool.or_eq_true, Bool.and_eq_true] at h
      rcases h with h | ⟨h, _⟩ <;> have := of_decide_eq_true h <;> omega
    rw [decide_eq_true (show s < 2 * (r + 1) by omega)]
    rfl
theorem fig_mono {o s : Int} {m : Str} {v : Int} (hm : Mode m) (hs : 1 ≤ s) : figM o s m v ≤ figM o s m (v + 1) := by
  have F := fig_of (o := o) (m := m) (v := v) hs
  generalize (v - o) / s = q at F
  generalize (v - o) % s = r at F
  obtain ⟨eq, r0, r1, wh⟩ := F
  by_cases hr : r + 1 < s
  · cases g : goesUp m s q (r + 1) with
    | true =>
      rw [fig_uniq (v := v + 1) (q := q) (r := r + 1) (k := q + 1) hs ⟨by omega, by omega, hr, .inl ⟨g, rfl⟩⟩]
      rcases wh with ⟨_, e⟩ | ⟨_, e⟩ <;> omega
    | false =>
      rw [fig_uniq (v := v + 1) (q := q) (r := r + 1) (k := q) hs ⟨by omega, by omega, hr, .inr ⟨g, rfl⟩⟩]
      rcases wh with ⟨h, e⟩ | ⟨_, e⟩
      · rw [go_mono hm h] at g
        cases g
      · omega
  · rw [fig_uniq (v := v + 1) (q := q + 1) (r := 0) (k := q + 1) hs ⟨by rw [Int.mul_add, Int.mul_one]; omega, by omega, by omega, .inr ⟨go_zero hm hs, rfl⟩⟩]
    rcases wh with ⟨_, e⟩ | ⟨_, e⟩ <;> omega
theorem due_mono {o s : Int} {m : Str} {v : Int} (hm : Mode m) (hs : 1 ≤ s) : dueM o s m v ≤ dueM o s m (v + 1) := by
  unfold dueM
  have := Int.mul_le_mul_of_nonneg_left (fig_mono (o := o) (v := v) hm hs) (show 0 ≤ s by omega)
  omega
theorem go_two {m : Str} {s q r : Int} (hm : Mode m) : goesUp m s (q + 2) r = goesUp m s q r := by
  rcases hm with e | e | e | e | e <;> subst e
  · rw [go_down, go_down]
  · rw [go_up, go_up]
  · rw [go_hd, go_hd]
  · rw [go_hu, go_hu]
  · rw [go_he, go_he, show (q + 2) % 2 = q % 2 by omega]
theorem due_two {o s : Int} {m : Str} {v : Int} (hm : Mode m) (hs : 1 ≤ s) : dueM o s m (v + s * 2) = dueM o s m v + s * 2 := by
  have F := fig_of (o := o) (m := m) (v := v) hs
  unfold dueM
  generalize (v - o) / s = q at F
  generalize (v - o) % s = r at F
  obtain ⟨eq, r0, r1, wh⟩ := F
  rw [fig_uniq (v := v + s * 2) (q := q + 2) (r := r) (k := figM o s m v + 2) hs ⟨by rw [Int.mul_add]; omega, r0, r1, ?_⟩, Int.mul_add]
  · omega
  · rw [go_two hm]
    rcases wh with ⟨h, e⟩ | ⟨h, e⟩
    · exact .inl ⟨h, by omega⟩
    · exact .inr ⟨h, by omega⟩
/-! ### bounds -/
def Bd (x : Int) : Prop := -2 ^ 1000 < x ∧ x < 2 ^ 1000
theorem div_bd {x s b : Int} (hs : 1 ≤ s) (h0 : -b < x) (h1 : x < b) : -b < x / s ∧ x / s < b := by
  by_cases hx : 0 ≤ x
  · have a := Int.ediv_nonneg hx (show 0 ≤ s by omega)
    have c := Int.ediv_le_self s hx
    omega
  · have a : x ≤ x / s := by
      rw [Int.le_ediv_iff_mul_le (by omega)]
      have := Int.mul_le_mul_of_nonpos_left (show x ≤ 0 by omega) hs
      omega
    have c : x / s < 0 := Int.ediv_neg_of_neg_of_pos (by omega) (by omega)
    omega
end HT
namespace HT
open PySem L2
/-! ### spans -/
def below (m : Str) (s k : Int) : Int := if m = "down" then 0 else if m = "up" then s - 1 else if m = "half_up" ∨ (m = "half_even" ∧ k % 2 = 0) then s / 2 else (s - 1) / 2
def mir (m : Str) : Str := if m = "down" then "up" else if m = "up" then "down" else if m = "half_down" then "half_up" else if m = "half_up" then "half_down" else "half_even"
def lowM (o s : Int) (m : Str) (k : Int) : Int := o + s * k - below m s k
def highM (o s : Int) (m : Str) (k : Int) : Int := o + s * k + below (mir m) s k
theorem mir_d : mir "down" = "up" := by unfold mir; rw [if_pos rfl]
theorem mir_u : mir "up" = "down" := by unfold mir; rw [if_neg d_u, if_pos rfl]
theorem mir_hd : mir "half_down" = "half_up" := by unfold mir; rw [if_neg hd_d, if_neg hd_u, if_pos rfl]
theorem mir_hu : mir "half_up" = "half_down" := by unfold mir; rw [if_neg hu_d, if_neg hu_u, if_neg hu_hd, if_pos rfl]
theorem mir_he : mir "half_even" = "half_even" := by unfold mir; rw [if_neg he_d, if_neg he_u, if_neg he_hd, if_neg he_hu]
theorem be_d (s k : Int) : below "down" s k = 0 := by unfold below; rw [if_pos rfl]
theorem be_u (s k : Int) : below "up" s k = s - 1 := by unfold below; rw [if_neg d_u, if_pos rfl]
theorem be_hd (s k : Int) : below "half_down" s k = (s - 1) / 2 := by
  unfold below
  rw [if_neg hd_d, if_neg hd_u, if_neg]
  rintro (z | ⟨z, _⟩)
  · exact hd_hu z
  · exact hd_e z
theorem be_hu (s k : Int) : below "half_up" s k = s / 2 := by unfold below; rw [if_neg hu_d, if_neg hu_u, if_pos (.inl rfl)]
theorem be_he (s k : Int) : below "half_even" s k = if k % 2 = 0 then s / 2 else (s - 1) / 2 := by
  unfold below
  rw [if_neg he_d, if_neg he_u]
  by_cases h : k % 2 = 0
  · rw [if_pos (.inr ⟨rfl, h⟩), if_pos h]
  · rw [if_neg h, if_neg]
    rintro (z | ⟨_, z⟩)
    · exact he_hu z
    · exact h z
theorem mir_mode {m : Str} (h : Mode m) : Mode (mir m) := by
  rcases h with e | e | e | e | e <;> subst e
  · rw [mir_d]; exact .inr (.inl rfl)
  · rw [mir_u]; exact .inl rfl
  · rw [mir_hd]; exact .inr (.inr (.inr (.inl rfl)))
  · rw [mir_hu]; exact .inr (.inr (.inl rfl))
  · rw [mir_he]; exact .inr (.inr (.inr (.inr rfl)))
theorem below_bd {m : Str} {s k : Int} (h : Mode m) (hs : 1 ≤ s) : 0 ≤ below m s k ∧ below m s k < s := by
  rcases h with e | e | e | e | e <;> subst e
  · rw [be_d]; omega
  · rw [be_u]; omega
  · rw [be_hd]; omega
  · rw [be_hu]; omega
  · rw [be_he]; split <;> omega
theorem up_iff {m : Str} {s q r : Int} (h : Mode m) (r0 : 0 ≤ r) (r1 : r < s) : goesUp m s q r = true ↔ below (mir m) s q < r := by
  rcases h with e | e | e | e | e <;> subst e
  · rw [go_down, mir_d, be_u]
    exact ⟨fun z => (Bool.false_ne_true z).elim, fun z => absurd z (by omega)⟩
  · rw [go_up, mir_u, be_d, decide_eq_true_eq]
  · rw [go_hd, mir_hd, be_hu, decide_eq_true_eq]; omega
  · rw [go_hu, mir_hu, be_hd, decide_eq_true_eq]; omega
  · rw [go_he, mir_he, be_he, Bool.or_eq_true, Bool.and_eq_true, decide_eq_true_eq, decide_eq_true_eq, decide_eq_true_eq]
    split <;> omega
theorem touch {m : Str} {s : Int} (q : Int) (h : Mode m) (hs : 1 ≤ s) : below m s (q + 1) + below (mir m) s q = s - 1 := by
  rcases h with e | e | e | e | e <;> subst e
  · rw [be_d, mir_d, be_u]; omega
  · rw [be_u, mir_u, be_d]; omega
  · rw [be_hd, mir_hd, be_hu]; omega
  · rw [be_hu, mir_hu, be_hd]; omega
  · rw [be_he, mir_he, be_he]; split <;> split <;> omega
theorem mul_lt_step {s q k : Int} (hs : 1 ≤ s) (h : q < k) : s * q + s ≤ s * k := by
  have := Int.mul_le_mul_of_nonneg_left (show q + 1 ≤ k by omega) (show 0 ≤ s by omega)
  rw [Int.mul_add, Int.mul_one] at this
  exact this
/-- a value comes to k just between the ends -/
theorem fig_iff {o s : Int} {m : Str} {v k : Int} (h : Mode m) (hs : 1 ≤ s) : figM o s m v = k ↔ lowM o s m k ≤ v ∧ v ≤ highM o s m k := by
  have F := fig_of (o := o) (m := m) (v := v) hs
  generalize (v - o) / s = q at F
  generalize (v - o) % s = r at F
  generalize figM o s m v = f at F ⊢
  obtain ⟨eq, r0, r1, wh⟩ := F
  have ui := up_iff (q := q) h r0 r1
  have t1 := touch (k - 1) h hs
  rw [show k - 1 + 1 = k by omega] at t1
  have bk := below_bd (k := k) (mir_mode h) hs
  have bk1 := below_bd (k := k - 1) (mir_mode h) hs
  have bq := below_bd (k := q) (mir_mode h) hs
  unfold lowM highM
  have hf : (f = q + 1 ∧ below (mir m) s q < r) ∨ (f = q ∧ r ≤ below (mir m) s q) := by
    rcases wh with ⟨g, e⟩ | ⟨g, e⟩
    · exact .inl ⟨e, ui.mp g⟩
    · refine .inr ⟨e, ?_⟩
      have : ¬ below (mir m) s q < r := fun z => by rw [ui.mpr z] at g; cases g
      omega
  rcases Int.lt_trichotomy q k with hq | hq | hq
  · rcases Int.lt_trichotomy (q + 1) k with hq1 | hq1 | hq1
    · have := mul_lt_step hs (show q + 1 < k from hq1)
      rw [Int.mul_add, Int.mul_one] at this
      generalize s * q = a at *
      generalize s * k = b at *
      constructor
      · intro z; omega
      · intro z; omega
    · have e : q = k - 1 := by omega
      subst e
      have : s * (k - 1) = s * k - s := by rw [Int.mul_sub, Int.mul_one]
      generalize s * (k - 1) = a at *
      generalize s * k = b at *
      constructor
      · intro z; omega
      · intro z; omega
    · omega
  · subst hq
    generalize s * q = a at *
    constructor
    · intro z; omega
    · intro z; omega
  · have := mul_lt_step hs hq
    generalize s * q = a at *
    generalize s * k = b at *
    constructor
    · intro z; omega
    · intro z; omega
theorem low_high {o s : Int} {m : Str} {k : Int} (h : Mode m) (hs : 1 ≤ s) : lowM o s m k ≤ o + s * k ∧ o + s * k ≤ highM o s m k := by
  have a := below_bd (k := k) h hs
  have b := below_bd (k := k) (mir_mode h) hs
  unfold lowM highM
  omega
theorem low_next {o s : Int} {m : Str} (k : Int) (h : Mode m) (hs : 1 ≤ s) : lowM o s m (k + 1) = highM o s m k + 1 := by
  have := touch k h hs
  unfold lowM highM
  rw [Int.mul_add, Int.mul_one]
  omega
theorem high_prev {o s : Int} {m : Str} (k : Int) (h : Mode m) (hs : 1 ≤ s) : highM o s m (k - 1) = lowM o s m k - 1 := by
  have := low_next (o := o) (k - 1) h hs
  rw [show k - 1 + 1 = k by omega] at this
  omega
theorem fig_low {o s : Int} {m : Str} (k : Int) (h : Mode m) (hs : 1 ≤ s) : figM o s m (lowM o s m k) = k := by
  have a := low_high (o := o) (k := k) h hs
  exact (fig_iff h hs).mpr ⟨by omega, by omega⟩
theorem fig_high {o s : Int} {m : Str} (k : Int) (h : Mode m) (hs : 1 ≤ s) : figM o s m (highM o s m k) = k := by
  have a := low_high (o := o) (k := k) h hs
  exact (fig_iff h hs).mpr ⟨by omega, by omega⟩
theorem fig_low1 {o s : Int} {m : Str} (k : Int) (h : Mode m) (hs : 1 ≤ s) : figM o s m (lowM o s m k - 1) = k - 1 := by
  rw [← high_prev k h hs]
  exact fig_high _ h hs
theorem fig_high1 {o s : Int} {m : Str} (k : Int) (h : Mode m) (hs : 1 ≤ s) : figM o s m (highM o s m k + 1) = k + 1 := by
  rw [← low_next k h hs]
  exact fig_low _ h hs
/-- the figure of the least standing value that is not less -/
def ceilM (o s v : Int) : Int := -((o - v) / s)
theorem ceil_eq {o s v : Int} (hs : 1 ≤ s) : v ≤ o + s * ceilM o s v ∧ o + s * (ceilM o s v - 1) < v := by
  have a := Int.mul_ediv_add_emod (o - v) s
  have b := Int.emod_nonneg (o - v) (show s ≠ 0 by omega)
  have c := Int.emod_lt_of_pos (o - v) (show 0 < s by omega)
  unfold ceilM
  rw [Int.mul_sub, Int.mul_one, Int.mul_neg]
  omega
def backM (o s : Int) (m : Str) (v : Int) : Int := lowM o s m (ceilM o s v)
theorem back_ge {o s : Int} {m : Str} {v : Int} (h : Mode m) (hs : 1 ≤ s) : v ≤ dueM o s m (backM o s m v) := by
  unfold dueM backM
  rw [fig_low _ h hs]
  exact (ceil_eq hs).1
theorem back_lt {o s : Int} {m : Str} {v : Int} (h : Mode m) (hs : 1 ≤ s) : dueM o s m (backM o s m v - 1) < v := by
  unfold dueM backM
  rw [fig_low1 _ h hs]
  exact (ceil_eq hs).2
theorem mul_b {s k : Int} (s0 : 1 ≤ s) (s1 : s ≤ 10 ^ 30) (h : -2 ^ 720 < k ∧ k < 2 ^ 720) : -2 ^ 820 < s * k ∧ s * k < 2 ^ 820 := by
  have h1 : (s * k).natAbs < 2 ^ (100 + 720) := wide_lt (a := 100) (b := 720) (by omega) (by omega)
  omega
end HT
namespace HT
open PySem L2
theorem lg_big {n : Int} (h0 : 0 ≤ n) (h : n < 2 ^ 200) : n.natAbs.log2 < 9000 := by
  obtain ⟨m, rfl⟩ := Int.eq_ofNat_of_zero_le h0
  exact lg_nat (by omega)
def modesV : List V := [.str "down", .str "up", .str "half_down", .str "half_up", .str "half_even"]
/-- the further names that the text of sides does not bind, and its table of modes -/
structure SideT (K : PySem.W.Frag) (mg : Str → Option Value) (aM : Addr) : Prop where
  isi : mg "isinstance" = none
  int : mg "int" = none
  bool : mg "bool" = none
  tuple : mg "tuple" = none
  len : mg "len" = none
  dm : mg "divmod" = none
  gM : mg "MODES" = some (.ref aM)
  tM : ∀ H, SqT K H aM modesV
def spIsInt : Sp := fun vs H Q _ => ∃ i : Int, vs = [.int i] ∧ Q (.bl true) H
def spBetween : Sp := fun vs H Q _ => ∃ i a b : Int, vs = [.int i, .int a, .int b] ∧ Q (.bl (decide (a ≤ i) && decide (i ≤ b))) H
def spCheckValue : Sp := fun vs H Q _ => ∃ i : Int, vs = [.int i] ∧ Q .non H
def spCheckSide : Sp := fun vs H Q _ => ∃ (p : Addr) (o s : Int) (m : Str), vs = [.ref p] ∧ H p = some (sideV o s m) ∧ SideP o s m ∧ Q .non H
def spGo : Sp := fun vs H Q _ => ∃ (m : Str) (s q r : Int), vs = [.str m, .int s, .int q, .int r] ∧ Q (.bl (goesUp m s q r)) H
def spSV (f : Int → Int → Str → Int → V) : Sp := fun vs H Q _ => ∃ (p : Addr) (o s : Int) (m : Str) (v : Int), vs = [.ref p, .int v] ∧ H p = some (sideV o s m) ∧ SideP o s m ∧ Bd v ∧ ∀ H', Same H H' → Q (f o s m v) H'
def spFig : Sp := spSV fun o s m v => .int (figM o s m v)
def spDue : Sp := spSV fun o s m v => .int (dueM o s m v)
def spStands : Sp := spSV fun o s m v => .bl (decide ((v - o) % s = 0))
theorem dec_int (a b : Int) : decide (V.int a = V.int b) = decide (a = b) := by
  by_cases h : a = b
  · rw [decide_eq_true h, h, decide_eq_true rfl]
  · rw [decide_eq_false h, decide_eq_false (fun z => h (V.int.inj z))]
theorem dec_str (a b : Str) : decide (V.str a = V.str b) = decide (a = b) := by
  by_cases h : a = b
  · rw [decide_eq_true h, h, decide_eq_true rfl]
  · rw [decide_eq_false h, decide_eq_false (fun z => h (V.str.inj z))]
theorem dec_bl (a b : Bool) : decide (V.bl a = V.bl b) = decide (a = b) := by
  by_cases h : a = b
  · rw [decide_eq_true h, h, decide_eq_true rfl]
  · rw [decide_eq_false h, decide_eq_false (fun z => h (V.bl.inj z))]
theorem str_t {a b : Str} (h : decide (V.str a = V.str b) = true) : a = b := V.str.inj (of_decide_eq_true h)
theorem str_f {a b : Str} (h : ¬ decide (V.str a = V.str b) = true) : ¬ a = b := fun z => h (decide_eq_true (congrArg V.str z))
theorem int_t {a b : Int} (h : decide (V.int a = V.int b) = true) : a = b := V.int.inj (of_decide_eq_true h)
theorem int_f {a b : Int} (h : ¬ decide (V.int a = V.int b) = true) : ¬ a = b := fun z => h (decide_eq_true (congrArg V.int z))
theorem not_t {b : Bool} (h : (!b) = true) : ¬ b = true := by cases b <;> simp_all
theorem not_f {b : Bool} (h : ¬ (!b) = true) : b = true := by cases b <;> simp_all
theorem mode_in {m : Str} (h : Mode m) : inV (.str m) modesV = true := by
  rcases h with e | e | e | e | e <;> subst e <;> decide +kernel
theorem divp {o v s : Int} (hs : 1 ≤ s) (ho : -10 ^ 40 ≤ o ∧ o ≤ 10 ^ 40) (hv : Bd v) : CDivP (v - o) s := by
  refine divp_ok (by omega) ?_
  have h : (v - o).natAbs < 2 ^ 1010 := by
    have h1 := hv.1
    have h2 := hv.2
    omega
  have h2 : Builtin.Int.intBits (v - o) ≤ 1011 := by
    unfold Builtin.Int.intBits
    split
    · omega
    · have := PySem.Flt.log2_lt_of (by decide) h
      omega
  omega
theorem mulW {i j : Int} (hi : -2 ^ 1010 < i ∧ i < 2 ^ 1010) (hj : -2 ^ 1010 < j ∧ j < 2 ^ 1010) : CMulW i j := wide_mul (a := 1010) (b := 1010) (by omega) (by omega) (by decide) (by decide) (by decide)
theorem fig_bd {o s : Int} {m : Str} {v : Int} (S : SideP o s m) (hv : Bd v) : -2 ^ 1001 < figM o s m v ∧ figM o s m v < 2 ^ 1001 := by
  obtain ⟨h1, h2⟩ := hv
  obtain ⟨o0, o1, s0, s1, _⟩ := S
  have := div_bd (x := v - o) (b := 2 ^ 1000 + 10 ^ 40) s0 (by omega) (by omega)
  unfold figM
  split <;> omega
section
variable {P : Program} {w : World} {K : PySem.W.Frag} {mg : Str → Option Value} {base : Heap} {aM fI fB fV fC fG fF : Addr} {dI dB dV dC dG dF : FuncData}
theorem ok_is_int {f : Addr} {fd : FuncData} (F : Fun K "is_int" "is_int" s_is_int f fd) (T : SideT K mg aM) : FnOk P w K mg base CX0 1 f fd ["thing"] spIsInt := by
  refine F.ok sc_is_int (fun vs H Q E h => ?_) (fun cdv A outer s H vs Q E hr h => ?_)
  · obtain ⟨i, rfl, _⟩ := h
    rfl
  · obtain ⟨i, rfl, q⟩ := h
    refine ⟨_, pss_one (ps_ret (pe_and (pe_callB call_isi (by rfl) T.isi (by decide +kernel) (pa_cons (pv 0) (pa_cons (pe_bltn (v := .ty "int") (by rfl) T.int (by decide +kernel) rfl) pa_nil)))
      (pe_one (pe_not (pe_callB call_isi (by rfl) T.isi (by decide +kernel) (pa_cons (pv 0) (pa_cons (pe_bltn (v := .ty "bool") (by rfl) T.bool (by decide +kernel) rfl) pa_nil))))))), ?_⟩
    walk_at "rd"
    refine ⟨_, _, _, _, _, rfl, .ty "int", .base (.int _), kit_ty (r := true) (by decide +kernel), ?_⟩
    walk_at "rd"
    refine ⟨_, _, _, _, _, rfl, .ty "bool", .base (.int _), kit_ty (r := false) (by decide +kernel), ?_⟩
    walk_at "rd"
    exact q
theorem ok_between {f : Addr} {fd : FuncData} (F : Fun K "is_int_between" "is_int_between" s_is_int_between f fd) (I : Cal P w K mg base "is_int" 1 ["thing"] spIsInt fI dI) : FnOk P w K mg base CX0 2 f fd ["thing", "least", "most"] spBetween := by
  refine F.ok sc_is_int_between (fun vs H Q E h => ?_) (fun cdv A outer s H vs Q E hr h => ?_)
  · obtain ⟨i, a, b, rfl, _⟩ := h
    rfl
  · obtain ⟨i, a, b, rfl, q⟩ := h
    refine ⟨_, pss_one (ps_ret (pe_and (pcl I hr (by decide) (by rfl) (pa_cons (pv 0) pa_nil)) (pe_one (pe_chain op_le op_le (pv 1) (pv 0) (pv 2))))), ?_⟩
    walk_at "rd"
    refine ite2 (fun h => ?_) (fun h => ?_)
    · walk_at "rd"
      rw [decide_eq_true (of_decide_eq_true h)] at q
      exact q
    · rw [decide_eq_false (of_decide_eq_false (by simpa using h))] at q
      exact q
theorem ok_check_value {f : Addr} {fd : FuncData} (F : Fun K "check_value" "check_value" s_check_value f fd) (I : Cal P w K mg base "is_int" 1 ["thing"] spIsInt fI dI) : FnOk P w K mg base CX0 2 f fd ["value"] spCheckValue := by
  refine F.ok sc_check_value (fun vs H Q E h => ?_) (fun cdv A outer s H vs Q E hr h => ?_)
  · obtain ⟨i, rfl, _⟩ := h
    rfl
  · obtain ⟨i, rfl, q⟩ := h
    refine ⟨_, pss_one (ps_if (pt_not (pt_val (pcl I hr (by decide) (by rfl) (pa_cons (pv 0) pa_nil)))) (pss_one ps_never) pss_nil), ?_⟩
    walk_at "rd"
    exact q
theorem ok_check_side {f : Addr} {fd : FuncData} (F : Fun K "check_side" "check_side" s_check_side f fd) (T : SideT K mg aM) (B : Cal P w K mg base "is_int_between" 2 ["thing", "least", "most"] spBetween fB dB) : FnOk P w K mg base CX0 3 f fd ["side"] spCheckSide := by
  refine F.ok sc_check_side (fun vs H Q E h => ?_) (fun cdv A outer s H vs Q E hr h => ?_)
  · obtain ⟨p, o, s, m, rfl, _⟩ := h
    rfl
  · obtain ⟨p, o, s, m, rfl, hp, S, q⟩ := h
    have nd := sc_check_side.nd
    refine ⟨_, pss_cons (ps_if (PW.pt (pw_or (pt_not (pt_val (pe_callB call_isi (by rfl) T.isi (by decide +kernel) (pa_cons (pv 0) (pa_cons (pe_bltn (v := .ty "tuple") (by rfl) T.tuple (by decide +kernel) rfl) pa_nil)))))
        (pw_or1 (pt_cmpR op_ne (pe_callB call_len_seq (by rfl) T.len PySem.boot_len (pa_cons (pv 0) pa_nil)) pe_int (nomark _))))) (pss_one ps_never) pss_nil)
      (pss_cons (ps_asg (pv 0) (pg_tup (by rfl) (pgs_cons (pg_name (i := 1) nd rfl (Or.inl rfl)) (pgs_cons (pg_name (i := 2) nd rfl (Or.inl rfl)) (pgs_cons (pg_name (i := 3) nd rfl (Or.inl rfl)) pgs_nil)))))
      (pss_cons (ps_if (pt_not (pt_val (pcl B hr (by decide) (by rfl) (pa_cons (pv 1) (pa_cons (pe_un un_neg (pe_op op_pow pe_int pe_int)) (pa_cons (pe_op op_pow pe_int pe_int) pa_nil)))))) (pss_one ps_never) pss_nil)
      (pss_cons (ps_if (pt_not (pt_val (pcl B hr (by decide) (by rfl) (pa_cons (pv 2) (pa_cons pe_int (pa_cons (pe_op op_pow pe_int pe_int) pa_nil)))))) (pss_one ps_never) pss_nil)
      (pss_one (ps_if (pt_cmpR op_notIn_seq (pv 3) (pe_glob (v := .ref aM) (by rfl) T.gM rfl) (by rfl)) (pss_one ps_never) pss_nil))))), ?_⟩
    walk_at "rd"
    refine ⟨_, _, _, _, _, rfl, .ty "tuple", .base (.tup hp), kit_ty (r := true) (by decide +kernel), ?_⟩
    walk_at "rd"
    refine ⟨p, _, rfl, .inr (SqT.of hp), rfl, ?_⟩
    walk_at "rd"
    refine ⟨p, _, rfl, SqT.of hp, rfl, _, _, rfl, _, _, rfl, _, _, rfl, rfl, ?_⟩
    walk_at "rd"
    refine ⟨⟨by decide, by decide, by decide⟩, ?_⟩
    walk_at "rd"
    refine ⟨⟨by decide, by decide, by decide⟩, _, _, _, rfl, ?_⟩
    have e1 : (decide (-(10 : Int) ^ (40 : Int).toNat ≤ o) && decide (o ≤ (10 : Int) ^ (40 : Int).toNat)) = true := by
      rw [decide_eq_true (show -(10 : Int) ^ (40 : Int).toNat ≤ o from S.o0), decide_eq_true (show o ≤ (10 : Int) ^ (40 : Int).toNat from S.o1)]
      rfl
    refine ⟨_, rfl, ?_⟩
    refine ite2 (fun h => (not_t h e1).elim) (fun _ => ?_)
    walk_at "rd"
    refine ⟨⟨by decide, by decide, by decide⟩, _, _, _, rfl, ?_⟩
    have e2 : (decide ((1 : Int) ≤ s) && decide (s ≤ (10 : Int) ^ (30 : Int).toNat)) = true := by
      rw [decide_eq_true S.s0, decide_eq_true (show s ≤ (10 : Int) ^ (30 : Int).toNat from S.s1)]
      rfl
    refine ⟨_, rfl, ?_⟩
    refine ite2 (fun h => (not_t h e2).elim) (fun _ => ?_)
    walk_at "rd"
    refine ⟨aM, _, rfl, .inr (T.tM H), rfl, by decide, ?_⟩
    walk_at "rd"
    refine ite2 (fun h => (not_t h (mode_in S.md)).elim) (fun _ => ?_)
    exact q
end
end HT
namespace HT
open PySem L2
section
variable {P : Program} {w : World} {K : PySem.W.Frag} {mg : Str → Option Value} {base : Heap} {aM fI fB fV fC fG fF : Addr} {dI dB dV dC dG dF : FuncData}
theorem ok_goes_up {f : Addr} {fd : FuncData} (F : Fun K "_goes_up" "_goes_up" s_goes_up f fd) : FnOk P w K mg base CX0 1 f fd ["mode", "step", "figure", "rest"] spGo := by
  refine F.ok sc_goes_up (fun vs H Q E h => ?_) (fun cdv A outer s H vs Q E hr h => ?_)
  · obtain ⟨m, s, q, r, rfl, _⟩ := h
    rfl
  · obtain ⟨m, s, fg, r, rfl, q⟩ := h
    refine ⟨_, pss_cons (ps_if (pt_cmpR op_eq (pv 0) pe_str (nomark _)) (pss_one (ps_ret pe_bl)) pss_nil)
      (pss_cons (ps_if (pt_cmpR op_eq (pv 0) pe_str (nomark _)) (pss_one (ps_ret (pe_cmpR op_gt (pv 3) pe_int (nomark _)))) pss_nil)
      (pss_cons (ps_if (pt_cmpR op_ne (pe_op op_mul pe_int (pv 3)) (pv 1) (nomark _)) (pss_one (ps_ret (pe_cmpR op_gt (pe_op op_mul pe_int (pv 3)) (pv 1) (nomark _)))) pss_nil)
      (pss_cons (ps_if (pt_cmpR op_eq (pv 0) pe_str (nomark _)) (pss_one (ps_ret (pe_cmpR op_eq (pe_op op_mod (pv 2) pe_int) pe_int (nomark _)))) pss_nil)
      (pss_one (ps_ret (pe_cmpR op_eq (pv 0) pe_str (nomark _))))))), ?_⟩
    unfold goesUp at q
    walk_at "rd"
    refine ⟨rfl, ?_⟩
    walk_at "rd"
    refine ite2 (fun h => ?_) (fun h1 => ?_)
    · rw [if_pos (str_t h)] at q
      exact q
    rw [if_neg (str_f h1)] at q
    walk_at "rd"
    refine ⟨rfl, ?_⟩
    walk_at "rd"
    refine ite2 (fun h => ?_) (fun h2 => ?_)
    · rw [if_pos (str_t h)] at q
      walk_at "rd"
      exact q
    rw [if_neg (str_f h2)] at q
    walk_at "rd"
    refine ⟨.inl ⟨by decide, by decide⟩, ?_⟩
    walk_at "rd"
    refine ⟨rfl, ?_⟩
    walk_at "rd"
    refine ite2 (fun h => ?_) (fun h3 => ?_)
    · rw [if_neg (int_f (not_t h))] at q
      walk_at "rd"
      refine ⟨.inl ⟨by decide, by decide⟩, ?_⟩
      walk_at "rd"
      exact q
    rw [if_pos (int_t (not_f h3))] at q
    walk_at "rd"
    refine ⟨rfl, ?_⟩
    walk_at "rd"
    refine ite2 (fun h => ?_) (fun h4 => ?_)
    · rw [if_pos (str_t h), ← dec_int] at q
      walk_at "rd"
      refine ⟨(by show (0 : Int) < 2; decide), ?_⟩
      walk_at "rd"
      exact ⟨rfl, q⟩
    · rw [if_neg (str_f h4), ← dec_str] at q
      walk_at "rd"
      exact ⟨rfl, q⟩
theorem ok_figure {f : Addr} {fd : FuncData} (F : Fun K "_figure" "_figure" s_figure f fd) (T : SideT K mg aM)
    (G : Cal P w K mg base "_goes_up" 1 ["mode", "step", "figure", "rest"] spGo fG dG) : FnOk P w K mg base CX0 2 f fd ["side", "value"] spFig := by
  refine F.ok sc_figure (fun vs H Q E h => ?_) (fun cdv A outer s H vs Q E hr h => ?_)
  · obtain ⟨p, o, s, m, v, rfl, _⟩ := h
    rfl
  · obtain ⟨p, o, s, m, v, rfl, hp, S, hv, q⟩ := h
    have nd := sc_figure.nd
    refine ⟨_, pss_cons (ps_asg (pv 0) (pg_tup (by rfl) (pgs_cons (pg_name (i := 2) nd rfl (Or.inl rfl)) (pgs_cons (pg_name (i := 3) nd rfl (Or.inl rfl)) (pgs_cons (pg_name (i := 4) nd rfl (Or.inl rfl)) pgs_nil)))))
      (pss_cons (ps_asg (pe_callB call_divmodW (by rfl) T.dm (by decide +kernel) (pa_cons (pe_op op_sub (pv 1) (pv 2)) (pa_cons (pv 3) pa_nil))) (pg_tup (by rfl) (pgs_cons (pg_name (i := 5) nd rfl (Or.inl rfl)) (pgs_cons (pg_name (i := 6) nd rfl (Or.inl rfl)) pgs_nil))))
      (pss_cons (ps_if (pt_val (pcl G hr (by decide) (by rfl) (pa_cons (pv 4) (pa_cons (pv 3) (pa_cons (pv 5) (pa_cons (pv 6) pa_nil)))))) (pss_one (ps_ret (pe_op op_add (pv 5) pe_int))) pss_nil)
      (pss_one (ps_ret (pv 5))))), ?_⟩
    walk_at "rd"
    refine ⟨p, _, rfl, SqT.of hp, rfl, _, _, rfl, _, _, rfl, _, _, rfl, rfl, ?_⟩
    walk_at "rd"
    refine ⟨_, _, rfl, divp S.s0 ⟨S.o0, S.o1⟩ hv, fun d nd' => ?_⟩
    refine ⟨d, _, rfl, SqT.of upd_same, rfl, _, _, rfl, _, _, rfl, rfl, ?_⟩
    have sm : Same H (upd H d (.tup [.int ((v - o) / s), .int ((v - o) % s)])) := fun b u z => by rw [upd_ne (ne_of_none z nd')]; exact z
    have q' : Q (.int (figM o s m v)) (upd H d (.tup [.int ((v - o) / s), .int ((v - o) % s)])) := q _ sm
    unfold figM at q'
    walk_at "rd"
    refine ⟨_, _, _, _, rfl, ?_⟩
    walk_at "rd"
    refine ite2 (fun h => ?_) (fun h => ?_)
    · rw [if_pos h] at q'
      walk_at "rd"
      exact q'
    · rw [if_neg h] at q'
      walk_at "rd"
      exact q'
end
end HT
namespace HT
open PySem L2
section
variable {P : Program} {w : World} {K : PySem.W.Frag} {mg : Str → Option Value} {base : Heap} {fF : Addr} {dF : FuncData}
theorem ok_written {f : Addr} {fd : FuncData} (F : Fun K "written" "written" s_written f fd) (G : Cal P w K mg base "_figure" 2 ["side", "value"] spFig fF dF) : FnOk P w K mg base CX0 3 f fd ["side", "value"] spDue := by
  refine F.ok sc_written (fun vs H Q E h => ?_) (fun cdv A outer s H vs Q E hr h => ?_)
  · obtain ⟨p, o, s, m, v, rfl, _⟩ := h
    rfl
  · obtain ⟨p, o, s, m, v, rfl, hp, S, hv, q⟩ := h
    have nd := sc_written.nd
    refine ⟨_, pss_cons (ps_asg (pv 0) (pg_tup (by rfl) (pgs_cons (pg_name (i := 2) nd rfl (Or.inl rfl)) (pgs_cons (pg_name (i := 3) nd rfl (Or.inl rfl)) (pgs_cons (pg_name (i := 4) nd rfl (Or.inl rfl)) pgs_nil)))))
      (pss_one (ps_ret (pe_op op_add (pv 2) (pe_op op_mulW (pv 3) (pcl G hr (by decide) (by rfl) (pa_cons (pv 0) (pa_cons (pv 1) pa_nil))))))), ?_⟩
    walk_at "rd"
    refine ⟨p, _, rfl, SqT.of hp, rfl, _, _, rfl, _, _, rfl, _, _, rfl, rfl, ?_⟩
    walk_at "rd"
    refine ⟨p, o, s, m, v, rfl, hp, S, hv, fun H' sm => ?_⟩
    walk_at "rd"
    have b1 := fig_bd S hv
    have b2 := S.s0
    have b3 := S.s1
    refine ⟨mulW (by omega) (by omega), ?_⟩
    walk_at "rd"
    exact q H' sm
end
end HT
namespace HT
open PySem L2
section
variable {P : Program} {w : World} {K : PySem.W.Frag} {mg : Str → Option Value} {base : Heap} {fC fV fF : Addr} {dC dV dF : FuncData}
theorem ok_handed {f : Addr} {fd : FuncData} (F : Fun K "handed" "handed" s_handed f fd) (C : Cal P w K mg base "check_side" 3 ["side"] spCheckSide fC dC) (V' : Cal P w K mg base "check_value" 2 ["value"] spCheckValue fV dV)
    (G : Cal P w K mg base "written" 3 ["side", "value"] spDue fF dF) : FnOk P w K mg base CX0 5 f fd ["side", "value"] spDue := by
  refine F.ok sc_handed (fun vs H Q E h => ?_) (fun cdv A outer s H vs Q E hr h => ?_)
  · obtain ⟨p, o, s, m, v, rfl, _⟩ := h
    rfl
  · obtain ⟨p, o, s, m, v, rfl, hp, S, hv, q⟩ := h
    refine ⟨_, pss_cons (ps_expr (pcl C hr (by decide) (by rfl) (pa_cons (pv 0) pa_nil)))
      (pss_cons (ps_expr (pcl V' hr (by decide) (by rfl) (pa_cons (pv 1) pa_nil)))
      (pss_one (ps_ret (pcl G hr (by decide) (by rfl) (pa_cons (pv 0) (pa_cons (pv 1) pa_nil)))))), ?_⟩
    walk_at "rd"
    refine ⟨p, o, s, m, rfl, hp, S, ?_⟩
    walk_at "rd"
    exact ⟨p, o, s, m, v, rfl, hp, S, hv, q⟩
end
end HT
namespace HT
open PySem L2
/-! ### mirrors and forms -/
theorem mir_mir {m : Str} (h : Mode m) : mir (mir m) = m := by
  rcases h with e | e | e | e | e <;> subst e
  · rw [mir_d, mir_u]
  · rw [mir_u, mir_d]
  · rw [mir_hd, mir_hu]
  · rw [mir_hu, mir_hd]
  · rw [mir_he, mir_he]
theorem below_neg {m : Str} {s : Int} (k : Int) (h : Mode m) : below m s (-k) = below m s k := by
  rcases h with e | e | e | e | e <;> subst e
  · rw [be_d, be_d]
  · rw [be_u, be_u]
  · rw [be_hd, be_hd]
  · rw [be_hu, be_hu]
  · rw [be_he, be_he]; split <;> split <;> omega
theorem due_mirror {o s : Int} {m : Str} {v : Int} (h : Mode m) (hs : 1 ≤ s) : dueM (-o) s (mir m) (-v) = -dueM o s m v := by
  have f := (fig_iff (o := o) (v := v) (k := figM o s m v) h hs).mp rfl
  generalize figM o s m v = k at f
  have e : figM o s m v = k := (fig_iff h hs).mpr f
  have e2 : figM (-o) s (mir m) (-v) = -k := by
    refine (fig_iff (mir_mode h) hs).mpr ?_
    unfold lowM highM at f ⊢
    rw [mir_mir h, below_neg k h, below_neg k (mir_mode h), Int.mul_neg]
    omega
  unfold dueM
  rw [e, e2, Int.mul_neg]
  omega
def firstM (s : Int) (m : Str) : Str := if s = 1 then "down" else if s = 2 ∧ m = "half_down" then "down" else if s = 2 ∧ m = "half_up" then "up" else if s % 2 = 1 ∧ (m = "half_up" ∨ m = "half_even") then "half_down" else m
def formO (o s : Int) (f : Str) : Int := if f = "half_even" then o % (2 * s) else o % s
def ordM (m : Str) : Nat := if m = "down" then 0 else if m = "up" then 1 else if m = "half_down" then 2 else if m = "half_up" then 3 else 4
theorem ord_d : ordM "down" = 0 := by unfold ordM; rw [if_pos rfl]
theorem ord_u : ordM "up" = 1 := by unfold ordM; rw [if_neg d_u, if_pos rfl]
theorem ord_hd : ordM "half_down" = 2 := by unfold ordM; rw [if_neg hd_d, if_neg hd_u, if_pos rfl]
theorem ord_hu : ordM "half_up" = 3 := by unfold ordM; rw [if_neg hu_d, if_neg hu_u, if_neg hu_hd, if_pos rfl]
theorem ord_he : ordM "half_even" = 4 := by unfold ordM; rw [if_neg he_d, if_neg he_u, if_neg he_hd, if_neg he_hu]
theorem u_hu : ¬ (("up" : Str) = "half_up") := by decide +kernel
theorem u_he : ¬ (("up" : Str) = "half_even") := by decide +kernel
theorem dn_hd : ¬ (("down" : Str) = "half_down") := by decide +kernel
theorem dn_hu : ¬ (("down" : Str) = "half_up") := by decide +kernel
theorem dn_he : ¬ (("down" : Str) = "half_even") := by decide +kernel
theorem dn_u : ¬ (("down" : Str) = "up") := by decide +kernel
/-- the first modes, mode by mode -/
theorem fi_one (m : Str) : firstM 1 m = "down" := by unfold firstM; rw [if_pos rfl]
theorem fi_d (s : Int) : firstM s "down" = "down" := by
  unfold firstM
  by_cases h : s = 1
  · rw [if_pos h]
  · rw [if_neg h, if_neg (fun z => dn_hd z.2), if_neg (fun z => dn_hu z.2), if_neg (fun z => z.2.elim dn_hu dn_he)]
theorem fi_u {s : Int} (h : s ≠ 1) : firstM s "up" = "up" := by
  unfold firstM
  rw [if_neg h, if_neg (fun z => u_hd z.2), if_neg (fun z => u_hu z.2), if_neg (fun z => z.2.elim u_hu u_he)]
theorem fi_hd2 : firstM 2 "half_down" = "down" := by unfold firstM; rw [if_neg (by decide), if_pos ⟨rfl, rfl⟩]
theorem fi_hd {s : Int} (h : s ≠ 1) (h2 : s ≠ 2) : firstM s "half_down" = "half_down" := by
  unfold firstM
  rw [if_neg h, if_neg (fun z => h2 z.1), if_neg (fun z => h2 z.1), if_neg (fun z => z.2.elim hd_hu hd_e)]
theorem fi_hu2 : firstM 2 "half_up" = "up" := by unfold firstM; rw [if_neg (by decide), if_neg (fun z => hu_hd z.2), if_pos ⟨rfl, rfl⟩]
theorem fi_huO {s : Int} (h : s ≠ 1) (h2 : s % 2 = 1) : firstM s "half_up" = "half_down" := by
  unfold firstM
  rw [if_neg h, if_neg (fun z => hu_hd z.2), if_neg (fun z => by have := z.1; omega), if_pos ⟨h2, .inl rfl⟩]
theorem fi_huE {s : Int} (h : s ≠ 2) (h2 : s % 2 = 0) : firstM s "half_up" = "half_up" := by
  unfold firstM
  rw [if_neg (by omega), if_neg (fun z => hu_hd z.2), if_neg (fun z => h z.1), if_neg (fun z => by have := z.1; omega)]
theorem fi_heO {s : Int} (h : s ≠ 1) (h2 : s % 2 = 1) : firstM s "half_even" = "half_down" := by
  unfold firstM
  rw [if_neg h, if_neg (fun z => he_hd z.2), if_neg (fun z => he_hu z.2), if_pos ⟨h2, .inr rfl⟩]
theorem fi_heE {s : Int} (h2 : s % 2 = 0) : firstM s "half_even" = "half_even" := by
  unfold firstM
  rw [if_neg (by omega), if_neg (fun z => he_hd z.2), if_neg (fun z => he_hu z.2), if_neg (fun z => by have := z.1; omega)]
/-- what is known of the first mode -/
structure FirstP (s : Int) (m : Str) : Prop where
  md : Mode (firstM s m)
  id : firstM s (firstM s m) = firstM s m
  od : ordM (firstM s m) ≤ ordM m
  go : ∀ q r, 0 ≤ r → r < s → goesUp (firstM s m) s q r = goesUp m s q r
  ev : firstM s m = "half_even" → s % 2 = 0
theorem first_ok {s : Int} {m : Str} (h : Mode m) (hs : 1 ≤ s) : FirstP s m := by
  have D : Mode "down" := .inl rfl
  have U : Mode "up" := .inr (.inl rfl)
  have HD : Mode "half_down" := .inr (.inr (.inl rfl))
  by_cases s1 : s = 1
  · subst s1
    refine ⟨by rw [fi_one]; exact D, by rw [fi_one, fi_one], by rw [fi_one, ord_d]; omega, fun q r r0 r1 => ?_, by rw [fi_one]; exact fun z => (dn_he z).elim⟩
    have : r = 0 := by omega
    subst this
    rw [fi_one, go_zero D (by decide), go_zero h (by decide)]
  rcases h with e | e | e | e | e <;> subst e
  · exact ⟨by rw [fi_d]; exact D, by rw [fi_d, fi_d], by rw [fi_d]; omega, fun q r _ _ => by rw [fi_d], by rw [fi_d]; exact fun z => (dn_he z).elim⟩
  · exact ⟨by rw [fi_u s1]; exact U, by rw [fi_u s1, fi_u s1], by rw [fi_u s1]; omega, fun q r _ _ => by rw [fi_u s1], by rw [fi_u s1]; exact fun z => (u_he z).elim⟩
  · by_cases s2 : s = 2
    · subst s2
      refine ⟨by rw [fi_hd2]; exact D, by rw [fi_hd2, fi_d], by rw [fi_hd2, ord_d]; omega, fun q r r0 r1 => ?_, by rw [fi_hd2]; exact fun z => (dn_he z).elim⟩
      rw [fi_hd2, go_down, go_hd, decide_eq_false (by omega)]
    · exact ⟨by rw [fi_hd s1 s2]; exact HD, by rw [fi_hd s1 s2, fi_hd s1 s2], by rw [fi_hd s1 s2]; omega, fun q r _ _ => by rw [fi_hd s1 s2], by rw [fi_hd s1 s2]; exact fun z => (hd_e z).elim⟩
  · by_cases s2 : s = 2
    · subst s2
      refine ⟨by rw [fi_hu2]; exact U, by rw [fi_hu2, fi_u s1], by rw [fi_hu2, ord_u, ord_hu]; omega, fun q r r0 r1 => ?_, by rw [fi_hu2]; exact fun z => (u_he z).elim⟩
      rw [fi_hu2, go_up, go_hu]
      exact decide_eq_decide.mpr (by omega)
    · by_cases od : s % 2 = 1
      · refine ⟨by rw [fi_huO s1 od]; exact HD, by rw [fi_huO s1 od, fi_hd s1 s2], by rw [fi_huO s1 od, ord_hd, ord_hu]; omega, fun q r r0 r1 => ?_, by rw [fi_huO s1 od]; exact fun z => (hd_e z).elim⟩
        rw [fi_huO s1 od, go_hd, go_hu]
        exact decide_eq_decide.mpr (by omega)
      · have ev : s % 2 = 0 := by omega
        exact ⟨by rw [fi_huE s2 ev]; exact .inr (.inr (.inr (.inl rfl))), by rw [fi_huE s2 ev, fi_huE s2 ev], by rw [fi_huE s2 ev]; omega, fun q r _ _ => by rw [fi_huE s2 ev], by rw [fi_huE s2 ev]; exact fun z => (hu_e z).elim⟩
  · by_cases od : s % 2 = 1
    · refine ⟨by rw [fi_heO s1 od]; exact HD, by rw [fi_heO s1 od, fi_hd s1 (by omega)], by rw [fi_heO s1 od, ord_hd, ord_he]; omega, fun q r r0 r1 => ?_, by rw [fi_heO s1 od]; exact fun z => (hd_e z).elim⟩
      rw [fi_heO s1 od, go_hd, go_he, decide_eq_false (show ¬ 2 * r = s by omega), Bool.false_and, Bool.or_false]
    · have ev : s % 2 = 0 := by omega
      exact ⟨by rw [fi_heE ev]; exact .inr (.inr (.inr (.inr rfl))), by rw [fi_heE ev, fi_heE ev], by rw [fi_heE ev]; omega, fun q r _ _ => by rw [fi_heE ev], fun _ => ev⟩
theorem go_shift {m : Str} {s q r j : Int} (h : Mode m) (hj : m ≠ "half_even" ∨ j % 2 = 0) : goesUp m s (q + j) r = goesUp m s q r := by
  rcases h with e | e | e | e | e <;> subst e
  · rw [go_down, go_down]
  · rw [go_up, go_up]
  · rw [go_hd, go_hd]
  · rw [go_hu, go_hu]
  · have z : j % 2 = 0 := hj.resolve_left (fun z => z rfl)
    rw [go_he, go_he, show (q + j) % 2 = q % 2 by omega]
/-- an offset moved by whole steps, by two of them for the even -/
theorem due_shift {o s j : Int} {m : Str} {v : Int} (h : Mode m) (hs : 1 ≤ s) (hj : m ≠ "half_even" ∨ j % 2 = 0) : dueM (o + s * j) s m v = dueM o s m v := by
  have F := fig_of (o := o + s * j) (m := m) (v := v) hs
  generalize (v - (o + s * j)) / s = q at F
  generalize (v - (o + s * j)) % s = r at F
  generalize hk : figM (o + s * j) s m v = k at F
  obtain ⟨eq, r0, r1, wh⟩ := F
  have e : figM o s m v = k + j := by
    refine fig_uniq (q := q + j) (r := r) hs ⟨by rw [Int.mul_add]; omega, r0, r1, ?_⟩
    rw [go_shift h hj]
    rcases wh with ⟨g, e⟩ | ⟨g, e⟩
    · exact .inl ⟨g, by omega⟩
    · exact .inr ⟨g, by omega⟩
  unfold dueM
  rw [e, hk, Int.mul_add]
  omega
theorem due_go {o s : Int} {m m' : Str} {v : Int} (hs : 1 ≤ s) (h : ∀ q r, 0 ≤ r → r < s → goesUp m s q r = goesUp m' s q r) : dueM o s m v = dueM o s m' v := by
  unfold dueM figM
  rw [h _ _ (Int.emod_nonneg _ (by omega)) (Int.emod_lt_of_pos _ (by omega))]
theorem due_form {o s : Int} {m : Str} (v : Int) (h : Mode m) (hs : 1 ≤ s) : dueM (formO o s (firstM s m)) s (firstM s m) v = dueM o s m v := by
  have P := first_ok h hs
  rw [← due_go hs P.go]
  unfold formO
  by_cases e : firstM s m = "half_even"
  · rw [if_pos e]
    have a := Int.mul_ediv_add_emod o (2 * s)
    have b : o % (2 * s) = o + s * (-(2 * (o / (2 * s)))) := by
      rw [Int.mul_neg, ← Int.mul_assoc, Int.mul_comm s 2]
      omega
    rw [b]
    exact due_shift P.md hs (.inr (by omega))
  · rw [if_neg e]
    have a := Int.mul_ediv_add_emod o s
    have b : o % s = o + s * (-(o / s)) := by
      rw [Int.mul_neg]
      omega
    rw [b]
    exact due_shift P.md hs (.inl e)
theorem form_bd {o s : Int} {f : Str} (hs : 1 ≤ s) : 0 ≤ formO o s f ∧ formO o s f < 2 * s ∧ (f ≠ "half_even" → formO o s f < s) := by
  unfold formO
  by_cases e : f = "half_even"
  · rw [if_pos e]
    exact ⟨Int.emod_nonneg _ (by omega), Int.emod_lt_of_pos _ (by omega), fun z => absurd e z⟩
  · rw [if_neg e]
    have := Int.emod_lt_of_pos o (show 0 < s by omega)
    exact ⟨Int.emod_nonneg _ (by omega), by omega, fun _ => this⟩
theorem form_idem {o s : Int} {f : Str} : formO (formO o s f) s f = formO o s f := by
  unfold formO
  by_cases e : f = "half_even"
  · rw [if_pos e, if_pos e, Int.emod_emod_of_dvd _ (Int.dvd_refl _)]
  · rw [if_neg e, if_neg e, Int.emod_emod_of_dvd _ (Int.dvd_refl _)]
/-- a value told by its figure and rest -/
theorem due_at {o s q r : Int} {m : Str} (hs : 1 ≤ s) (r0 : 0 ≤ r) (r1 : r < s) : dueM o s m (o + s * q + r) = o + s * q + (if goesUp m s q r = true then s else 0) := by
  unfold dueM
  by_cases g : goesUp m s q r = true
  · rw [fig_uniq (q := q) (r := r) (k := q + 1) hs ⟨by omega, r0, r1, .inl ⟨g, rfl⟩⟩, if_pos g, Int.mul_add]
    omega
  · have g' : goesUp m s q r = false := by cases h : goesUp m s q r <;> simp_all
    rw [fig_uniq (q := q) (r := r) (k := q) hs ⟨by omega, r0, r1, .inr ⟨g', rfl⟩⟩, if_neg g]
    omega
end HT
namespace HT
open PySem L2
structure MirT (K : PySem.W.Frag) (w : World) (mg : Str → Option Value) (aR : Addr) : Prop where
  gR : mg "MIRRORED" = some (.ref aR)
  dR : ∀ m, Mode m → KDct K w aR m (.str (mir m))
def BdK (x : Int) : Prop := -2 ^ 720 < x ∧ x < 2 ^ 720
def spBelow : Sp := fun vs H Q _ => ∃ (m : Str) (s k : Int), vs = [.str m, .int s, .int k] ∧ Mode m ∧ Q (.int (below m s k)) H
def spSpan : Sp := fun vs H Q _ => ∃ (p : Addr) (o s : Int) (m : Str) (k : Int), vs = [.ref p, .int k] ∧ H p = some (sideV o s m) ∧ SideP o s m ∧ BdK k ∧
  ∀ (d : Addr) (H' : Hp), Same H H' → H d = none → H' d = some (.tup [.int (lowM o s m k), .int (highM o s m k)]) → Q (.ref d) H'
def spBack : Sp := fun vs H Q _ => ∃ (p : Addr) (o s : Int) (m : Str) (v : Int), vs = [.ref p, .int v] ∧ H p = some (sideV o s m) ∧ SideP o s m ∧ -2 ^ 700 < v ∧ v < 2 ^ 700 ∧
  ∀ H' : Hp, Same H H' → Q (.int (backM o s m v)) H'
theorem bdK_bd {x : Int} (h : BdK x) : Bd x := by
  unfold BdK at h
  unfold Bd
  omega
section
variable {P : Program} {w : World} {K : PySem.W.Frag} {mg : Str → Option Value} {base : Heap} {aM aR fV fC fB fS : Addr} {dV dC dB dS : FuncData}
theorem ok_below {f : Addr} {fd : FuncData} (F : Fun K "_below" "_below" s_below f fd) : FnOk P w K mg base CX0 1 f fd ["mode", "step", "figure"] spBelow := by
  refine F.ok sc_below (fun vs H Q E h => ?_) (fun cdv A outer s H vs Q E hr h => ?_)
  · obtain ⟨m, s, k, rfl, _⟩ := h
    rfl
  · obtain ⟨m, s, k, rfl, hm, q⟩ := h
    refine ⟨_, pss_cons (ps_if (pt_cmpR op_eq (pv 0) pe_str (nomark _)) (pss_one (ps_ret pe_int)) pss_nil)
      (pss_cons (ps_if (pt_cmpR op_eq (pv 0) pe_str (nomark _)) (pss_one (ps_ret (pe_op op_sub (pv 1) pe_int))) pss_nil)
      (pss_cons (ps_if (PW.pt (pw_or (pt_cmpR op_eq (pv 0) pe_str (nomark _)) (pw_or1 (PW.pt (pw_and (pt_cmpR op_eq (pv 0) pe_str (nomark _)) (pw_and1 (pt_cmpR op_eq (pe_op op_mod (pv 2) pe_int) pe_int (nomark _)))))))) (pss_one (ps_ret (pe_op op_fdiv (pv 1) pe_int))) pss_nil)
      (pss_one (ps_ret (pe_op op_fdiv (pe_op op_sub (pv 1) pe_int) pe_int))))), ?_⟩
    have d2 : ∀ (i : Int), CDiv i 2 := fun _ => ⟨by decide, by decide⟩
    unfold below at q
    walk_at "rd"
    refine ⟨rfl, ?_⟩
    walk_at "rd"
    refine ite2 (fun h => ?_) (fun h1 => ?_)
    · rw [if_pos (str_t h)] at q
      walk_at "rd"
      exact q
    rw [if_neg (str_f h1)] at q
    walk_at "rd"
    refine ⟨rfl, ?_⟩
    walk_at "rd"
    refine ite2 (fun h => ?_) (fun h2 => ?_)
    · rw [if_pos (str_t h)] at q
      walk_at "rd"
      exact q
    rw [if_neg (str_f h2)] at q
    walk_at "rd"
    refine ⟨rfl, ?_⟩
    walk_at "rd"
    refine ite2 (fun h => ?_) (fun h3 => ?_)
    · rw [if_pos (.inl (str_t h))] at q
      walk_at "rd"
      refine ⟨d2 _, ?_⟩
      walk_at "rd"
      exact q
    walk_at "rd"
    refine ⟨rfl, ?_⟩
    walk_at "rd"
    refine ite2 (fun h => ?_) (fun h4 => ?_)
    · walk_at "rd"
      refine ⟨(by show (0 : Int) < 2; decide), ?_⟩
      walk_at "rd"
      refine ⟨rfl, ?_⟩
      walk_at "rd"
      refine ite2 (fun g => ?_) (fun g => ?_)
      · rw [if_pos (.inr ⟨str_t h, int_t g⟩)] at q
        walk_at "rd"
        refine ⟨d2 _, ?_⟩
        walk_at "rd"
        exact q
      · rw [if_neg (by rintro (z | ⟨_, z⟩); exact str_f h3 z; exact int_f g z)] at q
        walk_at "rd"
        refine ⟨d2 _, ?_⟩
        walk_at "rd"
        exact q
    · rw [if_neg (by rintro (z | ⟨z, _⟩); exact str_f h3 z; exact str_f h4 z)] at q
      walk_at "rd"
      refine ⟨d2 _, ?_⟩
      walk_at "rd"
      exact q
theorem ok_uspan {f : Addr} {fd : FuncData} (F : Fun K "_span" "_span" s_uspan f fd) (R : MirT K w mg aR)
    (B : Cal P w K mg base "_below" 1 ["mode", "step", "figure"] spBelow fB dB) : FnOk P w K mg base CX0 2 f fd ["side", "figure"] spSpan := by
  refine F.ok sc_uspan (fun vs H Q E h => ?_) (fun cdv A outer s H vs Q E hr h => ?_)
  · obtain ⟨p, o, s, m, k, rfl, _⟩ := h
    rfl
  · obtain ⟨p, o, s, m, k, rfl, hp, S, hk, q⟩ := h
    have nd := sc_uspan.nd
    refine ⟨_, pss_cons (ps_asg (pv 0) (pg_tup (by rfl) (pgs_cons (pg_name (i := 2) nd rfl (Or.inl rfl)) (pgs_cons (pg_name (i := 3) nd rfl (Or.inl rfl)) (pgs_cons (pg_name (i := 4) nd rfl (Or.inl rfl)) pgs_nil)))))
      (pss_cons (ps_set (i := 5) nd rfl (Or.inl rfl) (pe_op op_add (pv 2) (pe_op op_mulW (pv 3) (pv 1))))
      (pss_one (ps_ret (pe_tup (pa_cons (pe_op op_sub (pv 5) (pcl B hr (by decide) (by rfl) (pa_cons (pv 4) (pa_cons (pv 3) (pa_cons (pv 1) pa_nil)))))
        (pa_cons (pe_op op_add (pv 5) (pcl B hr (by decide) (by rfl) (pa_cons (pe_ix ix_kdict (pe_glob (v := .ref aR) (by rfl) R.gR rfl) (pv 4) (fun _ _ => rfl)) (pa_cons (pv 3) (pa_cons (pv 1) pa_nil))))) pa_nil)))))), ?_⟩
    walk_at "rd"
    refine ⟨p, _, rfl, SqT.of hp, rfl, _, _, rfl, _, _, rfl, _, _, rfl, rfl, ?_⟩
    have s0 := S.s0
    have s1 := S.s1
    have hk' := hk
    unfold BdK at hk'
    walk_at "rd"
    refine ⟨mulW (by omega) (by omega), ?_⟩
    walk_at "rd"
    refine ⟨m, s, k, rfl, S.md, ?_⟩
    walk_at "rd"
    refine ⟨aR, m, _, rfl, rfl, R.dR m S.md, ?_⟩
    walk_at "rd"
    refine ⟨mir m, s, k, rfl, mir_mode S.md, ?_⟩
    walk_at "rd"
    refine ⟨(by show 2 ≤ sizeLine; decide), fun d nd' => ?_⟩
    exact q d _ (fun b u z => (upd_ne (ne_of_none z nd')).trans z) nd' upd_same
theorem ok_span {f : Addr} {fd : FuncData} (F : Fun K "span" "span" s_span f fd) (C : Cal P w K mg base "check_side" 3 ["side"] spCheckSide fC dC) (V' : Cal P w K mg base "check_value" 2 ["value"] spCheckValue fV dV)
    (G : Cal P w K mg base "_span" 2 ["side", "figure"] spSpan fS dS) : FnOk P w K mg base CX0 4 f fd ["side", "figure"] spSpan := by
  refine F.ok sc_span (fun vs H Q E h => ?_) (fun cdv A outer s H vs Q E hr h => ?_)
  · obtain ⟨p, o, s, m, v, rfl, _⟩ := h
    rfl
  · obtain ⟨p, o, s, m, v, rfl, hp, S, q⟩ := h
    refine ⟨_, pss_cons (ps_expr (pcl C hr (by decide) (by rfl) (pa_cons (pv 0) pa_nil)))
      (pss_cons (ps_expr (pcl V' hr (by decide) (by rfl) (pa_cons (pv 1) pa_nil)))
      (pss_one (ps_ret (pcl G hr (by decide) (by rfl) (pa_cons (pv 0) (pa_cons (pv 1) pa_nil)))))), ?_⟩
    walk_at "rd"
    refine ⟨p, o, s, m, rfl, hp, S, ?_⟩
    walk_at "rd"
    exact ⟨p, o, s, m, v, rfl, hp, S, q⟩
end
end HT
namespace HT
open PySem L2
def spMirror : Sp := fun vs H Q _ => ∃ (p : Addr) (o s : Int) (m : Str), vs = [.ref p] ∧ H p = some (sideV o s m) ∧ SideP o s m ∧
  ∀ (d : Addr) (H' : Hp), Same H H' → H d = none → H' d = some (sideV (-o) s (mir m)) → Q (.ref d) H'
def spFirst : Sp := fun vs H Q _ => ∃ (s : Int) (m : Str), vs = [.int s, .str m] ∧ 1 ≤ s ∧ Mode m ∧ ∀ H' : Hp, Same H H' → Q (.str (firstM s m)) H'
def spForm : Sp := fun vs H Q _ => ∃ (p : Addr) (o s : Int) (m : Str), vs = [.ref p] ∧ H p = some (sideV o s m) ∧ SideP o s m ∧
  ∀ (d : Addr) (H' : Hp), Same H H' → H d = none → H' d = some (sideV (formO o s (firstM s m)) s (firstM s m)) → Q (.ref d) H'
theorem side_mir {o s : Int} {m : Str} (S : SideP o s m) : SideP (-o) s (mir m) := by
  obtain ⟨o0, o1, s0, s1, md⟩ := S
  exact ⟨by omega, by omega, s0, s1, mir_mode md⟩
theorem side_form {o s : Int} {m : Str} (S : SideP o s m) : SideP (formO o s (firstM s m)) s (firstM s m) := by
  obtain ⟨o0, o1, s0, s1, md⟩ := S
  obtain ⟨a, b, _⟩ := form_bd (o := o) (f := firstM s m) s0
  exact ⟨by omega, by omega, s0, s1, (first_ok md s0).md⟩
theorem in_two (m : Str) : inV (.str m) [V.str "half_up", .str "half_even"] = decide (m = "half_up" ∨ m = "half_even") := by
  show (eqV (V.str "half_up") (V.str m) || (eqV (V.str "half_even") (V.str m) || false)) = _
  have e : ∀ a b : Str, eqV (V.str a) (V.str b) = decide (a = b) := fun a b => by
    show (a == b) = decide (a = b)
    by_cases h : a = b
    · rw [decide_eq_true h, h, beq_self_eq_true]
    · rw [decide_eq_false h]
      exact beq_eq_false_iff_ne.mpr h
  rw [e, e, Bool.or_false]
  by_cases a : m = "half_up"
  · rw [decide_eq_true a.symm, decide_eq_true (Or.inl a)]
    rfl
  · by_cases b : m = "half_even"
    · rw [decide_eq_true b.symm, decide_eq_true (Or.inr b), Bool.or_true]
    · rw [decide_eq_false (fun z => a z.symm), decide_eq_false (fun z => b z.symm), decide_eq_false (fun z => z.elim a b)]
      rfl
section
variable {P : Program} {w : World} {K : PySem.W.Frag} {mg : Str → Option Value} {base : Heap} {aM aR fV fC fB fS : Addr} {dV dC dB dS : FuncData}
theorem ok_mirror {f : Addr} {fd : FuncData} (F : Fun K "mirror" "mirror" s_mirror f fd) (R : MirT K w mg aR) (C : Cal P w K mg base "check_side" 3 ["side"] spCheckSide fC dC) : FnOk P w K mg base CX0 4 f fd ["side"] spMirror := by
  refine F.ok sc_mirror (fun vs H Q E h => ?_) (fun cdv A outer s H vs Q E hr h => ?_)
  · obtain ⟨p, o, s, m, rfl, _⟩ := h
    rfl
  · obtain ⟨p, o, s, m, rfl, hp, S, q⟩ := h
    have nd := sc_mirror.nd
    refine ⟨_, pss_cons (ps_expr (pcl C hr (by decide) (by rfl) (pa_cons (pv 0) pa_nil)))
      (pss_cons (ps_asg (pv 0) (pg_tup (by rfl) (pgs_cons (pg_name (i := 1) nd rfl (Or.inl rfl)) (pgs_cons (pg_name (i := 2) nd rfl (Or.inl rfl)) (pgs_cons (pg_name (i := 3) nd rfl (Or.inl rfl)) pgs_nil)))))
      (pss_one (ps_ret (pe_tup (pa_cons (pe_un un_neg (pv 1)) (pa_cons (pv 2) (pa_cons (pe_ix ix_kdict (pe_glob (v := .ref aR) (by rfl) R.gR rfl) (pv 3) (fun _ _ => rfl)) pa_nil))))))), ?_⟩
    walk_at "rd"
    refine ⟨p, o, s, m, rfl, hp, S, ?_⟩
    walk_at "rd"
    refine ⟨p, _, rfl, SqT.of hp, rfl, _, _, rfl, _, _, rfl, _, _, rfl, rfl, ?_⟩
    walk_at "rd"
    refine ⟨aR, m, _, rfl, rfl, R.dR m S.md, ?_⟩
    refine ⟨(by show 3 ≤ sizeLine; decide), fun d nd' => ?_⟩
    exact q d _ (fun b u z => (upd_ne (ne_of_none z nd')).trans z) nd' upd_same
theorem ok_first {f : Addr} {fd : FuncData} (F : Fun K "_first_mode" "_first_mode" s_first_mode f fd) : FnOk P w K mg base CX0 1 f fd ["step", "mode"] spFirst := by
  refine F.ok sc_first_mode (fun vs H Q E h => ?_) (fun cdv A outer s H vs Q E hr h => ?_)
  · obtain ⟨s, m, rfl, _⟩ := h
    rfl
  · obtain ⟨s, m, rfl, s0, md, q⟩ := h
    refine ⟨_, pss_cons (ps_if (pt_cmpR op_eq (pv 0) pe_int (nomark _)) (pss_one (ps_ret pe_str)) pss_nil)
      (pss_cons (ps_if (PW.pt (pw_and (pt_cmpR op_eq (pv 0) pe_int (nomark _)) (pw_and1 (pt_cmpR op_eq (pv 1) pe_str (nomark _))))) (pss_one (ps_ret pe_str)) pss_nil)
      (pss_cons (ps_if (PW.pt (pw_and (pt_cmpR op_eq (pv 0) pe_int (nomark _)) (pw_and1 (pt_cmpR op_eq (pv 1) pe_str (nomark _))))) (pss_one (ps_ret pe_str)) pss_nil)
      (pss_cons (ps_if (PW.pt (pw_and (pt_cmpR op_eq (pe_op op_mod (pv 0) pe_int) pe_int (nomark _)) (pw_and1 (pt_cmpR op_in_seq (pv 1) (pe_tup (pa_cons pe_str (pa_cons pe_str pa_nil))) (by rfl))))) (pss_one (ps_ret pe_str)) pss_nil)
      (pss_one (ps_ret (pv 1)))))), ?_⟩
    have fin : ∀ (x : Str) (H' : Hp), firstM s m = x → Same H H' → Q (.str x) H' := fun x H' e sm => by
      rw [← e]
      exact q H' sm
    walk_at "rd"
    refine ⟨rfl, ?_⟩
    walk_at "rd"
    refine ite2 (fun h => ?_) (fun h1 => ?_)
    · walk_at "rd"
      exact fin "down" H (by rw [int_t h]; exact fi_one m) (Same.refl H)
    have n1 := int_f h1
    walk_at "rd"
    refine ⟨rfl, ?_⟩
    walk_at "rd"
    refine ite2 (fun h => ?_) (fun h2 => ?_)
    · have e2 := int_t h
      walk_at "rd"
      refine ⟨rfl, ?_⟩
      walk_at "rd"
      refine ite2 (fun g => ?_) (fun g1 => ?_)
      · walk_at "rd"
        exact fin "down" H (by rw [str_t g, e2]; exact fi_hd2) (Same.refl H)
      walk_at "rd"
      refine ⟨rfl, ?_⟩
      walk_at "rd"
      refine ite2 (fun _ => ?_) (fun z => absurd h z)
      walk_at "rd"
      refine ⟨rfl, ?_⟩
      walk_at "rd"
      refine ite2 (fun g => ?_) (fun g2 => ?_)
      · walk_at "rd"
        exact fin "up" H (by rw [str_t g, e2]; exact fi_hu2) (Same.refl H)
      walk_at "rd"
      refine ⟨(by show (0 : Int) < 2; decide), ?_⟩
      walk_at "rd"
      refine ⟨rfl, ?_⟩
      walk_at "rd"
      refine ite2 (fun g => absurd (int_t g) (by omega)) (fun _ => ?_)
      walk_at "rd"
      refine fin m H ?_ (Same.refl H)
      unfold firstM
      rw [if_neg n1, if_neg (fun z => str_f g1 z.2), if_neg (fun z => str_f g2 z.2), if_neg (fun z => by have := z.1; omega)]
    · have n2 := int_f h2
      walk_at "rd"
      refine ⟨rfl, ?_⟩
      walk_at "rd"
      refine ite2 (fun z => absurd z h2) (fun _ => ?_)
      walk_at "rd"
      refine ⟨(by show (0 : Int) < 2; decide), ?_⟩
      walk_at "rd"
      refine ⟨rfl, ?_⟩
      walk_at "rd"
      refine ite2 (fun g => ?_) (fun g => ?_)
      · have od := int_t g
        walk_at "rd"
        refine ⟨(by show 2 ≤ sizeLine; decide), fun d nd' => ?_⟩
        refine ⟨d, _, rfl, .inr (SqT.of upd_same), rfl, by decide, ?_⟩
        walk_at "rd"
        have sm : ∀ o, Same H (upd H d o) := fun o b u z => (upd_ne (ne_of_none z nd')).trans z
        refine ite2 (fun k => ?_) (fun k => ?_)
        · walk_at "rd"
          have k' : inV (.str m) [V.str "half_up", .str "half_even"] = true := k
          rw [in_two] at k'
          refine fin "half_down" _ ?_ (sm _)
          unfold firstM
          rw [if_neg n1, if_neg (fun z => n2 z.1), if_neg (fun z => n2 z.1), if_pos ⟨od, of_decide_eq_true k'⟩]
        · walk_at "rd"
          have k' : ¬ inV (.str m) [V.str "half_up", .str "half_even"] = true := k
          rw [in_two] at k'
          refine fin m _ ?_ (sm _)
          unfold firstM
          rw [if_neg n1, if_neg (fun z => n2 z.1), if_neg (fun z => n2 z.1), if_neg (fun z => k' (decide_eq_true z.2))]
      · have od := int_f g
        walk_at "rd"
        refine fin m H ?_ (Same.refl H)
        unfold firstM
        rw [if_neg n1, if_neg (fun z => n2 z.1), if_neg (fun z => n2 z.1), if_neg (fun z => od z.1)]
theorem ok_form {f : Addr} {fd : FuncData} (F : Fun K "form" "form" s_form f fd) (C : Cal P w K mg base "check_side" 3 ["side"] spCheckSide fC dC) (M : Cal P w K mg base "_first_mode" 1 ["step", "mode"] spFirst fB dB) : FnOk P w K mg base CX0 4 f fd ["side"] spForm := by
  refine F.ok sc_form (fun vs H Q E h => ?_) (fun cdv A outer s H vs Q E hr h => ?_)
  · obtain ⟨p, o, s, m, rfl, _⟩ := h
    rfl
  · obtain ⟨p, o, s, m, rfl, hp, S, q⟩ := h
    have nd := sc_form.nd
    refine ⟨_, pss_cons (ps_expr (pcl C hr (by decide) (by rfl) (pa_cons (pv 0) pa_nil)))
      (pss_cons (ps_asg (pv 0) (pg_tup (by rfl) (pgs_cons (pg_name (i := 1) nd rfl (Or.inl rfl)) (pgs_cons (pg_name (i := 2) nd rfl (Or.inl rfl)) (pgs_cons (pg_name (i := 3) nd rfl (Or.inl rfl)) pgs_nil)))))
      (pss_cons (ps_set (i := 4) nd rfl (Or.inl rfl) (pcl M hr (by decide) (by rfl) (pa_cons (pv 2) (pa_cons (pv 3) pa_nil))))
      (pss_cons (ps_if (pt_cmpR op_eq (pv 4) pe_str (nomark _)) (pss_one (ps_ret (pe_tup (pa_cons (pe_op op_mod (pv 1) (pe_op op_mul pe_int (pv 2))) (pa_cons (pv 2) (pa_cons (pv 4) pa_nil)))))) pss_nil)
      (pss_one (ps_ret (pe_tup (pa_cons (pe_op op_mod (pv 1) (pv 2)) (pa_cons (pv 2) (pa_cons (pv 4) pa_nil))))))))), ?_⟩
    have s0 := S.s0
    walk_at "rd"
    refine ⟨p, o, s, m, rfl, hp, S, ?_⟩
    walk_at "rd"
    refine ⟨p, _, rfl, SqT.of hp, rfl, _, _, rfl, _, _, rfl, _, _, rfl, rfl, ?_⟩
    walk_at "rd"
    refine ⟨s, m, rfl, s0, S.md, fun H1 m1 => ?_⟩
    walk_at "rd"
    refine ⟨rfl, ?_⟩
    walk_at "rd"
    refine ite2 (fun h => ?_) (fun h => ?_)
    · have e := str_t h
      walk_at "rd"
      refine ⟨.inl ⟨by decide, by decide⟩, ?_⟩
      walk_at "rd"
      refine ⟨(by show (0 : Int) < 2 * s; omega), ?_⟩
      walk_at "rd"
      refine ⟨(by show 3 ≤ sizeLine; decide), fun d nd' => ?_⟩
      have e2 : formO o s (firstM s m) = o % (2 * s) := by unfold formO; rw [if_pos e]
      refine q d _ (fun b u z => (upd_ne (ne_of_none (m1 _ _ z) nd')).trans (m1 _ _ z)) (m1.free nd') ?_
      rw [e2]
      exact upd_same
    · have e := str_f h
      walk_at "rd"
      refine ⟨(by omega), ?_⟩
      walk_at "rd"
      refine ⟨(by show 3 ≤ sizeLine; decide), fun d nd' => ?_⟩
      have e2 : formO o s (firstM s m) = o % s := by unfold formO; rw [if_neg e]
      refine q d _ (fun b u z => (upd_ne (ne_of_none (m1 _ _ z) nd')).trans (m1 _ _ z)) (m1.free nd') ?_
      rw [e2]
      exact upd_same
end
end HT
namespace HT
open PySem L2
section
variable {P : Program} {w : World} {K : PySem.W.Frag} {mg : Str → Option Value} {base : Heap} {fC fV : Addr} {dC dV : FuncData}
theorem ok_stands {f : Addr} {fd : FuncData} (F : Fun K "stands" "stands" s_stands f fd) (C : Cal P w K mg base "check_side" 3 ["side"] spCheckSide fC dC) (V' : Cal P w K mg base "check_value" 2 ["value"] spCheckValue fV dV) : FnOk P w K mg base CX0 4 f fd ["side", "value"] spStands := by
  refine F.ok sc_stands (fun vs H Q E h => ?_) (fun cdv A outer s H vs Q E hr h => ?_)
  · obtain ⟨p, o, s, m, v, rfl, _⟩ := h
    rfl
  · obtain ⟨p, o, s, m, v, rfl, hp, S, hv, q⟩ := h
    have nd := sc_stands.nd
    refine ⟨_, pss_cons (ps_expr (pcl C hr (by decide) (by rfl) (pa_cons (pv 0) pa_nil)))
      (pss_cons (ps_expr (pcl V' hr (by decide) (by rfl) (pa_cons (pv 1) pa_nil)))
      (pss_cons (ps_asg (pv 0) (pg_tup (by rfl) (pgs_cons (pg_name (i := 2) nd rfl (Or.inl rfl)) (pgs_cons (pg_name (i := 3) nd rfl (Or.inl rfl)) (pgs_cons (pg_name (i := 4) nd rfl (Or.inl rfl)) pgs_nil)))))
      (pss_one (ps_ret (pe_cmpR op_eq (pe_op op_mod (pe_op op_sub (pv 1) (pv 2)) (pv 3)) pe_int (nomark _)))))), ?_⟩
    walk_at "rd"
    refine ⟨p, o, s, m, rfl, hp, S, ?_⟩
    walk_at "rd"
    refine ⟨p, _, rfl, SqT.of hp, rfl, _, _, rfl, _, _, rfl, _, _, rfl, rfl, ?_⟩
    walk_at "rd"
    have b2 := S.s0
    refine ⟨(by omega), ?_⟩
    walk_at "rd"
    have q' : Q (.bl (decide ((v - o) % s = 0))) H := q H (Same.refl H)
    rw [← dec_int] at q'
    exact ⟨rfl, q'⟩
end
end HT
namespace HT
open PySem L2
section
variable {P : Program} {w : World} {K : PySem.W.Frag} {mg : Str → Option Value} {base : Heap}
/-- both promises of a def -/
theorem or_ok {CX : CXT} {k : Nat} {f : Addr} {fd : FuncData} {ps : List Str} {sp sp' : Sp} (F : FnOk P w K mg base CX k f fd ps sp) (G : FnOk P w K mg base CX k f fd ps sp') : FnOk P w K mg base CX k f fd ps (fun vs H Q E => sp vs H Q E ∨ sp' vs H Q E) :=
  ⟨fun vs H Q E h => h.elim (F.len vs H Q E) (G.len vs H Q E), fun A outer s H args us vs Q E hr he hb hv hs => hs.elim (F.run A outer s H args us vs Q E hr he hb hv) (G.run A outer s H args us vs Q E hr he hb hv)⟩
end
end HT
namespace HT
open PySem L2
section
variable {P : Program} {w : World} {K : PySem.W.Frag} {mg : Str → Option Value} {base : Heap}
/-- a def that lets nothing out keeps its promise among errors too -/
theorem to_x {k : Nat} {f : Addr} {fd : FuncData} {ps : List Str} {sp : Sp} (F : FnOk P w K mg base CX0 k f fd ps sp) : FnOk P w K mg base (L2.CX P w) k f fd ps sp :=
  ⟨F.len, fun A outer s H args us vs Q E hr he hb hv hs => codeAny_mono (F.run A outer s H args us vs Q E hr he hb hv hs) fun r s' h => by
    unfold CR at h ⊢
    split at h
    · exact h
    · exact h
    · exact h.elim⟩
def spNo : Sp := fun _ _ _ _ => False
end
end HT
namespace HT
open PySem L2
/-- a thing of any kind, with its type's name -/
inductive Th (H : Hp) : V → String → Prop where
  | int (i : Int) : Th H (.int i) "int"
  | bl (b : Bool) : Th H (.bl b) "bool"
  | non : Th H .non "NoneType"
  | str (s : Str) : Th H (.str s) "str"
  | tup {p : Addr} {xs : List V} (h : H p = some (.tup xs)) : Th H (.ref p) "tuple"
  | lst {p : Addr} {xs : List V} (h : H p = some (.lst xs)) : Th H (.ref p) "list"
  | dk {p : Addr} {kvs : List (Key × V)} (h : H p = some (.dK kvs)) : Th H (.ref p) "dict"
theorem Th.ty {K : PySem.W.Frag} {H : Hp} {x : V} {n : String} (t : Th H x n) : TyX K H x (.type n) := by
  cases t with
  | int i => exact .base (.int i)
  | bl b => exact .base (.bl b)
  | non => exact .base .non
  | str s => exact .base (.str s)
  | tup h => exact .base (.tup h)
  | lst h => exact .base (.lst h)
  | dk h => exact .base (.dK h)
theorem Th.kint {K : PySem.W.Frag} {H : Hp} {x : V} {n : String} (t : Th H x n) : PySem.W.kitOne K (.type n) (.type "int") = some (n == "int" || n == "bool") := by
  cases t <;> exact kit_ty (by decide +kernel)
theorem Th.kbool {K : PySem.W.Frag} {H : Hp} {x : V} {n : String} (t : Th H x n) : PySem.W.kitOne K (.type n) (.type "bool") = some (n == "bool") := by
  cases t <;> exact kit_ty (by decide +kernel)
theorem Th.ktup {K : PySem.W.Frag} {H : Hp} {x : V} {n : String} (t : Th H x n) : PySem.W.kitOne K (.type n) (.type "tuple") = some (n == "tuple") := by
  cases t <;> exact kit_ty (by decide +kernel)
theorem Th.klst {K : PySem.W.Frag} {H : Hp} {x : V} {n : String} (t : Th H x n) : PySem.W.kitOne K (.type n) (.type "list") = some (n == "list") := by
  cases t <;> exact kit_ty (by decide +kernel)
theorem Th.same {H H' : Hp} {x : V} {n : String} (t : Th H x n) (s : Same H H') : Th H' x n := by
  cases t with
  | int i => exact .int i
  | bl b => exact .bl b
  | non => exact .non
  | str x => exact .str x
  | tup h => exact .tup (s _ _ h)
  | lst h => exact .lst (s _ _ h)
  | dk h => exact .dk (s _ _ h)
def isI (n : String) : Bool := n == "int"
def spIsAny : Sp := fun vs H Q _ => ∃ (x : V) (n : String), vs = [x] ∧ Th H x n ∧ Q (.bl (isI n)) H
/-- an int between the ends -/
def inB (x : V) (a b : Int) : Bool := match x with
  | .int i => decide (a ≤ i) && decide (i ≤ b)
  | _ => false
def spBetAny : Sp := fun vs H Q _ => ∃ (x : V) (n : String) (a b : Int), vs = [x, .int a, .int b] ∧ Th H x n ∧ Q (.bl (inB x a b)) H
/-- the names that the text of checks does not bind -/
structure ChkT (mg : Str → Option Value) : Prop where
  isi : mg "isinstance" = none
  int : mg "int" = none
  bool : mg "bool" = none
  tuple : mg "tuple" = none
  list : mg "list" = none
  len : mg "len" = none
section
variable {P : Program} {w : World} {K : PySem.W.Frag} {mg : Str → Option Value} {base : Heap} {fI : Addr} {dI : FuncData}
theorem ok_is_any {f : Addr} {fd : FuncData} (F : Fun K "is_int" "is_int" s_is_int f fd) (T : ChkT mg) : FnOk P w K mg base CX0 1 f fd ["thing"] spIsAny := by
  refine F.ok sc_is_int (fun vs H Q E h => ?_) (fun cdv A outer s H vs Q E hr h => ?_)
  · obtain ⟨x, n, rfl, _⟩ := h
    rfl
  · obtain ⟨x, n, rfl, t, q⟩ := h
    refine ⟨_, pss_one (ps_ret (pe_and (pe_callB call_isi (by rfl) T.isi (by decide +kernel) (pa_cons (pv 0) (pa_cons (pe_bltn (v := .ty "int") (by rfl) T.int (by decide +kernel) rfl) pa_nil)))
      (pe_one (pe_not (pe_callB call_isi (by rfl) T.isi (by decide +kernel) (pa_cons (pv 0) (pa_cons (pe_bltn (v := .ty "bool") (by rfl) T.bool (by decide +kernel) rfl) pa_nil))))))), ?_⟩
    walk_at "rd"
    refine ⟨_, _, _, _, _, rfl, .ty "int", t.ty, t.kint, ?_⟩
    walk_at "rd"
    refine ite2 (fun h => ?_) (fun h => ?_)
    · walk_at "rd"
      refine ⟨_, _, _, _, _, rfl, .ty "bool", t.ty, t.kbool, ?_⟩
      walk_at "rd"
      have e : (!(n == "bool")) = isI n := by
        cases t <;> first | rfl | exact absurd h (by decide)
      rw [e]
      exact q
    · have e : isI n = false := by
        cases t <;> first | rfl | exact absurd (by decide) h
      rw [e] at q
      exact q
theorem ok_bet_any {f : Addr} {fd : FuncData} (F : Fun K "is_int_between" "is_int_between" s_is_int_between f fd) (I : Cal P w K mg base "is_int" 1 ["thing"] spIsAny fI dI) : FnOk P w K mg base CX0 2 f fd ["thing", "least", "most"] spBetAny := by
  refine F.ok sc_is_int_between (fun vs H Q E h => ?_) (fun cdv A outer s H vs Q E hr h => ?_)
  · obtain ⟨x, n, a, b, rfl, _⟩ := h
    rfl
  · obtain ⟨x, n, a, b, rfl, t, q⟩ := h
    refine ⟨_, pss_one (ps_ret (pe_and (pcl I hr (by decide) (by rfl) (pa_cons (pv 0) pa_nil)) (pe_one (pe_chain op_le op_le (pv 1) (pv 0) (pv 2))))), ?_⟩
    walk_at "rd"
    refine ⟨x, n, rfl, t, ?_⟩
    cases t with
    | int i =>
      walk_at "rd"
      refine ite2 (fun h => ?_) (fun h => ?_)
      · walk_at "rd"
        change Q (.bl (decide (a ≤ i) && decide (i ≤ b))) H at q
        rw [decide_eq_true (of_decide_eq_true h)] at q
        exact q
      · change Q (.bl (decide (a ≤ i) && decide (i ≤ b))) H at q
        rw [decide_eq_false (of_decide_eq_false (by simpa using h))] at q
        exact q
    | _ => exact ⟨_, rfl, q⟩
end
end HT
namespace HT
open PySem L2
def modesD : List PyData := [.str "down", .str "up", .str "half_down", .str "half_up", .str "half_even"]
/-- a mode's place is taken by something else -/
def NoMode (d : PyData) : Prop := SeqAt.shaped d = true ∧ (modesD.any fun z => PyData.eqv z d) = false
/-- the four classes by number, and their base class at B -/
structure Er (K : PySem.W.Frag) (mg : Str → Option Value) (C : Nat → Addr) (B : Addr) : Prop where
  isi : mg "isinstance" = none
  ve : mg "ValueError" = none
  gB : mg "HandedError" = some (.ref B)
  g0 : mg "InvalidSide" = some (.ref (C 0))
  g1 : mg "InvalidSides" = some (.ref (C 1))
  g2 : mg "TooMany" = some (.ref (C 2))
  g3 : mg "InvalidValue" = some (.ref (C 3))
  kit : ∀ i j, i < 4 → j < 4 → PySem.W.kitOne K (.ref (C i)) (.ref (C j)) = some (decide (i = j))
  kitV : ∀ i, i < 4 → PySem.W.kitOne K (.ref (C i)) (.type "ValueError") = some true
  ec : ∀ i, i < 4 → ErrC K (C i)
  eg : ErrG K
  ex : ∀ i, i < 4 → PySem.W.excIn K (C i) [.type "ValueError", .type "Exception", .type "BaseException", .type "object"] "ValueError.__new__" = true
  kp : ∀ i, i < 4 → PySem.W.keepIn K (.ref (C i)) = true
  sb : ∀ i, i < 4 → PySem.W.subIn K (.ref (C i)) (.type "BaseException") = some true
  ty : ∀ i, i < 4 → PySem.W.typeIn K (.ref (C i)) = some (.type "type")
  emB : ∀ i, i < 4 → PySem.W.exmOne K (.ref (C i)) (.ref B) = some true
  em0 : PySem.W.exmOne K (.ref (C 0)) (.ref (C 0)) = some true
/-- flat data, and a list of one text -/
inductive Fl (H : Hp) : V → PyData → Prop where
  | non : Fl H .non .none
  | bl (b : Bool) : Fl H (.bl b) (.bool b)
  | int (i : Int) : Fl H (.int i) (.int i)
  | str (s : Str) : Fl H (.str s) (.str s)
  | one {l : Addr} {s : Str} (h : H l = some (.lst [.str s])) : Fl H (.ref l) (.list [.str s])
theorem Fl.dp {K : PySem.W.Frag} {H : Hp} {c : V} {d : PyData} (f : Fl H c d) : Dp K H c d := by
  cases f with
  | non => exact .non
  | bl b => exact .bl b
  | int i => exact .int i
  | str s => exact .str s
  | one h => exact .lst (SqL.of h) (.cons (.str _) .nil)
theorem Fl.same {H H' : Hp} {c : V} {d : PyData} (f : Fl H c d) (s : Same H H') : Fl H' c d := by
  cases f with
  | non => exact .non
  | bl b => exact .bl b
  | int i => exact .int i
  | str x => exact .str x
  | one h => exact .one (s _ _ h)
/-- no side -/
inductive BadS (K : PySem.W.Frag) (H : Hp) : V → Prop where
  | kind {x : V} {n : String} (t : Th H x n) (h : (n == "tuple") = false) : BadS K H x
  | len {p : Addr} {xs : List V} (hp : H p = some (.tup xs)) (h : ¬ xs.length = 3) : BadS K H (.ref p)
  | off {p : Addr} {a b c : V} {n : String} (hp : H p = some (.tup [a, b, c])) (t : Th H a n) (h : inB a (-10 ^ 40) (10 ^ 40) = false) : BadS K H (.ref p)
  | stp {p : Addr} {a b c : V} {n m : String} (hp : H p = some (.tup [a, b, c])) (t : Th H a n) (h : inB a (-10 ^ 40) (10 ^ 40) = true) (u : Th H b m) (g : inB b 1 (10 ^ 30) = false) : BadS K H (.ref p)
  | mod {p : Addr} {a b c : V} {n m : String} {d : PyData} (hp : H p = some (.tup [a, b, c])) (t : Th H a n) (h : inB a (-10 ^ 40) (10 ^ 40) = true) (u : Th H b m) (g : inB b 1 (10 ^ 30) = true) (dp : Fl H c d) (hd : NoMode d) : BadS K H (.ref p)
theorem BadS.same {K : PySem.W.Frag} {H H' : Hp} {x : V} (b : BadS K H x) (e : Same H H') : BadS K H' x := by
  cases b with
  | kind t h => exact .kind (t.same e) h
  | len hp h => exact .len (e _ _ hp) h
  | off hp t h => exact .off (e _ _ hp) (t.same e) h
  | stp hp t h u g => exact .stp (e _ _ hp) (t.same e) h (u.same e) g
  | mod hp t h u g dp hd => exact .mod (e _ _ hp) (t.same e) h (u.same e) g (dp.same e) hd
def GoodS (H : Hp) (x : V) : Prop := ∃ (p : Addr) (o s : Int) (m : Str), x = .ref p ∧ H p = some (sideV o s m) ∧ SideP o s m
def spValX (C : Nat → Addr) : Sp := fun vs H Q E => ∃ (x : V) (n : String), vs = [x] ∧ Th H x n ∧ (isI n = true → Q .non H) ∧ (isI n = false → E (.ref (C 3)) none H)
def spSideX (K : PySem.W.Frag) (C : Nat → Addr) : Sp := fun vs H Q E => ∃ x : V, vs = [x] ∧ ((GoodS H x ∧ Q .non H) ∨ (BadS K H x ∧ E (.ref (C 0)) none H))
def rNotInT (K : PySem.W.Frag) : R2 := fun x y H Q => ∃ d ds, Dp K H x d ∧ Dp K H y (.tuple ds) ∧ SeqAt.shaped d = true ∧ PyData.canLayAll0 ds = true ∧ PyData.depthAll ds ≤ 60 ∧ Q (.bl (!ds.any fun z => PyData.eqv z d)) H
theorem op_notInT {X : Cx} (hu : X.A.units + 64 < cLine) : OpR X (compareOp .NotIn) (rNotInT X.K) := by
  intro pins sh st H x y v u Q iv rx ry h
  obtain ⟨d, ds, hd, he, sd, se, sz, q⟩ := h
  obtain ⟨as, r1⟩ := Dp.reads iv d x v hd rx
  obtain ⟨bs, r2⟩ := Dp.reads iv (.tuple ds) y u he ry
  refine SeqAt.notIn_tuple_reads r2 r1 se (SeqAt.canLay_of_shaped sd) ?_ ⟨.bl _, H, iv, rfl, q⟩
  have : min (PyData.depthAll ds) d.depth ≤ PyData.depthAll ds := Nat.min_le_left _ _
  omega
/-- the table of modes -/
structure ModT (K : PySem.W.Frag) (mg : Str → Option Value) (aM : Addr) : Prop where
  gM : mg "MODES" = some (.ref aM)
  tM : ∀ H, SqT K H aM modesV
theorem dpModes {K : PySem.W.Frag} {H : Hp} {aM : Addr} (t : SqT K H aM modesV) : Dp K H (.ref aM) (.tuple modesD) := .tup t (.cons (.str _) (.cons (.str _) (.cons (.str _) (.cons (.str _) (.cons (.str _) .nil)))))
theorem mode_inX {m : Str} (h : Mode m) : SeqAt.shaped (.str m) = true ∧ (modesD.any fun z => PyData.eqv z (.str m)) = true := by
  rcases h with e | e | e | e | e <;> subst e <;> decide +kernel
section
variable {P : Program} {w : World} {K : PySem.W.Frag} {mg : Str → Option Value} {base : Heap} {aM fI fB fV fC fL fN fW B : Addr} {dI dB dV dC dL dN dW : FuncData} {C : Nat → Addr}
theorem ok_val_x {f : Addr} {fd : FuncData} (F : Fun K "check_value" "check_value" s_check_value f fd) (R : Er K mg C B) (I : Cal P w K mg base "is_int" 1 ["thing"] spIsAny fI dI) : FnOk P w K mg base (L2.CX P w) 2 f fd ["value"] (spValX C) := by
  refine F.okX sc_check_value (fun vs H Q E h => ?_) (fun cdv A outer s H vs Q E hr h => ?_)
  · obtain ⟨x, n, rfl, _⟩ := h
    rfl
  · obtain ⟨x, n, rfl, t, q1, q2⟩ := h
    refine ⟨_, pss_one (ps_if (pt_not (pt_val (pcl I hr (by decide) (by rfl) (pa_cons (pv 0) pa_nil)))) (pss_one (ps_raise rfl (takes_of rfl rfl rfl rfl) (pmk_own PySem.F.excBase_ValueError (R.ex 3 (by decide)) R.g3 (R.kp 3 (by decide)) (raises_own (R.sb 3 (by decide)) (R.ty 3 (by decide))) (by rfl)))) pss_nil), ?_⟩
    walk_at "rd"
    refine ⟨x, n, rfl, t, ?_⟩
    walk_at "rd"
    refine ite2 (fun h => ?_) (fun h => ?_)
    · exact q2 (by simpa using h)
    · exact q1 (not_f h)
end
end HT
namespace HT
open PySem L2
section
variable {P : Program} {w : World} {K : PySem.W.Frag} {mg : Str → Option Value} {base : Heap} {aM fI fB fV fC fL fN fW B : Addr} {dI dB dV dC dL dN dW : FuncData} {C : Nat → Addr}
theorem ok_side_x {f : Addr} {fd : FuncData} (F : Fun K "check_side" "check_side" s_check_side f fd) (T : ChkT mg) (M : ModT K mg aM) (R : Er K mg C B) (Bt : Cal P w K mg base "is_int_between" 2 ["thing", "least", "most"] spBetAny fB dB) : FnOk P w K mg base (L2.CX P w) 3 f fd ["side"] (spSideX K C) := by
  refine F.okAny sc_check_side (fun vs H Q E h => ?_) (fun cdv A outer s0 H vs Q E hr h => ?_)
  · obtain ⟨x, rfl, _⟩ := h
    rfl
  · obtain ⟨x, rfl, h⟩ := h
    have nd := sc_check_side.nd
    refine ⟨_, pss_cons (ps_if (PW.pt (pw_or (pt_not (pt_val (pe_callB call_isi (by rfl) T.isi (by decide +kernel) (pa_cons (pv 0) (pa_cons (pe_bltn (v := .ty "tuple") (by rfl) T.tuple (by decide +kernel) rfl) pa_nil)))))
        (pw_or1 (pt_cmpR op_ne (pe_callB call_len_seq (by rfl) T.len PySem.boot_len (pa_cons (pv 0) pa_nil)) pe_int (nomark _))))) (pss_one (ps_raise rfl (takes_of rfl rfl rfl rfl) (pmk_own PySem.F.excBase_ValueError (R.ex 0 (by decide)) R.g0 (R.kp 0 (by decide)) (raises_own (R.sb 0 (by decide)) (R.ty 0 (by decide))) (by rfl)))) pss_nil)
      (pss_cons (ps_asg (pv 0) (pg_tup (by rfl) (pgs_cons (pg_name (i := 1) nd rfl (Or.inl rfl)) (pgs_cons (pg_name (i := 2) nd rfl (Or.inl rfl)) (pgs_cons (pg_name (i := 3) nd rfl (Or.inl rfl)) pgs_nil)))))
      (pss_cons (ps_if (pt_not (pt_val (pcl Bt hr (by decide) (by rfl) (pa_cons (pv 1) (pa_cons (pe_un un_neg (pe_op op_pow pe_int pe_int)) (pa_cons (pe_op op_pow pe_int pe_int) pa_nil)))))) (pss_one (ps_raise rfl (takes_of rfl rfl rfl rfl) (pmk_own PySem.F.excBase_ValueError (R.ex 0 (by decide)) R.g0 (R.kp 0 (by decide)) (raises_own (R.sb 0 (by decide)) (R.ty 0 (by decide))) (by rfl)))) pss_nil)
      (pss_cons (ps_if (pt_not (pt_val (pcl Bt hr (by decide) (by rfl) (pa_cons (pv 2) (pa_cons pe_int (pa_cons (pe_op op_pow pe_int pe_int) pa_nil)))))) (pss_one (ps_raise rfl (takes_of rfl rfl rfl rfl) (pmk_own PySem.F.excBase_ValueError (R.ex 0 (by decide)) R.g0 (R.kp 0 (by decide)) (raises_own (R.sb 0 (by decide)) (R.ty 0 (by decide))) (by rfl)))) pss_nil)
      (pss_one (ps_if (pt_cmpR (op_notInT hr.units) (pv 3) (pe_glob (v := .ref aM) (by rfl) M.gM rfl) (by rfl)) (pss_one (ps_raise rfl (takes_of rfl rfl rfl rfl) (pmk_own PySem.F.excBase_ValueError (R.ex 0 (by decide)) R.g0 (R.kp 0 (by decide)) (raises_own (R.sb 0 (by decide)) (R.ty 0 (by decide))) (by rfl)))) pss_nil))))), ?_⟩
    walk_at "rd"
    rcases h with ⟨⟨p, o, s, m, rfl, hp, S⟩, q⟩ | ⟨bad, q⟩
    · refine ⟨_, _, _, _, _, rfl, .ty "tuple", .base (.tup hp), kit_ty (r := true) (by decide +kernel), ?_⟩
      walk_at "rd"
      refine ⟨p, _, rfl, .inr (SqT.of hp), rfl, ?_⟩
      walk_at "rd"
      refine ⟨p, _, rfl, SqT.of hp, rfl, _, _, rfl, _, _, rfl, _, _, rfl, rfl, ?_⟩
      walk_at "rd"
      refine ⟨⟨by decide, by decide, by decide⟩, ?_⟩
      walk_at "rd"
      refine ⟨⟨by decide, by decide, by decide⟩, _, _, _, _, rfl, .int o, ?_⟩
      have e1 : inB (.int o) (-(10 : Int) ^ (40 : Int).toNat) ((10 : Int) ^ (40 : Int).toNat) = true := by
        show (decide (-(10 : Int) ^ (40 : Int).toNat ≤ o) && decide (o ≤ (10 : Int) ^ (40 : Int).toNat)) = true
        rw [decide_eq_true (show -(10 : Int) ^ (40 : Int).toNat ≤ o from S.o0), decide_eq_true (show o ≤ (10 : Int) ^ (40 : Int).toNat from S.o1)]
        rfl
      refine ⟨_, rfl, ?_⟩
      refine ite2 (fun h => (not_t h e1).elim) (fun _ => ?_)
      walk_at "rd"
      refine ⟨⟨by decide, by decide, by decide⟩, _, _, _, _, rfl, .int s, ?_⟩
      have e2 : inB (.int s) 1 ((10 : Int) ^ (30 : Int).toNat) = true := by
        show (decide ((1 : Int) ≤ s) && decide (s ≤ (10 : Int) ^ (30 : Int).toNat)) = true
        rw [decide_eq_true S.s0, decide_eq_true (show s ≤ (10 : Int) ^ (30 : Int).toNat from S.s1)]
        rfl
      refine ⟨_, rfl, ?_⟩
      refine ite2 (fun h => (not_t h e2).elim) (fun _ => ?_)
      walk_at "rd"
      refine ⟨_, _, .str m, dpModes (M.tM H), (mode_inX S.md).1, by decide +kernel, by decide +kernel, ?_⟩
      walk_at "rd"
      refine ite2 (fun h => (not_t h (mode_inX S.md).2).elim) (fun _ => ?_)
      exact q
    · cases bad with
      | kind t h =>
        refine ⟨_, _, _, _, _, rfl, .ty "tuple", t.ty, t.ktup, ?_⟩
        walk_at "rd"
        refine ite2 (fun _ => ?_) (fun z => absurd (by rw [h]; rfl) z)
        exact q
      | len hp h =>
        refine ⟨_, _, _, _, _, rfl, .ty "tuple", .base (.tup hp), kit_ty (r := true) (by decide +kernel), ?_⟩
        walk_at "rd"
        refine ⟨_, _, rfl, .inr (SqT.of hp), ?_⟩
        walk_at "rd"
        refine ⟨rfl, ?_⟩
        walk_at "rd"
        refine ite2 (fun _ => q) (fun z => absurd ?_ z)
        rw [dec_int, decide_eq_false (fun y => h (by omega))]
        rfl
      | off hp t h =>
        refine ⟨_, _, _, _, _, rfl, .ty "tuple", .base (.tup hp), kit_ty (r := true) (by decide +kernel), ?_⟩
        walk_at "rd"
        refine ⟨_, _, rfl, .inr (SqT.of hp), rfl, ?_⟩
        walk_at "rd"
        refine ⟨_, _, rfl, SqT.of hp, rfl, _, _, rfl, _, _, rfl, _, _, rfl, rfl, ?_⟩
        walk_at "rd"
        refine ⟨⟨by decide, by decide, by decide⟩, ?_⟩
        walk_at "rd"
        refine ⟨⟨by decide, by decide, by decide⟩, _, _, _, _, rfl, t, ?_⟩
        refine ⟨_, rfl, ?_⟩
        exact ite2 (fun _ => q) (fun z => absurd (by rw [show inB _ (-(10 : Int) ^ (40 : Int).toNat) ((10 : Int) ^ (40 : Int).toNat) = false from h]; rfl) z)
      | stp hp t h u g =>
        refine ⟨_, _, _, _, _, rfl, .ty "tuple", .base (.tup hp), kit_ty (r := true) (by decide +kernel), ?_⟩
        walk_at "rd"
        refine ⟨_, _, rfl, .inr (SqT.of hp), rfl, ?_⟩
        walk_at "rd"
        refine ⟨_, _, rfl, SqT.of hp, rfl, _, _, rfl, _, _, rfl, _, _, rfl, rfl, ?_⟩
        walk_at "rd"
        refine ⟨⟨by decide, by decide, by decide⟩, ?_⟩
        walk_at "rd"
        refine ⟨⟨by decide, by decide, by decide⟩, _, _, _, _, rfl, t, ?_⟩
        refine ⟨_, rfl, ?_⟩
        refine ite2 (fun z => (not_t z (show inB _ (-(10 : Int) ^ (40 : Int).toNat) ((10 : Int) ^ (40 : Int).toNat) = true from h)).elim) (fun _ => ?_)
        walk_at "rd"
        refine ⟨⟨by decide, by decide, by decide⟩, _, _, _, _, rfl, u, ?_⟩
        refine ⟨_, rfl, ?_⟩
        exact ite2 (fun _ => q) (fun z => absurd (by rw [show inB _ 1 ((10 : Int) ^ (30 : Int).toNat) = false from g]; rfl) z)
      | mod hp t h u g dp hd =>
        refine ⟨_, _, _, _, _, rfl, .ty "tuple", .base (.tup hp), kit_ty (r := true) (by decide +kernel), ?_⟩
        walk_at "rd"
        refine ⟨_, _, rfl, .inr (SqT.of hp), rfl, ?_⟩
        walk_at "rd"
        refine ⟨_, _, rfl, SqT.of hp, rfl, _, _, rfl, _, _, rfl, _, _, rfl, rfl, ?_⟩
        walk_at "rd"
        refine ⟨⟨by decide, by decide, by decide⟩, ?_⟩
        walk_at "rd"
        refine ⟨⟨by decide, by decide, by decide⟩, _, _, _, _, rfl, t, ?_⟩
        refine ⟨_, rfl, ?_⟩
        refine ite2 (fun z => (not_t z (show inB _ (-(10 : Int) ^ (40 : Int).toNat) ((10 : Int) ^ (40 : Int).toNat) = true from h)).elim) (fun _ => ?_)
        walk_at "rd"
        refine ⟨⟨by decide, by decide, by decide⟩, _, _, _, _, rfl, u, ?_⟩
        refine ⟨_, rfl, ?_⟩
        refine ite2 (fun z => (not_t z (show inB _ 1 ((10 : Int) ^ (30 : Int).toNat) = true from g)).elim) (fun _ => ?_)
        walk_at "rd"
        refine ⟨_, _, dp.dp, dpModes (M.tM H), hd.1, by decide +kernel, by decide +kernel, ?_⟩
        walk_at "rd"
        refine ite2 (fun _ => q) (fun z => absurd (by rw [hd.2]; rfl) z)
end
end HT
namespace HT
open PySem L2
def GoodL (H : Hp) (l : Addr) (xs : List V) : Prop := H l = some (.lst xs) ∧ 1 ≤ xs.length ∧ xs.length ≤ 4 ∧ ∀ y ∈ xs, GoodS H y
/-- no list of sides -/
inductive BadL (K : PySem.W.Frag) (H : Hp) : V → Prop where
  | kind {x : V} {n : String} (t : Th H x n) (h : (n == "list") = false) : BadL K H x
  | len {l : Addr} {xs : List V} (hl : H l = some (.lst xs)) (h : ¬ (1 ≤ xs.length ∧ xs.length ≤ 4)) : BadL K H (.ref l)
  | item {l : Addr} {xs : List V} {i : Nat} {y : V} (hl : H l = some (.lst xs)) (h1 : 1 ≤ xs.length) (h2 : xs.length ≤ 4) (hi : xs[i]? = some y) (bad : BadS K H y) (good : ∀ j z, j < i → xs[j]? = some z → GoodS H z) : BadL K H (.ref l)
def spIsSideX (K : PySem.W.Frag) : Sp := fun vs H Q _ => ∃ x : V, vs = [x] ∧ ((GoodS H x ∧ Q (.bl true) H) ∨ (BadS K H x ∧ Q (.bl false) H))
def spSidesX (K : PySem.W.Frag) (C : Nat → Addr) : Sp := fun vs H Q E => ∃ x : V, vs = [x] ∧ ((∃ l xs, x = .ref l ∧ GoodL H l xs ∧ Q .non H) ∨ (BadL K H x ∧ E (.ref (C 1)) none H))
/-- the numbers of among's top -/
structure AmT (mg : Str → Option Value) : Prop where
  ms : ∃ t, mg "MOST_SIDES" = some (.int 4 t)
section
variable {P : Program} {w : World} {K : PySem.W.Frag} {mg : Str → Option Value} {base : Heap} {aM fI fB fV fC fL fN fW B : Addr} {dI dB dV dC dL dN dW : FuncData} {C : Nat → Addr}
theorem ok_is_side_x {f : Addr} {fd : FuncData} (F : Fun K "is_side" "is_side" s_is_side f fd) (R : Er K mg C B) (Ck : CalX P w K mg base "check_side" 3 ["side"] (spSideX K C) fC dC) : FnOk P w K mg base CX0 4 f fd ["thing"] (spIsSideX K) := by
  refine F.ok sc_is_side (fun vs H Q E h => ?_) (fun cdv A outer s0 H vs Q E hr h => ?_)
  · obtain ⟨x, rfl, _⟩ := h
    rfl
  · obtain ⟨x, rfl, h⟩ := h
    refine ⟨_, pss_cons (ps_try_only rfl rfl ⟨rfl, by decide, .inl R.g0⟩ takes0 (fun W pn xe tk _ => pss_one (ps_expr (pcx Ck hr (by decide) (by rfl) tk (pa_cons (pv 0) pa_nil)))) (fun a oe cls d pn _ _ => pss_one (ps_ret pe_bl))) (pss_one (ps_ret pe_bl)), ?_⟩
    walk_at "rd"
    rcases h with ⟨good, q⟩ | ⟨bad, q⟩
    · refine .inl ⟨good, ?_⟩
      walk_at "rd"
      exact q
    · refine .inr ⟨bad, ?_⟩
      exact ⟨true, R.em0, fun _ a ha => q, fun z => Bool.noConfusion z⟩
theorem ok_sides_x {f : Addr} {fd : FuncData} (F : Fun K "check_sides" "check_sides" s_check_sides f fd) (T : ChkT mg) (A' : AmT mg) (R : Er K mg C B) (Ck : Cal P w K mg base "is_side" 4 ["thing"] (spIsSideX K) fC dC) : FnOk P w K mg base (L2.CX P w) 5 f fd ["sides"] (spSidesX K C) := by
  refine F.okAny sc_check_sides (fun vs H Q E h => ?_) (fun cdv A outer s0 H vs Q E hr h => ?_)
  · obtain ⟨x, rfl, _⟩ := h
    rfl
  · obtain ⟨x, rfl, h⟩ := h
    have nd := sc_check_sides.nd
    obtain ⟨tms, hms⟩ := A'.ms
    refine ⟨_, pss_cons (ps_if (PW.pt (pw_or (pt_not (pt_val (pe_callB call_isi (by rfl) T.isi (by decide +kernel) (pa_cons (pv 0) (pa_cons (pe_bltn (v := .ty "list") (by rfl) T.list (by decide +kernel) rfl) pa_nil)))))
        (pw_or1 (pt_not (pt_chain op_le op_le pe_int (pe_callB call_len_seq (by rfl) T.len PySem.boot_len (pa_cons (pv 0) pa_nil)) (pe_glob (v := .int 4) (by rfl) hms ⟨_, rfl⟩)))))) (pss_one (ps_raise rfl (takes_of rfl rfl rfl rfl) (pmk_own PySem.F.excBase_ValueError (R.ex 1 (by decide)) R.g1 (R.kp 1 (by decide)) (raises_own (R.sb 1 (by decide)) (R.ty 1 (by decide))) (by rfl)))) pss_nil)
      (pss_one (ps_for (passes_of rfl) rfl (pi_list (pv 0)) (pg_name (i := 1) nd rfl (Or.inl rfl))
        (pss_one (ps_if (pt_not (pt_val (pcl Ck hr (by decide) (by rfl) (pa_cons (pv 1) pa_nil)))) (pss_one (ps_raise rfl (takes_of rfl rfl rfl rfl) (pmk_own PySem.F.excBase_ValueError (R.ex 1 (by decide)) R.g1 (R.kp 1 (by decide)) (raises_own (R.sb 1 (by decide)) (R.ty 1 (by decide))) (by rfl)))) pss_nil)))), ?_⟩
    walk_at "rd"
    rcases h with ⟨l, xs, rfl, ⟨hl, l1, l4, good⟩, q⟩ | ⟨bad, q⟩
    · refine ⟨_, _, _, _, _, rfl, .ty "list", .base (.lst hl), kit_ty (r := true) (by decide +kernel), ?_⟩
      walk_at "rd"
      refine ⟨l, _, rfl, .inl (SqL.of hl), ?_⟩
      walk_at "rd"
      refine ite2 (fun _ => ?_) (fun z => absurd (decide_eq_true (by omega)) z)
      walk_at "rd"
      refine ite2 (fun z => ?_) (fun _ => ?_)
      · exfalso
        have e : decide ((xs.length : Int) ≤ 4) = true := decide_eq_true (by omega)
        exact not_t z e
      walk_at "rd"
      refine ⟨⟨_, SqL.of hl⟩, ?_⟩
      refine for_list (K := K) (a := l) (xs := xs) (fun i σ H' => ∃ y : Option V, σ = [some (.ref l), y] ∧ H' = H) ⟨none, rfl, rfl⟩ (fun _ _ _ _ ⟨_, _, e⟩ => e ▸ SqL.of hl) ?_ ?_
      · rintro i y σ H' hy ⟨z, rfl, rfl⟩
        walk_at "rd"
        refine .inl ⟨good y (List.mem_of_getElem? hy), _, rfl, ?_⟩
        refine ite2 (fun z => (not_t z rfl).elim) (fun _ => ?_)
        exact ⟨_, rfl, rfl⟩
      · rintro σ H' ⟨z, rfl, rfl⟩
        exact q
    · cases bad with
      | kind t h =>
        refine ⟨_, _, _, _, _, rfl, .ty "list", t.ty, t.klst, ?_⟩
        walk_at "rd"
        refine ite2 (fun _ => ?_) (fun z => absurd (by rw [h]; rfl) z)
        exact q
      | @len l xs hl h =>
        refine ⟨_, _, _, _, _, rfl, .ty "list", .base (.lst hl), kit_ty (r := true) (by decide +kernel), ?_⟩
        walk_at "rd"
        refine ⟨l, _, rfl, .inl (SqL.of hl), ?_⟩
        walk_at "rd"
        refine ite2 (fun z1 => ?_) (fun z1 => ?_)
        · have z1' := of_decide_eq_true z1
          walk_at "rd"
          refine ite2 (fun _ => q) (fun z => absurd ?_ z)
          have e : decide ((xs.length : Int) ≤ 4) = false := decide_eq_false (by omega)
          rw [e]
          rfl
        · walk_at "rd"
          exact q
      | @item l xs i0 y0 hl l1 l4 hi bad good =>
        refine ⟨_, _, _, _, _, rfl, .ty "list", .base (.lst hl), kit_ty (r := true) (by decide +kernel), ?_⟩
        walk_at "rd"
        refine ⟨l, _, rfl, .inl (SqL.of hl), ?_⟩
        walk_at "rd"
        refine ite2 (fun _ => ?_) (fun z => absurd (decide_eq_true (by omega)) z)
        walk_at "rd"
        refine ite2 (fun z => ?_) (fun _ => ?_)
        · exfalso
          have e : decide ((xs.length : Int) ≤ 4) = true := decide_eq_true (by omega)
          exact not_t z e
        walk_at "rd"
        refine ⟨⟨_, SqL.of hl⟩, ?_⟩
        have i0l : i0 < xs.length := (List.getElem?_eq_some_iff.mp hi).1
        refine for_list (K := K) (a := l) (xs := xs) (fun i σ H' => ∃ y : Option V, σ = [some (.ref l), y] ∧ H' = H ∧ i ≤ i0) ⟨none, rfl, rfl, Nat.zero_le _⟩ (fun _ _ _ _ ⟨_, _, e, _⟩ => e ▸ SqL.of hl) ?_ ?_
        · rintro i y σ H' hy ⟨z, rfl, rfl, le⟩
          walk_at "rd"
          rcases Nat.lt_or_eq_of_le le with lt | eq
          · refine .inl ⟨good i y lt hy, _, rfl, ?_⟩
            refine ite2 (fun z => (not_t z rfl).elim) (fun _ => ?_)
            exact ⟨_, rfl, rfl, lt⟩
          · subst eq
            have ey : y = y0 := by rw [hi] at hy; exact (Option.some.inj hy).symm
            subst ey
            refine .inr ⟨bad, _, rfl, ?_⟩
            refine ite2 (fun _ => ?_) (fun z => absurd rfl z)
            exact q
        · rintro σ H' ⟨z, rfl, rfl, le⟩
          omega
end
end HT
namespace HT
open PySem L2
/-- an instance of the class of sides: its tuple and its form -/
def SideI (C : Addr) (H : Hp) (x : Addr) (o s : Int) (m : Str) : Prop := ∃ dx p q : Addr, H x = some (.ins C dx [("_data", .ref p), ("_form", .ref q)]) ∧ H p = some (sideV o s m) ∧ H q = some (sideV (formO o s (firstM s m)) s (firstM s m)) ∧ SideP o s m
theorem SideI.same {C : Addr} {H H' : Hp} {x : Addr} {o s : Int} {m : Str} (h : SideI C H x o s m) (e : Same H H') : SideI C H' x o s m :=
  let ⟨dx, p, q, a, b, c, d⟩ := h; ⟨dx, p, q, e _ _ a, e _ _ b, e _ _ c, d⟩
def spSInit (C : Addr) : Sp := fun vs H Q _ => ∃ (x dx p : Addr) (o s : Int) (m : Str), vs = [.ref x, .ref p] ∧ H x = some (.ins C dx []) ∧ H p = some (sideV o s m) ∧ SideP o s m ∧
  ∀ H', (∀ b u, b ≠ x → H b = some u → H' b = some u) → SideI C H' x o s m → Q .non H'
section
variable {P : Program} {w : World} {K : PySem.W.Frag} {mg : Str → Option Value} {base : Heap} {C fC fM fH : Addr} {dC dM dH : FuncData}
theorem ok_S_init {f : Addr} {fd : FuncData} (F : Fun K "__init__" "Side.__init__" s_S_init f fd) (c : Cls K C) (n1 : NoAttr K C "_data") (n2 : NoAttr K C "_form") (Ck : Cal P w K mg base "check_side" 3 ["side"] spCheckSide fC dC) (Fm : Cal P w K mg base "form" 4 ["side"] spForm fM dM) : FnOk P w K mg base CX0 5 f fd ["self", "data"] (spSInit C) := by
  refine F.ok sc_S_init (fun vs H Q E h => ?_) (fun cdv A outer s0 H vs Q E hr h => ?_)
  · obtain ⟨x, dx, p, o, s, m, rfl, _⟩ := h
    rfl
  · obtain ⟨x, dx, p, o, s, m, rfl, hx, hp, S, q⟩ := h
    have nd := sc_S_init.nd
    refine ⟨_, pss_cons (ps_expr (pcl Ck hr (by decide) (by rfl) (pa_cons (pv 1) pa_nil)))
      (pss_cons (ps_fld (pv 0) (pv 1) (by rfl))
      (pss_one (ps_fld (pv 0) (pcl Fm hr (by decide) (by rfl) (pa_cons (pv 1) pa_nil)) (by rfl)))), ?_⟩
    walk_at "rd"
    refine ⟨p, o, s, m, rfl, hp, S, ?_⟩
    walk_at "rd"
    refine ⟨x, C, dx, [], rfl, hx, c, n1, by decide, ?_⟩
    have nxp : x ≠ p := ne_of hx hp (by intro z; cases z)
    have hp1 := (upd_ne (o := .ins C dx (putF "_data" (.ref p) [])) nxp.symm).trans hp
    have hx1 : upd H x (.ins C dx (putF "_data" (.ref p) [])) x = some (.ins C dx (putF "_data" (.ref p) [])) := upd_same
    walk_at "rd"
    refine ⟨p, o, s, m, rfl, hp1, S, fun d H' s1 nd' hd => ?_⟩
    walk_at "rd"
    refine ⟨x, C, dx, _, rfl, s1 _ _ hx1, c, n2, (by show 1 < 1000; decide), ?_⟩
    have ndx : d ≠ x := fun e => by rw [e, hx1] at nd'; cases nd'
    refine q _ (fun b u hb e => (upd_ne hb).trans (s1 _ _ ((upd_ne hb).trans e))) ⟨dx, p, d, upd_same, (upd_ne nxp.symm).trans (s1 _ _ hp1), (upd_ne ndx).trans hd, S⟩
/-- a new side by a call of its class -/
theorem make_side {H : Hp} {p : Addr} {o s : Int} {m : Str} {Q : VK} {E : XK} (hp : H p = some (sideV o s m)) (S : SideP o s m) (q : ∀ x H', H x = none → Same H H' → SideI C H' x o s m → Q (.ref x) H') :
    ∀ x dx, H x = none → H dx = none → dx ≠ x → spSInit C (.ref x :: ([.ref p] ++ [])) (upd (upd H dx (.own x)) x (.ins C dx [])) (fun v H2 => v = .non ∧ Q (.ref x) H2) E := by
  intro x dx hx hdx ne
  have npx : p ≠ x := ne_of_none hp hx
  have npd : p ≠ dx := ne_of_none hp hdx
  refine ⟨x, dx, p, o, s, m, rfl, upd_same, (upd_ne npx).trans ((upd_ne npd).trans hp), S, fun H' sm I => ⟨rfl, q x H' hx (fun b u z => ?_) I⟩⟩
  exact sm b u (ne_of_none z hx) ((upd_ne (ne_of_none z hx)).trans ((upd_ne (ne_of_none z hdx)).trans z))
/-- the side's tuple -/
def spSData (C : Addr) : Sp := fun vs H Q _ => ∃ (x dx p q : Addr), vs = [.ref x] ∧ H x = some (.ins C dx [("_data", .ref p), ("_form", .ref q)]) ∧ Q (.ref p) H
theorem ok_S_data {f : Addr} {fd : FuncData} (F : Fun K "data" "Side.data" s_S_data f fd) (c : Cls K C) (n1 : NoAttr K C "_data") : FnOk P w K mg base CX0 1 f fd ["self"] (spSData C) := by
  refine F.ok sc_S_data (fun vs H Q E h => ?_) (fun cdv A outer s0 H vs Q E hr h => ?_)
  · obtain ⟨x, dx, p, q, rfl, _⟩ := h
    rfl
  · obtain ⟨x, dx, p, q, rfl, hx, k⟩ := h
    refine ⟨_, pss_one (ps_ret (pe_fld (pv 0) rfl)), ?_⟩
    walk_at "rd"
    exact ⟨x, C, dx, _, .ref p, rfl, hx, c, n1, rfl, k⟩
/-- what a side writes -/
def spSCall (C : Addr) : Sp := fun vs H Q _ => ∃ (x : Addr) (o s : Int) (m : Str) (v : Int), vs = [.ref x, .int v] ∧ SideI C H x o s m ∧ Bd v ∧ ∀ H', Same H H' → Q (.int (dueM o s m v)) H'
theorem ok_S_call {f : Addr} {fd : FuncData} (F : Fun K "__call__" "Side.__call__" s_S_call f fd) (c : Cls K C) (n1 : NoAttr K C "_data") (Hd : Cal P w K mg base "handed" 5 ["side", "value"] spDue fH dH) : FnOk P w K mg base CX0 6 f fd ["self", "value"] (spSCall C) := by
  refine F.ok sc_S_call (fun vs H Q E h => ?_) (fun cdv A outer s0 H vs Q E hr h => ?_)
  · obtain ⟨x, o, s, m, v, rfl, _⟩ := h
    rfl
  · obtain ⟨x, o, s, m, v, rfl, ⟨dx, p, q, hx, hp, hq, S⟩, hv, k⟩ := h
    refine ⟨_, pss_one (ps_ret (pcl Hd hr (by decide) (by rfl) (pa_cons (pe_fld (pv 0) rfl) (pa_cons (pv 1) pa_nil)))), ?_⟩
    walk_at "rd"
    refine ⟨x, C, dx, _, .ref p, rfl, hx, c, n1, rfl, ?_⟩
    walk_at "rd"
    exact ⟨p, o, s, m, v, rfl, hp, S, hv, fun H' s1 => k H' s1⟩
end
end HT
namespace HT
open PySem L2
def sideD (o s : Int) (m : Str) : PyData := .tuple [.int o, .int s, .str m]
theorem dpSide {K : PySem.W.Frag} {H : Hp} {p : Addr} {o s : Int} {m : Str} (h : H p = some (sideV o s m)) : Dp K H (.ref p) (sideD o s m) := .tup (SqT.of h) (.cons (.int _) (.cons (.int _) (.cons (.str _) .nil)))
theorem shaped_side {o s : Int} {m : Str} (h : Mode m) : SeqAt.shaped (sideD o s m) = true := by
  have key : ∀ x : Str, PyData.canLay0 (.str x) = true → SeqAt.shaped (sideD o s x) = true := fun x hx => by
    show ((true && (true && (PyData.canLay0 (.str x) && true))) && true) = true
    rw [hx]
    rfl
  rcases h with e | e | e | e | e <;> subst e <;> exact key _ (by decide +kernel)
theorem eqv_side (o s o' s' : Int) (m m' : Str) : PyData.eqv (sideD o s m) (sideD o' s' m') = decide (o = o' ∧ s = s' ∧ m = m') := by
  unfold sideD
  simp only [PyData.eqv, PyData.eqvAll, Bool.and_true]
  by_cases a : o = o'
  · by_cases b : s = s'
    · by_cases c : m = m'
      · subst a; subst b; subst c; simp
      · subst a; subst b; simp [c]
    · subst a; simp [b]
  · simp [a]
end HT
namespace HT
open PySem L2
/-- what the text must have of an own class -/
structure OwnC (K : PySem.W.Frag) (C : Addr) : Prop where
  cls : Cls K C
  ca : PySem.W.findIn K (.ref C) "__class__" = some (some (.builtin "object.__class__"))
  cg : PySem.W.specialIn K (.builtin "object.__class__") "__get__" = some (some (.builtin "getset_descriptor.__get__"))
  ct : PySem.W.takesIn K (.builtin "object.__class__") = some true
  mo : PySem.W.mroIn K C (.type "object") = some true
  self : PySem.W.kitOne K (.ref C) (.ref C) = some true
theorem OwnC.ty {K : PySem.W.Frag} {C : Addr} (c : OwnC K C) {H : Hp} {a dx : Addr} {fs : List (Str × V)} (e : H a = some (.ins C dx fs)) : TyX K H (.ref a) (.ref C) := .base (.ins e c.cls c.ca c.cg c.ct c.mo)
def spSGet (C : Addr) : Sp := fun vs H Q _ => ∃ (x : Addr) (o s : Int) (m : Str) (v : Int), vs = [.ref x, .int v] ∧ SideI C H x o s m ∧ (-2 ^ 900 < v ∧ v < 2 ^ 900) ∧ Q (.int (o + s * v)) H
def spSHas (C : Addr) : Sp := fun vs H Q _ => ∃ (x : Addr) (o s : Int) (m : Str) (y : V), vs = [.ref x, y] ∧ SideI C H x o s m ∧ ((∃ v : Int, y = .int v ∧ Bd v ∧ ∀ H', Same H H' → Q (.bl (decide ((v - o) % s = 0))) H') ∨ (∃ n, Th H y n ∧ isI n = false ∧ Q (.bl false) H))
def spSEq (K : PySem.W.Frag) (C : Addr) : Sp := fun vs H Q _ => ∃ (x : Addr) (o s : Int) (m : Str) (y : V), vs = [.ref x, y] ∧ SideI C H x o s m ∧
  ((∃ (b : Addr) (o' s' : Int) (m' : Str), y = .ref b ∧ SideI C H b o' s' m' ∧ Q (.bl (PyData.eqv (sideD (formO o s (firstM s m)) s (firstM s m)) (sideD (formO o' s' (firstM s' m')) s' (firstM s' m')))) H) ∨ (∃ t, TyX K H y t ∧ PySem.W.kitOne K t (.ref C) = some false ∧ Q (.bl false) H))
def spSNeg (C : Addr) : Sp := fun vs H Q _ => ∃ (x : Addr) (o s : Int) (m : Str), vs = [.ref x] ∧ SideI C H x o s m ∧ ∀ x' H', H x' = none → Same H H' → SideI C H' x' (-o) s (mir m) → Q (.ref x') H'
section
variable {P : Program} {w : World} {K : PySem.W.Frag} {mg : Str → Option Value} {base : Heap} {C fC fM fH fV fI fi : Addr} {dC dM dH dV dI di : FuncData}
theorem ok_S_get {f : Addr} {fd : FuncData} (F : Fun K "__getitem__" "Side.__getitem__" s_S_get f fd) (c : Cls K C) (n1 : NoAttr K C "_data") (Vl : Cal P w K mg base "check_value" 2 ["value"] spCheckValue fV dV) : FnOk P w K mg base CX0 3 f fd ["self", "figure"] (spSGet C) := by
  refine F.ok sc_S_get (fun vs H Q E h => ?_) (fun cdv A outer s0 H vs Q E hr h => ?_)
  · obtain ⟨x, o, s, m, v, rfl, _⟩ := h
    rfl
  · obtain ⟨x, o, s, m, v, rfl, ⟨dx, p, q, hx, hp, hq, S⟩, hv, k⟩ := h
    have nd := sc_S_get.nd
    refine ⟨_, pss_cons (ps_expr (pcl Vl hr (by decide) (by rfl) (pa_cons (pv 1) pa_nil)))
      (pss_cons (ps_asg (pe_fld (pv 0) rfl) (pg_tup (by rfl) (pgs_cons (pg_name (i := 2) nd rfl (Or.inl rfl)) (pgs_cons (pg_name (i := 3) nd rfl (Or.inl rfl)) (pgs_cons (pg_name (i := 4) nd rfl (Or.inl rfl)) pgs_nil)))))
      (pss_one (ps_ret (pe_op op_add (pv 2) (pe_op op_mulW (pv 3) (pv 1)))))), ?_⟩
    have s0' := S.s0
    have s1' := S.s1
    walk_at "rd"
    refine ⟨x, C, dx, _, .ref p, rfl, hx, c, n1, rfl, ?_⟩
    refine ⟨p, _, rfl, SqT.of hp, rfl, _, _, rfl, _, _, rfl, _, _, rfl, rfl, ?_⟩
    walk_at "rd"
    refine ⟨mulW (by omega) (by omega), ?_⟩
    walk_at "rd"
    exact k
theorem ok_S_has {f : Addr} {fd : FuncData} (F : Fun K "__contains__" "Side.__contains__" s_S_has f fd) (c : Cls K C) (n1 : NoAttr K C "_data") (Is : Cal P w K mg base "is_int" 1 ["thing"] spIsAny fI dI) (St : Cal P w K mg base "stands" 4 ["side", "value"] spStands fH dH) : FnOk P w K mg base CX0 5 f fd ["self", "value"] (spSHas C) := by
  refine F.ok sc_S_has (fun vs H Q E h => ?_) (fun cdv A outer s0 H vs Q E hr h => ?_)
  · obtain ⟨x, o, s, m, y, rfl, _⟩ := h
    rfl
  · obtain ⟨x, o, s, m, y, rfl, ⟨dx, p, q, hx, hp, hq, S⟩, k⟩ := h
    refine ⟨_, pss_one (ps_ret (pe_and (pcl Is hr (by decide) (by rfl) (pa_cons (pv 1) pa_nil)) (pe_one (pcl St hr (by decide) (by rfl) (pa_cons (pe_fld (pv 0) rfl) (pa_cons (pv 1) pa_nil)))))), ?_⟩
    walk_at "rd"
    rcases k with ⟨v, rfl, hv, k⟩ | ⟨n, ty, ni, k⟩
    · refine ⟨.int v, "int", rfl, .int v, ?_⟩
      walk_at "rd"
      refine ⟨x, C, dx, _, .ref p, rfl, hx, c, n1, rfl, ?_⟩
      walk_at "rd"
      exact ⟨p, o, s, m, v, rfl, hp, S, hv, k⟩
    · refine ⟨y, n, rfl, ty, ?_⟩
      rw [ni]
      walk_at "rd"
      rw [if_neg (by decide)]
      exact k
theorem ok_S_eq {f : Addr} {fd : FuncData} (F : Fun K "__eq__" "Side.__eq__" s_S_eq f fd) (c : OwnC K C) (n2 : NoAttr K C "_form") (isi : mg "isinstance" = none) (gC : mg "Side" = some (.ref C)) : FnOk P w K mg base CX0 2 f fd ["self", "other"] (spSEq K C) := by
  refine F.ok sc_S_eq (fun vs H Q E h => ?_) (fun cdv A outer s0 H vs Q E hr h => ?_)
  · obtain ⟨x, o, s, m, y, rfl, _⟩ := h
    rfl
  · obtain ⟨x, o, s, m, y, rfl, ⟨dx, p, q, hx, hp, hq, S⟩, k⟩ := h
    refine ⟨_, pss_one (ps_ret (pe_and (pe_callB call_isi (by rfl) isi (by decide +kernel) (pa_cons (pv 1) (pa_cons (pe_glob (v := .ref C) (by rfl) gC rfl) pa_nil))) (pe_one (pe_cmpR (show OpR _ _ (rEqD K) from op_eqD hr.units) (pe_fld (pv 0) rfl) (pe_fld (pv 1) rfl) (nomark _))))), ?_⟩
    walk_at "rd"
    rcases k with ⟨b, o', s', m', rfl, ⟨dy, p', q', hy, hp', hq', S'⟩, k⟩ | ⟨t, ty, ki, k⟩
    · refine ⟨.ref b, .ref C, .ref C, .ref C, true, rfl, .own _, c.ty hy, c.self, ?_⟩
      refine ⟨_, rfl, ?_⟩
      rw [if_pos rfl]
      walk_at "rd"
      refine ⟨x, C, dx, _, .ref q, rfl, hx, c.cls, n2, rfl, ?_⟩
      walk_at "rd"
      refine ⟨b, C, dy, _, .ref q', rfl, hy, c.cls, n2, rfl, ?_⟩
      exact ⟨_, _, dpSide hq, dpSide hq', shaped_side (side_form S).md, shaped_side (side_form S').md, k⟩
    · refine ⟨y, .ref C, t, .ref C, false, rfl, .own _, ty, ki, ?_⟩
      refine ⟨_, rfl, ?_⟩
      rw [if_neg (by decide)]
      exact k
theorem ok_S_neg {f : Addr} {fd : FuncData} (F : Fun K "__neg__" "Side.__neg__" s_S_neg f fd) (c : Cls K C) (n1 : NoAttr K C "_data") (gC : mg "Side" = some (.ref C)) (M : Mk K C fi) (Ini : FnOk P w K mg base CX0 5 fi di ["self", "data"] (spSInit C)) (bi : Binds K di ["self", "data"] [])
    (Mi : Cal P w K mg base "mirror" 4 ["side"] spMirror fM dM) : FnOk P w K mg base CX0 7 f fd ["self"] (spSNeg C) := by
  refine F.ok sc_S_neg (fun vs H Q E h => ?_) (fun cdv A outer s0 H vs Q E hr h => ?_)
  · obtain ⟨x, o, s, m, rfl, _⟩ := h
    rfl
  · obtain ⟨x, o, s, m, rfl, ⟨dx, p, q, hx, hp, hq, S⟩, k⟩ := h
    refine ⟨_, pss_one (ps_ret (pe_make M Ini (hr.mono (by decide)) (by rfl) gC bi .nil pass0 (pa_cons (pcl Mi hr (by decide) (by rfl) (pa_cons (pe_fld (pv 0) rfl) pa_nil)) pa_nil))), ?_⟩
    walk_at "rd"
    refine ⟨x, C, dx, _, .ref p, rfl, hx, c, n1, rfl, ?_⟩
    walk_at "rd"
    refine ⟨p, o, s, m, rfl, hp, S, fun d H' s1 nd hd => ?_⟩
    walk_at "rd"
    exact make_side hd (side_mir S) fun x' H2 hx' s2 I2 => k x' H2 (s1.free hx') (s1.trans s2) I2
end
end HT
namespace HT
open PySem L2
/-- a side's hand-over of what is no value -/
def spHandX (C : Nat → Addr) : Sp := fun vs H _ E => ∃ (p : Addr) (o s : Int) (m : Str) (y : V) (n : String), vs = [.ref p, y] ∧ H p = some (sideV o s m) ∧ SideP o s m ∧ Th H y n ∧ isI n = false ∧ E (.ref (C 3)) none H
def spSBad (D : Addr) (C : Nat → Addr) : Sp := fun vs H _ E => ∃ (x : Addr) (o s : Int) (m : Str) (y : V) (n : String), vs = [.ref x, y] ∧ SideI D H x o s m ∧ Th H y n ∧ isI n = false ∧ E (.ref (C 3)) none H
section
variable {P : Program} {w : World} {K : PySem.W.Frag} {mg : Str → Option Value} {base : Heap} {D fC fV fH : Addr} {dC dV dH : FuncData} {C : Nat → Addr}
theorem ok_handed_x {f : Addr} {fd : FuncData} (F : Fun K "handed" "handed" s_handed f fd) (Ck : CalX P w K mg base "check_side" 3 ["side"] (spSideX K C) fC dC) (Vl : CalX P w K mg base "check_value" 2 ["value"] (spValX C) fV dV) : FnOk P w K mg base (L2.CX P w) 4 f fd ["side", "value"] (spHandX C) := by
  refine F.okAny sc_handed (fun vs H Q E h => ?_) (fun cdv A outer s0 H vs Q E hr h => ?_)
  · obtain ⟨p, o, s, m, y, n, rfl, _⟩ := h
    rfl
  · obtain ⟨p, o, s, m, y, n, rfl, hp, S, ty, ni, q⟩ := h
    refine ⟨_, pss_cons (ps_expr (pcx Ck hr (by decide) (by rfl) (takes_of rfl rfl rfl rfl) (pa_cons (pv 0) pa_nil))) (pss_cons (ps_expr (pcx Vl hr (by decide) (by rfl) (takes_of rfl rfl rfl rfl) (pa_cons (pv 1) pa_nil))) pss_never), ?_⟩
    walk_at "rd"
    refine .inl ⟨⟨p, o, s, m, rfl, hp, S⟩, ?_⟩
    walk_at "rd"
    exact ⟨_, n, rfl, ty, fun z => absurd z (by rw [ni]; decide), fun _ => q⟩
theorem ok_S_call_x {f : Addr} {fd : FuncData} (F : Fun K "__call__" "Side.__call__" s_S_call f fd) (c : Cls K D) (n1 : NoAttr K D "_data") (Hd : CalX P w K mg base "handed" 4 ["side", "value"] (spHandX C) fH dH) : FnOk P w K mg base (L2.CX P w) 5 f fd ["self", "value"] (spSBad D C) := by
  refine F.okAny sc_S_call (fun vs H Q E h => ?_) (fun cdv A outer s0 H vs Q E hr h => ?_)
  · obtain ⟨x, o, s, m, y, n, rfl, _⟩ := h
    rfl
  · obtain ⟨x, o, s, m, y, n, rfl, ⟨dx, p, q, hx, hp, hq, S⟩, ty, ni, k⟩ := h
    refine ⟨_, pss_one (ps_ret (pcx Hd hr (by decide) (by rfl) (takes_of rfl rfl rfl rfl) (pa_cons (pe_fld (pv 0) rfl) (pa_cons (pv 1) pa_nil)))), ?_⟩
    walk_at "rd"
    refine ⟨x, D, dx, _, .ref p, rfl, hx, c, n1, rfl, ?_⟩
    walk_at "rd"
    exact ⟨p, o, s, m, y, n, rfl, hp, S, ty, ni, k⟩
theorem ok_S_get_x {f : Addr} {fd : FuncData} (F : Fun K "__getitem__" "Side.__getitem__" s_S_get f fd) (Vl : CalX P w K mg base "check_value" 2 ["value"] (spValX C) fV dV) : FnOk P w K mg base (L2.CX P w) 3 f fd ["self", "figure"] (spSBad D C) := by
  refine F.okAny sc_S_get (fun vs H Q E h => ?_) (fun cdv A outer s0 H vs Q E hr h => ?_)
  · obtain ⟨x, o, s, m, y, n, rfl, _⟩ := h
    rfl
  · obtain ⟨x, o, s, m, y, n, rfl, _, ty, ni, k⟩ := h
    refine ⟨_, pss_cons (ps_expr (pcx Vl hr (by decide) (by rfl) (takes_of rfl rfl rfl rfl) (pa_cons (pv 1) pa_nil))) pss_never, ?_⟩
    walk_at "rd"
    exact ⟨_, n, rfl, ty, fun z => absurd z (by rw [ni]; decide), fun _ => k⟩
end
end HT
namespace HT
open PySem L2
theorem sg3_of {x : V} (h : x ∈ [V.int 1, .int (-1), .int 0]) : ∃ j : Int, x = .int j ∧ (j = 1 ∨ j = -1 ∨ j = 0) := by
  simp only [List.mem_cons, List.not_mem_nil, or_false] at h
  rcases h with h | h | h
  · exact ⟨_, h, .inl rfl⟩
  · exact ⟨_, h, .inr (.inl rfl)⟩
  · exact ⟨_, h, .inr (.inr rfl)⟩
theorem mode5_of {x : V} (h : x ∈ [V.str "down", .str "up", .str "half_down", .str "half_up", .str "half_even"]) : ∃ m : Str, x = .str m ∧ Mode m := by
  simp only [List.mem_cons, List.not_mem_nil, or_false] at h
  rcases h with h | h | h | h | h
  · exact ⟨_, h, .inl rfl⟩
  · exact ⟨_, h, .inr (.inl rfl)⟩
  · exact ⟨_, h, .inr (.inr (.inl rfl))⟩
  · exact ⟨_, h, .inr (.inr (.inr (.inl rfl)))⟩
  · exact ⟨_, h, .inr (.inr (.inr (.inr rfl)))⟩
theorem p10_le {n k : Nat} (h : n ≤ k) : (10 : Int) ^ n ≤ 10 ^ k := by
  have z := Nat.pow_le_pow_right (show 0 < 10 by decide) h
  have e : ∀ j : Nat, ((10 ^ j : Nat) : Int) = (10 : Int) ^ j := fun j => Int.natCast_pow 10 j
  rw [← e, ← e]
  omega
def spLSide : Sp := fun vs H Q _ => ∃ (a c : Addr) (t : Nat), vs = [.ref a, .int 30] ∧ Src H a c t ∧ t + 200 < 2 ^ 30 ∧
  ∀ p o s m H' t', H' p = some (sideV o s m) → (1 ≤ s ∧ s ≤ 10 ^ 30 ∧ -10 ^ 30 ≤ o ∧ o ≤ 10 ^ 30 ∧ Mode m) → t' ≤ t + 100 → Src H' a c t' → Oth a c H H' → Q (.ref p) H'
section
variable {P : Program} {w : World} {K : PySem.W.Frag} {mg : Str → Option Value} {base : Heap} {fD fP fG : Addr} {dD dP dG : FuncData}
theorem ok_lside {f : Addr} {fd : FuncData} (F : Fun K "_law_side" "_law_side" s_L_side f fd) (D : Cal P w K mg base "_law_draw" 1 ["_law_source_here", "_law_limit"] spDraw fD dD)
    (Pk : Cal P w K mg base "_law_pick" 2 ["_law_source_here", "_law_values"] spPick fP dP) (G : Cal P w K mg base "_law_great" 2 ["_law_source_here", "_law_digits"] spGreat fG dG) : FnOk P w K mg base CX0 3 f fd ["_law_source_here", "_law_digits"] spLSide := by
  refine F.ok sc_L_side (fun vs H Q E h => ?_) (fun cdv A outer s0 H vs Q E hr h => ?_)
  · obtain ⟨a, c, t, rfl, _⟩ := h
    rfl
  · obtain ⟨a, c, t, rfl, S, ht, q⟩ := h
    have nd := sc_L_side.nd
    refine ⟨_, (pss_cons (ps_set (i := 2) nd rfl (Or.inl rfl) (pe_op op_add pe_int (pe_op op_mod (pcl G hr (by decide) (by rfl) (pa_cons (pv 0) (pa_cons (pe_op op_add pe_int (pcl D hr (by decide) (by rfl) (pa_cons (pv 0) (pa_cons (pv 1) pa_nil)))) pa_nil))) (pe_op op_pow pe_int pe_int))))
      (pss_cons (ps_mid (ps_if (pt_cmpR op_eq (pcl D hr (by decide) (by rfl) (pa_cons (pv 0) (pa_cons pe_int pa_nil))) pe_int (nomark _)) (pss_one (ps_set (i := 2) nd rfl (Or.inl rfl) (pe_op op_add pe_int (pcl D hr (by decide) (by rfl) (pa_cons (pv 0) (pa_cons pe_int pa_nil)))))) pss_nil))
      (pss_cons (ps_set (i := 3) nd rfl (Or.inl rfl) (pe_op op_mulW (pcl G hr (by decide) (by rfl) (pa_cons (pv 0) (pa_cons (pe_op op_add pe_int (pcl D hr (by decide) (by rfl) (pa_cons (pv 0) (pa_cons (pv 1) pa_nil)))) pa_nil))) (pcl Pk hr (by decide) (by rfl) (pa_cons (pv 0) (pa_cons (pe_lst (pa_cons pe_int (pa_cons (pe_un un_neg pe_int) (pa_cons pe_int pa_nil)))) pa_nil)))))
      (pss_one (ps_ret (pe_tup (pa_cons (pv 3) (pa_cons (pv 2) (pa_cons (pcl Pk hr (by decide) (by rfl) (pa_cons (pv 0) (pa_cons (pe_lst (pa_cons pe_str (pa_cons pe_str (pa_cons pe_str (pa_cons pe_str (pa_cons pe_str pa_nil)))))) pa_nil))) pa_nil))))))))), ?_⟩
    walk_at "rd"
    refine ⟨a, c, t, 30, rfl, S, by omega, by decide, by decide, fun k1 H1 k10 k11 S1 O1 => ?_⟩
    obtain ⟨j, rfl⟩ := Int.eq_ofNat_of_zero_le k10
    walk_at "rd"
    refine ⟨a, c, t + 1, 1 + j, (by show [V.ref a, V.int (1 + (j : Int))] = [V.ref a, .int ((1 + j : Nat) : Int)]; rw [Int.natCast_add]; rfl), S1, by omega, by omega, fun k2 H2 k20 k21 S2 O2 => ?_⟩
    walk_at "rd"
    refine ⟨⟨by decide, by decide, by decide⟩, ?_⟩
    refine ⟨_, _, rfl, rfl, (by show (0 : Int) < 10 ^ (30 : Int).toNat; decide), ?_⟩
    have z0 : 1 ≤ 1 + k2 % 10 ^ (30 : Int).toNat := by
      have a1 : 0 ≤ k2 % 10 ^ (30 : Int).toNat := Int.emod_nonneg k2 (show (10 : Int) ^ 30 ≠ 0 by decide)
      omega
    have z1 : 1 + k2 % 10 ^ (30 : Int).toNat ≤ 10 ^ 30 := by
      have a2 : k2 % 10 ^ (30 : Int).toNat < 10 ^ 30 := Int.emod_lt_of_pos k2 (show (0 : Int) < 10 ^ 30 by decide)
      omega
    walk_at "rd"
    refine ⟨fun σ' H' => ∃ (z : Int) (t' : Nat), σ' = [some (.ref a), some (.int 30), some (.int z), none] ∧ 1 ≤ z ∧ z ≤ 10 ^ 30 ∧ t' ≤ t + 35 ∧ Src H' a c t' ∧ Oth a c H H', ?_, ?_⟩
    · walk_at "rd"
      refine ⟨a, c, _, 3, rfl, S2, by omega, by decide, by decide, fun k3 H3 k30 k31 S3 O3 => ?_⟩
      have O03 := (O1.trans O2).trans O3
      walk_at "rd"
      refine ⟨rfl, ?_⟩
      walk_at "rd"
      refine ite2 (fun _ => ?_) (fun _ => ⟨_, _, rfl, z0, z1, by omega, S3, O03⟩)
      walk_at "rd"
      refine ⟨a, c, _, 12, rfl, S3, by omega, by decide, by decide, fun k4 H4 k40 k41 S4 O4 => ?_⟩
      walk_at "rd"
      exact ⟨1 + k4, _, rfl, by omega, by omega, by omega, S4, O03.trans O4⟩
    rintro σ' H3 ⟨z, t3, rfl, z0, z1, ht3, S3, O3⟩
    walk_at "rd"
    refine ⟨a, c, t3, 30, rfl, S3, by omega, by decide, by decide, fun k5 H5 k50 k51 S5 O5 => ?_⟩
    obtain ⟨j5, rfl⟩ := Int.eq_ofNat_of_zero_le k50
    walk_at "rd"
    refine ⟨a, c, t3 + 1, 1 + j5, (by show [V.ref a, V.int (1 + (j5 : Int))] = [V.ref a, .int ((1 + j5 : Nat) : Int)]; rw [Int.natCast_add]; rfl), S5, by omega, by omega, fun k6 H6 k60 k61 S6 O6 => ?_⟩
    have k62 : k6 < 10 ^ 30 := Int.lt_of_lt_of_le k61 (p10_le (by omega))
    clear k61
    walk_at "rd"
    refine ⟨(by show 3 ≤ sizeLine; decide), fun l1 nl1 => ?_⟩
    obtain ⟨la1, lc1⟩ := S6.na nl1
    refine ⟨a, c, _, l1, _, rfl, S6.new nl1, by omega, upd_same, la1, lc1, by decide, by decide, fun x7 H7 hx7 S7 O7 => ?_⟩
    obtain ⟨sj, rfl, hsj⟩ := sg3_of hx7
    walk_at "rd"
    refine ⟨mulW (by omega) (by rcases hsj with e | e | e <;> subst e <;> omega), ?_⟩
    have ob : -10 ^ 30 ≤ k6 * sj ∧ k6 * sj ≤ 10 ^ 30 := by rcases hsj with e | e | e <;> subst e <;> omega
    walk_at "rd"
    refine ⟨(by show 5 ≤ sizeLine; decide), fun l2 nl2 => ?_⟩
    obtain ⟨la2, lc2⟩ := S7.na nl2
    refine ⟨a, c, _, l2, _, rfl, S7.new nl2, by omega, upd_same, la2, lc2, by decide, by decide, fun x8 H8 hx8 S8 O8 => ?_⟩
    obtain ⟨md, rfl, hmd⟩ := mode5_of hx8
    walk_at "rd"
    refine ⟨(by show 3 ≤ sizeLine; decide), fun p np => ?_⟩
    exact q p (k6 * sj) z md _ _ upd_same ⟨z0, z1, ob.1, ob.2, hmd⟩ (by omega) (S8.new np) (((((((O3.trans O5).trans O6).new nl1).trans O7).new nl2).trans O8).new np)
end
end HT
namespace HT
open PySem L2
structure Sd where
  o : Int
  s : Int
  m : Str
/-- the list at l holds sides with these parts -/
structure SidesAt (H : Hp) (l : Addr) (xs : List V) (ss : List Sd) : Prop where
  hl : H l = some (.lst xs)
  len : xs.length = ss.length
  l1 : 1 ≤ ss.length
  l4 : ss.length ≤ 4
  at_ : ∀ (i : Nat) (d : Sd), ss[i]? = some d → ∃ p : Addr, xs[i]? = some (V.ref p) ∧ H p = some (sideV d.o d.s d.m) ∧ SideP d.o d.s d.m
theorem SidesAt.same {H H' : Hp} {l : Addr} {xs : List V} {ss : List Sd} (S : SidesAt H l xs ss) (e : Same H H') : SidesAt H' l xs ss :=
  ⟨e _ _ S.hl, S.len, S.l1, S.l4, fun i d h => let ⟨p, a, b, c⟩ := S.at_ i d h; ⟨p, a, e _ _ b, c⟩⟩
theorem SidesAt.oth {a c : Addr} {t : Nat} {H H' : Hp} {l : Addr} {xs : List V} {ss : List Sd} (S : SidesAt H l xs ss) (R : Src H a c t) (la : l ≠ a) (lc : l ≠ c) (e : Oth a c H H') : SidesAt H' l xs ss :=
  ⟨e _ _ S.hl la lc, S.len, S.l1, S.l4, fun i d h => let ⟨p, x, b, y⟩ := S.at_ i d h; let z := R.nt b; ⟨p, x, e _ _ b z.1 z.2, y⟩⟩
theorem SidesAt.item {H : Hp} {l : Addr} {xs : List V} {ss : List Sd} (S : SidesAt H l xs ss) {i : Nat} {y : V} (h : xs[i]? = some y) : ∃ d p, ss[i]? = some d ∧ y = .ref p ∧ H p = some (sideV d.o d.s d.m) ∧ SideP d.o d.s d.m := by
  have hi : i < ss.length := by have := (List.getElem?_eq_some_iff.mp h).1; rw [S.len] at this; exact this
  obtain ⟨p, e, hp, sp⟩ := S.at_ i ss[i] (List.getElem?_eq_getElem hi)
  rw [h] at e
  exact ⟨ss[i], p, List.getElem?_eq_getElem hi, Option.some.inj e, hp, sp⟩
/-- a side's period -/
def perM (s : Int) (m : Str) : Int := if m = "half_even" then 2 * s else s
theorem perM_bd {o s : Int} {m : Str} (S : SideP o s m) : 1 ≤ perM s m ∧ perM s m ≤ 2 * 10 ^ 30 := by
  have a := S.s0
  have b := S.s1
  unfold perM
  split <;> omega
def perN (d : Sd) : Nat := (perM d.s d.m).toNat
/-- the common period -/
def comN (ss : List Sd) : Nat := ss.foldl (fun n d => n.lcm (perN d)) 1
theorem com_snoc {ss : List Sd} {i : Nat} {d : Sd} (h : ss[i]? = some d) : comN (ss.take (i + 1)) = (comN (ss.take i)).lcm (perN d) := by
  unfold comN
  rw [List.take_succ, h, List.foldl_append]
  rfl
theorem lcm_le {a b : Nat} : a.lcm b ≤ a * b := Nat.div_le_self _ _
theorem com_le : ∀ (ss : List Sd) (n : Nat), (∀ d ∈ ss, SideP d.o d.s d.m) → ss.foldl (fun n d => n.lcm (perN d)) n ≤ n * (2 * 10 ^ 30) ^ ss.length
  | [], n, _ => by simp
  | d :: ss, n, h => by
    have z := com_le ss (n.lcm (perN d)) fun e he => h e (List.mem_cons_of_mem _ he)
    have b := perM_bd (h d List.mem_cons_self)
    have y : perN d ≤ 2 * 10 ^ 30 := by unfold perN; omega
    refine Nat.le_trans z ?_
    generalize (2 * 10 ^ 30 : Nat) = k at y
    rw [List.length_cons, Nat.pow_succ, Nat.mul_comm (k ^ ss.length), ← Nat.mul_assoc]
    exact Nat.mul_le_mul_right _ (Nat.le_trans lcm_le (Nat.mul_le_mul_left _ y))
theorem SidesAt.side {H : Hp} {l : Addr} {xs : List V} {ss : List Sd} (S : SidesAt H l xs ss) : ∀ d ∈ ss, SideP d.o d.s d.m := fun d hd => by
  obtain ⟨i, hi, rfl⟩ := List.mem_iff_getElem.mp hd
  obtain ⟨_, _, _, sp⟩ := S.at_ i _ (List.getElem?_eq_getElem hi)
  exact sp
theorem com_lt {ss : List Sd} (h : ∀ d ∈ ss, SideP d.o d.s d.m) (l4 : ss.length ≤ 4) : comN ss < 2 ^ 420 := by
  have z := com_le ss 1 h
  rw [Nat.one_mul] at z
  refine Nat.lt_of_le_of_lt z (Nat.lt_of_le_of_lt (Nat.pow_le_pow_right (by decide) l4) ?_)
  decide
theorem com_take {ss : List Sd} (h : ∀ d ∈ ss, SideP d.o d.s d.m) (l4 : ss.length ≤ 4) (i : Nat) : comN (ss.take i) < 2 ^ 420 :=
  com_lt (fun d hd => h d (List.mem_of_mem_take hd)) (Nat.le_trans (List.length_take_le' _ _) l4)
theorem com_pos : ∀ (ss : List Sd) (n : Nat), 0 < n → (∀ d ∈ ss, SideP d.o d.s d.m) → 0 < ss.foldl (fun n d => n.lcm (perN d)) n
  | [], n, hn, _ => hn
  | d :: ss, n, hn, h => by
    have b := perM_bd (h d List.mem_cons_self)
    have y : 0 < perN d := by unfold perN; omega
    exact com_pos ss _ (Nat.lcm_pos hn y) fun e he => h e (List.mem_cons_of_mem _ he)
/-- as the law has it -/
theorem lcm_div (a b : Nat) : a / Nat.gcd a b * b = a.lcm b := by
  unfold Nat.lcm
  rw [Nat.mul_comm (a / Nat.gcd a b), ← Nat.mul_div_assoc _ (Nat.gcd_dvd_left a b), Nat.mul_comm]
end HT
namespace HT
open PySem L2
def nV (k : Nat) : V := .int (k : Int)
structure AmG (mg : Str → Option Value) : Prop where
  isi : mg "isinstance" = none
  list : mg "list" = none
  len : mg "len" = none
  ms : ∃ t, mg "MOST_SIDES" = some (.int 4 t)
  mp : ∃ t, mg "MOST_PERIOD" = some (.int 100000 t)
  lcm : mg "lcm" = some (.builtin "math.lcm")
  sorted : mg "sorted" = none
def spIsSide : Sp := fun vs H Q _ => ∃ (p : Addr) (o s : Int) (m : Str), vs = [.ref p] ∧ H p = some (sideV o s m) ∧ SideP o s m ∧ Q (.bl true) H
def spSides : Sp := fun vs H Q _ => ∃ (l : Addr) (xs : List V) (ss : List Sd), vs = [.ref l] ∧ SidesAt H l xs ss ∧ Q .non H
def spPerOf : Sp := fun vs H Q _ => ∃ (p : Addr) (o s : Int) (m : Str), vs = [.ref p] ∧ H p = some (sideV o s m) ∧ SideP o s m ∧ Q (.int (perM s m)) H
def spNums : Sp := fun vs H Q _ => ∃ (kl : Addr) (ks : List Nat) (n : Nat), vs = [.ref kl, .int (n : Int)] ∧ H kl = some (.lst (ks.map nV)) ∧ ks.length ≤ 1000 ∧ (∀ k ∈ ks, k < n) ∧ Q .non H
/-- one hand-over more -/
def stepW (ss : List Sd) (a : List Int × Int) (k : Nat) : List Int × Int :=
  match ss[k]? with
  | some d => (a.1 ++ [dueM d.o d.s d.m a.2], dueM d.o d.s d.m a.2)
  | none => (a.1 ++ [a.2], a.2)
def walkW (ss : List Sd) (ks : List Nat) (v : Int) : List Int × Int := ks.foldl (stepW ss) ([], v)
theorem walk_snoc {ss : List Sd} {ks : List Nat} {v : Int} {i k : Nat} (h : ks[i]? = some k) : walkW ss (ks.take (i + 1)) v = stepW ss (walkW ss (ks.take i) v) k := by
  unfold walkW
  rw [List.take_succ, h, List.foldl_append]
  rfl
theorem due_far {o s v b : Int} {m : Str} (S : SideP o s m) (h : -b < v ∧ v < b) : -(b + 10 ^ 30) < dueM o s m v ∧ dueM o s m v < b + 10 ^ 30 := by
  have h1 := due_near (o := o) (v := v) S.md S.s0
  have h2 := S.s1
  omega
def spAlong : Sp := fun vs H Q _ => ∃ (l : Addr) (xs : List V) (ss : List Sd) (kl : Addr) (ks : List Nat) (v : Int), vs = [.ref l, .ref kl, .int v] ∧ SidesAt H l xs ss ∧ H kl = some (.lst (ks.map nV)) ∧ ks.length ≤ 1000 ∧ (∀ k ∈ ks, k < ss.length) ∧ (-2 ^ 200 < v ∧ v < 2 ^ 200) ∧
  ∀ (d : Addr) (H' : Hp), H d = none → Same H H' → H' d = some (.lst ((walkW ss ks v).1.map V.int)) → Q (.ref d) H'
section
variable {P : Program} {w : World} {K : PySem.W.Frag} {mg : Str → Option Value} {base : Heap} {aM c0 fC fB fV fN fW fS : Addr} {dC dB dV dN dW dS : FuncData}
theorem ok_is_side {f : Addr} {fd : FuncData} (F : Fun K "is_side" "is_side" s_is_side f fd) (g0 : mg "InvalidSide" = some (.ref c0)) (Ck : Cal P w K mg base "check_side" 3 ["side"] spCheckSide fC dC) : FnOk P w K mg base CX0 4 f fd ["thing"] spIsSide := by
  refine F.ok sc_is_side (fun vs H Q E h => ?_) (fun cdv A outer s0 H vs Q E hr h => ?_)
  · obtain ⟨p, o, s, m, rfl, _⟩ := h
    rfl
  · obtain ⟨p, o, s, m, rfl, hp, S, q⟩ := h
    refine ⟨_, pss_cons (ps_try_only rfl rfl ⟨rfl, by decide, .inl g0⟩ takes0 (fun W pn xe tk _ => pss_one (ps_expr (pcl Ck hr (by decide) (by rfl) (pa_cons (pv 0) pa_nil)))) (fun a oe cls d pn _ _ => pss_one (ps_ret pe_bl))) (pss_one (ps_ret pe_bl)), ?_⟩
    walk_at "rd"
    refine ⟨p, o, s, m, rfl, hp, S, ?_⟩
    walk_at "rd"
    exact q
theorem ok_sides {f : Addr} {fd : FuncData} (F : Fun K "check_sides" "check_sides" s_check_sides f fd) (A' : AmG mg) (Ck : Cal P w K mg base "is_side" 4 ["thing"] spIsSide fC dC) : FnOk P w K mg base CX0 5 f fd ["sides"] spSides := by
  refine F.ok sc_check_sides (fun vs H Q E h => ?_) (fun cdv A outer s0 H vs Q E hr h => ?_)
  · obtain ⟨l, xs, ss, rfl, _⟩ := h
    rfl
  · obtain ⟨l, xs, ss, rfl, SS, q⟩ := h
    have nd := sc_check_sides.nd
    obtain ⟨tms, hms⟩ := A'.ms
    refine ⟨_, pss_cons (ps_if (PW.pt (pw_or (pt_not (pt_val (pe_callB call_isi (by rfl) A'.isi (by decide +kernel) (pa_cons (pv 0) (pa_cons (pe_bltn (v := .ty "list") (by rfl) A'.list (by decide +kernel) rfl) pa_nil)))))
        (pw_or1 (pt_not (pt_chain op_le op_le pe_int (pe_callB call_len_seq (by rfl) A'.len PySem.boot_len (pa_cons (pv 0) pa_nil)) (pe_glob (v := .int 4) (by rfl) hms ⟨_, rfl⟩)))))) (pss_one ps_never) pss_nil)
      (pss_one (ps_for PassesOwn.never rfl (pi_list (pv 0)) (pg_name (i := 1) nd rfl (Or.inl rfl))
        (pss_one (ps_if (pt_not (pt_val (pcl Ck hr (by decide) (by rfl) (pa_cons (pv 1) pa_nil)))) (pss_one ps_never) pss_nil)))), ?_⟩
    walk_at "rd"
    refine ⟨_, _, _, _, _, rfl, .ty "list", .base (.lst SS.hl), kit_ty (r := true) (by decide +kernel), ?_⟩
    walk_at "rd"
    refine ⟨l, _, rfl, .inl (SqL.of SS.hl), ?_⟩
    have l1 := SS.l1
    have l4 := SS.l4
    have ln := SS.len
    walk_at "rd"
    refine ite2 (fun _ => ?_) (fun z => absurd (decide_eq_true (by omega)) z)
    walk_at "rd"
    refine ite2 (fun z => ?_) (fun _ => ?_)
    · exfalso
      have e : decide ((xs.length : Int) ≤ 4) = true := decide_eq_true (by omega)
      exact not_t z e
    walk_at "rd"
    refine ⟨⟨_, SqL.of SS.hl⟩, ?_⟩
    refine for_list (K := K) (a := l) (xs := xs) (fun i σ H' => ∃ y : Option V, σ = [some (.ref l), y] ∧ H' = H) ⟨none, rfl, rfl⟩ (fun _ _ _ _ ⟨_, _, e⟩ => e ▸ SqL.of SS.hl) ?_ ?_
    · rintro i y σ H' hy ⟨z, rfl, rfl⟩
      obtain ⟨d, p, ed, rfl, hp, sp⟩ := SS.item hy
      walk_at "rd"
      refine ⟨p, d.o, d.s, d.m, rfl, hp, sp, _, rfl, ?_⟩
      refine ite2 (fun z => (not_t z rfl).elim) (fun _ => ?_)
      exact ⟨_, rfl, rfl⟩
    · rintro σ H' ⟨z, rfl, rfl⟩
      exact q
theorem ok_per {f : Addr} {fd : FuncData} (F : Fun K "period_of" "period_of" s_period_of f fd) : FnOk P w K mg base CX0 1 f fd ["side"] spPerOf := by
  refine F.ok sc_period_of (fun vs H Q E h => ?_) (fun cdv A outer s0 H vs Q E hr h => ?_)
  · obtain ⟨p, o, s, m, rfl, _⟩ := h
    rfl
  · obtain ⟨p, o, s, m, rfl, hp, S, q⟩ := h
    have nd := sc_period_of.nd
    refine ⟨_, (pss_cons (ps_asg (pv 0) (pg_tup (by rfl) (pgs_cons (pg_name (i := 1) nd rfl (Or.inl rfl)) (pgs_cons (pg_name (i := 2) nd rfl (Or.inl rfl)) (pgs_cons (pg_name (i := 3) nd rfl (Or.inl rfl)) pgs_nil)))))
      (pss_cons (ps_if (pt_cmpR op_eq (pv 3) pe_str (nomark _)) (pss_one (ps_ret (pe_op op_mul pe_int (pv 2)))) pss_nil)
      (pss_one (ps_ret (pv 2))))), ?_⟩
    walk_at "rd"
    refine ⟨p, _, rfl, SqT.of hp, rfl, _, _, rfl, _, _, rfl, _, _, rfl, rfl, ?_⟩
    walk_at "rd"
    refine ⟨rfl, ?_⟩
    walk_at "rd"
    unfold perM at q
    refine ite2 (fun h => ?_) (fun h => ?_)
    · rw [if_pos (str_t h)] at q
      walk_at "rd"
      refine ⟨.inl ⟨by decide, by decide⟩, ?_⟩
      exact q
    · rw [if_neg (str_f h)] at q
      walk_at "rd"
      exact q
end
end HT
namespace HT
open PySem L2
/-- an instance of the class of sets of sides: a list of its own -/
def SidesI (Z : Addr) (H : Hp) (x : Addr) (ss : List Sd) : Prop := ∃ (dx l : Addr) (fm : V) (xs : List V), H x = some (.ins Z dx [("_sides", .ref l), ("_forms", fm)]) ∧ SidesAt H l xs ss
theorem SidesI.same {Z : Addr} {H H' : Hp} {x : Addr} {ss : List Sd} (h : SidesI Z H x ss) (e : Same H H') : SidesI Z H' x ss := let ⟨dx, l, fm, xs, a, b⟩ := h; ⟨dx, l, fm, xs, e _ _ a, b.same e⟩
def spZInit (Z : Addr) : Sp := fun vs H Q _ => ∃ (x dx l : Addr) (xs : List V) (ss : List Sd), vs = [.ref x, .ref l] ∧ H x = some (.ins Z dx []) ∧ SidesAt H l xs ss ∧
  ∀ H', (∀ b u, b ≠ x → H b = some u → H' b = some u) → SidesI Z H' x ss → Q .non H'
def spZSides (Z : Addr) : Sp := fun vs H Q _ => ∃ (x : Addr) (ss : List Sd), vs = [.ref x] ∧ SidesI Z H x ss ∧ ∀ l xs H', SidesAt H' l xs ss → Same H H' → Q (.ref l) H'
/-- a side, or a set of sides -/
def ThingI (C Z : Addr) (H : Hp) (x : Addr) (ss : List Sd) : Prop := (∃ o s m, ss = [⟨o, s, m⟩] ∧ SideI C H x o s m) ∨ SidesI Z H x ss
def spListed (C Z : Addr) : Sp := fun vs H Q _ => ∃ (x : Addr) (ss : List Sd), vs = [.ref x] ∧ ThingI C Z H x ss ∧ ∀ l xs H', SidesAt H' l xs ss → Same H H' → Q (.ref l) H'
theorem sidesAt1 {H : Hp} {l p : Addr} {o s : Int} {m : Str} (hl : H l = some (.lst [.ref p])) (h : H p = some (sideV o s m)) (S : SideP o s m) : SidesAt H l [.ref p] [⟨o, s, m⟩] :=
  ⟨hl, rfl, by show 1 ≤ 1; decide, by show 1 ≤ 4; decide, fun i d e => match i, e with
    | 0, e => by cases e; exact ⟨p, rfl, h, S⟩
    | i + 1, e => by cases e⟩
section
variable {P : Program} {w : World} {K : PySem.W.Frag} {mg : Str → Option Value} {base : Heap} {C Z p1 g1 p2 g2 : Addr} {d1 d2 : FuncData}
theorem ok_Z_sides {f : Addr} {fd : FuncData} (F : Fun K "sides" "Sides.sides" s_Z_sides f fd) (c : Cls K Z) (n1 : NoAttr K Z "_sides") (hl : mg "list" = none) : FnOk P w K mg base CX0 1 f fd ["self"] (spZSides Z) := by
  refine F.ok sc_Z_sides (fun vs H Q E h => ?_) (fun cdv A outer s0 H vs Q E hr h => ?_)
  · obtain ⟨x, ss, rfl, _⟩ := h
    rfl
  · obtain ⟨x, ss, rfl, ⟨dx, l, fm, xs, hx, SS⟩, k⟩ := h
    refine ⟨_, pss_one (ps_ret (pe_callTy call_list_of (by rfl) hl (by decide +kernel) (pa_cons (pe_fld (pv 0) rfl) pa_nil))), ?_⟩
    walk_at "rd"
    refine ⟨x, Z, dx, _, .ref l, rfl, hx, c, n1, rfl, ?_⟩
    walk_at "rd"
    refine ⟨l, _, rfl, .inl (SqL.of SS.hl), fun n nn => ?_⟩
    have w1 : Same H (upd H n (.lst xs)) := fun b u z => (upd_ne (ne_of_none z nn)).trans z
    have S2 := SS.same w1
    exact k n xs _ ⟨upd_same, S2.len, S2.l1, S2.l4, S2.at_⟩ w1
theorem ok_listed {f : Addr} {fd : FuncData} (F : Fun K "_listed" "_listed" s_listed f fd) (cS : OwnC K C) (cZ : OwnC K Z) (isi : mg "isinstance" = none) (gS : mg "Side" = some (.ref C)) (gZ : mg "Sides" = some (.ref Z)) (kZS : PySem.W.kitOne K (.ref Z) (.ref C) = some false)
    (pD : PropOf K C "data" p1 g1) (Fd : FnOk P w K mg base CX0 1 g1 d1 ["self"] (spSData C)) (bd : Binds K d1 ["self"] []) (pZ : PropOf K Z "sides" p2 g2) (Fz : FnOk P w K mg base CX0 1 g2 d2 ["self"] (spZSides Z)) (bz : Binds K d2 ["self"] []) : FnOk P w K mg base CX0 3 f fd ["thing"] (spListed C Z) := by
  refine F.ok sc_listed (fun vs H Q E h => ?_) (fun cdv A outer s0 H vs Q E hr h => ?_)
  · obtain ⟨x, ss, rfl, _⟩ := h
    rfl
  · obtain ⟨x, ss, rfl, th, k⟩ := h
    refine ⟨_, pss_cons (ps_if (pt_val (pe_callB call_isi (by rfl) isi (by decide +kernel) (pa_cons (pv 0) (pa_cons (pe_glob (v := .ref C) (by rfl) gS rfl) pa_nil)))) (pss_one (ps_ret (pe_lst (pa_cons (pe_prop (pv 0) cS.cls pD Fd (hr.mono (by decide)) bd .nil pass0 rfl) pa_nil)))) pss_nil)
      (pss_cons (ps_if (pt_val (pe_callB call_isi (by rfl) isi (by decide +kernel) (pa_cons (pv 0) (pa_cons (pe_glob (v := .ref Z) (by rfl) gZ rfl) pa_nil)))) (pss_one (ps_ret (pe_prop (pv 0) cZ.cls pZ Fz (hr.mono (by decide)) bz .nil pass0 rfl))) pss_nil) pss_never), ?_⟩
    walk_at "rd"
    rcases th with ⟨o, s, m, rfl, ⟨dx, p, q, hx, hp, hq, S⟩⟩ | SI
    · refine ⟨.ref x, .ref C, .ref C, .ref C, true, rfl, .own _, cS.ty hx, cS.self, ?_⟩
      walk_at "rd"
      refine ⟨x, dx, _, rfl, hx, x, dx, p, q, rfl, hx, ?_⟩
      walk_at "rd"
      refine ⟨(by show 1 ≤ sizeLine; decide), fun n nn => ?_⟩
      have w1 : Same H (upd H n (.lst [.ref p])) := fun b u z => (upd_ne (ne_of_none z nn)).trans z
      exact k n _ _ (sidesAt1 upd_same (w1 _ _ hp) S) w1
    · obtain ⟨dx, l, fm, xs, hx, SS⟩ := id SI
      refine ⟨.ref x, .ref C, .ref Z, .ref C, false, rfl, .own _, cZ.ty hx, kZS, ?_⟩
      walk_at "rd"
      refine ⟨.ref x, .ref Z, .ref Z, .ref Z, true, rfl, .own _, cZ.ty hx, cZ.self, ?_⟩
      walk_at "rd"
      exact ⟨x, dx, _, rfl, hx, x, ss, rfl, SI, k⟩
/-- a new set of sides by a call of its class -/
theorem make_sides {H : Hp} {l : Addr} {xs : List V} {ss : List Sd} {Q : VK} {E : XK} (SS : SidesAt H l xs ss) (q : ∀ x H', H x = none → Same H H' → SidesI Z H' x ss → Q (.ref x) H') :
    ∀ x dx, H x = none → H dx = none → dx ≠ x → spZInit Z (.ref x :: ([.ref l] ++ [])) (upd (upd H dx (.own x)) x (.ins Z dx [])) (fun v H2 => v = .non ∧ Q (.ref x) H2) E := by
  intro x dx hx hdx ne
  have w1 : Same H (upd (upd H dx (.own x)) x (.ins Z dx [])) := fun b u z => (upd_ne (ne_of_none z hx)).trans ((upd_ne (ne_of_none z hdx)).trans z)
  exact ⟨x, dx, l, xs, ss, rfl, upd_same, SS.same w1, fun H' sm I => ⟨rfl, q x H' hx (fun b u z => sm b u (ne_of_none z hx) (w1 _ _ z)) I⟩⟩
/-- the sides of one list behind those of another -/
theorem SidesAt.cat {H : Hp} {l l' n : Addr} {xs ys : List V} {ss ts : List Sd} (S : SidesAt H l xs ss) (T : SidesAt H l' ys ts) (hn : H n = some (.lst (xs ++ ys))) (few : ss.length + ts.length ≤ 4) : SidesAt H n (xs ++ ys) (ss ++ ts) := by
  refine ⟨hn, by rw [List.length_append, List.length_append, S.len, T.len], by rw [List.length_append]; have := S.l1; omega, by rw [List.length_append]; exact few, fun i d h => ?_⟩
  have e := S.len
  by_cases z : i < ss.length
  · rw [List.getElem?_append_left z] at h
    obtain ⟨p, a, b, c⟩ := S.at_ i d h
    exact ⟨p, by rw [List.getElem?_append_left (by omega)]; exact a, b, c⟩
  · rw [List.getElem?_append_right (by omega)] at h
    obtain ⟨p, a, b, c⟩ := T.at_ _ d h
    exact ⟨p, by rw [List.getElem?_append_right (by omega), e]; exact a, b, c⟩
def spSOr (C Z : Addr) : Sp := fun vs H Q _ => ∃ (x y : Addr) (o s : Int) (m : Str) (ts : List Sd), vs = [.ref x, .ref y] ∧ SideI C H x o s m ∧ ThingI C Z H y ts ∧ ts.length ≤ 3 ∧ ∀ z H', Same H H' → SidesI Z H' z (⟨o, s, m⟩ :: ts) → Q (.ref z) H'
def spZOr (C Z : Addr) : Sp := fun vs H Q _ => ∃ (x y : Addr) (ss ts : List Sd), vs = [.ref x, .ref y] ∧ SidesI Z H x ss ∧ ThingI C Z H y ts ∧ ss.length + ts.length ≤ 4 ∧ ∀ z H', Same H H' → SidesI Z H' z (ss ++ ts) → Q (.ref z) H'
theorem ok_S_or {f fi fL : Addr} {fd di dL : FuncData} {kz : Nat} (F : Fun K "__or__" "Side.__or__" s_S_or f fd) (c : Cls K C) (n1 : NoAttr K C "_data") (gZ : mg "Sides" = some (.ref Z)) (M : Mk K Z fi) (Ini : FnOk P w K mg base CX0 6 fi di ["self", "sides"] (spZInit Z)) (bi : Binds K di ["self", "sides"] [])
    (Li : Cal P w K mg base "_listed" 3 ["thing"] (spListed C Z) fL dL) : FnOk P w K mg base CX0 8 f fd ["self", "other"] (spSOr C Z) := by
  refine F.ok sc_S_or (fun vs H Q E h => ?_) (fun cdv A outer s0 H vs Q E hr h => ?_)
  · obtain ⟨x, y, o, s, m, ts, rfl, _⟩ := h
    rfl
  · obtain ⟨x, y, o, s, m, ts, rfl, ⟨dx, p, q, hx, hp, hq, S⟩, th, few, k⟩ := h
    refine ⟨_, pss_one (ps_ret (pe_make M Ini (hr.mono (by decide)) (by rfl) gZ bi .nil pass0 (pa_cons (pe_op op_cat (pe_lst (pa_cons (pe_fld (pv 0) rfl) pa_nil)) (pcl Li hr (by decide) (by rfl) (pa_cons (pv 1) pa_nil))) pa_nil))), ?_⟩
    walk_at "rd"
    refine ⟨x, C, dx, _, .ref p, rfl, hx, c, n1, rfl, ?_⟩
    walk_at "rd"
    refine ⟨(by show 1 ≤ sizeLine; decide), fun n nn => ?_⟩
    have w1 : Same H (upd H n (.lst [.ref p])) := fun b u z => (upd_ne (ne_of_none z nn)).trans z
    have S1 : SidesAt (upd H n (.lst [.ref p])) n [.ref p] [⟨o, s, m⟩] := sidesAt1 upd_same (w1 _ _ hp) S
    generalize upd H n (.lst [.ref p]) = H1 at w1 S1 ⊢
    walk_at "rd"
    refine ⟨y, ts, rfl, ?_, fun l xs H2 S2 s2 => ?_⟩
    · rcases th with ⟨o', s', m', e, I⟩ | I
      · exact .inl ⟨o', s', m', e, I.same w1⟩
      · exact .inr (I.same w1)
    have S12 := S1.same s2
    refine ⟨n, l, _, _, rfl, rfl, S12.hl, S2.hl, (by rw [S2.len]; show 1 + ts.length ≤ sizeLine; exact Nat.le_trans (by omega : _ ≤ 4) (by decide)), fun n3 nn3 => ?_⟩
    have w3 : Same H2 (upd H2 n3 (.lst ([.ref p] ++ xs))) := fun b u z => (upd_ne (ne_of_none z nn3)).trans z
    have S3 := (S12.same w3).cat (S2.same w3) upd_same (by show 1 + ts.length ≤ 4; omega)
    generalize upd H2 n3 (.lst ([.ref p] ++ xs)) = H3 at w3 S3 ⊢
    walk_at "rd"
    exact make_sides S3 fun z H4 hz s4 I4 => k z H4 (w1.trans (s2.trans (w3.trans s4))) I4
theorem ok_Z_or {f fi fL : Addr} {fd di dL : FuncData} (F : Fun K "__or__" "Sides.__or__" s_Z_or f fd) (c : Cls K Z) (n1 : NoAttr K Z "_sides") (gZ : mg "Sides" = some (.ref Z)) (M : Mk K Z fi) (Ini : FnOk P w K mg base CX0 6 fi di ["self", "sides"] (spZInit Z)) (bi : Binds K di ["self", "sides"] [])
    (Li : Cal P w K mg base "_listed" 3 ["thing"] (spListed C Z) fL dL) : FnOk P w K mg base CX0 8 f fd ["self", "other"] (spZOr C Z) := by
  refine F.ok sc_Z_or (fun vs H Q E h => ?_) (fun cdv A outer s0 H vs Q E hr h => ?_)
  · obtain ⟨x, y, ss, ts, rfl, _⟩ := h
    rfl
  · obtain ⟨x, y, ss, ts, rfl, ⟨dx, n, fm, ys, hx, S1⟩, th, few, k⟩ := h
    refine ⟨_, pss_one (ps_ret (pe_make M Ini (hr.mono (by decide)) (by rfl) gZ bi .nil pass0 (pa_cons (pe_op op_cat (pe_fld (pv 0) rfl) (pcl Li hr (by decide) (by rfl) (pa_cons (pv 1) pa_nil))) pa_nil))), ?_⟩
    walk_at "rd"
    refine ⟨x, Z, dx, _, .ref n, rfl, hx, c, n1, rfl, ?_⟩
    walk_at "rd"
    refine ⟨y, ts, rfl, th, fun l xs H2 S2 s2 => ?_⟩
    have S12 := S1.same s2
    refine ⟨n, l, _, _, rfl, rfl, S12.hl, S2.hl, (by rw [S2.len, S12.len]; exact Nat.le_trans few (by decide)), fun n3 nn3 => ?_⟩
    have w3 : Same H2 (upd H2 n3 (.lst (ys ++ xs))) := fun b u z => (upd_ne (ne_of_none z nn3)).trans z
    have S3 := (S12.same w3).cat (S2.same w3) upd_same few
    generalize upd H2 n3 (.lst (ys ++ xs)) = H3 at w3 S3 ⊢
    walk_at "rd"
    exact make_sides S3 fun z H4 hz s4 I4 => k z H4 (s2.trans (w3.trans s4)) I4
end
end HT
namespace HT
open PySem PySem.Spec PyProof.Rows L2
/-- the hash of a tuple of ints and texts; such a tuple stands at an address -/
abbrev hM (pr : Program) (wd : World) (k : List Key) : Int := tupleKeyHash (mixKind pr wd) k
abbrev AtM (pr : Program) (wd : World) (g : Heap) (k : List Key) (b : Addr) : Prop := IsTupleKey (mixKind pr wd) g k b
section
variable {pr : Program} {wd : World} {A : Around} {E : Value → Shared → Prop} {s : Shared}
theorem flatM {k : List Key} {us : List Value} (z : ItemsAre (mixKind pr wd) k us) : ∀ v, v ∈ us → (∀ n, ofAClassStatement n v = pure false) ∧ ((∀ n, hashByValue n v = pure true) ∨ ∀ n, hashByValue n v = pure false) := by
  induction z with
  | nil => intro v y; cases y
  | cons z1 _ ih =>
    intro v y
    rcases List.mem_cons.mp y with e | y
    · subst e
      rcases keyIs_shape z1 with ⟨i, t, _, e⟩ | ⟨x, t, _, e⟩
      · subst e
        exact ⟨fun n => by cases n <;> rfl, .inl fun n => by cases n <;> rfl⟩
      · subst e
        exact ⟨fun n => by cases n <;> rfl, .inr fun n => by cases n <;> rfl⟩
    · exact ih v y
theorem classM {k : List Key} {b : Addr} {Q : Bool → Shared → Prop} (at1 : AtM pr wd s.heap k b) (q : Q false s) : wpAny (model pr wd) A (ofAClassStatement 8 (.ref b)) Q E s := by
  have ty := at1.typeIs
  obtain ⟨u, its, n, gu, _, du, iu⟩ := at1
  unfold ofAClassStatement
  refine wpAny_bind (wpAny_typeOf ty ?_)
  dsimp only
  rw [show (("tuple" : String) == "tuple") = true by decide]
  simp only [if_true, Bool.not_true, Bool.false_eq_true, if_false]
  try refine wpAny_bind (wpAny_pure ?_)
  try simp only [Bool.not_true, Bool.false_eq_true, if_false]
  show wpAny _ _ (seqItems? (.ref b) >>= _) _ _ s
  refine wpAny_bind (wpAny_seqItems gu du ?_)
  dsimp only
  refine wpAny_bind ?_
  show wpAny _ _ (forIn its _ _) _ _ s
  rw [← Array.forIn_toList]
  refine wpAny_forIn_list _ (fun left r s1 => r.1 = none ∧ s1 = s ∧ ∀ v, v ∈ left → ofAClassStatement 7 v = pure false) _ ?_ ?_ _ _ ⟨rfl, rfl, fun v y => (flatM iu v y).1 7⟩
  · rintro v left r s1 ⟨_, rfl, all⟩
    rw [all v List.mem_cons_self]
    refine wpAny_bind (wpAny_pure ?_)
    simp only [Bool.false_eq_true, if_false]
    exact wpAny_pure ⟨rfl, rfl, fun u y => all u (List.mem_cons_of_mem _ y)⟩
  · rintro ⟨r1, r2⟩ s1 ⟨e, rfl, _⟩
    simp only at e
    subst e
    exact wpAny_pure q
theorem valueM {k : List Key} {b : Addr} {Q : Bool → Shared → Prop} (at1 : AtM pr wd s.heap k b) (q : ∀ r, Q r s) : wpAny (model pr wd) A (hashByValue 8 (.ref b)) Q E s := by
  have ty := at1.typeIs
  obtain ⟨u, its, n, gu, _, du, iu⟩ := at1
  unfold hashByValue
  refine wpAny_bind (wpAny_specialOf ty F.slot_tuple_hash.lookup ?_)
  show wpAny _ _ (seqItems? (.ref b) >>= _) _ _ s
  refine wpAny_bind (wpAny_seqItems gu du ?_)
  refine wpAny_bind ?_
  show wpAny _ _ (forIn its _ _) _ _ s
  rw [← Array.forIn_toList]
  refine wpAny_forIn_list _ (fun left r s1 => r.1 = none ∧ s1 = s ∧ ∀ v, v ∈ left → hashByValue 7 v = pure true ∨ hashByValue 7 v = pure false) _ ?_ ?_ _ _ ⟨rfl, rfl, fun v y => (flatM iu v y).2.imp (fun z => z 7) fun z => z 7⟩
  · rintro v left r s1 ⟨_, rfl, all⟩
    rcases all v List.mem_cons_self with e | e
    · rw [e]
      refine wpAny_bind (wpAny_pure ?_)
      simp only [Bool.not_true, Bool.false_eq_true, if_false]
      exact wpAny_pure ⟨rfl, rfl, fun u y => all u (List.mem_cons_of_mem _ y)⟩
    · rw [e]
      refine wpAny_bind (wpAny_pure ?_)
      simp only [Bool.not_false, if_true]
      exact wpAny_pure (wpAny_pure (q false))
  · rintro ⟨r1, r2⟩ s1 ⟨e, rfl, _⟩
    simp only at e
    subst e
    exact wpAny_pure (q true)
/-- looking among such tuples shows nothing -/
theorem shownM {k : List Key} {b : Addr} {Q : Bool → Shared → Prop} (at1 : AtM pr wd s.heap k b) {ys : List Value} (more : ∀ y, y ∈ ys → ∃ k1 c, y = Value.ref c ∧ AtM pr wd s.heap k1 c) (q : Q false s) : wpAny (model pr wd) A (searchCouldBeSeen (.ref b) ys) Q E s := by
  unfold searchCouldBeSeen
  refine wpAny_bind ?_
  refine wpAny_forIn_list _ (fun left r s1 => r.1 = none ∧ s1 = s ∧ ∀ y, y ∈ left → ∃ k1 c, y = Value.ref c ∧ AtM pr wd s.heap k1 c) _ ?_ ?_ _ _ ⟨rfl, rfl, more⟩
  · rintro v left r s1 ⟨_, rfl, all⟩
    obtain ⟨k1, c, rfl, at2⟩ := all v List.mem_cons_self
    have all1 : ∀ y, y ∈ left → ∃ k1 c, y = Value.ref c ∧ AtM pr wd s1.heap k1 c := fun u y => all u (List.mem_cons_of_mem _ y)
    dsimp only
    by_cases e : (b == c || (carriedByValue (.ref b) && carriedByValue (.ref c))) = true
    · exact wp_if_pos e (wpAny_pure ⟨rfl, rfl, all1⟩)
    · refine wp_if_neg e ?_
      refine wpAny_bind (wpAny_eqIsQuiet_tuple at1 ?_)
      simp only [Bool.not_true, Bool.false_eq_true, if_false]
      refine wpAny_bind (wpAny_eqIsQuiet_tuple at2 ?_)
      simp only [Bool.not_true, Bool.false_eq_true, if_false]
      refine wpAny_bind (classM at1 ?_)
      simp only [Bool.false_eq_true, if_false]
      refine wpAny_bind (classM at2 ?_)
      simp only [Bool.false_eq_true, if_false]
      exact wpAny_pure ⟨rfl, rfl, all1⟩
  · rintro ⟨r1, r2⟩ s1 ⟨e, rfl, _⟩
    simp only at e
    subst e
    exact wpAny_pure q
/-- a set of at most four tuples of ints and texts -/
def lineM (pr : Program) (wd : World) (L : List (Addr × List Key)) : List (Int × Value) := L.map fun p => (hM pr wd p.2, Value.ref p.1)
structure SetM (pr : Program) (wd : World) (g : Heap) (a : Addr) (L : List (Addr × List Key)) (es : Array (Int × Value)) (ep : Nat) (t : SetTable) : Prop where
  ob : ∃ o, g.get? a = some o ∧ o.ExactSet ∧ o.data = .set es ep t
  line : es.toList = lineM pr wd L
  tab : TabOk t (L.map fun p => hM pr wd p.2)
  nod : (L.map (·.2)).Nodup
  are : ∀ p, p ∈ L → AtM pr wd g p.2 p.1
  led : wd.params.followText "set-order" = true ∨ t.led = true
  m7 : t.mask = 7
  four : L.length ≤ 4
variable {a : Addr} {L : List (Addr × List Key)} {es : Array (Int × Value)} {ep : Nat} {t : SetTable}
theorem SetM.size (Z : SetM pr wd s.heap a L es ep t) : es.size = L.length := by
  have z := congrArg List.length Z.line
  unfold lineM at z
  rwa [Array.length_toList, List.length_map] at z
theorem SetM.fits (Z : SetM pr wd s.heap a L es ep t) : t.fits es.size = true := by
  have z := Z.tab.sz
  rw [List.length_map] at z
  have z2 := Z.size
  have z3 := Z.four
  have z4 := Z.m7
  unfold SetTable.fits SetTable.fill
  rw [Z.tab.dm, Bool.and_eq_true, beq_iff_eq, decide_eq_true_eq]
  show t.place.size = es.size ∧ t.place.size + 0 ≤ t.mask
  omega
theorem SetM.row (Z : SetM pr wd s.heap a L es ep t) {i : Nat} {p : Addr × List Key} (e : L[i]? = some p) : es[i]? = some (hM pr wd p.2, Value.ref p.1) := by
  rw [← Array.getElem?_toList, Z.line]
  unfold lineM
  rw [List.getElem?_map, e] <;> rfl
theorem SetM.gw (Z : SetM pr wd s.heap a L es ep t) : ¬ t.gaveWay = true := by
  unfold SetTable.gaveWay
  rw [Z.m7]
  decide
/-- no dummy is met on the way -/
theorem nth_clean (m : Nat) : ∀ (n : Nat) (p : SetTable.Probe), p.dummy = none → (nth m p n).dummy = none
  | 0, _, e => e
  | n + 1, p, e => nth_clean m n (adv m p) (by unfold adv; split <;> exact e)
abbrev from7 (t : SetTable) (h : Int) : SetTable.Probe := runAt t.mask (SetTable.bits h % (t.mask + 1)) (SetTable.bits h)
/-- the search, from a step of the way on: N is the first free place -/
theorem seekM (Z : SetM pr wd s.heap a L es ep t) {x : Addr} {k : List Key} (at1 : AtM pr wd s.heap k x) (hu : A.units < cLine) {N : Nat} (lN : N < 10 * SetTable.turns t.mask) (free : way t.mask (hM pr wd k) N ∉ t.place.toList)
    (full : ∀ c, c < N → way t.mask (hM pr wd k) c ∈ t.place.toList) {Q : SetFound → Shared → Prop} (yes : k ∈ L.map (·.2) → Q (.there none) s) (no : k ∉ L.map (·.2) → Q (.free (way t.mask (hM pr wd k) N) false) s) :
    ∀ (f c : Nat) (st : Option SetTable.Probe), st.getD (t.probeStart (hM pr wd k)) = nth t.mask (from7 t (hM pr wd k)) c → c ≤ N → N - c < f →
      (∀ (i : Nat) p, L[i]? = some p → p.2 = k → ∃ c1, c ≤ c1 ∧ c1 < N ∧ t.place.toList[i]? = some (way t.mask (hM pr wd k) c1)) →
      wpAny (model pr wd) A (setSearchFrom a (.ref x) (hM pr wd k) true f st) Q E s
  | 0, c, st, _, _, bad, _ => absurd bad (Nat.not_lt_zero _)
  | f + 1, c, st, here, cN, fuel, ahead => by
    obtain ⟨u, gu, xu, du⟩ := Z.ob
    rw [setSearchFrom_succ]
    refine wpAny_bind (wpAny_setState_of gu du Z.fits ?_)
    dsimp only
    refine wp_if_neg Z.gw ?_
    try refine wpAny_bind (wpAny_pure ?_)
    have at2 : ∀ j, (nth t.mask (nth t.mask (from7 t (hM pr wd k)) c) j).j = way t.mask (hM pr wd k) (c + j) := fun j => congrArg SetTable.Probe.j (nth_add t.mask c _ j).symm
    have two := go_spec t Z.tab.ris Z.tab.dm (fun i => (es[i]?.map (·.1)).getD 0) (hM pr wd k) (10 * SetTable.turns t.mask) (N - c) _ (nth_clean t.mask c (from7 t (hM pr wd k)) rfl) (by omega)
      (fun j z => by rw [at2]; exact full (c + j) (by omega)) (by rw [at2, show c + (N - c) = N by omega]; exact free)
    have hashed : ∀ (i : Nat) p, L[i]? = some p → (fun i => (es[i]?.map (·.1)).getD 0) i = hM pr wd p.2 := fun i p e => by
      show (es[i]?.map (·.1)).getD 0 = _
      rw [Z.row e] <;> rfl
    rcases two with ⟨j, i, lj, pi, ei, none1, met⟩ | ⟨none1, met⟩
    · have met2 : t.probe (fun i => (es[i]?.map (·.1)).getD 0) (hM pr wd k) (st.getD (t.probeStart (hM pr wd k))) = some (.candidate (way t.mask (hM pr wd k) (c + j)) i (nth t.mask (from7 t (hM pr wd k)) (c + (j + 1)))) := by
        rw [here, ← at2, nth_add t.mask c _ (j + 1)]
        exact met
      rw [met2]
      dsimp only
      rw [at2] at pi
      have iL : i < L.length := by
        have z1 : i < t.place.toList.length := (List.getElem?_eq_some_iff.mp pi).1
        have z2 := Z.tab.sz
        rw [List.length_map] at z2
        rw [Array.length_toList] at z1
        omega
      have eL : L[i]? = some L[i] := List.getElem?_eq_getElem iL
      generalize L[i] = p at eL
      have pL : p ∈ L := List.mem_of_getElem? eL
      have at3 := Z.are p pL
      have behind : wpAny (model pr wd) A (searchRest a (.ref x) (hM pr wd k) true f es t (way t.mask (hM pr wd k) (c + j)) i (nth t.mask (from7 t (hM pr wd k)) (c + (j + 1)))) Q E s := by
        unfold searchRest
        rw [Z.row eL]
        dsimp only
        refine wpAny_bind (wpAny_holding (wpAny_eqBool_tuple hu at3 at1 ?_))
        refine wpAny_bind (wpAny_setState_of gu du Z.fits ?_)
        dsimp only
        by_cases same : p.2 = k
        · refine wp_if_pos (by simp [same]) ?_
          exact wpAny_pure (yes (List.mem_map.mpr ⟨p, pL, same⟩))
        · refine wp_if_neg (by simp [same]) ?_
          try refine wpAny_bind (wpAny_pure ?_)
          rw [sameMem]
          dsimp only
          have live : t.slot (way t.mask (hM pr wd k) (c + j)) = .live i := slot_live Z.tab.ris pi
          simp only [if_true, live, Z.row eL]
          refine wpAny_bind (wpAny_isSame_ref_self (wpAny_bind (wpAny_pure ?_)))
          simp only [if_true]
          refine wp_if_neg (by simp [same]) ?_
          refine seekM Z at1 hu lN free full yes no f (c + (j + 1)) _ rfl (by omega) (by omega) fun i0 p0 e0 s0 => ?_
          obtain ⟨c1, z1, z2, z3⟩ := ahead i0 p0 e0 s0
          refine ⟨c1, ?_, z2, z3⟩
          rcases Nat.lt_or_ge c1 (c + j) with y | y
          · exact absurd ((hashed i0 p0 e0).trans (congrArg (hM pr wd) s0)) (none1 (c1 - c) i0 (by omega) (by rw [at2, show c + (c1 - c) = c1 by omega]; exact z3))
          · rcases Nat.lt_or_ge (c + j) c1 with y2 | y2
            · omega
            · exfalso
              have e1 : c1 = c + j := Nat.le_antisymm y2 y
              rw [e1] at z3
              have live0 := slot_live Z.tab.ris z3
              rw [live] at live0
              injection live0 with live0
              rw [← live0, eL] at e0
              exact same ((congrArg Prod.snd (Option.some.inj e0)).trans s0)
      by_cases ld : t.led = true
      · refine wp_if_neg (by simp [ld]) ?_
        try refine wpAny_bind (wpAny_pure ?_)
        exact behind
      · refine wp_if_pos (by simp [ld]) ?_
        refine wpAny_bind (shownM at1 (fun y z => ?_) ?_)
        · obtain ⟨e, ze, ee⟩ := List.mem_map.mp z
          have z1 : e ∈ es ∧ e.1 = hM pr wd k := by simpa using ze
          have z2 : e ∈ es.toList := by simpa using z1.1
          rw [Z.line] at z2
          obtain ⟨p2, y2, e2⟩ := List.mem_map.mp z2
          exact ⟨p2.2, p2.1, by rw [← ee, ← e2], Z.are p2 y2⟩
        · refine wp_if_neg (by decide) ?_
          try refine wpAny_bind (wpAny_pure ?_)
          exact behind
    · have met2 : t.probe (fun i => (es[i]?.map (·.1)).getD 0) (hM pr wd k) (st.getD (t.probeStart (hM pr wd k))) = some (.empty (way t.mask (hM pr wd k) N) none) := by
        have e2 : way t.mask (hM pr wd k) N = (nth t.mask (nth t.mask (from7 t (hM pr wd k)) c) (N - c)).j := by
          rw [at2, show c + (N - c) = N by omega]
        rw [here, e2]
        exact met
      rw [met2]
      dsimp only
      refine wpAny_pure (no fun z => ?_)
      obtain ⟨p0, y0, s0⟩ := List.mem_map.mp z
      obtain ⟨i0, l0, e0⟩ := List.getElem_of_mem y0
      have e00 : L[i0]? = some p0 := by rw [List.getElem?_eq_getElem l0, e0]
      obtain ⟨c1, z1, z2, z3⟩ := ahead i0 p0 e00 s0
      exact none1 (c1 - c) i0 (by omega) (by rw [at2, show c + (c1 - c) = c1 by omega]; exact z3) ((hashed i0 p0 e00).trans (congrArg (hM pr wd) s0))
theorem searchM (Z : SetM pr wd s.heap a L es ep t) {x : Addr} {k : List Key} (at1 : AtM pr wd s.heap k x) (hu : A.units < cLine) {Q : SetFound → Shared → Prop} (yes : k ∈ L.map (·.2) → Q (.there none) s)
    (no : ∀ N, k ∉ L.map (·.2) → way t.mask (hM pr wd k) N ∉ t.place.toList → (∀ c, c < N → way t.mask (hM pr wd k) c ∈ t.place.toList) → Q (.free (way t.mask (hM pr wd k) N) false) s) :
    wpAny (model pr wd) A (setSearch a (.ref x) (hM pr wd k) true) Q E s := by
  have m7 := Z.m7
  have l4 := Z.four
  obtain ⟨N, lN, free, full⟩ := Z.tab.first (by rw [List.length_map]; omega) (hM pr wd k)
  have big : N < 100000 := by
    have : 10 * SetTable.turns t.mask ≤ 1420 := by
      unfold SetTable.turns
      omega
    omega
  unfold setSearch
  refine seekM Z at1 hu lN free full yes (fun z => no N z free full) 100000 0 none rfl (Nat.zero_le _) (by omega) fun i p e same => ?_
  have ih : (L.map fun p => hM pr wd p.2)[i]? = some (hM pr wd k) := by rw [List.getElem?_map, e, ← same] <;> rfl
  have il : i < t.place.toList.length := by
    have z1 : i < L.length := (List.getElem?_eq_some_iff.mp e).1
    have z2 := Z.tab.sz
    rw [List.length_map] at z2
    rw [Array.length_toList]
    omega
  have pj := List.getElem?_eq_getElem il
  obtain ⟨c, lc, ec⟩ := Z.tab.before free ih pj
  exact ⟨c, Nat.zero_le _, lc, by rw [pj, ec]⟩
theorem AtM.same {g g2 : Heap} {k : List Key} {b : Addr} (z : AtM pr wd g k b) (e : ∀ c u, g.get? c = some u → g2.get? c = some u) : AtM pr wd g2 k b := by
  obtain ⟨u, its, n, gu, r⟩ := z
  exact ⟨u, its, n, e b u gu, r⟩
/-- a tuple is not the set -/
theorem AtM.but {g g2 : Heap} {k : List Key} {b : Addr} {u : Obj} (z : AtM pr wd g k b) (gu : g.get? a = some u) (du : u.data = .set es ep t) (e : Heap.SameBut a g g2) : AtM pr wd g2 k b := by
  obtain ⟨u2, its, n, gu2, cu, du2, iu⟩ := z
  have ne : b ≠ a := by
    rintro rfl
    obtain rfl : u2 = u := Option.some.inj (gu2.symm.trans gu)
    rw [du] at du2
    exact nomatch du2
  exact ⟨u2, its, n, (e.2 b ne).trans gu2, cu, du2, iu⟩
theorem addM (Z : SetM pr wd s.heap a L es ep t) {x : Addr} {k : List Key} (at1 : AtM pr wd s.heap k x) (hu : A.units < cLine) (room : L.length + 1 ≤ 4) {Q : Bool → Shared → Prop}
    (q : ∀ b g L1 es1 ep1 t1, Heap.SameBut a s.heap g → SetM pr wd g a L1 es1 ep1 t1 → (k ∈ L.map (·.2) → L1 = L) → (k ∉ L.map (·.2) → L1.Perm ((x, k) :: L)) → Q b { s with heap := g }) :
    wpAny (model pr wd) A (setAddHashed a (.ref x) (hM pr wd k)) Q E s := by
  obtain ⟨u, gu, xu, du⟩ := Z.ob
  have zs := Z.size
  unfold setAddHashed
  refine wpAny_holding ?_
  rw [show (100000 : Nat) = 99999 + 1 from rfl, setAddHashedIn_succ]
  refine wpAny_bind (wpAny_setState_of gu du Z.fits ?_)
  dsimp only
  refine wp_if_neg (by simp [byScan, Value.scannable]) ?_
  try refine wpAny_bind (wpAny_pure ?_)
  refine wpAny_bind (searchM Z at1 hu (fun there => ?_) fun N out free full => ?_)
  · dsimp only
    exact wpAny_pure (q false s.heap L es ep t (Heap.SameBut.refl a s.heap) Z (fun _ => rfl) fun z => absurd there z)
  · dsimp only
    refine wpAny_bind (wpAny_setState_of gu du Z.fits ?_)
    dsimp only
    obtain ⟨q1, q2, q3, q4, q5, _, _, _, q9⟩ := Z.tab.put free full
    generalize t.put (way t.mask (hM pr wd k) N) = two at q1 q3 q4 q5 q9 ⊢
    obtain ⟨t1, p⟩ := two
    dsimp only at q1 q3 q4 q5 q9 ⊢
    subst q1
    have lines : (SetTable.insertAt es (SetTable.below t.place (way t.mask (hM pr wd k) N)) (hM pr wd k, Value.ref x)).toList = lineM pr wd (L.take (SetTable.below t.place (way t.mask (hM pr wd k) N)) ++ (x, k) :: L.drop (SetTable.below t.place (way t.mask (hM pr wd k) N))) := by
      rw [SetTable.toList_insertAt, Z.line]
      unfold lineM
      rw [List.map_append, List.map_cons, List.map_take, List.map_drop]
    generalize SetTable.below t.place (way t.mask (hM pr wd k) N) = p at q2 q3 lines ⊢
    have pm := put_perm L p (x, k)
    have len1 : (L.take p ++ (x, k) :: L.drop p).length = L.length + 1 := pm.length_eq
    have hs1 : (L.take p ++ (x, k) :: L.drop p).map (fun p => hM pr wd p.2) = (L.map fun p => hM pr wd p.2).take p ++ hM pr wd k :: (L.map fun p => hM pr wd p.2).drop p := by
      rw [List.map_append, List.map_cons, List.map_take, List.map_drop]
    rw [← hs1] at q3
    have nod1 : ((L.take p ++ (x, k) :: L.drop p).map (·.2)).Nodup := by
      refine (pm.map (·.2)).nodup_iff.mpr ?_
      rw [List.map_cons]
      exact List.nodup_cons.mpr ⟨out, Z.nod⟩
    have size1 : (SetTable.insertAt es p (hM pr wd k, Value.ref x)).size = L.length + 1 := by
      have z := congrArg List.length lines
      unfold lineM at z
      rwa [Array.length_toList, List.length_map, len1] at z
    generalize SetTable.insertAt es p (hM pr wd k, Value.ref x) = es1 at lines size1 ⊢
    generalize L.take p ++ (x, k) :: L.drop p = L1 at pm len1 q3 nod1 lines
    have fill1 : t1.fill = L.length + 1 := by rw [q9, List.length_map]
    have last : ∀ t2 : SetTable, t2.place = t1.place → t2.dummies = t1.dummies → t2.mask = t1.mask → t2.led = t1.led → wpAny (model pr wd) A (do
        storeSet a es1 t2
        if (!false && t2.tooFull) = true then do
          setRelay a (SetTable.grown (es.size + 1))
          pure true
        else pure true) Q E s := fun t2 e1 e2 e3 e4 => by
      have T2 : TabOk t2 (L1.map fun p => hM pr wd p.2) := ⟨by rw [e1]; exact q3.ris, by rw [e2]; exact q3.dm, by rw [e1]; exact q3.sz, by rw [e3]; exact q3.mok, by rw [e1, e3]; exact q3.bd, by rw [e1, e3]; exact q3.reach⟩
      have f2 : t2.fill = L.length + 1 := by
        rw [← fill1]
        unfold SetTable.fill
        rw [e1, e2]
      refine wpAny_bind (wpAny_storeSet_of gu du ?_ (by rw [size1, sizeLine_eq]; omega))
      have sb : Heap.SameBut a s.heap (s.heap.update a (Obj.putSet es1 t2)) := Heap.SameBut.update ..
      have gu1 := store_at (es' := es1) (t' := t2) gu du
      generalize s.heap.update a (Obj.putSet es1 t2) = g1 at sb gu1 ⊢
      have notFull : t2.tooFull = false := by
        unfold SetTable.tooFull
        rw [f2, e3, q4, Z.m7]
        exact decide_eq_false (by omega)
      rw [notFull]
      refine wp_if_neg (by decide) ?_
      refine wpAny_pure (q true g1 L1 es1 (ep + 1) t2 sb ⟨⟨_, gu1, ⟨xu.1, xu.2.1, xu.2.2⟩, rfl⟩, lines, T2, nod1, fun p y => ?_, by rw [e4, q5]; exact Z.led, by rw [e3, q4]; exact Z.m7, by rw [len1]; exact room⟩ (fun z => absurd z out) fun _ => pm)
      rcases List.mem_cons.mp (pm.mem_iff.mp y) with e | y
      · rw [e]; exact AtM.but at1 gu du sb
      · exact AtM.but (Z.are p y) gu du sb
    have both : ∀ r : Bool, wpAny (model pr wd) A (do
        storeSet a es1 (if r = true then t1 else { t1 with plain := false })
        if (!false && (if r = true then t1 else { t1 with plain := false }).tooFull) = true then do
          setRelay a (SetTable.grown (es.size + 1))
          pure true
        else pure true) Q E s := fun r => by
      cases r with
      | true =>
        simp only [if_true]
        exact last t1 rfl rfl rfl rfl
      | false =>
        simp only [Bool.false_eq_true, if_false]
        exact last { t1 with plain := false } rfl rfl rfl rfl
    by_cases e : t1.plain = true
    · exact wp_if_pos e (wpAny_bind (valueM at1 both))
    · exact wp_if_neg e (wpAny_bind (wpAny_pure (both true)))
end
end HT
namespace HT
open PySem PySem.Spec PyProof.Rows L2
open PySem.W (EachIs AllAlike Sortable dataLe alike alikeAll dataLt)
/-- what the set has of the first i items -/
structure Half (ks : List (Addr × List Key)) (i : Nat) (L : List (Addr × List Key)) : Prop where
  sub : ∀ p, p ∈ L → p ∈ ks.take i
  all : ∀ p, p ∈ ks.take i → p.2 ∈ L.map (·.2)
  len : L.length ≤ i
theorem Half.zero (ks : List (Addr × List Key)) : Half ks 0 [] := ⟨fun p z => (by cases z), fun p z => (by simp at z), Nat.le_refl _⟩
theorem Half.same {ks L : List (Addr × List Key)} {i : Nat} {x : Addr × List Key} (g : Half ks i L) (e : ks[i]? = some x) (z : x.2 ∈ L.map (·.2)) : Half ks (i + 1) L := by
  have tk : ks.take (i + 1) = ks.take i ++ [x] := take_next e
  refine ⟨fun p y => by rw [tk]; exact List.mem_append_left _ (g.sub p y), fun p y => ?_, Nat.le_succ_of_le g.len⟩
  rw [tk] at y
  rcases List.mem_append.mp y with y | y
  · exact g.all p y
  · rw [List.mem_singleton.mp y]; exact z
theorem Half.more {ks L L1 : List (Addr × List Key)} {i : Nat} {x : Addr × List Key} (g : Half ks i L) (e : ks[i]? = some x) (pm : L1.Perm (x :: L)) : Half ks (i + 1) L1 := by
  have tk : ks.take (i + 1) = ks.take i ++ [x] := take_next e
  refine ⟨fun p y => ?_, fun p y => ?_, by rw [pm.length_eq, List.length_cons]; exact Nat.succ_le_succ g.len⟩
  · rw [tk]
    rcases List.mem_cons.mp (pm.mem_iff.mp y) with z | z
    · rw [z]; exact List.mem_append_right _ (List.mem_singleton.mpr rfl)
    · exact List.mem_append_left _ (g.sub p z)
  · rw [(pm.map (·.2)).mem_iff, List.map_cons]
    rw [tk] at y
    rcases List.mem_append.mp y with y | y
    · exact List.mem_cons_of_mem _ (g.all p y)
    · rw [List.mem_singleton.mp y]; exact List.mem_cons_self
section
variable {pr : Program} {wd : World} {A : Around} {E : Value → Shared → Prop} {s : Shared}
theorem SetM.on {g g2 : Heap} {a : Addr} {L : List (Addr × List Key)} {es : Array (Int × Value)} {ep : Nat} {t : SetTable} (Z : SetM pr wd g a L es ep t) (e : ∀ u, g.get? a = some u → g2.get? a = some u) (at1 : ∀ p, p ∈ L → AtM pr wd g2 p.2 p.1) : SetM pr wd g2 a L es ep t := by
  obtain ⟨u, gu, r⟩ := Z.ob
  exact ⟨⟨u, e u gu, r⟩, Z.line, Z.tab, Z.nod, at1, Z.led, Z.m7, Z.four⟩
abbrev bareS (wd : World) : Obj := { cls := .type "set", dict := none, data := .set #[] 0 (.fresh 0 0 (!wd.params.followText "set-order")) }
theorem setM_bare {g : Heap} {a : Addr} (gu : g.get? a = some (bareS wd)) : SetM pr wd g a [] #[] 0 (.fresh 0 0 (!wd.params.followText "set-order")) where
  ob := ⟨_, gu, ⟨rfl, rfl, rfl⟩, rfl⟩
  line := rfl
  tab := ⟨List.Pairwise.nil, rfl, rfl, .inl rfl, fun x z => (by cases z), fun i h j z => (by simp at z)⟩
  nod := List.nodup_nil
  are := fun p z => (by cases z)
  led := by
    show _ ∨ (!wd.params.followText "set-order") = true
    cases wd.params.followText "set-order"
    · exact .inr rfl
    · exact .inl rfl
  m7 := rfl
  four := by show 0 ≤ 4; decide
/-- all items are put in, one behind the other -/
theorem fillM {I : Addr} {fp wr : List Addr} {G : Array GenState → Array GenState → Prop} {n : Nat} {Pv : Nat → Value → Prop} {St : Nat → Shared → Prop} {R : Result → Shared → Prop} (W : WalksS pr wd A.in1 I fp wr G n Pv St) (S : Addr) (out : S ∉ fp)
    (ks : List (Addr × List Key)) (en : n = ks.length) (four : ks.length ≤ 4) (val : ∀ i v, Pv i v → ∃ p, ks[i]? = some p ∧ v = .ref p.1) (g0 : Heap) (at0 : ∀ p, p ∈ ks → AtM pr wd g0 p.2 p.1) (new : g0.get? S = none) (new2 : ∀ b, b ∈ wr → g0.get? b = none) (hu : A.in1.units < cLine) :
    ∀ (m i : Nat) (s : Shared), n - i = m → i ≤ n → St i s → (∀ b u, g0.get? b = some u → s.heap.get? b = some u) → (∃ L es ep t, SetM pr wd s.heap S L es ep t ∧ Half ks i L) →
      (∀ s1 L es ep t, Moved (S :: wr) G s s1 → SetM pr wd s1.heap S L es ep t → Half ks n L → (∀ b u, g0.get? b = some u → s1.heap.get? b = some u) → R (.ok (.ret .none)) s1) →
      codeAny (model pr wd) A (.builtin "set.update.loop" ⟨[.ref S, .ref I], []⟩) R s := by
  have out2 : S ∉ wr := fun z => out (W.sub _ z)
  have sub : ∀ b, b ∈ wr → b ∈ S :: wr := fun b z => List.mem_cons_of_mem _ z
  have keep : ∀ {s s1 : Shared}, Moved wr G s s1 → (∀ b u, g0.get? b = some u → s.heap.get? b = some u) → ∀ b u, g0.get? b = some u → s1.heap.get? b = some u := fun mv k b u e =>
    mv.heap b u (fun z => by rw [new2 b z] at e; cases e) (k b u e)
  intro m
  induction m with
  | zero =>
    intro i s em li st k ⟨L, es, ep, t, Z, half⟩ fin
    obtain rfl : i = n := by omega
    refine codeAny_builtin F.entry_set_update_loop ?_
    rw [Around.under_plainId F.plain_set_update_loop _]
    show wpAny _ A.in1 (pyNext (.ref I) >>= _) _ _ s
    refine wpAny_bind (W.done s _ _ st fun s1 mv => ?_)
    show wpAny _ A.in1 (ret Value.none) _ _ s1
    have k1 := keep mv k
    exact wpAny_pure (fin s1 L es ep t (mv.mono sub) (Z.on (fun u e => mv.heap S u out2 e) fun p y => (at0 p (List.mem_of_mem_take (half.sub p y))).same k1) half k1)
  | succ m ih =>
    intro i s em li st k ⟨L, es, ep, t, Z, half⟩ fin
    have lt : i < n := by omega
    refine codeAny_builtin F.entry_set_update_loop ?_
    rw [Around.under_plainId F.plain_set_update_loop _]
    show wpAny _ A.in1 (pyNext (.ref I) >>= _) _ _ s
    refine wpAny_bind (W.item i s _ _ lt st fun v s1 pv st1 mv => ?_)
    obtain ⟨p, ep1, rfl⟩ := val i v pv
    have k1 := keep mv k
    have Z1 : SetM pr wd s1.heap S L es ep t := Z.on (fun u e => mv.heap S u out2 e) fun q y => (at0 q (List.mem_of_mem_take (half.sub q y))).same k1
    have at1 : AtM pr wd s1.heap p.2 p.1 := (at0 p (List.mem_of_getElem? ep1)).same k1
    show wpAny _ A.in1 (holding [Value.ref p.1] (setAdd S (.ref p.1)) >>= _) _ _ s1
    refine wpAny_bind (wpAny_holding ?_)
    unfold setAdd
    refine wpAny_holding ?_
    refine wpAny_bind (wpAny_pyHash_tuple hu at1 ?_)
    refine addM (s := { s1 with toks := s1.toks + (p.2.length + 1) }) Z1 at1 hu (by have := half.len; omega) fun b g1 L1 es1 epo t1 sb Z2 c1 c2 => ?_
    have half1 : Half ks (i + 1) L1 := by
      rcases Classical.em (p.2 ∈ L.map (·.2)) with c | c
      · rw [c1 c]; exact half.same ep1 c
      · exact half.more ep1 (c2 c)
    have k2 : ∀ b u, g0.get? b = some u → g1.get? b = some u := fun b u e => (sb.2 b (fun z => by rw [z, new] at e; cases e)).trans (k1 b u e)
    refine wpAny_pure ⟨plainId_quiet F.plain_set_update_loop _, ih (i + 1) _ (by omega) lt (W.frame _ s1 _ _ st1 (Nat.le_add_right _ _) fun b z u e => ?_) k2 ⟨L1, es1, epo, t1, Z2, half1⟩ fun s2 L2 es2 ep2 t2 mv2 Z3 half3 k3 => ?_⟩
    · rw [sb.2 b (fun e : b = S => out (by rw [← e]; exact z))]; exact e
    · refine fin s2 L2 es2 ep2 t2 (Moved.trans W.gtrans ((mv.mono sub).then_heap (Nat.le_add_right _ _) fun b u z e => ?_) mv2) Z3 half3 k3
      rw [sb.2 b (fun e : b = S => z (by rw [e]; exact List.mem_cons_self))]; exact e
set_option maxRecDepth 100000 in
set_option maxHeartbeats 3200000 in
theorem set_of_M {l : Addr} {its : Array Value} (ks : List (Addr × List Key)) {Q : Value → Shared → Prop} (still : A.handled = none) (il : s.heap.IsList l its) (ei : its.toList = ks.map fun p => Value.ref p.1) (at0 : ∀ p, p ∈ ks → AtM pr wd s.heap p.2 p.1) (four : ks.length ≤ 4) (hu : A.units + 3 < cLine)
    (fin : ∀ (g : Heap) (tk : Nat) L es ep t, SetM pr wd g s.heap.objs.size L es ep t → Half ks ks.length L → (∀ b u, s.heap.get? b = some u → g.get? b = some u) → Q (.ref s.heap.objs.size) { s with heap := g, toks := tk }) :
    wpAny (model pr wd) A (call (.type "set") [.ref l]) Q E s := by
  have sz : its.size = ks.length := by
    have e := congrArg List.length ei
    rwa [Array.length_toList, List.length_map] at e
  obtain ⟨k0, k1, mro0⟩ := F.called_set.mro
  have made0 := F.called_set.made; have sub0 := F.called_set.sub
  refine wpAny_call (codeAny_of_tree ?_)
  show wpAny _ _ (callAny (.type "set") _) _ _ _
  refine wpAny_pure ⟨Code.quiet_builtin _ (by decide +kernel), codeAny_builtin F.entry_type_call ?_⟩
  rw [Around.under_plain (weight_type_call_type "set" [.ref l] []) rfl]
  have not0 := F.called_set.notType; have can0 := F.called_set.canCreate; have call0 := F.typeCall_set_1 (.ref l)
  repeat (any_goals (first | assumption | wp_step))
  refine codeAny_mono (code_set_led1 (.ref l) (E := E) (Q₁ := fun x t => x = .ref s.heap.objs.size ∧ t = { s with heap := s.heap.push (bareS wd) }) ⟨rfl, rfl⟩) fun r t hr => ?_
  match r, hr with
  | .error e, hr => exact hr
  | .ok .next, hr => exact hr.elim
  | .ok .brk, hr => exact hr.elim
  | .ok .cont, hr => exact hr.elim
  | .ok (.ret x), hr =>
    obtain ⟨rfl, rfl⟩ := hr
    have gS : (s.heap.push (bareS wd)).get? s.heap.objs.size = some (bareS wd) := Heap.get?_push_size _ rfl
    have tS : Shared.TypeIs { s with heap := s.heap.push (bareS wd) } (.ref s.heap.objs.size) "set" := ⟨_, gS, rfl⟩
    have look0 := F.called_set.init.lookup; have bind0 := F.called_set.init.bind (.ref s.heap.objs.size)
    repeat (any_goals (first | assumption | wp_step))
    refine codeAny_mono (codeAny_call_builtin (R := wants (fun r t => r = .none ∧ ∃ g tk L es ep tb, t = { s with heap := g, toks := tk } ∧ SetM pr wd g s.heap.objs.size L es ep tb ∧ Half ks ks.length L ∧ (∀ b u, s.heap.get? b = some u → g.get? b = some u)) E)
      F.called_set.init.plain F.entry_set_init (check_set_init_1 tS ?_)) fun r2 t2 hr2 => ?_
    · obtain ⟨ol, gl, cl0, nl, dl⟩ := il
      obtain ⟨c1, d1, dt1, s1⟩ := ol
      simp only at cl0 dl
      subst cl0; subst dl
      have gl2 : (s.heap.push (bareS wd)).get? l = some { cls := .type "list", dict := d1, data := .seq its nl, slots := s1 } := Heap.get?_push_of_some _ gl
      have sub1 := F.sub_list_set; have sub2 := F.sub_list_frozenset
      have nd0 : (Value.type "list" == Value.type "dict") = false := by decide
      have il2 : (s.heap.push (bareS wd)).IsList l its := ⟨_, gl2, rfl, nl, rfl⟩
      unfold Builtin.«set.__init__» noKeywords Builtin.Frozenset.updateFrom
      generalize ePI : pyIter = PI
      wp_walk
      subst ePI
      refine wpAny_pyIter_list il2 ?_
      refine wpAny_bind (wpAny_runValue ?_)
      have lS : l < s.heap.objs.size := Heap.lt_size gl
      have still3 : A.in1.in1.in1.handled = none := by simp [still]
      have nI : l ≠ (s.heap.push (bareS wd)).objs.size := by
        rw [Heap.size_push]; exact Nat.ne_of_lt (Nat.lt_succ_of_lt lS)
      have nS : s.heap.objs.size ∉ [(s.heap.push (bareS wd)).objs.size, l] := by
        rw [Heap.size_push]; simp only [List.mem_cons, List.mem_singleton, List.not_mem_nil, or_false, not_or]
        exact ⟨Nat.ne_of_lt (Nat.lt_succ_self _), Nat.ne_of_gt lS⟩
      have no : ∀ b, s.heap.objs.size ≤ b → s.heap.get? b = none := fun b z => by
        cases e : s.heap.get? b with
        | none => rfl
        | some u => exact absurd (Nat.lt_of_lt_of_le (Heap.lt_size e) z) (Nat.lt_irrefl _)
      refine fillM ((Walks.list still3 _ l nI its).toS) s.heap.objs.size nS ks sz four (fun i v hv => ?_) s.heap at0 (no _ (Nat.le_refl _)) (fun b z => no b ?_) hu (its.size - 0) 0 _ (by omega) (Nat.zero_le _) ⟨⟨_, Heap.get?_push_size _ rfl, rfl, rfl⟩, (il2.push _)⟩ (fun b u e => Heap.get?_push_of_some _ (Heap.get?_push_of_some _ e)) ?start ?stop
      · have e : its.toList[i]? = some v := by rw [Array.getElem?_toList]; exact hv
        rw [ei, List.getElem?_map] at e
        cases z : ks[i]? with
        | none => rw [z] at e; cases e
        | some p => rw [z] at e; exact ⟨p, rfl, (Option.some.inj e).symm⟩
      · rw [List.mem_singleton.mp z, Heap.size_push]
        exact Nat.le_succ _
      case start => exact ⟨[], #[], 0, _, setM_bare (Heap.get?_push_of_some _ gS), Half.zero ks⟩
      case stop =>
        intro t L es ep tb mv Z half k
        obtain ⟨g, g2, dr, tk, os⟩ := t
        obtain rfl : g2 = s.gens := mv.gens
        obtain rfl : dr = s.drawn := mv.drawn
        obtain rfl : os = s.os := mv.os
        show wpAny _ _ _ _ _ _
        refine wpAny_pure ?_
        show wpAny _ _ (ret Value.none) _ _ _
        rw [sz] at half
        exact wpAny_pure ⟨rfl, g, tk, L, es, ep, tb, rfl, Z, half, k⟩
    · match r2, hr2 with
      | .error e, hr2 => exact hr2
      | .ok .next, hr2 => exact hr2.elim
      | .ok .brk, hr2 => exact hr2.elim
      | .ok .cont, hr2 => exact hr2.elim
      | .ok (.ret x), hr2 =>
        obtain ⟨rfl, g, tk, L, es, ep, tb, rfl, Z, half, k⟩ := hr2
        repeat (any_goals (first | assumption | wp_step))
        exact fin _ _ _ _ _ _ Z half k
end
/-! ### sorted -/
theorem perm_back {α β : Type} (f : α → β) : ∀ (vs : List β) (l : List α), vs.Perm (l.map f) → ∃ l2 : List α, l2.Perm l ∧ l2.map f = vs
  | [], l, z => by
    have e := z.length_eq
    rw [List.length_map] at e
    obtain rfl : l = [] := List.eq_nil_of_length_eq_zero e.symm
    exact ⟨[], List.Perm.refl _, rfl⟩
  | v :: vs, l, z => by
    obtain ⟨x, hx, e⟩ := List.mem_map.mp (z.mem_iff.mp List.mem_cons_self)
    obtain ⟨A, B, rfl⟩ := List.append_of_mem hx
    have z2 : (v :: vs).Perm (v :: (A ++ B).map f) := by
      refine z.trans ?_
      rw [List.map_append, List.map_cons, e, List.map_append]
      exact List.perm_middle
    obtain ⟨l2, p2, e2⟩ := perm_back f vs (A ++ B) z2.cons_inv
    exact ⟨x :: l2, (p2.cons x).trans List.perm_middle.symm, by rw [List.map_cons, e, e2]⟩
/-- a tuple of two ints and a text, with its address -/
abbrev RowM : Type := Addr × Int × Int × Str
def keyM (q : RowM) : List Key := [.inl q.2.1, .inl q.2.2.1, .inr q.2.2.2]
def entM (q : RowM) : Addr × List Key := (q.1, keyM q)
def encM (q : RowM) : PyData := .tuple [.int q.2.1, .int q.2.2.1, .str q.2.2.2]
theorem alike_encM (b c : RowM) : alike (encM b) (encM c) = true := by
  unfold encM
  simp [alike, alikeAll]
section
variable {pr : Program} {wd : World} {A : Around} {E : Value → Shared → Prop} {s : Shared}
theorem readsM {g : Heap} {q : RowM} (z : AtM pr wd g (keyM q) q.1) : Reads g (.ref q.1) (encM q) [] := by
  obtain ⟨u, its, n, gu, cu, du, iu⟩ := z
  have key : ReadsAll g its.toList [.int q.2.1, .int q.2.2.1, .str q.2.2.2] [] := by
    unfold keyM at iu
    generalize its.toList = vs at iu
    cases iu with
    | cons a1 b1 =>
      cases b1 with
      | cons a2 b2 =>
        cases b2 with
        | cons a3 b3 =>
          cases b3
          obtain ⟨t1, rfl⟩ := Value.isInt_shape a1
          obtain ⟨t2, rfl⟩ := Value.isInt_shape a2
          rcases keyIs_shape (show keyIs (.inr q.2.2.2) _ = true from a3) with ⟨_, _, e, _⟩ | ⟨x, t3, e, rfl⟩
          · exact nomatch e
          · injection e with e
            subst e
            exact ReadsAll.cons (as := []) (bs := []) (.int _ _) (ReadsAll.cons (as := []) (bs := []) (.int _ _) (ReadsAll.cons (as := []) (bs := []) (.str _ _) .nil))
  exact .tuple gu cu du key
theorem sorted_M {a : Addr} {M : List RowM} {es : Array (Int × Value)} {ep : Nat} {t : SetTable} {Q : Value → Shared → Prop} (Z : SetM pr wd s.heap a (M.map entM) es ep t) (still : A.handled = none) (hu : A.units + 64 < cLine)
    (fin : ∀ s1 p (out : Array Value) (c : Nat) (M1 : List RowM), (∀ b u, s.heap.get? b = some u → s1.heap.get? b = some u) → s1.gens = s.gens → s1.os = s.os → s.heap.objs.size ≤ p → s1.heap.get? p = some (seqObj "list" out c) →
      M1.Perm M → out.toList = (M1.mergeSort (dataLe false encM)).map (fun q => Value.ref q.1) → Q (.ref p) s1) :
    wpAny (model pr wd) A (call (.builtin "sorted") [.ref a]) Q E s := by
  obtain ⟨u, gu, xu, du⟩ := Z.ob
  have zs := Z.size
  have few := Z.four
  rw [List.length_map] at zs few
  refine Calls.call_function_entry kind_sorted plain_sorted entry_sorted (args_sorted1 _) ?_
  unfold Builtin.«sorted»
  refine wpAny_bind (m := checkCount "sorted" 1 1 _) (wpAny_pure ?_)
  refine wpAny_bind (collect_set (A := A.in1) still ⟨u, gu, xu.1, du⟩ Z.fits (by unfold scanBound; omega) Z.tab.ris Z.led fun s1 vs keep grow gg oo pm => ?_)
  have rows : es.toList.map (·.2) = M.map fun q => Value.ref q.1 := by
    rw [Z.line]
    unfold lineM
    rw [List.map_map, List.map_map] <;> rfl
  rw [rows] at pm
  obtain ⟨M1, pm1, e1⟩ := perm_back (fun q : RowM => Value.ref q.1) vs M pm
  have lv : vs.length ≤ 4 := by rw [← e1, List.length_map, pm1.length_eq]; exact few
  refine wpAny_bind (wpAny_newList ?_ (by rw [sizeLine_eq]; omega))
  have gL : (s1.heap.push (seqObj "list" vs.toArray 0)).get? s1.heap.objs.size = some (seqObj "list" vs.toArray 0) := Heap.get?_push_size _ rfl
  have each : ∀ (N : List RowM), (∀ q ∈ N, q ∈ M) → EachIs (fun v q => v = Value.ref q.1) (N.map fun q => Value.ref q.1) N ∧ EachIs (fun v q => ∃ as, Reads (s1.heap.push (seqObj "list" vs.toArray 0)) v (encM q) as ∧ s1.heap.objs.size ∉ as) (N.map fun q => Value.ref q.1) N := by
    intro N
    induction N with
    | nil => intro _; exact ⟨.nil, .nil⟩
    | cons q N ih =>
      intro hN
      obtain ⟨i1, i2⟩ := ih fun r hr => hN r (List.mem_cons_of_mem _ hr)
      have z := Z.are (entM q) (List.mem_map.mpr ⟨q, hN q List.mem_cons_self, rfl⟩)
      exact ⟨.cons rfl i1, .cons ⟨[], readsM (AtM.same z fun b u e => Heap.get?_push_of_some _ (keep b u e)), by simp⟩ i2⟩
  obtain ⟨i1, i2⟩ := each M1 fun q hq => pm1.mem_iff.mp hq
  rw [e1] at i1 i2
  have hd : ∀ q : RowM, (encM q).depth ≤ 2 := fun q => by
    unfold encM
    simp [PyData.depth, PyData.depthAll]
  refine wpAny_bind (wpAny_holding (PySem.W.list_sort_data (s := { s1 with heap := s1.heap.push (seqObj "list" vs.toArray 0) }) (enc := encM) gL i1 i2 (AllAlike.of alike_encM) (Sortable.tuples fun b => ⟨_, _, rfl⟩) (by rw [pm1.length_eq, sizeLine_eq]; omega) (fun b _ => ?_) fun out lo eo => ?_))
  · have := hd b
    show A.in1.units + 1 + (encM b).depth < cLine
    have : A.in1.units = A.units + 1 := rfl
    omega
  obtain ⟨c, hc⟩ := sortedHeap_at (vs := vs) (out := out.toArray) gL
  refine wpAny_pure ⟨_, rfl, fin _ s1.heap.objs.size out.toArray c M1 (fun b u e => ?_) gg oo grow hc pm1 ?_⟩
  · have q := keep b u e
    have lt := Heap.lt_size q
    show (sortedHeap (s1.heap.push (seqObj "list" vs.toArray 0)) s1.heap.objs.size vs out.toArray).get? b = some u
    rw [sortedHeap_old (Nat.ne_of_lt lt) (by rw [size_push']; exact Nat.lt_succ_of_lt lt)]
    exact Heap.get?_push_of_some _ q
  · show out = _
    have key : ∀ {N : List RowM} {o : List Value}, EachIs (fun v q => v = Value.ref q.1) o N → o = N.map fun q => Value.ref q.1 := by
      intro N
      induction N with
      | nil => intro o z; cases z; rfl
      | cons q N ih => intro o z; cases z with
        | cons r1 r2 => rw [List.map_cons, ← ih r2, r1]
    exact key eo
end
/-! ### the rules -/
structure SetM0 (pr : Program) (wd : World) (g : Heap) (a : Addr) (L : List (Addr × List Key)) : Prop where
  ex : ∃ (es : Array (Int × Value)) (ep : Nat) (t : SetTable), (∃ o, g.get? a = some o ∧ o.ExactSet ∧ o.data = .set es ep t) ∧ es.toList = lineM pr wd L ∧ TabOk t (L.map fun p => hM pr wd p.2) ∧ (L.map (·.2)).Nodup ∧
    (wd.params.followText "set-order" = true ∨ t.led = true) ∧ t.mask = 7 ∧ L.length ≤ 4
def SetMO (pr : Program) (wd : World) (a : Addr) (L : List (Addr × List Key)) : HO := .ext fun g => SetM0 pr wd g a L
theorem SetM.m0 {pr : Program} {wd : World} {g : Heap} {a : Addr} {L : List (Addr × List Key)} {es : Array (Int × Value)} {ep : Nat} {t : SetTable} (Z : SetM pr wd g a L es ep t) : SetM0 pr wd g a L :=
  ⟨es, ep, t, Z.ob, Z.line, Z.tab, Z.nod, Z.led, Z.m7, Z.four⟩
theorem SetM0.whole {pr : Program} {wd : World} {g : Heap} {a : Addr} {L : List (Addr × List Key)} (Z : SetM0 pr wd g a L) (at1 : ∀ p, p ∈ L → AtM pr wd g p.2 p.1) : ∃ es ep t, SetM pr wd g a L es ep t := by
  obtain ⟨es, ep, t, z1, z2, z3, z4, z5, z6, z7⟩ := Z.ex
  exact ⟨es, ep, t, z1, z2, z3, z4, at1, z5, z6, z7⟩
theorem setMO_new {pr : Program} {wd : World} {H : Hp} {g : Heap} {a : Addr} {L : List (Addr × List Key)} (Z : SetM0 pr wd g a L) : ObjOk pr wd H g a (SetMO pr wd a L) := by
  have ⟨es, ep, t, ⟨o, go, r⟩, q⟩ := Z.ex
  refine ⟨Z, ⟨o, go⟩, fun g1 g2 z k => ?_⟩
  have ⟨es2, ep2, t2, ⟨o2, go2, r2⟩, q2⟩ := SetM0.ex z
  exact ⟨es2, ep2, t2, ⟨o2, k o2 go2, r2⟩, q2⟩
def valM (q : RowM) : HO := .tup [.int q.2.1, .int q.2.2.1, .str q.2.2.2]
section
variable {X : Cx}
theorem inv_atM {pins : List (Addr × Obj)} {σ : L2.St} {H : Hp} {s : Shared} (I : Inv X pins σ H s) {q : RowM} (e : H q.1 = some (valM q)) : AtM X.prog X.w s.heap (keyM q) q.1 :=
  key_of (ks := keyM q) I.hok e
/-- set(xs) of a list of at most four tuples of two ints and a text -/
def rSetM (K : PySem.W.Frag) (pr : Program) (wd : World) : List V → Hp → VK → Prop := fun vs H Q => ∃ (l : Addr) (ks : List RowM), vs = [V.ref l] ∧ SqL K H l (ks.map fun q => V.ref q.1) ∧ (∀ q, q ∈ ks → H q.1 = some (valM q)) ∧ ks.length ≤ 4 ∧
  ∀ (a : Addr) (M : List RowM), H a = none → (∀ q, q ∈ M → q ∈ ks) → (∀ q, q ∈ ks → q.2 ∈ M.map (·.2)) → (M.map (·.2)).Nodup → Q (.ref a) (upd H a (SetMO pr wd a (M.map entM)))
theorem cr_setM (hc : X.calm = true) (hu : X.A.units + 64 < cLine) : CallR X (.type "set") (rSetM X.K X.prog X.w) := by
  intro pins s σ H vs us Q I r h
  obtain ⟨l, ks, rfl, sl, at1, four, q⟩ := h
  rw [Vals.ref1 r]
  obtain ⟨its, rv, pl, hz⟩ := I.list sl
  have hn : H s.heap.objs.size = none := I.hok.fresh (Nat.le_refl _)
  have ei : its = (ks.map entM).map fun p => Value.ref p.1 := by
    have key : ∀ {ks : List RowM} {us : List Value}, Vals (ks.map fun q => V.ref q.1) us → us = (ks.map entM).map fun p => Value.ref p.1 := by
      intro ks
      induction ks with
      | nil => intro us z; cases z; rfl
      | cons q ks ih => intro us z; cases z with
        | cons r1 r2 => cases r1; rw [ih r2]; rfl
    exact key rv
  have inj : ∀ {q r : RowM}, keyM q = keyM r → q.2 = r.2 := fun {q r} e => by
    obtain ⟨_, o, s, m⟩ := q
    obtain ⟨_, o', s', m'⟩ := r
    unfold keyM at e
    simp only [List.cons.injEq, Sum.inl.injEq, Sum.inr.injEq, and_true] at e
    obtain ⟨e1, e2, e3⟩ := e
    subst e1 e2 e3
    rfl
  refine set_of_M (ks.map entM) (I.ok.hd hc) pl.isList (by simpa using ei) (fun p y => ?_) (by rw [List.length_map]; exact four) (by omega) fun g tk L es ep t Z half k => ?_
  · obtain ⟨q, hq, rfl⟩ := List.mem_map.mp y
    exact inv_atM I (at1 q hq)
  · have sub : ∀ p, p ∈ L → p ∈ ks.map entM := fun p y => List.mem_of_mem_take (half.sub p y)
    obtain ⟨M, eM, sM⟩ : ∃ M : List RowM, L = M.map entM ∧ ∀ q, q ∈ M → q ∈ ks := by
      have key : ∀ N : List (Addr × List Key), (∀ p, p ∈ N → p ∈ ks.map entM) → ∃ M : List RowM, N = M.map entM ∧ ∀ q, q ∈ M → q ∈ ks := by
        intro N
        induction N with
        | nil => intro _; exact ⟨[], rfl, fun q z => by cases z⟩
        | cons p N ih =>
          intro hN
          obtain ⟨q, hq, e⟩ := List.mem_map.mp (hN p List.mem_cons_self)
          obtain ⟨M, e2, s2⟩ := ih fun r hr => hN r (List.mem_cons_of_mem _ hr)
          refine ⟨q :: M, by rw [List.map_cons, e, e2], fun r hr => ?_⟩
          rcases List.mem_cons.mp hr with z | z
          · rw [z]; exact hq
          · exact s2 r z
      exact key L sub
    subst eM
    refine ⟨.ref s.heap.objs.size, upd H s.heap.objs.size (SetMO X.prog X.w s.heap.objs.size (M.map entM)), I.laid (t' := tk) k (Nat.le_refl _) (setMO_new Z.m0), rfl, q _ M hn sM (fun r hr => ?_) ?_⟩
    · have z := half.all (entM r) (by rw [List.take_length]; exact List.mem_map.mpr ⟨r, hr, rfl⟩)
      rw [List.map_map] at z
      obtain ⟨q, hq, e⟩ := List.mem_map.mp z
      exact List.mem_map.mpr ⟨q, hq, inj e⟩
    · have z := Z.nod
      rw [List.map_map] at z
      refine List.pairwise_map.mpr (List.Pairwise.imp (fun {q r} ne e => ne ?_) (List.pairwise_map.mp z))
      show keyM q = keyM r
      unfold keyM
      rw [e]
/-- sorted of such a set -/
def rSortedM (pr : Program) (wd : World) : List V → Hp → VK → Prop := fun vs H Q => ∃ (a : Addr) (M : List RowM), vs = [V.ref a] ∧ H a = some (SetMO pr wd a (M.map entM)) ∧ (∀ q, q ∈ M → H q.1 = some (valM q)) ∧
  ∀ (M1 : List RowM) (p : Addr), M1.Perm M → H p = none → Q (.ref p) (upd H p (.lst ((M1.mergeSort (dataLe false encM)).map fun q => V.ref q.1)))
theorem cr_sortedM (hc : X.calm = true) (hu : X.A.units + 64 < cLine) : CallR X (.builtin "sorted") (rSortedM X.prog X.w) := by
  intro pins s σ H vs us Q I r h
  obtain ⟨a, M, rfl, ha, at1, q⟩ := h
  have Z0 : SetM0 X.prog X.w s.heap a (M.map entM) := (I.hok a _ ha).1
  obtain ⟨es, ep, t, Z⟩ := Z0.whole fun p y => by
    obtain ⟨q, hq, rfl⟩ := List.mem_map.mp y
    exact inv_atM I (at1 q hq)
  have four := Z.four
  rw [List.length_map] at four
  rw [Vals.ref1 r]
  refine sorted_M Z (I.ok.hd hc) hu fun s1 p out c M1 k gg o hp hg pm eo => ?_
  have hlen : ((M1.mergeSort (dataLe false encM)).map fun q => V.ref q.1).length ≤ sizeLine := by rw [List.length_map, List.length_mergeSort, pm.length_eq, sizeLine_eq]; omega
  have hn : H p = none := I.hok.fresh hp
  have hv : Vals ((M1.mergeSort (dataLe false encM)).map fun q => V.ref q.1) out.toList := by
    rw [eo]
    generalize M1.mergeSort (dataLe false encM) = N
    induction N with
    | nil => exact .nil
    | cons q N ih => exact .cons rfl ih
  have J : Inv X pins σ (upd H p (.lst ((M1.mergeSort (dataLe false encM)).map fun q => V.ref q.1))) { s with heap := s1.heap, gens := s1.gens, drawn := s1.drawn, toks := s1.toks } :=
    I.call (ch := []) (Un.laid k hp hn) (I.hok.laid k hp ⟨hlen, out.toList, c, hv, hg⟩) (by rw [gg]; exact I.bare) (fun _ z => nomatch z)
  have e : s1 = { s with heap := s1.heap, gens := s1.gens, drawn := s1.drawn, toks := s1.toks } := by
    cases s1
    cases s
    cases o
    rfl
  rw [e]
  exact ⟨.ref p, _, J, rfl, q M1 p pm hn⟩
end
end HT
namespace HT
open PySem L2
def rowF (p : Addr) (d : Sd) : RowM := (p, formO d.o d.s (firstM d.s d.m), d.s, firstM d.s d.m)
theorem over2 {H : Hp} {a p b : Addr} {o1 o2 u : HO} (na : H a = none) (np : upd H a o1 p = none) (h : H b = some u) : upd (upd H a o1) p o2 b = some u := by
  have z : upd H a o1 b = some u := (upd_ne (ne_of_none h na)).trans h
  exact (upd_ne (ne_of_none z np)).trans z
section
variable {P : Program} {w : World} {K : PySem.W.Frag} {mg : Str → Option Value} {base : Heap} {Z fC fM : Addr} {dC dM : FuncData}
theorem ok_Z_init {f : Addr} {fd : FuncData} (F : Fun K "__init__" "Sides.__init__" s_Z_init f fd) (c : Cls K Z) (n1 : NoAttr K Z "_sides") (n2 : NoAttr K Z "_forms") (hl : mg "list" = none) (hs : mg "set" = none) (ho : mg "sorted" = none)
    (Ck : Cal P w K mg base "check_sides" 5 ["sides"] spSides fC dC) (Fm : Cal P w K mg base "form" 4 ["side"] spForm fM dM) : FnOk P w K mg base CX0 6 f fd ["self", "sides"] (spZInit Z) := by
  refine F.ok sc_Z_init (fun vs H Q E h => ?_) (fun cdv A outer s0 H vs Q E hr h => ?_)
  · obtain ⟨x, dx, l, xs, ss, rfl, _⟩ := h
    rfl
  · obtain ⟨x, dx, l, xs, ss, rfl, hx, SS, q⟩ := h
    have nd := sc_Z_init.nd
    refine ⟨_, pss_cons (ps_expr (pcl Ck hr (by decide) (by rfl) (pa_cons (pv 1) pa_nil)))
      (pss_cons (ps_fld (pv 0) (pe_callTy call_list_of (by rfl) hl (by decide +kernel) (pa_cons (pv 1) pa_nil)) (by rfl))
      (pss_one (ps_fld (pv 0) (pe_callB (cr_sortedM rfl hr.units) (by rfl) ho (by decide +kernel) (pa_cons (pe_callTy (cr_setM rfl hr.units) (by rfl) hs (by decide +kernel) (pa_cons
        (pe_lc (own := [("side", 2)]) (g := gName 2) (tt := tYes) rfl nd (pi_list (pv 1)) (blkOk_by (N := ["self", "sides", "side"]) (sc := defScope s_Z_init) (by decide +kernel)) (fun _ _ _ _ _ => pg_name (i := 2) nd rfl (Or.inl rfl)) (fun _ _ _ _ _ => pts_nil) (fun _ _ _ _ _ => pcl Fm hr (by decide) (by rfl) (pa_cons (pv 2) pa_nil))) pa_nil)) pa_nil)) (by rfl)))), ?_⟩
    walk_at "rd"
    refine ⟨l, xs, ss, rfl, SS, ?_⟩
    walk_at "rd"
    refine ⟨l, _, rfl, .inl (SqL.of SS.hl), fun n nn => ?_⟩
    have w1 : Same H (upd H n (.lst xs)) := fun b u z => (upd_ne (ne_of_none z nn)).trans z
    have g1 : upd H n (.lst xs) n = some (.lst xs) := upd_same
    generalize upd H n (.lst xs) = H1 at w1 g1 ⊢
    walk_at "rd"
    refine ⟨x, Z, dx, [], rfl, w1 _ _ hx, c, n1, by decide, ?_⟩
    have w2 : ∀ b u, b ≠ x → H1 b = some u → upd H1 x (.ins Z dx (putF "_sides" (.ref n) [])) b = some u := fun b u e z => (upd_ne e).trans z
    have g2 : upd H1 x (.ins Z dx (putF "_sides" (.ref n) [])) x = some (.ins Z dx [("_sides", .ref n)]) := upd_same
    generalize upd H1 x (.ins Z dx (putF "_sides" (.ref n) [])) = H2 at w2 g2 ⊢
    have nl : l ≠ x := fun e => by
      have z := SS.hl
      rw [e, hx] at z
      cases z
    have nx : n ≠ x := (ne_of_none hx nn).symm
    have no : ∀ {b : Addr} {u : HO}, b ≠ x → H b = some u → H2 b = some u := fun {b u} e z => w2 b u e (w1 _ _ z)
    have notx : ∀ {b : Addr} {o s : Int} {m : Str}, H b = some (sideV o s m) → b ≠ x := fun {b o s m} z e => by
      rw [e, hx] at z
      cases z
    have S2 : SidesAt H2 l xs ss := ⟨no nl SS.hl, SS.len, SS.l1, SS.l4, fun i d h => let ⟨p, a, b, c⟩ := SS.at_ i d h; ⟨p, a, no (notx b) b, c⟩⟩
    have Sn : SidesAt H2 n xs ss := ⟨w2 _ _ nx g1, S2.len, S2.l1, S2.l4, S2.at_⟩
    walk_at "rd"
    refine ⟨⟨_, SqL.of S2.hl⟩, fun L nL => ?_⟩
    refine lc_list (K := K) (a := l) (xs := xs) (fun i H3 => ∃ ks : List RowM, H3 L = some (.lst (ks.map fun q => V.ref q.1)) ∧ ks.length = i ∧ i ≤ ss.length ∧ Same H2 H3 ∧ ∀ q, q ∈ ks → H3 q.1 = some (valM q))
      ⟨[], upd_same, rfl, Nat.zero_le _, fun b u z => (upd_ne (ne_of_none z nL)).trans z, fun q z => by cases z⟩ (fun _ _ _ ⟨_, _, _, _, sm, _⟩ => SqL.of (sm _ _ S2.hl)) ?_ ?_
    · rintro i y H3 hy ⟨ks, hD, lk, li, sm, at_⟩
      obtain ⟨d, p, ed, rfl, hp, sp⟩ := S2.item hy
      have il : i < ss.length := (List.getElem?_eq_some_iff.mp ed).1
      refine ⟨rfl, ?_⟩
      walk_at "rd"
      refine ⟨p, d.o, d.s, d.m, rfl, sm _ _ hp, sp, fun b H4 s34 nb hb => ?_⟩
      have hD4 := s34 _ _ hD
      walk_at "rd"
      refine ⟨_, hD4, ?_, ks ++ [rowF b d], ?_, ?_, il, ?_, ?_⟩
      · rw [List.length_map, lk]
        exact Nat.lt_of_lt_of_le il (Nat.le_trans SS.l4 (by decide))
      · rw [List.map_append]
        exact upd_same
      · rw [List.length_append, lk]
        rfl
      · intro c u y
        exact (upd_ne (ne_of_none y nL)).trans (s34 _ _ (sm _ _ y))
      · intro r hr
        have nLr : ∀ {u : HO}, H4 r.1 = some u → (∀ zs, u ≠ .lst zs) → r.1 ≠ L := fun {u} e z e2 => by
          rw [e2, hD4] at e
          exact z _ (Option.some.inj e).symm
        rcases List.mem_append.mp hr with z | z
        · have e := s34 _ _ (at_ r z)
          exact (upd_ne (nLr e fun zs y => by unfold valM at y; cases y)).trans e
        · rw [List.mem_singleton.mp z]
          have e : H4 b = some (valM (rowF b d)) := hb
          refine (upd_ne (fun e2 => ?_)).trans e
          rw [show (rowF b d).1 = b from rfl] at e2
          rw [e2, hD4] at e
          unfold valM at e
          cases e
    · rintro H3 ⟨ks, hD, lk, li, sm, at_⟩
      walk_at "rd"
      refine ⟨L, ks, rfl, SqL.of hD, at_, by rw [lk, S2.len]; exact SS.l4, fun a M na sub _ _ => ?_⟩
      walk_at "rd"
      refine ⟨a, M, rfl, upd_same, fun q z => (upd_ne (ne_of_none (at_ q (sub q z)) na)).trans (at_ q (sub q z)), fun M1 p _ np => ?_⟩
      walk_at "rd"
      refine ⟨x, Z, dx, [("_sides", .ref n)], rfl, over2 na np (sm _ _ g2), c, n2, (by show 1 < 1000; decide), ?_⟩
      refine q _ (fun b u e z => (upd_ne e).trans (over2 na np (sm _ _ (no e z)))) ⟨dx, n, .ref p, xs, upd_same, (upd_ne nx).trans (over2 na np (sm _ _ Sn.hl)), Sn.len, Sn.l1, Sn.l4, fun i d h => ?_⟩
      obtain ⟨p2, a2, b2, c2⟩ := Sn.at_ i d h
      exact ⟨p2, a2, (upd_ne (fun e => by rw [e, g2] at b2; cases b2)).trans (over2 na np (sm _ _ b2)), c2⟩
end
end HT
namespace HT
open PySem L2
theorem log_lt {n k : Nat} (h : n < 2 ^ (k + 1)) : n.log2 ≤ k := by
  by_cases h0 : n = 0
  · subst h0
    rw [Nat.log2_zero]
    exact Nat.zero_le _
  · exact Nat.le_of_lt_succ ((Nat.log2_lt h0).mpr h)
theorem lcm_lt {a b i j : Nat} (ha : a < 2 ^ i) (hb : b < 2 ^ j) : a.lcm b < 2 ^ (i + j) := by
  rw [Nat.pow_add]
  exact Nat.lt_of_le_of_lt (PySem.W.mc_lcm_le a b) (Nat.mul_lt_mul'' ha hb)
def rLcm2 : List V → Hp → VK → Prop := fun vs H Q => ∃ a b : Int, vs = [.int a, .int b] ∧ a.natAbs < 2 ^ 2000 ∧ b.natAbs < 2 ^ 2000 ∧ Q (.int (((a.natAbs.lcm b.natAbs : Nat) : Int))) H
theorem cr_lcm2 {X : Cx} : CallR X (.builtin "math.lcm") rLcm2 := by
  intro pins s σ H vs us Q I r h
  obtain ⟨a, b, rfl, ha, hb, q⟩ := h
  obtain ⟨u1, u2, rfl, r1, r2⟩ := vals2 r
  obtain ⟨t, rfl⟩ := r1
  obtain ⟨u, rfl⟩ := r2
  have hab := lcm_lt ha hb
  have e1 : Nat.lcm 1 a.natAbs = a.natAbs := PySem.W.mc_lcm_one _
  have two : ∀ {k : Nat}, 1 < 2 ^ (k + 1) := fun {k} => Nat.one_lt_two_pow (by omega)
  have g := PySem.W.mg_run_lcm a t b u
    (by have := log_lt (n := max 1 a.natAbs) (k := 1999) (Nat.max_lt.mpr ⟨two, ha⟩); omega)
    (by have := log_lt (n := max a.natAbs b.natAbs) (k := 1999) (Nat.max_lt.mpr ⟨ha, hb⟩); omega)
    (by rw [e1]; exact PySem.W.mc_size (k := 100) (Nat.le_trans (Nat.le_of_lt hab) (Nat.pow_le_pow_right (by decide) (by decide))) (by decide))
  rw [e1] at g
  exact PySem.call_function_meets PySem.W.MGF.kind_lcm PySem.W.MGF.plain_lcm PySem.W.MGF.entry_lcm (PySem.W.MGF.args_lcm _ _) g.meets ⟨.int _, H, I.tok _, ⟨_, rfl⟩, q⟩
end HT
namespace HT
open PySem L2
structure MaxT (mg : Str → Option Value) : Prop where
  max : mg "max" = none
  min : mg "min" = none
def spRs : Sp := fun vs H Q _ => ∃ (p : Addr) (o s : Int) (m : Str), vs = [.ref p] ∧ H p = some (sideV o s m) ∧ SideP o s m ∧ ∀ H', Same H H' → Q (.bl (!decide (firstM s m = "down"))) H'
section
variable {P : Program} {w : World} {K : PySem.W.Frag} {mg : Str → Option Value} {base : Heap} {fH : Addr} {dH : FuncData}
theorem ok_rs {f : Addr} {fd : FuncData} (F : Fun K "_raises_some" "_raises_some" s_raises_some f fd) (Fm : Cal P w K mg base "form" 4 ["side"] spForm fH dH) : FnOk P w K mg base CX0 5 f fd ["side"] spRs := by
  refine F.ok sc_raises_some (fun vs H Q E h => ?_) (fun cdv A outer s0 H vs Q E hr h => ?_)
  · obtain ⟨p, o, s, m, rfl, _⟩ := h
    rfl
  · obtain ⟨p, o, s, m, rfl, hp, S, q⟩ := h
    have nd := sc_raises_some.nd
    refine ⟨_, (pss_cons (ps_asg (pcl Fm hr (by decide) (by rfl) (pa_cons (pv 0) pa_nil)) (pg_tup (by rfl) (pgs_cons (pg_name (i := 1) nd rfl (Or.inl rfl)) (pgs_cons (pg_name (i := 1) nd rfl (Or.inl rfl)) (pgs_cons (pg_name (i := 2) nd rfl (Or.inl rfl)) pgs_nil)))))
      (pss_one (ps_ret (pe_cmpR op_ne (pv 2) pe_str (nomark _))))), ?_⟩
    walk_at "rd"
    refine ⟨p, o, s, m, rfl, hp, S, fun d H2 s2 nd2 hd => ?_⟩
    refine ⟨d, _, rfl, SqT.of hd, rfl, _, _, rfl, _, _, rfl, _, _, rfl, rfl, ?_⟩
    walk_at "rd"
    refine ⟨rfl, ?_⟩
    have y := q H2 s2
    rw [← show decide (V.str (firstM s m) = V.str "down") = decide (firstM s m = "down") by rw [dec_str]] at y
    exact y
end
end HT
namespace HT
open PySem L2
/-- the list at l holds sides with these parts; it may be empty -/
structure SidL (H : Hp) (l : Addr) (xs : List V) (ss : List Sd) : Prop where
  hl : H l = some (.lst xs)
  len : xs.length = ss.length
  l4 : ss.length ≤ 4
  at_ : ∀ (i : Nat) (d : Sd), ss[i]? = some d → ∃ p : Addr, xs[i]? = some (V.ref p) ∧ H p = some (sideV d.o d.s d.m) ∧ SideP d.o d.s d.m
theorem SidesAt.toL {H : Hp} {l : Addr} {xs : List V} {ss : List Sd} (S : SidesAt H l xs ss) : SidL H l xs ss := ⟨S.hl, S.len, S.l4, S.at_⟩
theorem SidL.same {H H' : Hp} {l : Addr} {xs : List V} {ss : List Sd} (S : SidL H l xs ss) (e : Same H H') : SidL H' l xs ss :=
  ⟨e _ _ S.hl, S.len, S.l4, fun i d h => let ⟨p, a, b, c⟩ := S.at_ i d h; ⟨p, a, e _ _ b, c⟩⟩
theorem SidL.item {H : Hp} {l : Addr} {xs : List V} {ss : List Sd} (S : SidL H l xs ss) {i : Nat} {y : V} (h : xs[i]? = some y) : ∃ d p, ss[i]? = some d ∧ y = .ref p ∧ H p = some (sideV d.o d.s d.m) ∧ SideP d.o d.s d.m := by
  have hi : i < ss.length := by have := (List.getElem?_eq_some_iff.mp h).1; rw [S.len] at this; exact this
  obtain ⟨p, e, hp, sp⟩ := S.at_ i ss[i] (List.getElem?_eq_getElem hi)
  rw [h] at e
  exact ⟨ss[i], p, List.getElem?_eq_getElem hi, Option.some.inj e, hp, sp⟩
theorem SidL.side {H : Hp} {l : Addr} {xs : List V} {ss : List Sd} (S : SidL H l xs ss) : ∀ d ∈ ss, SideP d.o d.s d.m := fun d hd => by
  obtain ⟨i, hi, rfl⟩ := List.mem_iff_getElem.mp hd
  obtain ⟨_, _, _, sp⟩ := S.at_ i _ (List.getElem?_eq_getElem hi)
  exact sp
def upD (d : Sd) : Bool := !decide (firstM d.s d.m = "down")
def mirD (d : Sd) : Sd := ⟨-d.o, d.s, mir d.m⟩
/-- v, or what some side writes for it, and no less -/
def HiP (ss : List Sd) (v h : Int) : Prop := v ≤ h ∧ (∀ d ∈ ss, dueM d.o d.s d.m v ≤ h) ∧ (h = v ∨ ∃ d ∈ ss, h = dueM d.o d.s d.m v)
def spPerL : Sp := fun vs H Q _ => ∃ (l : Addr) (xs : List V) (ss : List Sd), vs = [.ref l] ∧ SidL H l xs ss ∧ Q (.int (comN ss : Int)) H
def spRais : Sp := fun vs H Q _ => ∃ (l : Addr) (xs : List V) (ss : List Sd), vs = [.ref l] ∧ SidL H l xs ss ∧ ∀ (L : Addr) (ys : List V) (H' : Hp), H L = none → Same H H' → SidL H' L ys (ss.filter upD) → Q (.ref L) H'
def spMirs : Sp := fun vs H Q _ => ∃ (l : Addr) (xs : List V) (ss : List Sd), vs = [.ref l] ∧ SidL H l xs ss ∧ ∀ (L : Addr) (ys : List V) (H' : Hp), H L = none → Same H H' → SidL H' L ys (ss.map mirD) → Q (.ref L) H'
def spHi : Sp := fun vs H Q _ => ∃ (l : Addr) (xs : List V) (ss : List Sd) (v : Int), vs = [.ref l, .int v] ∧ SidL H l xs ss ∧ (-2 ^ 900 < v ∧ v < 2 ^ 900) ∧ ∀ (h : Int) (H' : Hp), HiP ss v h → Same H H' → Q (.int h) H'
/-- a list of sides grows -/
theorem grow_side {H H' : Hp} {D : Addr} {ys : List V} {ts : List Sd} {p : Addr} {d : Sd} (A : ∀ (i : Nat) (e : Sd), ts[i]? = some e → ∃ p : Addr, ys[i]? = some (V.ref p) ∧ H p = some (sideV e.o e.s e.m) ∧ SideP e.o e.s e.m) (len : ys.length = ts.length)
    (k : ∀ b u, H b = some u → b ≠ D → H' b = some u) (hD : H D = some (.lst ys)) (hp : H' p = some (sideV d.o d.s d.m)) (sp : SideP d.o d.s d.m) :
    ∀ (i : Nat) (e : Sd), (ts ++ [d])[i]? = some e → ∃ p' : Addr, (ys ++ [V.ref p])[i]? = some (V.ref p') ∧ H' p' = some (sideV e.o e.s e.m) ∧ SideP e.o e.s e.m := by
  intro i e he
  rcases Nat.lt_or_ge i ts.length with z | z
  · rw [List.getElem?_append_left z] at he
    obtain ⟨p2, e1, hp2, sp2⟩ := A i e he
    exact ⟨p2, by rw [List.getElem?_append_left (by omega)]; exact e1, k _ _ hp2 (ne_of hp2 hD (by intro y; cases y)), sp2⟩
  · rw [List.getElem?_append_right z] at he
    have e0 : i - ts.length = 0 := by
      have := (List.getElem?_eq_some_iff.mp he).1
      simp at this
      omega
    rw [e0] at he
    have ee : e = d := by simpa using he.symm
    subst ee
    exact ⟨p, by rw [List.getElem?_append_right (by omega), show i - ys.length = 0 by omega]; rfl, hp, sp⟩
section
variable {P : Program} {w : World} {K : PySem.W.Frag} {mg : Str → Option Value} {base : Heap} {fB fH fI : Addr} {dB dH dI : FuncData}
theorem ok_commonL {f : Addr} {fd : FuncData} (F : Fun K "common_period" "common_period" s_common_period f fd) (A' : AmG mg) (Pe : Cal P w K mg base "period_of" 1 ["side"] spPerOf fB dB) : FnOk P w K mg base CX0 2 f fd ["sides"] spPerL := by
  refine F.ok sc_common_period (fun vs H Q E h => ?_) (fun cdv A outer s0 H vs Q E hr h => ?_)
  · obtain ⟨l, xs, ss, rfl, _⟩ := h
    rfl
  · obtain ⟨l, xs, ss, rfl, SS, q⟩ := h
    have nd := sc_common_period.nd
    refine ⟨_, pss_cons (ps_set (i := 1) nd rfl (Or.inl rfl) pe_int)
      (pss_cons (ps_for PassesOwn.never rfl (pi_list (pv 0)) (pg_name (i := 2) nd rfl (Or.inl rfl)) (pss_one (ps_set (i := 1) nd rfl (Or.inl rfl) (pe_callBfun cr_lcm2 (by rfl) A'.lcm (pa_cons (pv 1) (pa_cons (pcl Pe hr (by decide) (by rfl) (pa_cons (pv 2) pa_nil)) pa_nil))))))
      (pss_one (ps_ret (pv 1)))), ?_⟩
    walk_at "rd"
    refine ⟨⟨_, SqL.of SS.hl⟩, ?_⟩
    refine for_list (K := K) (a := l) (xs := xs) (fun i st H' => ∃ x2 : Option V, st = [some (.ref l), some (.int (comN (ss.take i) : Int)), x2] ∧ H' = H) ⟨none, rfl, rfl⟩ (fun _ _ _ _ ⟨_, _, e⟩ => e ▸ SqL.of SS.hl) ?_ ?_
    · rintro i y st H' hy ⟨x2, rfl, rfl⟩
      obtain ⟨d, p, ed, rfl, hp, sp⟩ := SS.item hy
      walk_at "rd"
      refine ⟨p, d.o, d.s, d.m, rfl, hp, sp, ?_⟩
      have pb := perM_bd sp
      have cl := com_take SS.side SS.l4 i
      have big : (2 : Nat) ^ 420 < 2 ^ 2000 := Nat.pow_lt_pow_right (by decide) (by decide)
      have big2 : (2 : Nat) ^ 120 < 2 ^ 2000 := Nat.pow_lt_pow_right (by decide) (by decide)
      have e2 : (perM d.s d.m).natAbs = perN d := by unfold perN; omega
      refine ⟨_, _, rfl, ?_, ?_, ?_⟩
      · rw [Int.natAbs_natCast]; omega
      · rw [e2]; unfold perN; omega
      · rw [Int.natAbs_natCast, e2, ← com_snoc ed]
        exact ⟨_, rfl, rfl⟩
    · rintro st H' ⟨x2, rfl, rfl⟩
      rw [SS.len, List.take_length]
      walk_at "rd"
      exact q
theorem filter_snoc {ss : List Sd} {i : Nat} {d : Sd} (h : ss[i]? = some d) : (ss.take (i + 1)).filter upD = (ss.take i).filter upD ++ (if upD d = true then [d] else []) := by
  rw [List.take_succ, h, List.filter_append]
  congr 1
  simp only [Option.toList, List.filter_cons, List.filter_nil]
theorem ok_rais {f : Addr} {fd : FuncData} (F : Fun K "raisers" "raisers" s_raisers f fd) (Rs : Cal P w K mg base "_raises_some" 5 ["side"] spRs fB dB) : FnOk P w K mg base CX0 6 f fd ["sides"] spRais := by
  refine F.ok sc_raisers (fun vs H Q E h => ?_) (fun cdv A outer s0 H vs Q E hr h => ?_)
  · obtain ⟨l, xs, ss, rfl, _⟩ := h
    rfl
  · obtain ⟨l, xs, ss, rfl, SS, q⟩ := h
    have nd := sc_raisers.nd
    refine ⟨_, (pss_one (ps_ret (pe_lc (own := [("side", 1)]) (g := gName 1) rfl nd (pi_list (pv 0)) (blkOk_by (N := ["sides", "side"]) (sc := defScope s_raisers) (by decide +kernel)) (fun _ _ _ _ _ => pg_name (i := 1) nd rfl (Or.inl rfl)) (fun _ _ _ _ _ => (pts_one (pt_val (pcl Rs hr (by decide) (by rfl) (pa_cons (pv 1) pa_nil))))) (fun _ _ _ _ _ => (pv 1))))), ?_⟩
    walk_at "rd"
    refine ⟨⟨_, SqL.of SS.hl⟩, fun L nL => ?_⟩
    refine lc_list (K := K) (a := l) (xs := xs) (fun i H3 => ∃ ys : List V, H3 L = some (.lst ys) ∧ ys.length = ((ss.take i).filter upD).length ∧ i ≤ ss.length ∧ Same H H3 ∧ (∀ (j : Nat) (d : Sd), ((ss.take i).filter upD)[j]? = some d → ∃ p : Addr, ys[j]? = some (V.ref p) ∧ H3 p = some (sideV d.o d.s d.m) ∧ SideP d.o d.s d.m))
      ⟨[], upd_same, rfl, Nat.zero_le _, fun b u z => (upd_ne (ne_of_none z nL)).trans z, fun j d z => by simp at z⟩ (fun _ _ _ ⟨_, _, _, _, sm, _⟩ => SqL.of (sm _ _ SS.hl)) ?_ ?_
    · rintro i y H3 hy ⟨ys, hD, ly, li, sm, at_⟩
      obtain ⟨d, p, ed, rfl, hp, sp⟩ := SS.item hy
      have il : i < ss.length := (List.getElem?_eq_some_iff.mp ed).1
      refine ⟨rfl, ?_⟩
      walk_at "rd"
      refine ⟨p, d.o, d.s, d.m, rfl, sm _ _ hp, sp, fun H4 s34 => ?_⟩
      refine ⟨_, rfl, ?_⟩
      have hD4 := s34 _ _ hD
      refine ite2 (fun z => ?_) (fun z => ?_)
      · have up : upD d = true := z
        walk_at "rd"
        refine ⟨_, hD4, ?_, ys ++ [.ref p], upd_same, ?_, il, ?_, ?_⟩
        · rw [ly]
          exact Nat.lt_of_le_of_lt (Nat.le_trans (List.length_filter_le _ _) (Nat.le_trans (List.length_take_le' _ _) SS.l4)) (by decide)
        · rw [filter_snoc ed, if_pos up, List.length_append, List.length_append, ly]
          rfl
        · intro b u y
          exact (upd_ne (ne_of_none y nL)).trans (s34 _ _ (sm _ _ y))
        · rw [filter_snoc ed, if_pos up]
          exact grow_side at_ ly (fun b u y nb => (upd_ne nb).trans (s34 _ _ y)) hD ((upd_ne (ne_of (s34 _ _ (sm _ _ hp)) hD4 (by intro y; cases y))).trans (s34 _ _ (sm _ _ hp))) sp
      · have up : ¬ upD d = true := z
        refine ⟨ys, hD4, ?_, il, fun b u y => s34 _ _ (sm _ _ y), ?_⟩
        · rw [filter_snoc ed, if_neg up, List.append_nil]
          exact ly
        · rw [filter_snoc ed, if_neg up, List.append_nil]
          intro j e he
          obtain ⟨p2, g1, g2, g3⟩ := at_ j e he
          exact ⟨p2, g1, s34 _ _ g2, g3⟩
    · rintro H3 ⟨ys, hD, ly, li, sm, at_⟩
      rw [SS.len, List.take_length] at ly at_
      walk_at "rd"
      exact q L ys H3 nL sm ⟨hD, ly, Nat.le_trans (List.length_filter_le _ _) SS.l4, at_⟩
theorem ok_mirs {f : Addr} {fd : FuncData} (F : Fun K "mirrors" "mirrors" s_mirrors f fd) (Mi : Cal P w K mg base "mirror" 4 ["side"] spMirror fB dB) : FnOk P w K mg base CX0 5 f fd ["sides"] spMirs := by
  refine F.ok sc_mirrors (fun vs H Q E h => ?_) (fun cdv A outer s0 H vs Q E hr h => ?_)
  · obtain ⟨l, xs, ss, rfl, _⟩ := h
    rfl
  · obtain ⟨l, xs, ss, rfl, SS, q⟩ := h
    have nd := sc_mirrors.nd
    refine ⟨_, (pss_one (ps_ret (pe_lc (own := [("side", 1)]) (g := gName 1) (tt := tYes) rfl nd (pi_list (pv 0)) (blkOk_by (N := ["sides", "side"]) (sc := defScope s_mirrors) (by decide +kernel)) (fun _ _ _ _ _ => pg_name (i := 1) nd rfl (Or.inl rfl)) (fun _ _ _ _ _ => pts_nil) (fun _ _ _ _ _ => (pcl Mi hr (by decide) (by rfl) (pa_cons (pv 1) pa_nil)))))), ?_⟩
    walk_at "rd"
    refine ⟨⟨_, SqL.of SS.hl⟩, fun L nL => ?_⟩
    refine lc_list (K := K) (a := l) (xs := xs) (fun i H3 => ∃ ys : List V, H3 L = some (.lst ys) ∧ ys.length = ((ss.take i).map mirD).length ∧ i ≤ ss.length ∧ Same H H3 ∧ (∀ (j : Nat) (d : Sd), ((ss.take i).map mirD)[j]? = some d → ∃ p : Addr, ys[j]? = some (V.ref p) ∧ H3 p = some (sideV d.o d.s d.m) ∧ SideP d.o d.s d.m))
      ⟨[], upd_same, rfl, Nat.zero_le _, fun b u z => (upd_ne (ne_of_none z nL)).trans z, fun j d z => by simp at z⟩ (fun _ _ _ ⟨_, _, _, _, sm, _⟩ => SqL.of (sm _ _ SS.hl)) ?_ ?_
    · rintro i y H3 hy ⟨ys, hD, ly, li, sm, at_⟩
      obtain ⟨d, p, ed, rfl, hp, sp⟩ := SS.item hy
      have il : i < ss.length := (List.getElem?_eq_some_iff.mp ed).1
      refine ⟨rfl, ?_⟩
      walk_at "rd"
      refine ⟨p, d.o, d.s, d.m, rfl, sm _ _ hp, sp, fun b H4 s34 nb hb => ?_⟩
      have hD4 := s34 _ _ hD
      have es : (ss.take (i + 1)).map mirD = (ss.take i).map mirD ++ [mirD d] := by
        rw [List.take_succ, ed, List.map_append]
        rfl
      walk_at "rd"
      refine ⟨_, hD4, ?_, ys ++ [.ref b], upd_same, ?_, il, ?_, ?_⟩
      · rw [ly, List.length_map]
        exact Nat.lt_of_le_of_lt (Nat.le_trans (List.length_take_le' _ _) SS.l4) (by decide)
      · rw [es, List.length_append, List.length_append, ly]
        rfl
      · intro c u y
        exact (upd_ne (ne_of_none y nL)).trans (s34 _ _ (sm _ _ y))
      · rw [es]
        exact grow_side (d := mirD d) at_ ly (fun c u y nb => (upd_ne nb).trans (s34 _ _ y)) hD ((upd_ne (ne_of hb hD4 (by intro y; cases y))).trans hb) (side_mir sp)
    · rintro H3 ⟨ys, hD, ly, li, sm, at_⟩
      rw [SS.len, List.take_length] at ly at_
      walk_at "rd"
      exact q L ys H3 nL sm ⟨hD, ly, by rw [List.length_map]; exact SS.l4, at_⟩
theorem ok_hi {f : Addr} {fd : FuncData} (F : Fun K "highest" "highest" s_highest f fd) (MT : MaxT mg) (Wr : Cal P w K mg base "written" 3 ["side", "value"] spDue fB dB) : FnOk P w K mg base CX0 4 f fd ["sides", "value"] spHi := by
  refine F.ok sc_highest (fun vs H Q E h => ?_) (fun cdv A outer s0 H vs Q E hr h => ?_)
  · obtain ⟨l, xs, ss, v, rfl, _⟩ := h
    rfl
  · obtain ⟨l, xs, ss, v, rfl, SS, hv, q⟩ := h
    have nd := sc_highest.nd
    refine ⟨_, pss_one (ps_ret (pe_callB (cr_max rfl) (by rfl) MT.max (by decide +kernel) (pa_cons (pe_op op_cat (pe_lst (pa_cons (pv 1) pa_nil)) (pe_lc (own := [("side", 2)]) (g := gName 2) (tt := tYes) rfl nd (pi_list (pv 0)) (blkOk_by (N := ["sides", "value", "side"]) (sc := defScope s_highest) (by decide +kernel)) (fun _ _ _ _ _ => pg_name (i := 2) nd rfl (Or.inl rfl)) (fun _ _ _ _ _ => pts_nil) (fun _ _ _ _ _ => pcl Wr hr (by decide) (by rfl) (pa_cons (pv 2) (pa_cons (pv 1) pa_nil))))) pa_nil))), ?_⟩
    walk_at "rd"
    refine ⟨(by show 1 ≤ sizeLine; decide), fun a na => ?_⟩
    have fa : upd H a (.lst [.int v]) a = some (.lst [.int v]) := upd_same
    have s1 : Same H (upd H a (.lst [.int v])) := fun b u z => (upd_ne (ne_of_none z na)).trans z
    generalize upd H a (.lst [.int v]) = H1 at fa s1 ⊢
    walk_at "rd"
    refine ⟨⟨_, SqL.of (s1 _ _ SS.hl)⟩, fun L nL => ?_⟩
    refine lc_list (K := K) (a := l) (xs := xs) (fun i H3 => H3 L = some (.lst (((ss.take i).map fun d => dueM d.o d.s d.m v).map V.int)) ∧ i ≤ ss.length ∧ Same H1 H3)
      ⟨upd_same, Nat.zero_le _, fun b u z => (upd_ne (ne_of_none z nL)).trans z⟩ (fun _ _ _ ⟨_, _, sm⟩ => SqL.of (sm _ _ (s1 _ _ SS.hl))) ?_ ?_
    · rintro i y H3 hy ⟨hD, li, sm⟩
      obtain ⟨d, p, ed, rfl, hp, sp⟩ := SS.item hy
      have il : i < ss.length := (List.getElem?_eq_some_iff.mp ed).1
      refine ⟨rfl, ?_⟩
      walk_at "rd"
      refine ⟨p, d.o, d.s, d.m, v, rfl, sm _ _ (s1 _ _ hp), sp, (by unfold Bd; omega), fun H4 s34 => ?_⟩
      have hD4 := s34 _ _ hD
      have es : (ss.take (i + 1)).map (fun d => dueM d.o d.s d.m v) = (ss.take i).map (fun d => dueM d.o d.s d.m v) ++ [dueM d.o d.s d.m v] := by
        rw [List.take_succ, ed, List.map_append]
        rfl
      walk_at "rd"
      refine ⟨_, hD4, ?_, ?_, il, fun b u y => (upd_ne (ne_of_none y nL)).trans (s34 _ _ (sm _ _ y))⟩
      · rw [List.length_map, List.length_map]
        exact Nat.lt_of_le_of_lt (Nat.le_trans (List.length_take_le' _ _) SS.l4) (by decide)
      · rw [es, List.map_append]
        exact upd_same
    · rintro H3 ⟨hD, li, sm⟩
      rw [SS.len, List.take_length] at hD
      have l4 := SS.l4
      walk_at "rd"
      refine ⟨a, L, _, _, rfl, rfl, sm _ _ fa, hD, (by show 1 + _ ≤ sizeLine; rw [List.length_map, List.length_map]; exact Nat.le_trans (by omega : 1 + ss.length ≤ 8) (by decide)), fun c nc => ?_⟩
      refine ⟨c, v :: ss.map fun d => dueM d.o d.s d.m v, rfl, SqL.of upd_same, Nat.succ_pos _, fun m mi mm => ?_⟩
      refine q m _ ⟨mm v List.mem_cons_self, fun d hd => mm _ (List.mem_cons_of_mem _ (List.mem_map.mpr ⟨d, hd, rfl⟩)), ?_⟩ (fun b u z => (upd_ne (ne_of_none (sm _ _ (s1 _ _ z)) nc)).trans (sm _ _ (s1 _ _ z)))
      rcases List.mem_cons.mp mi with e | e
      · exact .inl e
      · obtain ⟨d, hd, e2⟩ := List.mem_map.mp e
        exact .inr ⟨d, hd, e2.symm⟩
end
end HT
namespace HT
open PySem L2
/-- what a side does to x + b, at x -/
def movD (b : Int) (d : Sd) : Sd := ⟨(d.o + b) % perM d.s d.m, d.s, d.m⟩
theorem side_mov {d : Sd} (b : Int) (S : SideP d.o d.s d.m) : SideP (movD b d).o (movD b d).s (movD b d).m := by
  have p := perM_bd S
  have h0 := Int.emod_nonneg (d.o + b) (show perM d.s d.m ≠ 0 by omega)
  have h1 := Int.emod_lt_of_pos (d.o + b) (show 0 < perM d.s d.m by omega)
  refine ⟨?_, ?_, S.s0, S.s1, S.md⟩
  · show -10 ^ 40 ≤ (d.o + b) % perM d.s d.m
    omega
  · show (d.o + b) % perM d.s d.m ≤ 10 ^ 40
    omega
def spMoved : Sp := fun vs H Q _ => ∃ (p : Addr) (d : Sd) (b : Int), vs = [.ref p, .int b] ∧ H p = some (sideV d.o d.s d.m) ∧ SideP d.o d.s d.m ∧ ∀ (q : Addr) (H' : Hp), H q = none → Same H H' → H' q = some (sideV (movD b d).o (movD b d).s (movD b d).m) → Q (.ref q) H'
/-- the next run -/
def widS (r : Int × Int) (a : Int × Int) (d : Sd) : Int × Int :=
  if backM d.o d.s d.m r.1 ≤ backM d.o d.s d.m (r.2 + 1) - 1 then (if backM d.o d.s d.m r.1 < a.1 then backM d.o d.s d.m r.1 else a.1, if a.2 < backM d.o d.s d.m (r.2 + 1) - 1 then backM d.o d.s d.m (r.2 + 1) - 1 else a.2) else a
def widF (ss : List Sd) (r : Int × Int) : Int × Int := ss.foldl (widS r) r
def runN (ss : List Sd) : Nat → Int × Int
  | 0 => (0, 0)
  | k + 1 => widF ss (runN ss k)
theorem back_bd {o s : Int} {m : Str} {v : Int} (md : Mode m) (s0 : 1 ≤ s) : v - s ≤ backM o s m v ∧ backM o s m v ≤ v + s := by
  have c := ceil_eq (o := o) (v := v) s0
  have b := below_bd (k := ceilM o s v) md s0
  have e : s * (ceilM o s v - 1) = s * ceilM o s v - s := by rw [Int.mul_sub, Int.mul_one]
  have l : backM o s m v = o + s * ceilM o s v - below m s (ceilM o s v) := rfl
  rw [l]
  omega
theorem wid_bd {ss : List Sd} (h : ∀ d ∈ ss, SideP d.o d.s d.m) {r : Int × Int} : r.1 - 10 ^ 31 ≤ (widF ss r).1 ∧ (widF ss r).1 ≤ r.1 ∧ r.2 ≤ (widF ss r).2 ∧ (widF ss r).2 ≤ r.2 + 10 ^ 31 := by
  have key : ∀ (ss : List Sd) (a : Int × Int), (∀ d ∈ ss, SideP d.o d.s d.m) → r.1 - 10 ^ 31 ≤ a.1 ∧ a.1 ≤ r.1 ∧ r.2 ≤ a.2 ∧ a.2 ≤ r.2 + 10 ^ 31 → r.1 - 10 ^ 31 ≤ (ss.foldl (widS r) a).1 ∧ (ss.foldl (widS r) a).1 ≤ r.1 ∧ r.2 ≤ (ss.foldl (widS r) a).2 ∧ (ss.foldl (widS r) a).2 ≤ r.2 + 10 ^ 31 := by
    intro ss
    induction ss with
    | nil => intro a _ z; exact z
    | cons d ss ih =>
      intro a hs z
      have S := hs d List.mem_cons_self
      have s0 := S.s0
      have s1 := S.s1
      have b1 := back_bd (o := d.o) (v := r.1) S.md s0
      have b2 := back_bd (o := d.o) (v := r.2 + 1) S.md s0
      refine ih (widS r a d) (fun e he => hs e (List.mem_cons_of_mem _ he)) ?_
      unfold widS
      split
      · refine ⟨?_, ?_, ?_, ?_⟩ <;> simp only <;> split <;> omega
      · exact z
  exact key ss r h ⟨by omega, by omega, by omega, by omega⟩
theorem run_bd {ss : List Sd} (h : ∀ d ∈ ss, SideP d.o d.s d.m) : ∀ k : Nat, -(k * 10 ^ 31 : Int) ≤ (runN ss k).1 ∧ (runN ss k).1 ≤ 0 ∧ 0 ≤ (runN ss k).2 ∧ (runN ss k).2 ≤ k * 10 ^ 31
  | 0 => by
    show -(((0 : Nat) : Int) * 10 ^ 31) ≤ 0 ∧ (0 : Int) ≤ 0 ∧ (0 : Int) ≤ 0 ∧ (0 : Int) ≤ ((0 : Nat) : Int) * 10 ^ 31
    omega
  | k + 1 => by
    have a := run_bd h k
    have b := wid_bd h (r := runN ss k)
    have e : ((k + 1 : Nat) : Int) * 10 ^ 31 = (k : Int) * 10 ^ 31 + 10 ^ 31 := by rw [Int.natCast_add, Int.add_mul]; rfl
    show -(((k + 1 : Nat) : Int) * 10 ^ 31) ≤ (widF ss (runN ss k)).1 ∧ (widF ss (runN ss k)).1 ≤ 0 ∧ 0 ≤ (widF ss (runN ss k)).2 ∧ (widF ss (runN ss k)).2 ≤ ((k + 1 : Nat) : Int) * 10 ^ 31
    rw [e]
    omega
theorem wid_take {ss : List Sd} {r : Int × Int} {i : Nat} {d : Sd} (h : ss[i]? = some d) : (ss.take (i + 1)).foldl (widS r) r = widS r ((ss.take i).foldl (widS r) r) d := by
  rw [List.take_succ, h, List.foldl_append]
  rfl
/-- the runs up to the last one that is told -/
def pairV (a b : Int) : HO := .tup [.int a, .int b]
def spWid : Sp := fun vs H Q _ => ∃ (l p : Addr) (xs : List V) (ss : List Sd) (r : Int × Int), vs = [.ref l, .ref p] ∧ SidesAt H l xs ss ∧ H p = some (pairV r.1 r.2) ∧ (-2 ^ 600 < r.1 ∧ r.1 < 2 ^ 600) ∧ (-2 ^ 600 < r.2 ∧ r.2 < 2 ^ 600) ∧
  ∀ (q : Addr) (H' : Hp), H q = none → Same H H' → H' q = some (pairV (widF ss r).1 (widF ss r).2) → Q (.ref q) H'
section
variable {P : Program} {w : World} {K : PySem.W.Frag} {mg : Str → Option Value} {base : Heap} {aM c0 fC fB fV fN fW fS : Addr} {dC dB dV dN dW dS : FuncData}
theorem ok_threshold {f : Addr} {fd : FuncData} (F : Fun K "threshold" "threshold" s_threshold f fd) (B : Cal P w K mg base "_below" 1 ["mode", "step", "figure"] spBelow fB dB) : FnOk P w K mg base CX0 3 f fd ["side", "value"] spBack := by
  refine F.ok sc_threshold (fun vs H Q E h => ?_) (fun cdv A outer s H vs Q E hr h => ?_)
  · obtain ⟨p, o, s, m, v, rfl, _⟩ := h
    rfl
  · obtain ⟨p, o, s, m, v, rfl, hp, S, hv0, hv1, q⟩ := h
    have nd := sc_threshold.nd
    refine ⟨_, pss_cons (ps_asg (pv 0) (pg_tup (by rfl) (pgs_cons (pg_name (i := 2) nd rfl (Or.inl rfl)) (pgs_cons (pg_name (i := 3) nd rfl (Or.inl rfl)) (pgs_cons (pg_name (i := 4) nd rfl (Or.inl rfl)) pgs_nil)))))
      (pss_cons (ps_set (i := 5) nd rfl (Or.inl rfl) (pe_un un_neg (pe_op op_fdivW (pe_op op_sub (pv 2) (pv 1)) (pv 3))))
      (pss_one (ps_ret (pe_op op_sub (pe_op op_add (pv 2) (pe_op op_mulW (pv 3) (pv 5))) (pcl B hr (by decide) (by rfl) (pa_cons (pv 4) (pa_cons (pv 3) (pa_cons (pv 5) pa_nil)))))))), ?_⟩
    walk_at "rd"
    refine ⟨p, _, rfl, SqT.of hp, rfl, _, _, rfl, _, _, rfl, _, _, rfl, rfl, ?_⟩
    have s0 := S.s0
    have s1 := S.s1
    have o0 := S.o0
    have o1 := S.o1
    walk_at "rd"
    refine ⟨fdiv_ok _ (by omega) (lg_big (by omega) (by omega)), ?_⟩
    walk_at "rd"
    have db := div_bd (x := o - v) (b := 2 ^ 701) s0 (by omega) (by omega)
    refine ⟨mulW (by omega) (by omega), ?_⟩
    walk_at "rd"
    refine ⟨m, s, ceilM o s v, rfl, S.md, ?_⟩
    walk_at "rd"
    exact q H (fun _ _ z => z)
theorem ok_moved {f : Addr} {fd : FuncData} (F : Fun K "moved" "moved" s_moved f fd) (Pe : Cal P w K mg base "period_of" 1 ["side"] spPerOf fB dB) : FnOk P w K mg base CX0 2 f fd ["side", "by"] spMoved := by
  refine F.ok sc_moved (fun vs H Q E h => ?_) (fun cdv A outer s0 H vs Q E hr h => ?_)
  · obtain ⟨p, d, b, rfl, _⟩ := h
    rfl
  · obtain ⟨p, d, b, rfl, hp, S, q⟩ := h
    have nd := sc_moved.nd
    refine ⟨_, (pss_cons (ps_asg (pv 0) (pg_tup (by rfl) (pgs_cons (pg_name (i := 2) nd rfl (Or.inl rfl)) (pgs_cons (pg_name (i := 3) nd rfl (Or.inl rfl)) (pgs_cons (pg_name (i := 4) nd rfl (Or.inl rfl)) pgs_nil)))))
      (pss_one (ps_ret (pe_tup (pa_cons (pe_op op_mod (pe_op op_add (pv 2) (pv 1)) (pcl Pe hr (by decide) (by rfl) (pa_cons (pv 0) pa_nil))) (pa_cons (pv 3) (pa_cons (pv 4) pa_nil))))))), ?_⟩
    walk_at "rd"
    refine ⟨p, _, rfl, SqT.of hp, rfl, _, _, rfl, _, _, rfl, _, _, rfl, rfl, ?_⟩
    walk_at "rd"
    refine ⟨p, d.o, d.s, d.m, rfl, hp, S, ?_⟩
    have pb := perM_bd S
    refine ⟨_, _, rfl, rfl, (show 0 < perM d.s d.m by omega), ?_⟩
    walk_at "rd"
    refine ⟨(by show 3 ≤ sizeLine; decide), fun n nn => ?_⟩
    exact q n _ nn (fun c u z => (upd_ne (ne_of_none z nn)).trans z) upd_same
theorem ok_wid {f : Addr} {fd : FuncData} (F : Fun K "_widened" "_widened" s_widened f fd) (MT : MaxT mg) (Th : Cal P w K mg base "threshold" 3 ["side", "value"] spBack fB dB) : FnOk P w K mg base CX0 4 f fd ["sides", "run"] spWid := by
  refine F.ok sc_widened (fun vs H Q E h => ?_) (fun cdv A outer s0 H vs Q E hr h => ?_)
  · obtain ⟨l, p, xs, ss, r, rfl, _⟩ := h
    rfl
  · obtain ⟨l, p, xs, ss, r, rfl, SS, hp, r1, r2, q⟩ := h
    have nd := sc_widened.nd
    refine ⟨_, (pss_cons (ps_asg (pv 1) (pg_tup (by rfl) (pgs_cons (pg_name (i := 2) nd rfl (Or.inl rfl)) (pgs_cons (pg_name (i := 3) nd rfl (Or.inl rfl)) pgs_nil))))
      (pss_cons (ps_asg (pv 1) (pg_tup (by rfl) (pgs_cons (pg_name (i := 4) nd rfl (Or.inl rfl)) (pgs_cons (pg_name (i := 5) nd rfl (Or.inl rfl)) pgs_nil))))
      (pss_cons (ps_for PassesOwn.never rfl (pi_list (pv 0)) (pg_name (i := 6) nd rfl (Or.inl rfl)) (pss_cons (ps_set (i := 7) nd rfl (Or.inl rfl) (pcl Th hr (by decide) (by rfl) (pa_cons (pv 6) (pa_cons (pv 2) pa_nil))))
      (pss_cons (ps_set (i := 8) nd rfl (Or.inl rfl) (pe_op op_sub (pcl Th hr (by decide) (by rfl) (pa_cons (pv 6) (pa_cons (pe_op op_add (pv 3) pe_int) pa_nil))) pe_int))
      (pss_one (ps_if (pt_cmpR op_le (pv 7) (pv 8) (nomark _)) (pss_cons (ps_set (i := 4) nd rfl (Or.inl rfl) (pe_callB (call_min2 rfl) (by rfl) MT.min (by decide +kernel) (pa_cons (pv 4) (pa_cons (pv 7) pa_nil))))
      (pss_one (ps_set (i := 5) nd rfl (Or.inl rfl) (pe_callB (call_max2 rfl) (by rfl) MT.max (by decide +kernel) (pa_cons (pv 5) (pa_cons (pv 8) pa_nil)))))) pss_nil)))))
      (pss_one (ps_ret (pe_tup (pa_cons (pv 4) (pa_cons (pv 5) pa_nil)))))))), ?_⟩
    walk_at "rd"
    refine ⟨p, _, rfl, SqT.of hp, rfl, _, _, rfl, _, _, rfl, rfl, ?_⟩
    walk_at "rd"
    refine ⟨p, _, rfl, SqT.of hp, rfl, _, _, rfl, _, _, rfl, rfl, ?_⟩
    walk_at "rd"
    refine ⟨⟨_, SqL.of SS.hl⟩, ?_⟩
    refine for_list (K := K) (a := l) (xs := xs) (fun i st H' => ∃ x6 x7 x8 : Option V, st = [some (.ref l), some (.ref p), some (.int r.1), some (.int r.2), some (.int ((ss.take i).foldl (widS r) r).1), some (.int ((ss.take i).foldl (widS r) r).2), x6, x7, x8] ∧ Same H H')
      ⟨none, none, none, rfl, Same.refl H⟩ (fun _ _ _ _ ⟨_, _, _, _, e⟩ => SqL.of (e _ _ SS.hl)) ?_ ?_
    · rintro i y st H' hy ⟨x6, x7, x8, rfl, sm⟩
      obtain ⟨d, q6, ed, rfl, hq, sp⟩ := SS.item hy
      have wt := wid_take (r := r) ed
      walk_at "rd"
      refine ⟨q6, d.o, d.s, d.m, r.1, rfl, sm _ _ hq, sp, by omega, by omega, fun H2 s2 => ?_⟩
      walk_at "rd"
      refine ⟨q6, d.o, d.s, d.m, r.2 + 1, rfl, s2 _ _ (sm _ _ hq), sp, by omega, by omega, fun H3 s3 => ?_⟩
      walk_at "rd"
      generalize (ss.take i).foldl (widS r) r = a at wt ⊢
      refine ite2 (fun z => ?_) (fun z => ?_)
      · have le := of_decide_eq_true z
        have e : widS r a d = (if backM d.o d.s d.m r.1 < a.1 then backM d.o d.s d.m r.1 else a.1, if a.2 < backM d.o d.s d.m (r.2 + 1) - 1 then backM d.o d.s d.m (r.2 + 1) - 1 else a.2) := by
          unfold widS
          rw [if_pos le]
        rw [e] at wt
        walk_at "rd"
        refine ⟨_, _, rfl, ?_⟩
        walk_at "rd"
        refine ⟨_, _, rfl, ?_⟩
        rw [wt]
        exact ⟨_, _, _, rfl, (sm.trans s2).trans s3⟩
      · have le := of_decide_eq_false (by simpa using z : decide (backM d.o d.s d.m r.1 ≤ backM d.o d.s d.m (r.2 + 1) - 1) = false)
        have e : widS r a d = a := by
          unfold widS
          rw [if_neg le]
        rw [e] at wt
        show ∃ x6 x7 x8 : Option V, _
        rw [wt]
        exact ⟨_, _, _, rfl, (sm.trans s2).trans s3⟩
    · rintro st H' ⟨x6, x7, x8, rfl, sm⟩
      walk_at "rd"
      refine ⟨(by show 2 ≤ sizeLine; decide), fun n nn => ?_⟩
      rw [SS.len, List.take_length]
      exact q n _ (sm.free nn) (fun c u z => (upd_ne (ne_of_none (sm _ _ z) nn)).trans (sm _ _ z)) upd_same
end
end HT
namespace HT
open PySem L2
/-- the runs go on until one does not grow, or to the one of 1,001 hand-overs -/
structure RunsTo (ss : List Sd) (n : Nat) : Prop where
  le : n ≤ 1001
  ne : ∀ j, j < n → runN ss (j + 1) ≠ runN ss j
  stop : n = 1001 ∨ runN ss (n + 1) = runN ss n
def RunsAt (H : Hp) (q : Addr) (v : Int) (ss : List Sd) (n : Nat) : Prop := ∃ ps : List Addr, H q = some (.lst (ps.map V.ref)) ∧ ps.length = n + 1 ∧ ∀ (i : Nat) (p : Addr), ps[i]? = some p → H p = some (pairV (v + (runN ss i).1) (v + (runN ss i).2))
theorem RunsAt.same {H H' : Hp} {q : Addr} {v : Int} {ss : List Sd} {n : Nat} (R : RunsAt H q v ss n) (e : Same H H') : RunsAt H' q v ss n := let ⟨ps, a, b, c⟩ := R; ⟨ps, e _ _ a, b, fun i p h => e _ _ (c i p h)⟩
/-- the runs as seen from the value -/
def Runs0 (H : Hp) (q : Addr) (ss : List Sd) (n : Nat) : Prop := ∃ ps : List Addr, H q = some (.lst (ps.map V.ref)) ∧ ps.length = n + 1 ∧ ∀ (i : Nat) (p : Addr), ps[i]? = some p → H p = some (pairV (runN ss i).1 (runN ss i).2)
theorem Runs0.same {H H' : Hp} {q : Addr} {ss : List Sd} {n : Nat} (R : Runs0 H q ss n) (e : Same H H') : Runs0 H' q ss n := let ⟨ps, a, b, c⟩ := R; ⟨ps, e _ _ a, b, fun i p h => e _ _ (c i p h)⟩
theorem eqv_two (a b c d : Int) : PyData.eqv (.tuple [.int a, .int b]) (.tuple [.int c, .int d]) = decide (a = c ∧ b = d) := by
  simp only [PyData.eqv, PyData.eqvAll, Bool.and_true]
  by_cases x : a = c <;> by_cases y : b = d <;> simp [x, y]
theorem dpPair {K : PySem.W.Frag} {H : Hp} {p : Addr} {a b : Int} (h : H p = some (pairV a b)) : Dp K H (.ref p) (.tuple [.int a, .int b]) := .tup (SqT.of h) (.cons (.int _) (.cons (.int _) .nil))
theorem shaped_two (a b : Int) : SeqAt.shaped (.tuple [.int a, .int b]) = true := rfl
def spRuns : Sp := fun vs H Q _ => ∃ (l : Addr) (xs : List V) (ss : List Sd) (v : Int), vs = [.ref l, .int v] ∧ SidesAt H l xs ss ∧ (-2 ^ 500 < v ∧ v < 2 ^ 500) ∧
  ∀ (q : Addr) (n : Nat) (H' : Hp), H q = none → Same H H' → RunsTo (ss.map (movD (-v))) n → RunsAt H' q v (ss.map (movD (-v))) n → Q (.ref q) H'
section
variable {P : Program} {w : World} {K : PySem.W.Frag} {mg : Str → Option Value} {base : Heap} {aM c0 fC fB fV fN fW fS : Addr} {dC dB dV dN dW dS : FuncData}
theorem ok_runs {f : Addr} {fd : FuncData} (F : Fun K "_runs" "_runs" s_runs f fd) (B : Blt mg) (hMH : ∃ t, mg "MOST_HANDOVERS" = some (.int 1000 t)) (Mo : Cal P w K mg base "moved" 2 ["side", "by"] spMoved fB dB) (Wi : Cal P w K mg base "_widened" 4 ["sides", "run"] spWid fC dC) : FnOk P w K mg base CX0 5 f fd ["sides", "value"] spRuns := by
  refine F.ok sc_runs (fun vs H Q E h => ?_) (fun cdv A outer s0 H vs Q E hr h => ?_)
  · obtain ⟨l, xs, ss, v, rfl, _⟩ := h
    rfl
  · obtain ⟨l, xs, ss, v, rfl, SS, hv, q⟩ := h
    have nd := sc_runs.nd
    obtain ⟨tmh, hmh⟩ := hMH
    refine ⟨_, (pss_cons (ps_setLc (i := 3) (own := [("side", 2)]) (g := gName 2) (tt := tYes) rfl nd rfl rfl (sw_true rfl rfl rfl (by decide +kernel)) (pi_list (pv 0)) (blkOk_by (N := ["sides", "value", "side", "near", "runs", "many", "run", "least", "greatest"]) (sc := defScope s_runs) (by decide +kernel)) (fun _ _ _ _ _ => pg_name (i := 2) nd rfl (Or.inl rfl)) (fun _ _ _ _ _ => pts_nil) (fun _ _ _ _ _ => (pcl Mo hr (by decide) (by rfl) (pa_cons (pv 2) (pa_cons (pe_un un_neg (pv 1)) pa_nil)))))
      (pss_cons (ps_set (i := 4) nd rfl (Or.inl rfl) (pe_lst (pa_cons (pe_tup (pa_cons pe_int (pa_cons pe_int pa_nil))) pa_nil)))
      (pss_cons (ps_mid (ps_for PassesOwn.never rfl (pi_range1 (by rfl) B.range (pa_cons (pe_op op_add (pe_glob (v := .int 1000) (by rfl) hmh ⟨_, rfl⟩) pe_int) pa_nil)) (pg_name (i := 5) nd rfl (Or.inl rfl)) (pss_cons (ps_set (i := 6) nd rfl (Or.inl rfl) (pcl Wi hr (by decide) (by rfl) (pa_cons (pv 3) (pa_cons (pe_ix ix_list (pv 4) (pv 5) (fun _ _ => rfl)) pa_nil))))
      (pss_cons (ps_if (pt_cmpR (op_eqD hr.units) (pv 6) (pe_ix ix_list (pv 4) (pv 5) (fun _ _ => rfl)) (nomark _)) (pss_one ps_break) pss_nil)
      (pss_one (ps_expr (pe_bm PySem.F.plainAttrs_list PySem.F.slot_list_append PySem.F.type_list_append mt_append (pv 4) (pa_cons (pv 6) pa_nil))))))))
      (pss_one (ps_ret (pe_lc (own := [("least", 7), ("greatest", 8)]) (g := (gTup K 2 (gCons (gName 7) (gCons (gName 8) gNil)))) (tt := tYes) rfl nd (pi_list (pv 4)) (blkOk_by (N := ["sides", "value", "side", "near", "runs", "many", "run", "least", "greatest"]) (sc := defScope s_runs) (by decide +kernel)) (fun _ _ _ _ _ => pg_tup (by rfl) (pgs_cons (pg_name (i := 7) nd rfl (Or.inl rfl)) (pgs_cons (pg_name (i := 8) nd rfl (Or.inl rfl)) pgs_nil))) (fun _ _ _ _ _ => pts_nil) (fun _ _ _ _ _ => (pe_tup (pa_cons (pe_op op_add (pv 1) (pv 7)) (pa_cons (pe_op op_add (pv 1) (pv 8)) pa_nil)))))))))), ?_⟩
    walk_at "rd"
    refine ⟨⟨_, SqL.of SS.hl⟩, fun L nL => ?_⟩
    refine lc_list (K := K) (a := l) (xs := xs) (fun i H3 => ∃ ys : List V, H3 L = some (.lst ys) ∧ ys.length = ((ss.take i).map (movD (-v))).length ∧ i ≤ ss.length ∧ Same H H3 ∧ (∀ (j : Nat) (d : Sd), ((ss.take i).map (movD (-v)))[j]? = some d → ∃ p : Addr, ys[j]? = some (V.ref p) ∧ H3 p = some (sideV d.o d.s d.m) ∧ SideP d.o d.s d.m))
      ⟨[], upd_same, rfl, Nat.zero_le _, fun b u z => (upd_ne (ne_of_none z nL)).trans z, fun j d z => by simp at z⟩ (fun _ _ _ ⟨_, _, _, _, sm, _⟩ => SqL.of (sm _ _ SS.hl)) ?_ ?_
    · rintro i y H3 hy ⟨ys, hD, ly, li, sm, at_⟩
      obtain ⟨d, p, ed, rfl, hp, sp⟩ := SS.item hy
      have il : i < ss.length := (List.getElem?_eq_some_iff.mp ed).1
      refine ⟨rfl, ?_⟩
      walk_at "rd"
      refine ⟨p, d, -v, rfl, sm _ _ hp, sp, fun b H4 nb s34 hb => ?_⟩
      have hD4 := s34 _ _ hD
      have es : (ss.take (i + 1)).map (movD (-v)) = (ss.take i).map (movD (-v)) ++ [movD (-v) d] := by
        rw [List.take_succ, ed, List.map_append]
        rfl
      walk_at "rd"
      refine ⟨_, hD4, ?_, ys ++ [.ref b], upd_same, ?_, il, ?_, ?_⟩
      · rw [ly, List.length_map]
        exact Nat.lt_of_le_of_lt (Nat.le_trans (List.length_take_le' _ _) SS.l4) (by decide)
      · rw [es, List.length_append, List.length_append, ly]
        rfl
      · intro c u y
        exact (upd_ne (ne_of_none y nL)).trans (s34 _ _ (sm _ _ y))
      · rw [es]
        exact grow_side (d := movD (-v) d) at_ ly (fun c u y nb => (upd_ne nb).trans (s34 _ _ y)) hD ((upd_ne (ne_of hb hD4 (by intro y; cases y))).trans hb) (side_mov _ sp)
    rintro H3 ⟨ys, hD, ly, li, sm, at_⟩
    rw [SS.len, List.take_length] at ly at_
    have N3 : SidesAt H3 L ys (ss.map (movD (-v))) := ⟨hD, ly, by rw [List.length_map]; exact SS.l1, by rw [List.length_map]; exact SS.l4, at_⟩
    generalize ss.map (movD (-v)) = ns at N3 q
    clear at_ ly hD
    walk_at "rd"
    refine ⟨(by show 2 ≤ sizeLine; decide), fun p0 n0 => ?_⟩
    have w4 : Same H3 (upd H3 p0 (pairV 0 0)) := fun b u z => (upd_ne (ne_of_none z n0)).trans z
    have g4 : upd H3 p0 (pairV 0 0) p0 = some (pairV 0 0) := upd_same
    change (tNil _ (upd H3 p0 (pairV 0 0)) _)
    generalize upd H3 p0 (pairV 0 0) = H4 at w4 g4 ⊢
    walk_at "rd"
    refine ⟨(by show 1 ≤ sizeLine; decide), fun R nR => ?_⟩
    have w5 : Same H4 (upd H4 R (.lst [.ref p0])) := fun b u z => (upd_ne (ne_of_none z nR)).trans z
    have g5 : upd H4 R (.lst [.ref p0]) R = some (.lst [.ref p0]) := upd_same
    generalize upd H4 R (.lst [.ref p0]) = H5 at w5 g5 ⊢
    have t5 : Same H H5 := sm.trans (w4.trans w5)
    have N5 := (N3.same w4).same w5
    have R5 : Runs0 H5 R ns 0 := ⟨[p0], g5, rfl, fun i p e => by
      cases i with
      | zero => cases e; exact w5 _ _ g4
      | succ i => cases e⟩
    have RH : H R = none := by
      cases z : H R with
      | none => rfl
      | some u => rw [w4 _ _ (sm _ _ z)] at nR; cases nR
    walk_at "rd"
    refine ⟨fun st H' => ∃ (x2 x5 x6 x7 x8 : Option V) (n : Nat), st = [some (.ref l), some (.int v), x2, some (.ref L), some (.ref R), x5, x6, x7, x8] ∧ RunsTo ns n ∧ Runs0 H' R ns n ∧ Same H H', ?_, ?_⟩
    · walk_at "rd"
      refine ⟨by decide, by decide, ?_⟩
      refine for_range (n := 1001) (fun i st H' => ∃ x5 x6 : Option V, st = [some (.ref l), some (.int v), none, some (.ref L), some (.ref R), x5, x6, none, none] ∧ (∀ j, j < i → runN ns (j + 1) ≠ runN ns j) ∧ Runs0 H' R ns i ∧ Same H H' ∧ SidesAt H' L ys ns) ⟨none, none, rfl, fun j z => absurd z (Nat.not_lt_zero _), R5, t5, N5⟩ ?_ ?_
      · rintro i st H' hi ⟨x5, x6, rfl, grow, ⟨ps, hR, lp, ap⟩, t6, N6⟩
        obtain ⟨p1, e1⟩ : ∃ p1, ps[i]? = some p1 := ⟨ps[i]'(by omega), List.getElem?_eq_getElem _⟩
        have hp1 := ap i p1 e1
        have bd := run_bd N6.side i
        have e2 : atI (ps.map V.ref) ((0 : Int) + (i : Int)) = some (V.ref p1) := by
          rw [Int.zero_add]
          exact atI_nat (by rw [List.getElem?_map, e1]; rfl)
        walk_at "rd"
        refine ⟨R, _, _, _, rfl, rfl, SqL.of hR, e2, ?_⟩
        walk_at "rd"
        refine ⟨L, p1, ys, ns, runN ns i, rfl, N6, hp1, by omega, by omega, fun p2 H7 n2 s7 h2 => ?_⟩
        walk_at "rd"
        refine ⟨R, _, _, _, rfl, rfl, SqL.of (s7 _ _ hR), e2, ?_⟩
        refine ⟨_, _, dpPair h2, dpPair (s7 _ _ hp1), shaped_two _ _, shaped_two _ _, ?_⟩
        rw [eqv_two]
        walk_at "rd"
        refine ite2 (fun z => ?_) (fun z => ?_)
        · have e := of_decide_eq_true z
          have e3 : runN ns (i + 1) = runN ns i := Prod.ext e.1 e.2
          exact ⟨_, _, _, _, _, i, rfl, ⟨by omega, grow, .inr e3⟩, ⟨ps, s7 _ _ hR, lp, fun i p e => s7 _ _ (ap i p e)⟩, t6.trans s7⟩
        · have ne : runN ns (i + 1) ≠ runN ns i := fun e => by
            have e3 : (widF ns (runN ns i)).1 = (runN ns i).1 ∧ (widF ns (runN ns i)).2 = (runN ns i).2 := ⟨congrArg Prod.fst e, congrArg Prod.snd e⟩
            exact z (decide_eq_true e3)
          walk_at "rd"
          refine ⟨.inl ⟨rfl, _, SqL.of (s7 _ _ hR)⟩, ?_⟩
          walk_at "rd"
          refine ⟨R, _, .ref p2, rfl, rfl, s7 _ _ hR, (by rw [List.length_map, lp]; exact Nat.lt_of_le_of_lt (by omega : i + 1 ≤ 1001) (by decide)), ?_⟩
          have nRp : R ≠ p2 := fun e => by rw [← e, hR] at n2; cases n2
          have keep : ∀ {c : Addr} {u : HO}, c ≠ R → H7 c = some u → upd H7 R (.lst (ps.map V.ref ++ [.ref p2])) c = some u := fun {c u} e z => (upd_ne e).trans z
          refine ⟨_, _, rfl, fun j hj => ?_, ⟨ps ++ [p2], by rw [List.map_append]; exact upd_same, by rw [List.length_append, lp]; rfl, fun j p ej => ?_⟩, fun c u y => ?_, ?_⟩
          · rcases Nat.lt_or_eq_of_le (Nat.le_of_lt_succ hj) with y | y
            · exact grow j y
            · rw [y]; exact ne
          · by_cases y : j < ps.length
            · rw [List.getElem?_append_left y] at ej
              have hj := s7 _ _ (ap j p ej)
              exact keep (fun e => by rw [e, s7 _ _ hR] at hj; cases hj) hj
            · rw [List.getElem?_append_right (by omega)] at ej
              have j0 : j - ps.length = 0 := by
                have := (List.getElem?_eq_some_iff.mp ej).1
                simp at this
                omega
              rw [j0] at ej
              cases ej
              have ej2 : j = i + 1 := by omega
              rw [ej2]
              exact keep nRp.symm h2
          · exact keep (ne_of_none y RH) (s7 _ _ (t6 _ _ y))
          · have N7 := N6.same s7
            have nLR : L ≠ R := fun e => by
              have z := N5.hl
              rw [e, g5] at z
              have z2 : [V.ref p0] = ys := by cases z; rfl
              have z3 := N5.len
              have z4 := N5.at_
              have z5 := N3.hl
              rw [e] at z5
              rw [w4 _ _ z5] at nR
              cases nR
            refine ⟨keep nLR N7.hl, N7.len, N7.l1, N7.l4, fun j d e => ?_⟩
            obtain ⟨p, a, b, c⟩ := N7.at_ j d e
            exact ⟨p, a, keep (fun e => by rw [e, s7 _ _ hR] at b; cases b) b, c⟩
      · rintro st H' ⟨x5, x6, rfl, grow, R6, t6, _⟩
        exact ⟨_, _, _, _, _, 1001, rfl, ⟨Nat.le_refl _, grow, .inl rfl⟩, R6, t6⟩
    · rintro st H' ⟨x2, x5, x6, x7, x8, n, rfl, to, ⟨ps, hR, lp, ap⟩, t6⟩
      have n1 := to.le
      walk_at "rd"
      refine ⟨⟨_, SqL.of hR⟩, fun D nD => ?_⟩
      refine lc_list (K := K) (a := R) (xs := ps.map V.ref) (fun i H3 => ∃ qs : List Addr, H3 D = some (.lst (qs.map V.ref)) ∧ qs.length = i ∧ i ≤ n + 1 ∧ Same H' H3 ∧ ∀ (j : Nat) (q : Addr), qs[j]? = some q → H3 q = some (pairV (v + (runN ns j).1) (v + (runN ns j).2)))
        ⟨[], upd_same, rfl, Nat.zero_le _, fun b u z => (upd_ne (ne_of_none z nD)).trans z, fun j d z => by simp at z⟩ (fun _ _ _ ⟨_, _, _, _, sm, _⟩ => SqL.of (sm _ _ hR)) ?_ ?_
      · rintro i y H3 hy ⟨qs, hD, lq, li, sm3, aq⟩
        rw [List.getElem?_map] at hy
        obtain ⟨p1, e1, rfl⟩ := Option.map_eq_some_iff.mp hy
        have il : i < ps.length := (List.getElem?_eq_some_iff.mp e1).1
        refine ⟨p1, _, rfl, SqT.of (sm3 _ _ (ap i p1 e1)), rfl, _, _, rfl, _, _, rfl, rfl, ?_⟩
        refine ⟨rfl, ?_⟩
        walk_at "rd"
        refine ⟨(by show 2 ≤ sizeLine; decide), fun t nt => ?_⟩
        have wt : ∀ {c : Addr} {u w2 : HO}, H3 c = some u → upd H3 t w2 c = some u := fun {c u w2} z => (upd_ne (ne_of_none z nt)).trans z
        have nDt : D ≠ t := ne_of_none hD nt
        refine ⟨_, wt hD, (by rw [List.length_map, lq]; exact Nat.lt_of_le_of_lt (by omega : i ≤ 1001) (by decide)), qs ++ [t], by rw [List.map_append]; exact upd_same, by rw [List.length_append, lq]; rfl, by omega, fun c u y => (upd_ne (ne_of_none y nD)).trans (wt (sm3 _ _ y)), fun j q2 ej => ?_⟩
        by_cases y : j < qs.length
        · rw [List.getElem?_append_left y] at ej
          have hj := aq j q2 ej
          exact (upd_ne (fun e => by rw [e, hD] at hj; cases hj)).trans (wt hj)
        · rw [List.getElem?_append_right (by omega)] at ej
          have j0 : j - qs.length = 0 := by
            have := (List.getElem?_eq_some_iff.mp ej).1
            simp at this
            omega
          rw [j0] at ej
          cases ej
          have ej2 : j = i := by omega
          rw [ej2]
          exact (upd_ne nDt.symm).trans upd_same
      · rintro H3 ⟨qs, hD, lq, li, sm3, aq⟩
        rw [List.length_map, lp] at lq
        walk_at "rd"
        have DH : H D = none := by
          cases z : H D with
          | none => rfl
          | some u => rw [t6 _ _ z] at nD; cases nD
        exact q D n H3 DH (t6.trans sm3) to ⟨qs, hD, lq, aq⟩
end
end HT
namespace HT
open PySem L2
/-- what lies of a run within N of the value -/
def clipN (N : Int) (r : Int × Int) : Int × Int := (if r.1 < -N then -N else r.1, if N < r.2 then N else r.2)
def oI : Option Int → V
  | none => .non
  | some x => .int x
def loE (v N : Int) (r : Int × Int) : Option Int := if (clipN N r).1 = -N then none else some (v + (clipN N r).1)
def hiE (v N : Int) (r : Int × Int) : Option Int := if (clipN N r).2 = N then none else some (v + (clipN N r).2)
def TooE (N : Int) (ns : List Sd) (n : Nat) : Prop := n = 1001 ∧ clipN N (runN ns 1000) ≠ clipN N (runN ns 1001)
def spWin : Sp := fun vs H Q _ => ∃ (p w : Addr) (a b c d : Int), vs = [.ref p, .ref w] ∧ H p = some (pairV a b) ∧ H w = some (pairV c d) ∧ ∀ (q : Addr) (H' : Hp), H q = none → Same H H' → H' q = some (pairV (if a < c then c else a) (if d < b then d else b)) → Q (.ref q) H'
theorem clip_at (v N a b : Int) : (if v + a < v - N then v - N else v + a) = v + (clipN N (a, b)).1 ∧ (if v + N < v + b then v + N else v + b) = v + (clipN N (a, b)).2 := by
  unfold clipN
  constructor
  · by_cases h : a < -N
    · rw [if_pos h, if_pos (by omega)]; omega
    · rw [if_neg h, if_neg (by omega)]
  · by_cases h : N < b
    · rw [if_pos h, if_pos (by omega)]
    · rw [if_neg h, if_neg (by omega)]
def spEndsX (C : Nat → Addr) : Sp := fun vs H Q E => ∃ (l q : Addr) (xs : List V) (ss ns : List Sd) (v : Int) (n : Nat), vs = [.ref l, .int v, .ref q] ∧ SidesAt H l xs ss ∧ RunsTo ns n ∧ RunsAt H q v ns n ∧
  ((TooE (comN ss) ns n ∧ ∀ H', Same H H' → E (.ref (C 2)) none H') ∨ (¬ TooE (comN ss) ns n ∧ ∀ (p : Addr) (H' : Hp), H p = none → Same H H' → H' p = some (.tup [oI (loE v (comN ss) (runN ns n)), oI (hiE v (comN ss) (runN ns n))]) → Q (.ref p) H'))
section
variable {P : Program} {w : World} {K : PySem.W.Frag} {mg : Str → Option Value} {base : Heap} {aM c0 fC fB fV fN fW fS Bx : Addr} {dC dB dV dN dW dS : FuncData} {C : Nat → Addr}
theorem ok_win {f : Addr} {fd : FuncData} (F : Fun K "_within" "_within" s_within f fd) (MT : MaxT mg) : FnOk P w K mg base CX0 1 f fd ["run", "window"] spWin := by
  refine F.ok sc_within (fun vs H Q E h => ?_) (fun cdv A outer s0 H vs Q E hr h => ?_)
  · obtain ⟨p, x, a, b, c, d, rfl, _⟩ := h
    rfl
  · obtain ⟨p, x, a, b, c, d, rfl, hp, hx, q⟩ := h
    have nd := sc_within.nd
    refine ⟨_, (pss_one (ps_ret (pe_tup (pa_cons (pe_callB (call_max2 rfl) (by rfl) MT.max (by decide +kernel) (pa_cons (pe_ix ix_tup (pv 0) pe_int (fun _ _ => rfl)) (pa_cons (pe_ix ix_tup (pv 1) pe_int (fun _ _ => rfl)) pa_nil))) (pa_cons (pe_callB (call_min2 rfl) (by rfl) MT.min (by decide +kernel) (pa_cons (pe_ix ix_tup (pv 0) pe_int (fun _ _ => rfl)) (pa_cons (pe_ix ix_tup (pv 1) pe_int (fun _ _ => rfl)) pa_nil))) pa_nil))))), ?_⟩
    walk_at "rd"
    refine ⟨p, _, 0, _, rfl, rfl, SqT.of hp, rfl, ?_⟩
    walk_at "rd"
    refine ⟨x, _, 0, _, rfl, rfl, SqT.of hx, rfl, ?_⟩
    refine ⟨_, _, rfl, ?_⟩
    walk_at "rd"
    refine ⟨p, _, 1, _, rfl, rfl, SqT.of hp, rfl, ?_⟩
    walk_at "rd"
    refine ⟨x, _, 1, _, rfl, rfl, SqT.of hx, rfl, ?_⟩
    refine ⟨_, _, rfl, ?_⟩
    walk_at "rd"
    refine ⟨(by show 2 ≤ sizeLine; decide), fun n nn => ?_⟩
    exact q n _ nn (fun c u z => (upd_ne (ne_of_none z nn)).trans z) upd_same
theorem ok_ends_x {f : Addr} {fd : FuncData} (F : Fun K "_ends" "_ends" s_ends f fd) (B : Blt mg) (R : Er K mg C Bx) (hMH : ∃ t, mg "MOST_HANDOVERS" = some (.int 1000 t)) (Cp : Cal P w K mg base "common_period" 2 ["sides"] spPerL fB dB) (Wi : Cal P w K mg base "_within" 1 ["run", "window"] spWin fC dC) : FnOk P w K mg base (L2.CX P w) 3 f fd ["sides", "value", "runs"] (spEndsX C) := by
  refine F.okAny sc_ends (fun vs H Q E h => ?_) (fun cdv A outer s0 H vs Q E hr h => ?_)
  · obtain ⟨l, q, xs, ss, ns, v, n, rfl, _⟩ := h
    rfl
  · obtain ⟨l, q, xs, ss, ns, v, n, rfl, SS, to, ⟨ps, hR, lp, ap⟩, k⟩ := h
    have nd := sc_ends.nd
    obtain ⟨tmh, hmh⟩ := hMH
    refine ⟨_, (pss_cons (ps_set (i := 3) nd rfl (Or.inl rfl) (pcl Cp hr (by decide) (by rfl) (pa_cons (pv 0) pa_nil)))
      (pss_cons (ps_set (i := 4) nd rfl (Or.inl rfl) (pe_tup (pa_cons (pe_op op_sub (pv 1) (pv 3)) (pa_cons (pe_op op_add (pv 1) (pv 3)) pa_nil))))
      (pss_cons (ps_mid (ps_if (pt_cmpR op_gt (pe_callB call_len_seq (by rfl) B.len PySem.boot_len (pa_cons (pv 2) pa_nil)) (pe_op op_add (pe_glob (v := .int 1000) (by rfl) hmh ⟨_, rfl⟩) pe_int) (nomark _)) (pss_one (ps_if (pt_cmpR (op_neD hr.units) (pcl Wi hr (by decide) (by rfl) (pa_cons (pe_ix ix_list (pv 2) (pe_glob (v := .int 1000) (by rfl) hmh ⟨_, rfl⟩) (fun _ _ => rfl)) (pa_cons (pv 4) pa_nil))) (pcl Wi hr (by decide) (by rfl) (pa_cons (pe_ix ix_list (pv 2) (pe_op op_add (pe_glob (v := .int 1000) (by rfl) hmh ⟨_, rfl⟩) pe_int) (fun _ _ => rfl)) (pa_cons (pv 4) pa_nil))) (nomark _)) (pss_one (ps_raise rfl (takes_of rfl rfl rfl rfl) (pmk_own PySem.F.excBase_ValueError (R.ex 2 (by decide)) R.g2 (R.kp 2 (by decide)) (raises_own (R.sb 2 (by decide)) (R.ty 2 (by decide))) (by rfl)))) pss_nil)) pss_nil))
      (pss_cons (ps_asg (pcl Wi hr (by decide) (by rfl) (pa_cons (pe_ix ix_list (pv 2) (pe_op op_sub (pe_callB call_len_seq (by rfl) B.len PySem.boot_len (pa_cons (pv 2) pa_nil)) pe_int) (fun _ _ => rfl)) (pa_cons (pv 4) pa_nil))) (pg_tup (by rfl) (pgs_cons (pg_name (i := 5) nd rfl (Or.inl rfl)) (pgs_cons (pg_name (i := 6) nd rfl (Or.inl rfl)) pgs_nil))))
      (pss_one (ps_ret (pe_tup (pa_cons (pe_ifExp (pt_cmpR op_eq (pv 5) (pe_ix ix_tup (pv 4) pe_int (fun _ _ => rfl)) (nomark _)) pe_non (pv 5)) (pa_cons (pe_ifExp (pt_cmpR op_eq (pv 6) (pe_ix ix_tup (pv 4) pe_int (fun _ _ => rfl)) (nomark _)) pe_non (pv 6)) pa_nil))))))))), ?_⟩
    walk_at "rd"
    refine ⟨l, xs, ss, rfl, SS.toL, ?_⟩
    have N0 : (0 : Int) ≤ (comN ss : Int) := Int.natCast_nonneg _
    generalize (comN ss : Int) = N at N0 k ⊢
    walk_at "rd"
    refine ⟨(by show 2 ≤ sizeLine; decide), fun wi nwi => ?_⟩
    have w1 : Same H (upd H wi (pairV (v - N) (v + N))) := fun b u z => (upd_ne (ne_of_none z nwi)).trans z
    have gw : upd H wi (pairV (v - N) (v + N)) wi = some (pairV (v - N) (v + N)) := upd_same
    change (gName 4 _ _ (upd H wi (pairV (v - N) (v + N))) _)
    generalize upd H wi (pairV (v - N) (v + N)) = H1 at w1 gw ⊢
    have n1 := to.le
    have cl : ∀ a b : Int, pairV (if v + a < v - N then v - N else v + a) (if v + N < v + b then v + N else v + b) = pairV (v + (clipN N (a, b)).1) (v + (clipN N (a, b)).2) := fun a b => by rw [(clip_at v N a b).1, (clip_at v N a b).2]
    refine ⟨fun st H' => st = [some (.ref l), some (.int v), some (.ref q), some (.int N), some (.ref wi), none, none] ∧ Same H H' ∧ H' wi = some (pairV (v - N) (v + N)) ∧ ¬ TooE N ns n, ?_, ?_⟩
    · walk_at "rd"
      refine ⟨q, _, rfl, .inl (SqL.of (w1 _ _ hR)), ?_⟩
      walk_at "rd"
      refine ite2 (fun z => ?_) (fun z => ?_)
      · have big := of_decide_eq_true z
        rw [List.length_map, lp] at big
        have e1 : n = 1001 := by omega
        subst e1
        obtain ⟨pa, ea⟩ : ∃ pa, ps[1000]? = some pa := ⟨ps[1000]'(by omega), List.getElem?_eq_getElem _⟩
        obtain ⟨pb, eb⟩ : ∃ pb, ps[1001]? = some pb := ⟨ps[1001]'(by omega), List.getElem?_eq_getElem _⟩
        have ha := ap _ _ ea
        have hb := ap _ _ eb
        walk_at "rd"
        refine ⟨q, _, 1000, _, rfl, rfl, SqL.of (w1 _ _ hR), atI_nat (j := 1000) (by rw [List.getElem?_map, ea]; rfl), ?_⟩
        walk_at "rd"
        refine ⟨pa, wi, _, _, _, _, rfl, w1 _ _ ha, gw, fun c1 H2 nc1 s2 h2 => ?_⟩
        rw [cl] at h2
        walk_at "rd"
        refine ⟨q, _, 1001, _, rfl, rfl, SqL.of (s2 _ _ (w1 _ _ hR)), atI_nat (j := 1001) (by rw [List.getElem?_map, eb]; rfl), ?_⟩
        walk_at "rd"
        refine ⟨pb, wi, _, _, _, _, rfl, s2 _ _ (w1 _ _ hb), s2 _ _ gw, fun c2 H3 nc2 s3 h3 => ?_⟩
        rw [cl] at h3
        refine ⟨_, _, dpPair (s3 _ _ h2), dpPair h3, shaped_two _ _, shaped_two _ _, ?_⟩
        rw [eqv_two]
        walk_at "rd"
        refine ite2 (fun z => ?_) (fun z => ?_)
        · rcases k with ⟨_, k⟩ | ⟨no, _⟩
          · exact k H3 (w1.trans (s2.trans s3))
          · exfalso
            refine no ⟨rfl, fun e => ?_⟩
            have e2 : (clipN N ((runN ns 1000).fst, (runN ns 1000).snd)).fst = (clipN N ((runN ns 1001).fst, (runN ns 1001).snd)).fst := congrArg Prod.fst e
            have e3 : (clipN N ((runN ns 1000).fst, (runN ns 1000).snd)).snd = (clipN N ((runN ns 1001).fst, (runN ns 1001).snd)).snd := congrArg Prod.snd e
            have t : decide (v + (clipN N ((runN ns 1000).fst, (runN ns 1000).snd)).fst = v + (clipN N ((runN ns 1001).fst, (runN ns 1001).snd)).fst ∧ v + (clipN N ((runN ns 1000).fst, (runN ns 1000).snd)).snd = v + (clipN N ((runN ns 1001).fst, (runN ns 1001).snd)).snd) = true := decide_eq_true ⟨by omega, by omega⟩
            rw [t] at z
            cases z
        · have t := not_f z
          have t2 := of_decide_eq_true t
          refine ⟨rfl, w1.trans (s2.trans s3), s3 _ _ (s2 _ _ gw), fun y => y.2 (Prod.ext ?_ ?_)⟩
          · have := t2.1
            show (clipN N ((runN ns 1000).fst, (runN ns 1000).snd)).fst = (clipN N ((runN ns 1001).fst, (runN ns 1001).snd)).fst
            omega
          · have := t2.2
            show (clipN N ((runN ns 1000).fst, (runN ns 1000).snd)).snd = (clipN N ((runN ns 1001).fst, (runN ns 1001).snd)).snd
            omega
      · have small := of_decide_eq_false (by simpa using z : decide ((1001 : Int) < ((ps.map V.ref).length : Int)) = false)
        rw [List.length_map, lp] at small
        refine ⟨rfl, w1, gw, fun y => ?_⟩
        have := y.1
        omega
    · rintro st H2 ⟨rfl, s2, g2, no⟩
      obtain ⟨pn, en⟩ : ∃ pn, ps[n]? = some pn := ⟨ps[n]'(by omega), List.getElem?_eq_getElem _⟩
      have hn := ap _ _ en
      walk_at "rd"
      refine ⟨q, _, rfl, .inl (SqL.of (s2 _ _ hR)), ?_⟩
      walk_at "rd"
      have ei : atI (ps.map V.ref) (((ps.map V.ref).length : Int) - 1) = some (V.ref pn) := by
        have e : ((ps.map V.ref).length : Int) - 1 = (n : Int) := by rw [List.length_map, lp]; omega
        rw [e]
        exact atI_nat (by rw [List.getElem?_map, en]; rfl)
      refine ⟨q, _, _, _, rfl, rfl, SqL.of (s2 _ _ hR), ei, ?_⟩
      walk_at "rd"
      refine ⟨pn, wi, _, _, _, _, rfl, s2 _ _ hn, g2, fun c H3 nc s3 h3 => ?_⟩
      rw [cl] at h3
      refine ⟨c, _, rfl, SqT.of h3, rfl, _, _, rfl, _, _, rfl, rfl, ?_⟩
      have g3 := s3 _ _ g2
      walk_at "rd"
      rcases k with ⟨y, _⟩ | ⟨_, k⟩
      · exact absurd y no
      have lo1 : v + (clipN N ((runN ns n).fst, (runN ns n).snd)).fst = v - N → oI (loE v N (runN ns n)) = .non := fun e => by
        unfold loE
        rw [if_pos (by show (clipN N ((runN ns n).fst, (runN ns n).snd)).fst = -N; omega)]
        rfl
      have lo2 : ¬ v + (clipN N ((runN ns n).fst, (runN ns n).snd)).fst = v - N → oI (loE v N (runN ns n)) = .int (v + (clipN N ((runN ns n).fst, (runN ns n).snd)).fst) := fun e => by
        unfold loE
        rw [if_neg (by show ¬ (clipN N ((runN ns n).fst, (runN ns n).snd)).fst = -N; omega)]
        rfl
      have hi1 : v + (clipN N ((runN ns n).fst, (runN ns n).snd)).snd = v + N → oI (hiE v N (runN ns n)) = .non := fun e => by
        unfold hiE
        rw [if_pos (by show (clipN N ((runN ns n).fst, (runN ns n).snd)).snd = N; omega)]
        rfl
      have hi2 : ¬ v + (clipN N ((runN ns n).fst, (runN ns n).snd)).snd = v + N → oI (hiE v N (runN ns n)) = .int (v + (clipN N ((runN ns n).fst, (runN ns n).snd)).snd) := fun e => by
        unfold hiE
        rw [if_neg (by show ¬ (clipN N ((runN ns n).fst, (runN ns n).snd)).snd = N; omega)]
        rfl
      generalize oI (loE v N (runN ns n)) = lo at lo1 lo2 k
      generalize oI (hiE v N (runN ns n)) = hi at hi1 hi2 k
      have fin : ∀ (p : Addr), H3 p = none → Q (.ref p) (upd H3 p (.tup [lo, hi])) := fun p np =>
        k p _ (s2.free (s3.free np)) (s2.trans (s3.trans fun c u z => (upd_ne (ne_of_none z np)).trans z)) upd_same
      walk_at "rd"
      refine ⟨wi, _, 0, _, rfl, rfl, SqT.of g3, rfl, ?_⟩
      refine ⟨rfl, ?_⟩
      walk_at "rd"
      refine ite2 (fun z => ?_) (fun z => ?_)
      · have e1 := lo1 (int_t z)
        walk_at "rd"
        refine ⟨wi, _, 1, _, rfl, rfl, SqT.of g3, rfl, ?_⟩
        refine ⟨rfl, ?_⟩
        walk_at "rd"
        refine ite2 (fun z => ?_) (fun z => ?_)
        · have e2 := hi1 (int_t z)
          walk_at "rd"
          refine ⟨(by show 2 ≤ sizeLine; decide), fun p np => ?_⟩
          rw [e1, e2] at fin
          exact fin p np
        · have e2 := hi2 (int_f z)
          walk_at "rd"
          refine ⟨(by show 2 ≤ sizeLine; decide), fun p np => ?_⟩
          rw [e1, e2] at fin
          exact fin p np
      · have e1 := lo2 (int_f z)
        walk_at "rd"
        refine ⟨wi, _, 1, _, rfl, rfl, SqT.of g3, rfl, ?_⟩
        refine ⟨rfl, ?_⟩
        walk_at "rd"
        refine ite2 (fun z => ?_) (fun z => ?_)
        · have e2 := hi1 (int_t z)
          walk_at "rd"
          refine ⟨(by show 2 ≤ sizeLine; decide), fun p np => ?_⟩
          rw [e1, e2] at fin
          exact fin p np
        · have e2 := hi2 (int_f z)
          walk_at "rd"
          refine ⟨(by show 2 ≤ sizeLine; decide), fun p np => ?_⟩
          rw [e1, e2] at fin
          exact fin p np
end
end HT
namespace HT
open PySem L2
/-- over enumerate of a list that the body leaves as it is -/
theorem for_enumL {K : PySem.W.Frag} {a : Addr} {xs : List V} {g : TG} {tb : TS} {D : Ends} {σ : St} {H : Hp} (Pv : Nat → St → Hp → Prop) (h0 : Pv 0 σ H) (hl : ∀ i σ H, i ≤ xs.length → Pv i σ H → SqL K H a xs)
    (hs : ∀ i x σ H, xs[i]? = some x → Pv i σ H → ∀ T, H T = none → g (.ref T) σ (upd H T (.tup [.int (i : Nat), x])) fun σ2 H2 => tb { D with nx := Pv (i + 1), ct := Pv (i + 1), bk := D.nx } σ2 H2) (hd : ∀ σ H, Pv xs.length σ H → D.nx σ H) :
    ∃ W : Nat → Nat → St → Hp → Prop, (∃ m, W 0 m σ H) ∧ ∀ i m σ H, W i m σ H →
      ((Ite K a).stop i H ∧ D.nx σ H) ∨ ((Ite K a).go i H ∧ ∃ N : St → Hp → Prop, (∀ σ' H', N σ' H' → ∃ m', m' < m ∧ W (i + 1) m' σ' H') ∧ ∀ x H', (Ite K a).yld i H x H' → g x σ H' fun σ2 H2 => tb { D with nx := N, ct := N, bk := D.nx } σ2 H2) := by
  refine ⟨fun i m σ H => m = xs.length - i ∧ i ≤ xs.length ∧ Pv i σ H, ⟨xs.length, by simp, Nat.zero_le _, h0⟩, ?_⟩
  rintro i m σ H ⟨rfl, le, p⟩
  have q := hl i σ H le p
  by_cases lt : i < xs.length
  · refine .inr ⟨⟨xs, xs[i], q, by simp [lt]⟩, Pv (i + 1), fun σ' H' p' => ⟨xs.length - (i + 1), by omega, rfl, lt, p'⟩, fun x H' y => ?_⟩
    obtain ⟨T, x', rfl, nT, rfl, e⟩ := y
    exact hs i x' σ H (e xs q) p T nT
  · have e : i = xs.length := by omega
    subst e
    exact .inl ⟨⟨xs, q, Nat.le_refl _⟩, hd σ H p⟩
def lowF : Option Int → Int → Bool
  | none, _ => true
  | some x, s => decide (x ≤ s)
def highF : Option Int → Int → Bool
  | none, _ => true
  | some x, s => decide (s ≤ x)
def holdsF (lo hi : Option Int) (s : Int) : Bool := lowF lo s && highF hi s
def inR (v : Int) (ns : List Sd) (s : Int) (i : Nat) : Prop := v + (runN ns i).1 ≤ s ∧ s ≤ v + (runN ns i).2
instance (v : Int) (ns : List Sd) (s : Int) (i : Nat) : Decidable (inR v ns s i) := by unfold inR; infer_instance
def spHolds : Sp := fun vs H Q _ => ∃ (p : Addr) (lo hi : Option Int) (s : Int), vs = [.ref p, .int s] ∧ H p = some (.tup [oI lo, oI hi]) ∧ Q (.bl (holdsF lo hi s)) H
def spFewX (C : Nat → Addr) : Sp := fun vs H Q E => ∃ (l q : Addr) (xs : List V) (ss ns : List Sd) (s v : Int) (n : Nat), vs = [.ref l, .int s, .int v, .ref q] ∧ SidesAt H l xs ss ∧ RunsTo ns n ∧ RunsAt H q v ns n ∧
  (∀ i, i ≤ n → i ≤ 1000 → inR v ns s i → (∀ j, j < i → ¬ inR v ns s j) → ∀ H', Same H H' → Q (.int (i : Int)) H') ∧
  ((∀ i, i ≤ n → i ≤ 1000 → ¬ inR v ns s i) → ∀ H', Same H H' → (TooE (comN ss) ns n → E (.ref (C 2)) none H') ∧ (¬ TooE (comN ss) ns n → (holdsF (loE v (comN ss) (runN ns n)) (hiE v (comN ss) (runN ns n)) s = true → E (.ref (C 2)) none H') ∧ (holdsF (loE v (comN ss) (runN ns n)) (hiE v (comN ss) (runN ns n)) s = false → Q .non H')))
section
variable {P : Program} {w : World} {K : PySem.W.Frag} {mg : Str → Option Value} {base : Heap} {aM c0 fC fB fV fN fW fS Bx : Addr} {dC dB dV dN dW dS : FuncData} {C : Nat → Addr}
theorem ok_holds {f : Addr} {fd : FuncData} (F : Fun K "_holds" "_holds" s_holds f fd) : FnOk P w K mg base CX0 1 f fd ["ends", "value"] spHolds := by
  refine F.ok sc_holds (fun vs H Q E h => ?_) (fun cdv A outer s0 H vs Q E hr h => ?_)
  · obtain ⟨p, lo, hi, s, rfl, _⟩ := h
    rfl
  · obtain ⟨p, lo, hi, s, rfl, hp, q⟩ := h
    have nd := sc_holds.nd
    refine ⟨_, (pss_cons (ps_asg (pv 0) (pg_tup (by rfl) (pgs_cons (pg_name (i := 2) nd rfl (Or.inl rfl)) (pgs_cons (pg_name (i := 3) nd rfl (Or.inl rfl)) pgs_nil))))
      (pss_one (ps_ret (pe_and (pe_or (pe_cmpR op_isN (pv 2) pe_non (nomark _)) (pe_one (pe_cmpR op_le (pv 2) (pv 1) (nomark _)))) (pe_one (pe_or (pe_cmpR op_isN (pv 3) pe_non (nomark _)) (pe_one (pe_cmpR op_le (pv 1) (pv 3) (nomark _))))))))), ?_⟩
    walk_at "rd"
    refine ⟨p, _, rfl, SqT.of hp, rfl, _, _, rfl, _, _, rfl, rfl, ?_⟩
    unfold holdsF at q
    have dn : ∀ x : Int, decide (oI (some x) = V.non) = false := fun x => decide_eq_false fun z => nomatch (show V.int x = V.non from z)
    have d0 : decide (oI none = V.non) = true := rfl
    have not_f2 : ∀ {b : Bool}, ¬ b = true → b = false := fun {b} z => by cases b <;> simp_all
    have second : ∀ H1 : Hp, Q (.bl (highF hi s)) H1 → tOrV (tOp (fun x y H Q => y = V.non ∧ Q (V.bl (decide (x = V.non))) H) (tVar 3) (tC V.non)) (tOp (rI0 fun i j => V.bl (decide (i ≤ j))) (tVar 1) (tVar 3)) [some (.ref p), some (.int s), some (oI lo), some (oI hi)] H1 Q := fun H1 k => by
      refine ⟨_, rfl, rfl, ?_⟩
      cases hi with
      | none =>
        refine ⟨true, rfl, ?_⟩
        exact k
      | some y =>
        refine ⟨_, rfl, ?_⟩
        rw [dn, if_neg (by decide)]
        walk_at "rd"
        exact k
    walk_at "rd"
    refine ⟨rfl, ?_⟩
    cases lo with
    | none =>
      refine ⟨true, rfl, ?_⟩
      refine ⟨true, rfl, ?_⟩
      exact second H q
    | some x =>
      refine ⟨_, rfl, ?_⟩
      rw [dn, if_neg (by decide)]
      walk_at "rd"
      refine ite2 (fun z => ?_) (fun z => ?_)
      · have e : lowF (some x) s = true := z
        rw [e] at q
        exact second H q
      · have e : lowF (some x) s = false := not_f2 z
        rw [e] at q
        have e2 : decide (x ≤ s) = false := e
        exact q
end
end HT
namespace HT
open PySem L2
section
variable {P : Program} {w : World} {K : PySem.W.Frag} {mg : Str → Option Value} {base : Heap} {aM c0 fC fB fV fN fW fS Bx : Addr} {dC dB dV dN dW dS : FuncData} {C : Nat → Addr}
theorem holds_run {v : Int} {ns : List Sd} {s : Int} {i : Nat} : holdsF (some (v + (runN ns i).1)) (some (v + (runN ns i).2)) s = decide (inR v ns s i) := by
  show (decide (v + (runN ns i).1 ≤ s) && decide (s ≤ v + (runN ns i).2)) = decide (inR v ns s i)
  unfold inR
  by_cases a : v + (runN ns i).1 ≤ s <;> by_cases b : s ≤ v + (runN ns i).2 <;> simp [a, b]
theorem cut_1001 (xs : List V) : cutV xs none (some 1001) = xs.take 1001 := by
  have e : cutV xs none (some 1001) = xs.take (min 1001 xs.length) := rfl
  rw [e]
  rcases Nat.le_total 1001 xs.length with h | h
  · rw [Nat.min_eq_left h]
  · rw [Nat.min_eq_right h, List.take_of_length_le (Nat.le_refl _), List.take_of_length_le h]
theorem ok_few_x {f : Addr} {fd : FuncData} (F : Fun K "_fewest" "_fewest" s_fewest f fd) (hen : mg "enumerate" = none) (R : Er K mg C Bx) (hMH : ∃ t, mg "MOST_HANDOVERS" = some (.int 1000 t)) (Ho : Cal P w K mg base "_holds" 1 ["ends", "value"] spHolds fB dB) (En : CalX P w K mg base "_ends" 3 ["sides", "value", "runs"] (spEndsX C) fC dC) : FnOk P w K mg base (L2.CX P w) 4 f fd ["sides", "start", "value", "runs"] (spFewX C) := by
  refine F.okAny sc_fewest (fun vs H Q E h => ?_) (fun cdv A outer s0 H vs Q E hr h => ?_)
  · obtain ⟨l, q, xs, ss, ns, s, v, n, rfl, _⟩ := h
    rfl
  · obtain ⟨l, q, xs, ss, ns, s, v, n, rfl, SS, to, RA, k1, k2⟩ := h
    have nd := sc_fewest.nd
    obtain ⟨tmh, hmh⟩ := hMH
    refine ⟨_, (pss_cons (ps_for (passes_of rfl) rfl (pi_enum (by rfl) hen (pa_cons (pe_slice sl_list (pv 3) po_none (po_some (pe_op op_add (pe_glob (v := .int 1000) (by rfl) hmh ⟨_, rfl⟩) pe_int))) pa_nil)) (pg_tup (by rfl) (pgs_cons (pg_name (i := 4) nd rfl (Or.inl rfl)) (pgs_cons (pg_name (i := 5) nd rfl (Or.inl rfl)) pgs_nil))) (pss_one (ps_if (pt_val (pcl Ho hr (by decide) (by rfl) (pa_cons (pv 5) (pa_cons (pv 1) pa_nil)))) (pss_one (ps_ret (pv 4))) pss_nil)))
      (pss_cons (ps_if (pt_val (pcl Ho hr (by decide) (by rfl) (pa_cons (pcx En hr (by decide) (by rfl) (takes_of rfl rfl rfl rfl) (pa_cons (pv 0) (pa_cons (pv 2) (pa_cons (pv 3) pa_nil)))) (pa_cons (pv 1) pa_nil)))) (pss_one (ps_raise rfl (takes_of rfl rfl rfl rfl) (pmk_own PySem.F.excBase_ValueError (R.ex 2 (by decide)) R.g2 (R.kp 2 (by decide)) (raises_own (R.sb 2 (by decide)) (R.ty 2 (by decide))) (by rfl)))) pss_nil)
      (pss_one (ps_ret pe_non)))), ?_⟩
    obtain ⟨ps, hR, lp, ap⟩ := RA
    walk_at "rd"
    refine ⟨q, _, rfl, SqL.of hR, fun cu ncu => ?_⟩
    have w1 : Same H (upd H cu (.lst (cutV (ps.map V.ref) none (some 1001)))) := fun b u z => (upd_ne (ne_of_none z ncu)).trans z
    have g1 : upd H cu (.lst (cutV (ps.map V.ref) none (some 1001))) cu = some (.lst ((ps.take 1001).map V.ref)) := by
      rw [upd_same, cut_1001, List.map_take]
    change tNil _ (upd H cu (.lst (cutV (ps.map V.ref) none (some 1001)))) _
    generalize upd H cu (.lst (cutV (ps.map V.ref) none (some 1001))) = H1 at w1 g1 ⊢
    have n1 := to.le
    walk_at "rd"
    refine ⟨cu, _, rfl, SqL.of g1, ?_⟩
    refine for_enumL (K := K) (a := cu) (xs := (ps.take 1001).map V.ref) (fun i st H' => ∃ x4 x5 : Option V, st = [some (.ref l), some (.int s), some (.int v), some (.ref q), x4, x5] ∧ Same H H' ∧ H' cu = some (.lst ((ps.take 1001).map V.ref)) ∧ ∀ j, j < i → ¬ inR v ns s j)
      ⟨none, none, rfl, w1, g1, fun j z => absurd z (Nat.not_lt_zero _)⟩ (fun _ _ _ _ ⟨_, _, _, _, e, _⟩ => SqL.of e) ?_ ?_
    · rintro i y st H' hy ⟨x4, x5, rfl, sm, gc, no⟩ T nT
      rw [List.getElem?_map] at hy
      obtain ⟨p1, e1, rfl⟩ := Option.map_eq_some_iff.mp hy
      have e2 : ps[i]? = some p1 ∧ i < 1001 := by
        rw [List.getElem?_take] at e1
        split at e1
        · exact ⟨e1, by omega⟩
        · cases e1
      have hp1 := ap i p1 e2.1
      have il : i < ps.length := (List.getElem?_eq_some_iff.mp e2.1).1
      have wT : Same H' (upd H' T (.tup [.int (i : Nat), .ref p1])) := fun b u z => (upd_ne (ne_of_none z nT)).trans z
      refine ⟨T, _, rfl, SqT.of upd_same, rfl, _, _, rfl, _, _, rfl, rfl, ?_⟩
      generalize upd H' T (.tup [.int (i : Nat), .ref p1]) = H2 at wT ⊢
      walk_at "rd"
      refine ⟨p1, some (v + (runN ns i).1), some (v + (runN ns i).2), s, rfl, wT _ _ (sm _ _ hp1), _, rfl, ?_⟩
      rw [holds_run]
      refine ite2 (fun z => ?_) (fun z => ?_)
      · walk_at "rd"
        exact k1 i (by omega) (by omega) (of_decide_eq_true z) no H2 (sm.trans wT)
      · refine ⟨_, _, rfl, sm.trans wT, wT _ _ gc, fun j hj => ?_⟩
        rcases Nat.lt_or_eq_of_le (Nat.le_of_lt_succ hj) with y | y
        · exact no j y
        · rw [y]; exact fun y => z (decide_eq_true y)
    · rintro st H' ⟨x4, x5, rfl, sm, gc, no⟩
      have no2 : ∀ i, i ≤ n → i ≤ 1000 → ¬ inR v ns s i := fun i a b => no i (by rw [List.length_map, List.length_take, lp]; omega)
      walk_at "rd"
      refine ⟨l, q, xs, ss, ns, v, n, rfl, SS.same sm, to, ⟨ps, sm _ _ hR, lp, fun i p e => sm _ _ (ap i p e)⟩, ?_⟩
      by_cases many : TooE (comN ss) ns n
      · exact .inl ⟨many, fun H2 s2 => (k2 no2 H2 (sm.trans s2)).1 many⟩
      · refine .inr ⟨many, fun p H2 np s2 hp => ?_⟩
        have k3 := (k2 no2 H2 (sm.trans s2)).2 many
        walk_at "rd"
        refine ⟨p, _, _, s, rfl, hp, _, rfl, ?_⟩
        refine ite2 (fun z => ?_) (fun z => ?_)
        · exact k3.1 z
        · walk_at "rd"
          exact k3.2 (by simpa using z)
end
end HT
namespace HT
open PySem L2
theorem good_of {H : Hp} {l : Addr} {xs : List V} {ss : List Sd} (S : SidesAt H l xs ss) : GoodL H l xs := ⟨S.hl, by have := S.l1; have := S.len; omega, by have := S.l4; have := S.len; omega, fun y hy => by
  obtain ⟨i, hi, e⟩ := List.mem_iff_getElem.mp hy
  obtain ⟨d, p, ed, e2, hp, sp⟩ := S.item (i := i) (y := y) (by rw [← e]; exact List.getElem?_eq_getElem hi)
  exact ⟨p, d.o, d.s, d.m, e2, hp, sp⟩⟩
/-- what before tells, and its errors -/
def spBefX (K : PySem.W.Frag) (C : Nat → Addr) : Sp := fun vs H Q E => ∃ x y : V, vs = [x, y] ∧ ((BadL K H x ∧ E (.ref (C 1)) none H) ∨ (∃ l xs n, x = .ref l ∧ GoodL H l xs ∧ Th H y n ∧ isI n = false ∧ E (.ref (C 3)) none H) ∨
  (∃ l xs ss v, x = .ref l ∧ SidesAt H l xs ss ∧ y = .int v ∧ (-2 ^ 500 < v ∧ v < 2 ^ 500) ∧ ∀ n, RunsTo (ss.map (movD (-v))) n →
    (TooE (comN ss) (ss.map (movD (-v))) n → ∀ H', Same H H' → E (.ref (C 2)) none H') ∧
    (¬ TooE (comN ss) (ss.map (movD (-v))) n → ∀ (p : Addr) (H' : Hp), H p = none → Same H H' → H' p = some (.tup [oI (loE v (comN ss) (runN (ss.map (movD (-v))) n)), oI (hiE v (comN ss) (runN (ss.map (movD (-v))) n))]) → Q (.ref p) H')))
/-- route's errors -/
def spRouX (K : PySem.W.Frag) (C : Nat → Addr) : Sp := fun vs H _ E => ∃ x y z : V, vs = [x, y, z] ∧ ((BadL K H x ∧ E (.ref (C 1)) none H) ∨ (∃ l xs n, x = .ref l ∧ GoodL H l xs ∧ Th H y n ∧ isI n = false ∧ E (.ref (C 3)) none H) ∨
  (∃ l xs n s, x = .ref l ∧ GoodL H l xs ∧ y = .int s ∧ Th H z n ∧ isI n = false ∧ E (.ref (C 3)) none H) ∨
  (∃ l xs ss s v, x = .ref l ∧ SidesAt H l xs ss ∧ y = .int s ∧ z = .int v ∧ (-2 ^ 500 < v ∧ v < 2 ^ 500) ∧ (∀ n, RunsTo (ss.map (movD (-v))) n → (∀ i, i ≤ n → i ≤ 1000 → ¬ inR v (ss.map (movD (-v))) s i) ∧
    (TooE (comN ss) (ss.map (movD (-v))) n ∨ holdsF (loE v (comN ss) (runN (ss.map (movD (-v))) n)) (hiE v (comN ss) (runN (ss.map (movD (-v))) n)) s = true)) ∧ ∀ H', Same H H' → E (.ref (C 2)) none H'))
section
variable {P : Program} {w : World} {K : PySem.W.Frag} {mg : Str → Option Value} {base : Heap} {aM c0 fC fB fV fN fW fS Bx : Addr} {dC dB dV dN dW dS : FuncData} {C : Nat → Addr}
theorem ok_before_x {f : Addr} {fd : FuncData} (F : Fun K "before" "before" s_before f fd) (Ls : CalX P w K mg base "check_sides" 5 ["sides"] (spSidesX K C) fB dB) (Vl : CalX P w K mg base "check_value" 2 ["value"] (spValX C) fV dV) (Ru : Cal P w K mg base "_runs" 5 ["sides", "value"] spRuns fN dN) (En : CalX P w K mg base "_ends" 3 ["sides", "value", "runs"] (spEndsX C) fC dC) : FnOk P w K mg base (L2.CX P w) 6 f fd ["sides", "value"] (spBefX K C) := by
  refine F.okAny sc_before (fun vs H Q E h => ?_) (fun cdv A outer s0 H vs Q E hr h => ?_)
  · obtain ⟨x, y, rfl, _⟩ := h
    rfl
  · obtain ⟨x, y, rfl, h⟩ := h
    have nd := sc_before.nd
    refine ⟨_, (pss_cons (ps_expr (pcx Ls hr (by decide) (by rfl) (takes_of rfl rfl rfl rfl) (pa_cons (pv 0) pa_nil)))
      (pss_cons (ps_expr (pcx Vl hr (by decide) (by rfl) (takes_of rfl rfl rfl rfl) (pa_cons (pv 1) pa_nil)))
      (pss_one (ps_ret (pcx En hr (by decide) (by rfl) (takes_of rfl rfl rfl rfl) (pa_cons (pv 0) (pa_cons (pv 1) (pa_cons (pcl Ru hr (by decide) (by rfl) (pa_cons (pv 0) (pa_cons (pv 1) pa_nil))) pa_nil)))))))), ?_⟩
    walk_at "rd"
    rcases h with ⟨bad, q⟩ | ⟨l, xs, n, rfl, gl, ty, ni, q⟩ | ⟨l, xs, ss, v, rfl, SS, rfl, vb, k⟩
    · exact .inr ⟨bad, q⟩
    · refine .inl ⟨l, xs, rfl, gl, ?_⟩
      walk_at "rd"
      exact ⟨_, n, rfl, ty, fun z => absurd z (by rw [ni]; decide), fun _ => q⟩
    refine .inl ⟨l, xs, rfl, good_of SS, ?_⟩
    walk_at "rd"
    refine ⟨_, _, rfl, .int _, fun _ => ?_, fun z => absurd z (by decide)⟩
    walk_at "rd"
    refine ⟨l, xs, ss, v, rfl, SS, vb, fun q n H1 nq s1 to RA => ?_⟩
    walk_at "rd"
    refine ⟨l, q, xs, ss, _, v, n, rfl, SS.same s1, to, RA, ?_⟩
    by_cases many : TooE (comN ss) (ss.map (movD (-v))) n
    · exact .inl ⟨many, fun H2 s2 => (k n to).1 many H2 (s1.trans s2)⟩
    · exact .inr ⟨many, fun p H2 np s2 hp => (k n to).2 many p H2 (s1.free np) (s1.trans s2) hp⟩
theorem ok_route_x {f : Addr} {fd : FuncData} (F : Fun K "route" "route" s_route f fd) (Ls : CalX P w K mg base "check_sides" 5 ["sides"] (spSidesX K C) fB dB) (Vl : CalX P w K mg base "check_value" 2 ["value"] (spValX C) fV dV) (Ru : Cal P w K mg base "_runs" 5 ["sides", "value"] spRuns fN dN) (Fw : CalX P w K mg base "_fewest" 4 ["sides", "start", "value", "runs"] (spFewX C) fC dC) : FnOk P w K mg base (L2.CX P w) 6 f fd ["sides", "start", "value"] (spRouX K C) := by
  refine F.okAny sc_route (fun vs H Q E h => ?_) (fun cdv A outer s0 H vs Q E hr h => ?_)
  · obtain ⟨x, y, z, rfl, _⟩ := h
    rfl
  · obtain ⟨x, y, z, rfl, h⟩ := h
    have nd := sc_route.nd
    refine ⟨_, pss_cons (ps_expr (pcx Ls hr (by decide) (by rfl) (takes_of rfl rfl rfl rfl) (pa_cons (pv 0) pa_nil)))
      (pss_cons (ps_expr (pcx Vl hr (by decide) (by rfl) (takes_of rfl rfl rfl rfl) (pa_cons (pv 1) pa_nil)))
      (pss_cons (ps_expr (pcx Vl hr (by decide) (by rfl) (takes_of rfl rfl rfl rfl) (pa_cons (pv 2) pa_nil)))
      (pss_cons (ps_set (i := 3) nd rfl (Or.inl rfl) (pcl Ru hr (by decide) (by rfl) (pa_cons (pv 0) (pa_cons (pv 2) pa_nil))))
      (pss_cons (ps_set (i := 4) nd rfl (Or.inl rfl) (pcx Fw hr (by decide) (by rfl) (takes_of rfl rfl rfl rfl) (pa_cons (pv 0) (pa_cons (pv 1) (pa_cons (pv 2) (pa_cons (pv 3) pa_nil))))))
      (pss_cons ps_never (pss_one ps_never)))))), ?_⟩
    walk_at "rd"
    rcases h with ⟨bad, q⟩ | ⟨l, xs, n, rfl, gl, ty, ni, q⟩ | ⟨l, xs, n, s, rfl, gl, rfl, ty, ni, q⟩ | ⟨l, xs, ss, s, v, rfl, SS, rfl, rfl, vb, k, q⟩
    · exact .inr ⟨bad, q⟩
    · refine .inl ⟨l, xs, rfl, gl, ?_⟩
      walk_at "rd"
      exact ⟨_, n, rfl, ty, fun z => absurd z (by rw [ni]; decide), fun _ => q⟩
    · refine .inl ⟨l, xs, rfl, gl, ?_⟩
      walk_at "rd"
      refine ⟨_, _, rfl, .int _, fun _ => ?_, fun z => absurd z (by decide)⟩
      walk_at "rd"
      exact ⟨_, n, rfl, ty, fun z => absurd z (by rw [ni]; decide), fun _ => q⟩
    refine .inl ⟨l, xs, rfl, good_of SS, ?_⟩
    walk_at "rd"
    refine ⟨_, _, rfl, .int _, fun _ => ?_, fun z => absurd z (by decide)⟩
    walk_at "rd"
    refine ⟨_, _, rfl, .int _, fun _ => ?_, fun z => absurd z (by decide)⟩
    walk_at "rd"
    refine ⟨l, xs, ss, v, rfl, SS, vb, fun q1 n H1 nq s1 to RA => ?_⟩
    obtain ⟨no, k2⟩ := k n to
    walk_at "rd"
    refine ⟨l, q1, xs, ss, _, s, v, n, rfl, SS.same s1, to, RA, fun i a b c _ => absurd c (no i a b), fun _ H2 s2 => ⟨fun _ => q H2 (s1.trans s2), fun m => ⟨fun _ => q H2 (s1.trans s2), fun z => ?_⟩⟩⟩
    rcases k2 with k2 | k2
    · exact absurd k2 m
    · rw [k2] at z
      cases z
end
end HT
namespace HT
open PySem L2
theorem back_up (o s v : Int) : backM o s "up" v = o + s * ceilM o s v - (s - 1) := rfl
theorem back_hu (o s v : Int) : backM o s "half_up" v = o + s * ceilM o s v - s / 2 := rfl
/-- the same for sides whose figures all reach down alike -/
def fastB (t : Int × Int × Int) (v : Int) : Int := t.1 + t.2.1 * -((t.1 - v) / t.2.1) - t.2.2
def fastS (r a : Int × Int) (t : Int × Int × Int) : Int × Int :=
  let f := fastB t r.1
  let g := fastB t (r.2 + 1) - 1
  if f ≤ g then (if f < a.1 then f else a.1, if a.2 < g then g else a.2) else a
def fastW (ts : List (Int × Int × Int)) (r : Int × Int) : Int × Int := ts.foldl (fastS r) r
def iterW (ts : List (Int × Int × Int)) : Nat → Int × Int → Int × Int
  | 0, r => r
  | k + 1, r => iterW ts k (fastW ts r)
/-- k runs each greater than the one ahead -/
def growW (ts : List (Int × Int × Int)) : Nat → Int × Int → Bool
  | 0, _ => true
  | k + 1, r => if fastW ts r = r then false else growW ts k (fastW ts r)
def FastP (ss : List Sd) (ts : List (Int × Int × Int)) : Prop := ∀ r, widF ss r = fastW ts r
theorem fast_cons {d : Sd} {ss : List Sd} {ts : List (Int × Int × Int)} {t : Int × Int × Int} (h : ∀ v, backM d.o d.s d.m v = fastB t v) (k : ∀ r a, ss.foldl (widS r) a = ts.foldl (fastS r) a) : ∀ r a, (d :: ss).foldl (widS r) a = (t :: ts).foldl (fastS r) a := fun r a => by
  have e : widS r a d = fastS r a t := by
    unfold widS fastS
    rw [h, h]
  rw [List.foldl_cons, List.foldl_cons, e]
  exact k _ _
theorem iter_run {ss : List Sd} {ts : List (Int × Int × Int)} (h : FastP ss ts) : ∀ k i, iterW ts k (runN ss i) = runN ss (i + k)
  | 0, _ => rfl
  | k + 1, i => by
    show iterW ts k (fastW ts (runN ss i)) = _
    rw [← h]
    have e := iter_run h k (i + 1)
    rw [show i + (k + 1) = i + 1 + k by omega]
    exact e
theorem grow_run {ss : List Sd} {ts : List (Int × Int × Int)} (h : FastP ss ts) : ∀ k i, growW ts k (runN ss i) = true → ∀ j, j < k → runN ss (i + j + 1) ≠ runN ss (i + j)
  | 0, _, _, j, hj => absurd hj (Nat.not_lt_zero _)
  | k + 1, i, g, j, hj => by
    unfold growW at g
    split at g
    · cases g
    · rename_i ne
      rw [← h] at g ne
      cases j with
      | zero => exact ne
      | succ j =>
        have e := grow_run h k (i + 1) g j (by omega)
        rw [show i + (j + 1) = i + 1 + j by omega]
        exact e
end HT
namespace HT
open PySem L2
def wideS : List Sd := [⟨0, 501, "up"⟩, ⟨1, 502, "up"⟩]
def threeS : List Sd := [⟨0, 3, "half_up"⟩, ⟨1, 3, "half_up"⟩, ⟨2, 3, "half_up"⟩]
theorem near_a : wideS.map (movD (-502002)) = [⟨0, 501, "up"⟩, ⟨501, 502, "up"⟩] := by kernel_rfl
theorem near_b : wideS.map (movD (-502503)) = [⟨0, 501, "up"⟩, ⟨0, 502, "up"⟩] := by kernel_rfl
theorem near_c : threeS.map (movD (-3000)) = [⟨0, 3, "half_up"⟩, ⟨1, 3, "half_up"⟩, ⟨2, 3, "half_up"⟩] := by kernel_rfl
theorem com_wide : comN wideS = 251502 := by decide +kernel
theorem com_three : comN threeS = 3 := by decide +kernel
theorem fast_a : FastP [⟨0, 501, "up"⟩, ⟨501, 502, "up"⟩] [(0, 501, 500), (501, 502, 501)] := fun r => fast_cons (back_up 0 501) (fast_cons (back_up 501 502) fun _ _ => rfl) r r
theorem fast_b : FastP [⟨0, 501, "up"⟩, ⟨0, 502, "up"⟩] [(0, 501, 500), (0, 502, 501)] := fun r => fast_cons (back_up 0 501) (fast_cons (back_up 0 502) fun _ _ => rfl) r r
theorem fast_c : FastP [⟨0, 3, "half_up"⟩, ⟨1, 3, "half_up"⟩, ⟨2, 3, "half_up"⟩] [(0, 3, 1), (1, 3, 1), (2, 3, 1)] := fun r => fast_cons (back_hu 0 3) (fast_cons (back_hu 1 3) (fast_cons (back_hu 2 3) fun _ _ => rfl)) r r
theorem grow_a : growW [(0, 501, 500), (501, 502, 501)] 1000 (0, 0) = true := by decide +kernel
theorem iter_a : iterW [(0, 501, 500), (501, 502, 501)] 1000 (0, 0) = (-251000, 0) := by decide +kernel
theorem stop_a : fastW [(0, 501, 500), (501, 502, 501)] (-251000, 0) = (-251000, 0) := by decide +kernel
theorem grow_b : growW [(0, 501, 500), (0, 502, 501)] 1001 (0, 0) = true := by decide +kernel
theorem iter_b : iterW [(0, 501, 500), (0, 502, 501)] 1000 (0, 0) = (-251000, 0) := by decide +kernel
theorem step_b : fastW [(0, 501, 500), (0, 502, 501)] (-251000, 0) = (-251501, 0) := by decide +kernel
theorem grow_c : growW [(0, 3, 1), (1, 3, 1), (2, 3, 1)] 1001 (0, 0) = true := by decide +kernel
theorem iter_c : iterW [(0, 3, 1), (1, 3, 1), (2, 3, 1)] 1001 (0, 0) = (-1001, 1001) := by decide +kernel
/-- the run at which the search ends -/
theorem ends_at {ss : List Sd} {n k : Nat} (to : RunsTo ss n) (grow : ∀ j, j < k → runN ss (j + 1) ≠ runN ss j) (k1 : k ≤ 1001) : k ≤ n := by
  rcases Nat.lt_or_ge n k with h | h
  · rcases to.stop with e | e
    · omega
    · exact absurd e (grow n h)
  · exact h
theorem wide_ok {n : Nat} (to : RunsTo (wideS.map (movD (-502002))) n) : ¬ TooE (comN wideS) (wideS.map (movD (-502002))) n ∧ loE 502002 (comN wideS) (runN (wideS.map (movD (-502002))) n) = some 251002 ∧ hiE 502002 (comN wideS) (runN (wideS.map (movD (-502002))) n) = some 502002 := by
  rw [near_a] at to ⊢
  have i0 := iter_run fast_a 1000 0
  have g0 := grow_run fast_a 1000 0 grow_a
  rw [Nat.zero_add] at i0
  simp only [Nat.zero_add] at g0
  have e : runN [⟨0, 501, "up"⟩, ⟨501, 502, "up"⟩] 1000 = (-251000, 0) := i0.symm.trans iter_a
  have e1 : runN [⟨0, 501, "up"⟩, ⟨501, 502, "up"⟩] 1001 = (-251000, 0) := by
    show widF _ (runN _ 1000) = _
    rw [e, fast_a, stop_a]
  have n0 := ends_at to g0 (by decide)
  have n1 := to.le
  have en : n = 1000 := by
    rcases Nat.lt_or_ge 1000 n with h | h
    · exact absurd (e1.trans e.symm) (to.ne 1000 h)
    · omega
  subst en
  rw [com_wide, e]
  exact ⟨fun z => by have := z.1; omega, by decide, by decide⟩
theorem wide_many {n : Nat} (to : RunsTo (wideS.map (movD (-502503))) n) : TooE (comN wideS) (wideS.map (movD (-502503))) n := by
  rw [near_b] at to ⊢
  have i0 := iter_run fast_b 1000 0
  have g0 := grow_run fast_b 1001 0 grow_b
  rw [Nat.zero_add] at i0
  simp only [Nat.zero_add] at g0
  have e : runN [⟨0, 501, "up"⟩, ⟨0, 502, "up"⟩] 1000 = (-251000, 0) := i0.symm.trans iter_b
  have e1 : runN [⟨0, 501, "up"⟩, ⟨0, 502, "up"⟩] 1001 = (-251501, 0) := by
    show widF _ (runN _ 1000) = _
    rw [e, fast_b, step_b]
  have n0 := ends_at to g0 (by decide)
  have n1 := to.le
  refine ⟨by omega, ?_⟩
  rw [com_wide, e, e1]
  decide
theorem fast_lo {s o v : Int} (s0 : 1 ≤ s) : v - 1 ≤ fastB (o, s, 1) v := by
  have c := (ceil_eq (o := o) (v := v) s0).1
  unfold ceilM at c
  show v - 1 ≤ o + s * -((o - v) / s) - 1
  omega
theorem slow_c (r : Int × Int) : r.1 - 1 ≤ (fastW [(0, 3, 1), (1, 3, 1), (2, 3, 1)] r).1 := by
  have step : ∀ (o : Int) (a : Int × Int), r.1 - 1 ≤ a.1 → r.1 - 1 ≤ (fastS r a (o, 3, 1)).1 := fun o a h => by
    have z := fast_lo (s := 3) (o := o) (v := r.1) (by decide)
    unfold fastS
    simp only
    split
    · simp only
      split <;> omega
    · exact h
  show r.1 - 1 ≤ (fastS r (fastS r (fastS r r (0, 3, 1)) (1, 3, 1)) (2, 3, 1)).1
  exact step _ _ (step _ _ (step _ _ (by omega)))
theorem three_many {n : Nat} (to : RunsTo (threeS.map (movD (-3000))) n) : (∀ i, i ≤ n → i ≤ 1000 → ¬ inR 3000 (threeS.map (movD (-3000))) 0 i) ∧
    (TooE (comN threeS) (threeS.map (movD (-3000))) n ∨ holdsF (loE 3000 (comN threeS) (runN (threeS.map (movD (-3000))) n)) (hiE 3000 (comN threeS) (runN (threeS.map (movD (-3000))) n)) 0 = true) := by
  rw [near_c] at to ⊢
  have i0 := iter_run fast_c 1001 0
  have g0 := grow_run fast_c 1001 0 grow_c
  rw [Nat.zero_add] at i0
  simp only [Nat.zero_add] at g0
  have lo : ∀ k : Nat, -(k : Int) ≤ (runN [⟨0, 3, "half_up"⟩, ⟨1, 3, "half_up"⟩, ⟨2, 3, "half_up"⟩] k).1 := by
    intro k
    induction k with
    | zero => exact Int.le_refl _
    | succ k ih =>
      have z := slow_c (runN [⟨0, 3, "half_up"⟩, ⟨1, 3, "half_up"⟩, ⟨2, 3, "half_up"⟩] k)
      rw [← fast_c] at z
      show -((k + 1 : Nat) : Int) ≤ (widF _ (runN _ k)).1
      omega
  refine ⟨fun i _ h2 z => ?_, .inr ?_⟩
  · have z1 := lo i
    have z2 := z.1
    omega
  · have n0 := ends_at to g0 (by decide)
    have n1 := to.le
    have en : n = 1001 := by omega
    subst en
    have e : runN [⟨0, 3, "half_up"⟩, ⟨1, 3, "half_up"⟩, ⟨2, 3, "half_up"⟩] 1001 = (-1001, 1001) := i0.symm.trans iter_c
    rw [com_three, e]
    decide
end HT
namespace HT
open PySem L2
def FewP (ss : List Sd) : Prop := (ss.filter upD).length ≤ 2 ∨ comN (ss.filter upD) ≤ 100000
def ManyL (ss : List Sd) : Prop := 2 < ss.length ∧ 100000 < comN ss
def ManyP (ss : List Sd) : Prop := ManyL (ss.filter upD) ∨ (FewP ss ∧ ManyL ((ss.map mirD).filter upD))
def spCFX (C : Nat → Addr) : Sp := fun vs H Q E => ∃ (l : Addr) (xs : List V) (ss : List Sd), vs = [.ref l] ∧ SidL H l xs ss ∧ (((ss.length ≤ 2 ∨ comN ss ≤ 100000) ∧ Q .non H) ∨ (ManyL ss ∧ E (.ref (C 2)) none H))
def spReachX (K : PySem.W.Frag) (C : Nat → Addr) : Sp := fun vs H _ E => ∃ x y : V, vs = [x, y] ∧ ((BadL K H x ∧ E (.ref (C 1)) none H) ∨ (∃ l xs n, x = .ref l ∧ GoodL H l xs ∧ Th H y n ∧ isI n = false ∧ E (.ref (C 3)) none H) ∨
  (∃ l xs ss, ∃ v : Int, x = .ref l ∧ SidesAt H l xs ss ∧ y = .int v ∧ ManyP ss ∧ ∀ H', Same H H' → E (.ref (C 2)) none H'))
section
variable {P : Program} {w : World} {K : PySem.W.Frag} {mg : Str → Option Value} {base : Heap} {fB fH fI fJ fL fM fN B : Addr} {dB dH dI dJ dL dM dN : FuncData} {C : Nat → Addr}
theorem ok_cf_x {f : Addr} {fd : FuncData} (F : Fun K "_check_few" "_check_few" s_check_few f fd) (A' : AmG mg) (R : Er K mg C B) (Co : Cal P w K mg base "common_period" 2 ["sides"] spPerL fH dH) : FnOk P w K mg base (L2.CX P w) 3 f fd ["raising"] (spCFX C) := by
  refine F.okAny sc_check_few (fun vs H Q E h => ?_) (fun cdv A outer s0 H vs Q E hr h => ?_)
  · obtain ⟨l, xs, ss, rfl, _⟩ := h
    rfl
  · obtain ⟨l, xs, ss, rfl, SS, few⟩ := h
    obtain ⟨tmp, hmp⟩ := A'.mp
    refine ⟨_, pss_one (ps_if (PW.pt (pw_and (pt_cmpR op_gt (pe_callB call_len_seq (by rfl) A'.len PySem.boot_len (pa_cons (pv 0) pa_nil)) pe_int (nomark _)) (pw_and1 (pt_cmpR op_gt (pcl Co hr (by decide) (by rfl) (pa_cons (pv 0) pa_nil)) (pe_glob (v := .int 100000) (by rfl) hmp ⟨_, rfl⟩) (nomark _))))) (pss_one (ps_raise rfl (takes_of rfl rfl rfl rfl) (pmk_own PySem.F.excBase_ValueError (R.ex 2 (by decide)) R.g2 (R.kp 2 (by decide)) (raises_own (R.sb 2 (by decide)) (R.ty 2 (by decide))) (by rfl)))) pss_nil), ?_⟩
    walk_at "rd"
    refine ⟨l, _, rfl, .inl (SqL.of SS.hl), ?_⟩
    walk_at "rd"
    refine ite2 (fun z => ?_) (fun z => ?_)
    · have gt := of_decide_eq_true z
      rw [SS.len] at gt
      walk_at "rd"
      refine ⟨l, xs, ss, rfl, SS, ?_⟩
      walk_at "rd"
      refine ite2 (fun z => ?_) (fun z => ?_)
      · have g2 := of_decide_eq_true z
        rcases few with ⟨y, _⟩ | ⟨_, q⟩
        · exfalso
          rcases y with y | y <;> omega
        · exact q
      · have g2 := of_decide_eq_false (by simpa using z : decide ((100000 : Int) < (comN ss : Int)) = false)
        rcases few with ⟨_, q⟩ | ⟨⟨_, y⟩, _⟩
        · exact q
        · exfalso
          omega
    · have gt := of_decide_eq_false (by simpa using z : decide ((2 : Int) < (xs.length : Int)) = false)
      rw [SS.len] at gt
      rcases few with ⟨_, q⟩ | ⟨⟨y, _⟩, _⟩
      · exact q
      · exfalso
        omega
theorem ok_reach_x {f : Addr} {fd : FuncData} (F : Fun K "reach" "reach" s_reach f fd) (Ls : CalX P w K mg base "check_sides" 5 ["sides"] (spSidesX K C) fB dB) (Vl : CalX P w K mg base "check_value" 2 ["value"] (spValX C) fH dH) (Ra : Cal P w K mg base "raisers" 6 ["sides"] spRais fI dI) (Mi : Cal P w K mg base "mirrors" 5 ["sides"] spMirs fJ dJ)
    (Cf : CalX P w K mg base "_check_few" 3 ["raising"] (spCFX C) fL dL) : FnOk P w K mg base (L2.CX P w) 108 f fd ["sides", "value"] (spReachX K C) := by
  refine F.okAny sc_reach (fun vs H Q E h => ?_) (fun cdv A outer s0 H vs Q E hr h => ?_)
  · obtain ⟨x, y, rfl, _⟩ := h
    rfl
  · obtain ⟨x, y, rfl, h⟩ := h
    have nd := sc_reach.nd
    refine ⟨_, pss_cons (ps_expr (pcx Ls hr (by decide) (by rfl) (takes_of rfl rfl rfl rfl) (pa_cons (pv 0) pa_nil)))
      (pss_cons (ps_expr (pcx Vl hr (by decide) (by rfl) (takes_of rfl rfl rfl rfl) (pa_cons (pv 1) pa_nil)))
      (pss_cons (ps_set (i := 2) nd rfl (Or.inl rfl) (pcl Ra hr (by decide) (by rfl) (pa_cons (pv 0) pa_nil)))
      (pss_cons (ps_set (i := 3) nd rfl (Or.inl rfl) (pcl Ra hr (by decide) (by rfl) (pa_cons (pcl Mi hr (by decide) (by rfl) (pa_cons (pv 0) pa_nil)) pa_nil)))
      (pss_cons (ps_expr (pcx Cf hr (by decide) (by rfl) (takes_of rfl rfl rfl rfl) (pa_cons (pv 2) pa_nil)))
      (pss_cons (ps_expr (pcx Cf hr (by decide) (by rfl) (takes_of rfl rfl rfl rfl) (pa_cons (pv 3) pa_nil)))
      (pss_cons ps_never (pss_cons ps_never (pss_one ps_never)))))))), ?_⟩
    walk_at "rd"
    rcases h with ⟨bad, q⟩ | ⟨l, xs, n, rfl, gl, ty, ni, q⟩ | ⟨l, xs, ss, v, rfl, SS, rfl, many, q⟩
    · exact .inr ⟨bad, q⟩
    · refine .inl ⟨l, xs, rfl, gl, ?_⟩
      walk_at "rd"
      exact ⟨_, n, rfl, ty, fun z => absurd z (by rw [ni]; decide), fun _ => q⟩
    refine .inl ⟨l, xs, rfl, good_of SS, ?_⟩
    walk_at "rd"
    refine ⟨_, _, rfl, .int _, fun _ => ?_, fun z => absurd z (by decide)⟩
    walk_at "rd"
    refine ⟨l, xs, ss, rfl, SS.toL, fun L1 y1 H1 n1 s1 S1 => ?_⟩
    walk_at "rd"
    refine ⟨l, xs, ss, rfl, SS.toL.same s1, fun L2 y2 H2 n2 s2 S2 => ?_⟩
    refine ⟨L2, y2, _, rfl, S2, fun L3 y3 H3 n3 s3 S3 => ?_⟩
    walk_at "rd"
    have sA := s1.trans (s2.trans s3)
    rcases many with m | ⟨f1, m⟩
    · exact ⟨L1, y1, _, rfl, (S1.same s2).same s3, .inr ⟨m, q H3 sA⟩⟩
    · refine ⟨L1, y1, _, rfl, (S1.same s2).same s3, .inl ⟨f1, ?_⟩⟩
      walk_at "rd"
      exact ⟨L3, y3, _, rfl, S3, .inr ⟨m, q H3 sA⟩⟩
end
def greatS : List Sd := [⟨0, 10 ^ 20, "up"⟩, ⟨3, 10 ^ 19 + 7, "half_up"⟩, ⟨7, 10 ^ 21 + 1, "half_even"⟩]
theorem great_filter : greatS.filter upD = greatS := by kernel_rfl
theorem great_com : 100000 < comN greatS := by decide +kernel
theorem great_many : ManyP greatS := .inl ⟨by rw [great_filter]; decide, by rw [great_filter]; exact great_com⟩
end HT
namespace HT
open PySem PySem.Spec PyProof.Rows L2
def seven : List String := ["int", "bool", "NoneType", "str", "tuple", "list", "dict"]
theorem Th.seven {H : Hp} {x : V} {n : String} (t : Th H x n) : n ∈ HT.seven := by
  cases t <;> simp [HT.seven]
section
variable {prog : Program} {w : World} {A : Around} {E : Value → Shared → Prop} {s : Shared} {K : PySem.W.Frag} {x C f : Addr} {ox : Obj} {od : Option Obj} {b tb : Value}
/-- an operator's own method, whatever stands at the right: that side's slot may be filled or not -/
theorem binop_any {op : Operator} {nm : String} {right : Bool} {Q : Value → Shared → Prop} (hi : op.info.2 = nm) (X : K.In s.heap) (I : PySem.W.InstAt s.heap x ox C od) (hb : PySem.W.Looks (model prog w) s.heap (typeOf b) tb) (hne : (Value.ref C == tb) = false) (hc : PySem.W.selfFirst K C = true)
    (hs : PySem.W.findIn K (.ref C) (PySem.dunder nm) = some (some (.ref f))) (hf : PySem.W.isFn K (.ref f) = true) (hr : PySem.W.findIn K (.ref C) (dunderR nm) = some none) (L4 : PySem.W.Looks (model prog w) s.heap (fillsNumberSlot tb nm) right)
    (hR : right = true → PySem.W.subIn K tb (.ref C) = some false ∧ (∃ py, PySem.W.Looks (model prog w) s.heap (numberSlotInPython tb nm) py) ∧ ∃ ro, PySem.W.findIn K tb (dunderR nm) = some ro)
    (h : wpAny (model prog w) A (call (.ref f) [.ref x, b]) (PySem.W.CmpBack Q) E s) : wpAny (model prog w) A (binaryOp op (.ref x) b) Q E s := by
  obtain ⟨cd, rest, hcd, hm⟩ := PySem.W.ksp_first hc
  rcases ei : op.info with ⟨sym, nm'⟩
  rw [ei] at hi
  dsimp only at hi
  subst hi
  have one := PySem.W.ksp_try X I hs hf h
  obtain ⟨hh, gg, d, tt, os⟩ := s
  have L1 : PySem.W.Looks (model prog w) hh (typeOf (.ref x)) (.ref C) := I.type
  have L2 : PySem.W.Looks (model prog w) hh (typeOf b) tb := hb
  have L3 : PySem.W.Looks (model prog w) hh (fillsNumberSlot (.ref C) nm') true := PySem.W.fills_K X hcd hm hs
  have L6 : PySem.W.Looks (model prog w) hh (numberSlotInPython (.ref C) nm') true := PySem.W.ksp_inPy X hs hr (.inl rfl)
  simp only [binaryOp, ei]
  refine wpAny_holding (wpAny_bind ?_)
  unfold binaryOp1
  refine wpAny_bind (L1.at (wpAny_bind (L2.at (wpAny_bind (L3.at ?_)))))
  simp only [hne, Bool.false_eq_true, if_false]
  cases right with
  | false =>
    repeat ((fail_if_success (with_reducible show wpAny _ _ (tryMethod _ _ _) _ _ _)); lk)
    refine wpAny_mono one (fun r s' hr' => ?_) fun _ _ e => e
    obtain ⟨v, rfl, hq⟩ := hr'
    repeat lk
    exact hq
  | true =>
    obtain ⟨sub, ⟨py, L7⟩, ro, hro⟩ := hR rfl
    have L5 : PySem.W.Looks (model prog w) hh (isSubtype tb (.ref C)) false := PySem.W.looks_subIn X sub
    have L8 : PySem.W.Looks (model prog w) hh (typeLookup tb (dunderR nm')) ro := PySem.W.looks_findIn X hro
    cases py with
    | false =>
      repeat ((fail_if_success (with_reducible show wpAny _ _ (tryMethod _ _ _) _ _ _)); lk)
      refine wpAny_mono one (fun r s' hr' => ?_) fun _ _ e => e
      obtain ⟨v, rfl, hq⟩ := hr'
      repeat lk
      exact hq
    | true =>
      repeat ((fail_if_success (with_reducible show wpAny _ _ (tryMethod _ _ _) _ _ _)); lk)
      refine wpAny_mono one (fun r s' hr' => ?_) fun _ _ e => e
      obtain ⟨v, rfl, hq⟩ := hr'
      repeat lk
      exact hq
/-- a class that has neither of the two methods -/
theorem noFill_K {M : Model} {h : Heap} {D : Addr} {cd : ClassData} {nm : String} (X : K.In h) (hcd : PySem.W.clsIn K D = some cd) (hm : cd.mro = [.ref D, .type "object"]) (h1 : PySem.W.findIn K (.ref D) (PySem.dunder nm) = some none) (h2 : PySem.W.findIn K (.ref D) (dunderR nm) = some none)
    (h3 : PySem.W.findIn K (.type "object") (PySem.dunder nm) = some none) (h4 : PySem.W.findIn K (.type "object") (dunderR nm) = some none) : PySem.W.Looks M h (fillsNumberSlot (.ref D) nm) false := by
  intro A Q E s k q
  have Lm : PySem.W.Looks M h (mroOf (.ref D)) cd.mro := (PySem.W.looks_clsIn X hcd).andThen (f := fun cd => pure cd.mro) .now
  have Lm' := Lm.keeps k
  obtain ⟨hh, g, d, tt, os⟩ := s
  have X' : K.In hh := X.keeps k
  have L1 : PySem.W.Looks M hh (typeLookup (.ref D) (PySem.dunder nm)) none := PySem.W.looks_findIn X' h1
  have L2 : PySem.W.Looks M hh (typeLookup (.ref D) (dunderR nm)) none := PySem.W.looks_findIn X' h2
  have L3 : PySem.W.Looks M hh (typeLookup (.type "object") (PySem.dunder nm)) none := PySem.W.looks_findIn X' h3
  have L4 : PySem.W.Looks M hh (typeLookup (.type "object") (dunderR nm)) none := PySem.W.looks_findIn X' h4
  unfold fillsNumberSlot
  refine wpAny_bind (Lm'.at ?_)
  rw [hm, List.anyM_cons]
  refine wpAny_bind ?_
  repeat lk
  exact q
end
/-- what an operator asks of the classes: its own method in C, and the slot of the other one, D -/
structure OpF (K : PySem.W.Frag) (C D : Addr) (nm : String) (f : Addr) : Prop where
  at_ : PySem.W.findIn K (.ref C) (PySem.dunder nm) = some (some (.ref f))
  fn : PySem.W.isFn K (.ref f) = true
  sf : PySem.W.selfFirst K C = true
  ro : PySem.W.findIn K (.ref C) (dunderR nm) = some none
  bi : ∀ T, T ∈ seven → (∃ fo, PySem.W.findIn K (.type T) (PySem.dunder nm) = some fo) ∧ (∃ ro, PySem.W.findIn K (.type T) (dunderR nm) = some ro) ∧ PySem.W.subIn K (.type T) (.ref C) = some false
  ne : C ≠ D
  oth : ∃ right, (∀ (M : Model) (h : Heap), K.In h → PySem.W.Looks M h (fillsNumberSlot (.ref D) nm) right) ∧ (right = true → PySem.W.subIn K (.ref D) (.ref C) = some false ∧ (∀ (M : Model) (h : Heap), K.In h → ∃ py, PySem.W.Looks M h (numberSlotInPython (.ref D) nm) py) ∧ ∃ ro, PySem.W.findIn K (.ref D) (dunderR nm) = some ro)
/-- what may stand at the right -/
def YOk (H : Hp) (C D : Addr) (y : V) : Prop := (∃ T, Th H y T) ∨ (∃ b dy gs, y = .ref b ∧ H b = some (.ins C dy gs)) ∨ ∃ b dy gs, y = .ref b ∧ H b = some (.ins D dy gs)
section
variable {X : Cx} {CX : CXT} {k : Nat} {C D f : Addr} {sp : Sp} {E : XK} {nm : String} {op : Operator}
theorem op_ownAny (h : OpF X.K C D nm f) (hi : op.info.2 = nm) (F : FnR X.prog X.w X.K X.mg X.base CX k f sp) (hr : Room k X.A) (hx : Passes CX X E) :
    OpR X (binaryOp op) (fun x y H Q => ∃ a dx fs, x = .ref a ∧ H a = some (.ins C dx fs) ∧ YOk H C D y ∧ sp [.ref a, y] H Q E) := by
  intro pins s σ H x y v u Q I rx ry q
  obtain ⟨a, dx, fs, rfl, ea, ok, q⟩ := q
  obtain rfl : v = Value.ref a := rx
  obtain ⟨ox, od, J, _⟩ := ins_inst I ea
  have run : wpAny (model X.prog X.w) X.A (call (.ref f) [.ref a, u]) (PySem.W.CmpBack (EP X pins σ Q)) X.xe s := by
    refine wpAny_mono (wpAny_call (run_fnR (us := [.ref a, u]) (vs := [.ref a, y]) F hr hx I (.cons rfl (.cons ry .nil)) q)) (fun r s' z => ?_) fun _ _ z => z
    obtain ⟨w, H', I', rw', q'⟩ := z
    cases r <;> first | exact ⟨w, H', I', rw', q'⟩ | (cases w <;> first | exact nomatch rw' | (obtain ⟨_, z⟩ := rw'; cases z) | cases rw')
  rcases ok with ⟨T, t⟩ | ⟨b, dy, gs, rfl, eb⟩ | ⟨b, dy, gs, rfl, eb⟩
  · obtain ⟨P, kx, p, _⟩ := kit_of I ry (t.ty (K := X.K))
    obtain ⟨⟨fo, e1⟩, ⟨ro, e2⟩, e3⟩ := h.bi T t.seven
    exact binop_any hi I.kIn J (kx.ty _ _ I.kIn p) (Bool.eq_false_iff.mpr fun q => by cases beq_iff_eq.mp q) h.sf h.at_ h.fn h.ro (PySem.W.ksp_fillsT I.kIn e1 e2) (fun _ => ⟨e3, ⟨false, PySem.W.Looks.of_pure rfl⟩, ro, e2⟩) run
  · obtain rfl : u = Value.ref b := ry
    obtain ⟨oy, oe, J', _⟩ := ins_inst I eb
    obtain ⟨m, hF⟩ := I.fr
    have at1 := h.at_
    rw [← hi] at at1
    exact PySem.W.binop_K hF I.ok.mod.kin J J'.type h.sf at1 h.fn run
  · obtain rfl : u = Value.ref b := ry
    obtain ⟨oy, oe, J', _⟩ := ins_inst I eb
    obtain ⟨right, L, R⟩ := h.oth
    exact binop_any hi I.kIn J J'.type (Bool.eq_false_iff.mpr fun q => h.ne (by cases beq_iff_eq.mp q; rfl)) h.sf h.at_ h.fn h.ro (L _ _ I.kIn) (fun e => ⟨(R e).1, (R e).2.1 _ _ I.kIn, (R e).2.2⟩) run
end
end HT
namespace HT
open PySem L2
/-- none of the seven types is one of the class's -/
def NoKit (K : PySem.W.Frag) (C : Addr) : Prop := ∀ T, T ∈ seven → PySem.W.kitOne K (.type T) (.ref C) = some false
def spSInitX (K : PySem.W.Frag) (C : Nat → Addr) : Sp := fun vs H _ E => ∃ (x : Addr) (y : V), vs = [.ref x, y] ∧ BadS K H y ∧ E (.ref (C 0)) none H
def spZInitX (K : PySem.W.Frag) (C : Nat → Addr) : Sp := fun vs H _ E => ∃ (x : Addr) (y : V), vs = [.ref x, y] ∧ BadL K H y ∧ E (.ref (C 1)) none H
def spListX (C : Nat → Addr) : Sp := fun vs H _ E => ∃ (y : V) (T : String), vs = [y] ∧ Th H y T ∧ E (.ref (C 1)) none H
def spSInitU (K : PySem.W.Frag) (D : Addr) (C : Nat → Addr) : Sp := fun vs H Q E => spSInit D vs H Q E ∨ spSInitX K C vs H Q E
def spZInitU (K : PySem.W.Frag) (Z : Addr) (C : Nat → Addr) : Sp := fun vs H Q E => spZInit Z vs H Q E ∨ spZInitX K C vs H Q E
def spListU (D Z : Addr) (C : Nat → Addr) : Sp := fun vs H Q E => spListed D Z vs H Q E ∨ spListX C vs H Q E
theorem BadL.same {K : PySem.W.Frag} {H H' : Hp} {x : V} (b : BadL K H x) (e : Same H H') : BadL K H' x := by
  cases b with
  | kind t h => exact .kind (t.same e) h
  | len hl h => exact .len (e _ _ hl) h
  | item hl h1 h2 hi bad good => exact .item (e _ _ hl) h1 h2 hi (bad.same e) fun j z a b => let ⟨p, o, s, m, x1, x2, x3⟩ := good j z a b; ⟨p, o, s, m, x1, e _ _ x2, x3⟩
/-- what a refused making asks -/
theorem make_bad {K : PySem.W.Frag} {Z : Addr} {C : Nat → Addr} {H : Hp} {y : V} {Q : VK} {E : XK} (b : BadL K H y) (q : ∀ H', Same H H' → E (.ref (C 1)) none H') :
    ∀ x dx, H x = none → H dx = none → dx ≠ x → spZInitU K Z C (.ref x :: ([y] ++ [])) (upd (upd H dx (.own x)) x (.ins Z dx [])) (fun v H2 => v = .non ∧ Q (.ref x) H2) E := fun x dx hx hdx ne => by
  have w1 : Same H (upd (upd H dx (.own x)) x (.ins Z dx [])) := fun b u z => (upd_ne (ne_of_none z hx)).trans ((upd_ne (ne_of_none z hdx)).trans z)
  exact .inr ⟨x, y, rfl, b.same w1, q _ w1⟩
theorem make_good {K : PySem.W.Frag} {Z : Addr} {C : Nat → Addr} {H : Hp} {l : Addr} {xs : List V} {ss : List Sd} {Q : VK} {E : XK} (SS : SidesAt H l xs ss) (q : ∀ x H', H x = none → Same H H' → SidesI Z H' x ss → Q (.ref x) H') :
    ∀ x dx, H x = none → H dx = none → dx ≠ x → spZInitU K Z C (.ref x :: ([.ref l] ++ [])) (upd (upd H dx (.own x)) x (.ins Z dx [])) (fun v H2 => v = .non ∧ Q (.ref x) H2) E := fun x dx hx hdx ne => .inl (make_sides SS q x dx hx hdx ne)
section
variable {P : Program} {w : World} {K : PySem.W.Frag} {mg : Str → Option Value} {base : Heap} {D Z fC fL fM p1 g1 p2 g2 Bx : Addr} {dC dL dM d1 d2 : FuncData} {C : Nat → Addr}
theorem ok_S_init_x {f : Addr} {fd : FuncData} (F : Fun K "__init__" "Side.__init__" s_S_init f fd) (Ck : CalX P w K mg base "check_side" 3 ["side"] (spSideX K C) fC dC) : FnOk P w K mg base (L2.CX P w) 5 f fd ["self", "data"] (spSInitX K C) := by
  refine F.okAny sc_S_init (fun vs H Q E h => ?_) (fun cdv A outer s0 H vs Q E hr h => ?_)
  · obtain ⟨x, y, rfl, _⟩ := h
    rfl
  · obtain ⟨x, y, rfl, b, q⟩ := h
    refine ⟨_, pss_cons (ps_expr (pcx Ck hr (by decide) (by rfl) (takes_of rfl rfl rfl rfl) (pa_cons (pv 1) pa_nil))) (pss_cons ps_never (pss_one ps_never)), ?_⟩
    walk_at "rd"
    exact .inr ⟨b, q⟩
theorem ok_Z_init_x {f : Addr} {fd : FuncData} (F : Fun K "__init__" "Sides.__init__" s_Z_init f fd) (Ck : CalX P w K mg base "check_sides" 5 ["sides"] (spSidesX K C) fC dC) : FnOk P w K mg base (L2.CX P w) 6 f fd ["self", "sides"] (spZInitX K C) := by
  refine F.okAny sc_Z_init (fun vs H Q E h => ?_) (fun cdv A outer s0 H vs Q E hr h => ?_)
  · obtain ⟨x, y, rfl, _⟩ := h
    rfl
  · obtain ⟨x, y, rfl, b, q⟩ := h
    refine ⟨_, pss_cons (ps_expr (pcx Ck hr (by decide) (by rfl) (takes_of rfl rfl rfl rfl) (pa_cons (pv 1) pa_nil))) (pss_cons ps_never (pss_one ps_never)), ?_⟩
    walk_at "rd"
    exact .inr ⟨b, q⟩
theorem ok_listed_x {f : Addr} {fd : FuncData} (F : Fun K "_listed" "_listed" s_listed f fd) (R : Er K mg C Bx) (isi : mg "isinstance" = none) (gS : mg "Side" = some (.ref D)) (gZ : mg "Sides" = some (.ref Z)) (kS : NoKit K D) (kZ : NoKit K Z) : FnOk P w K mg base (L2.CX P w) 3 f fd ["thing"] (spListX C) := by
  refine F.okAny sc_listed (fun vs H Q E h => ?_) (fun cdv A outer s0 H vs Q E hr h => ?_)
  · obtain ⟨y, T, rfl, _⟩ := h
    rfl
  · obtain ⟨y, T, rfl, t, q⟩ := h
    refine ⟨_, pss_cons (ps_if (pt_val (pe_callB call_isi (by rfl) isi (by decide +kernel) (pa_cons (pv 0) (pa_cons (pe_glob (v := .ref D) (by rfl) gS rfl) pa_nil)))) (pss_one ps_never) pss_nil)
      (pss_cons (ps_if (pt_val (pe_callB call_isi (by rfl) isi (by decide +kernel) (pa_cons (pv 0) (pa_cons (pe_glob (v := .ref Z) (by rfl) gZ rfl) pa_nil)))) (pss_one ps_never) pss_nil)
      (pss_one (ps_raise rfl (takes_of rfl rfl rfl rfl) (pmk_own PySem.F.excBase_ValueError (R.ex 1 (by decide)) R.g1 (R.kp 1 (by decide)) (raises_own (R.sb 1 (by decide)) (R.ty 1 (by decide))) (by rfl))))), ?_⟩
    walk_at "rd"
    refine ⟨y, .ref D, .type T, .ref D, false, rfl, .own _, t.ty, kS T t.seven, ?_⟩
    walk_at "rd"
    refine ⟨y, .ref Z, .type T, .ref Z, false, rfl, .own _, t.ty, kZ T t.seven, ?_⟩
    walk_at "rd"
    exact q
end
end HT
namespace HT
open PySem L2
/-- x not in a list of data -/
def rNotInL (K : PySem.W.Frag) : R2 := fun x y H Q => ∃ d ds, Dp K H x d ∧ Dp K H y (.list ds) ∧ SeqAt.shaped d = true ∧ PyData.canLayAll0 ds = true ∧ PyData.depthAll ds ≤ 60 ∧ Q (.bl (!ds.any fun z => PyData.eqv z d)) H
theorem op_notInL {X : Cx} (hu : X.A.units + 64 < cLine) : OpR X (compareOp .NotIn) (rNotInL X.K) := by
  intro pins sh st H x y v u Q iv rx ry h
  obtain ⟨d, ds, hd, he, sd, se, sz, q⟩ := h
  obtain ⟨as, r1⟩ := Dp.reads iv d x v hd rx
  obtain ⟨bs, r2⟩ := Dp.reads iv (.list ds) y u he ry
  refine SeqAt.notIn_list_reads r2 r1 se (SeqAt.canLay_of_shaped sd) ?_ ⟨.bl _, H, iv, rfl, q⟩
  have : min (PyData.depthAll ds) d.depth ≤ PyData.depthAll ds := Nat.min_le_left _ _
  omega
/-- the form of a side, as data -/
def formE (d : Sd) : PyData := sideD (formO d.o d.s (firstM d.s d.m)) d.s (firstM d.s d.m)
/-- those whose forms are not among those of the others -/
def subF (ss ts : List Sd) : List Sd := ss.filter fun d => !(ts.map formE).any fun z => PyData.eqv z (formE d)
theorem ThingI.same {D Z : Addr} {H H' : Hp} {x : Addr} {ss : List Sd} (h : ThingI D Z H x ss) (e : Same H H') : ThingI D Z H' x ss := by
  rcases h with ⟨o, s, m, a, b⟩ | b
  · exact .inl ⟨o, s, m, a, b.same e⟩
  · exact .inr (b.same e)
theorem ThingI.len {D Z : Addr} {H : Hp} {x : Addr} {ss : List Sd} (h : ThingI D Z H x ss) : 1 ≤ ss.length ∧ ss.length ≤ 4 := by
  rcases h with ⟨o, s, m, rfl, _⟩ | ⟨dx, l, fm, xs, _, S⟩
  · exact ⟨Nat.le_refl _, by show 1 ≤ 4; decide⟩
  · exact ⟨S.l1, S.l4⟩
def spSOrU (D Z : Addr) (C : Nat → Addr) : Sp := fun vs H Q E => ∃ (x : Addr) (y : V) (o s : Int) (m : Str), vs = [.ref x, y] ∧ SideI D H x o s m ∧
  ((∃ (b : Addr) (ts : List Sd), y = .ref b ∧ ThingI D Z H b ts ∧ (ts.length ≤ 3 → ∀ z H', Same H H' → SidesI Z H' z (⟨o, s, m⟩ :: ts) → Q (.ref z) H') ∧ (¬ ts.length ≤ 3 → ∀ H', Same H H' → E (.ref (C 1)) none H')) ∨ ∃ T, Th H y T ∧ ∀ H', Same H H' → E (.ref (C 1)) none H')
def spZOrU (D Z : Addr) (C : Nat → Addr) : Sp := fun vs H Q E => ∃ (x : Addr) (y : V) (ss : List Sd), vs = [.ref x, y] ∧ SidesI Z H x ss ∧
  ((∃ (b : Addr) (ts : List Sd), y = .ref b ∧ ThingI D Z H b ts ∧ (ss.length + ts.length ≤ 4 → ∀ z H', Same H H' → SidesI Z H' z (ss ++ ts) → Q (.ref z) H') ∧ (¬ ss.length + ts.length ≤ 4 → ∀ H', Same H H' → E (.ref (C 1)) none H')) ∨ ∃ T, Th H y T ∧ ∀ H', Same H H' → E (.ref (C 1)) none H')
def spZSubU (D Z : Addr) (C : Nat → Addr) : Sp := fun vs H Q E => ∃ (x : Addr) (y : V) (ss : List Sd), vs = [.ref x, y] ∧ SidesI Z H x ss ∧
  ((∃ (b : Addr) (ts : List Sd), y = .ref b ∧ ThingI D Z H b ts ∧ (subF ss ts ≠ [] → ∀ z H', Same H H' → SidesI Z H' z (subF ss ts) → Q (.ref z) H') ∧ (subF ss ts = [] → ∀ H', Same H H' → E (.ref (C 1)) none H')) ∨ ∃ T, Th H y T ∧ ∀ H', Same H H' → E (.ref (C 1)) none H')
def spZCallX (Z : Addr) (C : Nat → Addr) : Sp := fun vs H _ E => ∃ (x : Addr) (y : V) (ss : List Sd), vs = [.ref x, y] ∧ SidesI Z H x ss ∧ ((∃ n, Th H y n ∧ isI n = false ∧ E (.ref (C 3)) none H) ∨ (∃ v : Int, y = .int v ∧ ManyP ss ∧ ∀ H', Same H H' → E (.ref (C 2)) none H'))
def spZGetX (Z : Addr) (C : Nat → Addr) : Sp := fun vs H Q E => ∃ (x : Addr) (y : V) (ss : List Sd), vs = [.ref x, y] ∧ SidesI Z H x ss ∧ ((∃ n, Th H y n ∧ isI n = false ∧ E (.ref (C 3)) none H) ∨ (∃ v : Int, y = .int v ∧ (-2 ^ 500 < v ∧ v < 2 ^ 500) ∧ ∀ n, RunsTo (ss.map (movD (-v))) n →
    (TooE (comN ss) (ss.map (movD (-v))) n → ∀ H', Same H H' → E (.ref (C 2)) none H') ∧
    (¬ TooE (comN ss) (ss.map (movD (-v))) n → ∀ (p : Addr) (H' : Hp), H p = none → Same H H' → H' p = some (.tup [oI (loE v (comN ss) (runN (ss.map (movD (-v))) n)), oI (hiE v (comN ss) (runN (ss.map (movD (-v))) n))]) → Q (.ref p) H')))
def spZLeadX (Z : Addr) (C : Nat → Addr) : Sp := fun vs H _ E => ∃ (x : Addr) (y z : V) (ss : List Sd), vs = [.ref x, y, z] ∧ SidesI Z H x ss ∧ ((∃ n, Th H y n ∧ isI n = false ∧ E (.ref (C 3)) none H) ∨ (∃ n, ∃ s : Int, y = .int s ∧ Th H z n ∧ isI n = false ∧ E (.ref (C 3)) none H) ∨
  (∃ s v : Int, y = .int s ∧ z = .int v ∧ (-2 ^ 500 < v ∧ v < 2 ^ 500) ∧ (∀ n, RunsTo (ss.map (movD (-v))) n → (∀ i, i ≤ n → i ≤ 1000 → ¬ inR v (ss.map (movD (-v))) s i) ∧
    (TooE (comN ss) (ss.map (movD (-v))) n ∨ holdsF (loE v (comN ss) (runN (ss.map (movD (-v))) n)) (hiE v (comN ss) (runN (ss.map (movD (-v))) n)) s = true)) ∧ ∀ H', Same H H' → E (.ref (C 2)) none H'))
section
variable {P : Program} {w : World} {K : PySem.W.Frag} {mg : Str → Option Value} {base : Heap} {D Z fC fL fM fi p1 g1 p2 g2 Bx : Addr} {dC dL dM di d1 d2 : FuncData} {C : Nat → Addr}
theorem ok_Z_call_x {f : Addr} {fd : FuncData} (F : Fun K "__call__" "Sides.__call__" s_Z_call f fd) (c : Cls K Z) (n1 : NoAttr K Z "_sides") (Re : CalX P w K mg base "reach" 108 ["sides", "value"] (spReachX K C) fC dC) : FnOk P w K mg base (L2.CX P w) 109 f fd ["self", "value"] (spZCallX Z C) := by
  refine F.okAny sc_Z_call (fun vs H Q E h => ?_) (fun cdv A outer s0 H vs Q E hr h => ?_)
  · obtain ⟨x, y, ss, rfl, _⟩ := h
    rfl
  · obtain ⟨x, y, ss, rfl, ⟨dx, l, fm, xs, hx, SS⟩, k⟩ := h
    refine ⟨_, pss_one (ps_ret (pcx Re hr (by decide) (by rfl) (takes_of rfl rfl rfl rfl) (pa_cons (pe_fld (pv 0) rfl) (pa_cons (pv 1) pa_nil)))), ?_⟩
    walk_at "rd"
    refine ⟨x, Z, dx, _, .ref l, rfl, hx, c, n1, rfl, ?_⟩
    walk_at "rd"
    refine ⟨.ref l, y, rfl, .inr ?_⟩
    rcases k with ⟨n, t, ni, q⟩ | ⟨v, rfl, m, q⟩
    · exact .inl ⟨l, xs, n, rfl, good_of SS, t, ni, q⟩
    · exact .inr ⟨l, xs, ss, v, rfl, SS, rfl, m, q⟩
theorem ok_Z_get_x {f : Addr} {fd : FuncData} (F : Fun K "__getitem__" "Sides.__getitem__" s_Z_get f fd) (c : Cls K Z) (n1 : NoAttr K Z "_sides") (Be : CalX P w K mg base "before" 6 ["sides", "value"] (spBefX K C) fC dC) : FnOk P w K mg base (L2.CX P w) 7 f fd ["self", "value"] (spZGetX Z C) := by
  refine F.okAny sc_Z_get (fun vs H Q E h => ?_) (fun cdv A outer s0 H vs Q E hr h => ?_)
  · obtain ⟨x, y, ss, rfl, _⟩ := h
    rfl
  · obtain ⟨x, y, ss, rfl, ⟨dx, l, fm, xs, hx, SS⟩, k⟩ := h
    refine ⟨_, pss_one (ps_ret (pcx Be hr (by decide) (by rfl) (takes_of rfl rfl rfl rfl) (pa_cons (pe_fld (pv 0) rfl) (pa_cons (pv 1) pa_nil)))), ?_⟩
    walk_at "rd"
    refine ⟨x, Z, dx, _, .ref l, rfl, hx, c, n1, rfl, ?_⟩
    walk_at "rd"
    refine ⟨.ref l, y, rfl, .inr ?_⟩
    rcases k with ⟨n, t, ni, q⟩ | ⟨v, rfl, vb, q⟩
    · exact .inl ⟨l, xs, n, rfl, good_of SS, t, ni, q⟩
    · exact .inr ⟨l, xs, ss, v, rfl, SS, rfl, vb, q⟩
theorem ok_Z_lead_x {f : Addr} {fd : FuncData} (F : Fun K "lead_to" "Sides.lead_to" s_Z_lead f fd) (c : Cls K Z) (n1 : NoAttr K Z "_sides") (Ro : CalX P w K mg base "route" 6 ["sides", "start", "value"] (spRouX K C) fC dC) : FnOk P w K mg base (L2.CX P w) 7 f fd ["self", "start", "value"] (spZLeadX Z C) := by
  refine F.okAny sc_Z_lead (fun vs H Q E h => ?_) (fun cdv A outer s0 H vs Q E hr h => ?_)
  · obtain ⟨x, y, z, ss, rfl, _⟩ := h
    rfl
  · obtain ⟨x, y, z, ss, rfl, ⟨dx, l, fm, xs, hx, SS⟩, k⟩ := h
    refine ⟨_, pss_one (ps_ret (pcx Ro hr (by decide) (by rfl) (takes_of rfl rfl rfl rfl) (pa_cons (pe_fld (pv 0) rfl) (pa_cons (pv 1) (pa_cons (pv 2) pa_nil))))), ?_⟩
    walk_at "rd"
    refine ⟨x, Z, dx, _, .ref l, rfl, hx, c, n1, rfl, ?_⟩
    walk_at "rd"
    refine ⟨.ref l, y, z, rfl, .inr ?_⟩
    rcases k with ⟨n, t, ni, q⟩ | ⟨n, s, rfl, t, ni, q⟩ | ⟨s, v, rfl, rfl, vb, k, q⟩
    · exact .inl ⟨l, xs, n, rfl, good_of SS, t, ni, q⟩
    · exact .inr (.inl ⟨l, xs, n, s, rfl, good_of SS, rfl, t, ni, q⟩)
    · exact .inr (.inr ⟨l, xs, ss, s, v, rfl, SS, rfl, rfl, vb, k, q⟩)
end
end HT
namespace HT
open PySem L2
section
variable {P : Program} {w : World} {K : PySem.W.Frag} {mg : Str → Option Value} {base : Heap} {D Z fC fL fM fi p1 g1 p2 g2 Bx : Addr} {dC dL dM di d1 d2 : FuncData} {C : Nat → Addr}
/-- two lists of sides, one behind the other -/
theorem cat_sides {H : Hp} {l l' n : Addr} {xs ys : List V} {ss ts : List Sd} (S : SidesAt H l xs ss) (T : SidesAt H l' ys ts) (hn : H n = some (.lst (xs ++ ys))) : (ss.length + ts.length ≤ 4 → SidesAt H n (xs ++ ys) (ss ++ ts)) ∧ (¬ ss.length + ts.length ≤ 4 → BadL K H (.ref n)) :=
  ⟨fun few => S.cat T hn few, fun many => .len hn fun z => many (by have := z.2; rw [List.length_append, S.len, T.len] at this; exact this)⟩
theorem ok_S_or_u {f : Addr} {fd : FuncData} (F : Fun K "__or__" "Side.__or__" s_S_or f fd) (c : Cls K D) (n1 : NoAttr K D "_data") (gZ : mg "Sides" = some (.ref Z)) (M : Mk K Z fi) (Ini : FnOk P w K mg base (L2.CX P w) 6 fi di ["self", "sides"] (spZInitU K Z C)) (bi : Binds K di ["self", "sides"] [])
    (Li : CalX P w K mg base "_listed" 3 ["thing"] (spListU D Z C) fL dL) : FnOk P w K mg base (L2.CX P w) 8 f fd ["self", "other"] (spSOrU D Z C) := by
  refine F.okAny sc_S_or (fun vs H Q E h => ?_) (fun cdv A outer s0 H vs Q E hr h => ?_)
  · obtain ⟨x, y, o, s, m, rfl, _⟩ := h
    rfl
  · obtain ⟨x, y, o, s, m, rfl, ⟨dx, p, q, hx, hp, hq, S⟩, k⟩ := h
    refine ⟨_, pss_one (ps_ret (pe_make M Ini (hr.mono (by decide)) (by rfl) gZ bi .nil (L2.passes_call (takes_of rfl rfl rfl rfl) (fun _ _ _ _ h => h)) (pa_cons (pe_op op_cat (pe_lst (pa_cons (pe_fld (pv 0) rfl) pa_nil)) (pcx Li hr (by decide) (by rfl) (takes_of rfl rfl rfl rfl) (pa_cons (pv 1) pa_nil))) pa_nil))), ?_⟩
    walk_at "rd"
    refine ⟨x, D, dx, _, .ref p, rfl, hx, c, n1, rfl, ?_⟩
    walk_at "rd"
    refine ⟨(by show 1 ≤ sizeLine; decide), fun n nn => ?_⟩
    have w1 : Same H (upd H n (.lst [.ref p])) := fun b u z => (upd_ne (ne_of_none z nn)).trans z
    have S1 : SidesAt (upd H n (.lst [.ref p])) n [.ref p] [⟨o, s, m⟩] := sidesAt1 upd_same (w1 _ _ hp) S
    generalize upd H n (.lst [.ref p]) = H1 at w1 S1 ⊢
    walk_at "rd"
    rcases k with ⟨b, ts, rfl, th, good, bad⟩ | ⟨T, t, q⟩
    · refine .inl ⟨b, ts, rfl, th.same w1, fun l xs H2 S2 s2 => ?_⟩
      have S12 := S1.same s2
      have tl := th.len
      refine ⟨n, l, _, _, rfl, rfl, S12.hl, S2.hl, (by rw [S2.len]; show 1 + ts.length ≤ sizeLine; exact Nat.le_trans (by omega : _ ≤ 5) (by decide)), fun n3 nn3 => ?_⟩
      have w3 : Same H2 (upd H2 n3 (.lst ([.ref p] ++ xs))) := fun b u z => (upd_ne (ne_of_none z nn3)).trans z
      have S3 := cat_sides (K := K) (S12.same w3) (S2.same w3) upd_same
      generalize upd H2 n3 (.lst ([.ref p] ++ xs)) = H3 at w3 S3 ⊢
      walk_at "rd"
      by_cases few : ts.length ≤ 3
      · exact make_good (S3.1 (by show 1 + ts.length ≤ 4; omega)) fun z H4 hz s4 I4 => good few z H4 (w1.trans (s2.trans (w3.trans s4))) I4
      · exact make_bad (S3.2 (by show ¬ 1 + ts.length ≤ 4; omega)) fun H4 s4 => bad few H4 (w1.trans (s2.trans (w3.trans s4)))
    · exact .inr ⟨y, T, rfl, t.same w1, q H1 w1⟩
theorem ok_Z_or_u {f : Addr} {fd : FuncData} (F : Fun K "__or__" "Sides.__or__" s_Z_or f fd) (c : Cls K Z) (n1 : NoAttr K Z "_sides") (gZ : mg "Sides" = some (.ref Z)) (M : Mk K Z fi) (Ini : FnOk P w K mg base (L2.CX P w) 6 fi di ["self", "sides"] (spZInitU K Z C)) (bi : Binds K di ["self", "sides"] [])
    (Li : CalX P w K mg base "_listed" 3 ["thing"] (spListU D Z C) fL dL) : FnOk P w K mg base (L2.CX P w) 8 f fd ["self", "other"] (spZOrU D Z C) := by
  refine F.okAny sc_Z_or (fun vs H Q E h => ?_) (fun cdv A outer s0 H vs Q E hr h => ?_)
  · obtain ⟨x, y, ss, rfl, _⟩ := h
    rfl
  · obtain ⟨x, y, ss, rfl, ⟨dx, n, fm, ys, hx, S1⟩, k⟩ := h
    refine ⟨_, pss_one (ps_ret (pe_make M Ini (hr.mono (by decide)) (by rfl) gZ bi .nil (L2.passes_call (takes_of rfl rfl rfl rfl) (fun _ _ _ _ h => h)) (pa_cons (pe_op op_cat (pe_fld (pv 0) rfl) (pcx Li hr (by decide) (by rfl) (takes_of rfl rfl rfl rfl) (pa_cons (pv 1) pa_nil))) pa_nil))), ?_⟩
    walk_at "rd"
    refine ⟨x, Z, dx, _, .ref n, rfl, hx, c, n1, rfl, ?_⟩
    walk_at "rd"
    rcases k with ⟨b, ts, rfl, th, good, bad⟩ | ⟨T, t, q⟩
    · refine .inl ⟨b, ts, rfl, th, fun l xs H2 S2 s2 => ?_⟩
      have S12 := S1.same s2
      have tl := th.len
      have sl := S1.l4
      refine ⟨n, l, _, _, rfl, rfl, S12.hl, S2.hl, (by rw [S2.len, S12.len]; exact Nat.le_trans (by omega : _ ≤ 8) (by decide)), fun n3 nn3 => ?_⟩
      have w3 : Same H2 (upd H2 n3 (.lst (ys ++ xs))) := fun b u z => (upd_ne (ne_of_none z nn3)).trans z
      have S3 := cat_sides (K := K) (S12.same w3) (S2.same w3) upd_same
      generalize upd H2 n3 (.lst (ys ++ xs)) = H3 at w3 S3 ⊢
      walk_at "rd"
      by_cases few : ss.length + ts.length ≤ 4
      · exact make_good (S3.1 few) fun z H4 hz s4 I4 => good few z H4 (s2.trans (w3.trans s4)) I4
      · exact make_bad (S3.2 few) fun H4 s4 => bad few H4 (s2.trans (w3.trans s4))
    · exact .inr ⟨y, T, rfl, t, q H (Same.refl H)⟩
theorem dpForms {H : Hp} : ∀ (ps : List Addr) (ts : List Sd), ps.length = ts.length → (∀ (j : Nat) (p : Addr) (d : Sd), ps[j]? = some p → ts[j]? = some d → H p = some (sideV (formO d.o d.s (firstM d.s d.m)) d.s (firstM d.s d.m))) → DpAll K H (ps.map V.ref) (ts.map formE)
  | [], [], _, _ => .nil
  | p :: ps, d :: ts, e, h => .cons (dpSide (h 0 p d rfl rfl)) (dpForms ps ts (by simpa using e) fun j q c a b => h (j + 1) q c a b)
theorem lay_forms : ∀ ts : List Sd, (∀ d ∈ ts, SideP d.o d.s d.m) → PyData.canLayAll0 (ts.map formE) = true ∧ PyData.depthAll (ts.map formE) ≤ 2
  | [], _ => ⟨rfl, Nat.zero_le _⟩
  | d :: ts, h => by
    have z := lay_forms ts fun e he => h e (List.mem_cons_of_mem _ he)
    have y := SeqAt.canLay_of_shaped (shaped_side (o := formO d.o d.s (firstM d.s d.m)) (s := d.s) (side_form (h d List.mem_cons_self)).md)
    refine ⟨?_, ?_⟩
    · show (PyData.canLay0 (formE d) && PyData.canLayAll0 (ts.map formE)) = true
      rw [z.1]
      show (PyData.canLay0 (sideD _ _ _) && true) = true
      rw [y]
      rfl
    · show max (PyData.depth (formE d)) (PyData.depthAll (ts.map formE)) ≤ 2
      refine Nat.max_le.mpr ⟨?_, z.2⟩
      unfold formE sideD
      simp [PyData.depth, PyData.depthAll]
theorem sub_snoc {ss ts : List Sd} {i : Nat} {d : Sd} (h : ss[i]? = some d) : subF (ss.take (i + 1)) ts = subF (ss.take i) ts ++ (if (!(ts.map formE).any fun z => PyData.eqv z (formE d)) = true then [d] else []) := by
  unfold subF
  rw [List.take_succ, h, List.filter_append]
  congr 1
  simp only [Option.toList, List.filter_cons, List.filter_nil]
theorem ok_Z_sub_u {f : Addr} {fd : FuncData} (F : Fun K "__sub__" "Sides.__sub__" s_Z_sub f fd) (c : Cls K Z) (n1 : NoAttr K Z "_sides") (gZ : mg "Sides" = some (.ref Z)) (M : Mk K Z fi) (Ini : FnOk P w K mg base (L2.CX P w) 6 fi di ["self", "sides"] (spZInitU K Z C)) (bi : Binds K di ["self", "sides"] [])
    (Li : CalX P w K mg base "_listed" 3 ["thing"] (spListU D Z C) fL dL) (Fm : Cal P w K mg base "form" 4 ["side"] spForm fM dM) : FnOk P w K mg base (L2.CX P w) 8 f fd ["self", "other"] (spZSubU D Z C) := by
  refine F.okAny sc_Z_sub (fun vs H Q E h => ?_) (fun cdv A outer s0 H vs Q E hr h => ?_)
  · obtain ⟨x, y, ss, rfl, _⟩ := h
    rfl
  · obtain ⟨x, y, ss, rfl, ⟨dx, n, fm, ys, hx, S1⟩, k⟩ := h
    have nd := sc_Z_sub.nd
    refine ⟨_, pss_cons (ps_set (i := 3) nd rfl (Or.inr rfl) (pe_lc (own := [("side", 2)]) (g := gName 2) (tt := tYes) rfl nd (pi_list (pcx Li hr (by decide) (by rfl) (takes_of rfl rfl rfl rfl) (pa_cons (pv 1) pa_nil))) (blkOk_by (N := ["self", "other", "side", "forms"]) (sc := defScope s_Z_sub) (by decide +kernel)) (fun _ _ _ _ _ => pg_name (i := 2) nd rfl (Or.inl rfl)) (fun _ _ _ _ _ => pts_nil) (fun _ _ _ _ _ => pcl Fm hr (by decide) (by rfl) (pa_cons (pv 2) pa_nil))))
      (pss_one (ps_ret (pe_make M Ini (hr.mono (by decide)) (by rfl) gZ bi .nil (L2.passes_call (takes_of rfl rfl rfl rfl) (fun _ _ _ _ h => h)) (pa_cons (pe_lc (own := [("side", 2)]) (g := gName 2) rfl nd (pi_list (pe_fld (pv 0) rfl)) (blkOk_by (N := ["self", "other", "side", "forms"]) (sc := defScope s_Z_sub) (by decide +kernel)) (fun _ _ _ _ _ => pg_name (i := 2) nd rfl (Or.inl rfl)) (fun _ _ _ _ _ => (pts_one (pt_cmpR (show OpR _ _ (rNotInL K) from op_notInL hr.units) (pcl Fm hr (by decide) (by rfl) (pa_cons (pv 2) pa_nil)) (pv 3) (by rfl)))) (fun _ _ _ _ _ => (pv 2))) pa_nil)))), ?_⟩
    walk_at "rd"
    rcases k with ⟨b, ts, rfl, th, good, bad⟩ | ⟨T, t, q⟩
    rotate_left
    · exact .inr ⟨y, T, rfl, t, q H (Same.refl H)⟩
    refine .inl ⟨b, ts, rfl, th, fun l xs H2 S2 s2 => ?_⟩
    have S12 := S1.same s2
    refine ⟨l, rfl, ⟨_, SqL.of S2.hl⟩, fun L nL => ?_⟩
    refine lc_list (K := K) (a := l) (xs := xs) (fun i H3 => ∃ ps : List Addr, H3 L = some (.lst (ps.map V.ref)) ∧ ps.length = i ∧ i ≤ ts.length ∧ Same H2 H3 ∧ ∀ (j : Nat) (p : Addr) (d : Sd), ps[j]? = some p → ts[j]? = some d → H3 p = some (sideV (formO d.o d.s (firstM d.s d.m)) d.s (firstM d.s d.m)))
      ⟨[], upd_same, rfl, Nat.zero_le _, fun b u z => (upd_ne (ne_of_none z nL)).trans z, fun j p d z => by simp at z⟩ (fun _ _ _ ⟨_, _, _, _, sm, _⟩ => SqL.of (sm _ _ S2.hl)) ?_ ?_
    · rintro i y H3 hy ⟨ps, hD, lp, li, sm, at_⟩
      obtain ⟨d, p, ed, rfl, hp, sp⟩ := S2.item hy
      have il : i < ts.length := (List.getElem?_eq_some_iff.mp ed).1
      refine ⟨rfl, ?_⟩
      walk_at "rd"
      refine ⟨p, d.o, d.s, d.m, rfl, sm _ _ hp, sp, fun b H4 s34 nb hb => ?_⟩
      have hD4 := s34 _ _ hD
      have S2l4 := S2.l4
      walk_at "rd"
      refine ⟨_, hD4, (by rw [List.length_map, lp]; exact Nat.lt_of_lt_of_le il (Nat.le_trans S2l4 (by decide))), ps ++ [b], by rw [List.map_append]; exact upd_same, by rw [List.length_append, lp]; rfl, il, fun c u y => (upd_ne (ne_of_none y nL)).trans (s34 _ _ (sm _ _ y)), fun j q c ej ec => ?_⟩
      by_cases y : j < ps.length
      · rw [List.getElem?_append_left y] at ej
        have hj := s34 _ _ (at_ j q c ej ec)
        exact (upd_ne (ne_of hj hD4 (by intro y; cases y))).trans hj
      · rw [List.getElem?_append_right (by omega)] at ej
        have j0 : j - ps.length = 0 := by
          have := (List.getElem?_eq_some_iff.mp ej).1
          simp at this
          omega
        rw [j0] at ej
        cases ej
        have ej2 : j = i := by omega
        rw [ej2, ed] at ec
        cases ec
        exact (upd_ne (ne_of hb hD4 (by intro y; cases y))).trans hb
    rintro H3 ⟨ps, hD, lp, _, sm, at_⟩
    rw [S2.len] at lp
    have S3 := S12.same sm
    obtain ⟨lay, dep⟩ := lay_forms ts S2.side
    have sall : Same H H3 := s2.trans sm
    have dp3 : Dp K H3 (.ref L) (.list (ts.map formE)) := .lst (SqL.of hD) (dpForms ps ts lp at_)
    walk_at "rd"
    refine ⟨x, Z, dx, _, .ref n, rfl, sall _ _ hx, c, n1, rfl, ?_⟩
    refine ⟨n, rfl, ⟨_, SqL.of S3.hl⟩, fun R nR => ?_⟩
    refine lc_list (K := K) (a := n) (xs := ys) (fun i H4 => ∃ zs : List V, H4 R = some (.lst zs) ∧ zs.length = (subF (ss.take i) ts).length ∧ i ≤ ss.length ∧ Same H3 H4 ∧ (∀ (j : Nat) (d : Sd), (subF (ss.take i) ts)[j]? = some d → ∃ p : Addr, zs[j]? = some (V.ref p) ∧ H4 p = some (sideV d.o d.s d.m) ∧ SideP d.o d.s d.m))
      ⟨[], upd_same, rfl, Nat.zero_le _, fun b u z => (upd_ne (ne_of_none z nR)).trans z, fun j d z => by simp [subF] at z⟩ (fun _ _ _ ⟨_, _, _, _, sm, _⟩ => SqL.of (sm _ _ S3.hl)) ?_ ?_
    · rintro i y H4 hy ⟨zs, hR, lz, li, s4, az⟩
      obtain ⟨d, p, ed, rfl, hp, sp⟩ := S3.item hy
      have il : i < ss.length := (List.getElem?_eq_some_iff.mp ed).1
      have sn := sub_snoc (ts := ts) ed
      refine ⟨rfl, ?_⟩
      walk_at "rd"
      refine ⟨p, d.o, d.s, d.m, rfl, s4 _ _ hp, sp, fun b H5 s5 nb hb => ?_⟩
      walk_at "rd"
      have dp5 : Dp K H5 (.ref L) (.list (ts.map formE)) := .lst (SqL.of (s5 _ _ (s4 _ _ hD))) (dpForms ps ts lp fun j q c a b => s5 _ _ (s4 _ _ (at_ j q c a b)))
      refine ⟨formE d, ts.map formE, dpSide hb, dp5, shaped_side (side_form sp).md, lay, Nat.le_trans dep (by decide), ?_⟩
      refine ⟨_, rfl, ?_⟩
      have hR5 := s5 _ _ hR
      have rz : ∀ {c : Addr} {u : HO}, H3 c = some u → c ≠ R := fun {c u} y => ne_of_none y nR
      refine ite2 (fun z => ?_) (fun z => ?_)
      · rw [z, if_pos rfl] at sn
        walk_at "rd"
        refine ⟨_, hR5, ?_, zs ++ [.ref p], upd_same, ?_, il, fun c u y => (upd_ne (rz y)).trans (s5 _ _ (s4 _ _ y)), ?_⟩
        · rw [lz]
          exact Nat.lt_of_le_of_lt (Nat.le_trans (List.length_filter_le _ _) (Nat.le_trans (List.length_take_le' _ _) S3.l4)) (by decide)
        · rw [sn, List.length_append, List.length_append, lz]
          rfl
        · rw [sn]
          exact grow_side (d := d) az lz (fun c u y nb => (upd_ne nb).trans (s5 _ _ y)) hR ((upd_ne (rz hp)).trans (s5 _ _ (s4 _ _ hp))) sp
      · have z2 : (!(ts.map formE).any fun z => PyData.eqv z (formE d)) = false := Bool.eq_false_iff.mpr z
        rw [z2, if_neg (by decide), List.append_nil] at sn
        refine ⟨zs, hR5, by rw [sn]; exact lz, il, s4.trans s5, ?_⟩
        rw [sn]
        intro j e he
        obtain ⟨p2, a2, b2, c2⟩ := az j e he
        exact ⟨p2, a2, s5 _ _ b2, c2⟩
    · rintro H4 ⟨zs, hR, lz, _, s4, az⟩
      rw [S3.len, List.take_length] at lz az
      have all : Same H H4 := sall.trans s4
      walk_at "rd"
      by_cases emp : subF ss ts = []
      · refine make_bad (y := .ref R) (.len hR fun z => ?_) fun H5 s5 => bad emp H5 (all.trans s5)
        rw [lz, emp] at z
        exact absurd z.1 (by decide)
      · have S5 : SidesAt H4 R zs (subF ss ts) := ⟨hR, lz, List.length_pos_iff.mpr emp, Nat.le_trans (List.length_filter_le _ _) S3.l4, az⟩
        exact make_good S5 fun z H5 hz s5 I5 => good emp z H5 (all.trans s5) I5
end
end HT
namespace HT
open PySem L2
/-- two readings of one expression -/
inductive Two (a b : Prop) : Prop where
  | fst (h : a) : Two a b
  | snd (h : b) : Two a b
theorem pe_two {X : Cx} {e : Expr} {t u : TE} (h : PE X e t) (k : PE X e u) : PE X e (fun σ H Q => Two (t σ H Q) (u σ H Q)) := ⟨fun pins s σ H Q I z => by
  cases z with
  | fst z => exact h.run pins s σ H Q I z
  | snd z => exact k.run pins s σ H Q I z⟩
theorem SideI.insC {X : Cx} {C : Addr} {H : Hp} {x : Addr} {o s : Int} {m : Str} (h : SideI C H x o s m) : StX.InsC X H x C := let ⟨dx, _, _, a, _⟩ := h; .inr ⟨dx, _, a⟩
theorem SidesI.insC {X : Cx} {Z : Addr} {H : Hp} {x : Addr} {ss : List Sd} (h : SidesI Z H x ss) : StX.InsC X H x Z := let ⟨dx, _, _, _, a, _⟩ := h; .inr ⟨dx, _, a⟩
theorem ThingI.ok1 {D Z : Addr} {H : Hp} {b : Addr} {ts : List Sd} (h : ThingI D Z H b ts) : YOk H D Z (.ref b) := by
  rcases h with ⟨o, s, m, _, dx, p, q, a, _⟩ | ⟨dx, l, fm, xs, a, _⟩
  · exact .inr (.inl ⟨b, dx, _, rfl, a⟩)
  · exact .inr (.inr ⟨b, dx, _, rfl, a⟩)
theorem ThingI.ok2 {D Z : Addr} {H : Hp} {b : Addr} {ts : List Sd} (h : ThingI D Z H b ts) : YOk H Z D (.ref b) := by
  rcases h with ⟨o, s, m, _, dx, p, q, a, _⟩ | ⟨dx, l, fm, xs, a, _⟩
  · exact .inr (.inr ⟨b, dx, _, rfl, a⟩)
  · exact .inr (.inl ⟨b, dx, _, rfl, a⟩)
theorem make_badS {K : PySem.W.Frag} {D : Addr} {C : Nat → Addr} {H : Hp} {y : V} {Q : VK} {E : XK} (b : BadS K H y) (q : ∀ H', Same H H' → E (.ref (C 0)) none H') :
    ∀ x dx, H x = none → H dx = none → dx ≠ x → spSInitU K D C (.ref x :: ([y] ++ [])) (upd (upd H dx (.own x)) x (.ins D dx [])) (fun v H2 => v = .non ∧ Q (.ref x) H2) E := fun x dx hx hdx ne => by
  have w1 : Same H (upd (upd H dx (.own x)) x (.ins D dx [])) := fun b u z => (upd_ne (ne_of_none z hx)).trans ((upd_ne (ne_of_none z hdx)).trans z)
  exact .inr ⟨x, y, rfl, b.same w1, q _ w1⟩
/-- what an asking by its kind comes to: no error, or the number of the error's class -/
inductive Asks (K : PySem.W.Frag) (D Z : Addr) (H : Hp) : Nat → V → V → Option Nat → Prop where
  | side {y : V} (b : BadS K H y) : Asks K D Z H 0 .non y (some 0)
  | sides {y : V} (b : BadL K H y) : Asks K D Z H 1 .non y (some 1)
  | sidesG {l : Addr} {xs : List V} {ss : List Sd} (S : SidesAt H l xs ss) : Asks K D Z H 1 .non (.ref l) none
  | orS {x : Addr} {o s : Int} {m : Str} {y : V} {T : String} (I : SideI D H x o s m) (t : Th H y T) : Asks K D Z H 2 (.ref x) y (some 1)
  | orSG {x b : Addr} {o s : Int} {m : Str} {ts : List Sd} (I : SideI D H x o s m) (t : ThingI D Z H b ts) : Asks K D Z H 2 (.ref x) (.ref b) (if ts.length ≤ 3 then none else some 1)
  | orZ {x : Addr} {ss : List Sd} {y : V} {T : String} (I : SidesI Z H x ss) (t : Th H y T) : Asks K D Z H 2 (.ref x) y (some 1)
  | orZG {x b : Addr} {ss ts : List Sd} (I : SidesI Z H x ss) (t : ThingI D Z H b ts) : Asks K D Z H 2 (.ref x) (.ref b) (if ss.length + ts.length ≤ 4 then none else some 1)
  | subZ {x : Addr} {ss : List Sd} {y : V} {T : String} (I : SidesI Z H x ss) (t : Th H y T) : Asks K D Z H 3 (.ref x) y (some 1)
  | subZG {x b : Addr} {ss ts : List Sd} (I : SidesI Z H x ss) (t : ThingI D Z H b ts) : Asks K D Z H 3 (.ref x) (.ref b) (if subF ss ts = [] then some 1 else none)
  | callS {x : Addr} {o s : Int} {m : Str} {y : V} {T : String} (I : SideI D H x o s m) (t : Th H y T) (ni : isI T = false) : Asks K D Z H 4 (.ref x) y (some 3)
  | callZ {x : Addr} {ss : List Sd} {y : V} {T : String} (I : SidesI Z H x ss) (t : Th H y T) (ni : isI T = false) : Asks K D Z H 4 (.ref x) y (some 3)
  | callM {x : Addr} {ss : List Sd} {v : Int} (I : SidesI Z H x ss) (m : ManyP ss) : Asks K D Z H 4 (.ref x) (.int v) (some 2)
  | getS {x : Addr} {o s : Int} {m : Str} {y : V} {T : String} (I : SideI D H x o s m) (t : Th H y T) (ni : isI T = false) : Asks K D Z H 5 (.ref x) y (some 3)
  | getZ {x : Addr} {ss : List Sd} {y : V} {T : String} (I : SidesI Z H x ss) (t : Th H y T) (ni : isI T = false) : Asks K D Z H 5 (.ref x) y (some 3)
  | getM {x : Addr} {ss : List Sd} {v : Int} (I : SidesI Z H x ss) (vb : -2 ^ 500 < v ∧ v < 2 ^ 500) (m : ∀ n, RunsTo (ss.map (movD (-v))) n → TooE (comN ss) (ss.map (movD (-v))) n) : Asks K D Z H 5 (.ref x) (.int v) (some 2)
  | leadA {x : Addr} {ss : List Sd} {y : V} {T : String} (I : SidesI Z H x ss) (t : Th H y T) (ni : isI T = false) : Asks K D Z H 6 (.ref x) y (some 3)
  | leadB {x : Addr} {ss : List Sd} {y : V} {T : String} (I : SidesI Z H x ss) (t : Th H y T) (ni : isI T = false) : Asks K D Z H 7 (.ref x) y (some 3)
  | leadM {x : Addr} {ss : List Sd} {v : Int} (I : SidesI Z H x ss) (vb : -2 ^ 500 < v ∧ v < 2 ^ 500) (m : ∀ n, RunsTo (ss.map (movD (-v))) n → (∀ i, i ≤ n → i ≤ 1000 → ¬ inR v (ss.map (movD (-v))) 0 i) ∧
      (TooE (comN ss) (ss.map (movD (-v))) n ∨ holdsF (loE v (comN ss) (runN (ss.map (movD (-v))) n)) (hiE v (comN ss) (runN (ss.map (movD (-v))) n)) 0 = true)) : Asks K D Z H 7 (.ref x) (.int v) (some 2)
def spAsk (K : PySem.W.Frag) (D Z : Addr) (C : Nat → Addr) : Sp := fun vs H Q E => ∃ (kd : Nat) (one y : V) (r : Option Nat), vs = [.int (kd : Int), one, y] ∧ Asks K D Z H kd one y r ∧ (r = none → ∀ v H', Same H H' → Q v H') ∧ ∀ i, r = some i → ∀ H', Same H H' → E (.ref (C i)) none H'
/-- the two classes, for the askings -/
structure AskK (P : Program) (w : World) (K : PySem.W.Frag) (mg : Str → Option Value) (base : Heap) (D Z : Addr) (C : Nat → Addr) (iS' iZ' go gz gs gcS gcZ ggS ggZ gl : Addr) (dS dZ dl : FuncData) : Prop where
  gS : mg "Side" = some (.ref D)
  gZ : mg "Sides" = some (.ref Z)
  mS : Mk K D iS'
  mZ : Mk K Z iZ'
  iS : FnOk P w K mg base (L2.CX P w) 5 iS' dS ["self", "data"] (spSInitU K D C)
  iZ : FnOk P w K mg base (L2.CX P w) 6 iZ' dZ ["self", "sides"] (spZInitU K Z C)
  bS : Binds K dS ["self", "data"] []
  bZ : Binds K dZ ["self", "sides"] []
  cS : OwnC K D
  cZ : OwnC K Z
  oS : OpF K D Z "or" go
  fO : FnR P w K mg base (L2.CX P w) 8 go (spSOrU D Z C)
  oZ : OpF K Z D "or" gz
  fZ : FnR P w K mg base (L2.CX P w) 8 gz (spZOrU D Z C)
  uZ : OpF K Z D "sub" gs
  fU : FnR P w K mg base (L2.CX P w) 8 gs (spZSubU D Z C)
  coS : StX.CallO K D gcS
  fcS : FnR P w K mg base (L2.CX P w) 5 gcS (spSBad D C)
  coZ : StX.CallO K Z gcZ
  fcZ : FnR P w K mg base (L2.CX P w) 109 gcZ (spZCallX Z C)
  geS : Spc K D "__getitem__" ggS
  giS : PySem.W.fnIn K ggS = true
  fgS : FnR P w K mg base (L2.CX P w) 3 ggS (spSBad D C)
  geZ : Spc K Z "__getitem__" ggZ
  giZ : PySem.W.fnIn K ggZ = true
  fgZ : FnR P w K mg base (L2.CX P w) 7 ggZ (spZGetX Z C)
  ml : Meth K Z "lead_to" gl
  fl : FnOk P w K mg base (L2.CX P w) 7 gl dl ["self", "start", "value"] (spZLeadX Z C)
  bl : Binds K dl ["self", "start", "value"] []
section
variable {P : Program} {w : World} {K : PySem.W.Frag} {mg : Str → Option Value} {base : Heap} {D Z iS' iZ' go gz gs gcS gcZ ggS ggZ gl Bx : Addr} {dS dZ dl : FuncData} {C : Nat → Addr}
theorem ok_asked {f : Addr} {fd : FuncData} (F : Fun K "_law_asked" "_law_asked" s_L_asked f fd) (O : AskK P w K mg base D Z C iS' iZ' go gz gs gcS gcZ ggS ggZ gl dS dZ dl) : FnOk P w K mg base (L2.CX P w) 110 f fd ["_law_kind", "_law_one", "_law_value"] (spAsk K D Z C) := by
  refine F.okAny sc_L_asked (fun vs H Q E h => ?_) (fun cdv A outer s0 H vs Q E hr h => ?_)
  · obtain ⟨kd, one, y, r, rfl, _⟩ := h
    rfl
  · obtain ⟨kd, one, y, r, rfl, ask, good, bad⟩ := h
    have nd := sc_L_asked.nd
    refine ⟨_, pss_cons (ps_if (pt_cmpR op_eq (pv 0) pe_int (nomark _)) (pss_one (ps_ret (pe_make O.mS O.iS (hr.mono (by decide)) (by rfl) O.gS O.bS .nil (L2.passes_call (takes_of rfl rfl rfl rfl) (fun _ _ _ _ h => h)) (pa_cons (pv 2) pa_nil)))) pss_nil)
      (pss_cons (ps_if (pt_cmpR op_eq (pv 0) pe_int (nomark _)) (pss_one (ps_ret (pe_make O.mZ O.iZ (hr.mono (by decide)) (by rfl) O.gZ O.bZ .nil (L2.passes_call (takes_of rfl rfl rfl rfl) (fun _ _ _ _ h => h)) (pa_cons (pv 2) pa_nil)))) pss_nil)
      (pss_cons (ps_if (pt_cmpR op_eq (pv 0) pe_int (nomark _)) (pss_one (ps_ret (pe_two (pe_op (op_ownAny O.oS rfl O.fO (hr.mono (by decide)) (L2.passes_call (takes_of rfl rfl rfl rfl) (fun _ _ _ _ h => h))) (pv 1) (pv 2)) (pe_op (op_ownAny O.oZ rfl O.fZ (hr.mono (by decide)) (L2.passes_call (takes_of rfl rfl rfl rfl) (fun _ _ _ _ h => h))) (pv 1) (pv 2))))) pss_nil)
      (pss_cons (ps_if (pt_cmpR op_eq (pv 0) pe_int (nomark _)) (pss_one (ps_ret (pe_op (op_ownAny O.uZ rfl O.fU (hr.mono (by decide)) (L2.passes_call (takes_of rfl rfl rfl rfl) (fun _ _ _ _ h => h))) (pv 1) (pv 2)))) pss_nil)
      (pss_cons (ps_if (pt_cmpR op_eq (pv 0) pe_int (nomark _)) (pss_one (ps_ret (pe_two (StX.pe_callO (pv 1) O.coS O.fcS (hr.mono (by decide)) (L2.passes_call (takes_of rfl rfl rfl rfl) (fun _ _ _ _ h => h)) (pa_cons (pv 2) pa_nil)) (StX.pe_callO (pv 1) O.coZ O.fcZ (hr.mono (by decide)) (L2.passes_call (takes_of rfl rfl rfl rfl) (fun _ _ _ _ h => h)) (pa_cons (pv 2) pa_nil))))) pss_nil)
      (pss_cons (ps_if (pt_cmpR op_eq (pv 0) pe_int (nomark _)) (pss_one (ps_ret (pe_two (pe_ownIx O.geS O.giS O.fgS (hr.mono (by decide)) (L2.passes_call (takes_of rfl rfl rfl rfl) (fun _ _ _ _ h => h)) (pv 1) (pv 2)) (pe_ownIx O.geZ O.giZ O.fgZ (hr.mono (by decide)) (L2.passes_call (takes_of rfl rfl rfl rfl) (fun _ _ _ _ h => h)) (pv 1) (pv 2))))) pss_nil)
      (pss_cons (ps_if (pt_cmpR op_eq (pv 0) pe_int (nomark _)) (pss_one (ps_ret (pe_meth (pv 1) O.cZ.cls O.ml O.fl (hr.mono (by decide)) O.bl .nil (L2.passes_call (takes_of rfl rfl rfl rfl) (fun _ _ _ _ h => h)) (pa_cons (pv 2) (pa_cons pe_int pa_nil))))) pss_nil)
      (pss_one (ps_ret (pe_meth (pv 1) O.cZ.cls O.ml O.fl (hr.mono (by decide)) O.bl .nil (L2.passes_call (takes_of rfl rfl rfl rfl) (fun _ _ _ _ h => h)) (pa_cons pe_int (pa_cons (pv 2) pa_nil))))))))))), ?_⟩
    walk_at "rd"
    cases ask with
    | side b =>
      refine ⟨rfl, ?_⟩; walk_at "rd"
      exact make_badS b (bad 0 rfl)
    | sides b =>
      refine ⟨rfl, ?_⟩; walk_at "rd"; refine ⟨rfl, ?_⟩; walk_at "rd"
      exact make_bad b (bad 1 rfl)
    | sidesG S =>
      refine ⟨rfl, ?_⟩; walk_at "rd"; refine ⟨rfl, ?_⟩; walk_at "rd"
      exact make_good S fun x H1 hx s1 I => good rfl _ H1 s1
    | @orS x o s m y T I t =>
      refine ⟨rfl, ?_⟩; walk_at "rd"; refine ⟨rfl, ?_⟩; walk_at "rd"; refine ⟨rfl, ?_⟩; walk_at "rd"
      obtain ⟨dx, p, q, hx, _⟩ := id I
      refine Two.fst ?_
      walk_at "rd"
      exact ⟨x, dx, _, rfl, hx, .inl ⟨T, t⟩, x, y, o, s, m, rfl, I, .inr ⟨T, t, bad 1 rfl⟩⟩
    | @orSG x b o s m ts I t =>
      refine ⟨rfl, ?_⟩; walk_at "rd"; refine ⟨rfl, ?_⟩; walk_at "rd"; refine ⟨rfl, ?_⟩; walk_at "rd"
      obtain ⟨dx, p, q, hx, _⟩ := id I
      refine Two.fst ?_
      walk_at "rd"
      exact ⟨x, dx, _, rfl, hx, t.ok1, x, .ref b, o, s, m, rfl, I, .inl ⟨b, ts, rfl, t, fun few z H1 s1 _ => good (by rw [if_pos few]) _ H1 s1, fun many => bad 1 (by rw [if_neg many])⟩⟩
    | @orZ x ss y T I t =>
      refine ⟨rfl, ?_⟩; walk_at "rd"; refine ⟨rfl, ?_⟩; walk_at "rd"; refine ⟨rfl, ?_⟩; walk_at "rd"
      obtain ⟨dx, l, fm, xs, hx, _⟩ := id I
      refine Two.snd ?_
      walk_at "rd"
      exact ⟨x, dx, _, rfl, hx, .inl ⟨T, t⟩, x, y, ss, rfl, I, .inr ⟨T, t, bad 1 rfl⟩⟩
    | @orZG x b ss ts I t =>
      refine ⟨rfl, ?_⟩; walk_at "rd"; refine ⟨rfl, ?_⟩; walk_at "rd"; refine ⟨rfl, ?_⟩; walk_at "rd"
      obtain ⟨dx, l, fm, xs, hx, _⟩ := id I
      refine Two.snd ?_
      walk_at "rd"
      exact ⟨x, dx, _, rfl, hx, t.ok2, x, .ref b, ss, rfl, I, .inl ⟨b, ts, rfl, t, fun few z H1 s1 _ => good (by rw [if_pos few]) _ H1 s1, fun many => bad 1 (by rw [if_neg many])⟩⟩
    | @subZ x ss y T I t =>
      refine ⟨rfl, ?_⟩; walk_at "rd"; refine ⟨rfl, ?_⟩; walk_at "rd"; refine ⟨rfl, ?_⟩; walk_at "rd"; refine ⟨rfl, ?_⟩; walk_at "rd"
      obtain ⟨dx, l, fm, xs, hx, _⟩ := id I
      exact ⟨x, dx, _, rfl, hx, .inl ⟨T, t⟩, x, y, ss, rfl, I, .inr ⟨T, t, bad 1 rfl⟩⟩
    | @subZG x b ss ts I t =>
      refine ⟨rfl, ?_⟩; walk_at "rd"; refine ⟨rfl, ?_⟩; walk_at "rd"; refine ⟨rfl, ?_⟩; walk_at "rd"; refine ⟨rfl, ?_⟩; walk_at "rd"
      obtain ⟨dx, l, fm, xs, hx, _⟩ := id I
      exact ⟨x, dx, _, rfl, hx, t.ok2, x, .ref b, ss, rfl, I, .inl ⟨b, ts, rfl, t, fun few z H1 s1 _ => good (by rw [if_neg few]) _ H1 s1, fun none1 => bad 1 (by rw [if_pos none1])⟩⟩
    | @callS x o s m y T I t ni =>
      refine ⟨rfl, ?_⟩; walk_at "rd"; refine ⟨rfl, ?_⟩; walk_at "rd"; refine ⟨rfl, ?_⟩; walk_at "rd"; refine ⟨rfl, ?_⟩; walk_at "rd"; refine ⟨rfl, ?_⟩; walk_at "rd"
      refine Two.fst ?_
      walk_at "rd"
      exact ⟨I.insC, x, o, s, m, y, T, rfl, I, t, ni, bad 3 rfl H (Same.refl H)⟩
    | @callZ x ss y T I t ni =>
      refine ⟨rfl, ?_⟩; walk_at "rd"; refine ⟨rfl, ?_⟩; walk_at "rd"; refine ⟨rfl, ?_⟩; walk_at "rd"; refine ⟨rfl, ?_⟩; walk_at "rd"; refine ⟨rfl, ?_⟩; walk_at "rd"
      refine Two.snd ?_
      walk_at "rd"
      exact ⟨I.insC, x, y, ss, rfl, I, .inl ⟨T, t, ni, bad 3 rfl H (Same.refl H)⟩⟩
    | @callM x ss v I m =>
      refine ⟨rfl, ?_⟩; walk_at "rd"; refine ⟨rfl, ?_⟩; walk_at "rd"; refine ⟨rfl, ?_⟩; walk_at "rd"; refine ⟨rfl, ?_⟩; walk_at "rd"; refine ⟨rfl, ?_⟩; walk_at "rd"
      refine Two.snd ?_
      walk_at "rd"
      exact ⟨I.insC, x, .int v, ss, rfl, I, .inr ⟨v, rfl, m, bad 2 rfl⟩⟩
    | @getS x o s m y T I t ni =>
      refine ⟨rfl, ?_⟩; walk_at "rd"; refine ⟨rfl, ?_⟩; walk_at "rd"; refine ⟨rfl, ?_⟩; walk_at "rd"; refine ⟨rfl, ?_⟩; walk_at "rd"; refine ⟨rfl, ?_⟩; walk_at "rd"; refine ⟨rfl, ?_⟩; walk_at "rd"
      obtain ⟨dx, p, q, hx, _⟩ := id I
      refine Two.fst ?_
      walk_at "rd"
      exact ⟨x, dx, _, rfl, hx, x, o, s, m, y, T, rfl, I, t, ni, bad 3 rfl H (Same.refl H)⟩
    | @getZ x ss y T I t ni =>
      refine ⟨rfl, ?_⟩; walk_at "rd"; refine ⟨rfl, ?_⟩; walk_at "rd"; refine ⟨rfl, ?_⟩; walk_at "rd"; refine ⟨rfl, ?_⟩; walk_at "rd"; refine ⟨rfl, ?_⟩; walk_at "rd"; refine ⟨rfl, ?_⟩; walk_at "rd"
      obtain ⟨dx, l, fm, xs, hx, _⟩ := id I
      refine Two.snd ?_
      walk_at "rd"
      exact ⟨x, dx, _, rfl, hx, x, y, ss, rfl, I, .inl ⟨T, t, ni, bad 3 rfl H (Same.refl H)⟩⟩
    | @getM x ss v I vb m =>
      refine ⟨rfl, ?_⟩; walk_at "rd"; refine ⟨rfl, ?_⟩; walk_at "rd"; refine ⟨rfl, ?_⟩; walk_at "rd"; refine ⟨rfl, ?_⟩; walk_at "rd"; refine ⟨rfl, ?_⟩; walk_at "rd"; refine ⟨rfl, ?_⟩; walk_at "rd"
      obtain ⟨dx, l, fm, xs, hx, _⟩ := id I
      refine Two.snd ?_
      walk_at "rd"
      exact ⟨x, dx, _, rfl, hx, x, .int v, ss, rfl, I, .inr ⟨v, rfl, vb, fun n to => ⟨fun _ => bad 2 rfl, fun no => absurd (m n to) no⟩⟩⟩
    | @leadA x ss y T I t ni =>
      refine ⟨rfl, ?_⟩; walk_at "rd"; refine ⟨rfl, ?_⟩; walk_at "rd"; refine ⟨rfl, ?_⟩; walk_at "rd"; refine ⟨rfl, ?_⟩; walk_at "rd"; refine ⟨rfl, ?_⟩; walk_at "rd"; refine ⟨rfl, ?_⟩; walk_at "rd"; refine ⟨rfl, ?_⟩; walk_at "rd"
      obtain ⟨dx, l, fm, xs, hx, _⟩ := id I
      refine ⟨x, dx, _, rfl, hx, rfl, ?_⟩
      walk_at "rd"
      exact ⟨x, y, .int 0, ss, rfl, I, .inl ⟨T, t, ni, bad 3 rfl H (Same.refl H)⟩⟩
    | @leadB x ss y T I t ni =>
      refine ⟨rfl, ?_⟩; walk_at "rd"; refine ⟨rfl, ?_⟩; walk_at "rd"; refine ⟨rfl, ?_⟩; walk_at "rd"; refine ⟨rfl, ?_⟩; walk_at "rd"; refine ⟨rfl, ?_⟩; walk_at "rd"; refine ⟨rfl, ?_⟩; walk_at "rd"; refine ⟨rfl, ?_⟩; walk_at "rd"
      obtain ⟨dx, l, fm, xs, hx, _⟩ := id I
      refine ⟨x, dx, _, rfl, hx, rfl, ?_⟩
      walk_at "rd"
      exact ⟨x, .int 0, y, ss, rfl, I, .inr (.inl ⟨T, 0, rfl, t, ni, bad 3 rfl H (Same.refl H)⟩)⟩
    | @leadM x ss v I vb m =>
      refine ⟨rfl, ?_⟩; walk_at "rd"; refine ⟨rfl, ?_⟩; walk_at "rd"; refine ⟨rfl, ?_⟩; walk_at "rd"; refine ⟨rfl, ?_⟩; walk_at "rd"; refine ⟨rfl, ?_⟩; walk_at "rd"; refine ⟨rfl, ?_⟩; walk_at "rd"; refine ⟨rfl, ?_⟩; walk_at "rd"
      obtain ⟨dx, l, fm, xs, hx, _⟩ := id I
      refine ⟨x, dx, _, rfl, hx, rfl, ?_⟩
      walk_at "rd"
      exact ⟨x, .int 0, .int v, ss, rfl, I, .inr (.inr ⟨0, v, rfl, rfl, vb, m, bad 2 rfl⟩)⟩
end
end HT
namespace L2
open PySem PySem.Spec PyProof.Rows
/-- xs.count(y) of flat things -/
def rCntV (K : PySem.W.Frag) : V → List V → Hp → VK → Prop := fun x xs H Q => ∃ (p : Addr) (ys : List V) (y : V), x = .ref p ∧ xs = [y] ∧ SqL K H p ys ∧ flatV y = true ∧ ys.all flatV = true ∧ Q (.int (ys.countP (fun z => eqV z y) : Nat)) H
theorem count_eqU {x : V} : ∀ {xs : List V} {us : List Value}, Vals xs us → xs.all flatV = true → us.countP (eqU x) = xs.countP fun y => eqV y x
  | _, _, .nil, _ => rfl
  | y :: xs, u :: us, .cons r t, f => by
    obtain ⟨f1, f2⟩ := Bool.and_eq_true_iff.mp (List.all_cons ▸ f)
    rw [List.countP_cons, List.countP_cons, eqU_of r f1, count_eqU t f2]
theorem mt_cntV {X : Cx} : MtR X "list.count" (rCntV X.K) := by
  intro pins sh st H x xs v us Q iv rx rxs h
  obtain ⟨p, ys, y, rfl, rfl, hs, fy, fys, q⟩ := h
  cases rx
  obtain ⟨u, rfl, ru⟩ := rxs.one
  obtain ⟨its, rv, ⟨⟨cls, dd, data, sl⟩, n, ho, hc, hdn, hd⟩, hlen⟩ := iv.list hs
  dsimp only at hc hd
  subst hc hd
  refine call_meets PySem.F.slot_list_count ⟨_, ho, rfl⟩ PySem.F.entry_list_count (PySem.F.args_list_count_2 _ _) (SeqAt.list_countAt p its.toArray n dd sl u (eqU y)) ⟨ho, fun w hw => mem_eqAt ru fy rv fys w (by simpa using hw), ?_⟩
  refine ⟨.int (ys.countP (fun z => eqV z y) : Nat), H, iv.tok _, ⟨sh.toks, ?_⟩, q⟩
  rw [show its.toArray.toList.countP (eqU y) = ys.countP (fun z => eqV z y) from count_eqU rv fys]
end L2
namespace HT
open PySem L2
def wordT : Option Nat → Str
  | none => "good"
  | some 0 => "side"
  | some 1 => "sides"
  | some 2 => "many"
  | some _ => "value"
def spWord (K : PySem.W.Frag) (D Z : Addr) : Sp := fun vs H Q _ => ∃ (kd : Nat) (one y : V) (r : Option Nat), vs = [.int (kd : Int), one, y] ∧ Asks K D Z H kd one y r ∧ ∀ H', Same H H' → Q (.str (wordT r)) H'
theorem Asks.few {K : PySem.W.Frag} {D Z : Addr} {H : Hp} {kd : Nat} {one y : V} {r : Option Nat} (a : Asks K D Z H kd one y r) : r = none ∨ r = some 0 ∨ r = some 1 ∨ r = some 2 ∨ r = some 3 := by
  cases a <;> first | exact .inl rfl | exact .inr (.inl rfl) | exact .inr (.inr (.inl rfl)) | exact .inr (.inr (.inr (.inl rfl))) | exact .inr (.inr (.inr (.inr rfl))) | (split <;> simp)
section
variable {P : Program} {w : World} {K : PySem.W.Frag} {mg : Str → Option Value} {base : Heap} {D Z fA Bx : Addr} {dA : FuncData} {C : Nat → Addr}
theorem ok_word {f : Addr} {fd : FuncData} (F : Fun K "_law_word" "_law_word" s_L_word f fd) (R : Er K mg C Bx) (As : CalX P w K mg base "_law_asked" 110 ["_law_kind", "_law_one", "_law_value"] (spAsk K D Z C) fA dA) : FnOk P w K mg base CX0 111 f fd ["_law_kind", "_law_one", "_law_value"] (spWord K D Z) := by
  refine F.ok sc_L_word (fun vs H Q E h => ?_) (fun cdv A outer s0 H vs Q E hr h => ?_)
  · obtain ⟨kd, one, y, r, rfl, _⟩ := h
    rfl
  · obtain ⟨kd, one, y, r, rfl, ask, q⟩ := h
    have nd := sc_L_word.nd
    refine ⟨_, pss_cons (ps_set (i := 3) nd rfl (Or.inl rfl) pe_non)
      (pss_cons (ps_try_keep (i := 4) rfl rfl rfl nd rfl rfl ⟨rfl, by decide, .inl R.gB⟩ takes0 (fun W pn xe tk _ => pss_one (ps_expr (pcx As hr (by decide) (by rfl) tk (pa_cons (pv 0) (pa_cons (pv 1) (pa_cons (pv 2) pa_nil))))))
        (fun a rc kl dd pn hz hf => pss_one (ps_set (i := 3) nd rfl (Or.inl rfl) (pv 4))))
      (pss_cons (ps_if (pt_cmpR op_isN (pv 3) pe_non (nomark _)) (pss_one (ps_ret pe_str)) pss_nil)
      (pss_cons (ps_set (i := 5) nd rfl (Or.inl rfl) (pe_lst (pa_cons (pe_callB call_isKept (by rfl) R.isi (by decide +kernel) (pa_cons (pv 3) (pa_cons (pe_glob (v := .ref (C 0)) (by rfl) R.g0 rfl) pa_nil))) (pa_cons (pe_callB call_isKept (by rfl) R.isi (by decide +kernel) (pa_cons (pv 3) (pa_cons (pe_glob (v := .ref (C 1)) (by rfl) R.g1 rfl) pa_nil))) (pa_cons (pe_callB call_isKept (by rfl) R.isi (by decide +kernel) (pa_cons (pv 3) (pa_cons (pe_glob (v := .ref (C 3)) (by rfl) R.g3 rfl) pa_nil))) pa_nil)))))
      (pss_cons (ps_expr (pe_bm PySem.F.plainAttrs_list PySem.F.slot_list_append PySem.F.type_list_append mt_append (pv 5) (pa_cons (pe_callB call_isKept (by rfl) R.isi (by decide +kernel) (pa_cons (pv 3) (pa_cons (pe_glob (v := .ref (C 2)) (by rfl) R.g2 rfl) pa_nil))) pa_nil)))
      (pss_cons (ps_if (PW.pt (pw_or (pt_cmpR op_ne (pe_bm PySem.F.plainAttrs_list PySem.F.slot_list_count PySem.F.type_list_count mt_cntV (pv 5) (pa_cons pe_bl pa_nil)) pe_int (nomark _)) (pw_or1 (pt_not (pt_val (pe_callB call_isKept (by rfl) R.isi (by decide +kernel) (pa_cons (pv 3) (pa_cons (pe_bltn (v := .ty "ValueError") (by rfl) R.ve (by decide +kernel) rfl) pa_nil)))))))) (pss_one (ps_ret pe_str)) pss_nil)
      (pss_one (ps_ret (pe_ix ix_list (pe_lst (pa_cons pe_str (pa_cons pe_str (pa_cons pe_str (pa_cons pe_str pa_nil))))) (pe_bm PySem.F.plainAttrs_list PySem.F.slot_list_index PySem.F.type_list_index mt_index (pv 5) (pa_cons pe_bl pa_nil)) (fun _ _ => rfl))))))))), ?_⟩
    walk_at "rd"
    refine ⟨kd, one, y, r, rfl, ask, fun e v H1 s1 => ?_, fun i e H1 s1 => ?_⟩
    · subst e
      walk_at "rd"
      refine ⟨rfl, ?_⟩
      walk_at "rd"
      exact q H1 s1
    · rcases ask.few with e2 | e2 | e2 | e2 | e2
      · rw [e2] at e; cases e
      · rw [e2] at e
        cases e
        subst e2
        refine ⟨true, R.emB 0 (by decide), fun _ => ⟨rfl, fun a ha => ?_⟩, fun z => Bool.noConfusion z⟩
        walk_at "rd"
        refine ⟨rfl, ?_⟩
        walk_at "rd"
        refine ⟨a, C 0, _, .ref (C 0), decide (0 = 0), rfl, .own _, upd_same, R.ec 0 (by decide), R.eg, R.kit 0 0 (by decide) (by decide), ?_⟩
        walk_at "rd"
        refine ⟨a, C 0, _, .ref (C 1), decide (0 = 1), rfl, .own _, upd_same, R.ec 0 (by decide), R.eg, R.kit 0 1 (by decide) (by decide), ?_⟩
        walk_at "rd"
        refine ⟨a, C 0, _, .ref (C 3), decide (0 = 3), rfl, .own _, upd_same, R.ec 0 (by decide), R.eg, R.kit 0 3 (by decide) (by decide), ?_⟩
        walk_at "rd"
        refine ⟨(by show 3 ≤ sizeLine; decide), fun l1 nl1 => ?_⟩
        have ea1 := (upd_ne (o := .lst [V.bl (decide (0 = 0)), .bl (decide (0 = 1)), .bl (decide (0 = 3))]) (ne_of_none upd_same nl1)).trans (upd_same (H := H1) (a := a) (o := ExK (.ref (C 0)) a))
        have hl1 : upd (upd H1 a (ExK (.ref (C 0)) a)) l1 (.lst [V.bl (decide (0 = 0)), .bl (decide (0 = 1)), .bl (decide (0 = 3))]) l1 = some (.lst [V.bl (decide (0 = 0)), .bl (decide (0 = 1)), .bl (decide (0 = 3))]) := upd_same
        have eb1 : ∀ b u, H b = some u → b ≠ l1 ∧ upd (upd H1 a (ExK (.ref (C 0)) a)) l1 (.lst [V.bl (decide (0 = 0)), .bl (decide (0 = 1)), .bl (decide (0 = 3))]) b = some u := fun b u e0 => by
          have e1 := (upd_ne (o := ExK (.ref (C 0)) a) (ne_of_none (s1 _ _ e0) ha)).trans (s1 _ _ e0)
          exact ⟨ne_of_none e1 nl1, (upd_ne (ne_of_none e1 nl1)).trans e1⟩
        have nal : a ≠ l1 := ne_of_none (upd_same (H := H1) (a := a) (o := ExK (.ref (C 0)) a)) nl1
        generalize upd (upd H1 a (ExK (.ref (C 0)) a)) l1 (.lst [V.bl (decide (0 = 0)), .bl (decide (0 = 1)), .bl (decide (0 = 3))]) = HX at ea1 eb1 hl1 ⊢
        walk_at "rd"
        refine ⟨.inl ⟨rfl, _, SqL.of hl1⟩, ?_⟩
        walk_at "rd"
        refine ⟨a, C 0, _, .ref (C 2), decide (0 = 2), rfl, .own _, ea1, R.ec 0 (by decide), R.eg, R.kit 0 2 (by decide) (by decide), ?_⟩
        walk_at "rd"
        refine ⟨l1, _, _, rfl, rfl, hl1, (by show 3 < sizeLine; decide), ?_⟩
        have ea2 := (upd_ne (o := .lst [V.bl (decide (0 = 0)), .bl (decide (0 = 1)), .bl (decide (0 = 3)), .bl (decide (0 = 2))]) nal).trans ea1
        have hl2 : upd HX l1 (.lst [V.bl (decide (0 = 0)), .bl (decide (0 = 1)), .bl (decide (0 = 3)), .bl (decide (0 = 2))]) l1 = some (.lst [V.bl (decide (0 = 0)), .bl (decide (0 = 1)), .bl (decide (0 = 3)), .bl (decide (0 = 2))]) := upd_same
        have eb2 : Same H (upd HX l1 (.lst [V.bl (decide (0 = 0)), .bl (decide (0 = 1)), .bl (decide (0 = 3)), .bl (decide (0 = 2))])) := fun b u e0 => (upd_ne (eb1 b u e0).1).trans (eb1 b u e0).2
        change tSeq _ _ _ _ (upd HX l1 (.lst [V.bl (decide (0 = 0)), .bl (decide (0 = 1)), .bl (decide (0 = 3)), .bl (decide (0 = 2))]))
        generalize upd HX l1 (.lst [V.bl (decide (0 = 0)), .bl (decide (0 = 1)), .bl (decide (0 = 3)), .bl (decide (0 = 2))]) = HZ at ea2 eb2 hl2 ⊢
        walk_at "rd"
        refine ⟨.inl ⟨rfl, _, SqL.of hl2⟩, ?_⟩
        walk_at "rd"
        refine ⟨l1, _, .bl true, rfl, rfl, SqL.of hl2, rfl, rfl, ?_⟩
        walk_at "rd"
        refine ⟨rfl, ?_⟩
        walk_at "rd"
        refine ⟨a, C 0, _, .type "ValueError", true, rfl, .ty _, ea2, R.ec 0 (by decide), R.eg, R.kitV 0 (by decide), ?_⟩
        walk_at "rd"
        refine ⟨(by show 4 ≤ sizeLine; decide), fun l4 nl4 => ?_⟩
        have hl4 : upd HZ l4 (.lst [V.str "side", .str "sides", .str "value", .str "many"]) l4 = some (.lst [V.str "side", .str "sides", .str "value", .str "many"]) := upd_same
        have eb4 : Same HZ (upd HZ l4 (.lst [V.str "side", .str "sides", .str "value", .str "many"])) := fun b u e0 => (upd_ne (ne_of_none e0 nl4)).trans e0
        generalize upd HZ l4 (.lst [V.str "side", .str "sides", .str "value", .str "many"]) = HY at eb4 hl4 ⊢
        walk_at "rd"
        refine ⟨.inl ⟨rfl, _, SqL.of (eb4 _ _ hl2)⟩, ?_⟩
        walk_at "rd"
        refine ⟨l1, _, .bl true, 0, .bl true, rfl, rfl, SqL.of (eb4 _ _ hl2), rfl, rfl, rfl, rfl, fun m z' hm hz => ?_, ?_⟩
        · exact absurd hm (Nat.not_lt_zero _)
        refine ⟨l4, _, _, _, rfl, rfl, SqL.of hl4, rfl, ?_⟩
        exact q _ (eb2.trans eb4)
      · rw [e2] at e
        cases e
        subst e2
        refine ⟨true, R.emB 1 (by decide), fun _ => ⟨rfl, fun a ha => ?_⟩, fun z => Bool.noConfusion z⟩
        walk_at "rd"
        refine ⟨rfl, ?_⟩
        walk_at "rd"
        refine ⟨a, C 1, _, .ref (C 0), decide (1 = 0), rfl, .own _, upd_same, R.ec 1 (by decide), R.eg, R.kit 1 0 (by decide) (by decide), ?_⟩
        walk_at "rd"
        refine ⟨a, C 1, _, .ref (C 1), decide (1 = 1), rfl, .own _, upd_same, R.ec 1 (by decide), R.eg, R.kit 1 1 (by decide) (by decide), ?_⟩
        walk_at "rd"
        refine ⟨a, C 1, _, .ref (C 3), decide (1 = 3), rfl, .own _, upd_same, R.ec 1 (by decide), R.eg, R.kit 1 3 (by decide) (by decide), ?_⟩
        walk_at "rd"
        refine ⟨(by show 3 ≤ sizeLine; decide), fun l1 nl1 => ?_⟩
        have ea1 := (upd_ne (o := .lst [V.bl (decide (1 = 0)), .bl (decide (1 = 1)), .bl (decide (1 = 3))]) (ne_of_none upd_same nl1)).trans (upd_same (H := H1) (a := a) (o := ExK (.ref (C 1)) a))
        have hl1 : upd (upd H1 a (ExK (.ref (C 1)) a)) l1 (.lst [V.bl (decide (1 = 0)), .bl (decide (1 = 1)), .bl (decide (1 = 3))]) l1 = some (.lst [V.bl (decide (1 = 0)), .bl (decide (1 = 1)), .bl (decide (1 = 3))]) := upd_same
        have eb1 : ∀ b u, H b = some u → b ≠ l1 ∧ upd (upd H1 a (ExK (.ref (C 1)) a)) l1 (.lst [V.bl (decide (1 = 0)), .bl (decide (1 = 1)), .bl (decide (1 = 3))]) b = some u := fun b u e0 => by
          have e1 := (upd_ne (o := ExK (.ref (C 1)) a) (ne_of_none (s1 _ _ e0) ha)).trans (s1 _ _ e0)
          exact ⟨ne_of_none e1 nl1, (upd_ne (ne_of_none e1 nl1)).trans e1⟩
        have nal : a ≠ l1 := ne_of_none (upd_same (H := H1) (a := a) (o := ExK (.ref (C 1)) a)) nl1
        generalize upd (upd H1 a (ExK (.ref (C 1)) a)) l1 (.lst [V.bl (decide (1 = 0)), .bl (decide (1 = 1)), .bl (decide (1 = 3))]) = HX at ea1 eb1 hl1 ⊢
        walk_at "rd"
        refine ⟨.inl ⟨rfl, _, SqL.of hl1⟩, ?_⟩
        walk_at "rd"
        refine ⟨a, C 1, _, .ref (C 2), decide (1 = 2), rfl, .own _, ea1, R.ec 1 (by decide), R.eg, R.kit 1 2 (by decide) (by decide), ?_⟩
        walk_at "rd"
        refine ⟨l1, _, _, rfl, rfl, hl1, (by show 3 < sizeLine; decide), ?_⟩
        have ea2 := (upd_ne (o := .lst [V.bl (decide (1 = 0)), .bl (decide (1 = 1)), .bl (decide (1 = 3)), .bl (decide (1 = 2))]) nal).trans ea1
        have hl2 : upd HX l1 (.lst [V.bl (decide (1 = 0)), .bl (decide (1 = 1)), .bl (decide (1 = 3)), .bl (decide (1 = 2))]) l1 = some (.lst [V.bl (decide (1 = 0)), .bl (decide (1 = 1)), .bl (decide (1 = 3)), .bl (decide (1 = 2))]) := upd_same
        have eb2 : Same H (upd HX l1 (.lst [V.bl (decide (1 = 0)), .bl (decide (1 = 1)), .bl (decide (1 = 3)), .bl (decide (1 = 2))])) := fun b u e0 => (upd_ne (eb1 b u e0).1).trans (eb1 b u e0).2
        change tSeq _ _ _ _ (upd HX l1 (.lst [V.bl (decide (1 = 0)), .bl (decide (1 = 1)), .bl (decide (1 = 3)), .bl (decide (1 = 2))]))
        generalize upd HX l1 (.lst [V.bl (decide (1 = 0)), .bl (decide (1 = 1)), .bl (decide (1 = 3)), .bl (decide (1 = 2))]) = HZ at ea2 eb2 hl2 ⊢
        walk_at "rd"
        refine ⟨.inl ⟨rfl, _, SqL.of hl2⟩, ?_⟩
        walk_at "rd"
        refine ⟨l1, _, .bl true, rfl, rfl, SqL.of hl2, rfl, rfl, ?_⟩
        walk_at "rd"
        refine ⟨rfl, ?_⟩
        walk_at "rd"
        refine ⟨a, C 1, _, .type "ValueError", true, rfl, .ty _, ea2, R.ec 1 (by decide), R.eg, R.kitV 1 (by decide), ?_⟩
        walk_at "rd"
        refine ⟨(by show 4 ≤ sizeLine; decide), fun l4 nl4 => ?_⟩
        have hl4 : upd HZ l4 (.lst [V.str "side", .str "sides", .str "value", .str "many"]) l4 = some (.lst [V.str "side", .str "sides", .str "value", .str "many"]) := upd_same
        have eb4 : Same HZ (upd HZ l4 (.lst [V.str "side", .str "sides", .str "value", .str "many"])) := fun b u e0 => (upd_ne (ne_of_none e0 nl4)).trans e0
        generalize upd HZ l4 (.lst [V.str "side", .str "sides", .str "value", .str "many"]) = HY at eb4 hl4 ⊢
        walk_at "rd"
        refine ⟨.inl ⟨rfl, _, SqL.of (eb4 _ _ hl2)⟩, ?_⟩
        walk_at "rd"
        refine ⟨l1, _, .bl true, 1, .bl true, rfl, rfl, SqL.of (eb4 _ _ hl2), rfl, rfl, rfl, rfl, fun m z' hm hz => ?_, ?_⟩
        · rcases (by omega : m = 0) with rfl <;> (cases hz; rfl)
        refine ⟨l4, _, _, _, rfl, rfl, SqL.of hl4, rfl, ?_⟩
        exact q _ (eb2.trans eb4)
      · rw [e2] at e
        cases e
        subst e2
        refine ⟨true, R.emB 2 (by decide), fun _ => ⟨rfl, fun a ha => ?_⟩, fun z => Bool.noConfusion z⟩
        walk_at "rd"
        refine ⟨rfl, ?_⟩
        walk_at "rd"
        refine ⟨a, C 2, _, .ref (C 0), decide (2 = 0), rfl, .own _, upd_same, R.ec 2 (by decide), R.eg, R.kit 2 0 (by decide) (by decide), ?_⟩
        walk_at "rd"
        refine ⟨a, C 2, _, .ref (C 1), decide (2 = 1), rfl, .own _, upd_same, R.ec 2 (by decide), R.eg, R.kit 2 1 (by decide) (by decide), ?_⟩
        walk_at "rd"
        refine ⟨a, C 2, _, .ref (C 3), decide (2 = 3), rfl, .own _, upd_same, R.ec 2 (by decide), R.eg, R.kit 2 3 (by decide) (by decide), ?_⟩
        walk_at "rd"
        refine ⟨(by show 3 ≤ sizeLine; decide), fun l1 nl1 => ?_⟩
        have ea1 := (upd_ne (o := .lst [V.bl (decide (2 = 0)), .bl (decide (2 = 1)), .bl (decide (2 = 3))]) (ne_of_none upd_same nl1)).trans (upd_same (H := H1) (a := a) (o := ExK (.ref (C 2)) a))
        have hl1 : upd (upd H1 a (ExK (.ref (C 2)) a)) l1 (.lst [V.bl (decide (2 = 0)), .bl (decide (2 = 1)), .bl (decide (2 = 3))]) l1 = some (.lst [V.bl (decide (2 = 0)), .bl (decide (2 = 1)), .bl (decide (2 = 3))]) := upd_same
        have eb1 : ∀ b u, H b = some u → b ≠ l1 ∧ upd (upd H1 a (ExK (.ref (C 2)) a)) l1 (.lst [V.bl (decide (2 = 0)), .bl (decide (2 = 1)), .bl (decide (2 = 3))]) b = some u := fun b u e0 => by
          have e1 := (upd_ne (o := ExK (.ref (C 2)) a) (ne_of_none (s1 _ _ e0) ha)).trans (s1 _ _ e0)
          exact ⟨ne_of_none e1 nl1, (upd_ne (ne_of_none e1 nl1)).trans e1⟩
        have nal : a ≠ l1 := ne_of_none (upd_same (H := H1) (a := a) (o := ExK (.ref (C 2)) a)) nl1
        generalize upd (upd H1 a (ExK (.ref (C 2)) a)) l1 (.lst [V.bl (decide (2 = 0)), .bl (decide (2 = 1)), .bl (decide (2 = 3))]) = HX at ea1 eb1 hl1 ⊢
        walk_at "rd"
        refine ⟨.inl ⟨rfl, _, SqL.of hl1⟩, ?_⟩
        walk_at "rd"
        refine ⟨a, C 2, _, .ref (C 2), decide (2 = 2), rfl, .own _, ea1, R.ec 2 (by decide), R.eg, R.kit 2 2 (by decide) (by decide), ?_⟩
        walk_at "rd"
        refine ⟨l1, _, _, rfl, rfl, hl1, (by show 3 < sizeLine; decide), ?_⟩
        have ea2 := (upd_ne (o := .lst [V.bl (decide (2 = 0)), .bl (decide (2 = 1)), .bl (decide (2 = 3)), .bl (decide (2 = 2))]) nal).trans ea1
        have hl2 : upd HX l1 (.lst [V.bl (decide (2 = 0)), .bl (decide (2 = 1)), .bl (decide (2 = 3)), .bl (decide (2 = 2))]) l1 = some (.lst [V.bl (decide (2 = 0)), .bl (decide (2 = 1)), .bl (decide (2 = 3)), .bl (decide (2 = 2))]) := upd_same
        have eb2 : Same H (upd HX l1 (.lst [V.bl (decide (2 = 0)), .bl (decide (2 = 1)), .bl (decide (2 = 3)), .bl (decide (2 = 2))])) := fun b u e0 => (upd_ne (eb1 b u e0).1).trans (eb1 b u e0).2
        change tSeq _ _ _ _ (upd HX l1 (.lst [V.bl (decide (2 = 0)), .bl (decide (2 = 1)), .bl (decide (2 = 3)), .bl (decide (2 = 2))]))
        generalize upd HX l1 (.lst [V.bl (decide (2 = 0)), .bl (decide (2 = 1)), .bl (decide (2 = 3)), .bl (decide (2 = 2))]) = HZ at ea2 eb2 hl2 ⊢
        walk_at "rd"
        refine ⟨.inl ⟨rfl, _, SqL.of hl2⟩, ?_⟩
        walk_at "rd"
        refine ⟨l1, _, .bl true, rfl, rfl, SqL.of hl2, rfl, rfl, ?_⟩
        walk_at "rd"
        refine ⟨rfl, ?_⟩
        walk_at "rd"
        refine ⟨a, C 2, _, .type "ValueError", true, rfl, .ty _, ea2, R.ec 2 (by decide), R.eg, R.kitV 2 (by decide), ?_⟩
        walk_at "rd"
        refine ⟨(by show 4 ≤ sizeLine; decide), fun l4 nl4 => ?_⟩
        have hl4 : upd HZ l4 (.lst [V.str "side", .str "sides", .str "value", .str "many"]) l4 = some (.lst [V.str "side", .str "sides", .str "value", .str "many"]) := upd_same
        have eb4 : Same HZ (upd HZ l4 (.lst [V.str "side", .str "sides", .str "value", .str "many"])) := fun b u e0 => (upd_ne (ne_of_none e0 nl4)).trans e0
        generalize upd HZ l4 (.lst [V.str "side", .str "sides", .str "value", .str "many"]) = HY at eb4 hl4 ⊢
        walk_at "rd"
        refine ⟨.inl ⟨rfl, _, SqL.of (eb4 _ _ hl2)⟩, ?_⟩
        walk_at "rd"
        refine ⟨l1, _, .bl true, 3, .bl true, rfl, rfl, SqL.of (eb4 _ _ hl2), rfl, rfl, rfl, rfl, fun m z' hm hz => ?_, ?_⟩
        · rcases (by omega : m = 0 ∨ m = 1 ∨ m = 2) with rfl | rfl | rfl <;> (cases hz; rfl)
        refine ⟨l4, _, _, _, rfl, rfl, SqL.of hl4, rfl, ?_⟩
        exact q _ (eb2.trans eb4)
      · rw [e2] at e
        cases e
        subst e2
        refine ⟨true, R.emB 3 (by decide), fun _ => ⟨rfl, fun a ha => ?_⟩, fun z => Bool.noConfusion z⟩
        walk_at "rd"
        refine ⟨rfl, ?_⟩
        walk_at "rd"
        refine ⟨a, C 3, _, .ref (C 0), decide (3 = 0), rfl, .own _, upd_same, R.ec 3 (by decide), R.eg, R.kit 3 0 (by decide) (by decide), ?_⟩
        walk_at "rd"
        refine ⟨a, C 3, _, .ref (C 1), decide (3 = 1), rfl, .own _, upd_same, R.ec 3 (by decide), R.eg, R.kit 3 1 (by decide) (by decide), ?_⟩
        walk_at "rd"
        refine ⟨a, C 3, _, .ref (C 3), decide (3 = 3), rfl, .own _, upd_same, R.ec 3 (by decide), R.eg, R.kit 3 3 (by decide) (by decide), ?_⟩
        walk_at "rd"
        refine ⟨(by show 3 ≤ sizeLine; decide), fun l1 nl1 => ?_⟩
        have ea1 := (upd_ne (o := .lst [V.bl (decide (3 = 0)), .bl (decide (3 = 1)), .bl (decide (3 = 3))]) (ne_of_none upd_same nl1)).trans (upd_same (H := H1) (a := a) (o := ExK (.ref (C 3)) a))
        have hl1 : upd (upd H1 a (ExK (.ref (C 3)) a)) l1 (.lst [V.bl (decide (3 = 0)), .bl (decide (3 = 1)), .bl (decide (3 = 3))]) l1 = some (.lst [V.bl (decide (3 = 0)), .bl (decide (3 = 1)), .bl (decide (3 = 3))]) := upd_same
        have eb1 : ∀ b u, H b = some u → b ≠ l1 ∧ upd (upd H1 a (ExK (.ref (C 3)) a)) l1 (.lst [V.bl (decide (3 = 0)), .bl (decide (3 = 1)), .bl (decide (3 = 3))]) b = some u := fun b u e0 => by
          have e1 := (upd_ne (o := ExK (.ref (C 3)) a) (ne_of_none (s1 _ _ e0) ha)).trans (s1 _ _ e0)
          exact ⟨ne_of_none e1 nl1, (upd_ne (ne_of_none e1 nl1)).trans e1⟩
        have nal : a ≠ l1 := ne_of_none (upd_same (H := H1) (a := a) (o := ExK (.ref (C 3)) a)) nl1
        generalize upd (upd H1 a (ExK (.ref (C 3)) a)) l1 (.lst [V.bl (decide (3 = 0)), .bl (decide (3 = 1)), .bl (decide (3 = 3))]) = HX at ea1 eb1 hl1 ⊢
        walk_at "rd"
        refine ⟨.inl ⟨rfl, _, SqL.of hl1⟩, ?_⟩
        walk_at "rd"
        refine ⟨a, C 3, _, .ref (C 2), decide (3 = 2), rfl, .own _, ea1, R.ec 3 (by decide), R.eg, R.kit 3 2 (by decide) (by decide), ?_⟩
        walk_at "rd"
        refine ⟨l1, _, _, rfl, rfl, hl1, (by show 3 < sizeLine; decide), ?_⟩
        have ea2 := (upd_ne (o := .lst [V.bl (decide (3 = 0)), .bl (decide (3 = 1)), .bl (decide (3 = 3)), .bl (decide (3 = 2))]) nal).trans ea1
        have hl2 : upd HX l1 (.lst [V.bl (decide (3 = 0)), .bl (decide (3 = 1)), .bl (decide (3 = 3)), .bl (decide (3 = 2))]) l1 = some (.lst [V.bl (decide (3 = 0)), .bl (decide (3 = 1)), .bl (decide (3 = 3)), .bl (decide (3 = 2))]) := upd_same
        have eb2 : Same H (upd HX l1 (.lst [V.bl (decide (3 = 0)), .bl (decide (3 = 1)), .bl (decide (3 = 3)), .bl (decide (3 = 2))])) := fun b u e0 => (upd_ne (eb1 b u e0).1).trans (eb1 b u e0).2
        change tSeq _ _ _ _ (upd HX l1 (.lst [V.bl (decide (3 = 0)), .bl (decide (3 = 1)), .bl (decide (3 = 3)), .bl (decide (3 = 2))]))
        generalize upd HX l1 (.lst [V.bl (decide (3 = 0)), .bl (decide (3 = 1)), .bl (decide (3 = 3)), .bl (decide (3 = 2))]) = HZ at ea2 eb2 hl2 ⊢
        walk_at "rd"
        refine ⟨.inl ⟨rfl, _, SqL.of hl2⟩, ?_⟩
        walk_at "rd"
        refine ⟨l1, _, .bl true, rfl, rfl, SqL.of hl2, rfl, rfl, ?_⟩
        walk_at "rd"
        refine ⟨rfl, ?_⟩
        walk_at "rd"
        refine ⟨a, C 3, _, .type "ValueError", true, rfl, .ty _, ea2, R.ec 3 (by decide), R.eg, R.kitV 3 (by decide), ?_⟩
        walk_at "rd"
        refine ⟨(by show 4 ≤ sizeLine; decide), fun l4 nl4 => ?_⟩
        have hl4 : upd HZ l4 (.lst [V.str "side", .str "sides", .str "value", .str "many"]) l4 = some (.lst [V.str "side", .str "sides", .str "value", .str "many"]) := upd_same
        have eb4 : Same HZ (upd HZ l4 (.lst [V.str "side", .str "sides", .str "value", .str "many"])) := fun b u e0 => (upd_ne (ne_of_none e0 nl4)).trans e0
        generalize upd HZ l4 (.lst [V.str "side", .str "sides", .str "value", .str "many"]) = HY at eb4 hl4 ⊢
        walk_at "rd"
        refine ⟨.inl ⟨rfl, _, SqL.of (eb4 _ _ hl2)⟩, ?_⟩
        walk_at "rd"
        refine ⟨l1, _, .bl true, 2, .bl true, rfl, rfl, SqL.of (eb4 _ _ hl2), rfl, rfl, rfl, rfl, fun m z' hm hz => ?_, ?_⟩
        · rcases (by omega : m = 0 ∨ m = 1) with rfl | rfl <;> (cases hz; rfl)
        refine ⟨l4, _, _, _, rfl, rfl, SqL.of hl4, rfl, ?_⟩
        exact q _ (eb2.trans eb4)
end
end HT
namespace HT
open PySem L2
/-- the two classes, for the law's own rows -/
structure OwnL (P : Program) (w : World) (K : PySem.W.Frag) (mg : Str → Option Value) (base : Heap) (D Z iS' iZ' p1 g1 p2 g2 ggZ : Addr) (dS dZ d1 d2 : FuncData) : Prop where
  gS : mg "Side" = some (.ref D)
  gZ : mg "Sides" = some (.ref Z)
  mS : Mk K D iS'
  mZ : Mk K Z iZ'
  iS : FnOk P w K mg base CX0 5 iS' dS ["self", "data"] (spSInit D)
  iZ : FnOk P w K mg base CX0 6 iZ' dZ ["self", "sides"] (spZInit Z)
  bS : Binds K dS ["self", "data"] []
  bZ : Binds K dZ ["self", "sides"] []
  cS : OwnC K D
  cZ : OwnC K Z
  pD : PropOf K D "data" p1 g1
  fD : FnOk P w K mg base CX0 1 g1 d1 ["self"] (spSData D)
  bD : Binds K d1 ["self"] []
  pZ : PropOf K Z "sides" p2 g2
  fZ : FnOk P w K mg base CX0 1 g2 d2 ["self"] (spZSides Z)
  bZs : Binds K d2 ["self"] []
  geZ : Spc K Z "__getitem__" ggZ
  giZ : PySem.W.fnIn K ggZ = true
  fgZ : FnR P w K mg base CX0 7 ggZ (fun vs H Q _ => spZGetX Z (fun _ => 0) vs H Q fun _ _ _ => False)
theorem sidesAt2 {H : Hp} {l a b : Addr} {d e : Sd} (hl : H l = some (.lst [.ref a, .ref b])) (ha : H a = some (sideV d.o d.s d.m)) (hb : H b = some (sideV e.o e.s e.m)) (sa : SideP d.o d.s d.m) (sb : SideP e.o e.s e.m) : SidesAt H l [.ref a, .ref b] [d, e] :=
  ⟨hl, rfl, by show 1 ≤ 2; decide, by show 2 ≤ 4; decide, fun i x z => match i, z with
    | 0, z => by cases z; exact ⟨a, rfl, ha, sa⟩
    | 1, z => by cases z; exact ⟨b, rfl, hb, sb⟩
    | i + 2, z => by cases z⟩
theorem sidesAt3 {H : Hp} {l a b c : Addr} {d e g : Sd} (hl : H l = some (.lst [.ref a, .ref b, .ref c])) (ha : H a = some (sideV d.o d.s d.m)) (hb : H b = some (sideV e.o e.s e.m)) (hc : H c = some (sideV g.o g.s g.m)) (sa : SideP d.o d.s d.m) (sb : SideP e.o e.s e.m) (sc : SideP g.o g.s g.m) : SidesAt H l [.ref a, .ref b, .ref c] [d, e, g] :=
  ⟨hl, rfl, by show 1 ≤ 3; decide, by show 3 ≤ 4; decide, fun i x z => match i, z with
    | 0, z => by cases z; exact ⟨a, rfl, ha, sa⟩
    | 1, z => by cases z; exact ⟨b, rfl, hb, sb⟩
    | 2, z => by cases z; exact ⟨c, rfl, hc, sc⟩
    | i + 3, z => by cases z⟩
theorem md_up : Mode "up" := .inr (.inl rfl)
theorem md_hu : Mode "half_up" := .inr (.inr (.inr (.inl rfl)))
theorem md_he : Mode "half_even" := .inr (.inr (.inr (.inr rfl)))
def spFits0 : Sp := fun vs H Q _ => vs = [] ∧ ∀ H', Same H H' → Q (.bl true) H'
section
variable {P : Program} {w : World} {K : PySem.W.Frag} {mg : Str → Option Value} {base : Heap} {D Z iS' iZ' p1 g1 p2 g2 ggZ fW : Addr} {dS dZ d1 d2 dW : FuncData}
theorem ok_many {f : Addr} {fd : FuncData} (F : Fun K "_law_many_fits" "_law_many_fits" s_L_many_fits f fd) (O : OwnL P w K mg base D Z iS' iZ' p1 g1 p2 g2 ggZ dS dZ d1 d2) (Wo : Cal P w K mg base "_law_word" 111 ["_law_kind", "_law_one", "_law_value"] (spWord K D Z) fW dW) : FnOk P w K mg base CX0 112 f fd [] spFits0 := by
  refine F.ok sc_L_many_fits (fun vs H Q E h => ?_) (fun cdv A outer s0 H vs Q E hr h => ?_)
  · obtain ⟨rfl, _⟩ := h
    rfl
  · obtain ⟨rfl, q⟩ := h
    have nd := sc_L_many_fits.nd
    refine ⟨_, (pss_cons (ps_set (i := 0) nd rfl (Or.inl rfl) (pe_make O.mZ O.iZ (hr.mono (by decide)) (by rfl) O.gZ O.bZ .nil pass0 (pa_cons (pe_lst (pa_cons (pe_tup (pa_cons pe_int (pa_cons pe_int (pa_cons pe_str pa_nil)))) (pa_cons (pe_tup (pa_cons pe_int (pa_cons pe_int (pa_cons pe_str pa_nil)))) (pa_cons (pe_tup (pa_cons pe_int (pa_cons pe_int (pa_cons pe_str pa_nil)))) pa_nil)))) pa_nil)))
      (pss_cons (ps_set (i := 1) nd rfl (Or.inr rfl) (pe_make O.mZ O.iZ (hr.mono (by decide)) (by rfl) O.gZ O.bZ .nil pass0 (pa_cons (pe_lst (pa_cons (pe_tup (pa_cons pe_int (pa_cons (pe_op op_pow pe_int pe_int) (pa_cons pe_str pa_nil)))) (pa_cons (pe_tup (pa_cons pe_int (pa_cons (pe_op op_add (pe_op op_pow pe_int pe_int) pe_int) (pa_cons pe_str pa_nil)))) (pa_cons (pe_tup (pa_cons pe_int (pa_cons (pe_op op_add (pe_op op_pow pe_int pe_int) pe_int) (pa_cons pe_str pa_nil)))) pa_nil)))) pa_nil)))
      (pss_cons (ps_set (i := 2) nd rfl (Or.inl rfl) (pe_make O.mZ O.iZ (hr.mono (by decide)) (by rfl) O.gZ O.bZ .nil pass0 (pa_cons (pe_lst (pa_cons (pe_tup (pa_cons pe_int (pa_cons pe_int (pa_cons pe_str pa_nil)))) (pa_cons (pe_tup (pa_cons pe_int (pa_cons pe_int (pa_cons pe_str pa_nil)))) pa_nil))) pa_nil)))
      (pss_cons (ps_if (pt_cmpR (op_neD hr.units) (pe_lst (pa_cons (pcl Wo hr (by decide) (by rfl) (pa_cons pe_int (pa_cons (pv 0) (pa_cons pe_int pa_nil)))) (pa_cons (pcl Wo hr (by decide) (by rfl) (pa_cons pe_int (pa_cons (pv 1) (pa_cons pe_int pa_nil)))) (pa_cons (pcl Wo hr (by decide) (by rfl) (pa_cons pe_int (pa_cons (pv 2) (pa_cons pe_int pa_nil)))) pa_nil)))) (pe_op op_rep (pe_lst (pa_cons pe_str pa_nil)) pe_int) (nomark _)) (pss_one (ps_ret pe_bl)) pss_nil)
      (pss_one (ps_ret (pe_and (pe_cmpR (op_eqD hr.units) (pe_ownIx O.geZ O.giZ O.fgZ (hr.mono (by decide)) pass0 (pv 2) pe_int) (pe_tup (pa_cons pe_int (pa_cons pe_int pa_nil))) (nomark _)) (pe_one (pe_cmpR (op_eqD hr.units) (pe_lc (own := [("_law_bad", 3)]) (g := gName 3) (tt := tYes) rfl nd (pi_list (pe_lst (pa_cons pe_non (pa_cons pe_bl pa_nil)))) (blkOk_by (N := ["_law_three", "_law_great_here", "_law_wide", "_law_bad"]) (sc := defScope s_L_many_fits) (by decide +kernel)) (fun _ _ _ _ _ => pg_name (i := 3) nd rfl (Or.inl rfl)) (fun _ _ _ _ _ => pts_nil) (fun _ _ _ _ _ => (pcl Wo hr (by decide) (by rfl) (pa_cons pe_int (pa_cons (pv 1) (pa_cons (pv 3) pa_nil)))))) (pe_op op_rep (pe_lst (pa_cons pe_str pa_nil)) pe_int) (nomark _)))))))))), ?_⟩
    walk_at "rd"
    refine ⟨(by show 3 ≤ sizeLine; decide), fun a0 na0 => ?_⟩
    generalize e_a0 : upd H a0 _ = H1
    have g_a0 : H1 a0 = some (sideV 0 3 "half_up") := by rw [← e_a0]; exact upd_same
    have s_a0 : Same H H1 := by rw [← e_a0]; exact fun b u z => (upd_ne (ne_of_none z na0)).trans z
    clear e_a0
    walk_at "rd"
    refine ⟨(by show 3 ≤ sizeLine; decide), fun a1 na1 => ?_⟩
    generalize e_a1 : upd H1 a1 _ = H2
    have g_a1 : H2 a1 = some (sideV 1 3 "half_up") := by rw [← e_a1]; exact upd_same
    have s_a1 : Same H1 H2 := by rw [← e_a1]; exact fun b u z => (upd_ne (ne_of_none z na1)).trans z
    clear e_a1
    walk_at "rd"
    refine ⟨(by show 3 ≤ sizeLine; decide), fun a2 na2 => ?_⟩
    generalize e_a2 : upd H2 a2 _ = H3
    have g_a2 : H3 a2 = some (sideV 2 3 "half_up") := by rw [← e_a2]; exact upd_same
    have s_a2 : Same H2 H3 := by rw [← e_a2]; exact fun b u z => (upd_ne (ne_of_none z na2)).trans z
    clear e_a2
    walk_at "rd"
    refine ⟨(by show 3 ≤ sizeLine; decide), fun la nla => ?_⟩
    generalize e_la : upd H3 la _ = H4
    have g_la : H4 la = some (.lst [.ref a0, .ref a1, .ref a2]) := by rw [← e_la]; exact upd_same
    have s_la : Same H3 H4 := by rw [← e_la]; exact fun b u z => (upd_ne (ne_of_none z nla)).trans z
    clear e_la
    walk_at "rd"
    have S_three := sidesAt3 (d := ⟨0, 3, "half_up"⟩) (e := ⟨1, 3, "half_up"⟩) (g := ⟨2, 3, "half_up"⟩) g_la ((s_a1.trans (s_a2.trans s_la)) _ _ g_a0) ((s_a2.trans s_la) _ _ g_a1) (s_la _ _ g_a2) ⟨by decide, by decide, by decide, by decide, md_hu⟩ ⟨by decide, by decide, by decide, by decide, md_hu⟩ ⟨by decide, by decide, by decide, by decide, md_hu⟩
    intro three dx_three n_three nd_three ne_three
    refine ⟨three, dx_three, la, _, threeS, rfl, upd_same, S_three.same (fun b u z => (upd_ne (ne_of_none z n_three)).trans ((upd_ne (ne_of_none z nd_three)).trans z)), fun H5 sm_three I_three => ⟨rfl, ?_⟩⟩
    have s_three : Same H4 H5 := fun b u z => sm_three b u (ne_of_none z n_three) ((upd_ne (ne_of_none z n_three)).trans ((upd_ne (ne_of_none z nd_three)).trans z))
    clear sm_three
    walk_at "rd"
    refine ⟨⟨by decide, by decide, by decide⟩, ?_⟩
    walk_at "rd"
    refine ⟨(by show 3 ≤ sizeLine; decide), fun b0 nb0 => ?_⟩
    generalize e_b0 : upd H5 b0 _ = H6
    have g_b0 : H6 b0 = some (sideV 0 (10 ^ (20 : Int).toNat) "up") := by rw [← e_b0]; exact upd_same
    have s_b0 : Same H5 H6 := by rw [← e_b0]; exact fun b u z => (upd_ne (ne_of_none z nb0)).trans z
    clear e_b0
    walk_at "rd"
    refine ⟨⟨by decide, by decide, by decide⟩, ?_⟩
    walk_at "rd"
    refine ⟨(by show 3 ≤ sizeLine; decide), fun b1 nb1 => ?_⟩
    generalize e_b1 : upd H6 b1 _ = H7
    have g_b1 : H7 b1 = some (sideV 3 (10 ^ (19 : Int).toNat + 7) "half_up") := by rw [← e_b1]; exact upd_same
    have s_b1 : Same H6 H7 := by rw [← e_b1]; exact fun b u z => (upd_ne (ne_of_none z nb1)).trans z
    clear e_b1
    walk_at "rd"
    refine ⟨⟨by decide, by decide, by decide⟩, ?_⟩
    walk_at "rd"
    refine ⟨(by show 3 ≤ sizeLine; decide), fun b2 nb2 => ?_⟩
    generalize e_b2 : upd H7 b2 _ = H8
    have g_b2 : H8 b2 = some (sideV 7 (10 ^ (21 : Int).toNat + 1) "half_even") := by rw [← e_b2]; exact upd_same
    have s_b2 : Same H7 H8 := by rw [← e_b2]; exact fun b u z => (upd_ne (ne_of_none z nb2)).trans z
    clear e_b2
    walk_at "rd"
    refine ⟨(by show 3 ≤ sizeLine; decide), fun lb nlb => ?_⟩
    generalize e_lb : upd H8 lb _ = H9
    have g_lb : H9 lb = some (.lst [.ref b0, .ref b1, .ref b2]) := by rw [← e_lb]; exact upd_same
    have s_lb : Same H8 H9 := by rw [← e_lb]; exact fun b u z => (upd_ne (ne_of_none z nlb)).trans z
    clear e_lb
    walk_at "rd"
    have S_great := sidesAt3 (d := ⟨0, 10 ^ 20, "up"⟩) (e := ⟨3, 10 ^ 19 + 7, "half_up"⟩) (g := ⟨7, 10 ^ 21 + 1, "half_even"⟩) g_lb ((s_b1.trans (s_b2.trans s_lb)) _ _ g_b0) ((s_b2.trans s_lb) _ _ g_b1) (s_lb _ _ g_b2) ⟨by decide, by decide, by decide, by decide, md_up⟩ ⟨by decide, by decide, by decide, by decide, md_hu⟩ ⟨by decide, by decide, by decide, by decide, md_he⟩
    intro great dx_great n_great nd_great ne_great
    refine ⟨great, dx_great, lb, _, greatS, rfl, upd_same, S_great.same (fun b u z => (upd_ne (ne_of_none z n_great)).trans ((upd_ne (ne_of_none z nd_great)).trans z)), fun H10 sm_great I_great => ⟨rfl, ?_⟩⟩
    have s_great : Same H9 H10 := fun b u z => sm_great b u (ne_of_none z n_great) ((upd_ne (ne_of_none z n_great)).trans ((upd_ne (ne_of_none z nd_great)).trans z))
    clear sm_great
    walk_at "rd"
    refine ⟨(by show 3 ≤ sizeLine; decide), fun c0 nc0 => ?_⟩
    generalize e_c0 : upd H10 c0 _ = H11
    have g_c0 : H11 c0 = some (sideV 0 501 "up") := by rw [← e_c0]; exact upd_same
    have s_c0 : Same H10 H11 := by rw [← e_c0]; exact fun b u z => (upd_ne (ne_of_none z nc0)).trans z
    clear e_c0
    walk_at "rd"
    refine ⟨(by show 3 ≤ sizeLine; decide), fun c1 nc1 => ?_⟩
    generalize e_c1 : upd H11 c1 _ = H12
    have g_c1 : H12 c1 = some (sideV 1 502 "up") := by rw [← e_c1]; exact upd_same
    have s_c1 : Same H11 H12 := by rw [← e_c1]; exact fun b u z => (upd_ne (ne_of_none z nc1)).trans z
    clear e_c1
    walk_at "rd"
    refine ⟨(by show 2 ≤ sizeLine; decide), fun lc nlc => ?_⟩
    generalize e_lc : upd H12 lc _ = H13
    have g_lc : H13 lc = some (.lst [.ref c0, .ref c1]) := by rw [← e_lc]; exact upd_same
    have s_lc : Same H12 H13 := by rw [← e_lc]; exact fun b u z => (upd_ne (ne_of_none z nlc)).trans z
    clear e_lc
    walk_at "rd"
    have S_wide := sidesAt2 (d := ⟨0, 501, "up"⟩) (e := ⟨1, 502, "up"⟩) g_lc ((s_c1.trans s_lc) _ _ g_c0) (s_lc _ _ g_c1) ⟨by decide, by decide, by decide, by decide, md_up⟩ ⟨by decide, by decide, by decide, by decide, md_up⟩
    intro wide dx_wide n_wide nd_wide ne_wide
    refine ⟨wide, dx_wide, lc, _, wideS, rfl, upd_same, S_wide.same (fun b u z => (upd_ne (ne_of_none z n_wide)).trans ((upd_ne (ne_of_none z nd_wide)).trans z)), fun H14 sm_wide I_wide => ⟨rfl, ?_⟩⟩
    have s_wide : Same H13 H14 := fun b u z => sm_wide b u (ne_of_none z n_wide) ((upd_ne (ne_of_none z n_wide)).trans ((upd_ne (ne_of_none z nd_wide)).trans z))
    clear sm_wide
    walk_at "rd"
    refine ⟨7, _, _, _, rfl, .leadM (I_three.same (s_b0.trans (s_b1.trans (s_b2.trans (s_lb.trans (s_great.trans (s_c0.trans (s_c1.trans (s_lc.trans s_wide))))))))) (by decide) (fun n to => three_many to), fun H15 s_w15 => ?_⟩
    walk_at "rd"
    refine ⟨4, _, _, _, rfl, .callM (I_great.same (s_c0.trans (s_c1.trans (s_lc.trans (s_wide.trans s_w15))))) great_many, fun H16 s_w16 => ?_⟩
    walk_at "rd"
    refine ⟨5, _, _, _, rfl, .getM (I_wide.same (s_w15.trans s_w16)) (by decide) (fun n to => wide_many to), fun H17 s_w17 => ?_⟩
    walk_at "rd"
    refine ⟨(by show 3 ≤ sizeLine; decide), fun r0 nr0 => ?_⟩
    generalize e_r0 : upd H17 r0 _ = H18
    have g_r0 : H18 r0 = some (.lst [.str "many", .str "many", .str "many"]) := by rw [← e_r0]; exact upd_same
    have s_r0 : Same H17 H18 := by rw [← e_r0]; exact fun b u z => (upd_ne (ne_of_none z nr0)).trans z
    clear e_r0
    walk_at "rd"
    refine ⟨(by show 1 ≤ sizeLine; decide), fun r1 nr1 => ?_⟩
    generalize e_r1 : upd H18 r1 _ = H19
    have g_r1 : H19 r1 = some (.lst [.str "many"]) := by rw [← e_r1]; exact upd_same
    have s_r1 : Same H18 H19 := by rw [← e_r1]; exact fun b u z => (upd_ne (ne_of_none z nr1)).trans z
    clear e_r1
    walk_at "rd"
    refine ⟨r1, 3, _, rfl, rfl, g_r1, by decide, by decide, by decide, fun r2 nr2 => ?_⟩
    have g_r2 : upd H19 r2 (.lst (List.replicate (3 : Int).toNat [V.str "many"]).flatten) r2 = some (.lst [.str "many", .str "many", .str "many"]) := upd_same
    have s_r2 : Same H19 (upd H19 r2 (.lst (List.replicate (3 : Int).toNat [V.str "many"]).flatten)) := fun b u z => (upd_ne (ne_of_none z nr2)).trans z
    generalize upd H19 r2 (.lst (List.replicate (3 : Int).toNat [V.str "many"]).flatten) = H20 at g_r2 s_r2 ⊢
    refine ⟨_, _, .lst (SqL.of ((s_r1.trans s_r2) _ _ g_r0)) (.cons (.str _) (.cons (.str _) (.cons (.str _) .nil))), .lst (SqL.of g_r2) (.cons (.str _) (.cons (.str _) (.cons (.str _) .nil))), by decide +kernel, by decide +kernel, ?_⟩
    walk_at "rd"
    obtain ⟨dxw, lw, fmw, xw, hxw, _⟩ := id (I_wide.same (s_w15.trans (s_w16.trans (s_w17.trans (s_r0.trans (s_r1.trans s_r2))))))
    refine ⟨wide, dxw, _, rfl, hxw, wide, .int 502002, wideS, rfl, (I_wide.same (s_w15.trans (s_w16.trans (s_w17.trans (s_r0.trans (s_r1.trans s_r2)))))), .inr ⟨502002, rfl, by decide, fun n to => ⟨fun y => absurd y (wide_ok to).1, fun _ pr H21 npr s_pr g_pr => ?_⟩⟩⟩
    rw [(wide_ok to).2.1, (wide_ok to).2.2] at g_pr
    change H21 pr = some (pairV 251002 502002) at g_pr
    walk_at "rd"
    refine ⟨(by show 2 ≤ sizeLine; decide), fun pq npq => ?_⟩
    generalize e_pq : upd H21 pq _ = H22
    have g_pq : H22 pq = some (pairV 251002 502002) := by rw [← e_pq]; exact upd_same
    have s_pq : Same H21 H22 := by rw [← e_pq]; exact fun b u z => (upd_ne (ne_of_none z npq)).trans z
    clear e_pq
    refine ⟨_, _, dpPair (s_pq _ _ g_pr), dpPair g_pq, shaped_two _ _, shaped_two _ _, ?_⟩
    refine ⟨true, rfl, ?_⟩
    rw [if_pos rfl]
    walk_at "rd"
    refine ⟨(by show 2 ≤ sizeLine; decide), fun k0 nk0 => ?_⟩
    generalize e_k0 : upd H22 k0 _ = H23
    have g_k0 : H23 k0 = some (.lst [.non, .bl true]) := by rw [← e_k0]; exact upd_same
    have s_k0 : Same H22 H23 := by rw [← e_k0]; exact fun b u z => (upd_ne (ne_of_none z nk0)).trans z
    clear e_k0
    refine ⟨k0, rfl, ⟨_, SqL.of g_k0⟩, fun Dc nDc => ?_⟩
    refine lc_list (K := K) (a := k0) (xs := [.non, .bl true]) (fun i H3 => H3 Dc = some (.lst (List.replicate i (V.str "value"))) ∧ Same H23 H3) ⟨upd_same, fun b u z => (upd_ne (ne_of_none z nDc)).trans z⟩ (fun _ _ _ ⟨_, sm⟩ => SqL.of (sm _ _ g_k0)) ?_ ?_
    · rintro i y H3 hy ⟨hD, sm⟩
      have ty : ∃ T, Th H3 y T ∧ isI T = false ∧ i < 2 := by
        match i, hy with
        | 0, hy => cases hy; exact ⟨_, .non, rfl, by decide⟩
        | 1, hy => cases hy; exact ⟨_, .bl _, rfl, by decide⟩
        | i + 2, hy => cases hy
      obtain ⟨T, ty, ni, i2⟩ := ty
      refine ⟨rfl, ?_⟩
      walk_at "rd"
      refine ⟨4, _, _, _, rfl, .callZ ((I_great.same (s_c0.trans (s_c1.trans (s_lc.trans (s_wide.trans (s_w15.trans (s_w16.trans (s_w17.trans (s_r0.trans (s_r1.trans (s_r2.trans (s_pr.trans (s_pq.trans s_k0))))))))))))).same sm) ty ni, fun H4 s4 => ?_⟩
      refine ⟨_, s4 _ _ hD, (by rw [List.length_replicate]; exact Nat.lt_trans i2 (by decide)), ?_, fun b u z => (upd_ne (ne_of_none z nDc)).trans (s4 _ _ (sm _ _ z))⟩
      rw [List.replicate_succ']
      exact upd_same
    rintro H24 ⟨g_Dc, s_Dc⟩
    change H24 Dc = some (.lst [.str "value", .str "value"]) at g_Dc
    walk_at "rd"
    refine ⟨(by show 1 ≤ sizeLine; decide), fun v1 nv1 => ?_⟩
    generalize e_v1 : upd H24 v1 _ = H25
    have g_v1 : H25 v1 = some (.lst [.str "value"]) := by rw [← e_v1]; exact upd_same
    have s_v1 : Same H24 H25 := by rw [← e_v1]; exact fun b u z => (upd_ne (ne_of_none z nv1)).trans z
    clear e_v1
    walk_at "rd"
    refine ⟨v1, 2, _, rfl, rfl, g_v1, by decide, by decide, by decide, fun v2 nv2 => ?_⟩
    have g_v2 : upd H25 v2 (.lst (List.replicate (2 : Int).toNat [V.str "value"]).flatten) v2 = some (.lst [.str "value", .str "value"]) := upd_same
    have s_v2 : Same H25 (upd H25 v2 (.lst (List.replicate (2 : Int).toNat [V.str "value"]).flatten)) := fun b u z => (upd_ne (ne_of_none z nv2)).trans z
    generalize upd H25 v2 (.lst (List.replicate (2 : Int).toNat [V.str "value"]).flatten) = H26 at g_v2 s_v2 ⊢
    refine ⟨_, _, .lst (SqL.of ((s_v1.trans s_v2) _ _ g_Dc)) (.cons (.str _) (.cons (.str _) .nil)), .lst (SqL.of g_v2) (.cons (.str _) (.cons (.str _) .nil)), by decide +kernel, by decide +kernel, ?_⟩
    have fin := q _ (s_a0.trans (s_a1.trans (s_a2.trans (s_la.trans (s_three.trans (s_b0.trans (s_b1.trans (s_b2.trans (s_lb.trans (s_great.trans (s_c0.trans (s_c1.trans (s_lc.trans (s_wide.trans (s_w15.trans (s_w16.trans (s_w17.trans (s_r0.trans (s_r1.trans (s_r2.trans (s_pr.trans (s_pq.trans (s_k0.trans (s_Dc.trans (s_v1.trans s_v2)))))))))))))))))))))))))
    exact fin
end
end HT
namespace HT
open PySem PyProof.Rows
section
variable {prog : Program} {w : World} {A : Around} {E : Value → Shared → Prop} {s : Shared}
theorem sliceApplied_rev {sl : Addr} {vl vu vs : Value} {Q : Int × Int × Nat → Shared → Prop} (hs : s.heap.IsSliceOf sl vl vu vs) (pl : IsPart vl none) (pu : IsPart vu none) (ps : IsPart vs (some (-1)))
    (h : Q (2, -1, 3) s) : wpAny (model prog w) A (Builtin.Slice.sliceApplied (.ref sl) (pure (3 : Int))) Q E s := by
  obtain ⟨os, hos, hcs, hds⟩ := id hs
  unfold Builtin.Slice.sliceApplied Builtin.Slice.sliceFields
  refine wpAny_bind (wpAny_bind (wpAny_field hos hds (x := vl) rfl (wpAny_bind (wpAny_field hos hds (x := vu) rfl (wpAny_bind (wpAny_field hos hds (x := vs) rfl (wpAny_pure ?_)))))))
  refine wpAny_bind (slicePart_ ps ?_)
  show wpAny _ _ (if ((-1 : Int) == 0) = true then _ else _) _ _ s
  rw [if_neg (by decide)]
  refine wpAny_bind (slicePart_ pl (wpAny_bind (slicePart_ pu (wpAny_bind (wpAny_pure ?_)))))
  show wpAny _ _ (match Builtin.Slice.sliceAdjust none none (-1) (3 : Int) with | (lo, hi) => pure (lo, (-1 : Int), Builtin.Slice.slicePlaces lo hi (-1))) _ _ s
  rw [show Builtin.Slice.sliceAdjust none none (-1) (3 : Int) = (2, -1) from by decide]
  show wpAny _ _ (pure ((2 : Int), (-1 : Int), Builtin.Slice.slicePlaces 2 (-1) (-1))) _ _ s
  rw [show Builtin.Slice.slicePlaces 2 (-1) (-1) = 3 from by decide]
  exact wpAny_pure h
theorem getItem_rev3 {t sl : Addr} {x y z : Value} {vl vu vs : Value} {Q : Value → Shared → Prop} (ht : IsTup s.heap t #[x, y, z]) (hs : s.heap.IsSliceOf sl vl vu vs) (pl : IsPart vl none) (pu : IsPart vu none) (ps : IsPart vs (some (-1)))
    (h : Q (.ref s.heap.objs.size) { s with heap := s.heap.push { cls := .type "tuple", data := .seq #[z, y, x] } }) : wpAny (model prog w) A (getItem (.ref t) (.ref sl)) Q E s := by
  have htake : sizeOk (.seq #[z, y, x]) := by
    show 3 ≤ sizeLine
    decide
  obtain ⟨os, hos, hcs, hds⟩ := id hs
  have hTs : s.TypeIs (.ref sl) "slice" := ⟨os, hos, hcs⟩
  unfold getItem
  try with_reducible refine wpAny_holding ?_
  first | refine wpAny_bind (wpAny_pure ?_) | skip
  refine wpAny_bind (wpAny_sequenceKey ht.typeIs (by decide) ?_)
  refine wpAny_bind (wpAny_callSpecial?_slot (name := Str.ofString "__getitem__") ht.typeIs PyProof.Rows.slot_tuple_getitem
    (wpAny_call_entry PyProof.Rows.slot_tuple_getitem ht.typeIs entry_tuple_getitem ?_ (args_tuple_getitem _ _)))
  show wpAny _ _ (Builtin.Tuple.tupleItemsOf (.ref t) >>= _) _ _ s
  refine wpAny_bind (tupleItemsOf_ ht ?_)
  refine wpAny_bind (wpAny_typeOf hTs ?_)
  rw [if_pos (by decide)]
  refine wpAny_bind (sliceApplied_rev hs pl pu ps ?_)
  show wpAny _ _ (if (((2 : Int)) == 0 && (-1 : Int) == 1 && (3 == 3)) = true then _ else _) _ _ s
  rw [if_neg (by decide)]
  have e : ((List.range 3).filterMap fun (m : Nat) => (#[x, y, z] : Array Value)[((2 : Int) + (m : Int) * -1).toNat]?).toArray = #[z, y, x] := rfl
  rw [e]
  first
    | exact wpAny_bind (m := Builtin.Tuple.tupleExact _) (wpAny_newObj_type (wpAny_pure ⟨_, rfl, wpAny_pure h⟩) htake)
    | exact wpAny_bind (m := Builtin.Tuple.tupleExact _) (wpAny_newObj_type (wpAny_bind (wpAny_pure (wpAny_pure ⟨_, rfl, wpAny_pure h⟩))) htake)
    | exact wpAny_bind (wpAny_bind (m := Builtin.Tuple.tupleExact _) (wpAny_newObj_type (wpAny_pure (wpAny_pure ⟨_, rfl, wpAny_pure h⟩)) htake))
    | exact wpAny_bind (wpAny_bind (m := Builtin.Tuple.tupleExact _) (wpAny_newObj_type (wpAny_pure ⟨_, rfl, wpAny_pure h⟩) htake))
end
end HT
namespace L2
open PySem PySem.Spec PyProof.Rows
section
variable {X : Cx}
/-- t[::-1] of a tuple of three -/
def tRev3 (K : PySem.W.Frag) (te : TE) : TE := fun σ H Q => te σ H fun x H1 => ∃ (a : Addr) (u v w : V), x = .ref a ∧ SqT K H1 a [u, v, w] ∧ ∀ p, H1 p = none → Q (.ref p) (upd H1 p (.tup [w, v, u]))
theorem pe_rev3 {e : Expr} {te : TE} {k : Nat} {p1 p2 p3 pos : Pos} (he : PE X e te) : PE X (.Subscript e (.Slice none none (some (.UnaryOp .USub (.Constant (.int 1) k p1) p2)) p3) pos) (tRev3 X.K te) := by
  refine ⟨fun pins s σ H Q I h => ?_⟩
  refine Subscript_ (thn (he.run pins s σ H _ I h) fun v s1 ⟨x, H1, I1, r1, q1⟩ => ?_)
  obtain ⟨a, xu, xv, xw, ex, hx, q⟩ := q1
  subst ex
  cases r1
  have hst : PO X (some (.UnaryOp .USub (.Constant (.int 1) k p1) p2)) (tPart (tUn (rU fun i => .int (-i)) (tC (.int 1)))) := po_some (pe_un un_neg pe_int)
  refine wpAny_Slice (thn (po_none.run pins s1 σ H1 (fun o H2 => o = none ∧ H2 = H1) I1 ⟨rfl, rfl⟩) fun vl s2 ⟨l, H2, I2, pl, el, e2⟩ => ?_)
  subst el e2
  refine thn (po_none.run pins s2 σ H2 (fun o H3 => o = none ∧ H3 = H2) I2 ⟨rfl, rfl⟩) fun vu s3 ⟨u, H3, I3, pu, eu, e3⟩ => ?_
  subst eu e3
  refine thn (hst.run pins s3 σ H3 (fun o H4 => o = some (-1) ∧ H4 = H3) I3 ⟨1, rfl, -1, rfl, rfl, rfl⟩) fun vs s4 ⟨o, H4, I4, ps, eo, e4⟩ => ?_
  subst eo e4
  have I5 : Inv X pins σ H4 { s4 with heap := s4.heap.push { cls := .type "slice", data := .fields #[vl, vu, vs] } } := I4.kept (t' := s4.toks) fun b ob q => Heap.get?_push_of_some _ q
  obtain ⟨its, r, ht, hz⟩ := I5.tuple hx
  show wpAny (model X.prog X.w) X.A (subscriptTail e (.Slice none none (some (.UnaryOp .USub (.Constant (.int 1) k p1) p2)) p3) (.ref a) (.ref s4.heap.objs.size)) (EP X pins σ Q) X.xe { s4 with heap := s4.heap.push { cls := .type "slice", data := .fields #[vl, vu, vs] } }
  refine tail_any (ops := [.ref a, .ref s4.heap.objs.size]) ht.typeIs (PyProof.Rows.slot_tuple_getitem.lookup) ?_ (by with_unfolding_all rfl)
  obtain ⟨vx, vy, vz, rx, ry, rz, rfl⟩ : ∃ vx vy vz, RelV xu vx ∧ RelV xv vy ∧ RelV xw vz ∧ its = [vx, vy, vz] := by
    cases r with
    | cons a1 r1 =>
      cases r1 with
      | cons a2 r2 =>
        cases r2 with
        | cons a3 r3 =>
          cases r3
          exact ⟨_, _, _, a1, a2, a3, rfl⟩
  refine HT.getItem_rev3 (x := vx) (y := vy) (z := vz) ht (Heap.IsSliceOf.new _ vl vu vs) pl pu ps ?_
  refine ⟨.ref _, _, I5.laid (t' := s4.toks) (o := .tup [xw, xv, xu]) (fun b ob q => Heap.get?_push_of_some _ q) (Nat.le_refl _) ?_, rfl, q _ (I5.hok.fresh (Nat.le_refl _))⟩
  exact ⟨(by show 3 ≤ sizeLine; decide), _, .cons rz (.cons ry (.cons rx .nil)), IsTup.new _ _⟩
end
end L2
namespace HT
open PySem L2
theorem Src.nl {a c b : Addr} {H : Hp} {t : Nat} {u : HO} (S : Src H a c t) (h : H b = some u) (n : ∀ zs, u ≠ .lst zs) : b ≠ a ∧ b ≠ c := by
  obtain ⟨cs, e, l⟩ := S.cl
  exact ⟨fun z => by rw [z, S.ob] at h; exact n _ (Option.some.inj h).symm, fun z => by rw [z, e] at h; exact n _ (Option.some.inj h).symm⟩
theorem SidesAt.nsrc {a c l : Addr} {H : Hp} {t : Nat} {xs : List V} {ss : List Sd} (T : SidesAt H l xs ss) (S : Src H a c t) : l ≠ a ∧ l ≠ c := by
  obtain ⟨cs, e, l0, _⟩ := S.cl
  obtain ⟨d, hd⟩ : ∃ d, ss[0]? = some d := ⟨ss[0]'T.l1, List.getElem?_eq_getElem _⟩
  obtain ⟨p, x0, hp, _⟩ := T.at_ 0 d hd
  refine ⟨fun z => ?_, fun z => ?_⟩
  · have h := T.hl
    rw [z, S.ob] at h
    have h2 : [V.ref c, V.int (t : Int)] = xs := by injection (Option.some.inj h)
    rw [← h2] at x0
    have h3 : V.ref c = V.ref p := Option.some.inj x0
    injection h3 with h3
    rw [← h3, e] at hp
    cases hp
  · have h := T.hl
    rw [z, e] at h
    have h2 : cs.map V.int = xs := by injection (Option.some.inj h)
    rw [← h2, List.getElem?_map] at x0
    obtain ⟨k, _, e2⟩ := Option.map_eq_some_iff.mp x0
    cases e2
theorem SideI.oth {D a c x : Addr} {H H' : Hp} {t : Nat} {o s : Int} {m : Str} (I : SideI D H x o s m) (S : Src H a c t) (e : Oth a c H H') : SideI D H' x o s m := by
  obtain ⟨dx, p, q, h1, h2, h3, h4⟩ := I
  have n1 := S.nl h1 (fun zs z => by cases z)
  have n2 := S.nt h2
  have n3 := S.nt h3
  exact ⟨dx, p, q, e _ _ h1 n1.1 n1.2, e _ _ h2 n2.1 n2.2, e _ _ h3 n3.1 n3.2, h4⟩
theorem SidesI.oth {Z a c x : Addr} {H H' : Hp} {t : Nat} {ss : List Sd} (I : SidesI Z H x ss) (S : Src H a c t) (e : Oth a c H H') : SidesI Z H' x ss := by
  obtain ⟨dx, l, fm, xs, h1, h2⟩ := I
  have n1 := S.nl h1 (fun zs z => by cases z)
  have n2 := h2.nsrc S
  exact ⟨dx, l, fm, xs, e _ _ h1 n1.1 n1.2, h2.oth S n2.1 n2.2 e⟩
/-- no side and no list of sides -/
def OddP (K : PySem.W.Frag) (H : Hp) (y : V) : Prop := BadS K H y ∧ BadL K H y ∧ ∃ T, Th H y T
theorem OddP.same {K : PySem.W.Frag} {H H' : Hp} {y : V} (h : OddP K H y) (e : Same H H') : OddP K H' y := ⟨h.1.same e, h.2.1.same e, let ⟨T, t⟩ := h.2.2; ⟨T, t.same e⟩⟩
theorem no_zero : NoMode (.str "zero") := ⟨by decide +kernel, by decide +kernel⟩
def spOdd (D Z : Addr) : Sp := fun vs H Q _ => ∃ (a c x g p : Addr) (t : Nat) (o s : Int) (m : Str) (ss : List Sd), vs = [.ref a, .ref x, .ref g, .ref p] ∧ Src H a c t ∧ t + 10 < 2 ^ 30 ∧ SideI D H x o s m ∧ SidesI Z H g ss ∧ H p = some (sideV o s m) ∧ SideP o s m ∧
  ∀ H', Src H' a c (t + 1) → Oth a c H H' → Q (.bl true) H'
section
variable {P : Program} {w : World} {K : PySem.W.Frag} {mg : Str → Option Value} {base : Heap} {D Z iS' iZ' p1 g1 p2 g2 ggZ fW fP : Addr} {dS dZ d1 d2 dW dP : FuncData}
theorem ok_odd {f : Addr} {fd : FuncData} (F : Fun K "_law_odd_fits" "_law_odd_fits" s_L_odd_fits f fd) (B : Blt mg) (O : OwnL P w K mg base D Z iS' iZ' p1 g1 p2 g2 ggZ dS dZ d1 d2) (Pk : Cal P w K mg base "_law_pick" 2 ["_law_source_here", "_law_values"] spPick fP dP) (Wo : Cal P w K mg base "_law_word" 111 ["_law_kind", "_law_one", "_law_value"] (spWord K D Z) fW dW) : FnOk P w K mg base CX0 112 f fd ["_law_source_here", "_law_side_here", "_law_group", "_law_data"] (spOdd D Z) := by
  refine F.ok sc_L_odd_fits (fun vs H Q E h => ?_) (fun cdv A outer s0 H vs Q E hr h => ?_)
  · obtain ⟨a, c, x, g, p, t, o, s, m, ss, rfl, _⟩ := h
    rfl
  · obtain ⟨a, c, x, g, p, t, o, s, m, ss, rfl, SR, ht, SI, ZI, hp, SP, q⟩ := h
    have nd := sc_L_odd_fits.nd
    refine ⟨_, (pss_cons (ps_set (i := 4) nd rfl (Or.inl rfl) (pe_lst (pa_cons pe_non (pa_cons pe_bl (pa_cons pe_str (pa_cons (pe_tup pa_nil) (pa_cons (pe_lst pa_nil) (pa_cons pe_dnewK (pa_cons pe_int (pa_cons (pe_tup (pa_cons pe_int (pa_cons pe_int pa_nil))) (pa_cons (pe_lst (pa_cons pe_int (pa_cons pe_int (pa_cons pe_str pa_nil)))) (pa_cons (pe_tup (pa_cons pe_int (pa_cons pe_int (pa_cons pe_str pa_nil)))) (pa_cons (pe_lst (pa_cons (pe_tup (pa_cons pe_int (pa_cons pe_int (pa_cons pe_str pa_nil)))) pa_nil)) (pa_cons (pe_tup (pa_cons pe_int pa_nil)) (pa_cons (pe_lst (pa_cons pe_non pa_nil)) pa_nil)))))))))))))))
      (pss_cons (ps_set (i := 5) nd rfl (Or.inr rfl) (pcl Pk hr (by decide) (by rfl) (pa_cons (pv 0) (pa_cons (pe_op op_cat (pv 4) (pe_lst (pa_cons (pe_lst (pa_cons (pe_lst (pa_cons (pv 3) pa_nil)) pa_nil)) (pa_cons (pe_tup (pa_cons pe_int (pa_cons pe_bl (pa_cons pe_str pa_nil)))) (pa_cons (pe_lst (pa_cons (pv 3) (pa_cons pe_non pa_nil))) (pa_cons (pe_tup (pa_cons (pv 3) pa_nil)) (pa_cons (pe_op op_rep (pe_lst (pa_cons (pv 3) pa_nil)) pe_int) (pa_cons (pe_rev3 (pv 3)) pa_nil)))))))) pa_nil))))
      (pss_cons (ps_if (pt_cmpR (op_neD hr.units) (pe_lc (own := [("_law_kind", 6)]) (g := gName 6) (tt := tYes) rfl nd (pi_range1 (by rfl) B.range (pa_cons pe_int pa_nil)) (blkOk_by (N := ["_law_source_here", "_law_side_here", "_law_group", "_law_data", "_law_odd", "_law_value", "_law_kind", "_law_words", "_law_other"]) (sc := defScope s_L_odd_fits) (by decide +kernel)) (fun _ _ _ _ _ => pg_name (i := 6) nd rfl (Or.inl rfl)) (fun _ _ _ _ _ => pts_nil) (fun _ _ _ _ _ => (pcl Wo hr (by decide) (by rfl) (pa_cons (pv 6) (pa_cons pe_non (pa_cons (pv 5) pa_nil)))))) (pe_lst (pa_cons pe_str (pa_cons pe_str pa_nil))) (nomark _)) (pss_one (ps_ret pe_bl)) pss_nil)
      (pss_cons (ps_set (i := 7) nd rfl (Or.inl rfl) (pe_lst (pa_cons (pcl Wo hr (by decide) (by rfl) (pa_cons pe_int (pa_cons pe_non (pa_cons (pe_lst (pa_cons (pv 3) pa_nil)) pa_nil)))) (pa_cons (pcl Wo hr (by decide) (by rfl) (pa_cons pe_int (pa_cons pe_non (pa_cons (pv 3) pa_nil)))) (pa_cons (pcl Wo hr (by decide) (by rfl) (pa_cons pe_int (pa_cons pe_non (pa_cons (pe_tup (pa_cons (pv 3) pa_nil)) pa_nil)))) pa_nil)))))
      (pss_cons (ps_if (pt_cmpR (op_neD hr.units) (pv 7) (pe_lst (pa_cons pe_str (pa_cons pe_str (pa_cons pe_str pa_nil)))) (nomark _)) (pss_one (ps_ret pe_bl)) pss_nil)
      (pss_cons (ps_for PassesOwn.never rfl (pi_list (pe_lst (pa_cons (pv 5) (pa_cons (pv 3) (pa_cons (pe_lst (pa_cons (pv 3) pa_nil)) (pa_cons pe_non (pa_cons pe_int (pa_cons (pe_tup pa_nil) (pa_cons pe_str pa_nil))))))))) (pg_name (i := 8) nd rfl (Or.inr rfl)) (pss_one (ps_if (pt_cmpR (op_neD hr.units) (pe_lst (pa_cons (pcl Wo hr (by decide) (by rfl) (pa_cons pe_int (pa_cons (pv 1) (pa_cons (pv 8) pa_nil)))) (pa_cons (pcl Wo hr (by decide) (by rfl) (pa_cons pe_int (pa_cons (pv 2) (pa_cons (pv 8) pa_nil)))) (pa_cons (pcl Wo hr (by decide) (by rfl) (pa_cons pe_int (pa_cons (pv 2) (pa_cons (pv 8) pa_nil)))) pa_nil)))) (pe_op op_rep (pe_lst (pa_cons pe_str pa_nil)) pe_int) (nomark _)) (pss_one (ps_ret pe_bl)) pss_nil)))
      (pss_cons (ps_for PassesOwn.never rfl (pi_list (pe_lst (pa_cons pe_non (pa_cons pe_bl (pa_cons pe_bl (pa_cons pe_str (pa_cons (pe_lst pa_nil) (pa_cons (pe_tup (pa_cons pe_int pa_nil)) (pa_cons pe_dnewK pa_nil))))))))) (pg_name (i := 8) nd rfl (Or.inr rfl)) (pss_cons (ps_if (pt_cmpR (op_neD hr.units) (pe_lst (pa_cons (pcl Wo hr (by decide) (by rfl) (pa_cons pe_int (pa_cons (pv 1) (pa_cons (pv 8) pa_nil)))) (pa_cons (pcl Wo hr (by decide) (by rfl) (pa_cons pe_int (pa_cons (pv 1) (pa_cons (pv 8) pa_nil)))) pa_nil))) (pe_op op_rep (pe_lst (pa_cons pe_str pa_nil)) pe_int) (nomark _)) (pss_one (ps_ret pe_bl)) pss_nil)
      (pss_one (ps_if (pt_cmpR (op_neD hr.units) (pe_lc (own := [("_law_kind", 6)]) (g := gName 6) (tt := tYes) rfl nd (pi_list (pe_lst (pa_cons pe_int (pa_cons pe_int (pa_cons pe_int (pa_cons pe_int pa_nil)))))) (blkOk_by (N := ["_law_source_here", "_law_side_here", "_law_group", "_law_data", "_law_odd", "_law_value", "_law_kind", "_law_words", "_law_other"]) (sc := defScope s_L_odd_fits) (by decide +kernel)) (fun _ _ _ _ _ => pg_name (i := 6) nd rfl (Or.inl rfl)) (fun _ _ _ _ _ => pts_nil) (fun _ _ _ _ _ => (pcl Wo hr (by decide) (by rfl) (pa_cons (pv 6) (pa_cons (pv 2) (pa_cons (pv 8) pa_nil)))))) (pe_op op_rep (pe_lst (pa_cons pe_str pa_nil)) pe_int) (nomark _)) (pss_one (ps_ret pe_bl)) pss_nil))))
      (pss_one (ps_ret (pe_cmpR (op_eqD hr.units) (pe_prop (pv 1) O.cS.cls O.pD O.fD (hr.mono (by decide)) O.bD .nil pass0 rfl) (pv 3) (nomark _))))))))))), ?_⟩
    have S_H := SR
    walk_at "rd"
    refine ⟨(by show 0 ≤ sizeLine; decide), fun t0 nt0 => ?_⟩
    generalize e_t0 : upd H t0 _ = H1
    have g_t0 : H1 t0 = some (.tup []) := by rw [← e_t0]; exact upd_same
    have s_t0 : Same H H1 := by rw [← e_t0]; exact fun b u z => (upd_ne (ne_of_none z nt0)).trans z
    clear e_t0
    have S_H1 := S_H.of_same s_t0
    have x_t0 := S_H.na nt0
    walk_at "rd"
    refine ⟨(by show 0 ≤ sizeLine; decide), fun l0 nl0 => ?_⟩
    generalize e_l0 : upd H1 l0 _ = H2
    have g_l0 : H2 l0 = some (.lst []) := by rw [← e_l0]; exact upd_same
    have s_l0 : Same H1 H2 := by rw [← e_l0]; exact fun b u z => (upd_ne (ne_of_none z nl0)).trans z
    clear e_l0
    have S_H2 := S_H1.of_same s_l0
    have x_l0 := S_H1.na nl0
    walk_at "rd"
    refine fun d0 nd0 => ?_
    generalize e_d0 : upd H2 d0 _ = H3
    have g_d0 : H3 d0 = some (.dK []) := by rw [← e_d0]; exact upd_same
    have s_d0 : Same H2 H3 := by rw [← e_d0]; exact fun b u z => (upd_ne (ne_of_none z nd0)).trans z
    clear e_d0
    have S_H3 := S_H2.of_same s_d0
    have x_d0 := S_H2.na nd0
    walk_at "rd"
    refine ⟨(by show 2 ≤ sizeLine; decide), fun t1 nt1 => ?_⟩
    generalize e_t1 : upd H3 t1 _ = H4
    have g_t1 : H4 t1 = some (.tup [.int 0, .int 5]) := by rw [← e_t1]; exact upd_same
    have s_t1 : Same H3 H4 := by rw [← e_t1]; exact fun b u z => (upd_ne (ne_of_none z nt1)).trans z
    clear e_t1
    have S_H4 := S_H3.of_same s_t1
    have x_t1 := S_H3.na nt1
    walk_at "rd"
    refine ⟨(by show 3 ≤ sizeLine; decide), fun l1 nl1 => ?_⟩
    generalize e_l1 : upd H4 l1 _ = H5
    have g_l1 : H5 l1 = some (.lst [.int 0, .int 5, .str "up"]) := by rw [← e_l1]; exact upd_same
    have s_l1 : Same H4 H5 := by rw [← e_l1]; exact fun b u z => (upd_ne (ne_of_none z nl1)).trans z
    clear e_l1
    have S_H5 := S_H4.of_same s_l1
    have x_l1 := S_H4.na nl1
    walk_at "rd"
    refine ⟨(by show 3 ≤ sizeLine; decide), fun t2 nt2 => ?_⟩
    generalize e_t2 : upd H5 t2 _ = H6
    have g_t2 : H6 t2 = some (.tup [.int 0, .int 0, .str "up"]) := by rw [← e_t2]; exact upd_same
    have s_t2 : Same H5 H6 := by rw [← e_t2]; exact fun b u z => (upd_ne (ne_of_none z nt2)).trans z
    clear e_t2
    have S_H6 := S_H5.of_same s_t2
    have x_t2 := S_H5.na nt2
    walk_at "rd"
    refine ⟨(by show 3 ≤ sizeLine; decide), fun t3 nt3 => ?_⟩
    generalize e_t3 : upd H6 t3 _ = H7
    have g_t3 : H7 t3 = some (.tup [.int 0, .int 5, .str "zero"]) := by rw [← e_t3]; exact upd_same
    have s_t3 : Same H6 H7 := by rw [← e_t3]; exact fun b u z => (upd_ne (ne_of_none z nt3)).trans z
    clear e_t3
    have S_H7 := S_H6.of_same s_t3
    have x_t3 := S_H6.na nt3
    walk_at "rd"
    refine ⟨(by show 1 ≤ sizeLine; decide), fun l2 nl2 => ?_⟩
    generalize e_l2 : upd H7 l2 _ = H8
    have g_l2 : H8 l2 = some (.lst [.ref t3]) := by rw [← e_l2]; exact upd_same
    have s_l2 : Same H7 H8 := by rw [← e_l2]; exact fun b u z => (upd_ne (ne_of_none z nl2)).trans z
    clear e_l2
    have S_H8 := S_H7.of_same s_l2
    have x_l2 := S_H7.na nl2
    walk_at "rd"
    refine ⟨(by show 1 ≤ sizeLine; decide), fun t4 nt4 => ?_⟩
    generalize e_t4 : upd H8 t4 _ = H9
    have g_t4 : H9 t4 = some (.tup [.int 5]) := by rw [← e_t4]; exact upd_same
    have s_t4 : Same H8 H9 := by rw [← e_t4]; exact fun b u z => (upd_ne (ne_of_none z nt4)).trans z
    clear e_t4
    have S_H9 := S_H8.of_same s_t4
    have x_t4 := S_H8.na nt4
    walk_at "rd"
    refine ⟨(by show 1 ≤ sizeLine; decide), fun l3 nl3 => ?_⟩
    generalize e_l3 : upd H9 l3 _ = H10
    have g_l3 : H10 l3 = some (.lst [.non]) := by rw [← e_l3]; exact upd_same
    have s_l3 : Same H9 H10 := by rw [← e_l3]; exact fun b u z => (upd_ne (ne_of_none z nl3)).trans z
    clear e_l3
    have S_H10 := S_H9.of_same s_l3
    have x_l3 := S_H9.na nl3
    walk_at "rd"
    refine ⟨(by show 13 ≤ sizeLine; decide), fun la nla => ?_⟩
    generalize e_la : upd H10 la _ = H11
    have g_la : H11 la = some (.lst [.non, .bl true, .str "up", .ref t0, .ref l0, .ref d0, .int 7, .ref t1, .ref l1, .ref t2, .ref l2, .ref t4, .ref l3]) := by rw [← e_la]; exact upd_same
    have s_la : Same H10 H11 := by rw [← e_la]; exact fun b u z => (upd_ne (ne_of_none z nla)).trans z
    clear e_la
    have S_H11 := S_H10.of_same s_la
    have x_la := S_H10.na nla
    walk_at "rd"
    refine ⟨(by show 1 ≤ sizeLine; decide), fun m0 nm0 => ?_⟩
    generalize e_m0 : upd H11 m0 _ = H12
    have g_m0 : H12 m0 = some (.lst [.ref p]) := by rw [← e_m0]; exact upd_same
    have s_m0 : Same H11 H12 := by rw [← e_m0]; exact fun b u z => (upd_ne (ne_of_none z nm0)).trans z
    clear e_m0
    have S_H12 := S_H11.of_same s_m0
    have x_m0 := S_H11.na nm0
    walk_at "rd"
    refine ⟨(by show 1 ≤ sizeLine; decide), fun m1 nm1 => ?_⟩
    generalize e_m1 : upd H12 m1 _ = H13
    have g_m1 : H13 m1 = some (.lst [.ref m0]) := by rw [← e_m1]; exact upd_same
    have s_m1 : Same H12 H13 := by rw [← e_m1]; exact fun b u z => (upd_ne (ne_of_none z nm1)).trans z
    clear e_m1
    have S_H13 := S_H12.of_same s_m1
    have x_m1 := S_H12.na nm1
    walk_at "rd"
    refine ⟨(by show 3 ≤ sizeLine; decide), fun t5 nt5 => ?_⟩
    generalize e_t5 : upd H13 t5 _ = H14
    have g_t5 : H14 t5 = some (.tup [.int 0, .bl true, .str "up"]) := by rw [← e_t5]; exact upd_same
    have s_t5 : Same H13 H14 := by rw [← e_t5]; exact fun b u z => (upd_ne (ne_of_none z nt5)).trans z
    clear e_t5
    have S_H14 := S_H13.of_same s_t5
    have x_t5 := S_H13.na nt5
    walk_at "rd"
    refine ⟨(by show 2 ≤ sizeLine; decide), fun m2 nm2 => ?_⟩
    generalize e_m2 : upd H14 m2 _ = H15
    have g_m2 : H15 m2 = some (.lst [.ref p, .non]) := by rw [← e_m2]; exact upd_same
    have s_m2 : Same H14 H15 := by rw [← e_m2]; exact fun b u z => (upd_ne (ne_of_none z nm2)).trans z
    clear e_m2
    have S_H15 := S_H14.of_same s_m2
    have x_m2 := S_H14.na nm2
    walk_at "rd"
    refine ⟨(by show 1 ≤ sizeLine; decide), fun t6 nt6 => ?_⟩
    generalize e_t6 : upd H15 t6 _ = H16
    have g_t6 : H16 t6 = some (.tup [.ref p]) := by rw [← e_t6]; exact upd_same
    have s_t6 : Same H15 H16 := by rw [← e_t6]; exact fun b u z => (upd_ne (ne_of_none z nt6)).trans z
    clear e_t6
    have S_H16 := S_H15.of_same s_t6
    have x_t6 := S_H15.na nt6
    walk_at "rd"
    refine ⟨(by show 1 ≤ sizeLine; decide), fun m3 nm3 => ?_⟩
    generalize e_m3 : upd H16 m3 _ = H17
    have g_m3 : H17 m3 = some (.lst [.ref p]) := by rw [← e_m3]; exact upd_same
    have s_m3 : Same H16 H17 := by rw [← e_m3]; exact fun b u z => (upd_ne (ne_of_none z nm3)).trans z
    clear e_m3
    have S_H17 := S_H16.of_same s_m3
    have x_m3 := S_H16.na nm3
    walk_at "rd"
    refine ⟨m3, 5, _, rfl, rfl, g_m3, by decide, by decide, (by show 5 ≤ sizeLine; decide), fun m4 nm4 => ?_⟩
    generalize e_m4 : upd H17 m4 _ = H18
    have g_m4 : H18 m4 = some (.lst [.ref p, .ref p, .ref p, .ref p, .ref p]) := by rw [← e_m4]; exact upd_same
    have s_m4 : Same H17 H18 := by rw [← e_m4]; exact fun b u z => (upd_ne (ne_of_none z nm4)).trans z
    clear e_m4
    have S_H18 := S_H17.of_same s_m4
    have x_m4 := S_H17.na nm4
    walk_at "rd"
    refine ⟨p, _, _, _, rfl, SqT.of ((s_t0.trans (s_l0.trans (s_d0.trans (s_t1.trans (s_l1.trans (s_t2.trans (s_t3.trans (s_l2.trans (s_t4.trans (s_l3.trans (s_la.trans (s_m0.trans (s_m1.trans (s_t5.trans (s_m2.trans (s_t6.trans (s_m3.trans s_m4))))))))))))))))) _ _ hp), fun t7 nt7 => ?_⟩
    generalize e_t7 : upd H18 t7 _ = H19
    have g_t7 : H19 t7 = some (.tup [.str m, .int s, .int o]) := by rw [← e_t7]; exact upd_same
    have s_t7 : Same H18 H19 := by rw [← e_t7]; exact fun b u z => (upd_ne (ne_of_none z nt7)).trans z
    clear e_t7
    have S_H19 := S_H18.of_same s_t7
    have x_t7 := S_H18.na nt7
    walk_at "rd"
    refine ⟨(by show 6 ≤ sizeLine; decide), fun lb nlb => ?_⟩
    generalize e_lb : upd H19 lb _ = H20
    have g_lb : H20 lb = some (.lst [.ref m1, .ref t5, .ref m2, .ref t6, .ref m4, .ref t7]) := by rw [← e_lb]; exact upd_same
    have s_lb : Same H19 H20 := by rw [← e_lb]; exact fun b u z => (upd_ne (ne_of_none z nlb)).trans z
    clear e_lb
    have S_H20 := S_H19.of_same s_lb
    have x_lb := S_H19.na nlb
    refine ⟨la, lb, _, _, rfl, rfl, ((s_m0.trans (s_m1.trans (s_t5.trans (s_m2.trans (s_t6.trans (s_m3.trans (s_m4.trans (s_t7.trans s_lb)))))))) _ _ g_la), g_lb, (by show 19 ≤ sizeLine; decide), fun lc nlc => ?_⟩
    generalize e_lc : upd H20 lc _ = H21
    have g_lc : H21 lc = some (.lst ([.non, .bl true, .str "up", .ref t0, .ref l0, .ref d0, .int 7, .ref t1, .ref l1, .ref t2, .ref l2, .ref t4, .ref l3] ++ [.ref m1, .ref t5, .ref m2, .ref t6, .ref m4, .ref t7])) := by rw [← e_lc]; exact upd_same
    have s_lc : Same H20 H21 := by rw [← e_lc]; exact fun b u z => (upd_ne (ne_of_none z nlc)).trans z
    clear e_lc
    have S_H21 := S_H20.of_same s_lc
    have x_lc := S_H20.na nlc
    walk_at "rd"
    refine ⟨a, c, t, lc, _, rfl, S_H21, by omega, g_lc, x_lc.1, x_lc.2, (by show 0 < 19; decide), (by show 19 < 2 ^ 60; decide), fun y H0 hy S0 O0 => ?_⟩
    have h_t0 := O0 _ _ ((s_l0.trans (s_d0.trans (s_t1.trans (s_l1.trans (s_t2.trans (s_t3.trans (s_l2.trans (s_t4.trans (s_l3.trans (s_la.trans (s_m0.trans (s_m1.trans (s_t5.trans (s_m2.trans (s_t6.trans (s_m3.trans (s_m4.trans (s_t7.trans (s_lb.trans s_lc))))))))))))))))))) _ _ g_t0) x_t0.1 x_t0.2
    have h_l0 := O0 _ _ ((s_d0.trans (s_t1.trans (s_l1.trans (s_t2.trans (s_t3.trans (s_l2.trans (s_t4.trans (s_l3.trans (s_la.trans (s_m0.trans (s_m1.trans (s_t5.trans (s_m2.trans (s_t6.trans (s_m3.trans (s_m4.trans (s_t7.trans (s_lb.trans s_lc)))))))))))))))))) _ _ g_l0) x_l0.1 x_l0.2
    have h_d0 := O0 _ _ ((s_t1.trans (s_l1.trans (s_t2.trans (s_t3.trans (s_l2.trans (s_t4.trans (s_l3.trans (s_la.trans (s_m0.trans (s_m1.trans (s_t5.trans (s_m2.trans (s_t6.trans (s_m3.trans (s_m4.trans (s_t7.trans (s_lb.trans s_lc))))))))))))))))) _ _ g_d0) x_d0.1 x_d0.2
    have h_t1 := O0 _ _ ((s_l1.trans (s_t2.trans (s_t3.trans (s_l2.trans (s_t4.trans (s_l3.trans (s_la.trans (s_m0.trans (s_m1.trans (s_t5.trans (s_m2.trans (s_t6.trans (s_m3.trans (s_m4.trans (s_t7.trans (s_lb.trans s_lc)))))))))))))))) _ _ g_t1) x_t1.1 x_t1.2
    have h_l1 := O0 _ _ ((s_t2.trans (s_t3.trans (s_l2.trans (s_t4.trans (s_l3.trans (s_la.trans (s_m0.trans (s_m1.trans (s_t5.trans (s_m2.trans (s_t6.trans (s_m3.trans (s_m4.trans (s_t7.trans (s_lb.trans s_lc))))))))))))))) _ _ g_l1) x_l1.1 x_l1.2
    have h_t2 := O0 _ _ ((s_t3.trans (s_l2.trans (s_t4.trans (s_l3.trans (s_la.trans (s_m0.trans (s_m1.trans (s_t5.trans (s_m2.trans (s_t6.trans (s_m3.trans (s_m4.trans (s_t7.trans (s_lb.trans s_lc)))))))))))))) _ _ g_t2) x_t2.1 x_t2.2
    have h_t3 := O0 _ _ ((s_l2.trans (s_t4.trans (s_l3.trans (s_la.trans (s_m0.trans (s_m1.trans (s_t5.trans (s_m2.trans (s_t6.trans (s_m3.trans (s_m4.trans (s_t7.trans (s_lb.trans s_lc))))))))))))) _ _ g_t3) x_t3.1 x_t3.2
    have h_l2 := O0 _ _ ((s_t4.trans (s_l3.trans (s_la.trans (s_m0.trans (s_m1.trans (s_t5.trans (s_m2.trans (s_t6.trans (s_m3.trans (s_m4.trans (s_t7.trans (s_lb.trans s_lc)))))))))))) _ _ g_l2) x_l2.1 x_l2.2
    have h_t4 := O0 _ _ ((s_l3.trans (s_la.trans (s_m0.trans (s_m1.trans (s_t5.trans (s_m2.trans (s_t6.trans (s_m3.trans (s_m4.trans (s_t7.trans (s_lb.trans s_lc))))))))))) _ _ g_t4) x_t4.1 x_t4.2
    have h_l3 := O0 _ _ ((s_la.trans (s_m0.trans (s_m1.trans (s_t5.trans (s_m2.trans (s_t6.trans (s_m3.trans (s_m4.trans (s_t7.trans (s_lb.trans s_lc)))))))))) _ _ g_l3) x_l3.1 x_l3.2
    have h_m0 := O0 _ _ ((s_m1.trans (s_t5.trans (s_m2.trans (s_t6.trans (s_m3.trans (s_m4.trans (s_t7.trans (s_lb.trans s_lc)))))))) _ _ g_m0) x_m0.1 x_m0.2
    have h_m1 := O0 _ _ ((s_t5.trans (s_m2.trans (s_t6.trans (s_m3.trans (s_m4.trans (s_t7.trans (s_lb.trans s_lc))))))) _ _ g_m1) x_m1.1 x_m1.2
    have h_t5 := O0 _ _ ((s_m2.trans (s_t6.trans (s_m3.trans (s_m4.trans (s_t7.trans (s_lb.trans s_lc)))))) _ _ g_t5) x_t5.1 x_t5.2
    have h_m2 := O0 _ _ ((s_t6.trans (s_m3.trans (s_m4.trans (s_t7.trans (s_lb.trans s_lc))))) _ _ g_m2) x_m2.1 x_m2.2
    have h_t6 := O0 _ _ ((s_m3.trans (s_m4.trans (s_t7.trans (s_lb.trans s_lc)))) _ _ g_t6) x_t6.1 x_t6.2
    have h_m4 := O0 _ _ ((s_t7.trans (s_lb.trans s_lc)) _ _ g_m4) x_m4.1 x_m4.2
    have h_t7 := O0 _ _ ((s_lb.trans s_lc) _ _ g_t7) x_t7.1 x_t7.2
    have np := SR.nt hp
    have hp0 : H0 p = some (sideV o s m) := O0 _ _ ((s_t0.trans (s_l0.trans (s_d0.trans (s_t1.trans (s_l1.trans (s_t2.trans (s_t3.trans (s_l2.trans (s_t4.trans (s_l3.trans (s_la.trans (s_m0.trans (s_m1.trans (s_t5.trans (s_m2.trans (s_t6.trans (s_m3.trans (s_m4.trans (s_t7.trans (s_lb.trans s_lc)))))))))))))))))))) _ _ hp) np.1 np.2
    have SI0 : SideI D H0 x o s m := (SI.same (s_t0.trans (s_l0.trans (s_d0.trans (s_t1.trans (s_l1.trans (s_t2.trans (s_t3.trans (s_l2.trans (s_t4.trans (s_l3.trans (s_la.trans (s_m0.trans (s_m1.trans (s_t5.trans (s_m2.trans (s_t6.trans (s_m3.trans (s_m4.trans (s_t7.trans (s_lb.trans s_lc))))))))))))))))))))).oth S_H21 O0
    have ZI0 : SidesI Z H0 g ss := (ZI.same (s_t0.trans (s_l0.trans (s_d0.trans (s_t1.trans (s_l1.trans (s_t2.trans (s_t3.trans (s_l2.trans (s_t4.trans (s_l3.trans (s_la.trans (s_m0.trans (s_m1.trans (s_t5.trans (s_m2.trans (s_t6.trans (s_m3.trans (s_m4.trans (s_t7.trans (s_lb.trans s_lc))))))))))))))))))))).oth S_H21 O0
    have OO : Oth a c H H0 := fun b u e n1 n2 => O0 b u ((s_t0.trans (s_l0.trans (s_d0.trans (s_t1.trans (s_l1.trans (s_t2.trans (s_t3.trans (s_l2.trans (s_t4.trans (s_l3.trans (s_la.trans (s_m0.trans (s_m1.trans (s_t5.trans (s_m2.trans (s_t6.trans (s_m3.trans (s_m4.trans (s_t7.trans (s_lb.trans s_lc)))))))))))))))))))) b u e) n1 n2
    have odd : OddP K H0 y := by
      simp only [List.mem_append, List.mem_cons, List.not_mem_nil, or_false] at hy
      rcases hy with (rfl | rfl | rfl | rfl | rfl | rfl | rfl | rfl | rfl | rfl | rfl | rfl | rfl) | (rfl | rfl | rfl | rfl | rfl | rfl)
      · exact ⟨.kind .non rfl, .kind .non rfl, _, .non⟩
      · exact ⟨.kind (.bl _) rfl, .kind (.bl _) rfl, _, (.bl _)⟩
      · exact ⟨.kind (.str _) rfl, .kind (.str _) rfl, _, (.str _)⟩
      · exact ⟨.len h_t0 (by simp), .kind (.tup h_t0) rfl, _, .tup h_t0⟩
      · exact ⟨.kind (.lst h_l0) rfl, .len h_l0 (by simp), _, .lst h_l0⟩
      · exact ⟨.kind (.dk h_d0) rfl, .kind (.dk h_d0) rfl, _, .dk h_d0⟩
      · exact ⟨.kind (.int _) rfl, .kind (.int _) rfl, _, (.int _)⟩
      · exact ⟨.len h_t1 (by simp), .kind (.tup h_t1) rfl, _, .tup h_t1⟩
      · exact ⟨.kind (.lst h_l1) rfl, .item (i := 0) h_l1 (by simp) (by simp) rfl (.kind (.int _) rfl) (fun j z hj => absurd hj (Nat.not_lt_zero _)), _, .lst h_l1⟩
      · exact ⟨.stp h_t2 (.int _) (by decide) (.int _) (by decide), .kind (.tup h_t2) rfl, _, .tup h_t2⟩
      · exact ⟨.kind (.lst h_l2) rfl, .item (i := 0) h_l2 (by simp) (by simp) rfl (.mod h_t3 (.int _) (by decide) (.int _) (by decide) (.str _) no_zero) (fun j z hj => absurd hj (Nat.not_lt_zero _)), _, .lst h_l2⟩
      · exact ⟨.len h_t4 (by simp), .kind (.tup h_t4) rfl, _, .tup h_t4⟩
      · exact ⟨.kind (.lst h_l3) rfl, .item (i := 0) h_l3 (by simp) (by simp) rfl (.kind .non rfl) (fun j z hj => absurd hj (Nat.not_lt_zero _)), _, .lst h_l3⟩
      · exact ⟨.kind (.lst h_m1) rfl, .item (i := 0) h_m1 (by simp) (by simp) rfl (.kind (.lst h_m0) rfl) (fun j z hj => absurd hj (Nat.not_lt_zero _)), _, .lst h_m1⟩
      · exact ⟨.stp h_t5 (.int _) (by decide) (.bl _) rfl, .kind (.tup h_t5) rfl, _, .tup h_t5⟩
      · exact ⟨.kind (.lst h_m2) rfl, .item (i := 1) h_m2 (by simp) (by simp) rfl (.kind .non rfl) (fun j z hj e => by
            obtain rfl : j = 0 := by omega
            cases e
            exact ⟨p, o, s, m, rfl, hp0, SP⟩), _, .lst h_m2⟩
      · exact ⟨.len h_t6 (by simp), .kind (.tup h_t6) rfl, _, .tup h_t6⟩
      · exact ⟨.kind (.lst h_m4) rfl, .len h_m4 (by simp), _, .lst h_m4⟩
      · exact ⟨.off h_t7 (.str _) rfl, .kind (.tup h_t7) rfl, _, .tup h_t7⟩
    clear hy
    walk_at "rd"
    refine ⟨by decide, by decide, fun D1 nD1 => ?_⟩
    refine lc_range (lo := 0) (n := 2) (fun i H3 => H3 D1 = some (.lst ([V.str "side", .str "sides"].take i)) ∧ Same H0 H3) ⟨upd_same, fun b u z => (upd_ne (ne_of_none z nD1)).trans z⟩ ?_ ?_
    · rintro i H3 hi ⟨hD, sm⟩
      have od := odd.same sm
      refine ⟨rfl, ?_⟩
      walk_at "rd"
      rcases (by omega : i = 0 ∨ i = 1) with rfl | rfl
      · refine ⟨0, _, _, _, rfl, .side od.1, fun H4 s4 => ?_⟩
        exact ⟨_, s4 _ _ hD, (by decide), upd_same, fun b u z => (upd_ne (ne_of_none z nD1)).trans (s4 _ _ (sm _ _ z))⟩
      · refine ⟨1, _, _, _, rfl, .sides od.2.1, fun H4 s4 => ?_⟩
        exact ⟨_, s4 _ _ hD, (by decide), upd_same, fun b u z => (upd_ne (ne_of_none z nD1)).trans (s4 _ _ (sm _ _ z))⟩
    rintro KH1 ⟨g_D1, s_D1⟩
    change KH1 D1 = some (.lst [.str "side", .str "sides"]) at g_D1
    walk_at "rd"
    refine ⟨(by show 2 ≤ sizeLine; decide), fun e1 ne1 => ?_⟩
    generalize e_e1 : upd KH1 e1 _ = KH2
    have g_e1 : KH2 e1 = some (.lst [.str "side", .str "sides"]) := by rw [← e_e1]; exact upd_same
    have s_e1 : Same KH1 KH2 := by rw [← e_e1]; exact fun b u z => (upd_ne (ne_of_none z ne1)).trans z
    clear e_e1
    refine ⟨_, _, .lst (SqL.of (s_e1 _ _ g_D1)) (.cons (.str _) (.cons (.str _) .nil)), .lst (SqL.of g_e1) (.cons (.str _) (.cons (.str _) .nil)), by decide +kernel, by decide +kernel, ?_⟩
    walk_at "rd"
    refine ⟨(by show 1 ≤ sizeLine; decide), fun q0 nq0 => ?_⟩
    generalize e_q0 : upd KH2 q0 _ = KH3
    have g_q0 : KH3 q0 = some (.lst [.ref p]) := by rw [← e_q0]; exact upd_same
    have s_q0 : Same KH2 KH3 := by rw [← e_q0]; exact fun b u z => (upd_ne (ne_of_none z nq0)).trans z
    clear e_q0
    walk_at "rd"
    refine ⟨0, _, _, _, rfl, .side (.kind (.lst g_q0) rfl), fun KH4 s_KH4 => ?_⟩
    walk_at "rd"
    refine ⟨1, _, _, _, rfl, .sides (.kind (.tup ((s_D1.trans (s_e1.trans (s_q0.trans s_KH4))) _ _ hp0)) rfl), fun KH5 s_KH5 => ?_⟩
    walk_at "rd"
    refine ⟨(by show 1 ≤ sizeLine; decide), fun q1 nq1 => ?_⟩
    generalize e_q1 : upd KH5 q1 _ = KH6
    have g_q1 : KH6 q1 = some (.tup [.ref p]) := by rw [← e_q1]; exact upd_same
    have s_q1 : Same KH5 KH6 := by rw [← e_q1]; exact fun b u z => (upd_ne (ne_of_none z nq1)).trans z
    clear e_q1
    walk_at "rd"
    refine ⟨1, _, _, _, rfl, .sides (.kind (.tup g_q1) rfl), fun KH7 s_KH7 => ?_⟩
    walk_at "rd"
    refine ⟨(by show 3 ≤ sizeLine; decide), fun w0 nw0 => ?_⟩
    generalize e_w0 : upd KH7 w0 _ = KH8
    have g_w0 : KH8 w0 = some (.lst [.str "side", .str "sides", .str "sides"]) := by rw [← e_w0]; exact upd_same
    have s_w0 : Same KH7 KH8 := by rw [← e_w0]; exact fun b u z => (upd_ne (ne_of_none z nw0)).trans z
    clear e_w0
    walk_at "rd"
    refine ⟨(by show 3 ≤ sizeLine; decide), fun w1 nw1 => ?_⟩
    generalize e_w1 : upd KH8 w1 _ = KH9
    have g_w1 : KH9 w1 = some (.lst [.str "side", .str "sides", .str "sides"]) := by rw [← e_w1]; exact upd_same
    have s_w1 : Same KH8 KH9 := by rw [← e_w1]; exact fun b u z => (upd_ne (ne_of_none z nw1)).trans z
    clear e_w1
    refine ⟨_, _, .lst (SqL.of (s_w1 _ _ g_w0)) (.cons (.str _) (.cons (.str _) (.cons (.str _) .nil))), .lst (SqL.of g_w1) (.cons (.str _) (.cons (.str _) (.cons (.str _) .nil))), by decide +kernel, by decide +kernel, ?_⟩
    walk_at "rd"
    refine ⟨(by show 1 ≤ sizeLine; decide), fun u0 nu0 => ?_⟩
    generalize e_u0 : upd KH9 u0 _ = KH10
    have g_u0 : KH10 u0 = some (.lst [.ref p]) := by rw [← e_u0]; exact upd_same
    have s_u0 : Same KH9 KH10 := by rw [← e_u0]; exact fun b u z => (upd_ne (ne_of_none z nu0)).trans z
    clear e_u0
    walk_at "rd"
    refine ⟨(by show 0 ≤ sizeLine; decide), fun u1 nu1 => ?_⟩
    generalize e_u1 : upd KH10 u1 _ = KH11
    have g_u1 : KH11 u1 = some (.tup []) := by rw [← e_u1]; exact upd_same
    have s_u1 : Same KH10 KH11 := by rw [← e_u1]; exact fun b u z => (upd_ne (ne_of_none z nu1)).trans z
    clear e_u1
    walk_at "rd"
    refine ⟨(by show 7 ≤ sizeLine; decide), fun lu nlu => ?_⟩
    generalize e_lu : upd KH11 lu _ = KH12
    have g_lu : KH12 lu = some (.lst [y, .ref p, .ref u0, .non, .int 5, .ref u1, .str "up"]) := by rw [← e_lu]; exact upd_same
    have s_lu : Same KH11 KH12 := by rw [← e_lu]; exact fun b u z => (upd_ne (ne_of_none z nlu)).trans z
    clear e_lu
    have SI1 := SI0.same (s_D1.trans (s_e1.trans (s_q0.trans (s_KH4.trans (s_KH5.trans (s_q1.trans (s_KH7.trans (s_w0.trans (s_w1.trans (s_u0.trans (s_u1.trans s_lu)))))))))))
    have ZI1 := ZI0.same (s_D1.trans (s_e1.trans (s_q0.trans (s_KH4.trans (s_KH5.trans (s_q1.trans (s_KH7.trans (s_w0.trans (s_w1.trans (s_u0.trans (s_u1.trans s_lu)))))))))))
    have od1 := odd.same (s_D1.trans (s_e1.trans (s_q0.trans (s_KH4.trans (s_KH5.trans (s_q1.trans (s_KH7.trans (s_w0.trans (s_w1.trans (s_u0.trans (s_u1.trans s_lu)))))))))))
    have hp1 := (s_D1.trans (s_e1.trans (s_q0.trans (s_KH4.trans (s_KH5.trans (s_q1.trans (s_KH7.trans (s_w0.trans (s_w1.trans (s_u0.trans (s_u1.trans s_lu))))))))))) _ _ hp0
    have g_u0b := ((s_u1.trans s_lu) _ _ g_u0)
    have g_u1b := (s_lu _ _ g_u1)
    walk_at "rd"
    refine ⟨⟨_, SqL.of g_lu⟩, ?_⟩
    refine for_list (K := K) (a := lu) (xs := [y, .ref p, .ref u0, .non, .int 5, .ref u1, .str "up"]) (fun i st H3 => ∃ x8 : Option V, st = [some (.ref a), some (.ref x), some (.ref g), some (.ref p), some (.ref la), some y, none, some (.ref w0), x8] ∧ Same KH12 H3) ⟨none, rfl, Same.refl _⟩ (fun _ _ _ _ ⟨_, _, sm⟩ => SqL.of (sm _ _ g_lu)) ?_ ?_
    · rintro i z st H3 hz ⟨x8, rfl, sm⟩
      have th : ∃ T, Th H3 z T := by
        have e := List.mem_of_getElem? hz
        simp only [List.mem_cons, List.not_mem_nil, or_false] at e
        rcases e with rfl | rfl | rfl | rfl | rfl | rfl | rfl
        · exact (od1.same sm).2.2
        · exact ⟨_, .tup (sm _ _ hp1)⟩
        · exact ⟨_, .lst (sm _ _ g_u0b)⟩
        · exact ⟨_, .non⟩
        · exact ⟨_, .int _⟩
        · exact ⟨_, .tup (sm _ _ g_u1b)⟩
        · exact ⟨_, .str _⟩
      obtain ⟨T, th⟩ := th
      have SI3 := SI1.same sm
      have ZI3 := ZI1.same sm
      walk_at "rd"
      refine ⟨2, _, _, _, rfl, .orS SI3 th, fun LH1 s_LH1 => ?_⟩
      walk_at "rd"
      refine ⟨2, _, _, _, rfl, .orZ (ZI3.same s_LH1) (th.same s_LH1), fun LH2 s_LH2 => ?_⟩
      walk_at "rd"
      refine ⟨3, _, _, _, rfl, .subZ (ZI3.same (s_LH1.trans s_LH2)) (th.same (s_LH1.trans s_LH2)), fun LH3 s_LH3 => ?_⟩
      walk_at "rd"
      refine ⟨(by show 3 ≤ sizeLine; decide), fun v0 nv0 => ?_⟩
      generalize e_v0 : upd LH3 v0 _ = LH4
      have g_v0 : LH4 v0 = some (.lst [.str "sides", .str "sides", .str "sides"]) := by rw [← e_v0]; exact upd_same
      have s_v0 : Same LH3 LH4 := by rw [← e_v0]; exact fun b u z => (upd_ne (ne_of_none z nv0)).trans z
      clear e_v0
      walk_at "rd"
      refine ⟨(by show 1 ≤ sizeLine; decide), fun v1 nv1 => ?_⟩
      generalize e_v1 : upd LH4 v1 _ = LH5
      have g_v1 : LH5 v1 = some (.lst [.str "sides"]) := by rw [← e_v1]; exact upd_same
      have s_v1 : Same LH4 LH5 := by rw [← e_v1]; exact fun b u z => (upd_ne (ne_of_none z nv1)).trans z
      clear e_v1
      walk_at "rd"
      refine ⟨v1, 3, _, rfl, rfl, g_v1, by decide, by decide, (by show 3 ≤ sizeLine; decide), fun v2 nv2 => ?_⟩
      generalize e_v2 : upd LH5 v2 _ = LH6
      have g_v2 : LH6 v2 = some (.lst [.str "sides", .str "sides", .str "sides"]) := by rw [← e_v2]; exact upd_same
      have s_v2 : Same LH5 LH6 := by rw [← e_v2]; exact fun b u z => (upd_ne (ne_of_none z nv2)).trans z
      clear e_v2
      refine ⟨_, _, .lst (SqL.of ((s_v1.trans s_v2) _ _ g_v0)) (.cons (.str _) (.cons (.str _) (.cons (.str _) .nil))), .lst (SqL.of g_v2) (.cons (.str _) (.cons (.str _) (.cons (.str _) .nil))), by decide +kernel, by decide +kernel, ?_⟩
      walk_at "rd"
      exact sm.trans (s_LH1.trans (s_LH2.trans (s_LH3.trans (s_v0.trans (s_v1.trans s_v2)))))
    rintro st HV ⟨x8, rfl, s_HV⟩
    walk_at "rd"
    refine ⟨(by show 0 ≤ sizeLine; decide), fun f0 nf0 => ?_⟩
    generalize e_f0 : upd HV f0 _ = KH13
    have g_f0 : KH13 f0 = some (.lst []) := by rw [← e_f0]; exact upd_same
    have s_f0 : Same HV KH13 := by rw [← e_f0]; exact fun b u z => (upd_ne (ne_of_none z nf0)).trans z
    clear e_f0
    walk_at "rd"
    refine ⟨(by show 1 ≤ sizeLine; decide), fun f1 nf1 => ?_⟩
    generalize e_f1 : upd KH13 f1 _ = KH14
    have g_f1 : KH14 f1 = some (.tup [.int 5]) := by rw [← e_f1]; exact upd_same
    have s_f1 : Same KH13 KH14 := by rw [← e_f1]; exact fun b u z => (upd_ne (ne_of_none z nf1)).trans z
    clear e_f1
    walk_at "rd"
    refine fun f2 nf2 => ?_
    generalize e_f2 : upd KH14 f2 _ = KH15
    have g_f2 : KH15 f2 = some (.dK []) := by rw [← e_f2]; exact upd_same
    have s_f2 : Same KH14 KH15 := by rw [← e_f2]; exact fun b u z => (upd_ne (ne_of_none z nf2)).trans z
    clear e_f2
    walk_at "rd"
    refine ⟨(by show 7 ≤ sizeLine; decide), fun lf nlf => ?_⟩
    generalize e_lf : upd KH15 lf _ = KH16
    have g_lf : KH16 lf = some (.lst [.non, .bl true, .bl false, .str "1", .ref f0, .ref f1, .ref f2]) := by rw [← e_lf]; exact upd_same
    have s_lf : Same KH15 KH16 := by rw [← e_lf]; exact fun b u z => (upd_ne (ne_of_none z nlf)).trans z
    clear e_lf
    have SI5 := SI0.same (s_D1.trans (s_e1.trans (s_q0.trans (s_KH4.trans (s_KH5.trans (s_q1.trans (s_KH7.trans (s_w0.trans (s_w1.trans (s_u0.trans (s_u1.trans (s_lu.trans (s_HV.trans (s_f0.trans (s_f1.trans (s_f2.trans s_lf))))))))))))))))
    have ZI5 := ZI0.same (s_D1.trans (s_e1.trans (s_q0.trans (s_KH4.trans (s_KH5.trans (s_q1.trans (s_KH7.trans (s_w0.trans (s_w1.trans (s_u0.trans (s_u1.trans (s_lu.trans (s_HV.trans (s_f0.trans (s_f1.trans (s_f2.trans s_lf))))))))))))))))
    have hp5 := (s_D1.trans (s_e1.trans (s_q0.trans (s_KH4.trans (s_KH5.trans (s_q1.trans (s_KH7.trans (s_w0.trans (s_w1.trans (s_u0.trans (s_u1.trans (s_lu.trans (s_HV.trans (s_f0.trans (s_f1.trans (s_f2.trans s_lf)))))))))))))))) _ _ hp0
    have g_f0b := ((s_f1.trans (s_f2.trans s_lf)) _ _ g_f0)
    have g_f1b := ((s_f2.trans s_lf) _ _ g_f1)
    have g_f2b := (s_lf _ _ g_f2)
    walk_at "rd"
    refine ⟨⟨_, SqL.of g_lf⟩, ?_⟩
    refine for_list (K := K) (a := lf) (xs := [.non, .bl true, .bl false, .str "1", .ref f0, .ref f1, .ref f2]) (fun i st H3 => ∃ x8 : Option V, st = [some (.ref a), some (.ref x), some (.ref g), some (.ref p), some (.ref la), some y, none, some (.ref w0), x8] ∧ Same KH16 H3) ⟨_, rfl, Same.refl _⟩ (fun _ _ _ _ ⟨_, _, sm⟩ => SqL.of (sm _ _ g_lf)) ?_ ?_
    · rintro i z st H3 hz ⟨x8, rfl, sm⟩
      have th : ∃ T, Th H3 z T ∧ isI T = false := by
        have e := List.mem_of_getElem? hz
        simp only [List.mem_cons, List.not_mem_nil, or_false] at e
        rcases e with rfl | rfl | rfl | rfl | rfl | rfl | rfl
        · exact ⟨_, .non, rfl⟩
        · exact ⟨_, .bl _, rfl⟩
        · exact ⟨_, .bl _, rfl⟩
        · exact ⟨_, .str _, rfl⟩
        · exact ⟨_, .lst (sm _ _ g_f0b), rfl⟩
        · exact ⟨_, .tup (sm _ _ g_f1b), rfl⟩
        · exact ⟨_, .dk (sm _ _ g_f2b), rfl⟩
      obtain ⟨T, th, ni⟩ := th
      have SI3 := SI5.same sm
      have ZI3 := ZI5.same sm
      walk_at "rd"
      refine ⟨4, _, _, _, rfl, .callS SI3 th ni, fun LH1 s_LH1 => ?_⟩
      walk_at "rd"
      refine ⟨5, _, _, _, rfl, .getS (SI3.same s_LH1) (th.same s_LH1) ni, fun LH2 s_LH2 => ?_⟩
      walk_at "rd"
      refine ⟨(by show 2 ≤ sizeLine; decide), fun v0 nv0 => ?_⟩
      generalize e_v0 : upd LH2 v0 _ = LH3
      have g_v0 : LH3 v0 = some (.lst [.str "value", .str "value"]) := by rw [← e_v0]; exact upd_same
      have s_v0 : Same LH2 LH3 := by rw [← e_v0]; exact fun b u z => (upd_ne (ne_of_none z nv0)).trans z
      clear e_v0
      walk_at "rd"
      refine ⟨(by show 1 ≤ sizeLine; decide), fun v1 nv1 => ?_⟩
      generalize e_v1 : upd LH3 v1 _ = LH4
      have g_v1 : LH4 v1 = some (.lst [.str "value"]) := by rw [← e_v1]; exact upd_same
      have s_v1 : Same LH3 LH4 := by rw [← e_v1]; exact fun b u z => (upd_ne (ne_of_none z nv1)).trans z
      clear e_v1
      walk_at "rd"
      refine ⟨v1, 2, _, rfl, rfl, g_v1, by decide, by decide, (by show 2 ≤ sizeLine; decide), fun v2 nv2 => ?_⟩
      generalize e_v2 : upd LH4 v2 _ = LH5
      have g_v2 : LH5 v2 = some (.lst [.str "value", .str "value"]) := by rw [← e_v2]; exact upd_same
      have s_v2 : Same LH4 LH5 := by rw [← e_v2]; exact fun b u z => (upd_ne (ne_of_none z nv2)).trans z
      clear e_v2
      refine ⟨_, _, .lst (SqL.of ((s_v1.trans s_v2) _ _ g_v0)) (.cons (.str _) (.cons (.str _) .nil)), .lst (SqL.of g_v2) (.cons (.str _) (.cons (.str _) .nil)), by decide +kernel, by decide +kernel, ?_⟩
      walk_at "rd"
      refine ⟨(by show 4 ≤ sizeLine; decide), fun kl nkl => ?_⟩
      generalize e_kl : upd LH5 kl _ = LH6
      have g_kl : LH6 kl = some (.lst [.int 4, .int 5, .int 6, .int 7]) := by rw [← e_kl]; exact upd_same
      have s_kl : Same LH5 LH6 := by rw [← e_kl]; exact fun b u z => (upd_ne (ne_of_none z nkl)).trans z
      clear e_kl
      have ZI4 := (ZI3.same (s_LH1.trans (s_LH2.trans (s_v0.trans (s_v1.trans (s_v2.trans s_kl))))))
      have th4 := (th.same (s_LH1.trans (s_LH2.trans (s_v0.trans (s_v1.trans (s_v2.trans s_kl))))))
      refine ⟨kl, rfl, ⟨_, SqL.of g_kl⟩, fun D2 nD2 => ?_⟩
      refine lc_list (K := K) (a := kl) (xs := [.int 4, .int 5, .int 6, .int 7]) (fun i H5 => H5 D2 = some (.lst (List.replicate i (V.str "value"))) ∧ Same LH6 H5) ⟨upd_same, fun b u z => (upd_ne (ne_of_none z nD2)).trans z⟩ (fun _ _ _ ⟨_, sm⟩ => SqL.of (sm _ _ g_kl)) ?_ ?_
      · rintro j y2 H5 hy2 ⟨hD, sm2⟩
        have wd : ∃ kd : Nat, y2 = .int (kd : Int) ∧ j < 4 ∧ Asks K D Z H5 kd (.ref g) z (some 3) := by
          match j, hy2 with
          | 0, e => cases e; exact ⟨4, rfl, by decide, .callZ (ZI4.same sm2) (th4.same sm2) ni⟩
          | 1, e => cases e; exact ⟨5, rfl, by decide, .getZ (ZI4.same sm2) (th4.same sm2) ni⟩
          | 2, e => cases e; exact ⟨6, rfl, by decide, .leadA (ZI4.same sm2) (th4.same sm2) ni⟩
          | 3, e => cases e; exact ⟨7, rfl, by decide, .leadB (ZI4.same sm2) (th4.same sm2) ni⟩
          | j + 4, e => cases e
        obtain ⟨kd, rfl, j4, ask⟩ := wd
        refine ⟨rfl, ?_⟩
        walk_at "rd"
        refine ⟨kd, _, _, _, rfl, ask, fun H6 s6 => ?_⟩
        refine ⟨_, s6 _ _ hD, (by rw [List.length_replicate]; exact Nat.lt_trans j4 (by decide)), ?_, fun b u z => (upd_ne (ne_of_none z nD2)).trans (s6 _ _ (sm2 _ _ z))⟩
        rw [List.replicate_succ']
        exact upd_same
      rintro LV ⟨g_D2, s_D2⟩
      change LV D2 = some (.lst [.str "value", .str "value", .str "value", .str "value"]) at g_D2
      walk_at "rd"
      refine ⟨(by show 1 ≤ sizeLine; decide), fun y0 ny0 => ?_⟩
      generalize e_y0 : upd LV y0 _ = LH7
      have g_y0 : LH7 y0 = some (.lst [.str "value"]) := by rw [← e_y0]; exact upd_same
      have s_y0 : Same LV LH7 := by rw [← e_y0]; exact fun b u z => (upd_ne (ne_of_none z ny0)).trans z
      clear e_y0
      walk_at "rd"
      refine ⟨y0, 4, _, rfl, rfl, g_y0, by decide, by decide, (by show 4 ≤ sizeLine; decide), fun y1 ny1 => ?_⟩
      generalize e_y1 : upd LH7 y1 _ = LH8
      have g_y1 : LH8 y1 = some (.lst [.str "value", .str "value", .str "value", .str "value"]) := by rw [← e_y1]; exact upd_same
      have s_y1 : Same LH7 LH8 := by rw [← e_y1]; exact fun b u z => (upd_ne (ne_of_none z ny1)).trans z
      clear e_y1
      refine ⟨_, _, .lst (SqL.of ((s_y0.trans s_y1) _ _ g_D2)) (.cons (.str _) (.cons (.str _) (.cons (.str _) (.cons (.str _) .nil)))), .lst (SqL.of g_y1) (.cons (.str _) (.cons (.str _) (.cons (.str _) (.cons (.str _) .nil)))), by decide +kernel, by decide +kernel, ?_⟩
      walk_at "rd"
      exact sm.trans (s_LH1.trans (s_LH2.trans (s_v0.trans (s_v1.trans (s_v2.trans (s_kl.trans (s_D2.trans (s_y0.trans s_y1))))))))
    rintro st HW ⟨x8, rfl, s_HW⟩
    have SI6 := SI5.same s_HW
    have hp6 := s_HW _ _ hp5
    have all : Same H0 HW := (s_D1.trans (s_e1.trans (s_q0.trans (s_KH4.trans (s_KH5.trans (s_q1.trans (s_KH7.trans (s_w0.trans (s_w1.trans (s_u0.trans (s_u1.trans (s_lu.trans (s_HV.trans (s_f0.trans (s_f1.trans (s_f2.trans (s_lf.trans s_HW)))))))))))))))))
    obtain ⟨dx, pa, pb, hx, hpa, hpb, _⟩ := id SI6
    walk_at "rd"
    refine ⟨x, dx, _, rfl, hx, x, dx, pa, pb, rfl, hx, ?_⟩
    walk_at "rd"
    refine ⟨_, _, dpSide hpa, dpSide hp6, shaped_side SP.md, shaped_side SP.md, ?_⟩
    rw [eqv_side, decide_eq_true ⟨rfl, rfl, rfl⟩]
    exact q HW (S0.of_same all) fun b u e n1 n2 => all b u (OO b u e n1 n2)
end
end HT
namespace HT
open PySem L2
theorem rep1 {α : Type} (x : α) : ∀ n : Nat, (List.replicate n [x]).flatten = List.replicate n x
  | 0 => rfl
  | n + 1 => by
    rw [List.replicate_succ, List.flatten_cons, rep1 x n]
    rfl
theorem sidesRep {H : Hp} {l p : Addr} {d : Sd} {n : Nat} (hl : H l = some (.lst (List.replicate n (V.ref p)))) (hp : H p = some (sideV d.o d.s d.m)) (S : SideP d.o d.s d.m) (h1 : 1 ≤ n) (h4 : n ≤ 4) : SidesAt H l (List.replicate n (.ref p)) (List.replicate n d) :=
  ⟨hl, by rw [List.length_replicate, List.length_replicate], by rw [List.length_replicate]; exact h1, by rw [List.length_replicate]; exact h4, fun i e z => by
    rw [List.getElem?_replicate] at z
    split at z
    · rename_i hi
      cases z
      exact ⟨p, by rw [List.getElem?_replicate, if_pos hi], hp, S⟩
    · cases z⟩
def sdD (d : Sd) : PyData := sideD d.o d.s d.m
theorem dpAt {K : PySem.W.Frag} {H : Hp} : ∀ (xs : List V) (ss : List Sd), xs.length = ss.length → (∀ (i : Nat) (d : Sd), ss[i]? = some d → ∃ p : Addr, xs[i]? = some (V.ref p) ∧ H p = some (sideV d.o d.s d.m) ∧ SideP d.o d.s d.m) → DpAll K H xs (ss.map sdD)
  | [], [], _, _ => .nil
  | x :: xs, d :: ss, e, h => by
    obtain ⟨p, a, b, _⟩ := h 0 d rfl
    have e1 : x = V.ref p := Option.some.inj a
    rw [e1]
    exact .cons (dpSide b) (dpAt xs ss (by simpa using e) fun i d z => h (i + 1) d z)
theorem lay_sides : ∀ ss : List Sd, (∀ d ∈ ss, Mode d.m) → PyData.canLayAll0 (ss.map sdD) = true ∧ PyData.depthAll (ss.map sdD) ≤ 2
  | [], _ => ⟨rfl, Nat.zero_le _⟩
  | d :: ts, h => by
    have z := lay_sides ts fun e he => h e (List.mem_cons_of_mem _ he)
    have y := SeqAt.canLay_of_shaped (shaped_side (o := d.o) (s := d.s) (h d List.mem_cons_self))
    refine ⟨?_, ?_⟩
    · show (PyData.canLay0 (sdD d) && PyData.canLayAll0 (ts.map sdD)) = true
      rw [z.1]
      show (PyData.canLay0 (sideD _ _ _) && true) = true
      rw [y]
      rfl
    · show max (PyData.depth (sdD d)) (PyData.depthAll (ts.map sdD)) ≤ 2
      refine Nat.max_le.mpr ⟨?_, z.2⟩
      unfold sdD sideD
      simp [PyData.depth, PyData.depthAll]
theorem shaped_sides {ss : List Sd} (h : ∀ d ∈ ss, Mode d.m) : SeqAt.shaped (.list (ss.map sdD)) = true := by
  obtain ⟨a, b⟩ := lay_sides ss h
  show (PyData.canLay0 (.list (ss.map sdD)) && decide (PyData.depth (.list (ss.map sdD)) ≤ 64)) = true
  rw [Bool.and_eq_true]
  refine ⟨by simpa [PyData.canLay0] using a, decide_eq_true ?_⟩
  simp only [PyData.depth]
  omega
theorem Asks.cast {K : PySem.W.Frag} {D Z : Addr} {H : Hp} {kd : Nat} {one y : V} {r r' : Option Nat} (h : Asks K D Z H kd one y r) (e : r = r') : Asks K D Z H kd one y r' := e ▸ h
theorem subF_self (d : Sd) (h : Mode d.m) (hs : SideP d.o d.s d.m) (n : Nat) (ts : List Sd) (hd : d ∈ ts) : subF (List.replicate n d) ts = [] := by
  unfold subF
  rw [List.filter_eq_nil_iff]
  intro e he
  obtain rfl := List.eq_of_mem_replicate he
  have y := SeqAt.canLay_of_shaped (shaped_side (o := formO e.o e.s (firstM e.s e.m)) (s := e.s) (side_form hs).md)
  have t : (ts.map formE).any (fun z => PyData.eqv z (formE e)) = true := by
    rw [List.any_eq_true]
    exact ⟨formE e, List.mem_map.mpr ⟨e, hd, rfl⟩, SeqAt.eqv_refl _ y⟩
  rw [t]
  decide
theorem subF_step (d e : Sd) (h : e.s ≠ d.s) (n : Nat) (hn : 1 ≤ n) : subF (List.replicate n d) [e] ≠ [] := by
  unfold subF
  rw [Ne, List.filter_eq_nil_iff]
  intro z
  refine z d (List.mem_replicate.mpr ⟨by omega, rfl⟩) ?_
  have t : PyData.eqv (formE e) (formE d) = false := by
    unfold formE
    rw [eqv_side]
    exact decide_eq_false fun w => h w.2.1
  show (!((formE e :: []).any fun z => PyData.eqv z (formE d))) = true
  rw [List.any_cons, t]
  rfl
def spLaw (K : PySem.W.Frag) : Sp := fun vs H Q _ => ∃ (l : Addr) (ns : List Int), vs = [.ref l] ∧ SqL K H l (ns.map V.int) ∧ ns.length ≤ 63 ∧ ∀ H', Q (.bl true) H'
section
variable {P : Program} {w : World} {K : PySem.W.Frag} {mg : Str → Option Value} {base : Heap} {D Z iS' iZ' p1 g1 p2 g2 ggZ f0 f1 f2 f3 f4 f5 : Addr} {dS dZ d1 d2 e0 e1 e2 e3 e4 e5 : FuncData}
theorem ok_law {f : Addr} {fd : FuncData} (F : Fun K "law" "law" s_law f fd) (B : Blt mg) (O : OwnL P w K mg base D Z iS' iZ' p1 g1 p2 g2 ggZ dS dZ d1 d2) (So : Cal P w K mg base "_law_source" 1 ["_law_script"] (spSource K) f0 e0) (Dr : Cal P w K mg base "_law_draw" 1 ["_law_source_here", "_law_limit"] spDraw f1 e1) (Si : Cal P w K mg base "_law_side" 3 ["_law_source_here", "_law_digits"] spLSide f2 e2)
    (Wo : Cal P w K mg base "_law_word" 111 ["_law_kind", "_law_one", "_law_value"] (spWord K D Z) f3 e3) (Od : Cal P w K mg base "_law_odd_fits" 112 ["_law_source_here", "_law_side_here", "_law_group", "_law_data"] (spOdd D Z) f4 e4) (Mn : Cal P w K mg base "_law_many_fits" 112 [] spFits0 f5 e5) : FnOk P w K mg base CX0 113 f fd ["_law_script"] (spLaw K) := by
  refine F.ok sc_law (fun vs H Q E h => ?_) (fun cdv A outer s0 H vs Q E hr h => ?_)
  · obtain ⟨l, ns, rfl, _⟩ := h
    rfl
  · obtain ⟨l, ns, rfl, hL, hn, q⟩ := h
    have nd := sc_law.nd
    refine ⟨_, (pss_cons (ps_set (i := 1) nd rfl (Or.inl rfl) (pcl So hr (by decide) (by rfl) (pa_cons (pv 0) pa_nil)))
      (pss_cons (ps_for PassesOwn.never rfl (pi_range1 (by rfl) B.range (pa_cons pe_int pa_nil)) (pg_name (i := 2) nd rfl (Or.inl rfl)) (pss_cons (ps_set (i := 3) nd rfl (Or.inl rfl) (pcl Si hr (by decide) (by rfl) (pa_cons (pv 1) (pa_cons pe_int pa_nil))))
      (pss_cons (ps_set (i := 4) nd rfl (Or.inl rfl) (pe_tup (pa_cons (pe_op op_add (pe_ix ix_tup (pv 3) pe_int (fun _ _ => rfl)) pe_int) (pa_cons (pe_op op_add (pe_op op_mod (pe_ix ix_tup (pv 3) pe_int (fun _ _ => rfl)) (pe_op op_pow pe_int pe_int)) pe_int) (pa_cons (pe_ix ix_tup (pv 3) pe_int (fun _ _ => rfl)) pa_nil)))))
      (pss_cons (ps_set (i := 5) nd rfl (Or.inl rfl) (pe_op op_add pe_int (pcl Dr hr (by decide) (by rfl) (pa_cons (pv 1) (pa_cons pe_int pa_nil)))))
      (pss_cons (ps_par (i := 6) (j := 7) (by rfl) nd rfl rfl (by decide) rfl rfl (pa_cons (pe_make O.mS O.iS (hr.mono (by decide)) (by rfl) O.gS O.bS .nil pass0 (pa_cons (pv 3) pa_nil)) (pa_cons (pe_make O.mZ O.iZ (hr.mono (by decide)) (by rfl) O.gZ O.bZ .nil pass0 (pa_cons (pe_op op_rep (pe_lst (pa_cons (pv 3) pa_nil)) (pv 5)) pa_nil)) pa_nil)) (by rfl))
      (pss_cons (ps_if (pt_not (pt_val (pcl Od hr (by decide) (by rfl) (pa_cons (pv 1) (pa_cons (pv 6) (pa_cons (pv 7) (pa_cons (pv 3) pa_nil))))))) (pss_one (ps_ret pe_bl)) pss_nil)
      (pss_cons (ps_for PassesOwn.never rfl (pi_range2 (by rfl) B.range (pa_cons pe_int (pa_cons pe_int pa_nil))) (pg_name (i := 8) nd rfl (Or.inl rfl)) (pss_one (ps_if (pt_cmpR op_ne (pcl Wo hr (by decide) (by rfl) (pa_cons pe_int (pa_cons (pv 7) (pa_cons (pe_make O.mZ O.iZ (hr.mono (by decide)) (by rfl) O.gZ O.bZ .nil pass0 (pa_cons (pe_op op_rep (pe_lst (pa_cons (pv 4) pa_nil)) (pv 8)) pa_nil)) pa_nil)))) (pe_ix ix_list (pe_lst (pa_cons pe_str (pa_cons pe_str pa_nil))) (pe_callTy call_int1 (by rfl) B.int (by decide +kernel) (pa_cons (pe_cmpR op_lt (pe_op op_add (pv 5) (pv 8)) pe_int (nomark _)) pa_nil)) (fun _ _ => rfl)) (nomark _)) (pss_one (ps_ret pe_bl)) pss_nil)))
      (pss_cons (ps_set (i := 9) nd rfl (Or.inl rfl) (pe_ix ix_list (pe_lst (pa_cons pe_str (pa_cons pe_str pa_nil))) (pe_callTy call_int1 (by rfl) B.int (by decide +kernel) (pa_cons (pe_cmpR op_lt (pv 5) pe_int (nomark _)) pa_nil)) (fun _ _ => rfl)))
      (pss_cons (ps_if (pt_cmpR (op_neD hr.units) (pe_lst (pa_cons (pcl Wo hr (by decide) (by rfl) (pa_cons pe_int (pa_cons (pv 7) (pa_cons (pe_make O.mS O.iS (hr.mono (by decide)) (by rfl) O.gS O.bS .nil pass0 (pa_cons (pv 4) pa_nil)) pa_nil)))) (pa_cons (pcl Wo hr (by decide) (by rfl) (pa_cons pe_int (pa_cons (pe_make O.mS O.iS (hr.mono (by decide)) (by rfl) O.gS O.bS .nil pass0 (pa_cons (pv 4) pa_nil)) (pa_cons (pv 7) pa_nil)))) pa_nil))) (pe_op op_rep (pe_lst (pa_cons (pv 9) pa_nil)) pe_int) (nomark _)) (pss_one (ps_ret pe_bl)) pss_nil)
      (pss_cons (ps_if (pt_cmpR (op_neD hr.units) (pe_lst (pa_cons (pcl Wo hr (by decide) (by rfl) (pa_cons pe_int (pa_cons (pv 7) (pa_cons (pv 6) pa_nil)))) (pa_cons (pcl Wo hr (by decide) (by rfl) (pa_cons pe_int (pa_cons (pv 7) (pa_cons (pv 7) pa_nil)))) pa_nil))) (pe_op op_rep (pe_lst (pa_cons pe_str pa_nil)) pe_int) (nomark _)) (pss_one (ps_ret pe_bl)) pss_nil)
      (pss_one (ps_if (PW.pt (pw_or (pt_cmpR op_ne (pcl Wo hr (by decide) (by rfl) (pa_cons pe_int (pa_cons (pv 7) (pa_cons (pe_make O.mZ O.iZ (hr.mono (by decide)) (by rfl) O.gZ O.bZ .nil pass0 (pa_cons (pe_lst (pa_cons (pv 4) pa_nil)) pa_nil)) pa_nil)))) pe_str (nomark _)) (pw_or1 (pt_cmpR (op_neD hr.units) (pe_prop (pv 7) O.cZ.cls O.pZ O.fZ (hr.mono (by decide)) O.bZs .nil pass0 rfl) (pe_op op_rep (pe_lst (pa_cons (pv 3) pa_nil)) (pv 5)) (nomark _))))) (pss_one (ps_ret pe_bl)) pss_nil))))))))))))
      (pss_cons (ps_if (pt_not (pt_val (pe_call0 Mn.ok (hr.mono (by decide)) (by rfl) Mn.gl Mn.kp Mn.bd .nil pass0))) (pss_one (ps_ret pe_bl)) pss_nil)
      (pss_one (ps_ret (pe_and (pe_cmpR op_eq (pcl Wo hr (by decide) (by rfl) (pa_cons pe_int (pa_cons pe_non (pa_cons (pe_op op_rep (pe_lst (pa_cons (pe_tup (pa_cons pe_int (pa_cons pe_int (pa_cons pe_str pa_nil)))) pa_nil)) pe_int) pa_nil)))) pe_str (nomark _)) (pe_one (pe_cmpR op_eq (pcl Wo hr (by decide) (by rfl) (pa_cons pe_int (pa_cons pe_non (pa_cons (pe_op op_rep (pe_lst (pa_cons (pe_tup (pa_cons pe_int (pa_cons pe_int (pa_cons pe_str pa_nil)))) pa_nil)) pe_int) pa_nil)))) pe_str (nomark _))))))))), ?_⟩
    walk_at "rd"
    refine ⟨l, ns, rfl, hL, hn, fun a c H0 sm na nc S0 => ?_⟩
    walk_at "rd"
    refine ⟨by decide, by decide, ?_⟩
    refine for_range (n := 15) (fun i σ H' => ∃ (x2 x3 x4 x5 x6 x7 x8 x9 : Option V) (t : Nat), σ = [some (.ref l), some (.ref a), x2, x3, x4, x5, x6, x7, x8, x9] ∧ t ≤ 1000 * i ∧ Src H' a c t) ⟨none, none, none, none, none, none, none, none, 0, rfl, by omega, S0⟩ ?_ ?_
    · rintro i σ H' hi ⟨x2, x3, x4, x5, x6, x7, x8, x9, t, rfl, ht, S⟩
      walk_at "rd"
      refine ⟨a, c, t, rfl, S, by omega, fun p o s m H1 t1 hp ⟨s0', s1', o0, o1, md⟩ ht1 S1 O1 => ?_⟩
      obtain ⟨pa, pc⟩ := S1.nt hp
      have SP : SideP o s m := ⟨by show -(10 : Int) ^ 40 ≤ o; omega, by show o ≤ (10 : Int) ^ 40; omega, s0', s1', md⟩
      have S_H1 := S1
      walk_at "rd"
      refine ⟨p, _, _, _, rfl, rfl, SqT.of hp, rfl, ?_⟩
      walk_at "rd"
      refine ⟨p, _, _, _, rfl, rfl, SqT.of hp, rfl, ?_⟩
      walk_at "rd"
      refine ⟨⟨by decide, by decide, by decide⟩, ?_⟩
      walk_at "rd"
      refine ⟨by show (0 : Int) < 10 ^ (30 : Nat); decide, ?_⟩
      walk_at "rd"
      refine ⟨p, _, _, _, rfl, rfl, SqT.of hp, rfl, ?_⟩
      walk_at "rd"
      refine ⟨(by show 3 ≤ sizeLine; decide), fun po npo => ?_⟩
      generalize e_po : upd H1 po _ = RH1
      have g_po : RH1 po = some (sideV (o + 1) (s % 10 ^ 30 + 1) m) := by rw [← e_po]; exact upd_same
      have s_po : Same H1 RH1 := by rw [← e_po]; exact fun b u z => (upd_ne (ne_of_none z npo)).trans z
      clear e_po
      have S_RH1 := S_H1.of_same s_po
      have x_po := S_H1.na npo
      have SPo : SideP (o + 1) (s % 10 ^ 30 + 1) m := ⟨by show -(10 : Int) ^ 40 ≤ o + 1; omega, by show o + 1 ≤ (10 : Int) ^ 40; omega, by omega, by show s % 10 ^ 30 + 1 ≤ (10 : Int) ^ 30; omega, md⟩
      have sne : s % 10 ^ 30 + 1 ≠ s := by omega
      walk_at "rd"
      refine ⟨a, c, t1, 4, rfl, S_RH1, by omega, by decide, by decide, fun k H3 k0 k4 S3 O3 => ?_⟩
      obtain ⟨n, rfl⟩ := Int.eq_ofNat_of_zero_le k0
      have n4 : n < 4 := by omega
      have hp3 := O3 _ _ (s_po _ _ hp) pa pc
      have npo2 := (S_RH1.nt g_po)
      have hpo3 := O3 _ _ g_po npo2.1 npo2.2
      have S_H3 := S3
      walk_at "rd"
      intro sd dx_sd n_sd nd_sd ne_sd
      refine ⟨sd, dx_sd, p, _, _, _, rfl, upd_same, (upd_ne (ne_of_none hp3 n_sd)).trans ((upd_ne (ne_of_none hp3 nd_sd)).trans hp3), SP, fun TH1 sm_sd I_sd => ⟨rfl, ?_⟩⟩
      have s_sd : Same H3 TH1 := fun b u z => sm_sd b u (ne_of_none z n_sd) ((upd_ne (ne_of_none z n_sd)).trans ((upd_ne (ne_of_none z nd_sd)).trans z))
      clear sm_sd
      have S_TH1 := S_H3.of_same s_sd
      walk_at "rd"
      refine ⟨(by show 1 ≤ sizeLine; decide), fun l1 nl1 => ?_⟩
      generalize e_l1 : upd TH1 l1 _ = TH2
      have g_l1 : TH2 l1 = some (.lst [.ref p]) := by rw [← e_l1]; exact upd_same
      have s_l1 : Same TH1 TH2 := by rw [← e_l1]; exact fun b u z => (upd_ne (ne_of_none z nl1)).trans z
      clear e_l1
      have S_TH2 := S_TH1.of_same s_l1
      have x_l1 := S_TH1.na nl1
      walk_at "rd"
      refine ⟨l1, 1 + (n : Int), _, rfl, rfl, g_l1, by omega, by omega, (by show 1 * Int.toNat (1 + (n : Int)) ≤ sizeLine; exact Nat.le_trans (by omega : 1 * Int.toNat (1 + (n : Int)) ≤ 4) (by decide)), fun l2 nl2 => ?_⟩
      generalize e_l2 : upd TH2 l2 _ = TH3
      have g_l2 : TH3 l2 = some (.lst (List.replicate (1 + n) (V.ref p))) := by rw [← e_l2]; exact upd_same.trans (congrArg (fun z => some (HO.lst z)) ((rep1 _ _).trans (congrArg (fun z => List.replicate z (V.ref p)) (by omega))))
      have s_l2 : Same TH2 TH3 := by rw [← e_l2]; exact fun b u z => (upd_ne (ne_of_none z nl2)).trans z
      clear e_l2
      have S_TH3 := S_TH2.of_same s_l2
      walk_at "rd"
      have S_gr := sidesRep (d := ⟨o, s, m⟩) (n := 1 + n) g_l2 ((s_sd.trans (s_l1.trans s_l2)) _ _ hp3) SP (by omega) (by omega)
      intro gr dx_gr n_gr nd_gr ne_gr
      refine ⟨gr, dx_gr, l2, _, List.replicate (1 + n) ⟨o, s, m⟩, rfl, upd_same, S_gr.same (fun b u z => (upd_ne (ne_of_none z n_gr)).trans ((upd_ne (ne_of_none z nd_gr)).trans z)), fun TH4 sm_gr I_gr => ⟨rfl, ?_⟩⟩
      have s_gr : Same TH3 TH4 := fun b u z => sm_gr b u (ne_of_none z n_gr) ((upd_ne (ne_of_none z n_gr)).trans ((upd_ne (ne_of_none z nd_gr)).trans z))
      clear sm_gr
      have S_TH4 := S_TH3.of_same s_gr
      walk_at "rd"
      refine ⟨_, _, rfl, ?_⟩
      walk_at "rd"
      refine ⟨a, c, sd, gr, p, _, o, s, m, _, rfl, S_TH4, by omega, (I_sd.same (s_l1.trans (s_l2.trans s_gr))), I_gr, (s_sd.trans (s_l1.trans (s_l2.trans s_gr))) _ _ hp3, SP, fun H5 S5 O5 => ?_⟩
      have I5 := (I_sd.same (s_l1.trans (s_l2.trans s_gr))).oth S_TH4 O5
      have G5 := I_gr.oth S_TH4 O5
      have hp5 := O5 _ _ ((s_sd.trans (s_l1.trans (s_l2.trans s_gr))) _ _ hp3) pa pc
      have hpo5 := O5 _ _ ((s_sd.trans (s_l1.trans (s_l2.trans s_gr))) _ _ hpo3) npo2.1 npo2.2
      refine ⟨_, rfl, ?_⟩
      refine ite2 (fun z => absurd z (by decide)) (fun _ => ?_)
      walk_at "rd"
      refine ⟨1, 5, rfl, ⟨by decide, by decide, by decide, by decide⟩, ?_⟩
      refine for_range (n := 4) (fun j σ H' => ∃ x8 : Option V, σ = [some (.ref l), some (.ref a), some (.int (0 + (i : Int))), some (.ref p), some (.ref po), some (.int (1 + (n : Int))), some (.ref sd), some (.ref gr), x8, x9] ∧ Same H5 H') ⟨_, rfl, Same.refl _⟩ ?_ ?_
      · rintro j st H6 hj ⟨x8, rfl, s6⟩
        have G6 := G5.same s6
        have hpo6 := s6 _ _ hpo5
        walk_at "rd"
        refine ⟨(by show 1 ≤ sizeLine; decide), fun m1 nm1 => ?_⟩
        generalize e_m1 : upd H6 m1 _ = LH1
        have g_m1 : LH1 m1 = some (.lst [.ref po]) := by rw [← e_m1]; exact upd_same
        have s_m1 : Same H6 LH1 := by rw [← e_m1]; exact fun b u z => (upd_ne (ne_of_none z nm1)).trans z
        clear e_m1
        walk_at "rd"
        refine ⟨m1, 1 + (j : Int), _, rfl, rfl, g_m1, by omega, by omega, (by show 1 * Int.toNat (1 + (j : Int)) ≤ sizeLine; exact Nat.le_trans (by omega : 1 * Int.toNat (1 + (j : Int)) ≤ 4) (by decide)), fun m2 nm2 => ?_⟩
        generalize e_m2 : upd LH1 m2 _ = LH2
        have g_m2 : LH2 m2 = some (.lst (List.replicate (1 + j) (V.ref po))) := by rw [← e_m2]; exact upd_same.trans (congrArg (fun z => some (HO.lst z)) ((rep1 _ _).trans (congrArg (fun z => List.replicate z (V.ref po)) (by omega))))
        have s_m2 : Same LH1 LH2 := by rw [← e_m2]; exact fun b u z => (upd_ne (ne_of_none z nm2)).trans z
        clear e_m2
        walk_at "rd"
        have S_go := sidesRep (d := ⟨o + 1, s % 10 ^ 30 + 1, m⟩) (n := 1 + j) g_m2 ((s_m1.trans s_m2) _ _ hpo6) SPo (by omega) (by omega)
        intro go dx_go n_go nd_go ne_go
        refine ⟨go, dx_go, m2, _, List.replicate (1 + j) ⟨o + 1, s % 10 ^ 30 + 1, m⟩, rfl, upd_same, S_go.same (fun b u z => (upd_ne (ne_of_none z n_go)).trans ((upd_ne (ne_of_none z nd_go)).trans z)), fun LH3 sm_go I_go => ⟨rfl, ?_⟩⟩
        have s_go : Same LH2 LH3 := fun b u z => sm_go b u (ne_of_none z n_go) ((upd_ne (ne_of_none z n_go)).trans ((upd_ne (ne_of_none z nd_go)).trans z))
        clear sm_go
        walk_at "rd"
        refine ⟨2, _, _, _, rfl, .orZG (G6.same (s_m1.trans (s_m2.trans s_go))) (.inr I_go), fun LH4 s_LH4 => ?_⟩
        rw [List.length_replicate, List.length_replicate]
        by_cases few : 1 + n + (1 + j) ≤ 4
        · rw [if_pos few]
          walk_at "rd"
          refine ⟨(by show 2 ≤ sizeLine; decide), fun w1 nw1 => ?_⟩
          generalize e_w1 : upd LH4 w1 _ = LH5
          have g_w1 : LH5 w1 = some (.lst [.str "sides", .str "good"]) := by rw [← e_w1]; exact upd_same
          have s_w1 : Same LH4 LH5 := by rw [← e_w1]; exact fun b u z => (upd_ne (ne_of_none z nw1)).trans z
          clear e_w1
          walk_at "rd"
          refine .inr ⟨true, ?_, ?_⟩
          · show [V.bl (decide ((1 : Int) + (n : Int) + (1 + (j : Int)) < 5))] = _
            rw [decide_eq_true (by omega)]
          refine ⟨w1, _, _, _, rfl, rfl, SqL.of g_w1, rfl, ?_⟩
          walk_at "rd"
          refine ⟨rfl, _, rfl, ?_⟩
          refine ite2 (fun z => absurd z (by decide +kernel)) (fun _ => ?_)
          exact ⟨_, rfl, s6.trans (s_m1.trans (s_m2.trans (s_go.trans (s_LH4.trans s_w1))))⟩
        · rw [if_neg few]
          walk_at "rd"
          refine ⟨(by show 2 ≤ sizeLine; decide), fun w1 nw1 => ?_⟩
          generalize e_w1 : upd LH4 w1 _ = LH5
          have g_w1 : LH5 w1 = some (.lst [.str "sides", .str "good"]) := by rw [← e_w1]; exact upd_same
          have s_w1 : Same LH4 LH5 := by rw [← e_w1]; exact fun b u z => (upd_ne (ne_of_none z nw1)).trans z
          clear e_w1
          walk_at "rd"
          refine .inr ⟨false, ?_, ?_⟩
          · show [V.bl (decide ((1 : Int) + (n : Int) + (1 + (j : Int)) < 5))] = _
            rw [decide_eq_false (by omega)]
          refine ⟨w1, _, _, _, rfl, rfl, SqL.of g_w1, rfl, ?_⟩
          walk_at "rd"
          refine ⟨rfl, _, rfl, ?_⟩
          refine ite2 (fun z => absurd z (by decide +kernel)) (fun _ => ?_)
          exact ⟨_, rfl, s6.trans (s_m1.trans (s_m2.trans (s_go.trans (s_LH4.trans s_w1))))⟩
      rintro σ H6 ⟨x8, rfl, s6⟩
      have I6 := I5.same s6
      have G6 := G5.same s6
      have hp6 := s6 _ _ hp5
      have hpo6 := s6 _ _ hpo5
      by_cases few : 1 + n + 1 ≤ 4
      · walk_at "rd"
        refine ⟨(by show 2 ≤ sizeLine; decide), fun w2 nw2 => ?_⟩
        generalize e_w2 : upd H6 w2 _ = BH1
        have g_w2 : BH1 w2 = some (.lst [.str "sides", .str "good"]) := by rw [← e_w2]; exact upd_same
        have s_w2 : Same H6 BH1 := by rw [← e_w2]; exact fun b u z => (upd_ne (ne_of_none z nw2)).trans z
        clear e_w2
        walk_at "rd"
        refine .inr ⟨true, ?_, ?_⟩
        · show [V.bl (decide ((1 : Int) + (n : Int) < 4))] = _
          rw [decide_eq_true (by omega)]
        refine ⟨w2, _, _, _, rfl, rfl, SqL.of g_w2, rfl, ?_⟩
        walk_at "rd"
        intro so dx_so n_so nd_so ne_so
        refine ⟨so, dx_so, po, _, _, _, rfl, upd_same, (upd_ne (ne_of_none (s_w2 _ _ hpo6) n_so)).trans ((upd_ne (ne_of_none (s_w2 _ _ hpo6) nd_so)).trans (s_w2 _ _ hpo6)), SPo, fun BH2 sm_so I_so => ⟨rfl, ?_⟩⟩
        have s_so : Same BH1 BH2 := fun b u z => sm_so b u (ne_of_none z n_so) ((upd_ne (ne_of_none z n_so)).trans ((upd_ne (ne_of_none z nd_so)).trans z))
        clear sm_so
        walk_at "rd"
        refine ⟨2, _, _, _, rfl, .cast (.orZG (G6.same (s_w2.trans s_so)) (.inl ⟨_, _, _, rfl, I_so⟩)) (if_pos (by rw [List.length_replicate]; exact few)), fun BH3 s_BH3 => ?_⟩
        walk_at "rd"
        intro sq dx_sq n_sq nd_sq ne_sq
        refine ⟨sq, dx_sq, po, _, _, _, rfl, upd_same, (upd_ne (ne_of_none ((s_w2.trans (s_so.trans s_BH3)) _ _ hpo6) n_sq)).trans ((upd_ne (ne_of_none ((s_w2.trans (s_so.trans s_BH3)) _ _ hpo6) nd_sq)).trans ((s_w2.trans (s_so.trans s_BH3)) _ _ hpo6)), SPo, fun BH4 sm_sq I_sq => ⟨rfl, ?_⟩⟩
        have s_sq : Same BH3 BH4 := fun b u z => sm_sq b u (ne_of_none z n_sq) ((upd_ne (ne_of_none z n_sq)).trans ((upd_ne (ne_of_none z nd_sq)).trans z))
        clear sm_sq
        walk_at "rd"
        refine ⟨2, _, _, _, rfl, .cast (.orSG I_sq (.inr (G6.same (s_w2.trans (s_so.trans (s_BH3.trans s_sq)))))) (if_pos (by rw [List.length_replicate]; omega)), fun BH5 s_BH5 => ?_⟩
        walk_at "rd"
        refine ⟨(by show 2 ≤ sizeLine; decide), fun c0 nc0 => ?_⟩
        generalize e_c0 : upd BH5 c0 _ = BH6
        have g_c0 : BH6 c0 = some (.lst [.str "good", .str "good"]) := by rw [← e_c0]; exact upd_same
        have s_c0 : Same BH5 BH6 := by rw [← e_c0]; exact fun b u z => (upd_ne (ne_of_none z nc0)).trans z
        clear e_c0
        walk_at "rd"
        refine ⟨(by show 1 ≤ sizeLine; decide), fun c1 nc1 => ?_⟩
        generalize e_c1 : upd BH6 c1 _ = BH7
        have g_c1 : BH7 c1 = some (.lst [.str "good"]) := by rw [← e_c1]; exact upd_same
        have s_c1 : Same BH6 BH7 := by rw [← e_c1]; exact fun b u z => (upd_ne (ne_of_none z nc1)).trans z
        clear e_c1
        walk_at "rd"
        refine ⟨c1, 2, _, rfl, rfl, g_c1, by decide, by decide, (by show 2 ≤ sizeLine; decide), fun c2 nc2 => ?_⟩
        generalize e_c2 : upd BH7 c2 _ = BH8
        have g_c2 : BH8 c2 = some (.lst [.str "good", .str "good"]) := by rw [← e_c2]; exact upd_same
        have s_c2 : Same BH7 BH8 := by rw [← e_c2]; exact fun b u z => (upd_ne (ne_of_none z nc2)).trans z
        clear e_c2
        refine ⟨_, _, .lst (SqL.of ((s_c1.trans s_c2) _ _ g_c0)) (.cons (.str _) (.cons (.str _) .nil)), .lst (SqL.of g_c2) (.cons (.str _) (.cons (.str _) .nil)), by decide +kernel, by decide +kernel, ?_⟩
        walk_at "rd"
        refine ⟨3, _, _, _, rfl, .cast (.subZG (G6.same (s_w2.trans (s_so.trans (s_BH3.trans (s_sq.trans (s_BH5.trans (s_c0.trans (s_c1.trans s_c2)))))))) (.inl ⟨_, _, _, rfl, (I6.same (s_w2.trans (s_so.trans (s_BH3.trans (s_sq.trans (s_BH5.trans (s_c0.trans (s_c1.trans s_c2))))))))⟩)) (if_pos (subF_self ⟨o, s, m⟩ md SP _ _ List.mem_cons_self)), fun BH9 s_BH9 => ?_⟩
        walk_at "rd"
        refine ⟨3, _, _, _, rfl, .cast (.subZG (G6.same (s_w2.trans (s_so.trans (s_BH3.trans (s_sq.trans (s_BH5.trans (s_c0.trans (s_c1.trans (s_c2.trans s_BH9))))))))) (.inr (G6.same (s_w2.trans (s_so.trans (s_BH3.trans (s_sq.trans (s_BH5.trans (s_c0.trans (s_c1.trans (s_c2.trans s_BH9))))))))))) (if_pos (subF_self ⟨o, s, m⟩ md SP _ _ (List.mem_replicate.mpr ⟨by omega, rfl⟩))), fun BH10 s_BH10 => ?_⟩
        walk_at "rd"
        refine ⟨(by show 2 ≤ sizeLine; decide), fun f0 nf0 => ?_⟩
        generalize e_f0 : upd BH10 f0 _ = BH11
        have g_f0 : BH11 f0 = some (.lst [.str "sides", .str "sides"]) := by rw [← e_f0]; exact upd_same
        have s_f0 : Same BH10 BH11 := by rw [← e_f0]; exact fun b u z => (upd_ne (ne_of_none z nf0)).trans z
        clear e_f0
        walk_at "rd"
        refine ⟨(by show 1 ≤ sizeLine; decide), fun f1 nf1 => ?_⟩
        generalize e_f1 : upd BH11 f1 _ = BH12
        have g_f1 : BH12 f1 = some (.lst [.str "sides"]) := by rw [← e_f1]; exact upd_same
        have s_f1 : Same BH11 BH12 := by rw [← e_f1]; exact fun b u z => (upd_ne (ne_of_none z nf1)).trans z
        clear e_f1
        walk_at "rd"
        refine ⟨f1, 2, _, rfl, rfl, g_f1, by decide, by decide, (by show 2 ≤ sizeLine; decide), fun f2 nf2 => ?_⟩
        generalize e_f2 : upd BH12 f2 _ = BH13
        have g_f2 : BH13 f2 = some (.lst [.str "sides", .str "sides"]) := by rw [← e_f2]; exact upd_same
        have s_f2 : Same BH12 BH13 := by rw [← e_f2]; exact fun b u z => (upd_ne (ne_of_none z nf2)).trans z
        clear e_f2
        refine ⟨_, _, .lst (SqL.of ((s_f1.trans s_f2) _ _ g_f0)) (.cons (.str _) (.cons (.str _) .nil)), .lst (SqL.of g_f2) (.cons (.str _) (.cons (.str _) .nil)), by decide +kernel, by decide +kernel, ?_⟩
        walk_at "rd"
        refine ⟨(by show 1 ≤ sizeLine; decide), fun j0 nj0 => ?_⟩
        generalize e_j0 : upd BH13 j0 _ = BH14
        have g_j0 : BH14 j0 = some (.lst [.ref po]) := by rw [← e_j0]; exact upd_same
        have s_j0 : Same BH13 BH14 := by rw [← e_j0]; exact fun b u z => (upd_ne (ne_of_none z nj0)).trans z
        clear e_j0
        walk_at "rd"
        have S_gq := sidesAt1 g_j0 ((s_w2.trans (s_so.trans (s_BH3.trans (s_sq.trans (s_BH5.trans (s_c0.trans (s_c1.trans (s_c2.trans (s_BH9.trans (s_BH10.trans (s_f0.trans (s_f1.trans (s_f2.trans s_j0))))))))))))) _ _ hpo6) SPo
        intro gq dx_gq n_gq nd_gq ne_gq
        refine ⟨gq, dx_gq, j0, _, [⟨o + 1, s % 10 ^ 30 + 1, m⟩], rfl, upd_same, S_gq.same (fun b u z => (upd_ne (ne_of_none z n_gq)).trans ((upd_ne (ne_of_none z nd_gq)).trans z)), fun BH15 sm_gq I_gq => ⟨rfl, ?_⟩⟩
        have s_gq : Same BH14 BH15 := fun b u z => sm_gq b u (ne_of_none z n_gq) ((upd_ne (ne_of_none z n_gq)).trans ((upd_ne (ne_of_none z nd_gq)).trans z))
        clear sm_gq
        walk_at "rd"
        refine ⟨3, _, _, _, rfl, .cast (.subZG (G6.same (s_w2.trans (s_so.trans (s_BH3.trans (s_sq.trans (s_BH5.trans (s_c0.trans (s_c1.trans (s_c2.trans (s_BH9.trans (s_BH10.trans (s_f0.trans (s_f1.trans (s_f2.trans (s_j0.trans s_gq))))))))))))))) (.inr I_gq)) (if_neg (subF_step ⟨o, s, m⟩ ⟨o + 1, s % 10 ^ 30 + 1, m⟩ sne _ (by omega))), fun BH16 s_BH16 => ?_⟩
        walk_at "rd"
        refine ⟨rfl, _, rfl, ?_⟩
        refine ite2 (fun z => absurd z (by decide +kernel)) (fun _ => ?_)
        walk_at "rd"
        have GZ := (G6.same (s_w2.trans (s_so.trans (s_BH3.trans (s_sq.trans (s_BH5.trans (s_c0.trans (s_c1.trans (s_c2.trans (s_BH9.trans (s_BH10.trans (s_f0.trans (s_f1.trans (s_f2.trans (s_j0.trans (s_gq.trans s_BH16))))))))))))))))
        obtain ⟨dxg, lg, fmg, xg, hxg, _⟩ := id GZ
        refine ⟨gr, dxg, _, rfl, hxg, gr, _, rfl, GZ, fun lz xz BH17 SZ s_lz => ?_⟩
        walk_at "rd"
        refine ⟨(by show 1 ≤ sizeLine; decide), fun v0 nv0 => ?_⟩
        generalize e_v0 : upd BH17 v0 _ = BH18
        have g_v0 : BH18 v0 = some (.lst [.ref p]) := by rw [← e_v0]; exact upd_same
        have s_v0 : Same BH17 BH18 := by rw [← e_v0]; exact fun b u z => (upd_ne (ne_of_none z nv0)).trans z
        clear e_v0
        walk_at "rd"
        refine ⟨v0, 1 + (n : Int), _, rfl, rfl, g_v0, by omega, by omega, (by show 1 * Int.toNat (1 + (n : Int)) ≤ sizeLine; exact Nat.le_trans (by omega : 1 * Int.toNat (1 + (n : Int)) ≤ 4) (by decide)), fun v1 nv1 => ?_⟩
        generalize e_v1 : upd BH18 v1 _ = BH19
        have g_v1 : BH19 v1 = some (.lst (List.replicate (1 + n) (V.ref p))) := by rw [← e_v1]; exact upd_same.trans (congrArg (fun z => some (HO.lst z)) ((rep1 _ _).trans (congrArg (fun z => List.replicate z (V.ref p)) (by omega))))
        have s_v1 : Same BH18 BH19 := by rw [← e_v1]; exact fun b u z => (upd_ne (ne_of_none z nv1)).trans z
        clear e_v1
        have TV := sidesRep (d := ⟨o, s, m⟩) g_v1 ((s_w2.trans (s_so.trans (s_BH3.trans (s_sq.trans (s_BH5.trans (s_c0.trans (s_c1.trans (s_c2.trans (s_BH9.trans (s_BH10.trans (s_f0.trans (s_f1.trans (s_f2.trans (s_j0.trans (s_gq.trans (s_BH16.trans (s_lz.trans (s_v0.trans s_v1)))))))))))))))))) _ _ hp6) SP (by omega) (by omega)
        have TZ := (SZ.same (s_v0.trans s_v1))
        have sh : SeqAt.shaped (.list ((List.replicate (1 + n) (⟨o, s, m⟩ : Sd)).map sdD)) = true := shaped_sides fun e he => by obtain rfl := List.eq_of_mem_replicate he; exact md
        refine ⟨_, _, .lst (SqL.of TZ.hl) (dpAt _ _ TZ.len TZ.at_), .lst (SqL.of TV.hl) (dpAt _ _ TV.len TV.at_), sh, sh, _, rfl, ?_⟩
        refine ite2 (fun z => absurd z (by rw [SeqAt.eqv_refl _ (SeqAt.canLay_of_shaped sh)]; decide)) (fun _ => ?_)
        exact ⟨_, _, _, _, _, _, _, _, t1 + 1 + 1, rfl, by omega, S5.of_same (s6.trans (s_w2.trans (s_so.trans (s_BH3.trans (s_sq.trans (s_BH5.trans (s_c0.trans (s_c1.trans (s_c2.trans (s_BH9.trans (s_BH10.trans (s_f0.trans (s_f1.trans (s_f2.trans (s_j0.trans (s_gq.trans (s_BH16.trans (s_lz.trans (s_v0.trans s_v1)))))))))))))))))))⟩
      · walk_at "rd"
        refine ⟨(by show 2 ≤ sizeLine; decide), fun w2 nw2 => ?_⟩
        generalize e_w2 : upd H6 w2 _ = BH1
        have g_w2 : BH1 w2 = some (.lst [.str "sides", .str "good"]) := by rw [← e_w2]; exact upd_same
        have s_w2 : Same H6 BH1 := by rw [← e_w2]; exact fun b u z => (upd_ne (ne_of_none z nw2)).trans z
        clear e_w2
        walk_at "rd"
        refine .inr ⟨false, ?_, ?_⟩
        · show [V.bl (decide ((1 : Int) + (n : Int) < 4))] = _
          rw [decide_eq_false (by omega)]
        refine ⟨w2, _, _, _, rfl, rfl, SqL.of g_w2, rfl, ?_⟩
        walk_at "rd"
        intro so dx_so n_so nd_so ne_so
        refine ⟨so, dx_so, po, _, _, _, rfl, upd_same, (upd_ne (ne_of_none (s_w2 _ _ hpo6) n_so)).trans ((upd_ne (ne_of_none (s_w2 _ _ hpo6) nd_so)).trans (s_w2 _ _ hpo6)), SPo, fun BH2 sm_so I_so => ⟨rfl, ?_⟩⟩
        have s_so : Same BH1 BH2 := fun b u z => sm_so b u (ne_of_none z n_so) ((upd_ne (ne_of_none z n_so)).trans ((upd_ne (ne_of_none z nd_so)).trans z))
        clear sm_so
        walk_at "rd"
        refine ⟨2, _, _, _, rfl, .cast (.orZG (G6.same (s_w2.trans s_so)) (.inl ⟨_, _, _, rfl, I_so⟩)) (if_neg (by rw [List.length_replicate]; exact few)), fun BH3 s_BH3 => ?_⟩
        walk_at "rd"
        intro sq dx_sq n_sq nd_sq ne_sq
        refine ⟨sq, dx_sq, po, _, _, _, rfl, upd_same, (upd_ne (ne_of_none ((s_w2.trans (s_so.trans s_BH3)) _ _ hpo6) n_sq)).trans ((upd_ne (ne_of_none ((s_w2.trans (s_so.trans s_BH3)) _ _ hpo6) nd_sq)).trans ((s_w2.trans (s_so.trans s_BH3)) _ _ hpo6)), SPo, fun BH4 sm_sq I_sq => ⟨rfl, ?_⟩⟩
        have s_sq : Same BH3 BH4 := fun b u z => sm_sq b u (ne_of_none z n_sq) ((upd_ne (ne_of_none z n_sq)).trans ((upd_ne (ne_of_none z nd_sq)).trans z))
        clear sm_sq
        walk_at "rd"
        refine ⟨2, _, _, _, rfl, .cast (.orSG I_sq (.inr (G6.same (s_w2.trans (s_so.trans (s_BH3.trans s_sq)))))) (if_neg (by rw [List.length_replicate]; omega)), fun BH5 s_BH5 => ?_⟩
        walk_at "rd"
        refine ⟨(by show 2 ≤ sizeLine; decide), fun c0 nc0 => ?_⟩
        generalize e_c0 : upd BH5 c0 _ = BH6
        have g_c0 : BH6 c0 = some (.lst [.str "sides", .str "sides"]) := by rw [← e_c0]; exact upd_same
        have s_c0 : Same BH5 BH6 := by rw [← e_c0]; exact fun b u z => (upd_ne (ne_of_none z nc0)).trans z
        clear e_c0
        walk_at "rd"
        refine ⟨(by show 1 ≤ sizeLine; decide), fun c1 nc1 => ?_⟩
        generalize e_c1 : upd BH6 c1 _ = BH7
        have g_c1 : BH7 c1 = some (.lst [.str "sides"]) := by rw [← e_c1]; exact upd_same
        have s_c1 : Same BH6 BH7 := by rw [← e_c1]; exact fun b u z => (upd_ne (ne_of_none z nc1)).trans z
        clear e_c1
        walk_at "rd"
        refine ⟨c1, 2, _, rfl, rfl, g_c1, by decide, by decide, (by show 2 ≤ sizeLine; decide), fun c2 nc2 => ?_⟩
        generalize e_c2 : upd BH7 c2 _ = BH8
        have g_c2 : BH8 c2 = some (.lst [.str "sides", .str "sides"]) := by rw [← e_c2]; exact upd_same
        have s_c2 : Same BH7 BH8 := by rw [← e_c2]; exact fun b u z => (upd_ne (ne_of_none z nc2)).trans z
        clear e_c2
        refine ⟨_, _, .lst (SqL.of ((s_c1.trans s_c2) _ _ g_c0)) (.cons (.str _) (.cons (.str _) .nil)), .lst (SqL.of g_c2) (.cons (.str _) (.cons (.str _) .nil)), by decide +kernel, by decide +kernel, ?_⟩
        walk_at "rd"
        refine ⟨3, _, _, _, rfl, .cast (.subZG (G6.same (s_w2.trans (s_so.trans (s_BH3.trans (s_sq.trans (s_BH5.trans (s_c0.trans (s_c1.trans s_c2)))))))) (.inl ⟨_, _, _, rfl, (I6.same (s_w2.trans (s_so.trans (s_BH3.trans (s_sq.trans (s_BH5.trans (s_c0.trans (s_c1.trans s_c2))))))))⟩)) (if_pos (subF_self ⟨o, s, m⟩ md SP _ _ List.mem_cons_self)), fun BH9 s_BH9 => ?_⟩
        walk_at "rd"
        refine ⟨3, _, _, _, rfl, .cast (.subZG (G6.same (s_w2.trans (s_so.trans (s_BH3.trans (s_sq.trans (s_BH5.trans (s_c0.trans (s_c1.trans (s_c2.trans s_BH9))))))))) (.inr (G6.same (s_w2.trans (s_so.trans (s_BH3.trans (s_sq.trans (s_BH5.trans (s_c0.trans (s_c1.trans (s_c2.trans s_BH9))))))))))) (if_pos (subF_self ⟨o, s, m⟩ md SP _ _ (List.mem_replicate.mpr ⟨by omega, rfl⟩))), fun BH10 s_BH10 => ?_⟩
        walk_at "rd"
        refine ⟨(by show 2 ≤ sizeLine; decide), fun f0 nf0 => ?_⟩
        generalize e_f0 : upd BH10 f0 _ = BH11
        have g_f0 : BH11 f0 = some (.lst [.str "sides", .str "sides"]) := by rw [← e_f0]; exact upd_same
        have s_f0 : Same BH10 BH11 := by rw [← e_f0]; exact fun b u z => (upd_ne (ne_of_none z nf0)).trans z
        clear e_f0
        walk_at "rd"
        refine ⟨(by show 1 ≤ sizeLine; decide), fun f1 nf1 => ?_⟩
        generalize e_f1 : upd BH11 f1 _ = BH12
        have g_f1 : BH12 f1 = some (.lst [.str "sides"]) := by rw [← e_f1]; exact upd_same
        have s_f1 : Same BH11 BH12 := by rw [← e_f1]; exact fun b u z => (upd_ne (ne_of_none z nf1)).trans z
        clear e_f1
        walk_at "rd"
        refine ⟨f1, 2, _, rfl, rfl, g_f1, by decide, by decide, (by show 2 ≤ sizeLine; decide), fun f2 nf2 => ?_⟩
        generalize e_f2 : upd BH12 f2 _ = BH13
        have g_f2 : BH13 f2 = some (.lst [.str "sides", .str "sides"]) := by rw [← e_f2]; exact upd_same
        have s_f2 : Same BH12 BH13 := by rw [← e_f2]; exact fun b u z => (upd_ne (ne_of_none z nf2)).trans z
        clear e_f2
        refine ⟨_, _, .lst (SqL.of ((s_f1.trans s_f2) _ _ g_f0)) (.cons (.str _) (.cons (.str _) .nil)), .lst (SqL.of g_f2) (.cons (.str _) (.cons (.str _) .nil)), by decide +kernel, by decide +kernel, ?_⟩
        walk_at "rd"
        refine ⟨(by show 1 ≤ sizeLine; decide), fun j0 nj0 => ?_⟩
        generalize e_j0 : upd BH13 j0 _ = BH14
        have g_j0 : BH14 j0 = some (.lst [.ref po]) := by rw [← e_j0]; exact upd_same
        have s_j0 : Same BH13 BH14 := by rw [← e_j0]; exact fun b u z => (upd_ne (ne_of_none z nj0)).trans z
        clear e_j0
        walk_at "rd"
        have S_gq := sidesAt1 g_j0 ((s_w2.trans (s_so.trans (s_BH3.trans (s_sq.trans (s_BH5.trans (s_c0.trans (s_c1.trans (s_c2.trans (s_BH9.trans (s_BH10.trans (s_f0.trans (s_f1.trans (s_f2.trans s_j0))))))))))))) _ _ hpo6) SPo
        intro gq dx_gq n_gq nd_gq ne_gq
        refine ⟨gq, dx_gq, j0, _, [⟨o + 1, s % 10 ^ 30 + 1, m⟩], rfl, upd_same, S_gq.same (fun b u z => (upd_ne (ne_of_none z n_gq)).trans ((upd_ne (ne_of_none z nd_gq)).trans z)), fun BH15 sm_gq I_gq => ⟨rfl, ?_⟩⟩
        have s_gq : Same BH14 BH15 := fun b u z => sm_gq b u (ne_of_none z n_gq) ((upd_ne (ne_of_none z n_gq)).trans ((upd_ne (ne_of_none z nd_gq)).trans z))
        clear sm_gq
        walk_at "rd"
        refine ⟨3, _, _, _, rfl, .cast (.subZG (G6.same (s_w2.trans (s_so.trans (s_BH3.trans (s_sq.trans (s_BH5.trans (s_c0.trans (s_c1.trans (s_c2.trans (s_BH9.trans (s_BH10.trans (s_f0.trans (s_f1.trans (s_f2.trans (s_j0.trans s_gq))))))))))))))) (.inr I_gq)) (if_neg (subF_step ⟨o, s, m⟩ ⟨o + 1, s % 10 ^ 30 + 1, m⟩ sne _ (by omega))), fun BH16 s_BH16 => ?_⟩
        walk_at "rd"
        refine ⟨rfl, _, rfl, ?_⟩
        refine ite2 (fun z => absurd z (by decide +kernel)) (fun _ => ?_)
        walk_at "rd"
        have GZ := (G6.same (s_w2.trans (s_so.trans (s_BH3.trans (s_sq.trans (s_BH5.trans (s_c0.trans (s_c1.trans (s_c2.trans (s_BH9.trans (s_BH10.trans (s_f0.trans (s_f1.trans (s_f2.trans (s_j0.trans (s_gq.trans s_BH16))))))))))))))))
        obtain ⟨dxg, lg, fmg, xg, hxg, _⟩ := id GZ
        refine ⟨gr, dxg, _, rfl, hxg, gr, _, rfl, GZ, fun lz xz BH17 SZ s_lz => ?_⟩
        walk_at "rd"
        refine ⟨(by show 1 ≤ sizeLine; decide), fun v0 nv0 => ?_⟩
        generalize e_v0 : upd BH17 v0 _ = BH18
        have g_v0 : BH18 v0 = some (.lst [.ref p]) := by rw [← e_v0]; exact upd_same
        have s_v0 : Same BH17 BH18 := by rw [← e_v0]; exact fun b u z => (upd_ne (ne_of_none z nv0)).trans z
        clear e_v0
        walk_at "rd"
        refine ⟨v0, 1 + (n : Int), _, rfl, rfl, g_v0, by omega, by omega, (by show 1 * Int.toNat (1 + (n : Int)) ≤ sizeLine; exact Nat.le_trans (by omega : 1 * Int.toNat (1 + (n : Int)) ≤ 4) (by decide)), fun v1 nv1 => ?_⟩
        generalize e_v1 : upd BH18 v1 _ = BH19
        have g_v1 : BH19 v1 = some (.lst (List.replicate (1 + n) (V.ref p))) := by rw [← e_v1]; exact upd_same.trans (congrArg (fun z => some (HO.lst z)) ((rep1 _ _).trans (congrArg (fun z => List.replicate z (V.ref p)) (by omega))))
        have s_v1 : Same BH18 BH19 := by rw [← e_v1]; exact fun b u z => (upd_ne (ne_of_none z nv1)).trans z
        clear e_v1
        have TV := sidesRep (d := ⟨o, s, m⟩) g_v1 ((s_w2.trans (s_so.trans (s_BH3.trans (s_sq.trans (s_BH5.trans (s_c0.trans (s_c1.trans (s_c2.trans (s_BH9.trans (s_BH10.trans (s_f0.trans (s_f1.trans (s_f2.trans (s_j0.trans (s_gq.trans (s_BH16.trans (s_lz.trans (s_v0.trans s_v1)))))))))))))))))) _ _ hp6) SP (by omega) (by omega)
        have TZ := (SZ.same (s_v0.trans s_v1))
        have sh : SeqAt.shaped (.list ((List.replicate (1 + n) (⟨o, s, m⟩ : Sd)).map sdD)) = true := shaped_sides fun e he => by obtain rfl := List.eq_of_mem_replicate he; exact md
        refine ⟨_, _, .lst (SqL.of TZ.hl) (dpAt _ _ TZ.len TZ.at_), .lst (SqL.of TV.hl) (dpAt _ _ TV.len TV.at_), sh, sh, _, rfl, ?_⟩
        refine ite2 (fun z => absurd z (by rw [SeqAt.eqv_refl _ (SeqAt.canLay_of_shaped sh)]; decide)) (fun _ => ?_)
        exact ⟨_, _, _, _, _, _, _, _, t1 + 1 + 1, rfl, by omega, S5.of_same (s6.trans (s_w2.trans (s_so.trans (s_BH3.trans (s_sq.trans (s_BH5.trans (s_c0.trans (s_c1.trans (s_c2.trans (s_BH9.trans (s_BH10.trans (s_f0.trans (s_f1.trans (s_f2.trans (s_j0.trans (s_gq.trans (s_BH16.trans (s_lz.trans (s_v0.trans s_v1)))))))))))))))))))⟩
    rintro σ H' ⟨x2, x3, x4, x5, x6, x7, x8, x9, t, rfl, ht, S⟩
    walk_at "rd"
    refine ⟨rfl, fun H7 s7 => ⟨_, rfl, ?_⟩⟩
    refine ite2 (fun z => absurd z (by decide)) (fun _ => ?_)
    walk_at "rd"
    refine ⟨(by show 3 ≤ sizeLine; decide), fun ta nta => ?_⟩
    generalize e_ta : upd H7 ta _ = FH1
    have g_ta : FH1 ta = some (sideV 0 5 "up") := by rw [← e_ta]; exact upd_same
    have s_ta : Same H7 FH1 := by rw [← e_ta]; exact fun b u z => (upd_ne (ne_of_none z nta)).trans z
    clear e_ta
    walk_at "rd"
    refine ⟨(by show 1 ≤ sizeLine; decide), fun la nla => ?_⟩
    generalize e_la : upd FH1 la _ = FH2
    have g_la : FH2 la = some (.lst [.ref ta]) := by rw [← e_la]; exact upd_same
    have s_la : Same FH1 FH2 := by rw [← e_la]; exact fun b u z => (upd_ne (ne_of_none z nla)).trans z
    clear e_la
    walk_at "rd"
    refine ⟨la, 4, _, rfl, rfl, g_la, by decide, by decide, (by show 4 ≤ sizeLine; decide), fun lc nlc => ?_⟩
    generalize e_lc : upd FH2 lc _ = FH3
    have g_lc : FH3 lc = some (.lst (List.replicate 4 (V.ref ta))) := by rw [← e_lc]; exact upd_same
    have s_lc : Same FH2 FH3 := by rw [← e_lc]; exact fun b u z => (upd_ne (ne_of_none z nlc)).trans z
    clear e_lc
    walk_at "rd"
    refine ⟨1, _, _, _, rfl, .sidesG (sidesRep (d := ⟨0, 5, "up"⟩) g_lc ((s_la.trans s_lc) _ _ g_ta) ⟨by decide, by decide, by decide, by decide, md_up⟩ (by decide) (by decide)), fun FH4 s_FH4 => ?_⟩
    walk_at "rd"
    refine ⟨rfl, ?_⟩
    walk_at "rd"
    refine ⟨(by show 3 ≤ sizeLine; decide), fun tb ntb => ?_⟩
    generalize e_tb : upd FH4 tb _ = FH5
    have g_tb : FH5 tb = some (sideV 0 5 "up") := by rw [← e_tb]; exact upd_same
    have s_tb : Same FH4 FH5 := by rw [← e_tb]; exact fun b u z => (upd_ne (ne_of_none z ntb)).trans z
    clear e_tb
    walk_at "rd"
    refine ⟨(by show 1 ≤ sizeLine; decide), fun lb nlb => ?_⟩
    generalize e_lb : upd FH5 lb _ = FH6
    have g_lb : FH6 lb = some (.lst [.ref tb]) := by rw [← e_lb]; exact upd_same
    have s_lb : Same FH5 FH6 := by rw [← e_lb]; exact fun b u z => (upd_ne (ne_of_none z nlb)).trans z
    clear e_lb
    walk_at "rd"
    refine ⟨lb, 5, _, rfl, rfl, g_lb, by decide, by decide, (by show 5 ≤ sizeLine; decide), fun ld nld => ?_⟩
    generalize e_ld : upd FH6 ld _ = FH7
    have g_ld : FH7 ld = some (.lst [.ref tb, .ref tb, .ref tb, .ref tb, .ref tb]) := by rw [← e_ld]; exact upd_same
    have s_ld : Same FH6 FH7 := by rw [← e_ld]; exact fun b u z => (upd_ne (ne_of_none z nld)).trans z
    clear e_ld
    walk_at "rd"
    refine ⟨1, _, _, _, rfl, .sides (.len g_ld (by simp)), fun FH8 s_FH8 => ?_⟩
    refine ⟨rfl, ?_⟩
    exact q _
end
end HT
namespace HT
open PySem L2
section
variable {P : Program} {w : World} {K : PySem.W.Frag} {mg : Str → Option Value} {base : Heap}
/-- a def's promise among errors where none comes -/
theorem of_x {k : Nat} {f : Addr} {fd : FuncData} {ps : List Str} {sp : Sp} (F : FnOk P w K mg base (L2.CX P w) k f fd ps sp) : FnOk P w K mg base CX0 k f fd ps (fun vs H Q _ => sp vs H Q fun _ _ _ => False) :=
  ⟨fun vs H Q E h => F.len vs H Q _ h, fun A outer s0 H args us vs Q E hr he hb hv hs => codeAny_mono (F.run A outer s0 H args us vs Q _ hr he hb hv hs) fun r s' h => by
    unfold CR at h ⊢
    split at h
    · exact h
    · exact h
    · obtain ⟨_, _, _, _, _, _, _, _, _, _, _, _, z⟩ := h
      exact z.elim⟩
end
end HT
namespace HT
open PySem L2
def errB (K : PySem.W.Frag) (C : Addr) : Bool := (PySem.W.clsIn K C).isSome && (decide (PySem.W.findIn K (.ref C) "__getattribute__" = some (some (.builtin "BaseException.__getattribute__"))) && (decide (PySem.W.findIn K (.ref C) "__getattr__" = some none) && (decide (PySem.W.subIn K (.ref C) (.type "BaseException") = some true) &&
  (decide (PySem.W.findIn K (.ref C) "__class__" = some (some (.builtin "object.__class__"))) && decide (PySem.W.mroIn K C (.type "object") = some true)))))
theorem errB_ok {K : PySem.W.Frag} {C : Addr} (h : errB K C = true) : ErrC K C := by
  unfold errB at h
  simp only [Bool.and_eq_true, decide_eq_true_eq] at h
  obtain ⟨a, b, c, d, e, f⟩ := h
  exact ⟨a, b, c, d, e, f⟩
def exB (K : PySem.W.Frag) (C : Addr) : Bool := PySem.W.excIn K C [.type "ValueError", .type "Exception", .type "BaseException", .type "object"] "ValueError.__new__" && PySem.W.keepIn K (.ref C)
def erT (K : PySem.W.Frag) (C : Nat → Addr) (B : Addr) (i : Nat) : Bool := errB K (C i) && (exB K (C i) && (decide (PySem.W.kitOne K (.ref (C i)) (.type "ValueError") = some true) && (decide (PySem.W.subIn K (.ref (C i)) (.type "BaseException") = some true) && (decide (PySem.W.typeIn K (.ref (C i)) = some (.type "type")) && (decide (PySem.W.exmOne K (.ref (C i)) (.ref B) = some true) &&
  (List.range 4).all fun j => decide (PySem.W.kitOne K (.ref (C i)) (.ref (C j)) = some (decide (i = j))))))))
def cAt (l : List Addr) (i : Nat) : Addr := l.getD i 0
theorem all_of {p : Nat → Bool} {n : Nat} (h : (List.range n).all p = true) {i : Nat} (hi : i < n) : p i = true := List.all_eq_true.mp h i (List.mem_range.mpr hi)
/-- what is looked up of an own class -/
def clsB (K : PySem.W.Frag) (C : Addr) : Bool := PySem.W.plainGet K C Str.empty && (PySem.W.hasDictIn K C && (PySem.W.plainOver K C && (decide (PySem.W.findIn K (.ref C) "__setattr__" = some (some (.builtin "object.__setattr__"))) &&
  (decide (PySem.W.mroIn K C (.type "object") = some true) && (decide (PySem.W.kitOne K (.ref C) (.ref C) = some true) && decide (PySem.W.subIn K (.ref C) (.type "object") = some true))))))
theorem clsB_ok {K : PySem.W.Frag} {C : Addr} (h : clsB K C = true) : Cls K C ∧ PySem.W.mroIn K C (.type "object") = some true ∧ PySem.W.kitOne K (.ref C) (.ref C) = some true ∧ PySem.W.subIn K (.ref C) (.type "object") = some true := by
  unfold clsB at h
  simp only [Bool.and_eq_true, decide_eq_true_eq] at h
  obtain ⟨a, b, c, d, e, f, g⟩ := h
  exact ⟨⟨a, b, c, d⟩, e, f, g⟩
theorem zget_any {Z : Addr} {C C' : Nat → Addr} {vs : List V} {H : Hp} {Q : VK} (h : spZGetX Z C vs H Q fun _ _ _ => False) : spZGetX Z C' vs H Q fun _ _ _ => False := by
  unfold spZGetX at h ⊢
  exact h
def nokB (K : PySem.W.Frag) (C : Addr) : Bool := seven.all fun n => decide (PySem.W.kitOne K (.type n) (.ref C) = some false)
theorem nokB_ok {K : PySem.W.Frag} {C : Addr} (h : nokB K C = true) : NoKit K C := fun n hn => of_decide_eq_true (List.all_eq_true.mp h n hn)
def opfB (K : PySem.W.Frag) (C : Addr) (d r : Str) : Bool := seven.all fun n => (PySem.W.findIn K (.type n) d).isSome && ((PySem.W.findIn K (.type n) r).isSome && decide (PySem.W.subIn K (.type n) (.ref C) = some false))
theorem opfB_ok {K : PySem.W.Frag} {C : Addr} {d r : Str} (h : opfB K C d r = true) : ∀ T, T ∈ seven → (∃ fo, PySem.W.findIn K (.type T) d = some fo) ∧ (∃ ro, PySem.W.findIn K (.type T) r = some ro) ∧ PySem.W.subIn K (.type T) (.ref C) = some false := fun n hn => by
  have z := List.all_eq_true.mp h n hn
  simp only [Bool.and_eq_true, decide_eq_true_eq] at z
  exact ⟨Option.isSome_iff_exists.mp z.1, Option.isSome_iff_exists.mp z.2.1, z.2.2⟩
def twoB (K : PySem.W.Frag) (C : Addr) : Bool := (PySem.W.clsIn K C).any fun cd => cd.mro == [.ref C, .type "object"]
theorem twoB_ok {K : PySem.W.Frag} {C : Addr} (h : twoB K C = true) : ∃ cd, PySem.W.clsIn K C = some cd ∧ cd.mro = [.ref C, .type "object"] := by
  unfold twoB at h
  cases e : PySem.W.clsIn K C with
  | none => rw [e] at h; cases h
  | some cd =>
    rw [e] at h
    exact ⟨cd, rfl, beq_iff_eq.mp h⟩
theorem toR {P : Program} {w : World} {K : PySem.W.Frag} {mg : Str → Option Value} {base : Heap} {CX : CXT} {k : Nat} {f : Addr} {fd : FuncData} {ps : List Str} {sp : Sp} (F : FnOk P w K mg base CX k f fd ps sp) (b : Binds K fd ps []) : FnR P w K mg base CX k f sp :=
  (F.raw b .nil).imp fun vs H Q E h => by rw [List.append_nil]; exact h
theorem all_mk {l : PySem.W.OpenLaw} {w : World} {K : PySem.W.Frag} {h : Heap} {mg : Str → Option Value} {fa aM aR c0 c1 c2 c3 cB f_is_int f_is_int_between f_check_value f_check_side f_is_side f_handed f_below f_threshold f_mirror f_form f_first_mode f_check_sides f_period_of f_moved f_common_period f_raisers f_raises_some f_mirrors f_reach f_check_few f_before f_route f_fewest f_runs f_widened f_ends f_within f_holds f_listed f_L_source f_L_draw f_L_pick f_L_great f_L_side f_L_asked f_L_word f_L_many_fits f_L_odd_fits f_law cS fS_init fS_data pS fS_call fS_get fS_or cZ fZ_init fZ_sides pZ fZ_call fZ_get fZ_lead fZ_or fZ_sub : Addr} (X : K.In h) (G : h.Ns mainGlobals mg) (hfa : mg "law" = some (.ref fa))
    {odM od_is_int an_is_int od_is_int_between an_is_int_between od_check_value an_check_value od_check_side an_check_side od_is_side an_is_side od_handed an_handed od_below an_below od_threshold an_threshold od_mirror an_mirror od_form an_form od_first_mode an_first_mode od_check_sides an_check_sides od_period_of an_period_of od_moved an_moved od_common_period an_common_period od_raisers an_raisers od_raises_some an_raises_some od_mirrors an_mirrors od_reach an_reach od_check_few an_check_few od_before an_before od_route an_route od_fewest an_fewest od_runs an_runs od_widened an_widened od_ends an_ends od_within an_within od_holds an_holds od_listed an_listed od_L_source an_L_source od_L_draw an_L_draw od_L_pick an_L_pick od_L_great an_L_great od_L_side an_L_side od_L_asked an_L_asked od_L_word an_L_word od_L_many_fits an_L_many_fits od_L_odd_fits an_L_odd_fits od_law an_law odSinit anSinit odSdata anSdata odScall anScall odSget anSget odSor anSor odZinit anZinit odZsides anZsides odZcall anZcall odZget anZget odZlead anZlead odZor anZor odZsub anZsub : Option Addr} {slM sl_is_int sl_is_int_between sl_check_value sl_check_side sl_is_side sl_handed sl_below sl_threshold sl_mirror sl_form sl_first_mode sl_check_sides sl_period_of sl_moved sl_common_period sl_raisers sl_raises_some sl_mirrors sl_reach sl_check_few sl_before sl_route sl_fewest sl_runs sl_widened sl_ends sl_within sl_holds sl_listed sl_L_source sl_L_draw sl_L_pick sl_L_great sl_L_side sl_L_asked sl_L_word sl_L_many_fits sl_L_odd_fits sl_law slSinit slSdata slScall slSget slSor slZinit slZsides slZcall slZget slZlead slZor slZsub : Array (Option Value)} {nM nR : Nat} {itsM : Array Value} {esR : Array DictEntry} {tMS tMP tMH : Tok} {rsS rsZ : List Value} {u_down u_up u_half_down u_half_up u_half_even oc_is_int kV_is_int dc_is_int pm_is_int cd_is_int ct_is_int oc_is_int_between kV_is_int_between dc_is_int_between pm_is_int_between cd_is_int_between ct_is_int_between oc_check_value kV_check_value dc_check_value pm_check_value cd_check_value ct_check_value oc_check_side kV_check_side dc_check_side pm_check_side cd_check_side ct_check_side oc_is_side kV_is_side dc_is_side pm_is_side cd_is_side ct_is_side oc_handed kV_handed dc_handed pm_handed cd_handed ct_handed oc_below kV_below dc_below pm_below cd_below ct_below oc_threshold kV_threshold dc_threshold pm_threshold cd_threshold ct_threshold oc_mirror kV_mirror dc_mirror pm_mirror cd_mirror ct_mirror oc_form kV_form dc_form pm_form cd_form ct_form oc_first_mode kV_first_mode dc_first_mode pm_first_mode cd_first_mode ct_first_mode oc_check_sides kV_check_sides dc_check_sides pm_check_sides cd_check_sides ct_check_sides oc_period_of kV_period_of dc_period_of pm_period_of cd_period_of ct_period_of oc_moved kV_moved dc_moved pm_moved cd_moved ct_moved oc_common_period kV_common_period dc_common_period pm_common_period cd_common_period ct_common_period oc_raisers kV_raisers dc_raisers pm_raisers cd_raisers ct_raisers oc_raises_some kV_raises_some dc_raises_some pm_raises_some cd_raises_some ct_raises_some oc_mirrors kV_mirrors dc_mirrors pm_mirrors cd_mirrors ct_mirrors oc_reach kV_reach dc_reach pm_reach cd_reach ct_reach oc_check_few kV_check_few dc_check_few pm_check_few cd_check_few ct_check_few oc_before kV_before dc_before pm_before cd_before ct_before oc_route kV_route dc_route pm_route cd_route ct_route oc_fewest kV_fewest dc_fewest pm_fewest cd_fewest ct_fewest oc_runs kV_runs dc_runs pm_runs cd_runs ct_runs oc_widened kV_widened dc_widened pm_widened cd_widened ct_widened oc_ends kV_ends dc_ends pm_ends cd_ends ct_ends oc_within kV_within dc_within pm_within cd_within ct_within oc_holds kV_holds dc_holds pm_holds cd_holds ct_holds oc_listed kV_listed dc_listed pm_listed cd_listed ct_listed oc_L_source kV_L_source dc_L_source pm_L_source cd_L_source ct_L_source oc_L_draw kV_L_draw dc_L_draw pm_L_draw cd_L_draw ct_L_draw oc_L_pick kV_L_pick dc_L_pick pm_L_pick cd_L_pick ct_L_pick oc_L_great kV_L_great dc_L_great pm_L_great cd_L_great ct_L_great oc_L_side kV_L_side dc_L_side pm_L_side cd_L_side ct_L_side oc_L_asked kV_L_asked dc_L_asked pm_L_asked cd_L_asked ct_L_asked oc_L_word kV_L_word dc_L_word pm_L_word cd_L_word ct_L_word oc_L_many_fits kV_L_many_fits dc_L_many_fits pm_L_many_fits cd_L_many_fits ct_L_many_fits oc_L_odd_fits kV_L_odd_fits dc_L_odd_fits pm_L_odd_fits cd_L_odd_fits ct_L_odd_fits oc_law kV_law dc_law pm_law cd_law ct_law ocSinit kVSinit dcSinit pmSinit cdSinit ctSinit ocSdata kVSdata dcSdata pmSdata cdSdata ctSdata ocScall kVScall dcScall pmScall cdScall ctScall ocSget kVSget dcSget pmSget cdSget ctSget ocSor kVSor dcSor pmSor cdSor ctSor ocZinit kVZinit dcZinit pmZinit cdZinit ctZinit ocZsides kVZsides dcZsides pmZsides cdZsides ctZsides ocZcall kVZcall dcZcall pmZcall cdZcall ctZcall ocZget kVZget dcZget pmZget cdZget ctZget ocZlead kVZlead dcZlead pmZlead cdZlead ctZlead ocZor kVZor dcZor pmZor cdZor ctZor ocZsub kVZsub dcZsub pmZsub cdZsub ctZsub : Value}
    (a_is_int : PySem.W.nsIn K mainGlobals "is_int" = some (some (.ref f_is_int)))
    (l_is_int : K.lookup f_is_int = some ⟨oc_is_int, od_is_int, .func (PySem.W.fnOf "is_int" "is_int" (defArgs s_is_int) (defBody s_is_int) (defScope s_is_int) .none kV_is_int dc_is_int pm_is_int an_is_int cd_is_int ct_is_int), sl_is_int⟩)
    (c_is_int : PySem.W.codeIn K cd_is_int "is_int" = true) (k_is_int : PySem.W.keepIn K (.ref f_is_int) = true)
    (a_is_int_between : PySem.W.nsIn K mainGlobals "is_int_between" = some (some (.ref f_is_int_between)))
    (l_is_int_between : K.lookup f_is_int_between = some ⟨oc_is_int_between, od_is_int_between, .func (PySem.W.fnOf "is_int_between" "is_int_between" (defArgs s_is_int_between) (defBody s_is_int_between) (defScope s_is_int_between) .none kV_is_int_between dc_is_int_between pm_is_int_between an_is_int_between cd_is_int_between ct_is_int_between), sl_is_int_between⟩)
    (c_is_int_between : PySem.W.codeIn K cd_is_int_between "is_int_between" = true) (k_is_int_between : PySem.W.keepIn K (.ref f_is_int_between) = true)
    (a_check_value : PySem.W.nsIn K mainGlobals "check_value" = some (some (.ref f_check_value)))
    (l_check_value : K.lookup f_check_value = some ⟨oc_check_value, od_check_value, .func (PySem.W.fnOf "check_value" "check_value" (defArgs s_check_value) (defBody s_check_value) (defScope s_check_value) .none kV_check_value dc_check_value pm_check_value an_check_value cd_check_value ct_check_value), sl_check_value⟩)
    (c_check_value : PySem.W.codeIn K cd_check_value "check_value" = true) (k_check_value : PySem.W.keepIn K (.ref f_check_value) = true)
    (a_check_side : PySem.W.nsIn K mainGlobals "check_side" = some (some (.ref f_check_side)))
    (l_check_side : K.lookup f_check_side = some ⟨oc_check_side, od_check_side, .func (PySem.W.fnOf "check_side" "check_side" (defArgs s_check_side) (defBody s_check_side) (defScope s_check_side) .none kV_check_side dc_check_side pm_check_side an_check_side cd_check_side ct_check_side), sl_check_side⟩)
    (c_check_side : PySem.W.codeIn K cd_check_side "check_side" = true) (k_check_side : PySem.W.keepIn K (.ref f_check_side) = true)
    (a_is_side : PySem.W.nsIn K mainGlobals "is_side" = some (some (.ref f_is_side)))
    (l_is_side : K.lookup f_is_side = some ⟨oc_is_side, od_is_side, .func (PySem.W.fnOf "is_side" "is_side" (defArgs s_is_side) (defBody s_is_side) (defScope s_is_side) .none kV_is_side dc_is_side pm_is_side an_is_side cd_is_side ct_is_side), sl_is_side⟩)
    (c_is_side : PySem.W.codeIn K cd_is_side "is_side" = true) (k_is_side : PySem.W.keepIn K (.ref f_is_side) = true)
    (a_handed : PySem.W.nsIn K mainGlobals "handed" = some (some (.ref f_handed)))
    (l_handed : K.lookup f_handed = some ⟨oc_handed, od_handed, .func (PySem.W.fnOf "handed" "handed" (defArgs s_handed) (defBody s_handed) (defScope s_handed) .none kV_handed dc_handed pm_handed an_handed cd_handed ct_handed), sl_handed⟩)
    (c_handed : PySem.W.codeIn K cd_handed "handed" = true) (k_handed : PySem.W.keepIn K (.ref f_handed) = true)
    (a_below : PySem.W.nsIn K mainGlobals "_below" = some (some (.ref f_below)))
    (l_below : K.lookup f_below = some ⟨oc_below, od_below, .func (PySem.W.fnOf "_below" "_below" (defArgs s_below) (defBody s_below) (defScope s_below) .none kV_below dc_below pm_below an_below cd_below ct_below), sl_below⟩)
    (c_below : PySem.W.codeIn K cd_below "_below" = true) (k_below : PySem.W.keepIn K (.ref f_below) = true)
    (a_threshold : PySem.W.nsIn K mainGlobals "threshold" = some (some (.ref f_threshold)))
    (l_threshold : K.lookup f_threshold = some ⟨oc_threshold, od_threshold, .func (PySem.W.fnOf "threshold" "threshold" (defArgs s_threshold) (defBody s_threshold) (defScope s_threshold) .none kV_threshold dc_threshold pm_threshold an_threshold cd_threshold ct_threshold), sl_threshold⟩)
    (c_threshold : PySem.W.codeIn K cd_threshold "threshold" = true) (k_threshold : PySem.W.keepIn K (.ref f_threshold) = true)
    (a_mirror : PySem.W.nsIn K mainGlobals "mirror" = some (some (.ref f_mirror)))
    (l_mirror : K.lookup f_mirror = some ⟨oc_mirror, od_mirror, .func (PySem.W.fnOf "mirror" "mirror" (defArgs s_mirror) (defBody s_mirror) (defScope s_mirror) .none kV_mirror dc_mirror pm_mirror an_mirror cd_mirror ct_mirror), sl_mirror⟩)
    (c_mirror : PySem.W.codeIn K cd_mirror "mirror" = true) (k_mirror : PySem.W.keepIn K (.ref f_mirror) = true)
    (a_form : PySem.W.nsIn K mainGlobals "form" = some (some (.ref f_form)))
    (l_form : K.lookup f_form = some ⟨oc_form, od_form, .func (PySem.W.fnOf "form" "form" (defArgs s_form) (defBody s_form) (defScope s_form) .none kV_form dc_form pm_form an_form cd_form ct_form), sl_form⟩)
    (c_form : PySem.W.codeIn K cd_form "form" = true) (k_form : PySem.W.keepIn K (.ref f_form) = true)
    (a_first_mode : PySem.W.nsIn K mainGlobals "_first_mode" = some (some (.ref f_first_mode)))
    (l_first_mode : K.lookup f_first_mode = some ⟨oc_first_mode, od_first_mode, .func (PySem.W.fnOf "_first_mode" "_first_mode" (defArgs s_first_mode) (defBody s_first_mode) (defScope s_first_mode) .none kV_first_mode dc_first_mode pm_first_mode an_first_mode cd_first_mode ct_first_mode), sl_first_mode⟩)
    (c_first_mode : PySem.W.codeIn K cd_first_mode "_first_mode" = true) (k_first_mode : PySem.W.keepIn K (.ref f_first_mode) = true)
    (a_check_sides : PySem.W.nsIn K mainGlobals "check_sides" = some (some (.ref f_check_sides)))
    (l_check_sides : K.lookup f_check_sides = some ⟨oc_check_sides, od_check_sides, .func (PySem.W.fnOf "check_sides" "check_sides" (defArgs s_check_sides) (defBody s_check_sides) (defScope s_check_sides) .none kV_check_sides dc_check_sides pm_check_sides an_check_sides cd_check_sides ct_check_sides), sl_check_sides⟩)
    (c_check_sides : PySem.W.codeIn K cd_check_sides "check_sides" = true) (k_check_sides : PySem.W.keepIn K (.ref f_check_sides) = true)
    (a_period_of : PySem.W.nsIn K mainGlobals "period_of" = some (some (.ref f_period_of)))
    (l_period_of : K.lookup f_period_of = some ⟨oc_period_of, od_period_of, .func (PySem.W.fnOf "period_of" "period_of" (defArgs s_period_of) (defBody s_period_of) (defScope s_period_of) .none kV_period_of dc_period_of pm_period_of an_period_of cd_period_of ct_period_of), sl_period_of⟩)
    (c_period_of : PySem.W.codeIn K cd_period_of "period_of" = true) (k_period_of : PySem.W.keepIn K (.ref f_period_of) = true)
    (a_moved : PySem.W.nsIn K mainGlobals "moved" = some (some (.ref f_moved)))
    (l_moved : K.lookup f_moved = some ⟨oc_moved, od_moved, .func (PySem.W.fnOf "moved" "moved" (defArgs s_moved) (defBody s_moved) (defScope s_moved) .none kV_moved dc_moved pm_moved an_moved cd_moved ct_moved), sl_moved⟩)
    (c_moved : PySem.W.codeIn K cd_moved "moved" = true) (k_moved : PySem.W.keepIn K (.ref f_moved) = true)
    (a_common_period : PySem.W.nsIn K mainGlobals "common_period" = some (some (.ref f_common_period)))
    (l_common_period : K.lookup f_common_period = some ⟨oc_common_period, od_common_period, .func (PySem.W.fnOf "common_period" "common_period" (defArgs s_common_period) (defBody s_common_period) (defScope s_common_period) .none kV_common_period dc_common_period pm_common_period an_common_period cd_common_period ct_common_period), sl_common_period⟩)
    (c_common_period : PySem.W.codeIn K cd_common_period "common_period" = true) (k_common_period : PySem.W.keepIn K (.ref f_common_period) = true)
    (a_raisers : PySem.W.nsIn K mainGlobals "raisers" = some (some (.ref f_raisers)))
    (l_raisers : K.lookup f_raisers = some ⟨oc_raisers, od_raisers, .func (PySem.W.fnOf "raisers" "raisers" (defArgs s_raisers) (defBody s_raisers) (defScope s_raisers) .none kV_raisers dc_raisers pm_raisers an_raisers cd_raisers ct_raisers), sl_raisers⟩)
    (c_raisers : PySem.W.codeIn K cd_raisers "raisers" = true) (k_raisers : PySem.W.keepIn K (.ref f_raisers) = true)
    (a_raises_some : PySem.W.nsIn K mainGlobals "_raises_some" = some (some (.ref f_raises_some)))
    (l_raises_some : K.lookup f_raises_some = some ⟨oc_raises_some, od_raises_some, .func (PySem.W.fnOf "_raises_some" "_raises_some" (defArgs s_raises_some) (defBody s_raises_some) (defScope s_raises_some) .none kV_raises_some dc_raises_some pm_raises_some an_raises_some cd_raises_some ct_raises_some), sl_raises_some⟩)
    (c_raises_some : PySem.W.codeIn K cd_raises_some "_raises_some" = true) (k_raises_some : PySem.W.keepIn K (.ref f_raises_some) = true)
    (a_mirrors : PySem.W.nsIn K mainGlobals "mirrors" = some (some (.ref f_mirrors)))
    (l_mirrors : K.lookup f_mirrors = some ⟨oc_mirrors, od_mirrors, .func (PySem.W.fnOf "mirrors" "mirrors" (defArgs s_mirrors) (defBody s_mirrors) (defScope s_mirrors) .none kV_mirrors dc_mirrors pm_mirrors an_mirrors cd_mirrors ct_mirrors), sl_mirrors⟩)
    (c_mirrors : PySem.W.codeIn K cd_mirrors "mirrors" = true) (k_mirrors : PySem.W.keepIn K (.ref f_mirrors) = true)
    (a_reach : PySem.W.nsIn K mainGlobals "reach" = some (some (.ref f_reach)))
    (l_reach : K.lookup f_reach = some ⟨oc_reach, od_reach, .func (PySem.W.fnOf "reach" "reach" (defArgs s_reach) (defBody s_reach) (defScope s_reach) .none kV_reach dc_reach pm_reach an_reach cd_reach ct_reach), sl_reach⟩)
    (c_reach : PySem.W.codeIn K cd_reach "reach" = true) (k_reach : PySem.W.keepIn K (.ref f_reach) = true)
    (a_check_few : PySem.W.nsIn K mainGlobals "_check_few" = some (some (.ref f_check_few)))
    (l_check_few : K.lookup f_check_few = some ⟨oc_check_few, od_check_few, .func (PySem.W.fnOf "_check_few" "_check_few" (defArgs s_check_few) (defBody s_check_few) (defScope s_check_few) .none kV_check_few dc_check_few pm_check_few an_check_few cd_check_few ct_check_few), sl_check_few⟩)
    (c_check_few : PySem.W.codeIn K cd_check_few "_check_few" = true) (k_check_few : PySem.W.keepIn K (.ref f_check_few) = true)
    (a_before : PySem.W.nsIn K mainGlobals "before" = some (some (.ref f_before)))
    (l_before : K.lookup f_before = some ⟨oc_before, od_before, .func (PySem.W.fnOf "before" "before" (defArgs s_before) (defBody s_before) (defScope s_before) .none kV_before dc_before pm_before an_before cd_before ct_before), sl_before⟩)
    (c_before : PySem.W.codeIn K cd_before "before" = true) (k_before : PySem.W.keepIn K (.ref f_before) = true)
    (a_route : PySem.W.nsIn K mainGlobals "route" = some (some (.ref f_route)))
    (l_route : K.lookup f_route = some ⟨oc_route, od_route, .func (PySem.W.fnOf "route" "route" (defArgs s_route) (defBody s_route) (defScope s_route) .none kV_route dc_route pm_route an_route cd_route ct_route), sl_route⟩)
    (c_route : PySem.W.codeIn K cd_route "route" = true) (k_route : PySem.W.keepIn K (.ref f_route) = true)
    (a_fewest : PySem.W.nsIn K mainGlobals "_fewest" = some (some (.ref f_fewest)))
    (l_fewest : K.lookup f_fewest = some ⟨oc_fewest, od_fewest, .func (PySem.W.fnOf "_fewest" "_fewest" (defArgs s_fewest) (defBody s_fewest) (defScope s_fewest) .none kV_fewest dc_fewest pm_fewest an_fewest cd_fewest ct_fewest), sl_fewest⟩)
    (c_fewest : PySem.W.codeIn K cd_fewest "_fewest" = true) (k_fewest : PySem.W.keepIn K (.ref f_fewest) = true)
    (a_runs : PySem.W.nsIn K mainGlobals "_runs" = some (some (.ref f_runs)))
    (l_runs : K.lookup f_runs = some ⟨oc_runs, od_runs, .func (PySem.W.fnOf "_runs" "_runs" (defArgs s_runs) (defBody s_runs) (defScope s_runs) .none kV_runs dc_runs pm_runs an_runs cd_runs ct_runs), sl_runs⟩)
    (c_runs : PySem.W.codeIn K cd_runs "_runs" = true) (k_runs : PySem.W.keepIn K (.ref f_runs) = true)
    (a_widened : PySem.W.nsIn K mainGlobals "_widened" = some (some (.ref f_widened)))
    (l_widened : K.lookup f_widened = some ⟨oc_widened, od_widened, .func (PySem.W.fnOf "_widened" "_widened" (defArgs s_widened) (defBody s_widened) (defScope s_widened) .none kV_widened dc_widened pm_widened an_widened cd_widened ct_widened), sl_widened⟩)
    (c_widened : PySem.W.codeIn K cd_widened "_widened" = true) (k_widened : PySem.W.keepIn K (.ref f_widened) = true)
    (a_ends : PySem.W.nsIn K mainGlobals "_ends" = some (some (.ref f_ends)))
    (l_ends : K.lookup f_ends = some ⟨oc_ends, od_ends, .func (PySem.W.fnOf "_ends" "_ends" (defArgs s_ends) (defBody s_ends) (defScope s_ends) .none kV_ends dc_ends pm_ends an_ends cd_ends ct_ends), sl_ends⟩)
    (c_ends : PySem.W.codeIn K cd_ends "_ends" = true) (k_ends : PySem.W.keepIn K (.ref f_ends) = true)
    (a_within : PySem.W.nsIn K mainGlobals "_within" = some (some (.ref f_within)))
    (l_within : K.lookup f_within = some ⟨oc_within, od_within, .func (PySem.W.fnOf "_within" "_within" (defArgs s_within) (defBody s_within) (defScope s_within) .none kV_within dc_within pm_within an_within cd_within ct_within), sl_within⟩)
    (c_within : PySem.W.codeIn K cd_within "_within" = true) (k_within : PySem.W.keepIn K (.ref f_within) = true)
    (a_holds : PySem.W.nsIn K mainGlobals "_holds" = some (some (.ref f_holds)))
    (l_holds : K.lookup f_holds = some ⟨oc_holds, od_holds, .func (PySem.W.fnOf "_holds" "_holds" (defArgs s_holds) (defBody s_holds) (defScope s_holds) .none kV_holds dc_holds pm_holds an_holds cd_holds ct_holds), sl_holds⟩)
    (c_holds : PySem.W.codeIn K cd_holds "_holds" = true) (k_holds : PySem.W.keepIn K (.ref f_holds) = true)
    (a_listed : PySem.W.nsIn K mainGlobals "_listed" = some (some (.ref f_listed)))
    (l_listed : K.lookup f_listed = some ⟨oc_listed, od_listed, .func (PySem.W.fnOf "_listed" "_listed" (defArgs s_listed) (defBody s_listed) (defScope s_listed) .none kV_listed dc_listed pm_listed an_listed cd_listed ct_listed), sl_listed⟩)
    (c_listed : PySem.W.codeIn K cd_listed "_listed" = true) (k_listed : PySem.W.keepIn K (.ref f_listed) = true)
    (a_L_source : PySem.W.nsIn K mainGlobals "_law_source" = some (some (.ref f_L_source)))
    (l_L_source : K.lookup f_L_source = some ⟨oc_L_source, od_L_source, .func (PySem.W.fnOf "_law_source" "_law_source" (defArgs s_L_source) (defBody s_L_source) (defScope s_L_source) .none kV_L_source dc_L_source pm_L_source an_L_source cd_L_source ct_L_source), sl_L_source⟩)
    (c_L_source : PySem.W.codeIn K cd_L_source "_law_source" = true) (k_L_source : PySem.W.keepIn K (.ref f_L_source) = true)
    (a_L_draw : PySem.W.nsIn K mainGlobals "_law_draw" = some (some (.ref f_L_draw)))
    (l_L_draw : K.lookup f_L_draw = some ⟨oc_L_draw, od_L_draw, .func (PySem.W.fnOf "_law_draw" "_law_draw" (defArgs s_L_draw) (defBody s_L_draw) (defScope s_L_draw) .none kV_L_draw dc_L_draw pm_L_draw an_L_draw cd_L_draw ct_L_draw), sl_L_draw⟩)
    (c_L_draw : PySem.W.codeIn K cd_L_draw "_law_draw" = true) (k_L_draw : PySem.W.keepIn K (.ref f_L_draw) = true)
    (a_L_pick : PySem.W.nsIn K mainGlobals "_law_pick" = some (some (.ref f_L_pick)))
    (l_L_pick : K.lookup f_L_pick = some ⟨oc_L_pick, od_L_pick, .func (PySem.W.fnOf "_law_pick" "_law_pick" (defArgs s_L_pick) (defBody s_L_pick) (defScope s_L_pick) .none kV_L_pick dc_L_pick pm_L_pick an_L_pick cd_L_pick ct_L_pick), sl_L_pick⟩)
    (c_L_pick : PySem.W.codeIn K cd_L_pick "_law_pick" = true) (k_L_pick : PySem.W.keepIn K (.ref f_L_pick) = true)
    (a_L_great : PySem.W.nsIn K mainGlobals "_law_great" = some (some (.ref f_L_great)))
    (l_L_great : K.lookup f_L_great = some ⟨oc_L_great, od_L_great, .func (PySem.W.fnOf "_law_great" "_law_great" (defArgs s_L_great) (defBody s_L_great) (defScope s_L_great) .none kV_L_great dc_L_great pm_L_great an_L_great cd_L_great ct_L_great), sl_L_great⟩)
    (c_L_great : PySem.W.codeIn K cd_L_great "_law_great" = true) (k_L_great : PySem.W.keepIn K (.ref f_L_great) = true)
    (a_L_side : PySem.W.nsIn K mainGlobals "_law_side" = some (some (.ref f_L_side)))
    (l_L_side : K.lookup f_L_side = some ⟨oc_L_side, od_L_side, .func (PySem.W.fnOf "_law_side" "_law_side" (defArgs s_L_side) (defBody s_L_side) (defScope s_L_side) .none kV_L_side dc_L_side pm_L_side an_L_side cd_L_side ct_L_side), sl_L_side⟩)
    (c_L_side : PySem.W.codeIn K cd_L_side "_law_side" = true) (k_L_side : PySem.W.keepIn K (.ref f_L_side) = true)
    (a_L_asked : PySem.W.nsIn K mainGlobals "_law_asked" = some (some (.ref f_L_asked)))
    (l_L_asked : K.lookup f_L_asked = some ⟨oc_L_asked, od_L_asked, .func (PySem.W.fnOf "_law_asked" "_law_asked" (defArgs s_L_asked) (defBody s_L_asked) (defScope s_L_asked) .none kV_L_asked dc_L_asked pm_L_asked an_L_asked cd_L_asked ct_L_asked), sl_L_asked⟩)
    (c_L_asked : PySem.W.codeIn K cd_L_asked "_law_asked" = true) (k_L_asked : PySem.W.keepIn K (.ref f_L_asked) = true)
    (a_L_word : PySem.W.nsIn K mainGlobals "_law_word" = some (some (.ref f_L_word)))
    (l_L_word : K.lookup f_L_word = some ⟨oc_L_word, od_L_word, .func (PySem.W.fnOf "_law_word" "_law_word" (defArgs s_L_word) (defBody s_L_word) (defScope s_L_word) .none kV_L_word dc_L_word pm_L_word an_L_word cd_L_word ct_L_word), sl_L_word⟩)
    (c_L_word : PySem.W.codeIn K cd_L_word "_law_word" = true) (k_L_word : PySem.W.keepIn K (.ref f_L_word) = true)
    (a_L_many_fits : PySem.W.nsIn K mainGlobals "_law_many_fits" = some (some (.ref f_L_many_fits)))
    (l_L_many_fits : K.lookup f_L_many_fits = some ⟨oc_L_many_fits, od_L_many_fits, .func (PySem.W.fnOf "_law_many_fits" "_law_many_fits" (defArgs s_L_many_fits) (defBody s_L_many_fits) (defScope s_L_many_fits) .none kV_L_many_fits dc_L_many_fits pm_L_many_fits an_L_many_fits cd_L_many_fits ct_L_many_fits), sl_L_many_fits⟩)
    (c_L_many_fits : PySem.W.codeIn K cd_L_many_fits "_law_many_fits" = true) (k_L_many_fits : PySem.W.keepIn K (.ref f_L_many_fits) = true)
    (a_L_odd_fits : PySem.W.nsIn K mainGlobals "_law_odd_fits" = some (some (.ref f_L_odd_fits)))
    (l_L_odd_fits : K.lookup f_L_odd_fits = some ⟨oc_L_odd_fits, od_L_odd_fits, .func (PySem.W.fnOf "_law_odd_fits" "_law_odd_fits" (defArgs s_L_odd_fits) (defBody s_L_odd_fits) (defScope s_L_odd_fits) .none kV_L_odd_fits dc_L_odd_fits pm_L_odd_fits an_L_odd_fits cd_L_odd_fits ct_L_odd_fits), sl_L_odd_fits⟩)
    (c_L_odd_fits : PySem.W.codeIn K cd_L_odd_fits "_law_odd_fits" = true) (k_L_odd_fits : PySem.W.keepIn K (.ref f_L_odd_fits) = true)
    (a_law : PySem.W.nsIn K mainGlobals "law" = some (some (.ref f_law)))
    (l_law : K.lookup f_law = some ⟨oc_law, od_law, .func (PySem.W.fnOf "law" "law" (defArgs s_law) (defBody s_law) (defScope s_law) .none kV_law dc_law pm_law an_law cd_law ct_law), sl_law⟩)
    (c_law : PySem.W.codeIn K cd_law "law" = true) (k_law : PySem.W.keepIn K (.ref f_law) = true)
    (z_len : PySem.W.nsIn K mainGlobals "len" = some none)
    (z_abs : PySem.W.nsIn K mainGlobals "abs" = some none)
    (z_int : PySem.W.nsIn K mainGlobals "int" = some none)
    (z_range : PySem.W.nsIn K mainGlobals "range" = some none)
    (z_isinstance : PySem.W.nsIn K mainGlobals "isinstance" = some none)
    (z_bool : PySem.W.nsIn K mainGlobals "bool" = some none)
    (z_tuple : PySem.W.nsIn K mainGlobals "tuple" = some none)
    (z_divmod : PySem.W.nsIn K mainGlobals "divmod" = some none)
    (z_list : PySem.W.nsIn K mainGlobals "list" = some none)
    (z_sorted : PySem.W.nsIn K mainGlobals "sorted" = some none)
    (z_set : PySem.W.nsIn K mainGlobals "set" = some none)
    (z_ValueError : PySem.W.nsIn K mainGlobals "ValueError" = some none)
    (z_max : PySem.W.nsIn K mainGlobals "max" = some none)
    (z_min : PySem.W.nsIn K mainGlobals "min" = some none)
    (z_enumerate : PySem.W.nsIn K mainGlobals "enumerate" = some none)
    (g_0 : PySem.W.nsIn K mainGlobals "InvalidSide" = some (some (.ref c0)))
    (g_1 : PySem.W.nsIn K mainGlobals "InvalidSides" = some (some (.ref c1)))
    (g_2 : PySem.W.nsIn K mainGlobals "TooMany" = some (some (.ref c2)))
    (g_3 : PySem.W.nsIn K mainGlobals "InvalidValue" = some (some (.ref c3)))
    (g_B : PySem.W.nsIn K mainGlobals "HandedError" = some (some (.ref cB)))
    (et_0 : erT K (cAt [c0, c1, c2, c3]) cB 0 = true)
    (et_1 : erT K (cAt [c0, c1, c2, c3]) cB 1 = true)
    (et_2 : erT K (cAt [c0, c1, c2, c3]) cB 2 = true)
    (et_3 : erT K (cAt [c0, c1, c2, c3]) cB 3 = true)
    (em_0 : PySem.W.exmOne K (.ref c0) (.ref c0) = some true)
    (em_3 : PySem.W.exmOne K (.ref c3) (.ref c3) = some true)
    (gsp : PySem.W.specialIn K (.builtin "object.__class__") "__get__" = some (some (.builtin "getset_descriptor.__get__")))
    (gtk : PySem.W.takesIn K (.builtin "object.__class__") = some true)
    (a_MS : PySem.W.nsIn K mainGlobals "MOST_SIDES" = some (some (.int 4 tMS)))
    (a_MODES : PySem.W.nsIn K mainGlobals "MODES" = some (some (.ref aM)))
    (l_MODES : K.lookup aM = some ⟨.type "tuple", odM, .seq itsM nM, slM⟩)
    (v_MODES : itsM.size ≤ sizeLine ∧ Vals modesV itsM.toList)
    (a_MIR : PySem.W.nsIn K mainGlobals "MIRRORED" = some (some (.ref aR)))
    (l_MIR : K.lookup aR = some ⟨.type "dict", none, .dict esR nR, #[]⟩)
    (h_MIR : PySem.W.KeysLit w.params esR.toList)
    (d_down : PySem.W.nsIn K aR "down" = some (some u_down)) (r_down : RelV (.str "up") u_down)
    (d_up : PySem.W.nsIn K aR "up" = some (some u_up)) (r_up : RelV (.str "down") u_up)
    (d_half_down : PySem.W.nsIn K aR "half_down" = some (some u_half_down)) (r_half_down : RelV (.str "half_up") u_half_down)
    (d_half_up : PySem.W.nsIn K aR "half_up" = some (some u_half_up)) (r_half_up : RelV (.str "half_down") u_half_up)
    (d_half_even : PySem.W.nsIn K aR "half_even" = some (some u_half_even)) (r_half_even : RelV (.str "half_even") u_half_even)
    (a_MP : PySem.W.nsIn K mainGlobals "MOST_PERIOD" = some (some (.int 100000 tMP)))
    (a_MH : PySem.W.nsIn K mainGlobals "MOST_HANDOVERS" = some (some (.int 1000 tMH)))
    (a_lcm : PySem.W.nsIn K mainGlobals "lcm" = some (some (.builtin "math.lcm")))
    (a_Side : PySem.W.nsIn K mainGlobals "Side" = some (some (.ref cS)))
    (cb_S : clsB K cS = true)
    (mk_S : PySem.W.makesIn K cS = true)
    (kp_S : PySem.W.keepIn K (.ref cS) = true)
    (at_S_init : PySem.W.findIn K (.ref cS) "__init__" = some (some (.ref fS_init)))
    (fn_S_init : PySem.W.isFn K (.ref fS_init) = true)
    (l_S_init : K.lookup fS_init = some ⟨ocSinit, odSinit, .func (PySem.W.fnOf "__init__" "Side.__init__" (defArgs s_S_init) (defBody s_S_init) (defScope s_S_init) .none kVSinit dcSinit pmSinit anSinit cdSinit ctSinit), slSinit⟩)
    (c_S_init : PySem.W.codeIn K cdSinit "Side.__init__" = true)
    (k_S_init : PySem.W.keepIn K (.ref fS_init) = true)
    (at_S_data : PySem.W.findIn K (.ref cS) "data" = some (some (.ref pS)))
    (pg_S : PySem.W.specialIn K (.ref pS) "__get__" = some (some (.builtin "property.__get__")))
    (pt_S : PySem.W.takesIn K (.ref pS) = some true)
    (pr_S : PySem.W.recIn K pS "property" = some (.ref fS_data :: rsS))
    (fn_S_data : PySem.W.isFn K (.ref fS_data) = true)
    (l_S_data : K.lookup fS_data = some ⟨ocSdata, odSdata, .func (PySem.W.fnOf "data" "Side.data" (defArgs s_S_data) (defBody s_S_data) (defScope s_S_data) .none kVSdata dcSdata pmSdata anSdata cdSdata ctSdata), slSdata⟩)
    (c_S_data : PySem.W.codeIn K cdSdata "Side.data" = true)
    (k_S_data : PySem.W.keepIn K (.ref fS_data) = true)
    (at_S_call : PySem.W.findIn K (.ref cS) "__call__" = some (some (.ref fS_call)))
    (fn_S_call : PySem.W.isFn K (.ref fS_call) = true)
    (l_S_call : K.lookup fS_call = some ⟨ocScall, odScall, .func (PySem.W.fnOf "__call__" "Side.__call__" (defArgs s_S_call) (defBody s_S_call) (defScope s_S_call) .none kVScall dcScall pmScall anScall cdScall ctScall), slScall⟩)
    (c_S_call : PySem.W.codeIn K cdScall "Side.__call__" = true)
    (k_S_call : PySem.W.keepIn K (.ref fS_call) = true)
    (at_S_get : PySem.W.findIn K (.ref cS) "__getitem__" = some (some (.ref fS_get)))
    (fn_S_get : PySem.W.isFn K (.ref fS_get) = true)
    (l_S_get : K.lookup fS_get = some ⟨ocSget, odSget, .func (PySem.W.fnOf "__getitem__" "Side.__getitem__" (defArgs s_S_get) (defBody s_S_get) (defScope s_S_get) .none kVSget dcSget pmSget anSget cdSget ctSget), slSget⟩)
    (c_S_get : PySem.W.codeIn K cdSget "Side.__getitem__" = true)
    (k_S_get : PySem.W.keepIn K (.ref fS_get) = true)
    (at_S_or : PySem.W.findIn K (.ref cS) "__or__" = some (some (.ref fS_or)))
    (fn_S_or : PySem.W.isFn K (.ref fS_or) = true)
    (l_S_or : K.lookup fS_or = some ⟨ocSor, odSor, .func (PySem.W.fnOf "__or__" "Side.__or__" (defArgs s_S_or) (defBody s_S_or) (defScope s_S_or) .none kVSor dcSor pmSor anSor cdSor ctSor), slSor⟩)
    (c_S_or : PySem.W.codeIn K cdSor "Side.__or__" = true)
    (k_S_or : PySem.W.keepIn K (.ref fS_or) = true)
    (a_Sides : PySem.W.nsIn K mainGlobals "Sides" = some (some (.ref cZ)))
    (cb_Z : clsB K cZ = true)
    (mk_Z : PySem.W.makesIn K cZ = true)
    (kp_Z : PySem.W.keepIn K (.ref cZ) = true)
    (at_Z_init : PySem.W.findIn K (.ref cZ) "__init__" = some (some (.ref fZ_init)))
    (fn_Z_init : PySem.W.isFn K (.ref fZ_init) = true)
    (l_Z_init : K.lookup fZ_init = some ⟨ocZinit, odZinit, .func (PySem.W.fnOf "__init__" "Sides.__init__" (defArgs s_Z_init) (defBody s_Z_init) (defScope s_Z_init) .none kVZinit dcZinit pmZinit anZinit cdZinit ctZinit), slZinit⟩)
    (c_Z_init : PySem.W.codeIn K cdZinit "Sides.__init__" = true)
    (k_Z_init : PySem.W.keepIn K (.ref fZ_init) = true)
    (at_Z_sides : PySem.W.findIn K (.ref cZ) "sides" = some (some (.ref pZ)))
    (pg_Z : PySem.W.specialIn K (.ref pZ) "__get__" = some (some (.builtin "property.__get__")))
    (pt_Z : PySem.W.takesIn K (.ref pZ) = some true)
    (pr_Z : PySem.W.recIn K pZ "property" = some (.ref fZ_sides :: rsZ))
    (fn_Z_sides : PySem.W.isFn K (.ref fZ_sides) = true)
    (l_Z_sides : K.lookup fZ_sides = some ⟨ocZsides, odZsides, .func (PySem.W.fnOf "sides" "Sides.sides" (defArgs s_Z_sides) (defBody s_Z_sides) (defScope s_Z_sides) .none kVZsides dcZsides pmZsides anZsides cdZsides ctZsides), slZsides⟩)
    (c_Z_sides : PySem.W.codeIn K cdZsides "Sides.sides" = true)
    (k_Z_sides : PySem.W.keepIn K (.ref fZ_sides) = true)
    (at_Z_call : PySem.W.findIn K (.ref cZ) "__call__" = some (some (.ref fZ_call)))
    (fn_Z_call : PySem.W.isFn K (.ref fZ_call) = true)
    (l_Z_call : K.lookup fZ_call = some ⟨ocZcall, odZcall, .func (PySem.W.fnOf "__call__" "Sides.__call__" (defArgs s_Z_call) (defBody s_Z_call) (defScope s_Z_call) .none kVZcall dcZcall pmZcall anZcall cdZcall ctZcall), slZcall⟩)
    (c_Z_call : PySem.W.codeIn K cdZcall "Sides.__call__" = true)
    (k_Z_call : PySem.W.keepIn K (.ref fZ_call) = true)
    (at_Z_get : PySem.W.findIn K (.ref cZ) "__getitem__" = some (some (.ref fZ_get)))
    (fn_Z_get : PySem.W.isFn K (.ref fZ_get) = true)
    (l_Z_get : K.lookup fZ_get = some ⟨ocZget, odZget, .func (PySem.W.fnOf "__getitem__" "Sides.__getitem__" (defArgs s_Z_get) (defBody s_Z_get) (defScope s_Z_get) .none kVZget dcZget pmZget anZget cdZget ctZget), slZget⟩)
    (c_Z_get : PySem.W.codeIn K cdZget "Sides.__getitem__" = true)
    (k_Z_get : PySem.W.keepIn K (.ref fZ_get) = true)
    (at_Z_lead : PySem.W.findIn K (.ref cZ) "lead_to" = some (some (.ref fZ_lead)))
    (fn_Z_lead : PySem.W.isFn K (.ref fZ_lead) = true)
    (l_Z_lead : K.lookup fZ_lead = some ⟨ocZlead, odZlead, .func (PySem.W.fnOf "lead_to" "Sides.lead_to" (defArgs s_Z_lead) (defBody s_Z_lead) (defScope s_Z_lead) .none kVZlead dcZlead pmZlead anZlead cdZlead ctZlead), slZlead⟩)
    (c_Z_lead : PySem.W.codeIn K cdZlead "Sides.lead_to" = true)
    (k_Z_lead : PySem.W.keepIn K (.ref fZ_lead) = true)
    (at_Z_or : PySem.W.findIn K (.ref cZ) "__or__" = some (some (.ref fZ_or)))
    (fn_Z_or : PySem.W.isFn K (.ref fZ_or) = true)
    (l_Z_or : K.lookup fZ_or = some ⟨ocZor, odZor, .func (PySem.W.fnOf "__or__" "Sides.__or__" (defArgs s_Z_or) (defBody s_Z_or) (defScope s_Z_or) .none kVZor dcZor pmZor anZor cdZor ctZor), slZor⟩)
    (c_Z_or : PySem.W.codeIn K cdZor "Sides.__or__" = true)
    (k_Z_or : PySem.W.keepIn K (.ref fZ_or) = true)
    (at_Z_sub : PySem.W.findIn K (.ref cZ) "__sub__" = some (some (.ref fZ_sub)))
    (fn_Z_sub : PySem.W.isFn K (.ref fZ_sub) = true)
    (l_Z_sub : K.lookup fZ_sub = some ⟨ocZsub, odZsub, .func (PySem.W.fnOf "__sub__" "Sides.__sub__" (defArgs s_Z_sub) (defBody s_Z_sub) (defScope s_Z_sub) .none kVZsub dcZsub pmZsub anZsub cdZsub ctZsub), slZsub⟩)
    (c_Z_sub : PySem.W.codeIn K cdZsub "Sides.__sub__" = true)
    (k_Z_sub : PySem.W.keepIn K (.ref fZ_sub) = true)
    (na_data : PySem.W.findIn K (.ref cS) "_data" = some none)
    (na_form : PySem.W.findIn K (.ref cS) "_form" = some none)
    (na_sides : PySem.W.findIn K (.ref cZ) "_sides" = some none)
    (na_forms : PySem.W.findIn K (.ref cZ) "_forms" = some none)
    (ca_S : PySem.W.findIn K (.ref cS) "__class__" = some (some (.builtin "object.__class__")))
    (ca_Z : PySem.W.findIn K (.ref cZ) "__class__" = some (some (.builtin "object.__class__")))
    (kZS : PySem.W.kitOne K (.ref cZ) (.ref cS) = some false)
    (gi_S : PySem.W.fnIn K fS_get = true)
    (gi_Z : PySem.W.fnIn K fZ_get = true)
    (ci_S : PySem.W.fnIn K fS_call = true)
    (ci_Z : PySem.W.fnIn K fZ_call = true)
    (hne : decide (cS ≠ cZ) = true)
    (nk_S : nokB K cS = true)
    (nk_Z : nokB K cZ = true)
    (sfS : PySem.W.selfFirst K cS = true)
    (sfZ : PySem.W.selfFirst K cZ = true)
    (roS : PySem.W.findIn K (.ref cS) "__ror__" = some none)
    (roZ : PySem.W.findIn K (.ref cZ) "__ror__" = some none)
    (rsZ_ : PySem.W.findIn K (.ref cZ) "__rsub__" = some none)
    (rsS_ : PySem.W.findIn K (.ref cS) "__rsub__" = some none)
    (suS_ : PySem.W.findIn K (.ref cS) "__sub__" = some none)
    (suO_ : PySem.W.findIn K (.type "object") "__sub__" = some none)
    (rsO_ : PySem.W.findIn K (.type "object") "__rsub__" = some none)
    (mroS : twoB K cS = true)
    (biSo : opfB K cS "__or__" "__ror__" = true)
    (biZo : opfB K cZ "__or__" "__ror__" = true)
    (biZs : opfB K cZ "__sub__" "__rsub__" = true)
    (sSZ : PySem.W.subIn K (.ref cS) (.ref cZ) = some false)
    (sZS : PySem.W.subIn K (.ref cZ) (.ref cS) = some false) :
    ∃ fd : FuncData, (∀ (s : Shared) (v : Value), BindsTo s fd ⟨[v], []⟩ [("_law_script", v)]) ∧ ∀ base : Heap, K.In base → base.Ns mainGlobals mg → FnOk l.prog w K mg base CX0 113 fa fd ["_law_script"] (spLaw K) := by
  have e := hfa.symm.trans (PySem.W.mg_of X G a_law)
  cases e
  have F_is_int := fun_mk (st := s_is_int) l_is_int c_is_int k_is_int
  have b_is_int := F_is_int.binds (ps := ["thing"]) fun _ _ _ _ _ _ us hl => match us, hl with | [_], _ => rfl
  have m_is_int := PySem.W.mg_of X G a_is_int
  have F_is_int_between := fun_mk (st := s_is_int_between) l_is_int_between c_is_int_between k_is_int_between
  have b_is_int_between := F_is_int_between.binds (ps := ["thing", "least", "most"]) fun _ _ _ _ _ _ us hl => match us, hl with | [_, _, _], _ => rfl
  have m_is_int_between := PySem.W.mg_of X G a_is_int_between
  have F_check_value := fun_mk (st := s_check_value) l_check_value c_check_value k_check_value
  have b_check_value := F_check_value.binds (ps := ["value"]) fun _ _ _ _ _ _ us hl => match us, hl with | [_], _ => rfl
  have m_check_value := PySem.W.mg_of X G a_check_value
  have F_check_side := fun_mk (st := s_check_side) l_check_side c_check_side k_check_side
  have b_check_side := F_check_side.binds (ps := ["side"]) fun _ _ _ _ _ _ us hl => match us, hl with | [_], _ => rfl
  have m_check_side := PySem.W.mg_of X G a_check_side
  have F_is_side := fun_mk (st := s_is_side) l_is_side c_is_side k_is_side
  have b_is_side := F_is_side.binds (ps := ["thing"]) fun _ _ _ _ _ _ us hl => match us, hl with | [_], _ => rfl
  have m_is_side := PySem.W.mg_of X G a_is_side
  have F_handed := fun_mk (st := s_handed) l_handed c_handed k_handed
  have b_handed := F_handed.binds (ps := ["side", "value"]) fun _ _ _ _ _ _ us hl => match us, hl with | [_, _], _ => rfl
  have m_handed := PySem.W.mg_of X G a_handed
  have F_below := fun_mk (st := s_below) l_below c_below k_below
  have b_below := F_below.binds (ps := ["mode", "step", "figure"]) fun _ _ _ _ _ _ us hl => match us, hl with | [_, _, _], _ => rfl
  have m_below := PySem.W.mg_of X G a_below
  have F_threshold := fun_mk (st := s_threshold) l_threshold c_threshold k_threshold
  have b_threshold := F_threshold.binds (ps := ["side", "value"]) fun _ _ _ _ _ _ us hl => match us, hl with | [_, _], _ => rfl
  have m_threshold := PySem.W.mg_of X G a_threshold
  have F_mirror := fun_mk (st := s_mirror) l_mirror c_mirror k_mirror
  have b_mirror := F_mirror.binds (ps := ["side"]) fun _ _ _ _ _ _ us hl => match us, hl with | [_], _ => rfl
  have m_mirror := PySem.W.mg_of X G a_mirror
  have F_form := fun_mk (st := s_form) l_form c_form k_form
  have b_form := F_form.binds (ps := ["side"]) fun _ _ _ _ _ _ us hl => match us, hl with | [_], _ => rfl
  have m_form := PySem.W.mg_of X G a_form
  have F_first_mode := fun_mk (st := s_first_mode) l_first_mode c_first_mode k_first_mode
  have b_first_mode := F_first_mode.binds (ps := ["step", "mode"]) fun _ _ _ _ _ _ us hl => match us, hl with | [_, _], _ => rfl
  have m_first_mode := PySem.W.mg_of X G a_first_mode
  have F_check_sides := fun_mk (st := s_check_sides) l_check_sides c_check_sides k_check_sides
  have b_check_sides := F_check_sides.binds (ps := ["sides"]) fun _ _ _ _ _ _ us hl => match us, hl with | [_], _ => rfl
  have m_check_sides := PySem.W.mg_of X G a_check_sides
  have F_period_of := fun_mk (st := s_period_of) l_period_of c_period_of k_period_of
  have b_period_of := F_period_of.binds (ps := ["side"]) fun _ _ _ _ _ _ us hl => match us, hl with | [_], _ => rfl
  have m_period_of := PySem.W.mg_of X G a_period_of
  have F_moved := fun_mk (st := s_moved) l_moved c_moved k_moved
  have b_moved := F_moved.binds (ps := ["side", "by"]) fun _ _ _ _ _ _ us hl => match us, hl with | [_, _], _ => rfl
  have m_moved := PySem.W.mg_of X G a_moved
  have F_common_period := fun_mk (st := s_common_period) l_common_period c_common_period k_common_period
  have b_common_period := F_common_period.binds (ps := ["sides"]) fun _ _ _ _ _ _ us hl => match us, hl with | [_], _ => rfl
  have m_common_period := PySem.W.mg_of X G a_common_period
  have F_raisers := fun_mk (st := s_raisers) l_raisers c_raisers k_raisers
  have b_raisers := F_raisers.binds (ps := ["sides"]) fun _ _ _ _ _ _ us hl => match us, hl with | [_], _ => rfl
  have m_raisers := PySem.W.mg_of X G a_raisers
  have F_raises_some := fun_mk (st := s_raises_some) l_raises_some c_raises_some k_raises_some
  have b_raises_some := F_raises_some.binds (ps := ["side"]) fun _ _ _ _ _ _ us hl => match us, hl with | [_], _ => rfl
  have m_raises_some := PySem.W.mg_of X G a_raises_some
  have F_mirrors := fun_mk (st := s_mirrors) l_mirrors c_mirrors k_mirrors
  have b_mirrors := F_mirrors.binds (ps := ["sides"]) fun _ _ _ _ _ _ us hl => match us, hl with | [_], _ => rfl
  have m_mirrors := PySem.W.mg_of X G a_mirrors
  have F_reach := fun_mk (st := s_reach) l_reach c_reach k_reach
  have b_reach := F_reach.binds (ps := ["sides", "value"]) fun _ _ _ _ _ _ us hl => match us, hl with | [_, _], _ => rfl
  have m_reach := PySem.W.mg_of X G a_reach
  have F_check_few := fun_mk (st := s_check_few) l_check_few c_check_few k_check_few
  have b_check_few := F_check_few.binds (ps := ["raising"]) fun _ _ _ _ _ _ us hl => match us, hl with | [_], _ => rfl
  have m_check_few := PySem.W.mg_of X G a_check_few
  have F_before := fun_mk (st := s_before) l_before c_before k_before
  have b_before := F_before.binds (ps := ["sides", "value"]) fun _ _ _ _ _ _ us hl => match us, hl with | [_, _], _ => rfl
  have m_before := PySem.W.mg_of X G a_before
  have F_route := fun_mk (st := s_route) l_route c_route k_route
  have b_route := F_route.binds (ps := ["sides", "start", "value"]) fun _ _ _ _ _ _ us hl => match us, hl with | [_, _, _], _ => rfl
  have m_route := PySem.W.mg_of X G a_route
  have F_fewest := fun_mk (st := s_fewest) l_fewest c_fewest k_fewest
  have b_fewest := F_fewest.binds (ps := ["sides", "start", "value", "runs"]) fun _ _ _ _ _ _ us hl => match us, hl with | [_, _, _, _], _ => rfl
  have m_fewest := PySem.W.mg_of X G a_fewest
  have F_runs := fun_mk (st := s_runs) l_runs c_runs k_runs
  have b_runs := F_runs.binds (ps := ["sides", "value"]) fun _ _ _ _ _ _ us hl => match us, hl with | [_, _], _ => rfl
  have m_runs := PySem.W.mg_of X G a_runs
  have F_widened := fun_mk (st := s_widened) l_widened c_widened k_widened
  have b_widened := F_widened.binds (ps := ["sides", "run"]) fun _ _ _ _ _ _ us hl => match us, hl with | [_, _], _ => rfl
  have m_widened := PySem.W.mg_of X G a_widened
  have F_ends := fun_mk (st := s_ends) l_ends c_ends k_ends
  have b_ends := F_ends.binds (ps := ["sides", "value", "runs"]) fun _ _ _ _ _ _ us hl => match us, hl with | [_, _, _], _ => rfl
  have m_ends := PySem.W.mg_of X G a_ends
  have F_within := fun_mk (st := s_within) l_within c_within k_within
  have b_within := F_within.binds (ps := ["run", "window"]) fun _ _ _ _ _ _ us hl => match us, hl with | [_, _], _ => rfl
  have m_within := PySem.W.mg_of X G a_within
  have F_holds := fun_mk (st := s_holds) l_holds c_holds k_holds
  have b_holds := F_holds.binds (ps := ["ends", "value"]) fun _ _ _ _ _ _ us hl => match us, hl with | [_, _], _ => rfl
  have m_holds := PySem.W.mg_of X G a_holds
  have F_listed := fun_mk (st := s_listed) l_listed c_listed k_listed
  have b_listed := F_listed.binds (ps := ["thing"]) fun _ _ _ _ _ _ us hl => match us, hl with | [_], _ => rfl
  have m_listed := PySem.W.mg_of X G a_listed
  have F_L_source := fun_mk (st := s_L_source) l_L_source c_L_source k_L_source
  have b_L_source := F_L_source.binds (ps := ["_law_script"]) fun _ _ _ _ _ _ us hl => match us, hl with | [_], _ => rfl
  have m_L_source := PySem.W.mg_of X G a_L_source
  have F_L_draw := fun_mk (st := s_L_draw) l_L_draw c_L_draw k_L_draw
  have b_L_draw := F_L_draw.binds (ps := ["_law_source_here", "_law_limit"]) fun _ _ _ _ _ _ us hl => match us, hl with | [_, _], _ => rfl
  have m_L_draw := PySem.W.mg_of X G a_L_draw
  have F_L_pick := fun_mk (st := s_L_pick) l_L_pick c_L_pick k_L_pick
  have b_L_pick := F_L_pick.binds (ps := ["_law_source_here", "_law_values"]) fun _ _ _ _ _ _ us hl => match us, hl with | [_, _], _ => rfl
  have m_L_pick := PySem.W.mg_of X G a_L_pick
  have F_L_great := fun_mk (st := s_L_great) l_L_great c_L_great k_L_great
  have b_L_great := F_L_great.binds (ps := ["_law_source_here", "_law_digits"]) fun _ _ _ _ _ _ us hl => match us, hl with | [_, _], _ => rfl
  have m_L_great := PySem.W.mg_of X G a_L_great
  have F_L_side := fun_mk (st := s_L_side) l_L_side c_L_side k_L_side
  have b_L_side := F_L_side.binds (ps := ["_law_source_here", "_law_digits"]) fun _ _ _ _ _ _ us hl => match us, hl with | [_, _], _ => rfl
  have m_L_side := PySem.W.mg_of X G a_L_side
  have F_L_asked := fun_mk (st := s_L_asked) l_L_asked c_L_asked k_L_asked
  have b_L_asked := F_L_asked.binds (ps := ["_law_kind", "_law_one", "_law_value"]) fun _ _ _ _ _ _ us hl => match us, hl with | [_, _, _], _ => rfl
  have m_L_asked := PySem.W.mg_of X G a_L_asked
  have F_L_word := fun_mk (st := s_L_word) l_L_word c_L_word k_L_word
  have b_L_word := F_L_word.binds (ps := ["_law_kind", "_law_one", "_law_value"]) fun _ _ _ _ _ _ us hl => match us, hl with | [_, _, _], _ => rfl
  have m_L_word := PySem.W.mg_of X G a_L_word
  have F_L_many_fits := fun_mk (st := s_L_many_fits) l_L_many_fits c_L_many_fits k_L_many_fits
  have b_L_many_fits := F_L_many_fits.binds (ps := []) fun _ _ _ _ _ _ us hl => match us, hl with | [], _ => rfl
  have m_L_many_fits := PySem.W.mg_of X G a_L_many_fits
  have F_L_odd_fits := fun_mk (st := s_L_odd_fits) l_L_odd_fits c_L_odd_fits k_L_odd_fits
  have b_L_odd_fits := F_L_odd_fits.binds (ps := ["_law_source_here", "_law_side_here", "_law_group", "_law_data"]) fun _ _ _ _ _ _ us hl => match us, hl with | [_, _, _, _], _ => rfl
  have m_L_odd_fits := PySem.W.mg_of X G a_L_odd_fits
  have F_law := fun_mk (st := s_law) l_law c_law k_law
  have b_law := F_law.binds (ps := ["_law_script"]) fun _ _ _ _ _ _ us hl => match us, hl with | [_], _ => rfl
  have m_law := PySem.W.mg_of X G a_law
  have n_len := PySem.W.mg_none_of X G z_len
  have n_abs := PySem.W.mg_none_of X G z_abs
  have n_int := PySem.W.mg_none_of X G z_int
  have n_range := PySem.W.mg_none_of X G z_range
  have n_isinstance := PySem.W.mg_none_of X G z_isinstance
  have n_bool := PySem.W.mg_none_of X G z_bool
  have n_tuple := PySem.W.mg_none_of X G z_tuple
  have n_divmod := PySem.W.mg_none_of X G z_divmod
  have n_list := PySem.W.mg_none_of X G z_list
  have n_sorted := PySem.W.mg_none_of X G z_sorted
  have n_set := PySem.W.mg_none_of X G z_set
  have n_ValueError := PySem.W.mg_none_of X G z_ValueError
  have n_max := PySem.W.mg_none_of X G z_max
  have n_min := PySem.W.mg_none_of X G z_min
  have n_enumerate := PySem.W.mg_none_of X G z_enumerate
  have F_S_init := fun_mk (st := s_S_init) l_S_init c_S_init k_S_init
  have b_S_init := F_S_init.binds (ps := ["self", "data"]) fun _ _ _ _ _ _ us hl => match us, hl with | [_, _], _ => rfl
  have F_S_data := fun_mk (st := s_S_data) l_S_data c_S_data k_S_data
  have b_S_data := F_S_data.binds (ps := ["self"]) fun _ _ _ _ _ _ us hl => match us, hl with | [_], _ => rfl
  have F_S_call := fun_mk (st := s_S_call) l_S_call c_S_call k_S_call
  have b_S_call := F_S_call.binds (ps := ["self", "value"]) fun _ _ _ _ _ _ us hl => match us, hl with | [_, _], _ => rfl
  have F_S_get := fun_mk (st := s_S_get) l_S_get c_S_get k_S_get
  have b_S_get := F_S_get.binds (ps := ["self", "figure"]) fun _ _ _ _ _ _ us hl => match us, hl with | [_, _], _ => rfl
  have F_S_or := fun_mk (st := s_S_or) l_S_or c_S_or k_S_or
  have b_S_or := F_S_or.binds (ps := ["self", "other"]) fun _ _ _ _ _ _ us hl => match us, hl with | [_, _], _ => rfl
  have F_Z_init := fun_mk (st := s_Z_init) l_Z_init c_Z_init k_Z_init
  have b_Z_init := F_Z_init.binds (ps := ["self", "sides"]) fun _ _ _ _ _ _ us hl => match us, hl with | [_, _], _ => rfl
  have F_Z_sides := fun_mk (st := s_Z_sides) l_Z_sides c_Z_sides k_Z_sides
  have b_Z_sides := F_Z_sides.binds (ps := ["self"]) fun _ _ _ _ _ _ us hl => match us, hl with | [_], _ => rfl
  have F_Z_call := fun_mk (st := s_Z_call) l_Z_call c_Z_call k_Z_call
  have b_Z_call := F_Z_call.binds (ps := ["self", "value"]) fun _ _ _ _ _ _ us hl => match us, hl with | [_, _], _ => rfl
  have F_Z_get := fun_mk (st := s_Z_get) l_Z_get c_Z_get k_Z_get
  have b_Z_get := F_Z_get.binds (ps := ["self", "value"]) fun _ _ _ _ _ _ us hl => match us, hl with | [_, _], _ => rfl
  have F_Z_lead := fun_mk (st := s_Z_lead) l_Z_lead c_Z_lead k_Z_lead
  have b_Z_lead := F_Z_lead.binds (ps := ["self", "start", "value"]) fun _ _ _ _ _ _ us hl => match us, hl with | [_, _, _], _ => rfl
  have F_Z_or := fun_mk (st := s_Z_or) l_Z_or c_Z_or k_Z_or
  have b_Z_or := F_Z_or.binds (ps := ["self", "other"]) fun _ _ _ _ _ _ us hl => match us, hl with | [_, _], _ => rfl
  have F_Z_sub := fun_mk (st := s_Z_sub) l_Z_sub c_Z_sub k_Z_sub
  have b_Z_sub := F_Z_sub.binds (ps := ["self", "other"]) fun _ _ _ _ _ _ us hl => match us, hl with | [_, _], _ => rfl
  have BL : Blt mg := ⟨n_len, n_abs, n_int, n_range⟩
  have T : SideT K mg aM := ⟨n_isinstance, n_int, n_bool, n_tuple, n_len, n_divmod, PySem.W.mg_of X G a_MODES, fun _ => .inr ⟨_, _, _, l_MODES, rfl, rfl, v_MODES.1, v_MODES.2⟩⟩
  have RT : MirT K w mg aR := ⟨PySem.W.mg_of X G a_MIR, fun m hm => by
    rcases hm with e | e | e | e | e <;> subst e
    · rw [mir_d]; exact ⟨_, _, _, l_MIR, h_MIR, d_down, r_down⟩
    · rw [mir_u]; exact ⟨_, _, _, l_MIR, h_MIR, d_up, r_up⟩
    · rw [mir_hd]; exact ⟨_, _, _, l_MIR, h_MIR, d_half_down, r_half_down⟩
    · rw [mir_hu]; exact ⟨_, _, _, l_MIR, h_MIR, d_half_up, r_half_up⟩
    · rw [mir_he]; exact ⟨_, _, _, l_MIR, h_MIR, d_half_even, r_half_even⟩⟩
  have TC : ChkT mg := ⟨n_isinstance, n_int, n_bool, n_tuple, n_list, n_len⟩
  have TM : ModT K mg aM := ⟨T.gM, T.tM⟩
  have tab : ∀ i, i < 4 → erT K (cAt [c0, c1, c2, c3]) cB i = true := fun i hi => by
    rcases (by omega : i = 0 ∨ i = 1 ∨ i = 2 ∨ i = 3) with e | e | e | e <;> subst e
    · exact et_0
    · exact et_1
    · exact et_2
    · exact et_3
  have tb : ∀ i, i < 4 → errB K (cAt [c0, c1, c2, c3] i) = true ∧ (PySem.W.excIn K (cAt [c0, c1, c2, c3] i) [.type "ValueError", .type "Exception", .type "BaseException", .type "object"] "ValueError.__new__" = true ∧ PySem.W.keepIn K (.ref (cAt [c0, c1, c2, c3] i)) = true) ∧ PySem.W.kitOne K (.ref (cAt [c0, c1, c2, c3] i)) (.type "ValueError") = some true ∧ PySem.W.subIn K (.ref (cAt [c0, c1, c2, c3] i)) (.type "BaseException") = some true ∧ PySem.W.typeIn K (.ref (cAt [c0, c1, c2, c3] i)) = some (.type "type") ∧ PySem.W.exmOne K (.ref (cAt [c0, c1, c2, c3] i)) (.ref cB) = some true ∧ ∀ j, j < 4 → PySem.W.kitOne K (.ref (cAt [c0, c1, c2, c3] i)) (.ref (cAt [c0, c1, c2, c3] j)) = some (decide (i = j)) := fun i hi => by
    have z := tab i hi
    unfold erT exB at z
    simp only [Bool.and_eq_true, decide_eq_true_eq] at z
    obtain ⟨a, b, c, d, e, f, g⟩ := z
    exact ⟨a, b, c, d, e, f, fun j hj => of_decide_eq_true (all_of g hj)⟩
  have R : Er K mg (cAt [c0, c1, c2, c3]) cB := { isi := n_isinstance, ve := n_ValueError, gB := PySem.W.mg_of X G g_B, g0 := PySem.W.mg_of X G g_0, g1 := PySem.W.mg_of X G g_1, g2 := PySem.W.mg_of X G g_2, g3 := PySem.W.mg_of X G g_3, kit := fun i j hi hj => (tb i hi).2.2.2.2.2.2 j hj, kitV := fun i hi => (tb i hi).2.2.1, ec := fun i hi => errB_ok (tb i hi).1, eg := ⟨gsp, gtk⟩, ex := fun i hi => (tb i hi).2.1.1, kp := fun i hi => (tb i hi).2.1.2, sb := fun i hi => (tb i hi).2.2.2.1, ty := fun i hi => (tb i hi).2.2.2.2.1, emB := fun i hi => (tb i hi).2.2.2.2.2.1, em0 := em_0 }
  have AM : AmG mg := ⟨n_isinstance, n_list, n_len, ⟨_, PySem.W.mg_of X G a_MS⟩, ⟨_, PySem.W.mg_of X G a_MP⟩, PySem.W.mg_of X G a_lcm, n_sorted⟩
  have gS := PySem.W.mg_of X G a_Side
  have gZ := PySem.W.mg_of X G a_Sides
  obtain ⟨clS, moS, selfS, obS⟩ := clsB_ok cb_S
  have oS : OwnC K cS := ⟨clS, ca_S, gsp, gtk, moS, selfS⟩
  have MS : Mk K cS fS_init := ⟨mk_S, at_S_init, fn_S_init, kp_S⟩
  obtain ⟨clZ, moZ, selfZ, obZ⟩ := clsB_ok cb_Z
  have oZ : OwnC K cZ := ⟨clZ, ca_Z, gsp, gtk, moZ, selfZ⟩
  have MZ : Mk K cZ fZ_init := ⟨mk_Z, at_Z_init, fn_Z_init, kp_Z⟩
  have MLD : Meth K cZ "lead_to" fZ_lead := ⟨at_Z_lead, fn_Z_lead, k_Z_lead⟩
  have PD : PropOf K cS "data" pS fS_data := ⟨at_S_data, pg_S, pt_S, rsS, pr_S⟩
  have PZ : PropOf K cZ "sides" pZ fZ_sides := ⟨at_Z_sides, pg_Z, pt_Z, rsZ, pr_Z⟩
  refine ⟨PySem.W.fnOf "law" "law" (defArgs s_law) (defBody s_law) (defScope s_law) .none kV_law dc_law pm_law an_law cd_law ct_law, fun s v => .of_eq rfl, fun base _ _ => ?_⟩
  have C_is_int : Cal l.prog w K mg base "is_int" 1 ["thing"] spIsInt f_is_int _ := ⟨ok_is_int F_is_int T, m_is_int, k_is_int, b_is_int⟩
  have C_is_int_between : Cal l.prog w K mg base "is_int_between" 2 ["thing", "least", "most"] spBetween f_is_int_between _ := ⟨ok_between F_is_int_between C_is_int, m_is_int_between, k_is_int_between, b_is_int_between⟩
  have C_check_value : Cal l.prog w K mg base "check_value" 2 ["value"] spCheckValue f_check_value _ := ⟨ok_check_value F_check_value C_is_int, m_check_value, k_check_value, b_check_value⟩
  have C_check_side : Cal l.prog w K mg base "check_side" 3 ["side"] spCheckSide f_check_side _ := ⟨ok_check_side F_check_side T C_is_int_between, m_check_side, k_check_side, b_check_side⟩
  have C_below : Cal l.prog w K mg base "_below" 1 ["mode", "step", "figure"] spBelow f_below _ := ⟨ok_below F_below, m_below, k_below, b_below⟩
  have C_threshold : Cal l.prog w K mg base "threshold" 3 ["side", "value"] spBack f_threshold _ := ⟨ok_threshold F_threshold C_below, m_threshold, k_threshold, b_threshold⟩
  have C_mirror : Cal l.prog w K mg base "mirror" 4 ["side"] spMirror f_mirror _ := ⟨ok_mirror F_mirror RT C_check_side, m_mirror, k_mirror, b_mirror⟩
  have C_first_mode : Cal l.prog w K mg base "_first_mode" 1 ["step", "mode"] spFirst f_first_mode _ := ⟨ok_first F_first_mode, m_first_mode, k_first_mode, b_first_mode⟩
  have C_form : Cal l.prog w K mg base "form" 4 ["side"] spForm f_form _ := ⟨ok_form F_form C_check_side C_first_mode, m_form, k_form, b_form⟩
  have C_is_side : Cal l.prog w K mg base "is_side" 4 ["thing"] spIsSide f_is_side _ := ⟨ok_is_side F_is_side (PySem.W.mg_of X G g_0) C_check_side, m_is_side, k_is_side, b_is_side⟩
  have C_check_sides : Cal l.prog w K mg base "check_sides" 5 ["sides"] spSides f_check_sides _ := ⟨ok_sides F_check_sides AM C_is_side, m_check_sides, k_check_sides, b_check_sides⟩
  have MX : MaxT mg := ⟨n_max, n_min⟩
  have AT : AmT mg := ⟨⟨_, PySem.W.mg_of X G a_MS⟩⟩
  have MH : ∃ t, mg "MOST_HANDOVERS" = some (.int 1000 t) := ⟨_, PySem.W.mg_of X G a_MH⟩
  have X_is_int : Cal l.prog w K mg base "is_int" 1 ["thing"] spIsAny f_is_int _ := ⟨ok_is_any F_is_int TC, m_is_int, k_is_int, b_is_int⟩
  have X_is_int_between : Cal l.prog w K mg base "is_int_between" 2 ["thing", "least", "most"] spBetAny f_is_int_between _ := ⟨ok_bet_any F_is_int_between X_is_int, m_is_int_between, k_is_int_between, b_is_int_between⟩
  have X_check_value : CalX l.prog w K mg base "check_value" 2 ["value"] (spValX (cAt [c0, c1, c2, c3])) f_check_value _ := ⟨ok_val_x F_check_value R X_is_int, m_check_value, k_check_value, b_check_value⟩
  have X_check_side : CalX l.prog w K mg base "check_side" 3 ["side"] (spSideX K (cAt [c0, c1, c2, c3])) f_check_side _ := ⟨ok_side_x F_check_side TC TM R X_is_int_between, m_check_side, k_check_side, b_check_side⟩
  have X_is_side : Cal l.prog w K mg base "is_side" 4 ["thing"] (spIsSideX K) f_is_side _ := ⟨ok_is_side_x F_is_side R X_check_side, m_is_side, k_is_side, b_is_side⟩
  have X_check_sides : CalX l.prog w K mg base "check_sides" 5 ["sides"] (spSidesX K (cAt [c0, c1, c2, c3])) f_check_sides _ := ⟨ok_sides_x F_check_sides TC AT R X_is_side, m_check_sides, k_check_sides, b_check_sides⟩
  have X_handed : CalX l.prog w K mg base "handed" 4 ["side", "value"] (spHandX (cAt [c0, c1, c2, c3])) f_handed _ := ⟨ok_handed_x F_handed X_check_side X_check_value, m_handed, k_handed, b_handed⟩
  have C_period_of : Cal l.prog w K mg base "period_of" 1 ["side"] spPerOf f_period_of _ := ⟨ok_per F_period_of, m_period_of, k_period_of, b_period_of⟩
  have C_moved : Cal l.prog w K mg base "moved" 2 ["side", "by"] spMoved f_moved _ := ⟨ok_moved F_moved C_period_of, m_moved, k_moved, b_moved⟩
  have C_common_period : Cal l.prog w K mg base "common_period" 2 ["sides"] spPerL f_common_period _ := ⟨ok_commonL F_common_period AM C_period_of, m_common_period, k_common_period, b_common_period⟩
  have C_raises_some : Cal l.prog w K mg base "_raises_some" 5 ["side"] spRs f_raises_some _ := ⟨ok_rs F_raises_some C_form, m_raises_some, k_raises_some, b_raises_some⟩
  have C_raisers : Cal l.prog w K mg base "raisers" 6 ["sides"] spRais f_raisers _ := ⟨ok_rais F_raisers C_raises_some, m_raisers, k_raisers, b_raisers⟩
  have C_mirrors : Cal l.prog w K mg base "mirrors" 5 ["sides"] spMirs f_mirrors _ := ⟨ok_mirs F_mirrors C_mirror, m_mirrors, k_mirrors, b_mirrors⟩
  have X_check_few : CalX l.prog w K mg base "_check_few" 3 ["raising"] (spCFX (cAt [c0, c1, c2, c3])) f_check_few _ := ⟨ok_cf_x F_check_few AM R C_common_period, m_check_few, k_check_few, b_check_few⟩
  have X_reach : CalX l.prog w K mg base "reach" 108 ["sides", "value"] (spReachX K (cAt [c0, c1, c2, c3])) f_reach _ := ⟨ok_reach_x F_reach X_check_sides X_check_value C_raisers C_mirrors X_check_few, m_reach, k_reach, b_reach⟩
  have C_widened : Cal l.prog w K mg base "_widened" 4 ["sides", "run"] spWid f_widened _ := ⟨ok_wid F_widened MX C_threshold, m_widened, k_widened, b_widened⟩
  have C_runs : Cal l.prog w K mg base "_runs" 5 ["sides", "value"] spRuns f_runs _ := ⟨ok_runs F_runs BL MH C_moved C_widened, m_runs, k_runs, b_runs⟩
  have C_within : Cal l.prog w K mg base "_within" 1 ["run", "window"] spWin f_within _ := ⟨ok_win F_within MX, m_within, k_within, b_within⟩
  have X_ends : CalX l.prog w K mg base "_ends" 3 ["sides", "value", "runs"] (spEndsX (cAt [c0, c1, c2, c3])) f_ends _ := ⟨ok_ends_x F_ends BL R MH C_common_period C_within, m_ends, k_ends, b_ends⟩
  have C_holds : Cal l.prog w K mg base "_holds" 1 ["ends", "value"] spHolds f_holds _ := ⟨ok_holds F_holds, m_holds, k_holds, b_holds⟩
  have X_fewest : CalX l.prog w K mg base "_fewest" 4 ["sides", "start", "value", "runs"] (spFewX (cAt [c0, c1, c2, c3])) f_fewest _ := ⟨ok_few_x F_fewest n_enumerate R MH C_holds X_ends, m_fewest, k_fewest, b_fewest⟩
  have X_before : CalX l.prog w K mg base "before" 6 ["sides", "value"] (spBefX K (cAt [c0, c1, c2, c3])) f_before _ := ⟨ok_before_x F_before X_check_sides X_check_value C_runs X_ends, m_before, k_before, b_before⟩
  have X_route : CalX l.prog w K mg base "route" 6 ["sides", "start", "value"] (spRouX K (cAt [c0, c1, c2, c3])) f_route _ := ⟨ok_route_x F_route X_check_sides X_check_value C_runs X_fewest, m_route, k_route, b_route⟩
  have MS_init : FnOk l.prog w K mg base CX0 5 fS_init _ ["self", "data"] (spSInit cS) := ok_S_init F_S_init clS na_data na_form C_check_side C_form
  have MS_data : FnOk l.prog w K mg base CX0 1 fS_data _ ["self"] (spSData cS) := ok_S_data F_S_data clS na_data
  have MZ_init : FnOk l.prog w K mg base CX0 6 fZ_init _ ["self", "sides"] (spZInit cZ) := ok_Z_init F_Z_init clZ na_sides na_forms n_list n_set n_sorted C_check_sides C_form
  have MZ_sides : FnOk l.prog w K mg base CX0 1 fZ_sides _ ["self"] (spZSides cZ) := ok_Z_sides F_Z_sides clZ na_sides n_list
  have C_listed : Cal l.prog w K mg base "_listed" 3 ["thing"] (spListed cS cZ) f_listed _ := ⟨ok_listed F_listed oS oZ n_isinstance gS gZ kZS PD MS_data b_S_data PZ MZ_sides b_Z_sides, m_listed, k_listed, b_listed⟩
  have US_init : FnOk l.prog w K mg base (L2.CX l.prog w) 5 fS_init _ ["self", "data"] (spSInitU K cS (cAt [c0, c1, c2, c3])) := or_ok (to_x MS_init) (ok_S_init_x F_S_init X_check_side)
  have UZ_init : FnOk l.prog w K mg base (L2.CX l.prog w) 6 fZ_init _ ["self", "sides"] (spZInitU K cZ (cAt [c0, c1, c2, c3])) := or_ok (to_x MZ_init) (ok_Z_init_x F_Z_init X_check_sides)
  have U_listed : CalX l.prog w K mg base "_listed" 3 ["thing"] (spListU cS cZ (cAt [c0, c1, c2, c3])) f_listed _ := ⟨or_ok (to_x C_listed.ok) (ok_listed_x F_listed R n_isinstance gS gZ (nokB_ok nk_S) (nokB_ok nk_Z)), m_listed, k_listed, b_listed⟩
  have US_or : FnOk l.prog w K mg base (L2.CX l.prog w) 8 fS_or _ ["self", "other"] (spSOrU cS cZ (cAt [c0, c1, c2, c3])) := ok_S_or_u F_S_or clS na_data gZ MZ UZ_init b_Z_init U_listed
  have UZ_or : FnOk l.prog w K mg base (L2.CX l.prog w) 8 fZ_or _ ["self", "other"] (spZOrU cS cZ (cAt [c0, c1, c2, c3])) := ok_Z_or_u F_Z_or clZ na_sides gZ MZ UZ_init b_Z_init U_listed
  have UZ_sub : FnOk l.prog w K mg base (L2.CX l.prog w) 8 fZ_sub _ ["self", "other"] (spZSubU cS cZ (cAt [c0, c1, c2, c3])) := ok_Z_sub_u F_Z_sub clZ na_sides gZ MZ UZ_init b_Z_init U_listed C_form
  have XS_call : FnOk l.prog w K mg base (L2.CX l.prog w) 5 fS_call _ ["self", "value"] (spSBad cS (cAt [c0, c1, c2, c3])) := ok_S_call_x F_S_call clS na_data X_handed
  have XS_get : FnOk l.prog w K mg base (L2.CX l.prog w) 3 fS_get _ ["self", "figure"] (spSBad cS (cAt [c0, c1, c2, c3])) := ok_S_get_x F_S_get X_check_value
  have XZ_call : FnOk l.prog w K mg base (L2.CX l.prog w) 109 fZ_call _ ["self", "value"] (spZCallX cZ (cAt [c0, c1, c2, c3])) := ok_Z_call_x F_Z_call clZ na_sides X_reach
  have XZ_get : FnOk l.prog w K mg base (L2.CX l.prog w) 7 fZ_get _ ["self", "value"] (spZGetX cZ (cAt [c0, c1, c2, c3])) := ok_Z_get_x F_Z_get clZ na_sides X_before
  have XZ_lead : FnOk l.prog w K mg base (L2.CX l.prog w) 7 fZ_lead _ ["self", "start", "value"] (spZLeadX cZ (cAt [c0, c1, c2, c3])) := ok_Z_lead_x F_Z_lead clZ na_sides X_route
  have neSZ : cS ≠ cZ := of_decide_eq_true hne
  obtain ⟨cdS, hcdS, hmS⟩ := twoB_ok mroS
  obtain ⟨cdS2, restS, hcS2, hmS2⟩ := PySem.W.ksp_first sfS
  obtain ⟨cdZ2, restZ, hcZ2, hmZ2⟩ := PySem.W.ksp_first sfZ
  have OPso : OpF K cS cZ "or" fS_or := ⟨at_S_or, fn_S_or, sfS, roS, opfB_ok biSo, neSZ, true, fun _ _ x => PySem.W.fills_K x hcZ2 hmZ2 at_Z_or, fun _ => ⟨sZS, fun _ _ x => ⟨true, PySem.W.ksp_inPy x at_Z_or roZ (.inl rfl)⟩, _, roZ⟩⟩
  have OPzo : OpF K cZ cS "or" fZ_or := ⟨at_Z_or, fn_Z_or, sfZ, roZ, opfB_ok biZo, fun e => neSZ e.symm, true, fun _ _ x => PySem.W.fills_K x hcS2 hmS2 at_S_or, fun _ => ⟨sSZ, fun _ _ x => ⟨true, PySem.W.ksp_inPy x at_S_or roS (.inl rfl)⟩, _, roS⟩⟩
  have OPzs : OpF K cZ cS "sub" fZ_sub := ⟨at_Z_sub, fn_Z_sub, sfZ, rsZ_, opfB_ok biZs, fun e => neSZ e.symm, false, fun _ _ x => noFill_K x hcdS hmS suS_ rsS_ suO_ rsO_, fun e => Bool.noConfusion e⟩
  have AK : AskK l.prog w K mg base cS cZ (cAt [c0, c1, c2, c3]) fS_init fZ_init fS_or fZ_or fZ_sub fS_call fZ_call fS_get fZ_get fZ_lead _ _ _ := {
    gS := gS, gZ := gZ, mS := MS, mZ := MZ, iS := US_init, iZ := UZ_init, bS := b_S_init, bZ := b_Z_init, cS := oS, cZ := oZ, oS := OPso, fO := toR US_or b_S_or, oZ := OPzo, fZ := toR UZ_or b_Z_or, uZ := OPzs, fU := toR UZ_sub b_Z_sub,
    coS := ⟨at_S_call, fn_S_call, ci_S⟩, fcS := toR XS_call b_S_call, coZ := ⟨at_Z_call, fn_Z_call, ci_Z⟩, fcZ := toR XZ_call b_Z_call, geS := ⟨at_S_get, fn_S_get⟩, giS := gi_S, fgS := toR XS_get b_S_get, geZ := ⟨at_Z_get, fn_Z_get⟩, giZ := gi_Z, fgZ := toR XZ_get b_Z_get,
    ml := MLD, fl := XZ_lead, bl := b_Z_lead }
  have OL : OwnL l.prog w K mg base cS cZ fS_init fZ_init pS fS_data pZ fZ_sides fZ_get _ _ _ _ := {
    gS := gS, gZ := gZ, mS := MS, mZ := MZ, iS := MS_init, iZ := MZ_init, bS := b_S_init, bZ := b_Z_init, cS := oS, cZ := oZ, pD := PD, fD := MS_data, bD := b_S_data, pZ := PZ, fZ := MZ_sides, bZs := b_Z_sides, geZ := ⟨at_Z_get, fn_Z_get⟩, giZ := gi_Z, fgZ := (toR (of_x XZ_get) b_Z_get).imp fun vs H Q E h => zget_any h }
  have C_L_source : Cal l.prog w K mg base "_law_source" 1 ["_law_script"] (spSource K) f_L_source _ := ⟨ok_source F_L_source BL, m_L_source, k_L_source, b_L_source⟩
  have C_L_draw : Cal l.prog w K mg base "_law_draw" 1 ["_law_source_here", "_law_limit"] spDraw f_L_draw _ := ⟨ok_draw F_L_draw BL, m_L_draw, k_L_draw, b_L_draw⟩
  have C_L_pick : Cal l.prog w K mg base "_law_pick" 2 ["_law_source_here", "_law_values"] spPick f_L_pick _ := ⟨ok_pick F_L_pick BL C_L_draw, m_L_pick, k_L_pick, b_L_pick⟩
  have C_L_great : Cal l.prog w K mg base "_law_great" 2 ["_law_source_here", "_law_digits"] spGreat f_L_great _ := ⟨ok_great F_L_great BL C_L_draw, m_L_great, k_L_great, b_L_great⟩
  have C_L_side : Cal l.prog w K mg base "_law_side" 3 ["_law_source_here", "_law_digits"] spLSide f_L_side _ := ⟨ok_lside F_L_side C_L_draw C_L_pick C_L_great, m_L_side, k_L_side, b_L_side⟩
  have X_L_asked : CalX l.prog w K mg base "_law_asked" 110 ["_law_kind", "_law_one", "_law_value"] (spAsk K cS cZ (cAt [c0, c1, c2, c3])) f_L_asked _ := ⟨ok_asked F_L_asked AK, m_L_asked, k_L_asked, b_L_asked⟩
  have C_L_word : Cal l.prog w K mg base "_law_word" 111 ["_law_kind", "_law_one", "_law_value"] (spWord K cS cZ) f_L_word _ := ⟨ok_word F_L_word R X_L_asked, m_L_word, k_L_word, b_L_word⟩
  have C_L_many_fits : Cal l.prog w K mg base "_law_many_fits" 112 [] spFits0 f_L_many_fits _ := ⟨ok_many F_L_many_fits OL C_L_word, m_L_many_fits, k_L_many_fits, b_L_many_fits⟩
  have C_L_odd_fits : Cal l.prog w K mg base "_law_odd_fits" 112 ["_law_source_here", "_law_side_here", "_law_group", "_law_data"] (spOdd cS cZ) f_L_odd_fits _ := ⟨ok_odd F_L_odd_fits BL OL C_L_pick C_L_word, m_L_odd_fits, k_L_odd_fits, b_L_odd_fits⟩
  exact ok_law F_law BL OL C_L_source C_L_draw C_L_side C_L_word C_L_odd_fits C_L_many_fits
theorem walk {l : PySem.W.OpenLaw} {q : Program} {loose : List Str} {XP : (Str → Option Value) → Heap → Prop} {YP : World → Heap → Prop} {d : DefRec} {K : Params → PySem.W.Frag} (hn : l.most = some 63) (hdf : d.params.defaults = [])
    (hY : ∀ (w : World) (h : Heap), YP w h → (K w.params).In h)
    (F : ∀ (w : World) (mg : Str → Option Value) (fa : Addr) (h : Heap), (K w.params).In h → h.Ns mainGlobals mg → mg d.name = some (.ref fa) →
      ∃ fd : FuncData, (∀ (s : Shared) (u : Value), BindsTo s fd ⟨[u], []⟩ [("_law_script", u)]) ∧ ∀ base : Heap, (K w.params).In base → base.Ns mainGlobals mg → FnOk l.prog w (K w.params) mg base CX0 113 fa fd ["_law_script"] (spLaw (K w.params))) :
    PySem.W.WalkO q loose XP YP l.row.toRowW d [] (fun f vs => PySem.call f vs) :=
  L2.walk_of (n := 63) (k := 113) (x := "_law_script") (CX := fun _ => CX0) (sp := fun w => spLaw (K w.params)) hn (by decide) hdf ⟨rfl, by decide, by decide⟩ hY F (fun _ _ a ns hl _ hS => ⟨a, ns, rfl, hS, hl, fun _ => rfl⟩) fun _ _ _ _ _ z => z
end HT
open PySem PySem.W PyProof.Rows
set_option maxRecDepth 100000 in
set_option maxHeartbeats 0 in
theorem PySem.Challenge.cw_handedtext_k82_wrong_sides_and_sets_as_v_holds : PySem.Challenge.rw_handedtext_k82_wrong_sides_and_sets_as_v.Holds := by
  w_on; o_law; k_head; (case hw => w_witness2)
  k_fill
  refine HT.walk (l := PySem.Challenge.rw_handedtext_k82_wrong_sides_and_sets_as_v) rfl rfl (fun w h Y => PySem.W.kIn_of Y) ?F
  case F =>
    intro w mg fa h KX G hmg
    refine' HT.all_mk KX G hmg ?a_is_int ?l_is_int ?c_is_int ?k_is_int ?a_is_int_between ?l_is_int_between ?c_is_int_between ?k_is_int_between ?a_check_value ?l_check_value ?c_check_value ?k_check_value ?a_check_side ?l_check_side ?c_check_side ?k_check_side ?a_is_side ?l_is_side ?c_is_side ?k_is_side ?a_handed ?l_handed ?c_handed ?k_handed ?a_below ?l_below ?c_below ?k_below ?a_threshold ?l_threshold ?c_threshold ?k_threshold ?a_mirror ?l_mirror ?c_mirror ?k_mirror ?a_form ?l_form ?c_form ?k_form ?a_first_mode ?l_first_mode ?c_first_mode ?k_first_mode ?a_check_sides ?l_check_sides ?c_check_sides ?k_check_sides ?a_period_of ?l_period_of ?c_period_of ?k_period_of ?a_moved ?l_moved ?c_moved ?k_moved ?a_common_period ?l_common_period ?c_common_period ?k_common_period ?a_raisers ?l_raisers ?c_raisers ?k_raisers ?a_raises_some ?l_raises_some ?c_raises_some ?k_raises_some ?a_mirrors ?l_mirrors ?c_mirrors ?k_mirrors ?a_reach ?l_reach ?c_reach ?k_reach ?a_check_few ?l_check_few ?c_check_few ?k_check_few ?a_before ?l_before ?c_before ?k_before ?a_route ?l_route ?c_route ?k_route ?a_fewest ?l_fewest ?c_fewest ?k_fewest ?a_runs ?l_runs ?c_runs ?k_runs ?a_widened ?l_widened ?c_widened ?k_widened ?a_ends ?l_ends ?c_ends ?k_ends ?a_within ?l_within ?c_within ?k_within ?a_holds ?l_holds ?c_holds ?k_holds ?a_listed ?l_listed ?c_listed ?k_listed ?a_L_source ?l_L_source ?c_L_source ?k_L_source ?a_L_draw ?l_L_draw ?c_L_draw ?k_L_draw ?a_L_pick ?l_L_pick ?c_L_pick ?k_L_pick ?a_L_great ?l_L_great ?c_L_great ?k_L_great ?a_L_side ?l_L_side ?c_L_side ?k_L_side ?a_L_asked ?l_L_asked ?c_L_asked ?k_L_asked ?a_L_word ?l_L_word ?c_L_word ?k_L_word ?a_L_many_fits ?l_L_many_fits ?c_L_many_fits ?k_L_many_fits ?a_L_odd_fits ?l_L_odd_fits ?c_L_odd_fits ?k_L_odd_fits ?a_law ?l_law ?c_law ?k_law ?z_len ?z_abs ?z_int ?z_range ?z_isinstance ?z_bool ?z_tuple ?z_divmod ?z_list ?z_sorted ?z_set ?z_ValueError ?z_max ?z_min ?z_enumerate ?g_0 ?g_1 ?g_2 ?g_3 ?g_B ?et_0 ?et_1 ?et_2 ?et_3 ?em_0 ?em_3 ?gsp ?gtk ?a_MS ?a_MODES ?l_MODES ?v_MODES ?a_MIR ?l_MIR ?h_MIR ?d_down ?r_down ?d_up ?r_up ?d_half_down ?r_half_down ?d_half_up ?r_half_up ?d_half_even ?r_half_even ?a_MP ?a_MH ?a_lcm ?a_Side ?cb_S ?mk_S ?kp_S ?at_S_init ?fn_S_init ?l_S_init ?c_S_init ?k_S_init ?at_S_data ?pg_S ?pt_S ?pr_S ?fn_S_data ?l_S_data ?c_S_data ?k_S_data ?at_S_call ?fn_S_call ?l_S_call ?c_S_call ?k_S_call ?at_S_get ?fn_S_get ?l_S_get ?c_S_get ?k_S_get ?at_S_or ?fn_S_or ?l_S_or ?c_S_or ?k_S_or ?a_Sides ?cb_Z ?mk_Z ?kp_Z ?at_Z_init ?fn_Z_init ?l_Z_init ?c_Z_init ?k_Z_init ?at_Z_sides ?pg_Z ?pt_Z ?pr_Z ?fn_Z_sides ?l_Z_sides ?c_Z_sides ?k_Z_sides ?at_Z_call ?fn_Z_call ?l_Z_call ?c_Z_call ?k_Z_call ?at_Z_get ?fn_Z_get ?l_Z_get ?c_Z_get ?k_Z_get ?at_Z_lead ?fn_Z_lead ?l_Z_lead ?c_Z_lead ?k_Z_lead ?at_Z_or ?fn_Z_or ?l_Z_or ?c_Z_or ?k_Z_or ?at_Z_sub ?fn_Z_sub ?l_Z_sub ?c_Z_sub ?k_Z_sub ?na_data ?na_form ?na_sides ?na_forms ?ca_S ?ca_Z ?kZS ?gi_S ?gi_Z ?ci_S ?ci_Z ?hne ?nk_S ?nk_Z ?sfS ?sfZ ?roS ?roZ ?rsZ_ ?rsS_ ?suS_ ?suO_ ?rsO_ ?mroS ?biSo ?biZo ?biZs ?sSZ ?sZS
    (case a_is_int => k_is)
    (case l_is_int => k_is)
    (case c_is_int => k_is)
    (case k_is_int => k_is)
    (case a_is_int_between => k_is)
    (case l_is_int_between => k_is)
    (case c_is_int_between => k_is)
    (case k_is_int_between => k_is)
    (case a_check_value => k_is)
    (case l_check_value => k_is)
    (case c_check_value => k_is)
    (case k_check_value => k_is)
    (case a_check_side => k_is)
    (case l_check_side => k_is)
    (case c_check_side => k_is)
    (case k_check_side => k_is)
    (case a_is_side => k_is)
    (case l_is_side => k_is)
    (case c_is_side => k_is)
    (case k_is_side => k_is)
    (case a_handed => k_is)
    (case l_handed => k_is)
    (case c_handed => k_is)
    (case k_handed => k_is)
    (case a_below => k_is)
    (case l_below => k_is)
    (case c_below => k_is)
    (case k_below => k_is)
    (case a_threshold => k_is)
    (case l_threshold => k_is)
    (case c_threshold => k_is)
    (case k_threshold => k_is)
    (case a_mirror => k_is)
    (case l_mirror => k_is)
    (case c_mirror => k_is)
    (case k_mirror => k_is)
    (case a_form => k_is)
    (case l_form => k_is)
    (case c_form => k_is)
    (case k_form => k_is)
    (case a_first_mode => k_is)
    (case l_first_mode => k_is)
    (case c_first_mode => k_is)
    (case k_first_mode => k_is)
    (case a_check_sides => k_is)
    (case l_check_sides => k_is)
    (case c_check_sides => k_is)
    (case k_check_sides => k_is)
    (case a_period_of => k_is)
    (case l_period_of => k_is)
    (case c_period_of => k_is)
    (case k_period_of => k_is)
    (case a_moved => k_is)
    (case l_moved => k_is)
    (case c_moved => k_is)
    (case k_moved => k_is)
    (case a_common_period => k_is)
    (case l_common_period => k_is)
    (case c_common_period => k_is)
    (case k_common_period => k_is)
    (case a_raisers => k_is)
    (case l_raisers => k_is)
    (case c_raisers => k_is)
    (case k_raisers => k_is)
    (case a_raises_some => k_is)
    (case l_raises_some => k_is)
    (case c_raises_some => k_is)
    (case k_raises_some => k_is)
    (case a_mirrors => k_is)
    (case l_mirrors => k_is)
    (case c_mirrors => k_is)
    (case k_mirrors => k_is)
    (case a_reach => k_is)
    (case l_reach => k_is)
    (case c_reach => k_is)
    (case k_reach => k_is)
    (case a_check_few => k_is)
    (case l_check_few => k_is)
    (case c_check_few => k_is)
    (case k_check_few => k_is)
    (case a_before => k_is)
    (case l_before => k_is)
    (case c_before => k_is)
    (case k_before => k_is)
    (case a_route => k_is)
    (case l_route => k_is)
    (case c_route => k_is)
    (case k_route => k_is)
    (case a_fewest => k_is)
    (case l_fewest => k_is)
    (case c_fewest => k_is)
    (case k_fewest => k_is)
    (case a_runs => k_is)
    (case l_runs => k_is)
    (case c_runs => k_is)
    (case k_runs => k_is)
    (case a_widened => k_is)
    (case l_widened => k_is)
    (case c_widened => k_is)
    (case k_widened => k_is)
    (case a_ends => k_is)
    (case l_ends => k_is)
    (case c_ends => k_is)
    (case k_ends => k_is)
    (case a_within => k_is)
    (case l_within => k_is)
    (case c_within => k_is)
    (case k_within => k_is)
    (case a_holds => k_is)
    (case l_holds => k_is)
    (case c_holds => k_is)
    (case k_holds => k_is)
    (case a_listed => k_is)
    (case l_listed => k_is)
    (case c_listed => k_is)
    (case k_listed => k_is)
    (case a_L_source => k_is)
    (case l_L_source => k_is)
    (case c_L_source => k_is)
    (case k_L_source => k_is)
    (case a_L_draw => k_is)
    (case l_L_draw => k_is)
    (case c_L_draw => k_is)
    (case k_L_draw => k_is)
    (case a_L_pick => k_is)
    (case l_L_pick => k_is)
    (case c_L_pick => k_is)
    (case k_L_pick => k_is)
    (case a_L_great => k_is)
    (case l_L_great => k_is)
    (case c_L_great => k_is)
    (case k_L_great => k_is)
    (case a_L_side => k_is)
    (case l_L_side => k_is)
    (case c_L_side => k_is)
    (case k_L_side => k_is)
    (case a_L_asked => k_is)
    (case l_L_asked => k_is)
    (case c_L_asked => k_is)
    (case k_L_asked => k_is)
    (case a_L_word => k_is)
    (case l_L_word => k_is)
    (case c_L_word => k_is)
    (case k_L_word => k_is)
    (case a_L_many_fits => k_is)
    (case l_L_many_fits => k_is)
    (case c_L_many_fits => k_is)
    (case k_L_many_fits => k_is)
    (case a_L_odd_fits => k_is)
    (case l_L_odd_fits => k_is)
    (case c_L_odd_fits => k_is)
    (case k_L_odd_fits => k_is)
    (case a_law => k_is)
    (case l_law => k_is)
    (case c_law => k_is)
    (case k_law => k_is)
    (case z_len => k_is)
    (case z_abs => k_is)
    (case z_int => k_is)
    (case z_range => k_is)
    (case z_isinstance => k_is)
    (case z_bool => k_is)
    (case z_tuple => k_is)
    (case z_divmod => k_is)
    (case z_list => k_is)
    (case z_sorted => k_is)
    (case z_set => k_is)
    (case z_ValueError => k_is)
    (case z_max => k_is)
    (case z_min => k_is)
    (case z_enumerate => k_is)
    (case g_0 => k_is)
    (case g_1 => k_is)
    (case g_2 => k_is)
    (case g_3 => k_is)
    (case g_B => k_is)
    (case et_0 => kernel_rfl)
    (case et_1 => kernel_rfl)
    (case et_2 => kernel_rfl)
    (case et_3 => kernel_rfl)
    (case em_0 => kernel_rfl)
    (case em_3 => kernel_rfl)
    (case gsp => k_is)
    (case gtk => k_is)
    (case a_MS => k_is)
    (case a_MODES => k_is)
    (case l_MODES => k_is)
    (case v_MODES => exact ⟨by decide, .cons ⟨_, rfl⟩ (.cons ⟨_, rfl⟩ (.cons ⟨_, rfl⟩ (.cons ⟨_, rfl⟩ (.cons ⟨_, rfl⟩ .nil))))⟩)
    (case a_MIR => k_is)
    (case l_MIR => k_is)
    (case h_MIR => k_keys)
    (case d_down => k_is)
    (case r_down => exact ⟨_, rfl⟩)
    (case d_up => k_is)
    (case r_up => exact ⟨_, rfl⟩)
    (case d_half_down => k_is)
    (case r_half_down => exact ⟨_, rfl⟩)
    (case d_half_up => k_is)
    (case r_half_up => exact ⟨_, rfl⟩)
    (case d_half_even => k_is)
    (case r_half_even => exact ⟨_, rfl⟩)
    (case a_MP => k_is)
    (case a_MH => k_is)
    (case a_lcm => k_is)
    (case a_Side => k_is)
    (case cb_S => kernel_rfl)
    (case mk_S => kernel_rfl)
    (case kp_S => kernel_rfl)
    (case at_S_init => k_is)
    (case fn_S_init => kernel_rfl)
    (case l_S_init => k_is)
    (case c_S_init => k_is)
    (case k_S_init => k_is)
    (case at_S_data => k_is)
    (case pg_S => k_is)
    (case pt_S => k_is)
    (case pr_S => k_is)
    (case fn_S_data => kernel_rfl)
    (case l_S_data => k_is)
    (case c_S_data => k_is)
    (case k_S_data => k_is)
    (case at_S_call => k_is)
    (case fn_S_call => kernel_rfl)
    (case l_S_call => k_is)
    (case c_S_call => k_is)
    (case k_S_call => k_is)
    (case at_S_get => k_is)
    (case fn_S_get => kernel_rfl)
    (case l_S_get => k_is)
    (case c_S_get => k_is)
    (case k_S_get => k_is)
    (case at_S_or => k_is)
    (case fn_S_or => kernel_rfl)
    (case l_S_or => k_is)
    (case c_S_or => k_is)
    (case k_S_or => k_is)
    (case a_Sides => k_is)
    (case cb_Z => kernel_rfl)
    (case mk_Z => kernel_rfl)
    (case kp_Z => kernel_rfl)
    (case at_Z_init => k_is)
    (case fn_Z_init => kernel_rfl)
    (case l_Z_init => k_is)
    (case c_Z_init => k_is)
    (case k_Z_init => k_is)
    (case at_Z_sides => k_is)
    (case pg_Z => k_is)
    (case pt_Z => k_is)
    (case pr_Z => k_is)
    (case fn_Z_sides => kernel_rfl)
    (case l_Z_sides => k_is)
    (case c_Z_sides => k_is)
    (case k_Z_sides => k_is)
    (case at_Z_call => k_is)
    (case fn_Z_call => kernel_rfl)
    (case l_Z_call => k_is)
    (case c_Z_call => k_is)
    (case k_Z_call => k_is)
    (case at_Z_get => k_is)
    (case fn_Z_get => kernel_rfl)
    (case l_Z_get => k_is)
    (case c_Z_get => k_is)
    (case k_Z_get => k_is)
    (case at_Z_lead => k_is)
    (case fn_Z_lead => kernel_rfl)
    (case l_Z_lead => k_is)
    (case c_Z_lead => k_is)
    (case k_Z_lead => k_is)
    (case at_Z_or => k_is)
    (case fn_Z_or => kernel_rfl)
    (case l_Z_or => k_is)
    (case c_Z_or => k_is)
    (case k_Z_or => k_is)
    (case at_Z_sub => k_is)
    (case fn_Z_sub => kernel_rfl)
    (case l_Z_sub => k_is)
    (case c_Z_sub => k_is)
    (case k_Z_sub => k_is)
    (case na_data => k_is)
    (case na_form => k_is)
    (case na_sides => k_is)
    (case na_forms => k_is)
    (case ca_S => k_is)
    (case ca_Z => k_is)
    (case kZS => kernel_rfl)
    (case gi_S => kernel_rfl)
    (case gi_Z => kernel_rfl)
    (case ci_S => kernel_rfl)
    (case ci_Z => kernel_rfl)
    (case hne => kernel_rfl)
    (case nk_S => kernel_rfl)
    (case nk_Z => kernel_rfl)
    (case sfS => kernel_rfl)
    (case sfZ => kernel_rfl)
    (case roS => k_is)
    (case roZ => k_is)
    (case rsZ_ => k_is)
    (case rsS_ => k_is)
    (case suS_ => k_is)
    (case suO_ => kernel_rfl)
    (case rsO_ => kernel_rfl)
    (case mroS => kernel_rfl)
    (case biSo => kernel_rfl)
    (case biZo => kernel_rfl)
    (case biZs => kernel_rfl)
    (case sSZ => kernel_rfl)
    (case sZS => kernel_rfl)
#print axioms PySem.Challenge.cw_handedtext_k82_wrong_sides_and_sets_as_v_holds
