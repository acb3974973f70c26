import PyProof.Rows.All
import Wide.All
import OpenK.AllK
import Wide.FinOn
import HandS.CallSlots
import HandS.Deep
import HandS.Defaults
import HandS.Exc
import HandS.ExcField
import HandS.ExcInit
import HandS.ExcIs
import HandS.ExcValue
import HandS.ForMost
import HandS.HotCalls
import HandS.IsInst
import HandS.MakeKwOnly
import HandS.More
import HandS.NoneIn
import HandS.RaiseFrom
import HandS.ReplaceLit
import HandS.StrMore
import HandS.Style
import HandS.SuiteRaise
import HandS.TryOnly
import HandS.Wide
import HandS.WideBits
import HandS.WordsExc
import KE.KEqDeep
import KE.KEqSeq
import KE.KExcIs
import HandS.Gcd
import HandS.SortKw
import HandS.Star
import HandS.Property
import HandS.OwnEq
import KE.KOpsOwn
import HandS.SortInts
import HandS.Deep
import HandS.TupSets
import KE.SortData
import PySem.Challenge.RW_handedtext_k80_whole_sides_as_values
set_option Elab.async false
set_option linter.all false
set_option maxRecDepth 100000
set_option maxHeartbeats 4000000
set_option exponentiation.threshold 9000
open PySem L2
local macro_rules | `(tactic| walk_at "rd") => `(tactic| repeat (first | refine ⟨_, rfl, ?_⟩ | refine ⟨_, _, rfl, rfl, ?_⟩ | refine .inl ⟨_, rfl, ?_⟩))
namespace L2
open PySem PySem.Spec PyProof.Rows
/-- an error that was caught and kept, at a -/
def ExK (cls : Value) (a : Addr) : HO := .ext fun hp => ∃ (rec' : Obj) (cells : Array Value), hp.get? a = some rec' ∧ Zc cls none rec' ∧ rec'.data = .fields cells
/-- wKeep: what 'except x as n' wishes, where the error stays tracked behind the suite -/
def wKeep (K : PySem.W.Frag) (c : Value) (i : Nat) (ts : Addr → Value → Option Addr → TS) (Wout : WX) (D : Ends) : WX := fun kl dd st H =>
  ∃ yes, PySem.W.exmOne K kl c = some yes ∧ (yes = true → dd = none ∧ ∀ a, H a = none → ts a kl dd { nx := fun st' H' => D.nx (st'.set i none) (upd H' a (ExK kl a)), rt := D.rt, bk := fun st' H' => D.bk (st'.set i none) H', ct := fun st' H' => D.ct (st'.set i none) H' } (st.set i (some (.ref a))) H) ∧
    (yes = false → Wout kl dd st H)
section
variable {X : Cx} {pins : List (Addr × Obj)} {st : St} {H : Hp} {sh : Shared}
theorem Inv.adopt {a : Addr} {kl : Value} {rc : Obj} {cells : Array Value} (iv : Inv X pins st H sh) (new0 : X.s_0.heap.get? a = none) (free : H a = none) (at0 : sh.heap.get? a = some rc) (zc : Zc kl none rc) (fl : rc.data = .fields cells) (nl : a ≠ X.env.locals)
    (np : ∀ p ∈ X.pn ++ pins, p.1 ≠ a) : Inv X pins st (upd H a (ExK kl a)) sh := by
  have old : ∀ c rr, X.s_0.heap.get? c = some rr → c ≠ a := fun c rr e z => by
    rw [z, new0] at e
    cases e
  have other : ∀ c u, H c = some u → upd H a (ExK kl a) c = some u := fun c u e => (upd_ne (ne_of_none e free)).trans e
  refine ⟨iv.ok, iv.os, iv.bare, ⟨iv.base.keep, iv.base.slot, fun c rr e n0 nx => ?_, iv.base.there, fun c xs e => other _ _ (iv.base.tups c xs e), fun c rr u e => other _ _ (iv.base.frzs c rr u e), fun c ps e => ?_⟩, iv.loc, iv.cell, ?_, fun y c e => ?_, fun p hp => ?_, fun c u e => ?_, iv.len⟩
  · exact (upd_ne (old c rr e)).trans (iv.base.free c rr e n0 nx)
  · obtain ⟨more, e2⟩ := iv.base.tbls c ps e
    exact ⟨more, other _ _ e2⟩
  · exact (upd_ne nl.symm).trans iv.free
  · obtain ⟨w, rr, e2, e3⟩ := iv.cell y c e
    refine (upd_ne fun z => ?_).trans (iv.freeC y c e)
    subst z
    rw [at0] at e2
    cases e2
    simp [fl] at e3
  · obtain ⟨e1, e2, e3, e4, e5⟩ := iv.pin p hp
    exact ⟨e1, (upd_ne (np p hp)).trans e2, e3, e4, e5⟩
  · by_cases ca : c = a
    · subst ca
      rw [upd_same] at e
      cases e
      exact ⟨⟨rc, cells, at0, zc, fl⟩, ⟨rc, at0⟩, fun _ _ ⟨r2, c2, e2, e3⟩ same => ⟨r2, c2, same _ e2, e3⟩⟩
    · rw [upd_ne ca] at e
      exact (iv.hok c u e).stay (fun _ _ _ e2 => e2) (fun c2 e2 => other _ _ e2) fun c2 xs e2 => other _ _ e2
end
end L2
namespace L2
open PySem PySem.Spec PyProof.Rows
section
variable {X : Cx} {x n : Str} {c : Value} {i : Nat} {body suite : List Stmt} {first : Stmt} {np pos pos' : Pos} {tb : WX → TS} {ts : Addr → Value → Option Addr → TS} {Wout : WX}
/-- try: .. except x as n: suite; the caught error stays tracked behind it -/
theorem ps_try_keep (stk : X.stack = X.env :: X.outer) (frm : X.env.frame = some X.env.locals) (noex : X.ex = []) (dist : X.N.Nodup) (slot : X.N[i]? = some n) (loc : X.env.kindOf n = some .local) (nam : Names X x c) (tk : Takes X Wout)
    (inner : ∀ (W : WX) (pn : List (Addr × Obj)) (xe : Value → Shared → Prop), Takes (X.tr pn xe) W → PassesOwn (model X.prog X.w) X.A X.env xe → PSs (X.tr pn xe) body (tb W))
    (caught : ∀ (a : Addr) (rc : Obj) (kl : Value) (dd : Option Addr) (pn : List (Addr × Obj)), Zc kl dd rc → (∃ cells, rc.data = .fields cells) → PSs (X.suite a ((a, rc) :: pn)) (first :: suite) (ts a kl dd)) :
    PS X (.Try body [.ExceptHandler (some (.Name x np)) (some n) (first :: suite) pos'] [] [] pos) (fun D st H => tb (wKeep X.K c i ts Wout D) D st H) where
  run := fun pins sh st H D iv want => by
    have fine := iv.ok
    have frames : X.A.frames = some (X.env :: X.outer) := by rw [fine.frames, stk]
    refine wpAny_Try_except (wpAny_mono ((inner (wKeep X.K c i ts Wout D) (X.pn ++ pins) _ (fun u sh' air => ?_) PassesOwn.looking).run [] sh st H D (iv.toTry _) want) ?_ fun _ _ e => e)
    · obtain ⟨a, B, shI, pins', st1, H1, kl, dd, rfl, ivT, inB, upTo, sky, freeA, sameOs, bareG, yes, dec, onYes, onNo⟩ := air
      have iv1 : Inv X pins st1 H1 shI := ivT.ofTry fine
      rw [stk] at sky
      refine Sky.land Zc.steady frames frm sky fun hp3 fly3 up3 => ?_
      have bNone : B.get? a = none := fly3.2.1
      have iv3 : Inv X pins st1 H1 { sh' with heap := hp3 } := iv1.landed inB fly3.1 (upTo.trans up3) sameOs bareG
      obtain ⟨rc3, cells3, at3, zc3, dt3⟩ := fly3.there
      have offFrames : a ∉ frs (X.env :: X.outer) := fun mem => by
        obtain ⟨_, r2, e2, bad⟩ := fly3.2.2.1.mem mem
        rw [at3] at e2
        cases e2
        exact bad _ dt3
      have offL : a ≠ X.env.locals := fun z => offFrames (List.mem_filterMap.mpr ⟨X.env, List.mem_cons_self, by rw [frm, z]⟩)
      have offF : a ∉ X.fs := fun mem => by
        obtain ⟨ee, inn, ef⟩ := List.mem_filterMap.mp mem
        exact offFrames (List.mem_filterMap.mpr ⟨ee, List.mem_cons_of_mem _ inn, ef⟩)
      have notThere : shI.heap.get? a = none := by
        cases e : shI.heap.get? a with
        | none => rfl
        | some rr =>
          have z := inB a rr e (by rw [stk]; exact offFrames)
          rw [bNone] at z
          cases z
      have new0 : X.s_0.heap.get? a = none := by
        cases e : X.s_0.heap.get? a with
        | none => rfl
        | some rr =>
          obtain ⟨r2, e2⟩ := iv1.base.there a rr e (by rw [noex]; exact List.not_mem_nil)
          rw [notThere] at e2
          cases e2
      have pinsOff : ∀ p ∈ X.pn ++ pins, p.1 ≠ a := fun p hp z => by
        have e2 := (iv1.pin p hp).1
        rw [z, notThere] at e2
        cases e2
      have inSuite := iv3.suite at3 dt3 freeA offL offF
      refine wpAny_handleBy_cons (codeAny_handlers_test ?_) (by intro q; cases q)
      have theClass : PySem.W.Looks (model X.prog X.w) hp3 (typeOf (.ref a)) kl := fun A' Q' E' s' kk qq => wpAny_typeOf_ref (kk _ _ at3) (by rw [zc3.1]; exact qq)
      have theTest := PySem.W.exm_one (M := model X.prog X.w) iv3.kIn theClass dec
      have clause : ∀ {Q' : Value → Shared → Prop} {E' : Value → Shared → Prop}, Q' c { sh' with heap := hp3 } → wpAny (model X.prog X.w) (X.A.mark (some (.ref a))) (eval (.Name x np) X.env) Q' E' { sh' with heap := hp3 } := fun {Q' E'} qq => by
        obtain ⟨g1, g2, g3 | ⟨g3, g4, g5⟩⟩ := nam
        · exact ld_glob (X := X.suite a ((a, rc3) :: (X.pn ++ pins))) inSuite g1 g3 qq g2
        · exact ld_blt (X := X.suite a ((a, rc3) :: (X.pn ++ pins))) inSuite g1 g3 g4 qq g5 g2
      refine clause (theTest.here ?_)
      cases yes with
      | true =>
        obtain ⟨rfl, go⟩ := onYes rfl
        refine codeAny_handlers_suite_as (HandSPX.lands_againZ fly3 fun hp4 fly4 up4 => ?_)
        have iv4 : Inv X pins st1 H1 { sh' with heap := hp4 } := iv1.landed inB fly4.1 ((upTo.trans up3).trans up4) sameOs bareG
        obtain ⟨rc4, cells4, at4, zc4, dt4⟩ := fly4.there
        refine store_ok (X := X.suite a ((a, rc4) :: (X.pn ++ pins))) (v := .ref a) (iv4.suite at4 dt4 freeA offL offF) dist slot (.inl loc) rfl (fun sh5 iv5 => ?_) (.inr loc)
        refine wpAny_mono ((caught a rc4 kl none (X.pn ++ pins) zc4 ⟨_, dt4⟩).run [] sh5 _ H1 _ iv5 (go a freeA)) (fun flow sh6 came => ?_) fun _ _ z => z.elim
        cases flow with
        | next =>
          obtain ⟨st6, H6, iv6, q6⟩ := came
          have more : Inv X ((a, rc4) :: pins) st6 H6 sh6 := ⟨fine, iv6.os, iv6.bare, iv6.base, iv6.loc, iv6.cell, iv6.free, iv6.freeC, fun p hp => iv6.pin p (List.mem_append_left _ ?_), iv6.hok, iv6.len⟩
          refine gone_ok more dist slot loc fun sh7 iv7 => ?_
          have there : (a, rc4) ∈ X.pn ++ (a, rc4) :: pins := List.mem_append_right _ List.mem_cons_self
          obtain ⟨e1, e2, e3, _⟩ := iv7.pin (a, rc4) there
          have less : Inv X pins (st6.set i none) H6 sh7 := ⟨fine, iv7.os, iv7.bare, iv7.base, iv7.loc, iv7.cell, iv7.free, iv7.freeC, fun p hp => iv7.pin p ?_, iv7.hok, iv7.len⟩
          · exact ⟨_, _, less.adopt new0 e2 e1 zc4 dt4 e3 pinsOff, q6⟩
          · rcases List.mem_append.mp hp with hq | hq
            · exact List.mem_append_left _ hq
            · exact List.mem_append_right _ (List.mem_cons_of_mem _ hq)
          · rcases List.mem_append.mp hp with hq | hq
            · exact List.mem_cons_of_mem _ (List.mem_append_left _ hq)
            · rcases List.mem_cons.mp hq with hr | hr
              · rw [hr]; exact List.mem_cons_self
              · exact List.mem_cons_of_mem _ (List.mem_append_right _ hr)
        | brk =>
          obtain ⟨st6, H6, iv6, q6⟩ := came
          exact gone_ok (iv6.unsuite fine) dist slot loc fun sh7 iv7 => ⟨_, _, iv7, q6⟩
        | cont =>
          obtain ⟨st6, H6, iv6, q6⟩ := came
          exact gone_ok (iv6.unsuite fine) dist slot loc fun sh7 iv7 => ⟨_, _, iv7, q6⟩
        | ret u =>
          obtain ⟨v6, st6, H6, iv6, r6, q6⟩ := came
          exact gone_ok (iv6.unsuite fine) dist slot loc fun sh7 iv7 => ⟨_, _, _, iv7, r6, q6⟩
      | false =>
        show wpAny _ X.A (handleBy (.ref a) X.env []) _ _ _
        refine wpAny_handleBy_nil ?_
        obtain ⟨_, _, _, rc5, cells5, tr5, _, _, at5, _, dt5, at1, _⟩ := id fly3
        unfold PySem.passOn
        refine wpAny_bind (wpAny_field at5 dt5 at1 ?_)
        rw [if_neg (by simp : ¬ (Value.ref tr5 == Value.none) = true)]
        have out : wpAny (model X.prog X.w) X.A (setFlight (.ref a) X.env.frame) (fun _ sh8 => wpAny (model X.prog X.w) X.A (throw (.ref a) : Sem Flow) (SP X pins D) X.xe sh8) X.xe { sh' with heap := hp3 } := by
          rw [frm]
          refine HandSPX.setFlight_upZ fly3 fun hp8 held up8 => wpAny_throw (tk _ _ ?_)
          exact ⟨a, B, shI, pins, st1, H1, kl, dd, rfl, iv1, inB, (upTo.trans up3).trans up8, .inr (.inr (by rw [stk]; exact held)), freeA, sameOs, bareG, onNo rfl⟩
        first
          | exact wpAny_bind out
          | exact wpAny_bind (wpAny_pure (wpAny_bind out))
    · intro flow sh1 came
      cases flow with
      | next =>
        obtain ⟨st1, H1, iv1, q1⟩ := came
        exact wpAny_execs_nil ⟨st1, H1, iv1.ofTry fine, q1⟩
      | brk =>
        obtain ⟨st1, H1, iv1, q1⟩ := came
        exact ⟨st1, H1, iv1.ofTry fine, q1⟩
      | cont =>
        obtain ⟨st1, H1, iv1, q1⟩ := came
        exact ⟨st1, H1, iv1.ofTry fine, q1⟩
      | ret u =>
        obtain ⟨v1, st1, H1, iv1, r1, q1⟩ := came
        exact ⟨v1, st1, H1, iv1.ofTry fine, r1, q1⟩
end
end L2
namespace HT
open PySem L2
/-- a special method of a class: a plain def -/
structure Spc (K : PySem.W.Frag) (C : Addr) (m : Str) (f : Addr) : Prop where
  at_ : PySem.W.findIn K (.ref C) m = some (some (.ref f))
  fn : PySem.W.isFn K (.ref f) = true
section
variable {X : Cx} {CX : CXT} {k : Nat} {C f : Addr} {sp : Sp} {E : XK} {pins : List (Addr × Obj)} {σ : St} {H : Hp} {s : Shared} {a dx : Addr} {fs : List (Str × V)}
theorem ins_inst (I : Inv X pins σ H s) (ea : H a = some (.ins C dx fs)) : ∃ ox od, PySem.W.InstAt s.heap a ox C od ∧ ox.data = .plain := by
  obtain ⟨mA, O, _⟩ := ins_get I.hok ea
  obtain ⟨od, J, _⟩ := O.look
  exact ⟨_, _, J, rfl⟩
/-- -x by an own __neg__ -/
theorem un_own (h : Spc X.K C "__neg__" f) (F : FnR X.prog X.w X.K X.mg X.base CX k f sp) (hr : Room k X.A) (hx : Passes CX X E) :
    UnR X (unaryOp .USub) (fun x H Q => ∃ a dx fs, x = .ref a ∧ H a = some (.ins C dx fs) ∧ sp [.ref a] H Q E) := by
  intro pins s σ H x v Q I rx q
  obtain ⟨a, dx, fs, rfl, ea, q⟩ := q
  obtain rfl : v = Value.ref a := rx
  obtain ⟨ox, od, J, _⟩ := ins_inst I ea
  obtain ⟨m, hF⟩ := I.fr
  exact PySem.W.ksp_neg hF I.ok.mod.kin J h.at_ h.fn (wpAny_call (run_fnR (us := [.ref a]) (vs := [.ref a]) F hr hx I (.cons rfl .nil) q))
/-- y in x by an own __contains__ that tells a truth value -/
theorem op_ownIn (h : Spc X.K C "__contains__" f) (F : FnR X.prog X.w X.K X.mg X.base CX k f sp) (hr : Room k X.A) (hx : Passes CX X E) :
    OpR X (compareOp .In) (fun y x H Q => ∃ a dx fs, x = .ref a ∧ H a = some (.ins C dx fs) ∧ sp [.ref a, y] H (fun v H' => ∃ b, v = .bl b ∧ Q (.bl b) H') E) := by
  intro pins s σ H y x u v Q I ry rx q
  obtain ⟨a, dx, fs, rfl, ea, q⟩ := q
  obtain rfl : v = Value.ref a := rx
  obtain ⟨ox, od, J, _⟩ := ins_inst I ea
  obtain ⟨m, hF⟩ := I.fr
  refine PySem.W.in_K hF I.ok.mod.kin J h.at_ h.fn (wpAny_mono (wpAny_call (run_fnR (us := [.ref a, u]) (vs := [.ref a, y]) F hr hx I (.cons rfl (.cons ry .nil)) q)) (fun r s' z => ?_) fun _ _ z => z)
  obtain ⟨w, H', I', rw', b, rfl, q'⟩ := z
  cases (show r = Value.bool b from rw')
  exact wpAny_pure ⟨.bl b, H', I', rfl, q'⟩
/-- x | y by an own __or__, y of the same class -/
theorem op_ownOr (h : Spc X.K C "__or__" f) (hc : PySem.W.selfFirst X.K C = true) (F : FnR X.prog X.w X.K X.mg X.base CX k f sp) (hr : Room k X.A) (hx : Passes CX X E) :
    OpR X (binaryOp .BitOr) (fun x y H Q => ∃ a dx fs b dy gs, x = .ref a ∧ y = .ref b ∧ H a = some (.ins C dx fs) ∧ H b = some (.ins C dy gs) ∧ sp [.ref a, .ref b] H Q E) := by
  intro pins s σ H x y v u Q I rx ry q
  obtain ⟨a, dx, fs, b, dy, gs, rfl, rfl, ea, eb, q⟩ := q
  obtain rfl : v = Value.ref a := rx
  obtain rfl : u = Value.ref b := ry
  obtain ⟨ox, od, J, _⟩ := ins_inst I ea
  obtain ⟨oy, oe, J', _⟩ := ins_inst I eb
  obtain ⟨m, hF⟩ := I.fr
  refine PySem.W.binop_K hF I.ok.mod.kin J J'.type hc h.at_ h.fn (wpAny_mono (wpAny_call (run_fnR (us := [.ref a, .ref b]) (vs := [.ref a, .ref b]) F hr hx I (.cons rfl (.cons rfl .nil)) q)) (fun r s' z => ?_) fun _ _ z => z)
  obtain ⟨w, H', I', rw', q'⟩ := z
  cases r <;> first | exact ⟨w, H', I', rw', q'⟩ | (cases w <;> first | exact nomatch rw' | (obtain ⟨_, z⟩ := rw'; cases z) | cases rw')
/-- x == y by an own __eq__, y of a type that does not come first -/
theorem op_ownEq (h : Spc X.K C "__eq__" f) (F : FnR X.prog X.w X.K X.mg X.base CX k f sp) (hr : Room k X.A) (hx : Passes CX X E) :
    OpR X (compareOp .Eq) (fun x y H Q => ∃ a dx fs tb, x = .ref a ∧ H a = some (.ins C dx fs) ∧ TyX X.K H y tb ∧ PySem.W.notFirst X.K C tb = true ∧ sp [.ref a, y] H Q E) := by
  intro pins s σ H x y v u Q I rx ry q
  obtain ⟨a, dx, fs, tb, rfl, ea, ty, nf, q⟩ := q
  obtain rfl : v = Value.ref a := rx
  obtain ⟨ox, od, J, _⟩ := ins_inst I ea
  obtain ⟨m, hF⟩ := I.fr
  obtain ⟨P, kx, p, _⟩ := kit_of I ry ty
  have L : PySem.W.Looks (model X.prog X.w) s.heap (typeOf u) tb := kx.ty _ _ I.kIn p
  refine PySem.W.cmp_K (op := .Eq) hr.units0 hF I.ok.mod.kin J L nf h.at_ h.fn (wpAny_mono (wpAny_call (run_fnR (us := [.ref a, u]) (vs := [.ref a, y]) F hr hx I (.cons rfl (.cons ry .nil)) q)) (fun r s' z => ?_) fun _ _ z => z)
  obtain ⟨w, H', I', rw', q'⟩ := z
  cases r <;> first | exact ⟨w, H', I', rw', q'⟩ | (cases w <;> first | exact nomatch rw' | (obtain ⟨_, z⟩ := rw'; cases z) | cases rw')
end
end HT
namespace HT
open PySem PySem.Spec PyProof.Rows L2
section
variable {X : Cx} {CX : CXT} {k : Nat} {C f : Addr} {sp : Sp} {E : XK} {ea eb : Expr} {ta tb : TE} {pos : Pos}
/-- x[y] by an own __getitem__ -/
def rOwn (C : Addr) (sp : Sp) (E : XK) : R2 := fun x y H Q => ∃ a dx fs, x = .ref a ∧ H a = some (.ins C dx fs) ∧ sp [.ref a, y] H Q E
theorem pe_ownIx (h : Spc X.K C "__getitem__" f) (hf : PySem.W.fnIn X.K f = true) (F : FnR X.prog X.w X.K X.mg X.base CX k f sp) (hr : Room (k + 1) X.A) (hx : Passes CX X E) (ha : PE X ea ta) (hb : PE X eb tb)
    (hsl : ∀ x i, subscripted eb true (.ref x) i = runValue (.builtin "lifetime.subscript" ⟨[.ref x, i], []⟩) := by intros; with_unfolding_all rfl) : PE X (.Subscript ea eb pos) (tOp (rOwn C sp E) ta tb) := by
  refine ⟨fun pins s σ H Q I h' => ?_⟩
  refine Subscript_ (binT ha hb I h' fun v u s2 x y H2 I2 rx ry q => ?_)
  obtain ⟨a, dx, fs, rfl, ea, q⟩ := q
  obtain rfl : v = Value.ref a := rx
  obtain ⟨ox, od, J, _⟩ := ins_inst I2 ea
  obtain ⟨m, hF⟩ := I2.fr
  refine PySem.W.sub_K hF I2.ok.mod.kin J h.at_ hf h.fn (wpAny_call (codeAny_mono (F X.A.in1 X.stack s2 H2 [.ref a, u] [.ref a, y] Q E hr.in1 I2.env0.in1 (.cons rfl (.cons ry .nil)) q) fun r s' hq => ?_)) (hsl _ _)
  cases r with
  | error e => exact hx _ _ _ _ e s' I2 hq
  | ok fl =>
    cases fl with
    | ret w => exact I2.after hq
    | next => exact False.elim hq
    | brk => exact False.elim hq
    | cont => exact False.elim hq
end
section
variable {prog : Program} {w : World} {A : Around} {E : Value → Shared → Prop} {s : Shared} {K : PySem.W.Frag} {x b C D f g : Addr} {ox oy : Obj} {od oe : Option Obj}
/-- an operator's own method where the right side is of another own class, none of the two below the other -/
theorem binop_other {op : Operator} {Q : Value → Shared → Prop} (X : K.In s.heap) (I : PySem.W.InstAt s.heap x ox C od) (J : PySem.W.InstAt s.heap b oy D oe) (hne : C ≠ D) (hc : PySem.W.selfFirst K C = true) (hd : PySem.W.selfFirst K D = true)
    (hs : PySem.W.findIn K (.ref C) (PySem.dunder op.info.2) = some (some (.ref f))) (hf : PySem.W.isFn K (.ref f) = true) (hr : PySem.W.findIn K (.ref C) (dunderR op.info.2) = some none)
    (ht : PySem.W.findIn K (.ref D) (PySem.dunder op.info.2) = some (some (.ref g))) (hu : PySem.W.findIn K (.ref D) (dunderR op.info.2) = some none) (hsub : PySem.W.subIn K (.ref D) (.ref C) = some false)
    (h : wpAny (model prog w) A (call (.ref f) [.ref x, .ref b]) (PySem.W.CmpBack Q) E s) : wpAny (model prog w) A (binaryOp op (.ref x) (.ref b)) Q E s := by
  obtain ⟨cd, rest, hcd, hm⟩ := PySem.W.ksp_first hc
  obtain ⟨cd', rest', hcd', hm'⟩ := PySem.W.ksp_first hd
  rcases hi : op.info with ⟨sym, nm'⟩
  rw [hi] at hs hr ht hu
  dsimp only at hs hr ht hu
  have one := PySem.W.ksp_try X I hs hf h
  obtain ⟨hh, gg, d, tt, os⟩ := s
  have L1 : PySem.W.Looks (model prog w) hh (typeOf (.ref x)) (.ref C) := I.type
  have L2 : PySem.W.Looks (model prog w) hh (typeOf (.ref b)) (.ref D) := J.type
  have L3 : PySem.W.Looks (model prog w) hh (fillsNumberSlot (.ref C) nm') true := PySem.W.fills_K X hcd hm hs
  have L4 : PySem.W.Looks (model prog w) hh (fillsNumberSlot (.ref D) nm') true := PySem.W.fills_K X hcd' hm' ht
  have L5 : PySem.W.Looks (model prog w) hh (isSubtype (.ref D) (.ref C)) false := PySem.W.looks_subIn X hsub
  have L6 : PySem.W.Looks (model prog w) hh (numberSlotInPython (.ref C) nm') true := PySem.W.ksp_inPy X hs hr (.inl rfl)
  have L7 : PySem.W.Looks (model prog w) hh (numberSlotInPython (.ref D) nm') true := PySem.W.ksp_inPy X ht hu (.inl rfl)
  have hne' : (Value.ref C == Value.ref D) = false := Bool.eq_false_iff.mpr fun q => hne (by cases beq_iff_eq.mp q; rfl)
  simp only [binaryOp, hi]
  refine wpAny_holding (wpAny_bind ?_)
  unfold binaryOp1
  refine wpAny_bind (L1.at (wpAny_bind (L2.at (wpAny_bind (L3.at ?_)))))
  simp only [hne', Bool.false_eq_true, if_false]
  repeat ((fail_if_success (with_reducible show wpAny _ _ (tryMethod _ _ _) _ _ _)); lk)
  refine wpAny_mono one (fun r s' hr' => ?_) fun _ _ e => e
  obtain ⟨v, rfl, hq⟩ := hr'
  repeat lk
  exact hq
end
end HT
namespace HT
open PySem PySem.Spec PyProof.Rows L2
section
variable {prog : Program} {w : World} {A : Around} {E : Value → Shared → Prop} {s : Shared} {K : PySem.W.Frag} {x C f : Addr} {ox : Obj} {od : Option Obj} {b tb : Value}
/-- a call of object's slot at an instance of an own class -/
theorem check_own {M : Model} {id n : String} {rest : List Value} {Q : Unit → Shared → Prop} (X : K.In s.heap) (I : PySem.W.InstAt s.heap x ox C od) (ho : PySem.W.subIn K (.ref C) (.type "object") = some true)
    (hk : builtinKind id = some .slot) (hs : splitId id = some ("object", n)) (ha : argsOk id ⟨.ref x :: rest, []⟩) (q : Q () s) : wpAny M A (checkBuiltinCall id ⟨.ref x :: rest, []⟩) Q E s := by
  obtain ⟨hh, gg, d, tt, os⟩ := s
  have L1 : PySem.W.Looks M hh (typeOf (.ref x)) (.ref C) := I.type
  have L2 : PySem.W.Looks M hh (isSubtype (.ref C) (.type "object")) true := PySem.W.looks_subIn X ho
  simp only [checkBuiltinCall, hk, hs]
  refine wpAny_bind ?_
  · unfold isInstance
    repeat lk
    cases hsig : Manifest.signature? id with
    | none => exact wpAny_pure q
    | some sig =>
      have e : Bind.checkArgs id sig ⟨.ref x :: rest, []⟩ = pure () := by
        have := ha
        unfold argsOk at this
        rw [hsig] at this
        exact this
      show wpAny M A (Bind.checkArgs id sig ⟨.ref x :: rest, []⟩) Q E _
      rw [e]
      exact wpAny_pure q
/-- object.__ne__ at an instance with an own __eq__ that tells a truth value -/
theorem try_ne {Q : Value → Shared → Prop} (hu : A.units + 1 < cLine) (X : K.In s.heap) (I : PySem.W.InstAt s.heap x ox C od) (ho : PySem.W.subIn K (.ref C) (.type "object") = some true) (hn : PySem.W.findIn K (.ref C) "__ne__" = some (some (.builtin "object.__ne__")))
    (hs : PySem.W.findIn K (.ref C) "__eq__" = some (some (.ref f))) (hf : PySem.W.isFn K (.ref f) = true)
    (h : wpAny (model prog w) A.in1 (call (.ref f) [.ref x, b]) (fun r s' => ∃ k, r = .bool k ∧ Q (.bool (!k)) s') E s) : wpAny (model prog w) A (tryCompare (.ref x) "__ne__" b) (fun r s' => ∃ v, r = some v ∧ Q v s') E s := by
  have FB := F.cmp_object
  unfold tryCompare
  refine wpAny_bind ?_
  simp only [callSpecialIfBound?, bindSpecialIfBound?]
  refine wpAny_holding (wpAny_bind (wpAny_bind (wpAny_bind (I.type.here ((PySem.W.looks_findIn X hn).here ?_)))))
  have hb : bindSpecial (.builtin "object.__ne__") (.ref x) = pure (.builtin "object.__ne__", [.ref x]) := FB.ne.bind _
  simp only [hb]
  refine wpAny_bind (wpAny_askSetting (wpAny_ite ?_))
  have fin : wpAny (model prog w) A (call (.builtin "object.__ne__") ([.ref x] ++ [b]) >>= fun v => pure (some v)) (fun r s' => wpAny (model prog w) A (match r with | some .notImplemented | none => pure none | some v => pure (some v)) (fun r s' => ∃ v, r = some v ∧ Q v s') E s') E s := by
    refine wpAny_bind (wpAny_call (codeAny_call_builtin FB.ne.plain F.cmpEntry_ne (check_own X I ho F.cmpKind_ne F.cmpSplit_ne (F.cmpArgs_ne _ _) ?_)))
    unfold Builtin.«object.__ne__»
    refine wpAny_bind (m := slotArgs "__ne__" 1 ⟨[.ref x] ++ [b], []⟩) (wpAny_pure ?_)
    refine wpAny_bind (wpAny_cRoomFor hu ?_)
    refine wpAny_bind (PySem.W.ifBound_K X I hs hf (wpAny_mono h (fun r s' z => ?_) fun _ _ e => e))
    obtain ⟨k, rfl, q⟩ := z
    refine wpAny_bind (wpAny_pure ?_)
    exact wpAny_pure (wpAny_pure (wpAny_pure ⟨_, rfl, q⟩))
  split
  · exact wpAny_bind (wpAny_pure (wpAny_pure fin))
  · exact wpAny_tryCatch (wpAny_bind (wpAny_pure (wpAny_pure fin)))
/-- a rich comparison whose left side answers -/
theorem rich_of {op : CmpOp} {Q : Value → Shared → Prop} (hu : A.units < cLine) (X : K.In s.heap) (I : PySem.W.InstAt s.heap x ox C od) (hb : PySem.W.Looks (model prog w) s.heap (typeOf b) tb) (hn : PySem.W.notFirst K C tb = true)
    (one : wpAny (model prog w) A (tryCompare (.ref x) (cmpInfo op).2.1 b) (fun r s' => ∃ v, r = some v ∧ Q v s') E s) : wpAny (model prog w) A (richCompare op (.ref x) b) Q E s := by
  unfold richCompare
  simp only [oneThing_ref]
  refine wpAny_holding (wpAny_bind (wpAny_cRoomFor hu (wpAny_bind (I.type.here (wpAny_bind (hb.here ?_))))))
  have tail : wpAny (model prog w) A (tryCompare (.ref x) (cmpInfo op).2.1 b) (fun r s' => ∃ v, r = some v ∧ wpAny (model prog w) A (pure v : Sem Value) Q E s') E s :=
    wpAny_mono one (fun r s' ⟨v, e, q⟩ => ⟨v, e, wpAny_pure q⟩) fun _ _ e => e

  split
  · rename_i q
    have e : PySem.W.subIn K tb (.ref C) = some false := by
      rcases Bool.or_eq_true_iff.mp hn with e | e
      · rw [beq_iff_eq.mp e] at q
        exact absurd q (by simp)
      · exact beq_iff_eq.mp e
    refine wpAny_bind ((PySem.W.looks_subIn X e).here ?_)
    rw [if_neg (by decide)]
    refine wpAny_bind (wpAny_mono tail (fun r s' ⟨v, e, q⟩ => ?_) fun _ _ e => e)
    subst e
    exact q
  · refine wpAny_bind (wpAny_pure ?_)
    rw [if_neg (by decide)]
    refine wpAny_bind (wpAny_mono tail (fun r s' ⟨v, e, q⟩ => ?_) fun _ _ e => e)
    subst e
    exact q
end
section
variable {X : Cx} {CX : CXT} {k : Nat} {C f : Addr} {sp : Sp} {E : XK}
/-- x != y by object's __ne__ over an own __eq__ -/
theorem op_ownNe (h : Spc X.K C "__eq__" f) (ho : PySem.W.subIn X.K (.ref C) (.type "object") = some true) (hn : PySem.W.findIn X.K (.ref C) "__ne__" = some (some (.builtin "object.__ne__"))) (F : FnR X.prog X.w X.K X.mg X.base CX k f sp) (hr : Room (k + 1) X.A) (hx : Passes CX X E) :
    OpR X (compareOp .NotEq) (fun x y H Q => ∃ a dx fs tb, x = .ref a ∧ H a = some (.ins C dx fs) ∧ TyX X.K H y tb ∧ PySem.W.notFirst X.K C tb = true ∧ sp [.ref a, y] H (fun v H' => ∃ b, v = .bl b ∧ Q (.bl (!b)) H') E) := by
  intro pins s σ H x y v u Q I rx ry q
  obtain ⟨a, dx, fs, tb, rfl, ea, ty, nf, q⟩ := q
  obtain rfl : v = Value.ref a := rx
  obtain ⟨ox, od, J, _⟩ := ins_inst I ea
  obtain ⟨P, kx, p, _⟩ := kit_of I ry ty
  refine rich_of (op := .NotEq) hr.units0 I.kIn J (kx.ty _ _ I.kIn p) nf (try_ne (by have := hr.units; omega) I.kIn J ho hn h.at_ h.fn (wpAny_call (codeAny_mono (F X.A.in1 X.stack s H [.ref a, u] [.ref a, y] _ E hr.in1 I.env0.in1 (.cons rfl (.cons ry .nil)) q) fun r s' hq => ?_)))
  cases r with
  | error e => exact hx _ _ _ _ e s' I hq
  | ok fl =>
    cases fl with
    | ret w =>
      obtain ⟨v, H', I', rv, b, rfl, q'⟩ := I.after hq
      cases (show w = Value.bool b from rv)
      exact ⟨b, rfl, .bl (!b), H', I', rfl, q'⟩
    | next => exact False.elim hq
    | brk => exact False.elim hq
    | cont => exact False.elim hq
/-- x | y by an own __or__, y of another own class -/
theorem op_ownOr2 {D g : Addr} (h : Spc X.K C "__or__" f) (h' : Spc X.K D "__or__" g) (hne : C ≠ D) (hc : PySem.W.selfFirst X.K C = true) (hd : PySem.W.selfFirst X.K D = true) (r1 : PySem.W.findIn X.K (.ref C) "__ror__" = some none) (r2 : PySem.W.findIn X.K (.ref D) "__ror__" = some none)
    (hsub : PySem.W.subIn X.K (.ref D) (.ref C) = some false) (F : FnR X.prog X.w X.K X.mg X.base CX k f sp) (hr : Room k X.A) (hx : Passes CX X E) :
    OpR X (binaryOp .BitOr) (fun x y H Q => ∃ a dx fs b dy gs, x = .ref a ∧ y = .ref b ∧ H a = some (.ins C dx fs) ∧ H b = some (.ins D dy gs) ∧ sp [.ref a, .ref b] H Q E) := by
  intro pins s σ H x y v u Q I rx ry q
  obtain ⟨a, dx, fs, b, dy, gs, rfl, rfl, ea, eb, q⟩ := q
  obtain rfl : v = Value.ref a := rx
  obtain rfl : u = Value.ref b := ry
  obtain ⟨ox, od, J, _⟩ := ins_inst I ea
  obtain ⟨oy, oe, J', _⟩ := ins_inst I eb
  refine binop_other (op := .BitOr) I.kIn J J' hne hc hd h.at_ h.fn r1 h'.at_ r2 hsub (wpAny_mono (wpAny_call (run_fnR (us := [.ref a, .ref b]) (vs := [.ref a, .ref b]) F hr hx I (.cons rfl (.cons rfl .nil)) q)) (fun r s' z => ?_) fun _ _ z => z)
  obtain ⟨w, H', I', rw', q'⟩ := z
  cases r <;> first | exact ⟨w, H', I', rw', q'⟩ | (cases w <;> first | exact nomatch rw' | (obtain ⟨_, z⟩ := rw'; cases z) | cases rw')
end
end HT
namespace L2
open PySem PySem.Spec PyProof.Rows
/-- what the written part says of an error class, for isinstance -/
structure ErrC (K : PySem.W.Frag) (C : Addr) : Prop where
  cl : (PySem.W.clsIn K C).isSome = true
  ga : PySem.W.findIn K (.ref C) "__getattribute__" = some (some (.builtin "BaseException.__getattribute__"))
  gg : PySem.W.findIn K (.ref C) "__getattr__" = some none
  sb : PySem.W.subIn K (.ref C) (.type "BaseException") = some true
  cn : PySem.W.findIn K (.ref C) "__class__" = some (some (.builtin "object.__class__"))
  mo : PySem.W.mroIn K C (.type "object") = some true
/-- .. of the attribute __class__ of all objects -/
structure ErrG (K : PySem.W.Frag) : Prop where
  sp : PySem.W.specialIn K (.builtin "object.__class__") "__get__" = some (some (.builtin "getset_descriptor.__get__"))
  tk : PySem.W.takesIn K (.builtin "object.__class__") = some true
def rIsKept (K : PySem.W.Frag) : List V → Hp → VK → Prop := fun xs H Q => ∃ (a C : Addr) (c : V) (cv : Value) (b : Bool), xs = [.ref a, c] ∧ ClsV c cv ∧ H a = some (ExK (.ref C) a) ∧ ErrC K C ∧ ErrG K ∧ PySem.W.kitOne K (.ref C) cv = some b ∧ Q (.bl b) H
theorem call_isKept {X : Cx} : CallR X (.builtin "isinstance") (rIsKept X.K) := by
  intro pins sh st H xs us Q iv r h
  obtain ⟨a, C, c, cv, b, rfl, k, at', T, G, e, q⟩ := h
  obtain ⟨u1, u2, rfl, r1, r2⟩ := vals2 r
  have e2 := k.eq r2
  subst e2
  obtain rfl : u1 = Value.ref a := r1
  obtain ⟨⟨oe, vs, ho, hz, hd⟩, _, _⟩ := iv.hok a _ at'
  have J : PySem.W.InstAt sh.heap a oe C none := by
    obtain ⟨oc, od, oda, osl⟩ := oe
    obtain ⟨h1, h2⟩ := hz
    dsimp only at h1 h2 hd
    subst h1 h2 hd
    exact ⟨ho, rfl, rfl, trivial⟩
  exact PySem.W.kia_one (PySem.W.kitx_exc T.cl T.ga T.gg T.sb T.cn G.sp G.tk T.mo) iv.kIn J e (fun z => nomatch z) fun tk => ⟨.bl b, H, iv.tok tk, rfl, q⟩
end L2
namespace L2
open PySem PySem.Spec PyProof.Rows
/-- a def of which any kind of error may come -/
theorem Fun.okAny {CX' : CXT} {P : Program} {w : World} {K : PySem.W.Frag} {mg : Str → Option Value} {base : Heap} {nm qu : Str} {row : Stmt} {at0 : Addr} {fd : FuncData} {names pars : List Str} {lev : Nat} {want : Sp} (F : Fun K nm qu row at0 fd) (S : FnScope names pars (defScope row)) (len : ∀ vs H Q E, want vs H Q E → vs.length = pars.length)
    (body : ∀ (code : Value) (A : Around) (outer : List Env) (sh : Shared) (H : Hp) (vs : List V) (Q : VK) (E : XK), Room lev (A.deeper (envOfC qu (defScope row) sh.heap.objs.size at0 code)) → want vs H Q E →
      ∃ t, PSs (cxOf CX' P w K mg base names qu (defScope row) at0 code A outer sh H E) (defBody row) t ∧ t { nx := fun _ H' => Q .non H', rt := Q } (start names vs) H) : FnOk P w K mg base CX' (lev + 1) at0 fd pars want := by
  obtain ⟨_, _, _, _, _, _, code, _, _, rfl, there, isCode⟩ := F.ex
  exact fn_of there isCode S len (body code)
/-- X('..') of an own class, for a raise .. from None -/
theorem pmk5_own {X : Cx} {C : Addr} {bmB : List Value} {B newId initId : String} {x m : Str} {j : Nat} {p p2 pos : Pos} (F : ExcBaseFacts B newId initId bmB) (q : PySem.W.excIn X.K C bmB newId = true) (gC : X.mg x = some (.ref C)) (kC : PySem.W.keepIn X.K (.ref C) = true) (r : Raises X (.ref C)) (hg : Gl X x)
    (plain : (x == ("__debug__" : Str)) = false := by decide) : L2H.PMk5 X (.Call (.Name x p) [.Constant (.str m) j p2] [] pos) (fun _ H Q => Q (.ref C) none H) := by
  intro pins sh st H Q iv want
  have arg : PA X [.Constant (.str m) j p2] (tCons (tC (.str m)) tNil) := pa_cons pe_str pa_nil
  refine wpAny_Call_Name_kw (ld_glob iv hg gC (PySem.W.callWith_K (h₀ := X.base) iv.ok.mod.kin kC (thn (arg.run pos pins sh st H (fun vs H1 => vs = [V.str m] ∧ H = H1) iv ⟨rfl, rfl⟩) ?_)) plain)
  rintro us sh1 ⟨vs, H1, iv1, rel, rfl, rfl⟩
  refine ⟨iv1.kIn, ?_⟩
  match us, rel with
  | [u], .cons _ .nil =>
    show wpAny _ _ (call (.ref C) [u]) _ _ _
    obtain ⟨_, _, _, _, _, _, _, _, _, _, _, _, _, _, _, _, _, hC, hN, hni, T⟩ := exc_obj iv1.kIn q
    exact wpAny_call_exc_subT F T hC hN hni (fun h' e made => L2H.mk_of5 iv1 made r want (iv1.hok.gone made.new)) (by show 1 ≤ sizeLine; decide)
/-- try: .. except x: suite, the suite raising: ps_try_onlyX with its reading under a name, for a loop around it -/
def tTryX (K : PySem.W.Frag) (c : Value) (ts : Addr → Value → Option Addr → TS) (Wout : WX) (tb : WX → TS) : TS := fun D st H => tb (wOnly K c ts Wout D) D st H
theorem ps_tryX {X : Cx} {x : Str} {c : Value} {body suite : List Stmt} {first : Stmt} {np pos pos' : Pos} {tb : WX → TS} {ts : Addr → Value → Option Addr → TS} {Wout : WX} (h1 : X.stack = X.env :: X.outer) (h2 : X.env.frame = some X.env.locals) (h3 : Names X x c)
    (h4 : ∀ hd : Option Value, PassesOwnAt (model X.prog X.w) (X.A.mark hd) X.A X.env X.xe) (h5 : L2.Takes X Wout)
    (h6 : ∀ (W : WX) (pn : List (Addr × Obj)) (xe : Value → Shared → Prop), L2N.Takes (X.tr pn xe) W → L2.Takes (X.tr pn xe) (L2H.wPass X.K c Wout) → PassesOwn (model X.prog X.w) X.A X.env xe → PSs (X.tr pn xe) body (tb W))
    (h7 : ∀ (a : Addr) (oe : Obj) (cls : Value) (d : Option Addr) (pn : List (Addr × Obj)), L2N.Zn cls d oe → (∃ vs, oe.data = .fields vs) → L2.Takes (L2H.suiteX X a ((a, oe) :: pn)) Wout → L2H.HotC (L2H.suiteX X a ((a, oe) :: pn)) → PSs (L2H.suiteX X a ((a, oe) :: pn)) (first :: suite) (ts a cls d)) :
    PS X (.Try body [.ExceptHandler (some (.Name x np)) none (first :: suite) pos'] [] [] pos) (tTryX X.K c ts Wout tb) := L2H.ps_try_onlyX h1 h2 h3 h4 h5 h6 h7
end L2
namespace HT
open PySem L2
/-- a test whose ways are joined by a statement of the heap -/
def tMidT (t : TT) : TT := fun σ H Q => ∃ M : Bool → Hp → Prop, t σ H M ∧ ∀ b H', M b H' → Q b H'
def tMidE (t : TE) : TE := fun σ H Q => ∃ M : V → Hp → Prop, t σ H M ∧ ∀ v H', M v H' → Q v H'
def tMidS (t : TS) : TS := fun D σ H => ∃ M : St → Hp → Prop, t { D with nx := M } σ H ∧ ∀ σ' H', M σ' H' → D.nx σ' H'
theorem pt_mid {X : Cx} {e : Expr} {t : TT} (h : PT X e t) : PT X e (tMidT t) :=
  ⟨fun pins s σ H _ I ⟨M, a, b⟩ => thn (h.run pins s σ H M I a) fun c _ ⟨H1, I1, q1⟩ => ⟨H1, I1, b c H1 q1⟩⟩
theorem pe_mid {X : Cx} {e : Expr} {t : TE} (h : PE X e t) : PE X e (tMidE t) :=
  ⟨fun pins s σ H _ I ⟨M, a, b⟩ => thn (h.run pins s σ H M I a) fun _ _ ⟨v, H1, I1, r, q1⟩ => ⟨v, H1, I1, r, b v H1 q1⟩⟩
theorem ps_mid {X : Cx} {st : Stmt} {t : TS} (h : PS X st t) : PS X st (tMidS t) :=
  ⟨fun pins s σ H D I ⟨M, a, b⟩ => thn (h.run pins s σ H { D with nx := M } I a) fun f _ q => by
    cases f with
    | next => obtain ⟨σ', H', I', q⟩ := q; exact ⟨σ', H', I', b σ' H' q⟩
    | brk => exact q
    | cont => exact q
    | ret v => exact q⟩
end HT
namespace HT
open PySem L2
def top (i : Nat) : Stmt := PySem.Challenge.pw_handedtext_k80_whole_sides_as_values.main.body.getD i (.Pass ⟨0, 0, 0, 0⟩)
abbrev s_wall : Stmt := top 1
abbrev s_is_int : Stmt := top 9
abbrev s_is_int_between : Stmt := top 10
abbrev s_check_value : Stmt := top 11
abbrev s_check_side : Stmt := top 15
abbrev s_is_side : Stmt := top 16
abbrev s_figure : Stmt := top 17
abbrev s_goes_up : Stmt := top 18
abbrev s_handed : Stmt := top 19
abbrev s_written : Stmt := top 20
abbrev s_stands : Stmt := top 21
abbrev s_span : Stmt := top 22
abbrev s_uspan : Stmt := top 23
abbrev s_below : Stmt := top 24
abbrev s_threshold : Stmt := top 25
abbrev s_mirror : Stmt := top 26
abbrev s_form : Stmt := top 27
abbrev s_first_mode : Stmt := top 28
abbrev s_check_sides : Stmt := top 32
abbrev s_period_of : Stmt := top 33
abbrev s_moved : Stmt := top 34
abbrev s_common_period : Stmt := top 35
abbrev s_raisers : Stmt := top 36
abbrev s_raises_some : Stmt := top 37
abbrev s_highest : Stmt := top 38
abbrev s_mirrors : Stmt := top 39
abbrev s_first_hit : Stmt := top 41
abbrev s_first_between : Stmt := top 42
abbrev s_unraised : Stmt := top 44
abbrev s_first_in_block : Stmt := top 45
abbrev s_first_in_both : Stmt := top 46
abbrev s_reach : Stmt := top 49
abbrev s_check_few : Stmt := top 50
abbrev s_first_unraised : Stmt := top 51
abbrev s_first_unraised_by_two : Stmt := top 52
abbrev s_before : Stmt := top 54
abbrev s_runs : Stmt := top 55
abbrev s_widened : Stmt := top 56
abbrev s_ends : Stmt := top 57
abbrev s_within : Stmt := top 58
abbrev s_listed : Stmt := top 62
abbrev s_L_source : Stmt := top 64
abbrev s_L_draw : Stmt := top 65
abbrev s_L_pick : Stmt := top 66
abbrev s_L_great : Stmt := top 67
abbrev s_L_side : Stmt := top 68
abbrev s_L_figure : Stmt := top 69
abbrev s_L_handed : Stmt := top 70
abbrev s_L_refused : Stmt := top 71
abbrev s_L_told : Stmt := top 72
abbrev s_L_due : Stmt := top 73
abbrev s_L_single_fits : Stmt := top 74
abbrev s_L_pair_fits : Stmt := top 75
abbrev s_law : Stmt := top 76
/- _wall: 0:k -/
theorem sc_wall : FnScope ["k"] ["k"] (defScope s_wall) := ⟨rfl, rfl, rfl, by decide +kernel, rfl, by decide +kernel, by decide +kernel⟩
/- is_int: 0:thing -/
theorem sc_is_int : FnScope ["thing"] ["thing"] (defScope s_is_int) := ⟨rfl, rfl, rfl, by decide +kernel, rfl, by decide +kernel, by decide +kernel⟩
/- is_int_between: 0:thing 1:least 2:most -/
theorem sc_is_int_between : FnScope ["thing", "least", "most"] ["thing", "least", "most"] (defScope s_is_int_between) := ⟨rfl, rfl, rfl, by decide +kernel, rfl, by decide +kernel, by decide +kernel⟩
/- check_value: 0:value -/
theorem sc_check_value : FnScope ["value"] ["value"] (defScope s_check_value) := ⟨rfl, rfl, rfl, by decide +kernel, rfl, by decide +kernel, by decide +kernel⟩
/- check_side: 0:side 1:offset 2:step 3:mode -/
theorem sc_check_side : FnScope ["side", "offset", "step", "mode"] ["side"] (defScope s_check_side) := ⟨rfl, rfl, rfl, by decide +kernel, rfl, by decide +kernel, by decide +kernel⟩
/- is_side: 0:thing -/
theorem sc_is_side : FnScope ["thing"] ["thing"] (defScope s_is_side) := ⟨rfl, rfl, rfl, by decide +kernel, rfl, by decide +kernel, by decide +kernel⟩
/- _figure: 0:side 1:value 2:offset 3:step 4:mode 5:figure 6:rest -/
theorem sc_figure : FnScope ["side", "value", "offset", "step", "mode", "figure", "rest"] ["side", "value"] (defScope s_figure) := ⟨rfl, rfl, rfl, by decide +kernel, rfl, by decide +kernel, by decide +kernel⟩
/- _goes_up: 0:mode 1:step 2:figure 3:rest -/
theorem sc_goes_up : FnScope ["mode", "step", "figure", "rest"] ["mode", "step", "figure", "rest"] (defScope s_goes_up) := ⟨rfl, rfl, rfl, by decide +kernel, rfl, by decide +kernel, by decide +kernel⟩
/- handed: 0:side 1:value -/
theorem sc_handed : FnScope ["side", "value"] ["side", "value"] (defScope s_handed) := ⟨rfl, rfl, rfl, by decide +kernel, rfl, by decide +kernel, by decide +kernel⟩
/- written: 0:side 1:value 2:offset 3:step 4:_ -/
theorem sc_written : FnScope ["side", "value", "offset", "step", "_"] ["side", "value"] (defScope s_written) := ⟨rfl, rfl, rfl, by decide +kernel, rfl, by decide +kernel, by decide +kernel⟩
/- stands: 0:side 1:value 2:offset 3:step 4:_ -/
theorem sc_stands : FnScope ["side", "value", "offset", "step", "_"] ["side", "value"] (defScope s_stands) := ⟨rfl, rfl, rfl, by decide +kernel, rfl, by decide +kernel, by decide +kernel⟩
/- span: 0:side 1:figure -/
theorem sc_span : FnScope ["side", "figure"] ["side", "figure"] (defScope s_span) := ⟨rfl, rfl, rfl, by decide +kernel, rfl, by decide +kernel, by decide +kernel⟩
/- _span: 0:side 1:figure 2:offset 3:step 4:mode 5:value -/
theorem sc_uspan : FnScope ["side", "figure", "offset", "step", "mode", "value"] ["side", "figure"] (defScope s_uspan) := ⟨rfl, rfl, rfl, by decide +kernel, rfl, by decide +kernel, by decide +kernel⟩
/- _below: 0:mode 1:step 2:figure -/
theorem sc_below : FnScope ["mode", "step", "figure"] ["mode", "step", "figure"] (defScope s_below) := ⟨rfl, rfl, rfl, by decide +kernel, rfl, by decide +kernel, by decide +kernel⟩
/- threshold: 0:side 1:value 2:offset 3:step 4:mode 5:figure -/
theorem sc_threshold : FnScope ["side", "value", "offset", "step", "mode", "figure"] ["side", "value"] (defScope s_threshold) := ⟨rfl, rfl, rfl, by decide +kernel, rfl, by decide +kernel, by decide +kernel⟩
/- mirror: 0:side 1:offset 2:step 3:mode -/
theorem sc_mirror : FnScope ["side", "offset", "step", "mode"] ["side"] (defScope s_mirror) := ⟨rfl, rfl, rfl, by decide +kernel, rfl, by decide +kernel, by decide +kernel⟩
/- form: 0:side 1:offset 2:step 3:mode 4:first -/
theorem sc_form : FnScope ["side", "offset", "step", "mode", "first"] ["side"] (defScope s_form) := ⟨rfl, rfl, rfl, by decide +kernel, rfl, by decide +kernel, by decide +kernel⟩
/- _first_mode: 0:step 1:mode -/
theorem sc_first_mode : FnScope ["step", "mode"] ["step", "mode"] (defScope s_first_mode) := ⟨rfl, rfl, rfl, by decide +kernel, rfl, by decide +kernel, by decide +kernel⟩
/- check_sides: 0:sides 1:side -/
theorem sc_check_sides : FnScope ["sides", "side"] ["sides"] (defScope s_check_sides) := ⟨rfl, rfl, rfl, by decide +kernel, rfl, by decide +kernel, by decide +kernel⟩
/- period_of: 0:side 1:_ 2:step 3:mode -/
theorem sc_period_of : FnScope ["side", "_", "step", "mode"] ["side"] (defScope s_period_of) := ⟨rfl, rfl, rfl, by decide +kernel, rfl, by decide +kernel, by decide +kernel⟩
/- moved: 0:side 1:by 2:offset 3:step 4:mode -/
theorem sc_moved : FnScope ["side", "by", "offset", "step", "mode"] ["side", "by"] (defScope s_moved) := ⟨rfl, rfl, rfl, by decide +kernel, rfl, by decide +kernel, by decide +kernel⟩
/- common_period: 0:sides 1:many 2:side -/
theorem sc_common_period : FnScope ["sides", "many", "side"] ["sides"] (defScope s_common_period) := ⟨rfl, rfl, rfl, by decide +kernel, rfl, by decide +kernel, by decide +kernel⟩
/- raisers: 0:sides 1:side -/
theorem sc_raisers : FnScope ["sides", "side"] ["sides"] (defScope s_raisers) := ⟨rfl, rfl, rfl, by decide +kernel, rfl, by decide +kernel, by decide +kernel⟩
/- _raises_some: 0:side 1:_ 2:mode -/
theorem sc_raises_some : FnScope ["side", "_", "mode"] ["side"] (defScope s_raises_some) := ⟨rfl, rfl, rfl, by decide +kernel, rfl, by decide +kernel, by decide +kernel⟩
/- highest: 0:sides 1:value 2:side -/
theorem sc_highest : FnScope ["sides", "value", "side"] ["sides", "value"] (defScope s_highest) := ⟨rfl, rfl, rfl, by decide +kernel, rfl, by decide +kernel, by decide +kernel⟩
/- mirrors: 0:sides 1:side -/
theorem sc_mirrors : FnScope ["sides", "side"] ["sides"] (defScope s_mirrors) := ⟨rfl, rfl, rfl, by decide +kernel, rfl, by decide +kernel, by decide +kernel⟩
/- first_hit: 0:start 1:step 2:most 3:modulus 4:least 5:greatest -/
theorem sc_first_hit : FnScope ["start", "step", "most", "modulus", "least", "greatest"] ["start", "step", "most", "modulus"] (defScope s_first_hit) := ⟨rfl, rfl, rfl, by decide +kernel, rfl, by decide +kernel, by decide +kernel⟩
/- _first_between: 0:step 1:least 2:greatest 3:modulus 4:many 5:rounds -/
theorem sc_first_between : FnScope ["step", "least", "greatest", "modulus", "many", "rounds"] ["step", "least", "greatest", "modulus"] (defScope s_first_between) := ⟨rfl, rfl, rfl, by decide +kernel, rfl, by decide +kernel, by decide +kernel⟩
/- unraised: 0:side 1:least 2:offset 3:step 4:_ 5:period 6:blocks 7:figure 8:low 9:high 10:start -/
/- first_in_block: 0:block 1:value 2:start 3:most 4:period 5:past -/
theorem sc_first_in_block : FnScope ["block", "value", "start", "most", "period", "past"] ["block", "value"] (defScope s_first_in_block) := ⟨rfl, rfl, rfl, by decide +kernel, rfl, by decide +kernel, by decide +kernel⟩
/- first_in_both: 0:one 1:other 2:value 3:start 4:most 5:period 6:begin 7:found 8:other_start 9:other_most 10:other_period 11:many -/
theorem sc_first_in_both : FnScope ["one", "other", "value", "start", "most", "period", "begin", "found", "other_start", "other_most", "other_period", "many"] ["one", "other", "value"] (defScope s_first_in_both) := ⟨rfl, rfl, rfl, by decide +kernel, rfl, by decide +kernel, by decide +kernel⟩
/- reach: 0:sides 1:value 2:raising 3:lowering 4:least -/
theorem sc_reach : FnScope ["sides", "value", "raising", "lowering", "least"] ["sides", "value"] (defScope s_reach) := ⟨rfl, rfl, rfl, by decide +kernel, rfl, by decide +kernel, by decide +kernel⟩
/- _check_few: 0:raising -/
theorem sc_check_few : FnScope ["raising"] ["raising"] (defScope s_check_few) := ⟨rfl, rfl, rfl, by decide +kernel, rfl, by decide +kernel, by decide +kernel⟩
/- _first_unraised: 0:raising 1:value 2:end 3:worth -/
theorem sc_first_unraised : FnScope ["raising", "value", "end", "worth"] ["raising", "value"] (defScope s_first_unraised) := ⟨rfl, rfl, rfl, by decide +kernel, rfl, by decide +kernel, by decide +kernel⟩
/- _first_unraised_by_two: 0:first 1:second 2:value 3:found 4:one 5:other 6:near -/
theorem sc_first_unraised_by_two : FnScope ["first", "second", "value", "found", "one", "other", "near"] ["first", "second", "value"] (defScope s_first_unraised_by_two) := ⟨rfl, rfl, rfl, by decide +kernel, rfl, by decide +kernel, by decide +kernel⟩
/- before: 0:sides 1:value -/
theorem sc_before : FnScope ["sides", "value"] ["sides", "value"] (defScope s_before) := ⟨rfl, rfl, rfl, by decide +kernel, rfl, by decide +kernel, by decide +kernel⟩
/- _runs: 0:sides 1:value 2:side 3:near 4:runs 5:many 6:run 7:least 8:greatest -/
theorem sc_runs : FnScope ["sides", "value", "side", "near", "runs", "many", "run", "least", "greatest"] ["sides", "value"] (defScope s_runs) := ⟨rfl, rfl, rfl, by decide +kernel, rfl, by decide +kernel, by decide +kernel⟩
/- _widened: 0:sides 1:run 2:least 3:greatest 4:low 5:high 6:side 7:first 8:last -/
theorem sc_widened : FnScope ["sides", "run", "least", "greatest", "low", "high", "side", "first", "last"] ["sides", "run"] (defScope s_widened) := ⟨rfl, rfl, rfl, by decide +kernel, rfl, by decide +kernel, by decide +kernel⟩
/- _ends: 0:sides 1:value 2:runs 3:many 4:window 5:least 6:greatest -/
theorem sc_ends : FnScope ["sides", "value", "runs", "many", "window", "least", "greatest"] ["sides", "value", "runs"] (defScope s_ends) := ⟨rfl, rfl, rfl, by decide +kernel, rfl, by decide +kernel, by decide +kernel⟩
/- _within: 0:run 1:window -/
theorem sc_within : FnScope ["run", "window"] ["run", "window"] (defScope s_within) := ⟨rfl, rfl, rfl, by decide +kernel, rfl, by decide +kernel, by decide +kernel⟩
/- _listed: 0:thing -/
theorem sc_listed : FnScope ["thing"] ["thing"] (defScope s_listed) := ⟨rfl, rfl, rfl, by decide +kernel, rfl, by decide +kernel, by decide +kernel⟩
/- _law_source: 0:_law_script 1:_law_cells 2:_law_k -/
theorem sc_L_source : FnScope ["_law_script", "_law_cells", "_law_k"] ["_law_script"] (defScope s_L_source) := ⟨rfl, rfl, rfl, by decide +kernel, rfl, by decide +kernel, by decide +kernel⟩
/- _law_draw: 0:_law_source_here 1:_law_limit 2:_law_cells 3:_law_turn 4:_law_place 5:_law_cell 6:_law_number -/
theorem sc_L_draw : FnScope ["_law_source_here", "_law_limit", "_law_cells", "_law_turn", "_law_place", "_law_cell", "_law_number"] ["_law_source_here", "_law_limit"] (defScope s_L_draw) := ⟨rfl, rfl, rfl, by decide +kernel, rfl, by decide +kernel, by decide +kernel⟩
/- _law_pick: 0:_law_source_here 1:_law_values -/
theorem sc_L_pick : FnScope ["_law_source_here", "_law_values"] ["_law_source_here", "_law_values"] (defScope s_L_pick) := ⟨rfl, rfl, rfl, by decide +kernel, rfl, by decide +kernel, by decide +kernel⟩
/- _law_great: 0:_law_source_here 1:_law_digits 2:_law_number 3:_law_k -/
theorem sc_L_great : FnScope ["_law_source_here", "_law_digits", "_law_number", "_law_k"] ["_law_source_here", "_law_digits"] (defScope s_L_great) := ⟨rfl, rfl, rfl, by decide +kernel, rfl, by decide +kernel, by decide +kernel⟩
/- _law_side: 0:_law_source_here 1:_law_digits 2:_law_step 3:_law_offset -/
theorem sc_L_side : FnScope ["_law_source_here", "_law_digits", "_law_step", "_law_offset"] ["_law_source_here", "_law_digits"] (defScope s_L_side) := ⟨rfl, rfl, rfl, by decide +kernel, rfl, by decide +kernel, by decide +kernel⟩
/- _law_figure: 0:_law_side_here 1:_law_value 2:_law_offset 3:_law_step 4:_law_mode 5:_law_low 6:_law_rest -/
theorem sc_L_figure : FnScope ["_law_side_here", "_law_value", "_law_offset", "_law_step", "_law_mode", "_law_low", "_law_rest"] ["_law_side_here", "_law_value"] (defScope s_L_figure) := ⟨rfl, rfl, rfl, by decide +kernel, rfl, by decide +kernel, by decide +kernel⟩
/- _law_handed: 0:_law_side_here 1:_law_value -/
theorem sc_L_handed : FnScope ["_law_side_here", "_law_value"] ["_law_side_here", "_law_value"] (defScope s_L_handed) := ⟨rfl, rfl, rfl, by decide +kernel, rfl, by decide +kernel, by decide +kernel⟩
/- _law_refused: 0:_law_kind 1:_law_one 2:_law_value 3:_law_caught 4:e -/
theorem sc_L_refused : FnScope ["_law_kind", "_law_one", "_law_value", "_law_caught", "e"] ["_law_kind", "_law_one", "_law_value"] (defScope s_L_refused) := ⟨rfl, rfl, rfl, by decide +kernel, rfl, by decide +kernel, by decide +kernel⟩
/- _law_told: 0:_law_one 1:_law_values 2:_law_found 3:_law_value -/
theorem sc_L_told : FnScope ["_law_one", "_law_values", "_law_found", "_law_value"] ["_law_one", "_law_values"] (defScope s_L_told) := ⟨rfl, rfl, rfl, by decide +kernel, rfl, by decide +kernel, by decide +kernel⟩
/- _law_due: 0:_law_data 1:_law_values 2:_law_found 3:_law_value 4:_law_written -/
theorem sc_L_due : FnScope ["_law_data", "_law_values", "_law_found", "_law_value", "_law_written"] ["_law_data", "_law_values"] (defScope s_L_due) := ⟨rfl, rfl, rfl, by decide +kernel, rfl, by decide +kernel, by decide +kernel⟩
/- _law_single_fits: 0:_law_data 1:_law_values 2:_law_one 3:_law_due_here 4:_law_value -/
theorem sc_L_single_fits : FnScope ["_law_data", "_law_values", "_law_one", "_law_due_here", "_law_value"] ["_law_data", "_law_values"] (defScope s_L_single_fits) := ⟨rfl, rfl, rfl, by decide +kernel, rfl, by decide +kernel, by decide +kernel⟩
/- _law_pair_fits: 0:_law_one 1:_law_other 2:_law_third 3:_law_left 4:_law_right 5:_law_last 6:_law_turn 7:_law_dues -/
theorem sc_L_pair_fits : FnScope ["_law_one", "_law_other", "_law_third", "_law_left", "_law_right", "_law_last", "_law_turn", "_law_dues"] ["_law_one", "_law_other", "_law_third"] (defScope s_L_pair_fits) := ⟨rfl, rfl, rfl, by decide +kernel, rfl, by decide +kernel, by decide +kernel⟩
/- law: 0:_law_script 1:_law_source_here 2:_law_turn 3:_law_one 4:_law_third 5:_law_modes 6:_law_offset 7:_law_other 8:_law_values -/
theorem sc_law : FnScope ["_law_script", "_law_source_here", "_law_turn", "_law_one", "_law_third", "_law_modes", "_law_offset", "_law_other", "_law_values"] ["_law_script"] (defScope s_law) := ⟨rfl, rfl, rfl, by decide +kernel, rfl, by decide +kernel, by decide +kernel⟩
/-- the i-th row of a class -/
def inCls (s : Stmt) (i : Nat) : Stmt := match s with
  | .ClassDef _ _ _ body .. => body.getD i (.Pass ⟨0, 0, 0, 0⟩)
  | _ => .Pass ⟨0, 0, 0, 0⟩
abbrev s_S_init : Stmt := inCls (top 60) 0
theorem sc_S_init : FnScope ["self", "data"] ["self", "data"] (defScope s_S_init) := ⟨rfl, rfl, rfl, by decide +kernel, rfl, by decide +kernel, by decide +kernel⟩
abbrev s_S_data : Stmt := inCls (top 60) 1
theorem sc_S_data : FnScope ["self"] ["self"] (defScope s_S_data) := ⟨rfl, rfl, rfl, by decide +kernel, rfl, by decide +kernel, by decide +kernel⟩
abbrev s_S_call : Stmt := inCls (top 60) 2
theorem sc_S_call : FnScope ["self", "value"] ["self", "value"] (defScope s_S_call) := ⟨rfl, rfl, rfl, by decide +kernel, rfl, by decide +kernel, by decide +kernel⟩
abbrev s_S_get : Stmt := inCls (top 60) 3
theorem sc_S_get : FnScope ["self", "figure", "offset", "step", "_"] ["self", "figure"] (defScope s_S_get) := ⟨rfl, rfl, rfl, by decide +kernel, rfl, by decide +kernel, by decide +kernel⟩
abbrev s_S_iter : Stmt := inCls (top 60) 4
theorem sc_S_iter : FnScope ["self"] ["self"] (defScope s_S_iter) := ⟨rfl, rfl, rfl, by decide +kernel, rfl, by decide +kernel, by decide +kernel⟩
abbrev s_S_has : Stmt := inCls (top 60) 5
theorem sc_S_has : FnScope ["self", "value"] ["self", "value"] (defScope s_S_has) := ⟨rfl, rfl, rfl, by decide +kernel, rfl, by decide +kernel, by decide +kernel⟩
abbrev s_S_eq : Stmt := inCls (top 60) 6
theorem sc_S_eq : FnScope ["self", "other"] ["self", "other"] (defScope s_S_eq) := ⟨rfl, rfl, rfl, by decide +kernel, rfl, by decide +kernel, by decide +kernel⟩
abbrev s_S_neg : Stmt := inCls (top 60) 7
theorem sc_S_neg : FnScope ["self"] ["self"] (defScope s_S_neg) := ⟨rfl, rfl, rfl, by decide +kernel, rfl, by decide +kernel, by decide +kernel⟩
abbrev s_S_or : Stmt := inCls (top 60) 8
theorem sc_S_or : FnScope ["self", "other"] ["self", "other"] (defScope s_S_or) := ⟨rfl, rfl, rfl, by decide +kernel, rfl, by decide +kernel, by decide +kernel⟩
abbrev s_Z_init : Stmt := inCls (top 61) 0
theorem sc_Z_init : FnScope ["self", "sides", "side"] ["self", "sides"] (defScope s_Z_init) := ⟨rfl, rfl, rfl, by decide +kernel, rfl, by decide +kernel, by decide +kernel⟩
abbrev s_Z_sides : Stmt := inCls (top 61) 1
theorem sc_Z_sides : FnScope ["self"] ["self"] (defScope s_Z_sides) := ⟨rfl, rfl, rfl, by decide +kernel, rfl, by decide +kernel, by decide +kernel⟩
abbrev s_Z_len : Stmt := inCls (top 61) 2
theorem sc_Z_len : FnScope ["self"] ["self"] (defScope s_Z_len) := ⟨rfl, rfl, rfl, by decide +kernel, rfl, by decide +kernel, by decide +kernel⟩
abbrev s_Z_call : Stmt := inCls (top 61) 3
theorem sc_Z_call : FnScope ["self", "value"] ["self", "value"] (defScope s_Z_call) := ⟨rfl, rfl, rfl, by decide +kernel, rfl, by decide +kernel, by decide +kernel⟩
abbrev s_Z_get : Stmt := inCls (top 61) 4
theorem sc_Z_get : FnScope ["self", "value"] ["self", "value"] (defScope s_Z_get) := ⟨rfl, rfl, rfl, by decide +kernel, rfl, by decide +kernel, by decide +kernel⟩
abbrev s_Z_iter : Stmt := inCls (top 61) 5
theorem sc_Z_iter : FnScope ["self"] ["self"] (defScope s_Z_iter) := ⟨rfl, rfl, rfl, by decide +kernel, rfl, by decide +kernel, by decide +kernel⟩
abbrev s_Z_lead : Stmt := inCls (top 61) 6
theorem sc_Z_lead : FnScope ["self", "start", "value"] ["self", "start", "value"] (defScope s_Z_lead) := ⟨rfl, rfl, rfl, by decide +kernel, rfl, by decide +kernel, by decide +kernel⟩
abbrev s_Z_has : Stmt := inCls (top 61) 7
theorem sc_Z_has : FnScope ["self", "side"] ["self", "side"] (defScope s_Z_has) := ⟨rfl, rfl, rfl, by decide +kernel, rfl, by decide +kernel, by decide +kernel⟩
abbrev s_Z_eq : Stmt := inCls (top 61) 8
theorem sc_Z_eq : FnScope ["self", "other"] ["self", "other"] (defScope s_Z_eq) := ⟨rfl, rfl, rfl, by decide +kernel, rfl, by decide +kernel, by decide +kernel⟩
abbrev s_Z_neg : Stmt := inCls (top 61) 9
theorem sc_Z_neg : FnScope ["self"] ["self"] (defScope s_Z_neg) := ⟨rfl, rfl, rfl, by decide +kernel, rfl, by decide +kernel, by decide +kernel⟩
abbrev s_Z_or : Stmt := inCls (top 61) 10
theorem sc_Z_or : FnScope ["self", "other"] ["self", "other"] (defScope s_Z_or) := ⟨rfl, rfl, rfl, by decide +kernel, rfl, by decide +kernel, by decide +kernel⟩
abbrev s_Z_sub : Stmt := inCls (top 61) 11
theorem sc_Z_sub : FnScope ["self", "other", "side", "forms"] ["self", "other"] (defScope s_Z_sub) := ⟨rfl, rfl, rfl, by decide +kernel, rfl, by decide +kernel, by decide +kernel⟩
end HT
namespace L2
open PySem PySem.Spec PyProof.Rows
/-- powers of great numbers -/
def CPowW (i j : Int) : Prop := 0 ≤ j ∧ (Builtin.Int.intBits i : Int) * j ≤ 2 ^ 27
theorem op_powW {X : Cx} : OpR X (binaryOp .Pow) (rI CPowW fun i j => .int (i ^ j.toNat)) := opI fun _ _ _ _ _ _ _ hc q => pow_int hc.1 hc.2 q
end L2
namespace HT
open PySem L2
/-- the law's source of draws: a list of its cells' list and the turn -/
structure Src (H : Hp) (a c : Addr) (t : Nat) : Prop where
  ne : a ≠ c
  ob : H a = some (.lst [.ref c, .int (t : Int)])
  cl : ∃ cs : List Int, H c = some (.lst (cs.map V.int)) ∧ 0 < cs.length ∧ cs.length ≤ 63
/-- nothing else is touched -/
def Oth (a c : Addr) (H H' : Hp) : Prop := ∀ b o, H b = some o → b ≠ a → b ≠ c → H' b = some o
theorem Oth.refl (a c : Addr) (H : Hp) : Oth a c H H := fun _ _ h _ _ => h
theorem Oth.trans {a c : Addr} {H H1 H2 : Hp} (x : Oth a c H H1) (y : Oth a c H1 H2) : Oth a c H H2 := fun b o h n m => y b o (x b o h n m) n m
theorem Oth.new {a c p : Addr} {H H1 : Hp} {o : HO} (x : Oth a c H H1) (n : H1 p = none) : Oth a c H (upd H1 p o) := fun b u h na nc => by
  rw [upd_ne (ne_of_none (x b u h na nc) n)]
  exact x b u h na nc
theorem Src.new {a c p : Addr} {H : Hp} {t : Nat} {o : HO} (S : Src H a c t) (n : H p = none) : Src (upd H p o) a c t := by
  obtain ⟨cs, h, l⟩ := S.cl
  exact ⟨S.ne, by rw [upd_ne (ne_of_none S.ob n)]; exact S.ob, cs, by rw [upd_ne (ne_of_none h n)]; exact h, l⟩
theorem Src.of_same {a c : Addr} {H H' : Hp} {t : Nat} (S : Src H a c t) (e : Same H H') : Src H' a c t := by
  obtain ⟨cs, h, l⟩ := S.cl
  exact ⟨S.ne, e _ _ S.ob, cs, e _ _ h, l⟩
theorem Src.na {a c p : Addr} {H : Hp} {t : Nat} (S : Src H a c t) (n : H p = none) : p ≠ a ∧ p ≠ c := by
  obtain ⟨cs, h, l⟩ := S.cl
  exact ⟨(ne_of_none S.ob n).symm, (ne_of_none h n).symm⟩
theorem Src.nt {a c p : Addr} {H : Hp} {t : Nat} {xs : List V} (S : Src H a c t) (n : H p = some (.tup xs)) : p ≠ a ∧ p ≠ c := by
  obtain ⟨cs, h, l⟩ := S.cl
  exact ⟨ne_of n S.ob (by intro z; cases z), ne_of n h (by intro z; cases z)⟩
def spSource (K : PySem.W.Frag) : Sp := fun vs H Q _ => ∃ (l : Addr) (ns : List Int), vs = [.ref l] ∧ SqL K H l (ns.map V.int) ∧ ns.length ≤ 63 ∧
  ∀ a c H', Same H H' → H a = none → H c = none → Src H' a c 0 → Q (.ref a) H'
def spDraw : Sp := fun vs H Q _ => ∃ (a c : Addr) (t : Nat) (lim : Int), vs = [.ref a, .int lim] ∧ Src H a c t ∧ t < 2 ^ 30 ∧ 0 < lim ∧ lim.natAbs.log2 < 9000 ∧
  ∀ k H', 0 ≤ k → k < lim → Src H' a c (t + 1) → Oth a c H H' → Q (.int k) H'
/-- what the walk asks of the names that the text does not bind -/
structure Blt (mg : Str → Option Value) : Prop where
  len : mg "len" = none
  abs : mg "abs" = none
  int : mg "int" = none
  range : mg "range" = none
section
variable {P : Program} {w : World} {K : PySem.W.Frag} {mg : Str → Option Value} {base : Heap}
theorem fdiv_ok (i : Int) {j : Int} (h : 0 < j) (h9 : j.natAbs.log2 < 9000) : CDivW i j := ⟨h, h9⟩
theorem atI_in {xs : List Int} {i : Int} (h0 : 0 ≤ i) (h : i < (xs.length : Int)) : atI (xs.map V.int) i = some (.int (xs.getD i.toNat 0)) := by
  have e : ixN (xs.map V.int).length i = some i.toNat := by
    unfold ixN
    rw [List.length_map, if_pos h0, if_pos h]
  unfold atI
  rw [e]
  show (xs.map V.int)[i.toNat]? = _
  have hl : i.toNat < xs.length := by omega
  rw [List.getElem?_map, List.getElem?_eq_getElem hl, List.getD_eq_getElem?_getD, List.getElem?_eq_getElem hl]
  rfl
theorem ixN_in {n : Nat} {i : Int} (h0 : 0 ≤ i) (h : i < (n : Int)) : ixN n i = some i.toNat := by
  unfold ixN
  rw [if_pos h0, if_pos h]
theorem b_mod (x : Int) : -(2 ^ 64) < x % 2147483629 ∧ x % 2147483629 < 2 ^ 64 := by omega
theorem b_mod1 (x : Int) : -(2 ^ 64) < x % 2147483647 ∧ x % 2147483647 < 2 ^ 64 := by omega
theorem b_t {t : Nat} (h : t < 2 ^ 30) : -(2 ^ 64) < (t : Int) ∧ (t : Int) < 2 ^ 64 := by omega
theorem b_tt {t : Nat} (h : t < 2 ^ 30) : -(2 ^ 64) < (t : Int) * t ∧ (t : Int) * t < 2 ^ 64 := by
  have h1 : t * t < 2 ^ 30 * 2 ^ 30 := Nat.mul_lt_mul'' h h
  have h2 : ((t * t : Nat) : Int) = (t : Int) * t := Int.natCast_mul t t
  omega
theorem set_ints (xs : List Int) (j : Nat) (y : Int) : (xs.map V.int).set j (.int y) = (xs.set j y).map V.int := by
  rw [List.map_set]
theorem ok_draw {f : Addr} {fd : FuncData} (F : Fun K "_law_draw" "_law_draw" s_L_draw f fd) (B : Blt mg) : FnOk P w K mg base CX0 1 f fd ["_law_source_here", "_law_limit"] spDraw := by
  refine F.ok sc_L_draw (fun vs H Q E h => ?_) (fun cdv A outer s H vs Q E hr h => ?_)
  · obtain ⟨a, c, t, lim, rfl, _⟩ := h
    rfl
  · obtain ⟨a, c, t, lim, rfl, S, ht, hl0, hl9, q⟩ := h
    obtain ⟨cs, hc, hn0, hn⟩ := S.cl
    have nd := sc_L_draw.nd
    refine ⟨_, pss_cons (ps_asg (pv 0) (pg_unl (n := 2) (by rfl) (pgs_cons (pg_name (i := 2) nd rfl (Or.inl rfl)) (pgs_cons (pg_name (i := 3) nd rfl (Or.inl rfl)) pgs_nil))))
      (pss_cons (ps_set (i := 4) nd rfl (Or.inl rfl) (pe_op op_mod (pe_callTy call_int1 (by rfl) B.int (by decide +kernel) (pa_cons (pv 3) pa_nil)) (pe_callB call_len_seq (by rfl) B.len PySem.boot_len (pa_cons (pv 2) pa_nil))))
      (pss_cons (ps_set (i := 5) nd rfl (Or.inl rfl) (pe_ix ix_list (pv 2) (pv 4) (fun _ _ => rfl)))
      (pss_cons (ps_asg (pe_op op_add (pv 3) pe_int) (pg_sub (pv 0) pe_int set_list))
      (pss_cons (ps_if (pt_cmpR op_ge (pv 5) (pe_op op_pow pe_int pe_int) (nomark _))
        (pss_cons (ps_asg (pe_op op_fdivW (pv 5) (pv 1)) (pg_sub (pv 2) (pv 4) set_list))
          (pss_one (ps_ret (pe_op op_mod (pe_callTy call_int1 (by rfl) B.int (by decide +kernel) (pa_cons (pv 5) pa_nil)) (pv 1))))) pss_nil)
      (pss_cons (ps_set (i := 6) nd rfl (Or.inl rfl) (pe_op op_mod (pe_callTy call_int1 (by rfl) B.int (by decide +kernel) (pa_cons
          (pe_op op_add (pe_op op_add (pe_op op_mul (pe_op op_mod (pe_callTy call_int1 (by rfl) B.int (by decide +kernel) (pa_cons (pv 5) pa_nil)) pe_int) pe_int) (pe_op op_mul (pe_op op_mul (pv 3) (pv 3)) pe_int)) pe_int) pa_nil)) pe_int))
      (pss_cons (ps_set (i := 6) nd rfl (Or.inl rfl) (pe_op op_mod (pe_callTy call_int1 (by rfl) B.int (by decide +kernel) (pa_cons (pe_op op_mul (pv 6) (pv 6)) pa_nil)) pe_int))
      (pss_cons (ps_set (i := 6) nd rfl (Or.inl rfl) (pe_op op_mod (pe_callTy call_int1 (by rfl) B.int (by decide +kernel) (pa_cons (pe_op op_mul (pv 6) (pv 6)) pa_nil)) pe_int))
      (pss_one (ps_ret (pe_op op_mod (pe_callTy call_int1 (by rfl) B.int (by decide +kernel) (pa_cons (pv 6) pa_nil)) (pv 1))))))))))), ?_⟩
    -- _law_cells, _law_turn = _law_source_here
    walk_at "rd"
    refine ⟨a, _, rfl, SqL.of S.ob, rfl, _, _, rfl, _, _, rfl, rfl, ?_⟩
    -- _law_place
    walk_at "rd"
    have hn0' : (0 : Int) < ((cs.map V.int).length : Nat) := by rw [List.length_map]; omega
    refine ⟨c, _, rfl, .inl (SqL.of hc), _, _, rfl, rfl, hn0', ?_⟩
    have hp0 : 0 ≤ (t : Int) % ((cs.map V.int).length : Nat) := Int.emod_nonneg _ (by omega)
    have hp1 : (t : Int) % ((cs.map V.int).length : Nat) < ((cs.map V.int).length : Nat) := Int.emod_lt_of_pos _ hn0'
    have hp1' : (t : Int) % ((cs.map V.int).length : Nat) < (cs.length : Int) := by rw [List.length_map] at hp1 ⊢; exact hp1
    -- _law_cell
    walk_at "rd"
    refine ⟨c, _, _, _, rfl, rfl, SqL.of hc, atI_in hp0 hp1', ?_⟩
    -- _law_source_here[1] = _law_turn + 1
    walk_at "rd"
    refine ⟨a, _, 1, 1, rfl, rfl, S.ob, rfl, ?_⟩
    have S1 : Src (upd H a (.lst ([V.ref c, V.int t].set 1 (.int ((t : Int) + 1))))) a c (t + 1) := ⟨S.ne, by rw [upd_same]; rfl, cs, by rw [upd_ne S.ne.symm]; exact hc, hn0, hn⟩
    have O1 : Oth a c H (upd H a (.lst ([V.ref c, V.int t].set 1 (.int ((t : Int) + 1))))) := fun b o h na _ => by rw [upd_ne na]; exact h
    have hc1 : upd H a (.lst ([V.ref c, V.int t].set 1 (.int ((t : Int) + 1)))) c = some (.lst (cs.map V.int)) := by rw [upd_ne S.ne.symm]; exact hc
    generalize upd H a (.lst ([V.ref c, V.int t].set 1 (.int ((t : Int) + 1)))) = H1 at S1 O1 hc1 ⊢
    -- if _law_cell >= 10 ** 18
    walk_at "rd"
    refine ⟨⟨by decide, by decide, by decide⟩, ?_⟩
    walk_at "rd"
    refine ite2 (fun _ => ?_) (fun _ => ?_)
    · walk_at "rd"
      refine ⟨fdiv_ok _ hl0 hl9, ?_⟩
      walk_at "rd"
      refine ⟨c, _, _, _, rfl, rfl, hc1, ixN_in hp0 hp1, ?_⟩
      walk_at "rd"
      refine ⟨hl0, ?_⟩
      rw [set_ints]
      refine q _ _ (Int.emod_nonneg _ (by omega)) (Int.emod_lt_of_pos _ hl0) ⟨S1.ne, by rw [upd_ne S1.ne]; exact S1.ob, _, upd_same, by rw [List.length_set]; exact hn0, by rw [List.length_set]; exact hn⟩ fun b o h na nc => ?_
      rw [upd_ne nc]
      exact O1 b o h na nc
    · walk_at "rd"
      refine ⟨(by show (0 : Int) < 2147483629; decide), ?_⟩
      walk_at "rd"
      refine ⟨.inl (b_mod _), ?_⟩
      walk_at "rd"
      refine ⟨.inl (b_t ht), ?_⟩
      walk_at "rd"
      refine ⟨.inl (b_tt ht), ?_⟩
      walk_at "rd"
      refine ⟨(by show (0 : Int) < 2147483647; decide), ?_⟩
      walk_at "rd"
      refine ⟨.inl (b_mod1 _), ?_⟩
      walk_at "rd"
      refine ⟨(by show (0 : Int) < 2147483629; decide), ?_⟩
      walk_at "rd"
      refine ⟨.inl (b_mod _), ?_⟩
      walk_at "rd"
      refine ⟨(by show (0 : Int) < 2147483587; decide), ?_⟩
      walk_at "rd"
      refine ⟨hl0, ?_⟩
      exact q _ _ (Int.emod_nonneg _ (by omega)) (Int.emod_lt_of_pos _ hl0) S1 O1
end
end HT
namespace HT
open PySem L2
/-- a def of the text that may be called by its name, and what it promises -/
structure Cal (P : Program) (w : World) (K : PySem.W.Frag) (mg : Str → Option Value) (base : Heap) (x : Str) (k : Nat) (ps : List Str) (sp : Sp) (f : Addr) (fd : FuncData) : Prop where
  ok : FnOk P w K mg base CX0 k f fd ps sp
  gl : mg x = some (.ref f)
  kp : PySem.W.keepIn K (.ref f) = true
  bd : Binds K fd ps []
theorem pcl {X : Cx} {x : Str} {k j : Nat} {ps : List Str} {sp : Sp} {f : Addr} {fd : FuncData} {e : Expr} {es : List Expr} {t : TA} {p pos : Pos} (C : Cal X.prog X.w X.K X.mg X.base x k ps sp f fd) (hr : Room j X.A) (hj : k ≤ j) (hg : Gl X x) (ha : PA X (e :: es) t)
    (hdb : (x == ("__debug__" : Str)) = false := by decide) (he : starEach (e :: es) X.env = (false, eval e X.env) :: starEach es X.env := by rfl) (hpl : (backTo pos (starEach es X.env)).any (·.1) = false := by rfl) : PE X (.Call (.Name x p) (e :: es) [] pos) (tCall sp [] E0 t) :=
  pe_call C.ok (hr.mono hj) hg C.gl C.kp C.bd .nil pass0 ha hdb he hpl
section
variable {P : Program} {w : World} {K : PySem.W.Frag} {mg : Str → Option Value} {base : Heap}
theorem cut63 {ns : List Int} (h : ns.length ≤ 63) : cutV (ns.map V.int) none (some 63) = ns.map V.int := by
  have e1 : HT.sIx (ns.map V.int).length 0 none = 0 := rfl
  have e2 : HT.sIx (ns.map V.int).length (ns.map V.int).length (some 63) = (ns.map V.int).length := by
    have := HT.sIx_nat (ns.map V.int).length (ns.map V.int).length 63
    rw [show ((63 : Nat) : Int) = 63 from rfl] at this
    rw [this, List.length_map]
    omega
  unfold cutV
  rw [e1, e2, List.drop_zero, Nat.sub_zero, List.take_length]
theorem dpInts (H : Hp) : ∀ ns : List Int, DpAll K H (ns.map V.int) (ns.map PyData.int)
  | [] => .nil
  | n :: r => .cons (.int n) (dpInts H r)
theorem pow_ok : CPowW ((10 : Int) ^ (60 : Int).toNat) 20 := ⟨by decide, by decide +kernel⟩
theorem pow_pos' : (0 : Int) < ((10 : Int) ^ (60 : Int).toNat) ^ (20 : Int).toNat := by decide +kernel
theorem ok_source {f : Addr} {fd : FuncData} (F : Fun K "_law_source" "_law_source" s_L_source f fd) (B : Blt mg) : FnOk P w K mg base CX0 1 f fd ["_law_script"] (spSource K) := by
  refine F.ok sc_L_source (fun vs H Q E h => ?_) (fun cdv A outer s H vs Q E hr h => ?_)
  · obtain ⟨l, ns, rfl, _⟩ := h
    rfl
  · obtain ⟨l, ns, rfl, hL, hn, q⟩ := h
    have nd := sc_L_source.nd
    refine ⟨_, pss_cons (ps_set (i := 1) nd rfl (Or.inl rfl) (pe_slice sl_list (pv 0) po_none (po_some pe_int)))
      (pss_cons (ps_for PassesOwn.never rfl (pi_range1 (by rfl) B.range (pa_cons (pe_callB call_len_seq (by rfl) B.len PySem.boot_len (pa_cons (pv 1) pa_nil)) pa_nil)) (pg_name (i := 2) nd rfl (Or.inl rfl))
        (pss_one (ps_if (pt_cmpR op_ge (pe_callB call_abs (by rfl) B.abs (by decide +kernel) (pa_cons (pe_ix ix_list (pv 1) (pv 2) (fun _ _ => rfl)) pa_nil)) (pe_op op_pow pe_int pe_int) (nomark _))
          (pss_one (ps_asg (pe_op op_mod (pe_callTy call_int1 (by rfl) B.int (by decide +kernel) (pa_cons (pe_ix ix_list (pv 1) (pv 2) (fun _ _ => rfl)) pa_nil)) (pe_op op_powW (pe_op op_pow pe_int pe_int) pe_int)) (pg_sub (pv 1) (pv 2) set_list))) pss_nil)))
      (pss_cons (ps_if (pt_cmpR (op_eqD hr.units) (pv 1) (pe_lst pa_nil) (nomark _)) (pss_one (ps_set (i := 1) nd rfl (Or.inl rfl) (pe_lst (pa_cons pe_int pa_nil)))) pss_nil)
      (pss_one (ps_ret (pe_lst (pa_cons (pv 1) (pa_cons pe_int pa_nil))))))), ?_⟩
    walk_at "rd"
    refine ⟨l, _, rfl, hL, fun p np => ?_⟩
    rw [cut63 hn]
    walk_at "rd"
    refine ⟨p, _, rfl, .inl (SqL.of upd_same), _, rfl, by omega, ?_, ?_⟩
    · show ((ns.map V.int).length : Int) < 2 ^ 62
      rw [List.length_map]
      omega
    have en : ((ns.map V.int).length : Int).toNat = ns.length := by rw [List.length_map]; omega
    rw [en]
    refine for_range (fun i σ H' => ∃ (cs : List Int) (kv : Option V), σ = [some (.ref l), some (.ref p), kv] ∧ H' p = some (.lst (cs.map V.int)) ∧ cs.length = ns.length ∧ Same H H') ⟨ns, none, rfl, upd_same, rfl, fun b o e => by rw [upd_ne (ne_of_none e np)]; exact e⟩ ?_ ?_
    · rintro i σ H' hi ⟨cs, kv, rfl, hp, hl, sm⟩
      have h0 : (0 : Int) ≤ 0 + (i : Int) := by omega
      have h1 : (0 : Int) + (i : Int) < (cs.length : Int) := by omega
      walk_at "rd"
      refine ⟨p, _, _, _, rfl, rfl, SqL.of hp, atI_in h0 h1, ?_⟩
      walk_at "rd"
      refine ⟨⟨by decide, by decide, by decide⟩, ?_⟩
      walk_at "rd"
      refine ite2 (fun _ => ?_) (fun _ => ?_)
      · walk_at "rd"
        refine ⟨p, _, _, _, rfl, rfl, SqL.of hp, atI_in h0 h1, ?_⟩
        walk_at "rd"
        refine ⟨⟨by decide, by decide, by decide⟩, ?_⟩
        walk_at "rd"
        refine ⟨pow_ok, ?_⟩
        walk_at "rd"
        refine ⟨pow_pos', ?_⟩
        walk_at "rd"
        refine ⟨p, _, _, _, rfl, rfl, hp, ixN_in h0 (by rw [List.length_map]; exact h1), ?_⟩
        rw [set_ints]
        exact ⟨_, _, rfl, upd_same, by rw [List.length_set]; exact hl, fun b o e => by rw [upd_ne (ne_of_none e np)]; exact sm b o e⟩
      · exact ⟨cs, _, rfl, hp, hl, sm⟩
    · rintro σ H' ⟨cs, kv, rfl, hp, hl, sm⟩
      walk_at "rd"
      refine ⟨by decide, fun e ne => ?_⟩
      have hpe : upd H' e (.lst []) p = some (.lst (cs.map V.int)) := by rw [upd_ne (ne_of_none hp ne)]; exact hp
      have sm1 : Same H (upd H' e (.lst [])) := fun b o z => by rw [upd_ne (ne_of_none (sm b o z) ne)]; exact sm b o z
      refine ⟨_, _, .lst (SqL.of hpe) (dpInts _ cs), .lst (SqL.of upd_same) .nil, PySem.W.ke_shaped_ints cs, by decide +kernel, ?_⟩
      walk_at "rd"
      have hb : PyData.eqv (.list (cs.map PyData.int)) (.list []) = decide (cs = []) := by
        have z := PySem.W.ked_eqvAll cs []
        rw [← z]
        rfl
      rw [hb]
      refine ite2 (fun _ => ?_) (fun hne => ?_)
      · walk_at "rd"
        refine ⟨by decide, fun c nc => ?_⟩
        walk_at "rd"
        refine ⟨(by show 2 ≤ sizeLine; decide), fun a na => ?_⟩
        have sm2 : Same H (upd (upd H' e (.lst [])) c (.lst [.int 0])) := fun b o z => by rw [upd_ne (ne_of_none (sm1 b o z) nc)]; exact sm1 b o z
        have nac : a ≠ c := (ne_of_none upd_same na).symm
        refine q a c _ (fun b o z => by rw [upd_ne (ne_of_none (sm2 b o z) na)]; exact sm2 b o z) (sm2.free na) (sm1.free nc) ⟨nac, upd_same, [0], by rw [upd_ne nac.symm]; exact upd_same, by decide, by decide⟩
      · walk_at "rd"
        refine ⟨(by show 2 ≤ sizeLine; decide), fun a na => ?_⟩
        have nap : a ≠ p := (ne_of_none hpe na).symm
        refine q a p _ (fun b o z => by rw [upd_ne (ne_of_none (sm1 b o z) na)]; exact sm1 b o z) (sm1.free na) np ⟨nap, upd_same, cs, by rw [upd_ne nap.symm]; exact hpe, ?_, by omega⟩
        have : cs ≠ [] := fun z => hne (decide_eq_true z)
        exact List.length_pos_iff.mpr this
end
end HT
namespace HT
open PySem L2
/-- a def of which errors may come, and its call -/
structure CalX (P : Program) (w : World) (K : PySem.W.Frag) (mg : Str → Option Value) (base : Heap) (x : Str) (k : Nat) (ps : List Str) (sp : Sp) (f : Addr) (fd : FuncData) : Prop where
  ok : FnOk P w K mg base (L2.CX P w) k f fd ps sp
  mgf : mg x = some (.ref f)
  kp : PySem.W.keepIn K (.ref f) = true
  b : Binds K fd ps []
theorem pcx {X : Cx} {x : Str} {k j : Nat} {ps : List Str} {sp : Sp} {f : Addr} {fd : FuncData} {e : Expr} {es : List Expr} {t : TA} {p pos : Pos} {W : WX} (C : CalX X.prog X.w X.K X.mg X.base x k ps sp f fd) (hr : Room j X.A) (hj : k ≤ j) (hg : Gl X x) (tk : L2.Takes X W) (ha : PA X (e :: es) t)
    (hdb : (x == ("__debug__" : Str)) = false := by decide) (he : starEach (e :: es) X.env = (false, eval e X.env) :: starEach es X.env := by rfl) (hpl : (backTo pos (starEach es X.env)).any (·.1) = false := by rfl) : PE X (.Call (.Name x p) (e :: es) [] pos) (tCallS sp (WE W) t) :=
  pe_callS C.ok (hr.mono hj) hg C.mgf C.kp C.b (fun σ => L2.passAt tk σ) ha hdb he hpl
end HT
namespace HT
open PySem L2
/-! ### pick, great, side -/
def spPick : Sp := fun vs H Q _ => ∃ (a c : Addr) (t : Nat) (l : Addr) (xs : List V), vs = [.ref a, .ref l] ∧ Src H a c t ∧ t < 2 ^ 30 ∧ H l = some (.lst xs) ∧ l ≠ a ∧ l ≠ c ∧ 0 < xs.length ∧ xs.length < 2 ^ 60 ∧
  ∀ x H', x ∈ xs → Src H' a c (t + 1) → Oth a c H H' → Q x H'
def spGreat : Sp := fun vs H Q _ => ∃ (a c : Addr) (t n : Nat), vs = [.ref a, .int (n : Int)] ∧ Src H a c t ∧ n ≤ 1000 ∧ t + n < 2 ^ 30 ∧
  ∀ k H', 0 ≤ k → k < 10 ^ n → Src H' a c (t + n) → Oth a c H H' → Q (.int k) H'
/-- the modes -/
def Mode (m : Str) : Prop := m = "down" ∨ m = "up" ∨ m = "half_down" ∨ m = "half_up" ∨ m = "half_even"
/-- a side's parts -/
structure SideP (o s : Int) (m : Str) : Prop where
  o0 : -10 ^ 40 ≤ o
  o1 : o ≤ 10 ^ 40
  s0 : 1 ≤ s
  s1 : s ≤ 10 ^ 30
  md : Mode m
def sideV (o s : Int) (m : Str) : HO := .tup [.int o, .int s, .str m]
def spSide : Sp := fun vs H Q _ => ∃ (a c : Addr) (t n : Nat), vs = [.ref a, .int (n : Int)] ∧ Src H a c t ∧ 1 ≤ n ∧ n ≤ 40 ∧ t + 200 < 2 ^ 30 ∧
  ∀ p o s m H' t', H p = none → H' p = some (sideV o s m) → SideP o s m → t' ≤ t + 200 → Src H' a c t' → Oth a c H H' → Q (.ref p) H'
theorem lg_nat {n : Nat} (h : n < 2 ^ 200) : ((n : Int)).natAbs.log2 < 9000 := by
  rw [Int.natAbs_natCast]
  by_cases e : n = 0
  · rw [e]; decide
  · have := (Nat.log2_lt e).mpr h
    omega
theorem lg_small {n : Int} (h0 : 0 ≤ n) (h : n < 2 ^ 64) : n.natAbs.log2 < 9000 := by
  obtain ⟨m, rfl⟩ := Int.eq_ofNat_of_zero_le h0
  exact lg_nat (Nat.lt_of_lt_of_le (by omega : m < 2 ^ 64) (Nat.pow_le_pow_right (by decide) (by decide)))
section
variable {P : Program} {w : World} {K : PySem.W.Frag} {mg : Str → Option Value} {base : Heap} {fD fP fG : Addr} {dD dP dG : FuncData}
theorem ok_pick {f : Addr} {fd : FuncData} (F : Fun K "_law_pick" "_law_pick" s_L_pick f fd) (B : Blt mg) (D : Cal P w K mg base "_law_draw" 1 ["_law_source_here", "_law_limit"] spDraw fD dD) :
    FnOk P w K mg base CX0 2 f fd ["_law_source_here", "_law_values"] spPick := by
  refine F.ok sc_L_pick (fun vs H Q E h => ?_) (fun cdv A outer s H vs Q E hr h => ?_)
  · obtain ⟨a, c, t, l, xs, rfl, _⟩ := h
    rfl
  · obtain ⟨a, c, t, l, xs, rfl, S, ht, hl, na, nc, h0, h1, q⟩ := h
    refine ⟨_, pss_one (ps_ret (pe_ix ix_list (pv 1) (pcl D hr (by decide) (by rfl) (pa_cons (pv 0) (pa_cons (pe_callB call_len_seq (by rfl) B.len PySem.boot_len (pa_cons (pv 1) pa_nil)) pa_nil))) (fun _ _ => rfl))), ?_⟩
    walk_at "rd"
    refine ⟨l, _, rfl, .inl (SqL.of hl), ?_⟩
    have p1 : (0 : Int) < (xs.length : Int) := by omega
    refine ⟨a, c, t, _, rfl, S, ht, p1, lg_nat (Nat.lt_of_lt_of_le h1 (Nat.pow_le_pow_right (by decide) (by decide))), fun k H' k0 k1 S' O => ?_⟩
    have hl' : k.toNat < xs.length := by omega
    have e : atI xs k = some xs[k.toNat] := by
      unfold atI
      rw [ixN_in k0 k1]
      exact List.getElem?_eq_getElem hl'
    refine ⟨l, _, _, _, rfl, rfl, SqL.of (O _ _ hl na nc), e, ?_⟩
    exact q _ _ (List.getElem_mem hl') S' O
theorem ok_great {f : Addr} {fd : FuncData} (F : Fun K "_law_great" "_law_great" s_L_great f fd) (B : Blt mg) (D : Cal P w K mg base "_law_draw" 1 ["_law_source_here", "_law_limit"] spDraw fD dD) :
    FnOk P w K mg base CX0 2 f fd ["_law_source_here", "_law_digits"] spGreat := by
  refine F.ok sc_L_great (fun vs H Q E h => ?_) (fun cdv A outer s H vs Q E hr h => ?_)
  · obtain ⟨a, c, t, n, rfl, _⟩ := h
    rfl
  · obtain ⟨a, c, t, n, rfl, S, hn, ht, q⟩ := h
    have nd := sc_L_great.nd
    refine ⟨_, pss_cons (ps_set (i := 2) nd rfl (Or.inl rfl) pe_int)
      (pss_cons (ps_for PassesOwn.never rfl (pi_range1 (by rfl) B.range (pa_cons (pv 1) pa_nil)) (pg_name (i := 3) nd rfl (Or.inl rfl))
        (pss_one (ps_set (i := 2) nd rfl (Or.inl rfl) (pe_op op_add (pe_op op_mul (pv 2) pe_int) (pcl D hr (by decide) (by rfl) (pa_cons (pv 0) (pa_cons pe_int pa_nil)))))))
      (pss_one (ps_ret (pv 2)))), ?_⟩
    walk_at "rd"
    refine ⟨by omega, by omega, ?_⟩
    rw [Int.toNat_natCast]
    refine for_range (fun i σ H' => ∃ (k : Int) (kv : Option V), σ = [some (.ref a), some (.int (n : Int)), some (.int k), kv] ∧ 0 ≤ k ∧ k < 10 ^ i ∧ Src H' a c (t + i) ∧ Oth a c H H') ⟨0, none, rfl, by decide, by decide, S, Oth.refl _ _ _⟩ ?_ ?_
    · rintro i σ H' hi ⟨k, kv, rfl, k0, k1, S', O⟩
      walk_at "rd"
      refine ⟨.inr ⟨by decide, by decide⟩, ?_⟩
      walk_at "rd"
      refine ⟨a, c, t + i, _, rfl, S', by omega, (by show (0 : Int) < 10; decide), (by show (10 : Int).natAbs.log2 < 9000; decide), fun y H2 y0 y1 S2 O2 => ?_⟩
      walk_at "rd"
      have y1' : y < 10 := y1
      refine ⟨_, _, rfl, (by show 0 ≤ k * 10 + y; omega), (by show k * 10 + y < 10 ^ (i + 1); rw [Int.pow_succ]; omega), S2, O.trans O2⟩
    · rintro σ H' ⟨k, kv, rfl, k0, k1, S', O⟩
      walk_at "rd"
      exact q _ _ k0 k1 S' O
theorem mode_of {x : V} (h : x ∈ [V.str "down", .str "up", .str "half_down", .str "half_up", .str "half_even"]) : ∃ m : Str, x = .str m ∧ Mode m := by
  simp only [List.mem_cons, List.not_mem_nil, or_false] at h
  rcases h with h | h | h | h | h
  · exact ⟨_, h, .inl rfl⟩
  · exact ⟨_, h, .inr (.inl rfl)⟩
  · exact ⟨_, h, .inr (.inr (.inl rfl))⟩
  · exact ⟨_, h, .inr (.inr (.inr (.inl rfl)))⟩
  · exact ⟨_, h, .inr (.inr (.inr (.inr rfl)))⟩
end
end HT
namespace HT
open PySem L2
/-! ### the mathematics of a side -/
def goesUp (m : Str) (s q r : Int) : Bool := if m = "down" then false else if m = "up" then decide (0 < r) else if 2 * r = s then (if m = "half_even" then decide (q % 2 = 1) else decide (m = "half_up")) else decide (s < 2 * r)
/-- the figure to which v comes -/
def figM (o s : Int) (m : Str) (v : Int) : Int := if goesUp m s ((v - o) / s) ((v - o) % s) = true then (v - o) / s + 1 else (v - o) / s
def dueM (o s : Int) (m : Str) (v : Int) : Int := o + s * figM o s m v
theorem d_u : ¬ (("up" : Str) = "down") := by decide +kernel
theorem hd_d : ¬ (("half_down" : Str) = "down") := by decide +kernel
theorem hd_u : ¬ (("half_down" : Str) = "up") := by decide +kernel
theorem hu_d : ¬ (("half_up" : Str) = "down") := by decide +kernel
theorem hu_u : ¬ (("half_up" : Str) = "up") := by decide +kernel
theorem he_d : ¬ (("half_even" : Str) = "down") := by decide +kernel
theorem he_u : ¬ (("half_even" : Str) = "up") := by decide +kernel
theorem hd_e : ¬ (("half_down" : Str) = "half_even") := by decide +kernel
theorem hu_e : ¬ (("half_up" : Str) = "half_even") := by decide +kernel
theorem hd_hu : ¬ (("half_down" : Str) = "half_up") := by decide +kernel
theorem he_hu : ¬ (("half_even" : Str) = "half_up") := by decide +kernel
theorem u_hd : ¬ (("up" : Str) = "half_down") := by decide +kernel
theorem hu_hd : ¬ (("half_up" : Str) = "half_down") := by decide +kernel
theorem he_hd : ¬ (("half_even" : Str) = "half_down") := by decide +kernel
theorem go_down (s q r : Int) : goesUp "down" s q r = false := by unfold goesUp; rw [if_pos rfl]
theorem go_up (s q r : Int) : goesUp "up" s q r = decide (0 < r) := by unfold goesUp; rw [if_neg d_u, if_pos rfl]
theorem go_hd (s q r : Int) : goesUp "half_down" s q r = decide (s < 2 * r) := by
  unfold goesUp
  rw [if_neg hd_d, if_neg hd_u, if_neg hd_e, decide_eq_false hd_hu]
  by_cases h : 2 * r = s
  · rw [if_pos h, decide_eq_false (by omega)]
  · rw [if_neg h]
theorem go_hu (s q r : Int) : goesUp "half_up" s q r = decide (s ≤ 2 * r) := by
  unfold goesUp
  rw [if_neg hu_d, if_neg hu_u, if_neg hu_e, decide_eq_true rfl]
  by_cases h : 2 * r = s
  · rw [if_pos h, decide_eq_true (by omega)]
  · rw [if_neg h]
    by_cases g : s < 2 * r
    · rw [decide_eq_true g, decide_eq_true (by omega)]
    · rw [decide_eq_false g, decide_eq_false (by omega)]
theorem go_he (s q r : Int) : goesUp "half_even" s q r = (decide (s < 2 * r) || (decide (2 * r = s) && decide (q % 2 = 1))) := by
  unfold goesUp
  rw [if_neg he_d, if_neg he_u, if_pos rfl]
  by_cases h : 2 * r = s
  · rw [if_pos h, decide_eq_false (show ¬ s < 2 * r by omega), decide_eq_true h]
    rfl
  · rw [if_neg h, decide_eq_false h]
    simp
/-- what is known of a figure -/
structure Fig (o s : Int) (m : Str) (v q r k : Int) : Prop where
  eq : v - o = s * q + r
  r0 : 0 ≤ r
  r1 : r < s
  wh : (goesUp m s q r = true ∧ k = q + 1) ∨ (goesUp m s q r = false ∧ k = q)
theorem fig_of {o s : Int} {m : Str} {v : Int} (hs : 1 ≤ s) : Fig o s m v ((v - o) / s) ((v - o) % s) (figM o s m v) := by
  refine ⟨?_, Int.emod_nonneg _ (by omega), Int.emod_lt_of_pos _ (by omega), ?_⟩
  · have := Int.mul_ediv_add_emod (v - o) s
    omega
  · unfold figM
    cases h : goesUp m s ((v - o) / s) ((v - o) % s)
    · exact .inr ⟨rfl, by simp⟩
    · exact .inl ⟨rfl, by simp⟩
theorem divmod_eq {s q r x : Int} (hs : 1 ≤ s) (h : x = s * q + r) (r0 : 0 ≤ r) (r1 : r < s) : x / s = q ∧ x % s = r := by
  subst h
  constructor
  · rw [Int.add_comm, Int.add_mul_ediv_left _ _ (by omega), Int.ediv_eq_zero_of_lt r0 r1]
    omega
  · rw [Int.add_comm, Int.add_mul_emod_self_left]
    exact Int.emod_eq_of_lt r0 r1
theorem fig_uniq {o s : Int} {m : Str} {v q r k : Int} (hs : 1 ≤ s) (F : Fig o s m v q r k) : figM o s m v = k := by
  obtain ⟨e1, e2⟩ := divmod_eq hs F.eq F.r0 F.r1
  unfold figM
  rw [e1, e2]
  rcases F.wh with ⟨h, e⟩ | ⟨h, e⟩
  · rw [h, if_pos rfl, e]
  · rw [h, if_neg (by decide), e]
/-- going up wants a rest, and not going up a small one -/
theorem go_pos {m : Str} {s q r : Int} (hm : Mode m) (hs : 1 ≤ s) (r0 : 0 ≤ r) (h : goesUp m s q r = true) : 0 < r := by
  rcases hm with e | e | e | e | e <;> subst e
  · rw [go_down] at h; cases h
  · rw [go_up] at h; exact of_decide_eq_true h
  · rw [go_hd] at h; have := of_decide_eq_true h; omega
  · rw [go_hu] at h; have := of_decide_eq_true h; omega
  · rw [go_he, Bool.or_eq_true, Bool.and_eq_true] at h
    rcases h with h | ⟨h, _⟩ <;> have := of_decide_eq_true h <;> omega
theorem due_near {o s : Int} {m : Str} {v : Int} (hm : Mode m) (hs : 1 ≤ s) : dueM o s m v - v < s ∧ v - dueM o s m v < s := by
  have F := fig_of (o := o) (m := m) (v := v) hs
  unfold dueM
  generalize (v - o) / s = q at F
  generalize (v - o) % s = r at F
  obtain ⟨eq, r0, r1, wh⟩ := F
  rcases wh with ⟨h, e⟩ | ⟨h, e⟩
  · have := go_pos hm hs r0 h
    rw [e, Int.mul_add, Int.mul_one]
    generalize s * q = z at eq ⊢
    omega
  · rw [e]
    generalize s * q = z at eq ⊢
    omega
def half (m : Str) : Prop := m = "half_down" ∨ m = "half_up" ∨ m = "half_even"
theorem due_half {o s : Int} {m : Str} {v : Int} (hm : half m) (hs : 1 ≤ s) : 2 * (dueM o s m v - v) ≤ s ∧ 2 * (v - dueM o s m v) ≤ s := by
  have F := fig_of (o := o) (m := m) (v := v) hs
  unfold dueM
  generalize (v - o) / s = q at F
  generalize (v - o) % s = r at F
  obtain ⟨eq, r0, r1, wh⟩ := F
  have hb : (goesUp m s q r = true → s ≤ 2 * r) ∧ (goesUp m s q r = false → 2 * r ≤ s) := by
    rcases hm with e | e | e <;> subst e
    · rw [go_hd]; exact ⟨fun h => by have := of_decide_eq_true h; omega, fun h => by have := of_decide_eq_false h; omega⟩
    · rw [go_hu]; exact ⟨fun h => by have := of_decide_eq_true h; omega, fun h => by have := of_decide_eq_false h; omega⟩
    · rw [go_he]
      refine ⟨fun h => ?_, fun h => ?_⟩
      · rw [Bool.or_eq_true, Bool.and_eq_true] at h
        rcases h with h | ⟨h, _⟩ <;> have := of_decide_eq_true h <;> omega
      · rw [Bool.or_eq_false_iff] at h
        have := of_decide_eq_false h.1
        omega
  rcases wh with ⟨h, e⟩ | ⟨h, e⟩
  · have := hb.1 h
    rw [e, Int.mul_add, Int.mul_one]
    generalize s * q = z at eq ⊢
    omega
  · have := hb.2 h
    rw [e]
    generalize s * q = z at eq ⊢
    omega
theorem go_zero {m : Str} {s q : Int} (hm : Mode m) (hs : 1 ≤ s) : goesUp m s q 0 = false := by
  cases h : goesUp m s q 0 with
  | false => rfl
  | true => exact absurd (go_pos hm hs (Int.le_refl _) h) (by omega)
/-- what is written stands and is written as it is -/
theorem fig_at {o s k : Int} {m : Str} (hm : Mode m) (hs : 1 ≤ s) : figM o s m (o + s * k) = k :=
  fig_uniq (q := k) (r := 0) hs ⟨by omega, Int.le_refl _, by omega, .inr ⟨go_zero hm hs, rfl⟩⟩
theorem stands_at {o s k : Int} : (o + s * k - o) % s = 0 := by
  rw [show o + s * k - o = s * k by omega]
  exact Int.mul_emod_right s k
theorem due_eq {o s : Int} {m : Str} {v : Int} (hm : Mode m) (hs : 1 ≤ s) : (v - o) % s = 0 ↔ dueM o s m v = v := by
  have F := fig_of (o := o) (m := m) (v := v) hs
  unfold dueM
  generalize (v - o) / s = q at F
  generalize (v - o) % s = r at F ⊢
  obtain ⟨eq, r0, r1, wh⟩ := F
  rcases wh with ⟨h, e⟩ | ⟨h, e⟩
  · have := go_pos hm hs r0 h
    rw [e, Int.mul_add, Int.mul_one]
    generalize s * q = z at eq ⊢
    omega
  · rw [e]
    generalize s * q = z at eq ⊢
    omega
theorem go_mono {m : Str} {s q r : Int} (hm : Mode m) (h : goesUp m s q r = true) : goesUp m s q (r + 1) = true := by
  rcases hm with e | e | e | e | e <;> subst e
  · rw [go_down] at h; cases h
  · rw [go_up] at h ⊢; have := of_decide_eq_true h; exact decide_eq_true (by omega)
  · rw [go_hd] at h ⊢; have := of_decide_eq_true h; exact decide_eq_true (by omega)
  · rw [go_hu] at h ⊢; have := of_decide_eq_true h; exact decide_eq_true (by omega)
  · rw [go_he] at h ⊢
    have : s ≤ 2 * r := by
      rw [Bool.or_eq_true, Bool.and_eq_true] at h
      rcases h with h | ⟨h, _⟩ <;> have := of_decide_eq_true h <;> omega
    rw [decide_eq_true (show s < 2 * (r + 1) by omega)]
    rfl
theorem fig_mono {o s : Int} {m : Str} {v : Int} (hm : Mode m) (hs : 1 ≤ s) : figM o s m v ≤ figM o s m (v + 1) := by
  have F := fig_of (o := o) (m := m) (v := v) hs
  generalize (v - o) / s = q at F
  generalize (v - o) % s = r at F
  obtain ⟨eq, r0, r1, wh⟩ := F
  by_cases hr : r + 1 < s
  · cases g : goesUp m s q (r + 1) with
    | true =>
      rw [fig_uniq (v := v + 1) (q := q) (r := r + 1) (k := q + 1) hs ⟨by omega, by omega, hr, .inl ⟨g, rfl⟩⟩]
      rcases wh with ⟨_, e⟩ | ⟨_, e⟩ <;> omega
    | false =>
      rw [fig_uniq (v := v + 1) (q := q) (r := r + 1) (k := q) hs ⟨by omega, by omega, hr, .inr ⟨g, rfl⟩⟩]
      rcases wh with ⟨h, e⟩ | ⟨_, e⟩
      · rw [go_mono hm h] at g
        cases g
      · omega
  · rw [fig_uniq (v := v + 1) (q := q + 1) (r := 0) (k := q + 1) hs ⟨by rw [Int.mul_add, Int.mul_one]; omega, by omega, by omega, .inr ⟨go_zero hm hs, rfl⟩⟩]
    rcases wh with ⟨_, e⟩ | ⟨_, e⟩ <;> omega
theorem due_mono {o s : Int} {m : Str} {v : Int} (hm : Mode m) (hs : 1 ≤ s) : dueM o s m v ≤ dueM o s m (v + 1) := by
  unfold dueM
  have := Int.mul_le_mul_of_nonneg_left (fig_mono (o := o) (v := v) hm hs) (show 0 ≤ s by omega)
  omega
theorem go_two {m : Str} {s q r : Int} (hm : Mode m) : goesUp m s (q + 2) r = goesUp m s q r := by
  rcases hm with e | e | e | e | e <;> subst e
  · rw [go_down, go_down]
  · rw [go_up, go_up]
  · rw [go_hd, go_hd]
  · rw [go_hu, go_hu]
  · rw [go_he, go_he, show (q + 2) % 2 = q % 2 by omega]
theorem due_two {o s : Int} {m : Str} {v : Int} (hm : Mode m) (hs : 1 ≤ s) : dueM o s m (v + s * 2) = dueM o s m v + s * 2 := by
  have F := fig_of (o := o) (m := m) (v := v) hs
  unfold dueM
  generalize (v - o) / s = q at F
  generalize (v - o) % s = r at F
  obtain ⟨eq, r0, r1, wh⟩ := F
  rw [fig_uniq (v := v + s * 2) (q := q + 2) (r := r) (k := figM o s m v + 2) hs ⟨by rw [Int.mul_add]; omega, r0, r1, ?_⟩, Int.mul_add]
  · omega
  · rw [go_two hm]
    rcases wh with ⟨h, e⟩ | ⟨h, e⟩
    · exact .inl ⟨h, by omega⟩
    · exact .inr ⟨h, by omega⟩
/-! ### bounds -/
def Bd (x : Int) : Prop := -2 ^ 1000 < x ∧ x < 2 ^ 1000
theorem div_bd {x s b : Int} (hs : 1 ≤ s) (h0 : -b < x) (h1 : x < b) : -b < x / s ∧ x / s < b := by
  by_cases hx : 0 ≤ x
  · have a := Int.ediv_nonneg hx (show 0 ≤ s by omega)
    have c := Int.ediv_le_self s hx
    omega
  · have a : x ≤ x / s := by
      rw [Int.le_ediv_iff_mul_le (by omega)]
      have := Int.mul_le_mul_of_nonpos_left (show x ≤ 0 by omega) hs
      omega
    have c : x / s < 0 := Int.ediv_neg_of_neg_of_pos (by omega) (by omega)
    omega
end HT
namespace HT
open PySem L2
/-! ### spans -/
def below (m : Str) (s k : Int) : Int := if m = "down" then 0 else if m = "up" then s - 1 else if m = "half_up" ∨ (m = "half_even" ∧ k % 2 = 0) then s / 2 else (s - 1) / 2
def mir (m : Str) : Str := if m = "down" then "up" else if m = "up" then "down" else if m = "half_down" then "half_up" else if m = "half_up" then "half_down" else "half_even"
def lowM (o s : Int) (m : Str) (k : Int) : Int := o + s * k - below m s k
def highM (o s : Int) (m : Str) (k : Int) : Int := o + s * k + below (mir m) s k
theorem mir_d : mir "down" = "up" := by unfold mir; rw [if_pos rfl]
theorem mir_u : mir "up" = "down" := by unfold mir; rw [if_neg d_u, if_pos rfl]
theorem mir_hd : mir "half_down" = "half_up" := by unfold mir; rw [if_neg hd_d, if_neg hd_u, if_pos rfl]
theorem mir_hu : mir "half_up" = "half_down" := by unfold mir; rw [if_neg hu_d, if_neg hu_u, if_neg hu_hd, if_pos rfl]
theorem mir_he : mir "half_even" = "half_even" := by unfold mir; rw [if_neg he_d, if_neg he_u, if_neg he_hd, if_neg he_hu]
theorem be_d (s k : Int) : below "down" s k = 0 := by unfold below; rw [if_pos rfl]
theorem be_u (s k : Int) : below "up" s k = s - 1 := by unfold below; rw [if_neg d_u, if_pos rfl]
theorem be_hd (s k : Int) : below "half_down" s k = (s - 1) / 2 := by
  unfold below
  rw [if_neg hd_d, if_neg hd_u, if_neg]
  rintro (z | ⟨z, _⟩)
  · exact hd_hu z
  · exact hd_e z
theorem be_hu (s k : Int) : below "half_up" s k = s / 2 := by unfold below; rw [if_neg hu_d, if_neg hu_u, if_pos (.inl rfl)]
theorem be_he (s k : Int) : below "half_even" s k = if k % 2 = 0 then s / 2 else (s - 1) / 2 := by
  unfold below
  rw [if_neg he_d, if_neg he_u]
  by_cases h : k % 2 = 0
  · rw [if_pos (.inr ⟨rfl, h⟩), if_pos h]
  · rw [if_neg h, if_neg]
    rintro (z | ⟨_, z⟩)
    · exact he_hu z
    · exact h z
theorem mir_mode {m : Str} (h : Mode m) : Mode (mir m) := by
  rcases h with e | e | e | e | e <;> subst e
  · rw [mir_d]; exact .inr (.inl rfl)
  · rw [mir_u]; exact .inl rfl
  · rw [mir_hd]; exact .inr (.inr (.inr (.inl rfl)))
  · rw [mir_hu]; exact .inr (.inr (.inl rfl))
  · rw [mir_he]; exact .inr (.inr (.inr (.inr rfl)))
theorem below_bd {m : Str} {s k : Int} (h : Mode m) (hs : 1 ≤ s) : 0 ≤ below m s k ∧ below m s k < s := by
  rcases h with e | e | e | e | e <;> subst e
  · rw [be_d]; omega
  · rw [be_u]; omega
  · rw [be_hd]; omega
  · rw [be_hu]; omega
  · rw [be_he]; split <;> omega
theorem up_iff {m : Str} {s q r : Int} (h : Mode m) (r0 : 0 ≤ r) (r1 : r < s) : goesUp m s q r = true ↔ below (mir m) s q < r := by
  rcases h with e | e | e | e | e <;> subst e
  · rw [go_down, mir_d, be_u]
    exact ⟨fun z => (Bool.false_ne_true z).elim, fun z => absurd z (by omega)⟩
  · rw [go_up, mir_u, be_d, decide_eq_true_eq]
  · rw [go_hd, mir_hd, be_hu, decide_eq_true_eq]; omega
  · rw [go_hu, mir_hu, be_hd, decide_eq_true_eq]; omega
  · rw [go_he, mir_he, be_he, Bool.or_eq_true, Bool.and_eq_true, decide_eq_true_eq, decide_eq_true_eq, decide_eq_true_eq]
    split <;> omega
theorem touch {m : Str} {s : Int} (q : Int) (h : Mode m) (hs : 1 ≤ s) : below m s (q + 1) + below (mir m) s q = s - 1 := by
  rcases h with e | e | e | e | e <;> subst e
  · rw [be_d, mir_d, be_u]; omega
  · rw [be_u, mir_u, be_d]; omega
  · rw [be_hd, mir_hd, be_hu]; omega
  · rw [be_hu, mir_hu, be_hd]; omega
  · rw [be_he, mir_he, be_he]; split <;> split <;> omega
theorem mul_lt_step {s q k : Int} (hs : 1 ≤ s) (h : q < k) : s * q + s ≤ s * k := by
  have := Int.mul_le_mul_of_nonneg_left (show q + 1 ≤ k by omega) (show 0 ≤ s by omega)
  rw [Int.mul_add, Int.mul_one] at this
  exact this
/-- a value comes to k just between the ends -/
theorem fig_iff {o s : Int} {m : Str} {v k : Int} (h : Mode m) (hs : 1 ≤ s) : figM o s m v = k ↔ lowM o s m k ≤ v ∧ v ≤ highM o s m k := by
  have F := fig_of (o := o) (m := m) (v := v) hs
  generalize (v - o) / s = q at F
  generalize (v - o) % s = r at F
  generalize figM o s m v = f at F ⊢
  obtain ⟨eq, r0, r1, wh⟩ := F
  have ui := up_iff (q := q) h r0 r1
  have t1 := touch (k - 1) h hs
  rw [show k - 1 + 1 = k by omega] at t1
  have bk := below_bd (k := k) (mir_mode h) hs
  have bk1 := below_bd (k := k - 1) (mir_mode h) hs
  have bq := below_bd (k := q) (mir_mode h) hs
  unfold lowM highM
  have hf : (f = q + 1 ∧ below (mir m) s q < r) ∨ (f = q ∧ r ≤ below (mir m) s q) := by
    rcases wh with ⟨g, e⟩ | ⟨g, e⟩
    · exact .inl ⟨e, ui.mp g⟩
    · refine .inr ⟨e, ?_⟩
      have : ¬ below (mir m) s q < r := fun z => by rw [ui.mpr z] at g; cases g
      omega
  rcases Int.lt_trichotomy q k with hq | hq | hq
  · rcases Int.lt_trichotomy (q + 1) k with hq1 | hq1 | hq1
    · have := mul_lt_step hs (show q + 1 < k from hq1)
      rw [Int.mul_add, Int.mul_one] at this
      generalize s * q = a at *
      generalize s * k = b at *
      constructor
      · intro z; omega
      · intro z; omega
    · have e : q = k - 1 := by omega
      subst e
      have : s * (k - 1) = s * k - s := by rw [Int.mul_sub, Int.mul_one]
      generalize s * (k - 1) = a at *
      generalize s * k = b at *
      constructor
      · intro z; omega
      · intro z; omega
    · omega
  · subst hq
    generalize s * q = a at *
    constructor
    · intro z; omega
    · intro z; omega
  · have := mul_lt_step hs hq
    generalize s * q = a at *
    generalize s * k = b at *
    constructor
    · intro z; omega
    · intro z; omega
theorem low_high {o s : Int} {m : Str} {k : Int} (h : Mode m) (hs : 1 ≤ s) : lowM o s m k ≤ o + s * k ∧ o + s * k ≤ highM o s m k := by
  have a := below_bd (k := k) h hs
  have b := below_bd (k := k) (mir_mode h) hs
  unfold lowM highM
  omega
theorem low_next {o s : Int} {m : Str} (k : Int) (h : Mode m) (hs : 1 ≤ s) : lowM o s m (k + 1) = highM o s m k + 1 := by
  have := touch k h hs
  unfold lowM highM
  rw [Int.mul_add, Int.mul_one]
  omega
theorem high_prev {o s : Int} {m : Str} (k : Int) (h : Mode m) (hs : 1 ≤ s) : highM o s m (k - 1) = lowM o s m k - 1 := by
  have := low_next (o := o) (k - 1) h hs
  rw [show k - 1 + 1 = k by omega] at this
  omega
theorem fig_low {o s : Int} {m : Str} (k : Int) (h : Mode m) (hs : 1 ≤ s) : figM o s m (lowM o s m k) = k := by
  have a := low_high (o := o) (k := k) h hs
  exact (fig_iff h hs).mpr ⟨by omega, by omega⟩
theorem fig_high {o s : Int} {m : Str} (k : Int) (h : Mode m) (hs : 1 ≤ s) : figM o s m (highM o s m k) = k := by
  have a := low_high (o := o) (k := k) h hs
  exact (fig_iff h hs).mpr ⟨by omega, by omega⟩
theorem fig_low1 {o s : Int} {m : Str} (k : Int) (h : Mode m) (hs : 1 ≤ s) : figM o s m (lowM o s m k - 1) = k - 1 := by
  rw [← high_prev k h hs]
  exact fig_high _ h hs
theorem fig_high1 {o s : Int} {m : Str} (k : Int) (h : Mode m) (hs : 1 ≤ s) : figM o s m (highM o s m k + 1) = k + 1 := by
  rw [← low_next k h hs]
  exact fig_low _ h hs
/-- the figure of the least standing value that is not less -/
def ceilM (o s v : Int) : Int := -((o - v) / s)
theorem ceil_eq {o s v : Int} (hs : 1 ≤ s) : v ≤ o + s * ceilM o s v ∧ o + s * (ceilM o s v - 1) < v := by
  have a := Int.mul_ediv_add_emod (o - v) s
  have b := Int.emod_nonneg (o - v) (show s ≠ 0 by omega)
  have c := Int.emod_lt_of_pos (o - v) (show 0 < s by omega)
  unfold ceilM
  rw [Int.mul_sub, Int.mul_one, Int.mul_neg]
  omega
def backM (o s : Int) (m : Str) (v : Int) : Int := lowM o s m (ceilM o s v)
theorem back_ge {o s : Int} {m : Str} {v : Int} (h : Mode m) (hs : 1 ≤ s) : v ≤ dueM o s m (backM o s m v) := by
  unfold dueM backM
  rw [fig_low _ h hs]
  exact (ceil_eq hs).1
theorem back_lt {o s : Int} {m : Str} {v : Int} (h : Mode m) (hs : 1 ≤ s) : dueM o s m (backM o s m v - 1) < v := by
  unfold dueM backM
  rw [fig_low1 _ h hs]
  exact (ceil_eq hs).2
theorem mul_b {s k : Int} (s0 : 1 ≤ s) (s1 : s ≤ 10 ^ 30) (h : -2 ^ 720 < k ∧ k < 2 ^ 720) : -2 ^ 820 < s * k ∧ s * k < 2 ^ 820 := by
  have h1 : (s * k).natAbs < 2 ^ (100 + 720) := wide_lt (a := 100) (b := 720) (by omega) (by omega)
  omega
end HT
namespace HT
open PySem L2
theorem lg_big {n : Int} (h0 : 0 ≤ n) (h : n < 2 ^ 200) : n.natAbs.log2 < 9000 := by
  obtain ⟨m, rfl⟩ := Int.eq_ofNat_of_zero_le h0
  exact lg_nat (by omega)
def modesV : List V := [.str "down", .str "up", .str "half_down", .str "half_up", .str "half_even"]
/-- the further names that the text of sides does not bind, and its table of modes -/
structure SideT (K : PySem.W.Frag) (mg : Str → Option Value) (aM : Addr) : Prop where
  isi : mg "isinstance" = none
  int : mg "int" = none
  bool : mg "bool" = none
  tuple : mg "tuple" = none
  len : mg "len" = none
  dm : mg "divmod" = none
  gM : mg "MODES" = some (.ref aM)
  tM : ∀ H, SqT K H aM modesV
def spIsInt : Sp := fun vs H Q _ => ∃ i : Int, vs = [.int i] ∧ Q (.bl true) H
def spBetween : Sp := fun vs H Q _ => ∃ i a b : Int, vs = [.int i, .int a, .int b] ∧ Q (.bl (decide (a ≤ i) && decide (i ≤ b))) H
def spCheckValue : Sp := fun vs H Q _ => ∃ i : Int, vs = [.int i] ∧ Q .non H
def spCheckSide : Sp := fun vs H Q _ => ∃ (p : Addr) (o s : Int) (m : Str), vs = [.ref p] ∧ H p = some (sideV o s m) ∧ SideP o s m ∧ Q .non H
def spGo : Sp := fun vs H Q _ => ∃ (m : Str) (s q r : Int), vs = [.str m, .int s, .int q, .int r] ∧ Q (.bl (goesUp m s q r)) H
def spSV (f : Int → Int → Str → Int → V) : Sp := fun vs H Q _ => ∃ (p : Addr) (o s : Int) (m : Str) (v : Int), vs = [.ref p, .int v] ∧ H p = some (sideV o s m) ∧ SideP o s m ∧ Bd v ∧ ∀ H', Same H H' → Q (f o s m v) H'
def spFig : Sp := spSV fun o s m v => .int (figM o s m v)
def spDue : Sp := spSV fun o s m v => .int (dueM o s m v)
def spStands : Sp := spSV fun o s m v => .bl (decide ((v - o) % s = 0))
theorem dec_int (a b : Int) : decide (V.int a = V.int b) = decide (a = b) := by
  by_cases h : a = b
  · rw [decide_eq_true h, h, decide_eq_true rfl]
  · rw [decide_eq_false h, decide_eq_false (fun z => h (V.int.inj z))]
theorem dec_str (a b : Str) : decide (V.str a = V.str b) = decide (a = b) := by
  by_cases h : a = b
  · rw [decide_eq_true h, h, decide_eq_true rfl]
  · rw [decide_eq_false h, decide_eq_false (fun z => h (V.str.inj z))]
theorem dec_bl (a b : Bool) : decide (V.bl a = V.bl b) = decide (a = b) := by
  by_cases h : a = b
  · rw [decide_eq_true h, h, decide_eq_true rfl]
  · rw [decide_eq_false h, decide_eq_false (fun z => h (V.bl.inj z))]
theorem str_t {a b : Str} (h : decide (V.str a = V.str b) = true) : a = b := V.str.inj (of_decide_eq_true h)
theorem str_f {a b : Str} (h : ¬ decide (V.str a = V.str b) = true) : ¬ a = b := fun z => h (decide_eq_true (congrArg V.str z))
theorem int_t {a b : Int} (h : decide (V.int a = V.int b) = true) : a = b := V.int.inj (of_decide_eq_true h)
theorem int_f {a b : Int} (h : ¬ decide (V.int a = V.int b) = true) : ¬ a = b := fun z => h (decide_eq_true (congrArg V.int z))
theorem not_t {b : Bool} (h : (!b) = true) : ¬ b = true := by cases b <;> simp_all
theorem not_f {b : Bool} (h : ¬ (!b) = true) : b = true := by cases b <;> simp_all
theorem mode_in {m : Str} (h : Mode m) : inV (.str m) modesV = true := by
  rcases h with e | e | e | e | e <;> subst e <;> decide +kernel
theorem divp {o v s : Int} (hs : 1 ≤ s) (ho : -10 ^ 40 ≤ o ∧ o ≤ 10 ^ 40) (hv : Bd v) : CDivP (v - o) s := by
  refine divp_ok (by omega) ?_
  have h : (v - o).natAbs < 2 ^ 1010 := by
    have h1 := hv.1
    have h2 := hv.2
    omega
  have h2 : Builtin.Int.intBits (v - o) ≤ 1011 := by
    unfold Builtin.Int.intBits
    split
    · omega
    · have := PySem.Flt.log2_lt_of (by decide) h
      omega
  omega
theorem mulW {i j : Int} (hi : -2 ^ 1010 < i ∧ i < 2 ^ 1010) (hj : -2 ^ 1010 < j ∧ j < 2 ^ 1010) : CMulW i j := wide_mul (a := 1010) (b := 1010) (by omega) (by omega) (by decide) (by decide) (by decide)
theorem fig_bd {o s : Int} {m : Str} {v : Int} (S : SideP o s m) (hv : Bd v) : -2 ^ 1001 < figM o s m v ∧ figM o s m v < 2 ^ 1001 := by
  obtain ⟨h1, h2⟩ := hv
  obtain ⟨o0, o1, s0, s1, _⟩ := S
  have := div_bd (x := v - o) (b := 2 ^ 1000 + 10 ^ 40) s0 (by omega) (by omega)
  unfold figM
  split <;> omega
section
variable {P : Program} {w : World} {K : PySem.W.Frag} {mg : Str → Option Value} {base : Heap} {aM fI fB fV fC fG fF : Addr} {dI dB dV dC dG dF : FuncData}
theorem ok_is_int {f : Addr} {fd : FuncData} (F : Fun K "is_int" "is_int" s_is_int f fd) (T : SideT K mg aM) : FnOk P w K mg base CX0 1 f fd ["thing"] spIsInt := by
  refine F.ok sc_is_int (fun vs H Q E h => ?_) (fun cdv A outer s H vs Q E hr h => ?_)
  · obtain ⟨i, rfl, _⟩ := h
    rfl
  · obtain ⟨i, rfl, q⟩ := h
    refine ⟨_, pss_one (ps_ret (pe_and (pe_callB call_isi (by rfl) T.isi (by decide +kernel) (pa_cons (pv 0) (pa_cons (pe_bltn (v := .ty "int") (by rfl) T.int (by decide +kernel) rfl) pa_nil)))
      (pe_one (pe_not (pe_callB call_isi (by rfl) T.isi (by decide +kernel) (pa_cons (pv 0) (pa_cons (pe_bltn (v := .ty "bool") (by rfl) T.bool (by decide +kernel) rfl) pa_nil))))))), ?_⟩
    walk_at "rd"
    refine ⟨_, _, _, _, _, rfl, .ty "int", .base (.int _), kit_ty (r := true) (by decide +kernel), ?_⟩
    walk_at "rd"
    refine ⟨_, _, _, _, _, rfl, .ty "bool", .base (.int _), kit_ty (r := false) (by decide +kernel), ?_⟩
    walk_at "rd"
    exact q
theorem ok_between {f : Addr} {fd : FuncData} (F : Fun K "is_int_between" "is_int_between" s_is_int_between f fd) (I : Cal P w K mg base "is_int" 1 ["thing"] spIsInt fI dI) : FnOk P w K mg base CX0 2 f fd ["thing", "least", "most"] spBetween := by
  refine F.ok sc_is_int_between (fun vs H Q E h => ?_) (fun cdv A outer s H vs Q E hr h => ?_)
  · obtain ⟨i, a, b, rfl, _⟩ := h
    rfl
  · obtain ⟨i, a, b, rfl, q⟩ := h
    refine ⟨_, pss_one (ps_ret (pe_and (pcl I hr (by decide) (by rfl) (pa_cons (pv 0) pa_nil)) (pe_one (pe_chain op_le op_le (pv 1) (pv 0) (pv 2))))), ?_⟩
    walk_at "rd"
    refine ite2 (fun h => ?_) (fun h => ?_)
    · walk_at "rd"
      rw [decide_eq_true (of_decide_eq_true h)] at q
      exact q
    · rw [decide_eq_false (of_decide_eq_false (by simpa using h))] at q
      exact q
theorem ok_check_value {f : Addr} {fd : FuncData} (F : Fun K "check_value" "check_value" s_check_value f fd) (I : Cal P w K mg base "is_int" 1 ["thing"] spIsInt fI dI) : FnOk P w K mg base CX0 2 f fd ["value"] spCheckValue := by
  refine F.ok sc_check_value (fun vs H Q E h => ?_) (fun cdv A outer s H vs Q E hr h => ?_)
  · obtain ⟨i, rfl, _⟩ := h
    rfl
  · obtain ⟨i, rfl, q⟩ := h
    refine ⟨_, pss_one (ps_if (pt_not (pt_val (pcl I hr (by decide) (by rfl) (pa_cons (pv 0) pa_nil)))) (pss_one ps_never) pss_nil), ?_⟩
    walk_at "rd"
    exact q
theorem ok_check_side {f : Addr} {fd : FuncData} (F : Fun K "check_side" "check_side" s_check_side f fd) (T : SideT K mg aM) (B : Cal P w K mg base "is_int_between" 2 ["thing", "least", "most"] spBetween fB dB) : FnOk P w K mg base CX0 3 f fd ["side"] spCheckSide := by
  refine F.ok sc_check_side (fun vs H Q E h => ?_) (fun cdv A outer s H vs Q E hr h => ?_)
  · obtain ⟨p, o, s, m, rfl, _⟩ := h
    rfl
  · obtain ⟨p, o, s, m, rfl, hp, S, q⟩ := h
    have nd := sc_check_side.nd
    refine ⟨_, pss_cons (ps_if (PW.pt (pw_or (pt_not (pt_val (pe_callB call_isi (by rfl) T.isi (by decide +kernel) (pa_cons (pv 0) (pa_cons (pe_bltn (v := .ty "tuple") (by rfl) T.tuple (by decide +kernel) rfl) pa_nil)))))
        (pw_or1 (pt_cmpR op_ne (pe_callB call_len_seq (by rfl) T.len PySem.boot_len (pa_cons (pv 0) pa_nil)) pe_int (nomark _))))) (pss_one ps_never) pss_nil)
      (pss_cons (ps_asg (pv 0) (pg_tup (by rfl) (pgs_cons (pg_name (i := 1) nd rfl (Or.inl rfl)) (pgs_cons (pg_name (i := 2) nd rfl (Or.inl rfl)) (pgs_cons (pg_name (i := 3) nd rfl (Or.inl rfl)) pgs_nil)))))
      (pss_cons (ps_if (pt_not (pt_val (pcl B hr (by decide) (by rfl) (pa_cons (pv 1) (pa_cons (pe_un un_neg (pe_op op_pow pe_int pe_int)) (pa_cons (pe_op op_pow pe_int pe_int) pa_nil)))))) (pss_one ps_never) pss_nil)
      (pss_cons (ps_if (pt_not (pt_val (pcl B hr (by decide) (by rfl) (pa_cons (pv 2) (pa_cons pe_int (pa_cons (pe_op op_pow pe_int pe_int) pa_nil)))))) (pss_one ps_never) pss_nil)
      (pss_one (ps_if (pt_cmpR op_notIn_seq (pv 3) (pe_glob (v := .ref aM) (by rfl) T.gM rfl) (by rfl)) (pss_one ps_never) pss_nil))))), ?_⟩
    walk_at "rd"
    refine ⟨_, _, _, _, _, rfl, .ty "tuple", .base (.tup hp), kit_ty (r := true) (by decide +kernel), ?_⟩
    walk_at "rd"
    refine ⟨p, _, rfl, .inr (SqT.of hp), rfl, ?_⟩
    walk_at "rd"
    refine ⟨p, _, rfl, SqT.of hp, rfl, _, _, rfl, _, _, rfl, _, _, rfl, rfl, ?_⟩
    walk_at "rd"
    refine ⟨⟨by decide, by decide, by decide⟩, ?_⟩
    walk_at "rd"
    refine ⟨⟨by decide, by decide, by decide⟩, _, _, _, rfl, ?_⟩
    have e1 : (decide (-(10 : Int) ^ (40 : Int).toNat ≤ o) && decide (o ≤ (10 : Int) ^ (40 : Int).toNat)) = true := by
      rw [decide_eq_true (show -(10 : Int) ^ (40 : Int).toNat ≤ o from S.o0), decide_eq_true (show o ≤ (10 : Int) ^ (40 : Int).toNat from S.o1)]
      rfl
    refine ⟨_, rfl, ?_⟩
    refine ite2 (fun h => (not_t h e1).elim) (fun _ => ?_)
    walk_at "rd"
    refine ⟨⟨by decide, by decide, by decide⟩, _, _, _, rfl, ?_⟩
    have e2 : (decide ((1 : Int) ≤ s) && decide (s ≤ (10 : Int) ^ (30 : Int).toNat)) = true := by
      rw [decide_eq_true S.s0, decide_eq_true (show s ≤ (10 : Int) ^ (30 : Int).toNat from S.s1)]
      rfl
    refine ⟨_, rfl, ?_⟩
    refine ite2 (fun h => (not_t h e2).elim) (fun _ => ?_)
    walk_at "rd"
    refine ⟨aM, _, rfl, .inr (T.tM H), rfl, by decide, ?_⟩
    walk_at "rd"
    refine ite2 (fun h => (not_t h (mode_in S.md)).elim) (fun _ => ?_)
    exact q
end
end HT
namespace HT
open PySem L2
section
variable {P : Program} {w : World} {K : PySem.W.Frag} {mg : Str → Option Value} {base : Heap} {aM fI fB fV fC fG fF : Addr} {dI dB dV dC dG dF : FuncData}
theorem ok_goes_up {f : Addr} {fd : FuncData} (F : Fun K "_goes_up" "_goes_up" s_goes_up f fd) : FnOk P w K mg base CX0 1 f fd ["mode", "step", "figure", "rest"] spGo := by
  refine F.ok sc_goes_up (fun vs H Q E h => ?_) (fun cdv A outer s H vs Q E hr h => ?_)
  · obtain ⟨m, s, q, r, rfl, _⟩ := h
    rfl
  · obtain ⟨m, s, fg, r, rfl, q⟩ := h
    refine ⟨_, pss_cons (ps_if (pt_cmpR op_eq (pv 0) pe_str (nomark _)) (pss_one (ps_ret pe_bl)) pss_nil)
      (pss_cons (ps_if (pt_cmpR op_eq (pv 0) pe_str (nomark _)) (pss_one (ps_ret (pe_cmpR op_gt (pv 3) pe_int (nomark _)))) pss_nil)
      (pss_cons (ps_if (pt_cmpR op_ne (pe_op op_mul pe_int (pv 3)) (pv 1) (nomark _)) (pss_one (ps_ret (pe_cmpR op_gt (pe_op op_mul pe_int (pv 3)) (pv 1) (nomark _)))) pss_nil)
      (pss_cons (ps_if (pt_cmpR op_eq (pv 0) pe_str (nomark _)) (pss_one (ps_ret (pe_cmpR op_eq (pe_op op_mod (pv 2) pe_int) pe_int (nomark _)))) pss_nil)
      (pss_one (ps_ret (pe_cmpR op_eq (pv 0) pe_str (nomark _))))))), ?_⟩
    unfold goesUp at q
    walk_at "rd"
    refine ⟨rfl, ?_⟩
    walk_at "rd"
    refine ite2 (fun h => ?_) (fun h1 => ?_)
    · rw [if_pos (str_t h)] at q
      exact q
    rw [if_neg (str_f h1)] at q
    walk_at "rd"
    refine ⟨rfl, ?_⟩
    walk_at "rd"
    refine ite2 (fun h => ?_) (fun h2 => ?_)
    · rw [if_pos (str_t h)] at q
      walk_at "rd"
      exact q
    rw [if_neg (str_f h2)] at q
    walk_at "rd"
    refine ⟨.inl ⟨by decide, by decide⟩, ?_⟩
    walk_at "rd"
    refine ⟨rfl, ?_⟩
    walk_at "rd"
    refine ite2 (fun h => ?_) (fun h3 => ?_)
    · rw [if_neg (int_f (not_t h))] at q
      walk_at "rd"
      refine ⟨.inl ⟨by decide, by decide⟩, ?_⟩
      walk_at "rd"
      exact q
    rw [if_pos (int_t (not_f h3))] at q
    walk_at "rd"
    refine ⟨rfl, ?_⟩
    walk_at "rd"
    refine ite2 (fun h => ?_) (fun h4 => ?_)
    · rw [if_pos (str_t h), ← dec_int] at q
      walk_at "rd"
      refine ⟨(by show (0 : Int) < 2; decide), ?_⟩
      walk_at "rd"
      exact ⟨rfl, q⟩
    · rw [if_neg (str_f h4), ← dec_str] at q
      walk_at "rd"
      exact ⟨rfl, q⟩
theorem ok_figure {f : Addr} {fd : FuncData} (F : Fun K "_figure" "_figure" s_figure f fd) (T : SideT K mg aM)
    (G : Cal P w K mg base "_goes_up" 1 ["mode", "step", "figure", "rest"] spGo fG dG) : FnOk P w K mg base CX0 2 f fd ["side", "value"] spFig := by
  refine F.ok sc_figure (fun vs H Q E h => ?_) (fun cdv A outer s H vs Q E hr h => ?_)
  · obtain ⟨p, o, s, m, v, rfl, _⟩ := h
    rfl
  · obtain ⟨p, o, s, m, v, rfl, hp, S, hv, q⟩ := h
    have nd := sc_figure.nd
    refine ⟨_, pss_cons (ps_asg (pv 0) (pg_tup (by rfl) (pgs_cons (pg_name (i := 2) nd rfl (Or.inl rfl)) (pgs_cons (pg_name (i := 3) nd rfl (Or.inl rfl)) (pgs_cons (pg_name (i := 4) nd rfl (Or.inl rfl)) pgs_nil)))))
      (pss_cons (ps_asg (pe_callB call_divmodW (by rfl) T.dm (by decide +kernel) (pa_cons (pe_op op_sub (pv 1) (pv 2)) (pa_cons (pv 3) pa_nil))) (pg_tup (by rfl) (pgs_cons (pg_name (i := 5) nd rfl (Or.inl rfl)) (pgs_cons (pg_name (i := 6) nd rfl (Or.inl rfl)) pgs_nil))))
      (pss_cons (ps_if (pt_val (pcl G hr (by decide) (by rfl) (pa_cons (pv 4) (pa_cons (pv 3) (pa_cons (pv 5) (pa_cons (pv 6) pa_nil)))))) (pss_one (ps_ret (pe_op op_add (pv 5) pe_int))) pss_nil)
      (pss_one (ps_ret (pv 5))))), ?_⟩
    walk_at "rd"
    refine ⟨p, _, rfl, SqT.of hp, rfl, _, _, rfl, _, _, rfl, _, _, rfl, rfl, ?_⟩
    walk_at "rd"
    refine ⟨_, _, rfl, divp S.s0 ⟨S.o0, S.o1⟩ hv, fun d nd' => ?_⟩
    refine ⟨d, _, rfl, SqT.of upd_same, rfl, _, _, rfl, _, _, rfl, rfl, ?_⟩
    have sm : Same H (upd H d (.tup [.int ((v - o) / s), .int ((v - o) % s)])) := fun b u z => by rw [upd_ne (ne_of_none z nd')]; exact z
    have q' : Q (.int (figM o s m v)) (upd H d (.tup [.int ((v - o) / s), .int ((v - o) % s)])) := q _ sm
    unfold figM at q'
    walk_at "rd"
    refine ⟨_, _, _, _, rfl, ?_⟩
    walk_at "rd"
    refine ite2 (fun h => ?_) (fun h => ?_)
    · rw [if_pos h] at q'
      walk_at "rd"
      exact q'
    · rw [if_neg h] at q'
      walk_at "rd"
      exact q'
end
end HT
namespace HT
open PySem L2
section
variable {P : Program} {w : World} {K : PySem.W.Frag} {mg : Str → Option Value} {base : Heap} {fF : Addr} {dF : FuncData}
theorem ok_written {f : Addr} {fd : FuncData} (F : Fun K "written" "written" s_written f fd) (G : Cal P w K mg base "_figure" 2 ["side", "value"] spFig fF dF) : FnOk P w K mg base CX0 3 f fd ["side", "value"] spDue := by
  refine F.ok sc_written (fun vs H Q E h => ?_) (fun cdv A outer s H vs Q E hr h => ?_)
  · obtain ⟨p, o, s, m, v, rfl, _⟩ := h
    rfl
  · obtain ⟨p, o, s, m, v, rfl, hp, S, hv, q⟩ := h
    have nd := sc_written.nd
    refine ⟨_, pss_cons (ps_asg (pv 0) (pg_tup (by rfl) (pgs_cons (pg_name (i := 2) nd rfl (Or.inl rfl)) (pgs_cons (pg_name (i := 3) nd rfl (Or.inl rfl)) (pgs_cons (pg_name (i := 4) nd rfl (Or.inl rfl)) pgs_nil)))))
      (pss_one (ps_ret (pe_op op_add (pv 2) (pe_op op_mulW (pv 3) (pcl G hr (by decide) (by rfl) (pa_cons (pv 0) (pa_cons (pv 1) pa_nil))))))), ?_⟩
    walk_at "rd"
    refine ⟨p, _, rfl, SqT.of hp, rfl, _, _, rfl, _, _, rfl, _, _, rfl, rfl, ?_⟩
    walk_at "rd"
    refine ⟨p, o, s, m, v, rfl, hp, S, hv, fun H' sm => ?_⟩
    walk_at "rd"
    have b1 := fig_bd S hv
    have b2 := S.s0
    have b3 := S.s1
    refine ⟨mulW (by omega) (by omega), ?_⟩
    walk_at "rd"
    exact q H' sm
end
end HT
namespace HT
open PySem L2
section
variable {P : Program} {w : World} {K : PySem.W.Frag} {mg : Str → Option Value} {base : Heap} {fC fV fF : Addr} {dC dV dF : FuncData}
theorem ok_handed {f : Addr} {fd : FuncData} (F : Fun K "handed" "handed" s_handed f fd) (C : Cal P w K mg base "check_side" 3 ["side"] spCheckSide fC dC) (V' : Cal P w K mg base "check_value" 2 ["value"] spCheckValue fV dV)
    (G : Cal P w K mg base "written" 3 ["side", "value"] spDue fF dF) : FnOk P w K mg base CX0 5 f fd ["side", "value"] spDue := by
  refine F.ok sc_handed (fun vs H Q E h => ?_) (fun cdv A outer s H vs Q E hr h => ?_)
  · obtain ⟨p, o, s, m, v, rfl, _⟩ := h
    rfl
  · obtain ⟨p, o, s, m, v, rfl, hp, S, hv, q⟩ := h
    refine ⟨_, pss_cons (ps_expr (pcl C hr (by decide) (by rfl) (pa_cons (pv 0) pa_nil)))
      (pss_cons (ps_expr (pcl V' hr (by decide) (by rfl) (pa_cons (pv 1) pa_nil)))
      (pss_one (ps_ret (pcl G hr (by decide) (by rfl) (pa_cons (pv 0) (pa_cons (pv 1) pa_nil)))))), ?_⟩
    walk_at "rd"
    refine ⟨p, o, s, m, rfl, hp, S, ?_⟩
    walk_at "rd"
    exact ⟨p, o, s, m, v, rfl, hp, S, hv, q⟩
end
end HT
namespace HT
open PySem L2
/-! ### mirrors and forms -/
theorem mir_mir {m : Str} (h : Mode m) : mir (mir m) = m := by
  rcases h with e | e | e | e | e <;> subst e
  · rw [mir_d, mir_u]
  · rw [mir_u, mir_d]
  · rw [mir_hd, mir_hu]
  · rw [mir_hu, mir_hd]
  · rw [mir_he, mir_he]
theorem below_neg {m : Str} {s : Int} (k : Int) (h : Mode m) : below m s (-k) = below m s k := by
  rcases h with e | e | e | e | e <;> subst e
  · rw [be_d, be_d]
  · rw [be_u, be_u]
  · rw [be_hd, be_hd]
  · rw [be_hu, be_hu]
  · rw [be_he, be_he]; split <;> split <;> omega
theorem due_mirror {o s : Int} {m : Str} {v : Int} (h : Mode m) (hs : 1 ≤ s) : dueM (-o) s (mir m) (-v) = -dueM o s m v := by
  have f := (fig_iff (o := o) (v := v) (k := figM o s m v) h hs).mp rfl
  generalize figM o s m v = k at f
  have e : figM o s m v = k := (fig_iff h hs).mpr f
  have e2 : figM (-o) s (mir m) (-v) = -k := by
    refine (fig_iff (mir_mode h) hs).mpr ?_
    unfold lowM highM at f ⊢
    rw [mir_mir h, below_neg k h, below_neg k (mir_mode h), Int.mul_neg]
    omega
  unfold dueM
  rw [e, e2, Int.mul_neg]
  omega
def firstM (s : Int) (m : Str) : Str := if s = 1 then "down" else if s = 2 ∧ m = "half_down" then "down" else if s = 2 ∧ m = "half_up" then "up" else if s % 2 = 1 ∧ (m = "half_up" ∨ m = "half_even") then "half_down" else m
def formO (o s : Int) (f : Str) : Int := if f = "half_even" then o % (2 * s) else o % s
def ordM (m : Str) : Nat := if m = "down" then 0 else if m = "up" then 1 else if m = "half_down" then 2 else if m = "half_up" then 3 else 4
theorem ord_d : ordM "down" = 0 := by unfold ordM; rw [if_pos rfl]
theorem ord_u : ordM "up" = 1 := by unfold ordM; rw [if_neg d_u, if_pos rfl]
theorem ord_hd : ordM "half_down" = 2 := by unfold ordM; rw [if_neg hd_d, if_neg hd_u, if_pos rfl]
theorem ord_hu : ordM "half_up" = 3 := by unfold ordM; rw [if_neg hu_d, if_neg hu_u, if_neg hu_hd, if_pos rfl]
theorem ord_he : ordM "half_even" = 4 := by unfold ordM; rw [if_neg he_d, if_neg he_u, if_neg he_hd, if_neg he_hu]
theorem u_hu : ¬ (("up" : Str) = "half_up") := by decide +kernel
theorem u_he : ¬ (("up" : Str) = "half_even") := by decide +kernel
theorem dn_hd : ¬ (("down" : Str) = "half_down") := by decide +kernel
theorem dn_hu : ¬ (("down" : Str) = "half_up") := by decide +kernel
theorem dn_he : ¬ (("down" : Str) = "half_even") := by decide +kernel
theorem dn_u : ¬ (("down" : Str) = "up") := by decide +kernel
/-- the first modes, mode by mode -/
theorem fi_one (m : Str) : firstM 1 m = "down" := by unfold firstM; rw [if_pos rfl]
theorem fi_d (s : Int) : firstM s "down" = "down" := by
  unfold firstM
  by_cases h : s = 1
  · rw [if_pos h]
  · rw [if_neg h, if_neg (fun z => dn_hd z.2), if_neg (fun z => dn_hu z.2), if_neg (fun z => z.2.elim dn_hu dn_he)]
theorem fi_u {s : Int} (h : s ≠ 1) : firstM s "up" = "up" := by
  unfold firstM
  rw [if_neg h, if_neg (fun z => u_hd z.2), if_neg (fun z => u_hu z.2), if_neg (fun z => z.2.elim u_hu u_he)]
theorem fi_hd2 : firstM 2 "half_down" = "down" := by unfold firstM; rw [if_neg (by decide), if_pos ⟨rfl, rfl⟩]
theorem fi_hd {s : Int} (h : s ≠ 1) (h2 : s ≠ 2) : firstM s "half_down" = "half_down" := by
  unfold firstM
  rw [if_neg h, if_neg (fun z => h2 z.1), if_neg (fun z => h2 z.1), if_neg (fun z => z.2.elim hd_hu hd_e)]
theorem fi_hu2 : firstM 2 "half_up" = "up" := by unfold firstM; rw [if_neg (by decide), if_neg (fun z => hu_hd z.2), if_pos ⟨rfl, rfl⟩]
theorem fi_huO {s : Int} (h : s ≠ 1) (h2 : s % 2 = 1) : firstM s "half_up" = "half_down" := by
  unfold firstM
  rw [if_neg h, if_neg (fun z => hu_hd z.2), if_neg (fun z => by have := z.1; omega), if_pos ⟨h2, .inl rfl⟩]
theorem fi_huE {s : Int} (h : s ≠ 2) (h2 : s % 2 = 0) : firstM s "half_up" = "half_up" := by
  unfold firstM
  rw [if_neg (by omega), if_neg (fun z => hu_hd z.2), if_neg (fun z => h z.1), if_neg (fun z => by have := z.1; omega)]
theorem fi_heO {s : Int} (h : s ≠ 1) (h2 : s % 2 = 1) : firstM s "half_even" = "half_down" := by
  unfold firstM
  rw [if_neg h, if_neg (fun z => he_hd z.2), if_neg (fun z => he_hu z.2), if_pos ⟨h2, .inr rfl⟩]
theorem fi_heE {s : Int} (h2 : s % 2 = 0) : firstM s "half_even" = "half_even" := by
  unfold firstM
  rw [if_neg (by omega), if_neg (fun z => he_hd z.2), if_neg (fun z => he_hu z.2), if_neg (fun z => by have := z.1; omega)]
/-- what is known of the first mode -/
structure FirstP (s : Int) (m : Str) : Prop where
  md : Mode (firstM s m)
  id : firstM s (firstM s m) = firstM s m
  od : ordM (firstM s m) ≤ ordM m
  go : ∀ q r, 0 ≤ r → r < s → goesUp (firstM s m) s q r = goesUp m s q r
  ev : firstM s m = "half_even" → s % 2 = 0
theorem first_ok {s : Int} {m : Str} (h : Mode m) (hs : 1 ≤ s) : FirstP s m := by
  have D : Mode "down" := .inl rfl
  have U : Mode "up" := .inr (.inl rfl)
  have HD : Mode "half_down" := .inr (.inr (.inl rfl))
  by_cases s1 : s = 1
  · subst s1
    refine ⟨by rw [fi_one]; exact D, by rw [fi_one, fi_one], by rw [fi_one, ord_d]; omega, fun q r r0 r1 => ?_, by rw [fi_one]; exact fun z => (dn_he z).elim⟩
    have : r = 0 := by omega
    subst this
    rw [fi_one, go_zero D (by decide), go_zero h (by decide)]
  rcases h with e | e | e | e | e <;> subst e
  · exact ⟨by rw [fi_d]; exact D, by rw [fi_d, fi_d], by rw [fi_d]; omega, fun q r _ _ => by rw [fi_d], by rw [fi_d]; exact fun z => (dn_he z).elim⟩
  · exact ⟨by rw [fi_u s1]; exact U, by rw [fi_u s1, fi_u s1], by rw [fi_u s1]; omega, fun q r _ _ => by rw [fi_u s1], by rw [fi_u s1]; exact fun z => (u_he z).elim⟩
  · by_cases s2 : s = 2
    · subst s2
      refine ⟨by rw [fi_hd2]; exact D, by rw [fi_hd2, fi_d], by rw [fi_hd2, ord_d]; omega, fun q r r0 r1 => ?_, by rw [fi_hd2]; exact fun z => (dn_he z).elim⟩
      rw [fi_hd2, go_down, go_hd, decide_eq_false (by omega)]
    · exact ⟨by rw [fi_hd s1 s2]; exact HD, by rw [fi_hd s1 s2, fi_hd s1 s2], by rw [fi_hd s1 s2]; omega, fun q r _ _ => by rw [fi_hd s1 s2], by rw [fi_hd s1 s2]; exact fun z => (hd_e z).elim⟩
  · by_cases s2 : s = 2
    · subst s2
      refine ⟨by rw [fi_hu2]; exact U, by rw [fi_hu2, fi_u s1], by rw [fi_hu2, ord_u, ord_hu]; omega, fun q r r0 r1 => ?_, by rw [fi_hu2]; exact fun z => (u_he z).elim⟩
      rw [fi_hu2, go_up, go_hu]
      exact decide_eq_decide.mpr (by omega)
    · by_cases od : s % 2 = 1
      · refine ⟨by rw [fi_huO s1 od]; exact HD, by rw [fi_huO s1 od, fi_hd s1 s2], by rw [fi_huO s1 od, ord_hd, ord_hu]; omega, fun q r r0 r1 => ?_, by rw [fi_huO s1 od]; exact fun z => (hd_e z).elim⟩
        rw [fi_huO s1 od, go_hd, go_hu]
        exact decide_eq_decide.mpr (by omega)
      · have ev : s % 2 = 0 := by omega
        exact ⟨by rw [fi_huE s2 ev]; exact .inr (.inr (.inr (.inl rfl))), by rw [fi_huE s2 ev, fi_huE s2 ev], by rw [fi_huE s2 ev]; omega, fun q r _ _ => by rw [fi_huE s2 ev], by rw [fi_huE s2 ev]; exact fun z => (hu_e z).elim⟩
  · by_cases od : s % 2 = 1
    · refine ⟨by rw [fi_heO s1 od]; exact HD, by rw [fi_heO s1 od, fi_hd s1 (by omega)], by rw [fi_heO s1 od, ord_hd, ord_he]; omega, fun q r r0 r1 => ?_, by rw [fi_heO s1 od]; exact fun z => (hd_e z).elim⟩
      rw [fi_heO s1 od, go_hd, go_he, decide_eq_false (show ¬ 2 * r = s by omega), Bool.false_and, Bool.or_false]
    · have ev : s % 2 = 0 := by omega
      exact ⟨by rw [fi_heE ev]; exact .inr (.inr (.inr (.inr rfl))), by rw [fi_heE ev, fi_heE ev], by rw [fi_heE ev]; omega, fun q r _ _ => by rw [fi_heE ev], fun _ => ev⟩
theorem go_shift {m : Str} {s q r j : Int} (h : Mode m) (hj : m ≠ "half_even" ∨ j % 2 = 0) : goesUp m s (q + j) r = goesUp m s q r := by
  rcases h with e | e | e | e | e <;> subst e
  · rw [go_down, go_down]
  · rw [go_up, go_up]
  · rw [go_hd, go_hd]
  · rw [go_hu, go_hu]
  · have z : j % 2 = 0 := hj.resolve_left (fun z => z rfl)
    rw [go_he, go_he, show (q + j) % 2 = q % 2 by omega]
/-- an offset moved by whole steps, by two of them for the even -/
theorem due_shift {o s j : Int} {m : Str} {v : Int} (h : Mode m) (hs : 1 ≤ s) (hj : m ≠ "half_even" ∨ j % 2 = 0) : dueM (o + s * j) s m v = dueM o s m v := by
  have F := fig_of (o := o + s * j) (m := m) (v := v) hs
  generalize (v - (o + s * j)) / s = q at F
  generalize (v - (o + s * j)) % s = r at F
  generalize hk : figM (o + s * j) s m v = k at F
  obtain ⟨eq, r0, r1, wh⟩ := F
  have e : figM o s m v = k + j := by
    refine fig_uniq (q := q + j) (r := r) hs ⟨by rw [Int.mul_add]; omega, r0, r1, ?_⟩
    rw [go_shift h hj]
    rcases wh with ⟨g, e⟩ | ⟨g, e⟩
    · exact .inl ⟨g, by omega⟩
    · exact .inr ⟨g, by omega⟩
  unfold dueM
  rw [e, hk, Int.mul_add]
  omega
theorem due_go {o s : Int} {m m' : Str} {v : Int} (hs : 1 ≤ s) (h : ∀ q r, 0 ≤ r → r < s → goesUp m s q r = goesUp m' s q r) : dueM o s m v = dueM o s m' v := by
  unfold dueM figM
  rw [h _ _ (Int.emod_nonneg _ (by omega)) (Int.emod_lt_of_pos _ (by omega))]
theorem due_form {o s : Int} {m : Str} (v : Int) (h : Mode m) (hs : 1 ≤ s) : dueM (formO o s (firstM s m)) s (firstM s m) v = dueM o s m v := by
  have P := first_ok h hs
  rw [← due_go hs P.go]
  unfold formO
  by_cases e : firstM s m = "half_even"
  · rw [if_pos e]
    have a := Int.mul_ediv_add_emod o (2 * s)
    have b : o % (2 * s) = o + s * (-(2 * (o / (2 * s)))) := by
      rw [Int.mul_neg, ← Int.mul_assoc, Int.mul_comm s 2]
      omega
    rw [b]
    exact due_shift P.md hs (.inr (by omega))
  · rw [if_neg e]
    have a := Int.mul_ediv_add_emod o s
    have b : o % s = o + s * (-(o / s)) := by
      rw [Int.mul_neg]
      omega
    rw [b]
    exact due_shift P.md hs (.inl e)
theorem form_bd {o s : Int} {f : Str} (hs : 1 ≤ s) : 0 ≤ formO o s f ∧ formO o s f < 2 * s ∧ (f ≠ "half_even" → formO o s f < s) := by
  unfold formO
  by_cases e : f = "half_even"
  · rw [if_pos e]
    exact ⟨Int.emod_nonneg _ (by omega), Int.emod_lt_of_pos _ (by omega), fun z => absurd e z⟩
  · rw [if_neg e]
    have := Int.emod_lt_of_pos o (show 0 < s by omega)
    exact ⟨Int.emod_nonneg _ (by omega), by omega, fun _ => this⟩
theorem form_idem {o s : Int} {f : Str} : formO (formO o s f) s f = formO o s f := by
  unfold formO
  by_cases e : f = "half_even"
  · rw [if_pos e, if_pos e, Int.emod_emod_of_dvd _ (Int.dvd_refl _)]
  · rw [if_neg e, if_neg e, Int.emod_emod_of_dvd _ (Int.dvd_refl _)]
/-- a value told by its figure and rest -/
theorem due_at {o s q r : Int} {m : Str} (hs : 1 ≤ s) (r0 : 0 ≤ r) (r1 : r < s) : dueM o s m (o + s * q + r) = o + s * q + (if goesUp m s q r = true then s else 0) := by
  unfold dueM
  by_cases g : goesUp m s q r = true
  · rw [fig_uniq (q := q) (r := r) (k := q + 1) hs ⟨by omega, r0, r1, .inl ⟨g, rfl⟩⟩, if_pos g, Int.mul_add]
    omega
  · have g' : goesUp m s q r = false := by cases h : goesUp m s q r <;> simp_all
    rw [fig_uniq (q := q) (r := r) (k := q) hs ⟨by omega, r0, r1, .inr ⟨g', rfl⟩⟩, if_neg g]
    omega
end HT
namespace HT
open PySem L2
structure MirT (K : PySem.W.Frag) (w : World) (mg : Str → Option Value) (aR : Addr) : Prop where
  gR : mg "MIRRORED" = some (.ref aR)
  dR : ∀ m, Mode m → KDct K w aR m (.str (mir m))
def BdK (x : Int) : Prop := -2 ^ 720 < x ∧ x < 2 ^ 720
def spBelow : Sp := fun vs H Q _ => ∃ (m : Str) (s k : Int), vs = [.str m, .int s, .int k] ∧ Mode m ∧ Q (.int (below m s k)) H
def spSpan : Sp := fun vs H Q _ => ∃ (p : Addr) (o s : Int) (m : Str) (k : Int), vs = [.ref p, .int k] ∧ H p = some (sideV o s m) ∧ SideP o s m ∧ BdK k ∧
  ∀ (d : Addr) (H' : Hp), Same H H' → H d = none → H' d = some (.tup [.int (lowM o s m k), .int (highM o s m k)]) → Q (.ref d) H'
def spBack : Sp := fun vs H Q _ => ∃ (p : Addr) (o s : Int) (m : Str) (v : Int), vs = [.ref p, .int v] ∧ H p = some (sideV o s m) ∧ SideP o s m ∧ -2 ^ 700 < v ∧ v < 2 ^ 700 ∧
  ∀ H' : Hp, Same H H' → Q (.int (backM o s m v)) H'
theorem bdK_bd {x : Int} (h : BdK x) : Bd x := by
  unfold BdK at h
  unfold Bd
  omega
section
variable {P : Program} {w : World} {K : PySem.W.Frag} {mg : Str → Option Value} {base : Heap} {aM aR fV fC fB fS : Addr} {dV dC dB dS : FuncData}
theorem ok_below {f : Addr} {fd : FuncData} (F : Fun K "_below" "_below" s_below f fd) : FnOk P w K mg base CX0 1 f fd ["mode", "step", "figure"] spBelow := by
  refine F.ok sc_below (fun vs H Q E h => ?_) (fun cdv A outer s H vs Q E hr h => ?_)
  · obtain ⟨m, s, k, rfl, _⟩ := h
    rfl
  · obtain ⟨m, s, k, rfl, hm, q⟩ := h
    refine ⟨_, pss_cons (ps_if (pt_cmpR op_eq (pv 0) pe_str (nomark _)) (pss_one (ps_ret pe_int)) pss_nil)
      (pss_cons (ps_if (pt_cmpR op_eq (pv 0) pe_str (nomark _)) (pss_one (ps_ret (pe_op op_sub (pv 1) pe_int))) pss_nil)
      (pss_cons (ps_if (PW.pt (pw_or (pt_cmpR op_eq (pv 0) pe_str (nomark _)) (pw_or1 (PW.pt (pw_and (pt_cmpR op_eq (pv 0) pe_str (nomark _)) (pw_and1 (pt_cmpR op_eq (pe_op op_mod (pv 2) pe_int) pe_int (nomark _)))))))) (pss_one (ps_ret (pe_op op_fdiv (pv 1) pe_int))) pss_nil)
      (pss_one (ps_ret (pe_op op_fdiv (pe_op op_sub (pv 1) pe_int) pe_int))))), ?_⟩
    have d2 : ∀ (i : Int), CDiv i 2 := fun _ => ⟨by decide, by decide⟩
    unfold below at q
    walk_at "rd"
    refine ⟨rfl, ?_⟩
    walk_at "rd"
    refine ite2 (fun h => ?_) (fun h1 => ?_)
    · rw [if_pos (str_t h)] at q
      walk_at "rd"
      exact q
    rw [if_neg (str_f h1)] at q
    walk_at "rd"
    refine ⟨rfl, ?_⟩
    walk_at "rd"
    refine ite2 (fun h => ?_) (fun h2 => ?_)
    · rw [if_pos (str_t h)] at q
      walk_at "rd"
      exact q
    rw [if_neg (str_f h2)] at q
    walk_at "rd"
    refine ⟨rfl, ?_⟩
    walk_at "rd"
    refine ite2 (fun h => ?_) (fun h3 => ?_)
    · rw [if_pos (.inl (str_t h))] at q
      walk_at "rd"
      refine ⟨d2 _, ?_⟩
      walk_at "rd"
      exact q
    walk_at "rd"
    refine ⟨rfl, ?_⟩
    walk_at "rd"
    refine ite2 (fun h => ?_) (fun h4 => ?_)
    · walk_at "rd"
      refine ⟨(by show (0 : Int) < 2; decide), ?_⟩
      walk_at "rd"
      refine ⟨rfl, ?_⟩
      walk_at "rd"
      refine ite2 (fun g => ?_) (fun g => ?_)
      · rw [if_pos (.inr ⟨str_t h, int_t g⟩)] at q
        walk_at "rd"
        refine ⟨d2 _, ?_⟩
        walk_at "rd"
        exact q
      · rw [if_neg (by rintro (z | ⟨_, z⟩); exact str_f h3 z; exact int_f g z)] at q
        walk_at "rd"
        refine ⟨d2 _, ?_⟩
        walk_at "rd"
        exact q
    · rw [if_neg (by rintro (z | ⟨z, _⟩); exact str_f h3 z; exact str_f h4 z)] at q
      walk_at "rd"
      refine ⟨d2 _, ?_⟩
      walk_at "rd"
      exact q
theorem ok_uspan {f : Addr} {fd : FuncData} (F : Fun K "_span" "_span" s_uspan f fd) (R : MirT K w mg aR)
    (B : Cal P w K mg base "_below" 1 ["mode", "step", "figure"] spBelow fB dB) : FnOk P w K mg base CX0 2 f fd ["side", "figure"] spSpan := by
  refine F.ok sc_uspan (fun vs H Q E h => ?_) (fun cdv A outer s H vs Q E hr h => ?_)
  · obtain ⟨p, o, s, m, k, rfl, _⟩ := h
    rfl
  · obtain ⟨p, o, s, m, k, rfl, hp, S, hk, q⟩ := h
    have nd := sc_uspan.nd
    refine ⟨_, pss_cons (ps_asg (pv 0) (pg_tup (by rfl) (pgs_cons (pg_name (i := 2) nd rfl (Or.inl rfl)) (pgs_cons (pg_name (i := 3) nd rfl (Or.inl rfl)) (pgs_cons (pg_name (i := 4) nd rfl (Or.inl rfl)) pgs_nil)))))
      (pss_cons (ps_set (i := 5) nd rfl (Or.inl rfl) (pe_op op_add (pv 2) (pe_op op_mulW (pv 3) (pv 1))))
      (pss_one (ps_ret (pe_tup (pa_cons (pe_op op_sub (pv 5) (pcl B hr (by decide) (by rfl) (pa_cons (pv 4) (pa_cons (pv 3) (pa_cons (pv 1) pa_nil)))))
        (pa_cons (pe_op op_add (pv 5) (pcl B hr (by decide) (by rfl) (pa_cons (pe_ix ix_kdict (pe_glob (v := .ref aR) (by rfl) R.gR rfl) (pv 4) (fun _ _ => rfl)) (pa_cons (pv 3) (pa_cons (pv 1) pa_nil))))) pa_nil)))))), ?_⟩
    walk_at "rd"
    refine ⟨p, _, rfl, SqT.of hp, rfl, _, _, rfl, _, _, rfl, _, _, rfl, rfl, ?_⟩
    have s0 := S.s0
    have s1 := S.s1
    have hk' := hk
    unfold BdK at hk'
    walk_at "rd"
    refine ⟨mulW (by omega) (by omega), ?_⟩
    walk_at "rd"
    refine ⟨m, s, k, rfl, S.md, ?_⟩
    walk_at "rd"
    refine ⟨aR, m, _, rfl, rfl, R.dR m S.md, ?_⟩
    walk_at "rd"
    refine ⟨mir m, s, k, rfl, mir_mode S.md, ?_⟩
    walk_at "rd"
    refine ⟨(by show 2 ≤ sizeLine; decide), fun d nd' => ?_⟩
    exact q d _ (fun b u z => (upd_ne (ne_of_none z nd')).trans z) nd' upd_same
theorem ok_span {f : Addr} {fd : FuncData} (F : Fun K "span" "span" s_span f fd) (C : Cal P w K mg base "check_side" 3 ["side"] spCheckSide fC dC) (V' : Cal P w K mg base "check_value" 2 ["value"] spCheckValue fV dV)
    (G : Cal P w K mg base "_span" 2 ["side", "figure"] spSpan fS dS) : FnOk P w K mg base CX0 4 f fd ["side", "figure"] spSpan := by
  refine F.ok sc_span (fun vs H Q E h => ?_) (fun cdv A outer s H vs Q E hr h => ?_)
  · obtain ⟨p, o, s, m, v, rfl, _⟩ := h
    rfl
  · obtain ⟨p, o, s, m, v, rfl, hp, S, q⟩ := h
    refine ⟨_, pss_cons (ps_expr (pcl C hr (by decide) (by rfl) (pa_cons (pv 0) pa_nil)))
      (pss_cons (ps_expr (pcl V' hr (by decide) (by rfl) (pa_cons (pv 1) pa_nil)))
      (pss_one (ps_ret (pcl G hr (by decide) (by rfl) (pa_cons (pv 0) (pa_cons (pv 1) pa_nil)))))), ?_⟩
    walk_at "rd"
    refine ⟨p, o, s, m, rfl, hp, S, ?_⟩
    walk_at "rd"
    exact ⟨p, o, s, m, v, rfl, hp, S, q⟩
end
end HT
namespace HT
open PySem L2
def spMirror : Sp := fun vs H Q _ => ∃ (p : Addr) (o s : Int) (m : Str), vs = [.ref p] ∧ H p = some (sideV o s m) ∧ SideP o s m ∧
  ∀ (d : Addr) (H' : Hp), Same H H' → H d = none → H' d = some (sideV (-o) s (mir m)) → Q (.ref d) H'
def spFirst : Sp := fun vs H Q _ => ∃ (s : Int) (m : Str), vs = [.int s, .str m] ∧ 1 ≤ s ∧ Mode m ∧ ∀ H' : Hp, Same H H' → Q (.str (firstM s m)) H'
def spForm : Sp := fun vs H Q _ => ∃ (p : Addr) (o s : Int) (m : Str), vs = [.ref p] ∧ H p = some (sideV o s m) ∧ SideP o s m ∧
  ∀ (d : Addr) (H' : Hp), Same H H' → H d = none → H' d = some (sideV (formO o s (firstM s m)) s (firstM s m)) → Q (.ref d) H'
theorem side_mir {o s : Int} {m : Str} (S : SideP o s m) : SideP (-o) s (mir m) := by
  obtain ⟨o0, o1, s0, s1, md⟩ := S
  exact ⟨by omega, by omega, s0, s1, mir_mode md⟩
theorem side_form {o s : Int} {m : Str} (S : SideP o s m) : SideP (formO o s (firstM s m)) s (firstM s m) := by
  obtain ⟨o0, o1, s0, s1, md⟩ := S
  obtain ⟨a, b, _⟩ := form_bd (o := o) (f := firstM s m) s0
  exact ⟨by omega, by omega, s0, s1, (first_ok md s0).md⟩
theorem in_two (m : Str) : inV (.str m) [V.str "half_up", .str "half_even"] = decide (m = "half_up" ∨ m = "half_even") := by
  show (eqV (V.str "half_up") (V.str m) || (eqV (V.str "half_even") (V.str m) || false)) = _
  have e : ∀ a b : Str, eqV (V.str a) (V.str b) = decide (a = b) := fun a b => by
    show (a == b) = decide (a = b)
    by_cases h : a = b
    · rw [decide_eq_true h, h, beq_self_eq_true]
    · rw [decide_eq_false h]
      exact beq_eq_false_iff_ne.mpr h
  rw [e, e, Bool.or_false]
  by_cases a : m = "half_up"
  · rw [decide_eq_true a.symm, decide_eq_true (Or.inl a)]
    rfl
  · by_cases b : m = "half_even"
    · rw [decide_eq_true b.symm, decide_eq_true (Or.inr b), Bool.or_true]
    · rw [decide_eq_false (fun z => a z.symm), decide_eq_false (fun z => b z.symm), decide_eq_false (fun z => z.elim a b)]
      rfl
section
variable {P : Program} {w : World} {K : PySem.W.Frag} {mg : Str → Option Value} {base : Heap} {aM aR fV fC fB fS : Addr} {dV dC dB dS : FuncData}
theorem ok_mirror {f : Addr} {fd : FuncData} (F : Fun K "mirror" "mirror" s_mirror f fd) (R : MirT K w mg aR) (C : Cal P w K mg base "check_side" 3 ["side"] spCheckSide fC dC) : FnOk P w K mg base CX0 4 f fd ["side"] spMirror := by
  refine F.ok sc_mirror (fun vs H Q E h => ?_) (fun cdv A outer s H vs Q E hr h => ?_)
  · obtain ⟨p, o, s, m, rfl, _⟩ := h
    rfl
  · obtain ⟨p, o, s, m, rfl, hp, S, q⟩ := h
    have nd := sc_mirror.nd
    refine ⟨_, pss_cons (ps_expr (pcl C hr (by decide) (by rfl) (pa_cons (pv 0) pa_nil)))
      (pss_cons (ps_asg (pv 0) (pg_tup (by rfl) (pgs_cons (pg_name (i := 1) nd rfl (Or.inl rfl)) (pgs_cons (pg_name (i := 2) nd rfl (Or.inl rfl)) (pgs_cons (pg_name (i := 3) nd rfl (Or.inl rfl)) pgs_nil)))))
      (pss_one (ps_ret (pe_tup (pa_cons (pe_un un_neg (pv 1)) (pa_cons (pv 2) (pa_cons (pe_ix ix_kdict (pe_glob (v := .ref aR) (by rfl) R.gR rfl) (pv 3) (fun _ _ => rfl)) pa_nil))))))), ?_⟩
    walk_at "rd"
    refine ⟨p, o, s, m, rfl, hp, S, ?_⟩
    walk_at "rd"
    refine ⟨p, _, rfl, SqT.of hp, rfl, _, _, rfl, _, _, rfl, _, _, rfl, rfl, ?_⟩
    walk_at "rd"
    refine ⟨aR, m, _, rfl, rfl, R.dR m S.md, ?_⟩
    refine ⟨(by show 3 ≤ sizeLine; decide), fun d nd' => ?_⟩
    exact q d _ (fun b u z => (upd_ne (ne_of_none z nd')).trans z) nd' upd_same
theorem ok_first {f : Addr} {fd : FuncData} (F : Fun K "_first_mode" "_first_mode" s_first_mode f fd) : FnOk P w K mg base CX0 1 f fd ["step", "mode"] spFirst := by
  refine F.ok sc_first_mode (fun vs H Q E h => ?_) (fun cdv A outer s H vs Q E hr h => ?_)
  · obtain ⟨s, m, rfl, _⟩ := h
    rfl
  · obtain ⟨s, m, rfl, s0, md, q⟩ := h
    refine ⟨_, pss_cons (ps_if (pt_cmpR op_eq (pv 0) pe_int (nomark _)) (pss_one (ps_ret pe_str)) pss_nil)
      (pss_cons (ps_if (PW.pt (pw_and (pt_cmpR op_eq (pv 0) pe_int (nomark _)) (pw_and1 (pt_cmpR op_eq (pv 1) pe_str (nomark _))))) (pss_one (ps_ret pe_str)) pss_nil)
      (pss_cons (ps_if (PW.pt (pw_and (pt_cmpR op_eq (pv 0) pe_int (nomark _)) (pw_and1 (pt_cmpR op_eq (pv 1) pe_str (nomark _))))) (pss_one (ps_ret pe_str)) pss_nil)
      (pss_cons (ps_if (PW.pt (pw_and (pt_cmpR op_eq (pe_op op_mod (pv 0) pe_int) pe_int (nomark _)) (pw_and1 (pt_cmpR op_in_seq (pv 1) (pe_tup (pa_cons pe_str (pa_cons pe_str pa_nil))) (by rfl))))) (pss_one (ps_ret pe_str)) pss_nil)
      (pss_one (ps_ret (pv 1)))))), ?_⟩
    have fin : ∀ (x : Str) (H' : Hp), firstM s m = x → Same H H' → Q (.str x) H' := fun x H' e sm => by
      rw [← e]
      exact q H' sm
    walk_at "rd"
    refine ⟨rfl, ?_⟩
    walk_at "rd"
    refine ite2 (fun h => ?_) (fun h1 => ?_)
    · walk_at "rd"
      exact fin "down" H (by rw [int_t h]; exact fi_one m) (Same.refl H)
    have n1 := int_f h1
    walk_at "rd"
    refine ⟨rfl, ?_⟩
    walk_at "rd"
    refine ite2 (fun h => ?_) (fun h2 => ?_)
    · have e2 := int_t h
      walk_at "rd"
      refine ⟨rfl, ?_⟩
      walk_at "rd"
      refine ite2 (fun g => ?_) (fun g1 => ?_)
      · walk_at "rd"
        exact fin "down" H (by rw [str_t g, e2]; exact fi_hd2) (Same.refl H)
      walk_at "rd"
      refine ⟨rfl, ?_⟩
      walk_at "rd"
      refine ite2 (fun _ => ?_) (fun z => absurd h z)
      walk_at "rd"
      refine ⟨rfl, ?_⟩
      walk_at "rd"
      refine ite2 (fun g => ?_) (fun g2 => ?_)
      · walk_at "rd"
        exact fin "up" H (by rw [str_t g, e2]; exact fi_hu2) (Same.refl H)
      walk_at "rd"
      refine ⟨(by show (0 : Int) < 2; decide), ?_⟩
      walk_at "rd"
      refine ⟨rfl, ?_⟩
      walk_at "rd"
      refine ite2 (fun g => absurd (int_t g) (by omega)) (fun _ => ?_)
      walk_at "rd"
      refine fin m H ?_ (Same.refl H)
      unfold firstM
      rw [if_neg n1, if_neg (fun z => str_f g1 z.2), if_neg (fun z => str_f g2 z.2), if_neg (fun z => by have := z.1; omega)]
    · have n2 := int_f h2
      walk_at "rd"
      refine ⟨rfl, ?_⟩
      walk_at "rd"
      refine ite2 (fun z => absurd z h2) (fun _ => ?_)
      walk_at "rd"
      refine ⟨(by show (0 : Int) < 2; decide), ?_⟩
      walk_at "rd"
      refine ⟨rfl, ?_⟩
      walk_at "rd"
      refine ite2 (fun g => ?_) (fun g => ?_)
      · have od := int_t g
        walk_at "rd"
        refine ⟨(by show 2 ≤ sizeLine; decide), fun d nd' => ?_⟩
        refine ⟨d, _, rfl, .inr (SqT.of upd_same), rfl, by decide, ?_⟩
        walk_at "rd"
        have sm : ∀ o, Same H (upd H d o) := fun o b u z => (upd_ne (ne_of_none z nd')).trans z
        refine ite2 (fun k => ?_) (fun k => ?_)
        · walk_at "rd"
          have k' : inV (.str m) [V.str "half_up", .str "half_even"] = true := k
          rw [in_two] at k'
          refine fin "half_down" _ ?_ (sm _)
          unfold firstM
          rw [if_neg n1, if_neg (fun z => n2 z.1), if_neg (fun z => n2 z.1), if_pos ⟨od, of_decide_eq_true k'⟩]
        · walk_at "rd"
          have k' : ¬ inV (.str m) [V.str "half_up", .str "half_even"] = true := k
          rw [in_two] at k'
          refine fin m _ ?_ (sm _)
          unfold firstM
          rw [if_neg n1, if_neg (fun z => n2 z.1), if_neg (fun z => n2 z.1), if_neg (fun z => k' (decide_eq_true z.2))]
      · have od := int_f g
        walk_at "rd"
        refine fin m H ?_ (Same.refl H)
        unfold firstM
        rw [if_neg n1, if_neg (fun z => n2 z.1), if_neg (fun z => n2 z.1), if_neg (fun z => od z.1)]
theorem ok_form {f : Addr} {fd : FuncData} (F : Fun K "form" "form" s_form f fd) (C : Cal P w K mg base "check_side" 3 ["side"] spCheckSide fC dC) (M : Cal P w K mg base "_first_mode" 1 ["step", "mode"] spFirst fB dB) : FnOk P w K mg base CX0 4 f fd ["side"] spForm := by
  refine F.ok sc_form (fun vs H Q E h => ?_) (fun cdv A outer s H vs Q E hr h => ?_)
  · obtain ⟨p, o, s, m, rfl, _⟩ := h
    rfl
  · obtain ⟨p, o, s, m, rfl, hp, S, q⟩ := h
    have nd := sc_form.nd
    refine ⟨_, pss_cons (ps_expr (pcl C hr (by decide) (by rfl) (pa_cons (pv 0) pa_nil)))
      (pss_cons (ps_asg (pv 0) (pg_tup (by rfl) (pgs_cons (pg_name (i := 1) nd rfl (Or.inl rfl)) (pgs_cons (pg_name (i := 2) nd rfl (Or.inl rfl)) (pgs_cons (pg_name (i := 3) nd rfl (Or.inl rfl)) pgs_nil)))))
      (pss_cons (ps_set (i := 4) nd rfl (Or.inl rfl) (pcl M hr (by decide) (by rfl) (pa_cons (pv 2) (pa_cons (pv 3) pa_nil))))
      (pss_cons (ps_if (pt_cmpR op_eq (pv 4) pe_str (nomark _)) (pss_one (ps_ret (pe_tup (pa_cons (pe_op op_mod (pv 1) (pe_op op_mul pe_int (pv 2))) (pa_cons (pv 2) (pa_cons (pv 4) pa_nil)))))) pss_nil)
      (pss_one (ps_ret (pe_tup (pa_cons (pe_op op_mod (pv 1) (pv 2)) (pa_cons (pv 2) (pa_cons (pv 4) pa_nil))))))))), ?_⟩
    have s0 := S.s0
    walk_at "rd"
    refine ⟨p, o, s, m, rfl, hp, S, ?_⟩
    walk_at "rd"
    refine ⟨p, _, rfl, SqT.of hp, rfl, _, _, rfl, _, _, rfl, _, _, rfl, rfl, ?_⟩
    walk_at "rd"
    refine ⟨s, m, rfl, s0, S.md, fun H1 m1 => ?_⟩
    walk_at "rd"
    refine ⟨rfl, ?_⟩
    walk_at "rd"
    refine ite2 (fun h => ?_) (fun h => ?_)
    · have e := str_t h
      walk_at "rd"
      refine ⟨.inl ⟨by decide, by decide⟩, ?_⟩
      walk_at "rd"
      refine ⟨(by show (0 : Int) < 2 * s; omega), ?_⟩
      walk_at "rd"
      refine ⟨(by show 3 ≤ sizeLine; decide), fun d nd' => ?_⟩
      have e2 : formO o s (firstM s m) = o % (2 * s) := by unfold formO; rw [if_pos e]
      refine q d _ (fun b u z => (upd_ne (ne_of_none (m1 _ _ z) nd')).trans (m1 _ _ z)) (m1.free nd') ?_
      rw [e2]
      exact upd_same
    · have e := str_f h
      walk_at "rd"
      refine ⟨(by omega), ?_⟩
      walk_at "rd"
      refine ⟨(by show 3 ≤ sizeLine; decide), fun d nd' => ?_⟩
      have e2 : formO o s (firstM s m) = o % s := by unfold formO; rw [if_neg e]
      refine q d _ (fun b u z => (upd_ne (ne_of_none (m1 _ _ z) nd')).trans (m1 _ _ z)) (m1.free nd') ?_
      rw [e2]
      exact upd_same
end
end HT
namespace HT
open PySem L2
section
variable {P : Program} {w : World} {K : PySem.W.Frag} {mg : Str → Option Value} {base : Heap} {fC fV : Addr} {dC dV : FuncData}
theorem ok_stands {f : Addr} {fd : FuncData} (F : Fun K "stands" "stands" s_stands f fd) (C : Cal P w K mg base "check_side" 3 ["side"] spCheckSide fC dC) (V' : Cal P w K mg base "check_value" 2 ["value"] spCheckValue fV dV) : FnOk P w K mg base CX0 4 f fd ["side", "value"] spStands := by
  refine F.ok sc_stands (fun vs H Q E h => ?_) (fun cdv A outer s H vs Q E hr h => ?_)
  · obtain ⟨p, o, s, m, v, rfl, _⟩ := h
    rfl
  · obtain ⟨p, o, s, m, v, rfl, hp, S, hv, q⟩ := h
    have nd := sc_stands.nd
    refine ⟨_, pss_cons (ps_expr (pcl C hr (by decide) (by rfl) (pa_cons (pv 0) pa_nil)))
      (pss_cons (ps_expr (pcl V' hr (by decide) (by rfl) (pa_cons (pv 1) pa_nil)))
      (pss_cons (ps_asg (pv 0) (pg_tup (by rfl) (pgs_cons (pg_name (i := 2) nd rfl (Or.inl rfl)) (pgs_cons (pg_name (i := 3) nd rfl (Or.inl rfl)) (pgs_cons (pg_name (i := 4) nd rfl (Or.inl rfl)) pgs_nil)))))
      (pss_one (ps_ret (pe_cmpR op_eq (pe_op op_mod (pe_op op_sub (pv 1) (pv 2)) (pv 3)) pe_int (nomark _)))))), ?_⟩
    walk_at "rd"
    refine ⟨p, o, s, m, rfl, hp, S, ?_⟩
    walk_at "rd"
    refine ⟨p, _, rfl, SqT.of hp, rfl, _, _, rfl, _, _, rfl, _, _, rfl, rfl, ?_⟩
    walk_at "rd"
    have b2 := S.s0
    refine ⟨(by omega), ?_⟩
    walk_at "rd"
    have q' : Q (.bl (decide ((v - o) % s = 0))) H := q H (Same.refl H)
    rw [← dec_int] at q'
    exact ⟨rfl, q'⟩
end
end HT
namespace HT
open PySem L2
section
variable {P : Program} {w : World} {K : PySem.W.Frag} {mg : Str → Option Value} {base : Heap}
/-- both promises of a def -/
theorem or_ok {CX : CXT} {k : Nat} {f : Addr} {fd : FuncData} {ps : List Str} {sp sp' : Sp} (F : FnOk P w K mg base CX k f fd ps sp) (G : FnOk P w K mg base CX k f fd ps sp') : FnOk P w K mg base CX k f fd ps (fun vs H Q E => sp vs H Q E ∨ sp' vs H Q E) :=
  ⟨fun vs H Q E h => h.elim (F.len vs H Q E) (G.len vs H Q E), fun A outer s H args us vs Q E hr he hb hv hs => hs.elim (F.run A outer s H args us vs Q E hr he hb hv) (G.run A outer s H args us vs Q E hr he hb hv)⟩
end
end HT
namespace HT
open PySem L2
section
variable {P : Program} {w : World} {K : PySem.W.Frag} {mg : Str → Option Value} {base : Heap}
/-- a def that lets nothing out keeps its promise among errors too -/
theorem to_x {k : Nat} {f : Addr} {fd : FuncData} {ps : List Str} {sp : Sp} (F : FnOk P w K mg base CX0 k f fd ps sp) : FnOk P w K mg base (L2.CX P w) k f fd ps sp :=
  ⟨F.len, fun A outer s H args us vs Q E hr he hb hv hs => codeAny_mono (F.run A outer s H args us vs Q E hr he hb hv hs) fun r s' h => by
    unfold CR at h ⊢
    split at h
    · exact h
    · exact h
    · exact h.elim⟩
def spNo : Sp := fun _ _ _ _ => False
end
end HT
namespace HT
open PySem L2
/-- a thing of any kind, with its type's name -/
inductive Th (H : Hp) : V → String → Prop where
  | int (i : Int) : Th H (.int i) "int"
  | bl (b : Bool) : Th H (.bl b) "bool"
  | non : Th H .non "NoneType"
  | str (s : Str) : Th H (.str s) "str"
  | tup {p : Addr} {xs : List V} (h : H p = some (.tup xs)) : Th H (.ref p) "tuple"
  | lst {p : Addr} {xs : List V} (h : H p = some (.lst xs)) : Th H (.ref p) "list"
  | dk {p : Addr} {kvs : List (Key × V)} (h : H p = some (.dK kvs)) : Th H (.ref p) "dict"
theorem Th.ty {K : PySem.W.Frag} {H : Hp} {x : V} {n : String} (t : Th H x n) : TyX K H x (.type n) := by
  cases t with
  | int i => exact .base (.int i)
  | bl b => exact .base (.bl b)
  | non => exact .base .non
  | str s => exact .base (.str s)
  | tup h => exact .base (.tup h)
  | lst h => exact .base (.lst h)
  | dk h => exact .base (.dK h)
theorem Th.kint {K : PySem.W.Frag} {H : Hp} {x : V} {n : String} (t : Th H x n) : PySem.W.kitOne K (.type n) (.type "int") = some (n == "int" || n == "bool") := by
  cases t <;> exact kit_ty (by decide +kernel)
theorem Th.kbool {K : PySem.W.Frag} {H : Hp} {x : V} {n : String} (t : Th H x n) : PySem.W.kitOne K (.type n) (.type "bool") = some (n == "bool") := by
  cases t <;> exact kit_ty (by decide +kernel)
theorem Th.ktup {K : PySem.W.Frag} {H : Hp} {x : V} {n : String} (t : Th H x n) : PySem.W.kitOne K (.type n) (.type "tuple") = some (n == "tuple") := by
  cases t <;> exact kit_ty (by decide +kernel)
theorem Th.klst {K : PySem.W.Frag} {H : Hp} {x : V} {n : String} (t : Th H x n) : PySem.W.kitOne K (.type n) (.type "list") = some (n == "list") := by
  cases t <;> exact kit_ty (by decide +kernel)
theorem Th.same {H H' : Hp} {x : V} {n : String} (t : Th H x n) (s : Same H H') : Th H' x n := by
  cases t with
  | int i => exact .int i
  | bl b => exact .bl b
  | non => exact .non
  | str x => exact .str x
  | tup h => exact .tup (s _ _ h)
  | lst h => exact .lst (s _ _ h)
  | dk h => exact .dk (s _ _ h)
def isI (n : String) : Bool := n == "int"
def spIsAny : Sp := fun vs H Q _ => ∃ (x : V) (n : String), vs = [x] ∧ Th H x n ∧ Q (.bl (isI n)) H
/-- an int between the ends -/
def inB (x : V) (a b : Int) : Bool := match x with
  | .int i => decide (a ≤ i) && decide (i ≤ b)
  | _ => false
def spBetAny : Sp := fun vs H Q _ => ∃ (x : V) (n : String) (a b : Int), vs = [x, .int a, .int b] ∧ Th H x n ∧ Q (.bl (inB x a b)) H
/-- the names that the text of checks does not bind -/
structure ChkT (mg : Str → Option Value) : Prop where
  isi : mg "isinstance" = none
  int : mg "int" = none
  bool : mg "bool" = none
  tuple : mg "tuple" = none
  list : mg "list" = none
  len : mg "len" = none
section
variable {P : Program} {w : World} {K : PySem.W.Frag} {mg : Str → Option Value} {base : Heap} {fI : Addr} {dI : FuncData}
theorem ok_is_any {f : Addr} {fd : FuncData} (F : Fun K "is_int" "is_int" s_is_int f fd) (T : ChkT mg) : FnOk P w K mg base CX0 1 f fd ["thing"] spIsAny := by
  refine F.ok sc_is_int (fun vs H Q E h => ?_) (fun cdv A outer s H vs Q E hr h => ?_)
  · obtain ⟨x, n, rfl, _⟩ := h
    rfl
  · obtain ⟨x, n, rfl, t, q⟩ := h
    refine ⟨_, pss_one (ps_ret (pe_and (pe_callB call_isi (by rfl) T.isi (by decide +kernel) (pa_cons (pv 0) (pa_cons (pe_bltn (v := .ty "int") (by rfl) T.int (by decide +kernel) rfl) pa_nil)))
      (pe_one (pe_not (pe_callB call_isi (by rfl) T.isi (by decide +kernel) (pa_cons (pv 0) (pa_cons (pe_bltn (v := .ty "bool") (by rfl) T.bool (by decide +kernel) rfl) pa_nil))))))), ?_⟩
    walk_at "rd"
    refine ⟨_, _, _, _, _, rfl, .ty "int", t.ty, t.kint, ?_⟩
    walk_at "rd"
    refine ite2 (fun h => ?_) (fun h => ?_)
    · walk_at "rd"
      refine ⟨_, _, _, _, _, rfl, .ty "bool", t.ty, t.kbool, ?_⟩
      walk_at "rd"
      have e : (!(n == "bool")) = isI n := by
        cases t <;> first | rfl | exact absurd h (by decide)
      rw [e]
      exact q
    · have e : isI n = false := by
        cases t <;> first | rfl | exact absurd (by decide) h
      rw [e] at q
      exact q
theorem ok_bet_any {f : Addr} {fd : FuncData} (F : Fun K "is_int_between" "is_int_between" s_is_int_between f fd) (I : Cal P w K mg base "is_int" 1 ["thing"] spIsAny fI dI) : FnOk P w K mg base CX0 2 f fd ["thing", "least", "most"] spBetAny := by
  refine F.ok sc_is_int_between (fun vs H Q E h => ?_) (fun cdv A outer s H vs Q E hr h => ?_)
  · obtain ⟨x, n, a, b, rfl, _⟩ := h
    rfl
  · obtain ⟨x, n, a, b, rfl, t, q⟩ := h
    refine ⟨_, pss_one (ps_ret (pe_and (pcl I hr (by decide) (by rfl) (pa_cons (pv 0) pa_nil)) (pe_one (pe_chain op_le op_le (pv 1) (pv 0) (pv 2))))), ?_⟩
    walk_at "rd"
    refine ⟨x, n, rfl, t, ?_⟩
    cases t with
    | int i =>
      walk_at "rd"
      refine ite2 (fun h => ?_) (fun h => ?_)
      · walk_at "rd"
        change Q (.bl (decide (a ≤ i) && decide (i ≤ b))) H at q
        rw [decide_eq_true (of_decide_eq_true h)] at q
        exact q
      · change Q (.bl (decide (a ≤ i) && decide (i ≤ b))) H at q
        rw [decide_eq_false (of_decide_eq_false (by simpa using h))] at q
        exact q
    | _ => exact ⟨_, rfl, q⟩
end
end HT
namespace HT
open PySem L2
def modesD : List PyData := [.str "down", .str "up", .str "half_down", .str "half_up", .str "half_even"]
/-- a mode's place is taken by something else -/
def NoMode (d : PyData) : Prop := SeqAt.shaped d = true ∧ (modesD.any fun z => PyData.eqv z d) = false
/-- the four classes by number, and their base class at B -/
structure Er (K : PySem.W.Frag) (mg : Str → Option Value) (C : Nat → Addr) (B : Addr) : Prop where
  isi : mg "isinstance" = none
  ve : mg "ValueError" = none
  gB : mg "HandedError" = some (.ref B)
  g0 : mg "InvalidSide" = some (.ref (C 0))
  g1 : mg "InvalidSides" = some (.ref (C 1))
  g2 : mg "TooMany" = some (.ref (C 2))
  g3 : mg "InvalidValue" = some (.ref (C 3))
  kit : ∀ i j, i < 4 → j < 4 → PySem.W.kitOne K (.ref (C i)) (.ref (C j)) = some (decide (i = j))
  kitV : ∀ i, i < 4 → PySem.W.kitOne K (.ref (C i)) (.type "ValueError") = some true
  ec : ∀ i, i < 4 → ErrC K (C i)
  eg : ErrG K
  ex : ∀ i, i < 4 → PySem.W.excIn K (C i) [.type "ValueError", .type "Exception", .type "BaseException", .type "object"] "ValueError.__new__" = true
  kp : ∀ i, i < 4 → PySem.W.keepIn K (.ref (C i)) = true
  sb : ∀ i, i < 4 → PySem.W.subIn K (.ref (C i)) (.type "BaseException") = some true
  ty : ∀ i, i < 4 → PySem.W.typeIn K (.ref (C i)) = some (.type "type")
  emB : ∀ i, i < 4 → PySem.W.exmOne K (.ref (C i)) (.ref B) = some true
  em0 : PySem.W.exmOne K (.ref (C 0)) (.ref (C 0)) = some true
/-- flat data, and a list of one text -/
inductive Fl (H : Hp) : V → PyData → Prop where
  | non : Fl H .non .none
  | bl (b : Bool) : Fl H (.bl b) (.bool b)
  | int (i : Int) : Fl H (.int i) (.int i)
  | str (s : Str) : Fl H (.str s) (.str s)
  | one {l : Addr} {s : Str} (h : H l = some (.lst [.str s])) : Fl H (.ref l) (.list [.str s])
theorem Fl.dp {K : PySem.W.Frag} {H : Hp} {c : V} {d : PyData} (f : Fl H c d) : Dp K H c d := by
  cases f with
  | non => exact .non
  | bl b => exact .bl b
  | int i => exact .int i
  | str s => exact .str s
  | one h => exact .lst (SqL.of h) (.cons (.str _) .nil)
theorem Fl.same {H H' : Hp} {c : V} {d : PyData} (f : Fl H c d) (s : Same H H') : Fl H' c d := by
  cases f with
  | non => exact .non
  | bl b => exact .bl b
  | int i => exact .int i
  | str x => exact .str x
  | one h => exact .one (s _ _ h)
/-- no side -/
inductive BadS (K : PySem.W.Frag) (H : Hp) : V → Prop where
  | kind {x : V} {n : String} (t : Th H x n) (h : (n == "tuple") = false) : BadS K H x
  | len {p : Addr} {xs : List V} (hp : H p = some (.tup xs)) (h : ¬ xs.length = 3) : BadS K H (.ref p)
  | off {p : Addr} {a b c : V} {n : String} (hp : H p = some (.tup [a, b, c])) (t : Th H a n) (h : inB a (-10 ^ 40) (10 ^ 40) = false) : BadS K H (.ref p)
  | stp {p : Addr} {a b c : V} {n m : String} (hp : H p = some (.tup [a, b, c])) (t : Th H a n) (h : inB a (-10 ^ 40) (10 ^ 40) = true) (u : Th H b m) (g : inB b 1 (10 ^ 30) = false) : BadS K H (.ref p)
  | mod {p : Addr} {a b c : V} {n m : String} {d : PyData} (hp : H p = some (.tup [a, b, c])) (t : Th H a n) (h : inB a (-10 ^ 40) (10 ^ 40) = true) (u : Th H b m) (g : inB b 1 (10 ^ 30) = true) (dp : Fl H c d) (hd : NoMode d) : BadS K H (.ref p)
theorem BadS.same {K : PySem.W.Frag} {H H' : Hp} {x : V} (b : BadS K H x) (e : Same H H') : BadS K H' x := by
  cases b with
  | kind t h => exact .kind (t.same e) h
  | len hp h => exact .len (e _ _ hp) h
  | off hp t h => exact .off (e _ _ hp) (t.same e) h
  | stp hp t h u g => exact .stp (e _ _ hp) (t.same e) h (u.same e) g
  | mod hp t h u g dp hd => exact .mod (e _ _ hp) (t.same e) h (u.same e) g (dp.same e) hd
def GoodS (H : Hp) (x : V) : Prop := ∃ (p : Addr) (o s : Int) (m : Str), x = .ref p ∧ H p = some (sideV o s m) ∧ SideP o s m
def spValX (C : Nat → Addr) : Sp := fun vs H Q E => ∃ (x : V) (n : String), vs = [x] ∧ Th H x n ∧ (isI n = true → Q .non H) ∧ (isI n = false → E (.ref (C 3)) none H)
def spSideX (K : PySem.W.Frag) (C : Nat → Addr) : Sp := fun vs H Q E => ∃ x : V, vs = [x] ∧ ((GoodS H x ∧ Q .non H) ∨ (BadS K H x ∧ E (.ref (C 0)) none H))
def rNotInT (K : PySem.W.Frag) : R2 := fun x y H Q => ∃ d ds, Dp K H x d ∧ Dp K H y (.tuple ds) ∧ SeqAt.shaped d = true ∧ PyData.canLayAll0 ds = true ∧ PyData.depthAll ds ≤ 60 ∧ Q (.bl (!ds.any fun z => PyData.eqv z d)) H
theorem op_notInT {X : Cx} (hu : X.A.units + 64 < cLine) : OpR X (compareOp .NotIn) (rNotInT X.K) := by
  intro pins sh st H x y v u Q iv rx ry h
  obtain ⟨d, ds, hd, he, sd, se, sz, q⟩ := h
  obtain ⟨as, r1⟩ := Dp.reads iv d x v hd rx
  obtain ⟨bs, r2⟩ := Dp.reads iv (.tuple ds) y u he ry
  refine SeqAt.notIn_tuple_reads r2 r1 se (SeqAt.canLay_of_shaped sd) ?_ ⟨.bl _, H, iv, rfl, q⟩
  have : min (PyData.depthAll ds) d.depth ≤ PyData.depthAll ds := Nat.min_le_left _ _
  omega
/-- the table of modes -/
structure ModT (K : PySem.W.Frag) (mg : Str → Option Value) (aM : Addr) : Prop where
  gM : mg "MODES" = some (.ref aM)
  tM : ∀ H, SqT K H aM modesV
theorem dpModes {K : PySem.W.Frag} {H : Hp} {aM : Addr} (t : SqT K H aM modesV) : Dp K H (.ref aM) (.tuple modesD) := .tup t (.cons (.str _) (.cons (.str _) (.cons (.str _) (.cons (.str _) (.cons (.str _) .nil)))))
theorem mode_inX {m : Str} (h : Mode m) : SeqAt.shaped (.str m) = true ∧ (modesD.any fun z => PyData.eqv z (.str m)) = true := by
  rcases h with e | e | e | e | e <;> subst e <;> decide +kernel
section
variable {P : Program} {w : World} {K : PySem.W.Frag} {mg : Str → Option Value} {base : Heap} {aM fI fB fV fC fL fN fW B : Addr} {dI dB dV dC dL dN dW : FuncData} {C : Nat → Addr}
theorem ok_val_x {f : Addr} {fd : FuncData} (F : Fun K "check_value" "check_value" s_check_value f fd) (R : Er K mg C B) (I : Cal P w K mg base "is_int" 1 ["thing"] spIsAny fI dI) : FnOk P w K mg base (L2.CX P w) 2 f fd ["value"] (spValX C) := by
  refine F.okX sc_check_value (fun vs H Q E h => ?_) (fun cdv A outer s H vs Q E hr h => ?_)
  · obtain ⟨x, n, rfl, _⟩ := h
    rfl
  · obtain ⟨x, n, rfl, t, q1, q2⟩ := h
    refine ⟨_, pss_one (ps_if (pt_not (pt_val (pcl I hr (by decide) (by rfl) (pa_cons (pv 0) pa_nil)))) (pss_one (ps_raise rfl (takes_of rfl rfl rfl rfl) (pmk_own PySem.F.excBase_ValueError (R.ex 3 (by decide)) R.g3 (R.kp 3 (by decide)) (raises_own (R.sb 3 (by decide)) (R.ty 3 (by decide))) (by rfl)))) pss_nil), ?_⟩
    walk_at "rd"
    refine ⟨x, n, rfl, t, ?_⟩
    walk_at "rd"
    refine ite2 (fun h => ?_) (fun h => ?_)
    · exact q2 (by simpa using h)
    · exact q1 (not_f h)
end
end HT
namespace HT
open PySem L2
section
variable {P : Program} {w : World} {K : PySem.W.Frag} {mg : Str → Option Value} {base : Heap} {aM fI fB fV fC fL fN fW B : Addr} {dI dB dV dC dL dN dW : FuncData} {C : Nat → Addr}
theorem ok_side_x {f : Addr} {fd : FuncData} (F : Fun K "check_side" "check_side" s_check_side f fd) (T : ChkT mg) (M : ModT K mg aM) (R : Er K mg C B) (Bt : Cal P w K mg base "is_int_between" 2 ["thing", "least", "most"] spBetAny fB dB) : FnOk P w K mg base (L2.CX P w) 3 f fd ["side"] (spSideX K C) := by
  refine F.okAny sc_check_side (fun vs H Q E h => ?_) (fun cdv A outer s0 H vs Q E hr h => ?_)
  · obtain ⟨x, rfl, _⟩ := h
    rfl
  · obtain ⟨x, rfl, h⟩ := h
    have nd := sc_check_side.nd
    refine ⟨_, pss_cons (ps_if (PW.pt (pw_or (pt_not (pt_val (pe_callB call_isi (by rfl) T.isi (by decide +kernel) (pa_cons (pv 0) (pa_cons (pe_bltn (v := .ty "tuple") (by rfl) T.tuple (by decide +kernel) rfl) pa_nil)))))
        (pw_or1 (pt_cmpR op_ne (pe_callB call_len_seq (by rfl) T.len PySem.boot_len (pa_cons (pv 0) pa_nil)) pe_int (nomark _))))) (pss_one (ps_raise rfl (takes_of rfl rfl rfl rfl) (pmk_own PySem.F.excBase_ValueError (R.ex 0 (by decide)) R.g0 (R.kp 0 (by decide)) (raises_own (R.sb 0 (by decide)) (R.ty 0 (by decide))) (by rfl)))) pss_nil)
      (pss_cons (ps_asg (pv 0) (pg_tup (by rfl) (pgs_cons (pg_name (i := 1) nd rfl (Or.inl rfl)) (pgs_cons (pg_name (i := 2) nd rfl (Or.inl rfl)) (pgs_cons (pg_name (i := 3) nd rfl (Or.inl rfl)) pgs_nil)))))
      (pss_cons (ps_if (pt_not (pt_val (pcl Bt hr (by decide) (by rfl) (pa_cons (pv 1) (pa_cons (pe_un un_neg (pe_op op_pow pe_int pe_int)) (pa_cons (pe_op op_pow pe_int pe_int) pa_nil)))))) (pss_one (ps_raise rfl (takes_of rfl rfl rfl rfl) (pmk_own PySem.F.excBase_ValueError (R.ex 0 (by decide)) R.g0 (R.kp 0 (by decide)) (raises_own (R.sb 0 (by decide)) (R.ty 0 (by decide))) (by rfl)))) pss_nil)
      (pss_cons (ps_if (pt_not (pt_val (pcl Bt hr (by decide) (by rfl) (pa_cons (pv 2) (pa_cons pe_int (pa_cons (pe_op op_pow pe_int pe_int) pa_nil)))))) (pss_one (ps_raise rfl (takes_of rfl rfl rfl rfl) (pmk_own PySem.F.excBase_ValueError (R.ex 0 (by decide)) R.g0 (R.kp 0 (by decide)) (raises_own (R.sb 0 (by decide)) (R.ty 0 (by decide))) (by rfl)))) pss_nil)
      (pss_one (ps_if (pt_cmpR (op_notInT hr.units) (pv 3) (pe_glob (v := .ref aM) (by rfl) M.gM rfl) (by rfl)) (pss_one (ps_raise rfl (takes_of rfl rfl rfl rfl) (pmk_own PySem.F.excBase_ValueError (R.ex 0 (by decide)) R.g0 (R.kp 0 (by decide)) (raises_own (R.sb 0 (by decide)) (R.ty 0 (by decide))) (by rfl)))) pss_nil))))), ?_⟩
    walk_at "rd"
    rcases h with ⟨⟨p, o, s, m, rfl, hp, S⟩, q⟩ | ⟨bad, q⟩
    · refine ⟨_, _, _, _, _, rfl, .ty "tuple", .base (.tup hp), kit_ty (r := true) (by decide +kernel), ?_⟩
      walk_at "rd"
      refine ⟨p, _, rfl, .inr (SqT.of hp), rfl, ?_⟩
      walk_at "rd"
      refine ⟨p, _, rfl, SqT.of hp, rfl, _, _, rfl, _, _, rfl, _, _, rfl, rfl, ?_⟩
      walk_at "rd"
      refine ⟨⟨by decide, by decide, by decide⟩, ?_⟩
      walk_at "rd"
      refine ⟨⟨by decide, by decide, by decide⟩, _, _, _, _, rfl, .int o, ?_⟩
      have e1 : inB (.int o) (-(10 : Int) ^ (40 : Int).toNat) ((10 : Int) ^ (40 : Int).toNat) = true := by
        show (decide (-(10 : Int) ^ (40 : Int).toNat ≤ o) && decide (o ≤ (10 : Int) ^ (40 : Int).toNat)) = true
        rw [decide_eq_true (show -(10 : Int) ^ (40 : Int).toNat ≤ o from S.o0), decide_eq_true (show o ≤ (10 : Int) ^ (40 : Int).toNat from S.o1)]
        rfl
      refine ⟨_, rfl, ?_⟩
      refine ite2 (fun h => (not_t h e1).elim) (fun _ => ?_)
      walk_at "rd"
      refine ⟨⟨by decide, by decide, by decide⟩, _, _, _, _, rfl, .int s, ?_⟩
      have e2 : inB (.int s) 1 ((10 : Int) ^ (30 : Int).toNat) = true := by
        show (decide ((1 : Int) ≤ s) && decide (s ≤ (10 : Int) ^ (30 : Int).toNat)) = true
        rw [decide_eq_true S.s0, decide_eq_true (show s ≤ (10 : Int) ^ (30 : Int).toNat from S.s1)]
        rfl
      refine ⟨_, rfl, ?_⟩
      refine ite2 (fun h => (not_t h e2).elim) (fun _ => ?_)
      walk_at "rd"
      refine ⟨_, _, .str m, dpModes (M.tM H), (mode_inX S.md).1, by decide +kernel, by decide +kernel, ?_⟩
      walk_at "rd"
      refine ite2 (fun h => (not_t h (mode_inX S.md).2).elim) (fun _ => ?_)
      exact q
    · cases bad with
      | kind t h =>
        refine ⟨_, _, _, _, _, rfl, .ty "tuple", t.ty, t.ktup, ?_⟩
        walk_at "rd"
        refine ite2 (fun _ => ?_) (fun z => absurd (by rw [h]; rfl) z)
        exact q
      | len hp h =>
        refine ⟨_, _, _, _, _, rfl, .ty "tuple", .base (.tup hp), kit_ty (r := true) (by decide +kernel), ?_⟩
        walk_at "rd"
        refine ⟨_, _, rfl, .inr (SqT.of hp), ?_⟩
        walk_at "rd"
        refine ⟨rfl, ?_⟩
        walk_at "rd"
        refine ite2 (fun _ => q) (fun z => absurd ?_ z)
        rw [dec_int, decide_eq_false (fun y => h (by omega))]
        rfl
      | off hp t h =>
        refine ⟨_, _, _, _, _, rfl, .ty "tuple", .base (.tup hp), kit_ty (r := true) (by decide +kernel), ?_⟩
        walk_at "rd"
        refine ⟨_, _, rfl, .inr (SqT.of hp), rfl, ?_⟩
        walk_at "rd"
        refine ⟨_, _, rfl, SqT.of hp, rfl, _, _, rfl, _, _, rfl, _, _, rfl, rfl, ?_⟩
        walk_at "rd"
        refine ⟨⟨by decide, by decide, by decide⟩, ?_⟩
        walk_at "rd"
        refine ⟨⟨by decide, by decide, by decide⟩, _, _, _, _, rfl, t, ?_⟩
        refine ⟨_, rfl, ?_⟩
        exact ite2 (fun _ => q) (fun z => absurd (by rw [show inB _ (-(10 : Int) ^ (40 : Int).toNat) ((10 : Int) ^ (40 : Int).toNat) = false from h]; rfl) z)
      | stp hp t h u g =>
        refine ⟨_, _, _, _, _, rfl, .ty "tuple", .base (.tup hp), kit_ty (r := true) (by decide +kernel), ?_⟩
        walk_at "rd"
        refine ⟨_, _, rfl, .inr (SqT.of hp), rfl, ?_⟩
        walk_at "rd"
        refine ⟨_, _, rfl, SqT.of hp, rfl, _, _, rfl, _, _, rfl, _, _, rfl, rfl, ?_⟩
        walk_at "rd"
        refine ⟨⟨by decide, by decide, by decide⟩, ?_⟩
        walk_at "rd"
        refine ⟨⟨by decide, by decide, by decide⟩, _, _, _, _, rfl, t, ?_⟩
        refine ⟨_, rfl, ?_⟩
        refine ite2 (fun z => (not_t z (show inB _ (-(10 : Int) ^ (40 : Int).toNat) ((10 : Int) ^ (40 : Int).toNat) = true from h)).elim) (fun _ => ?_)
        walk_at "rd"
        refine ⟨⟨by decide, by decide, by decide⟩, _, _, _, _, rfl, u, ?_⟩
        refine ⟨_, rfl, ?_⟩
        exact ite2 (fun _ => q) (fun z => absurd (by rw [show inB _ 1 ((10 : Int) ^ (30 : Int).toNat) = false from g]; rfl) z)
      | mod hp t h u g dp hd =>
        refine ⟨_, _, _, _, _, rfl, .ty "tuple", .base (.tup hp), kit_ty (r := true) (by decide +kernel), ?_⟩
        walk_at "rd"
        refine ⟨_, _, rfl, .inr (SqT.of hp), rfl, ?_⟩
        walk_at "rd"
        refine ⟨_, _, rfl, SqT.of hp, rfl, _, _, rfl, _, _, rfl, _, _, rfl, rfl, ?_⟩
        walk_at "rd"
        refine ⟨⟨by decide, by decide, by decide⟩, ?_⟩
        walk_at "rd"
        refine ⟨⟨by decide, by decide, by decide⟩, _, _, _, _, rfl, t, ?_⟩
        refine ⟨_, rfl, ?_⟩
        refine ite2 (fun z => (not_t z (show inB _ (-(10 : Int) ^ (40 : Int).toNat) ((10 : Int) ^ (40 : Int).toNat) = true from h)).elim) (fun _ => ?_)
        walk_at "rd"
        refine ⟨⟨by decide, by decide, by decide⟩, _, _, _, _, rfl, u, ?_⟩
        refine ⟨_, rfl, ?_⟩
        refine ite2 (fun z => (not_t z (show inB _ 1 ((10 : Int) ^ (30 : Int).toNat) = true from g)).elim) (fun _ => ?_)
        walk_at "rd"
        refine ⟨_, _, dp.dp, dpModes (M.tM H), hd.1, by decide +kernel, by decide +kernel, ?_⟩
        walk_at "rd"
        refine ite2 (fun _ => q) (fun z => absurd (by rw [hd.2]; rfl) z)
end
end HT
namespace HT
open PySem L2
def GoodL (H : Hp) (l : Addr) (xs : List V) : Prop := H l = some (.lst xs) ∧ 1 ≤ xs.length ∧ xs.length ≤ 4 ∧ ∀ y ∈ xs, GoodS H y
/-- no list of sides -/
inductive BadL (K : PySem.W.Frag) (H : Hp) : V → Prop where
  | kind {x : V} {n : String} (t : Th H x n) (h : (n == "list") = false) : BadL K H x
  | len {l : Addr} {xs : List V} (hl : H l = some (.lst xs)) (h : ¬ (1 ≤ xs.length ∧ xs.length ≤ 4)) : BadL K H (.ref l)
  | item {l : Addr} {xs : List V} {i : Nat} {y : V} (hl : H l = some (.lst xs)) (h1 : 1 ≤ xs.length) (h2 : xs.length ≤ 4) (hi : xs[i]? = some y) (bad : BadS K H y) (good : ∀ j z, j < i → xs[j]? = some z → GoodS H z) : BadL K H (.ref l)
def spIsSideX (K : PySem.W.Frag) : Sp := fun vs H Q _ => ∃ x : V, vs = [x] ∧ ((GoodS H x ∧ Q (.bl true) H) ∨ (BadS K H x ∧ Q (.bl false) H))
def spSidesX (K : PySem.W.Frag) (C : Nat → Addr) : Sp := fun vs H Q E => ∃ x : V, vs = [x] ∧ ((∃ l xs, x = .ref l ∧ GoodL H l xs ∧ Q .non H) ∨ (BadL K H x ∧ E (.ref (C 1)) none H))
/-- the numbers of among's top -/
structure AmT (mg : Str → Option Value) : Prop where
  ms : ∃ t, mg "MOST_SIDES" = some (.int 4 t)
section
variable {P : Program} {w : World} {K : PySem.W.Frag} {mg : Str → Option Value} {base : Heap} {aM fI fB fV fC fL fN fW B : Addr} {dI dB dV dC dL dN dW : FuncData} {C : Nat → Addr}
theorem ok_is_side_x {f : Addr} {fd : FuncData} (F : Fun K "is_side" "is_side" s_is_side f fd) (R : Er K mg C B) (Ck : CalX P w K mg base "check_side" 3 ["side"] (spSideX K C) fC dC) : FnOk P w K mg base CX0 4 f fd ["thing"] (spIsSideX K) := by
  refine F.ok sc_is_side (fun vs H Q E h => ?_) (fun cdv A outer s0 H vs Q E hr h => ?_)
  · obtain ⟨x, rfl, _⟩ := h
    rfl
  · obtain ⟨x, rfl, h⟩ := h
    refine ⟨_, pss_cons (ps_try_only rfl rfl ⟨rfl, by decide, .inl R.g0⟩ takes0 (fun W pn xe tk _ => pss_one (ps_expr (pcx Ck hr (by decide) (by rfl) tk (pa_cons (pv 0) pa_nil)))) (fun a oe cls d pn _ _ => pss_one (ps_ret pe_bl))) (pss_one (ps_ret pe_bl)), ?_⟩
    walk_at "rd"
    rcases h with ⟨good, q⟩ | ⟨bad, q⟩
    · refine .inl ⟨good, ?_⟩
      walk_at "rd"
      exact q
    · refine .inr ⟨bad, ?_⟩
      exact ⟨true, R.em0, fun _ a ha => q, fun z => Bool.noConfusion z⟩
theorem ok_sides_x {f : Addr} {fd : FuncData} (F : Fun K "check_sides" "check_sides" s_check_sides f fd) (T : ChkT mg) (A' : AmT mg) (R : Er K mg C B) (Ck : Cal P w K mg base "is_side" 4 ["thing"] (spIsSideX K) fC dC) : FnOk P w K mg base (L2.CX P w) 5 f fd ["sides"] (spSidesX K C) := by
  refine F.okAny sc_check_sides (fun vs H Q E h => ?_) (fun cdv A outer s0 H vs Q E hr h => ?_)
  · obtain ⟨x, rfl, _⟩ := h
    rfl
  · obtain ⟨x, rfl, h⟩ := h
    have nd := sc_check_sides.nd
    obtain ⟨tms, hms⟩ := A'.ms
    refine ⟨_, pss_cons (ps_if (PW.pt (pw_or (pt_not (pt_val (pe_callB call_isi (by rfl) T.isi (by decide +kernel) (pa_cons (pv 0) (pa_cons (pe_bltn (v := .ty "list") (by rfl) T.list (by decide +kernel) rfl) pa_nil)))))
        (pw_or1 (pt_not (pt_chain op_le op_le pe_int (pe_callB call_len_seq (by rfl) T.len PySem.boot_len (pa_cons (pv 0) pa_nil)) (pe_glob (v := .int 4) (by rfl) hms ⟨_, rfl⟩)))))) (pss_one (ps_raise rfl (takes_of rfl rfl rfl rfl) (pmk_own PySem.F.excBase_ValueError (R.ex 1 (by decide)) R.g1 (R.kp 1 (by decide)) (raises_own (R.sb 1 (by decide)) (R.ty 1 (by decide))) (by rfl)))) pss_nil)
      (pss_one (ps_for (passes_of rfl) rfl (pi_list (pv 0)) (pg_name (i := 1) nd rfl (Or.inl rfl))
        (pss_one (ps_if (pt_not (pt_val (pcl Ck hr (by decide) (by rfl) (pa_cons (pv 1) pa_nil)))) (pss_one (ps_raise rfl (takes_of rfl rfl rfl rfl) (pmk_own PySem.F.excBase_ValueError (R.ex 1 (by decide)) R.g1 (R.kp 1 (by decide)) (raises_own (R.sb 1 (by decide)) (R.ty 1 (by decide))) (by rfl)))) pss_nil)))), ?_⟩
    walk_at "rd"
    rcases h with ⟨l, xs, rfl, ⟨hl, l1, l4, good⟩, q⟩ | ⟨bad, q⟩
    · refine ⟨_, _, _, _, _, rfl, .ty "list", .base (.lst hl), kit_ty (r := true) (by decide +kernel), ?_⟩
      walk_at "rd"
      refine ⟨l, _, rfl, .inl (SqL.of hl), ?_⟩
      walk_at "rd"
      refine ite2 (fun _ => ?_) (fun z => absurd (decide_eq_true (by omega)) z)
      walk_at "rd"
      refine ite2 (fun z => ?_) (fun _ => ?_)
      · exfalso
        have e : decide ((xs.length : Int) ≤ 4) = true := decide_eq_true (by omega)
        exact not_t z e
      walk_at "rd"
      refine ⟨⟨_, SqL.of hl⟩, ?_⟩
      refine for_list (K := K) (a := l) (xs := xs) (fun i σ H' => ∃ y : Option V, σ = [some (.ref l), y] ∧ H' = H) ⟨none, rfl, rfl⟩ (fun _ _ _ _ ⟨_, _, e⟩ => e ▸ SqL.of hl) ?_ ?_
      · rintro i y σ H' hy ⟨z, rfl, rfl⟩
        walk_at "rd"
        refine .inl ⟨good y (List.mem_of_getElem? hy), _, rfl, ?_⟩
        refine ite2 (fun z => (not_t z rfl).elim) (fun _ => ?_)
        exact ⟨_, rfl, rfl⟩
      · rintro σ H' ⟨z, rfl, rfl⟩
        exact q
    · cases bad with
      | kind t h =>
        refine ⟨_, _, _, _, _, rfl, .ty "list", t.ty, t.klst, ?_⟩
        walk_at "rd"
        refine ite2 (fun _ => ?_) (fun z => absurd (by rw [h]; rfl) z)
        exact q
      | @len l xs hl h =>
        refine ⟨_, _, _, _, _, rfl, .ty "list", .base (.lst hl), kit_ty (r := true) (by decide +kernel), ?_⟩
        walk_at "rd"
        refine ⟨l, _, rfl, .inl (SqL.of hl), ?_⟩
        walk_at "rd"
        refine ite2 (fun z1 => ?_) (fun z1 => ?_)
        · have z1' := of_decide_eq_true z1
          walk_at "rd"
          refine ite2 (fun _ => q) (fun z => absurd ?_ z)
          have e : decide ((xs.length : Int) ≤ 4) = false := decide_eq_false (by omega)
          rw [e]
          rfl
        · walk_at "rd"
          exact q
      | @item l xs i0 y0 hl l1 l4 hi bad good =>
        refine ⟨_, _, _, _, _, rfl, .ty "list", .base (.lst hl), kit_ty (r := true) (by decide +kernel), ?_⟩
        walk_at "rd"
        refine ⟨l, _, rfl, .inl (SqL.of hl), ?_⟩
        walk_at "rd"
        refine ite2 (fun _ => ?_) (fun z => absurd (decide_eq_true (by omega)) z)
        walk_at "rd"
        refine ite2 (fun z => ?_) (fun _ => ?_)
        · exfalso
          have e : decide ((xs.length : Int) ≤ 4) = true := decide_eq_true (by omega)
          exact not_t z e
        walk_at "rd"
        refine ⟨⟨_, SqL.of hl⟩, ?_⟩
        have i0l : i0 < xs.length := (List.getElem?_eq_some_iff.mp hi).1
        refine for_list (K := K) (a := l) (xs := xs) (fun i σ H' => ∃ y : Option V, σ = [some (.ref l), y] ∧ H' = H ∧ i ≤ i0) ⟨none, rfl, rfl, Nat.zero_le _⟩ (fun _ _ _ _ ⟨_, _, e, _⟩ => e ▸ SqL.of hl) ?_ ?_
        · rintro i y σ H' hy ⟨z, rfl, rfl, le⟩
          walk_at "rd"
          rcases Nat.lt_or_eq_of_le le with lt | eq
          · refine .inl ⟨good i y lt hy, _, rfl, ?_⟩
            refine ite2 (fun z => (not_t z rfl).elim) (fun _ => ?_)
            exact ⟨_, rfl, rfl, lt⟩
          · subst eq
            have ey : y = y0 := by rw [hi] at hy; exact (Option.some.inj hy).symm
            subst ey
            refine .inr ⟨bad, _, rfl, ?_⟩
            refine ite2 (fun _ => ?_) (fun z => absurd rfl z)
            exact q
        · rintro σ H' ⟨z, rfl, rfl, le⟩
          omega
end
end HT
namespace HT
open PySem L2
/-- an instance of the class of sides: its tuple and its form -/
def SideI (C : Addr) (H : Hp) (x : Addr) (o s : Int) (m : Str) : Prop := ∃ dx p q : Addr, H x = some (.ins C dx [("_data", .ref p), ("_form", .ref q)]) ∧ H p = some (sideV o s m) ∧ H q = some (sideV (formO o s (firstM s m)) s (firstM s m)) ∧ SideP o s m
theorem SideI.same {C : Addr} {H H' : Hp} {x : Addr} {o s : Int} {m : Str} (h : SideI C H x o s m) (e : Same H H') : SideI C H' x o s m :=
  let ⟨dx, p, q, a, b, c, d⟩ := h; ⟨dx, p, q, e _ _ a, e _ _ b, e _ _ c, d⟩
def spSInit (C : Addr) : Sp := fun vs H Q _ => ∃ (x dx p : Addr) (o s : Int) (m : Str), vs = [.ref x, .ref p] ∧ H x = some (.ins C dx []) ∧ H p = some (sideV o s m) ∧ SideP o s m ∧
  ∀ H', (∀ b u, b ≠ x → H b = some u → H' b = some u) → SideI C H' x o s m → Q .non H'
section
variable {P : Program} {w : World} {K : PySem.W.Frag} {mg : Str → Option Value} {base : Heap} {C fC fM fH : Addr} {dC dM dH : FuncData}
theorem ok_S_init {f : Addr} {fd : FuncData} (F : Fun K "__init__" "Side.__init__" s_S_init f fd) (c : Cls K C) (n1 : NoAttr K C "_data") (n2 : NoAttr K C "_form") (Ck : Cal P w K mg base "check_side" 3 ["side"] spCheckSide fC dC) (Fm : Cal P w K mg base "form" 4 ["side"] spForm fM dM) : FnOk P w K mg base CX0 5 f fd ["self", "data"] (spSInit C) := by
  refine F.ok sc_S_init (fun vs H Q E h => ?_) (fun cdv A outer s0 H vs Q E hr h => ?_)
  · obtain ⟨x, dx, p, o, s, m, rfl, _⟩ := h
    rfl
  · obtain ⟨x, dx, p, o, s, m, rfl, hx, hp, S, q⟩ := h
    have nd := sc_S_init.nd
    refine ⟨_, pss_cons (ps_expr (pcl Ck hr (by decide) (by rfl) (pa_cons (pv 1) pa_nil)))
      (pss_cons (ps_fld (pv 0) (pv 1) (by rfl))
      (pss_one (ps_fld (pv 0) (pcl Fm hr (by decide) (by rfl) (pa_cons (pv 1) pa_nil)) (by rfl)))), ?_⟩
    walk_at "rd"
    refine ⟨p, o, s, m, rfl, hp, S, ?_⟩
    walk_at "rd"
    refine ⟨x, C, dx, [], rfl, hx, c, n1, by decide, ?_⟩
    have nxp : x ≠ p := ne_of hx hp (by intro z; cases z)
    have hp1 := (upd_ne (o := .ins C dx (putF "_data" (.ref p) [])) nxp.symm).trans hp
    have hx1 : upd H x (.ins C dx (putF "_data" (.ref p) [])) x = some (.ins C dx (putF "_data" (.ref p) [])) := upd_same
    walk_at "rd"
    refine ⟨p, o, s, m, rfl, hp1, S, fun d H' s1 nd' hd => ?_⟩
    walk_at "rd"
    refine ⟨x, C, dx, _, rfl, s1 _ _ hx1, c, n2, (by show 1 < 1000; decide), ?_⟩
    have ndx : d ≠ x := fun e => by rw [e, hx1] at nd'; cases nd'
    refine q _ (fun b u hb e => (upd_ne hb).trans (s1 _ _ ((upd_ne hb).trans e))) ⟨dx, p, d, upd_same, (upd_ne nxp.symm).trans (s1 _ _ hp1), (upd_ne ndx).trans hd, S⟩
/-- a new side by a call of its class -/
theorem make_side {H : Hp} {p : Addr} {o s : Int} {m : Str} {Q : VK} {E : XK} (hp : H p = some (sideV o s m)) (S : SideP o s m) (q : ∀ x H', H x = none → Same H H' → SideI C H' x o s m → Q (.ref x) H') :
    ∀ x dx, H x = none → H dx = none → dx ≠ x → spSInit C (.ref x :: ([.ref p] ++ [])) (upd (upd H dx (.own x)) x (.ins C dx [])) (fun v H2 => v = .non ∧ Q (.ref x) H2) E := by
  intro x dx hx hdx ne
  have npx : p ≠ x := ne_of_none hp hx
  have npd : p ≠ dx := ne_of_none hp hdx
  refine ⟨x, dx, p, o, s, m, rfl, upd_same, (upd_ne npx).trans ((upd_ne npd).trans hp), S, fun H' sm I => ⟨rfl, q x H' hx (fun b u z => ?_) I⟩⟩
  exact sm b u (ne_of_none z hx) ((upd_ne (ne_of_none z hx)).trans ((upd_ne (ne_of_none z hdx)).trans z))
/-- the side's tuple -/
def spSData (C : Addr) : Sp := fun vs H Q _ => ∃ (x dx p q : Addr), vs = [.ref x] ∧ H x = some (.ins C dx [("_data", .ref p), ("_form", .ref q)]) ∧ Q (.ref p) H
theorem ok_S_data {f : Addr} {fd : FuncData} (F : Fun K "data" "Side.data" s_S_data f fd) (c : Cls K C) (n1 : NoAttr K C "_data") : FnOk P w K mg base CX0 1 f fd ["self"] (spSData C) := by
  refine F.ok sc_S_data (fun vs H Q E h => ?_) (fun cdv A outer s0 H vs Q E hr h => ?_)
  · obtain ⟨x, dx, p, q, rfl, _⟩ := h
    rfl
  · obtain ⟨x, dx, p, q, rfl, hx, k⟩ := h
    refine ⟨_, pss_one (ps_ret (pe_fld (pv 0) rfl)), ?_⟩
    walk_at "rd"
    exact ⟨x, C, dx, _, .ref p, rfl, hx, c, n1, rfl, k⟩
/-- what a side writes -/
def spSCall (C : Addr) : Sp := fun vs H Q _ => ∃ (x : Addr) (o s : Int) (m : Str) (v : Int), vs = [.ref x, .int v] ∧ SideI C H x o s m ∧ Bd v ∧ ∀ H', Same H H' → Q (.int (dueM o s m v)) H'
theorem ok_S_call {f : Addr} {fd : FuncData} (F : Fun K "__call__" "Side.__call__" s_S_call f fd) (c : Cls K C) (n1 : NoAttr K C "_data") (Hd : Cal P w K mg base "handed" 5 ["side", "value"] spDue fH dH) : FnOk P w K mg base CX0 6 f fd ["self", "value"] (spSCall C) := by
  refine F.ok sc_S_call (fun vs H Q E h => ?_) (fun cdv A outer s0 H vs Q E hr h => ?_)
  · obtain ⟨x, o, s, m, v, rfl, _⟩ := h
    rfl
  · obtain ⟨x, o, s, m, v, rfl, ⟨dx, p, q, hx, hp, hq, S⟩, hv, k⟩ := h
    refine ⟨_, pss_one (ps_ret (pcl Hd hr (by decide) (by rfl) (pa_cons (pe_fld (pv 0) rfl) (pa_cons (pv 1) pa_nil)))), ?_⟩
    walk_at "rd"
    refine ⟨x, C, dx, _, .ref p, rfl, hx, c, n1, rfl, ?_⟩
    walk_at "rd"
    exact ⟨p, o, s, m, v, rfl, hp, S, hv, fun H' s1 => k H' s1⟩
end
end HT
namespace HT
open PySem L2
def sideD (o s : Int) (m : Str) : PyData := .tuple [.int o, .int s, .str m]
theorem dpSide {K : PySem.W.Frag} {H : Hp} {p : Addr} {o s : Int} {m : Str} (h : H p = some (sideV o s m)) : Dp K H (.ref p) (sideD o s m) := .tup (SqT.of h) (.cons (.int _) (.cons (.int _) (.cons (.str _) .nil)))
theorem shaped_side {o s : Int} {m : Str} (h : Mode m) : SeqAt.shaped (sideD o s m) = true := by
  have key : ∀ x : Str, PyData.canLay0 (.str x) = true → SeqAt.shaped (sideD o s x) = true := fun x hx => by
    show ((true && (true && (PyData.canLay0 (.str x) && true))) && true) = true
    rw [hx]
    rfl
  rcases h with e | e | e | e | e <;> subst e <;> exact key _ (by decide +kernel)
theorem eqv_side (o s o' s' : Int) (m m' : Str) : PyData.eqv (sideD o s m) (sideD o' s' m') = decide (o = o' ∧ s = s' ∧ m = m') := by
  unfold sideD
  simp only [PyData.eqv, PyData.eqvAll, Bool.and_true]
  by_cases a : o = o'
  · by_cases b : s = s'
    · by_cases c : m = m'
      · subst a; subst b; subst c; simp
      · subst a; subst b; simp [c]
    · subst a; simp [b]
  · simp [a]
end HT
namespace HT
open PySem L2
/-- what the text must have of an own class -/
structure OwnC (K : PySem.W.Frag) (C : Addr) : Prop where
  cls : Cls K C
  ca : PySem.W.findIn K (.ref C) "__class__" = some (some (.builtin "object.__class__"))
  cg : PySem.W.specialIn K (.builtin "object.__class__") "__get__" = some (some (.builtin "getset_descriptor.__get__"))
  ct : PySem.W.takesIn K (.builtin "object.__class__") = some true
  mo : PySem.W.mroIn K C (.type "object") = some true
  self : PySem.W.kitOne K (.ref C) (.ref C) = some true
theorem OwnC.ty {K : PySem.W.Frag} {C : Addr} (c : OwnC K C) {H : Hp} {a dx : Addr} {fs : List (Str × V)} (e : H a = some (.ins C dx fs)) : TyX K H (.ref a) (.ref C) := .base (.ins e c.cls c.ca c.cg c.ct c.mo)
def spSGet (C : Addr) : Sp := fun vs H Q _ => ∃ (x : Addr) (o s : Int) (m : Str) (v : Int), vs = [.ref x, .int v] ∧ SideI C H x o s m ∧ (-2 ^ 900 < v ∧ v < 2 ^ 900) ∧ Q (.int (o + s * v)) H
def spSHas (C : Addr) : Sp := fun vs H Q _ => ∃ (x : Addr) (o s : Int) (m : Str) (y : V), vs = [.ref x, y] ∧ SideI C H x o s m ∧ ((∃ v : Int, y = .int v ∧ Bd v ∧ ∀ H', Same H H' → Q (.bl (decide ((v - o) % s = 0))) H') ∨ (∃ n, Th H y n ∧ isI n = false ∧ Q (.bl false) H))
def spSEq (K : PySem.W.Frag) (C : Addr) : Sp := fun vs H Q _ => ∃ (x : Addr) (o s : Int) (m : Str) (y : V), vs = [.ref x, y] ∧ SideI C H x o s m ∧
  ((∃ (b : Addr) (o' s' : Int) (m' : Str), y = .ref b ∧ SideI C H b o' s' m' ∧ Q (.bl (PyData.eqv (sideD (formO o s (firstM s m)) s (firstM s m)) (sideD (formO o' s' (firstM s' m')) s' (firstM s' m')))) H) ∨ (∃ t, TyX K H y t ∧ PySem.W.kitOne K t (.ref C) = some false ∧ Q (.bl false) H))
def spSNeg (C : Addr) : Sp := fun vs H Q _ => ∃ (x : Addr) (o s : Int) (m : Str), vs = [.ref x] ∧ SideI C H x o s m ∧ ∀ x' H', H x' = none → Same H H' → SideI C H' x' (-o) s (mir m) → Q (.ref x') H'
section
variable {P : Program} {w : World} {K : PySem.W.Frag} {mg : Str → Option Value} {base : Heap} {C fC fM fH fV fI fi : Addr} {dC dM dH dV dI di : FuncData}
theorem ok_S_get {f : Addr} {fd : FuncData} (F : Fun K "__getitem__" "Side.__getitem__" s_S_get f fd) (c : Cls K C) (n1 : NoAttr K C "_data") (Vl : Cal P w K mg base "check_value" 2 ["value"] spCheckValue fV dV) : FnOk P w K mg base CX0 3 f fd ["self", "figure"] (spSGet C) := by
  refine F.ok sc_S_get (fun vs H Q E h => ?_) (fun cdv A outer s0 H vs Q E hr h => ?_)
  · obtain ⟨x, o, s, m, v, rfl, _⟩ := h
    rfl
  · obtain ⟨x, o, s, m, v, rfl, ⟨dx, p, q, hx, hp, hq, S⟩, hv, k⟩ := h
    have nd := sc_S_get.nd
    refine ⟨_, pss_cons (ps_expr (pcl Vl hr (by decide) (by rfl) (pa_cons (pv 1) pa_nil)))
      (pss_cons (ps_asg (pe_fld (pv 0) rfl) (pg_tup (by rfl) (pgs_cons (pg_name (i := 2) nd rfl (Or.inl rfl)) (pgs_cons (pg_name (i := 3) nd rfl (Or.inl rfl)) (pgs_cons (pg_name (i := 4) nd rfl (Or.inl rfl)) pgs_nil)))))
      (pss_one (ps_ret (pe_op op_add (pv 2) (pe_op op_mulW (pv 3) (pv 1)))))), ?_⟩
    have s0' := S.s0
    have s1' := S.s1
    walk_at "rd"
    refine ⟨x, C, dx, _, .ref p, rfl, hx, c, n1, rfl, ?_⟩
    refine ⟨p, _, rfl, SqT.of hp, rfl, _, _, rfl, _, _, rfl, _, _, rfl, rfl, ?_⟩
    walk_at "rd"
    refine ⟨mulW (by omega) (by omega), ?_⟩
    walk_at "rd"
    exact k
theorem ok_S_has {f : Addr} {fd : FuncData} (F : Fun K "__contains__" "Side.__contains__" s_S_has f fd) (c : Cls K C) (n1 : NoAttr K C "_data") (Is : Cal P w K mg base "is_int" 1 ["thing"] spIsAny fI dI) (St : Cal P w K mg base "stands" 4 ["side", "value"] spStands fH dH) : FnOk P w K mg base CX0 5 f fd ["self", "value"] (spSHas C) := by
  refine F.ok sc_S_has (fun vs H Q E h => ?_) (fun cdv A outer s0 H vs Q E hr h => ?_)
  · obtain ⟨x, o, s, m, y, rfl, _⟩ := h
    rfl
  · obtain ⟨x, o, s, m, y, rfl, ⟨dx, p, q, hx, hp, hq, S⟩, k⟩ := h
    refine ⟨_, pss_one (ps_ret (pe_and (pcl Is hr (by decide) (by rfl) (pa_cons (pv 1) pa_nil)) (pe_one (pcl St hr (by decide) (by rfl) (pa_cons (pe_fld (pv 0) rfl) (pa_cons (pv 1) pa_nil)))))), ?_⟩
    walk_at "rd"
    rcases k with ⟨v, rfl, hv, k⟩ | ⟨n, ty, ni, k⟩
    · refine ⟨.int v, "int", rfl, .int v, ?_⟩
      walk_at "rd"
      refine ⟨x, C, dx, _, .ref p, rfl, hx, c, n1, rfl, ?_⟩
      walk_at "rd"
      exact ⟨p, o, s, m, v, rfl, hp, S, hv, k⟩
    · refine ⟨y, n, rfl, ty, ?_⟩
      rw [ni]
      walk_at "rd"
      rw [if_neg (by decide)]
      exact k
theorem ok_S_eq {f : Addr} {fd : FuncData} (F : Fun K "__eq__" "Side.__eq__" s_S_eq f fd) (c : OwnC K C) (n2 : NoAttr K C "_form") (isi : mg "isinstance" = none) (gC : mg "Side" = some (.ref C)) : FnOk P w K mg base CX0 2 f fd ["self", "other"] (spSEq K C) := by
  refine F.ok sc_S_eq (fun vs H Q E h => ?_) (fun cdv A outer s0 H vs Q E hr h => ?_)
  · obtain ⟨x, o, s, m, y, rfl, _⟩ := h
    rfl
  · obtain ⟨x, o, s, m, y, rfl, ⟨dx, p, q, hx, hp, hq, S⟩, k⟩ := h
    refine ⟨_, pss_one (ps_ret (pe_and (pe_callB call_isi (by rfl) isi (by decide +kernel) (pa_cons (pv 1) (pa_cons (pe_glob (v := .ref C) (by rfl) gC rfl) pa_nil))) (pe_one (pe_cmpR (show OpR _ _ (rEqD K) from op_eqD hr.units) (pe_fld (pv 0) rfl) (pe_fld (pv 1) rfl) (nomark _))))), ?_⟩
    walk_at "rd"
    rcases k with ⟨b, o', s', m', rfl, ⟨dy, p', q', hy, hp', hq', S'⟩, k⟩ | ⟨t, ty, ki, k⟩
    · refine ⟨.ref b, .ref C, .ref C, .ref C, true, rfl, .own _, c.ty hy, c.self, ?_⟩
      refine ⟨_, rfl, ?_⟩
      rw [if_pos rfl]
      walk_at "rd"
      refine ⟨x, C, dx, _, .ref q, rfl, hx, c.cls, n2, rfl, ?_⟩
      walk_at "rd"
      refine ⟨b, C, dy, _, .ref q', rfl, hy, c.cls, n2, rfl, ?_⟩
      exact ⟨_, _, dpSide hq, dpSide hq', shaped_side (side_form S).md, shaped_side (side_form S').md, k⟩
    · refine ⟨y, .ref C, t, .ref C, false, rfl, .own _, ty, ki, ?_⟩
      refine ⟨_, rfl, ?_⟩
      rw [if_neg (by decide)]
      exact k
theorem ok_S_neg {f : Addr} {fd : FuncData} (F : Fun K "__neg__" "Side.__neg__" s_S_neg f fd) (c : Cls K C) (n1 : NoAttr K C "_data") (gC : mg "Side" = some (.ref C)) (M : Mk K C fi) (Ini : FnOk P w K mg base CX0 5 fi di ["self", "data"] (spSInit C)) (bi : Binds K di ["self", "data"] [])
    (Mi : Cal P w K mg base "mirror" 4 ["side"] spMirror fM dM) : FnOk P w K mg base CX0 7 f fd ["self"] (spSNeg C) := by
  refine F.ok sc_S_neg (fun vs H Q E h => ?_) (fun cdv A outer s0 H vs Q E hr h => ?_)
  · obtain ⟨x, o, s, m, rfl, _⟩ := h
    rfl
  · obtain ⟨x, o, s, m, rfl, ⟨dx, p, q, hx, hp, hq, S⟩, k⟩ := h
    refine ⟨_, pss_one (ps_ret (pe_make M Ini (hr.mono (by decide)) (by rfl) gC bi .nil pass0 (pa_cons (pcl Mi hr (by decide) (by rfl) (pa_cons (pe_fld (pv 0) rfl) pa_nil)) pa_nil))), ?_⟩
    walk_at "rd"
    refine ⟨x, C, dx, _, .ref p, rfl, hx, c, n1, rfl, ?_⟩
    walk_at "rd"
    refine ⟨p, o, s, m, rfl, hp, S, fun d H' s1 nd hd => ?_⟩
    walk_at "rd"
    exact make_side hd (side_mir S) fun x' H2 hx' s2 I2 => k x' H2 (s1.free hx') (s1.trans s2) I2
end
end HT
namespace HT
open PySem L2
/-- a side's hand-over of what is no value -/
def spHandX (C : Nat → Addr) : Sp := fun vs H _ E => ∃ (p : Addr) (o s : Int) (m : Str) (y : V) (n : String), vs = [.ref p, y] ∧ H p = some (sideV o s m) ∧ SideP o s m ∧ Th H y n ∧ isI n = false ∧ E (.ref (C 3)) none H
def spSBad (D : Addr) (C : Nat → Addr) : Sp := fun vs H _ E => ∃ (x : Addr) (o s : Int) (m : Str) (y : V) (n : String), vs = [.ref x, y] ∧ SideI D H x o s m ∧ Th H y n ∧ isI n = false ∧ E (.ref (C 3)) none H
section
variable {P : Program} {w : World} {K : PySem.W.Frag} {mg : Str → Option Value} {base : Heap} {D fC fV fH : Addr} {dC dV dH : FuncData} {C : Nat → Addr}
theorem ok_handed_x {f : Addr} {fd : FuncData} (F : Fun K "handed" "handed" s_handed f fd) (Ck : CalX P w K mg base "check_side" 3 ["side"] (spSideX K C) fC dC) (Vl : CalX P w K mg base "check_value" 2 ["value"] (spValX C) fV dV) : FnOk P w K mg base (L2.CX P w) 4 f fd ["side", "value"] (spHandX C) := by
  refine F.okAny sc_handed (fun vs H Q E h => ?_) (fun cdv A outer s0 H vs Q E hr h => ?_)
  · obtain ⟨p, o, s, m, y, n, rfl, _⟩ := h
    rfl
  · obtain ⟨p, o, s, m, y, n, rfl, hp, S, ty, ni, q⟩ := h
    refine ⟨_, pss_cons (ps_expr (pcx Ck hr (by decide) (by rfl) (takes_of rfl rfl rfl rfl) (pa_cons (pv 0) pa_nil))) (pss_cons (ps_expr (pcx Vl hr (by decide) (by rfl) (takes_of rfl rfl rfl rfl) (pa_cons (pv 1) pa_nil))) pss_never), ?_⟩
    walk_at "rd"
    refine .inl ⟨⟨p, o, s, m, rfl, hp, S⟩, ?_⟩
    walk_at "rd"
    exact ⟨_, n, rfl, ty, fun z => absurd z (by rw [ni]; decide), fun _ => q⟩
theorem ok_S_call_x {f : Addr} {fd : FuncData} (F : Fun K "__call__" "Side.__call__" s_S_call f fd) (c : Cls K D) (n1 : NoAttr K D "_data") (Hd : CalX P w K mg base "handed" 4 ["side", "value"] (spHandX C) fH dH) : FnOk P w K mg base (L2.CX P w) 5 f fd ["self", "value"] (spSBad D C) := by
  refine F.okAny sc_S_call (fun vs H Q E h => ?_) (fun cdv A outer s0 H vs Q E hr h => ?_)
  · obtain ⟨x, o, s, m, y, n, rfl, _⟩ := h
    rfl
  · obtain ⟨x, o, s, m, y, n, rfl, ⟨dx, p, q, hx, hp, hq, S⟩, ty, ni, k⟩ := h
    refine ⟨_, pss_one (ps_ret (pcx Hd hr (by decide) (by rfl) (takes_of rfl rfl rfl rfl) (pa_cons (pe_fld (pv 0) rfl) (pa_cons (pv 1) pa_nil)))), ?_⟩
    walk_at "rd"
    refine ⟨x, D, dx, _, .ref p, rfl, hx, c, n1, rfl, ?_⟩
    walk_at "rd"
    exact ⟨p, o, s, m, y, n, rfl, hp, S, ty, ni, k⟩
theorem ok_S_get_x {f : Addr} {fd : FuncData} (F : Fun K "__getitem__" "Side.__getitem__" s_S_get f fd) (Vl : CalX P w K mg base "check_value" 2 ["value"] (spValX C) fV dV) : FnOk P w K mg base (L2.CX P w) 3 f fd ["self", "figure"] (spSBad D C) := by
  refine F.okAny sc_S_get (fun vs H Q E h => ?_) (fun cdv A outer s0 H vs Q E hr h => ?_)
  · obtain ⟨x, o, s, m, y, n, rfl, _⟩ := h
    rfl
  · obtain ⟨x, o, s, m, y, n, rfl, _, ty, ni, k⟩ := h
    refine ⟨_, pss_cons (ps_expr (pcx Vl hr (by decide) (by rfl) (takes_of rfl rfl rfl rfl) (pa_cons (pv 1) pa_nil))) pss_never, ?_⟩
    walk_at "rd"
    exact ⟨_, n, rfl, ty, fun z => absurd z (by rw [ni]; decide), fun _ => k⟩
end
end HT
namespace HT
open PySem L2
theorem sg3_of {x : V} (h : x ∈ [V.int 1, .int (-1), .int 0]) : ∃ j : Int, x = .int j ∧ (j = 1 ∨ j = -1 ∨ j = 0) := by
  simp only [List.mem_cons, List.not_mem_nil, or_false] at h
  rcases h with h | h | h
  · exact ⟨_, h, .inl rfl⟩
  · exact ⟨_, h, .inr (.inl rfl)⟩
  · exact ⟨_, h, .inr (.inr rfl)⟩
theorem mode5_of {x : V} (h : x ∈ [V.str "down", .str "up", .str "half_down", .str "half_up", .str "half_even"]) : ∃ m : Str, x = .str m ∧ Mode m := by
  simp only [List.mem_cons, List.not_mem_nil, or_false] at h
  rcases h with h | h | h | h | h
  · exact ⟨_, h, .inl rfl⟩
  · exact ⟨_, h, .inr (.inl rfl)⟩
  · exact ⟨_, h, .inr (.inr (.inl rfl))⟩
  · exact ⟨_, h, .inr (.inr (.inr (.inl rfl)))⟩
  · exact ⟨_, h, .inr (.inr (.inr (.inr rfl)))⟩
theorem p10_le {n k : Nat} (h : n ≤ k) : (10 : Int) ^ n ≤ 10 ^ k := by
  have z := Nat.pow_le_pow_right (show 0 < 10 by decide) h
  have e : ∀ j : Nat, ((10 ^ j : Nat) : Int) = (10 : Int) ^ j := fun j => Int.natCast_pow 10 j
  rw [← e, ← e]
  omega
def spLSide : Sp := fun vs H Q _ => ∃ (a c : Addr) (t : Nat), vs = [.ref a, .int 30] ∧ Src H a c t ∧ t + 200 < 2 ^ 30 ∧
  ∀ p o s m H' t', H' p = some (sideV o s m) → (1 ≤ s ∧ s ≤ 10 ^ 30 ∧ -10 ^ 30 ≤ o ∧ o ≤ 10 ^ 30 ∧ Mode m) → t' ≤ t + 100 → Src H' a c t' → Oth a c H H' → Q (.ref p) H'
section
variable {P : Program} {w : World} {K : PySem.W.Frag} {mg : Str → Option Value} {base : Heap} {fD fP fG : Addr} {dD dP dG : FuncData}
theorem ok_lside {f : Addr} {fd : FuncData} (F : Fun K "_law_side" "_law_side" s_L_side f fd) (D : Cal P w K mg base "_law_draw" 1 ["_law_source_here", "_law_limit"] spDraw fD dD)
    (Pk : Cal P w K mg base "_law_pick" 2 ["_law_source_here", "_law_values"] spPick fP dP) (G : Cal P w K mg base "_law_great" 2 ["_law_source_here", "_law_digits"] spGreat fG dG) : FnOk P w K mg base CX0 3 f fd ["_law_source_here", "_law_digits"] spLSide := by
  refine F.ok sc_L_side (fun vs H Q E h => ?_) (fun cdv A outer s0 H vs Q E hr h => ?_)
  · obtain ⟨a, c, t, rfl, _⟩ := h
    rfl
  · obtain ⟨a, c, t, rfl, S, ht, q⟩ := h
    have nd := sc_L_side.nd
    refine ⟨_, (pss_cons (ps_set (i := 2) nd rfl (Or.inl rfl) (pe_op op_add pe_int (pe_op op_mod (pcl G hr (by decide) (by rfl) (pa_cons (pv 0) (pa_cons (pe_op op_add pe_int (pcl D hr (by decide) (by rfl) (pa_cons (pv 0) (pa_cons (pv 1) pa_nil)))) pa_nil))) (pe_op op_pow pe_int pe_int))))
      (pss_cons (ps_mid (ps_if (pt_cmpR op_eq (pcl D hr (by decide) (by rfl) (pa_cons (pv 0) (pa_cons pe_int pa_nil))) pe_int (nomark _)) (pss_one (ps_set (i := 2) nd rfl (Or.inl rfl) (pe_op op_add pe_int (pcl D hr (by decide) (by rfl) (pa_cons (pv 0) (pa_cons pe_int pa_nil)))))) pss_nil))
      (pss_cons (ps_set (i := 3) nd rfl (Or.inl rfl) (pe_op op_mulW (pcl G hr (by decide) (by rfl) (pa_cons (pv 0) (pa_cons (pe_op op_add pe_int (pcl D hr (by decide) (by rfl) (pa_cons (pv 0) (pa_cons (pv 1) pa_nil)))) pa_nil))) (pcl Pk hr (by decide) (by rfl) (pa_cons (pv 0) (pa_cons (pe_lst (pa_cons pe_int (pa_cons (pe_un un_neg pe_int) (pa_cons pe_int pa_nil)))) pa_nil)))))
      (pss_one (ps_ret (pe_tup (pa_cons (pv 3) (pa_cons (pv 2) (pa_cons (pcl Pk hr (by decide) (by rfl) (pa_cons (pv 0) (pa_cons (pe_lst (pa_cons pe_str (pa_cons pe_str (pa_cons pe_str (pa_cons pe_str (pa_cons pe_str pa_nil)))))) pa_nil))) pa_nil))))))))), ?_⟩
    walk_at "rd"
    refine ⟨a, c, t, 30, rfl, S, by omega, by decide, by decide, fun k1 H1 k10 k11 S1 O1 => ?_⟩
    obtain ⟨j, rfl⟩ := Int.eq_ofNat_of_zero_le k10
    walk_at "rd"
    refine ⟨a, c, t + 1, 1 + j, (by show [V.ref a, V.int (1 + (j : Int))] = [V.ref a, .int ((1 + j : Nat) : Int)]; rw [Int.natCast_add]; rfl), S1, by omega, by omega, fun k2 H2 k20 k21 S2 O2 => ?_⟩
    walk_at "rd"
    refine ⟨⟨by decide, by decide, by decide⟩, ?_⟩
    refine ⟨_, _, rfl, rfl, (by show (0 : Int) < 10 ^ (30 : Int).toNat; decide), ?_⟩
    have z0 : 1 ≤ 1 + k2 % 10 ^ (30 : Int).toNat := by
      have a1 : 0 ≤ k2 % 10 ^ (30 : Int).toNat := Int.emod_nonneg k2 (show (10 : Int) ^ 30 ≠ 0 by decide)
      omega
    have z1 : 1 + k2 % 10 ^ (30 : Int).toNat ≤ 10 ^ 30 := by
      have a2 : k2 % 10 ^ (30 : Int).toNat < 10 ^ 30 := Int.emod_lt_of_pos k2 (show (0 : Int) < 10 ^ 30 by decide)
      omega
    walk_at "rd"
    refine ⟨fun σ' H' => ∃ (z : Int) (t' : Nat), σ' = [some (.ref a), some (.int 30), some (.int z), none] ∧ 1 ≤ z ∧ z ≤ 10 ^ 30 ∧ t' ≤ t + 35 ∧ Src H' a c t' ∧ Oth a c H H', ?_, ?_⟩
    · walk_at "rd"
      refine ⟨a, c, _, 3, rfl, S2, by omega, by decide, by decide, fun k3 H3 k30 k31 S3 O3 => ?_⟩
      have O03 := (O1.trans O2).trans O3
      walk_at "rd"
      refine ⟨rfl, ?_⟩
      walk_at "rd"
      refine ite2 (fun _ => ?_) (fun _ => ⟨_, _, rfl, z0, z1, by omega, S3, O03⟩)
      walk_at "rd"
      refine ⟨a, c, _, 12, rfl, S3, by omega, by decide, by decide, fun k4 H4 k40 k41 S4 O4 => ?_⟩
      walk_at "rd"
      exact ⟨1 + k4, _, rfl, by omega, by omega, by omega, S4, O03.trans O4⟩
    rintro σ' H3 ⟨z, t3, rfl, z0, z1, ht3, S3, O3⟩
    walk_at "rd"
    refine ⟨a, c, t3, 30, rfl, S3, by omega, by decide, by decide, fun k5 H5 k50 k51 S5 O5 => ?_⟩
    obtain ⟨j5, rfl⟩ := Int.eq_ofNat_of_zero_le k50
    walk_at "rd"
    refine ⟨a, c, t3 + 1, 1 + j5, (by show [V.ref a, V.int (1 + (j5 : Int))] = [V.ref a, .int ((1 + j5 : Nat) : Int)]; rw [Int.natCast_add]; rfl), S5, by omega, by omega, fun k6 H6 k60 k61 S6 O6 => ?_⟩
    have k62 : k6 < 10 ^ 30 := Int.lt_of_lt_of_le k61 (p10_le (by omega))
    clear k61
    walk_at "rd"
    refine ⟨(by show 3 ≤ sizeLine; decide), fun l1 nl1 => ?_⟩
    obtain ⟨la1, lc1⟩ := S6.na nl1
    refine ⟨a, c, _, l1, _, rfl, S6.new nl1, by omega, upd_same, la1, lc1, by decide, by decide, fun x7 H7 hx7 S7 O7 => ?_⟩
    obtain ⟨sj, rfl, hsj⟩ := sg3_of hx7
    walk_at "rd"
    refine ⟨mulW (by omega) (by rcases hsj with e | e | e <;> subst e <;> omega), ?_⟩
    have ob : -10 ^ 30 ≤ k6 * sj ∧ k6 * sj ≤ 10 ^ 30 := by rcases hsj with e | e | e <;> subst e <;> omega
    walk_at "rd"
    refine ⟨(by show 5 ≤ sizeLine; decide), fun l2 nl2 => ?_⟩
    obtain ⟨la2, lc2⟩ := S7.na nl2
    refine ⟨a, c, _, l2, _, rfl, S7.new nl2, by omega, upd_same, la2, lc2, by decide, by decide, fun x8 H8 hx8 S8 O8 => ?_⟩
    obtain ⟨md, rfl, hmd⟩ := mode5_of hx8
    walk_at "rd"
    refine ⟨(by show 3 ≤ sizeLine; decide), fun p np => ?_⟩
    exact q p (k6 * sj) z md _ _ upd_same ⟨z0, z1, ob.1, ob.2, hmd⟩ (by omega) (S8.new np) (((((((O3.trans O5).trans O6).new nl1).trans O7).new nl2).trans O8).new np)
end
end HT
namespace HT
open PySem L2
section
variable {P : Program} {w : World} {K : PySem.W.Frag} {mg : Str → Option Value} {base : Heap} {aM fD fP fG fL fA fF fH fS : Addr} {dD dP dG dL dA dF dH dS : FuncData}
theorem ok_L_figure {f : Addr} {fd : FuncData} (F : Fun K "_law_figure" "_law_figure" s_L_figure f fd) (B : Blt mg) : FnOk P w K mg base CX0 1 f fd ["_law_side_here", "_law_value"] spFig := by
  refine F.ok sc_L_figure (fun vs H Q E h => ?_) (fun cdv A outer s H vs Q E hr h => ?_)
  · obtain ⟨p, o, s, m, v, rfl, _⟩ := h
    rfl
  · obtain ⟨p, o, s, m, v, rfl, hp, S, hv, q⟩ := h
    have nd := sc_L_figure.nd
    have q' : Q (.int (figM o s m v)) H := q H (Same.refl H)
    have Fg := fig_of (o := o) (m := m) (v := v) S.s0
    refine ⟨_, pss_cons (ps_asg (pv 0) (pg_tup (by rfl) (pgs_cons (pg_name (i := 2) nd rfl (Or.inl rfl)) (pgs_cons (pg_name (i := 3) nd rfl (Or.inl rfl)) (pgs_cons (pg_name (i := 4) nd rfl (Or.inl rfl)) pgs_nil)))))
      (pss_cons (ps_set (i := 5) nd rfl (Or.inl rfl) (pe_op op_fdivW (pe_callTy call_int1 (by rfl) B.int (by decide +kernel) (pa_cons (pe_op op_sub (pv 1) (pv 2)) pa_nil)) (pv 3)))
      (pss_cons (ps_set (i := 6) nd rfl (Or.inl rfl) (pe_op op_sub (pe_op op_sub (pv 1) (pv 2)) (pe_op op_mulW (pv 3) (pv 5))))
      (pss_cons (ps_if (PW.pt (pw_or (pt_cmpR op_eq (pv 4) pe_str (nomark _)) (pw_or1 (pt_cmpR op_eq (pv 6) pe_int (nomark _))))) (pss_one (ps_ret (pv 5))) pss_nil)
      (pss_cons (ps_if (PW.pt (pw_or (pt_cmpR op_eq (pv 4) pe_str (nomark _)) (pw_or1 (pt_cmpR op_gt (pe_op op_mul pe_int (pv 6)) (pv 3) (nomark _))))) (pss_one (ps_ret (pe_op op_add (pv 5) pe_int))) pss_nil)
      (pss_cons (ps_if (PW.pt (pw_or (pt_cmpR op_lt (pe_op op_mul pe_int (pv 6)) (pv 3) (nomark _)) (pw_or1 (pt_cmpR op_eq (pv 4) pe_str (nomark _))))) (pss_one (ps_ret (pv 5))) pss_nil)
      (pss_one (ps_ret (pe_op op_add (pv 5) (pe_callTy call_int1 (by rfl) B.int (by decide +kernel) (pa_cons (pe_or (pe_cmpR op_eq (pv 4) pe_str (nomark _)) (pe_one (pe_cmpR op_eq (pe_op op_mod (pv 5) pe_int) pe_int (nomark _)))) pa_nil)))))))))), ?_⟩
    have b0 := S.s0
    have b1 := S.s1
    have b2 := S.o0
    have b3 := S.o1
    have b4 := hv.1
    have b5 := hv.2
    have b6 := div_bd (x := v - o) (b := 2 ^ 1001) S.s0 (by omega) (by omega)
    have rr : v - o - s * ((v - o) / s) = (v - o) % s := by
      have := Fg.eq
      omega
    walk_at "rd"
    refine ⟨p, _, rfl, SqT.of hp, rfl, _, _, rfl, _, _, rfl, _, _, rfl, rfl, ?_⟩
    walk_at "rd"
    refine ⟨fdiv_ok _ (by omega) (lg_big (by omega) (by omega)), ?_⟩
    walk_at "rd"
    refine ⟨mulW (by omega) (by omega), ?_⟩
    walk_at "rd"
    refine ⟨rfl, ?_⟩
    walk_at "rd"
    obtain ⟨_, r0, r1, wh⟩ := Fg
    generalize figM o s m v = k at q' wh
    -- the three ways of a mode
    have fin0 : k = ((v - o) / s) → Q (.int ((v - o) / s)) H := fun e => by rw [← e]; exact q'
    have fin1 : k = ((v - o) / s) + 1 → Q (.int (((v - o) / s) + 1)) H := fun e => by rw [← e]; exact q'
    have low : goesUp m s ((v - o) / s) ((v - o) % s) = false → k = ((v - o) / s) := fun h => by
      rcases wh with ⟨g, _⟩ | ⟨_, e⟩
      · rw [h] at g; cases g
      · exact e
    have up : goesUp m s ((v - o) / s) ((v - o) % s) = true → k = ((v - o) / s) + 1 := fun h => by
      rcases wh with ⟨_, e⟩ | ⟨g, _⟩
      · exact e
      · rw [h] at g; cases g
    refine ite2 (fun h => ?_) (fun h1 => ?_)
    · walk_at "rd"
      refine fin0 (low ?_)
      rw [str_t h, go_down]
    walk_at "rd"
    refine ⟨rfl, ?_⟩
    walk_at "rd"
    refine ite2 (fun h => ?_) (fun h2 => ?_)
    · walk_at "rd"
      refine fin0 (low ?_)
      have e : ((v - o) % s) = 0 := by have := int_t h; omega
      rw [e]
      exact go_zero S.md S.s0
    have n1 := str_f h1
    have n2 : ¬ ((v - o) % s) = 0 := fun z => int_f h2 (by omega)
    walk_at "rd"
    refine ⟨rfl, ?_⟩
    walk_at "rd"
    refine ite2 (fun h => ?_) (fun h3 => ?_)
    · walk_at "rd"
      refine fin1 (up ?_)
      rw [str_t h, go_up]
      exact decide_eq_true (by omega)
    have n3 := str_f h3
    walk_at "rd"
    refine ⟨.inl ⟨by decide, by decide⟩, ?_⟩
    walk_at "rd"
    have hh : half m := by
      rcases S.md with e | e | e
      · exact absurd e n1
      · exact absurd e n3
      · exact e
    refine ite2 (fun h => ?_) (fun h4 => ?_)
    · walk_at "rd"
      have g : s < 2 * ((v - o) % s) := by have := of_decide_eq_true h; omega
      refine fin1 (up ?_)
      unfold goesUp
      rw [if_neg n1, if_neg n3, if_neg (by omega)]
      exact decide_eq_true g
    have n4 : ¬ s < 2 * ((v - o) % s) := fun z => h4 (decide_eq_true (by omega))
    walk_at "rd"
    refine ⟨.inl ⟨by decide, by decide⟩, ?_⟩
    walk_at "rd"
    refine ite2 (fun h => ?_) (fun h5 => ?_)
    · walk_at "rd"
      have g : 2 * ((v - o) % s) < s := by have := of_decide_eq_true h; omega
      refine fin0 (low ?_)
      unfold goesUp
      rw [if_neg n1, if_neg n3, if_neg (by omega)]
      exact decide_eq_false n4
    have n5 : 2 * ((v - o) % s) = s := by
      have : ¬ 2 * ((v - o) % s) < s := fun z => h5 (decide_eq_true (by omega))
      omega
    walk_at "rd"
    refine ⟨rfl, ?_⟩
    walk_at "rd"
    refine ite2 (fun h => ?_) (fun h6 => ?_)
    · walk_at "rd"
      refine fin0 (low ?_)
      rw [str_t h, go_hd]
      exact decide_eq_false n4
    have n6 := str_f h6
    have kk : k = ((v - o) / s) + (if m = "half_up" then 1 else if ((v - o) / s) % 2 = 1 then 1 else 0) := by
      rcases hh with e | e | e
      · exact absurd e n6
      · rw [if_pos e]
        refine up ?_
        rw [e, go_hu]
        exact decide_eq_true (by omega)
      · have e2 : goesUp m s ((v - o) / s) ((v - o) % s) = decide (((v - o) / s) % 2 = 1) := by
          rw [e, go_he, decide_eq_false n4, decide_eq_true n5]
          rfl
        rw [if_neg (by rw [e]; exact he_hu)]
        by_cases z : ((v - o) / s) % 2 = 1
        · rw [if_pos z]
          exact up (by rw [e2]; exact decide_eq_true z)
        · rw [if_neg z, Int.add_zero]
          exact low (by rw [e2]; exact decide_eq_false z)
    walk_at "rd"
    refine ⟨rfl, ?_⟩
    walk_at "rd"
    refine ite2 (fun h => ?_) (fun h7 => ?_)
    · refine .inr ⟨true, rfl, ?_⟩
      walk_at "rd"
      rw [if_pos (str_t h)] at kk
      exact fin1 kk
    · rw [if_neg (str_f h7)] at kk
      walk_at "rd"
      refine ⟨(by show (0 : Int) < 2; decide), ?_⟩
      walk_at "rd"
      refine ⟨rfl, .inr ⟨_, rfl, ?_⟩⟩
      walk_at "rd"
      show Q (.int (((v - o) / s) + if decide (V.int (((v - o) / s) % 2) = V.int 1) = true then 1 else 0)) H
      rw [dec_int]
      by_cases z : ((v - o) / s) % 2 = 1
      · rw [if_pos z] at kk
        rw [if_pos (decide_eq_true z)]
        exact fin1 kk
      · rw [if_neg z, Int.add_zero] at kk
        rw [if_neg (by rw [decide_eq_false z]; decide), Int.add_zero]
        exact fin0 kk
theorem ok_L_handed {f : Addr} {fd : FuncData} (F : Fun K "_law_handed" "_law_handed" s_L_handed f fd) (L : Cal P w K mg base "_law_figure" 1 ["_law_side_here", "_law_value"] spFig fL dL) : FnOk P w K mg base CX0 2 f fd ["_law_side_here", "_law_value"] spDue := by
  refine F.ok sc_L_handed (fun vs H Q E h => ?_) (fun cdv A outer s H vs Q E hr h => ?_)
  · obtain ⟨p, o, s, m, v, rfl, _⟩ := h
    rfl
  · obtain ⟨p, o, s, m, v, rfl, hp, S, hv, q⟩ := h
    refine ⟨_, pss_one (ps_ret (pe_op op_add (pe_ix ix_tup (pv 0) pe_int (fun _ _ => rfl)) (pe_op op_mulW (pe_ix ix_tup (pv 0) pe_int (fun _ _ => rfl)) (pcl L hr (by decide) (by rfl) (pa_cons (pv 0) (pa_cons (pv 1) pa_nil)))))), ?_⟩
    walk_at "rd"
    refine ⟨p, _, 0, _, rfl, rfl, SqT.of hp, rfl, ?_⟩
    walk_at "rd"
    refine ⟨p, _, 1, _, rfl, rfl, SqT.of hp, rfl, ?_⟩
    walk_at "rd"
    refine ⟨p, o, s, m, v, rfl, hp, S, hv, fun H' sm => ?_⟩
    walk_at "rd"
    have b1 := fig_bd S hv
    have b2 := S.s0
    have b3 := S.s1
    refine ⟨mulW (by omega) (by omega), ?_⟩
    walk_at "rd"
    exact q H' sm
end
end HT
namespace HT
open PySem L2
/-- a list of tuples -/
def RowsAt (H : Hp) (L : Addr) (rows : List (List V)) : Prop := ∃ ps : List Addr, H L = some (.lst (ps.map V.ref)) ∧ ps.length = rows.length ∧ ∀ (i : Nat) (r : List V) (p : Addr), rows[i]? = some r → ps[i]? = some p → H p = some (.tup r)
theorem RowsAt.same {H H' : Hp} {L : Addr} {rows : List (List V)} (h : RowsAt H L rows) (e : Same H H') : RowsAt H' L rows :=
  let ⟨ps, a, b, c⟩ := h; ⟨ps, e _ _ a, b, fun i r p x y => e _ _ (c i r p x y)⟩
theorem RowsAt.nil {H : Hp} {L : Addr} (h : H L = some (.lst [])) : RowsAt H L [] := ⟨[], h, rfl, fun i r p x => by cases x⟩
/-- one more row behind -/
theorem RowsAt.snoc {H H' : Hp} {L q : Addr} {rows : List (List V)} {r : List V} (h : RowsAt H L rows) (hq : H q = some (.tup r)) (keep : ∀ b u, b ≠ L → H b = some u → H' b = some u) (hL : ∀ ps : List Addr, H L = some (.lst (ps.map V.ref)) → H' L = some (.lst (ps.map V.ref ++ [.ref q]))) : RowsAt H' L (rows ++ [r]) := by
  obtain ⟨ps, a, b, c⟩ := h
  refine ⟨ps ++ [q], by rw [List.map_append]; exact hL ps a, by rw [List.length_append, List.length_append, b]; rfl, fun i t p hi hp => ?_⟩
  by_cases z : i < ps.length
  · rw [List.getElem?_append_left z] at hp
    rw [List.getElem?_append_left (by omega)] at hi
    have := c i t p hi hp
    exact keep p _ (ne_of this a (by intro z; cases z)) this
  · rw [List.getElem?_append_right (by omega)] at hp
    rw [List.getElem?_append_right (by omega)] at hi
    have e0 : i - ps.length = 0 := by
      have := (List.getElem?_eq_some_iff.mp hp).1
      simp at this
      omega
    rw [e0] at hp
    rw [← b, e0] at hi
    cases hp
    cases hi
    exact keep q _ (ne_of hq a (by intro z; cases z)) hq
theorem RowsAt.rev {H H' : Hp} {L D : Addr} {rows : List (List V)} (h : RowsAt H L rows) (e : Same H H') (xs : List V) (hx : H L = some (.lst xs)) (hD : H' D = some (.lst xs.reverse)) : RowsAt H' D rows.reverse := by
  obtain ⟨ps, a, b, c⟩ := h
  have ex : xs = ps.map V.ref := by rw [hx] at a; cases a; rfl
  subst ex
  refine ⟨ps.reverse, by rw [hD, List.map_reverse], by rw [List.length_reverse, List.length_reverse, b], fun i r p hi hp => ?_⟩
  have il : i < ps.length := by
    have := (List.getElem?_eq_some_iff.mp hp).1
    rwa [List.length_reverse] at this
  rw [List.getElem?_reverse il] at hp
  rw [List.getElem?_reverse (by omega)] at hi
  exact e _ _ (c _ r p (by rw [b] at *; exact hi) hp)
def flD : V → PyData
  | .int i => .int i
  | .bl b => .bool b
  | _ => .none
def flOk : V → Bool
  | .int _ => true
  | .bl _ => true
  | _ => false
theorem flDp {K : PySem.W.Frag} {H : Hp} {x : V} (h : flOk x = true) : Dp K H x (flD x) := by
  cases x <;> first | exact .int _ | exact .bl _ | cases h
theorem flAll {K : PySem.W.Frag} {H : Hp} : ∀ {r : List V}, (∀ x ∈ r, flOk x = true) → DpAll K H r (r.map flD)
  | [], _ => .nil
  | x :: r, h => .cons (flDp (h x List.mem_cons_self)) (flAll fun y hy => h y (List.mem_cons_of_mem _ hy))
def rowsD (rows : List (List V)) : PyData := .list (rows.map fun r => .tuple (r.map flD))
theorem rowsDpA {K : PySem.W.Frag} {H : Hp} : ∀ (ps : List Addr) (rows : List (List V)), ps.length = rows.length → (∀ r ∈ rows, ∀ x ∈ r, flOk x = true) → (∀ (i : Nat) (r : List V) (p : Addr), rows[i]? = some r → ps[i]? = some p → H p = some (.tup r)) → DpAll K H (ps.map V.ref) (rows.map fun r => PyData.tuple (r.map flD))
  | [], [], _, _, _ => .nil
  | p :: ps, r :: rows, hn, hf, h => .cons (.tup (SqT.of (h 0 r p rfl rfl)) (flAll (hf r List.mem_cons_self))) (rowsDpA ps rows (Nat.succ.inj hn) (fun t ht => hf t (List.mem_cons_of_mem _ ht)) fun i t q a b => h (i + 1) t q a b)
theorem RowsAt.dp {K : PySem.W.Frag} {H : Hp} {L : Addr} {rows : List (List V)} (h : RowsAt H L rows) (hf : ∀ r ∈ rows, ∀ x ∈ r, flOk x = true) : Dp K H (.ref L) (rowsD rows) := by
  obtain ⟨ps, a, b, c⟩ := h
  exact .lst (SqL.of a) (rowsDpA ps rows b hf c)
theorem shaped_rows {rows : List (List V)} (hf : ∀ r ∈ rows, ∀ x ∈ r, flOk x = true) : SeqAt.shaped (rowsD rows) = true := by
  have k1 : ∀ r : List V, (∀ x ∈ r, flOk x = true) → PyData.canLayAll0 (r.map flD) = true ∧ PyData.depthAll (r.map flD) ≤ 1 := fun r => by
    induction r with
    | nil => exact fun _ => ⟨rfl, Nat.zero_le _⟩
    | cons x r ih =>
      intro h
      obtain ⟨a, b⟩ := ih fun y hy => h y (List.mem_cons_of_mem _ hy)
      have hx := h x List.mem_cons_self
      have c : PyData.canLay0 (flD x) = true ∧ PyData.depth (flD x) ≤ 1 := by
        cases x <;> first | exact ⟨by simp [flD, PyData.canLay0], by simp [flD, PyData.depth]⟩ | cases hx
      refine ⟨?_, ?_⟩
      · simp [PyData.canLayAll0, c.1]
        simpa using a
      · show max (PyData.depth (flD x)) (PyData.depthAll (r.map flD)) ≤ 1
        exact Nat.max_le.mpr ⟨c.2, b⟩
  have k2 : ∀ rows : List (List V), (∀ r ∈ rows, ∀ x ∈ r, flOk x = true) → PyData.canLayAll0 (rows.map fun r => PyData.tuple (r.map flD)) = true ∧ PyData.depthAll (rows.map fun r => PyData.tuple (r.map flD)) ≤ 2 := fun rows => by
    induction rows with
    | nil => exact fun _ => ⟨rfl, Nat.zero_le _⟩
    | cons r rows ih =>
      intro h
      obtain ⟨a, b⟩ := ih fun y hy => h y (List.mem_cons_of_mem _ hy)
      obtain ⟨c, d⟩ := k1 r (h r List.mem_cons_self)
      refine ⟨?_, ?_⟩
      · show (PyData.canLay0 (.tuple (r.map flD)) && PyData.canLayAll0 (rows.map fun r => PyData.tuple (r.map flD))) = true
        rw [Bool.and_eq_true]
        exact ⟨c, a⟩
      · show max (PyData.depthAll (r.map flD) + 1) (PyData.depthAll (rows.map fun r => PyData.tuple (r.map flD))) ≤ 2
        exact Nat.max_le.mpr ⟨by omega, b⟩
  obtain ⟨a, b⟩ := k2 rows hf
  unfold SeqAt.shaped
  rw [Bool.and_eq_true]
  refine ⟨a, decide_eq_true ?_⟩
  show PyData.depthAll (rows.map fun r => PyData.tuple (r.map flD)) + 1 ≤ 64
  omega
theorem eqv_sh {d : PyData} (h : SeqAt.shaped d = true) : PyData.eqv d d = true := SeqAt.eqv_refl d (by unfold SeqAt.shaped at h; rw [Bool.and_eq_true] at h; exact h.1)
/-- a value stands just if it is written for itself -/
theorem stand_iff {o s v : Int} {m : Str} (hm : Mode m) (hs : 1 ≤ s) : dueM o s m v = v ↔ (v - o) % s = 0 := (due_eq hm hs).symm
/-- what a side tells of a value -/
def tellV (o s : Int) (m : Str) (v : Int) : List V := [.int (dueM o s m v), .int (o + s * v), .bl (decide ((v - o) % s = 0))]
theorem tell_ok {o s : Int} {m : Str} {vals : List Int} : ∀ r ∈ vals.map (tellV o s m), ∀ x ∈ r, flOk x = true := by
  intro r hr x hx
  obtain ⟨v, _, rfl⟩ := List.mem_map.mp hr
  simp only [tellV, List.mem_cons, List.not_mem_nil, or_false] at hx
  rcases hx with rfl | rfl | rfl <;> rfl
end HT
namespace HT
open PySem L2
theorem decide_eq_of_iff {a b : Prop} [Decidable a] [Decidable b] (h : a ↔ b) : decide a = decide b := by
  by_cases x : a
  · rw [decide_eq_true x, decide_eq_true (h.mp x)]
  · rw [decide_eq_false x, decide_eq_false fun z => x (h.mpr z)]
/-- the class of sides: what its instances promise -/
structure SideC (P : Program) (w : World) (K : PySem.W.Frag) (mg : Str → Option Value) (base : Heap) (C gc gg gh : Addr) : Prop where
  co : StX.CallO K C gc
  fc : FnR P w K mg base CX0 6 gc (spSCall C)
  ge : Spc K C "__getitem__" gg
  gi : PySem.W.fnIn K gg = true
  fg : FnR P w K mg base CX0 3 gg (spSGet C)
  ha : Spc K C "__contains__" gh
  fh : FnR P w K mg base CX0 5 gh (spSHas C)
theorem SideI.insC {X : Cx} {C : Addr} {H : Hp} {x : Addr} {o s : Int} {m : Str} (h : SideI C H x o s m) : StX.InsC X H x C := let ⟨dx, _, _, a, _⟩ := h; .inr ⟨dx, _, a⟩
def spLTold (C : Addr) : Sp := fun vs H Q _ => ∃ (x l : Addr) (o s : Int) (m : Str) (vals : List Int), vs = [.ref x, .ref l] ∧ SideI C H x o s m ∧ H l = some (.lst (vals.map V.int)) ∧ (∀ v ∈ vals, -2 ^ 500 < v ∧ v < 2 ^ 500) ∧ vals.length ≤ 100 ∧
  ∀ L H', Same H H' → RowsAt H' L (vals.map (tellV o s m)) → Q (.ref L) H'
def spLDue : Sp := fun vs H Q _ => ∃ (p l : Addr) (o s : Int) (m : Str) (vals : List Int), vs = [.ref p, .ref l] ∧ H p = some (sideV o s m) ∧ SideP o s m ∧ H l = some (.lst (vals.map V.int)) ∧ (∀ v ∈ vals, -2 ^ 500 < v ∧ v < 2 ^ 500) ∧ vals.length ≤ 100 ∧
  ∀ L H', Same H H' → RowsAt H' L (vals.map (tellV o s m)) → Q (.ref L) H'
section
variable {P : Program} {w : World} {K : PySem.W.Frag} {mg : Str → Option Value} {base : Heap} {C gc gg gh fH : Addr} {dH : FuncData}
theorem ok_ltold {f : Addr} {fd : FuncData} (F : Fun K "_law_told" "_law_told" s_L_told f fd) (S : SideC P w K mg base C gc gg gh) : FnOk P w K mg base CX0 7 f fd ["_law_one", "_law_values"] (spLTold C) := by
  refine F.ok sc_L_told (fun vs H Q E h => ?_) (fun cdv A outer s0 H vs Q E hr h => ?_)
  · obtain ⟨x, l, o, s, m, vals, rfl, _⟩ := h
    rfl
  · obtain ⟨x, l, o, s, m, vals, rfl, SI, hl, vb, few, q⟩ := h
    have nd := sc_L_told.nd
    have SP : SideP o s m := by obtain ⟨_, _, _, _, _, _, z⟩ := SI; exact z
    refine ⟨_, (pss_cons (ps_set (i := 2) nd rfl (Or.inl rfl) (pe_lst pa_nil))
      (pss_cons (ps_for PassesOwn.never rfl (pi_list (pv 1)) (pg_name (i := 3) nd rfl (Or.inl rfl)) (pss_one (ps_expr (pe_bm PySem.F.plainAttrs_list PySem.F.slot_list_append PySem.F.type_list_append mt_append (pv 2) (pa_cons (pe_tup (pa_cons (StX.pe_callO (pv 0) S.co S.fc (hr.mono (by decide)) pass0 (pa_cons (pv 3) pa_nil)) (pa_cons (pe_ownIx S.ge S.gi S.fg (hr.mono (by decide)) pass0 (pv 0) (pv 3)) (pa_cons (pe_cmpR (op_ownIn S.ha S.fh (hr.mono (by decide)) pass0) (pv 3) (pv 0) (by rfl)) pa_nil)))) pa_nil)))))
      (pss_one (ps_ret (pv 2))))), ?_⟩
    walk_at "rd"
    walk_at "rd"
    refine ⟨(by show 0 ≤ sizeLine; decide), fun L nL => ?_⟩
    generalize e_L : upd H L _ = H1
    have g1 : H1 L = some (.lst []) := by rw [← e_L]; exact upd_same
    have w1 : Same H H1 := by rw [← e_L]; exact fun b u z => (upd_ne (ne_of_none z nL)).trans z
    clear e_L
    walk_at "rd"
    refine ⟨⟨_, SqL.of (w1 _ _ hl)⟩, ?_⟩
    refine for_list (K := K) (a := l) (xs := vals.map V.int) (fun i st H2 => ∃ x3 : Option V, st = [some (.ref x), some (.ref l), some (.ref L), x3] ∧ Same H H2 ∧ RowsAt H2 L ((vals.take i).map (tellV o s m)))
      ⟨none, rfl, w1, RowsAt.nil g1⟩ (fun _ _ _ _ ⟨_, _, s2, _⟩ => SqL.of (s2 _ _ hl)) ?_ ?_
    · rintro i y st H2 hy ⟨x3, rfl, s2, ra⟩
      obtain ⟨v, ev, rfl⟩ : ∃ v, vals[i]? = some v ∧ y = .int v := by
        rw [List.getElem?_map] at hy
        cases e : vals[i]? with
        | none => rw [e] at hy; cases hy
        | some v => rw [e] at hy; cases hy; exact ⟨v, rfl, rfl⟩
      have bv := vb v (List.mem_of_getElem? ev)
      walk_at "rd"
      have SI2 := SI.same s2
      obtain ⟨ps, eL, lps, aps⟩ := ra
      refine ⟨.inl ⟨rfl, _, SqL.of eL⟩, ?_⟩
      walk_at "rd"
      refine ⟨SI2.insC, x, o, s, m, v, rfl, SI2, (by unfold Bd; omega), fun H3 s3 => ?_⟩
      have SI3 := SI2.same s3
      walk_at "rd"
      obtain ⟨dx, pp, qq, hx3, hrest⟩ := id SI3
      refine ⟨x, dx, _, rfl, hx3, x, o, s, m, v, rfl, SI3, by omega, ?_⟩
      walk_at "rd"
      refine ⟨x, dx, _, rfl, hx3, x, o, s, m, .int v, rfl, SI3, .inl ⟨v, rfl, (by unfold Bd; omega), fun H4 s4 => ⟨_, rfl, ?_⟩⟩⟩
      walk_at "rd"
      refine ⟨(by show 3 ≤ sizeLine; decide), fun tp ntp => ?_⟩
      have s34 := s3.trans s4
      have ra4 : RowsAt H4 L ((vals.take i).map (tellV o s m)) := ⟨ps, s34 _ _ eL, lps, fun i r p a b => s34 _ _ (aps i r p a b)⟩
      generalize e5 : upd H4 tp _ = H5
      have g5 : H5 tp = some (.tup (tellV o s m v)) := by rw [← e5]; exact upd_same
      have w5 : Same H4 H5 := by rw [← e5]; exact fun b u z => (upd_ne (ne_of_none z ntp)).trans z
      clear e5
      have ra5 := ra4.same w5
      have eL5 := w5 _ _ (s34 _ _ eL)
      have il : i < vals.length := (List.getElem?_eq_some_iff.mp ev).1
      have lp2 : ps.length = i := by rw [lps, List.length_map, List.length_take]; omega
      walk_at "rd"
      refine ⟨L, _, _, rfl, rfl, eL5, (by rw [List.length_map, lp2]; exact Nat.lt_of_lt_of_le (by omega : i < 101) (by decide)), ?_⟩
      refine ⟨_, rfl, fun b u z => (upd_ne (ne_of_none z nL)).trans (w5 _ _ (s34 _ _ (s2 _ _ z))), ?_⟩
      rw [List.take_succ, ev, List.map_append]
      exact ra5.snoc g5 (fun b u hb z => (upd_ne hb).trans z) fun qs hqs => by
        have e : ps.map V.ref = qs.map V.ref := by rw [eL5] at hqs; exact HO.lst.inj (Option.some.inj hqs)
        rw [← e]
        exact upd_same
    · rintro st H2 ⟨x3, rfl, s2, ra⟩
      rw [List.length_map, List.take_length] at ra
      walk_at "rd"
      exact q L H2 s2 ra
theorem ok_ldue {f : Addr} {fd : FuncData} (F : Fun K "_law_due" "_law_due" s_L_due f fd) (Hd : Cal P w K mg base "_law_handed" 2 ["_law_side_here", "_law_value"] spDue fH dH) : FnOk P w K mg base CX0 3 f fd ["_law_data", "_law_values"] spLDue := by
  refine F.ok sc_L_due (fun vs H Q E h => ?_) (fun cdv A outer s0 H vs Q E hr h => ?_)
  · obtain ⟨p, l, o, s, m, vals, rfl, _⟩ := h
    rfl
  · obtain ⟨p, l, o, s, m, vals, rfl, hp, SP, hl, vb, few, q⟩ := h
    have nd := sc_L_due.nd
    have sp0 := SP.s0
    have sp1 := SP.s1
    have sp2 := SP.o0
    have sp3 := SP.o1
    refine ⟨_, (pss_cons (ps_set (i := 2) nd rfl (Or.inl rfl) (pe_lst pa_nil))
      (pss_cons (ps_for PassesOwn.never rfl (pi_list (pv 1)) (pg_name (i := 3) nd rfl (Or.inl rfl)) (pss_cons (ps_set (i := 4) nd rfl (Or.inl rfl) (pcl Hd hr (by decide) (by rfl) (pa_cons (pv 0) (pa_cons (pv 3) pa_nil))))
      (pss_one (ps_expr (pe_bm PySem.F.plainAttrs_list PySem.F.slot_list_append PySem.F.type_list_append mt_append (pv 2) (pa_cons (pe_tup (pa_cons (pv 4) (pa_cons (pe_op op_add (pe_ix ix_tup (pv 0) pe_int (fun _ _ => rfl)) (pe_op op_mulW (pe_ix ix_tup (pv 0) pe_int (fun _ _ => rfl)) (pv 3))) (pa_cons (pe_cmpR op_eq (pv 4) (pv 3) (nomark _)) pa_nil)))) pa_nil))))))
      (pss_one (ps_ret (pv 2))))), ?_⟩
    walk_at "rd"
    walk_at "rd"
    refine ⟨(by show 0 ≤ sizeLine; decide), fun L nL => ?_⟩
    generalize e_L : upd H L _ = H1
    have g1 : H1 L = some (.lst []) := by rw [← e_L]; exact upd_same
    have w1 : Same H H1 := by rw [← e_L]; exact fun b u z => (upd_ne (ne_of_none z nL)).trans z
    clear e_L
    walk_at "rd"
    refine ⟨⟨_, SqL.of (w1 _ _ hl)⟩, ?_⟩
    refine for_list (K := K) (a := l) (xs := vals.map V.int) (fun i st H2 => ∃ x3 x4 : Option V, st = [some (.ref p), some (.ref l), some (.ref L), x3, x4] ∧ Same H H2 ∧ RowsAt H2 L ((vals.take i).map (tellV o s m)))
      ⟨none, none, rfl, w1, RowsAt.nil g1⟩ (fun _ _ _ _ ⟨_, _, _, s2, _⟩ => SqL.of (s2 _ _ hl)) ?_ ?_
    · rintro i y st H2 hy ⟨x3, x4, rfl, s2, ra⟩
      obtain ⟨v, ev, rfl⟩ : ∃ v, vals[i]? = some v ∧ y = .int v := by
        rw [List.getElem?_map] at hy
        cases e : vals[i]? with
        | none => rw [e] at hy; cases hy
        | some v => rw [e] at hy; cases hy; exact ⟨v, rfl, rfl⟩
      have bv := vb v (List.mem_of_getElem? ev)
      obtain ⟨ps, eL, lps, aps⟩ := ra
      walk_at "rd"
      refine ⟨p, o, s, m, v, rfl, s2 _ _ hp, SP, (by unfold Bd; omega), fun H4 s34 => ?_⟩
      have hp4 := s34 _ _ (s2 _ _ hp)
      walk_at "rd"
      refine ⟨.inl ⟨rfl, _, SqL.of (s34 _ _ eL)⟩, ?_⟩
      walk_at "rd"
      refine ⟨p, _, _, _, rfl, rfl, SqT.of hp4, rfl, ?_⟩
      walk_at "rd"
      refine ⟨p, _, _, _, rfl, rfl, SqT.of hp4, rfl, ?_⟩
      walk_at "rd"
      refine ⟨mulW (by omega) (by omega), ?_⟩
      walk_at "rd"
      refine ⟨rfl, ?_⟩
      rw [dec_int]
      walk_at "rd"
      refine ⟨(by show 3 ≤ sizeLine; decide), fun tp ntp => ?_⟩
      have ra4 : RowsAt H4 L ((vals.take i).map (tellV o s m)) := ⟨ps, s34 _ _ eL, lps, fun i r p a b => s34 _ _ (aps i r p a b)⟩
      generalize e5 : upd H4 tp _ = H5
      have g5 : H5 tp = some (.tup (tellV o s m v)) := by rw [← e5]; rw [show tellV o s m v = [.int (dueM o s m v), .int (o + s * v), .bl (decide ((v - o) % s = 0))] from rfl, ← decide_eq_of_iff (stand_iff SP.md SP.s0)]; exact upd_same
      have w5 : Same H4 H5 := by rw [← e5]; exact fun b u z => (upd_ne (ne_of_none z ntp)).trans z
      clear e5
      have ra5 := ra4.same w5
      have eL5 := w5 _ _ (s34 _ _ eL)
      have il : i < vals.length := (List.getElem?_eq_some_iff.mp ev).1
      have lp2 : ps.length = i := by rw [lps, List.length_map, List.length_take]; omega
      walk_at "rd"
      refine ⟨L, _, _, rfl, rfl, eL5, (by rw [List.length_map, lp2]; exact Nat.lt_of_lt_of_le (by omega : i < 101) (by decide)), ?_⟩
      refine ⟨_, _, rfl, fun b u z => (upd_ne (ne_of_none z nL)).trans (w5 _ _ (s34 _ _ (s2 _ _ z))), ?_⟩
      rw [List.take_succ, ev, List.map_append]
      exact ra5.snoc g5 (fun b u hb z => (upd_ne hb).trans z) fun qs hqs => by
        have e : ps.map V.ref = qs.map V.ref := by rw [eL5] at hqs; exact HO.lst.inj (Option.some.inj hqs)
        rw [← e]
        exact upd_same
    · rintro st H2 ⟨x3, x4, rfl, s2, ra⟩
      rw [List.length_map, List.take_length] at ra
      walk_at "rd"
      exact q L H2 s2 ra
end
end HT
namespace HT
open PySem PySem.Spec PyProof.Rows L2
section
variable {X : Cx} {CX : CXT} {k : Nat} {C f g : Addr} {sp : Sp} {E : L2.St → XK} {fe e ea eb : Expr} {es : List Expr} {ta tb tf : TE} {t : TA} {pos : Pos}
theorem run_fnRS {pins : List (Addr × Obj)} {σ : L2.St} {H : Hp} {s : Shared} {Q : VK} {us : List Value} {vs : List V} (F : FnR X.prog X.w X.K X.mg X.base CX k f sp) (hr : Room k X.A) (hx : PassesAt CX X σ (E σ)) (I : Inv X pins σ H s) (r : Vals vs us) (h : sp vs H Q (E σ)) :
    codeAny (model X.prog X.w) X.A (.call (.ref f) ⟨us, []⟩) (fun r s' => match r with | .ok (.ret u) => EP X pins σ Q u s' | .ok _ => False | .error e => X.xe e s') s := by
  refine codeAny_mono (F X.A X.stack s H us vs Q (E σ) hr I.env0 r h) fun r s' hq => ?_
  cases r with
  | error e => exact hx pins H s e s' I hq
  | ok fl =>
    cases fl with
    | ret u => exact I.after hq
    | next => exact False.elim hq
    | brk => exact False.elim hq
    | cont => exact False.elim hq
/-- a call of an instance where what is raised is wished for at the caller's slots -/
def tCallOS (C : Addr) (sp : Sp) (E : L2.St → XK) (tf : TE) (t : TA) : TE := fun σ H Q => tf σ H fun y H1 => ∃ a, y = V.ref a ∧ t σ H1 fun vs H2 => (∃ dx fs, H2 a = some (.ins C dx fs)) ∧ sp (V.ref a :: vs) H2 Q (E σ)
theorem pe_callOS (hf : PE X fe tf) (c : StX.CallO X.K C g) (F : FnR X.prog X.w X.K X.mg X.base CX k g sp) (hr : Room k X.A) (hx : ∀ σ, PassesAt CX X σ (E σ)) (ha : PA X (e :: es) t)
    (ht : eval (.Call fe (e :: es) [] pos) X.env = (do callWith pos (← eval fe X.env) [] (backTo pos (starEach (e :: es) X.env)) (backToKw pos (keywordEach [] X.env))) := by rfl)
    (he : starEach (e :: es) X.env = (false, eval e X.env) :: starEach es X.env := by rfl) (hpl : (backTo pos (starEach es X.env)).any (·.1) = false := by rfl) : PE X (.Call fe (e :: es) [] pos) (tCallOS C sp E tf t) := by
  refine ⟨fun pins s σ H Q I h => ?_⟩
  refine Call_ (thn (hf.run pins s σ H _ I h) fun u s1 ⟨y, H1, I1, ry, a, ey, q⟩ => ?_) ht
  subst ey
  obtain rfl : u = Value.ref a := ry
  refine StX.callO_with (thn (ha.run pos pins s1 σ H1 _ I1 q) fun us s2 ⟨vs, H2, I2, r, hi, q2⟩ => ?_) he hpl
  obtain ⟨ox, od, J, hd⟩ := StX.insC_at I2 (.inr hi)
  exact ⟨⟨C, ox, od, J, hd⟩, wpAny_call (PySem.W.kco_code I2.kIn J hd c.at_ c.fn c.fi (run_fnRS (us := .ref a :: us) (vs := .ref a :: vs) F hr (hx σ) I2 (.cons rfl r) q2))⟩
/-- x[y] by an own __getitem__, the same -/
def tOwnS (C : Addr) (sp : Sp) (E : L2.St → XK) (ta tb : TE) : TE := fun σ H Q => ta σ H fun x H1 => tb σ H1 fun y H2 => ∃ a dx fs, x = .ref a ∧ H2 a = some (.ins C dx fs) ∧ sp [.ref a, y] H2 Q (E σ)
theorem pe_ownIxS (h : Spc X.K C "__getitem__" f) (hf : PySem.W.fnIn X.K f = true) (F : FnR X.prog X.w X.K X.mg X.base CX k f sp) (hr : Room (k + 1) X.A) (hx : ∀ σ, PassesAt CX X σ (E σ)) (ha : PE X ea ta) (hb : PE X eb tb)
    (hsl : ∀ x i, subscripted eb true (.ref x) i = runValue (.builtin "lifetime.subscript" ⟨[.ref x, i], []⟩) := by intros; with_unfolding_all rfl) : PE X (.Subscript ea eb pos) (tOwnS C sp E ta tb) := by
  refine ⟨fun pins s σ H Q I h' => ?_⟩
  refine Subscript_ (binT ha hb I h' fun v u s2 x y H2 I2 rx ry q => ?_)
  obtain ⟨a, dx, fs, rfl, ea, q⟩ := q
  obtain rfl : v = Value.ref a := rx
  obtain ⟨ox, od, J, _⟩ := ins_inst I2 ea
  obtain ⟨m, hF⟩ := I2.fr
  refine PySem.W.sub_K hF I2.ok.mod.kin J h.at_ hf h.fn (wpAny_call (codeAny_mono (F X.A.in1 X.stack s2 H2 [.ref a, u] [.ref a, y] Q (E σ) hr.in1 I2.env0.in1 (.cons rfl (.cons ry .nil)) q) fun r s' hq => ?_)) (hsl _ _)
  cases r with
  | error e => exact hx σ pins H2 s2 e s' I2 hq
  | ok fl =>
    cases fl with
    | ret w => exact I2.after hq
    | next => exact False.elim hq
    | brk => exact False.elim hq
    | cont => exact False.elim hq
end
end HT
namespace HT
open PySem L2
def spRefused (D : Addr) : Sp := fun vs H Q _ => ∃ (kd : Nat) (x : Addr) (o s : Int) (m : Str) (y : V) (n : String), vs = [.int (kd : Int), .ref x, y] ∧ kd < 2 ∧ SideI D H x o s m ∧ Th H y n ∧ isI n = false ∧ ∀ H', Same H H' → Q (.bl true) H'
section
variable {P : Program} {w : World} {K : PySem.W.Frag} {mg : Str → Option Value} {base : Heap} {D gc gg Bx : Addr} {C : Nat → Addr}
theorem ok_refused {f : Addr} {fd : FuncData} (F : Fun K "_law_refused" "_law_refused" s_L_refused f fd) (R : Er K mg C Bx) (em3 : PySem.W.exmOne K (.ref (C 3)) (.ref (C 3)) = some true) (co : StX.CallO K D gc) (fc : FnR P w K mg base (L2.CX P w) 5 gc (spSBad D C)) (ge : Spc K D "__getitem__" gg) (gi : PySem.W.fnIn K gg = true) (fg : FnR P w K mg base (L2.CX P w) 3 gg (spSBad D C)) : FnOk P w K mg base CX0 6 f fd ["_law_kind", "_law_one", "_law_value"] (spRefused D) := by
  refine F.ok sc_L_refused (fun vs H Q E h => ?_) (fun cdv A outer s0 H vs Q E hr h => ?_)
  · obtain ⟨kd, x, o, s, m, y, n, rfl, _⟩ := h
    rfl
  · obtain ⟨kd, x, o, s, m, y, n, rfl, hd, SI, ty, ni, q⟩ := h
    have nd := sc_L_refused.nd
    refine ⟨_, pss_cons (ps_set (i := 3) nd rfl (Or.inl rfl) pe_non)
      (pss_cons (ps_try_keep (i := 4) rfl rfl rfl nd rfl rfl ⟨rfl, by decide, .inl R.g3⟩ takes0 (fun W pn xe tk _ => pss_one (ps_if (pt_cmpR op_eq (pv 0) pe_int (nomark _))
          (pss_one (ps_expr (pe_callOS (pv 1) co fc (hr.mono (by decide)) (fun σ => L2.passAt tk σ) (pa_cons (pv 2) pa_nil))))
          (pss_one (ps_expr (pe_ownIxS ge gi fg (hr.mono (by decide)) (fun σ => L2.passAt tk σ) (pv 1) (pv 2))))))
        (fun a rc kl dd pn hz hf => pss_one (ps_set (i := 3) nd rfl (Or.inl rfl) (pv 4))))
      (pss_one (ps_ret (pe_cmpR op_notN (pv 3) pe_non (nomark _))))), ?_⟩
    walk_at "rd"
    obtain ⟨dx, pp, qq, hx, hrest⟩ := id SI
    rcases (by omega : kd = 0 ∨ kd = 1) with rfl | rfl
    · refine ⟨rfl, ?_⟩
      walk_at "rd"
      refine ⟨⟨dx, _, hx⟩, x, o, s, m, y, n, rfl, SI, ty, ni, ?_⟩
      refine ⟨true, em3, fun _ => ⟨rfl, fun pe hpe => ?_⟩, fun z => Bool.noConfusion z⟩
      walk_at "rd"
      refine ⟨rfl, ?_⟩
      exact q _ fun b u z => (upd_ne (ne_of_none z hpe)).trans z
    · refine ⟨rfl, ?_⟩
      walk_at "rd"
      refine ⟨x, dx, _, rfl, hx, x, o, s, m, y, n, rfl, SI, ty, ni, ?_⟩
      refine ⟨true, em3, fun _ => ⟨rfl, fun pe hpe => ?_⟩, fun z => Bool.noConfusion z⟩
      walk_at "rd"
      refine ⟨rfl, ?_⟩
      exact q _ fun b u z => (upd_ne (ne_of_none z hpe)).trans z
end
end HT
namespace HT
open PySem L2
structure Sd where
  o : Int
  s : Int
  m : Str
/-- the list at l holds sides with these parts -/
structure SidesAt (H : Hp) (l : Addr) (xs : List V) (ss : List Sd) : Prop where
  hl : H l = some (.lst xs)
  len : xs.length = ss.length
  l1 : 1 ≤ ss.length
  l4 : ss.length ≤ 4
  at_ : ∀ (i : Nat) (d : Sd), ss[i]? = some d → ∃ p : Addr, xs[i]? = some (V.ref p) ∧ H p = some (sideV d.o d.s d.m) ∧ SideP d.o d.s d.m
theorem SidesAt.same {H H' : Hp} {l : Addr} {xs : List V} {ss : List Sd} (S : SidesAt H l xs ss) (e : Same H H') : SidesAt H' l xs ss :=
  ⟨e _ _ S.hl, S.len, S.l1, S.l4, fun i d h => let ⟨p, a, b, c⟩ := S.at_ i d h; ⟨p, a, e _ _ b, c⟩⟩
theorem SidesAt.oth {a c : Addr} {t : Nat} {H H' : Hp} {l : Addr} {xs : List V} {ss : List Sd} (S : SidesAt H l xs ss) (R : Src H a c t) (la : l ≠ a) (lc : l ≠ c) (e : Oth a c H H') : SidesAt H' l xs ss :=
  ⟨e _ _ S.hl la lc, S.len, S.l1, S.l4, fun i d h => let ⟨p, x, b, y⟩ := S.at_ i d h; let z := R.nt b; ⟨p, x, e _ _ b z.1 z.2, y⟩⟩
theorem SidesAt.item {H : Hp} {l : Addr} {xs : List V} {ss : List Sd} (S : SidesAt H l xs ss) {i : Nat} {y : V} (h : xs[i]? = some y) : ∃ d p, ss[i]? = some d ∧ y = .ref p ∧ H p = some (sideV d.o d.s d.m) ∧ SideP d.o d.s d.m := by
  have hi : i < ss.length := by have := (List.getElem?_eq_some_iff.mp h).1; rw [S.len] at this; exact this
  obtain ⟨p, e, hp, sp⟩ := S.at_ i ss[i] (List.getElem?_eq_getElem hi)
  rw [h] at e
  exact ⟨ss[i], p, List.getElem?_eq_getElem hi, Option.some.inj e, hp, sp⟩
/-- a side's period -/
def perM (s : Int) (m : Str) : Int := if m = "half_even" then 2 * s else s
theorem perM_bd {o s : Int} {m : Str} (S : SideP o s m) : 1 ≤ perM s m ∧ perM s m ≤ 2 * 10 ^ 30 := by
  have a := S.s0
  have b := S.s1
  unfold perM
  split <;> omega
def perN (d : Sd) : Nat := (perM d.s d.m).toNat
/-- the common period -/
def comN (ss : List Sd) : Nat := ss.foldl (fun n d => n.lcm (perN d)) 1
theorem com_snoc {ss : List Sd} {i : Nat} {d : Sd} (h : ss[i]? = some d) : comN (ss.take (i + 1)) = (comN (ss.take i)).lcm (perN d) := by
  unfold comN
  rw [List.take_succ, h, List.foldl_append]
  rfl
theorem lcm_le {a b : Nat} : a.lcm b ≤ a * b := Nat.div_le_self _ _
theorem com_le : ∀ (ss : List Sd) (n : Nat), (∀ d ∈ ss, SideP d.o d.s d.m) → ss.foldl (fun n d => n.lcm (perN d)) n ≤ n * (2 * 10 ^ 30) ^ ss.length
  | [], n, _ => by simp
  | d :: ss, n, h => by
    have z := com_le ss (n.lcm (perN d)) fun e he => h e (List.mem_cons_of_mem _ he)
    have b := perM_bd (h d List.mem_cons_self)
    have y : perN d ≤ 2 * 10 ^ 30 := by unfold perN; omega
    refine Nat.le_trans z ?_
    generalize (2 * 10 ^ 30 : Nat) = k at y
    rw [List.length_cons, Nat.pow_succ, Nat.mul_comm (k ^ ss.length), ← Nat.mul_assoc]
    exact Nat.mul_le_mul_right _ (Nat.le_trans lcm_le (Nat.mul_le_mul_left _ y))
theorem SidesAt.side {H : Hp} {l : Addr} {xs : List V} {ss : List Sd} (S : SidesAt H l xs ss) : ∀ d ∈ ss, SideP d.o d.s d.m := fun d hd => by
  obtain ⟨i, hi, rfl⟩ := List.mem_iff_getElem.mp hd
  obtain ⟨_, _, _, sp⟩ := S.at_ i _ (List.getElem?_eq_getElem hi)
  exact sp
theorem com_lt {ss : List Sd} (h : ∀ d ∈ ss, SideP d.o d.s d.m) (l4 : ss.length ≤ 4) : comN ss < 2 ^ 420 := by
  have z := com_le ss 1 h
  rw [Nat.one_mul] at z
  refine Nat.lt_of_le_of_lt z (Nat.lt_of_le_of_lt (Nat.pow_le_pow_right (by decide) l4) ?_)
  decide
theorem com_take {ss : List Sd} (h : ∀ d ∈ ss, SideP d.o d.s d.m) (l4 : ss.length ≤ 4) (i : Nat) : comN (ss.take i) < 2 ^ 420 :=
  com_lt (fun d hd => h d (List.mem_of_mem_take hd)) (Nat.le_trans (List.length_take_le' _ _) l4)
theorem com_pos : ∀ (ss : List Sd) (n : Nat), 0 < n → (∀ d ∈ ss, SideP d.o d.s d.m) → 0 < ss.foldl (fun n d => n.lcm (perN d)) n
  | [], n, hn, _ => hn
  | d :: ss, n, hn, h => by
    have b := perM_bd (h d List.mem_cons_self)
    have y : 0 < perN d := by unfold perN; omega
    exact com_pos ss _ (Nat.lcm_pos hn y) fun e he => h e (List.mem_cons_of_mem _ he)
/-- as the law has it -/
theorem lcm_div (a b : Nat) : a / Nat.gcd a b * b = a.lcm b := by
  unfold Nat.lcm
  rw [Nat.mul_comm (a / Nat.gcd a b), ← Nat.mul_div_assoc _ (Nat.gcd_dvd_left a b), Nat.mul_comm]
end HT
namespace HT
open PySem L2
def nV (k : Nat) : V := .int (k : Int)
structure AmG (mg : Str → Option Value) : Prop where
  isi : mg "isinstance" = none
  list : mg "list" = none
  len : mg "len" = none
  ms : ∃ t, mg "MOST_SIDES" = some (.int 4 t)
  mp : ∃ t, mg "MOST_PERIOD" = some (.int 100000 t)
  lcm : mg "lcm" = some (.builtin "math.lcm")
  sorted : mg "sorted" = none
def spIsSide : Sp := fun vs H Q _ => ∃ (p : Addr) (o s : Int) (m : Str), vs = [.ref p] ∧ H p = some (sideV o s m) ∧ SideP o s m ∧ Q (.bl true) H
def spSides : Sp := fun vs H Q _ => ∃ (l : Addr) (xs : List V) (ss : List Sd), vs = [.ref l] ∧ SidesAt H l xs ss ∧ Q .non H
def spPerOf : Sp := fun vs H Q _ => ∃ (p : Addr) (o s : Int) (m : Str), vs = [.ref p] ∧ H p = some (sideV o s m) ∧ SideP o s m ∧ Q (.int (perM s m)) H
def spNums : Sp := fun vs H Q _ => ∃ (kl : Addr) (ks : List Nat) (n : Nat), vs = [.ref kl, .int (n : Int)] ∧ H kl = some (.lst (ks.map nV)) ∧ ks.length ≤ 1000 ∧ (∀ k ∈ ks, k < n) ∧ Q .non H
/-- one hand-over more -/
def stepW (ss : List Sd) (a : List Int × Int) (k : Nat) : List Int × Int :=
  match ss[k]? with
  | some d => (a.1 ++ [dueM d.o d.s d.m a.2], dueM d.o d.s d.m a.2)
  | none => (a.1 ++ [a.2], a.2)
def walkW (ss : List Sd) (ks : List Nat) (v : Int) : List Int × Int := ks.foldl (stepW ss) ([], v)
theorem walk_snoc {ss : List Sd} {ks : List Nat} {v : Int} {i k : Nat} (h : ks[i]? = some k) : walkW ss (ks.take (i + 1)) v = stepW ss (walkW ss (ks.take i) v) k := by
  unfold walkW
  rw [List.take_succ, h, List.foldl_append]
  rfl
theorem due_far {o s v b : Int} {m : Str} (S : SideP o s m) (h : -b < v ∧ v < b) : -(b + 10 ^ 30) < dueM o s m v ∧ dueM o s m v < b + 10 ^ 30 := by
  have h1 := due_near (o := o) (v := v) S.md S.s0
  have h2 := S.s1
  omega
def spAlong : Sp := fun vs H Q _ => ∃ (l : Addr) (xs : List V) (ss : List Sd) (kl : Addr) (ks : List Nat) (v : Int), vs = [.ref l, .ref kl, .int v] ∧ SidesAt H l xs ss ∧ H kl = some (.lst (ks.map nV)) ∧ ks.length ≤ 1000 ∧ (∀ k ∈ ks, k < ss.length) ∧ (-2 ^ 200 < v ∧ v < 2 ^ 200) ∧
  ∀ (d : Addr) (H' : Hp), H d = none → Same H H' → H' d = some (.lst ((walkW ss ks v).1.map V.int)) → Q (.ref d) H'
section
variable {P : Program} {w : World} {K : PySem.W.Frag} {mg : Str → Option Value} {base : Heap} {aM c0 fC fB fV fN fW fS : Addr} {dC dB dV dN dW dS : FuncData}
theorem ok_is_side {f : Addr} {fd : FuncData} (F : Fun K "is_side" "is_side" s_is_side f fd) (g0 : mg "InvalidSide" = some (.ref c0)) (Ck : Cal P w K mg base "check_side" 3 ["side"] spCheckSide fC dC) : FnOk P w K mg base CX0 4 f fd ["thing"] spIsSide := by
  refine F.ok sc_is_side (fun vs H Q E h => ?_) (fun cdv A outer s0 H vs Q E hr h => ?_)
  · obtain ⟨p, o, s, m, rfl, _⟩ := h
    rfl
  · obtain ⟨p, o, s, m, rfl, hp, S, q⟩ := h
    refine ⟨_, pss_cons (ps_try_only rfl rfl ⟨rfl, by decide, .inl g0⟩ takes0 (fun W pn xe tk _ => pss_one (ps_expr (pcl Ck hr (by decide) (by rfl) (pa_cons (pv 0) pa_nil)))) (fun a oe cls d pn _ _ => pss_one (ps_ret pe_bl))) (pss_one (ps_ret pe_bl)), ?_⟩
    walk_at "rd"
    refine ⟨p, o, s, m, rfl, hp, S, ?_⟩
    walk_at "rd"
    exact q
theorem ok_sides {f : Addr} {fd : FuncData} (F : Fun K "check_sides" "check_sides" s_check_sides f fd) (A' : AmG mg) (Ck : Cal P w K mg base "is_side" 4 ["thing"] spIsSide fC dC) : FnOk P w K mg base CX0 5 f fd ["sides"] spSides := by
  refine F.ok sc_check_sides (fun vs H Q E h => ?_) (fun cdv A outer s0 H vs Q E hr h => ?_)
  · obtain ⟨l, xs, ss, rfl, _⟩ := h
    rfl
  · obtain ⟨l, xs, ss, rfl, SS, q⟩ := h
    have nd := sc_check_sides.nd
    obtain ⟨tms, hms⟩ := A'.ms
    refine ⟨_, pss_cons (ps_if (PW.pt (pw_or (pt_not (pt_val (pe_callB call_isi (by rfl) A'.isi (by decide +kernel) (pa_cons (pv 0) (pa_cons (pe_bltn (v := .ty "list") (by rfl) A'.list (by decide +kernel) rfl) pa_nil)))))
        (pw_or1 (pt_not (pt_chain op_le op_le pe_int (pe_callB call_len_seq (by rfl) A'.len PySem.boot_len (pa_cons (pv 0) pa_nil)) (pe_glob (v := .int 4) (by rfl) hms ⟨_, rfl⟩)))))) (pss_one ps_never) pss_nil)
      (pss_one (ps_for PassesOwn.never rfl (pi_list (pv 0)) (pg_name (i := 1) nd rfl (Or.inl rfl))
        (pss_one (ps_if (pt_not (pt_val (pcl Ck hr (by decide) (by rfl) (pa_cons (pv 1) pa_nil)))) (pss_one ps_never) pss_nil)))), ?_⟩
    walk_at "rd"
    refine ⟨_, _, _, _, _, rfl, .ty "list", .base (.lst SS.hl), kit_ty (r := true) (by decide +kernel), ?_⟩
    walk_at "rd"
    refine ⟨l, _, rfl, .inl (SqL.of SS.hl), ?_⟩
    have l1 := SS.l1
    have l4 := SS.l4
    have ln := SS.len
    walk_at "rd"
    refine ite2 (fun _ => ?_) (fun z => absurd (decide_eq_true (by omega)) z)
    walk_at "rd"
    refine ite2 (fun z => ?_) (fun _ => ?_)
    · exfalso
      have e : decide ((xs.length : Int) ≤ 4) = true := decide_eq_true (by omega)
      exact not_t z e
    walk_at "rd"
    refine ⟨⟨_, SqL.of SS.hl⟩, ?_⟩
    refine for_list (K := K) (a := l) (xs := xs) (fun i σ H' => ∃ y : Option V, σ = [some (.ref l), y] ∧ H' = H) ⟨none, rfl, rfl⟩ (fun _ _ _ _ ⟨_, _, e⟩ => e ▸ SqL.of SS.hl) ?_ ?_
    · rintro i y σ H' hy ⟨z, rfl, rfl⟩
      obtain ⟨d, p, ed, rfl, hp, sp⟩ := SS.item hy
      walk_at "rd"
      refine ⟨p, d.o, d.s, d.m, rfl, hp, sp, _, rfl, ?_⟩
      refine ite2 (fun z => (not_t z rfl).elim) (fun _ => ?_)
      exact ⟨_, rfl, rfl⟩
    · rintro σ H' ⟨z, rfl, rfl⟩
      exact q
theorem ok_per {f : Addr} {fd : FuncData} (F : Fun K "period_of" "period_of" s_period_of f fd) : FnOk P w K mg base CX0 1 f fd ["side"] spPerOf := by
  refine F.ok sc_period_of (fun vs H Q E h => ?_) (fun cdv A outer s0 H vs Q E hr h => ?_)
  · obtain ⟨p, o, s, m, rfl, _⟩ := h
    rfl
  · obtain ⟨p, o, s, m, rfl, hp, S, q⟩ := h
    have nd := sc_period_of.nd
    refine ⟨_, (pss_cons (ps_asg (pv 0) (pg_tup (by rfl) (pgs_cons (pg_name (i := 1) nd rfl (Or.inl rfl)) (pgs_cons (pg_name (i := 2) nd rfl (Or.inl rfl)) (pgs_cons (pg_name (i := 3) nd rfl (Or.inl rfl)) pgs_nil)))))
      (pss_cons (ps_if (pt_cmpR op_eq (pv 3) pe_str (nomark _)) (pss_one (ps_ret (pe_op op_mul pe_int (pv 2)))) pss_nil)
      (pss_one (ps_ret (pv 2))))), ?_⟩
    walk_at "rd"
    refine ⟨p, _, rfl, SqT.of hp, rfl, _, _, rfl, _, _, rfl, _, _, rfl, rfl, ?_⟩
    walk_at "rd"
    refine ⟨rfl, ?_⟩
    walk_at "rd"
    unfold perM at q
    refine ite2 (fun h => ?_) (fun h => ?_)
    · rw [if_pos (str_t h)] at q
      walk_at "rd"
      refine ⟨.inl ⟨by decide, by decide⟩, ?_⟩
      exact q
    · rw [if_neg (str_f h)] at q
      walk_at "rd"
      exact q
end
end HT
namespace HT
open PySem L2
/-- an instance of the class of sets of sides: a list of its own -/
def SidesI (Z : Addr) (H : Hp) (x : Addr) (ss : List Sd) : Prop := ∃ (dx l : Addr) (fm : V) (xs : List V), H x = some (.ins Z dx [("_sides", .ref l), ("_forms", fm)]) ∧ SidesAt H l xs ss
theorem SidesI.same {Z : Addr} {H H' : Hp} {x : Addr} {ss : List Sd} (h : SidesI Z H x ss) (e : Same H H') : SidesI Z H' x ss := let ⟨dx, l, fm, xs, a, b⟩ := h; ⟨dx, l, fm, xs, e _ _ a, b.same e⟩
def spZInit (Z : Addr) : Sp := fun vs H Q _ => ∃ (x dx l : Addr) (xs : List V) (ss : List Sd), vs = [.ref x, .ref l] ∧ H x = some (.ins Z dx []) ∧ SidesAt H l xs ss ∧
  ∀ H', (∀ b u, b ≠ x → H b = some u → H' b = some u) → SidesI Z H' x ss → Q .non H'
def spZSides (Z : Addr) : Sp := fun vs H Q _ => ∃ (x : Addr) (ss : List Sd), vs = [.ref x] ∧ SidesI Z H x ss ∧ ∀ l xs H', SidesAt H' l xs ss → Same H H' → Q (.ref l) H'
/-- a side, or a set of sides -/
def ThingI (C Z : Addr) (H : Hp) (x : Addr) (ss : List Sd) : Prop := (∃ o s m, ss = [⟨o, s, m⟩] ∧ SideI C H x o s m) ∨ SidesI Z H x ss
def spListed (C Z : Addr) : Sp := fun vs H Q _ => ∃ (x : Addr) (ss : List Sd), vs = [.ref x] ∧ ThingI C Z H x ss ∧ ∀ l xs H', SidesAt H' l xs ss → Same H H' → Q (.ref l) H'
theorem sidesAt1 {H : Hp} {l p : Addr} {o s : Int} {m : Str} (hl : H l = some (.lst [.ref p])) (h : H p = some (sideV o s m)) (S : SideP o s m) : SidesAt H l [.ref p] [⟨o, s, m⟩] :=
  ⟨hl, rfl, by show 1 ≤ 1; decide, by show 1 ≤ 4; decide, fun i d e => match i, e with
    | 0, e => by cases e; exact ⟨p, rfl, h, S⟩
    | i + 1, e => by cases e⟩
section
variable {P : Program} {w : World} {K : PySem.W.Frag} {mg : Str → Option Value} {base : Heap} {C Z p1 g1 p2 g2 : Addr} {d1 d2 : FuncData}
theorem ok_Z_sides {f : Addr} {fd : FuncData} (F : Fun K "sides" "Sides.sides" s_Z_sides f fd) (c : Cls K Z) (n1 : NoAttr K Z "_sides") (hl : mg "list" = none) : FnOk P w K mg base CX0 1 f fd ["self"] (spZSides Z) := by
  refine F.ok sc_Z_sides (fun vs H Q E h => ?_) (fun cdv A outer s0 H vs Q E hr h => ?_)
  · obtain ⟨x, ss, rfl, _⟩ := h
    rfl
  · obtain ⟨x, ss, rfl, ⟨dx, l, fm, xs, hx, SS⟩, k⟩ := h
    refine ⟨_, pss_one (ps_ret (pe_callTy call_list_of (by rfl) hl (by decide +kernel) (pa_cons (pe_fld (pv 0) rfl) pa_nil))), ?_⟩
    walk_at "rd"
    refine ⟨x, Z, dx, _, .ref l, rfl, hx, c, n1, rfl, ?_⟩
    walk_at "rd"
    refine ⟨l, _, rfl, .inl (SqL.of SS.hl), fun n nn => ?_⟩
    have w1 : Same H (upd H n (.lst xs)) := fun b u z => (upd_ne (ne_of_none z nn)).trans z
    have S2 := SS.same w1
    exact k n xs _ ⟨upd_same, S2.len, S2.l1, S2.l4, S2.at_⟩ w1
theorem ok_listed {f : Addr} {fd : FuncData} (F : Fun K "_listed" "_listed" s_listed f fd) (cS : OwnC K C) (cZ : OwnC K Z) (isi : mg "isinstance" = none) (gS : mg "Side" = some (.ref C)) (gZ : mg "Sides" = some (.ref Z)) (kZS : PySem.W.kitOne K (.ref Z) (.ref C) = some false)
    (pD : PropOf K C "data" p1 g1) (Fd : FnOk P w K mg base CX0 1 g1 d1 ["self"] (spSData C)) (bd : Binds K d1 ["self"] []) (pZ : PropOf K Z "sides" p2 g2) (Fz : FnOk P w K mg base CX0 1 g2 d2 ["self"] (spZSides Z)) (bz : Binds K d2 ["self"] []) : FnOk P w K mg base CX0 3 f fd ["thing"] (spListed C Z) := by
  refine F.ok sc_listed (fun vs H Q E h => ?_) (fun cdv A outer s0 H vs Q E hr h => ?_)
  · obtain ⟨x, ss, rfl, _⟩ := h
    rfl
  · obtain ⟨x, ss, rfl, th, k⟩ := h
    refine ⟨_, pss_cons (ps_if (pt_val (pe_callB call_isi (by rfl) isi (by decide +kernel) (pa_cons (pv 0) (pa_cons (pe_glob (v := .ref C) (by rfl) gS rfl) pa_nil)))) (pss_one (ps_ret (pe_lst (pa_cons (pe_prop (pv 0) cS.cls pD Fd (hr.mono (by decide)) bd .nil pass0 rfl) pa_nil)))) pss_nil)
      (pss_cons (ps_if (pt_val (pe_callB call_isi (by rfl) isi (by decide +kernel) (pa_cons (pv 0) (pa_cons (pe_glob (v := .ref Z) (by rfl) gZ rfl) pa_nil)))) (pss_one (ps_ret (pe_prop (pv 0) cZ.cls pZ Fz (hr.mono (by decide)) bz .nil pass0 rfl))) pss_nil) pss_never), ?_⟩
    walk_at "rd"
    rcases th with ⟨o, s, m, rfl, ⟨dx, p, q, hx, hp, hq, S⟩⟩ | SI
    · refine ⟨.ref x, .ref C, .ref C, .ref C, true, rfl, .own _, cS.ty hx, cS.self, ?_⟩
      walk_at "rd"
      refine ⟨x, dx, _, rfl, hx, x, dx, p, q, rfl, hx, ?_⟩
      walk_at "rd"
      refine ⟨(by show 1 ≤ sizeLine; decide), fun n nn => ?_⟩
      have w1 : Same H (upd H n (.lst [.ref p])) := fun b u z => (upd_ne (ne_of_none z nn)).trans z
      exact k n _ _ (sidesAt1 upd_same (w1 _ _ hp) S) w1
    · obtain ⟨dx, l, fm, xs, hx, SS⟩ := id SI
      refine ⟨.ref x, .ref C, .ref Z, .ref C, false, rfl, .own _, cZ.ty hx, kZS, ?_⟩
      walk_at "rd"
      refine ⟨.ref x, .ref Z, .ref Z, .ref Z, true, rfl, .own _, cZ.ty hx, cZ.self, ?_⟩
      walk_at "rd"
      exact ⟨x, dx, _, rfl, hx, x, ss, rfl, SI, k⟩
/-- a new set of sides by a call of its class -/
theorem make_sides {H : Hp} {l : Addr} {xs : List V} {ss : List Sd} {Q : VK} {E : XK} (SS : SidesAt H l xs ss) (q : ∀ x H', H x = none → Same H H' → SidesI Z H' x ss → Q (.ref x) H') :
    ∀ x dx, H x = none → H dx = none → dx ≠ x → spZInit Z (.ref x :: ([.ref l] ++ [])) (upd (upd H dx (.own x)) x (.ins Z dx [])) (fun v H2 => v = .non ∧ Q (.ref x) H2) E := by
  intro x dx hx hdx ne
  have w1 : Same H (upd (upd H dx (.own x)) x (.ins Z dx [])) := fun b u z => (upd_ne (ne_of_none z hx)).trans ((upd_ne (ne_of_none z hdx)).trans z)
  exact ⟨x, dx, l, xs, ss, rfl, upd_same, SS.same w1, fun H' sm I => ⟨rfl, q x H' hx (fun b u z => sm b u (ne_of_none z hx) (w1 _ _ z)) I⟩⟩
/-- the sides of one list behind those of another -/
theorem SidesAt.cat {H : Hp} {l l' n : Addr} {xs ys : List V} {ss ts : List Sd} (S : SidesAt H l xs ss) (T : SidesAt H l' ys ts) (hn : H n = some (.lst (xs ++ ys))) (few : ss.length + ts.length ≤ 4) : SidesAt H n (xs ++ ys) (ss ++ ts) := by
  refine ⟨hn, by rw [List.length_append, List.length_append, S.len, T.len], by rw [List.length_append]; have := S.l1; omega, by rw [List.length_append]; exact few, fun i d h => ?_⟩
  have e := S.len
  by_cases z : i < ss.length
  · rw [List.getElem?_append_left z] at h
    obtain ⟨p, a, b, c⟩ := S.at_ i d h
    exact ⟨p, by rw [List.getElem?_append_left (by omega)]; exact a, b, c⟩
  · rw [List.getElem?_append_right (by omega)] at h
    obtain ⟨p, a, b, c⟩ := T.at_ _ d h
    exact ⟨p, by rw [List.getElem?_append_right (by omega), e]; exact a, b, c⟩
def spSOr (C Z : Addr) : Sp := fun vs H Q _ => ∃ (x y : Addr) (o s : Int) (m : Str) (ts : List Sd), vs = [.ref x, .ref y] ∧ SideI C H x o s m ∧ ThingI C Z H y ts ∧ ts.length ≤ 3 ∧ ∀ z H', Same H H' → SidesI Z H' z (⟨o, s, m⟩ :: ts) → Q (.ref z) H'
def spZOr (C Z : Addr) : Sp := fun vs H Q _ => ∃ (x y : Addr) (ss ts : List Sd), vs = [.ref x, .ref y] ∧ SidesI Z H x ss ∧ ThingI C Z H y ts ∧ ss.length + ts.length ≤ 4 ∧ ∀ z H', Same H H' → SidesI Z H' z (ss ++ ts) → Q (.ref z) H'
theorem ok_S_or {f fi fL : Addr} {fd di dL : FuncData} {kz : Nat} (F : Fun K "__or__" "Side.__or__" s_S_or f fd) (c : Cls K C) (n1 : NoAttr K C "_data") (gZ : mg "Sides" = some (.ref Z)) (M : Mk K Z fi) (Ini : FnOk P w K mg base CX0 6 fi di ["self", "sides"] (spZInit Z)) (bi : Binds K di ["self", "sides"] [])
    (Li : Cal P w K mg base "_listed" 3 ["thing"] (spListed C Z) fL dL) : FnOk P w K mg base CX0 8 f fd ["self", "other"] (spSOr C Z) := by
  refine F.ok sc_S_or (fun vs H Q E h => ?_) (fun cdv A outer s0 H vs Q E hr h => ?_)
  · obtain ⟨x, y, o, s, m, ts, rfl, _⟩ := h
    rfl
  · obtain ⟨x, y, o, s, m, ts, rfl, ⟨dx, p, q, hx, hp, hq, S⟩, th, few, k⟩ := h
    refine ⟨_, pss_one (ps_ret (pe_make M Ini (hr.mono (by decide)) (by rfl) gZ bi .nil pass0 (pa_cons (pe_op op_cat (pe_lst (pa_cons (pe_fld (pv 0) rfl) pa_nil)) (pcl Li hr (by decide) (by rfl) (pa_cons (pv 1) pa_nil))) pa_nil))), ?_⟩
    walk_at "rd"
    refine ⟨x, C, dx, _, .ref p, rfl, hx, c, n1, rfl, ?_⟩
    walk_at "rd"
    refine ⟨(by show 1 ≤ sizeLine; decide), fun n nn => ?_⟩
    have w1 : Same H (upd H n (.lst [.ref p])) := fun b u z => (upd_ne (ne_of_none z nn)).trans z
    have S1 : SidesAt (upd H n (.lst [.ref p])) n [.ref p] [⟨o, s, m⟩] := sidesAt1 upd_same (w1 _ _ hp) S
    generalize upd H n (.lst [.ref p]) = H1 at w1 S1 ⊢
    walk_at "rd"
    refine ⟨y, ts, rfl, ?_, fun l xs H2 S2 s2 => ?_⟩
    · rcases th with ⟨o', s', m', e, I⟩ | I
      · exact .inl ⟨o', s', m', e, I.same w1⟩
      · exact .inr (I.same w1)
    have S12 := S1.same s2
    refine ⟨n, l, _, _, rfl, rfl, S12.hl, S2.hl, (by rw [S2.len]; show 1 + ts.length ≤ sizeLine; exact Nat.le_trans (by omega : _ ≤ 4) (by decide)), fun n3 nn3 => ?_⟩
    have w3 : Same H2 (upd H2 n3 (.lst ([.ref p] ++ xs))) := fun b u z => (upd_ne (ne_of_none z nn3)).trans z
    have S3 := (S12.same w3).cat (S2.same w3) upd_same (by show 1 + ts.length ≤ 4; omega)
    generalize upd H2 n3 (.lst ([.ref p] ++ xs)) = H3 at w3 S3 ⊢
    walk_at "rd"
    exact make_sides S3 fun z H4 hz s4 I4 => k z H4 (w1.trans (s2.trans (w3.trans s4))) I4
theorem ok_Z_or {f fi fL : Addr} {fd di dL : FuncData} (F : Fun K "__or__" "Sides.__or__" s_Z_or f fd) (c : Cls K Z) (n1 : NoAttr K Z "_sides") (gZ : mg "Sides" = some (.ref Z)) (M : Mk K Z fi) (Ini : FnOk P w K mg base CX0 6 fi di ["self", "sides"] (spZInit Z)) (bi : Binds K di ["self", "sides"] [])
    (Li : Cal P w K mg base "_listed" 3 ["thing"] (spListed C Z) fL dL) : FnOk P w K mg base CX0 8 f fd ["self", "other"] (spZOr C Z) := by
  refine F.ok sc_Z_or (fun vs H Q E h => ?_) (fun cdv A outer s0 H vs Q E hr h => ?_)
  · obtain ⟨x, y, ss, ts, rfl, _⟩ := h
    rfl
  · obtain ⟨x, y, ss, ts, rfl, ⟨dx, n, fm, ys, hx, S1⟩, th, few, k⟩ := h
    refine ⟨_, pss_one (ps_ret (pe_make M Ini (hr.mono (by decide)) (by rfl) gZ bi .nil pass0 (pa_cons (pe_op op_cat (pe_fld (pv 0) rfl) (pcl Li hr (by decide) (by rfl) (pa_cons (pv 1) pa_nil))) pa_nil))), ?_⟩
    walk_at "rd"
    refine ⟨x, Z, dx, _, .ref n, rfl, hx, c, n1, rfl, ?_⟩
    walk_at "rd"
    refine ⟨y, ts, rfl, th, fun l xs H2 S2 s2 => ?_⟩
    have S12 := S1.same s2
    refine ⟨n, l, _, _, rfl, rfl, S12.hl, S2.hl, (by rw [S2.len, S12.len]; exact Nat.le_trans few (by decide)), fun n3 nn3 => ?_⟩
    have w3 : Same H2 (upd H2 n3 (.lst (ys ++ xs))) := fun b u z => (upd_ne (ne_of_none z nn3)).trans z
    have S3 := (S12.same w3).cat (S2.same w3) upd_same few
    generalize upd H2 n3 (.lst (ys ++ xs)) = H3 at w3 S3 ⊢
    walk_at "rd"
    exact make_sides S3 fun z H4 hz s4 I4 => k z H4 (s2.trans (w3.trans s4)) I4
end
end HT
namespace HT
open PySem L2
/-- the two classes -/
structure OwnK (P : Program) (w : World) (K : PySem.W.Frag) (mg : Str → Option Value) (base : Heap) (C Z iS' iZ' p1 g1 p2 g2 gn ge go gz gc gg gh : Addr) (dS dZ d1 d2 : FuncData) : Prop where
  gS : mg "Side" = some (.ref C)
  gZ : mg "Sides" = some (.ref Z)
  mS : Mk K C iS'
  mZ : Mk K Z iZ'
  iS : FnOk P w K mg base CX0 5 iS' dS ["self", "data"] (spSInit C)
  iZ : FnOk P w K mg base CX0 6 iZ' dZ ["self", "sides"] (spZInit Z)
  bS : Binds K dS ["self", "data"] []
  bZ : Binds K dZ ["self", "sides"] []
  cS : OwnC K C
  cZ : OwnC K Z
  pD : PropOf K C "data" p1 g1
  fD : FnOk P w K mg base CX0 1 g1 d1 ["self"] (spSData C)
  bD : Binds K d1 ["self"] []
  pZ : PropOf K Z "sides" p2 g2
  fZ : FnOk P w K mg base CX0 1 g2 d2 ["self"] (spZSides Z)
  bZs : Binds K d2 ["self"] []
  sN : Spc K C "__neg__" gn
  fN : FnR P w K mg base CX0 7 gn (spSNeg C)
  sE : Spc K C "__eq__" ge
  fE : FnR P w K mg base CX0 2 ge (spSEq K C)
  ob : PySem.W.subIn K (.ref C) (.type "object") = some true
  ne : PySem.W.findIn K (.ref C) "__ne__" = some (some (.builtin "object.__ne__"))
  sO : Spc K C "__or__" go
  fO : FnR P w K mg base CX0 8 go (spSOr C Z)
  zO : Spc K Z "__or__" gz
  fZo : FnR P w K mg base CX0 8 gz (spZOr C Z)
  hZS : C ≠ Z
  hS : PySem.W.selfFirst K C = true
  hZ : PySem.W.selfFirst K Z = true
  rS : PySem.W.findIn K (.ref C) "__ror__" = some none
  rZ : PySem.W.findIn K (.ref Z) "__ror__" = some none
  sSZ : PySem.W.subIn K (.ref C) (.ref Z) = some false
  sZS : PySem.W.subIn K (.ref Z) (.ref C) = some false
  kZ : PySem.W.kitOne K (.ref Z) (.ref C) = some false
  nf : ∀ n : String, n ∈ ["int", "bool", "NoneType", "str", "tuple", "list", "dict"] → PySem.W.subIn K (.type n) (.ref C) = some false ∧ PySem.W.kitOne K (.type n) (.ref C) = some false
  SC : SideC P w K mg base C gc gg gh
def spSingle : Sp := fun vs H Q _ => ∃ (p l : Addr) (o s : Int) (m : Str) (vals : List Int), vs = [.ref p, .ref l] ∧ H p = some (sideV o s m) ∧ SideP o s m ∧ H l = some (.lst (vals.map V.int)) ∧ (∀ v ∈ vals, -2 ^ 500 < v ∧ v < 2 ^ 500) ∧ vals.length ≤ 100 ∧
  ∀ H', Same H H' → Q (.bl true) H'
section
variable {P : Program} {w : World} {K : PySem.W.Frag} {mg : Str → Option Value} {base : Heap} {C Z iS' iZ' p1 g1 p2 g2 gn ge go gz gc gg gh fT fU fR fM fF : Addr} {dS dZ d1 d2 dT dU dR dM dF : FuncData}
theorem ok_single {f : Addr} {fd : FuncData} (F : Fun K "_law_single_fits" "_law_single_fits" s_L_single_fits f fd) (O : OwnK P w K mg base C Z iS' iZ' p1 g1 p2 g2 gn ge go gz gc gg gh dS dZ d1 d2) (To : Cal P w K mg base "_law_told" 7 ["_law_one", "_law_values"] (spLTold C) fT dT) (Du : Cal P w K mg base "_law_due" 3 ["_law_data", "_law_values"] spLDue fU dU)
    (Rf : Cal P w K mg base "_law_refused" 6 ["_law_kind", "_law_one", "_law_value"] (spRefused C) fR dR) (Mi : Cal P w K mg base "mirror" 4 ["side"] spMirror fM dM) (Fm : Cal P w K mg base "form" 4 ["side"] spForm fF dF) : FnOk P w K mg base CX0 10 f fd ["_law_data", "_law_values"] spSingle := by
  refine F.ok sc_L_single_fits (fun vs H Q E h => ?_) (fun cdv A outer s0 H vs Q E hr h => ?_)
  · obtain ⟨p, l, o, s, m, vals, rfl, _⟩ := h
    rfl
  · obtain ⟨p, l, o, s, m, vals, rfl, hp, SP, hl, vb, few, q⟩ := h
    have nd := sc_L_single_fits.nd
    refine ⟨_, (pss_cons (ps_set (i := 2) nd rfl (Or.inl rfl) (pe_make O.mS O.iS (hr.mono (by decide)) (by rfl) O.gS O.bS .nil pass0 (pa_cons (pv 0) pa_nil)))
      (pss_cons (ps_set (i := 3) nd rfl (Or.inl rfl) (pcl Du hr (by decide) (by rfl) (pa_cons (pv 0) (pa_cons (pv 1) pa_nil))))
      (pss_cons (ps_if (PW.pt (pw_or (pt_cmpR (op_neD hr.units) (pe_prop (pv 2) O.cS.cls O.pD O.fD (hr.mono (by decide)) O.bD .nil pass0 rfl) (pv 0) (nomark _)) (pw_or (pt_cmpR (op_neD hr.units) (pcl To hr (by decide) (by rfl) (pa_cons (pv 2) (pa_cons (pv 1) pa_nil))) (pv 3) (nomark _)) (pw_or1 (pt_cmpR (op_neD hr.units) (pcl To hr (by decide) (by rfl) (pa_cons (pv 2) (pa_cons (pe_revL (pv 1)) pa_nil))) (pe_revL (pv 3)) (nomark _)))))) (pss_one (ps_ret pe_bl)) pss_nil)
      (pss_cons (ps_if (PW.pt (pw_or (pt_cmpR (op_neD hr.units) (pe_prop (pe_un (un_own O.sN O.fN (hr.mono (by decide)) pass0) (pv 2)) O.cS.cls O.pD O.fD (hr.mono (by decide)) O.bD .nil pass0 rfl) (pcl Mi hr (by decide) (by rfl) (pa_cons (pv 0) pa_nil)) (nomark _)) (pw_or (pt_not (pt_cmpR (op_ownEq O.sE O.fE (hr.mono (by decide)) pass0) (pe_un (un_own O.sN O.fN (hr.mono (by decide)) pass0) (pe_un (un_own O.sN O.fN (hr.mono (by decide)) pass0) (pv 2))) (pv 2) (nomark _))) (pw_or (pt_cmpR (op_neD hr.units) (pe_prop (pv 2) O.cS.cls O.pD O.fD (hr.mono (by decide)) O.bD .nil pass0 rfl) (pv 0) (nomark _)) (pw_or1 (pt_cmpR (op_neD hr.units) (pcl To hr (by decide) (by rfl) (pa_cons (pv 2) (pa_cons (pv 1) pa_nil))) (pv 3) (nomark _))))))) (pss_one (ps_ret pe_bl)) pss_nil)
      (pss_cons (ps_for PassesOwn.never rfl (pi_list (pe_lst (pa_cons pe_non (pa_cons pe_bl (pa_cons pe_bl (pa_cons pe_str (pa_cons (pe_lst pa_nil) (pa_cons (pe_tup (pa_cons pe_int pa_nil)) (pa_cons pe_dnewK pa_nil))))))))) (pg_name (i := 4) nd rfl (Or.inl rfl)) (pss_one (ps_if (PW.pt (pw_or (pt_not (pt_val (pcl Rf hr (by decide) (by rfl) (pa_cons pe_int (pa_cons (pv 2) (pa_cons (pv 4) pa_nil)))))) (pw_or (pt_not (pt_val (pcl Rf hr (by decide) (by rfl) (pa_cons pe_int (pa_cons (pv 2) (pa_cons (pv 4) pa_nil)))))) (pw_or (pt_cmpR (op_ownIn O.SC.ha O.SC.fh (hr.mono (by decide)) pass0) (pv 4) (pv 2) (by rfl)) (pw_or1 (pt_cmpR (op_ownEq O.sE O.fE (hr.mono (by decide)) pass0) (pv 2) (pv 4) (nomark _))))))) (pss_one (ps_ret pe_bl)) pss_nil)))
      (pss_one (ps_ret (pe_and (pe_not (pe_cmpR (op_ownEq O.sE O.fE (hr.mono (by decide)) pass0) (pv 2) (pv 0) (nomark _))) (pe_and (pe_not (pe_cmpR (op_ownEq O.sE O.fE (hr.mono (by decide)) pass0) (pv 2) (pe_make O.mZ O.iZ (hr.mono (by decide)) (by rfl) O.gZ O.bZ .nil pass0 (pa_cons (pe_lst (pa_cons (pv 0) pa_nil)) pa_nil)) (nomark _))) (pe_and (pe_cmpR (op_ownEq O.sE O.fE (hr.mono (by decide)) pass0) (pv 2) (pe_make O.mS O.iS (hr.mono (by decide)) (by rfl) O.gS O.bS .nil pass0 (pa_cons (pv 0) pa_nil)) (nomark _)) (pe_one (pe_not (pe_cmpR (op_ownNe O.sE O.ob O.ne O.fE (hr.mono (by decide)) pass0) (pv 2) (pe_make O.mS O.iS (hr.mono (by decide)) (by rfl) O.gS O.bS .nil pass0 (pa_cons (pcl Fm hr (by decide) (by rfl) (pa_cons (pv 0) pa_nil)) pa_nil)) (nomark _)))))))))))))), ?_⟩
    walk_at "rd"
    intro x dxx nx ndxx nex
    refine ⟨x, dxx, p, _, _, _, rfl, upd_same, (upd_ne (ne_of_none hp nx)).trans ((upd_ne (ne_of_none hp ndxx)).trans hp), SP, fun H1 smx SI => ⟨rfl, ?_⟩⟩
    have s1 : Same H H1 := fun b u z => smx b u (ne_of_none z nx) ((upd_ne (ne_of_none z nx)).trans ((upd_ne (ne_of_none z ndxx)).trans z))
    clear smx
    walk_at "rd"
    refine ⟨p, l, o, s, m, vals, rfl, s1 _ _ hp, SP, s1 _ _ hl, vb, few, fun L H2 s2 RA => ?_⟩
    have SI2 := SI.same s2
    have SR := shaped_rows (tell_ok (o := o) (s := s) (m := m) (vals := vals))
    obtain ⟨dx, p', q', hx, hp', hq', _⟩ := id SI2
    walk_at "rd"
    refine ⟨x, dx, _, rfl, hx, x, dx, p', q', rfl, hx, ?_⟩
    walk_at "rd"
    refine ⟨_, _, dpSide hp', dpSide (s2 _ _ (s1 _ _ hp)), shaped_side SP.md, shaped_side SP.md, ?_⟩
    refine ⟨_, rfl, ?_⟩
    refine ite2 (fun z => (not_t z (eqv_sh (shaped_side SP.md))).elim) (fun _ => ?_)
    walk_at "rd"
    refine ⟨x, l, o, s, m, vals, rfl, SI2, s2 _ _ (s1 _ _ hl), vb, few, fun L2 H3 s3 RB => ?_⟩
    walk_at "rd"
    refine ⟨_, _, RB.dp tell_ok, (RA.same s3).dp tell_ok, SR, SR, ?_⟩
    refine ⟨_, rfl, ?_⟩
    refine ite2 (fun z => (not_t z (eqv_sh SR)).elim) (fun _ => ?_)
    walk_at "rd"
    refine ⟨l, _, rfl, SqL.of ((s1.trans (s2.trans s3)) _ _ hl), fun lr nlr => ?_⟩
    generalize e4 : upd H3 lr _ = H4
    have glr : H4 lr = some (.lst (vals.reverse.map V.int)) := by rw [← e4, List.map_reverse]; exact upd_same
    have s4 : Same H3 H4 := by rw [← e4]; exact fun b u z => (upd_ne (ne_of_none z nlr)).trans z
    clear e4
    walk_at "rd"
    refine ⟨x, lr, o, s, m, vals.reverse, rfl, (SI2.same s3).same s4, glr, (fun v hv => vb v (List.mem_reverse.mp hv)), by rw [List.length_reverse]; exact few, fun L3 H5 s5 RC => ?_⟩
    have s25 := s3.trans (s4.trans s5)
    obtain ⟨psA, eA, lA, aA⟩ := id RA
    walk_at "rd"
    refine ⟨L, _, rfl, SqL.of (s25 _ _ eA), fun lq nlq => ?_⟩
    generalize e6 : upd H5 lq _ = H6
    have glq : H6 lq = some (.lst (psA.map V.ref).reverse) := by rw [← e6]; exact upd_same
    have s6 : Same H5 H6 := by rw [← e6]; exact fun b u z => (upd_ne (ne_of_none z nlq)).trans z
    clear e6
    have RD : RowsAt H6 lq (vals.reverse.map (tellV o s m)) := by
      rw [List.map_reverse]
      exact (RA.same s25).rev s6 _ (s25 _ _ eA) glq
    have SR2 := shaped_rows (tell_ok (o := o) (s := s) (m := m) (vals := vals.reverse))
    refine ⟨_, _, (RC.same s6).dp tell_ok, RD.dp tell_ok, SR2, SR2, ?_⟩
    refine ⟨_, rfl, ?_⟩
    refine ite2 (fun z => (not_t z (eqv_sh SR2)).elim) (fun _ => ?_)
    have s06 : Same H H6 := s1.trans (s2.trans (s25.trans s6))
    have SI6 := (SI2.same s25).same s6
    have RA6 := (RA.same s25).same s6
    clear RD RC RB RA SI2 SI glq glr s6 s25 s5 s4 s3 s2 s1 hx hp' hq' eA aA lA nlq nlr
    obtain ⟨dx6, p6, q6, hx6, hp6, hq6, _⟩ := id SI6
    walk_at "rd"
    refine ⟨x, dx6, _, rfl, hx6, x, o, s, m, rfl, SI6, fun x7 H7 _ s7 SI7 => ?_⟩
    obtain ⟨dx7, p7, q7, hx7, hp7, hq7, SP7⟩ := id SI7
    walk_at "rd"
    refine ⟨x7, dx7, _, rfl, hx7, x7, dx7, p7, q7, rfl, hx7, ?_⟩
    walk_at "rd"
    refine ⟨p, o, s, m, rfl, s7 _ _ (s06 _ _ hp), SP, fun d8 H8 s8 _ hd8 => ?_⟩
    walk_at "rd"
    refine ⟨_, _, dpSide (s8 _ _ hp7), dpSide hd8, shaped_side SP7.md, shaped_side SP7.md, ?_⟩
    refine ⟨_, rfl, ?_⟩
    refine ite2 (fun z => (not_t z (eqv_sh (shaped_side SP7.md))).elim) (fun _ => ?_)
    have SI8 := (SI6.same s7).same s8
    have hx8 := s8 _ _ (s7 _ _ hx6)
    walk_at "rd"
    refine ⟨x, dx6, _, rfl, hx8, x, o, s, m, rfl, SI8, fun x9 H9 _ s9 SI9 => ?_⟩
    obtain ⟨dx9, p9, q9, hx9, _⟩ := id SI9
    walk_at "rd"
    refine ⟨x9, dx9, _, rfl, hx9, x9, -o, s, mir m, rfl, SI9, fun xA HA _ sA SIA => ?_⟩
    rw [Int.neg_neg, mir_mir SP.md] at SIA
    have SI8A := (SI8.same s9).same sA
    obtain ⟨dxA, pA, qA, hxA, _⟩ := id SIA
    walk_at "rd"
    refine ⟨xA, dxA, _, .ref C, rfl, hxA, O.cS.ty (sA _ _ (s9 _ _ hx8)), (by simp [PySem.W.notFirst]), xA, o, s, m, _, rfl, SIA, .inl ⟨x, o, s, m, rfl, SI8A, ?_⟩⟩
    have sf := shaped_side (side_form SP).md (o := formO o s (firstM s m)) (s := s)
    rw [eqv_sh sf]
    walk_at "rd"
    have s6A : Same H6 HA := s7.trans (s8.trans (s9.trans sA))
    have s0A : Same H HA := s06.trans s6A
    have RAA := RA6.same s6A
    clear SIA SI9 SI7 SI8 SI6 hxA hx9 hx8 hx7 hx6 hp7 hp6 hq6 hq7 RA6 s6A s06 s7 s8 s9 sA hd8
    obtain ⟨dxB, pB, qB, hxB, hpB, _⟩ := id SI8A
    refine ⟨x, dxB, _, rfl, hxB, x, dxB, pB, qB, rfl, hxB, ?_⟩
    walk_at "rd"
    refine ⟨_, _, dpSide hpB, dpSide (s0A _ _ hp), shaped_side SP.md, shaped_side SP.md, ?_⟩
    refine ⟨_, rfl, ?_⟩
    refine ite2 (fun z => (not_t z (eqv_sh (shaped_side SP.md))).elim) (fun _ => ?_)
    walk_at "rd"
    refine ⟨x, l, o, s, m, vals, rfl, SI8A, s0A _ _ hl, vb, few, fun LB HB sB RB => ?_⟩
    walk_at "rd"
    refine ⟨_, _, RB.dp tell_ok, (RAA.same sB).dp tell_ok, SR, SR, ?_⟩
    refine ⟨_, rfl, ?_⟩
    refine ite2 (fun z => (not_t z (eqv_sh SR)).elim) (fun _ => ?_)
    have s0B := s0A.trans sB
    have SIB := SI8A.same sB
    clear RB RAA SI8A hxB hpB s0A sB SR
    walk_at "rd"
    walk_at "rd"
    refine ⟨(by show 0 ≤ sizeLine; decide), fun b1 nb1 => ?_⟩
    generalize e_b1 : upd HB b1 _ = B1
    have f1 : B1 b1 = some (.lst []) := by rw [← e_b1]; exact upd_same
    have v1 : Same HB B1 := by rw [← e_b1]; exact fun b u z => (upd_ne (ne_of_none z nb1)).trans z
    clear e_b1
    walk_at "rd"
    refine ⟨(by show 1 ≤ sizeLine; decide), fun b2 nb2 => ?_⟩
    generalize e_b2 : upd B1 b2 _ = B2
    have f2 : B2 b2 = some (.tup [.int 1]) := by rw [← e_b2]; exact upd_same
    have v2 : Same B1 B2 := by rw [← e_b2]; exact fun b u z => (upd_ne (ne_of_none z nb2)).trans z
    clear e_b2
    walk_at "rd"
    intro b3 nb3
    generalize e_b3 : upd B2 b3 _ = B3
    have f3 : B3 b3 = some (.dK []) := by rw [← e_b3]; exact upd_same
    have v3 : Same B2 B3 := by rw [← e_b3]; exact fun b u z => (upd_ne (ne_of_none z nb3)).trans z
    clear e_b3
    walk_at "rd"
    refine ⟨(by show 7 ≤ sizeLine; decide), fun bl nbl => ?_⟩
    generalize e_bl : upd B3 bl _ = B4
    have f4 : B4 bl = some (.lst [.non, .bl true, .bl false, .str "1", .ref b1, .ref b2, .ref b3]) := by rw [← e_bl]; exact upd_same
    have v4 : Same B3 B4 := by rw [← e_bl]; exact fun b u z => (upd_ne (ne_of_none z nbl)).trans z
    clear e_bl
    have s0C : Same H B4 := s0B.trans (v1.trans (v2.trans (v3.trans v4)))
    have SIC : SideI C B4 x o s m := SIB.same (v1.trans (v2.trans (v3.trans v4)))
    have tb1 : Th B4 (.ref b1) "list" := .lst ((v2.trans (v3.trans v4)) _ _ f1)
    have tb2 : Th B4 (.ref b2) "tuple" := .tup ((v3.trans v4) _ _ f2)
    have tb3 : Th B4 (.ref b3) "dict" := .dk (v4 _ _ f3)
    clear v1 v2 v3 v4 f1 f2 f3 SIB s0B
    walk_at "rd"
    refine ⟨⟨_, SqL.of f4⟩, ?_⟩
    refine for_list (K := K) (a := bl) (xs := [.non, .bl true, .bl false, .str "1", .ref b1, .ref b2, .ref b3]) (fun i2 st H7 => ∃ z4 : Option V, st = [some (.ref p), some (.ref l), some (.ref x), some (.ref L), z4] ∧ Same B4 H7) ⟨none, rfl, Same.refl _⟩ (fun _ _ _ _ ⟨_, _, s7⟩ => SqL.of (s7 _ _ f4)) ?_ ?_
    · rintro i2 y st H7 hy ⟨z4, rfl, s7⟩
      obtain ⟨n, ty, ni, nn⟩ : ∃ n : String, Th B4 y n ∧ isI n = false ∧ n ∈ ["int", "bool", "NoneType", "str", "tuple", "list", "dict"] := by
        have hy := List.mem_of_getElem? hy
        simp only [List.mem_cons, List.not_mem_nil, or_false] at hy
        rcases hy with rfl | rfl | rfl | rfl | rfl | rfl | rfl
        · exact ⟨_, .non, by decide, by decide⟩
        · exact ⟨_, .bl _, by decide, by decide⟩
        · exact ⟨_, .bl _, by decide, by decide⟩
        · exact ⟨_, .str _, by decide, by decide⟩
        · exact ⟨_, tb1, by decide, by decide⟩
        · exact ⟨_, tb2, by decide, by decide⟩
        · exact ⟨_, tb3, by decide, by decide⟩
      obtain ⟨nf1, nf2⟩ := O.nf n nn
      have SI7 := SIC.same s7
      have ty7 := ty.same s7
      have nfn : PySem.W.notFirst K C (.type n) = true := by unfold PySem.W.notFirst; rw [nf1]; simp
      walk_at "rd"
      refine ⟨0, x, o, s, m, y, n, rfl, by decide, SI7, ty7, ni, fun H8 s8 => ?_⟩
      refine ⟨_, rfl, ?_⟩
      refine ite2 (fun z => absurd z (by decide)) (fun _ => ?_)
      walk_at "rd"
      refine ⟨1, x, o, s, m, y, n, rfl, by decide, SI7.same s8, ty7.same s8, ni, fun H9 s9 => ?_⟩
      refine ⟨_, rfl, ?_⟩
      refine ite2 (fun z => absurd z (by decide)) (fun _ => ?_)
      have SI9 := (SI7.same s8).same s9
      have ty9 := (ty7.same s8).same s9
      obtain ⟨dx9, p9, q9, hx9, _⟩ := id SI9
      walk_at "rd"
      refine ⟨x, dx9, _, rfl, hx9, x, o, s, m, y, rfl, SI9, .inr ⟨n, ty9, ni, ⟨_, rfl, ?_⟩⟩⟩
      refine ⟨_, rfl, ?_⟩
      refine ite2 (fun z => absurd z (by decide)) (fun _ => ?_)
      walk_at "rd"
      refine ⟨x, dx9, _, .type n, rfl, hx9, ty9.ty, nfn, x, o, s, m, y, rfl, SI9, .inr ⟨.type n, ty9.ty, nf2, ?_⟩⟩
      refine ⟨_, rfl, ?_⟩
      refine ite2 (fun z => absurd z (by decide)) (fun _ => ?_)
      exact ⟨_, rfl, s7.trans (s8.trans s9)⟩
    rintro st H7 ⟨z4, rfl, s7⟩
    walk_at "rd"
    have s07 := s0C.trans s7
    have SI7 := SIC.same s7
    obtain ⟨dx7, p7, q7, hx7, _⟩ := id SI7
    have hp7 := s07 _ _ hp
    have thp : Th H7 (.ref p) "tuple" := .tup hp7
    obtain ⟨nf1, nf2⟩ := O.nf "tuple" (by decide)
    have nft : PySem.W.notFirst K C (.type "tuple") = true := by unfold PySem.W.notFirst; rw [nf1]; simp
    have nfZ : PySem.W.notFirst K C (.ref Z) = true := by unfold PySem.W.notFirst; rw [O.sZS]; simp
    refine ⟨x, dx7, _, .type "tuple", rfl, hx7, thp.ty, nft, x, o, s, m, _, rfl, SI7, .inr ⟨.type "tuple", thp.ty, nf2, ?_⟩⟩
    walk_at "rd"
    refine ⟨(by show 1 ≤ sizeLine; decide), fun n1 nn1 => ?_⟩
    generalize e_1 : upd H7 n1 _ = E1
    have gn1 : E1 n1 = some (.lst [.ref p]) := by rw [← e_1]; exact upd_same
    have t1 : Same H7 E1 := by rw [← e_1]; exact fun b u z => (upd_ne (ne_of_none z nn1)).trans z
    clear e_1
    have SL1 : SidesAt E1 n1 [.ref p] [⟨o, s, m⟩] := sidesAt1 gn1 (t1 _ _ hp7) SP
    walk_at "rd"
    intro zz dz nz ndz nez
    have v1 : Same E1 (upd (upd E1 dz (.own zz)) zz (.ins Z dz [])) := fun b u y => (upd_ne (ne_of_none y nz)).trans ((upd_ne (ne_of_none y ndz)).trans y)
    refine ⟨zz, dz, n1, _, _, rfl, upd_same, SL1.same v1, fun E2 smz IZ => ⟨rfl, ?_⟩⟩
    have t2 : Same E1 E2 := fun b u y => smz b u (ne_of_none y nz) (v1 _ _ y)
    clear smz v1
    have t02 := t1.trans t2
    obtain ⟨dz2, lz2, fz2, xz2, hz2, _⟩ := id IZ
    walk_at "rd"
    refine ⟨x, dx7, _, .ref Z, rfl, t02 _ _ hx7, O.cZ.ty hz2, nfZ, x, o, s, m, _, rfl, SI7.same t02, .inr ⟨.ref Z, O.cZ.ty hz2, O.kZ, ?_⟩⟩
    walk_at "rd"
    have hpE2 := t02 _ _ hp7
    intro x3 dxx3 nx3 ndxx3 nex3
    refine ⟨x3, dxx3, p, _, _, _, rfl, upd_same, (upd_ne (ne_of_none hpE2 nx3)).trans ((upd_ne (ne_of_none hpE2 ndxx3)).trans hpE2), SP, fun E3 smx3 SI3 => ⟨rfl, ?_⟩⟩
    have t3 : Same E2 E3 := fun b u z => smx3 b u (ne_of_none z nx3) ((upd_ne (ne_of_none z nx3)).trans ((upd_ne (ne_of_none z ndxx3)).trans z))
    clear smx3
    have t03 := t02.trans t3
    obtain ⟨dy3, py3, qy3, hy3, _⟩ := id SI3
    have nfC : PySem.W.notFirst K C (.ref C) = true := by simp [PySem.W.notFirst]
    have sf := shaped_side (side_form SP).md (o := formO o s (firstM s m)) (s := s)
    walk_at "rd"
    refine ⟨x, dx7, _, .ref C, rfl, t03 _ _ hx7, O.cS.ty hy3, nfC, x, o, s, m, _, rfl, SI7.same t03, .inl ⟨x3, o, s, m, rfl, SI3, ?_⟩⟩
    rw [eqv_sh sf]
    walk_at "rd"
    refine ⟨p, o, s, m, rfl, t03 _ _ hp7, SP, fun d4 E4 t4 _ hd4 => ?_⟩
    walk_at "rd"
    intro x5 dxx5 nx5 ndxx5 nex5
    refine ⟨x5, dxx5, d4, _, _, _, rfl, upd_same, (upd_ne (ne_of_none hd4 nx5)).trans ((upd_ne (ne_of_none hd4 ndxx5)).trans hd4), (side_form SP), fun E5 smx5 SI5 => ⟨rfl, ?_⟩⟩
    have t5 : Same E4 E5 := fun b u z => smx5 b u (ne_of_none z nx5) ((upd_ne (ne_of_none z nx5)).trans ((upd_ne (ne_of_none z ndxx5)).trans z))
    clear smx5
    have t05 := t03.trans (t4.trans t5)
    obtain ⟨dy5, py5, qy5, hy5, _⟩ := id SI5
    walk_at "rd"
    refine ⟨x, dx7, _, .ref C, rfl, t05 _ _ hx7, O.cS.ty hy5, nfC, x, o, s, m, _, rfl, SI7.same t05, .inl ⟨x5, _, s, _, rfl, SI5, ?_⟩⟩
    rw [(first_ok SP.md SP.s0).id, form_idem, eqv_sh sf]
    refine ⟨_, rfl, ?_⟩
    refine ⟨_, rfl, ?_⟩
    exact q _ (s07.trans t05)
end
end HT
namespace HT
open PySem L2
def sdD (d : Sd) : PyData := .tuple [.int d.o, .int d.s, .str d.m]
theorem modes_ok {m : Str} (h : Mode m) : PyData.strOk m = true := by
  rcases h with e | e | e | e | e <;> subst e <;> decide +kernel
theorem can_sides : ∀ {ss : List Sd}, (∀ d ∈ ss, Mode d.m) → PyData.canLayAll0 (ss.map sdD) = true ∧ PyData.depthAll (ss.map sdD) ≤ 2
  | [], _ => ⟨rfl, Nat.zero_le _⟩
  | u :: us, h => by
    obtain ⟨a, b⟩ := can_sides fun d hd => h d (List.mem_cons_of_mem _ hd)
    have c := modes_ok (h u List.mem_cons_self)
    refine ⟨?_, ?_⟩
    · simp [PyData.canLayAll0, sdD, PyData.canLay0, c, a]
    · show max (PyData.depth (sdD u)) (PyData.depthAll (us.map sdD)) ≤ 2
      refine Nat.max_le.mpr ⟨?_, b⟩
      show PyData.depth (.tuple [.int _, .int _, .str _]) ≤ 2
      simp [PyData.depth, PyData.depthAll]
theorem shaped_sides {ss : List Sd} (h : ∀ d ∈ ss, Mode d.m) : SeqAt.shaped (.list (ss.map sdD)) = true := by
  obtain ⟨a, b⟩ := can_sides h
  unfold SeqAt.shaped
  rw [Bool.and_eq_true]
  refine ⟨a, decide_eq_true ?_⟩
  show PyData.depthAll (ss.map sdD) + 1 ≤ 64
  omega
theorem sidesDp {K : PySem.W.Frag} {H : Hp} : ∀ {xs : List V} {ss : List Sd}, xs.length = ss.length → (∀ (i : Nat) (d : Sd), ss[i]? = some d → ∃ p : Addr, xs[i]? = some (V.ref p) ∧ H p = some (sideV d.o d.s d.m) ∧ SideP d.o d.s d.m) → DpAll K H xs (ss.map sdD)
  | [], [], _, _ => .nil
  | [], _ :: _, l, _ => nomatch l
  | _ :: _, [], l, _ => nomatch l
  | x :: xs, d :: ss, l, S => by
    obtain ⟨p, e, hp, _⟩ := S 0 d rfl
    cases e
    exact .cons (.tup (SqT.of hp) (.cons (.int _) (.cons (.int _) (.cons (.str _) .nil)))) (sidesDp (Nat.succ.inj l) fun i e h => S (i + 1) e h)
theorem SidesAt.dp {K : PySem.W.Frag} {H : Hp} {l : Addr} {xs : List V} {ss : List Sd} (S : SidesAt H l xs ss) : Dp K H (.ref l) (.list (ss.map sdD)) := .lst (SqL.of S.hl) (sidesDp S.len S.at_)
end HT
namespace HT
open PySem L2
def fD (d : Sd) : PyData := sideD (formO d.o d.s (firstM d.s d.m)) d.s (firstM d.s d.m)
def eqF (a b : Sd) : Bool := PyData.eqv (fD a) (fD b)
theorem eqF_sym (a b : Sd) : eqF a b = eqF b a := by
  unfold eqF fD
  rw [eqv_side, eqv_side]
  exact decide_eq_of_iff ⟨fun ⟨x, y, z⟩ => ⟨x.symm, y.symm, z.symm⟩, fun ⟨x, y, z⟩ => ⟨x.symm, y.symm, z.symm⟩⟩
theorem SideI.ins {C : Addr} {H : Hp} {x : Addr} {o s : Int} {m : Str} (h : SideI C H x o s m) : ∃ dx fs, H x = some (.ins C dx fs) := let ⟨dx, _, _, a, _⟩ := h; ⟨dx, _, a⟩
theorem SidesI.ins {Z : Addr} {H : Hp} {x : Addr} {ss : List Sd} (h : SidesI Z H x ss) : ∃ dx fs, H x = some (.ins Z dx fs) := let ⟨dx, _, _, _, a, _⟩ := h; ⟨dx, _, a⟩
theorem shaped_b3 (a b c : Bool) : SeqAt.shaped (.list [.bool a, .bool b, .bool c]) = true := by cases a <;> cases b <;> cases c <;> decide +kernel
theorem dp_b3 {K : PySem.W.Frag} {H : Hp} {l : Addr} {a b c : Bool} (h : H l = some (.lst [.bl a, .bl b, .bl c])) : Dp K H (.ref l) (.list [.bool a, .bool b, .bool c]) := .lst (SqL.of h) (.cons (.bl _) (.cons (.bl _) (.cons (.bl _) .nil)))
theorem sidesAt2 {H : Hp} {l p p2 : Addr} {a b : Sd} (hl : H l = some (.lst [.ref p, .ref p2])) (h : H p = some (sideV a.o a.s a.m)) (S : SideP a.o a.s a.m) (h2 : H p2 = some (sideV b.o b.s b.m)) (S2 : SideP b.o b.s b.m) : SidesAt H l [.ref p, .ref p2] [a, b] :=
  ⟨hl, rfl, by show 1 ≤ 2; decide, by show 2 ≤ 4; decide, fun i d e => match i, e with
    | 0, e => by cases e; exact ⟨p, rfl, h, S⟩
    | 1, e => by cases e; exact ⟨p2, rfl, h2, S2⟩
    | i + 2, e => by cases e⟩
theorem sidesAt3 {H : Hp} {l p p2 p3 : Addr} {a b c : Sd} (hl : H l = some (.lst [.ref p, .ref p2, .ref p3])) (h : H p = some (sideV a.o a.s a.m)) (S : SideP a.o a.s a.m) (h2 : H p2 = some (sideV b.o b.s b.m)) (S2 : SideP b.o b.s b.m) (h3 : H p3 = some (sideV c.o c.s c.m)) (S3 : SideP c.o c.s c.m) : SidesAt H l [.ref p, .ref p2, .ref p3] [a, b, c] :=
  ⟨hl, rfl, by show 1 ≤ 3; decide, by show 3 ≤ 4; decide, fun i d e => match i, e with
    | 0, e => by cases e; exact ⟨p, rfl, h, S⟩
    | 1, e => by cases e; exact ⟨p2, rfl, h2, S2⟩
    | 2, e => by cases e; exact ⟨p3, rfl, h3, S3⟩
    | i + 3, e => by cases e⟩
end HT
namespace HT
open PySem L2
def spPair : Sp := fun vs H Q _ => ∃ (p p2 p3 : Addr) (a b c : Sd), vs = [.ref p, .ref p2, .ref p3] ∧ H p = some (sideV a.o a.s a.m) ∧ SideP a.o a.s a.m ∧ H p2 = some (sideV b.o b.s b.m) ∧ SideP b.o b.s b.m ∧ H p3 = some (sideV c.o c.s c.m) ∧ SideP c.o c.s c.m ∧ ∀ H', Same H H' → Q (.bl true) H'
section
variable {P : Program} {w : World} {K : PySem.W.Frag} {mg : Str → Option Value} {base : Heap} {C Z iS' iZ' p1 g1 p2 g2 gn ge go gz gc gg gh fF : Addr} {dS dZ d1 d2 dF : FuncData}
theorem ok_pair {f : Addr} {fd : FuncData} (F : Fun K "_law_pair_fits" "_law_pair_fits" s_L_pair_fits f fd) (B : Blt mg) (isi : mg "isinstance" = none) (hb : mg "bool" = none) (O : OwnK P w K mg base C Z iS' iZ' p1 g1 p2 g2 gn ge go gz gc gg gh dS dZ d1 d2) (Fm : Cal P w K mg base "form" 4 ["side"] spForm fF dF) : FnOk P w K mg base CX0 10 f fd ["_law_one", "_law_other", "_law_third"] spPair := by
  refine F.ok sc_L_pair_fits (fun vs H Q E h => ?_) (fun cdv A outer s0 H vs Q E hr h => ?_)
  · obtain ⟨p, p2, p3, a, b, c, rfl, _⟩ := h
    rfl
  · obtain ⟨p, p2, p3, a, b, c, rfl, hp, SA, hp2, SB, hp3, SC, q⟩ := h
    have nd := sc_L_pair_fits.nd
    refine ⟨_, (pss_cons (ps_par3 (i := 3) (j := 4) (l := 5) (by rfl) nd rfl rfl rfl (by decide) (by decide) (by decide) rfl rfl rfl (pa_cons (pe_make O.mS O.iS (hr.mono (by decide)) (by rfl) O.gS O.bS .nil pass0 (pa_cons (pv 0) pa_nil)) (pa_cons (pe_make O.mS O.iS (hr.mono (by decide)) (by rfl) O.gS O.bS .nil pass0 (pa_cons (pv 1) pa_nil)) (pa_cons (pe_make O.mS O.iS (hr.mono (by decide)) (by rfl) O.gS O.bS .nil pass0 (pa_cons (pv 2) pa_nil)) pa_nil))) (by rfl))
      (pss_cons (ps_for PassesOwn.never rfl (pi_range1 (by rfl) B.range (pa_cons pe_int pa_nil)) (pg_name (i := 6) nd rfl (Or.inl rfl)) (pss_cons (ps_set (i := 7) nd rfl (Or.inl rfl) (pe_lst (pa_cons (pe_cmpR (op_eqD hr.units) (pcl Fm hr (by decide) (by rfl) (pa_cons (pv 0) pa_nil)) (pcl Fm hr (by decide) (by rfl) (pa_cons (pv 1) pa_nil)) (nomark _)) (pa_cons (pe_cmpR (op_eqD hr.units) (pcl Fm hr (by decide) (by rfl) (pa_cons (pv 0) pa_nil)) (pcl Fm hr (by decide) (by rfl) (pa_cons (pv 2) pa_nil)) (nomark _)) (pa_cons (pe_cmpR (op_eqD hr.units) (pcl Fm hr (by decide) (by rfl) (pa_cons (pv 1) pa_nil)) (pcl Fm hr (by decide) (by rfl) (pa_cons (pv 2) pa_nil)) (nomark _)) pa_nil)))))
      (pss_cons (ps_if (PW.pt (pw_or (pt_cmpR (op_neD hr.units) (pe_lst (pa_cons (pe_cmpR (op_ownEq O.sE O.fE (hr.mono (by decide)) pass0) (pv 3) (pv 4) (nomark _)) (pa_cons (pe_cmpR (op_ownEq O.sE O.fE (hr.mono (by decide)) pass0) (pv 3) (pv 5) (nomark _)) (pa_cons (pe_cmpR (op_ownEq O.sE O.fE (hr.mono (by decide)) pass0) (pv 4) (pv 5) (nomark _)) pa_nil)))) (pv 7) (nomark _)) (pw_or1 (pt_cmpR (op_neD hr.units) (pe_lst (pa_cons (pe_cmpR (op_ownEq O.sE O.fE (hr.mono (by decide)) pass0) (pv 4) (pv 3) (nomark _)) (pa_cons (pe_cmpR (op_ownEq O.sE O.fE (hr.mono (by decide)) pass0) (pv 5) (pv 3) (nomark _)) (pa_cons (pe_cmpR (op_ownEq O.sE O.fE (hr.mono (by decide)) pass0) (pv 5) (pv 4) (nomark _)) pa_nil)))) (pv 7) (nomark _))))) (pss_one (ps_ret pe_bl)) pss_nil)
      (pss_cons (ps_if (PW.pt (pw_or (pt_cmpR (op_neD hr.units) (pe_prop (pe_op (op_ownOr O.sO O.hS O.fO (hr.mono (by decide)) pass0) (pv 3) (pv 4)) O.cZ.cls O.pZ O.fZ (hr.mono (by decide)) O.bZs .nil pass0 rfl) (pe_lst (pa_cons (pv 0) (pa_cons (pv 1) pa_nil))) (nomark _)) (pw_or1 (pt_cmpR (op_neD hr.units) (pe_prop (pe_op (op_ownOr2 O.zO O.sO O.hZS.symm O.hZ O.hS O.rZ O.rS O.sSZ O.fZo (hr.mono (by decide)) pass0) (pe_op (op_ownOr O.sO O.hS O.fO (hr.mono (by decide)) pass0) (pv 3) (pv 5)) (pv 4)) O.cZ.cls O.pZ O.fZ (hr.mono (by decide)) O.bZs .nil pass0 rfl) (pe_lst (pa_cons (pv 0) (pa_cons (pv 2) (pa_cons (pv 1) pa_nil)))) (nomark _))))) (pss_one (ps_ret pe_bl)) pss_nil)
      (pss_one (ps_if (PW.pt (pw_or (pt_cmpR (op_neD hr.units) (pe_prop (pe_op (op_ownOr2 O.sO O.zO O.hZS O.hS O.hZ O.rS O.rZ O.sZS O.fO (hr.mono (by decide)) pass0) (pv 4) (pe_op (op_ownOr O.sO O.hS O.fO (hr.mono (by decide)) pass0) (pv 3) (pv 5))) O.cZ.cls O.pZ O.fZ (hr.mono (by decide)) O.bZs .nil pass0 rfl) (pe_lst (pa_cons (pv 1) (pa_cons (pv 0) (pa_cons (pv 2) pa_nil)))) (nomark _)) (pw_or1 (pt_cmpR (op_neD hr.units) (pe_prop (pe_op (op_ownOr O.sO O.hS O.fO (hr.mono (by decide)) pass0) (pv 3) (pv 3)) O.cZ.cls O.pZ O.fZ (hr.mono (by decide)) O.bZs .nil pass0 rfl) (pe_lst (pa_cons (pv 0) (pa_cons (pv 0) pa_nil))) (nomark _))))) (pss_one (ps_ret pe_bl)) pss_nil))))))
      (pss_one (ps_ret (pe_and (pe_callB call_isi (by rfl) isi (by decide +kernel) (pa_cons (pe_cmpR (op_ownEq O.sE O.fE (hr.mono (by decide)) pass0) (pv 3) (pv 4) (nomark _)) (pa_cons (pe_bltn (v := .ty "bool") (by rfl) hb (by decide +kernel) rfl) pa_nil))) (pe_and (pe_cmpR (op_eqD hr.units) (pe_prop (pv 3) O.cS.cls O.pD O.fD (hr.mono (by decide)) O.bD .nil pass0 rfl) (pv 0) (nomark _)) (pe_one (pe_cmpR (op_eqD hr.units) (pe_prop (pv 4) O.cS.cls O.pD O.fD (hr.mono (by decide)) O.bD .nil pass0 rfl) (pv 1) (nomark _))))))))), ?_⟩
    walk_at "rd"
    intro xa dxxa nxa ndxxa nexa
    refine ⟨xa, dxxa, p, _, _, _, rfl, upd_same, (upd_ne (ne_of_none hp nxa)).trans ((upd_ne (ne_of_none hp ndxxa)).trans hp), SA, fun H1 smxa IA => ⟨rfl, ?_⟩⟩
    have s1 : Same H H1 := fun b u z => smxa b u (ne_of_none z nxa) ((upd_ne (ne_of_none z nxa)).trans ((upd_ne (ne_of_none z ndxxa)).trans z))
    clear smxa
    walk_at "rd"
    have hp2a := s1 _ _ hp2
    intro xb dxxb nxb ndxxb nexb
    refine ⟨xb, dxxb, p2, _, _, _, rfl, upd_same, (upd_ne (ne_of_none hp2a nxb)).trans ((upd_ne (ne_of_none hp2a ndxxb)).trans hp2a), SB, fun H2 smxb IB => ⟨rfl, ?_⟩⟩
    have s2 : Same H1 H2 := fun b u z => smxb b u (ne_of_none z nxb) ((upd_ne (ne_of_none z nxb)).trans ((upd_ne (ne_of_none z ndxxb)).trans z))
    clear smxb
    walk_at "rd"
    have hp3b := s2 _ _ (s1 _ _ hp3)
    intro xc dxxc nxc ndxxc nexc
    refine ⟨xc, dxxc, p3, _, _, _, rfl, upd_same, (upd_ne (ne_of_none hp3b nxc)).trans ((upd_ne (ne_of_none hp3b ndxxc)).trans hp3b), SC, fun H3 smxc IC => ⟨rfl, ?_⟩⟩
    have s3 : Same H2 H3 := fun b u z => smxc b u (ne_of_none z nxc) ((upd_ne (ne_of_none z nxc)).trans ((upd_ne (ne_of_none z ndxxc)).trans z))
    clear smxc
    walk_at "rd"
    have IA3 := (IA.same s2).same s3
    have IB3 := IB.same s3
    have s03 : Same H H3 := s1.trans (s2.trans s3)
    clear IA IB s1 s2 s3 hp2a hp3b
    have nfC : PySem.W.notFirst K C (.ref C) = true := by simp [PySem.W.notFirst]
    refine ⟨_, _, _, rfl, ?_⟩
    have key : ∀ H7, Same H3 H7 → SideI C H7 xa a.o a.s a.m ∧ SideI C H7 xb b.o b.s b.m ∧ SideI C H7 xc c.o c.s c.m ∧ H7 p = some (sideV a.o a.s a.m) ∧ H7 p2 = some (sideV b.o b.s b.m) ∧ H7 p3 = some (sideV c.o c.s c.m) := fun H7 s7 =>
      ⟨IA3.same s7, IB3.same s7, IC.same s7, s7 _ _ (s03 _ _ hp), s7 _ _ (s03 _ _ hp2), s7 _ _ (s03 _ _ hp3)⟩
    walk_at "rd"
    refine ⟨by decide, by decide, ?_⟩
    refine for_range (n := 2) (fun i σ H7 => ∃ x6 x7 : Option V, σ = [some (.ref p), some (.ref p2), some (.ref p3), some (.ref xa), some (.ref xb), some (.ref xc), x6, x7] ∧ Same H3 H7) ⟨none, none, rfl, Same.refl _⟩ ?_ ?_
    · rintro i σ H7 hi ⟨x6, x7, rfl, s7⟩
      walk_at "rd"
      refine ⟨p, _, _, _, rfl, (key _ s7).2.2.2.1, SA, fun d1 G1 t1 _ hd1 => ?_⟩
      walk_at "rd"
      refine ⟨p2, _, _, _, rfl, (key _ (s7.trans t1)).2.2.2.2.1, SB, fun d2 G2 t2 _ hd2 => ?_⟩
      walk_at "rd"
      refine ⟨fD a, fD b, dpSide (t2 _ _ hd1), dpSide hd2, shaped_side (side_form SA).md, shaped_side (side_form SB).md, ?_⟩
      walk_at "rd"
      refine ⟨p, _, _, _, rfl, (key _ ((s7.trans t1).trans t2)).2.2.2.1, SA, fun d3 G3 t3 _ hd3 => ?_⟩
      walk_at "rd"
      refine ⟨p3, _, _, _, rfl, (key _ (((s7.trans t1).trans t2).trans t3)).2.2.2.2.2, SC, fun d4 G4 t4 _ hd4 => ?_⟩
      walk_at "rd"
      refine ⟨fD a, fD c, dpSide (t4 _ _ hd3), dpSide hd4, shaped_side (side_form SA).md, shaped_side (side_form SC).md, ?_⟩
      walk_at "rd"
      refine ⟨p2, _, _, _, rfl, (key _ ((((s7.trans t1).trans t2).trans t3).trans t4)).2.2.2.2.1, SB, fun d5 G5 t5 _ hd5 => ?_⟩
      walk_at "rd"
      refine ⟨p3, _, _, _, rfl, (key _ (((((s7.trans t1).trans t2).trans t3).trans t4).trans t5)).2.2.2.2.2, SC, fun d6 G6 t6 _ hd6 => ?_⟩
      walk_at "rd"
      refine ⟨fD b, fD c, dpSide (t6 _ _ hd5), dpSide hd6, shaped_side (side_form SB).md, shaped_side (side_form SC).md, ?_⟩
      walk_at "rd"
      refine ⟨(by show 3 ≤ sizeLine; decide), fun ld nld => ?_⟩
      generalize e_ld : upd G6 ld _ = G7
      have fld : G7 ld = some (.lst [.bl (eqF a b), .bl (eqF a c), .bl (eqF b c)]) := by rw [← e_ld]; exact upd_same
      have t7 : Same G6 G7 := by rw [← e_ld]; exact fun b u z => (upd_ne (ne_of_none z nld)).trans z
      clear e_ld
      have u7 : Same H3 G7 := (((((((s7.trans t1).trans t2).trans t3).trans t4).trans t5).trans t6).trans t7)
      clear hd1 hd2 hd3 hd4 hd5 hd6
      obtain ⟨Ia, Ib, Ic, pa, pb, pc⟩ := key _ u7
      obtain ⟨dxa, fsa, hxa⟩ := Ia.ins
      obtain ⟨dxb, fsb, hxb⟩ := Ib.ins
      obtain ⟨dxc, fsc, hxc⟩ := Ic.ins
      walk_at "rd"
      refine ⟨xa, dxa, _, .ref C, rfl, hxa, O.cS.ty hxb, nfC, xa, _, _, _, _, rfl, Ia, .inl ⟨xb, _, _, _, rfl, Ib, ?_⟩⟩
      walk_at "rd"
      refine ⟨xa, dxa, _, .ref C, rfl, hxa, O.cS.ty hxc, nfC, xa, _, _, _, _, rfl, Ia, .inl ⟨xc, _, _, _, rfl, Ic, ?_⟩⟩
      walk_at "rd"
      refine ⟨xb, dxb, _, .ref C, rfl, hxb, O.cS.ty hxc, nfC, xb, _, _, _, _, rfl, Ib, .inl ⟨xc, _, _, _, rfl, Ic, ?_⟩⟩
      walk_at "rd"
      refine ⟨(by show 3 ≤ sizeLine; decide), fun le nle => ?_⟩
      generalize e_le : upd G7 le _ = G8
      have fle : G8 le = some (.lst [.bl (eqF a b), .bl (eqF a c), .bl (eqF b c)]) := by rw [← e_le]; exact upd_same
      have t8 : Same G7 G8 := by rw [← e_le]; exact fun b u z => (upd_ne (ne_of_none z nle)).trans z
      clear e_le
      have u8 := u7.trans t8
      walk_at "rd"
      have fld8 := t8 _ _ fld
      refine ⟨_, _, dp_b3 fle, dp_b3 fld8, shaped_b3 _ _ _, shaped_b3 _ _ _, ?_⟩
      refine ⟨_, rfl, ?_⟩
      refine ite2 (fun z => (not_t z (eqv_sh (shaped_b3 _ _ _))).elim) (fun _ => ?_)
      clear hxa hxb hxc Ia Ib Ic pa pb pc
      obtain ⟨Ia, Ib, Ic, pa, pb, pc⟩ := key _ u8
      obtain ⟨dxa, fsa, hxa⟩ := Ia.ins
      obtain ⟨dxb, fsb, hxb⟩ := Ib.ins
      obtain ⟨dxc, fsc, hxc⟩ := Ic.ins
      walk_at "rd"
      refine ⟨xb, dxb, _, .ref C, rfl, hxb, O.cS.ty hxa, nfC, xb, _, _, _, _, rfl, Ib, .inl ⟨xa, _, _, _, rfl, Ia, ?_⟩⟩
      walk_at "rd"
      refine ⟨xc, dxc, _, .ref C, rfl, hxc, O.cS.ty hxa, nfC, xc, _, _, _, _, rfl, Ic, .inl ⟨xa, _, _, _, rfl, Ia, ?_⟩⟩
      walk_at "rd"
      refine ⟨xc, dxc, _, .ref C, rfl, hxc, O.cS.ty hxb, nfC, xc, _, _, _, _, rfl, Ic, .inl ⟨xb, _, _, _, rfl, Ib, ?_⟩⟩
      walk_at "rd"
      refine ⟨(by show 3 ≤ sizeLine; decide), fun lf nlf => ?_⟩
      generalize e_lf : upd G8 lf _ = G9
      have flf : G9 lf = some (.lst [.bl (eqF b a), .bl (eqF c a), .bl (eqF c b)]) := by rw [← e_lf]; exact upd_same
      have t9 : Same G8 G9 := by rw [← e_lf]; exact fun b u z => (upd_ne (ne_of_none z nlf)).trans z
      clear e_lf
      have u9 := u8.trans t9
      walk_at "rd"
      rw [eqF_sym b a, eqF_sym c a, eqF_sym c b] at flf
      refine ⟨_, _, dp_b3 flf, dp_b3 (t9 _ _ fld8), shaped_b3 _ _ _, shaped_b3 _ _ _, ?_⟩
      refine ⟨_, rfl, ?_⟩
      refine ite2 (fun z => (not_t z (eqv_sh (shaped_b3 _ _ _))).elim) (fun _ => ?_)
      clear fld fld8 fle flf t1 t2 t3 t4 t5 t6 t7 t8 t9
      clear hxa hxb hxc Ia Ib Ic pa pb pc
      obtain ⟨Ia, Ib, Ic, pa, pb, pc⟩ := key _ u9
      obtain ⟨dxa, fsa, hxa⟩ := Ia.ins
      obtain ⟨dxb, fsb, hxb⟩ := Ib.ins
      obtain ⟨dxc, fsc, hxc⟩ := Ic.ins
      walk_at "rd"
      refine ⟨xa, _, _, xb, _, _, rfl, rfl, hxa, hxb, xa, xb, _, _, _, [b], rfl, Ia, .inl ⟨_, _, _, rfl, Ib⟩, (by show 1 ≤ 3; decide), fun za G10 t10 Iza => ?_⟩
      have u10 := u9.trans t10
      walk_at "rd"
      obtain ⟨dza, gza, hza⟩ := Iza.ins
      refine ⟨za, _, _, rfl, hza, za, _, rfl, Iza, fun lza xsza G11 Sza t11 => ?_⟩
      have u11 := u10.trans t11
      walk_at "rd"
      refine ⟨(by show 2 ≤ sizeLine; decide), fun na nna => ?_⟩
      generalize e_na : upd G11 na _ = G12
      have fna : G12 na = some (.lst [.ref p, .ref p2]) := by rw [← e_na]; exact upd_same
      have t12 : Same G11 G12 := by rw [← e_na]; exact fun b u z => (upd_ne (ne_of_none z nna)).trans z
      clear e_na
      have u12 := u11.trans t12
      clear hxa hxb hxc Ia Ib Ic pa pb pc
      obtain ⟨Ia, Ib, Ic, pa, pb, pc⟩ := key _ u12
      obtain ⟨dxa, fsa, hxa⟩ := Ia.ins
      obtain ⟨dxb, fsb, hxb⟩ := Ib.ins
      obtain ⟨dxc, fsc, hxc⟩ := Ic.ins
      have Tna : SidesAt G12 na [.ref p, .ref p2] [a, b] := sidesAt2 fna pa SA pb SB
      have mna : ∀ d ∈ ([a, b] : List Sd), Mode d.m := fun d hd => (Tna.side d hd).md
      refine ⟨_, _, (Sza.same t12).dp, Tna.dp, shaped_sides mna, shaped_sides mna, ?_⟩
      refine ⟨_, rfl, ?_⟩
      refine ite2 (fun z => (not_t z (eqv_sh (shaped_sides mna))).elim) (fun _ => ?_)
      walk_at "rd"
      refine ⟨xa, _, _, xc, _, _, rfl, rfl, hxa, hxc, xa, xc, _, _, _, [c], rfl, Ia, .inl ⟨_, _, _, rfl, Ic⟩, (by show 1 ≤ 3; decide), fun zb G13 t13 Izb => ?_⟩
      have u13 := u12.trans t13
      walk_at "rd"
      clear hxa hxb hxc Ia Ib Ic pa pb pc
      obtain ⟨Ia, Ib, Ic, pa, pb, pc⟩ := key _ u13
      obtain ⟨dxa, fsa, hxa⟩ := Ia.ins
      obtain ⟨dxb, fsb, hxb⟩ := Ib.ins
      obtain ⟨dxc, fsc, hxc⟩ := Ic.ins
      obtain ⟨dzb, gzb, hzb⟩ := Izb.ins
      refine ⟨zb, _, _, xb, _, _, rfl, rfl, hzb, hxb, zb, xb, _, [b], rfl, Izb, .inl ⟨_, _, _, rfl, Ib⟩, (by show 3 ≤ 4; decide), fun zc G14 t14 Izc => ?_⟩
      have u14 := u13.trans t14
      walk_at "rd"
      obtain ⟨dzc, gzc, hzc⟩ := Izc.ins
      refine ⟨zc, _, _, rfl, hzc, zc, _, rfl, Izc, fun lzc xszc G15 Szc t15 => ?_⟩
      have u15 := u14.trans t15
      walk_at "rd"
      refine ⟨(by show 3 ≤ sizeLine; decide), fun nb nnb => ?_⟩
      generalize e_nb : upd G15 nb _ = G16
      have fnb : G16 nb = some (.lst [.ref p, .ref p3, .ref p2]) := by rw [← e_nb]; exact upd_same
      have t16 : Same G15 G16 := by rw [← e_nb]; exact fun b u z => (upd_ne (ne_of_none z nnb)).trans z
      clear e_nb
      have u16 := u15.trans t16
      clear hxa hxb hxc Ia Ib Ic pa pb pc
      obtain ⟨Ia, Ib, Ic, pa, pb, pc⟩ := key _ u16
      obtain ⟨dxa, fsa, hxa⟩ := Ia.ins
      obtain ⟨dxb, fsb, hxb⟩ := Ib.ins
      obtain ⟨dxc, fsc, hxc⟩ := Ic.ins
      have Tnb : SidesAt G16 nb [.ref p, .ref p3, .ref p2] [a, c, b] := sidesAt3 fnb pa SA pc SC pb SB
      have mnb : ∀ d ∈ ([a, c, b] : List Sd), Mode d.m := fun d hd => (Tnb.side d hd).md
      refine ⟨_, _, (Szc.same t16).dp, Tnb.dp, shaped_sides mnb, shaped_sides mnb, ?_⟩
      refine ⟨_, rfl, ?_⟩
      refine ite2 (fun z => (not_t z (eqv_sh (shaped_sides mnb))).elim) (fun _ => ?_)
      walk_at "rd"
      refine ⟨xa, _, _, xc, _, _, rfl, rfl, hxa, hxc, xa, xc, _, _, _, [c], rfl, Ia, .inl ⟨_, _, _, rfl, Ic⟩, (by show 1 ≤ 3; decide), fun zd G17 t17 Izd => ?_⟩
      have u17 := u16.trans t17
      walk_at "rd"
      clear hxa hxb hxc Ia Ib Ic pa pb pc
      obtain ⟨Ia, Ib, Ic, pa, pb, pc⟩ := key _ u17
      obtain ⟨dxa, fsa, hxa⟩ := Ia.ins
      obtain ⟨dxb, fsb, hxb⟩ := Ib.ins
      obtain ⟨dxc, fsc, hxc⟩ := Ic.ins
      obtain ⟨dzd, gzd, hzd⟩ := Izd.ins
      refine ⟨xb, _, _, zd, _, _, rfl, rfl, hxb, hzd, xb, zd, _, _, _, [a, c], rfl, Ib, .inr Izd, (by show 2 ≤ 3; decide), fun ze G18 t18 Ize => ?_⟩
      have u18 := u17.trans t18
      walk_at "rd"
      obtain ⟨dze, gze, hze⟩ := Ize.ins
      refine ⟨ze, _, _, rfl, hze, ze, _, rfl, Ize, fun lze xsze G19 Sze t19 => ?_⟩
      have u19 := u18.trans t19
      walk_at "rd"
      refine ⟨(by show 3 ≤ sizeLine; decide), fun nc nnc => ?_⟩
      generalize e_nc : upd G19 nc _ = G20
      have fnc : G20 nc = some (.lst [.ref p2, .ref p, .ref p3]) := by rw [← e_nc]; exact upd_same
      have t20 : Same G19 G20 := by rw [← e_nc]; exact fun b u z => (upd_ne (ne_of_none z nnc)).trans z
      clear e_nc
      have u20 := u19.trans t20
      clear hxa hxb hxc Ia Ib Ic pa pb pc
      obtain ⟨Ia, Ib, Ic, pa, pb, pc⟩ := key _ u20
      obtain ⟨dxa, fsa, hxa⟩ := Ia.ins
      obtain ⟨dxb, fsb, hxb⟩ := Ib.ins
      obtain ⟨dxc, fsc, hxc⟩ := Ic.ins
      have Tnc : SidesAt G20 nc [.ref p2, .ref p, .ref p3] [b, a, c] := sidesAt3 fnc pb SB pa SA pc SC
      have mnc : ∀ d ∈ ([b, a, c] : List Sd), Mode d.m := fun d hd => (Tnc.side d hd).md
      refine ⟨_, _, (Sze.same t20).dp, Tnc.dp, shaped_sides mnc, shaped_sides mnc, ?_⟩
      refine ⟨_, rfl, ?_⟩
      refine ite2 (fun z => (not_t z (eqv_sh (shaped_sides mnc))).elim) (fun _ => ?_)
      walk_at "rd"
      refine ⟨xa, _, _, xa, _, _, rfl, rfl, hxa, hxa, xa, xa, _, _, _, [a], rfl, Ia, .inl ⟨_, _, _, rfl, Ia⟩, (by show 1 ≤ 3; decide), fun zf G21 t21 Izf => ?_⟩
      have u21 := u20.trans t21
      walk_at "rd"
      obtain ⟨dzf, gzf, hzf⟩ := Izf.ins
      refine ⟨zf, _, _, rfl, hzf, zf, _, rfl, Izf, fun lzf xszf G22 Szf t22 => ?_⟩
      have u22 := u21.trans t22
      walk_at "rd"
      refine ⟨(by show 2 ≤ sizeLine; decide), fun nd2 nnd2 => ?_⟩
      generalize e_nd2 : upd G22 nd2 _ = G23
      have fnd2 : G23 nd2 = some (.lst [.ref p, .ref p]) := by rw [← e_nd2]; exact upd_same
      have t23 : Same G22 G23 := by rw [← e_nd2]; exact fun b u z => (upd_ne (ne_of_none z nnd2)).trans z
      clear e_nd2
      have u23 := u22.trans t23
      clear hxa hxb hxc Ia Ib Ic pa pb pc
      obtain ⟨Ia, Ib, Ic, pa, pb, pc⟩ := key _ u23
      obtain ⟨dxa, fsa, hxa⟩ := Ia.ins
      obtain ⟨dxb, fsb, hxb⟩ := Ib.ins
      obtain ⟨dxc, fsc, hxc⟩ := Ic.ins
      have Tnd2 : SidesAt G23 nd2 [.ref p, .ref p] [a, a] := sidesAt2 fnd2 pa SA pa SA
      have mnd2 : ∀ d ∈ ([a, a] : List Sd), Mode d.m := fun d hd => (Tnd2.side d hd).md
      refine ⟨_, _, (Szf.same t23).dp, Tnd2.dp, shaped_sides mnd2, shaped_sides mnd2, ?_⟩
      refine ⟨_, rfl, ?_⟩
      refine ite2 (fun z => (not_t z (eqv_sh (shaped_sides mnd2))).elim) (fun _ => ?_)
      walk_at "rd"
      exact ⟨_, _, rfl, u23⟩
    rintro σ H7 ⟨x6, x7, rfl, s7⟩
    walk_at "rd"
    obtain ⟨Ia, Ib, Ic, pa, pb, pc⟩ := key _ s7
    obtain ⟨dxa, qa, ra, hxa, hqa, _⟩ := id Ia
    obtain ⟨dxb, qb, rb, hxb, hqb, _⟩ := id Ib
    refine ⟨xa, dxa, _, .ref C, rfl, hxa, O.cS.ty hxb, nfC, xa, _, _, _, _, rfl, Ia, .inl ⟨xb, _, _, _, rfl, Ib, ?_⟩⟩
    walk_at "rd"
    refine ⟨.bl (eqF a b), .ty "bool", .type "bool", .type "bool", true, rfl, .ty _, .base (.bl _), kit_ty (by decide +kernel), ?_⟩
    refine ⟨_, rfl, ?_⟩
    rw [if_pos rfl]
    walk_at "rd"
    refine ⟨xa, dxa, _, rfl, hxa, xa, dxa, qa, ra, rfl, hxa, ?_⟩
    walk_at "rd"
    refine ⟨_, _, dpSide hqa, dpSide pa, shaped_side SA.md, shaped_side SA.md, ?_⟩
    refine ⟨_, rfl, ?_⟩
    rw [if_pos (eqv_sh (shaped_side SA.md))]
    walk_at "rd"
    refine ⟨xb, dxb, _, rfl, hxb, xb, dxb, qb, rb, rfl, hxb, ?_⟩
    walk_at "rd"
    refine ⟨_, _, dpSide hqb, dpSide pb, shaped_side SB.md, shaped_side SB.md, ?_⟩
    rw [eqv_sh (shaped_side SB.md)]
    exact q _ (s03.trans s7)
end
end HT
namespace HT
open PySem L2
def spLaw (K : PySem.W.Frag) : Sp := fun vs H Q _ => ∃ (l : Addr) (ns : List Int), vs = [.ref l] ∧ SqL K H l (ns.map V.int) ∧ ns.length ≤ 63 ∧ ∀ H', Q (.bl true) H'
theorem five_of {x : V} (h : x ∈ [V.int 0, .int 1, .int 2, .int (-2), .int 7]) : ∃ j : Int, x = .int j ∧ -2 ≤ j ∧ j ≤ 7 := by
  simp only [List.mem_cons, List.not_mem_nil, or_false] at h
  rcases h with h | h | h | h | h <;> exact ⟨_, h, by decide, by decide⟩
section
variable {P : Program} {w : World} {K : PySem.W.Frag} {mg : Str → Option Value} {base : Heap} {f0 f1 f2 f3 f4 f5 f6 : Addr} {d0 d1 d2 d3 d4 d5 d6 : FuncData}
theorem ok_law {f : Addr} {fd : FuncData} (F : Fun K "law" "law" s_law f fd) (B : Blt mg) (So : Cal P w K mg base "_law_source" 1 ["_law_script"] (spSource K) f0 d0) (D : Cal P w K mg base "_law_draw" 1 ["_law_source_here", "_law_limit"] spDraw f1 d1)
    (Pi : Cal P w K mg base "_law_pick" 2 ["_law_source_here", "_law_values"] spPick f2 d2) (Gr : Cal P w K mg base "_law_great" 2 ["_law_source_here", "_law_digits"] spGreat f3 d3) (Si : Cal P w K mg base "_law_side" 3 ["_law_source_here", "_law_digits"] spLSide f4 d4)
    (Sg : Cal P w K mg base "_law_single_fits" 10 ["_law_data", "_law_values"] spSingle f5 d5) (Pr : Cal P w K mg base "_law_pair_fits" 10 ["_law_one", "_law_other", "_law_third"] spPair f6 d6) : FnOk P w K mg base CX0 11 f fd ["_law_script"] (spLaw K) := by
  refine F.ok sc_law (fun vs H Q E h => ?_) (fun cdv A outer s H vs Q E hr h => ?_)
  · obtain ⟨l, ns, rfl, _⟩ := h
    rfl
  · obtain ⟨l, ns, rfl, hL, hn, q⟩ := h
    have nd := sc_law.nd
    refine ⟨_, (pss_cons (ps_set (i := 1) nd rfl (Or.inl rfl) (pcl So hr (by decide) (by rfl) (pa_cons (pv 0) pa_nil)))
      (pss_cons (ps_for PassesOwn.never rfl (pi_range1 (by rfl) B.range (pa_cons pe_int pa_nil)) (pg_name (i := 2) nd rfl (Or.inl rfl)) (pss_cons (ps_par (i := 3) (j := 4) (by rfl) nd rfl rfl (by decide) rfl rfl (pa_cons (pcl Si hr (by decide) (by rfl) (pa_cons (pv 1) (pa_cons pe_int pa_nil))) (pa_cons (pcl Si hr (by decide) (by rfl) (pa_cons (pv 1) (pa_cons pe_int pa_nil))) pa_nil)) (by rfl))
      (pss_cons (ps_set (i := 5) nd rfl (Or.inl rfl) (pe_lst (pa_cons pe_str (pa_cons pe_str (pa_cons pe_str (pa_cons pe_str (pa_cons pe_str pa_nil)))))))
      (pss_cons (ps_set (i := 6) nd rfl (Or.inl rfl) (pe_op op_add (pe_ix ix_tup (pv 3) pe_int (fun _ _ => rfl)) (pe_op op_mulW (pe_ix ix_tup (pv 3) pe_int (fun _ _ => rfl)) (pcl Pi hr (by decide) (by rfl) (pa_cons (pv 1) (pa_cons (pe_lst (pa_cons pe_int (pa_cons pe_int (pa_cons pe_int (pa_cons (pe_un un_neg pe_int) (pa_cons pe_int pa_nil)))))) pa_nil))))))
      (pss_cons (ps_set (i := 7) nd rfl (Or.inl rfl) (pe_tup (pa_cons (pv 6) (pa_cons (pe_ix ix_tup (pv 3) pe_int (fun _ _ => rfl)) (pa_cons (pcl Pi hr (by decide) (by rfl) (pa_cons (pv 1) (pa_cons (pe_op op_cat (pv 5) (pe_op op_rep (pe_lst (pa_cons (pe_ix ix_tup (pv 3) pe_int (fun _ _ => rfl)) pa_nil)) pe_int)) pa_nil))) pa_nil)))))
      (pss_cons (ps_set (i := 8) nd rfl (Or.inl rfl) (pe_lst (pa_cons pe_int (pa_cons pe_int (pa_cons (pe_un un_neg pe_int) (pa_cons (pe_ix ix_tup (pv 3) pe_int (fun _ _ => rfl)) (pa_cons (pe_op op_add (pe_ix ix_tup (pv 3) pe_int (fun _ _ => rfl)) (pe_op op_mul (pe_ix ix_tup (pv 3) pe_int (fun _ _ => rfl)) pe_int)) (pa_cons (pcl Gr hr (by decide) (by rfl) (pa_cons (pv 1) (pa_cons pe_int pa_nil))) (pa_cons (pe_un un_neg (pcl Gr hr (by decide) (by rfl) (pa_cons (pv 1) (pa_cons pe_int pa_nil)))) pa_nil)))))))))
      (pss_cons (ps_if (PW.pt (pw_or (pt_not (pt_val (pcl Sg hr (by decide) (by rfl) (pa_cons (pv 3) (pa_cons (pv 8) pa_nil))))) (pw_or1 (pt_not (pt_val (pcl Sg hr (by decide) (by rfl) (pa_cons (pv 7) (pa_cons (pv 8) pa_nil)))))))) (pss_one (ps_ret pe_bl)) pss_nil)
      (pss_one (ps_if (PW.pt (pw_or (pt_not (pt_val (pcl Pr hr (by decide) (by rfl) (pa_cons (pv 3) (pa_cons (pv 7) (pa_cons (pv 4) pa_nil)))))) (pw_or1 (pt_not (pt_val (pcl Pr hr (by decide) (by rfl) (pa_cons (pv 7) (pa_cons (pv 4) (pa_cons (pv 3) pa_nil))))))))) (pss_one (ps_ret pe_bl)) pss_nil)))))))))
      (pss_one (ps_ret pe_bl)))), ?_⟩
    walk_at "rd"
    refine ⟨l, ns, rfl, hL, hn, fun a c H0 sm na nc S0 => ?_⟩
    walk_at "rd"
    refine ⟨by decide, by decide, ?_⟩
    refine for_range (n := 15) (fun i σ H' => ∃ (x2 x3 x4 x5 x6 x7 x8 : Option V) (t : Nat), σ = [some (.ref l), some (.ref a), x2, x3, x4, x5, x6, x7, x8] ∧ t ≤ 1000 * i ∧ Src H' a c t) ⟨none, none, none, none, none, none, none, 0, rfl, by omega, S0⟩ ?_ ?_
    · rintro i σ H' hi ⟨x2, x3, x4, x5, x6, x7, x8, t, rfl, ht, S⟩
      walk_at "rd"
      refine ⟨a, c, t, rfl, S, by omega, fun p o s m H1 t1 hp ⟨s0, s1, o0, o1, md⟩ ht1 S1 O1 => ?_⟩
      obtain ⟨pa, pc⟩ := S1.nt hp
      walk_at "rd"
      refine ⟨a, c, t1, rfl, S1, by omega, fun p3 o3 s3 m3 H2 t2 hp3 ⟨c0, c1, e0, e1, md3⟩ ht2 S2 O2 => ?_⟩
      obtain ⟨pa3, pc3⟩ := S2.nt hp3
      have hp := O2 _ _ hp pa pc
      walk_at "rd"
      refine ⟨_, _, rfl, ?_⟩
      walk_at "rd"
      refine ⟨(by show 5 ≤ sizeLine; decide), fun ml nml => ?_⟩
      generalize e_ml : upd H2 ml _ = H3
      have fml : H3 ml = some (.lst [.str "down", .str "up", .str "half_down", .str "half_up", .str "half_even"]) := by rw [← e_ml]; exact upd_same
      have wml : Same H2 H3 := by rw [← e_ml]; exact fun b u z => (upd_ne (ne_of_none z nml)).trans z
      clear e_ml
      have S3 := S2.of_same wml
      obtain ⟨naml, ncml⟩ := S2.na nml
      walk_at "rd"
      have hp := wml _ _ hp
      have hp3 := wml _ _ hp3
      refine ⟨p, _, _, _, rfl, rfl, SqT.of hp, rfl, ?_⟩
      walk_at "rd"
      refine ⟨p, _, _, _, rfl, rfl, SqT.of hp, rfl, ?_⟩
      walk_at "rd"
      refine ⟨(by show 5 ≤ sizeLine; decide), fun l1 nl1 => ?_⟩
      generalize e_l1 : upd H3 l1 _ = H4
      have fl1 : H4 l1 = some (.lst [.int 0, .int 1, .int 2, .int (-2), .int 7]) := by rw [← e_l1]; exact upd_same
      have wl1 : Same H3 H4 := by rw [← e_l1]; exact fun b u z => (upd_ne (ne_of_none z nl1)).trans z
      clear e_l1
      have S4 := S3.of_same wl1
      obtain ⟨nal1, ncl1⟩ := S3.na nl1
      refine ⟨a, c, _, l1, _, rfl, S4, by omega, fl1, nal1, ncl1, by decide, by decide, fun x H5 hx S5 O5 => ?_⟩
      obtain ⟨j, rfl, j0, j1⟩ := five_of hx
      have hp := O5 _ _ (wl1 _ _ hp) pa pc
      have hp3 := O5 _ _ (wl1 _ _ hp3) pa3 pc3
      have fml := O5 _ _ (wl1 _ _ fml) naml ncml
      walk_at "rd"
      refine ⟨mulW (by omega) (by omega), ?_⟩
      have so : -10 ^ 32 ≤ o + s * j ∧ o + s * j ≤ 10 ^ 32 := by
        have b1 : s * j ≤ s * 7 := Int.mul_le_mul_of_nonneg_left j1 (by omega)
        have b2 : s * -2 ≤ s * j := Int.mul_le_mul_of_nonneg_left j0 (by omega)
        omega
      walk_at "rd"
      refine ⟨p, _, _, _, rfl, rfl, SqT.of hp, rfl, ?_⟩
      walk_at "rd"
      refine ⟨p, _, _, _, rfl, rfl, SqT.of hp, rfl, ?_⟩
      walk_at "rd"
      refine ⟨(by show 1 ≤ sizeLine; decide), fun l2 nl2 => ?_⟩
      generalize e_l2 : upd H5 l2 _ = H6
      have fl2 : H6 l2 = some (.lst [.str m]) := by rw [← e_l2]; exact upd_same
      have wl2 : Same H5 H6 := by rw [← e_l2]; exact fun b u z => (upd_ne (ne_of_none z nl2)).trans z
      clear e_l2
      have S6 := S5.of_same wl2
      obtain ⟨nal2, ncl2⟩ := S5.na nl2
      walk_at "rd"
      refine ⟨l2, 3, _, rfl, rfl, fl2, by decide, by decide, (by show 3 ≤ sizeLine; decide), fun l3 nl3 => ?_⟩
      generalize e_l3 : upd H6 l3 _ = H7
      have fl3 : H7 l3 = some (.lst [.str m, .str m, .str m]) := by rw [← e_l3]; exact upd_same
      have wl3 : Same H6 H7 := by rw [← e_l3]; exact fun b u z => (upd_ne (ne_of_none z nl3)).trans z
      clear e_l3
      have S7 := S6.of_same wl3
      obtain ⟨nal3, ncl3⟩ := S6.na nl3
      refine ⟨ml, l3, _, _, rfl, rfl, (wl2.trans wl3) _ _ fml, fl3, (by show 8 ≤ sizeLine; decide), fun l4 nl4 => ?_⟩
      generalize e_l4 : upd H7 l4 _ = H8
      have fl4 : H8 l4 = some (.lst [.str "down", .str "up", .str "half_down", .str "half_up", .str "half_even", .str m, .str m, .str m]) := by rw [← e_l4]; exact upd_same
      have wl4 : Same H7 H8 := by rw [← e_l4]; exact fun b u z => (upd_ne (ne_of_none z nl4)).trans z
      clear e_l4
      have S8 := S7.of_same wl4
      obtain ⟨nal4, ncl4⟩ := S7.na nl4
      walk_at "rd"
      refine ⟨a, c, _, l4, _, rfl, S8, by omega, fl4, nal4, ncl4, (by show 0 < 8; decide), (by show 8 < 2 ^ 60; decide), fun x H9 hx S9 O9 => ?_⟩
      obtain ⟨m2, rfl, md2⟩ : ∃ m2 : Str, x = .str m2 ∧ Mode m2 := by
        simp only [List.mem_cons, List.not_mem_nil, or_false] at hx
        rcases hx with h | h | h | h | h | h | h | h
        · exact ⟨_, h, .inl rfl⟩
        · exact ⟨_, h, .inr (.inl rfl)⟩
        · exact ⟨_, h, .inr (.inr (.inl rfl))⟩
        · exact ⟨_, h, .inr (.inr (.inr (.inl rfl)))⟩
        · exact ⟨_, h, .inr (.inr (.inr (.inr rfl)))⟩
        · exact ⟨_, h, md⟩
        · exact ⟨_, h, md⟩
        · exact ⟨_, h, md⟩
      have hp := O9 _ _ ((wl2.trans (wl3.trans wl4)) _ _ hp) pa pc
      have hp3 := O9 _ _ ((wl2.trans (wl3.trans wl4)) _ _ hp3) pa3 pc3
      clear fml fl1 fl2 fl3 fl4 wl1 wl2 wl3 wl4 wml hx
      walk_at "rd"
      refine ⟨(by show 3 ≤ sizeLine; decide), fun po npo => ?_⟩
      generalize e_po : upd H9 po _ = HA
      have fpo : HA po = some (.tup [.int (o + s * j), .int s, .str m2]) := by rw [← e_po]; exact upd_same
      have wpo : Same H9 HA := by rw [← e_po]; exact fun b u z => (upd_ne (ne_of_none z npo)).trans z
      clear e_po
      have SA := S9.of_same wpo
      obtain ⟨napo, ncpo⟩ := S9.na npo
      have hp := wpo _ _ hp
      have hp3 := wpo _ _ hp3
      walk_at "rd"
      refine ⟨p, _, _, _, rfl, rfl, SqT.of hp, rfl, ?_⟩
      walk_at "rd"
      refine ⟨p, _, _, _, rfl, rfl, SqT.of hp, rfl, ?_⟩
      walk_at "rd"
      refine ⟨p, _, _, _, rfl, rfl, SqT.of hp, rfl, ?_⟩
      walk_at "rd"
      refine ⟨.inr ⟨by decide, by decide⟩, ?_⟩
      walk_at "rd"
      refine ⟨a, c, _, 50, rfl, SA, by decide, by omega, fun k1 HB k10 k11 SB OB => ?_⟩
      walk_at "rd"
      refine ⟨a, c, _, 50, rfl, SB, by decide, by omega, fun k2 HC k20 k21 SC OC => ?_⟩
      have O2 := OB.trans OC
      have hp := O2 _ _ hp pa pc
      have hp3 := O2 _ _ hp3 pa3 pc3
      have hpo := O2 _ _ fpo napo ncpo
      walk_at "rd"
      refine ⟨(by show 7 ≤ sizeLine; decide), fun lv nlv => ?_⟩
      generalize e_lv : upd HC lv _ = HD
      have flv : HD lv = some (.lst (([0, 5, -1, o, o + s * 7, k1, -k2] : List Int).map V.int)) := by rw [← e_lv]; exact upd_same
      have wlv : Same HC HD := by rw [← e_lv]; exact fun b u z => (upd_ne (ne_of_none z nlv)).trans z
      clear e_lv
      have SD := SC.of_same wlv
      have hp := wlv _ _ hp
      have hp3 := wlv _ _ hp3
      have hpo := wlv _ _ hpo
      have SP : SideP o s m := ⟨by show -(10 : Int) ^ 40 ≤ o; omega, by show o ≤ (10 : Int) ^ 40; omega, s0, s1, md⟩
      have SPo : SideP (o + s * j) s m2 := ⟨by show -(10 : Int) ^ 40 ≤ o + s * j; omega, by show o + s * j ≤ (10 : Int) ^ 40; omega, s0, s1, md2⟩
      have SP3 : SideP o3 s3 m3 := ⟨by show -(10 : Int) ^ 40 ≤ o3; omega, by show o3 ≤ (10 : Int) ^ 40; omega, c0, c1, md3⟩
      have vb : ∀ v ∈ ([0, 5, -1, o, o + s * 7, k1, -k2] : List Int), -2 ^ 500 < v ∧ v < 2 ^ 500 := by
        intro v hv
        have k12 : k1 < 10 ^ 50 := k11
        have k22 : k2 < 10 ^ 50 := k21
        simp only [List.mem_cons, List.not_mem_nil, or_false] at hv
        rcases hv with rfl | rfl | rfl | rfl | rfl | rfl | rfl <;> omega
      walk_at "rd"
      refine ⟨p, lv, o, s, m, _, rfl, hp, SP, flv, vb, (by show 7 ≤ 100; decide), fun HE sE => ?_⟩
      refine ⟨_, rfl, ?_⟩
      refine ite2 (fun z => absurd z (by decide)) (fun _ => ?_)
      walk_at "rd"
      refine ⟨po, lv, _, s, m2, _, rfl, sE _ _ hpo, SPo, sE _ _ flv, vb, (by show 7 ≤ 100; decide), fun HF sF => ?_⟩
      have sEF := sE.trans sF
      refine ⟨_, rfl, ?_⟩
      refine ite2 (fun z => absurd z (by decide)) (fun _ => ?_)
      walk_at "rd"
      refine ⟨p, po, p3, ⟨o, s, m⟩, ⟨o + s * j, s, m2⟩, ⟨o3, s3, m3⟩, rfl, sEF _ _ hp, SP, sEF _ _ hpo, SPo, sEF _ _ hp3, SP3, fun HG sG => ?_⟩
      have sEG := sEF.trans sG
      refine ⟨_, rfl, ?_⟩
      refine ite2 (fun z => absurd z (by decide)) (fun _ => ?_)
      walk_at "rd"
      refine ⟨po, p3, p, ⟨o + s * j, s, m2⟩, ⟨o3, s3, m3⟩, ⟨o, s, m⟩, rfl, sEG _ _ hpo, SPo, sEG _ _ hp3, SP3, sEG _ _ hp, SP, fun HI sI => ?_⟩
      refine ⟨_, rfl, ?_⟩
      refine ite2 (fun z => absurd z (by decide)) (fun _ => ?_)
      exact ⟨_, _, _, _, _, _, _, _, rfl, by omega, SD.of_same (sEG.trans sI)⟩
    rintro σ H' ⟨x2, x3, x4, x5, x6, x7, x8, t, rfl, ht, S⟩
    walk_at "rd"
    exact q _
end
end HT
namespace HT
open PySem PySem.Spec PyProof.Rows L2
/-- the hash of a tuple of ints and texts; such a tuple stands at an address -/
abbrev hM (pr : Program) (wd : World) (k : List Key) : Int := tupleKeyHash (mixKind pr wd) k
abbrev AtM (pr : Program) (wd : World) (g : Heap) (k : List Key) (b : Addr) : Prop := IsTupleKey (mixKind pr wd) g k b
section
variable {pr : Program} {wd : World} {A : Around} {E : Value → Shared → Prop} {s : Shared}
theorem flatM {k : List Key} {us : List Value} (z : ItemsAre (mixKind pr wd) k us) : ∀ v, v ∈ us → (∀ n, ofAClassStatement n v = pure false) ∧ ((∀ n, hashByValue n v = pure true) ∨ ∀ n, hashByValue n v = pure false) := by
  induction z with
  | nil => intro v y; cases y
  | cons z1 _ ih =>
    intro v y
    rcases List.mem_cons.mp y with e | y
    · subst e
      rcases keyIs_shape z1 with ⟨i, t, _, e⟩ | ⟨x, t, _, e⟩
      · subst e
        exact ⟨fun n => by cases n <;> rfl, .inl fun n => by cases n <;> rfl⟩
      · subst e
        exact ⟨fun n => by cases n <;> rfl, .inr fun n => by cases n <;> rfl⟩
    · exact ih v y
theorem classM {k : List Key} {b : Addr} {Q : Bool → Shared → Prop} (at1 : AtM pr wd s.heap k b) (q : Q false s) : wpAny (model pr wd) A (ofAClassStatement 8 (.ref b)) Q E s := by
  have ty := at1.typeIs
  obtain ⟨u, its, n, gu, _, du, iu⟩ := at1
  unfold ofAClassStatement
  refine wpAny_bind (wpAny_typeOf ty ?_)
  dsimp only
  rw [show (("tuple" : String) == "tuple") = true by decide]
  simp only [if_true, Bool.not_true, Bool.false_eq_true, if_false]
  try refine wpAny_bind (wpAny_pure ?_)
  try simp only [Bool.not_true, Bool.false_eq_true, if_false]
  show wpAny _ _ (seqItems? (.ref b) >>= _) _ _ s
  refine wpAny_bind (wpAny_seqItems gu du ?_)
  dsimp only
  refine wpAny_bind ?_
  show wpAny _ _ (forIn its _ _) _ _ s
  rw [← Array.forIn_toList]
  refine wpAny_forIn_list _ (fun left r s1 => r.1 = none ∧ s1 = s ∧ ∀ v, v ∈ left → ofAClassStatement 7 v = pure false) _ ?_ ?_ _ _ ⟨rfl, rfl, fun v y => (flatM iu v y).1 7⟩
  · rintro v left r s1 ⟨_, rfl, all⟩
    rw [all v List.mem_cons_self]
    refine wpAny_bind (wpAny_pure ?_)
    simp only [Bool.false_eq_true, if_false]
    exact wpAny_pure ⟨rfl, rfl, fun u y => all u (List.mem_cons_of_mem _ y)⟩
  · rintro ⟨r1, r2⟩ s1 ⟨e, rfl, _⟩
    simp only at e
    subst e
    exact wpAny_pure q
theorem valueM {k : List Key} {b : Addr} {Q : Bool → Shared → Prop} (at1 : AtM pr wd s.heap k b) (q : ∀ r, Q r s) : wpAny (model pr wd) A (hashByValue 8 (.ref b)) Q E s := by
  have ty := at1.typeIs
  obtain ⟨u, its, n, gu, _, du, iu⟩ := at1
  unfold hashByValue
  refine wpAny_bind (wpAny_specialOf ty F.slot_tuple_hash.lookup ?_)
  show wpAny _ _ (seqItems? (.ref b) >>= _) _ _ s
  refine wpAny_bind (wpAny_seqItems gu du ?_)
  refine wpAny_bind ?_
  show wpAny _ _ (forIn its _ _) _ _ s
  rw [← Array.forIn_toList]
  refine wpAny_forIn_list _ (fun left r s1 => r.1 = none ∧ s1 = s ∧ ∀ v, v ∈ left → hashByValue 7 v = pure true ∨ hashByValue 7 v = pure false) _ ?_ ?_ _ _ ⟨rfl, rfl, fun v y => (flatM iu v y).2.imp (fun z => z 7) fun z => z 7⟩
  · rintro v left r s1 ⟨_, rfl, all⟩
    rcases all v List.mem_cons_self with e | e
    · rw [e]
      refine wpAny_bind (wpAny_pure ?_)
      simp only [Bool.not_true, Bool.false_eq_true, if_false]
      exact wpAny_pure ⟨rfl, rfl, fun u y => all u (List.mem_cons_of_mem _ y)⟩
    · rw [e]
      refine wpAny_bind (wpAny_pure ?_)
      simp only [Bool.not_false, if_true]
      exact wpAny_pure (wpAny_pure (q false))
  · rintro ⟨r1, r2⟩ s1 ⟨e, rfl, _⟩
    simp only at e
    subst e
    exact wpAny_pure (q true)
/-- looking among such tuples shows nothing -/
theorem shownM {k : List Key} {b : Addr} {Q : Bool → Shared → Prop} (at1 : AtM pr wd s.heap k b) {ys : List Value} (more : ∀ y, y ∈ ys → ∃ k1 c, y = Value.ref c ∧ AtM pr wd s.heap k1 c) (q : Q false s) : wpAny (model pr wd) A (searchCouldBeSeen (.ref b) ys) Q E s := by
  unfold searchCouldBeSeen
  refine wpAny_bind ?_
  refine wpAny_forIn_list _ (fun left r s1 => r.1 = none ∧ s1 = s ∧ ∀ y, y ∈ left → ∃ k1 c, y = Value.ref c ∧ AtM pr wd s.heap k1 c) _ ?_ ?_ _ _ ⟨rfl, rfl, more⟩
  · rintro v left r s1 ⟨_, rfl, all⟩
    obtain ⟨k1, c, rfl, at2⟩ := all v List.mem_cons_self
    have all1 : ∀ y, y ∈ left → ∃ k1 c, y = Value.ref c ∧ AtM pr wd s1.heap k1 c := fun u y => all u (List.mem_cons_of_mem _ y)
    dsimp only
    by_cases e : (b == c || (carriedByValue (.ref b) && carriedByValue (.ref c))) = true
    · exact wp_if_pos e (wpAny_pure ⟨rfl, rfl, all1⟩)
    · refine wp_if_neg e ?_
      refine wpAny_bind (wpAny_eqIsQuiet_tuple at1 ?_)
      simp only [Bool.not_true, Bool.false_eq_true, if_false]
      refine wpAny_bind (wpAny_eqIsQuiet_tuple at2 ?_)
      simp only [Bool.not_true, Bool.false_eq_true, if_false]
      refine wpAny_bind (classM at1 ?_)
      simp only [Bool.false_eq_true, if_false]
      refine wpAny_bind (classM at2 ?_)
      simp only [Bool.false_eq_true, if_false]
      exact wpAny_pure ⟨rfl, rfl, all1⟩
  · rintro ⟨r1, r2⟩ s1 ⟨e, rfl, _⟩
    simp only at e
    subst e
    exact wpAny_pure q
/-- a set of at most four tuples of ints and texts -/
def lineM (pr : Program) (wd : World) (L : List (Addr × List Key)) : List (Int × Value) := L.map fun p => (hM pr wd p.2, Value.ref p.1)
structure SetM (pr : Program) (wd : World) (g : Heap) (a : Addr) (L : List (Addr × List Key)) (es : Array (Int × Value)) (ep : Nat) (t : SetTable) : Prop where
  ob : ∃ o, g.get? a = some o ∧ o.ExactSet ∧ o.data = .set es ep t
  line : es.toList = lineM pr wd L
  tab : TabOk t (L.map fun p => hM pr wd p.2)
  nod : (L.map (·.2)).Nodup
  are : ∀ p, p ∈ L → AtM pr wd g p.2 p.1
  led : wd.params.followText "set-order" = true ∨ t.led = true
  m7 : t.mask = 7
  four : L.length ≤ 4
variable {a : Addr} {L : List (Addr × List Key)} {es : Array (Int × Value)} {ep : Nat} {t : SetTable}
theorem SetM.size (Z : SetM pr wd s.heap a L es ep t) : es.size = L.length := by
  have z := congrArg List.length Z.line
  unfold lineM at z
  rwa [Array.length_toList, List.length_map] at z
theorem SetM.fits (Z : SetM pr wd s.heap a L es ep t) : t.fits es.size = true := by
  have z := Z.tab.sz
  rw [List.length_map] at z
  have z2 := Z.size
  have z3 := Z.four
  have z4 := Z.m7
  unfold SetTable.fits SetTable.fill
  rw [Z.tab.dm, Bool.and_eq_true, beq_iff_eq, decide_eq_true_eq]
  show t.place.size = es.size ∧ t.place.size + 0 ≤ t.mask
  omega
theorem SetM.row (Z : SetM pr wd s.heap a L es ep t) {i : Nat} {p : Addr × List Key} (e : L[i]? = some p) : es[i]? = some (hM pr wd p.2, Value.ref p.1) := by
  rw [← Array.getElem?_toList, Z.line]
  unfold lineM
  rw [List.getElem?_map, e] <;> rfl
theorem SetM.gw (Z : SetM pr wd s.heap a L es ep t) : ¬ t.gaveWay = true := by
  unfold SetTable.gaveWay
  rw [Z.m7]
  decide
/-- no dummy is met on the way -/
theorem nth_clean (m : Nat) : ∀ (n : Nat) (p : SetTable.Probe), p.dummy = none → (nth m p n).dummy = none
  | 0, _, e => e
  | n + 1, p, e => nth_clean m n (adv m p) (by unfold adv; split <;> exact e)
abbrev from7 (t : SetTable) (h : Int) : SetTable.Probe := runAt t.mask (SetTable.bits h % (t.mask + 1)) (SetTable.bits h)
/-- the search, from a step of the way on: N is the first free place -/
theorem seekM (Z : SetM pr wd s.heap a L es ep t) {x : Addr} {k : List Key} (at1 : AtM pr wd s.heap k x) (hu : A.units < cLine) {N : Nat} (lN : N < 10 * SetTable.turns t.mask) (free : way t.mask (hM pr wd k) N ∉ t.place.toList)
    (full : ∀ c, c < N → way t.mask (hM pr wd k) c ∈ t.place.toList) {Q : SetFound → Shared → Prop} (yes : k ∈ L.map (·.2) → Q (.there none) s) (no : k ∉ L.map (·.2) → Q (.free (way t.mask (hM pr wd k) N) false) s) :
    ∀ (f c : Nat) (st : Option SetTable.Probe), st.getD (t.probeStart (hM pr wd k)) = nth t.mask (from7 t (hM pr wd k)) c → c ≤ N → N - c < f →
      (∀ (i : Nat) p, L[i]? = some p → p.2 = k → ∃ c1, c ≤ c1 ∧ c1 < N ∧ t.place.toList[i]? = some (way t.mask (hM pr wd k) c1)) →
      wpAny (model pr wd) A (setSearchFrom a (.ref x) (hM pr wd k) true f st) Q E s
  | 0, c, st, _, _, bad, _ => absurd bad (Nat.not_lt_zero _)
  | f + 1, c, st, here, cN, fuel, ahead => by
    obtain ⟨u, gu, xu, du⟩ := Z.ob
    rw [setSearchFrom_succ]
    refine wpAny_bind (wpAny_setState_of gu du Z.fits ?_)
    dsimp only
    refine wp_if_neg Z.gw ?_
    try refine wpAny_bind (wpAny_pure ?_)
    have at2 : ∀ j, (nth t.mask (nth t.mask (from7 t (hM pr wd k)) c) j).j = way t.mask (hM pr wd k) (c + j) := fun j => congrArg SetTable.Probe.j (nth_add t.mask c _ j).symm
    have two := go_spec t Z.tab.ris Z.tab.dm (fun i => (es[i]?.map (·.1)).getD 0) (hM pr wd k) (10 * SetTable.turns t.mask) (N - c) _ (nth_clean t.mask c (from7 t (hM pr wd k)) rfl) (by omega)
      (fun j z => by rw [at2]; exact full (c + j) (by omega)) (by rw [at2, show c + (N - c) = N by omega]; exact free)
    have hashed : ∀ (i : Nat) p, L[i]? = some p → (fun i => (es[i]?.map (·.1)).getD 0) i = hM pr wd p.2 := fun i p e => by
      show (es[i]?.map (·.1)).getD 0 = _
      rw [Z.row e] <;> rfl
    rcases two with ⟨j, i, lj, pi, ei, none1, met⟩ | ⟨none1, met⟩
    · have met2 : t.probe (fun i => (es[i]?.map (·.1)).getD 0) (hM pr wd k) (st.getD (t.probeStart (hM pr wd k))) = some (.candidate (way t.mask (hM pr wd k) (c + j)) i (nth t.mask (from7 t (hM pr wd k)) (c + (j + 1)))) := by
        rw [here, ← at2, nth_add t.mask c _ (j + 1)]
        exact met
      rw [met2]
      dsimp only
      rw [at2] at pi
      have iL : i < L.length := by
        have z1 : i < t.place.toList.length := (List.getElem?_eq_some_iff.mp pi).1
        have z2 := Z.tab.sz
        rw [List.length_map] at z2
        rw [Array.length_toList] at z1
        omega
      have eL : L[i]? = some L[i] := List.getElem?_eq_getElem iL
      generalize L[i] = p at eL
      have pL : p ∈ L := List.mem_of_getElem? eL
      have at3 := Z.are p pL
      have behind : wpAny (model pr wd) A (searchRest a (.ref x) (hM pr wd k) true f es t (way t.mask (hM pr wd k) (c + j)) i (nth t.mask (from7 t (hM pr wd k)) (c + (j + 1)))) Q E s := by
        unfold searchRest
        rw [Z.row eL]
        dsimp only
        refine wpAny_bind (wpAny_holding (wpAny_eqBool_tuple hu at3 at1 ?_))
        refine wpAny_bind (wpAny_setState_of gu du Z.fits ?_)
        dsimp only
        by_cases same : p.2 = k
        · refine wp_if_pos (by simp [same]) ?_
          exact wpAny_pure (yes (List.mem_map.mpr ⟨p, pL, same⟩))
        · refine wp_if_neg (by simp [same]) ?_
          try refine wpAny_bind (wpAny_pure ?_)
          rw [sameMem]
          dsimp only
          have live : t.slot (way t.mask (hM pr wd k) (c + j)) = .live i := slot_live Z.tab.ris pi
          simp only [if_true, live, Z.row eL]
          refine wpAny_bind (wpAny_isSame_ref_self (wpAny_bind (wpAny_pure ?_)))
          simp only [if_true]
          refine wp_if_neg (by simp [same]) ?_
          refine seekM Z at1 hu lN free full yes no f (c + (j + 1)) _ rfl (by omega) (by omega) fun i0 p0 e0 s0 => ?_
          obtain ⟨c1, z1, z2, z3⟩ := ahead i0 p0 e0 s0
          refine ⟨c1, ?_, z2, z3⟩
          rcases Nat.lt_or_ge c1 (c + j) with y | y
          · exact absurd ((hashed i0 p0 e0).trans (congrArg (hM pr wd) s0)) (none1 (c1 - c) i0 (by omega) (by rw [at2, show c + (c1 - c) = c1 by omega]; exact z3))
          · rcases Nat.lt_or_ge (c + j) c1 with y2 | y2
            · omega
            · exfalso
              have e1 : c1 = c + j := Nat.le_antisymm y2 y
              rw [e1] at z3
              have live0 := slot_live Z.tab.ris z3
              rw [live] at live0
              injection live0 with live0
              rw [← live0, eL] at e0
              exact same ((congrArg Prod.snd (Option.some.inj e0)).trans s0)
      by_cases ld : t.led = true
      · refine wp_if_neg (by simp [ld]) ?_
        try refine wpAny_bind (wpAny_pure ?_)
        exact behind
      · refine wp_if_pos (by simp [ld]) ?_
        refine wpAny_bind (shownM at1 (fun y z => ?_) ?_)
        · obtain ⟨e, ze, ee⟩ := List.mem_map.mp z
          have z1 : e ∈ es ∧ e.1 = hM pr wd k := by simpa using ze
          have z2 : e ∈ es.toList := by simpa using z1.1
          rw [Z.line] at z2
          obtain ⟨p2, y2, e2⟩ := List.mem_map.mp z2
          exact ⟨p2.2, p2.1, by rw [← ee, ← e2], Z.are p2 y2⟩
        · refine wp_if_neg (by decide) ?_
          try refine wpAny_bind (wpAny_pure ?_)
          exact behind
    · have met2 : t.probe (fun i => (es[i]?.map (·.1)).getD 0) (hM pr wd k) (st.getD (t.probeStart (hM pr wd k))) = some (.empty (way t.mask (hM pr wd k) N) none) := by
        have e2 : way t.mask (hM pr wd k) N = (nth t.mask (nth t.mask (from7 t (hM pr wd k)) c) (N - c)).j := by
          rw [at2, show c + (N - c) = N by omega]
        rw [here, e2]
        exact met
      rw [met2]
      dsimp only
      refine wpAny_pure (no fun z => ?_)
      obtain ⟨p0, y0, s0⟩ := List.mem_map.mp z
      obtain ⟨i0, l0, e0⟩ := List.getElem_of_mem y0
      have e00 : L[i0]? = some p0 := by rw [List.getElem?_eq_getElem l0, e0]
      obtain ⟨c1, z1, z2, z3⟩ := ahead i0 p0 e00 s0
      exact none1 (c1 - c) i0 (by omega) (by rw [at2, show c + (c1 - c) = c1 by omega]; exact z3) ((hashed i0 p0 e00).trans (congrArg (hM pr wd) s0))
theorem searchM (Z : SetM pr wd s.heap a L es ep t) {x : Addr} {k : List Key} (at1 : AtM pr wd s.heap k x) (hu : A.units < cLine) {Q : SetFound → Shared → Prop} (yes : k ∈ L.map (·.2) → Q (.there none) s)
    (no : ∀ N, k ∉ L.map (·.2) → way t.mask (hM pr wd k) N ∉ t.place.toList → (∀ c, c < N → way t.mask (hM pr wd k) c ∈ t.place.toList) → Q (.free (way t.mask (hM pr wd k) N) false) s) :
    wpAny (model pr wd) A (setSearch a (.ref x) (hM pr wd k) true) Q E s := by
  have m7 := Z.m7
  have l4 := Z.four
  obtain ⟨N, lN, free, full⟩ := Z.tab.first (by rw [List.length_map]; omega) (hM pr wd k)
  have big : N < 100000 := by
    have : 10 * SetTable.turns t.mask ≤ 1420 := by
      unfold SetTable.turns
      omega
    omega
  unfold setSearch
  refine seekM Z at1 hu lN free full yes (fun z => no N z free full) 100000 0 none rfl (Nat.zero_le _) (by omega) fun i p e same => ?_
  have ih : (L.map fun p => hM pr wd p.2)[i]? = some (hM pr wd k) := by rw [List.getElem?_map, e, ← same] <;> rfl
  have il : i < t.place.toList.length := by
    have z1 : i < L.length := (List.getElem?_eq_some_iff.mp e).1
    have z2 := Z.tab.sz
    rw [List.length_map] at z2
    rw [Array.length_toList]
    omega
  have pj := List.getElem?_eq_getElem il
  obtain ⟨c, lc, ec⟩ := Z.tab.before free ih pj
  exact ⟨c, Nat.zero_le _, lc, by rw [pj, ec]⟩
theorem AtM.same {g g2 : Heap} {k : List Key} {b : Addr} (z : AtM pr wd g k b) (e : ∀ c u, g.get? c = some u → g2.get? c = some u) : AtM pr wd g2 k b := by
  obtain ⟨u, its, n, gu, r⟩ := z
  exact ⟨u, its, n, e b u gu, r⟩
/-- a tuple is not the set -/
theorem AtM.but {g g2 : Heap} {k : List Key} {b : Addr} {u : Obj} (z : AtM pr wd g k b) (gu : g.get? a = some u) (du : u.data = .set es ep t) (e : Heap.SameBut a g g2) : AtM pr wd g2 k b := by
  obtain ⟨u2, its, n, gu2, cu, du2, iu⟩ := z
  have ne : b ≠ a := by
    rintro rfl
    obtain rfl : u2 = u := Option.some.inj (gu2.symm.trans gu)
    rw [du] at du2
    exact nomatch du2
  exact ⟨u2, its, n, (e.2 b ne).trans gu2, cu, du2, iu⟩
theorem addM (Z : SetM pr wd s.heap a L es ep t) {x : Addr} {k : List Key} (at1 : AtM pr wd s.heap k x) (hu : A.units < cLine) (room : L.length + 1 ≤ 4) {Q : Bool → Shared → Prop}
    (q : ∀ b g L1 es1 ep1 t1, Heap.SameBut a s.heap g → SetM pr wd g a L1 es1 ep1 t1 → (k ∈ L.map (·.2) → L1 = L) → (k ∉ L.map (·.2) → L1.Perm ((x, k) :: L)) → Q b { s with heap := g }) :
    wpAny (model pr wd) A (setAddHashed a (.ref x) (hM pr wd k)) Q E s := by
  obtain ⟨u, gu, xu, du⟩ := Z.ob
  have zs := Z.size
  unfold setAddHashed
  refine wpAny_holding ?_
  rw [show (100000 : Nat) = 99999 + 1 from rfl, setAddHashedIn_succ]
  refine wpAny_bind (wpAny_setState_of gu du Z.fits ?_)
  dsimp only
  refine wp_if_neg (by simp [byScan, Value.scannable]) ?_
  try refine wpAny_bind (wpAny_pure ?_)
  refine wpAny_bind (searchM Z at1 hu (fun there => ?_) fun N out free full => ?_)
  · dsimp only
    exact wpAny_pure (q false s.heap L es ep t (Heap.SameBut.refl a s.heap) Z (fun _ => rfl) fun z => absurd there z)
  · dsimp only
    refine wpAny_bind (wpAny_setState_of gu du Z.fits ?_)
    dsimp only
    obtain ⟨q1, q2, q3, q4, q5, _, _, _, q9⟩ := Z.tab.put free full
    generalize t.put (way t.mask (hM pr wd k) N) = two at q1 q3 q4 q5 q9 ⊢
    obtain ⟨t1, p⟩ := two
    dsimp only at q1 q3 q4 q5 q9 ⊢
    subst q1
    have lines : (SetTable.insertAt es (SetTable.below t.place (way t.mask (hM pr wd k) N)) (hM pr wd k, Value.ref x)).toList = lineM pr wd (L.take (SetTable.below t.place (way t.mask (hM pr wd k) N)) ++ (x, k) :: L.drop (SetTable.below t.place (way t.mask (hM pr wd k) N))) := by
      rw [SetTable.toList_insertAt, Z.line]
      unfold lineM
      rw [List.map_append, List.map_cons, List.map_take, List.map_drop]
    generalize SetTable.below t.place (way t.mask (hM pr wd k) N) = p at q2 q3 lines ⊢
    have pm := put_perm L p (x, k)
    have len1 : (L.take p ++ (x, k) :: L.drop p).length = L.length + 1 := pm.length_eq
    have hs1 : (L.take p ++ (x, k) :: L.drop p).map (fun p => hM pr wd p.2) = (L.map fun p => hM pr wd p.2).take p ++ hM pr wd k :: (L.map fun p => hM pr wd p.2).drop p := by
      rw [List.map_append, List.map_cons, List.map_take, List.map_drop]
    rw [← hs1] at q3
    have nod1 : ((L.take p ++ (x, k) :: L.drop p).map (·.2)).Nodup := by
      refine (pm.map (·.2)).nodup_iff.mpr ?_
      rw [List.map_cons]
      exact List.nodup_cons.mpr ⟨out, Z.nod⟩
    have size1 : (SetTable.insertAt es p (hM pr wd k, Value.ref x)).size = L.length + 1 := by
      have z := congrArg List.length lines
      unfold lineM at z
      rwa [Array.length_toList, List.length_map, len1] at z
    generalize SetTable.insertAt es p (hM pr wd k, Value.ref x) = es1 at lines size1 ⊢
    generalize L.take p ++ (x, k) :: L.drop p = L1 at pm len1 q3 nod1 lines
    have fill1 : t1.fill = L.length + 1 := by rw [q9, List.length_map]
    have last : ∀ t2 : SetTable, t2.place = t1.place → t2.dummies = t1.dummies → t2.mask = t1.mask → t2.led = t1.led → wpAny (model pr wd) A (do
        storeSet a es1 t2
        if (!false && t2.tooFull) = true then do
          setRelay a (SetTable.grown (es.size + 1))
          pure true
        else pure true) Q E s := fun t2 e1 e2 e3 e4 => by
      have T2 : TabOk t2 (L1.map fun p => hM pr wd p.2) := ⟨by rw [e1]; exact q3.ris, by rw [e2]; exact q3.dm, by rw [e1]; exact q3.sz, by rw [e3]; exact q3.mok, by rw [e1, e3]; exact q3.bd, by rw [e1, e3]; exact q3.reach⟩
      have f2 : t2.fill = L.length + 1 := by
        rw [← fill1]
        unfold SetTable.fill
        rw [e1, e2]
      refine wpAny_bind (wpAny_storeSet_of gu du ?_ (by rw [size1, sizeLine_eq]; omega))
      have sb : Heap.SameBut a s.heap (s.heap.update a (Obj.putSet es1 t2)) := Heap.SameBut.update ..
      have gu1 := store_at (es' := es1) (t' := t2) gu du
      generalize s.heap.update a (Obj.putSet es1 t2) = g1 at sb gu1 ⊢
      have notFull : t2.tooFull = false := by
        unfold SetTable.tooFull
        rw [f2, e3, q4, Z.m7]
        exact decide_eq_false (by omega)
      rw [notFull]
      refine wp_if_neg (by decide) ?_
      refine wpAny_pure (q true g1 L1 es1 (ep + 1) t2 sb ⟨⟨_, gu1, ⟨xu.1, xu.2.1, xu.2.2⟩, rfl⟩, lines, T2, nod1, fun p y => ?_, by rw [e4, q5]; exact Z.led, by rw [e3, q4]; exact Z.m7, by rw [len1]; exact room⟩ (fun z => absurd z out) fun _ => pm)
      rcases List.mem_cons.mp (pm.mem_iff.mp y) with e | y
      · rw [e]; exact AtM.but at1 gu du sb
      · exact AtM.but (Z.are p y) gu du sb
    have both : ∀ r : Bool, wpAny (model pr wd) A (do
        storeSet a es1 (if r = true then t1 else { t1 with plain := false })
        if (!false && (if r = true then t1 else { t1 with plain := false }).tooFull) = true then do
          setRelay a (SetTable.grown (es.size + 1))
          pure true
        else pure true) Q E s := fun r => by
      cases r with
      | true =>
        simp only [if_true]
        exact last t1 rfl rfl rfl rfl
      | false =>
        simp only [Bool.false_eq_true, if_false]
        exact last { t1 with plain := false } rfl rfl rfl rfl
    by_cases e : t1.plain = true
    · exact wp_if_pos e (wpAny_bind (valueM at1 both))
    · exact wp_if_neg e (wpAny_bind (wpAny_pure (both true)))
end
end HT
namespace HT
open PySem PySem.Spec PyProof.Rows L2
open PySem.W (EachIs AllAlike Sortable dataLe alike alikeAll dataLt)
/-- what the set has of the first i items -/
structure Half (ks : List (Addr × List Key)) (i : Nat) (L : List (Addr × List Key)) : Prop where
  sub : ∀ p, p ∈ L → p ∈ ks.take i
  all : ∀ p, p ∈ ks.take i → p.2 ∈ L.map (·.2)
  len : L.length ≤ i
theorem Half.zero (ks : List (Addr × List Key)) : Half ks 0 [] := ⟨fun p z => (by cases z), fun p z => (by simp at z), Nat.le_refl _⟩
theorem Half.same {ks L : List (Addr × List Key)} {i : Nat} {x : Addr × List Key} (g : Half ks i L) (e : ks[i]? = some x) (z : x.2 ∈ L.map (·.2)) : Half ks (i + 1) L := by
  have tk : ks.take (i + 1) = ks.take i ++ [x] := take_next e
  refine ⟨fun p y => by rw [tk]; exact List.mem_append_left _ (g.sub p y), fun p y => ?_, Nat.le_succ_of_le g.len⟩
  rw [tk] at y
  rcases List.mem_append.mp y with y | y
  · exact g.all p y
  · rw [List.mem_singleton.mp y]; exact z
theorem Half.more {ks L L1 : List (Addr × List Key)} {i : Nat} {x : Addr × List Key} (g : Half ks i L) (e : ks[i]? = some x) (pm : L1.Perm (x :: L)) : Half ks (i + 1) L1 := by
  have tk : ks.take (i + 1) = ks.take i ++ [x] := take_next e
  refine ⟨fun p y => ?_, fun p y => ?_, by rw [pm.length_eq, List.length_cons]; exact Nat.succ_le_succ g.len⟩
  · rw [tk]
    rcases List.mem_cons.mp (pm.mem_iff.mp y) with z | z
    · rw [z]; exact List.mem_append_right _ (List.mem_singleton.mpr rfl)
    · exact List.mem_append_left _ (g.sub p z)
  · rw [(pm.map (·.2)).mem_iff, List.map_cons]
    rw [tk] at y
    rcases List.mem_append.mp y with y | y
    · exact List.mem_cons_of_mem _ (g.all p y)
    · rw [List.mem_singleton.mp y]; exact List.mem_cons_self
section
variable {pr : Program} {wd : World} {A : Around} {E : Value → Shared → Prop} {s : Shared}
theorem SetM.on {g g2 : Heap} {a : Addr} {L : List (Addr × List Key)} {es : Array (Int × Value)} {ep : Nat} {t : SetTable} (Z : SetM pr wd g a L es ep t) (e : ∀ u, g.get? a = some u → g2.get? a = some u) (at1 : ∀ p, p ∈ L → AtM pr wd g2 p.2 p.1) : SetM pr wd g2 a L es ep t := by
  obtain ⟨u, gu, r⟩ := Z.ob
  exact ⟨⟨u, e u gu, r⟩, Z.line, Z.tab, Z.nod, at1, Z.led, Z.m7, Z.four⟩
abbrev bareS (wd : World) : Obj := { cls := .type "set", dict := none, data := .set #[] 0 (.fresh 0 0 (!wd.params.followText "set-order")) }
theorem setM_bare {g : Heap} {a : Addr} (gu : g.get? a = some (bareS wd)) : SetM pr wd g a [] #[] 0 (.fresh 0 0 (!wd.params.followText "set-order")) where
  ob := ⟨_, gu, ⟨rfl, rfl, rfl⟩, rfl⟩
  line := rfl
  tab := ⟨List.Pairwise.nil, rfl, rfl, .inl rfl, fun x z => (by cases z), fun i h j z => (by simp at z)⟩
  nod := List.nodup_nil
  are := fun p z => (by cases z)
  led := by
    show _ ∨ (!wd.params.followText "set-order") = true
    cases wd.params.followText "set-order"
    · exact .inr rfl
    · exact .inl rfl
  m7 := rfl
  four := by show 0 ≤ 4; decide
/-- all items are put in, one behind the other -/
theorem fillM {I : Addr} {fp wr : List Addr} {G : Array GenState → Array GenState → Prop} {n : Nat} {Pv : Nat → Value → Prop} {St : Nat → Shared → Prop} {R : Result → Shared → Prop} (W : WalksS pr wd A.in1 I fp wr G n Pv St) (S : Addr) (out : S ∉ fp)
    (ks : List (Addr × List Key)) (en : n = ks.length) (four : ks.length ≤ 4) (val : ∀ i v, Pv i v → ∃ p, ks[i]? = some p ∧ v = .ref p.1) (g0 : Heap) (at0 : ∀ p, p ∈ ks → AtM pr wd g0 p.2 p.1) (new : g0.get? S = none) (new2 : ∀ b, b ∈ wr → g0.get? b = none) (hu : A.in1.units < cLine) :
    ∀ (m i : Nat) (s : Shared), n - i = m → i ≤ n → St i s → (∀ b u, g0.get? b = some u → s.heap.get? b = some u) → (∃ L es ep t, SetM pr wd s.heap S L es ep t ∧ Half ks i L) →
      (∀ s1 L es ep t, Moved (S :: wr) G s s1 → SetM pr wd s1.heap S L es ep t → Half ks n L → (∀ b u, g0.get? b = some u → s1.heap.get? b = some u) → R (.ok (.ret .none)) s1) →
      codeAny (model pr wd) A (.builtin "set.update.loop" ⟨[.ref S, .ref I], []⟩) R s := by
  have out2 : S ∉ wr := fun z => out (W.sub _ z)
  have sub : ∀ b, b ∈ wr → b ∈ S :: wr := fun b z => List.mem_cons_of_mem _ z
  have keep : ∀ {s s1 : Shared}, Moved wr G s s1 → (∀ b u, g0.get? b = some u → s.heap.get? b = some u) → ∀ b u, g0.get? b = some u → s1.heap.get? b = some u := fun mv k b u e =>
    mv.heap b u (fun z => by rw [new2 b z] at e; cases e) (k b u e)
  intro m
  induction m with
  | zero =>
    intro i s em li st k ⟨L, es, ep, t, Z, half⟩ fin
    obtain rfl : i = n := by omega
    refine codeAny_builtin F.entry_set_update_loop ?_
    rw [Around.under_plainId F.plain_set_update_loop _]
    show wpAny _ A.in1 (pyNext (.ref I) >>= _) _ _ s
    refine wpAny_bind (W.done s _ _ st fun s1 mv => ?_)
    show wpAny _ A.in1 (ret Value.none) _ _ s1
    have k1 := keep mv k
    exact wpAny_pure (fin s1 L es ep t (mv.mono sub) (Z.on (fun u e => mv.heap S u out2 e) fun p y => (at0 p (List.mem_of_mem_take (half.sub p y))).same k1) half k1)
  | succ m ih =>
    intro i s em li st k ⟨L, es, ep, t, Z, half⟩ fin
    have lt : i < n := by omega
    refine codeAny_builtin F.entry_set_update_loop ?_
    rw [Around.under_plainId F.plain_set_update_loop _]
    show wpAny _ A.in1 (pyNext (.ref I) >>= _) _ _ s
    refine wpAny_bind (W.item i s _ _ lt st fun v s1 pv st1 mv => ?_)
    obtain ⟨p, ep1, rfl⟩ := val i v pv
    have k1 := keep mv k
    have Z1 : SetM pr wd s1.heap S L es ep t := Z.on (fun u e => mv.heap S u out2 e) fun q y => (at0 q (List.mem_of_mem_take (half.sub q y))).same k1
    have at1 : AtM pr wd s1.heap p.2 p.1 := (at0 p (List.mem_of_getElem? ep1)).same k1
    show wpAny _ A.in1 (holding [Value.ref p.1] (setAdd S (.ref p.1)) >>= _) _ _ s1
    refine wpAny_bind (wpAny_holding ?_)
    unfold setAdd
    refine wpAny_holding ?_
    refine wpAny_bind (wpAny_pyHash_tuple hu at1 ?_)
    refine addM (s := { s1 with toks := s1.toks + (p.2.length + 1) }) Z1 at1 hu (by have := half.len; omega) fun b g1 L1 es1 epo t1 sb Z2 c1 c2 => ?_
    have half1 : Half ks (i + 1) L1 := by
      rcases Classical.em (p.2 ∈ L.map (·.2)) with c | c
      · rw [c1 c]; exact half.same ep1 c
      · exact half.more ep1 (c2 c)
    have k2 : ∀ b u, g0.get? b = some u → g1.get? b = some u := fun b u e => (sb.2 b (fun z => by rw [z, new] at e; cases e)).trans (k1 b u e)
    refine wpAny_pure ⟨plainId_quiet F.plain_set_update_loop _, ih (i + 1) _ (by omega) lt (W.frame _ s1 _ _ st1 (Nat.le_add_right _ _) fun b z u e => ?_) k2 ⟨L1, es1, epo, t1, Z2, half1⟩ fun s2 L2 es2 ep2 t2 mv2 Z3 half3 k3 => ?_⟩
    · rw [sb.2 b (fun e : b = S => out (by rw [← e]; exact z))]; exact e
    · refine fin s2 L2 es2 ep2 t2 (Moved.trans W.gtrans ((mv.mono sub).then_heap (Nat.le_add_right _ _) fun b u z e => ?_) mv2) Z3 half3 k3
      rw [sb.2 b (fun e : b = S => z (by rw [e]; exact List.mem_cons_self))]; exact e
set_option maxRecDepth 100000 in
set_option maxHeartbeats 3200000 in
theorem set_of_M {l : Addr} {its : Array Value} (ks : List (Addr × List Key)) {Q : Value → Shared → Prop} (still : A.handled = none) (il : s.heap.IsList l its) (ei : its.toList = ks.map fun p => Value.ref p.1) (at0 : ∀ p, p ∈ ks → AtM pr wd s.heap p.2 p.1) (four : ks.length ≤ 4) (hu : A.units + 3 < cLine)
    (fin : ∀ (g : Heap) (tk : Nat) L es ep t, SetM pr wd g s.heap.objs.size L es ep t → Half ks ks.length L → (∀ b u, s.heap.get? b = some u → g.get? b = some u) → Q (.ref s.heap.objs.size) { s with heap := g, toks := tk }) :
    wpAny (model pr wd) A (call (.type "set") [.ref l]) Q E s := by
  have sz : its.size = ks.length := by
    have e := congrArg List.length ei
    rwa [Array.length_toList, List.length_map] at e
  obtain ⟨k0, k1, mro0⟩ := F.called_set.mro
  have made0 := F.called_set.made; have sub0 := F.called_set.sub
  refine wpAny_call (codeAny_of_tree ?_)
  show wpAny _ _ (callAny (.type "set") _) _ _ _
  refine wpAny_pure ⟨Code.quiet_builtin _ (by decide +kernel), codeAny_builtin F.entry_type_call ?_⟩
  rw [Around.under_plain (weight_type_call_type "set" [.ref l] []) rfl]
  have not0 := F.called_set.notType; have can0 := F.called_set.canCreate; have call0 := F.typeCall_set_1 (.ref l)
  repeat (any_goals (first | assumption | wp_step))
  refine codeAny_mono (code_set_led1 (.ref l) (E := E) (Q₁ := fun x t => x = .ref s.heap.objs.size ∧ t = { s with heap := s.heap.push (bareS wd) }) ⟨rfl, rfl⟩) fun r t hr => ?_
  match r, hr with
  | .error e, hr => exact hr
  | .ok .next, hr => exact hr.elim
  | .ok .brk, hr => exact hr.elim
  | .ok .cont, hr => exact hr.elim
  | .ok (.ret x), hr =>
    obtain ⟨rfl, rfl⟩ := hr
    have gS : (s.heap.push (bareS wd)).get? s.heap.objs.size = some (bareS wd) := Heap.get?_push_size _ rfl
    have tS : Shared.TypeIs { s with heap := s.heap.push (bareS wd) } (.ref s.heap.objs.size) "set" := ⟨_, gS, rfl⟩
    have look0 := F.called_set.init.lookup; have bind0 := F.called_set.init.bind (.ref s.heap.objs.size)
    repeat (any_goals (first | assumption | wp_step))
    refine codeAny_mono (codeAny_call_builtin (R := wants (fun r t => r = .none ∧ ∃ g tk L es ep tb, t = { s with heap := g, toks := tk } ∧ SetM pr wd g s.heap.objs.size L es ep tb ∧ Half ks ks.length L ∧ (∀ b u, s.heap.get? b = some u → g.get? b = some u)) E)
      F.called_set.init.plain F.entry_set_init (check_set_init_1 tS ?_)) fun r2 t2 hr2 => ?_
    · obtain ⟨ol, gl, cl0, nl, dl⟩ := il
      obtain ⟨c1, d1, dt1, s1⟩ := ol
      simp only at cl0 dl
      subst cl0; subst dl
      have gl2 : (s.heap.push (bareS wd)).get? l = some { cls := .type "list", dict := d1, data := .seq its nl, slots := s1 } := Heap.get?_push_of_some _ gl
      have sub1 := F.sub_list_set; have sub2 := F.sub_list_frozenset
      have nd0 : (Value.type "list" == Value.type "dict") = false := by decide
      have il2 : (s.heap.push (bareS wd)).IsList l its := ⟨_, gl2, rfl, nl, rfl⟩
      unfold Builtin.«set.__init__» noKeywords Builtin.Frozenset.updateFrom
      generalize ePI : pyIter = PI
      wp_walk
      subst ePI
      refine wpAny_pyIter_list il2 ?_
      refine wpAny_bind (wpAny_runValue ?_)
      have lS : l < s.heap.objs.size := Heap.lt_size gl
      have still3 : A.in1.in1.in1.handled = none := by simp [still]
      have nI : l ≠ (s.heap.push (bareS wd)).objs.size := by
        rw [Heap.size_push]; exact Nat.ne_of_lt (Nat.lt_succ_of_lt lS)
      have nS : s.heap.objs.size ∉ [(s.heap.push (bareS wd)).objs.size, l] := by
        rw [Heap.size_push]; simp only [List.mem_cons, List.mem_singleton, List.not_mem_nil, or_false, not_or]
        exact ⟨Nat.ne_of_lt (Nat.lt_succ_self _), Nat.ne_of_gt lS⟩
      have no : ∀ b, s.heap.objs.size ≤ b → s.heap.get? b = none := fun b z => by
        cases e : s.heap.get? b with
        | none => rfl
        | some u => exact absurd (Nat.lt_of_lt_of_le (Heap.lt_size e) z) (Nat.lt_irrefl _)
      refine fillM ((Walks.list still3 _ l nI its).toS) s.heap.objs.size nS ks sz four (fun i v hv => ?_) s.heap at0 (no _ (Nat.le_refl _)) (fun b z => no b ?_) hu (its.size - 0) 0 _ (by omega) (Nat.zero_le _) ⟨⟨_, Heap.get?_push_size _ rfl, rfl, rfl⟩, (il2.push _)⟩ (fun b u e => Heap.get?_push_of_some _ (Heap.get?_push_of_some _ e)) ?start ?stop
      · have e : its.toList[i]? = some v := by rw [Array.getElem?_toList]; exact hv
        rw [ei, List.getElem?_map] at e
        cases z : ks[i]? with
        | none => rw [z] at e; cases e
        | some p => rw [z] at e; exact ⟨p, rfl, (Option.some.inj e).symm⟩
      · rw [List.mem_singleton.mp z, Heap.size_push]
        exact Nat.le_succ _
      case start => exact ⟨[], #[], 0, _, setM_bare (Heap.get?_push_of_some _ gS), Half.zero ks⟩
      case stop =>
        intro t L es ep tb mv Z half k
        obtain ⟨g, g2, dr, tk, os⟩ := t
        obtain rfl : g2 = s.gens := mv.gens
        obtain rfl : dr = s.drawn := mv.drawn
        obtain rfl : os = s.os := mv.os
        show wpAny _ _ _ _ _ _
        refine wpAny_pure ?_
        show wpAny _ _ (ret Value.none) _ _ _
        rw [sz] at half
        exact wpAny_pure ⟨rfl, g, tk, L, es, ep, tb, rfl, Z, half, k⟩
    · match r2, hr2 with
      | .error e, hr2 => exact hr2
      | .ok .next, hr2 => exact hr2.elim
      | .ok .brk, hr2 => exact hr2.elim
      | .ok .cont, hr2 => exact hr2.elim
      | .ok (.ret x), hr2 =>
        obtain ⟨rfl, g, tk, L, es, ep, tb, rfl, Z, half, k⟩ := hr2
        repeat (any_goals (first | assumption | wp_step))
        exact fin _ _ _ _ _ _ Z half k
end
/-! ### sorted -/
theorem perm_back {α β : Type} (f : α → β) : ∀ (vs : List β) (l : List α), vs.Perm (l.map f) → ∃ l2 : List α, l2.Perm l ∧ l2.map f = vs
  | [], l, z => by
    have e := z.length_eq
    rw [List.length_map] at e
    obtain rfl : l = [] := List.eq_nil_of_length_eq_zero e.symm
    exact ⟨[], List.Perm.refl _, rfl⟩
  | v :: vs, l, z => by
    obtain ⟨x, hx, e⟩ := List.mem_map.mp (z.mem_iff.mp List.mem_cons_self)
    obtain ⟨A, B, rfl⟩ := List.append_of_mem hx
    have z2 : (v :: vs).Perm (v :: (A ++ B).map f) := by
      refine z.trans ?_
      rw [List.map_append, List.map_cons, e, List.map_append]
      exact List.perm_middle
    obtain ⟨l2, p2, e2⟩ := perm_back f vs (A ++ B) z2.cons_inv
    exact ⟨x :: l2, (p2.cons x).trans List.perm_middle.symm, by rw [List.map_cons, e, e2]⟩
/-- a tuple of two ints and a text, with its address -/
abbrev RowM : Type := Addr × Int × Int × Str
def keyM (q : RowM) : List Key := [.inl q.2.1, .inl q.2.2.1, .inr q.2.2.2]
def entM (q : RowM) : Addr × List Key := (q.1, keyM q)
def encM (q : RowM) : PyData := .tuple [.int q.2.1, .int q.2.2.1, .str q.2.2.2]
theorem alike_encM (b c : RowM) : alike (encM b) (encM c) = true := by
  unfold encM
  simp [alike, alikeAll]
section
variable {pr : Program} {wd : World} {A : Around} {E : Value → Shared → Prop} {s : Shared}
theorem readsM {g : Heap} {q : RowM} (z : AtM pr wd g (keyM q) q.1) : Reads g (.ref q.1) (encM q) [] := by
  obtain ⟨u, its, n, gu, cu, du, iu⟩ := z
  have key : ReadsAll g its.toList [.int q.2.1, .int q.2.2.1, .str q.2.2.2] [] := by
    unfold keyM at iu
    generalize its.toList = vs at iu
    cases iu with
    | cons a1 b1 =>
      cases b1 with
      | cons a2 b2 =>
        cases b2 with
        | cons a3 b3 =>
          cases b3
          obtain ⟨t1, rfl⟩ := Value.isInt_shape a1
          obtain ⟨t2, rfl⟩ := Value.isInt_shape a2
          rcases keyIs_shape (show keyIs (.inr q.2.2.2) _ = true from a3) with ⟨_, _, e, _⟩ | ⟨x, t3, e, rfl⟩
          · exact nomatch e
          · injection e with e
            subst e
            exact ReadsAll.cons (as := []) (bs := []) (.int _ _) (ReadsAll.cons (as := []) (bs := []) (.int _ _) (ReadsAll.cons (as := []) (bs := []) (.str _ _) .nil))
  exact .tuple gu cu du key
theorem sorted_M {a : Addr} {M : List RowM} {es : Array (Int × Value)} {ep : Nat} {t : SetTable} {Q : Value → Shared → Prop} (Z : SetM pr wd s.heap a (M.map entM) es ep t) (still : A.handled = none) (hu : A.units + 64 < cLine)
    (fin : ∀ s1 p (out : Array Value) (c : Nat) (M1 : List RowM), (∀ b u, s.heap.get? b = some u → s1.heap.get? b = some u) → s1.gens = s.gens → s1.os = s.os → s.heap.objs.size ≤ p → s1.heap.get? p = some (seqObj "list" out c) →
      M1.Perm M → out.toList = (M1.mergeSort (dataLe false encM)).map (fun q => Value.ref q.1) → Q (.ref p) s1) :
    wpAny (model pr wd) A (call (.builtin "sorted") [.ref a]) Q E s := by
  obtain ⟨u, gu, xu, du⟩ := Z.ob
  have zs := Z.size
  have few := Z.four
  rw [List.length_map] at zs few
  refine Calls.call_function_entry kind_sorted plain_sorted entry_sorted (args_sorted1 _) ?_
  unfold Builtin.«sorted»
  refine wpAny_bind (m := checkCount "sorted" 1 1 _) (wpAny_pure ?_)
  refine wpAny_bind (collect_set (A := A.in1) still ⟨u, gu, xu.1, du⟩ Z.fits (by unfold scanBound; omega) Z.tab.ris Z.led fun s1 vs keep grow gg oo pm => ?_)
  have rows : es.toList.map (·.2) = M.map fun q => Value.ref q.1 := by
    rw [Z.line]
    unfold lineM
    rw [List.map_map, List.map_map] <;> rfl
  rw [rows] at pm
  obtain ⟨M1, pm1, e1⟩ := perm_back (fun q : RowM => Value.ref q.1) vs M pm
  have lv : vs.length ≤ 4 := by rw [← e1, List.length_map, pm1.length_eq]; exact few
  refine wpAny_bind (wpAny_newList ?_ (by rw [sizeLine_eq]; omega))
  have gL : (s1.heap.push (seqObj "list" vs.toArray 0)).get? s1.heap.objs.size = some (seqObj "list" vs.toArray 0) := Heap.get?_push_size _ rfl
  have each : ∀ (N : List RowM), (∀ q ∈ N, q ∈ M) → EachIs (fun v q => v = Value.ref q.1) (N.map fun q => Value.ref q.1) N ∧ EachIs (fun v q => ∃ as, Reads (s1.heap.push (seqObj "list" vs.toArray 0)) v (encM q) as ∧ s1.heap.objs.size ∉ as) (N.map fun q => Value.ref q.1) N := by
    intro N
    induction N with
    | nil => intro _; exact ⟨.nil, .nil⟩
    | cons q N ih =>
      intro hN
      obtain ⟨i1, i2⟩ := ih fun r hr => hN r (List.mem_cons_of_mem _ hr)
      have z := Z.are (entM q) (List.mem_map.mpr ⟨q, hN q List.mem_cons_self, rfl⟩)
      exact ⟨.cons rfl i1, .cons ⟨[], readsM (AtM.same z fun b u e => Heap.get?_push_of_some _ (keep b u e)), by simp⟩ i2⟩
  obtain ⟨i1, i2⟩ := each M1 fun q hq => pm1.mem_iff.mp hq
  rw [e1] at i1 i2
  have hd : ∀ q : RowM, (encM q).depth ≤ 2 := fun q => by
    unfold encM
    simp [PyData.depth, PyData.depthAll]
  refine wpAny_bind (wpAny_holding (PySem.W.list_sort_data (s := { s1 with heap := s1.heap.push (seqObj "list" vs.toArray 0) }) (enc := encM) gL i1 i2 (AllAlike.of alike_encM) (Sortable.tuples fun b => ⟨_, _, rfl⟩) (by rw [pm1.length_eq, sizeLine_eq]; omega) (fun b _ => ?_) fun out lo eo => ?_))
  · have := hd b
    show A.in1.units + 1 + (encM b).depth < cLine
    have : A.in1.units = A.units + 1 := rfl
    omega
  obtain ⟨c, hc⟩ := sortedHeap_at (vs := vs) (out := out.toArray) gL
  refine wpAny_pure ⟨_, rfl, fin _ s1.heap.objs.size out.toArray c M1 (fun b u e => ?_) gg oo grow hc pm1 ?_⟩
  · have q := keep b u e
    have lt := Heap.lt_size q
    show (sortedHeap (s1.heap.push (seqObj "list" vs.toArray 0)) s1.heap.objs.size vs out.toArray).get? b = some u
    rw [sortedHeap_old (Nat.ne_of_lt lt) (by rw [size_push']; exact Nat.lt_succ_of_lt lt)]
    exact Heap.get?_push_of_some _ q
  · show out = _
    have key : ∀ {N : List RowM} {o : List Value}, EachIs (fun v q => v = Value.ref q.1) o N → o = N.map fun q => Value.ref q.1 := by
      intro N
      induction N with
      | nil => intro o z; cases z; rfl
      | cons q N ih => intro o z; cases z with
        | cons r1 r2 => rw [List.map_cons, ← ih r2, r1]
    exact key eo
end
/-! ### the rules -/
structure SetM0 (pr : Program) (wd : World) (g : Heap) (a : Addr) (L : List (Addr × List Key)) : Prop where
  ex : ∃ (es : Array (Int × Value)) (ep : Nat) (t : SetTable), (∃ o, g.get? a = some o ∧ o.ExactSet ∧ o.data = .set es ep t) ∧ es.toList = lineM pr wd L ∧ TabOk t (L.map fun p => hM pr wd p.2) ∧ (L.map (·.2)).Nodup ∧
    (wd.params.followText "set-order" = true ∨ t.led = true) ∧ t.mask = 7 ∧ L.length ≤ 4
def SetMO (pr : Program) (wd : World) (a : Addr) (L : List (Addr × List Key)) : HO := .ext fun g => SetM0 pr wd g a L
theorem SetM.m0 {pr : Program} {wd : World} {g : Heap} {a : Addr} {L : List (Addr × List Key)} {es : Array (Int × Value)} {ep : Nat} {t : SetTable} (Z : SetM pr wd g a L es ep t) : SetM0 pr wd g a L :=
  ⟨es, ep, t, Z.ob, Z.line, Z.tab, Z.nod, Z.led, Z.m7, Z.four⟩
theorem SetM0.whole {pr : Program} {wd : World} {g : Heap} {a : Addr} {L : List (Addr × List Key)} (Z : SetM0 pr wd g a L) (at1 : ∀ p, p ∈ L → AtM pr wd g p.2 p.1) : ∃ es ep t, SetM pr wd g a L es ep t := by
  obtain ⟨es, ep, t, z1, z2, z3, z4, z5, z6, z7⟩ := Z.ex
  exact ⟨es, ep, t, z1, z2, z3, z4, at1, z5, z6, z7⟩
theorem setMO_new {pr : Program} {wd : World} {H : Hp} {g : Heap} {a : Addr} {L : List (Addr × List Key)} (Z : SetM0 pr wd g a L) : ObjOk pr wd H g a (SetMO pr wd a L) := by
  have ⟨es, ep, t, ⟨o, go, r⟩, q⟩ := Z.ex
  refine ⟨Z, ⟨o, go⟩, fun g1 g2 z k => ?_⟩
  have ⟨es2, ep2, t2, ⟨o2, go2, r2⟩, q2⟩ := SetM0.ex z
  exact ⟨es2, ep2, t2, ⟨o2, k o2 go2, r2⟩, q2⟩
def valM (q : RowM) : HO := .tup [.int q.2.1, .int q.2.2.1, .str q.2.2.2]
section
variable {X : Cx}
theorem inv_atM {pins : List (Addr × Obj)} {σ : L2.St} {H : Hp} {s : Shared} (I : Inv X pins σ H s) {q : RowM} (e : H q.1 = some (valM q)) : AtM X.prog X.w s.heap (keyM q) q.1 :=
  key_of (ks := keyM q) I.hok e
/-- set(xs) of a list of at most four tuples of two ints and a text -/
def rSetM (K : PySem.W.Frag) (pr : Program) (wd : World) : List V → Hp → VK → Prop := fun vs H Q => ∃ (l : Addr) (ks : List RowM), vs = [V.ref l] ∧ SqL K H l (ks.map fun q => V.ref q.1) ∧ (∀ q, q ∈ ks → H q.1 = some (valM q)) ∧ ks.length ≤ 4 ∧
  ∀ (a : Addr) (M : List RowM), H a = none → (∀ q, q ∈ M → q ∈ ks) → (∀ q, q ∈ ks → q.2 ∈ M.map (·.2)) → (M.map (·.2)).Nodup → Q (.ref a) (upd H a (SetMO pr wd a (M.map entM)))
theorem cr_setM (hc : X.calm = true) (hu : X.A.units + 64 < cLine) : CallR X (.type "set") (rSetM X.K X.prog X.w) := by
  intro pins s σ H vs us Q I r h
  obtain ⟨l, ks, rfl, sl, at1, four, q⟩ := h
  rw [Vals.ref1 r]
  obtain ⟨its, rv, pl, hz⟩ := I.list sl
  have hn : H s.heap.objs.size = none := I.hok.fresh (Nat.le_refl _)
  have ei : its = (ks.map entM).map fun p => Value.ref p.1 := by
    have key : ∀ {ks : List RowM} {us : List Value}, Vals (ks.map fun q => V.ref q.1) us → us = (ks.map entM).map fun p => Value.ref p.1 := by
      intro ks
      induction ks with
      | nil => intro us z; cases z; rfl
      | cons q ks ih => intro us z; cases z with
        | cons r1 r2 => cases r1; rw [ih r2]; rfl
    exact key rv
  have inj : ∀ {q r : RowM}, keyM q = keyM r → q.2 = r.2 := fun {q r} e => by
    obtain ⟨_, o, s, m⟩ := q
    obtain ⟨_, o', s', m'⟩ := r
    unfold keyM at e
    simp only [List.cons.injEq, Sum.inl.injEq, Sum.inr.injEq, and_true] at e
    obtain ⟨e1, e2, e3⟩ := e
    subst e1 e2 e3
    rfl
  refine set_of_M (ks.map entM) (I.ok.hd hc) pl.isList (by simpa using ei) (fun p y => ?_) (by rw [List.length_map]; exact four) (by omega) fun g tk L es ep t Z half k => ?_
  · obtain ⟨q, hq, rfl⟩ := List.mem_map.mp y
    exact inv_atM I (at1 q hq)
  · have sub : ∀ p, p ∈ L → p ∈ ks.map entM := fun p y => List.mem_of_mem_take (half.sub p y)
    obtain ⟨M, eM, sM⟩ : ∃ M : List RowM, L = M.map entM ∧ ∀ q, q ∈ M → q ∈ ks := by
      have key : ∀ N : List (Addr × List Key), (∀ p, p ∈ N → p ∈ ks.map entM) → ∃ M : List RowM, N = M.map entM ∧ ∀ q, q ∈ M → q ∈ ks := by
        intro N
        induction N with
        | nil => intro _; exact ⟨[], rfl, fun q z => by cases z⟩
        | cons p N ih =>
          intro hN
          obtain ⟨q, hq, e⟩ := List.mem_map.mp (hN p List.mem_cons_self)
          obtain ⟨M, e2, s2⟩ := ih fun r hr => hN r (List.mem_cons_of_mem _ hr)
          refine ⟨q :: M, by rw [List.map_cons, e, e2], fun r hr => ?_⟩
          rcases List.mem_cons.mp hr with z | z
          · rw [z]; exact hq
          · exact s2 r z
      exact key L sub
    subst eM
    refine ⟨.ref s.heap.objs.size, upd H s.heap.objs.size (SetMO X.prog X.w s.heap.objs.size (M.map entM)), I.laid (t' := tk) k (Nat.le_refl _) (setMO_new Z.m0), rfl, q _ M hn sM (fun r hr => ?_) ?_⟩
    · have z := half.all (entM r) (by rw [List.take_length]; exact List.mem_map.mpr ⟨r, hr, rfl⟩)
      rw [List.map_map] at z
      obtain ⟨q, hq, e⟩ := List.mem_map.mp z
      exact List.mem_map.mpr ⟨q, hq, inj e⟩
    · have z := Z.nod
      rw [List.map_map] at z
      refine List.pairwise_map.mpr (List.Pairwise.imp (fun {q r} ne e => ne ?_) (List.pairwise_map.mp z))
      show keyM q = keyM r
      unfold keyM
      rw [e]
/-- sorted of such a set -/
def rSortedM (pr : Program) (wd : World) : List V → Hp → VK → Prop := fun vs H Q => ∃ (a : Addr) (M : List RowM), vs = [V.ref a] ∧ H a = some (SetMO pr wd a (M.map entM)) ∧ (∀ q, q ∈ M → H q.1 = some (valM q)) ∧
  ∀ (M1 : List RowM) (p : Addr), M1.Perm M → H p = none → Q (.ref p) (upd H p (.lst ((M1.mergeSort (dataLe false encM)).map fun q => V.ref q.1)))
theorem cr_sortedM (hc : X.calm = true) (hu : X.A.units + 64 < cLine) : CallR X (.builtin "sorted") (rSortedM X.prog X.w) := by
  intro pins s σ H vs us Q I r h
  obtain ⟨a, M, rfl, ha, at1, q⟩ := h
  have Z0 : SetM0 X.prog X.w s.heap a (M.map entM) := (I.hok a _ ha).1
  obtain ⟨es, ep, t, Z⟩ := Z0.whole fun p y => by
    obtain ⟨q, hq, rfl⟩ := List.mem_map.mp y
    exact inv_atM I (at1 q hq)
  have four := Z.four
  rw [List.length_map] at four
  rw [Vals.ref1 r]
  refine sorted_M Z (I.ok.hd hc) hu fun s1 p out c M1 k gg o hp hg pm eo => ?_
  have hlen : ((M1.mergeSort (dataLe false encM)).map fun q => V.ref q.1).length ≤ sizeLine := by rw [List.length_map, List.length_mergeSort, pm.length_eq, sizeLine_eq]; omega
  have hn : H p = none := I.hok.fresh hp
  have hv : Vals ((M1.mergeSort (dataLe false encM)).map fun q => V.ref q.1) out.toList := by
    rw [eo]
    generalize M1.mergeSort (dataLe false encM) = N
    induction N with
    | nil => exact .nil
    | cons q N ih => exact .cons rfl ih
  have J : Inv X pins σ (upd H p (.lst ((M1.mergeSort (dataLe false encM)).map fun q => V.ref q.1))) { s with heap := s1.heap, gens := s1.gens, drawn := s1.drawn, toks := s1.toks } :=
    I.call (ch := []) (Un.laid k hp hn) (I.hok.laid k hp ⟨hlen, out.toList, c, hv, hg⟩) (by rw [gg]; exact I.bare) (fun _ z => nomatch z)
  have e : s1 = { s with heap := s1.heap, gens := s1.gens, drawn := s1.drawn, toks := s1.toks } := by
    cases s1
    cases s
    cases o
    rfl
  rw [e]
  exact ⟨.ref p, _, J, rfl, q M1 p pm hn⟩
end
end HT
namespace HT
open PySem L2
def rowF (p : Addr) (d : Sd) : RowM := (p, formO d.o d.s (firstM d.s d.m), d.s, firstM d.s d.m)
theorem over2 {H : Hp} {a p b : Addr} {o1 o2 u : HO} (na : H a = none) (np : upd H a o1 p = none) (h : H b = some u) : upd (upd H a o1) p o2 b = some u := by
  have z : upd H a o1 b = some u := (upd_ne (ne_of_none h na)).trans h
  exact (upd_ne (ne_of_none z np)).trans z
section
variable {P : Program} {w : World} {K : PySem.W.Frag} {mg : Str → Option Value} {base : Heap} {Z fC fM : Addr} {dC dM : FuncData}
theorem ok_Z_init {f : Addr} {fd : FuncData} (F : Fun K "__init__" "Sides.__init__" s_Z_init f fd) (c : Cls K Z) (n1 : NoAttr K Z "_sides") (n2 : NoAttr K Z "_forms") (hl : mg "list" = none) (hs : mg "set" = none) (ho : mg "sorted" = none)
    (Ck : Cal P w K mg base "check_sides" 5 ["sides"] spSides fC dC) (Fm : Cal P w K mg base "form" 4 ["side"] spForm fM dM) : FnOk P w K mg base CX0 6 f fd ["self", "sides"] (spZInit Z) := by
  refine F.ok sc_Z_init (fun vs H Q E h => ?_) (fun cdv A outer s0 H vs Q E hr h => ?_)
  · obtain ⟨x, dx, l, xs, ss, rfl, _⟩ := h
    rfl
  · obtain ⟨x, dx, l, xs, ss, rfl, hx, SS, q⟩ := h
    have nd := sc_Z_init.nd
    refine ⟨_, pss_cons (ps_expr (pcl Ck hr (by decide) (by rfl) (pa_cons (pv 1) pa_nil)))
      (pss_cons (ps_fld (pv 0) (pe_callTy call_list_of (by rfl) hl (by decide +kernel) (pa_cons (pv 1) pa_nil)) (by rfl))
      (pss_one (ps_fld (pv 0) (pe_callB (cr_sortedM rfl hr.units) (by rfl) ho (by decide +kernel) (pa_cons (pe_callTy (cr_setM rfl hr.units) (by rfl) hs (by decide +kernel) (pa_cons
        (pe_lc (own := [("side", 2)]) (g := gName 2) (tt := tYes) rfl nd (pi_list (pv 1)) (blkOk_by (N := ["self", "sides", "side"]) (sc := defScope s_Z_init) (by decide +kernel)) (fun _ _ _ _ _ => pg_name (i := 2) nd rfl (Or.inl rfl)) (fun _ _ _ _ _ => pts_nil) (fun _ _ _ _ _ => pcl Fm hr (by decide) (by rfl) (pa_cons (pv 2) pa_nil))) pa_nil)) pa_nil)) (by rfl)))), ?_⟩
    walk_at "rd"
    refine ⟨l, xs, ss, rfl, SS, ?_⟩
    walk_at "rd"
    refine ⟨l, _, rfl, .inl (SqL.of SS.hl), fun n nn => ?_⟩
    have w1 : Same H (upd H n (.lst xs)) := fun b u z => (upd_ne (ne_of_none z nn)).trans z
    have g1 : upd H n (.lst xs) n = some (.lst xs) := upd_same
    generalize upd H n (.lst xs) = H1 at w1 g1 ⊢
    walk_at "rd"
    refine ⟨x, Z, dx, [], rfl, w1 _ _ hx, c, n1, by decide, ?_⟩
    have w2 : ∀ b u, b ≠ x → H1 b = some u → upd H1 x (.ins Z dx (putF "_sides" (.ref n) [])) b = some u := fun b u e z => (upd_ne e).trans z
    have g2 : upd H1 x (.ins Z dx (putF "_sides" (.ref n) [])) x = some (.ins Z dx [("_sides", .ref n)]) := upd_same
    generalize upd H1 x (.ins Z dx (putF "_sides" (.ref n) [])) = H2 at w2 g2 ⊢
    have nl : l ≠ x := fun e => by
      have z := SS.hl
      rw [e, hx] at z
      cases z
    have nx : n ≠ x := (ne_of_none hx nn).symm
    have no : ∀ {b : Addr} {u : HO}, b ≠ x → H b = some u → H2 b = some u := fun {b u} e z => w2 b u e (w1 _ _ z)
    have notx : ∀ {b : Addr} {o s : Int} {m : Str}, H b = some (sideV o s m) → b ≠ x := fun {b o s m} z e => by
      rw [e, hx] at z
      cases z
    have S2 : SidesAt H2 l xs ss := ⟨no nl SS.hl, SS.len, SS.l1, SS.l4, fun i d h => let ⟨p, a, b, c⟩ := SS.at_ i d h; ⟨p, a, no (notx b) b, c⟩⟩
    have Sn : SidesAt H2 n xs ss := ⟨w2 _ _ nx g1, S2.len, S2.l1, S2.l4, S2.at_⟩
    walk_at "rd"
    refine ⟨⟨_, SqL.of S2.hl⟩, fun L nL => ?_⟩
    refine lc_list (K := K) (a := l) (xs := xs) (fun i H3 => ∃ ks : List RowM, H3 L = some (.lst (ks.map fun q => V.ref q.1)) ∧ ks.length = i ∧ i ≤ ss.length ∧ Same H2 H3 ∧ ∀ q, q ∈ ks → H3 q.1 = some (valM q))
      ⟨[], upd_same, rfl, Nat.zero_le _, fun b u z => (upd_ne (ne_of_none z nL)).trans z, fun q z => by cases z⟩ (fun _ _ _ ⟨_, _, _, _, sm, _⟩ => SqL.of (sm _ _ S2.hl)) ?_ ?_
    · rintro i y H3 hy ⟨ks, hD, lk, li, sm, at_⟩
      obtain ⟨d, p, ed, rfl, hp, sp⟩ := S2.item hy
      have il : i < ss.length := (List.getElem?_eq_some_iff.mp ed).1
      refine ⟨rfl, ?_⟩
      walk_at "rd"
      refine ⟨p, d.o, d.s, d.m, rfl, sm _ _ hp, sp, fun b H4 s34 nb hb => ?_⟩
      have hD4 := s34 _ _ hD
      walk_at "rd"
      refine ⟨_, hD4, ?_, ks ++ [rowF b d], ?_, ?_, il, ?_, ?_⟩
      · rw [List.length_map, lk]
        exact Nat.lt_of_lt_of_le il (Nat.le_trans SS.l4 (by decide))
      · rw [List.map_append]
        exact upd_same
      · rw [List.length_append, lk]
        rfl
      · intro c u y
        exact (upd_ne (ne_of_none y nL)).trans (s34 _ _ (sm _ _ y))
      · intro r hr
        have nLr : ∀ {u : HO}, H4 r.1 = some u → (∀ zs, u ≠ .lst zs) → r.1 ≠ L := fun {u} e z e2 => by
          rw [e2, hD4] at e
          exact z _ (Option.some.inj e).symm
        rcases List.mem_append.mp hr with z | z
        · have e := s34 _ _ (at_ r z)
          exact (upd_ne (nLr e fun zs y => by unfold valM at y; cases y)).trans e
        · rw [List.mem_singleton.mp z]
          have e : H4 b = some (valM (rowF b d)) := hb
          refine (upd_ne (fun e2 => ?_)).trans e
          rw [show (rowF b d).1 = b from rfl] at e2
          rw [e2, hD4] at e
          unfold valM at e
          cases e
    · rintro H3 ⟨ks, hD, lk, li, sm, at_⟩
      walk_at "rd"
      refine ⟨L, ks, rfl, SqL.of hD, at_, by rw [lk, S2.len]; exact SS.l4, fun a M na sub _ _ => ?_⟩
      walk_at "rd"
      refine ⟨a, M, rfl, upd_same, fun q z => (upd_ne (ne_of_none (at_ q (sub q z)) na)).trans (at_ q (sub q z)), fun M1 p _ np => ?_⟩
      walk_at "rd"
      refine ⟨x, Z, dx, [("_sides", .ref n)], rfl, over2 na np (sm _ _ g2), c, n2, (by show 1 < 1000; decide), ?_⟩
      refine q _ (fun b u e z => (upd_ne e).trans (over2 na np (sm _ _ (no e z)))) ⟨dx, n, .ref p, xs, upd_same, (upd_ne nx).trans (over2 na np (sm _ _ Sn.hl)), Sn.len, Sn.l1, Sn.l4, fun i d h => ?_⟩
      obtain ⟨p2, a2, b2, c2⟩ := Sn.at_ i d h
      exact ⟨p2, a2, (upd_ne (fun e => by rw [e, g2] at b2; cases b2)).trans (over2 na np (sm _ _ b2)), c2⟩
end
end HT
namespace HT
open PySem L2
def errB (K : PySem.W.Frag) (C : Addr) : Bool := (PySem.W.clsIn K C).isSome && (decide (PySem.W.findIn K (.ref C) "__getattribute__" = some (some (.builtin "BaseException.__getattribute__"))) && (decide (PySem.W.findIn K (.ref C) "__getattr__" = some none) && (decide (PySem.W.subIn K (.ref C) (.type "BaseException") = some true) &&
  (decide (PySem.W.findIn K (.ref C) "__class__" = some (some (.builtin "object.__class__"))) && decide (PySem.W.mroIn K C (.type "object") = some true)))))
theorem errB_ok {K : PySem.W.Frag} {C : Addr} (h : errB K C = true) : ErrC K C := by
  unfold errB at h
  simp only [Bool.and_eq_true, decide_eq_true_eq] at h
  obtain ⟨a, b, c, d, e, f⟩ := h
  exact ⟨a, b, c, d, e, f⟩
def exB (K : PySem.W.Frag) (C : Addr) : Bool := PySem.W.excIn K C [.type "ValueError", .type "Exception", .type "BaseException", .type "object"] "ValueError.__new__" && PySem.W.keepIn K (.ref C)
def erT (K : PySem.W.Frag) (C : Nat → Addr) (B : Addr) (i : Nat) : Bool := errB K (C i) && (exB K (C i) && (decide (PySem.W.kitOne K (.ref (C i)) (.type "ValueError") = some true) && (decide (PySem.W.subIn K (.ref (C i)) (.type "BaseException") = some true) && (decide (PySem.W.typeIn K (.ref (C i)) = some (.type "type")) && (decide (PySem.W.exmOne K (.ref (C i)) (.ref B) = some true) &&
  (List.range 4).all fun j => decide (PySem.W.kitOne K (.ref (C i)) (.ref (C j)) = some (decide (i = j))))))))
def cAt (l : List Addr) (i : Nat) : Addr := l.getD i 0
theorem all_of {p : Nat → Bool} {n : Nat} (h : (List.range n).all p = true) {i : Nat} (hi : i < n) : p i = true := List.all_eq_true.mp h i (List.mem_range.mpr hi)
/-- what is looked up of an own class -/
def clsB (K : PySem.W.Frag) (C : Addr) : Bool := PySem.W.plainGet K C Str.empty && (PySem.W.hasDictIn K C && (PySem.W.plainOver K C && (decide (PySem.W.findIn K (.ref C) "__setattr__" = some (some (.builtin "object.__setattr__"))) &&
  (decide (PySem.W.mroIn K C (.type "object") = some true) && (decide (PySem.W.kitOne K (.ref C) (.ref C) = some true) && decide (PySem.W.subIn K (.ref C) (.type "object") = some true))))))
theorem clsB_ok {K : PySem.W.Frag} {C : Addr} (h : clsB K C = true) : Cls K C ∧ PySem.W.mroIn K C (.type "object") = some true ∧ PySem.W.kitOne K (.ref C) (.ref C) = some true ∧ PySem.W.subIn K (.ref C) (.type "object") = some true := by
  unfold clsB at h
  simp only [Bool.and_eq_true, decide_eq_true_eq] at h
  obtain ⟨a, b, c, d, e, f, g⟩ := h
  exact ⟨⟨a, b, c, d⟩, e, f, g⟩
def nfB (K : PySem.W.Frag) (C : Addr) : Bool := ["int", "bool", "NoneType", "str", "tuple", "list", "dict"].all fun n => decide (PySem.W.subIn K (.type n) (.ref C) = some false) && decide (PySem.W.kitOne K (.type n) (.ref C) = some false)
theorem nfB_ok {K : PySem.W.Frag} {C : Addr} (h : nfB K C = true) : ∀ n : String, n ∈ ["int", "bool", "NoneType", "str", "tuple", "list", "dict"] → PySem.W.subIn K (.type n) (.ref C) = some false ∧ PySem.W.kitOne K (.type n) (.ref C) = some false := fun n hn => by
  have z := List.all_eq_true.mp h n hn
  simp only [Bool.and_eq_true, decide_eq_true_eq] at z
  exact z
theorem toR {P : Program} {w : World} {K : PySem.W.Frag} {mg : Str → Option Value} {base : Heap} {CX : CXT} {k : Nat} {f : Addr} {fd : FuncData} {ps : List Str} {sp : Sp} (F : FnOk P w K mg base CX k f fd ps sp) (b : Binds K fd ps []) : FnR P w K mg base CX k f sp :=
  (F.raw b .nil).imp fun vs H Q E h => by rw [List.append_nil]; exact h
theorem all_mk {l : PySem.W.OpenLaw} {w : World} {K : PySem.W.Frag} {h : Heap} {mg : Str → Option Value} {fa aM aR c0 c1 c2 c3 cB f_is_int f_is_int_between f_check_value f_check_side f_is_side f_figure f_goes_up f_handed f_written f_stands f_mirror f_form f_first_mode f_check_sides f_listed f_L_source f_L_draw f_L_pick f_L_great f_L_side f_L_figure f_L_handed f_L_refused f_L_told f_L_due f_L_single_fits f_L_pair_fits f_law cS fS_init fS_data pS fS_call fS_get fS_has fS_eq fS_neg fS_or cZ fZ_init fZ_sides pZ fZ_or : Addr} (X : K.In h) (G : h.Ns mainGlobals mg) (hfa : mg "law" = some (.ref fa))
    {odM od_is_int an_is_int od_is_int_between an_is_int_between od_check_value an_check_value od_check_side an_check_side od_is_side an_is_side od_figure an_figure od_goes_up an_goes_up od_handed an_handed od_written an_written od_stands an_stands od_mirror an_mirror od_form an_form od_first_mode an_first_mode od_check_sides an_check_sides od_listed an_listed od_L_source an_L_source od_L_draw an_L_draw od_L_pick an_L_pick od_L_great an_L_great od_L_side an_L_side od_L_figure an_L_figure od_L_handed an_L_handed od_L_refused an_L_refused od_L_told an_L_told od_L_due an_L_due od_L_single_fits an_L_single_fits od_L_pair_fits an_L_pair_fits od_law an_law odSinit anSinit odSdata anSdata odScall anScall odSget anSget odShas anShas odSeq anSeq odSneg anSneg odSor anSor odZinit anZinit odZsides anZsides odZor anZor : Option Addr} {slM sl_is_int sl_is_int_between sl_check_value sl_check_side sl_is_side sl_figure sl_goes_up sl_handed sl_written sl_stands sl_mirror sl_form sl_first_mode sl_check_sides sl_listed sl_L_source sl_L_draw sl_L_pick sl_L_great sl_L_side sl_L_figure sl_L_handed sl_L_refused sl_L_told sl_L_due sl_L_single_fits sl_L_pair_fits sl_law slSinit slSdata slScall slSget slShas slSeq slSneg slSor slZinit slZsides slZor : Array (Option Value)} {nM nR : Nat} {itsM : Array Value} {esR : Array DictEntry} {tMS tMP : Tok} {rsS rsZ : List Value} {u_down u_up u_half_down u_half_up u_half_even oc_is_int kV_is_int dc_is_int pm_is_int cd_is_int ct_is_int oc_is_int_between kV_is_int_between dc_is_int_between pm_is_int_between cd_is_int_between ct_is_int_between oc_check_value kV_check_value dc_check_value pm_check_value cd_check_value ct_check_value oc_check_side kV_check_side dc_check_side pm_check_side cd_check_side ct_check_side oc_is_side kV_is_side dc_is_side pm_is_side cd_is_side ct_is_side oc_figure kV_figure dc_figure pm_figure cd_figure ct_figure oc_goes_up kV_goes_up dc_goes_up pm_goes_up cd_goes_up ct_goes_up oc_handed kV_handed dc_handed pm_handed cd_handed ct_handed oc_written kV_written dc_written pm_written cd_written ct_written oc_stands kV_stands dc_stands pm_stands cd_stands ct_stands oc_mirror kV_mirror dc_mirror pm_mirror cd_mirror ct_mirror oc_form kV_form dc_form pm_form cd_form ct_form oc_first_mode kV_first_mode dc_first_mode pm_first_mode cd_first_mode ct_first_mode oc_check_sides kV_check_sides dc_check_sides pm_check_sides cd_check_sides ct_check_sides oc_listed kV_listed dc_listed pm_listed cd_listed ct_listed oc_L_source kV_L_source dc_L_source pm_L_source cd_L_source ct_L_source oc_L_draw kV_L_draw dc_L_draw pm_L_draw cd_L_draw ct_L_draw oc_L_pick kV_L_pick dc_L_pick pm_L_pick cd_L_pick ct_L_pick oc_L_great kV_L_great dc_L_great pm_L_great cd_L_great ct_L_great oc_L_side kV_L_side dc_L_side pm_L_side cd_L_side ct_L_side oc_L_figure kV_L_figure dc_L_figure pm_L_figure cd_L_figure ct_L_figure oc_L_handed kV_L_handed dc_L_handed pm_L_handed cd_L_handed ct_L_handed oc_L_refused kV_L_refused dc_L_refused pm_L_refused cd_L_refused ct_L_refused oc_L_told kV_L_told dc_L_told pm_L_told cd_L_told ct_L_told oc_L_due kV_L_due dc_L_due pm_L_due cd_L_due ct_L_due oc_L_single_fits kV_L_single_fits dc_L_single_fits pm_L_single_fits cd_L_single_fits ct_L_single_fits oc_L_pair_fits kV_L_pair_fits dc_L_pair_fits pm_L_pair_fits cd_L_pair_fits ct_L_pair_fits oc_law kV_law dc_law pm_law cd_law ct_law ocSinit kVSinit dcSinit pmSinit cdSinit ctSinit ocSdata kVSdata dcSdata pmSdata cdSdata ctSdata ocScall kVScall dcScall pmScall cdScall ctScall ocSget kVSget dcSget pmSget cdSget ctSget ocShas kVShas dcShas pmShas cdShas ctShas ocSeq kVSeq dcSeq pmSeq cdSeq ctSeq ocSneg kVSneg dcSneg pmSneg cdSneg ctSneg ocSor kVSor dcSor pmSor cdSor ctSor ocZinit kVZinit dcZinit pmZinit cdZinit ctZinit ocZsides kVZsides dcZsides pmZsides cdZsides ctZsides ocZor kVZor dcZor pmZor cdZor ctZor : Value}
    (a_is_int : PySem.W.nsIn K mainGlobals "is_int" = some (some (.ref f_is_int)))
    (l_is_int : K.lookup f_is_int = some ⟨oc_is_int, od_is_int, .func (PySem.W.fnOf "is_int" "is_int" (defArgs s_is_int) (defBody s_is_int) (defScope s_is_int) .none kV_is_int dc_is_int pm_is_int an_is_int cd_is_int ct_is_int), sl_is_int⟩)
    (c_is_int : PySem.W.codeIn K cd_is_int "is_int" = true) (k_is_int : PySem.W.keepIn K (.ref f_is_int) = true)
    (a_is_int_between : PySem.W.nsIn K mainGlobals "is_int_between" = some (some (.ref f_is_int_between)))
    (l_is_int_between : K.lookup f_is_int_between = some ⟨oc_is_int_between, od_is_int_between, .func (PySem.W.fnOf "is_int_between" "is_int_between" (defArgs s_is_int_between) (defBody s_is_int_between) (defScope s_is_int_between) .none kV_is_int_between dc_is_int_between pm_is_int_between an_is_int_between cd_is_int_between ct_is_int_between), sl_is_int_between⟩)
    (c_is_int_between : PySem.W.codeIn K cd_is_int_between "is_int_between" = true) (k_is_int_between : PySem.W.keepIn K (.ref f_is_int_between) = true)
    (a_check_value : PySem.W.nsIn K mainGlobals "check_value" = some (some (.ref f_check_value)))
    (l_check_value : K.lookup f_check_value = some ⟨oc_check_value, od_check_value, .func (PySem.W.fnOf "check_value" "check_value" (defArgs s_check_value) (defBody s_check_value) (defScope s_check_value) .none kV_check_value dc_check_value pm_check_value an_check_value cd_check_value ct_check_value), sl_check_value⟩)
    (c_check_value : PySem.W.codeIn K cd_check_value "check_value" = true) (k_check_value : PySem.W.keepIn K (.ref f_check_value) = true)
    (a_check_side : PySem.W.nsIn K mainGlobals "check_side" = some (some (.ref f_check_side)))
    (l_check_side : K.lookup f_check_side = some ⟨oc_check_side, od_check_side, .func (PySem.W.fnOf "check_side" "check_side" (defArgs s_check_side) (defBody s_check_side) (defScope s_check_side) .none kV_check_side dc_check_side pm_check_side an_check_side cd_check_side ct_check_side), sl_check_side⟩)
    (c_check_side : PySem.W.codeIn K cd_check_side "check_side" = true) (k_check_side : PySem.W.keepIn K (.ref f_check_side) = true)
    (a_is_side : PySem.W.nsIn K mainGlobals "is_side" = some (some (.ref f_is_side)))
    (l_is_side : K.lookup f_is_side = some ⟨oc_is_side, od_is_side, .func (PySem.W.fnOf "is_side" "is_side" (defArgs s_is_side) (defBody s_is_side) (defScope s_is_side) .none kV_is_side dc_is_side pm_is_side an_is_side cd_is_side ct_is_side), sl_is_side⟩)
    (c_is_side : PySem.W.codeIn K cd_is_side "is_side" = true) (k_is_side : PySem.W.keepIn K (.ref f_is_side) = true)
    (a_figure : PySem.W.nsIn K mainGlobals "_figure" = some (some (.ref f_figure)))
    (l_figure : K.lookup f_figure = some ⟨oc_figure, od_figure, .func (PySem.W.fnOf "_figure" "_figure" (defArgs s_figure) (defBody s_figure) (defScope s_figure) .none kV_figure dc_figure pm_figure an_figure cd_figure ct_figure), sl_figure⟩)
    (c_figure : PySem.W.codeIn K cd_figure "_figure" = true) (k_figure : PySem.W.keepIn K (.ref f_figure) = true)
    (a_goes_up : PySem.W.nsIn K mainGlobals "_goes_up" = some (some (.ref f_goes_up)))
    (l_goes_up : K.lookup f_goes_up = some ⟨oc_goes_up, od_goes_up, .func (PySem.W.fnOf "_goes_up" "_goes_up" (defArgs s_goes_up) (defBody s_goes_up) (defScope s_goes_up) .none kV_goes_up dc_goes_up pm_goes_up an_goes_up cd_goes_up ct_goes_up), sl_goes_up⟩)
    (c_goes_up : PySem.W.codeIn K cd_goes_up "_goes_up" = true) (k_goes_up : PySem.W.keepIn K (.ref f_goes_up) = true)
    (a_handed : PySem.W.nsIn K mainGlobals "handed" = some (some (.ref f_handed)))
    (l_handed : K.lookup f_handed = some ⟨oc_handed, od_handed, .func (PySem.W.fnOf "handed" "handed" (defArgs s_handed) (defBody s_handed) (defScope s_handed) .none kV_handed dc_handed pm_handed an_handed cd_handed ct_handed), sl_handed⟩)
    (c_handed : PySem.W.codeIn K cd_handed "handed" = true) (k_handed : PySem.W.keepIn K (.ref f_handed) = true)
    (a_written : PySem.W.nsIn K mainGlobals "written" = some (some (.ref f_written)))
    (l_written : K.lookup f_written = some ⟨oc_written, od_written, .func (PySem.W.fnOf "written" "written" (defArgs s_written) (defBody s_written) (defScope s_written) .none kV_written dc_written pm_written an_written cd_written ct_written), sl_written⟩)
    (c_written : PySem.W.codeIn K cd_written "written" = true) (k_written : PySem.W.keepIn K (.ref f_written) = true)
    (a_stands : PySem.W.nsIn K mainGlobals "stands" = some (some (.ref f_stands)))
    (l_stands : K.lookup f_stands = some ⟨oc_stands, od_stands, .func (PySem.W.fnOf "stands" "stands" (defArgs s_stands) (defBody s_stands) (defScope s_stands) .none kV_stands dc_stands pm_stands an_stands cd_stands ct_stands), sl_stands⟩)
    (c_stands : PySem.W.codeIn K cd_stands "stands" = true) (k_stands : PySem.W.keepIn K (.ref f_stands) = true)
    (a_mirror : PySem.W.nsIn K mainGlobals "mirror" = some (some (.ref f_mirror)))
    (l_mirror : K.lookup f_mirror = some ⟨oc_mirror, od_mirror, .func (PySem.W.fnOf "mirror" "mirror" (defArgs s_mirror) (defBody s_mirror) (defScope s_mirror) .none kV_mirror dc_mirror pm_mirror an_mirror cd_mirror ct_mirror), sl_mirror⟩)
    (c_mirror : PySem.W.codeIn K cd_mirror "mirror" = true) (k_mirror : PySem.W.keepIn K (.ref f_mirror) = true)
    (a_form : PySem.W.nsIn K mainGlobals "form" = some (some (.ref f_form)))
    (l_form : K.lookup f_form = some ⟨oc_form, od_form, .func (PySem.W.fnOf "form" "form" (defArgs s_form) (defBody s_form) (defScope s_form) .none kV_form dc_form pm_form an_form cd_form ct_form), sl_form⟩)
    (c_form : PySem.W.codeIn K cd_form "form" = true) (k_form : PySem.W.keepIn K (.ref f_form) = true)
    (a_first_mode : PySem.W.nsIn K mainGlobals "_first_mode" = some (some (.ref f_first_mode)))
    (l_first_mode : K.lookup f_first_mode = some ⟨oc_first_mode, od_first_mode, .func (PySem.W.fnOf "_first_mode" "_first_mode" (defArgs s_first_mode) (defBody s_first_mode) (defScope s_first_mode) .none kV_first_mode dc_first_mode pm_first_mode an_first_mode cd_first_mode ct_first_mode), sl_first_mode⟩)
    (c_first_mode : PySem.W.codeIn K cd_first_mode "_first_mode" = true) (k_first_mode : PySem.W.keepIn K (.ref f_first_mode) = true)
    (a_check_sides : PySem.W.nsIn K mainGlobals "check_sides" = some (some (.ref f_check_sides)))
    (l_check_sides : K.lookup f_check_sides = some ⟨oc_check_sides, od_check_sides, .func (PySem.W.fnOf "check_sides" "check_sides" (defArgs s_check_sides) (defBody s_check_sides) (defScope s_check_sides) .none kV_check_sides dc_check_sides pm_check_sides an_check_sides cd_check_sides ct_check_sides), sl_check_sides⟩)
    (c_check_sides : PySem.W.codeIn K cd_check_sides "check_sides" = true) (k_check_sides : PySem.W.keepIn K (.ref f_check_sides) = true)
    (a_listed : PySem.W.nsIn K mainGlobals "_listed" = some (some (.ref f_listed)))
    (l_listed : K.lookup f_listed = some ⟨oc_listed, od_listed, .func (PySem.W.fnOf "_listed" "_listed" (defArgs s_listed) (defBody s_listed) (defScope s_listed) .none kV_listed dc_listed pm_listed an_listed cd_listed ct_listed), sl_listed⟩)
    (c_listed : PySem.W.codeIn K cd_listed "_listed" = true) (k_listed : PySem.W.keepIn K (.ref f_listed) = true)
    (a_L_source : PySem.W.nsIn K mainGlobals "_law_source" = some (some (.ref f_L_source)))
    (l_L_source : K.lookup f_L_source = some ⟨oc_L_source, od_L_source, .func (PySem.W.fnOf "_law_source" "_law_source" (defArgs s_L_source) (defBody s_L_source) (defScope s_L_source) .none kV_L_source dc_L_source pm_L_source an_L_source cd_L_source ct_L_source), sl_L_source⟩)
    (c_L_source : PySem.W.codeIn K cd_L_source "_law_source" = true) (k_L_source : PySem.W.keepIn K (.ref f_L_source) = true)
    (a_L_draw : PySem.W.nsIn K mainGlobals "_law_draw" = some (some (.ref f_L_draw)))
    (l_L_draw : K.lookup f_L_draw = some ⟨oc_L_draw, od_L_draw, .func (PySem.W.fnOf "_law_draw" "_law_draw" (defArgs s_L_draw) (defBody s_L_draw) (defScope s_L_draw) .none kV_L_draw dc_L_draw pm_L_draw an_L_draw cd_L_draw ct_L_draw), sl_L_draw⟩)
    (c_L_draw : PySem.W.codeIn K cd_L_draw "_law_draw" = true) (k_L_draw : PySem.W.keepIn K (.ref f_L_draw) = true)
    (a_L_pick : PySem.W.nsIn K mainGlobals "_law_pick" = some (some (.ref f_L_pick)))
    (l_L_pick : K.lookup f_L_pick = some ⟨oc_L_pick, od_L_pick, .func (PySem.W.fnOf "_law_pick" "_law_pick" (defArgs s_L_pick) (defBody s_L_pick) (defScope s_L_pick) .none kV_L_pick dc_L_pick pm_L_pick an_L_pick cd_L_pick ct_L_pick), sl_L_pick⟩)
    (c_L_pick : PySem.W.codeIn K cd_L_pick "_law_pick" = true) (k_L_pick : PySem.W.keepIn K (.ref f_L_pick) = true)
    (a_L_great : PySem.W.nsIn K mainGlobals "_law_great" = some (some (.ref f_L_great)))
    (l_L_great : K.lookup f_L_great = some ⟨oc_L_great, od_L_great, .func (PySem.W.fnOf "_law_great" "_law_great" (defArgs s_L_great) (defBody s_L_great) (defScope s_L_great) .none kV_L_great dc_L_great pm_L_great an_L_great cd_L_great ct_L_great), sl_L_great⟩)
    (c_L_great : PySem.W.codeIn K cd_L_great "_law_great" = true) (k_L_great : PySem.W.keepIn K (.ref f_L_great) = true)
    (a_L_side : PySem.W.nsIn K mainGlobals "_law_side" = some (some (.ref f_L_side)))
    (l_L_side : K.lookup f_L_side = some ⟨oc_L_side, od_L_side, .func (PySem.W.fnOf "_law_side" "_law_side" (defArgs s_L_side) (defBody s_L_side) (defScope s_L_side) .none kV_L_side dc_L_side pm_L_side an_L_side cd_L_side ct_L_side), sl_L_side⟩)
    (c_L_side : PySem.W.codeIn K cd_L_side "_law_side" = true) (k_L_side : PySem.W.keepIn K (.ref f_L_side) = true)
    (a_L_figure : PySem.W.nsIn K mainGlobals "_law_figure" = some (some (.ref f_L_figure)))
    (l_L_figure : K.lookup f_L_figure = some ⟨oc_L_figure, od_L_figure, .func (PySem.W.fnOf "_law_figure" "_law_figure" (defArgs s_L_figure) (defBody s_L_figure) (defScope s_L_figure) .none kV_L_figure dc_L_figure pm_L_figure an_L_figure cd_L_figure ct_L_figure), sl_L_figure⟩)
    (c_L_figure : PySem.W.codeIn K cd_L_figure "_law_figure" = true) (k_L_figure : PySem.W.keepIn K (.ref f_L_figure) = true)
    (a_L_handed : PySem.W.nsIn K mainGlobals "_law_handed" = some (some (.ref f_L_handed)))
    (l_L_handed : K.lookup f_L_handed = some ⟨oc_L_handed, od_L_handed, .func (PySem.W.fnOf "_law_handed" "_law_handed" (defArgs s_L_handed) (defBody s_L_handed) (defScope s_L_handed) .none kV_L_handed dc_L_handed pm_L_handed an_L_handed cd_L_handed ct_L_handed), sl_L_handed⟩)
    (c_L_handed : PySem.W.codeIn K cd_L_handed "_law_handed" = true) (k_L_handed : PySem.W.keepIn K (.ref f_L_handed) = true)
    (a_L_refused : PySem.W.nsIn K mainGlobals "_law_refused" = some (some (.ref f_L_refused)))
    (l_L_refused : K.lookup f_L_refused = some ⟨oc_L_refused, od_L_refused, .func (PySem.W.fnOf "_law_refused" "_law_refused" (defArgs s_L_refused) (defBody s_L_refused) (defScope s_L_refused) .none kV_L_refused dc_L_refused pm_L_refused an_L_refused cd_L_refused ct_L_refused), sl_L_refused⟩)
    (c_L_refused : PySem.W.codeIn K cd_L_refused "_law_refused" = true) (k_L_refused : PySem.W.keepIn K (.ref f_L_refused) = true)
    (a_L_told : PySem.W.nsIn K mainGlobals "_law_told" = some (some (.ref f_L_told)))
    (l_L_told : K.lookup f_L_told = some ⟨oc_L_told, od_L_told, .func (PySem.W.fnOf "_law_told" "_law_told" (defArgs s_L_told) (defBody s_L_told) (defScope s_L_told) .none kV_L_told dc_L_told pm_L_told an_L_told cd_L_told ct_L_told), sl_L_told⟩)
    (c_L_told : PySem.W.codeIn K cd_L_told "_law_told" = true) (k_L_told : PySem.W.keepIn K (.ref f_L_told) = true)
    (a_L_due : PySem.W.nsIn K mainGlobals "_law_due" = some (some (.ref f_L_due)))
    (l_L_due : K.lookup f_L_due = some ⟨oc_L_due, od_L_due, .func (PySem.W.fnOf "_law_due" "_law_due" (defArgs s_L_due) (defBody s_L_due) (defScope s_L_due) .none kV_L_due dc_L_due pm_L_due an_L_due cd_L_due ct_L_due), sl_L_due⟩)
    (c_L_due : PySem.W.codeIn K cd_L_due "_law_due" = true) (k_L_due : PySem.W.keepIn K (.ref f_L_due) = true)
    (a_L_single_fits : PySem.W.nsIn K mainGlobals "_law_single_fits" = some (some (.ref f_L_single_fits)))
    (l_L_single_fits : K.lookup f_L_single_fits = some ⟨oc_L_single_fits, od_L_single_fits, .func (PySem.W.fnOf "_law_single_fits" "_law_single_fits" (defArgs s_L_single_fits) (defBody s_L_single_fits) (defScope s_L_single_fits) .none kV_L_single_fits dc_L_single_fits pm_L_single_fits an_L_single_fits cd_L_single_fits ct_L_single_fits), sl_L_single_fits⟩)
    (c_L_single_fits : PySem.W.codeIn K cd_L_single_fits "_law_single_fits" = true) (k_L_single_fits : PySem.W.keepIn K (.ref f_L_single_fits) = true)
    (a_L_pair_fits : PySem.W.nsIn K mainGlobals "_law_pair_fits" = some (some (.ref f_L_pair_fits)))
    (l_L_pair_fits : K.lookup f_L_pair_fits = some ⟨oc_L_pair_fits, od_L_pair_fits, .func (PySem.W.fnOf "_law_pair_fits" "_law_pair_fits" (defArgs s_L_pair_fits) (defBody s_L_pair_fits) (defScope s_L_pair_fits) .none kV_L_pair_fits dc_L_pair_fits pm_L_pair_fits an_L_pair_fits cd_L_pair_fits ct_L_pair_fits), sl_L_pair_fits⟩)
    (c_L_pair_fits : PySem.W.codeIn K cd_L_pair_fits "_law_pair_fits" = true) (k_L_pair_fits : PySem.W.keepIn K (.ref f_L_pair_fits) = true)
    (a_law : PySem.W.nsIn K mainGlobals "law" = some (some (.ref f_law)))
    (l_law : K.lookup f_law = some ⟨oc_law, od_law, .func (PySem.W.fnOf "law" "law" (defArgs s_law) (defBody s_law) (defScope s_law) .none kV_law dc_law pm_law an_law cd_law ct_law), sl_law⟩)
    (c_law : PySem.W.codeIn K cd_law "law" = true) (k_law : PySem.W.keepIn K (.ref f_law) = true)
    (z_len : PySem.W.nsIn K mainGlobals "len" = some none)
    (z_abs : PySem.W.nsIn K mainGlobals "abs" = some none)
    (z_int : PySem.W.nsIn K mainGlobals "int" = some none)
    (z_range : PySem.W.nsIn K mainGlobals "range" = some none)
    (z_isinstance : PySem.W.nsIn K mainGlobals "isinstance" = some none)
    (z_bool : PySem.W.nsIn K mainGlobals "bool" = some none)
    (z_tuple : PySem.W.nsIn K mainGlobals "tuple" = some none)
    (z_divmod : PySem.W.nsIn K mainGlobals "divmod" = some none)
    (z_list : PySem.W.nsIn K mainGlobals "list" = some none)
    (z_sorted : PySem.W.nsIn K mainGlobals "sorted" = some none)
    (z_set : PySem.W.nsIn K mainGlobals "set" = some none)
    (z_ValueError : PySem.W.nsIn K mainGlobals "ValueError" = some none)
    (g_0 : PySem.W.nsIn K mainGlobals "InvalidSide" = some (some (.ref c0)))
    (g_1 : PySem.W.nsIn K mainGlobals "InvalidSides" = some (some (.ref c1)))
    (g_2 : PySem.W.nsIn K mainGlobals "TooMany" = some (some (.ref c2)))
    (g_3 : PySem.W.nsIn K mainGlobals "InvalidValue" = some (some (.ref c3)))
    (g_B : PySem.W.nsIn K mainGlobals "HandedError" = some (some (.ref cB)))
    (et_0 : erT K (cAt [c0, c1, c2, c3]) cB 0 = true)
    (et_1 : erT K (cAt [c0, c1, c2, c3]) cB 1 = true)
    (et_2 : erT K (cAt [c0, c1, c2, c3]) cB 2 = true)
    (et_3 : erT K (cAt [c0, c1, c2, c3]) cB 3 = true)
    (em_0 : PySem.W.exmOne K (.ref c0) (.ref c0) = some true)
    (em_3 : PySem.W.exmOne K (.ref c3) (.ref c3) = some true)
    (gsp : PySem.W.specialIn K (.builtin "object.__class__") "__get__" = some (some (.builtin "getset_descriptor.__get__")))
    (gtk : PySem.W.takesIn K (.builtin "object.__class__") = some true)
    (a_MS : PySem.W.nsIn K mainGlobals "MOST_SIDES" = some (some (.int 4 tMS)))
    (a_MODES : PySem.W.nsIn K mainGlobals "MODES" = some (some (.ref aM)))
    (l_MODES : K.lookup aM = some ⟨.type "tuple", odM, .seq itsM nM, slM⟩)
    (v_MODES : itsM.size ≤ sizeLine ∧ Vals modesV itsM.toList)
    (a_MIR : PySem.W.nsIn K mainGlobals "MIRRORED" = some (some (.ref aR)))
    (l_MIR : K.lookup aR = some ⟨.type "dict", none, .dict esR nR, #[]⟩)
    (h_MIR : PySem.W.KeysLit w.params esR.toList)
    (d_down : PySem.W.nsIn K aR "down" = some (some u_down)) (r_down : RelV (.str "up") u_down)
    (d_up : PySem.W.nsIn K aR "up" = some (some u_up)) (r_up : RelV (.str "down") u_up)
    (d_half_down : PySem.W.nsIn K aR "half_down" = some (some u_half_down)) (r_half_down : RelV (.str "half_up") u_half_down)
    (d_half_up : PySem.W.nsIn K aR "half_up" = some (some u_half_up)) (r_half_up : RelV (.str "half_down") u_half_up)
    (d_half_even : PySem.W.nsIn K aR "half_even" = some (some u_half_even)) (r_half_even : RelV (.str "half_even") u_half_even)
    (a_MP : PySem.W.nsIn K mainGlobals "MOST_PERIOD" = some (some (.int 100000 tMP)))
    (a_lcm : PySem.W.nsIn K mainGlobals "lcm" = some (some (.builtin "math.lcm")))
    (a_Side : PySem.W.nsIn K mainGlobals "Side" = some (some (.ref cS)))
    (cb_S : clsB K cS = true)
    (mk_S : PySem.W.makesIn K cS = true)
    (kp_S : PySem.W.keepIn K (.ref cS) = true)
    (at_S_init : PySem.W.findIn K (.ref cS) "__init__" = some (some (.ref fS_init)))
    (fn_S_init : PySem.W.isFn K (.ref fS_init) = true)
    (l_S_init : K.lookup fS_init = some ⟨ocSinit, odSinit, .func (PySem.W.fnOf "__init__" "Side.__init__" (defArgs s_S_init) (defBody s_S_init) (defScope s_S_init) .none kVSinit dcSinit pmSinit anSinit cdSinit ctSinit), slSinit⟩)
    (c_S_init : PySem.W.codeIn K cdSinit "Side.__init__" = true)
    (k_S_init : PySem.W.keepIn K (.ref fS_init) = true)
    (at_S_data : PySem.W.findIn K (.ref cS) "data" = some (some (.ref pS)))
    (pg_S : PySem.W.specialIn K (.ref pS) "__get__" = some (some (.builtin "property.__get__")))
    (pt_S : PySem.W.takesIn K (.ref pS) = some true)
    (pr_S : PySem.W.recIn K pS "property" = some (.ref fS_data :: rsS))
    (fn_S_data : PySem.W.isFn K (.ref fS_data) = true)
    (l_S_data : K.lookup fS_data = some ⟨ocSdata, odSdata, .func (PySem.W.fnOf "data" "Side.data" (defArgs s_S_data) (defBody s_S_data) (defScope s_S_data) .none kVSdata dcSdata pmSdata anSdata cdSdata ctSdata), slSdata⟩)
    (c_S_data : PySem.W.codeIn K cdSdata "Side.data" = true)
    (k_S_data : PySem.W.keepIn K (.ref fS_data) = true)
    (at_S_call : PySem.W.findIn K (.ref cS) "__call__" = some (some (.ref fS_call)))
    (fn_S_call : PySem.W.isFn K (.ref fS_call) = true)
    (l_S_call : K.lookup fS_call = some ⟨ocScall, odScall, .func (PySem.W.fnOf "__call__" "Side.__call__" (defArgs s_S_call) (defBody s_S_call) (defScope s_S_call) .none kVScall dcScall pmScall anScall cdScall ctScall), slScall⟩)
    (c_S_call : PySem.W.codeIn K cdScall "Side.__call__" = true)
    (k_S_call : PySem.W.keepIn K (.ref fS_call) = true)
    (at_S_get : PySem.W.findIn K (.ref cS) "__getitem__" = some (some (.ref fS_get)))
    (fn_S_get : PySem.W.isFn K (.ref fS_get) = true)
    (l_S_get : K.lookup fS_get = some ⟨ocSget, odSget, .func (PySem.W.fnOf "__getitem__" "Side.__getitem__" (defArgs s_S_get) (defBody s_S_get) (defScope s_S_get) .none kVSget dcSget pmSget anSget cdSget ctSget), slSget⟩)
    (c_S_get : PySem.W.codeIn K cdSget "Side.__getitem__" = true)
    (k_S_get : PySem.W.keepIn K (.ref fS_get) = true)
    (at_S_has : PySem.W.findIn K (.ref cS) "__contains__" = some (some (.ref fS_has)))
    (fn_S_has : PySem.W.isFn K (.ref fS_has) = true)
    (l_S_has : K.lookup fS_has = some ⟨ocShas, odShas, .func (PySem.W.fnOf "__contains__" "Side.__contains__" (defArgs s_S_has) (defBody s_S_has) (defScope s_S_has) .none kVShas dcShas pmShas anShas cdShas ctShas), slShas⟩)
    (c_S_has : PySem.W.codeIn K cdShas "Side.__contains__" = true)
    (k_S_has : PySem.W.keepIn K (.ref fS_has) = true)
    (at_S_eq : PySem.W.findIn K (.ref cS) "__eq__" = some (some (.ref fS_eq)))
    (fn_S_eq : PySem.W.isFn K (.ref fS_eq) = true)
    (l_S_eq : K.lookup fS_eq = some ⟨ocSeq, odSeq, .func (PySem.W.fnOf "__eq__" "Side.__eq__" (defArgs s_S_eq) (defBody s_S_eq) (defScope s_S_eq) .none kVSeq dcSeq pmSeq anSeq cdSeq ctSeq), slSeq⟩)
    (c_S_eq : PySem.W.codeIn K cdSeq "Side.__eq__" = true)
    (k_S_eq : PySem.W.keepIn K (.ref fS_eq) = true)
    (at_S_neg : PySem.W.findIn K (.ref cS) "__neg__" = some (some (.ref fS_neg)))
    (fn_S_neg : PySem.W.isFn K (.ref fS_neg) = true)
    (l_S_neg : K.lookup fS_neg = some ⟨ocSneg, odSneg, .func (PySem.W.fnOf "__neg__" "Side.__neg__" (defArgs s_S_neg) (defBody s_S_neg) (defScope s_S_neg) .none kVSneg dcSneg pmSneg anSneg cdSneg ctSneg), slSneg⟩)
    (c_S_neg : PySem.W.codeIn K cdSneg "Side.__neg__" = true)
    (k_S_neg : PySem.W.keepIn K (.ref fS_neg) = true)
    (at_S_or : PySem.W.findIn K (.ref cS) "__or__" = some (some (.ref fS_or)))
    (fn_S_or : PySem.W.isFn K (.ref fS_or) = true)
    (l_S_or : K.lookup fS_or = some ⟨ocSor, odSor, .func (PySem.W.fnOf "__or__" "Side.__or__" (defArgs s_S_or) (defBody s_S_or) (defScope s_S_or) .none kVSor dcSor pmSor anSor cdSor ctSor), slSor⟩)
    (c_S_or : PySem.W.codeIn K cdSor "Side.__or__" = true)
    (k_S_or : PySem.W.keepIn K (.ref fS_or) = true)
    (a_Sides : PySem.W.nsIn K mainGlobals "Sides" = some (some (.ref cZ)))
    (cb_Z : clsB K cZ = true)
    (mk_Z : PySem.W.makesIn K cZ = true)
    (kp_Z : PySem.W.keepIn K (.ref cZ) = true)
    (at_Z_init : PySem.W.findIn K (.ref cZ) "__init__" = some (some (.ref fZ_init)))
    (fn_Z_init : PySem.W.isFn K (.ref fZ_init) = true)
    (l_Z_init : K.lookup fZ_init = some ⟨ocZinit, odZinit, .func (PySem.W.fnOf "__init__" "Sides.__init__" (defArgs s_Z_init) (defBody s_Z_init) (defScope s_Z_init) .none kVZinit dcZinit pmZinit anZinit cdZinit ctZinit), slZinit⟩)
    (c_Z_init : PySem.W.codeIn K cdZinit "Sides.__init__" = true)
    (k_Z_init : PySem.W.keepIn K (.ref fZ_init) = true)
    (at_Z_sides : PySem.W.findIn K (.ref cZ) "sides" = some (some (.ref pZ)))
    (pg_Z : PySem.W.specialIn K (.ref pZ) "__get__" = some (some (.builtin "property.__get__")))
    (pt_Z : PySem.W.takesIn K (.ref pZ) = some true)
    (pr_Z : PySem.W.recIn K pZ "property" = some (.ref fZ_sides :: rsZ))
    (fn_Z_sides : PySem.W.isFn K (.ref fZ_sides) = true)
    (l_Z_sides : K.lookup fZ_sides = some ⟨ocZsides, odZsides, .func (PySem.W.fnOf "sides" "Sides.sides" (defArgs s_Z_sides) (defBody s_Z_sides) (defScope s_Z_sides) .none kVZsides dcZsides pmZsides anZsides cdZsides ctZsides), slZsides⟩)
    (c_Z_sides : PySem.W.codeIn K cdZsides "Sides.sides" = true)
    (k_Z_sides : PySem.W.keepIn K (.ref fZ_sides) = true)
    (at_Z_or : PySem.W.findIn K (.ref cZ) "__or__" = some (some (.ref fZ_or)))
    (fn_Z_or : PySem.W.isFn K (.ref fZ_or) = true)
    (l_Z_or : K.lookup fZ_or = some ⟨ocZor, odZor, .func (PySem.W.fnOf "__or__" "Sides.__or__" (defArgs s_Z_or) (defBody s_Z_or) (defScope s_Z_or) .none kVZor dcZor pmZor anZor cdZor ctZor), slZor⟩)
    (c_Z_or : PySem.W.codeIn K cdZor "Sides.__or__" = true)
    (k_Z_or : PySem.W.keepIn K (.ref fZ_or) = true)
    (na_data : PySem.W.findIn K (.ref cS) "_data" = some none)
    (na_form : PySem.W.findIn K (.ref cS) "_form" = some none)
    (na_sides : PySem.W.findIn K (.ref cZ) "_sides" = some none)
    (na_forms : PySem.W.findIn K (.ref cZ) "_forms" = some none)
    (ca_S : PySem.W.findIn K (.ref cS) "__class__" = some (some (.builtin "object.__class__")))
    (ca_Z : PySem.W.findIn K (.ref cZ) "__class__" = some (some (.builtin "object.__class__")))
    (kZS : PySem.W.kitOne K (.ref cZ) (.ref cS) = some false)
    (ne_S : PySem.W.findIn K (.ref cS) "__ne__" = some (some (.builtin "object.__ne__")))
    (gi_S : PySem.W.fnIn K fS_get = true)
    (ci_S : PySem.W.fnIn K fS_call = true)
    (hne : decide (cS ≠ cZ) = true)
    (nf_S : nfB K cS = true)
    (sfS : PySem.W.selfFirst K cS = true)
    (sfZ : PySem.W.selfFirst K cZ = true)
    (roS : PySem.W.findIn K (.ref cS) "__ror__" = some none)
    (roZ : PySem.W.findIn K (.ref cZ) "__ror__" = some none)
    (sSZ : PySem.W.subIn K (.ref cS) (.ref cZ) = some false)
    (sZS : PySem.W.subIn K (.ref cZ) (.ref cS) = some false) :
    ∃ fd : FuncData, (∀ (s : Shared) (v : Value), BindsTo s fd ⟨[v], []⟩ [("_law_script", v)]) ∧ ∀ base : Heap, K.In base → base.Ns mainGlobals mg → FnOk l.prog w K mg base CX0 11 fa fd ["_law_script"] (spLaw K) := by
  have e := hfa.symm.trans (PySem.W.mg_of X G a_law)
  cases e
  have F_is_int := fun_mk (st := s_is_int) l_is_int c_is_int k_is_int
  have b_is_int := F_is_int.binds (ps := ["thing"]) fun _ _ _ _ _ _ us hl => match us, hl with | [_], _ => rfl
  have m_is_int := PySem.W.mg_of X G a_is_int
  have F_is_int_between := fun_mk (st := s_is_int_between) l_is_int_between c_is_int_between k_is_int_between
  have b_is_int_between := F_is_int_between.binds (ps := ["thing", "least", "most"]) fun _ _ _ _ _ _ us hl => match us, hl with | [_, _, _], _ => rfl
  have m_is_int_between := PySem.W.mg_of X G a_is_int_between
  have F_check_value := fun_mk (st := s_check_value) l_check_value c_check_value k_check_value
  have b_check_value := F_check_value.binds (ps := ["value"]) fun _ _ _ _ _ _ us hl => match us, hl with | [_], _ => rfl
  have m_check_value := PySem.W.mg_of X G a_check_value
  have F_check_side := fun_mk (st := s_check_side) l_check_side c_check_side k_check_side
  have b_check_side := F_check_side.binds (ps := ["side"]) fun _ _ _ _ _ _ us hl => match us, hl with | [_], _ => rfl
  have m_check_side := PySem.W.mg_of X G a_check_side
  have F_is_side := fun_mk (st := s_is_side) l_is_side c_is_side k_is_side
  have b_is_side := F_is_side.binds (ps := ["thing"]) fun _ _ _ _ _ _ us hl => match us, hl with | [_], _ => rfl
  have m_is_side := PySem.W.mg_of X G a_is_side
  have F_figure := fun_mk (st := s_figure) l_figure c_figure k_figure
  have b_figure := F_figure.binds (ps := ["side", "value"]) fun _ _ _ _ _ _ us hl => match us, hl with | [_, _], _ => rfl
  have m_figure := PySem.W.mg_of X G a_figure
  have F_goes_up := fun_mk (st := s_goes_up) l_goes_up c_goes_up k_goes_up
  have b_goes_up := F_goes_up.binds (ps := ["mode", "step", "figure", "rest"]) fun _ _ _ _ _ _ us hl => match us, hl with | [_, _, _, _], _ => rfl
  have m_goes_up := PySem.W.mg_of X G a_goes_up
  have F_handed := fun_mk (st := s_handed) l_handed c_handed k_handed
  have b_handed := F_handed.binds (ps := ["side", "value"]) fun _ _ _ _ _ _ us hl => match us, hl with | [_, _], _ => rfl
  have m_handed := PySem.W.mg_of X G a_handed
  have F_written := fun_mk (st := s_written) l_written c_written k_written
  have b_written := F_written.binds (ps := ["side", "value"]) fun _ _ _ _ _ _ us hl => match us, hl with | [_, _], _ => rfl
  have m_written := PySem.W.mg_of X G a_written
  have F_stands := fun_mk (st := s_stands) l_stands c_stands k_stands
  have b_stands := F_stands.binds (ps := ["side", "value"]) fun _ _ _ _ _ _ us hl => match us, hl with | [_, _], _ => rfl
  have m_stands := PySem.W.mg_of X G a_stands
  have F_mirror := fun_mk (st := s_mirror) l_mirror c_mirror k_mirror
  have b_mirror := F_mirror.binds (ps := ["side"]) fun _ _ _ _ _ _ us hl => match us, hl with | [_], _ => rfl
  have m_mirror := PySem.W.mg_of X G a_mirror
  have F_form := fun_mk (st := s_form) l_form c_form k_form
  have b_form := F_form.binds (ps := ["side"]) fun _ _ _ _ _ _ us hl => match us, hl with | [_], _ => rfl
  have m_form := PySem.W.mg_of X G a_form
  have F_first_mode := fun_mk (st := s_first_mode) l_first_mode c_first_mode k_first_mode
  have b_first_mode := F_first_mode.binds (ps := ["step", "mode"]) fun _ _ _ _ _ _ us hl => match us, hl with | [_, _], _ => rfl
  have m_first_mode := PySem.W.mg_of X G a_first_mode
  have F_check_sides := fun_mk (st := s_check_sides) l_check_sides c_check_sides k_check_sides
  have b_check_sides := F_check_sides.binds (ps := ["sides"]) fun _ _ _ _ _ _ us hl => match us, hl with | [_], _ => rfl
  have m_check_sides := PySem.W.mg_of X G a_check_sides
  have F_listed := fun_mk (st := s_listed) l_listed c_listed k_listed
  have b_listed := F_listed.binds (ps := ["thing"]) fun _ _ _ _ _ _ us hl => match us, hl with | [_], _ => rfl
  have m_listed := PySem.W.mg_of X G a_listed
  have F_L_source := fun_mk (st := s_L_source) l_L_source c_L_source k_L_source
  have b_L_source := F_L_source.binds (ps := ["_law_script"]) fun _ _ _ _ _ _ us hl => match us, hl with | [_], _ => rfl
  have m_L_source := PySem.W.mg_of X G a_L_source
  have F_L_draw := fun_mk (st := s_L_draw) l_L_draw c_L_draw k_L_draw
  have b_L_draw := F_L_draw.binds (ps := ["_law_source_here", "_law_limit"]) fun _ _ _ _ _ _ us hl => match us, hl with | [_, _], _ => rfl
  have m_L_draw := PySem.W.mg_of X G a_L_draw
  have F_L_pick := fun_mk (st := s_L_pick) l_L_pick c_L_pick k_L_pick
  have b_L_pick := F_L_pick.binds (ps := ["_law_source_here", "_law_values"]) fun _ _ _ _ _ _ us hl => match us, hl with | [_, _], _ => rfl
  have m_L_pick := PySem.W.mg_of X G a_L_pick
  have F_L_great := fun_mk (st := s_L_great) l_L_great c_L_great k_L_great
  have b_L_great := F_L_great.binds (ps := ["_law_source_here", "_law_digits"]) fun _ _ _ _ _ _ us hl => match us, hl with | [_, _], _ => rfl
  have m_L_great := PySem.W.mg_of X G a_L_great
  have F_L_side := fun_mk (st := s_L_side) l_L_side c_L_side k_L_side
  have b_L_side := F_L_side.binds (ps := ["_law_source_here", "_law_digits"]) fun _ _ _ _ _ _ us hl => match us, hl with | [_, _], _ => rfl
  have m_L_side := PySem.W.mg_of X G a_L_side
  have F_L_figure := fun_mk (st := s_L_figure) l_L_figure c_L_figure k_L_figure
  have b_L_figure := F_L_figure.binds (ps := ["_law_side_here", "_law_value"]) fun _ _ _ _ _ _ us hl => match us, hl with | [_, _], _ => rfl
  have m_L_figure := PySem.W.mg_of X G a_L_figure
  have F_L_handed := fun_mk (st := s_L_handed) l_L_handed c_L_handed k_L_handed
  have b_L_handed := F_L_handed.binds (ps := ["_law_side_here", "_law_value"]) fun _ _ _ _ _ _ us hl => match us, hl with | [_, _], _ => rfl
  have m_L_handed := PySem.W.mg_of X G a_L_handed
  have F_L_refused := fun_mk (st := s_L_refused) l_L_refused c_L_refused k_L_refused
  have b_L_refused := F_L_refused.binds (ps := ["_law_kind", "_law_one", "_law_value"]) fun _ _ _ _ _ _ us hl => match us, hl with | [_, _, _], _ => rfl
  have m_L_refused := PySem.W.mg_of X G a_L_refused
  have F_L_told := fun_mk (st := s_L_told) l_L_told c_L_told k_L_told
  have b_L_told := F_L_told.binds (ps := ["_law_one", "_law_values"]) fun _ _ _ _ _ _ us hl => match us, hl with | [_, _], _ => rfl
  have m_L_told := PySem.W.mg_of X G a_L_told
  have F_L_due := fun_mk (st := s_L_due) l_L_due c_L_due k_L_due
  have b_L_due := F_L_due.binds (ps := ["_law_data", "_law_values"]) fun _ _ _ _ _ _ us hl => match us, hl with | [_, _], _ => rfl
  have m_L_due := PySem.W.mg_of X G a_L_due
  have F_L_single_fits := fun_mk (st := s_L_single_fits) l_L_single_fits c_L_single_fits k_L_single_fits
  have b_L_single_fits := F_L_single_fits.binds (ps := ["_law_data", "_law_values"]) fun _ _ _ _ _ _ us hl => match us, hl with | [_, _], _ => rfl
  have m_L_single_fits := PySem.W.mg_of X G a_L_single_fits
  have F_L_pair_fits := fun_mk (st := s_L_pair_fits) l_L_pair_fits c_L_pair_fits k_L_pair_fits
  have b_L_pair_fits := F_L_pair_fits.binds (ps := ["_law_one", "_law_other", "_law_third"]) fun _ _ _ _ _ _ us hl => match us, hl with | [_, _, _], _ => rfl
  have m_L_pair_fits := PySem.W.mg_of X G a_L_pair_fits
  have F_law := fun_mk (st := s_law) l_law c_law k_law
  have b_law := F_law.binds (ps := ["_law_script"]) fun _ _ _ _ _ _ us hl => match us, hl with | [_], _ => rfl
  have m_law := PySem.W.mg_of X G a_law
  have n_len := PySem.W.mg_none_of X G z_len
  have n_abs := PySem.W.mg_none_of X G z_abs
  have n_int := PySem.W.mg_none_of X G z_int
  have n_range := PySem.W.mg_none_of X G z_range
  have n_isinstance := PySem.W.mg_none_of X G z_isinstance
  have n_bool := PySem.W.mg_none_of X G z_bool
  have n_tuple := PySem.W.mg_none_of X G z_tuple
  have n_divmod := PySem.W.mg_none_of X G z_divmod
  have n_list := PySem.W.mg_none_of X G z_list
  have n_sorted := PySem.W.mg_none_of X G z_sorted
  have n_set := PySem.W.mg_none_of X G z_set
  have n_ValueError := PySem.W.mg_none_of X G z_ValueError
  have F_S_init := fun_mk (st := s_S_init) l_S_init c_S_init k_S_init
  have b_S_init := F_S_init.binds (ps := ["self", "data"]) fun _ _ _ _ _ _ us hl => match us, hl with | [_, _], _ => rfl
  have F_S_data := fun_mk (st := s_S_data) l_S_data c_S_data k_S_data
  have b_S_data := F_S_data.binds (ps := ["self"]) fun _ _ _ _ _ _ us hl => match us, hl with | [_], _ => rfl
  have F_S_call := fun_mk (st := s_S_call) l_S_call c_S_call k_S_call
  have b_S_call := F_S_call.binds (ps := ["self", "value"]) fun _ _ _ _ _ _ us hl => match us, hl with | [_, _], _ => rfl
  have F_S_get := fun_mk (st := s_S_get) l_S_get c_S_get k_S_get
  have b_S_get := F_S_get.binds (ps := ["self", "figure"]) fun _ _ _ _ _ _ us hl => match us, hl with | [_, _], _ => rfl
  have F_S_has := fun_mk (st := s_S_has) l_S_has c_S_has k_S_has
  have b_S_has := F_S_has.binds (ps := ["self", "value"]) fun _ _ _ _ _ _ us hl => match us, hl with | [_, _], _ => rfl
  have F_S_eq := fun_mk (st := s_S_eq) l_S_eq c_S_eq k_S_eq
  have b_S_eq := F_S_eq.binds (ps := ["self", "other"]) fun _ _ _ _ _ _ us hl => match us, hl with | [_, _], _ => rfl
  have F_S_neg := fun_mk (st := s_S_neg) l_S_neg c_S_neg k_S_neg
  have b_S_neg := F_S_neg.binds (ps := ["self"]) fun _ _ _ _ _ _ us hl => match us, hl with | [_], _ => rfl
  have F_S_or := fun_mk (st := s_S_or) l_S_or c_S_or k_S_or
  have b_S_or := F_S_or.binds (ps := ["self", "other"]) fun _ _ _ _ _ _ us hl => match us, hl with | [_, _], _ => rfl
  have F_Z_init := fun_mk (st := s_Z_init) l_Z_init c_Z_init k_Z_init
  have b_Z_init := F_Z_init.binds (ps := ["self", "sides"]) fun _ _ _ _ _ _ us hl => match us, hl with | [_, _], _ => rfl
  have F_Z_sides := fun_mk (st := s_Z_sides) l_Z_sides c_Z_sides k_Z_sides
  have b_Z_sides := F_Z_sides.binds (ps := ["self"]) fun _ _ _ _ _ _ us hl => match us, hl with | [_], _ => rfl
  have F_Z_or := fun_mk (st := s_Z_or) l_Z_or c_Z_or k_Z_or
  have b_Z_or := F_Z_or.binds (ps := ["self", "other"]) fun _ _ _ _ _ _ us hl => match us, hl with | [_, _], _ => rfl
  have BL : Blt mg := ⟨n_len, n_abs, n_int, n_range⟩
  have T : SideT K mg aM := ⟨n_isinstance, n_int, n_bool, n_tuple, n_len, n_divmod, PySem.W.mg_of X G a_MODES, fun _ => .inr ⟨_, _, _, l_MODES, rfl, rfl, v_MODES.1, v_MODES.2⟩⟩
  have RT : MirT K w mg aR := ⟨PySem.W.mg_of X G a_MIR, fun m hm => by
    rcases hm with e | e | e | e | e <;> subst e
    · rw [mir_d]; exact ⟨_, _, _, l_MIR, h_MIR, d_down, r_down⟩
    · rw [mir_u]; exact ⟨_, _, _, l_MIR, h_MIR, d_up, r_up⟩
    · rw [mir_hd]; exact ⟨_, _, _, l_MIR, h_MIR, d_half_down, r_half_down⟩
    · rw [mir_hu]; exact ⟨_, _, _, l_MIR, h_MIR, d_half_up, r_half_up⟩
    · rw [mir_he]; exact ⟨_, _, _, l_MIR, h_MIR, d_half_even, r_half_even⟩⟩
  have TC : ChkT mg := ⟨n_isinstance, n_int, n_bool, n_tuple, n_list, n_len⟩
  have TM : ModT K mg aM := ⟨T.gM, T.tM⟩
  have tab : ∀ i, i < 4 → erT K (cAt [c0, c1, c2, c3]) cB i = true := fun i hi => by
    rcases (by omega : i = 0 ∨ i = 1 ∨ i = 2 ∨ i = 3) with e | e | e | e <;> subst e
    · exact et_0
    · exact et_1
    · exact et_2
    · exact et_3
  have tb : ∀ i, i < 4 → errB K (cAt [c0, c1, c2, c3] i) = true ∧ (PySem.W.excIn K (cAt [c0, c1, c2, c3] i) [.type "ValueError", .type "Exception", .type "BaseException", .type "object"] "ValueError.__new__" = true ∧ PySem.W.keepIn K (.ref (cAt [c0, c1, c2, c3] i)) = true) ∧ PySem.W.kitOne K (.ref (cAt [c0, c1, c2, c3] i)) (.type "ValueError") = some true ∧ PySem.W.subIn K (.ref (cAt [c0, c1, c2, c3] i)) (.type "BaseException") = some true ∧ PySem.W.typeIn K (.ref (cAt [c0, c1, c2, c3] i)) = some (.type "type") ∧ PySem.W.exmOne K (.ref (cAt [c0, c1, c2, c3] i)) (.ref cB) = some true ∧ ∀ j, j < 4 → PySem.W.kitOne K (.ref (cAt [c0, c1, c2, c3] i)) (.ref (cAt [c0, c1, c2, c3] j)) = some (decide (i = j)) := fun i hi => by
    have z := tab i hi
    unfold erT exB at z
    simp only [Bool.and_eq_true, decide_eq_true_eq] at z
    obtain ⟨a, b, c, d, e, f, g⟩ := z
    exact ⟨a, b, c, d, e, f, fun j hj => of_decide_eq_true (all_of g hj)⟩
  have R : Er K mg (cAt [c0, c1, c2, c3]) cB := { isi := n_isinstance, ve := n_ValueError, gB := PySem.W.mg_of X G g_B, g0 := PySem.W.mg_of X G g_0, g1 := PySem.W.mg_of X G g_1, g2 := PySem.W.mg_of X G g_2, g3 := PySem.W.mg_of X G g_3, kit := fun i j hi hj => (tb i hi).2.2.2.2.2.2 j hj, kitV := fun i hi => (tb i hi).2.2.1, ec := fun i hi => errB_ok (tb i hi).1, eg := ⟨gsp, gtk⟩, ex := fun i hi => (tb i hi).2.1.1, kp := fun i hi => (tb i hi).2.1.2, sb := fun i hi => (tb i hi).2.2.2.1, ty := fun i hi => (tb i hi).2.2.2.2.1, emB := fun i hi => (tb i hi).2.2.2.2.2.1, em0 := em_0 }
  have AM : AmG mg := ⟨n_isinstance, n_list, n_len, ⟨_, PySem.W.mg_of X G a_MS⟩, ⟨_, PySem.W.mg_of X G a_MP⟩, PySem.W.mg_of X G a_lcm, n_sorted⟩
  have gS := PySem.W.mg_of X G a_Side
  have gZ := PySem.W.mg_of X G a_Sides
  obtain ⟨clS, moS, selfS, obS⟩ := clsB_ok cb_S
  have oS : OwnC K cS := ⟨clS, ca_S, gsp, gtk, moS, selfS⟩
  have MS : Mk K cS fS_init := ⟨mk_S, at_S_init, fn_S_init, kp_S⟩
  obtain ⟨clZ, moZ, selfZ, obZ⟩ := clsB_ok cb_Z
  have oZ : OwnC K cZ := ⟨clZ, ca_Z, gsp, gtk, moZ, selfZ⟩
  have MZ : Mk K cZ fZ_init := ⟨mk_Z, at_Z_init, fn_Z_init, kp_Z⟩
  have PD : PropOf K cS "data" pS fS_data := ⟨at_S_data, pg_S, pt_S, rsS, pr_S⟩
  have PZ : PropOf K cZ "sides" pZ fZ_sides := ⟨at_Z_sides, pg_Z, pt_Z, rsZ, pr_Z⟩
  refine ⟨PySem.W.fnOf "law" "law" (defArgs s_law) (defBody s_law) (defScope s_law) .none kV_law dc_law pm_law an_law cd_law ct_law, fun s v => .of_eq rfl, fun base _ _ => ?_⟩
  have C_is_int : Cal l.prog w K mg base "is_int" 1 ["thing"] spIsInt f_is_int _ := ⟨ok_is_int F_is_int T, m_is_int, k_is_int, b_is_int⟩
  have C_is_int_between : Cal l.prog w K mg base "is_int_between" 2 ["thing", "least", "most"] spBetween f_is_int_between _ := ⟨ok_between F_is_int_between C_is_int, m_is_int_between, k_is_int_between, b_is_int_between⟩
  have C_check_value : Cal l.prog w K mg base "check_value" 2 ["value"] spCheckValue f_check_value _ := ⟨ok_check_value F_check_value C_is_int, m_check_value, k_check_value, b_check_value⟩
  have C_check_side : Cal l.prog w K mg base "check_side" 3 ["side"] spCheckSide f_check_side _ := ⟨ok_check_side F_check_side T C_is_int_between, m_check_side, k_check_side, b_check_side⟩
  have C_goes_up : Cal l.prog w K mg base "_goes_up" 1 ["mode", "step", "figure", "rest"] spGo f_goes_up _ := ⟨ok_goes_up F_goes_up, m_goes_up, k_goes_up, b_goes_up⟩
  have C_figure : Cal l.prog w K mg base "_figure" 2 ["side", "value"] spFig f_figure _ := ⟨ok_figure F_figure T C_goes_up, m_figure, k_figure, b_figure⟩
  have C_written : Cal l.prog w K mg base "written" 3 ["side", "value"] spDue f_written _ := ⟨ok_written F_written C_figure, m_written, k_written, b_written⟩
  have C_handed : Cal l.prog w K mg base "handed" 5 ["side", "value"] spDue f_handed _ := ⟨ok_handed F_handed C_check_side C_check_value C_written, m_handed, k_handed, b_handed⟩
  have C_stands : Cal l.prog w K mg base "stands" 4 ["side", "value"] spStands f_stands _ := ⟨ok_stands F_stands C_check_side C_check_value, m_stands, k_stands, b_stands⟩
  have C_mirror : Cal l.prog w K mg base "mirror" 4 ["side"] spMirror f_mirror _ := ⟨ok_mirror F_mirror RT C_check_side, m_mirror, k_mirror, b_mirror⟩
  have C_first_mode : Cal l.prog w K mg base "_first_mode" 1 ["step", "mode"] spFirst f_first_mode _ := ⟨ok_first F_first_mode, m_first_mode, k_first_mode, b_first_mode⟩
  have C_form : Cal l.prog w K mg base "form" 4 ["side"] spForm f_form _ := ⟨ok_form F_form C_check_side C_first_mode, m_form, k_form, b_form⟩
  have C_is_side : Cal l.prog w K mg base "is_side" 4 ["thing"] spIsSide f_is_side _ := ⟨ok_is_side F_is_side (PySem.W.mg_of X G g_0) C_check_side, m_is_side, k_is_side, b_is_side⟩
  have C_check_sides : Cal l.prog w K mg base "check_sides" 5 ["sides"] spSides f_check_sides _ := ⟨ok_sides F_check_sides AM C_is_side, m_check_sides, k_check_sides, b_check_sides⟩
  have X_is_int : Cal l.prog w K mg base "is_int" 1 ["thing"] spIsAny f_is_int _ := ⟨ok_is_any F_is_int TC, m_is_int, k_is_int, b_is_int⟩
  have X_is_int_between : Cal l.prog w K mg base "is_int_between" 2 ["thing", "least", "most"] spBetAny f_is_int_between _ := ⟨ok_bet_any F_is_int_between X_is_int, m_is_int_between, k_is_int_between, b_is_int_between⟩
  have X_check_value : CalX l.prog w K mg base "check_value" 2 ["value"] (spValX (cAt [c0, c1, c2, c3])) f_check_value _ := ⟨ok_val_x F_check_value R X_is_int, m_check_value, k_check_value, b_check_value⟩
  have X_check_side : CalX l.prog w K mg base "check_side" 3 ["side"] (spSideX K (cAt [c0, c1, c2, c3])) f_check_side _ := ⟨ok_side_x F_check_side TC TM R X_is_int_between, m_check_side, k_check_side, b_check_side⟩
  have X_handed : CalX l.prog w K mg base "handed" 4 ["side", "value"] (spHandX (cAt [c0, c1, c2, c3])) f_handed _ := ⟨ok_handed_x F_handed X_check_side X_check_value, m_handed, k_handed, b_handed⟩
  have MS_init : FnOk l.prog w K mg base CX0 5 fS_init _ ["self", "data"] (spSInit cS) := ok_S_init F_S_init clS na_data na_form C_check_side C_form
  have MS_data : FnOk l.prog w K mg base CX0 1 fS_data _ ["self"] (spSData cS) := ok_S_data F_S_data clS na_data
  have MS_call : FnOk l.prog w K mg base CX0 6 fS_call _ ["self", "value"] (spSCall cS) := ok_S_call F_S_call clS na_data C_handed
  have MS_get : FnOk l.prog w K mg base CX0 3 fS_get _ ["self", "figure"] (spSGet cS) := ok_S_get F_S_get clS na_data C_check_value
  have MS_has : FnOk l.prog w K mg base CX0 5 fS_has _ ["self", "value"] (spSHas cS) := ok_S_has F_S_has clS na_data X_is_int C_stands
  have MS_eq : FnOk l.prog w K mg base CX0 2 fS_eq _ ["self", "other"] (spSEq K cS) := ok_S_eq F_S_eq oS na_form n_isinstance gS
  have MS_neg : FnOk l.prog w K mg base CX0 7 fS_neg _ ["self"] (spSNeg cS) := ok_S_neg F_S_neg clS na_data gS MS MS_init b_S_init C_mirror
  have MZ_init : FnOk l.prog w K mg base CX0 6 fZ_init _ ["self", "sides"] (spZInit cZ) := ok_Z_init F_Z_init clZ na_sides na_forms n_list n_set n_sorted C_check_sides C_form
  have MZ_sides : FnOk l.prog w K mg base CX0 1 fZ_sides _ ["self"] (spZSides cZ) := ok_Z_sides F_Z_sides clZ na_sides n_list
  have C_listed : Cal l.prog w K mg base "_listed" 3 ["thing"] (spListed cS cZ) f_listed _ := ⟨ok_listed F_listed oS oZ n_isinstance gS gZ kZS PD MS_data b_S_data PZ MZ_sides b_Z_sides, m_listed, k_listed, b_listed⟩
  have MS_or : FnOk l.prog w K mg base CX0 8 fS_or _ ["self", "other"] (spSOr cS cZ) := ok_S_or (kz := 0) F_S_or clS na_data gZ MZ MZ_init b_Z_init C_listed
  have MZ_or : FnOk l.prog w K mg base CX0 8 fZ_or _ ["self", "other"] (spZOr cS cZ) := ok_Z_or F_Z_or clZ na_sides gZ MZ MZ_init b_Z_init C_listed
  have XS_call : FnOk l.prog w K mg base (L2.CX l.prog w) 5 fS_call _ ["self", "value"] (spSBad cS (cAt [c0, c1, c2, c3])) := ok_S_call_x F_S_call clS na_data X_handed
  have XS_get : FnOk l.prog w K mg base (L2.CX l.prog w) 3 fS_get _ ["self", "figure"] (spSBad cS (cAt [c0, c1, c2, c3])) := ok_S_get_x F_S_get X_check_value
  have SC : SideC l.prog w K mg base cS fS_call fS_get fS_has := ⟨⟨at_S_call, fn_S_call, ci_S⟩, toR MS_call b_S_call, ⟨at_S_get, fn_S_get⟩, gi_S, toR MS_get b_S_get, ⟨at_S_has, fn_S_has⟩, toR MS_has b_S_has⟩
  have OK : OwnK l.prog w K mg base cS cZ fS_init fZ_init pS fS_data pZ fZ_sides fS_neg fS_eq fS_or fZ_or fS_call fS_get fS_has _ _ _ _ := {
    gS := gS, gZ := gZ, mS := MS, mZ := MZ, iS := MS_init, iZ := MZ_init, bS := b_S_init, bZ := b_Z_init, cS := oS, cZ := oZ, pD := PD, fD := MS_data, bD := b_S_data, pZ := PZ, fZ := MZ_sides, bZs := b_Z_sides,
    sN := ⟨at_S_neg, fn_S_neg⟩, fN := toR MS_neg b_S_neg, sE := ⟨at_S_eq, fn_S_eq⟩, fE := toR MS_eq b_S_eq, ob := obS, ne := ne_S, sO := ⟨at_S_or, fn_S_or⟩, fO := toR MS_or b_S_or, zO := ⟨at_Z_or, fn_Z_or⟩, fZo := toR MZ_or b_Z_or,
    hZS := of_decide_eq_true hne, hS := sfS, hZ := sfZ, rS := roS, rZ := roZ, sSZ := sSZ, sZS := sZS, kZ := kZS, nf := nfB_ok nf_S, SC := SC }
  have C_L_source : Cal l.prog w K mg base "_law_source" 1 ["_law_script"] (spSource K) f_L_source _ := ⟨ok_source F_L_source BL, m_L_source, k_L_source, b_L_source⟩
  have C_L_draw : Cal l.prog w K mg base "_law_draw" 1 ["_law_source_here", "_law_limit"] spDraw f_L_draw _ := ⟨ok_draw F_L_draw BL, m_L_draw, k_L_draw, b_L_draw⟩
  have C_L_pick : Cal l.prog w K mg base "_law_pick" 2 ["_law_source_here", "_law_values"] spPick f_L_pick _ := ⟨ok_pick F_L_pick BL C_L_draw, m_L_pick, k_L_pick, b_L_pick⟩
  have C_L_great : Cal l.prog w K mg base "_law_great" 2 ["_law_source_here", "_law_digits"] spGreat f_L_great _ := ⟨ok_great F_L_great BL C_L_draw, m_L_great, k_L_great, b_L_great⟩
  have C_L_side : Cal l.prog w K mg base "_law_side" 3 ["_law_source_here", "_law_digits"] spLSide f_L_side _ := ⟨ok_lside F_L_side C_L_draw C_L_pick C_L_great, m_L_side, k_L_side, b_L_side⟩
  have C_L_figure : Cal l.prog w K mg base "_law_figure" 1 ["_law_side_here", "_law_value"] spFig f_L_figure _ := ⟨ok_L_figure F_L_figure BL, m_L_figure, k_L_figure, b_L_figure⟩
  have C_L_handed : Cal l.prog w K mg base "_law_handed" 2 ["_law_side_here", "_law_value"] spDue f_L_handed _ := ⟨ok_L_handed F_L_handed C_L_figure, m_L_handed, k_L_handed, b_L_handed⟩
  have C_L_refused : Cal l.prog w K mg base "_law_refused" 6 ["_law_kind", "_law_one", "_law_value"] (spRefused cS) f_L_refused _ := ⟨ok_refused F_L_refused R em_3 SC.co (toR XS_call b_S_call) SC.ge SC.gi (toR XS_get b_S_get), m_L_refused, k_L_refused, b_L_refused⟩
  have C_L_told : Cal l.prog w K mg base "_law_told" 7 ["_law_one", "_law_values"] (spLTold cS) f_L_told _ := ⟨ok_ltold F_L_told SC, m_L_told, k_L_told, b_L_told⟩
  have C_L_due : Cal l.prog w K mg base "_law_due" 3 ["_law_data", "_law_values"] spLDue f_L_due _ := ⟨ok_ldue F_L_due C_L_handed, m_L_due, k_L_due, b_L_due⟩
  have C_L_single_fits : Cal l.prog w K mg base "_law_single_fits" 10 ["_law_data", "_law_values"] spSingle f_L_single_fits _ := ⟨ok_single F_L_single_fits OK C_L_told C_L_due C_L_refused C_mirror C_form, m_L_single_fits, k_L_single_fits, b_L_single_fits⟩
  have C_L_pair_fits : Cal l.prog w K mg base "_law_pair_fits" 10 ["_law_one", "_law_other", "_law_third"] spPair f_L_pair_fits _ := ⟨ok_pair F_L_pair_fits BL n_isinstance n_bool OK C_form, m_L_pair_fits, k_L_pair_fits, b_L_pair_fits⟩
  exact ok_law F_law BL C_L_source C_L_draw C_L_pick C_L_great C_L_side C_L_single_fits C_L_pair_fits
theorem walk {l : PySem.W.OpenLaw} {q : Program} {loose : List Str} {XP : (Str → Option Value) → Heap → Prop} {YP : World → Heap → Prop} {d : DefRec} {K : Params → PySem.W.Frag} (hn : l.most = some 63) (hdf : d.params.defaults = [])
    (hY : ∀ (w : World) (h : Heap), YP w h → (K w.params).In h)
    (F : ∀ (w : World) (mg : Str → Option Value) (fa : Addr) (h : Heap), (K w.params).In h → h.Ns mainGlobals mg → mg d.name = some (.ref fa) →
      ∃ fd : FuncData, (∀ (s : Shared) (u : Value), BindsTo s fd ⟨[u], []⟩ [("_law_script", u)]) ∧ ∀ base : Heap, (K w.params).In base → base.Ns mainGlobals mg → FnOk l.prog w (K w.params) mg base CX0 11 fa fd ["_law_script"] (spLaw (K w.params))) :
    PySem.W.WalkO q loose XP YP l.row.toRowW d [] (fun f vs => PySem.call f vs) :=
  L2.walk_of (n := 63) (k := 11) (x := "_law_script") (CX := fun _ => CX0) (sp := fun w => spLaw (K w.params)) hn (by decide) hdf ⟨rfl, by decide, by decide⟩ hY F (fun _ _ a ns hl _ hS => ⟨a, ns, rfl, hS, hl, fun _ => rfl⟩) fun _ _ _ _ _ z => z
end HT
open PySem PySem.W PyProof.Rows
set_option maxRecDepth 100000 in
set_option maxHeartbeats 0 in
theorem PySem.Challenge.cw_handedtext_k80_whole_sides_as_values_holds : PySem.Challenge.rw_handedtext_k80_whole_sides_as_values.Holds := by
  w_on; o_law; k_head; (case hw => w_witness2)
  k_fill
  refine HT.walk (l := PySem.Challenge.rw_handedtext_k80_whole_sides_as_values) rfl rfl (fun w h Y => PySem.W.kIn_of Y) ?F
  case F =>
    intro w mg fa h KX G hmg
    refine' HT.all_mk KX G hmg ?a_is_int ?l_is_int ?c_is_int ?k_is_int ?a_is_int_between ?l_is_int_between ?c_is_int_between ?k_is_int_between ?a_check_value ?l_check_value ?c_check_value ?k_check_value ?a_check_side ?l_check_side ?c_check_side ?k_check_side ?a_is_side ?l_is_side ?c_is_side ?k_is_side ?a_figure ?l_figure ?c_figure ?k_figure ?a_goes_up ?l_goes_up ?c_goes_up ?k_goes_up ?a_handed ?l_handed ?c_handed ?k_handed ?a_written ?l_written ?c_written ?k_written ?a_stands ?l_stands ?c_stands ?k_stands ?a_mirror ?l_mirror ?c_mirror ?k_mirror ?a_form ?l_form ?c_form ?k_form ?a_first_mode ?l_first_mode ?c_first_mode ?k_first_mode ?a_check_sides ?l_check_sides ?c_check_sides ?k_check_sides ?a_listed ?l_listed ?c_listed ?k_listed ?a_L_source ?l_L_source ?c_L_source ?k_L_source ?a_L_draw ?l_L_draw ?c_L_draw ?k_L_draw ?a_L_pick ?l_L_pick ?c_L_pick ?k_L_pick ?a_L_great ?l_L_great ?c_L_great ?k_L_great ?a_L_side ?l_L_side ?c_L_side ?k_L_side ?a_L_figure ?l_L_figure ?c_L_figure ?k_L_figure ?a_L_handed ?l_L_handed ?c_L_handed ?k_L_handed ?a_L_refused ?l_L_refused ?c_L_refused ?k_L_refused ?a_L_told ?l_L_told ?c_L_told ?k_L_told ?a_L_due ?l_L_due ?c_L_due ?k_L_due ?a_L_single_fits ?l_L_single_fits ?c_L_single_fits ?k_L_single_fits ?a_L_pair_fits ?l_L_pair_fits ?c_L_pair_fits ?k_L_pair_fits ?a_law ?l_law ?c_law ?k_law ?z_len ?z_abs ?z_int ?z_range ?z_isinstance ?z_bool ?z_tuple ?z_divmod ?z_list ?z_sorted ?z_set ?z_ValueError ?g_0 ?g_1 ?g_2 ?g_3 ?g_B ?et_0 ?et_1 ?et_2 ?et_3 ?em_0 ?em_3 ?gsp ?gtk ?a_MS ?a_MODES ?l_MODES ?v_MODES ?a_MIR ?l_MIR ?h_MIR ?d_down ?r_down ?d_up ?r_up ?d_half_down ?r_half_down ?d_half_up ?r_half_up ?d_half_even ?r_half_even ?a_MP ?a_lcm ?a_Side ?cb_S ?mk_S ?kp_S ?at_S_init ?fn_S_init ?l_S_init ?c_S_init ?k_S_init ?at_S_data ?pg_S ?pt_S ?pr_S ?fn_S_data ?l_S_data ?c_S_data ?k_S_data ?at_S_call ?fn_S_call ?l_S_call ?c_S_call ?k_S_call ?at_S_get ?fn_S_get ?l_S_get ?c_S_get ?k_S_get ?at_S_has ?fn_S_has ?l_S_has ?c_S_has ?k_S_has ?at_S_eq ?fn_S_eq ?l_S_eq ?c_S_eq ?k_S_eq ?at_S_neg ?fn_S_neg ?l_S_neg ?c_S_neg ?k_S_neg ?at_S_or ?fn_S_or ?l_S_or ?c_S_or ?k_S_or ?a_Sides ?cb_Z ?mk_Z ?kp_Z ?at_Z_init ?fn_Z_init ?l_Z_init ?c_Z_init ?k_Z_init ?at_Z_sides ?pg_Z ?pt_Z ?pr_Z ?fn_Z_sides ?l_Z_sides ?c_Z_sides ?k_Z_sides ?at_Z_or ?fn_Z_or ?l_Z_or ?c_Z_or ?k_Z_or ?na_data ?na_form ?na_sides ?na_forms ?ca_S ?ca_Z ?kZS ?ne_S ?gi_S ?ci_S ?hne ?nf_S ?sfS ?sfZ ?roS ?roZ ?sSZ ?sZS
    (case a_is_int => k_is)
    (case l_is_int => k_is)
    (case c_is_int => k_is)
    (case k_is_int => k_is)
    (case a_is_int_between => k_is)
    (case l_is_int_between => k_is)
    (case c_is_int_between => k_is)
    (case k_is_int_between => k_is)
    (case a_check_value => k_is)
    (case l_check_value => k_is)
    (case c_check_value => k_is)
    (case k_check_value => k_is)
    (case a_check_side => k_is)
    (case l_check_side => k_is)
    (case c_check_side => k_is)
    (case k_check_side => k_is)
    (case a_is_side => k_is)
    (case l_is_side => k_is)
    (case c_is_side => k_is)
    (case k_is_side => k_is)
    (case a_figure => k_is)
    (case l_figure => k_is)
    (case c_figure => k_is)
    (case k_figure => k_is)
    (case a_goes_up => k_is)
    (case l_goes_up => k_is)
    (case c_goes_up => k_is)
    (case k_goes_up => k_is)
    (case a_handed => k_is)
    (case l_handed => k_is)
    (case c_handed => k_is)
    (case k_handed => k_is)
    (case a_written => k_is)
    (case l_written => k_is)
    (case c_written => k_is)
    (case k_written => k_is)
    (case a_stands => k_is)
    (case l_stands => k_is)
    (case c_stands => k_is)
    (case k_stands => k_is)
    (case a_mirror => k_is)
    (case l_mirror => k_is)
    (case c_mirror => k_is)
    (case k_mirror => k_is)
    (case a_form => k_is)
    (case l_form => k_is)
    (case c_form => k_is)
    (case k_form => k_is)
    (case a_first_mode => k_is)
    (case l_first_mode => k_is)
    (case c_first_mode => k_is)
    (case k_first_mode => k_is)
    (case a_check_sides => k_is)
    (case l_check_sides => k_is)
    (case c_check_sides => k_is)
    (case k_check_sides => k_is)
    (case a_listed => k_is)
    (case l_listed => k_is)
    (case c_listed => k_is)
    (case k_listed => k_is)
    (case a_L_source => k_is)
    (case l_L_source => k_is)
    (case c_L_source => k_is)
    (case k_L_source => k_is)
    (case a_L_draw => k_is)
    (case l_L_draw => k_is)
    (case c_L_draw => k_is)
    (case k_L_draw => k_is)
    (case a_L_pick => k_is)
    (case l_L_pick => k_is)
    (case c_L_pick => k_is)
    (case k_L_pick => k_is)
    (case a_L_great => k_is)
    (case l_L_great => k_is)
    (case c_L_great => k_is)
    (case k_L_great => k_is)
    (case a_L_side => k_is)
    (case l_L_side => k_is)
    (case c_L_side => k_is)
    (case k_L_side => k_is)
    (case a_L_figure => k_is)
    (case l_L_figure => k_is)
    (case c_L_figure => k_is)
    (case k_L_figure => k_is)
    (case a_L_handed => k_is)
    (case l_L_handed => k_is)
    (case c_L_handed => k_is)
    (case k_L_handed => k_is)
    (case a_L_refused => k_is)
    (case l_L_refused => k_is)
    (case c_L_refused => k_is)
    (case k_L_refused => k_is)
    (case a_L_told => k_is)
    (case l_L_told => k_is)
    (case c_L_told => k_is)
    (case k_L_told => k_is)
    (case a_L_due => k_is)
    (case l_L_due => k_is)
    (case c_L_due => k_is)
    (case k_L_due => k_is)
    (case a_L_single_fits => k_is)
    (case l_L_single_fits => k_is)
    (case c_L_single_fits => k_is)
    (case k_L_single_fits => k_is)
    (case a_L_pair_fits => k_is)
    (case l_L_pair_fits => k_is)
    (case c_L_pair_fits => k_is)
    (case k_L_pair_fits => k_is)
    (case a_law => k_is)
    (case l_law => k_is)
    (case c_law => k_is)
    (case k_law => k_is)
    (case z_len => k_is)
    (case z_abs => k_is)
    (case z_int => k_is)
    (case z_range => k_is)
    (case z_isinstance => k_is)
    (case z_bool => k_is)
    (case z_tuple => k_is)
    (case z_divmod => k_is)
    (case z_list => k_is)
    (case z_sorted => k_is)
    (case z_set => k_is)
    (case z_ValueError => k_is)
    (case g_0 => k_is)
    (case g_1 => k_is)
    (case g_2 => k_is)
    (case g_3 => k_is)
    (case g_B => k_is)
    (case et_0 => kernel_rfl)
    (case et_1 => kernel_rfl)
    (case et_2 => kernel_rfl)
    (case et_3 => kernel_rfl)
    (case em_0 => kernel_rfl)
    (case em_3 => kernel_rfl)
    (case gsp => k_is)
    (case gtk => k_is)
    (case a_MS => k_is)
    (case a_MODES => k_is)
    (case l_MODES => k_is)
    (case v_MODES => exact ⟨by decide, .cons ⟨_, rfl⟩ (.cons ⟨_, rfl⟩ (.cons ⟨_, rfl⟩ (.cons ⟨_, rfl⟩ (.cons ⟨_, rfl⟩ .nil))))⟩)
    (case a_MIR => k_is)
    (case l_MIR => k_is)
    (case h_MIR => k_keys)
    (case d_down => k_is)
    (case r_down => exact ⟨_, rfl⟩)
    (case d_up => k_is)
    (case r_up => exact ⟨_, rfl⟩)
    (case d_half_down => k_is)
    (case r_half_down => exact ⟨_, rfl⟩)
    (case d_half_up => k_is)
    (case r_half_up => exact ⟨_, rfl⟩)
    (case d_half_even => k_is)
    (case r_half_even => exact ⟨_, rfl⟩)
    (case a_MP => k_is)
    (case a_lcm => k_is)
    (case a_Side => k_is)
    (case cb_S => kernel_rfl)
    (case mk_S => kernel_rfl)
    (case kp_S => kernel_rfl)
    (case at_S_init => k_is)
    (case fn_S_init => kernel_rfl)
    (case l_S_init => k_is)
    (case c_S_init => k_is)
    (case k_S_init => k_is)
    (case at_S_data => k_is)
    (case pg_S => k_is)
    (case pt_S => k_is)
    (case pr_S => k_is)
    (case fn_S_data => kernel_rfl)
    (case l_S_data => k_is)
    (case c_S_data => k_is)
    (case k_S_data => k_is)
    (case at_S_call => k_is)
    (case fn_S_call => kernel_rfl)
    (case l_S_call => k_is)
    (case c_S_call => k_is)
    (case k_S_call => k_is)
    (case at_S_get => k_is)
    (case fn_S_get => kernel_rfl)
    (case l_S_get => k_is)
    (case c_S_get => k_is)
    (case k_S_get => k_is)
    (case at_S_has => k_is)
    (case fn_S_has => kernel_rfl)
    (case l_S_has => k_is)
    (case c_S_has => k_is)
    (case k_S_has => k_is)
    (case at_S_eq => k_is)
    (case fn_S_eq => kernel_rfl)
    (case l_S_eq => k_is)
    (case c_S_eq => k_is)
    (case k_S_eq => k_is)
    (case at_S_neg => k_is)
    (case fn_S_neg => kernel_rfl)
    (case l_S_neg => k_is)
    (case c_S_neg => k_is)
    (case k_S_neg => k_is)
    (case at_S_or => k_is)
    (case fn_S_or => kernel_rfl)
    (case l_S_or => k_is)
    (case c_S_or => k_is)
    (case k_S_or => k_is)
    (case a_Sides => k_is)
    (case cb_Z => kernel_rfl)
    (case mk_Z => kernel_rfl)
    (case kp_Z => kernel_rfl)
    (case at_Z_init => k_is)
    (case fn_Z_init => kernel_rfl)
    (case l_Z_init => k_is)
    (case c_Z_init => k_is)
    (case k_Z_init => k_is)
    (case at_Z_sides => k_is)
    (case pg_Z => k_is)
    (case pt_Z => k_is)
    (case pr_Z => k_is)
    (case fn_Z_sides => kernel_rfl)
    (case l_Z_sides => k_is)
    (case c_Z_sides => k_is)
    (case k_Z_sides => k_is)
    (case at_Z_or => k_is)
    (case fn_Z_or => kernel_rfl)
    (case l_Z_or => k_is)
    (case c_Z_or => k_is)
    (case k_Z_or => k_is)
    (case na_data => k_is)
    (case na_form => k_is)
    (case na_sides => k_is)
    (case na_forms => k_is)
    (case ca_S => k_is)
    (case ca_Z => k_is)
    (case kZS => kernel_rfl)
    (case ne_S => k_is)
    (case gi_S => kernel_rfl)
    (case ci_S => kernel_rfl)
    (case hne => kernel_rfl)
    (case nf_S => kernel_rfl)
    (case sfS => kernel_rfl)
    (case sfZ => kernel_rfl)
    (case roS => k_is)
    (case roZ => k_is)
    (case sSZ => kernel_rfl)
    (case sZS => kernel_rfl)
#print axioms PySem.Challenge.cw_handedtext_k80_whole_sides_as_values_holds
