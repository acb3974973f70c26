import PyProof.Rows.All
import Wide.All
import OpenK.AllK
import Wide.FinOn
import HandS.CallSlots
import HandS.Deep
import HandS.Defaults
import HandS.Exc
import HandS.ExcField
import HandS.ExcInit
import HandS.ExcIs
import HandS.ExcValue
import HandS.ForMost
import HandS.HotCalls
import HandS.IsInst
import HandS.MakeKwOnly
import HandS.More
import HandS.NoneIn
import HandS.RaiseFrom
import HandS.ReplaceLit
import HandS.StrMore
import HandS.Style
import HandS.SuiteRaise
import HandS.TryOnly
import HandS.Wide
import HandS.WideBits
import HandS.WordsExc
import KE.KEqDeep
import KE.KEqSeq
import KE.KExcIs
import HandS.Gcd
import HandS.SortInts
import HandS.Walk
import KE.DataMinMax
import HandS.Iter
import HandS.TupAny
import PySem.Challenge.RW_handedtext_k11_ways
set_option Elab.async false
set_option linter.all false
set_option maxRecDepth 100000
set_option maxHeartbeats 4000000
set_option exponentiation.threshold 9000
open PySem L2
local macro_rules | `(tactic| walk_at "rd") => `(tactic| repeat (first | refine ⟨_, rfl, ?_⟩ | refine ⟨_, _, rfl, rfl, ?_⟩ | refine .inl ⟨_, rfl, ?_⟩))
namespace L2
open PySem PySem.Spec PyProof.Rows
/-- an error that was caught and kept, at a -/
def ExK (cls : Value) (a : Addr) : HO := .ext fun hp => ∃ (rec' : Obj) (cells : Array Value), hp.get? a = some rec' ∧ Zc cls none rec' ∧ rec'.data = .fields cells
/-- wKeep: what 'except x as n' wishes, where the error stays tracked behind the suite -/
def wKeep (K : PySem.W.Frag) (c : Value) (i : Nat) (ts : Addr → Value → Option Addr → TS) (Wout : WX) (D : Ends) : WX := fun kl dd st H =>
  ∃ yes, PySem.W.exmOne K kl c = some yes ∧ (yes = true → dd = none ∧ ∀ a, H a = none → ts a kl dd { nx := fun st' H' => D.nx (st'.set i none) (upd H' a (ExK kl a)), rt := D.rt, bk := fun st' H' => D.bk (st'.set i none) H', ct := fun st' H' => D.ct (st'.set i none) H' } (st.set i (some (.ref a))) H) ∧
    (yes = false → Wout kl dd st H)
section
variable {X : Cx} {pins : List (Addr × Obj)} {st : St} {H : Hp} {sh : Shared}
theorem Inv.adopt {a : Addr} {kl : Value} {rc : Obj} {cells : Array Value} (iv : Inv X pins st H sh) (new0 : X.s_0.heap.get? a = none) (free : H a = none) (at0 : sh.heap.get? a = some rc) (zc : Zc kl none rc) (fl : rc.data = .fields cells) (nl : a ≠ X.env.locals)
    (np : ∀ p ∈ X.pn ++ pins, p.1 ≠ a) : Inv X pins st (upd H a (ExK kl a)) sh := by
  have old : ∀ c rr, X.s_0.heap.get? c = some rr → c ≠ a := fun c rr e z => by
    rw [z, new0] at e
    cases e
  have other : ∀ c u, H c = some u → upd H a (ExK kl a) c = some u := fun c u e => (upd_ne (ne_of_none e free)).trans e
  refine ⟨iv.ok, iv.os, iv.bare, ⟨iv.base.keep, iv.base.slot, fun c rr e n0 nx => ?_, iv.base.there, fun c xs e => other _ _ (iv.base.tups c xs e), fun c rr u e => other _ _ (iv.base.frzs c rr u e), fun c ps e => ?_⟩, iv.loc, iv.cell, ?_, fun y c e => ?_, fun p hp => ?_, fun c u e => ?_, iv.len⟩
  · exact (upd_ne (old c rr e)).trans (iv.base.free c rr e n0 nx)
  · obtain ⟨more, e2⟩ := iv.base.tbls c ps e
    exact ⟨more, other _ _ e2⟩
  · exact (upd_ne nl.symm).trans iv.free
  · obtain ⟨w, rr, e2, e3⟩ := iv.cell y c e
    refine (upd_ne fun z => ?_).trans (iv.freeC y c e)
    subst z
    rw [at0] at e2
    cases e2
    simp [fl] at e3
  · obtain ⟨e1, e2, e3, e4, e5⟩ := iv.pin p hp
    exact ⟨e1, (upd_ne (np p hp)).trans e2, e3, e4, e5⟩
  · by_cases ca : c = a
    · subst ca
      rw [upd_same] at e
      cases e
      exact ⟨⟨rc, cells, at0, zc, fl⟩, ⟨rc, at0⟩, fun _ _ ⟨r2, c2, e2, e3⟩ same => ⟨r2, c2, same _ e2, e3⟩⟩
    · rw [upd_ne ca] at e
      exact (iv.hok c u e).stay (fun _ _ _ e2 => e2) (fun c2 e2 => other _ _ e2) fun c2 xs e2 => other _ _ e2
end
end L2
namespace L2
open PySem PySem.Spec PyProof.Rows
section
variable {X : Cx} {x n : Str} {c : Value} {i : Nat} {body suite : List Stmt} {first : Stmt} {np pos pos' : Pos} {tb : WX → TS} {ts : Addr → Value → Option Addr → TS} {Wout : WX}
/-- try: .. except x as n: suite; the caught error stays tracked behind it -/
theorem ps_try_keep (stk : X.stack = X.env :: X.outer) (frm : X.env.frame = some X.env.locals) (noex : X.ex = []) (dist : X.N.Nodup) (slot : X.N[i]? = some n) (loc : X.env.kindOf n = some .local) (nam : Names X x c) (tk : Takes X Wout)
    (inner : ∀ (W : WX) (pn : List (Addr × Obj)) (xe : Value → Shared → Prop), Takes (X.tr pn xe) W → PassesOwn (model X.prog X.w) X.A X.env xe → PSs (X.tr pn xe) body (tb W))
    (caught : ∀ (a : Addr) (rc : Obj) (kl : Value) (dd : Option Addr) (pn : List (Addr × Obj)), Zc kl dd rc → (∃ cells, rc.data = .fields cells) → PSs (X.suite a ((a, rc) :: pn)) (first :: suite) (ts a kl dd)) :
    PS X (.Try body [.ExceptHandler (some (.Name x np)) (some n) (first :: suite) pos'] [] [] pos) (fun D st H => tb (wKeep X.K c i ts Wout D) D st H) where
  run := fun pins sh st H D iv want => by
    have fine := iv.ok
    have frames : X.A.frames = some (X.env :: X.outer) := by rw [fine.frames, stk]
    refine wpAny_Try_except (wpAny_mono ((inner (wKeep X.K c i ts Wout D) (X.pn ++ pins) _ (fun u sh' air => ?_) PassesOwn.looking).run [] sh st H D (iv.toTry _) want) ?_ fun _ _ e => e)
    · obtain ⟨a, B, shI, pins', st1, H1, kl, dd, rfl, ivT, inB, upTo, sky, freeA, sameOs, bareG, yes, dec, onYes, onNo⟩ := air
      have iv1 : Inv X pins st1 H1 shI := ivT.ofTry fine
      rw [stk] at sky
      refine Sky.land Zc.steady frames frm sky fun hp3 fly3 up3 => ?_
      have bNone : B.get? a = none := fly3.2.1
      have iv3 : Inv X pins st1 H1 { sh' with heap := hp3 } := iv1.landed inB fly3.1 (upTo.trans up3) sameOs bareG
      obtain ⟨rc3, cells3, at3, zc3, dt3⟩ := fly3.there
      have offFrames : a ∉ frs (X.env :: X.outer) := fun mem => by
        obtain ⟨_, r2, e2, bad⟩ := fly3.2.2.1.mem mem
        rw [at3] at e2
        cases e2
        exact bad _ dt3
      have offL : a ≠ X.env.locals := fun z => offFrames (List.mem_filterMap.mpr ⟨X.env, List.mem_cons_self, by rw [frm, z]⟩)
      have offF : a ∉ X.fs := fun mem => by
        obtain ⟨ee, inn, ef⟩ := List.mem_filterMap.mp mem
        exact offFrames (List.mem_filterMap.mpr ⟨ee, List.mem_cons_of_mem _ inn, ef⟩)
      have notThere : shI.heap.get? a = none := by
        cases e : shI.heap.get? a with
        | none => rfl
        | some rr =>
          have z := inB a rr e (by rw [stk]; exact offFrames)
          rw [bNone] at z
          cases z
      have new0 : X.s_0.heap.get? a = none := by
        cases e : X.s_0.heap.get? a with
        | none => rfl
        | some rr =>
          obtain ⟨r2, e2⟩ := iv1.base.there a rr e (by rw [noex]; exact List.not_mem_nil)
          rw [notThere] at e2
          cases e2
      have pinsOff : ∀ p ∈ X.pn ++ pins, p.1 ≠ a := fun p hp z => by
        have e2 := (iv1.pin p hp).1
        rw [z, notThere] at e2
        cases e2
      have inSuite := iv3.suite at3 dt3 freeA offL offF
      refine wpAny_handleBy_cons (codeAny_handlers_test ?_) (by intro q; cases q)
      have theClass : PySem.W.Looks (model X.prog X.w) hp3 (typeOf (.ref a)) kl := fun A' Q' E' s' kk qq => wpAny_typeOf_ref (kk _ _ at3) (by rw [zc3.1]; exact qq)
      have theTest := PySem.W.exm_one (M := model X.prog X.w) iv3.kIn theClass dec
      have clause : ∀ {Q' : Value → Shared → Prop} {E' : Value → Shared → Prop}, Q' c { sh' with heap := hp3 } → wpAny (model X.prog X.w) (X.A.mark (some (.ref a))) (eval (.Name x np) X.env) Q' E' { sh' with heap := hp3 } := fun {Q' E'} qq => by
        obtain ⟨g1, g2, g3 | ⟨g3, g4, g5⟩⟩ := nam
        · exact ld_glob (X := X.suite a ((a, rc3) :: (X.pn ++ pins))) inSuite g1 g3 qq g2
        · exact ld_blt (X := X.suite a ((a, rc3) :: (X.pn ++ pins))) inSuite g1 g3 g4 qq g5 g2
      refine clause (theTest.here ?_)
      cases yes with
      | true =>
        obtain ⟨rfl, go⟩ := onYes rfl
        refine codeAny_handlers_suite_as (HandSPX.lands_againZ fly3 fun hp4 fly4 up4 => ?_)
        have iv4 : Inv X pins st1 H1 { sh' with heap := hp4 } := iv1.landed inB fly4.1 ((upTo.trans up3).trans up4) sameOs bareG
        obtain ⟨rc4, cells4, at4, zc4, dt4⟩ := fly4.there
        refine store_ok (X := X.suite a ((a, rc4) :: (X.pn ++ pins))) (v := .ref a) (iv4.suite at4 dt4 freeA offL offF) dist slot (.inl loc) rfl (fun sh5 iv5 => ?_) (.inr loc)
        refine wpAny_mono ((caught a rc4 kl none (X.pn ++ pins) zc4 ⟨_, dt4⟩).run [] sh5 _ H1 _ iv5 (go a freeA)) (fun flow sh6 came => ?_) fun _ _ z => z.elim
        cases flow with
        | next =>
          obtain ⟨st6, H6, iv6, q6⟩ := came
          have more : Inv X ((a, rc4) :: pins) st6 H6 sh6 := ⟨fine, iv6.os, iv6.bare, iv6.base, iv6.loc, iv6.cell, iv6.free, iv6.freeC, fun p hp => iv6.pin p (List.mem_append_left _ ?_), iv6.hok, iv6.len⟩
          refine gone_ok more dist slot loc fun sh7 iv7 => ?_
          have there : (a, rc4) ∈ X.pn ++ (a, rc4) :: pins := List.mem_append_right _ List.mem_cons_self
          obtain ⟨e1, e2, e3, _⟩ := iv7.pin (a, rc4) there
          have less : Inv X pins (st6.set i none) H6 sh7 := ⟨fine, iv7.os, iv7.bare, iv7.base, iv7.loc, iv7.cell, iv7.free, iv7.freeC, fun p hp => iv7.pin p ?_, iv7.hok, iv7.len⟩
          · exact ⟨_, _, less.adopt new0 e2 e1 zc4 dt4 e3 pinsOff, q6⟩
          · rcases List.mem_append.mp hp with hq | hq
            · exact List.mem_append_left _ hq
            · exact List.mem_append_right _ (List.mem_cons_of_mem _ hq)
          · rcases List.mem_append.mp hp with hq | hq
            · exact List.mem_cons_of_mem _ (List.mem_append_left _ hq)
            · rcases List.mem_cons.mp hq with hr | hr
              · rw [hr]; exact List.mem_cons_self
              · exact List.mem_cons_of_mem _ (List.mem_append_right _ hr)
        | brk =>
          obtain ⟨st6, H6, iv6, q6⟩ := came
          exact gone_ok (iv6.unsuite fine) dist slot loc fun sh7 iv7 => ⟨_, _, iv7, q6⟩
        | cont =>
          obtain ⟨st6, H6, iv6, q6⟩ := came
          exact gone_ok (iv6.unsuite fine) dist slot loc fun sh7 iv7 => ⟨_, _, iv7, q6⟩
        | ret u =>
          obtain ⟨v6, st6, H6, iv6, r6, q6⟩ := came
          exact gone_ok (iv6.unsuite fine) dist slot loc fun sh7 iv7 => ⟨_, _, _, iv7, r6, q6⟩
      | false =>
        show wpAny _ X.A (handleBy (.ref a) X.env []) _ _ _
        refine wpAny_handleBy_nil ?_
        obtain ⟨_, _, _, rc5, cells5, tr5, _, _, at5, _, dt5, at1, _⟩ := id fly3
        unfold PySem.passOn
        refine wpAny_bind (wpAny_field at5 dt5 at1 ?_)
        rw [if_neg (by simp : ¬ (Value.ref tr5 == Value.none) = true)]
        have out : wpAny (model X.prog X.w) X.A (setFlight (.ref a) X.env.frame) (fun _ sh8 => wpAny (model X.prog X.w) X.A (throw (.ref a) : Sem Flow) (SP X pins D) X.xe sh8) X.xe { sh' with heap := hp3 } := by
          rw [frm]
          refine HandSPX.setFlight_upZ fly3 fun hp8 held up8 => wpAny_throw (tk _ _ ?_)
          exact ⟨a, B, shI, pins, st1, H1, kl, dd, rfl, iv1, inB, (upTo.trans up3).trans up8, .inr (.inr (by rw [stk]; exact held)), freeA, sameOs, bareG, onNo rfl⟩
        first
          | exact wpAny_bind out
          | exact wpAny_bind (wpAny_pure (wpAny_bind out))
    · intro flow sh1 came
      cases flow with
      | next =>
        obtain ⟨st1, H1, iv1, q1⟩ := came
        exact wpAny_execs_nil ⟨st1, H1, iv1.ofTry fine, q1⟩
      | brk =>
        obtain ⟨st1, H1, iv1, q1⟩ := came
        exact ⟨st1, H1, iv1.ofTry fine, q1⟩
      | cont =>
        obtain ⟨st1, H1, iv1, q1⟩ := came
        exact ⟨st1, H1, iv1.ofTry fine, q1⟩
      | ret u =>
        obtain ⟨v1, st1, H1, iv1, r1, q1⟩ := came
        exact ⟨v1, st1, H1, iv1.ofTry fine, r1, q1⟩
end
end L2
namespace L2
open PySem PySem.Spec PyProof.Rows
/-- what the written part says of an error class, for isinstance -/
structure ErrC (K : PySem.W.Frag) (C : Addr) : Prop where
  cl : (PySem.W.clsIn K C).isSome = true
  ga : PySem.W.findIn K (.ref C) "__getattribute__" = some (some (.builtin "BaseException.__getattribute__"))
  gg : PySem.W.findIn K (.ref C) "__getattr__" = some none
  sb : PySem.W.subIn K (.ref C) (.type "BaseException") = some true
  cn : PySem.W.findIn K (.ref C) "__class__" = some (some (.builtin "object.__class__"))
  mo : PySem.W.mroIn K C (.type "object") = some true
/-- .. of the attribute __class__ of all objects -/
structure ErrG (K : PySem.W.Frag) : Prop where
  sp : PySem.W.specialIn K (.builtin "object.__class__") "__get__" = some (some (.builtin "getset_descriptor.__get__"))
  tk : PySem.W.takesIn K (.builtin "object.__class__") = some true
def rIsKept (K : PySem.W.Frag) : List V → Hp → VK → Prop := fun xs H Q => ∃ (a C : Addr) (c : V) (cv : Value) (b : Bool), xs = [.ref a, c] ∧ ClsV c cv ∧ H a = some (ExK (.ref C) a) ∧ ErrC K C ∧ ErrG K ∧ PySem.W.kitOne K (.ref C) cv = some b ∧ Q (.bl b) H
theorem call_isKept {X : Cx} : CallR X (.builtin "isinstance") (rIsKept X.K) := by
  intro pins sh st H xs us Q iv r h
  obtain ⟨a, C, c, cv, b, rfl, k, at', T, G, e, q⟩ := h
  obtain ⟨u1, u2, rfl, r1, r2⟩ := vals2 r
  have e2 := k.eq r2
  subst e2
  obtain rfl : u1 = Value.ref a := r1
  obtain ⟨⟨oe, vs, ho, hz, hd⟩, _, _⟩ := iv.hok a _ at'
  have J : PySem.W.InstAt sh.heap a oe C none := by
    obtain ⟨oc, od, oda, osl⟩ := oe
    obtain ⟨h1, h2⟩ := hz
    dsimp only at h1 h2 hd
    subst h1 h2 hd
    exact ⟨ho, rfl, rfl, trivial⟩
  exact PySem.W.kia_one (PySem.W.kitx_exc T.cl T.ga T.gg T.sb T.cn G.sp G.tk T.mo) iv.kIn J e (fun z => nomatch z) fun tk => ⟨.bl b, H, iv.tok tk, rfl, q⟩
end L2
namespace L2
open PySem PySem.Spec PyProof.Rows
/-- a def of which any kind of error may come -/
theorem Fun.okAny {CX' : CXT} {P : Program} {w : World} {K : PySem.W.Frag} {mg : Str → Option Value} {base : Heap} {nm qu : Str} {row : Stmt} {at0 : Addr} {fd : FuncData} {names pars : List Str} {lev : Nat} {want : Sp} (F : Fun K nm qu row at0 fd) (S : FnScope names pars (defScope row)) (len : ∀ vs H Q E, want vs H Q E → vs.length = pars.length)
    (body : ∀ (code : Value) (A : Around) (outer : List Env) (sh : Shared) (H : Hp) (vs : List V) (Q : VK) (E : XK), Room lev (A.deeper (envOfC qu (defScope row) sh.heap.objs.size at0 code)) → want vs H Q E →
      ∃ t, PSs (cxOf CX' P w K mg base names qu (defScope row) at0 code A outer sh H E) (defBody row) t ∧ t { nx := fun _ H' => Q .non H', rt := Q } (start names vs) H) : FnOk P w K mg base CX' (lev + 1) at0 fd pars want := by
  obtain ⟨_, _, _, _, _, _, code, _, _, rfl, there, isCode⟩ := F.ex
  exact fn_of there isCode S len (body code)
/-- X('..') of an own class, for a raise .. from None -/
theorem pmk5_own {X : Cx} {C : Addr} {bmB : List Value} {B newId initId : String} {x m : Str} {j : Nat} {p p2 pos : Pos} (F : ExcBaseFacts B newId initId bmB) (q : PySem.W.excIn X.K C bmB newId = true) (gC : X.mg x = some (.ref C)) (kC : PySem.W.keepIn X.K (.ref C) = true) (r : Raises X (.ref C)) (hg : Gl X x)
    (plain : (x == ("__debug__" : Str)) = false := by decide) : L2H.PMk5 X (.Call (.Name x p) [.Constant (.str m) j p2] [] pos) (fun _ H Q => Q (.ref C) none H) := by
  intro pins sh st H Q iv want
  have arg : PA X [.Constant (.str m) j p2] (tCons (tC (.str m)) tNil) := pa_cons pe_str pa_nil
  refine wpAny_Call_Name_kw (ld_glob iv hg gC (PySem.W.callWith_K (h₀ := X.base) iv.ok.mod.kin kC (thn (arg.run pos pins sh st H (fun vs H1 => vs = [V.str m] ∧ H = H1) iv ⟨rfl, rfl⟩) ?_)) plain)
  rintro us sh1 ⟨vs, H1, iv1, rel, rfl, rfl⟩
  refine ⟨iv1.kIn, ?_⟩
  match us, rel with
  | [u], .cons _ .nil =>
    show wpAny _ _ (call (.ref C) [u]) _ _ _
    obtain ⟨_, _, _, _, _, _, _, _, _, _, _, _, _, _, _, _, _, hC, hN, hni, T⟩ := exc_obj iv1.kIn q
    exact wpAny_call_exc_subT F T hC hN hni (fun h' e made => L2H.mk_of5 iv1 made r want (iv1.hok.gone made.new)) (by show 1 ≤ sizeLine; decide)
/-- try: .. except x: suite, the suite raising: ps_try_onlyX with its reading under a name, for a loop around it -/
def tTryX (K : PySem.W.Frag) (c : Value) (ts : Addr → Value → Option Addr → TS) (Wout : WX) (tb : WX → TS) : TS := fun D st H => tb (wOnly K c ts Wout D) D st H
theorem ps_tryX {X : Cx} {x : Str} {c : Value} {body suite : List Stmt} {first : Stmt} {np pos pos' : Pos} {tb : WX → TS} {ts : Addr → Value → Option Addr → TS} {Wout : WX} (h1 : X.stack = X.env :: X.outer) (h2 : X.env.frame = some X.env.locals) (h3 : Names X x c)
    (h4 : ∀ hd : Option Value, PassesOwnAt (model X.prog X.w) (X.A.mark hd) X.A X.env X.xe) (h5 : L2.Takes X Wout)
    (h6 : ∀ (W : WX) (pn : List (Addr × Obj)) (xe : Value → Shared → Prop), L2N.Takes (X.tr pn xe) W → L2.Takes (X.tr pn xe) (L2H.wPass X.K c Wout) → PassesOwn (model X.prog X.w) X.A X.env xe → PSs (X.tr pn xe) body (tb W))
    (h7 : ∀ (a : Addr) (oe : Obj) (cls : Value) (d : Option Addr) (pn : List (Addr × Obj)), L2N.Zn cls d oe → (∃ vs, oe.data = .fields vs) → L2.Takes (L2H.suiteX X a ((a, oe) :: pn)) Wout → L2H.HotC (L2H.suiteX X a ((a, oe) :: pn)) → PSs (L2H.suiteX X a ((a, oe) :: pn)) (first :: suite) (ts a cls d)) :
    PS X (.Try body [.ExceptHandler (some (.Name x np)) none (first :: suite) pos'] [] [] pos) (tTryX X.K c ts Wout tb) := L2H.ps_try_onlyX h1 h2 h3 h4 h5 h6 h7
end L2
namespace HT
open PySem L2
/-- a test whose ways are joined by a statement of the heap -/
def tMidT (t : TT) : TT := fun σ H Q => ∃ M : Bool → Hp → Prop, t σ H M ∧ ∀ b H', M b H' → Q b H'
def tMidE (t : TE) : TE := fun σ H Q => ∃ M : V → Hp → Prop, t σ H M ∧ ∀ v H', M v H' → Q v H'
def tMidS (t : TS) : TS := fun D σ H => ∃ M : St → Hp → Prop, t { D with nx := M } σ H ∧ ∀ σ' H', M σ' H' → D.nx σ' H'
theorem pt_mid {X : Cx} {e : Expr} {t : TT} (h : PT X e t) : PT X e (tMidT t) :=
  ⟨fun pins s σ H _ I ⟨M, a, b⟩ => thn (h.run pins s σ H M I a) fun c _ ⟨H1, I1, q1⟩ => ⟨H1, I1, b c H1 q1⟩⟩
theorem pe_mid {X : Cx} {e : Expr} {t : TE} (h : PE X e t) : PE X e (tMidE t) :=
  ⟨fun pins s σ H _ I ⟨M, a, b⟩ => thn (h.run pins s σ H M I a) fun _ _ ⟨v, H1, I1, r, q1⟩ => ⟨v, H1, I1, r, b v H1 q1⟩⟩
theorem ps_mid {X : Cx} {st : Stmt} {t : TS} (h : PS X st t) : PS X st (tMidS t) :=
  ⟨fun pins s σ H D I ⟨M, a, b⟩ => thn (h.run pins s σ H { D with nx := M } I a) fun f _ q => by
    cases f with
    | next => obtain ⟨σ', H', I', q⟩ := q; exact ⟨σ', H', I', b σ' H' q⟩
    | brk => exact q
    | cont => exact q
    | ret v => exact q⟩
end HT
namespace HT
open PySem L2
def top (i : Nat) : Stmt := PySem.Challenge.pw_handedtext_k11_ways.main.body.getD i (.Pass ⟨0, 0, 0, 0⟩)
abbrev s_is_int : Stmt := top 9
abbrev s_is_int_between : Stmt := top 10
abbrev s_check_value : Stmt := top 11
abbrev s_check_side : Stmt := top 14
abbrev s_is_side : Stmt := top 15
abbrev s_figure : Stmt := top 16
abbrev s_goes_up : Stmt := top 17
abbrev s_written : Stmt := top 18
abbrev s_below : Stmt := top 19
abbrev s_threshold : Stmt := top 20
abbrev s_check_sides : Stmt := top 24
abbrev s_period_of : Stmt := top 25
abbrev s_moved : Stmt := top 26
abbrev s_common_period : Stmt := top 27
abbrev s_along : Stmt := top 29
abbrev s_check_numbers : Stmt := top 30
abbrev s_before : Stmt := top 31
abbrev s_route : Stmt := top 32
abbrev s_fewest : Stmt := top 33
abbrev s_runs : Stmt := top 34
abbrev s_widened : Stmt := top 35
abbrev s_ends : Stmt := top 36
abbrev s_within : Stmt := top 37
abbrev s_holds : Stmt := top 38
abbrev s_way : Stmt := top 39
abbrev s_L_source : Stmt := top 41
abbrev s_L_draw : Stmt := top 42
abbrev s_L_pick : Stmt := top 43
abbrev s_L_great : Stmt := top 44
abbrev s_L_ten : Stmt := top 45
abbrev s_L_step : Stmt := top 46
abbrev s_L_side : Stmt := top 47
abbrev s_L_written : Stmt := top 48
abbrev s_L_divisor : Stmt := top 49
abbrev s_L_period : Stmt := top 50
abbrev s_L_levels : Stmt := top 51
abbrev s_L_holds : Stmt := top 52
abbrev s_law : Stmt := top 53
/- is_int: 0:thing -/
theorem sc_is_int : FnScope ["thing"] ["thing"] (defScope s_is_int) := ⟨rfl, rfl, rfl, by decide +kernel, rfl, by decide +kernel, by decide +kernel⟩
/- is_int_between: 0:thing 1:least 2:most -/
theorem sc_is_int_between : FnScope ["thing", "least", "most"] ["thing", "least", "most"] (defScope s_is_int_between) := ⟨rfl, rfl, rfl, by decide +kernel, rfl, by decide +kernel, by decide +kernel⟩
/- check_value: 0:value -/
theorem sc_check_value : FnScope ["value"] ["value"] (defScope s_check_value) := ⟨rfl, rfl, rfl, by decide +kernel, rfl, by decide +kernel, by decide +kernel⟩
/- check_side: 0:side 1:offset 2:step 3:mode -/
theorem sc_check_side : FnScope ["side", "offset", "step", "mode"] ["side"] (defScope s_check_side) := ⟨rfl, rfl, rfl, by decide +kernel, rfl, by decide +kernel, by decide +kernel⟩
/- is_side: 0:thing -/
theorem sc_is_side : FnScope ["thing"] ["thing"] (defScope s_is_side) := ⟨rfl, rfl, rfl, by decide +kernel, rfl, by decide +kernel, by decide +kernel⟩
/- _figure: 0:side 1:value 2:offset 3:step 4:mode 5:figure 6:rest -/
theorem sc_figure : FnScope ["side", "value", "offset", "step", "mode", "figure", "rest"] ["side", "value"] (defScope s_figure) := ⟨rfl, rfl, rfl, by decide +kernel, rfl, by decide +kernel, by decide +kernel⟩
/- _goes_up: 0:mode 1:step 2:figure 3:rest -/
theorem sc_goes_up : FnScope ["mode", "step", "figure", "rest"] ["mode", "step", "figure", "rest"] (defScope s_goes_up) := ⟨rfl, rfl, rfl, by decide +kernel, rfl, by decide +kernel, by decide +kernel⟩
/- written: 0:side 1:value 2:offset 3:step 4:_ -/
theorem sc_written : FnScope ["side", "value", "offset", "step", "_"] ["side", "value"] (defScope s_written) := ⟨rfl, rfl, rfl, by decide +kernel, rfl, by decide +kernel, by decide +kernel⟩
/- _below: 0:mode 1:step 2:figure -/
theorem sc_below : FnScope ["mode", "step", "figure"] ["mode", "step", "figure"] (defScope s_below) := ⟨rfl, rfl, rfl, by decide +kernel, rfl, by decide +kernel, by decide +kernel⟩
/- threshold: 0:side 1:value 2:offset 3:step 4:mode 5:figure -/
theorem sc_threshold : FnScope ["side", "value", "offset", "step", "mode", "figure"] ["side", "value"] (defScope s_threshold) := ⟨rfl, rfl, rfl, by decide +kernel, rfl, by decide +kernel, by decide +kernel⟩
/- check_sides: 0:sides 1:side -/
theorem sc_check_sides : FnScope ["sides", "side"] ["sides"] (defScope s_check_sides) := ⟨rfl, rfl, rfl, by decide +kernel, rfl, by decide +kernel, by decide +kernel⟩
/- period_of: 0:side 1:_ 2:step 3:mode -/
theorem sc_period_of : FnScope ["side", "_", "step", "mode"] ["side"] (defScope s_period_of) := ⟨rfl, rfl, rfl, by decide +kernel, rfl, by decide +kernel, by decide +kernel⟩
/- moved: 0:side 1:by 2:offset 3:step 4:mode -/
theorem sc_moved : FnScope ["side", "by", "offset", "step", "mode"] ["side", "by"] (defScope s_moved) := ⟨rfl, rfl, rfl, by decide +kernel, rfl, by decide +kernel, by decide +kernel⟩
/- common_period: 0:sides 1:many 2:side -/
theorem sc_common_period : FnScope ["sides", "many", "side"] ["sides"] (defScope s_common_period) := ⟨rfl, rfl, rfl, by decide +kernel, rfl, by decide +kernel, by decide +kernel⟩
/- along: 0:sides 1:numbers 2:value 3:values 4:here 5:number -/
theorem sc_along : FnScope ["sides", "numbers", "value", "values", "here", "number"] ["sides", "numbers", "value"] (defScope s_along) := ⟨rfl, rfl, rfl, by decide +kernel, rfl, by decide +kernel, by decide +kernel⟩
/- _check_numbers: 0:numbers 1:many 2:number -/
theorem sc_check_numbers : FnScope ["numbers", "many", "number"] ["numbers", "many"] (defScope s_check_numbers) := ⟨rfl, rfl, rfl, by decide +kernel, rfl, by decide +kernel, by decide +kernel⟩
/- before: 0:sides 1:value -/
theorem sc_before : FnScope ["sides", "value"] ["sides", "value"] (defScope s_before) := ⟨rfl, rfl, rfl, by decide +kernel, rfl, by decide +kernel, by decide +kernel⟩
/- route: 0:sides 1:start 2:value 3:runs 4:many -/
theorem sc_route : FnScope ["sides", "start", "value", "runs", "many"] ["sides", "start", "value"] (defScope s_route) := ⟨rfl, rfl, rfl, by decide +kernel, rfl, by decide +kernel, by decide +kernel⟩
/- _fewest: 0:sides 1:start 2:value 3:runs 4:many 5:run -/
theorem sc_fewest : FnScope ["sides", "start", "value", "runs", "many", "run"] ["sides", "start", "value", "runs"] (defScope s_fewest) := ⟨rfl, rfl, rfl, by decide +kernel, rfl, by decide +kernel, by decide +kernel⟩
/- _runs: 0:sides 1:value 2:side 3:near 4:runs 5:many 6:run 7:least 8:greatest -/
theorem sc_runs : FnScope ["sides", "value", "side", "near", "runs", "many", "run", "least", "greatest"] ["sides", "value"] (defScope s_runs) := ⟨rfl, rfl, rfl, by decide +kernel, rfl, by decide +kernel, by decide +kernel⟩
/- _widened: 0:sides 1:run 2:least 3:greatest 4:low 5:high 6:side 7:first 8:last -/
theorem sc_widened : FnScope ["sides", "run", "least", "greatest", "low", "high", "side", "first", "last"] ["sides", "run"] (defScope s_widened) := ⟨rfl, rfl, rfl, by decide +kernel, rfl, by decide +kernel, by decide +kernel⟩
/- _ends: 0:sides 1:value 2:runs 3:many 4:window 5:least 6:greatest -/
theorem sc_ends : FnScope ["sides", "value", "runs", "many", "window", "least", "greatest"] ["sides", "value", "runs"] (defScope s_ends) := ⟨rfl, rfl, rfl, by decide +kernel, rfl, by decide +kernel, by decide +kernel⟩
/- _within: 0:run 1:window -/
theorem sc_within : FnScope ["run", "window"] ["run", "window"] (defScope s_within) := ⟨rfl, rfl, rfl, by decide +kernel, rfl, by decide +kernel, by decide +kernel⟩
/- _holds: 0:ends 1:value 2:least 3:greatest -/
theorem sc_holds : FnScope ["ends", "value", "least", "greatest"] ["ends", "value"] (defScope s_holds) := ⟨rfl, rfl, rfl, by decide +kernel, rfl, by decide +kernel, by decide +kernel⟩
/- _way: 0:sides 1:start 2:runs 3:numbers 4:here 5:many 6:run 7:side 8:places 9:number 10:place 11:fitting -/
theorem sc_way : FnScope ["sides", "start", "runs", "numbers", "here", "many", "run", "side", "places", "number", "place", "fitting"] ["sides", "start", "runs"] (defScope s_way) := ⟨rfl, rfl, rfl, by decide +kernel, rfl, by decide +kernel, by decide +kernel⟩
/- _law_source: 0:_law_script 1:_law_cells 2:_law_k -/
theorem sc_L_source : FnScope ["_law_script", "_law_cells", "_law_k"] ["_law_script"] (defScope s_L_source) := ⟨rfl, rfl, rfl, by decide +kernel, rfl, by decide +kernel, by decide +kernel⟩
/- _law_draw: 0:_law_source_here 1:_law_limit 2:_law_cells 3:_law_turn 4:_law_place 5:_law_cell 6:_law_number -/
theorem sc_L_draw : FnScope ["_law_source_here", "_law_limit", "_law_cells", "_law_turn", "_law_place", "_law_cell", "_law_number"] ["_law_source_here", "_law_limit"] (defScope s_L_draw) := ⟨rfl, rfl, rfl, by decide +kernel, rfl, by decide +kernel, by decide +kernel⟩
/- _law_pick: 0:_law_source_here 1:_law_values -/
theorem sc_L_pick : FnScope ["_law_source_here", "_law_values"] ["_law_source_here", "_law_values"] (defScope s_L_pick) := ⟨rfl, rfl, rfl, by decide +kernel, rfl, by decide +kernel, by decide +kernel⟩
/- _law_great: 0:_law_source_here 1:_law_limit 2:_law_total 3:_law_k -/
theorem sc_L_great : FnScope ["_law_source_here", "_law_limit", "_law_total", "_law_k"] ["_law_source_here", "_law_limit"] (defScope s_L_great) := ⟨rfl, rfl, rfl, by decide +kernel, rfl, by decide +kernel, by decide +kernel⟩
/- _law_ten: 0:_law_many 1:_law_found 2:_law_k -/
theorem sc_L_ten : FnScope ["_law_many", "_law_found", "_law_k"] ["_law_many"] (defScope s_L_ten) := ⟨rfl, rfl, rfl, by decide +kernel, rfl, by decide +kernel, by decide +kernel⟩
/- _law_step: 0:_law_source_here 1:_law_most 2:_law_joint -/
theorem sc_L_step : FnScope ["_law_source_here", "_law_most", "_law_joint"] ["_law_source_here", "_law_most"] (defScope s_L_step) := ⟨rfl, rfl, rfl, by decide +kernel, rfl, by decide +kernel, by decide +kernel⟩
/- _law_side: 0:_law_source_here 1:_law_most 2:_law_steps 3:_law_offset -/
theorem sc_L_side : FnScope ["_law_source_here", "_law_most", "_law_steps", "_law_offset"] ["_law_source_here", "_law_most"] (defScope s_L_side) := ⟨rfl, rfl, rfl, by decide +kernel, rfl, by decide +kernel, by decide +kernel⟩
/- _law_written: 0:_law_side_here 1:_law_value 2:_law_offset 3:_law_steps 4:_law_mode 5:_law_figure 6:_law_rest 7:_law_more -/
theorem sc_L_written : FnScope ["_law_side_here", "_law_value", "_law_offset", "_law_steps", "_law_mode", "_law_figure", "_law_rest", "_law_more"] ["_law_side_here", "_law_value"] (defScope s_L_written) := ⟨rfl, rfl, rfl, by decide +kernel, rfl, by decide +kernel, by decide +kernel⟩
/- _law_divisor: 0:_law_one 1:_law_other -/
theorem sc_L_divisor : FnScope ["_law_one", "_law_other"] ["_law_one", "_law_other"] (defScope s_L_divisor) := ⟨rfl, rfl, rfl, by decide +kernel, rfl, by decide +kernel, by decide +kernel⟩
/- _law_period: 0:_law_sides 1:_law_period_here 2:_law_offset 3:_law_steps 4:_law_mode 5:_law_length -/
theorem sc_L_period : FnScope ["_law_sides", "_law_period_here", "_law_offset", "_law_steps", "_law_mode", "_law_length"] ["_law_sides"] (defScope s_L_period) := ⟨rfl, rfl, rfl, by decide +kernel, rfl, by decide +kernel, by decide +kernel⟩
/- _law_levels: 0:_law_sides 1:_law_start 2:_law_most 3:_law_known 4:_law_level 5:_law_further 6:_law_now 7:_law_number 8:_law_mark 9:_law_path -/
theorem sc_L_levels : FnScope ["_law_sides", "_law_start", "_law_most", "_law_known", "_law_level", "_law_further", "_law_now", "_law_number", "_law_mark", "_law_path"] ["_law_sides", "_law_start", "_law_most"] (defScope s_L_levels) := ⟨rfl, rfl, rfl, by decide +kernel, rfl, by decide +kernel, by decide +kernel⟩
/- _law_holds: 0:_law_run 1:_law_value -/
theorem sc_L_holds : FnScope ["_law_run", "_law_value"] ["_law_run", "_law_value"] (defScope s_L_holds) := ⟨rfl, rfl, rfl, by decide +kernel, rfl, by decide +kernel, by decide +kernel⟩
/- law: 0:_law_script 1:_law_source_here 2:_law_turn 3:_law_k 4:_law_sides 5:_law_period_here 6:_law_start 7:_law_known 8:_law_kept 9:_law_value 10:_law_found 11:_law_due 12:_law_three 13:_law_caught 14:e -/
theorem sc_law : FnScope ["_law_script", "_law_source_here", "_law_turn", "_law_k", "_law_sides", "_law_period_here", "_law_start", "_law_known", "_law_kept", "_law_value", "_law_found", "_law_due", "_law_three", "_law_caught", "e"] ["_law_script"] (defScope s_law) := ⟨rfl, rfl, rfl, by decide +kernel, rfl, by decide +kernel, by decide +kernel⟩


end HT
namespace L2
open PySem PySem.Spec PyProof.Rows
/-- powers of great numbers -/
def CPowW (i j : Int) : Prop := 0 ≤ j ∧ (Builtin.Int.intBits i : Int) * j ≤ 2 ^ 27
theorem op_powW {X : Cx} : OpR X (binaryOp .Pow) (rI CPowW fun i j => .int (i ^ j.toNat)) := opI fun _ _ _ _ _ _ _ hc q => pow_int hc.1 hc.2 q
end L2
namespace HT
open PySem L2
/-- the law's source of draws: a list of its cells' list and the turn -/
structure Src (H : Hp) (a c : Addr) (t : Nat) : Prop where
  ne : a ≠ c
  ob : H a = some (.lst [.ref c, .int (t : Int)])
  cl : ∃ cs : List Int, H c = some (.lst (cs.map V.int)) ∧ 0 < cs.length ∧ cs.length ≤ 63
/-- nothing else is touched -/
def Oth (a c : Addr) (H H' : Hp) : Prop := ∀ b o, H b = some o → b ≠ a → b ≠ c → H' b = some o
theorem Oth.refl (a c : Addr) (H : Hp) : Oth a c H H := fun _ _ h _ _ => h
theorem Oth.trans {a c : Addr} {H H1 H2 : Hp} (x : Oth a c H H1) (y : Oth a c H1 H2) : Oth a c H H2 := fun b o h n m => y b o (x b o h n m) n m
theorem Oth.new {a c p : Addr} {H H1 : Hp} {o : HO} (x : Oth a c H H1) (n : H1 p = none) : Oth a c H (upd H1 p o) := fun b u h na nc => by
  rw [upd_ne (ne_of_none (x b u h na nc) n)]
  exact x b u h na nc
theorem Src.new {a c p : Addr} {H : Hp} {t : Nat} {o : HO} (S : Src H a c t) (n : H p = none) : Src (upd H p o) a c t := by
  obtain ⟨cs, h, l⟩ := S.cl
  exact ⟨S.ne, by rw [upd_ne (ne_of_none S.ob n)]; exact S.ob, cs, by rw [upd_ne (ne_of_none h n)]; exact h, l⟩
theorem Src.of_same {a c : Addr} {H H' : Hp} {t : Nat} (S : Src H a c t) (e : Same H H') : Src H' a c t := by
  obtain ⟨cs, h, l⟩ := S.cl
  exact ⟨S.ne, e _ _ S.ob, cs, e _ _ h, l⟩
theorem Src.na {a c p : Addr} {H : Hp} {t : Nat} (S : Src H a c t) (n : H p = none) : p ≠ a ∧ p ≠ c := by
  obtain ⟨cs, h, l⟩ := S.cl
  exact ⟨(ne_of_none S.ob n).symm, (ne_of_none h n).symm⟩
theorem Src.nt {a c p : Addr} {H : Hp} {t : Nat} {xs : List V} (S : Src H a c t) (n : H p = some (.tup xs)) : p ≠ a ∧ p ≠ c := by
  obtain ⟨cs, h, l⟩ := S.cl
  exact ⟨ne_of n S.ob (by intro z; cases z), ne_of n h (by intro z; cases z)⟩
def spSource (K : PySem.W.Frag) : Sp := fun vs H Q _ => ∃ (l : Addr) (ns : List Int), vs = [.ref l] ∧ SqL K H l (ns.map V.int) ∧ ns.length ≤ 63 ∧
  ∀ a c H', Same H H' → H a = none → H c = none → Src H' a c 0 → Q (.ref a) H'
def spDraw : Sp := fun vs H Q _ => ∃ (a c : Addr) (t : Nat) (lim : Int), vs = [.ref a, .int lim] ∧ Src H a c t ∧ t < 2 ^ 30 ∧ 0 < lim ∧ lim.natAbs.log2 < 9000 ∧
  ∀ k H', 0 ≤ k → k < lim → Src H' a c (t + 1) → Oth a c H H' → Q (.int k) H'
/-- what the walk asks of the names that the text does not bind -/
structure Blt (mg : Str → Option Value) : Prop where
  len : mg "len" = none
  abs : mg "abs" = none
  int : mg "int" = none
  range : mg "range" = none
section
variable {P : Program} {w : World} {K : PySem.W.Frag} {mg : Str → Option Value} {base : Heap}
theorem fdiv_ok (i : Int) {j : Int} (h : 0 < j) (h9 : j.natAbs.log2 < 9000) : CDivW i j := ⟨h, h9⟩
theorem atI_in {xs : List Int} {i : Int} (h0 : 0 ≤ i) (h : i < (xs.length : Int)) : atI (xs.map V.int) i = some (.int (xs.getD i.toNat 0)) := by
  have e : ixN (xs.map V.int).length i = some i.toNat := by
    unfold ixN
    rw [List.length_map, if_pos h0, if_pos h]
  unfold atI
  rw [e]
  show (xs.map V.int)[i.toNat]? = _
  have hl : i.toNat < xs.length := by omega
  rw [List.getElem?_map, List.getElem?_eq_getElem hl, List.getD_eq_getElem?_getD, List.getElem?_eq_getElem hl]
  rfl
theorem ixN_in {n : Nat} {i : Int} (h0 : 0 ≤ i) (h : i < (n : Int)) : ixN n i = some i.toNat := by
  unfold ixN
  rw [if_pos h0, if_pos h]
theorem b_mod (x : Int) : -(2 ^ 64) < x % 2147483629 ∧ x % 2147483629 < 2 ^ 64 := by omega
theorem b_mod1 (x : Int) : -(2 ^ 64) < x % 2147483647 ∧ x % 2147483647 < 2 ^ 64 := by omega
theorem b_t {t : Nat} (h : t < 2 ^ 30) : -(2 ^ 64) < (t : Int) ∧ (t : Int) < 2 ^ 64 := by omega
theorem b_tt {t : Nat} (h : t < 2 ^ 30) : -(2 ^ 64) < (t : Int) * t ∧ (t : Int) * t < 2 ^ 64 := by
  have h1 : t * t < 2 ^ 30 * 2 ^ 30 := Nat.mul_lt_mul'' h h
  have h2 : ((t * t : Nat) : Int) = (t : Int) * t := Int.natCast_mul t t
  omega
theorem set_ints (xs : List Int) (j : Nat) (y : Int) : (xs.map V.int).set j (.int y) = (xs.set j y).map V.int := by
  rw [List.map_set]
theorem ok_draw {f : Addr} {fd : FuncData} (F : Fun K "_law_draw" "_law_draw" s_L_draw f fd) (B : Blt mg) : FnOk P w K mg base CX0 1 f fd ["_law_source_here", "_law_limit"] spDraw := by
  refine F.ok sc_L_draw (fun vs H Q E h => ?_) (fun cdv A outer s H vs Q E hr h => ?_)
  · obtain ⟨a, c, t, lim, rfl, _⟩ := h
    rfl
  · obtain ⟨a, c, t, lim, rfl, S, ht, hl0, hl9, q⟩ := h
    obtain ⟨cs, hc, hn0, hn⟩ := S.cl
    have nd := sc_L_draw.nd
    refine ⟨_, pss_cons (ps_asg (pv 0) (pg_unl (n := 2) (by rfl) (pgs_cons (pg_name (i := 2) nd rfl (Or.inl rfl)) (pgs_cons (pg_name (i := 3) nd rfl (Or.inl rfl)) pgs_nil))))
      (pss_cons (ps_set (i := 4) nd rfl (Or.inl rfl) (pe_op op_mod (pe_callTy call_int1 (by rfl) B.int (by decide +kernel) (pa_cons (pv 3) pa_nil)) (pe_callB call_len_seq (by rfl) B.len PySem.boot_len (pa_cons (pv 2) pa_nil))))
      (pss_cons (ps_set (i := 5) nd rfl (Or.inl rfl) (pe_ix ix_list (pv 2) (pv 4) (fun _ _ => rfl)))
      (pss_cons (ps_asg (pe_op op_add (pv 3) pe_int) (pg_sub (pv 0) pe_int set_list))
      (pss_cons (ps_if (pt_cmpR op_ge (pv 5) (pe_op op_pow pe_int pe_int) (nomark _))
        (pss_cons (ps_asg (pe_op op_fdivW (pv 5) (pv 1)) (pg_sub (pv 2) (pv 4) set_list))
          (pss_one (ps_ret (pe_op op_mod (pe_callTy call_int1 (by rfl) B.int (by decide +kernel) (pa_cons (pv 5) pa_nil)) (pv 1))))) pss_nil)
      (pss_cons (ps_set (i := 6) nd rfl (Or.inl rfl) (pe_op op_mod (pe_callTy call_int1 (by rfl) B.int (by decide +kernel) (pa_cons
          (pe_op op_add (pe_op op_add (pe_op op_mul (pe_op op_mod (pe_callTy call_int1 (by rfl) B.int (by decide +kernel) (pa_cons (pv 5) pa_nil)) pe_int) pe_int) (pe_op op_mul (pe_op op_mul (pv 3) (pv 3)) pe_int)) pe_int) pa_nil)) pe_int))
      (pss_cons (ps_set (i := 6) nd rfl (Or.inl rfl) (pe_op op_mod (pe_callTy call_int1 (by rfl) B.int (by decide +kernel) (pa_cons (pe_op op_mul (pv 6) (pv 6)) pa_nil)) pe_int))
      (pss_cons (ps_set (i := 6) nd rfl (Or.inl rfl) (pe_op op_mod (pe_callTy call_int1 (by rfl) B.int (by decide +kernel) (pa_cons (pe_op op_mul (pv 6) (pv 6)) pa_nil)) pe_int))
      (pss_one (ps_ret (pe_op op_mod (pe_callTy call_int1 (by rfl) B.int (by decide +kernel) (pa_cons (pv 6) pa_nil)) (pv 1))))))))))), ?_⟩
    -- _law_cells, _law_turn = _law_source_here
    walk_at "rd"
    refine ⟨a, _, rfl, SqL.of S.ob, rfl, _, _, rfl, _, _, rfl, rfl, ?_⟩
    -- _law_place
    walk_at "rd"
    have hn0' : (0 : Int) < ((cs.map V.int).length : Nat) := by rw [List.length_map]; omega
    refine ⟨c, _, rfl, .inl (SqL.of hc), _, _, rfl, rfl, hn0', ?_⟩
    have hp0 : 0 ≤ (t : Int) % ((cs.map V.int).length : Nat) := Int.emod_nonneg _ (by omega)
    have hp1 : (t : Int) % ((cs.map V.int).length : Nat) < ((cs.map V.int).length : Nat) := Int.emod_lt_of_pos _ hn0'
    have hp1' : (t : Int) % ((cs.map V.int).length : Nat) < (cs.length : Int) := by rw [List.length_map] at hp1 ⊢; exact hp1
    -- _law_cell
    walk_at "rd"
    refine ⟨c, _, _, _, rfl, rfl, SqL.of hc, atI_in hp0 hp1', ?_⟩
    -- _law_source_here[1] = _law_turn + 1
    walk_at "rd"
    refine ⟨a, _, 1, 1, rfl, rfl, S.ob, rfl, ?_⟩
    have S1 : Src (upd H a (.lst ([V.ref c, V.int t].set 1 (.int ((t : Int) + 1))))) a c (t + 1) := ⟨S.ne, by rw [upd_same]; rfl, cs, by rw [upd_ne S.ne.symm]; exact hc, hn0, hn⟩
    have O1 : Oth a c H (upd H a (.lst ([V.ref c, V.int t].set 1 (.int ((t : Int) + 1))))) := fun b o h na _ => by rw [upd_ne na]; exact h
    have hc1 : upd H a (.lst ([V.ref c, V.int t].set 1 (.int ((t : Int) + 1)))) c = some (.lst (cs.map V.int)) := by rw [upd_ne S.ne.symm]; exact hc
    generalize upd H a (.lst ([V.ref c, V.int t].set 1 (.int ((t : Int) + 1)))) = H1 at S1 O1 hc1 ⊢
    -- if _law_cell >= 10 ** 18
    walk_at "rd"
    refine ⟨⟨by decide, by decide, by decide⟩, ?_⟩
    walk_at "rd"
    refine ite2 (fun _ => ?_) (fun _ => ?_)
    · walk_at "rd"
      refine ⟨fdiv_ok _ hl0 hl9, ?_⟩
      walk_at "rd"
      refine ⟨c, _, _, _, rfl, rfl, hc1, ixN_in hp0 hp1, ?_⟩
      walk_at "rd"
      refine ⟨hl0, ?_⟩
      rw [set_ints]
      refine q _ _ (Int.emod_nonneg _ (by omega)) (Int.emod_lt_of_pos _ hl0) ⟨S1.ne, by rw [upd_ne S1.ne]; exact S1.ob, _, upd_same, by rw [List.length_set]; exact hn0, by rw [List.length_set]; exact hn⟩ fun b o h na nc => ?_
      rw [upd_ne nc]
      exact O1 b o h na nc
    · walk_at "rd"
      refine ⟨(by show (0 : Int) < 2147483629; decide), ?_⟩
      walk_at "rd"
      refine ⟨.inl (b_mod _), ?_⟩
      walk_at "rd"
      refine ⟨.inl (b_t ht), ?_⟩
      walk_at "rd"
      refine ⟨.inl (b_tt ht), ?_⟩
      walk_at "rd"
      refine ⟨(by show (0 : Int) < 2147483647; decide), ?_⟩
      walk_at "rd"
      refine ⟨.inl (b_mod1 _), ?_⟩
      walk_at "rd"
      refine ⟨(by show (0 : Int) < 2147483629; decide), ?_⟩
      walk_at "rd"
      refine ⟨.inl (b_mod _), ?_⟩
      walk_at "rd"
      refine ⟨(by show (0 : Int) < 2147483587; decide), ?_⟩
      walk_at "rd"
      refine ⟨hl0, ?_⟩
      exact q _ _ (Int.emod_nonneg _ (by omega)) (Int.emod_lt_of_pos _ hl0) S1 O1
end
end HT
namespace HT
open PySem L2
/-- a def of the text that may be called by its name, and what it promises -/
structure Cal (P : Program) (w : World) (K : PySem.W.Frag) (mg : Str → Option Value) (base : Heap) (x : Str) (k : Nat) (ps : List Str) (sp : Sp) (f : Addr) (fd : FuncData) : Prop where
  ok : FnOk P w K mg base CX0 k f fd ps sp
  gl : mg x = some (.ref f)
  kp : PySem.W.keepIn K (.ref f) = true
  bd : Binds K fd ps []
theorem pcl {X : Cx} {x : Str} {k j : Nat} {ps : List Str} {sp : Sp} {f : Addr} {fd : FuncData} {e : Expr} {es : List Expr} {t : TA} {p pos : Pos} (C : Cal X.prog X.w X.K X.mg X.base x k ps sp f fd) (hr : Room j X.A) (hj : k ≤ j) (hg : Gl X x) (ha : PA X (e :: es) t)
    (hdb : (x == ("__debug__" : Str)) = false := by decide) (he : starEach (e :: es) X.env = (false, eval e X.env) :: starEach es X.env := by rfl) (hpl : (backTo pos (starEach es X.env)).any (·.1) = false := by rfl) : PE X (.Call (.Name x p) (e :: es) [] pos) (tCall sp [] E0 t) :=
  pe_call C.ok (hr.mono hj) hg C.gl C.kp C.bd .nil pass0 ha hdb he hpl
section
variable {P : Program} {w : World} {K : PySem.W.Frag} {mg : Str → Option Value} {base : Heap}
theorem cut63 {ns : List Int} (h : ns.length ≤ 63) : cutV (ns.map V.int) none (some 63) = ns.map V.int := by
  have e1 : HT.sIx (ns.map V.int).length 0 none = 0 := rfl
  have e2 : HT.sIx (ns.map V.int).length (ns.map V.int).length (some 63) = (ns.map V.int).length := by
    have := HT.sIx_nat (ns.map V.int).length (ns.map V.int).length 63
    rw [show ((63 : Nat) : Int) = 63 from rfl] at this
    rw [this, List.length_map]
    omega
  unfold cutV
  rw [e1, e2, List.drop_zero, Nat.sub_zero, List.take_length]
theorem dpInts (H : Hp) : ∀ ns : List Int, DpAll K H (ns.map V.int) (ns.map PyData.int)
  | [] => .nil
  | n :: r => .cons (.int n) (dpInts H r)
theorem pow_ok : CPowW ((10 : Int) ^ (60 : Int).toNat) 20 := ⟨by decide, by decide +kernel⟩
theorem pow_pos' : (0 : Int) < ((10 : Int) ^ (60 : Int).toNat) ^ (20 : Int).toNat := by decide +kernel
theorem ok_source {f : Addr} {fd : FuncData} (F : Fun K "_law_source" "_law_source" s_L_source f fd) (B : Blt mg) : FnOk P w K mg base CX0 1 f fd ["_law_script"] (spSource K) := by
  refine F.ok sc_L_source (fun vs H Q E h => ?_) (fun cdv A outer s H vs Q E hr h => ?_)
  · obtain ⟨l, ns, rfl, _⟩ := h
    rfl
  · obtain ⟨l, ns, rfl, hL, hn, q⟩ := h
    have nd := sc_L_source.nd
    refine ⟨_, pss_cons (ps_set (i := 1) nd rfl (Or.inl rfl) (pe_slice sl_list (pv 0) po_none (po_some pe_int)))
      (pss_cons (ps_for PassesOwn.never rfl (pi_range1 (by rfl) B.range (pa_cons (pe_callB call_len_seq (by rfl) B.len PySem.boot_len (pa_cons (pv 1) pa_nil)) pa_nil)) (pg_name (i := 2) nd rfl (Or.inl rfl))
        (pss_one (ps_if (pt_cmpR op_ge (pe_callB call_abs (by rfl) B.abs (by decide +kernel) (pa_cons (pe_ix ix_list (pv 1) (pv 2) (fun _ _ => rfl)) pa_nil)) (pe_op op_pow pe_int pe_int) (nomark _))
          (pss_one (ps_asg (pe_op op_mod (pe_callTy call_int1 (by rfl) B.int (by decide +kernel) (pa_cons (pe_ix ix_list (pv 1) (pv 2) (fun _ _ => rfl)) pa_nil)) (pe_op op_powW (pe_op op_pow pe_int pe_int) pe_int)) (pg_sub (pv 1) (pv 2) set_list))) pss_nil)))
      (pss_cons (ps_if (pt_cmpR (op_eqD hr.units) (pv 1) (pe_lst pa_nil) (nomark _)) (pss_one (ps_set (i := 1) nd rfl (Or.inl rfl) (pe_lst (pa_cons pe_int pa_nil)))) pss_nil)
      (pss_one (ps_ret (pe_lst (pa_cons (pv 1) (pa_cons pe_int pa_nil))))))), ?_⟩
    walk_at "rd"
    refine ⟨l, _, rfl, hL, fun p np => ?_⟩
    rw [cut63 hn]
    walk_at "rd"
    refine ⟨p, _, rfl, .inl (SqL.of upd_same), _, rfl, by omega, ?_, ?_⟩
    · show ((ns.map V.int).length : Int) < 2 ^ 62
      rw [List.length_map]
      omega
    have en : ((ns.map V.int).length : Int).toNat = ns.length := by rw [List.length_map]; omega
    rw [en]
    refine for_range (fun i σ H' => ∃ (cs : List Int) (kv : Option V), σ = [some (.ref l), some (.ref p), kv] ∧ H' p = some (.lst (cs.map V.int)) ∧ cs.length = ns.length ∧ Same H H') ⟨ns, none, rfl, upd_same, rfl, fun b o e => by rw [upd_ne (ne_of_none e np)]; exact e⟩ ?_ ?_
    · rintro i σ H' hi ⟨cs, kv, rfl, hp, hl, sm⟩
      have h0 : (0 : Int) ≤ 0 + (i : Int) := by omega
      have h1 : (0 : Int) + (i : Int) < (cs.length : Int) := by omega
      walk_at "rd"
      refine ⟨p, _, _, _, rfl, rfl, SqL.of hp, atI_in h0 h1, ?_⟩
      walk_at "rd"
      refine ⟨⟨by decide, by decide, by decide⟩, ?_⟩
      walk_at "rd"
      refine ite2 (fun _ => ?_) (fun _ => ?_)
      · walk_at "rd"
        refine ⟨p, _, _, _, rfl, rfl, SqL.of hp, atI_in h0 h1, ?_⟩
        walk_at "rd"
        refine ⟨⟨by decide, by decide, by decide⟩, ?_⟩
        walk_at "rd"
        refine ⟨pow_ok, ?_⟩
        walk_at "rd"
        refine ⟨pow_pos', ?_⟩
        walk_at "rd"
        refine ⟨p, _, _, _, rfl, rfl, hp, ixN_in h0 (by rw [List.length_map]; exact h1), ?_⟩
        rw [set_ints]
        exact ⟨_, _, rfl, upd_same, by rw [List.length_set]; exact hl, fun b o e => by rw [upd_ne (ne_of_none e np)]; exact sm b o e⟩
      · exact ⟨cs, _, rfl, hp, hl, sm⟩
    · rintro σ H' ⟨cs, kv, rfl, hp, hl, sm⟩
      walk_at "rd"
      refine ⟨by decide, fun e ne => ?_⟩
      have hpe : upd H' e (.lst []) p = some (.lst (cs.map V.int)) := by rw [upd_ne (ne_of_none hp ne)]; exact hp
      have sm1 : Same H (upd H' e (.lst [])) := fun b o z => by rw [upd_ne (ne_of_none (sm b o z) ne)]; exact sm b o z
      refine ⟨_, _, .lst (SqL.of hpe) (dpInts _ cs), .lst (SqL.of upd_same) .nil, PySem.W.ke_shaped_ints cs, by decide +kernel, ?_⟩
      walk_at "rd"
      have hb : PyData.eqv (.list (cs.map PyData.int)) (.list []) = decide (cs = []) := by
        have z := PySem.W.ked_eqvAll cs []
        rw [← z]
        rfl
      rw [hb]
      refine ite2 (fun _ => ?_) (fun hne => ?_)
      · walk_at "rd"
        refine ⟨by decide, fun c nc => ?_⟩
        walk_at "rd"
        refine ⟨(by show 2 ≤ sizeLine; decide), fun a na => ?_⟩
        have sm2 : Same H (upd (upd H' e (.lst [])) c (.lst [.int 0])) := fun b o z => by rw [upd_ne (ne_of_none (sm1 b o z) nc)]; exact sm1 b o z
        have nac : a ≠ c := (ne_of_none upd_same na).symm
        refine q a c _ (fun b o z => by rw [upd_ne (ne_of_none (sm2 b o z) na)]; exact sm2 b o z) (sm2.free na) (sm1.free nc) ⟨nac, upd_same, [0], by rw [upd_ne nac.symm]; exact upd_same, by decide, by decide⟩
      · walk_at "rd"
        refine ⟨(by show 2 ≤ sizeLine; decide), fun a na => ?_⟩
        have nap : a ≠ p := (ne_of_none hpe na).symm
        refine q a p _ (fun b o z => by rw [upd_ne (ne_of_none (sm1 b o z) na)]; exact sm1 b o z) (sm1.free na) np ⟨nap, upd_same, cs, by rw [upd_ne nap.symm]; exact hpe, ?_, by omega⟩
        have : cs ≠ [] := fun z => hne (decide_eq_true z)
        exact List.length_pos_iff.mpr this
end
end HT
namespace HT
open PySem L2
/-- a def of which errors may come, and its call -/
structure CalX (P : Program) (w : World) (K : PySem.W.Frag) (mg : Str → Option Value) (base : Heap) (x : Str) (k : Nat) (ps : List Str) (sp : Sp) (f : Addr) (fd : FuncData) : Prop where
  ok : FnOk P w K mg base (L2.CX P w) k f fd ps sp
  mgf : mg x = some (.ref f)
  kp : PySem.W.keepIn K (.ref f) = true
  b : Binds K fd ps []
theorem pcx {X : Cx} {x : Str} {k j : Nat} {ps : List Str} {sp : Sp} {f : Addr} {fd : FuncData} {e : Expr} {es : List Expr} {t : TA} {p pos : Pos} {W : WX} (C : CalX X.prog X.w X.K X.mg X.base x k ps sp f fd) (hr : Room j X.A) (hj : k ≤ j) (hg : Gl X x) (tk : L2.Takes X W) (ha : PA X (e :: es) t)
    (hdb : (x == ("__debug__" : Str)) = false := by decide) (he : starEach (e :: es) X.env = (false, eval e X.env) :: starEach es X.env := by rfl) (hpl : (backTo pos (starEach es X.env)).any (·.1) = false := by rfl) : PE X (.Call (.Name x p) (e :: es) [] pos) (tCallS sp (WE W) t) :=
  pe_callS C.ok (hr.mono hj) hg C.mgf C.kp C.b (fun σ => L2.passAt tk σ) ha hdb he hpl
end HT
namespace HT
open PySem L2
/-- the modes -/
def Mode (m : Str) : Prop := m = "down" ∨ m = "up" ∨ m = "half_down" ∨ m = "half_up" ∨ m = "half_even"
/-- a side's parts -/
structure SideP (o s : Int) (m : Str) : Prop where
  o0 : -10 ^ 40 ≤ o
  o1 : o ≤ 10 ^ 40
  s0 : 1 ≤ s
  s1 : s ≤ 10 ^ 30
  md : Mode m
def sideV (o s : Int) (m : Str) : HO := .tup [.int o, .int s, .str m]
theorem mode_of {x : V} (h : x ∈ [V.str "down", .str "up", .str "half_down", .str "half_up", .str "half_even"]) : ∃ m : Str, x = .str m ∧ Mode m := by
  simp only [List.mem_cons, List.not_mem_nil, or_false] at h
  rcases h with h | h | h | h | h
  · exact ⟨_, h, .inl rfl⟩
  · exact ⟨_, h, .inr (.inl rfl)⟩
  · exact ⟨_, h, .inr (.inr (.inl rfl))⟩
  · exact ⟨_, h, .inr (.inr (.inr (.inl rfl)))⟩
  · exact ⟨_, h, .inr (.inr (.inr (.inr rfl)))⟩
structure MaxT (mg : Str → Option Value) : Prop where
  max : mg "max" = none
  min : mg "min" = none
end HT
namespace HT
open PySem L2
def spPick : Sp := fun vs H Q _ => ∃ (a c : Addr) (t : Nat) (l : Addr) (xs : List V), vs = [.ref a, .ref l] ∧ Src H a c t ∧ t < 2 ^ 30 ∧ H l = some (.lst xs) ∧ l ≠ a ∧ l ≠ c ∧ 0 < xs.length ∧ xs.length < 2 ^ 60 ∧
  ∀ x H', x ∈ xs → Src H' a c (t + 1) → Oth a c H H' → Q x H'
theorem lg_nat {n : Nat} (h : n < 2 ^ 200) : ((n : Int)).natAbs.log2 < 9000 := by
  rw [Int.natAbs_natCast]
  by_cases e : n = 0
  · rw [e]; decide
  · have := (Nat.log2_lt e).mpr h
    omega
section
variable {P : Program} {w : World} {K : PySem.W.Frag} {mg : Str → Option Value} {base : Heap} {fD fP fG : Addr} {dD dP dG : FuncData}
theorem ok_pick {f : Addr} {fd : FuncData} (F : Fun K "_law_pick" "_law_pick" s_L_pick f fd) (B : Blt mg) (D : Cal P w K mg base "_law_draw" 1 ["_law_source_here", "_law_limit"] spDraw fD dD) :
    FnOk P w K mg base CX0 2 f fd ["_law_source_here", "_law_values"] spPick := by
  refine F.ok sc_L_pick (fun vs H Q E h => ?_) (fun cdv A outer s H vs Q E hr h => ?_)
  · obtain ⟨a, c, t, l, xs, rfl, _⟩ := h
    rfl
  · obtain ⟨a, c, t, l, xs, rfl, S, ht, hl, na, nc, h0, h1, q⟩ := h
    refine ⟨_, pss_one (ps_ret (pe_ix ix_list (pv 1) (pcl D hr (by decide) (by rfl) (pa_cons (pv 0) (pa_cons (pe_callB call_len_seq (by rfl) B.len PySem.boot_len (pa_cons (pv 1) pa_nil)) pa_nil))) (fun _ _ => rfl))), ?_⟩
    walk_at "rd"
    refine ⟨l, _, rfl, .inl (SqL.of hl), ?_⟩
    have p1 : (0 : Int) < (xs.length : Int) := by omega
    refine ⟨a, c, t, _, rfl, S, ht, p1, lg_nat (Nat.lt_of_lt_of_le h1 (Nat.pow_le_pow_right (by decide) (by decide))), fun k H' k0 k1 S' O => ?_⟩
    have hl' : k.toNat < xs.length := by omega
    have e : atI xs k = some xs[k.toNat] := by
      unfold atI
      rw [ixN_in k0 k1]
      exact List.getElem?_eq_getElem hl'
    refine ⟨l, _, _, _, rfl, rfl, SqL.of (O _ _ hl na nc), e, ?_⟩
    exact q _ _ (List.getElem_mem hl') S' O
end
end HT
namespace HT
open PySem L2
/-! ### the mathematics of a side -/
def goesUp (m : Str) (s q r : Int) : Bool := if m = "down" then false else if m = "up" then decide (0 < r) else if 2 * r = s then (if m = "half_even" then decide (q % 2 = 1) else decide (m = "half_up")) else decide (s < 2 * r)
/-- the figure to which v comes -/
def figM (o s : Int) (m : Str) (v : Int) : Int := if goesUp m s ((v - o) / s) ((v - o) % s) = true then (v - o) / s + 1 else (v - o) / s
def dueM (o s : Int) (m : Str) (v : Int) : Int := o + s * figM o s m v
theorem d_u : ¬ (("up" : Str) = "down") := by decide +kernel
theorem hd_d : ¬ (("half_down" : Str) = "down") := by decide +kernel
theorem hd_u : ¬ (("half_down" : Str) = "up") := by decide +kernel
theorem hu_d : ¬ (("half_up" : Str) = "down") := by decide +kernel
theorem hu_u : ¬ (("half_up" : Str) = "up") := by decide +kernel
theorem he_d : ¬ (("half_even" : Str) = "down") := by decide +kernel
theorem he_u : ¬ (("half_even" : Str) = "up") := by decide +kernel
theorem hd_e : ¬ (("half_down" : Str) = "half_even") := by decide +kernel
theorem hu_e : ¬ (("half_up" : Str) = "half_even") := by decide +kernel
theorem hd_hu : ¬ (("half_down" : Str) = "half_up") := by decide +kernel
theorem he_hu : ¬ (("half_even" : Str) = "half_up") := by decide +kernel
theorem u_hd : ¬ (("up" : Str) = "half_down") := by decide +kernel
theorem hu_hd : ¬ (("half_up" : Str) = "half_down") := by decide +kernel
theorem he_hd : ¬ (("half_even" : Str) = "half_down") := by decide +kernel
theorem go_down (s q r : Int) : goesUp "down" s q r = false := by unfold goesUp; rw [if_pos rfl]
theorem go_up (s q r : Int) : goesUp "up" s q r = decide (0 < r) := by unfold goesUp; rw [if_neg d_u, if_pos rfl]
theorem go_hd (s q r : Int) : goesUp "half_down" s q r = decide (s < 2 * r) := by
  unfold goesUp
  rw [if_neg hd_d, if_neg hd_u, if_neg hd_e, decide_eq_false hd_hu]
  by_cases h : 2 * r = s
  · rw [if_pos h, decide_eq_false (by omega)]
  · rw [if_neg h]
theorem go_hu (s q r : Int) : goesUp "half_up" s q r = decide (s ≤ 2 * r) := by
  unfold goesUp
  rw [if_neg hu_d, if_neg hu_u, if_neg hu_e, decide_eq_true rfl]
  by_cases h : 2 * r = s
  · rw [if_pos h, decide_eq_true (by omega)]
  · rw [if_neg h]
    by_cases g : s < 2 * r
    · rw [decide_eq_true g, decide_eq_true (by omega)]
    · rw [decide_eq_false g, decide_eq_false (by omega)]
theorem go_he (s q r : Int) : goesUp "half_even" s q r = (decide (s < 2 * r) || (decide (2 * r = s) && decide (q % 2 = 1))) := by
  unfold goesUp
  rw [if_neg he_d, if_neg he_u, if_pos rfl]
  by_cases h : 2 * r = s
  · rw [if_pos h, decide_eq_false (show ¬ s < 2 * r by omega), decide_eq_true h]
    rfl
  · rw [if_neg h, decide_eq_false h]
    simp
/-- what is known of a figure -/
structure Fig (o s : Int) (m : Str) (v q r k : Int) : Prop where
  eq : v - o = s * q + r
  r0 : 0 ≤ r
  r1 : r < s
  wh : (goesUp m s q r = true ∧ k = q + 1) ∨ (goesUp m s q r = false ∧ k = q)
theorem fig_of {o s : Int} {m : Str} {v : Int} (hs : 1 ≤ s) : Fig o s m v ((v - o) / s) ((v - o) % s) (figM o s m v) := by
  refine ⟨?_, Int.emod_nonneg _ (by omega), Int.emod_lt_of_pos _ (by omega), ?_⟩
  · have := Int.mul_ediv_add_emod (v - o) s
    omega
  · unfold figM
    cases h : goesUp m s ((v - o) / s) ((v - o) % s)
    · exact .inr ⟨rfl, by simp⟩
    · exact .inl ⟨rfl, by simp⟩
theorem divmod_eq {s q r x : Int} (hs : 1 ≤ s) (h : x = s * q + r) (r0 : 0 ≤ r) (r1 : r < s) : x / s = q ∧ x % s = r := by
  subst h
  constructor
  · rw [Int.add_comm, Int.add_mul_ediv_left _ _ (by omega), Int.ediv_eq_zero_of_lt r0 r1]
    omega
  · rw [Int.add_comm, Int.add_mul_emod_self_left]
    exact Int.emod_eq_of_lt r0 r1
theorem fig_uniq {o s : Int} {m : Str} {v q r k : Int} (hs : 1 ≤ s) (F : Fig o s m v q r k) : figM o s m v = k := by
  obtain ⟨e1, e2⟩ := divmod_eq hs F.eq F.r0 F.r1
  unfold figM
  rw [e1, e2]
  rcases F.wh with ⟨h, e⟩ | ⟨h, e⟩
  · rw [h, if_pos rfl, e]
  · rw [h, if_neg (by decide), e]
/-- going up wants a rest, and not going up a small one -/
theorem go_pos {m : Str} {s q r : Int} (hm : Mode m) (hs : 1 ≤ s) (r0 : 0 ≤ r) (h : goesUp m s q r = true) : 0 < r := by
  rcases hm with e | e | e | e | e <;> subst e
  · rw [go_down] at h; cases h
  · rw [go_up] at h; exact of_decide_eq_true h
  · rw [go_hd] at h; have := of_decide_eq_true h; omega
  · rw [go_hu] at h; have := of_decide_eq_true h; omega
  · rw [go_he, Bool.or_eq_true, Bool.and_eq_true] at h
    rcases h with h | ⟨h, _⟩ <;> have := of_decide_eq_true h <;> omega
theorem due_near {o s : Int} {m : Str} {v : Int} (hm : Mode m) (hs : 1 ≤ s) : dueM o s m v - v < s ∧ v - dueM o s m v < s := by
  have F := fig_of (o := o) (m := m) (v := v) hs
  unfold dueM
  generalize (v - o) / s = q at F
  generalize (v - o) % s = r at F
  obtain ⟨eq, r0, r1, wh⟩ := F
  rcases wh with ⟨h, e⟩ | ⟨h, e⟩
  · have := go_pos hm hs r0 h
    rw [e, Int.mul_add, Int.mul_one]
    generalize s * q = z at eq ⊢
    omega
  · rw [e]
    generalize s * q = z at eq ⊢
    omega
def half (m : Str) : Prop := m = "half_down" ∨ m = "half_up" ∨ m = "half_even"
theorem due_half {o s : Int} {m : Str} {v : Int} (hm : half m) (hs : 1 ≤ s) : 2 * (dueM o s m v - v) ≤ s ∧ 2 * (v - dueM o s m v) ≤ s := by
  have F := fig_of (o := o) (m := m) (v := v) hs
  unfold dueM
  generalize (v - o) / s = q at F
  generalize (v - o) % s = r at F
  obtain ⟨eq, r0, r1, wh⟩ := F
  have hb : (goesUp m s q r = true → s ≤ 2 * r) ∧ (goesUp m s q r = false → 2 * r ≤ s) := by
    rcases hm with e | e | e <;> subst e
    · rw [go_hd]; exact ⟨fun h => by have := of_decide_eq_true h; omega, fun h => by have := of_decide_eq_false h; omega⟩
    · rw [go_hu]; exact ⟨fun h => by have := of_decide_eq_true h; omega, fun h => by have := of_decide_eq_false h; omega⟩
    · rw [go_he]
      refine ⟨fun h => ?_, fun h => ?_⟩
      · rw [Bool.or_eq_true, Bool.and_eq_true] at h
        rcases h with h | ⟨h, _⟩ <;> have := of_decide_eq_true h <;> omega
      · rw [Bool.or_eq_false_iff] at h
        have := of_decide_eq_false h.1
        omega
  rcases wh with ⟨h, e⟩ | ⟨h, e⟩
  · have := hb.1 h
    rw [e, Int.mul_add, Int.mul_one]
    generalize s * q = z at eq ⊢
    omega
  · have := hb.2 h
    rw [e]
    generalize s * q = z at eq ⊢
    omega
theorem go_zero {m : Str} {s q : Int} (hm : Mode m) (hs : 1 ≤ s) : goesUp m s q 0 = false := by
  cases h : goesUp m s q 0 with
  | false => rfl
  | true => exact absurd (go_pos hm hs (Int.le_refl _) h) (by omega)
/-- what is written stands and is written as it is -/
theorem fig_at {o s k : Int} {m : Str} (hm : Mode m) (hs : 1 ≤ s) : figM o s m (o + s * k) = k :=
  fig_uniq (q := k) (r := 0) hs ⟨by omega, Int.le_refl _, by omega, .inr ⟨go_zero hm hs, rfl⟩⟩
theorem stands_at {o s k : Int} : (o + s * k - o) % s = 0 := by
  rw [show o + s * k - o = s * k by omega]
  exact Int.mul_emod_right s k
theorem due_eq {o s : Int} {m : Str} {v : Int} (hm : Mode m) (hs : 1 ≤ s) : (v - o) % s = 0 ↔ dueM o s m v = v := by
  have F := fig_of (o := o) (m := m) (v := v) hs
  unfold dueM
  generalize (v - o) / s = q at F
  generalize (v - o) % s = r at F ⊢
  obtain ⟨eq, r0, r1, wh⟩ := F
  rcases wh with ⟨h, e⟩ | ⟨h, e⟩
  · have := go_pos hm hs r0 h
    rw [e, Int.mul_add, Int.mul_one]
    generalize s * q = z at eq ⊢
    omega
  · rw [e]
    generalize s * q = z at eq ⊢
    omega
theorem go_mono {m : Str} {s q r : Int} (hm : Mode m) (h : goesUp m s q r = true) : goesUp m s q (r + 1) = true := by
  rcases hm with e | e | e | e | e <;> subst e
  · rw [go_down] at h; cases h
  · rw [go_up] at h ⊢; have := of_decide_eq_true h; exact decide_eq_true (by omega)
  · rw [go_hd] at h ⊢; have := of_decide_eq_true h; exact decide_eq_true (by omega)
  · rw [go_hu] at h ⊢; have := of_decide_eq_true h; exact decide_eq_true (by omega)
  · rw [go_he] at h ⊢
    have : s ≤ 2 * r := by
      rw [Bool.or_eq_true, Bool.and_eq_true] at h
      rcases h with h | ⟨h, _⟩ <;> have := of_decide_eq_true h <;> omega
    rw [decide_eq_true (show s < 2 * (r + 1) by omega)]
    rfl
theorem fig_mono {o s : Int} {m : Str} {v : Int} (hm : Mode m) (hs : 1 ≤ s) : figM o s m v ≤ figM o s m (v + 1) := by
  have F := fig_of (o := o) (m := m) (v := v) hs
  generalize (v - o) / s = q at F
  generalize (v - o) % s = r at F
  obtain ⟨eq, r0, r1, wh⟩ := F
  by_cases hr : r + 1 < s
  · cases g : goesUp m s q (r + 1) with
    | true =>
      rw [fig_uniq (v := v + 1) (q := q) (r := r + 1) (k := q + 1) hs ⟨by omega, by omega, hr, .inl ⟨g, rfl⟩⟩]
      rcases wh with ⟨_, e⟩ | ⟨_, e⟩ <;> omega
    | false =>
      rw [fig_uniq (v := v + 1) (q := q) (r := r + 1) (k := q) hs ⟨by omega, by omega, hr, .inr ⟨g, rfl⟩⟩]
      rcases wh with ⟨h, e⟩ | ⟨_, e⟩
      · rw [go_mono hm h] at g
        cases g
      · omega
  · rw [fig_uniq (v := v + 1) (q := q + 1) (r := 0) (k := q + 1) hs ⟨by rw [Int.mul_add, Int.mul_one]; omega, by omega, by omega, .inr ⟨go_zero hm hs, rfl⟩⟩]
    rcases wh with ⟨_, e⟩ | ⟨_, e⟩ <;> omega
theorem due_mono {o s : Int} {m : Str} {v : Int} (hm : Mode m) (hs : 1 ≤ s) : dueM o s m v ≤ dueM o s m (v + 1) := by
  unfold dueM
  have := Int.mul_le_mul_of_nonneg_left (fig_mono (o := o) (v := v) hm hs) (show 0 ≤ s by omega)
  omega
theorem go_two {m : Str} {s q r : Int} (hm : Mode m) : goesUp m s (q + 2) r = goesUp m s q r := by
  rcases hm with e | e | e | e | e <;> subst e
  · rw [go_down, go_down]
  · rw [go_up, go_up]
  · rw [go_hd, go_hd]
  · rw [go_hu, go_hu]
  · rw [go_he, go_he, show (q + 2) % 2 = q % 2 by omega]
theorem due_two {o s : Int} {m : Str} {v : Int} (hm : Mode m) (hs : 1 ≤ s) : dueM o s m (v + s * 2) = dueM o s m v + s * 2 := by
  have F := fig_of (o := o) (m := m) (v := v) hs
  unfold dueM
  generalize (v - o) / s = q at F
  generalize (v - o) % s = r at F
  obtain ⟨eq, r0, r1, wh⟩ := F
  rw [fig_uniq (v := v + s * 2) (q := q + 2) (r := r) (k := figM o s m v + 2) hs ⟨by rw [Int.mul_add]; omega, r0, r1, ?_⟩, Int.mul_add]
  · omega
  · rw [go_two hm]
    rcases wh with ⟨h, e⟩ | ⟨h, e⟩
    · exact .inl ⟨h, by omega⟩
    · exact .inr ⟨h, by omega⟩
/-! ### bounds -/
def Bd (x : Int) : Prop := -2 ^ 1000 < x ∧ x < 2 ^ 1000
theorem div_bd {x s b : Int} (hs : 1 ≤ s) (h0 : -b < x) (h1 : x < b) : -b < x / s ∧ x / s < b := by
  by_cases hx : 0 ≤ x
  · have a := Int.ediv_nonneg hx (show 0 ≤ s by omega)
    have c := Int.ediv_le_self s hx
    omega
  · have a : x ≤ x / s := by
      rw [Int.le_ediv_iff_mul_le (by omega)]
      have := Int.mul_le_mul_of_nonpos_left (show x ≤ 0 by omega) hs
      omega
    have c : x / s < 0 := Int.ediv_neg_of_neg_of_pos (by omega) (by omega)
    omega
end HT
namespace HT
open PySem L2
/-! ### spans -/
def below (m : Str) (s k : Int) : Int := if m = "down" then 0 else if m = "up" then s - 1 else if m = "half_up" ∨ (m = "half_even" ∧ k % 2 = 0) then s / 2 else (s - 1) / 2
def mir (m : Str) : Str := if m = "down" then "up" else if m = "up" then "down" else if m = "half_down" then "half_up" else if m = "half_up" then "half_down" else "half_even"
def lowM (o s : Int) (m : Str) (k : Int) : Int := o + s * k - below m s k
def highM (o s : Int) (m : Str) (k : Int) : Int := o + s * k + below (mir m) s k
theorem mir_d : mir "down" = "up" := by unfold mir; rw [if_pos rfl]
theorem mir_u : mir "up" = "down" := by unfold mir; rw [if_neg d_u, if_pos rfl]
theorem mir_hd : mir "half_down" = "half_up" := by unfold mir; rw [if_neg hd_d, if_neg hd_u, if_pos rfl]
theorem mir_hu : mir "half_up" = "half_down" := by unfold mir; rw [if_neg hu_d, if_neg hu_u, if_neg hu_hd, if_pos rfl]
theorem mir_he : mir "half_even" = "half_even" := by unfold mir; rw [if_neg he_d, if_neg he_u, if_neg he_hd, if_neg he_hu]
theorem be_d (s k : Int) : below "down" s k = 0 := by unfold below; rw [if_pos rfl]
theorem be_u (s k : Int) : below "up" s k = s - 1 := by unfold below; rw [if_neg d_u, if_pos rfl]
theorem be_hd (s k : Int) : below "half_down" s k = (s - 1) / 2 := by
  unfold below
  rw [if_neg hd_d, if_neg hd_u, if_neg]
  rintro (z | ⟨z, _⟩)
  · exact hd_hu z
  · exact hd_e z
theorem be_hu (s k : Int) : below "half_up" s k = s / 2 := by unfold below; rw [if_neg hu_d, if_neg hu_u, if_pos (.inl rfl)]
theorem be_he (s k : Int) : below "half_even" s k = if k % 2 = 0 then s / 2 else (s - 1) / 2 := by
  unfold below
  rw [if_neg he_d, if_neg he_u]
  by_cases h : k % 2 = 0
  · rw [if_pos (.inr ⟨rfl, h⟩), if_pos h]
  · rw [if_neg h, if_neg]
    rintro (z | ⟨_, z⟩)
    · exact he_hu z
    · exact h z
theorem mir_mode {m : Str} (h : Mode m) : Mode (mir m) := by
  rcases h with e | e | e | e | e <;> subst e
  · rw [mir_d]; exact .inr (.inl rfl)
  · rw [mir_u]; exact .inl rfl
  · rw [mir_hd]; exact .inr (.inr (.inr (.inl rfl)))
  · rw [mir_hu]; exact .inr (.inr (.inl rfl))
  · rw [mir_he]; exact .inr (.inr (.inr (.inr rfl)))
theorem below_bd {m : Str} {s k : Int} (h : Mode m) (hs : 1 ≤ s) : 0 ≤ below m s k ∧ below m s k < s := by
  rcases h with e | e | e | e | e <;> subst e
  · rw [be_d]; omega
  · rw [be_u]; omega
  · rw [be_hd]; omega
  · rw [be_hu]; omega
  · rw [be_he]; split <;> omega
theorem up_iff {m : Str} {s q r : Int} (h : Mode m) (r0 : 0 ≤ r) (r1 : r < s) : goesUp m s q r = true ↔ below (mir m) s q < r := by
  rcases h with e | e | e | e | e <;> subst e
  · rw [go_down, mir_d, be_u]
    exact ⟨fun z => (Bool.false_ne_true z).elim, fun z => absurd z (by omega)⟩
  · rw [go_up, mir_u, be_d, decide_eq_true_eq]
  · rw [go_hd, mir_hd, be_hu, decide_eq_true_eq]; omega
  · rw [go_hu, mir_hu, be_hd, decide_eq_true_eq]; omega
  · rw [go_he, mir_he, be_he, Bool.or_eq_true, Bool.and_eq_true, decide_eq_true_eq, decide_eq_true_eq, decide_eq_true_eq]
    split <;> omega
theorem touch {m : Str} {s : Int} (q : Int) (h : Mode m) (hs : 1 ≤ s) : below m s (q + 1) + below (mir m) s q = s - 1 := by
  rcases h with e | e | e | e | e <;> subst e
  · rw [be_d, mir_d, be_u]; omega
  · rw [be_u, mir_u, be_d]; omega
  · rw [be_hd, mir_hd, be_hu]; omega
  · rw [be_hu, mir_hu, be_hd]; omega
  · rw [be_he, mir_he, be_he]; split <;> split <;> omega
theorem mul_lt_step {s q k : Int} (hs : 1 ≤ s) (h : q < k) : s * q + s ≤ s * k := by
  have := Int.mul_le_mul_of_nonneg_left (show q + 1 ≤ k by omega) (show 0 ≤ s by omega)
  rw [Int.mul_add, Int.mul_one] at this
  exact this
/-- a value comes to k just between the ends -/
theorem fig_iff {o s : Int} {m : Str} {v k : Int} (h : Mode m) (hs : 1 ≤ s) : figM o s m v = k ↔ lowM o s m k ≤ v ∧ v ≤ highM o s m k := by
  have F := fig_of (o := o) (m := m) (v := v) hs
  generalize (v - o) / s = q at F
  generalize (v - o) % s = r at F
  generalize figM o s m v = f at F ⊢
  obtain ⟨eq, r0, r1, wh⟩ := F
  have ui := up_iff (q := q) h r0 r1
  have t1 := touch (k - 1) h hs
  rw [show k - 1 + 1 = k by omega] at t1
  have bk := below_bd (k := k) (mir_mode h) hs
  have bk1 := below_bd (k := k - 1) (mir_mode h) hs
  have bq := below_bd (k := q) (mir_mode h) hs
  unfold lowM highM
  have hf : (f = q + 1 ∧ below (mir m) s q < r) ∨ (f = q ∧ r ≤ below (mir m) s q) := by
    rcases wh with ⟨g, e⟩ | ⟨g, e⟩
    · exact .inl ⟨e, ui.mp g⟩
    · refine .inr ⟨e, ?_⟩
      have : ¬ below (mir m) s q < r := fun z => by rw [ui.mpr z] at g; cases g
      omega
  rcases Int.lt_trichotomy q k with hq | hq | hq
  · rcases Int.lt_trichotomy (q + 1) k with hq1 | hq1 | hq1
    · have := mul_lt_step hs (show q + 1 < k from hq1)
      rw [Int.mul_add, Int.mul_one] at this
      generalize s * q = a at *
      generalize s * k = b at *
      constructor
      · intro z; omega
      · intro z; omega
    · have e : q = k - 1 := by omega
      subst e
      have : s * (k - 1) = s * k - s := by rw [Int.mul_sub, Int.mul_one]
      generalize s * (k - 1) = a at *
      generalize s * k = b at *
      constructor
      · intro z; omega
      · intro z; omega
    · omega
  · subst hq
    generalize s * q = a at *
    constructor
    · intro z; omega
    · intro z; omega
  · have := mul_lt_step hs hq
    generalize s * q = a at *
    generalize s * k = b at *
    constructor
    · intro z; omega
    · intro z; omega
theorem low_high {o s : Int} {m : Str} {k : Int} (h : Mode m) (hs : 1 ≤ s) : lowM o s m k ≤ o + s * k ∧ o + s * k ≤ highM o s m k := by
  have a := below_bd (k := k) h hs
  have b := below_bd (k := k) (mir_mode h) hs
  unfold lowM highM
  omega
theorem low_next {o s : Int} {m : Str} (k : Int) (h : Mode m) (hs : 1 ≤ s) : lowM o s m (k + 1) = highM o s m k + 1 := by
  have := touch k h hs
  unfold lowM highM
  rw [Int.mul_add, Int.mul_one]
  omega
theorem high_prev {o s : Int} {m : Str} (k : Int) (h : Mode m) (hs : 1 ≤ s) : highM o s m (k - 1) = lowM o s m k - 1 := by
  have := low_next (o := o) (k - 1) h hs
  rw [show k - 1 + 1 = k by omega] at this
  omega
theorem fig_low {o s : Int} {m : Str} (k : Int) (h : Mode m) (hs : 1 ≤ s) : figM o s m (lowM o s m k) = k := by
  have a := low_high (o := o) (k := k) h hs
  exact (fig_iff h hs).mpr ⟨by omega, by omega⟩
theorem fig_high {o s : Int} {m : Str} (k : Int) (h : Mode m) (hs : 1 ≤ s) : figM o s m (highM o s m k) = k := by
  have a := low_high (o := o) (k := k) h hs
  exact (fig_iff h hs).mpr ⟨by omega, by omega⟩
theorem fig_low1 {o s : Int} {m : Str} (k : Int) (h : Mode m) (hs : 1 ≤ s) : figM o s m (lowM o s m k - 1) = k - 1 := by
  rw [← high_prev k h hs]
  exact fig_high _ h hs
theorem fig_high1 {o s : Int} {m : Str} (k : Int) (h : Mode m) (hs : 1 ≤ s) : figM o s m (highM o s m k + 1) = k + 1 := by
  rw [← low_next k h hs]
  exact fig_low _ h hs
/-- the figure of the least standing value that is not less -/
def ceilM (o s v : Int) : Int := -((o - v) / s)
theorem ceil_eq {o s v : Int} (hs : 1 ≤ s) : v ≤ o + s * ceilM o s v ∧ o + s * (ceilM o s v - 1) < v := by
  have a := Int.mul_ediv_add_emod (o - v) s
  have b := Int.emod_nonneg (o - v) (show s ≠ 0 by omega)
  have c := Int.emod_lt_of_pos (o - v) (show 0 < s by omega)
  unfold ceilM
  rw [Int.mul_sub, Int.mul_one, Int.mul_neg]
  omega
def backM (o s : Int) (m : Str) (v : Int) : Int := lowM o s m (ceilM o s v)
theorem back_ge {o s : Int} {m : Str} {v : Int} (h : Mode m) (hs : 1 ≤ s) : v ≤ dueM o s m (backM o s m v) := by
  unfold dueM backM
  rw [fig_low _ h hs]
  exact (ceil_eq hs).1
theorem back_lt {o s : Int} {m : Str} {v : Int} (h : Mode m) (hs : 1 ≤ s) : dueM o s m (backM o s m v - 1) < v := by
  unfold dueM backM
  rw [fig_low1 _ h hs]
  exact (ceil_eq hs).2
theorem mul_b {s k : Int} (s0 : 1 ≤ s) (s1 : s ≤ 10 ^ 30) (h : -2 ^ 720 < k ∧ k < 2 ^ 720) : -2 ^ 820 < s * k ∧ s * k < 2 ^ 820 := by
  have h1 : (s * k).natAbs < 2 ^ (100 + 720) := wide_lt (a := 100) (b := 720) (by omega) (by omega)
  omega
end HT
namespace HT
open PySem L2
theorem lg_big {n : Int} (h0 : 0 ≤ n) (h : n < 2 ^ 200) : n.natAbs.log2 < 9000 := by
  obtain ⟨m, rfl⟩ := Int.eq_ofNat_of_zero_le h0
  exact lg_nat (by omega)
def modesV : List V := [.str "down", .str "up", .str "half_down", .str "half_up", .str "half_even"]
/-- the further names that the text of sides does not bind, and its table of modes -/
structure SideT (K : PySem.W.Frag) (mg : Str → Option Value) (aM : Addr) : Prop where
  isi : mg "isinstance" = none
  int : mg "int" = none
  bool : mg "bool" = none
  tuple : mg "tuple" = none
  len : mg "len" = none
  dm : mg "divmod" = none
  gM : mg "MODES" = some (.ref aM)
  tM : ∀ H, SqT K H aM modesV
def spIsInt : Sp := fun vs H Q _ => ∃ i : Int, vs = [.int i] ∧ Q (.bl true) H
def spBetween : Sp := fun vs H Q _ => ∃ i a b : Int, vs = [.int i, .int a, .int b] ∧ Q (.bl (decide (a ≤ i) && decide (i ≤ b))) H
def spCheckValue : Sp := fun vs H Q _ => ∃ i : Int, vs = [.int i] ∧ Q .non H
def spCheckSide : Sp := fun vs H Q _ => ∃ (p : Addr) (o s : Int) (m : Str), vs = [.ref p] ∧ H p = some (sideV o s m) ∧ SideP o s m ∧ Q .non H
def spGo : Sp := fun vs H Q _ => ∃ (m : Str) (s q r : Int), vs = [.str m, .int s, .int q, .int r] ∧ Q (.bl (goesUp m s q r)) H
def spSV (f : Int → Int → Str → Int → V) : Sp := fun vs H Q _ => ∃ (p : Addr) (o s : Int) (m : Str) (v : Int), vs = [.ref p, .int v] ∧ H p = some (sideV o s m) ∧ SideP o s m ∧ Bd v ∧ ∀ H', Same H H' → Q (f o s m v) H'
def spFig : Sp := spSV fun o s m v => .int (figM o s m v)
def spDue : Sp := spSV fun o s m v => .int (dueM o s m v)
def spStands : Sp := spSV fun o s m v => .bl (decide ((v - o) % s = 0))
theorem dec_int (a b : Int) : decide (V.int a = V.int b) = decide (a = b) := by
  by_cases h : a = b
  · rw [decide_eq_true h, h, decide_eq_true rfl]
  · rw [decide_eq_false h, decide_eq_false (fun z => h (V.int.inj z))]
theorem dec_str (a b : Str) : decide (V.str a = V.str b) = decide (a = b) := by
  by_cases h : a = b
  · rw [decide_eq_true h, h, decide_eq_true rfl]
  · rw [decide_eq_false h, decide_eq_false (fun z => h (V.str.inj z))]
theorem dec_bl (a b : Bool) : decide (V.bl a = V.bl b) = decide (a = b) := by
  by_cases h : a = b
  · rw [decide_eq_true h, h, decide_eq_true rfl]
  · rw [decide_eq_false h, decide_eq_false (fun z => h (V.bl.inj z))]
theorem str_t {a b : Str} (h : decide (V.str a = V.str b) = true) : a = b := V.str.inj (of_decide_eq_true h)
theorem str_f {a b : Str} (h : ¬ decide (V.str a = V.str b) = true) : ¬ a = b := fun z => h (decide_eq_true (congrArg V.str z))
theorem int_t {a b : Int} (h : decide (V.int a = V.int b) = true) : a = b := V.int.inj (of_decide_eq_true h)
theorem int_f {a b : Int} (h : ¬ decide (V.int a = V.int b) = true) : ¬ a = b := fun z => h (decide_eq_true (congrArg V.int z))
theorem not_t {b : Bool} (h : (!b) = true) : ¬ b = true := by cases b <;> simp_all
theorem not_f {b : Bool} (h : ¬ (!b) = true) : b = true := by cases b <;> simp_all
theorem mode_in {m : Str} (h : Mode m) : inV (.str m) modesV = true := by
  rcases h with e | e | e | e | e <;> subst e <;> decide +kernel
theorem divp {o v s : Int} (hs : 1 ≤ s) (ho : -10 ^ 40 ≤ o ∧ o ≤ 10 ^ 40) (hv : Bd v) : CDivP (v - o) s := by
  refine divp_ok (by omega) ?_
  have h : (v - o).natAbs < 2 ^ 1010 := by
    have h1 := hv.1
    have h2 := hv.2
    omega
  have h2 : Builtin.Int.intBits (v - o) ≤ 1011 := by
    unfold Builtin.Int.intBits
    split
    · omega
    · have := PySem.Flt.log2_lt_of (by decide) h
      omega
  omega
theorem mulW {i j : Int} (hi : -2 ^ 1010 < i ∧ i < 2 ^ 1010) (hj : -2 ^ 1010 < j ∧ j < 2 ^ 1010) : CMulW i j := wide_mul (a := 1010) (b := 1010) (by omega) (by omega) (by decide) (by decide) (by decide)
theorem fig_bd {o s : Int} {m : Str} {v : Int} (S : SideP o s m) (hv : Bd v) : -2 ^ 1001 < figM o s m v ∧ figM o s m v < 2 ^ 1001 := by
  obtain ⟨h1, h2⟩ := hv
  obtain ⟨o0, o1, s0, s1, _⟩ := S
  have := div_bd (x := v - o) (b := 2 ^ 1000 + 10 ^ 40) s0 (by omega) (by omega)
  unfold figM
  split <;> omega
section
variable {P : Program} {w : World} {K : PySem.W.Frag} {mg : Str → Option Value} {base : Heap} {aM fI fB fV fC fG fF : Addr} {dI dB dV dC dG dF : FuncData}
theorem ok_is_int {f : Addr} {fd : FuncData} (F : Fun K "is_int" "is_int" s_is_int f fd) (T : SideT K mg aM) : FnOk P w K mg base CX0 1 f fd ["thing"] spIsInt := by
  refine F.ok sc_is_int (fun vs H Q E h => ?_) (fun cdv A outer s H vs Q E hr h => ?_)
  · obtain ⟨i, rfl, _⟩ := h
    rfl
  · obtain ⟨i, rfl, q⟩ := h
    refine ⟨_, pss_one (ps_ret (pe_and (pe_callB call_isi (by rfl) T.isi (by decide +kernel) (pa_cons (pv 0) (pa_cons (pe_bltn (v := .ty "int") (by rfl) T.int (by decide +kernel) rfl) pa_nil)))
      (pe_one (pe_not (pe_callB call_isi (by rfl) T.isi (by decide +kernel) (pa_cons (pv 0) (pa_cons (pe_bltn (v := .ty "bool") (by rfl) T.bool (by decide +kernel) rfl) pa_nil))))))), ?_⟩
    walk_at "rd"
    refine ⟨_, _, _, _, _, rfl, .ty "int", .base (.int _), kit_ty (r := true) (by decide +kernel), ?_⟩
    walk_at "rd"
    refine ⟨_, _, _, _, _, rfl, .ty "bool", .base (.int _), kit_ty (r := false) (by decide +kernel), ?_⟩
    walk_at "rd"
    exact q
theorem ok_between {f : Addr} {fd : FuncData} (F : Fun K "is_int_between" "is_int_between" s_is_int_between f fd) (I : Cal P w K mg base "is_int" 1 ["thing"] spIsInt fI dI) : FnOk P w K mg base CX0 2 f fd ["thing", "least", "most"] spBetween := by
  refine F.ok sc_is_int_between (fun vs H Q E h => ?_) (fun cdv A outer s H vs Q E hr h => ?_)
  · obtain ⟨i, a, b, rfl, _⟩ := h
    rfl
  · obtain ⟨i, a, b, rfl, q⟩ := h
    refine ⟨_, pss_one (ps_ret (pe_and (pcl I hr (by decide) (by rfl) (pa_cons (pv 0) pa_nil)) (pe_one (pe_chain op_le op_le (pv 1) (pv 0) (pv 2))))), ?_⟩
    walk_at "rd"
    refine ite2 (fun h => ?_) (fun h => ?_)
    · walk_at "rd"
      rw [decide_eq_true (of_decide_eq_true h)] at q
      exact q
    · rw [decide_eq_false (of_decide_eq_false (by simpa using h))] at q
      exact q
theorem ok_check_value {f : Addr} {fd : FuncData} (F : Fun K "check_value" "check_value" s_check_value f fd) (I : Cal P w K mg base "is_int" 1 ["thing"] spIsInt fI dI) : FnOk P w K mg base CX0 2 f fd ["value"] spCheckValue := by
  refine F.ok sc_check_value (fun vs H Q E h => ?_) (fun cdv A outer s H vs Q E hr h => ?_)
  · obtain ⟨i, rfl, _⟩ := h
    rfl
  · obtain ⟨i, rfl, q⟩ := h
    refine ⟨_, pss_one (ps_if (pt_not (pt_val (pcl I hr (by decide) (by rfl) (pa_cons (pv 0) pa_nil)))) (pss_one ps_never) pss_nil), ?_⟩
    walk_at "rd"
    exact q
theorem ok_check_side {f : Addr} {fd : FuncData} (F : Fun K "check_side" "check_side" s_check_side f fd) (T : SideT K mg aM) (B : Cal P w K mg base "is_int_between" 2 ["thing", "least", "most"] spBetween fB dB) : FnOk P w K mg base CX0 3 f fd ["side"] spCheckSide := by
  refine F.ok sc_check_side (fun vs H Q E h => ?_) (fun cdv A outer s H vs Q E hr h => ?_)
  · obtain ⟨p, o, s, m, rfl, _⟩ := h
    rfl
  · obtain ⟨p, o, s, m, rfl, hp, S, q⟩ := h
    have nd := sc_check_side.nd
    refine ⟨_, pss_cons (ps_if (PW.pt (pw_or (pt_not (pt_val (pe_callB call_isi (by rfl) T.isi (by decide +kernel) (pa_cons (pv 0) (pa_cons (pe_bltn (v := .ty "tuple") (by rfl) T.tuple (by decide +kernel) rfl) pa_nil)))))
        (pw_or1 (pt_cmpR op_ne (pe_callB call_len_seq (by rfl) T.len PySem.boot_len (pa_cons (pv 0) pa_nil)) pe_int (nomark _))))) (pss_one ps_never) pss_nil)
      (pss_cons (ps_asg (pv 0) (pg_tup (by rfl) (pgs_cons (pg_name (i := 1) nd rfl (Or.inl rfl)) (pgs_cons (pg_name (i := 2) nd rfl (Or.inl rfl)) (pgs_cons (pg_name (i := 3) nd rfl (Or.inl rfl)) pgs_nil)))))
      (pss_cons (ps_if (pt_not (pt_val (pcl B hr (by decide) (by rfl) (pa_cons (pv 1) (pa_cons (pe_un un_neg (pe_op op_pow pe_int pe_int)) (pa_cons (pe_op op_pow pe_int pe_int) pa_nil)))))) (pss_one ps_never) pss_nil)
      (pss_cons (ps_if (pt_not (pt_val (pcl B hr (by decide) (by rfl) (pa_cons (pv 2) (pa_cons pe_int (pa_cons (pe_op op_pow pe_int pe_int) pa_nil)))))) (pss_one ps_never) pss_nil)
      (pss_one (ps_if (pt_cmpR op_notIn_seq (pv 3) (pe_glob (v := .ref aM) (by rfl) T.gM rfl) (by rfl)) (pss_one ps_never) pss_nil))))), ?_⟩
    walk_at "rd"
    refine ⟨_, _, _, _, _, rfl, .ty "tuple", .base (.tup hp), kit_ty (r := true) (by decide +kernel), ?_⟩
    walk_at "rd"
    refine ⟨p, _, rfl, .inr (SqT.of hp), rfl, ?_⟩
    walk_at "rd"
    refine ⟨p, _, rfl, SqT.of hp, rfl, _, _, rfl, _, _, rfl, _, _, rfl, rfl, ?_⟩
    walk_at "rd"
    refine ⟨⟨by decide, by decide, by decide⟩, ?_⟩
    walk_at "rd"
    refine ⟨⟨by decide, by decide, by decide⟩, _, _, _, rfl, ?_⟩
    have e1 : (decide (-(10 : Int) ^ (40 : Int).toNat ≤ o) && decide (o ≤ (10 : Int) ^ (40 : Int).toNat)) = true := by
      rw [decide_eq_true (show -(10 : Int) ^ (40 : Int).toNat ≤ o from S.o0), decide_eq_true (show o ≤ (10 : Int) ^ (40 : Int).toNat from S.o1)]
      rfl
    refine ⟨_, rfl, ?_⟩
    refine ite2 (fun h => (not_t h e1).elim) (fun _ => ?_)
    walk_at "rd"
    refine ⟨⟨by decide, by decide, by decide⟩, _, _, _, rfl, ?_⟩
    have e2 : (decide ((1 : Int) ≤ s) && decide (s ≤ (10 : Int) ^ (30 : Int).toNat)) = true := by
      rw [decide_eq_true S.s0, decide_eq_true (show s ≤ (10 : Int) ^ (30 : Int).toNat from S.s1)]
      rfl
    refine ⟨_, rfl, ?_⟩
    refine ite2 (fun h => (not_t h e2).elim) (fun _ => ?_)
    walk_at "rd"
    refine ⟨aM, _, rfl, .inr (T.tM H), rfl, by decide, ?_⟩
    walk_at "rd"
    refine ite2 (fun h => (not_t h (mode_in S.md)).elim) (fun _ => ?_)
    exact q
end
end HT
namespace HT
open PySem L2
/-! ### mirrors and forms -/
theorem mir_mir {m : Str} (h : Mode m) : mir (mir m) = m := by
  rcases h with e | e | e | e | e <;> subst e
  · rw [mir_d, mir_u]
  · rw [mir_u, mir_d]
  · rw [mir_hd, mir_hu]
  · rw [mir_hu, mir_hd]
  · rw [mir_he, mir_he]
theorem below_neg {m : Str} {s : Int} (k : Int) (h : Mode m) : below m s (-k) = below m s k := by
  rcases h with e | e | e | e | e <;> subst e
  · rw [be_d, be_d]
  · rw [be_u, be_u]
  · rw [be_hd, be_hd]
  · rw [be_hu, be_hu]
  · rw [be_he, be_he]; split <;> split <;> omega
theorem due_mirror {o s : Int} {m : Str} {v : Int} (h : Mode m) (hs : 1 ≤ s) : dueM (-o) s (mir m) (-v) = -dueM o s m v := by
  have f := (fig_iff (o := o) (v := v) (k := figM o s m v) h hs).mp rfl
  generalize figM o s m v = k at f
  have e : figM o s m v = k := (fig_iff h hs).mpr f
  have e2 : figM (-o) s (mir m) (-v) = -k := by
    refine (fig_iff (mir_mode h) hs).mpr ?_
    unfold lowM highM at f ⊢
    rw [mir_mir h, below_neg k h, below_neg k (mir_mode h), Int.mul_neg]
    omega
  unfold dueM
  rw [e, e2, Int.mul_neg]
  omega
def firstM (s : Int) (m : Str) : Str := if s = 1 then "down" else if s = 2 ∧ m = "half_down" then "down" else if s = 2 ∧ m = "half_up" then "up" else if s % 2 = 1 ∧ (m = "half_up" ∨ m = "half_even") then "half_down" else m
def formO (o s : Int) (f : Str) : Int := if f = "half_even" then o % (2 * s) else o % s
def ordM (m : Str) : Nat := if m = "down" then 0 else if m = "up" then 1 else if m = "half_down" then 2 else if m = "half_up" then 3 else 4
theorem ord_d : ordM "down" = 0 := by unfold ordM; rw [if_pos rfl]
theorem ord_u : ordM "up" = 1 := by unfold ordM; rw [if_neg d_u, if_pos rfl]
theorem ord_hd : ordM "half_down" = 2 := by unfold ordM; rw [if_neg hd_d, if_neg hd_u, if_pos rfl]
theorem ord_hu : ordM "half_up" = 3 := by unfold ordM; rw [if_neg hu_d, if_neg hu_u, if_neg hu_hd, if_pos rfl]
theorem ord_he : ordM "half_even" = 4 := by unfold ordM; rw [if_neg he_d, if_neg he_u, if_neg he_hd, if_neg he_hu]
theorem u_hu : ¬ (("up" : Str) = "half_up") := by decide +kernel
theorem u_he : ¬ (("up" : Str) = "half_even") := by decide +kernel
theorem dn_hd : ¬ (("down" : Str) = "half_down") := by decide +kernel
theorem dn_hu : ¬ (("down" : Str) = "half_up") := by decide +kernel
theorem dn_he : ¬ (("down" : Str) = "half_even") := by decide +kernel
theorem dn_u : ¬ (("down" : Str) = "up") := by decide +kernel
/-- the first modes, mode by mode -/
theorem fi_one (m : Str) : firstM 1 m = "down" := by unfold firstM; rw [if_pos rfl]
theorem fi_d (s : Int) : firstM s "down" = "down" := by
  unfold firstM
  by_cases h : s = 1
  · rw [if_pos h]
  · rw [if_neg h, if_neg (fun z => dn_hd z.2), if_neg (fun z => dn_hu z.2), if_neg (fun z => z.2.elim dn_hu dn_he)]
theorem fi_u {s : Int} (h : s ≠ 1) : firstM s "up" = "up" := by
  unfold firstM
  rw [if_neg h, if_neg (fun z => u_hd z.2), if_neg (fun z => u_hu z.2), if_neg (fun z => z.2.elim u_hu u_he)]
theorem fi_hd2 : firstM 2 "half_down" = "down" := by unfold firstM; rw [if_neg (by decide), if_pos ⟨rfl, rfl⟩]
theorem fi_hd {s : Int} (h : s ≠ 1) (h2 : s ≠ 2) : firstM s "half_down" = "half_down" := by
  unfold firstM
  rw [if_neg h, if_neg (fun z => h2 z.1), if_neg (fun z => h2 z.1), if_neg (fun z => z.2.elim hd_hu hd_e)]
theorem fi_hu2 : firstM 2 "half_up" = "up" := by unfold firstM; rw [if_neg (by decide), if_neg (fun z => hu_hd z.2), if_pos ⟨rfl, rfl⟩]
theorem fi_huO {s : Int} (h : s ≠ 1) (h2 : s % 2 = 1) : firstM s "half_up" = "half_down" := by
  unfold firstM
  rw [if_neg h, if_neg (fun z => hu_hd z.2), if_neg (fun z => by have := z.1; omega), if_pos ⟨h2, .inl rfl⟩]
theorem fi_huE {s : Int} (h : s ≠ 2) (h2 : s % 2 = 0) : firstM s "half_up" = "half_up" := by
  unfold firstM
  rw [if_neg (by omega), if_neg (fun z => hu_hd z.2), if_neg (fun z => h z.1), if_neg (fun z => by have := z.1; omega)]
theorem fi_heO {s : Int} (h : s ≠ 1) (h2 : s % 2 = 1) : firstM s "half_even" = "half_down" := by
  unfold firstM
  rw [if_neg h, if_neg (fun z => he_hd z.2), if_neg (fun z => he_hu z.2), if_pos ⟨h2, .inr rfl⟩]
theorem fi_heE {s : Int} (h2 : s % 2 = 0) : firstM s "half_even" = "half_even" := by
  unfold firstM
  rw [if_neg (by omega), if_neg (fun z => he_hd z.2), if_neg (fun z => he_hu z.2), if_neg (fun z => by have := z.1; omega)]
/-- what is known of the first mode -/
structure FirstP (s : Int) (m : Str) : Prop where
  md : Mode (firstM s m)
  id : firstM s (firstM s m) = firstM s m
  od : ordM (firstM s m) ≤ ordM m
  go : ∀ q r, 0 ≤ r → r < s → goesUp (firstM s m) s q r = goesUp m s q r
  ev : firstM s m = "half_even" → s % 2 = 0
theorem first_ok {s : Int} {m : Str} (h : Mode m) (hs : 1 ≤ s) : FirstP s m := by
  have D : Mode "down" := .inl rfl
  have U : Mode "up" := .inr (.inl rfl)
  have HD : Mode "half_down" := .inr (.inr (.inl rfl))
  by_cases s1 : s = 1
  · subst s1
    refine ⟨by rw [fi_one]; exact D, by rw [fi_one, fi_one], by rw [fi_one, ord_d]; omega, fun q r r0 r1 => ?_, by rw [fi_one]; exact fun z => (dn_he z).elim⟩
    have : r = 0 := by omega
    subst this
    rw [fi_one, go_zero D (by decide), go_zero h (by decide)]
  rcases h with e | e | e | e | e <;> subst e
  · exact ⟨by rw [fi_d]; exact D, by rw [fi_d, fi_d], by rw [fi_d]; omega, fun q r _ _ => by rw [fi_d], by rw [fi_d]; exact fun z => (dn_he z).elim⟩
  · exact ⟨by rw [fi_u s1]; exact U, by rw [fi_u s1, fi_u s1], by rw [fi_u s1]; omega, fun q r _ _ => by rw [fi_u s1], by rw [fi_u s1]; exact fun z => (u_he z).elim⟩
  · by_cases s2 : s = 2
    · subst s2
      refine ⟨by rw [fi_hd2]; exact D, by rw [fi_hd2, fi_d], by rw [fi_hd2, ord_d]; omega, fun q r r0 r1 => ?_, by rw [fi_hd2]; exact fun z => (dn_he z).elim⟩
      rw [fi_hd2, go_down, go_hd, decide_eq_false (by omega)]
    · exact ⟨by rw [fi_hd s1 s2]; exact HD, by rw [fi_hd s1 s2, fi_hd s1 s2], by rw [fi_hd s1 s2]; omega, fun q r _ _ => by rw [fi_hd s1 s2], by rw [fi_hd s1 s2]; exact fun z => (hd_e z).elim⟩
  · by_cases s2 : s = 2
    · subst s2
      refine ⟨by rw [fi_hu2]; exact U, by rw [fi_hu2, fi_u s1], by rw [fi_hu2, ord_u, ord_hu]; omega, fun q r r0 r1 => ?_, by rw [fi_hu2]; exact fun z => (u_he z).elim⟩
      rw [fi_hu2, go_up, go_hu]
      exact decide_eq_decide.mpr (by omega)
    · by_cases od : s % 2 = 1
      · refine ⟨by rw [fi_huO s1 od]; exact HD, by rw [fi_huO s1 od, fi_hd s1 s2], by rw [fi_huO s1 od, ord_hd, ord_hu]; omega, fun q r r0 r1 => ?_, by rw [fi_huO s1 od]; exact fun z => (hd_e z).elim⟩
        rw [fi_huO s1 od, go_hd, go_hu]
        exact decide_eq_decide.mpr (by omega)
      · have ev : s % 2 = 0 := by omega
        exact ⟨by rw [fi_huE s2 ev]; exact .inr (.inr (.inr (.inl rfl))), by rw [fi_huE s2 ev, fi_huE s2 ev], by rw [fi_huE s2 ev]; omega, fun q r _ _ => by rw [fi_huE s2 ev], by rw [fi_huE s2 ev]; exact fun z => (hu_e z).elim⟩
  · by_cases od : s % 2 = 1
    · refine ⟨by rw [fi_heO s1 od]; exact HD, by rw [fi_heO s1 od, fi_hd s1 (by omega)], by rw [fi_heO s1 od, ord_hd, ord_he]; omega, fun q r r0 r1 => ?_, by rw [fi_heO s1 od]; exact fun z => (hd_e z).elim⟩
      rw [fi_heO s1 od, go_hd, go_he, decide_eq_false (show ¬ 2 * r = s by omega), Bool.false_and, Bool.or_false]
    · have ev : s % 2 = 0 := by omega
      exact ⟨by rw [fi_heE ev]; exact .inr (.inr (.inr (.inr rfl))), by rw [fi_heE ev, fi_heE ev], by rw [fi_heE ev]; omega, fun q r _ _ => by rw [fi_heE ev], fun _ => ev⟩
theorem go_shift {m : Str} {s q r j : Int} (h : Mode m) (hj : m ≠ "half_even" ∨ j % 2 = 0) : goesUp m s (q + j) r = goesUp m s q r := by
  rcases h with e | e | e | e | e <;> subst e
  · rw [go_down, go_down]
  · rw [go_up, go_up]
  · rw [go_hd, go_hd]
  · rw [go_hu, go_hu]
  · have z : j % 2 = 0 := hj.resolve_left (fun z => z rfl)
    rw [go_he, go_he, show (q + j) % 2 = q % 2 by omega]
/-- an offset moved by whole steps, by two of them for the even -/
theorem due_shift {o s j : Int} {m : Str} {v : Int} (h : Mode m) (hs : 1 ≤ s) (hj : m ≠ "half_even" ∨ j % 2 = 0) : dueM (o + s * j) s m v = dueM o s m v := by
  have F := fig_of (o := o + s * j) (m := m) (v := v) hs
  generalize (v - (o + s * j)) / s = q at F
  generalize (v - (o + s * j)) % s = r at F
  generalize hk : figM (o + s * j) s m v = k at F
  obtain ⟨eq, r0, r1, wh⟩ := F
  have e : figM o s m v = k + j := by
    refine fig_uniq (q := q + j) (r := r) hs ⟨by rw [Int.mul_add]; omega, r0, r1, ?_⟩
    rw [go_shift h hj]
    rcases wh with ⟨g, e⟩ | ⟨g, e⟩
    · exact .inl ⟨g, by omega⟩
    · exact .inr ⟨g, by omega⟩
  unfold dueM
  rw [e, hk, Int.mul_add]
  omega
theorem due_go {o s : Int} {m m' : Str} {v : Int} (hs : 1 ≤ s) (h : ∀ q r, 0 ≤ r → r < s → goesUp m s q r = goesUp m' s q r) : dueM o s m v = dueM o s m' v := by
  unfold dueM figM
  rw [h _ _ (Int.emod_nonneg _ (by omega)) (Int.emod_lt_of_pos _ (by omega))]
theorem due_form {o s : Int} {m : Str} (v : Int) (h : Mode m) (hs : 1 ≤ s) : dueM (formO o s (firstM s m)) s (firstM s m) v = dueM o s m v := by
  have P := first_ok h hs
  rw [← due_go hs P.go]
  unfold formO
  by_cases e : firstM s m = "half_even"
  · rw [if_pos e]
    have a := Int.mul_ediv_add_emod o (2 * s)
    have b : o % (2 * s) = o + s * (-(2 * (o / (2 * s)))) := by
      rw [Int.mul_neg, ← Int.mul_assoc, Int.mul_comm s 2]
      omega
    rw [b]
    exact due_shift P.md hs (.inr (by omega))
  · rw [if_neg e]
    have a := Int.mul_ediv_add_emod o s
    have b : o % s = o + s * (-(o / s)) := by
      rw [Int.mul_neg]
      omega
    rw [b]
    exact due_shift P.md hs (.inl e)
theorem form_bd {o s : Int} {f : Str} (hs : 1 ≤ s) : 0 ≤ formO o s f ∧ formO o s f < 2 * s ∧ (f ≠ "half_even" → formO o s f < s) := by
  unfold formO
  by_cases e : f = "half_even"
  · rw [if_pos e]
    exact ⟨Int.emod_nonneg _ (by omega), Int.emod_lt_of_pos _ (by omega), fun z => absurd e z⟩
  · rw [if_neg e]
    have := Int.emod_lt_of_pos o (show 0 < s by omega)
    exact ⟨Int.emod_nonneg _ (by omega), by omega, fun _ => this⟩
theorem form_idem {o s : Int} {f : Str} : formO (formO o s f) s f = formO o s f := by
  unfold formO
  by_cases e : f = "half_even"
  · rw [if_pos e, if_pos e, Int.emod_emod_of_dvd _ (Int.dvd_refl _)]
  · rw [if_neg e, if_neg e, Int.emod_emod_of_dvd _ (Int.dvd_refl _)]
/-- a value told by its figure and rest -/
theorem due_at {o s q r : Int} {m : Str} (hs : 1 ≤ s) (r0 : 0 ≤ r) (r1 : r < s) : dueM o s m (o + s * q + r) = o + s * q + (if goesUp m s q r = true then s else 0) := by
  unfold dueM
  by_cases g : goesUp m s q r = true
  · rw [fig_uniq (q := q) (r := r) (k := q + 1) hs ⟨by omega, r0, r1, .inl ⟨g, rfl⟩⟩, if_pos g, Int.mul_add]
    omega
  · have g' : goesUp m s q r = false := by cases h : goesUp m s q r <;> simp_all
    rw [fig_uniq (q := q) (r := r) (k := q) hs ⟨by omega, r0, r1, .inr ⟨g', rfl⟩⟩, if_neg g]
    omega
end HT
namespace HT
open PySem L2
section
variable {P : Program} {w : World} {K : PySem.W.Frag} {mg : Str → Option Value} {base : Heap} {aM fI fB fV fC fG fF : Addr} {dI dB dV dC dG dF : FuncData}
end
end HT
namespace HT
open PySem L2
structure MirT (K : PySem.W.Frag) (w : World) (mg : Str → Option Value) (aR : Addr) : Prop where
  gR : mg "MIRRORED" = some (.ref aR)
  dR : ∀ m, Mode m → KDct K w aR m (.str (mir m))
def BdK (x : Int) : Prop := -2 ^ 720 < x ∧ x < 2 ^ 720
def spBelow : Sp := fun vs H Q _ => ∃ (m : Str) (s k : Int), vs = [.str m, .int s, .int k] ∧ Mode m ∧ Q (.int (below m s k)) H
def spSpan : Sp := fun vs H Q _ => ∃ (p : Addr) (o s : Int) (m : Str) (k : Int), vs = [.ref p, .int k] ∧ H p = some (sideV o s m) ∧ SideP o s m ∧ BdK k ∧
  ∀ (d : Addr) (H' : Hp), Same H H' → H d = none → H' d = some (.tup [.int (lowM o s m k), .int (highM o s m k)]) → Q (.ref d) H'
def spBack : Sp := fun vs H Q _ => ∃ (p : Addr) (o s : Int) (m : Str) (v : Int), vs = [.ref p, .int v] ∧ H p = some (sideV o s m) ∧ SideP o s m ∧ -2 ^ 700 < v ∧ v < 2 ^ 700 ∧
  ∀ H' : Hp, Same H H' → Q (.int (backM o s m v)) H'
theorem bdK_bd {x : Int} (h : BdK x) : Bd x := by
  unfold BdK at h
  unfold Bd
  omega
section
variable {P : Program} {w : World} {K : PySem.W.Frag} {mg : Str → Option Value} {base : Heap} {aM aR fV fC fB fS : Addr} {dV dC dB dS : FuncData}
theorem ok_below {f : Addr} {fd : FuncData} (F : Fun K "_below" "_below" s_below f fd) : FnOk P w K mg base CX0 1 f fd ["mode", "step", "figure"] spBelow := by
  refine F.ok sc_below (fun vs H Q E h => ?_) (fun cdv A outer s H vs Q E hr h => ?_)
  · obtain ⟨m, s, k, rfl, _⟩ := h
    rfl
  · obtain ⟨m, s, k, rfl, hm, q⟩ := h
    refine ⟨_, pss_cons (ps_if (pt_cmpR op_eq (pv 0) pe_str (nomark _)) (pss_one (ps_ret pe_int)) pss_nil)
      (pss_cons (ps_if (pt_cmpR op_eq (pv 0) pe_str (nomark _)) (pss_one (ps_ret (pe_op op_sub (pv 1) pe_int))) pss_nil)
      (pss_cons (ps_if (PW.pt (pw_or (pt_cmpR op_eq (pv 0) pe_str (nomark _)) (pw_or1 (PW.pt (pw_and (pt_cmpR op_eq (pv 0) pe_str (nomark _)) (pw_and1 (pt_cmpR op_eq (pe_op op_mod (pv 2) pe_int) pe_int (nomark _)))))))) (pss_one (ps_ret (pe_op op_fdiv (pv 1) pe_int))) pss_nil)
      (pss_one (ps_ret (pe_op op_fdiv (pe_op op_sub (pv 1) pe_int) pe_int))))), ?_⟩
    have d2 : ∀ (i : Int), CDiv i 2 := fun _ => ⟨by decide, by decide⟩
    unfold below at q
    walk_at "rd"
    refine ⟨rfl, ?_⟩
    walk_at "rd"
    refine ite2 (fun h => ?_) (fun h1 => ?_)
    · rw [if_pos (str_t h)] at q
      walk_at "rd"
      exact q
    rw [if_neg (str_f h1)] at q
    walk_at "rd"
    refine ⟨rfl, ?_⟩
    walk_at "rd"
    refine ite2 (fun h => ?_) (fun h2 => ?_)
    · rw [if_pos (str_t h)] at q
      walk_at "rd"
      exact q
    rw [if_neg (str_f h2)] at q
    walk_at "rd"
    refine ⟨rfl, ?_⟩
    walk_at "rd"
    refine ite2 (fun h => ?_) (fun h3 => ?_)
    · rw [if_pos (.inl (str_t h))] at q
      walk_at "rd"
      refine ⟨d2 _, ?_⟩
      walk_at "rd"
      exact q
    walk_at "rd"
    refine ⟨rfl, ?_⟩
    walk_at "rd"
    refine ite2 (fun h => ?_) (fun h4 => ?_)
    · walk_at "rd"
      refine ⟨(by show (0 : Int) < 2; decide), ?_⟩
      walk_at "rd"
      refine ⟨rfl, ?_⟩
      walk_at "rd"
      refine ite2 (fun g => ?_) (fun g => ?_)
      · rw [if_pos (.inr ⟨str_t h, int_t g⟩)] at q
        walk_at "rd"
        refine ⟨d2 _, ?_⟩
        walk_at "rd"
        exact q
      · rw [if_neg (by rintro (z | ⟨_, z⟩); exact str_f h3 z; exact int_f g z)] at q
        walk_at "rd"
        refine ⟨d2 _, ?_⟩
        walk_at "rd"
        exact q
    · rw [if_neg (by rintro (z | ⟨z, _⟩); exact str_f h3 z; exact str_f h4 z)] at q
      walk_at "rd"
      refine ⟨d2 _, ?_⟩
      walk_at "rd"
      exact q
end
end HT
namespace HT
open PySem L2
section
variable {P : Program} {w : World} {K : PySem.W.Frag} {mg : Str → Option Value} {base : Heap}
/-- both promises of a def -/
theorem or_ok {CX : CXT} {k : Nat} {f : Addr} {fd : FuncData} {ps : List Str} {sp sp' : Sp} (F : FnOk P w K mg base CX k f fd ps sp) (G : FnOk P w K mg base CX k f fd ps sp') : FnOk P w K mg base CX k f fd ps (fun vs H Q E => sp vs H Q E ∨ sp' vs H Q E) :=
  ⟨fun vs H Q E h => h.elim (F.len vs H Q E) (G.len vs H Q E), fun A outer s H args us vs Q E hr he hb hv hs => hs.elim (F.run A outer s H args us vs Q E hr he hb hv) (G.run A outer s H args us vs Q E hr he hb hv)⟩
end
end HT
namespace HT
open PySem L2
section
variable {P : Program} {w : World} {K : PySem.W.Frag} {mg : Str → Option Value} {base : Heap}
/-- a def that lets nothing out keeps its promise among errors too -/
theorem to_x {k : Nat} {f : Addr} {fd : FuncData} {ps : List Str} {sp : Sp} (F : FnOk P w K mg base CX0 k f fd ps sp) : FnOk P w K mg base (L2.CX P w) k f fd ps sp :=
  ⟨F.len, fun A outer s H args us vs Q E hr he hb hv hs => codeAny_mono (F.run A outer s H args us vs Q E hr he hb hv hs) fun r s' h => by
    unfold CR at h ⊢
    split at h
    · exact h
    · exact h
    · exact h.elim⟩
def spNo : Sp := fun _ _ _ _ => False
end
end HT
namespace HT
open PySem L2
/-- a thing of any kind, with its type's name -/
inductive Th (H : Hp) : V → String → Prop where
  | int (i : Int) : Th H (.int i) "int"
  | bl (b : Bool) : Th H (.bl b) "bool"
  | non : Th H .non "NoneType"
  | str (s : Str) : Th H (.str s) "str"
  | tup {p : Addr} {xs : List V} (h : H p = some (.tup xs)) : Th H (.ref p) "tuple"
  | lst {p : Addr} {xs : List V} (h : H p = some (.lst xs)) : Th H (.ref p) "list"
  | dk {p : Addr} {kvs : List (Key × V)} (h : H p = some (.dK kvs)) : Th H (.ref p) "dict"
theorem Th.ty {K : PySem.W.Frag} {H : Hp} {x : V} {n : String} (t : Th H x n) : TyX K H x (.type n) := by
  cases t with
  | int i => exact .base (.int i)
  | bl b => exact .base (.bl b)
  | non => exact .base .non
  | str s => exact .base (.str s)
  | tup h => exact .base (.tup h)
  | lst h => exact .base (.lst h)
  | dk h => exact .base (.dK h)
theorem Th.kint {K : PySem.W.Frag} {H : Hp} {x : V} {n : String} (t : Th H x n) : PySem.W.kitOne K (.type n) (.type "int") = some (n == "int" || n == "bool") := by
  cases t <;> exact kit_ty (by decide +kernel)
theorem Th.kbool {K : PySem.W.Frag} {H : Hp} {x : V} {n : String} (t : Th H x n) : PySem.W.kitOne K (.type n) (.type "bool") = some (n == "bool") := by
  cases t <;> exact kit_ty (by decide +kernel)
theorem Th.ktup {K : PySem.W.Frag} {H : Hp} {x : V} {n : String} (t : Th H x n) : PySem.W.kitOne K (.type n) (.type "tuple") = some (n == "tuple") := by
  cases t <;> exact kit_ty (by decide +kernel)
theorem Th.klst {K : PySem.W.Frag} {H : Hp} {x : V} {n : String} (t : Th H x n) : PySem.W.kitOne K (.type n) (.type "list") = some (n == "list") := by
  cases t <;> exact kit_ty (by decide +kernel)
theorem Th.same {H H' : Hp} {x : V} {n : String} (t : Th H x n) (s : Same H H') : Th H' x n := by
  cases t with
  | int i => exact .int i
  | bl b => exact .bl b
  | non => exact .non
  | str x => exact .str x
  | tup h => exact .tup (s _ _ h)
  | lst h => exact .lst (s _ _ h)
  | dk h => exact .dk (s _ _ h)
def isI (n : String) : Bool := n == "int"
def spIsAny : Sp := fun vs H Q _ => ∃ (x : V) (n : String), vs = [x] ∧ Th H x n ∧ Q (.bl (isI n)) H
/-- an int between the ends -/
def inB (x : V) (a b : Int) : Bool := match x with
  | .int i => decide (a ≤ i) && decide (i ≤ b)
  | _ => false
def spBetAny : Sp := fun vs H Q _ => ∃ (x : V) (n : String) (a b : Int), vs = [x, .int a, .int b] ∧ Th H x n ∧ Q (.bl (inB x a b)) H
/-- the names that the text of checks does not bind -/
structure ChkT (mg : Str → Option Value) : Prop where
  isi : mg "isinstance" = none
  int : mg "int" = none
  bool : mg "bool" = none
  tuple : mg "tuple" = none
  list : mg "list" = none
  len : mg "len" = none
section
variable {P : Program} {w : World} {K : PySem.W.Frag} {mg : Str → Option Value} {base : Heap} {fI : Addr} {dI : FuncData}
theorem ok_is_any {f : Addr} {fd : FuncData} (F : Fun K "is_int" "is_int" s_is_int f fd) (T : ChkT mg) : FnOk P w K mg base CX0 1 f fd ["thing"] spIsAny := by
  refine F.ok sc_is_int (fun vs H Q E h => ?_) (fun cdv A outer s H vs Q E hr h => ?_)
  · obtain ⟨x, n, rfl, _⟩ := h
    rfl
  · obtain ⟨x, n, rfl, t, q⟩ := h
    refine ⟨_, pss_one (ps_ret (pe_and (pe_callB call_isi (by rfl) T.isi (by decide +kernel) (pa_cons (pv 0) (pa_cons (pe_bltn (v := .ty "int") (by rfl) T.int (by decide +kernel) rfl) pa_nil)))
      (pe_one (pe_not (pe_callB call_isi (by rfl) T.isi (by decide +kernel) (pa_cons (pv 0) (pa_cons (pe_bltn (v := .ty "bool") (by rfl) T.bool (by decide +kernel) rfl) pa_nil))))))), ?_⟩
    walk_at "rd"
    refine ⟨_, _, _, _, _, rfl, .ty "int", t.ty, t.kint, ?_⟩
    walk_at "rd"
    refine ite2 (fun h => ?_) (fun h => ?_)
    · walk_at "rd"
      refine ⟨_, _, _, _, _, rfl, .ty "bool", t.ty, t.kbool, ?_⟩
      walk_at "rd"
      have e : (!(n == "bool")) = isI n := by
        cases t <;> first | rfl | exact absurd h (by decide)
      rw [e]
      exact q
    · have e : isI n = false := by
        cases t <;> first | rfl | exact absurd (by decide) h
      rw [e] at q
      exact q
theorem ok_bet_any {f : Addr} {fd : FuncData} (F : Fun K "is_int_between" "is_int_between" s_is_int_between f fd) (I : Cal P w K mg base "is_int" 1 ["thing"] spIsAny fI dI) : FnOk P w K mg base CX0 2 f fd ["thing", "least", "most"] spBetAny := by
  refine F.ok sc_is_int_between (fun vs H Q E h => ?_) (fun cdv A outer s H vs Q E hr h => ?_)
  · obtain ⟨x, n, a, b, rfl, _⟩ := h
    rfl
  · obtain ⟨x, n, a, b, rfl, t, q⟩ := h
    refine ⟨_, pss_one (ps_ret (pe_and (pcl I hr (by decide) (by rfl) (pa_cons (pv 0) pa_nil)) (pe_one (pe_chain op_le op_le (pv 1) (pv 0) (pv 2))))), ?_⟩
    walk_at "rd"
    refine ⟨x, n, rfl, t, ?_⟩
    cases t with
    | int i =>
      walk_at "rd"
      refine ite2 (fun h => ?_) (fun h => ?_)
      · walk_at "rd"
        change Q (.bl (decide (a ≤ i) && decide (i ≤ b))) H at q
        rw [decide_eq_true (of_decide_eq_true h)] at q
        exact q
      · change Q (.bl (decide (a ≤ i) && decide (i ≤ b))) H at q
        rw [decide_eq_false (of_decide_eq_false (by simpa using h))] at q
        exact q
    | _ => exact ⟨_, rfl, q⟩
end
end HT
namespace HT
open PySem L2
def modesD : List PyData := [.str "down", .str "up", .str "half_down", .str "half_up", .str "half_even"]
/-- a mode's place is taken by something else -/
def NoMode (d : PyData) : Prop := SeqAt.shaped d = true ∧ (modesD.any fun z => PyData.eqv z d) = false
/-- the four classes by number, and their base class at B -/
structure Er (K : PySem.W.Frag) (mg : Str → Option Value) (C : Nat → Addr) (B : Addr) : Prop where
  isi : mg "isinstance" = none
  ve : mg "ValueError" = none
  gB : mg "HandedError" = some (.ref B)
  g0 : mg "InvalidSide" = some (.ref (C 0))
  g1 : mg "InvalidSides" = some (.ref (C 1))
  g2 : mg "TooMany" = some (.ref (C 2))
  g3 : mg "InvalidValue" = some (.ref (C 3))
  kit : ∀ i j, i < 4 → j < 4 → PySem.W.kitOne K (.ref (C i)) (.ref (C j)) = some (decide (i = j))
  kitV : ∀ i, i < 4 → PySem.W.kitOne K (.ref (C i)) (.type "ValueError") = some true
  ec : ∀ i, i < 4 → ErrC K (C i)
  eg : ErrG K
  ex : ∀ i, i < 4 → PySem.W.excIn K (C i) [.type "ValueError", .type "Exception", .type "BaseException", .type "object"] "ValueError.__new__" = true
  kp : ∀ i, i < 4 → PySem.W.keepIn K (.ref (C i)) = true
  sb : ∀ i, i < 4 → PySem.W.subIn K (.ref (C i)) (.type "BaseException") = some true
  ty : ∀ i, i < 4 → PySem.W.typeIn K (.ref (C i)) = some (.type "type")
  emB : ∀ i, i < 4 → PySem.W.exmOne K (.ref (C i)) (.ref B) = some true
  em0 : PySem.W.exmOne K (.ref (C 0)) (.ref (C 0)) = some true
/-- flat data, and a list of one text -/
inductive Fl (H : Hp) : V → PyData → Prop where
  | non : Fl H .non .none
  | bl (b : Bool) : Fl H (.bl b) (.bool b)
  | int (i : Int) : Fl H (.int i) (.int i)
  | str (s : Str) : Fl H (.str s) (.str s)
  | one {l : Addr} {s : Str} (h : H l = some (.lst [.str s])) : Fl H (.ref l) (.list [.str s])
theorem Fl.dp {K : PySem.W.Frag} {H : Hp} {c : V} {d : PyData} (f : Fl H c d) : Dp K H c d := by
  cases f with
  | non => exact .non
  | bl b => exact .bl b
  | int i => exact .int i
  | str s => exact .str s
  | one h => exact .lst (SqL.of h) (.cons (.str _) .nil)
theorem Fl.same {H H' : Hp} {c : V} {d : PyData} (f : Fl H c d) (s : Same H H') : Fl H' c d := by
  cases f with
  | non => exact .non
  | bl b => exact .bl b
  | int i => exact .int i
  | str x => exact .str x
  | one h => exact .one (s _ _ h)
/-- no side -/
inductive BadS (K : PySem.W.Frag) (H : Hp) : V → Prop where
  | kind {x : V} {n : String} (t : Th H x n) (h : (n == "tuple") = false) : BadS K H x
  | len {p : Addr} {xs : List V} (hp : H p = some (.tup xs)) (h : ¬ xs.length = 3) : BadS K H (.ref p)
  | off {p : Addr} {a b c : V} {n : String} (hp : H p = some (.tup [a, b, c])) (t : Th H a n) (h : inB a (-10 ^ 40) (10 ^ 40) = false) : BadS K H (.ref p)
  | stp {p : Addr} {a b c : V} {n m : String} (hp : H p = some (.tup [a, b, c])) (t : Th H a n) (h : inB a (-10 ^ 40) (10 ^ 40) = true) (u : Th H b m) (g : inB b 1 (10 ^ 30) = false) : BadS K H (.ref p)
  | mod {p : Addr} {a b c : V} {n m : String} {d : PyData} (hp : H p = some (.tup [a, b, c])) (t : Th H a n) (h : inB a (-10 ^ 40) (10 ^ 40) = true) (u : Th H b m) (g : inB b 1 (10 ^ 30) = true) (dp : Fl H c d) (hd : NoMode d) : BadS K H (.ref p)
theorem BadS.same {K : PySem.W.Frag} {H H' : Hp} {x : V} (b : BadS K H x) (e : Same H H') : BadS K H' x := by
  cases b with
  | kind t h => exact .kind (t.same e) h
  | len hp h => exact .len (e _ _ hp) h
  | off hp t h => exact .off (e _ _ hp) (t.same e) h
  | stp hp t h u g => exact .stp (e _ _ hp) (t.same e) h (u.same e) g
  | mod hp t h u g dp hd => exact .mod (e _ _ hp) (t.same e) h (u.same e) g (dp.same e) hd
def GoodS (H : Hp) (x : V) : Prop := ∃ (p : Addr) (o s : Int) (m : Str), x = .ref p ∧ H p = some (sideV o s m) ∧ SideP o s m
def spValX (C : Nat → Addr) : Sp := fun vs H Q E => ∃ (x : V) (n : String), vs = [x] ∧ Th H x n ∧ (isI n = true → Q .non H) ∧ (isI n = false → E (.ref (C 3)) none H)
def spSideX (K : PySem.W.Frag) (C : Nat → Addr) : Sp := fun vs H Q E => ∃ x : V, vs = [x] ∧ ((GoodS H x ∧ Q .non H) ∨ (BadS K H x ∧ E (.ref (C 0)) none H))
def rNotInT (K : PySem.W.Frag) : R2 := fun x y H Q => ∃ d ds, Dp K H x d ∧ Dp K H y (.tuple ds) ∧ SeqAt.shaped d = true ∧ PyData.canLayAll0 ds = true ∧ PyData.depthAll ds ≤ 60 ∧ Q (.bl (!ds.any fun z => PyData.eqv z d)) H
theorem op_notInT {X : Cx} (hu : X.A.units + 64 < cLine) : OpR X (compareOp .NotIn) (rNotInT X.K) := by
  intro pins sh st H x y v u Q iv rx ry h
  obtain ⟨d, ds, hd, he, sd, se, sz, q⟩ := h
  obtain ⟨as, r1⟩ := Dp.reads iv d x v hd rx
  obtain ⟨bs, r2⟩ := Dp.reads iv (.tuple ds) y u he ry
  refine SeqAt.notIn_tuple_reads r2 r1 se (SeqAt.canLay_of_shaped sd) ?_ ⟨.bl _, H, iv, rfl, q⟩
  have : min (PyData.depthAll ds) d.depth ≤ PyData.depthAll ds := Nat.min_le_left _ _
  omega
/-- the table of modes -/
structure ModT (K : PySem.W.Frag) (mg : Str → Option Value) (aM : Addr) : Prop where
  gM : mg "MODES" = some (.ref aM)
  tM : ∀ H, SqT K H aM modesV
theorem dpModes {K : PySem.W.Frag} {H : Hp} {aM : Addr} (t : SqT K H aM modesV) : Dp K H (.ref aM) (.tuple modesD) := .tup t (.cons (.str _) (.cons (.str _) (.cons (.str _) (.cons (.str _) (.cons (.str _) .nil)))))
theorem mode_inX {m : Str} (h : Mode m) : SeqAt.shaped (.str m) = true ∧ (modesD.any fun z => PyData.eqv z (.str m)) = true := by
  rcases h with e | e | e | e | e <;> subst e <;> decide +kernel
section
variable {P : Program} {w : World} {K : PySem.W.Frag} {mg : Str → Option Value} {base : Heap} {aM fI fB fV fC fL fN fW B : Addr} {dI dB dV dC dL dN dW : FuncData} {C : Nat → Addr}
theorem ok_val_x {f : Addr} {fd : FuncData} (F : Fun K "check_value" "check_value" s_check_value f fd) (R : Er K mg C B) (I : Cal P w K mg base "is_int" 1 ["thing"] spIsAny fI dI) : FnOk P w K mg base (L2.CX P w) 2 f fd ["value"] (spValX C) := by
  refine F.okX sc_check_value (fun vs H Q E h => ?_) (fun cdv A outer s H vs Q E hr h => ?_)
  · obtain ⟨x, n, rfl, _⟩ := h
    rfl
  · obtain ⟨x, n, rfl, t, q1, q2⟩ := h
    refine ⟨_, pss_one (ps_if (pt_not (pt_val (pcl I hr (by decide) (by rfl) (pa_cons (pv 0) pa_nil)))) (pss_one (ps_raise rfl (takes_of rfl rfl rfl rfl) (pmk_own PySem.F.excBase_ValueError (R.ex 3 (by decide)) R.g3 (R.kp 3 (by decide)) (raises_own (R.sb 3 (by decide)) (R.ty 3 (by decide))) (by rfl)))) pss_nil), ?_⟩
    walk_at "rd"
    refine ⟨x, n, rfl, t, ?_⟩
    walk_at "rd"
    refine ite2 (fun h => ?_) (fun h => ?_)
    · exact q2 (by simpa using h)
    · exact q1 (not_f h)
end
end HT
namespace HT
open PySem L2
section
variable {P : Program} {w : World} {K : PySem.W.Frag} {mg : Str → Option Value} {base : Heap} {aM fI fB fV fC fL fN fW B : Addr} {dI dB dV dC dL dN dW : FuncData} {C : Nat → Addr}
theorem ok_side_x {f : Addr} {fd : FuncData} (F : Fun K "check_side" "check_side" s_check_side f fd) (T : ChkT mg) (M : ModT K mg aM) (R : Er K mg C B) (Bt : Cal P w K mg base "is_int_between" 2 ["thing", "least", "most"] spBetAny fB dB) : FnOk P w K mg base (L2.CX P w) 3 f fd ["side"] (spSideX K C) := by
  refine F.okAny sc_check_side (fun vs H Q E h => ?_) (fun cdv A outer s0 H vs Q E hr h => ?_)
  · obtain ⟨x, rfl, _⟩ := h
    rfl
  · obtain ⟨x, rfl, h⟩ := h
    have nd := sc_check_side.nd
    refine ⟨_, pss_cons (ps_if (PW.pt (pw_or (pt_not (pt_val (pe_callB call_isi (by rfl) T.isi (by decide +kernel) (pa_cons (pv 0) (pa_cons (pe_bltn (v := .ty "tuple") (by rfl) T.tuple (by decide +kernel) rfl) pa_nil)))))
        (pw_or1 (pt_cmpR op_ne (pe_callB call_len_seq (by rfl) T.len PySem.boot_len (pa_cons (pv 0) pa_nil)) pe_int (nomark _))))) (pss_one (ps_raise rfl (takes_of rfl rfl rfl rfl) (pmk_own PySem.F.excBase_ValueError (R.ex 0 (by decide)) R.g0 (R.kp 0 (by decide)) (raises_own (R.sb 0 (by decide)) (R.ty 0 (by decide))) (by rfl)))) pss_nil)
      (pss_cons (ps_asg (pv 0) (pg_tup (by rfl) (pgs_cons (pg_name (i := 1) nd rfl (Or.inl rfl)) (pgs_cons (pg_name (i := 2) nd rfl (Or.inl rfl)) (pgs_cons (pg_name (i := 3) nd rfl (Or.inl rfl)) pgs_nil)))))
      (pss_cons (ps_if (pt_not (pt_val (pcl Bt hr (by decide) (by rfl) (pa_cons (pv 1) (pa_cons (pe_un un_neg (pe_op op_pow pe_int pe_int)) (pa_cons (pe_op op_pow pe_int pe_int) pa_nil)))))) (pss_one (ps_raise rfl (takes_of rfl rfl rfl rfl) (pmk_own PySem.F.excBase_ValueError (R.ex 0 (by decide)) R.g0 (R.kp 0 (by decide)) (raises_own (R.sb 0 (by decide)) (R.ty 0 (by decide))) (by rfl)))) pss_nil)
      (pss_cons (ps_if (pt_not (pt_val (pcl Bt hr (by decide) (by rfl) (pa_cons (pv 2) (pa_cons pe_int (pa_cons (pe_op op_pow pe_int pe_int) pa_nil)))))) (pss_one (ps_raise rfl (takes_of rfl rfl rfl rfl) (pmk_own PySem.F.excBase_ValueError (R.ex 0 (by decide)) R.g0 (R.kp 0 (by decide)) (raises_own (R.sb 0 (by decide)) (R.ty 0 (by decide))) (by rfl)))) pss_nil)
      (pss_one (ps_if (pt_cmpR (op_notInT hr.units) (pv 3) (pe_glob (v := .ref aM) (by rfl) M.gM rfl) (by rfl)) (pss_one (ps_raise rfl (takes_of rfl rfl rfl rfl) (pmk_own PySem.F.excBase_ValueError (R.ex 0 (by decide)) R.g0 (R.kp 0 (by decide)) (raises_own (R.sb 0 (by decide)) (R.ty 0 (by decide))) (by rfl)))) pss_nil))))), ?_⟩
    walk_at "rd"
    rcases h with ⟨⟨p, o, s, m, rfl, hp, S⟩, q⟩ | ⟨bad, q⟩
    · refine ⟨_, _, _, _, _, rfl, .ty "tuple", .base (.tup hp), kit_ty (r := true) (by decide +kernel), ?_⟩
      walk_at "rd"
      refine ⟨p, _, rfl, .inr (SqT.of hp), rfl, ?_⟩
      walk_at "rd"
      refine ⟨p, _, rfl, SqT.of hp, rfl, _, _, rfl, _, _, rfl, _, _, rfl, rfl, ?_⟩
      walk_at "rd"
      refine ⟨⟨by decide, by decide, by decide⟩, ?_⟩
      walk_at "rd"
      refine ⟨⟨by decide, by decide, by decide⟩, _, _, _, _, rfl, .int o, ?_⟩
      have e1 : inB (.int o) (-(10 : Int) ^ (40 : Int).toNat) ((10 : Int) ^ (40 : Int).toNat) = true := by
        show (decide (-(10 : Int) ^ (40 : Int).toNat ≤ o) && decide (o ≤ (10 : Int) ^ (40 : Int).toNat)) = true
        rw [decide_eq_true (show -(10 : Int) ^ (40 : Int).toNat ≤ o from S.o0), decide_eq_true (show o ≤ (10 : Int) ^ (40 : Int).toNat from S.o1)]
        rfl
      refine ⟨_, rfl, ?_⟩
      refine ite2 (fun h => (not_t h e1).elim) (fun _ => ?_)
      walk_at "rd"
      refine ⟨⟨by decide, by decide, by decide⟩, _, _, _, _, rfl, .int s, ?_⟩
      have e2 : inB (.int s) 1 ((10 : Int) ^ (30 : Int).toNat) = true := by
        show (decide ((1 : Int) ≤ s) && decide (s ≤ (10 : Int) ^ (30 : Int).toNat)) = true
        rw [decide_eq_true S.s0, decide_eq_true (show s ≤ (10 : Int) ^ (30 : Int).toNat from S.s1)]
        rfl
      refine ⟨_, rfl, ?_⟩
      refine ite2 (fun h => (not_t h e2).elim) (fun _ => ?_)
      walk_at "rd"
      refine ⟨_, _, .str m, dpModes (M.tM H), (mode_inX S.md).1, by decide +kernel, by decide +kernel, ?_⟩
      walk_at "rd"
      refine ite2 (fun h => (not_t h (mode_inX S.md).2).elim) (fun _ => ?_)
      exact q
    · cases bad with
      | kind t h =>
        refine ⟨_, _, _, _, _, rfl, .ty "tuple", t.ty, t.ktup, ?_⟩
        walk_at "rd"
        refine ite2 (fun _ => ?_) (fun z => absurd (by rw [h]; rfl) z)
        exact q
      | len hp h =>
        refine ⟨_, _, _, _, _, rfl, .ty "tuple", .base (.tup hp), kit_ty (r := true) (by decide +kernel), ?_⟩
        walk_at "rd"
        refine ⟨_, _, rfl, .inr (SqT.of hp), ?_⟩
        walk_at "rd"
        refine ⟨rfl, ?_⟩
        walk_at "rd"
        refine ite2 (fun _ => q) (fun z => absurd ?_ z)
        rw [dec_int, decide_eq_false (fun y => h (by omega))]
        rfl
      | off hp t h =>
        refine ⟨_, _, _, _, _, rfl, .ty "tuple", .base (.tup hp), kit_ty (r := true) (by decide +kernel), ?_⟩
        walk_at "rd"
        refine ⟨_, _, rfl, .inr (SqT.of hp), rfl, ?_⟩
        walk_at "rd"
        refine ⟨_, _, rfl, SqT.of hp, rfl, _, _, rfl, _, _, rfl, _, _, rfl, rfl, ?_⟩
        walk_at "rd"
        refine ⟨⟨by decide, by decide, by decide⟩, ?_⟩
        walk_at "rd"
        refine ⟨⟨by decide, by decide, by decide⟩, _, _, _, _, rfl, t, ?_⟩
        refine ⟨_, rfl, ?_⟩
        exact ite2 (fun _ => q) (fun z => absurd (by rw [show inB _ (-(10 : Int) ^ (40 : Int).toNat) ((10 : Int) ^ (40 : Int).toNat) = false from h]; rfl) z)
      | stp hp t h u g =>
        refine ⟨_, _, _, _, _, rfl, .ty "tuple", .base (.tup hp), kit_ty (r := true) (by decide +kernel), ?_⟩
        walk_at "rd"
        refine ⟨_, _, rfl, .inr (SqT.of hp), rfl, ?_⟩
        walk_at "rd"
        refine ⟨_, _, rfl, SqT.of hp, rfl, _, _, rfl, _, _, rfl, _, _, rfl, rfl, ?_⟩
        walk_at "rd"
        refine ⟨⟨by decide, by decide, by decide⟩, ?_⟩
        walk_at "rd"
        refine ⟨⟨by decide, by decide, by decide⟩, _, _, _, _, rfl, t, ?_⟩
        refine ⟨_, rfl, ?_⟩
        refine ite2 (fun z => (not_t z (show inB _ (-(10 : Int) ^ (40 : Int).toNat) ((10 : Int) ^ (40 : Int).toNat) = true from h)).elim) (fun _ => ?_)
        walk_at "rd"
        refine ⟨⟨by decide, by decide, by decide⟩, _, _, _, _, rfl, u, ?_⟩
        refine ⟨_, rfl, ?_⟩
        exact ite2 (fun _ => q) (fun z => absurd (by rw [show inB _ 1 ((10 : Int) ^ (30 : Int).toNat) = false from g]; rfl) z)
      | mod hp t h u g dp hd =>
        refine ⟨_, _, _, _, _, rfl, .ty "tuple", .base (.tup hp), kit_ty (r := true) (by decide +kernel), ?_⟩
        walk_at "rd"
        refine ⟨_, _, rfl, .inr (SqT.of hp), rfl, ?_⟩
        walk_at "rd"
        refine ⟨_, _, rfl, SqT.of hp, rfl, _, _, rfl, _, _, rfl, _, _, rfl, rfl, ?_⟩
        walk_at "rd"
        refine ⟨⟨by decide, by decide, by decide⟩, ?_⟩
        walk_at "rd"
        refine ⟨⟨by decide, by decide, by decide⟩, _, _, _, _, rfl, t, ?_⟩
        refine ⟨_, rfl, ?_⟩
        refine ite2 (fun z => (not_t z (show inB _ (-(10 : Int) ^ (40 : Int).toNat) ((10 : Int) ^ (40 : Int).toNat) = true from h)).elim) (fun _ => ?_)
        walk_at "rd"
        refine ⟨⟨by decide, by decide, by decide⟩, _, _, _, _, rfl, u, ?_⟩
        refine ⟨_, rfl, ?_⟩
        refine ite2 (fun z => (not_t z (show inB _ 1 ((10 : Int) ^ (30 : Int).toNat) = true from g)).elim) (fun _ => ?_)
        walk_at "rd"
        refine ⟨_, _, dp.dp, dpModes (M.tM H), hd.1, by decide +kernel, by decide +kernel, ?_⟩
        walk_at "rd"
        refine ite2 (fun _ => q) (fun z => absurd (by rw [hd.2]; rfl) z)
end
end HT
namespace HT
open PySem L2
def GoodL (H : Hp) (l : Addr) (xs : List V) : Prop := H l = some (.lst xs) ∧ 1 ≤ xs.length ∧ xs.length ≤ 4 ∧ ∀ y ∈ xs, GoodS H y
/-- no list of sides -/
inductive BadL (K : PySem.W.Frag) (H : Hp) : V → Prop where
  | kind {x : V} {n : String} (t : Th H x n) (h : (n == "list") = false) : BadL K H x
  | len {l : Addr} {xs : List V} (hl : H l = some (.lst xs)) (h : ¬ (1 ≤ xs.length ∧ xs.length ≤ 4)) : BadL K H (.ref l)
  | item {l : Addr} {xs : List V} {i : Nat} {y : V} (hl : H l = some (.lst xs)) (h1 : 1 ≤ xs.length) (h2 : xs.length ≤ 4) (hi : xs[i]? = some y) (bad : BadS K H y) (good : ∀ j z, j < i → xs[j]? = some z → GoodS H z) : BadL K H (.ref l)
def spIsSideX (K : PySem.W.Frag) : Sp := fun vs H Q _ => ∃ x : V, vs = [x] ∧ ((GoodS H x ∧ Q (.bl true) H) ∨ (BadS K H x ∧ Q (.bl false) H))
def spSidesX (K : PySem.W.Frag) (C : Nat → Addr) : Sp := fun vs H Q E => ∃ x : V, vs = [x] ∧ ((∃ l xs, x = .ref l ∧ GoodL H l xs ∧ Q .non H) ∨ (BadL K H x ∧ E (.ref (C 1)) none H))
/-- the numbers of among's top -/
structure AmT (mg : Str → Option Value) : Prop where
  ms : ∃ t, mg "MOST_SIDES" = some (.int 4 t)
section
variable {P : Program} {w : World} {K : PySem.W.Frag} {mg : Str → Option Value} {base : Heap} {aM fI fB fV fC fL fN fW B : Addr} {dI dB dV dC dL dN dW : FuncData} {C : Nat → Addr}
theorem ok_is_side_x {f : Addr} {fd : FuncData} (F : Fun K "is_side" "is_side" s_is_side f fd) (R : Er K mg C B) (Ck : CalX P w K mg base "check_side" 3 ["side"] (spSideX K C) fC dC) : FnOk P w K mg base CX0 4 f fd ["thing"] (spIsSideX K) := by
  refine F.ok sc_is_side (fun vs H Q E h => ?_) (fun cdv A outer s0 H vs Q E hr h => ?_)
  · obtain ⟨x, rfl, _⟩ := h
    rfl
  · obtain ⟨x, rfl, h⟩ := h
    refine ⟨_, pss_cons (ps_try_only rfl rfl ⟨rfl, by decide, .inl R.g0⟩ takes0 (fun W pn xe tk _ => pss_one (ps_expr (pcx Ck hr (by decide) (by rfl) tk (pa_cons (pv 0) pa_nil)))) (fun a oe cls d pn _ _ => pss_one (ps_ret pe_bl))) (pss_one (ps_ret pe_bl)), ?_⟩
    walk_at "rd"
    rcases h with ⟨good, q⟩ | ⟨bad, q⟩
    · refine .inl ⟨good, ?_⟩
      walk_at "rd"
      exact q
    · refine .inr ⟨bad, ?_⟩
      exact ⟨true, R.em0, fun _ a ha => q, fun z => Bool.noConfusion z⟩
theorem ok_sides_x {f : Addr} {fd : FuncData} (F : Fun K "check_sides" "check_sides" s_check_sides f fd) (T : ChkT mg) (A' : AmT mg) (R : Er K mg C B) (Ck : Cal P w K mg base "is_side" 4 ["thing"] (spIsSideX K) fC dC) : FnOk P w K mg base (L2.CX P w) 5 f fd ["sides"] (spSidesX K C) := by
  refine F.okAny sc_check_sides (fun vs H Q E h => ?_) (fun cdv A outer s0 H vs Q E hr h => ?_)
  · obtain ⟨x, rfl, _⟩ := h
    rfl
  · obtain ⟨x, rfl, h⟩ := h
    have nd := sc_check_sides.nd
    obtain ⟨tms, hms⟩ := A'.ms
    refine ⟨_, pss_cons (ps_if (PW.pt (pw_or (pt_not (pt_val (pe_callB call_isi (by rfl) T.isi (by decide +kernel) (pa_cons (pv 0) (pa_cons (pe_bltn (v := .ty "list") (by rfl) T.list (by decide +kernel) rfl) pa_nil)))))
        (pw_or1 (pt_not (pt_chain op_le op_le pe_int (pe_callB call_len_seq (by rfl) T.len PySem.boot_len (pa_cons (pv 0) pa_nil)) (pe_glob (v := .int 4) (by rfl) hms ⟨_, rfl⟩)))))) (pss_one (ps_raise rfl (takes_of rfl rfl rfl rfl) (pmk_own PySem.F.excBase_ValueError (R.ex 1 (by decide)) R.g1 (R.kp 1 (by decide)) (raises_own (R.sb 1 (by decide)) (R.ty 1 (by decide))) (by rfl)))) pss_nil)
      (pss_one (ps_for (passes_of rfl) rfl (pi_list (pv 0)) (pg_name (i := 1) nd rfl (Or.inl rfl))
        (pss_one (ps_if (pt_not (pt_val (pcl Ck hr (by decide) (by rfl) (pa_cons (pv 1) pa_nil)))) (pss_one (ps_raise rfl (takes_of rfl rfl rfl rfl) (pmk_own PySem.F.excBase_ValueError (R.ex 1 (by decide)) R.g1 (R.kp 1 (by decide)) (raises_own (R.sb 1 (by decide)) (R.ty 1 (by decide))) (by rfl)))) pss_nil)))), ?_⟩
    walk_at "rd"
    rcases h with ⟨l, xs, rfl, ⟨hl, l1, l4, good⟩, q⟩ | ⟨bad, q⟩
    · refine ⟨_, _, _, _, _, rfl, .ty "list", .base (.lst hl), kit_ty (r := true) (by decide +kernel), ?_⟩
      walk_at "rd"
      refine ⟨l, _, rfl, .inl (SqL.of hl), ?_⟩
      walk_at "rd"
      refine ite2 (fun _ => ?_) (fun z => absurd (decide_eq_true (by omega)) z)
      walk_at "rd"
      refine ite2 (fun z => ?_) (fun _ => ?_)
      · exfalso
        have e : decide ((xs.length : Int) ≤ 4) = true := decide_eq_true (by omega)
        exact not_t z e
      walk_at "rd"
      refine ⟨⟨_, SqL.of hl⟩, ?_⟩
      refine for_list (K := K) (a := l) (xs := xs) (fun i σ H' => ∃ y : Option V, σ = [some (.ref l), y] ∧ H' = H) ⟨none, rfl, rfl⟩ (fun _ _ _ _ ⟨_, _, e⟩ => e ▸ SqL.of hl) ?_ ?_
      · rintro i y σ H' hy ⟨z, rfl, rfl⟩
        walk_at "rd"
        refine .inl ⟨good y (List.mem_of_getElem? hy), _, rfl, ?_⟩
        refine ite2 (fun z => (not_t z rfl).elim) (fun _ => ?_)
        exact ⟨_, rfl, rfl⟩
      · rintro σ H' ⟨z, rfl, rfl⟩
        exact q
    · cases bad with
      | kind t h =>
        refine ⟨_, _, _, _, _, rfl, .ty "list", t.ty, t.klst, ?_⟩
        walk_at "rd"
        refine ite2 (fun _ => ?_) (fun z => absurd (by rw [h]; rfl) z)
        exact q
      | @len l xs hl h =>
        refine ⟨_, _, _, _, _, rfl, .ty "list", .base (.lst hl), kit_ty (r := true) (by decide +kernel), ?_⟩
        walk_at "rd"
        refine ⟨l, _, rfl, .inl (SqL.of hl), ?_⟩
        walk_at "rd"
        refine ite2 (fun z1 => ?_) (fun z1 => ?_)
        · have z1' := of_decide_eq_true z1
          walk_at "rd"
          refine ite2 (fun _ => q) (fun z => absurd ?_ z)
          have e : decide ((xs.length : Int) ≤ 4) = false := decide_eq_false (by omega)
          rw [e]
          rfl
        · walk_at "rd"
          exact q
      | @item l xs i0 y0 hl l1 l4 hi bad good =>
        refine ⟨_, _, _, _, _, rfl, .ty "list", .base (.lst hl), kit_ty (r := true) (by decide +kernel), ?_⟩
        walk_at "rd"
        refine ⟨l, _, rfl, .inl (SqL.of hl), ?_⟩
        walk_at "rd"
        refine ite2 (fun _ => ?_) (fun z => absurd (decide_eq_true (by omega)) z)
        walk_at "rd"
        refine ite2 (fun z => ?_) (fun _ => ?_)
        · exfalso
          have e : decide ((xs.length : Int) ≤ 4) = true := decide_eq_true (by omega)
          exact not_t z e
        walk_at "rd"
        refine ⟨⟨_, SqL.of hl⟩, ?_⟩
        have i0l : i0 < xs.length := (List.getElem?_eq_some_iff.mp hi).1
        refine for_list (K := K) (a := l) (xs := xs) (fun i σ H' => ∃ y : Option V, σ = [some (.ref l), y] ∧ H' = H ∧ i ≤ i0) ⟨none, rfl, rfl, Nat.zero_le _⟩ (fun _ _ _ _ ⟨_, _, e, _⟩ => e ▸ SqL.of hl) ?_ ?_
        · rintro i y σ H' hy ⟨z, rfl, rfl, le⟩
          walk_at "rd"
          rcases Nat.lt_or_eq_of_le le with lt | eq
          · refine .inl ⟨good i y lt hy, _, rfl, ?_⟩
            refine ite2 (fun z => (not_t z rfl).elim) (fun _ => ?_)
            exact ⟨_, rfl, rfl, lt⟩
          · subst eq
            have ey : y = y0 := by rw [hi] at hy; exact (Option.some.inj hy).symm
            subst ey
            refine .inr ⟨bad, _, rfl, ?_⟩
            refine ite2 (fun _ => ?_) (fun z => absurd rfl z)
            exact q
        · rintro σ H' ⟨z, rfl, rfl, le⟩
          omega
end
end HT
namespace HT
open PySem L2
structure Sd where
  o : Int
  s : Int
  m : Str
/-- the list at l holds sides with these parts -/
structure SidesAt (H : Hp) (l : Addr) (xs : List V) (ss : List Sd) : Prop where
  hl : H l = some (.lst xs)
  len : xs.length = ss.length
  l1 : 1 ≤ ss.length
  l4 : ss.length ≤ 4
  at_ : ∀ (i : Nat) (d : Sd), ss[i]? = some d → ∃ p : Addr, xs[i]? = some (V.ref p) ∧ H p = some (sideV d.o d.s d.m) ∧ SideP d.o d.s d.m
theorem SidesAt.same {H H' : Hp} {l : Addr} {xs : List V} {ss : List Sd} (S : SidesAt H l xs ss) (e : Same H H') : SidesAt H' l xs ss :=
  ⟨e _ _ S.hl, S.len, S.l1, S.l4, fun i d h => let ⟨p, a, b, c⟩ := S.at_ i d h; ⟨p, a, e _ _ b, c⟩⟩
theorem SidesAt.oth {a c : Addr} {t : Nat} {H H' : Hp} {l : Addr} {xs : List V} {ss : List Sd} (S : SidesAt H l xs ss) (R : Src H a c t) (la : l ≠ a) (lc : l ≠ c) (e : Oth a c H H') : SidesAt H' l xs ss :=
  ⟨e _ _ S.hl la lc, S.len, S.l1, S.l4, fun i d h => let ⟨p, x, b, y⟩ := S.at_ i d h; let z := R.nt b; ⟨p, x, e _ _ b z.1 z.2, y⟩⟩
theorem SidesAt.item {H : Hp} {l : Addr} {xs : List V} {ss : List Sd} (S : SidesAt H l xs ss) {i : Nat} {y : V} (h : xs[i]? = some y) : ∃ d p, ss[i]? = some d ∧ y = .ref p ∧ H p = some (sideV d.o d.s d.m) ∧ SideP d.o d.s d.m := by
  have hi : i < ss.length := by have := (List.getElem?_eq_some_iff.mp h).1; rw [S.len] at this; exact this
  obtain ⟨p, e, hp, sp⟩ := S.at_ i ss[i] (List.getElem?_eq_getElem hi)
  rw [h] at e
  exact ⟨ss[i], p, List.getElem?_eq_getElem hi, Option.some.inj e, hp, sp⟩
/-- a side's period -/
def perM (s : Int) (m : Str) : Int := if m = "half_even" then 2 * s else s
theorem perM_bd {o s : Int} {m : Str} (S : SideP o s m) : 1 ≤ perM s m ∧ perM s m ≤ 2 * 10 ^ 30 := by
  have a := S.s0
  have b := S.s1
  unfold perM
  split <;> omega
def perN (d : Sd) : Nat := (perM d.s d.m).toNat
/-- the common period -/
def comN (ss : List Sd) : Nat := ss.foldl (fun n d => n.lcm (perN d)) 1
theorem com_snoc {ss : List Sd} {i : Nat} {d : Sd} (h : ss[i]? = some d) : comN (ss.take (i + 1)) = (comN (ss.take i)).lcm (perN d) := by
  unfold comN
  rw [List.take_succ, h, List.foldl_append]
  rfl
theorem lcm_le {a b : Nat} : a.lcm b ≤ a * b := Nat.div_le_self _ _
theorem com_le : ∀ (ss : List Sd) (n : Nat), (∀ d ∈ ss, SideP d.o d.s d.m) → ss.foldl (fun n d => n.lcm (perN d)) n ≤ n * (2 * 10 ^ 30) ^ ss.length
  | [], n, _ => by simp
  | d :: ss, n, h => by
    have z := com_le ss (n.lcm (perN d)) fun e he => h e (List.mem_cons_of_mem _ he)
    have b := perM_bd (h d List.mem_cons_self)
    have y : perN d ≤ 2 * 10 ^ 30 := by unfold perN; omega
    refine Nat.le_trans z ?_
    generalize (2 * 10 ^ 30 : Nat) = k at y
    rw [List.length_cons, Nat.pow_succ, Nat.mul_comm (k ^ ss.length), ← Nat.mul_assoc]
    exact Nat.mul_le_mul_right _ (Nat.le_trans lcm_le (Nat.mul_le_mul_left _ y))
theorem SidesAt.side {H : Hp} {l : Addr} {xs : List V} {ss : List Sd} (S : SidesAt H l xs ss) : ∀ d ∈ ss, SideP d.o d.s d.m := fun d hd => by
  obtain ⟨i, hi, rfl⟩ := List.mem_iff_getElem.mp hd
  obtain ⟨_, _, _, sp⟩ := S.at_ i _ (List.getElem?_eq_getElem hi)
  exact sp
theorem com_lt {ss : List Sd} (h : ∀ d ∈ ss, SideP d.o d.s d.m) (l4 : ss.length ≤ 4) : comN ss < 2 ^ 420 := by
  have z := com_le ss 1 h
  rw [Nat.one_mul] at z
  refine Nat.lt_of_le_of_lt z (Nat.lt_of_le_of_lt (Nat.pow_le_pow_right (by decide) l4) ?_)
  decide
theorem com_take {ss : List Sd} (h : ∀ d ∈ ss, SideP d.o d.s d.m) (l4 : ss.length ≤ 4) (i : Nat) : comN (ss.take i) < 2 ^ 420 :=
  com_lt (fun d hd => h d (List.mem_of_mem_take hd)) (Nat.le_trans (List.length_take_le' _ _) l4)
theorem com_pos : ∀ (ss : List Sd) (n : Nat), 0 < n → (∀ d ∈ ss, SideP d.o d.s d.m) → 0 < ss.foldl (fun n d => n.lcm (perN d)) n
  | [], n, hn, _ => hn
  | d :: ss, n, hn, h => by
    have b := perM_bd (h d List.mem_cons_self)
    have y : 0 < perN d := by unfold perN; omega
    exact com_pos ss _ (Nat.lcm_pos hn y) fun e he => h e (List.mem_cons_of_mem _ he)
/-- as the law has it -/
theorem lcm_div (a b : Nat) : a / Nat.gcd a b * b = a.lcm b := by
  unfold Nat.lcm
  rw [Nat.mul_comm (a / Nat.gcd a b), ← Nat.mul_div_assoc _ (Nat.gcd_dvd_left a b), Nat.mul_comm]
end HT
namespace HT
open PySem L2
def nV (k : Nat) : V := .int (k : Int)
structure AmG (mg : Str → Option Value) : Prop where
  isi : mg "isinstance" = none
  list : mg "list" = none
  len : mg "len" = none
  ms : ∃ t, mg "MOST_SIDES" = some (.int 4 t)
  lcm : mg "lcm" = some (.builtin "math.lcm")
def spIsSide : Sp := fun vs H Q _ => ∃ (p : Addr) (o s : Int) (m : Str), vs = [.ref p] ∧ H p = some (sideV o s m) ∧ SideP o s m ∧ Q (.bl true) H
def spSides : Sp := fun vs H Q _ => ∃ (l : Addr) (xs : List V) (ss : List Sd), vs = [.ref l] ∧ SidesAt H l xs ss ∧ Q .non H
def spPerOf : Sp := fun vs H Q _ => ∃ (p : Addr) (o s : Int) (m : Str), vs = [.ref p] ∧ H p = some (sideV o s m) ∧ SideP o s m ∧ Q (.int (perM s m)) H
def spNums : Sp := fun vs H Q _ => ∃ (kl : Addr) (ks : List Nat) (n : Nat), vs = [.ref kl, .int (n : Int)] ∧ H kl = some (.lst (ks.map nV)) ∧ ks.length ≤ 1000 ∧ (∀ k ∈ ks, k < n) ∧ Q .non H
/-- one hand-over more -/
def stepW (ss : List Sd) (a : List Int × Int) (k : Nat) : List Int × Int :=
  match ss[k]? with
  | some d => (a.1 ++ [dueM d.o d.s d.m a.2], dueM d.o d.s d.m a.2)
  | none => (a.1 ++ [a.2], a.2)
def walkW (ss : List Sd) (ks : List Nat) (v : Int) : List Int × Int := ks.foldl (stepW ss) ([], v)
theorem walk_snoc {ss : List Sd} {ks : List Nat} {v : Int} {i k : Nat} (h : ks[i]? = some k) : walkW ss (ks.take (i + 1)) v = stepW ss (walkW ss (ks.take i) v) k := by
  unfold walkW
  rw [List.take_succ, h, List.foldl_append]
  rfl
theorem due_far {o s v b : Int} {m : Str} (S : SideP o s m) (h : -b < v ∧ v < b) : -(b + 10 ^ 30) < dueM o s m v ∧ dueM o s m v < b + 10 ^ 30 := by
  have h1 := due_near (o := o) (v := v) S.md S.s0
  have h2 := S.s1
  omega
def spAlong : Sp := fun vs H Q _ => ∃ (l : Addr) (xs : List V) (ss : List Sd) (kl : Addr) (ks : List Nat) (v : Int), vs = [.ref l, .ref kl, .int v] ∧ SidesAt H l xs ss ∧ H kl = some (.lst (ks.map nV)) ∧ ks.length ≤ 1000 ∧ (∀ k ∈ ks, k < ss.length) ∧ (-2 ^ 200 < v ∧ v < 2 ^ 200) ∧
  ∀ (d : Addr) (H' : Hp), H d = none → Same H H' → H' d = some (.lst ((walkW ss ks v).1.map V.int)) → Q (.ref d) H'
section
variable {P : Program} {w : World} {K : PySem.W.Frag} {mg : Str → Option Value} {base : Heap} {aM c0 fC fB fV fN fW fS : Addr} {dC dB dV dN dW dS : FuncData}
theorem ok_is_side {f : Addr} {fd : FuncData} (F : Fun K "is_side" "is_side" s_is_side f fd) (g0 : mg "InvalidSide" = some (.ref c0)) (Ck : Cal P w K mg base "check_side" 3 ["side"] spCheckSide fC dC) : FnOk P w K mg base CX0 4 f fd ["thing"] spIsSide := by
  refine F.ok sc_is_side (fun vs H Q E h => ?_) (fun cdv A outer s0 H vs Q E hr h => ?_)
  · obtain ⟨p, o, s, m, rfl, _⟩ := h
    rfl
  · obtain ⟨p, o, s, m, rfl, hp, S, q⟩ := h
    refine ⟨_, pss_cons (ps_try_only rfl rfl ⟨rfl, by decide, .inl g0⟩ takes0 (fun W pn xe tk _ => pss_one (ps_expr (pcl Ck hr (by decide) (by rfl) (pa_cons (pv 0) pa_nil)))) (fun a oe cls d pn _ _ => pss_one (ps_ret pe_bl))) (pss_one (ps_ret pe_bl)), ?_⟩
    walk_at "rd"
    refine ⟨p, o, s, m, rfl, hp, S, ?_⟩
    walk_at "rd"
    exact q
theorem ok_sides {f : Addr} {fd : FuncData} (F : Fun K "check_sides" "check_sides" s_check_sides f fd) (A' : AmG mg) (Ck : Cal P w K mg base "is_side" 4 ["thing"] spIsSide fC dC) : FnOk P w K mg base CX0 5 f fd ["sides"] spSides := by
  refine F.ok sc_check_sides (fun vs H Q E h => ?_) (fun cdv A outer s0 H vs Q E hr h => ?_)
  · obtain ⟨l, xs, ss, rfl, _⟩ := h
    rfl
  · obtain ⟨l, xs, ss, rfl, SS, q⟩ := h
    have nd := sc_check_sides.nd
    obtain ⟨tms, hms⟩ := A'.ms
    refine ⟨_, pss_cons (ps_if (PW.pt (pw_or (pt_not (pt_val (pe_callB call_isi (by rfl) A'.isi (by decide +kernel) (pa_cons (pv 0) (pa_cons (pe_bltn (v := .ty "list") (by rfl) A'.list (by decide +kernel) rfl) pa_nil)))))
        (pw_or1 (pt_not (pt_chain op_le op_le pe_int (pe_callB call_len_seq (by rfl) A'.len PySem.boot_len (pa_cons (pv 0) pa_nil)) (pe_glob (v := .int 4) (by rfl) hms ⟨_, rfl⟩)))))) (pss_one ps_never) pss_nil)
      (pss_one (ps_for PassesOwn.never rfl (pi_list (pv 0)) (pg_name (i := 1) nd rfl (Or.inl rfl))
        (pss_one (ps_if (pt_not (pt_val (pcl Ck hr (by decide) (by rfl) (pa_cons (pv 1) pa_nil)))) (pss_one ps_never) pss_nil)))), ?_⟩
    walk_at "rd"
    refine ⟨_, _, _, _, _, rfl, .ty "list", .base (.lst SS.hl), kit_ty (r := true) (by decide +kernel), ?_⟩
    walk_at "rd"
    refine ⟨l, _, rfl, .inl (SqL.of SS.hl), ?_⟩
    have l1 := SS.l1
    have l4 := SS.l4
    have ln := SS.len
    walk_at "rd"
    refine ite2 (fun _ => ?_) (fun z => absurd (decide_eq_true (by omega)) z)
    walk_at "rd"
    refine ite2 (fun z => ?_) (fun _ => ?_)
    · exfalso
      have e : decide ((xs.length : Int) ≤ 4) = true := decide_eq_true (by omega)
      exact not_t z e
    walk_at "rd"
    refine ⟨⟨_, SqL.of SS.hl⟩, ?_⟩
    refine for_list (K := K) (a := l) (xs := xs) (fun i σ H' => ∃ y : Option V, σ = [some (.ref l), y] ∧ H' = H) ⟨none, rfl, rfl⟩ (fun _ _ _ _ ⟨_, _, e⟩ => e ▸ SqL.of SS.hl) ?_ ?_
    · rintro i y σ H' hy ⟨z, rfl, rfl⟩
      obtain ⟨d, p, ed, rfl, hp, sp⟩ := SS.item hy
      walk_at "rd"
      refine ⟨p, d.o, d.s, d.m, rfl, hp, sp, _, rfl, ?_⟩
      refine ite2 (fun z => (not_t z rfl).elim) (fun _ => ?_)
      exact ⟨_, rfl, rfl⟩
    · rintro σ H' ⟨z, rfl, rfl⟩
      exact q
theorem ok_per {f : Addr} {fd : FuncData} (F : Fun K "period_of" "period_of" s_period_of f fd) : FnOk P w K mg base CX0 1 f fd ["side"] spPerOf := by
  refine F.ok sc_period_of (fun vs H Q E h => ?_) (fun cdv A outer s0 H vs Q E hr h => ?_)
  · obtain ⟨p, o, s, m, rfl, _⟩ := h
    rfl
  · obtain ⟨p, o, s, m, rfl, hp, S, q⟩ := h
    have nd := sc_period_of.nd
    refine ⟨_, (pss_cons (ps_asg (pv 0) (pg_tup (by rfl) (pgs_cons (pg_name (i := 1) nd rfl (Or.inl rfl)) (pgs_cons (pg_name (i := 2) nd rfl (Or.inl rfl)) (pgs_cons (pg_name (i := 3) nd rfl (Or.inl rfl)) pgs_nil)))))
      (pss_cons (ps_if (pt_cmpR op_eq (pv 3) pe_str (nomark _)) (pss_one (ps_ret (pe_op op_mul pe_int (pv 2)))) pss_nil)
      (pss_one (ps_ret (pv 2))))), ?_⟩
    walk_at "rd"
    refine ⟨p, _, rfl, SqT.of hp, rfl, _, _, rfl, _, _, rfl, _, _, rfl, rfl, ?_⟩
    walk_at "rd"
    refine ⟨rfl, ?_⟩
    walk_at "rd"
    unfold perM at q
    refine ite2 (fun h => ?_) (fun h => ?_)
    · rw [if_pos (str_t h)] at q
      walk_at "rd"
      refine ⟨.inl ⟨by decide, by decide⟩, ?_⟩
      exact q
    · rw [if_neg (str_f h)] at q
      walk_at "rd"
      exact q
end
end HT
namespace HT
open PySem L2
theorem log_lt {n k : Nat} (h : n < 2 ^ (k + 1)) : n.log2 ≤ k := by
  by_cases h0 : n = 0
  · subst h0
    rw [Nat.log2_zero]
    exact Nat.zero_le _
  · exact Nat.le_of_lt_succ ((Nat.log2_lt h0).mpr h)
theorem lcm_lt {a b i j : Nat} (ha : a < 2 ^ i) (hb : b < 2 ^ j) : a.lcm b < 2 ^ (i + j) := by
  rw [Nat.pow_add]
  exact Nat.lt_of_le_of_lt (PySem.W.mc_lcm_le a b) (Nat.mul_lt_mul'' ha hb)
def rLcm2 : List V → Hp → VK → Prop := fun vs H Q => ∃ a b : Int, vs = [.int a, .int b] ∧ a.natAbs < 2 ^ 2000 ∧ b.natAbs < 2 ^ 2000 ∧ Q (.int (((a.natAbs.lcm b.natAbs : Nat) : Int))) H
theorem cr_lcm2 {X : Cx} : CallR X (.builtin "math.lcm") rLcm2 := by
  intro pins s σ H vs us Q I r h
  obtain ⟨a, b, rfl, ha, hb, q⟩ := h
  obtain ⟨u1, u2, rfl, r1, r2⟩ := vals2 r
  obtain ⟨t, rfl⟩ := r1
  obtain ⟨u, rfl⟩ := r2
  have hab := lcm_lt ha hb
  have e1 : Nat.lcm 1 a.natAbs = a.natAbs := PySem.W.mc_lcm_one _
  have two : ∀ {k : Nat}, 1 < 2 ^ (k + 1) := fun {k} => Nat.one_lt_two_pow (by omega)
  have g := PySem.W.mg_run_lcm a t b u
    (by have := log_lt (n := max 1 a.natAbs) (k := 1999) (Nat.max_lt.mpr ⟨two, ha⟩); omega)
    (by have := log_lt (n := max a.natAbs b.natAbs) (k := 1999) (Nat.max_lt.mpr ⟨ha, hb⟩); omega)
    (by rw [e1]; exact PySem.W.mc_size (k := 100) (Nat.le_trans (Nat.le_of_lt hab) (Nat.pow_le_pow_right (by decide) (by decide))) (by decide))
  rw [e1] at g
  exact PySem.call_function_meets PySem.W.MGF.kind_lcm PySem.W.MGF.plain_lcm PySem.W.MGF.entry_lcm (PySem.W.MGF.args_lcm _ _) g.meets ⟨.int _, H, I.tok _, ⟨_, rfl⟩, q⟩
end HT
namespace HT
open PySem L2
def spRs : Sp := fun vs H Q _ => ∃ (p : Addr) (o s : Int) (m : Str), vs = [.ref p] ∧ H p = some (sideV o s m) ∧ SideP o s m ∧ ∀ H', Same H H' → Q (.bl (!decide (firstM s m = "down"))) H'
section
variable {P : Program} {w : World} {K : PySem.W.Frag} {mg : Str → Option Value} {base : Heap} {fH : Addr} {dH : FuncData}
end
end HT
namespace HT
open PySem L2
/-- the list at l holds sides with these parts; it may be empty -/
structure SidL (H : Hp) (l : Addr) (xs : List V) (ss : List Sd) : Prop where
  hl : H l = some (.lst xs)
  len : xs.length = ss.length
  l4 : ss.length ≤ 4
  at_ : ∀ (i : Nat) (d : Sd), ss[i]? = some d → ∃ p : Addr, xs[i]? = some (V.ref p) ∧ H p = some (sideV d.o d.s d.m) ∧ SideP d.o d.s d.m
theorem SidesAt.toL {H : Hp} {l : Addr} {xs : List V} {ss : List Sd} (S : SidesAt H l xs ss) : SidL H l xs ss := ⟨S.hl, S.len, S.l4, S.at_⟩
theorem SidL.same {H H' : Hp} {l : Addr} {xs : List V} {ss : List Sd} (S : SidL H l xs ss) (e : Same H H') : SidL H' l xs ss :=
  ⟨e _ _ S.hl, S.len, S.l4, fun i d h => let ⟨p, a, b, c⟩ := S.at_ i d h; ⟨p, a, e _ _ b, c⟩⟩
theorem SidL.item {H : Hp} {l : Addr} {xs : List V} {ss : List Sd} (S : SidL H l xs ss) {i : Nat} {y : V} (h : xs[i]? = some y) : ∃ d p, ss[i]? = some d ∧ y = .ref p ∧ H p = some (sideV d.o d.s d.m) ∧ SideP d.o d.s d.m := by
  have hi : i < ss.length := by have := (List.getElem?_eq_some_iff.mp h).1; rw [S.len] at this; exact this
  obtain ⟨p, e, hp, sp⟩ := S.at_ i ss[i] (List.getElem?_eq_getElem hi)
  rw [h] at e
  exact ⟨ss[i], p, List.getElem?_eq_getElem hi, Option.some.inj e, hp, sp⟩
theorem SidL.side {H : Hp} {l : Addr} {xs : List V} {ss : List Sd} (S : SidL H l xs ss) : ∀ d ∈ ss, SideP d.o d.s d.m := fun d hd => by
  obtain ⟨i, hi, rfl⟩ := List.mem_iff_getElem.mp hd
  obtain ⟨_, _, _, sp⟩ := S.at_ i _ (List.getElem?_eq_getElem hi)
  exact sp
def upD (d : Sd) : Bool := !decide (firstM d.s d.m = "down")
def mirD (d : Sd) : Sd := ⟨-d.o, d.s, mir d.m⟩
/-- v, or what some side writes for it, and no less -/
def HiP (ss : List Sd) (v h : Int) : Prop := v ≤ h ∧ (∀ d ∈ ss, dueM d.o d.s d.m v ≤ h) ∧ (h = v ∨ ∃ d ∈ ss, h = dueM d.o d.s d.m v)
def spPerL : Sp := fun vs H Q _ => ∃ (l : Addr) (xs : List V) (ss : List Sd), vs = [.ref l] ∧ SidL H l xs ss ∧ Q (.int (comN ss : Int)) H
def spRais : Sp := fun vs H Q _ => ∃ (l : Addr) (xs : List V) (ss : List Sd), vs = [.ref l] ∧ SidL H l xs ss ∧ ∀ (L : Addr) (ys : List V) (H' : Hp), H L = none → Same H H' → SidL H' L ys (ss.filter upD) → Q (.ref L) H'
def spMirs : Sp := fun vs H Q _ => ∃ (l : Addr) (xs : List V) (ss : List Sd), vs = [.ref l] ∧ SidL H l xs ss ∧ ∀ (L : Addr) (ys : List V) (H' : Hp), H L = none → Same H H' → SidL H' L ys (ss.map mirD) → Q (.ref L) H'
def spHi : Sp := fun vs H Q _ => ∃ (l : Addr) (xs : List V) (ss : List Sd) (v : Int), vs = [.ref l, .int v] ∧ SidL H l xs ss ∧ (-2 ^ 900 < v ∧ v < 2 ^ 900) ∧ ∀ (h : Int) (H' : Hp), HiP ss v h → Same H H' → Q (.int h) H'
/-- a list of sides grows -/
theorem grow_side {H H' : Hp} {D : Addr} {ys : List V} {ts : List Sd} {p : Addr} {d : Sd} (A : ∀ (i : Nat) (e : Sd), ts[i]? = some e → ∃ p : Addr, ys[i]? = some (V.ref p) ∧ H p = some (sideV e.o e.s e.m) ∧ SideP e.o e.s e.m) (len : ys.length = ts.length)
    (k : ∀ b u, H b = some u → b ≠ D → H' b = some u) (hD : H D = some (.lst ys)) (hp : H' p = some (sideV d.o d.s d.m)) (sp : SideP d.o d.s d.m) :
    ∀ (i : Nat) (e : Sd), (ts ++ [d])[i]? = some e → ∃ p' : Addr, (ys ++ [V.ref p])[i]? = some (V.ref p') ∧ H' p' = some (sideV e.o e.s e.m) ∧ SideP e.o e.s e.m := by
  intro i e he
  rcases Nat.lt_or_ge i ts.length with z | z
  · rw [List.getElem?_append_left z] at he
    obtain ⟨p2, e1, hp2, sp2⟩ := A i e he
    exact ⟨p2, by rw [List.getElem?_append_left (by omega)]; exact e1, k _ _ hp2 (ne_of hp2 hD (by intro y; cases y)), sp2⟩
  · rw [List.getElem?_append_right z] at he
    have e0 : i - ts.length = 0 := by
      have := (List.getElem?_eq_some_iff.mp he).1
      simp at this
      omega
    rw [e0] at he
    have ee : e = d := by simpa using he.symm
    subst ee
    exact ⟨p, by rw [List.getElem?_append_right (by omega), show i - ys.length = 0 by omega]; rfl, hp, sp⟩
section
variable {P : Program} {w : World} {K : PySem.W.Frag} {mg : Str → Option Value} {base : Heap} {fB fH fI : Addr} {dB dH dI : FuncData}
theorem ok_commonL {f : Addr} {fd : FuncData} (F : Fun K "common_period" "common_period" s_common_period f fd) (A' : AmG mg) (Pe : Cal P w K mg base "period_of" 1 ["side"] spPerOf fB dB) : FnOk P w K mg base CX0 2 f fd ["sides"] spPerL := by
  refine F.ok sc_common_period (fun vs H Q E h => ?_) (fun cdv A outer s0 H vs Q E hr h => ?_)
  · obtain ⟨l, xs, ss, rfl, _⟩ := h
    rfl
  · obtain ⟨l, xs, ss, rfl, SS, q⟩ := h
    have nd := sc_common_period.nd
    refine ⟨_, pss_cons (ps_set (i := 1) nd rfl (Or.inl rfl) pe_int)
      (pss_cons (ps_for PassesOwn.never rfl (pi_list (pv 0)) (pg_name (i := 2) nd rfl (Or.inl rfl)) (pss_one (ps_set (i := 1) nd rfl (Or.inl rfl) (pe_callBfun cr_lcm2 (by rfl) A'.lcm (pa_cons (pv 1) (pa_cons (pcl Pe hr (by decide) (by rfl) (pa_cons (pv 2) pa_nil)) pa_nil))))))
      (pss_one (ps_ret (pv 1)))), ?_⟩
    walk_at "rd"
    refine ⟨⟨_, SqL.of SS.hl⟩, ?_⟩
    refine for_list (K := K) (a := l) (xs := xs) (fun i st H' => ∃ x2 : Option V, st = [some (.ref l), some (.int (comN (ss.take i) : Int)), x2] ∧ H' = H) ⟨none, rfl, rfl⟩ (fun _ _ _ _ ⟨_, _, e⟩ => e ▸ SqL.of SS.hl) ?_ ?_
    · rintro i y st H' hy ⟨x2, rfl, rfl⟩
      obtain ⟨d, p, ed, rfl, hp, sp⟩ := SS.item hy
      walk_at "rd"
      refine ⟨p, d.o, d.s, d.m, rfl, hp, sp, ?_⟩
      have pb := perM_bd sp
      have cl := com_take SS.side SS.l4 i
      have big : (2 : Nat) ^ 420 < 2 ^ 2000 := Nat.pow_lt_pow_right (by decide) (by decide)
      have big2 : (2 : Nat) ^ 120 < 2 ^ 2000 := Nat.pow_lt_pow_right (by decide) (by decide)
      have e2 : (perM d.s d.m).natAbs = perN d := by unfold perN; omega
      refine ⟨_, _, rfl, ?_, ?_, ?_⟩
      · rw [Int.natAbs_natCast]; omega
      · rw [e2]; unfold perN; omega
      · rw [Int.natAbs_natCast, e2, ← com_snoc ed]
        exact ⟨_, rfl, rfl⟩
    · rintro st H' ⟨x2, rfl, rfl⟩
      rw [SS.len, List.take_length]
      walk_at "rd"
      exact q
theorem filter_snoc {ss : List Sd} {i : Nat} {d : Sd} (h : ss[i]? = some d) : (ss.take (i + 1)).filter upD = (ss.take i).filter upD ++ (if upD d = true then [d] else []) := by
  rw [List.take_succ, h, List.filter_append]
  congr 1
  simp only [Option.toList, List.filter_cons, List.filter_nil]
end
end HT
namespace HT
open PySem L2
/-- what a side does to x + b, at x -/
def movD (b : Int) (d : Sd) : Sd := ⟨(d.o + b) % perM d.s d.m, d.s, d.m⟩
theorem side_mov {d : Sd} (b : Int) (S : SideP d.o d.s d.m) : SideP (movD b d).o (movD b d).s (movD b d).m := by
  have p := perM_bd S
  have h0 := Int.emod_nonneg (d.o + b) (show perM d.s d.m ≠ 0 by omega)
  have h1 := Int.emod_lt_of_pos (d.o + b) (show 0 < perM d.s d.m by omega)
  refine ⟨?_, ?_, S.s0, S.s1, S.md⟩
  · show -10 ^ 40 ≤ (d.o + b) % perM d.s d.m
    omega
  · show (d.o + b) % perM d.s d.m ≤ 10 ^ 40
    omega
def spMoved : Sp := fun vs H Q _ => ∃ (p : Addr) (d : Sd) (b : Int), vs = [.ref p, .int b] ∧ H p = some (sideV d.o d.s d.m) ∧ SideP d.o d.s d.m ∧ ∀ (q : Addr) (H' : Hp), H q = none → Same H H' → H' q = some (sideV (movD b d).o (movD b d).s (movD b d).m) → Q (.ref q) H'
/-- the next run -/
def widS (r : Int × Int) (a : Int × Int) (d : Sd) : Int × Int :=
  if backM d.o d.s d.m r.1 ≤ backM d.o d.s d.m (r.2 + 1) - 1 then (if backM d.o d.s d.m r.1 < a.1 then backM d.o d.s d.m r.1 else a.1, if a.2 < backM d.o d.s d.m (r.2 + 1) - 1 then backM d.o d.s d.m (r.2 + 1) - 1 else a.2) else a
def widF (ss : List Sd) (r : Int × Int) : Int × Int := ss.foldl (widS r) r
def runN (ss : List Sd) : Nat → Int × Int
  | 0 => (0, 0)
  | k + 1 => widF ss (runN ss k)
theorem back_bd {o s : Int} {m : Str} {v : Int} (md : Mode m) (s0 : 1 ≤ s) : v - s ≤ backM o s m v ∧ backM o s m v ≤ v + s := by
  have c := ceil_eq (o := o) (v := v) s0
  have b := below_bd (k := ceilM o s v) md s0
  have e : s * (ceilM o s v - 1) = s * ceilM o s v - s := by rw [Int.mul_sub, Int.mul_one]
  have l : backM o s m v = o + s * ceilM o s v - below m s (ceilM o s v) := rfl
  rw [l]
  omega
theorem wid_bd {ss : List Sd} (h : ∀ d ∈ ss, SideP d.o d.s d.m) {r : Int × Int} : r.1 - 10 ^ 31 ≤ (widF ss r).1 ∧ (widF ss r).1 ≤ r.1 ∧ r.2 ≤ (widF ss r).2 ∧ (widF ss r).2 ≤ r.2 + 10 ^ 31 := by
  have key : ∀ (ss : List Sd) (a : Int × Int), (∀ d ∈ ss, SideP d.o d.s d.m) → r.1 - 10 ^ 31 ≤ a.1 ∧ a.1 ≤ r.1 ∧ r.2 ≤ a.2 ∧ a.2 ≤ r.2 + 10 ^ 31 → r.1 - 10 ^ 31 ≤ (ss.foldl (widS r) a).1 ∧ (ss.foldl (widS r) a).1 ≤ r.1 ∧ r.2 ≤ (ss.foldl (widS r) a).2 ∧ (ss.foldl (widS r) a).2 ≤ r.2 + 10 ^ 31 := by
    intro ss
    induction ss with
    | nil => intro a _ z; exact z
    | cons d ss ih =>
      intro a hs z
      have S := hs d List.mem_cons_self
      have s0 := S.s0
      have s1 := S.s1
      have b1 := back_bd (o := d.o) (v := r.1) S.md s0
      have b2 := back_bd (o := d.o) (v := r.2 + 1) S.md s0
      refine ih (widS r a d) (fun e he => hs e (List.mem_cons_of_mem _ he)) ?_
      unfold widS
      split
      · refine ⟨?_, ?_, ?_, ?_⟩ <;> simp only <;> split <;> omega
      · exact z
  exact key ss r h ⟨by omega, by omega, by omega, by omega⟩
theorem run_bd {ss : List Sd} (h : ∀ d ∈ ss, SideP d.o d.s d.m) : ∀ k : Nat, -(k * 10 ^ 31 : Int) ≤ (runN ss k).1 ∧ (runN ss k).1 ≤ 0 ∧ 0 ≤ (runN ss k).2 ∧ (runN ss k).2 ≤ k * 10 ^ 31
  | 0 => by
    show -(((0 : Nat) : Int) * 10 ^ 31) ≤ 0 ∧ (0 : Int) ≤ 0 ∧ (0 : Int) ≤ 0 ∧ (0 : Int) ≤ ((0 : Nat) : Int) * 10 ^ 31
    omega
  | k + 1 => by
    have a := run_bd h k
    have b := wid_bd h (r := runN ss k)
    have e : ((k + 1 : Nat) : Int) * 10 ^ 31 = (k : Int) * 10 ^ 31 + 10 ^ 31 := by rw [Int.natCast_add, Int.add_mul]; rfl
    show -(((k + 1 : Nat) : Int) * 10 ^ 31) ≤ (widF ss (runN ss k)).1 ∧ (widF ss (runN ss k)).1 ≤ 0 ∧ 0 ≤ (widF ss (runN ss k)).2 ∧ (widF ss (runN ss k)).2 ≤ ((k + 1 : Nat) : Int) * 10 ^ 31
    rw [e]
    omega
theorem wid_take {ss : List Sd} {r : Int × Int} {i : Nat} {d : Sd} (h : ss[i]? = some d) : (ss.take (i + 1)).foldl (widS r) r = widS r ((ss.take i).foldl (widS r) r) d := by
  rw [List.take_succ, h, List.foldl_append]
  rfl
/-- the runs up to the last one that is told -/
def pairV (a b : Int) : HO := .tup [.int a, .int b]
def spWid : Sp := fun vs H Q _ => ∃ (l p : Addr) (xs : List V) (ss : List Sd) (r : Int × Int), vs = [.ref l, .ref p] ∧ SidesAt H l xs ss ∧ H p = some (pairV r.1 r.2) ∧ (-2 ^ 600 < r.1 ∧ r.1 < 2 ^ 600) ∧ (-2 ^ 600 < r.2 ∧ r.2 < 2 ^ 600) ∧
  ∀ (q : Addr) (H' : Hp), H q = none → Same H H' → H' q = some (pairV (widF ss r).1 (widF ss r).2) → Q (.ref q) H'
section
variable {P : Program} {w : World} {K : PySem.W.Frag} {mg : Str → Option Value} {base : Heap} {aM c0 fC fB fV fN fW fS : Addr} {dC dB dV dN dW dS : FuncData}
theorem ok_threshold {f : Addr} {fd : FuncData} (F : Fun K "threshold" "threshold" s_threshold f fd) (B : Cal P w K mg base "_below" 1 ["mode", "step", "figure"] spBelow fB dB) : FnOk P w K mg base CX0 3 f fd ["side", "value"] spBack := by
  refine F.ok sc_threshold (fun vs H Q E h => ?_) (fun cdv A outer s H vs Q E hr h => ?_)
  · obtain ⟨p, o, s, m, v, rfl, _⟩ := h
    rfl
  · obtain ⟨p, o, s, m, v, rfl, hp, S, hv0, hv1, q⟩ := h
    have nd := sc_threshold.nd
    refine ⟨_, pss_cons (ps_asg (pv 0) (pg_tup (by rfl) (pgs_cons (pg_name (i := 2) nd rfl (Or.inl rfl)) (pgs_cons (pg_name (i := 3) nd rfl (Or.inl rfl)) (pgs_cons (pg_name (i := 4) nd rfl (Or.inl rfl)) pgs_nil)))))
      (pss_cons (ps_set (i := 5) nd rfl (Or.inl rfl) (pe_un un_neg (pe_op op_fdivW (pe_op op_sub (pv 2) (pv 1)) (pv 3))))
      (pss_one (ps_ret (pe_op op_sub (pe_op op_add (pv 2) (pe_op op_mulW (pv 3) (pv 5))) (pcl B hr (by decide) (by rfl) (pa_cons (pv 4) (pa_cons (pv 3) (pa_cons (pv 5) pa_nil)))))))), ?_⟩
    walk_at "rd"
    refine ⟨p, _, rfl, SqT.of hp, rfl, _, _, rfl, _, _, rfl, _, _, rfl, rfl, ?_⟩
    have s0 := S.s0
    have s1 := S.s1
    have o0 := S.o0
    have o1 := S.o1
    walk_at "rd"
    refine ⟨fdiv_ok _ (by omega) (lg_big (by omega) (by omega)), ?_⟩
    walk_at "rd"
    have db := div_bd (x := o - v) (b := 2 ^ 701) s0 (by omega) (by omega)
    refine ⟨mulW (by omega) (by omega), ?_⟩
    walk_at "rd"
    refine ⟨m, s, ceilM o s v, rfl, S.md, ?_⟩
    walk_at "rd"
    exact q H (fun _ _ z => z)
theorem ok_moved {f : Addr} {fd : FuncData} (F : Fun K "moved" "moved" s_moved f fd) (Pe : Cal P w K mg base "period_of" 1 ["side"] spPerOf fB dB) : FnOk P w K mg base CX0 2 f fd ["side", "by"] spMoved := by
  refine F.ok sc_moved (fun vs H Q E h => ?_) (fun cdv A outer s0 H vs Q E hr h => ?_)
  · obtain ⟨p, d, b, rfl, _⟩ := h
    rfl
  · obtain ⟨p, d, b, rfl, hp, S, q⟩ := h
    have nd := sc_moved.nd
    refine ⟨_, (pss_cons (ps_asg (pv 0) (pg_tup (by rfl) (pgs_cons (pg_name (i := 2) nd rfl (Or.inl rfl)) (pgs_cons (pg_name (i := 3) nd rfl (Or.inl rfl)) (pgs_cons (pg_name (i := 4) nd rfl (Or.inl rfl)) pgs_nil)))))
      (pss_one (ps_ret (pe_tup (pa_cons (pe_op op_mod (pe_op op_add (pv 2) (pv 1)) (pcl Pe hr (by decide) (by rfl) (pa_cons (pv 0) pa_nil))) (pa_cons (pv 3) (pa_cons (pv 4) pa_nil))))))), ?_⟩
    walk_at "rd"
    refine ⟨p, _, rfl, SqT.of hp, rfl, _, _, rfl, _, _, rfl, _, _, rfl, rfl, ?_⟩
    walk_at "rd"
    refine ⟨p, d.o, d.s, d.m, rfl, hp, S, ?_⟩
    have pb := perM_bd S
    refine ⟨_, _, rfl, rfl, (show 0 < perM d.s d.m by omega), ?_⟩
    walk_at "rd"
    refine ⟨(by show 3 ≤ sizeLine; decide), fun n nn => ?_⟩
    exact q n _ nn (fun c u z => (upd_ne (ne_of_none z nn)).trans z) upd_same
theorem ok_wid {f : Addr} {fd : FuncData} (F : Fun K "_widened" "_widened" s_widened f fd) (MT : MaxT mg) (Th : Cal P w K mg base "threshold" 3 ["side", "value"] spBack fB dB) : FnOk P w K mg base CX0 4 f fd ["sides", "run"] spWid := by
  refine F.ok sc_widened (fun vs H Q E h => ?_) (fun cdv A outer s0 H vs Q E hr h => ?_)
  · obtain ⟨l, p, xs, ss, r, rfl, _⟩ := h
    rfl
  · obtain ⟨l, p, xs, ss, r, rfl, SS, hp, r1, r2, q⟩ := h
    have nd := sc_widened.nd
    refine ⟨_, (pss_cons (ps_asg (pv 1) (pg_tup (by rfl) (pgs_cons (pg_name (i := 2) nd rfl (Or.inl rfl)) (pgs_cons (pg_name (i := 3) nd rfl (Or.inl rfl)) pgs_nil))))
      (pss_cons (ps_asg (pv 1) (pg_tup (by rfl) (pgs_cons (pg_name (i := 4) nd rfl (Or.inl rfl)) (pgs_cons (pg_name (i := 5) nd rfl (Or.inl rfl)) pgs_nil))))
      (pss_cons (ps_for PassesOwn.never rfl (pi_list (pv 0)) (pg_name (i := 6) nd rfl (Or.inl rfl)) (pss_cons (ps_set (i := 7) nd rfl (Or.inl rfl) (pcl Th hr (by decide) (by rfl) (pa_cons (pv 6) (pa_cons (pv 2) pa_nil))))
      (pss_cons (ps_set (i := 8) nd rfl (Or.inl rfl) (pe_op op_sub (pcl Th hr (by decide) (by rfl) (pa_cons (pv 6) (pa_cons (pe_op op_add (pv 3) pe_int) pa_nil))) pe_int))
      (pss_one (ps_if (pt_cmpR op_le (pv 7) (pv 8) (nomark _)) (pss_cons (ps_set (i := 4) nd rfl (Or.inl rfl) (pe_callB (call_min2 rfl) (by rfl) MT.min (by decide +kernel) (pa_cons (pv 4) (pa_cons (pv 7) pa_nil))))
      (pss_one (ps_set (i := 5) nd rfl (Or.inl rfl) (pe_callB (call_max2 rfl) (by rfl) MT.max (by decide +kernel) (pa_cons (pv 5) (pa_cons (pv 8) pa_nil)))))) pss_nil)))))
      (pss_one (ps_ret (pe_tup (pa_cons (pv 4) (pa_cons (pv 5) pa_nil)))))))), ?_⟩
    walk_at "rd"
    refine ⟨p, _, rfl, SqT.of hp, rfl, _, _, rfl, _, _, rfl, rfl, ?_⟩
    walk_at "rd"
    refine ⟨p, _, rfl, SqT.of hp, rfl, _, _, rfl, _, _, rfl, rfl, ?_⟩
    walk_at "rd"
    refine ⟨⟨_, SqL.of SS.hl⟩, ?_⟩
    refine for_list (K := K) (a := l) (xs := xs) (fun i st H' => ∃ x6 x7 x8 : Option V, st = [some (.ref l), some (.ref p), some (.int r.1), some (.int r.2), some (.int ((ss.take i).foldl (widS r) r).1), some (.int ((ss.take i).foldl (widS r) r).2), x6, x7, x8] ∧ Same H H')
      ⟨none, none, none, rfl, Same.refl H⟩ (fun _ _ _ _ ⟨_, _, _, _, e⟩ => SqL.of (e _ _ SS.hl)) ?_ ?_
    · rintro i y st H' hy ⟨x6, x7, x8, rfl, sm⟩
      obtain ⟨d, q6, ed, rfl, hq, sp⟩ := SS.item hy
      have wt := wid_take (r := r) ed
      walk_at "rd"
      refine ⟨q6, d.o, d.s, d.m, r.1, rfl, sm _ _ hq, sp, by omega, by omega, fun H2 s2 => ?_⟩
      walk_at "rd"
      refine ⟨q6, d.o, d.s, d.m, r.2 + 1, rfl, s2 _ _ (sm _ _ hq), sp, by omega, by omega, fun H3 s3 => ?_⟩
      walk_at "rd"
      generalize (ss.take i).foldl (widS r) r = a at wt ⊢
      refine ite2 (fun z => ?_) (fun z => ?_)
      · have le := of_decide_eq_true z
        have e : widS r a d = (if backM d.o d.s d.m r.1 < a.1 then backM d.o d.s d.m r.1 else a.1, if a.2 < backM d.o d.s d.m (r.2 + 1) - 1 then backM d.o d.s d.m (r.2 + 1) - 1 else a.2) := by
          unfold widS
          rw [if_pos le]
        rw [e] at wt
        walk_at "rd"
        refine ⟨_, _, rfl, ?_⟩
        walk_at "rd"
        refine ⟨_, _, rfl, ?_⟩
        rw [wt]
        exact ⟨_, _, _, rfl, (sm.trans s2).trans s3⟩
      · have le := of_decide_eq_false (by simpa using z : decide (backM d.o d.s d.m r.1 ≤ backM d.o d.s d.m (r.2 + 1) - 1) = false)
        have e : widS r a d = a := by
          unfold widS
          rw [if_neg le]
        rw [e] at wt
        show ∃ x6 x7 x8 : Option V, _
        rw [wt]
        exact ⟨_, _, _, rfl, (sm.trans s2).trans s3⟩
    · rintro st H' ⟨x6, x7, x8, rfl, sm⟩
      walk_at "rd"
      refine ⟨(by show 2 ≤ sizeLine; decide), fun n nn => ?_⟩
      rw [SS.len, List.take_length]
      exact q n _ (sm.free nn) (fun c u z => (upd_ne (ne_of_none (sm _ _ z) nn)).trans (sm _ _ z)) upd_same
end
end HT
namespace HT
open PySem L2
/-- the runs go on until one does not grow, or to the one of 1,001 hand-overs -/
structure RunsTo (ss : List Sd) (n : Nat) : Prop where
  le : n ≤ 1001
  ne : ∀ j, j < n → runN ss (j + 1) ≠ runN ss j
  stop : n = 1001 ∨ runN ss (n + 1) = runN ss n
def RunsAt (H : Hp) (q : Addr) (v : Int) (ss : List Sd) (n : Nat) : Prop := ∃ ps : List Addr, H q = some (.lst (ps.map V.ref)) ∧ ps.length = n + 1 ∧ ∀ (i : Nat) (p : Addr), ps[i]? = some p → H p = some (pairV (v + (runN ss i).1) (v + (runN ss i).2))
theorem RunsAt.same {H H' : Hp} {q : Addr} {v : Int} {ss : List Sd} {n : Nat} (R : RunsAt H q v ss n) (e : Same H H') : RunsAt H' q v ss n := let ⟨ps, a, b, c⟩ := R; ⟨ps, e _ _ a, b, fun i p h => e _ _ (c i p h)⟩
/-- the runs as seen from the value -/
def Runs0 (H : Hp) (q : Addr) (ss : List Sd) (n : Nat) : Prop := ∃ ps : List Addr, H q = some (.lst (ps.map V.ref)) ∧ ps.length = n + 1 ∧ ∀ (i : Nat) (p : Addr), ps[i]? = some p → H p = some (pairV (runN ss i).1 (runN ss i).2)
theorem Runs0.same {H H' : Hp} {q : Addr} {ss : List Sd} {n : Nat} (R : Runs0 H q ss n) (e : Same H H') : Runs0 H' q ss n := let ⟨ps, a, b, c⟩ := R; ⟨ps, e _ _ a, b, fun i p h => e _ _ (c i p h)⟩
theorem eqv_two (a b c d : Int) : PyData.eqv (.tuple [.int a, .int b]) (.tuple [.int c, .int d]) = decide (a = c ∧ b = d) := by
  simp only [PyData.eqv, PyData.eqvAll, Bool.and_true]
  by_cases x : a = c <;> by_cases y : b = d <;> simp [x, y]
theorem dpPair {K : PySem.W.Frag} {H : Hp} {p : Addr} {a b : Int} (h : H p = some (pairV a b)) : Dp K H (.ref p) (.tuple [.int a, .int b]) := .tup (SqT.of h) (.cons (.int _) (.cons (.int _) .nil))
theorem shaped_two (a b : Int) : SeqAt.shaped (.tuple [.int a, .int b]) = true := rfl
def spRuns : Sp := fun vs H Q _ => ∃ (l : Addr) (xs : List V) (ss : List Sd) (v : Int), vs = [.ref l, .int v] ∧ SidesAt H l xs ss ∧ (-2 ^ 500 < v ∧ v < 2 ^ 500) ∧
  ∀ (q : Addr) (n : Nat) (H' : Hp), H q = none → Same H H' → RunsTo (ss.map (movD (-v))) n → RunsAt H' q v (ss.map (movD (-v))) n → Q (.ref q) H'
section
variable {P : Program} {w : World} {K : PySem.W.Frag} {mg : Str → Option Value} {base : Heap} {aM c0 fC fB fV fN fW fS : Addr} {dC dB dV dN dW dS : FuncData}
theorem ok_runs {f : Addr} {fd : FuncData} (F : Fun K "_runs" "_runs" s_runs f fd) (B : Blt mg) (hMH : ∃ t, mg "MOST_HANDOVERS" = some (.int 1000 t)) (Mo : Cal P w K mg base "moved" 2 ["side", "by"] spMoved fB dB) (Wi : Cal P w K mg base "_widened" 4 ["sides", "run"] spWid fC dC) : FnOk P w K mg base CX0 5 f fd ["sides", "value"] spRuns := by
  refine F.ok sc_runs (fun vs H Q E h => ?_) (fun cdv A outer s0 H vs Q E hr h => ?_)
  · obtain ⟨l, xs, ss, v, rfl, _⟩ := h
    rfl
  · obtain ⟨l, xs, ss, v, rfl, SS, hv, q⟩ := h
    have nd := sc_runs.nd
    obtain ⟨tmh, hmh⟩ := hMH
    refine ⟨_, (pss_cons (ps_setLc (i := 3) (own := [("side", 2)]) (g := gName 2) (tt := tYes) rfl nd rfl rfl (sw_true rfl rfl rfl (by decide +kernel)) (pi_list (pv 0)) (blkOk_by (N := ["sides", "value", "side", "near", "runs", "many", "run", "least", "greatest"]) (sc := defScope s_runs) (by decide +kernel)) (fun _ _ _ _ _ => pg_name (i := 2) nd rfl (Or.inl rfl)) (fun _ _ _ _ _ => pts_nil) (fun _ _ _ _ _ => (pcl Mo hr (by decide) (by rfl) (pa_cons (pv 2) (pa_cons (pe_un un_neg (pv 1)) pa_nil)))))
      (pss_cons (ps_set (i := 4) nd rfl (Or.inl rfl) (pe_lst (pa_cons (pe_tup (pa_cons pe_int (pa_cons pe_int pa_nil))) pa_nil)))
      (pss_cons (ps_mid (ps_for PassesOwn.never rfl (pi_range1 (by rfl) B.range (pa_cons (pe_op op_add (pe_glob (v := .int 1000) (by rfl) hmh ⟨_, rfl⟩) pe_int) pa_nil)) (pg_name (i := 5) nd rfl (Or.inl rfl)) (pss_cons (ps_set (i := 6) nd rfl (Or.inl rfl) (pcl Wi hr (by decide) (by rfl) (pa_cons (pv 3) (pa_cons (pe_ix ix_list (pv 4) (pv 5) (fun _ _ => rfl)) pa_nil))))
      (pss_cons (ps_if (pt_cmpR (op_eqD hr.units) (pv 6) (pe_ix ix_list (pv 4) (pv 5) (fun _ _ => rfl)) (nomark _)) (pss_one ps_break) pss_nil)
      (pss_one (ps_expr (pe_bm PySem.F.plainAttrs_list PySem.F.slot_list_append PySem.F.type_list_append mt_append (pv 4) (pa_cons (pv 6) pa_nil))))))))
      (pss_one (ps_ret (pe_lc (own := [("least", 7), ("greatest", 8)]) (g := (gTup K 2 (gCons (gName 7) (gCons (gName 8) gNil)))) (tt := tYes) rfl nd (pi_list (pv 4)) (blkOk_by (N := ["sides", "value", "side", "near", "runs", "many", "run", "least", "greatest"]) (sc := defScope s_runs) (by decide +kernel)) (fun _ _ _ _ _ => pg_tup (by rfl) (pgs_cons (pg_name (i := 7) nd rfl (Or.inl rfl)) (pgs_cons (pg_name (i := 8) nd rfl (Or.inl rfl)) pgs_nil))) (fun _ _ _ _ _ => pts_nil) (fun _ _ _ _ _ => (pe_tup (pa_cons (pe_op op_add (pv 1) (pv 7)) (pa_cons (pe_op op_add (pv 1) (pv 8)) pa_nil)))))))))), ?_⟩
    walk_at "rd"
    refine ⟨⟨_, SqL.of SS.hl⟩, fun L nL => ?_⟩
    refine lc_list (K := K) (a := l) (xs := xs) (fun i H3 => ∃ ys : List V, H3 L = some (.lst ys) ∧ ys.length = ((ss.take i).map (movD (-v))).length ∧ i ≤ ss.length ∧ Same H H3 ∧ (∀ (j : Nat) (d : Sd), ((ss.take i).map (movD (-v)))[j]? = some d → ∃ p : Addr, ys[j]? = some (V.ref p) ∧ H3 p = some (sideV d.o d.s d.m) ∧ SideP d.o d.s d.m))
      ⟨[], upd_same, rfl, Nat.zero_le _, fun b u z => (upd_ne (ne_of_none z nL)).trans z, fun j d z => by simp at z⟩ (fun _ _ _ ⟨_, _, _, _, sm, _⟩ => SqL.of (sm _ _ SS.hl)) ?_ ?_
    · rintro i y H3 hy ⟨ys, hD, ly, li, sm, at_⟩
      obtain ⟨d, p, ed, rfl, hp, sp⟩ := SS.item hy
      have il : i < ss.length := (List.getElem?_eq_some_iff.mp ed).1
      refine ⟨rfl, ?_⟩
      walk_at "rd"
      refine ⟨p, d, -v, rfl, sm _ _ hp, sp, fun b H4 nb s34 hb => ?_⟩
      have hD4 := s34 _ _ hD
      have es : (ss.take (i + 1)).map (movD (-v)) = (ss.take i).map (movD (-v)) ++ [movD (-v) d] := by
        rw [List.take_succ, ed, List.map_append]
        rfl
      walk_at "rd"
      refine ⟨_, hD4, ?_, ys ++ [.ref b], upd_same, ?_, il, ?_, ?_⟩
      · rw [ly, List.length_map]
        exact Nat.lt_of_le_of_lt (Nat.le_trans (List.length_take_le' _ _) SS.l4) (by decide)
      · rw [es, List.length_append, List.length_append, ly]
        rfl
      · intro c u y
        exact (upd_ne (ne_of_none y nL)).trans (s34 _ _ (sm _ _ y))
      · rw [es]
        exact grow_side (d := movD (-v) d) at_ ly (fun c u y nb => (upd_ne nb).trans (s34 _ _ y)) hD ((upd_ne (ne_of hb hD4 (by intro y; cases y))).trans hb) (side_mov _ sp)
    rintro H3 ⟨ys, hD, ly, li, sm, at_⟩
    rw [SS.len, List.take_length] at ly at_
    have N3 : SidesAt H3 L ys (ss.map (movD (-v))) := ⟨hD, ly, by rw [List.length_map]; exact SS.l1, by rw [List.length_map]; exact SS.l4, at_⟩
    generalize ss.map (movD (-v)) = ns at N3 q
    clear at_ ly hD
    walk_at "rd"
    refine ⟨(by show 2 ≤ sizeLine; decide), fun p0 n0 => ?_⟩
    have w4 : Same H3 (upd H3 p0 (pairV 0 0)) := fun b u z => (upd_ne (ne_of_none z n0)).trans z
    have g4 : upd H3 p0 (pairV 0 0) p0 = some (pairV 0 0) := upd_same
    change (tNil _ (upd H3 p0 (pairV 0 0)) _)
    generalize upd H3 p0 (pairV 0 0) = H4 at w4 g4 ⊢
    walk_at "rd"
    refine ⟨(by show 1 ≤ sizeLine; decide), fun R nR => ?_⟩
    have w5 : Same H4 (upd H4 R (.lst [.ref p0])) := fun b u z => (upd_ne (ne_of_none z nR)).trans z
    have g5 : upd H4 R (.lst [.ref p0]) R = some (.lst [.ref p0]) := upd_same
    generalize upd H4 R (.lst [.ref p0]) = H5 at w5 g5 ⊢
    have t5 : Same H H5 := sm.trans (w4.trans w5)
    have N5 := (N3.same w4).same w5
    have R5 : Runs0 H5 R ns 0 := ⟨[p0], g5, rfl, fun i p e => by
      cases i with
      | zero => cases e; exact w5 _ _ g4
      | succ i => cases e⟩
    have RH : H R = none := by
      cases z : H R with
      | none => rfl
      | some u => rw [w4 _ _ (sm _ _ z)] at nR; cases nR
    walk_at "rd"
    refine ⟨fun st H' => ∃ (x2 x5 x6 x7 x8 : Option V) (n : Nat), st = [some (.ref l), some (.int v), x2, some (.ref L), some (.ref R), x5, x6, x7, x8] ∧ RunsTo ns n ∧ Runs0 H' R ns n ∧ Same H H', ?_, ?_⟩
    · walk_at "rd"
      refine ⟨by decide, by decide, ?_⟩
      refine for_range (n := 1001) (fun i st H' => ∃ x5 x6 : Option V, st = [some (.ref l), some (.int v), none, some (.ref L), some (.ref R), x5, x6, none, none] ∧ (∀ j, j < i → runN ns (j + 1) ≠ runN ns j) ∧ Runs0 H' R ns i ∧ Same H H' ∧ SidesAt H' L ys ns) ⟨none, none, rfl, fun j z => absurd z (Nat.not_lt_zero _), R5, t5, N5⟩ ?_ ?_
      · rintro i st H' hi ⟨x5, x6, rfl, grow, ⟨ps, hR, lp, ap⟩, t6, N6⟩
        obtain ⟨p1, e1⟩ : ∃ p1, ps[i]? = some p1 := ⟨ps[i]'(by omega), List.getElem?_eq_getElem _⟩
        have hp1 := ap i p1 e1
        have bd := run_bd N6.side i
        have e2 : atI (ps.map V.ref) ((0 : Int) + (i : Int)) = some (V.ref p1) := by
          rw [Int.zero_add]
          exact atI_nat (by rw [List.getElem?_map, e1]; rfl)
        walk_at "rd"
        refine ⟨R, _, _, _, rfl, rfl, SqL.of hR, e2, ?_⟩
        walk_at "rd"
        refine ⟨L, p1, ys, ns, runN ns i, rfl, N6, hp1, by omega, by omega, fun p2 H7 n2 s7 h2 => ?_⟩
        walk_at "rd"
        refine ⟨R, _, _, _, rfl, rfl, SqL.of (s7 _ _ hR), e2, ?_⟩
        refine ⟨_, _, dpPair h2, dpPair (s7 _ _ hp1), shaped_two _ _, shaped_two _ _, ?_⟩
        rw [eqv_two]
        walk_at "rd"
        refine ite2 (fun z => ?_) (fun z => ?_)
        · have e := of_decide_eq_true z
          have e3 : runN ns (i + 1) = runN ns i := Prod.ext e.1 e.2
          exact ⟨_, _, _, _, _, i, rfl, ⟨by omega, grow, .inr e3⟩, ⟨ps, s7 _ _ hR, lp, fun i p e => s7 _ _ (ap i p e)⟩, t6.trans s7⟩
        · have ne : runN ns (i + 1) ≠ runN ns i := fun e => by
            have e3 : (widF ns (runN ns i)).1 = (runN ns i).1 ∧ (widF ns (runN ns i)).2 = (runN ns i).2 := ⟨congrArg Prod.fst e, congrArg Prod.snd e⟩
            exact z (decide_eq_true e3)
          walk_at "rd"
          refine ⟨.inl ⟨rfl, _, SqL.of (s7 _ _ hR)⟩, ?_⟩
          walk_at "rd"
          refine ⟨R, _, .ref p2, rfl, rfl, s7 _ _ hR, (by rw [List.length_map, lp]; exact Nat.lt_of_le_of_lt (by omega : i + 1 ≤ 1001) (by decide)), ?_⟩
          have nRp : R ≠ p2 := fun e => by rw [← e, hR] at n2; cases n2
          have keep : ∀ {c : Addr} {u : HO}, c ≠ R → H7 c = some u → upd H7 R (.lst (ps.map V.ref ++ [.ref p2])) c = some u := fun {c u} e z => (upd_ne e).trans z
          refine ⟨_, _, rfl, fun j hj => ?_, ⟨ps ++ [p2], by rw [List.map_append]; exact upd_same, by rw [List.length_append, lp]; rfl, fun j p ej => ?_⟩, fun c u y => ?_, ?_⟩
          · rcases Nat.lt_or_eq_of_le (Nat.le_of_lt_succ hj) with y | y
            · exact grow j y
            · rw [y]; exact ne
          · by_cases y : j < ps.length
            · rw [List.getElem?_append_left y] at ej
              have hj := s7 _ _ (ap j p ej)
              exact keep (fun e => by rw [e, s7 _ _ hR] at hj; cases hj) hj
            · rw [List.getElem?_append_right (by omega)] at ej
              have j0 : j - ps.length = 0 := by
                have := (List.getElem?_eq_some_iff.mp ej).1
                simp at this
                omega
              rw [j0] at ej
              cases ej
              have ej2 : j = i + 1 := by omega
              rw [ej2]
              exact keep nRp.symm h2
          · exact keep (ne_of_none y RH) (s7 _ _ (t6 _ _ y))
          · have N7 := N6.same s7
            have nLR : L ≠ R := fun e => by
              have z := N5.hl
              rw [e, g5] at z
              have z2 : [V.ref p0] = ys := by cases z; rfl
              have z3 := N5.len
              have z4 := N5.at_
              have z5 := N3.hl
              rw [e] at z5
              rw [w4 _ _ z5] at nR
              cases nR
            refine ⟨keep nLR N7.hl, N7.len, N7.l1, N7.l4, fun j d e => ?_⟩
            obtain ⟨p, a, b, c⟩ := N7.at_ j d e
            exact ⟨p, a, keep (fun e => by rw [e, s7 _ _ hR] at b; cases b) b, c⟩
      · rintro st H' ⟨x5, x6, rfl, grow, R6, t6, _⟩
        exact ⟨_, _, _, _, _, 1001, rfl, ⟨Nat.le_refl _, grow, .inl rfl⟩, R6, t6⟩
    · rintro st H' ⟨x2, x5, x6, x7, x8, n, rfl, to, ⟨ps, hR, lp, ap⟩, t6⟩
      have n1 := to.le
      walk_at "rd"
      refine ⟨⟨_, SqL.of hR⟩, fun D nD => ?_⟩
      refine lc_list (K := K) (a := R) (xs := ps.map V.ref) (fun i H3 => ∃ qs : List Addr, H3 D = some (.lst (qs.map V.ref)) ∧ qs.length = i ∧ i ≤ n + 1 ∧ Same H' H3 ∧ ∀ (j : Nat) (q : Addr), qs[j]? = some q → H3 q = some (pairV (v + (runN ns j).1) (v + (runN ns j).2)))
        ⟨[], upd_same, rfl, Nat.zero_le _, fun b u z => (upd_ne (ne_of_none z nD)).trans z, fun j d z => by simp at z⟩ (fun _ _ _ ⟨_, _, _, _, sm, _⟩ => SqL.of (sm _ _ hR)) ?_ ?_
      · rintro i y H3 hy ⟨qs, hD, lq, li, sm3, aq⟩
        rw [List.getElem?_map] at hy
        obtain ⟨p1, e1, rfl⟩ := Option.map_eq_some_iff.mp hy
        have il : i < ps.length := (List.getElem?_eq_some_iff.mp e1).1
        refine ⟨p1, _, rfl, SqT.of (sm3 _ _ (ap i p1 e1)), rfl, _, _, rfl, _, _, rfl, rfl, ?_⟩
        refine ⟨rfl, ?_⟩
        walk_at "rd"
        refine ⟨(by show 2 ≤ sizeLine; decide), fun t nt => ?_⟩
        have wt : ∀ {c : Addr} {u w2 : HO}, H3 c = some u → upd H3 t w2 c = some u := fun {c u w2} z => (upd_ne (ne_of_none z nt)).trans z
        have nDt : D ≠ t := ne_of_none hD nt
        refine ⟨_, wt hD, (by rw [List.length_map, lq]; exact Nat.lt_of_le_of_lt (by omega : i ≤ 1001) (by decide)), qs ++ [t], by rw [List.map_append]; exact upd_same, by rw [List.length_append, lq]; rfl, by omega, fun c u y => (upd_ne (ne_of_none y nD)).trans (wt (sm3 _ _ y)), fun j q2 ej => ?_⟩
        by_cases y : j < qs.length
        · rw [List.getElem?_append_left y] at ej
          have hj := aq j q2 ej
          exact (upd_ne (fun e => by rw [e, hD] at hj; cases hj)).trans (wt hj)
        · rw [List.getElem?_append_right (by omega)] at ej
          have j0 : j - qs.length = 0 := by
            have := (List.getElem?_eq_some_iff.mp ej).1
            simp at this
            omega
          rw [j0] at ej
          cases ej
          have ej2 : j = i := by omega
          rw [ej2]
          exact (upd_ne nDt.symm).trans upd_same
      · rintro H3 ⟨qs, hD, lq, li, sm3, aq⟩
        rw [List.length_map, lp] at lq
        walk_at "rd"
        have DH : H D = none := by
          cases z : H D with
          | none => rfl
          | some u => rw [t6 _ _ z] at nD; cases nD
        exact q D n H3 DH (t6.trans sm3) to ⟨qs, hD, lq, aq⟩
end
end HT
namespace HT
open PySem L2
/-- what lies of a run within N of the value -/
def clipN (N : Int) (r : Int × Int) : Int × Int := (if r.1 < -N then -N else r.1, if N < r.2 then N else r.2)
def oI : Option Int → V
  | none => .non
  | some x => .int x
def loE (v N : Int) (r : Int × Int) : Option Int := if (clipN N r).1 = -N then none else some (v + (clipN N r).1)
def hiE (v N : Int) (r : Int × Int) : Option Int := if (clipN N r).2 = N then none else some (v + (clipN N r).2)
def TooE (N : Int) (ns : List Sd) (n : Nat) : Prop := n = 1001 ∧ clipN N (runN ns 1000) ≠ clipN N (runN ns 1001)
def spWin : Sp := fun vs H Q _ => ∃ (p w : Addr) (a b c d : Int), vs = [.ref p, .ref w] ∧ H p = some (pairV a b) ∧ H w = some (pairV c d) ∧ ∀ (q : Addr) (H' : Hp), H q = none → Same H H' → H' q = some (pairV (if a < c then c else a) (if d < b then d else b)) → Q (.ref q) H'
theorem clip_at (v N a b : Int) : (if v + a < v - N then v - N else v + a) = v + (clipN N (a, b)).1 ∧ (if v + N < v + b then v + N else v + b) = v + (clipN N (a, b)).2 := by
  unfold clipN
  constructor
  · by_cases h : a < -N
    · rw [if_pos h, if_pos (by omega)]; omega
    · rw [if_neg h, if_neg (by omega)]
  · by_cases h : N < b
    · rw [if_pos h, if_pos (by omega)]
    · rw [if_neg h, if_neg (by omega)]
def spEndsX (C : Nat → Addr) : Sp := fun vs H Q E => ∃ (l q : Addr) (xs : List V) (ss ns : List Sd) (v : Int) (n : Nat), vs = [.ref l, .int v, .ref q] ∧ SidesAt H l xs ss ∧ RunsTo ns n ∧ RunsAt H q v ns n ∧
  ((TooE (comN ss) ns n ∧ ∀ H', Same H H' → E (.ref (C 2)) none H') ∨ (¬ TooE (comN ss) ns n ∧ ∀ (p : Addr) (H' : Hp), H p = none → Same H H' → H' p = some (.tup [oI (loE v (comN ss) (runN ns n)), oI (hiE v (comN ss) (runN ns n))]) → Q (.ref p) H'))
section
variable {P : Program} {w : World} {K : PySem.W.Frag} {mg : Str → Option Value} {base : Heap} {aM c0 fC fB fV fN fW fS Bx : Addr} {dC dB dV dN dW dS : FuncData} {C : Nat → Addr}
theorem ok_win {f : Addr} {fd : FuncData} (F : Fun K "_within" "_within" s_within f fd) (MT : MaxT mg) : FnOk P w K mg base CX0 1 f fd ["run", "window"] spWin := by
  refine F.ok sc_within (fun vs H Q E h => ?_) (fun cdv A outer s0 H vs Q E hr h => ?_)
  · obtain ⟨p, x, a, b, c, d, rfl, _⟩ := h
    rfl
  · obtain ⟨p, x, a, b, c, d, rfl, hp, hx, q⟩ := h
    have nd := sc_within.nd
    refine ⟨_, (pss_one (ps_ret (pe_tup (pa_cons (pe_callB (call_max2 rfl) (by rfl) MT.max (by decide +kernel) (pa_cons (pe_ix ix_tup (pv 0) pe_int (fun _ _ => rfl)) (pa_cons (pe_ix ix_tup (pv 1) pe_int (fun _ _ => rfl)) pa_nil))) (pa_cons (pe_callB (call_min2 rfl) (by rfl) MT.min (by decide +kernel) (pa_cons (pe_ix ix_tup (pv 0) pe_int (fun _ _ => rfl)) (pa_cons (pe_ix ix_tup (pv 1) pe_int (fun _ _ => rfl)) pa_nil))) pa_nil))))), ?_⟩
    walk_at "rd"
    refine ⟨p, _, 0, _, rfl, rfl, SqT.of hp, rfl, ?_⟩
    walk_at "rd"
    refine ⟨x, _, 0, _, rfl, rfl, SqT.of hx, rfl, ?_⟩
    refine ⟨_, _, rfl, ?_⟩
    walk_at "rd"
    refine ⟨p, _, 1, _, rfl, rfl, SqT.of hp, rfl, ?_⟩
    walk_at "rd"
    refine ⟨x, _, 1, _, rfl, rfl, SqT.of hx, rfl, ?_⟩
    refine ⟨_, _, rfl, ?_⟩
    walk_at "rd"
    refine ⟨(by show 2 ≤ sizeLine; decide), fun n nn => ?_⟩
    exact q n _ nn (fun c u z => (upd_ne (ne_of_none z nn)).trans z) upd_same
theorem ok_ends_x {f : Addr} {fd : FuncData} (F : Fun K "_ends" "_ends" s_ends f fd) (B : Blt mg) (R : Er K mg C Bx) (hMH : ∃ t, mg "MOST_HANDOVERS" = some (.int 1000 t)) (Cp : Cal P w K mg base "common_period" 2 ["sides"] spPerL fB dB) (Wi : Cal P w K mg base "_within" 1 ["run", "window"] spWin fC dC) : FnOk P w K mg base (L2.CX P w) 3 f fd ["sides", "value", "runs"] (spEndsX C) := by
  refine F.okAny sc_ends (fun vs H Q E h => ?_) (fun cdv A outer s0 H vs Q E hr h => ?_)
  · obtain ⟨l, q, xs, ss, ns, v, n, rfl, _⟩ := h
    rfl
  · obtain ⟨l, q, xs, ss, ns, v, n, rfl, SS, to, ⟨ps, hR, lp, ap⟩, k⟩ := h
    have nd := sc_ends.nd
    obtain ⟨tmh, hmh⟩ := hMH
    refine ⟨_, (pss_cons (ps_set (i := 3) nd rfl (Or.inl rfl) (pcl Cp hr (by decide) (by rfl) (pa_cons (pv 0) pa_nil)))
      (pss_cons (ps_set (i := 4) nd rfl (Or.inl rfl) (pe_tup (pa_cons (pe_op op_sub (pv 1) (pv 3)) (pa_cons (pe_op op_add (pv 1) (pv 3)) pa_nil))))
      (pss_cons (ps_mid (ps_if (pt_cmpR op_gt (pe_callB call_len_seq (by rfl) B.len PySem.boot_len (pa_cons (pv 2) pa_nil)) (pe_op op_add (pe_glob (v := .int 1000) (by rfl) hmh ⟨_, rfl⟩) pe_int) (nomark _)) (pss_one (ps_if (pt_cmpR (op_neD hr.units) (pcl Wi hr (by decide) (by rfl) (pa_cons (pe_ix ix_list (pv 2) (pe_glob (v := .int 1000) (by rfl) hmh ⟨_, rfl⟩) (fun _ _ => rfl)) (pa_cons (pv 4) pa_nil))) (pcl Wi hr (by decide) (by rfl) (pa_cons (pe_ix ix_list (pv 2) (pe_op op_add (pe_glob (v := .int 1000) (by rfl) hmh ⟨_, rfl⟩) pe_int) (fun _ _ => rfl)) (pa_cons (pv 4) pa_nil))) (nomark _)) (pss_one (ps_raise rfl (takes_of rfl rfl rfl rfl) (pmk_own PySem.F.excBase_ValueError (R.ex 2 (by decide)) R.g2 (R.kp 2 (by decide)) (raises_own (R.sb 2 (by decide)) (R.ty 2 (by decide))) (by rfl)))) pss_nil)) pss_nil))
      (pss_cons (ps_asg (pcl Wi hr (by decide) (by rfl) (pa_cons (pe_ix ix_list (pv 2) (pe_op op_sub (pe_callB call_len_seq (by rfl) B.len PySem.boot_len (pa_cons (pv 2) pa_nil)) pe_int) (fun _ _ => rfl)) (pa_cons (pv 4) pa_nil))) (pg_tup (by rfl) (pgs_cons (pg_name (i := 5) nd rfl (Or.inl rfl)) (pgs_cons (pg_name (i := 6) nd rfl (Or.inl rfl)) pgs_nil))))
      (pss_one (ps_ret (pe_tup (pa_cons (pe_ifExp (pt_cmpR op_eq (pv 5) (pe_ix ix_tup (pv 4) pe_int (fun _ _ => rfl)) (nomark _)) pe_non (pv 5)) (pa_cons (pe_ifExp (pt_cmpR op_eq (pv 6) (pe_ix ix_tup (pv 4) pe_int (fun _ _ => rfl)) (nomark _)) pe_non (pv 6)) pa_nil))))))))), ?_⟩
    walk_at "rd"
    refine ⟨l, xs, ss, rfl, SS.toL, ?_⟩
    have N0 : (0 : Int) ≤ (comN ss : Int) := Int.natCast_nonneg _
    generalize (comN ss : Int) = N at N0 k ⊢
    walk_at "rd"
    refine ⟨(by show 2 ≤ sizeLine; decide), fun wi nwi => ?_⟩
    have w1 : Same H (upd H wi (pairV (v - N) (v + N))) := fun b u z => (upd_ne (ne_of_none z nwi)).trans z
    have gw : upd H wi (pairV (v - N) (v + N)) wi = some (pairV (v - N) (v + N)) := upd_same
    change (gName 4 _ _ (upd H wi (pairV (v - N) (v + N))) _)
    generalize upd H wi (pairV (v - N) (v + N)) = H1 at w1 gw ⊢
    have n1 := to.le
    have cl : ∀ a b : Int, pairV (if v + a < v - N then v - N else v + a) (if v + N < v + b then v + N else v + b) = pairV (v + (clipN N (a, b)).1) (v + (clipN N (a, b)).2) := fun a b => by rw [(clip_at v N a b).1, (clip_at v N a b).2]
    refine ⟨fun st H' => st = [some (.ref l), some (.int v), some (.ref q), some (.int N), some (.ref wi), none, none] ∧ Same H H' ∧ H' wi = some (pairV (v - N) (v + N)) ∧ ¬ TooE N ns n, ?_, ?_⟩
    · walk_at "rd"
      refine ⟨q, _, rfl, .inl (SqL.of (w1 _ _ hR)), ?_⟩
      walk_at "rd"
      refine ite2 (fun z => ?_) (fun z => ?_)
      · have big := of_decide_eq_true z
        rw [List.length_map, lp] at big
        have e1 : n = 1001 := by omega
        subst e1
        obtain ⟨pa, ea⟩ : ∃ pa, ps[1000]? = some pa := ⟨ps[1000]'(by omega), List.getElem?_eq_getElem _⟩
        obtain ⟨pb, eb⟩ : ∃ pb, ps[1001]? = some pb := ⟨ps[1001]'(by omega), List.getElem?_eq_getElem _⟩
        have ha := ap _ _ ea
        have hb := ap _ _ eb
        walk_at "rd"
        refine ⟨q, _, 1000, _, rfl, rfl, SqL.of (w1 _ _ hR), atI_nat (j := 1000) (by rw [List.getElem?_map, ea]; rfl), ?_⟩
        walk_at "rd"
        refine ⟨pa, wi, _, _, _, _, rfl, w1 _ _ ha, gw, fun c1 H2 nc1 s2 h2 => ?_⟩
        rw [cl] at h2
        walk_at "rd"
        refine ⟨q, _, 1001, _, rfl, rfl, SqL.of (s2 _ _ (w1 _ _ hR)), atI_nat (j := 1001) (by rw [List.getElem?_map, eb]; rfl), ?_⟩
        walk_at "rd"
        refine ⟨pb, wi, _, _, _, _, rfl, s2 _ _ (w1 _ _ hb), s2 _ _ gw, fun c2 H3 nc2 s3 h3 => ?_⟩
        rw [cl] at h3
        refine ⟨_, _, dpPair (s3 _ _ h2), dpPair h3, shaped_two _ _, shaped_two _ _, ?_⟩
        rw [eqv_two]
        walk_at "rd"
        refine ite2 (fun z => ?_) (fun z => ?_)
        · rcases k with ⟨_, k⟩ | ⟨no, _⟩
          · exact k H3 (w1.trans (s2.trans s3))
          · exfalso
            refine no ⟨rfl, fun e => ?_⟩
            have e2 : (clipN N ((runN ns 1000).fst, (runN ns 1000).snd)).fst = (clipN N ((runN ns 1001).fst, (runN ns 1001).snd)).fst := congrArg Prod.fst e
            have e3 : (clipN N ((runN ns 1000).fst, (runN ns 1000).snd)).snd = (clipN N ((runN ns 1001).fst, (runN ns 1001).snd)).snd := congrArg Prod.snd e
            have t : decide (v + (clipN N ((runN ns 1000).fst, (runN ns 1000).snd)).fst = v + (clipN N ((runN ns 1001).fst, (runN ns 1001).snd)).fst ∧ v + (clipN N ((runN ns 1000).fst, (runN ns 1000).snd)).snd = v + (clipN N ((runN ns 1001).fst, (runN ns 1001).snd)).snd) = true := decide_eq_true ⟨by omega, by omega⟩
            rw [t] at z
            cases z
        · have t := not_f z
          have t2 := of_decide_eq_true t
          refine ⟨rfl, w1.trans (s2.trans s3), s3 _ _ (s2 _ _ gw), fun y => y.2 (Prod.ext ?_ ?_)⟩
          · have := t2.1
            show (clipN N ((runN ns 1000).fst, (runN ns 1000).snd)).fst = (clipN N ((runN ns 1001).fst, (runN ns 1001).snd)).fst
            omega
          · have := t2.2
            show (clipN N ((runN ns 1000).fst, (runN ns 1000).snd)).snd = (clipN N ((runN ns 1001).fst, (runN ns 1001).snd)).snd
            omega
      · have small := of_decide_eq_false (by simpa using z : decide ((1001 : Int) < ((ps.map V.ref).length : Int)) = false)
        rw [List.length_map, lp] at small
        refine ⟨rfl, w1, gw, fun y => ?_⟩
        have := y.1
        omega
    · rintro st H2 ⟨rfl, s2, g2, no⟩
      obtain ⟨pn, en⟩ : ∃ pn, ps[n]? = some pn := ⟨ps[n]'(by omega), List.getElem?_eq_getElem _⟩
      have hn := ap _ _ en
      walk_at "rd"
      refine ⟨q, _, rfl, .inl (SqL.of (s2 _ _ hR)), ?_⟩
      walk_at "rd"
      have ei : atI (ps.map V.ref) (((ps.map V.ref).length : Int) - 1) = some (V.ref pn) := by
        have e : ((ps.map V.ref).length : Int) - 1 = (n : Int) := by rw [List.length_map, lp]; omega
        rw [e]
        exact atI_nat (by rw [List.getElem?_map, en]; rfl)
      refine ⟨q, _, _, _, rfl, rfl, SqL.of (s2 _ _ hR), ei, ?_⟩
      walk_at "rd"
      refine ⟨pn, wi, _, _, _, _, rfl, s2 _ _ hn, g2, fun c H3 nc s3 h3 => ?_⟩
      rw [cl] at h3
      refine ⟨c, _, rfl, SqT.of h3, rfl, _, _, rfl, _, _, rfl, rfl, ?_⟩
      have g3 := s3 _ _ g2
      walk_at "rd"
      rcases k with ⟨y, _⟩ | ⟨_, k⟩
      · exact absurd y no
      have lo1 : v + (clipN N ((runN ns n).fst, (runN ns n).snd)).fst = v - N → oI (loE v N (runN ns n)) = .non := fun e => by
        unfold loE
        rw [if_pos (by show (clipN N ((runN ns n).fst, (runN ns n).snd)).fst = -N; omega)]
        rfl
      have lo2 : ¬ v + (clipN N ((runN ns n).fst, (runN ns n).snd)).fst = v - N → oI (loE v N (runN ns n)) = .int (v + (clipN N ((runN ns n).fst, (runN ns n).snd)).fst) := fun e => by
        unfold loE
        rw [if_neg (by show ¬ (clipN N ((runN ns n).fst, (runN ns n).snd)).fst = -N; omega)]
        rfl
      have hi1 : v + (clipN N ((runN ns n).fst, (runN ns n).snd)).snd = v + N → oI (hiE v N (runN ns n)) = .non := fun e => by
        unfold hiE
        rw [if_pos (by show (clipN N ((runN ns n).fst, (runN ns n).snd)).snd = N; omega)]
        rfl
      have hi2 : ¬ v + (clipN N ((runN ns n).fst, (runN ns n).snd)).snd = v + N → oI (hiE v N (runN ns n)) = .int (v + (clipN N ((runN ns n).fst, (runN ns n).snd)).snd) := fun e => by
        unfold hiE
        rw [if_neg (by show ¬ (clipN N ((runN ns n).fst, (runN ns n).snd)).snd = N; omega)]
        rfl
      generalize oI (loE v N (runN ns n)) = lo at lo1 lo2 k
      generalize oI (hiE v N (runN ns n)) = hi at hi1 hi2 k
      have fin : ∀ (p : Addr), H3 p = none → Q (.ref p) (upd H3 p (.tup [lo, hi])) := fun p np =>
        k p _ (s2.free (s3.free np)) (s2.trans (s3.trans fun c u z => (upd_ne (ne_of_none z np)).trans z)) upd_same
      walk_at "rd"
      refine ⟨wi, _, 0, _, rfl, rfl, SqT.of g3, rfl, ?_⟩
      refine ⟨rfl, ?_⟩
      walk_at "rd"
      refine ite2 (fun z => ?_) (fun z => ?_)
      · have e1 := lo1 (int_t z)
        walk_at "rd"
        refine ⟨wi, _, 1, _, rfl, rfl, SqT.of g3, rfl, ?_⟩
        refine ⟨rfl, ?_⟩
        walk_at "rd"
        refine ite2 (fun z => ?_) (fun z => ?_)
        · have e2 := hi1 (int_t z)
          walk_at "rd"
          refine ⟨(by show 2 ≤ sizeLine; decide), fun p np => ?_⟩
          rw [e1, e2] at fin
          exact fin p np
        · have e2 := hi2 (int_f z)
          walk_at "rd"
          refine ⟨(by show 2 ≤ sizeLine; decide), fun p np => ?_⟩
          rw [e1, e2] at fin
          exact fin p np
      · have e1 := lo2 (int_f z)
        walk_at "rd"
        refine ⟨wi, _, 1, _, rfl, rfl, SqT.of g3, rfl, ?_⟩
        refine ⟨rfl, ?_⟩
        walk_at "rd"
        refine ite2 (fun z => ?_) (fun z => ?_)
        · have e2 := hi1 (int_t z)
          walk_at "rd"
          refine ⟨(by show 2 ≤ sizeLine; decide), fun p np => ?_⟩
          rw [e1, e2] at fin
          exact fin p np
        · have e2 := hi2 (int_f z)
          walk_at "rd"
          refine ⟨(by show 2 ≤ sizeLine; decide), fun p np => ?_⟩
          rw [e1, e2] at fin
          exact fin p np
end
end HT
namespace HT
open PySem L2
/-- over enumerate of a list that the body leaves as it is -/
theorem for_enumL {K : PySem.W.Frag} {a : Addr} {xs : List V} {g : TG} {tb : TS} {D : Ends} {σ : St} {H : Hp} (Pv : Nat → St → Hp → Prop) (h0 : Pv 0 σ H) (hl : ∀ i σ H, i ≤ xs.length → Pv i σ H → SqL K H a xs)
    (hs : ∀ i x σ H, xs[i]? = some x → Pv i σ H → ∀ T, H T = none → g (.ref T) σ (upd H T (.tup [.int (i : Nat), x])) fun σ2 H2 => tb { D with nx := Pv (i + 1), ct := Pv (i + 1), bk := D.nx } σ2 H2) (hd : ∀ σ H, Pv xs.length σ H → D.nx σ H) :
    ∃ W : Nat → Nat → St → Hp → Prop, (∃ m, W 0 m σ H) ∧ ∀ i m σ H, W i m σ H →
      ((Ite K a).stop i H ∧ D.nx σ H) ∨ ((Ite K a).go i H ∧ ∃ N : St → Hp → Prop, (∀ σ' H', N σ' H' → ∃ m', m' < m ∧ W (i + 1) m' σ' H') ∧ ∀ x H', (Ite K a).yld i H x H' → g x σ H' fun σ2 H2 => tb { D with nx := N, ct := N, bk := D.nx } σ2 H2) := by
  refine ⟨fun i m σ H => m = xs.length - i ∧ i ≤ xs.length ∧ Pv i σ H, ⟨xs.length, by simp, Nat.zero_le _, h0⟩, ?_⟩
  rintro i m σ H ⟨rfl, le, p⟩
  have q := hl i σ H le p
  by_cases lt : i < xs.length
  · refine .inr ⟨⟨xs, xs[i], q, by simp [lt]⟩, Pv (i + 1), fun σ' H' p' => ⟨xs.length - (i + 1), by omega, rfl, lt, p'⟩, fun x H' y => ?_⟩
    obtain ⟨T, x', rfl, nT, rfl, e⟩ := y
    exact hs i x' σ H (e xs q) p T nT
  · have e : i = xs.length := by omega
    subst e
    exact .inl ⟨⟨xs, q, Nat.le_refl _⟩, hd σ H p⟩
def lowF : Option Int → Int → Bool
  | none, _ => true
  | some x, s => decide (x ≤ s)
def highF : Option Int → Int → Bool
  | none, _ => true
  | some x, s => decide (s ≤ x)
def holdsF (lo hi : Option Int) (s : Int) : Bool := lowF lo s && highF hi s
def inR (v : Int) (ns : List Sd) (s : Int) (i : Nat) : Prop := v + (runN ns i).1 ≤ s ∧ s ≤ v + (runN ns i).2
instance (v : Int) (ns : List Sd) (s : Int) (i : Nat) : Decidable (inR v ns s i) := by unfold inR; infer_instance
def spHolds : Sp := fun vs H Q _ => ∃ (p : Addr) (lo hi : Option Int) (s : Int), vs = [.ref p, .int s] ∧ H p = some (.tup [oI lo, oI hi]) ∧ Q (.bl (holdsF lo hi s)) H
def spFewX (C : Nat → Addr) : Sp := fun vs H Q E => ∃ (l q : Addr) (xs : List V) (ss ns : List Sd) (s v : Int) (n : Nat), vs = [.ref l, .int s, .int v, .ref q] ∧ SidesAt H l xs ss ∧ RunsTo ns n ∧ RunsAt H q v ns n ∧
  (∀ i, i ≤ n → i ≤ 1000 → inR v ns s i → (∀ j, j < i → ¬ inR v ns s j) → ∀ H', Same H H' → Q (.int (i : Int)) H') ∧
  ((∀ i, i ≤ n → i ≤ 1000 → ¬ inR v ns s i) → ∀ H', Same H H' → (TooE (comN ss) ns n → E (.ref (C 2)) none H') ∧ (¬ TooE (comN ss) ns n → (holdsF (loE v (comN ss) (runN ns n)) (hiE v (comN ss) (runN ns n)) s = true → E (.ref (C 2)) none H') ∧ (holdsF (loE v (comN ss) (runN ns n)) (hiE v (comN ss) (runN ns n)) s = false → Q .non H')))
section
variable {P : Program} {w : World} {K : PySem.W.Frag} {mg : Str → Option Value} {base : Heap} {aM c0 fC fB fV fN fW fS Bx : Addr} {dC dB dV dN dW dS : FuncData} {C : Nat → Addr}
end
end HT
namespace HT
open PySem L2
theorem good_of {H : Hp} {l : Addr} {xs : List V} {ss : List Sd} (S : SidesAt H l xs ss) : GoodL H l xs := ⟨S.hl, by have := S.l1; have := S.len; omega, by have := S.l4; have := S.len; omega, fun y hy => by
  obtain ⟨i, hi, e⟩ := List.mem_iff_getElem.mp hy
  obtain ⟨d, p, ed, e2, hp, sp⟩ := S.item (i := i) (y := y) (by rw [← e]; exact List.getElem?_eq_getElem hi)
  exact ⟨p, d.o, d.s, d.m, e2, hp, sp⟩⟩
/-- what before tells, and its errors -/
def spBefX (K : PySem.W.Frag) (C : Nat → Addr) : Sp := fun vs H Q E => ∃ x y : V, vs = [x, y] ∧ ((BadL K H x ∧ E (.ref (C 1)) none H) ∨ (∃ l xs n, x = .ref l ∧ GoodL H l xs ∧ Th H y n ∧ isI n = false ∧ E (.ref (C 3)) none H) ∨
  (∃ l xs ss v, x = .ref l ∧ SidesAt H l xs ss ∧ y = .int v ∧ (-2 ^ 500 < v ∧ v < 2 ^ 500) ∧ ∀ n, RunsTo (ss.map (movD (-v))) n →
    (TooE (comN ss) (ss.map (movD (-v))) n → ∀ H', Same H H' → E (.ref (C 2)) none H') ∧
    (¬ TooE (comN ss) (ss.map (movD (-v))) n → ∀ (p : Addr) (H' : Hp), H p = none → Same H H' → H' p = some (.tup [oI (loE v (comN ss) (runN (ss.map (movD (-v))) n)), oI (hiE v (comN ss) (runN (ss.map (movD (-v))) n))]) → Q (.ref p) H')))
/-- route's errors -/
def spRouX (K : PySem.W.Frag) (C : Nat → Addr) : Sp := fun vs H _ E => ∃ x y z : V, vs = [x, y, z] ∧ ((BadL K H x ∧ E (.ref (C 1)) none H) ∨ (∃ l xs n, x = .ref l ∧ GoodL H l xs ∧ Th H y n ∧ isI n = false ∧ E (.ref (C 3)) none H) ∨
  (∃ l xs n s, x = .ref l ∧ GoodL H l xs ∧ y = .int s ∧ Th H z n ∧ isI n = false ∧ E (.ref (C 3)) none H) ∨
  (∃ l xs ss s v, x = .ref l ∧ SidesAt H l xs ss ∧ y = .int s ∧ z = .int v ∧ (-2 ^ 500 < v ∧ v < 2 ^ 500) ∧ (∀ n, RunsTo (ss.map (movD (-v))) n → (∀ i, i ≤ n → i ≤ 1000 → ¬ inR v (ss.map (movD (-v))) s i) ∧
    (TooE (comN ss) (ss.map (movD (-v))) n ∨ holdsF (loE v (comN ss) (runN (ss.map (movD (-v))) n)) (hiE v (comN ss) (runN (ss.map (movD (-v))) n)) s = true)) ∧ ∀ H', Same H H' → E (.ref (C 2)) none H'))
section
variable {P : Program} {w : World} {K : PySem.W.Frag} {mg : Str → Option Value} {base : Heap} {aM c0 fC fB fV fN fW fS Bx : Addr} {dC dB dV dN dW dS : FuncData} {C : Nat → Addr}
theorem ok_before_x {f : Addr} {fd : FuncData} (F : Fun K "before" "before" s_before f fd) (Ls : CalX P w K mg base "check_sides" 5 ["sides"] (spSidesX K C) fB dB) (Vl : CalX P w K mg base "check_value" 2 ["value"] (spValX C) fV dV) (Ru : Cal P w K mg base "_runs" 5 ["sides", "value"] spRuns fN dN) (En : CalX P w K mg base "_ends" 3 ["sides", "value", "runs"] (spEndsX C) fC dC) : FnOk P w K mg base (L2.CX P w) 6 f fd ["sides", "value"] (spBefX K C) := by
  refine F.okAny sc_before (fun vs H Q E h => ?_) (fun cdv A outer s0 H vs Q E hr h => ?_)
  · obtain ⟨x, y, rfl, _⟩ := h
    rfl
  · obtain ⟨x, y, rfl, h⟩ := h
    have nd := sc_before.nd
    refine ⟨_, (pss_cons (ps_expr (pcx Ls hr (by decide) (by rfl) (takes_of rfl rfl rfl rfl) (pa_cons (pv 0) pa_nil)))
      (pss_cons (ps_expr (pcx Vl hr (by decide) (by rfl) (takes_of rfl rfl rfl rfl) (pa_cons (pv 1) pa_nil)))
      (pss_one (ps_ret (pcx En hr (by decide) (by rfl) (takes_of rfl rfl rfl rfl) (pa_cons (pv 0) (pa_cons (pv 1) (pa_cons (pcl Ru hr (by decide) (by rfl) (pa_cons (pv 0) (pa_cons (pv 1) pa_nil))) pa_nil)))))))), ?_⟩
    walk_at "rd"
    rcases h with ⟨bad, q⟩ | ⟨l, xs, n, rfl, gl, ty, ni, q⟩ | ⟨l, xs, ss, v, rfl, SS, rfl, vb, k⟩
    · exact .inr ⟨bad, q⟩
    · refine .inl ⟨l, xs, rfl, gl, ?_⟩
      walk_at "rd"
      exact ⟨_, n, rfl, ty, fun z => absurd z (by rw [ni]; decide), fun _ => q⟩
    refine .inl ⟨l, xs, rfl, good_of SS, ?_⟩
    walk_at "rd"
    refine ⟨_, _, rfl, .int _, fun _ => ?_, fun z => absurd z (by decide)⟩
    walk_at "rd"
    refine ⟨l, xs, ss, v, rfl, SS, vb, fun q n H1 nq s1 to RA => ?_⟩
    walk_at "rd"
    refine ⟨l, q, xs, ss, _, v, n, rfl, SS.same s1, to, RA, ?_⟩
    by_cases many : TooE (comN ss) (ss.map (movD (-v))) n
    · exact .inl ⟨many, fun H2 s2 => (k n to).1 many H2 (s1.trans s2)⟩
    · exact .inr ⟨many, fun p H2 np s2 hp => (k n to).2 many p H2 (s1.free np) (s1.trans s2) hp⟩
end
end HT
namespace HT
open PySem L2
def wD (d : Sd) (x : Int) : Int := dueM d.o d.s d.m x
end HT
namespace HT
open PySem L2
theorem due_leW {o s v w : Int} {m : Str} (hm : Mode m) (hs : 1 ≤ s) (h : v ≤ w) : dueM o s m v ≤ dueM o s m w := by
  have key : ∀ n : Nat, dueM o s m v ≤ dueM o s m (v + n) := fun n => by
    induction n with
    | zero => rw [Int.natCast_zero, Int.add_zero]; exact Int.le_refl _
    | succ n ih =>
      refine Int.le_trans ih ?_
      rw [show v + ((n + 1 : Nat) : Int) = v + n + 1 by omega]
      exact due_mono hm hs
  have := key (w - v).toNat
  rwa [show v + ((w - v).toNat : Int) = w by omega] at this
theorem back_iffW {o s v y : Int} {m : Str} (hm : Mode m) (hs : 1 ≤ s) : backM o s m v ≤ y ↔ v ≤ dueM o s m y := by
  constructor
  · intro h
    exact Int.le_trans (back_ge hm hs) (due_leW hm hs h)
  · intro h
    by_cases z : backM o s m v ≤ y
    · exact z
    · exfalso
      have h1 := due_leW (o := o) (m := m) hm hs (show y ≤ backM o s m v - 1 by omega)
      have h2 := back_lt (o := o) (v := v) hm hs
      omega
theorem due_due {o s v : Int} {m : Str} (hm : Mode m) (hs : 1 ≤ s) : dueM o s m (dueM o s m v) = dueM o s m v :=
  (due_eq hm hs).mp (by unfold dueM; exact stands_at)
theorem due_tr {o s v t : Int} {m : Str} : dueM (o + t) s m (v + t) = dueM o s m v + t := by
  unfold dueM figM
  rw [show v + t - (o + t) = v - o by omega]
  omega
theorem due_mov {d : Sd} (S : SideP d.o d.s d.m) (b x : Int) : dueM (movD b d).o (movD b d).s (movD b d).m x = dueM d.o d.s d.m (x - b) + b := by
  have p := perM_bd S
  have e1 : (d.o + b) % perM d.s d.m = d.o + b - perM d.s d.m * ((d.o + b) / perM d.s d.m) := by
    have := Int.emod_add_mul_ediv (d.o + b) (perM d.s d.m)
    omega
  have key : ∀ j : Int, (d.m ≠ "half_even" ∨ j % 2 = 0) → d.o + b - perM d.s d.m * ((d.o + b) / perM d.s d.m) = d.o + b + d.s * j → dueM ((d.o + b) % perM d.s d.m) d.s d.m x = dueM d.o d.s d.m (x - b) + b := fun j hj e => by
    rw [e1, e, due_shift S.md S.s0 hj]
    have := due_tr (o := d.o) (s := d.s) (m := d.m) (v := x - b) (t := b)
    rwa [show x - b + b = x by omega] at this
  by_cases he : d.m = "half_even"
  · refine key (-(2 * ((d.o + b) / perM d.s d.m))) (.inr (by omega)) ?_
    have : perM d.s d.m = 2 * d.s := by unfold perM; rw [if_pos he]
    rw [this, Int.mul_neg, Int.mul_comm 2 d.s, Int.mul_assoc]
    omega
  · refine key (-((d.o + b) / perM d.s d.m)) (.inl he) ?_
    have : perM d.s d.m = d.s := by unfold perM; rw [if_neg he]
    rw [this, Int.mul_neg]
    omega
/-- whether a side's values before the run are any -/
def NeR (r : Int × Int) (d : Sd) : Prop := backM d.o d.s d.m r.1 ≤ backM d.o d.s d.m (r.2 + 1) - 1
theorem wid_in {ns : List Sd} {r : Int × Int} : ∀ (a : Int × Int), (ns.foldl (widS r) a).1 ≤ a.1 ∧ a.2 ≤ (ns.foldl (widS r) a).2 ∧ ∀ d ∈ ns, NeR r d → (ns.foldl (widS r) a).1 ≤ backM d.o d.s d.m r.1 ∧ backM d.o d.s d.m (r.2 + 1) - 1 ≤ (ns.foldl (widS r) a).2 := by
  induction ns with
  | nil => exact fun a => ⟨Int.le_refl _, Int.le_refl _, fun d hd => by cases hd⟩
  | cons e ns ih =>
    intro a
    have h := ih (widS r a e)
    have b : (widS r a e).1 ≤ a.1 ∧ a.2 ≤ (widS r a e).2 ∧ (NeR r e → (widS r a e).1 ≤ backM e.o e.s e.m r.1 ∧ backM e.o e.s e.m (r.2 + 1) - 1 ≤ (widS r a e).2) := by
      unfold widS NeR
      split
      · refine ⟨?_, ?_, fun _ => ⟨?_, ?_⟩⟩ <;> simp only <;> split <;> omega
      · rename_i n
        exact ⟨Int.le_refl _, Int.le_refl _, fun z => absurd z n⟩
    rw [List.foldl_cons]
    refine ⟨Int.le_trans h.1 b.1, Int.le_trans b.2.1 h.2.1, fun d hd ne => ?_⟩
    rcases List.mem_cons.mp hd with rfl | hd
    · exact ⟨Int.le_trans h.1 (b.2.2 ne).1, Int.le_trans (b.2.2 ne).2 h.2.1⟩
    · exact h.2.2 d hd ne
theorem ne_of_in {r : Int × Int} {d : Sd} (S : SideP d.o d.s d.m) {y : Int} (h1 : r.1 ≤ dueM d.o d.s d.m y) (h2 : dueM d.o d.s d.m y ≤ r.2) : NeR r d ∧ backM d.o d.s d.m r.1 ≤ y ∧ y ≤ backM d.o d.s d.m (r.2 + 1) - 1 := by
  have a := (back_iffW (o := d.o) (v := r.1) (y := y) S.md S.s0).mpr h1
  have b : ¬ backM d.o d.s d.m (r.2 + 1) ≤ y := fun z => by
    have := (back_iffW (o := d.o) (v := r.2 + 1) (y := y) S.md S.s0).mp z
    omega
  exact ⟨by unfold NeR; omega, a, by omega⟩
/-- what a side leads into the run lies in the next one -/
theorem wid_back {ns : List Sd} (hns : ∀ d ∈ ns, SideP d.o d.s d.m) {r : Int × Int} {d : Sd} (hd : d ∈ ns) {y : Int} (h1 : r.1 ≤ dueM d.o d.s d.m y) (h2 : dueM d.o d.s d.m y ≤ r.2) : (widF ns r).1 ≤ y ∧ y ≤ (widF ns r).2 := by
  obtain ⟨ne, a, b⟩ := ne_of_in (hns d hd) h1 h2
  have w := (wid_in (ns := ns) (r := r) r).2.2 d hd ne
  exact ⟨Int.le_trans w.1 a, Int.le_trans b w.2⟩
/-- and what lies in the next one is led into the run, or lies there -/
theorem wid_fro {ns : List Sd} (hns : ∀ d ∈ ns, SideP d.o d.s d.m) {r : Int × Int} {y : Int} (h : (widF ns r).1 ≤ y ∧ y ≤ (widF ns r).2) : (r.1 ≤ y ∧ y ≤ r.2) ∨ ∃ d ∈ ns, r.1 ≤ dueM d.o d.s d.m y ∧ dueM d.o d.s d.m y ≤ r.2 := by
  have key : ∀ (ts : List Sd) (a : Int × Int), (∀ d ∈ ts, d ∈ ns) → a.1 ≤ r.1 → r.2 ≤ a.2 → (∀ y, a.1 ≤ y → y ≤ a.2 → (r.1 ≤ y ∧ y ≤ r.2) ∨ ∃ d ∈ ns, r.1 ≤ dueM d.o d.s d.m y ∧ dueM d.o d.s d.m y ≤ r.2) →
      ∀ y, (ts.foldl (widS r) a).1 ≤ y → y ≤ (ts.foldl (widS r) a).2 → (r.1 ≤ y ∧ y ≤ r.2) ∨ ∃ d ∈ ns, r.1 ≤ dueM d.o d.s d.m y ∧ dueM d.o d.s d.m y ≤ r.2 := by
    intro ts
    induction ts with
    | nil => intro a _ _ _ h; exact h
    | cons d ts ih =>
      intro a hts a1 a2 ha
      have S := hns d (hts d List.mem_cons_self)
      rw [List.foldl_cons]
      by_cases ne : NeR r d
      · have st : r.1 ≤ dueM d.o d.s d.m (backM d.o d.s d.m r.1) ∧ dueM d.o d.s d.m (backM d.o d.s d.m r.1) ≤ r.2 := by
          refine ⟨back_ge S.md S.s0, ?_⟩
          have : ¬ backM d.o d.s d.m (r.2 + 1) ≤ backM d.o d.s d.m r.1 := by unfold NeR at ne; omega
          rw [back_iffW S.md S.s0] at this
          omega
        obtain ⟨_, w1, w2⟩ := ne_of_in (r := r) S (y := dueM d.o d.s d.m (backM d.o d.s d.m r.1)) (by rw [due_due S.md S.s0]; exact st.1) (by rw [due_due S.md S.s0]; exact st.2)
        have pre : ∀ y, backM d.o d.s d.m r.1 ≤ y → y ≤ backM d.o d.s d.m (r.2 + 1) - 1 → r.1 ≤ dueM d.o d.s d.m y ∧ dueM d.o d.s d.m y ≤ r.2 := fun y p1 p2 => by
          refine ⟨(back_iffW S.md S.s0).mp p1, ?_⟩
          have : ¬ backM d.o d.s d.m (r.2 + 1) ≤ y := by omega
          rw [back_iffW S.md S.s0] at this
          omega
        have e : widS r a d = (if backM d.o d.s d.m r.1 < a.1 then backM d.o d.s d.m r.1 else a.1, if a.2 < backM d.o d.s d.m (r.2 + 1) - 1 then backM d.o d.s d.m (r.2 + 1) - 1 else a.2) := by
          unfold widS
          rw [if_pos (show backM d.o d.s d.m r.1 ≤ backM d.o d.s d.m (r.2 + 1) - 1 from ne)]
        refine ih (widS r a d) (fun x hx => hts x (List.mem_cons_of_mem _ hx)) ?_ ?_ ?_
        · rw [e]; simp only; split <;> omega
        · rw [e]; simp only; split <;> omega
        · intro y y1 y2
          rw [e] at y1 y2
          simp only at y1 y2
          by_cases c1 : a.1 ≤ y ∧ y ≤ a.2
          · exact ha y c1.1 c1.2
          · refine .inr ⟨d, hts d List.mem_cons_self, pre y ?_ ?_⟩
            · split at y1 <;> split at y2 <;> omega
            · split at y1 <;> split at y2 <;> omega
      · have e : widS r a d = a := by
          unfold widS
          rw [if_neg (show ¬ backM d.o d.s d.m r.1 ≤ backM d.o d.s d.m (r.2 + 1) - 1 from ne)]
        rw [e]
        exact ih a (fun x hx => hts x (List.mem_cons_of_mem _ hx)) a1 a2 ha
  exact key ns r (fun _ h => h) (Int.le_refl _) (Int.le_refl _) (fun y a b => .inl ⟨a, b⟩) y h.1 h.2
theorem run_mono {ns : List Sd} {j k : Nat} (h : j ≤ k) : (runN ns k).1 ≤ (runN ns j).1 ∧ (runN ns j).2 ≤ (runN ns k).2 := by
  induction k with
  | zero => rw [Nat.le_zero.mp h]; exact ⟨Int.le_refl _, Int.le_refl _⟩
  | succ k ih =>
    have w := wid_in (ns := ns) (r := runN ns k) (runN ns k)
    rcases Nat.lt_or_eq_of_le h with z | z
    · have q := ih (by omega)
      exact ⟨Int.le_trans w.1 q.1, Int.le_trans q.2 w.2.1⟩
    · rw [z]; exact ⟨Int.le_refl _, Int.le_refl _⟩
theorem in_mov {v x : Int} {ss : List Sd} (hss : ∀ d ∈ ss, SideP d.o d.s d.m) {k : Nat} (h : inR v (ss.map (movD (-v))) x (k + 1)) (no : ¬ inR v (ss.map (movD (-v))) x k) : ∃ d ∈ ss, inR v (ss.map (movD (-v))) (wD d x) k := by
  have hns : ∀ d ∈ ss.map (movD (-v)), SideP d.o d.s d.m := fun d hd => by
    obtain ⟨e, he, rfl⟩ := List.mem_map.mp hd
    exact side_mov _ (hss e he)
  unfold inR at h no
  rcases wid_fro hns (r := runN (ss.map (movD (-v))) k) (y := x - v) (by show (runN (ss.map (movD (-v))) (k + 1)).1 ≤ _ ∧ _ ≤ (runN (ss.map (movD (-v))) (k + 1)).2; omega) with z | ⟨d, hd, z1, z2⟩
  · exact absurd (by omega) no
  · obtain ⟨e, he, rfl⟩ := List.mem_map.mp hd
    rw [due_mov (hss e he), show x - v - -v = x by omega] at z1 z2
    refine ⟨e, he, ?_⟩
    unfold inR wD
    omega
theorem mov_in {v x : Int} {ss : List Sd} (hss : ∀ d ∈ ss, SideP d.o d.s d.m) {k : Nat} {d : Sd} (hd : d ∈ ss) (h : inR v (ss.map (movD (-v))) (wD d x) k) : inR v (ss.map (movD (-v))) x (k + 1) := by
  have hns : ∀ d ∈ ss.map (movD (-v)), SideP d.o d.s d.m := fun d hd => by
    obtain ⟨e, he, rfl⟩ := List.mem_map.mp hd
    exact side_mov _ (hss e he)
  unfold inR wD at h
  have z := wid_back hns (r := runN (ss.map (movD (-v))) k) (List.mem_map.mpr ⟨d, hd, rfl⟩) (y := x - v) (by rw [due_mov (hss d hd), show x - v - -v = x by omega]; omega) (by rw [due_mov (hss d hd), show x - v - -v = x by omega]; omega)
  unfold inR
  show v + (widF (ss.map (movD (-v))) (runN (ss.map (movD (-v))) k)).1 ≤ x ∧ x ≤ v + (widF (ss.map (movD (-v))) (runN (ss.map (movD (-v))) k)).2
  omega
end HT
namespace HT
open PySem L2
theorem lt_neW {a b : Int} (h : a ≤ b) (n : a ≠ b) : a < b := by omega
def hiOk (ns : List Sd) (h : Int) : Prop := ∀ e ∈ ns, backM e.o e.s e.m (h + 1) ≤ h + 1
def loOk (ns : List Sd) (l : Int) : Prop := ∀ e ∈ ns, l ≤ backM e.o e.s e.m l
theorem hi_stall {ns : List Sd} {r : Int × Int} (h : hiOk ns r.2) : (widF ns r).2 = r.2 := by
  have key : ∀ (ts : List Sd) (a : Int × Int), (∀ e ∈ ts, e ∈ ns) → a.2 = r.2 → (ts.foldl (widS r) a).2 = r.2 := by
    intro ts
    induction ts with
    | nil => intro a _ e; exact e
    | cons d ts ih =>
      intro a ht e
      rw [List.foldl_cons]
      refine ih _ (fun x hx => ht x (List.mem_cons_of_mem _ hx)) ?_
      have q := h d (ht d List.mem_cons_self)
      unfold widS
      split
      · simp only; split <;> omega
      · exact e
  exact key ns r (fun _ h => h) rfl
theorem lo_stall {ns : List Sd} {r : Int × Int} (h : loOk ns r.1) : (widF ns r).1 = r.1 := by
  have key : ∀ (ts : List Sd) (a : Int × Int), (∀ e ∈ ts, e ∈ ns) → a.1 = r.1 → (ts.foldl (widS r) a).1 = r.1 := by
    intro ts
    induction ts with
    | nil => intro a _ e; exact e
    | cons d ts ih =>
      intro a ht e
      rw [List.foldl_cons]
      refine ih _ (fun x hx => ht x (List.mem_cons_of_mem _ hx)) ?_
      have q := h d (ht d List.mem_cons_self)
      unfold widS
      split
      · simp only; split <;> omega
      · exact e
  exact key ns r (fun _ h => h) rfl
theorem ne_len {r : Int × Int} {d : Sd} (S : SideP d.o d.s d.m) (h : d.s ≤ r.2 - r.1 + 1) : NeR r d := by
  have c := ceil_eq (o := d.o) (v := r.1) S.s0
  have e1 : d.s * (ceilM d.o d.s r.1 - 1) = d.s * ceilM d.o d.s r.1 - d.s := by rw [Int.mul_sub, Int.mul_one]
  have st : dueM d.o d.s d.m (d.o + d.s * ceilM d.o d.s r.1) = d.o + d.s * ceilM d.o d.s r.1 := (due_eq S.md S.s0).mp stands_at
  exact (ne_of_in (r := r) S (y := d.o + d.s * ceilM d.o d.s r.1) (by rw [st]; omega) (by rw [st]; omega)).1
theorem hi_of {ns : List Sd} (hns : ∀ d ∈ ns, SideP d.o d.s d.m) {r : Int × Int} (h : (widF ns r).2 = r.2) (l : ∀ e ∈ ns, e.s ≤ r.2 - r.1 + 1) : hiOk ns r.2 := fun e he => by
  have w := ((wid_in (ns := ns) (r := r) r).2.2 e he (ne_len (hns e he) (l e he))).2
  have h' : (ns.foldl (widS r) r).2 = r.2 := h
  omega
theorem lo_of {ns : List Sd} (hns : ∀ d ∈ ns, SideP d.o d.s d.m) {r : Int × Int} (h : (widF ns r).1 = r.1) (l : ∀ e ∈ ns, e.s ≤ r.2 - r.1 + 1) : loOk ns r.1 := fun e he => by
  have w := ((wid_in (ns := ns) (r := r) r).2.2 e he (ne_len (hns e he) (l e he))).1
  have h' : (ns.foldl (widS r) r).1 = r.1 := h
  omega
theorem run_len {ns : List Sd} {n : Nat} (ne : ∀ j, j < n → runN ns (j + 1) ≠ runN ns j) : ∀ k : Nat, k ≤ n → (k : Int) ≤ (runN ns k).2 - (runN ns k).1
  | 0, _ => by show ((0 : Nat) : Int) ≤ 0 - 0; omega
  | k + 1, h => by
    have a := run_len ne k (by omega)
    have m := run_mono (ns := ns) (Nat.le_succ k)
    have d := ne k (by omega)
    by_cases e1 : (runN ns (k + 1)).1 = (runN ns k).1
    · by_cases e2 : (runN ns (k + 1)).2 = (runN ns k).2
      · exact absurd (Prod.ext e1 e2) d
      · show ((k + 1 : Nat) : Int) ≤ _
        have := m.2
        have : (runN ns k).2 < (runN ns (k + 1)).2 := by show (runN ns k).2 < (runN ns (k + 1)).2; have := m.2; show _; exact lt_neW m.2 (fun z => e2 z.symm)
        have m1 : (runN ns (k + 1)).1 ≤ (runN ns k).1 := m.1
        omega
    · have : (runN ns (k + 1)).1 < (runN ns k).1 := lt_neW m.1 e1
      have m2 : (runN ns k).2 ≤ (runN ns (k + 1)).2 := m.2
      omega
theorem hi_ever {ns : List Sd} {j : Nat} (h : hiOk ns (runN ns j).2) : ∀ k, (runN ns (j + k)).2 = (runN ns j).2
  | 0 => rfl
  | k + 1 => by
    have a := hi_ever h k
    show (widF ns (runN ns (j + k))).2 = _
    rw [hi_stall (by rw [a]; exact h), a]
theorem lo_ever {ns : List Sd} {j : Nat} (h : loOk ns (runN ns j).1) : ∀ k, (runN ns (j + k)).1 = (runN ns j).1
  | 0 => rfl
  | k + 1 => by
    have a := lo_ever h k
    show (widF ns (runN ns (j + k))).1 = _
    rw [lo_stall (by rw [a]; exact h), a]
/-- the high end stands at a turn, or has gone up at each of them -/
theorem hi_or {ns : List Sd} (hns : ∀ d ∈ ns, SideP d.o d.s d.m) {n : Nat} (ne : ∀ j, j < n → runN ns (j + 1) ≠ runN ns j) (c : Nat) (hc : ∀ d ∈ ns, d.s ≤ (c : Int) + 1) : ∀ k : Nat, c + k ≤ n → (∃ j, j < c + k ∧ c ≤ j ∧ hiOk ns (runN ns j).2) ∨ (k : Int) ≤ (runN ns (c + k)).2
  | 0, _ => .inr (by have := run_mono (ns := ns) (Nat.zero_le (c + 0)); show ((0 : Nat) : Int) ≤ _; have z : (runN ns 0).2 = 0 := rfl; omega)
  | k + 1, h => by
    rcases hi_or hns ne c hc k (by omega) with ⟨j, a, b, q⟩ | a
    · exact .inl ⟨j, by omega, b, q⟩
    · by_cases e : (runN ns (c + k + 1)).2 = (runN ns (c + k)).2
      · refine .inl ⟨c + k, by omega, by omega, hi_of hns e fun d hd => ?_⟩
        have := run_len ne (c + k) (by omega)
        have := hc d hd
        omega
      · have m := (run_mono (ns := ns) (Nat.le_succ (c + k))).2
        have : (runN ns (c + k)).2 < (runN ns (c + k + 1)).2 := lt_neW m fun z => e z.symm
        exact .inr (by show ((k + 1 : Nat) : Int) ≤ (runN ns (c + k + 1)).2; omega)
theorem lo_or {ns : List Sd} (hns : ∀ d ∈ ns, SideP d.o d.s d.m) {n : Nat} (ne : ∀ j, j < n → runN ns (j + 1) ≠ runN ns j) (c : Nat) (hc : ∀ d ∈ ns, d.s ≤ (c : Int) + 1) : ∀ k : Nat, c + k ≤ n → (∃ j, j < c + k ∧ c ≤ j ∧ loOk ns (runN ns j).1) ∨ (runN ns (c + k)).1 ≤ -(k : Int)
  | 0, _ => .inr (by have := run_mono (ns := ns) (Nat.zero_le (c + 0)); show _ ≤ -((0 : Nat) : Int); have z : (runN ns 0).1 = 0 := rfl; omega)
  | k + 1, h => by
    rcases lo_or hns ne c hc k (by omega) with ⟨j, a, b, q⟩ | a
    · exact .inl ⟨j, by omega, b, q⟩
    · by_cases e : (runN ns (c + k + 1)).1 = (runN ns (c + k)).1
      · refine .inl ⟨c + k, by omega, by omega, lo_of hns e fun d hd => ?_⟩
        have := run_len ne (c + k) (by omega)
        have := hc d hd
        omega
      · have m := (run_mono (ns := ns) (Nat.le_succ (c + k))).1
        have : (runN ns (c + k + 1)).1 < (runN ns (c + k)).1 := lt_neW m e
        exact .inr (by show (runN ns (c + k + 1)).1 ≤ -((k + 1 : Nat) : Int); omega)
theorem hi_under {ns : List Sd} (hns : ∀ d ∈ ns, SideP d.o d.s d.m) {y : Int} (y1 : 1 ≤ y) (h : ∀ e ∈ ns, y ≤ dueM e.o e.s e.m y) : ∀ k, (runN ns k).2 < y
  | 0 => by show (0 : Int) < y; omega
  | k + 1 => by
    have a := hi_under hns y1 h k
    have key : ∀ (ts : List Sd) (b : Int × Int), (∀ e ∈ ts, e ∈ ns) → b.2 < y → (ts.foldl (widS (runN ns k)) b).2 < y := by
      intro ts
      induction ts with
      | nil => intro b _ e; exact e
      | cons d ts ih =>
        intro b ht e
        rw [List.foldl_cons]
        refine ih _ (fun x hx => ht x (List.mem_cons_of_mem _ hx)) ?_
        have hd := ht d List.mem_cons_self
        have S := hns d hd
        have q := (back_iffW (o := d.o) (v := (runN ns k).2 + 1) (y := y) S.md S.s0).mpr (by have := h d hd; omega)
        unfold widS
        split
        · simp only; split <;> omega
        · exact e
    exact key ns _ (fun _ h => h) a
theorem back_per {o s v : Int} {m : Str} (hm : Mode m) (hs : 1 ≤ s) (t : Int) : dueM o s m (v + perM s m * t) = dueM o s m v + perM s m * t := by
  by_cases he : m = "half_even"
  · have e : perM s m = 2 * s := by unfold perM; rw [if_pos he]
    have h := due_shift (o := o) (s := s) (m := m) (v := v + perM s m * t) (j := 2 * t) hm hs (.inr (by omega))
    have h2 := due_tr (o := o) (s := s) (m := m) (v := v) (t := perM s m * t)
    rw [← h, ← h2, e]
    congr 1
    rw [Int.mul_assoc, Int.mul_left_comm]
  · have e : perM s m = s := by unfold perM; rw [if_neg he]
    have h := due_shift (o := o) (s := s) (m := m) (v := v + perM s m * t) (j := t) hm hs (.inl he)
    have h2 := due_tr (o := o) (s := s) (m := m) (v := v) (t := perM s m * t)
    rw [← h, ← h2, e]
/-- an end that stands lies within a period -/
theorem hi_far {ns : List Sd} (hns : ∀ d ∈ ns, SideP d.o d.s d.m) {N : Int} (hN : ∀ d ∈ ns, ∃ t, N = perM d.s d.m * t) (N1 : 1 ≤ N) {k : Nat} (h : hiOk ns (runN ns k).2) : (runN ns k).2 < N := by
  by_cases z : (runN ns k).2 < N
  · exact z
  · exfalso
    have y := hi_under hns (y := (runN ns k).2 + 1 - N) (by omega) (fun e he => by
      obtain ⟨t, ht⟩ := hN e he
      have S := hns e he
      have a := (back_iffW (o := e.o) (v := (runN ns k).2 + 1) (y := (runN ns k).2 + 1) S.md S.s0).mp (h e he)
      have b := back_per (o := e.o) (v := (runN ns k).2 + 1 - N) S.md S.s0 t
      rw [← ht, show (runN ns k).2 + 1 - N + N = (runN ns k).2 + 1 by omega] at b
      omega) k
    omega
theorem com_dvd (ss : List Sd) : ∀ (n : Nat), n ∣ ss.foldl (fun n d => n.lcm (perN d)) n ∧ ∀ d ∈ ss, perN d ∣ ss.foldl (fun n d => n.lcm (perN d)) n := by
  induction ss with
  | nil => exact fun n => ⟨Nat.dvd_refl _, fun d hd => by cases hd⟩
  | cons e ss ih =>
    intro n
    rw [List.foldl_cons]
    have a := ih (n.lcm (perN e))
    refine ⟨Nat.dvd_trans (Nat.dvd_lcm_left _ _) a.1, fun d hd => ?_⟩
    rcases List.mem_cons.mp hd with rfl | hd
    · exact Nat.dvd_trans (Nat.dvd_lcm_right _ _) a.1
    · exact a.2 d hd
end HT
namespace HT
open PySem L2
theorem perN_eq {d : Sd} (S : SideP d.o d.s d.m) : ((perN d : Nat) : Int) = perM d.s d.m := by
  have := perM_bd S
  unfold perN
  omega
end HT
namespace HT
open PySem L2
def spGreat : Sp := fun vs H Q _ => ∃ (a c : Addr) (t : Nat) (lim : Int), vs = [.ref a, .int lim] ∧ Src H a c t ∧ 0 < lim ∧ t + 5 < 2 ^ 30 ∧
  ∀ k H', 0 ≤ k → k < lim → Src H' a c (t + 5) → Oth a c H H' → Q (.int k) H'
def spTen : Sp := fun vs H Q _ => ∃ (n : Nat), vs = [.int (n : Int)] ∧ n ≤ 1000 ∧ Q (.int (10 ^ n)) H
def spStep : Sp := fun vs H Q _ => ∃ (a c : Addr) (t : Nat) (mo : Int), vs = [.ref a, .int mo] ∧ Src H a c t ∧ 1 ≤ mo ∧ mo ≤ 10 ^ 30 ∧ t + 20 < 2 ^ 30 ∧
  ∀ s H' t', 1 ≤ s → s ≤ mo → t' ≤ t + 20 → Src H' a c t' → Oth a c H H' → Q (.int s) H'
def spSide : Sp := fun vs H Q _ => ∃ (a c : Addr) (t : Nat) (mo : Int), vs = [.ref a, .int mo] ∧ Src H a c t ∧ 1 ≤ mo ∧ mo ≤ 10 ^ 30 ∧ t + 40 < 2 ^ 30 ∧
  ∀ p o s m H' t', H p = none → H' p = some (sideV o s m) → (1 ≤ s ∧ s ≤ mo ∧ -s ≤ o ∧ o < 2 * s ∧ Mode m) → t' ≤ t + 40 → Src H' a c t' → Oth a c H H' → Q (.ref p) H'
theorem lg_small {n : Int} (h0 : 0 ≤ n) (h : n < 2 ^ 64) : n.natAbs.log2 < 9000 := by
  obtain ⟨m, rfl⟩ := Int.eq_ofNat_of_zero_le h0
  exact lg_nat (Nat.lt_of_lt_of_le (by omega : m < 2 ^ 64) (Nat.pow_le_pow_right (by decide) (by decide)))
section
variable {P : Program} {w : World} {K : PySem.W.Frag} {mg : Str → Option Value} {base : Heap} {fD fP fG fT fS : Addr} {dD dP dG dT dS : FuncData}
theorem ok_great {f : Addr} {fd : FuncData} (F : Fun K "_law_great" "_law_great" s_L_great f fd) (B : Blt mg) (D : Cal P w K mg base "_law_draw" 1 ["_law_source_here", "_law_limit"] spDraw fD dD) :
    FnOk P w K mg base CX0 2 f fd ["_law_source_here", "_law_limit"] spGreat := by
  refine F.ok sc_L_great (fun vs H Q E h => ?_) (fun cdv A outer s H vs Q E hr h => ?_)
  · obtain ⟨a, c, t, lim, rfl, _⟩ := h
    rfl
  · obtain ⟨a, c, t, lim, rfl, S, hl, ht, q⟩ := h
    have nd := sc_L_great.nd
    refine ⟨_, pss_cons (ps_set (i := 2) nd rfl (Or.inl rfl) pe_int)
      (pss_cons (ps_for PassesOwn.never rfl (pi_range1 (by rfl) B.range (pa_cons pe_int pa_nil)) (pg_name (i := 3) nd rfl (Or.inl rfl))
        (pss_one (ps_set (i := 2) nd rfl (Or.inl rfl) (pe_op op_add (pe_op op_mul (pv 2) (pe_op op_pow pe_int pe_int)) (pcl D hr (by decide) (by rfl) (pa_cons (pv 0) (pa_cons (pe_op op_pow pe_int pe_int) pa_nil)))))))
      (pss_one (ps_ret (pe_op op_mod (pe_callTy call_int1 (by rfl) B.int (by decide +kernel) (pa_cons (pv 2) pa_nil)) (pv 1))))), ?_⟩
    walk_at "rd"
    refine ⟨by decide, by decide, ?_⟩
    refine for_range (n := 5) (fun i σ H' => ∃ (k : Int) (kv : Option V), σ = [some (.ref a), some (.int lim), some (.int k), kv] ∧ Src H' a c (t + i) ∧ Oth a c H H') ⟨0, none, rfl, S, Oth.refl _ _ _⟩ ?_ ?_
    · rintro i σ H' hi ⟨k, kv, rfl, S', O⟩
      walk_at "rd"
      refine ⟨⟨by decide, by decide, by decide⟩, ?_⟩
      walk_at "rd"
      refine ⟨.inr ⟨by decide, by decide⟩, ?_⟩
      walk_at "rd"
      refine ⟨⟨by decide, by decide, by decide⟩, ?_⟩
      refine ⟨a, c, t + i, _, rfl, S', by omega, (by decide), lg_small (by decide) (by decide), fun y H2 y0 y1 S2 O2 => ?_⟩
      walk_at "rd"
      exact ⟨_, _, rfl, S2, O.trans O2⟩
    · rintro σ H' ⟨k, kv, rfl, S', O⟩
      walk_at "rd"
      refine ⟨hl, ?_⟩
      exact q _ _ (Int.emod_nonneg _ (by omega)) (Int.emod_lt_of_pos _ hl) S' O
theorem ok_ten {f : Addr} {fd : FuncData} (F : Fun K "_law_ten" "_law_ten" s_L_ten f fd) (B : Blt mg) : FnOk P w K mg base CX0 1 f fd ["_law_many"] spTen := by
  refine F.ok sc_L_ten (fun vs H Q E h => ?_) (fun cdv A outer s H vs Q E hr h => ?_)
  · obtain ⟨n, rfl, _⟩ := h
    rfl
  · obtain ⟨n, rfl, hn, q⟩ := h
    have nd := sc_L_ten.nd
    refine ⟨_, pss_cons (ps_set (i := 1) nd rfl (Or.inl rfl) pe_int)
      (pss_cons (ps_for PassesOwn.never rfl (pi_range1 (by rfl) B.range (pa_cons (pv 0) pa_nil)) (pg_name (i := 2) nd rfl (Or.inl rfl))
        (pss_one (ps_set (i := 1) nd rfl (Or.inl rfl) (pe_op op_mul (pv 1) pe_int))))
      (pss_one (ps_ret (pv 1)))), ?_⟩
    walk_at "rd"
    refine ⟨by omega, by omega, ?_⟩
    rw [Int.toNat_natCast]
    refine for_range (fun i σ H' => ∃ (kv : Option V), σ = [some (.int (n : Int)), some (.int (10 ^ i)), kv] ∧ H' = H) ⟨none, rfl, rfl⟩ ?_ ?_
    · rintro i σ H' hi ⟨kv, rfl, rfl⟩
      walk_at "rd"
      refine ⟨.inr ⟨by decide, by decide⟩, ?_⟩
      exact ⟨_, rfl, rfl⟩
    · rintro σ H' ⟨kv, rfl, rfl⟩
      walk_at "rd"
      exact q
end
theorem joint_of {x : V} (h : x ∈ [V.int 1, .int 2, .int 6, .int ((10 : Int) ^ (9 : Int).toNat), .int 360, .int ((2 : Int) ^ (40 : Int).toNat), .int ((10 : Int) ^ (9 : Int).toNat + 7), .int ((10 : Int) ^ (15 : Int).toNat), .int ((3 : Int) ^ (20 : Int).toNat)]) : ∃ j : Int, x = .int j ∧ 1 ≤ j ∧ j ≤ 10 ^ 15 := by
  simp only [List.mem_cons, List.not_mem_nil, or_false] at h
  rcases h with h | h | h | h | h | h | h | h | h <;> exact ⟨_, h, by decide, by decide⟩
theorem pow10_le {n k : Nat} (h : n ≤ k) : (10 : Int) ^ n ≤ 10 ^ k := by
  have z := Nat.pow_le_pow_right (show 0 < 10 by decide) h
  have e : ∀ j : Nat, ((10 ^ j : Nat) : Int) = (10 : Int) ^ j := fun j => Int.natCast_pow 10 j
  rw [← e, ← e]
  omega
theorem sq_bound {a b : Int} (a0 : 1 ≤ a) (b0 : 1 ≤ b) : 1 ≤ a * b := Int.mul_pos a0 b0
section
variable {P : Program} {w : World} {K : PySem.W.Frag} {mg : Str → Option Value} {base : Heap} {fD fP fG fT fS fE fI fW : Addr} {dD dP dG dT dS dE dI dW : FuncData}
theorem ok_step {f : Addr} {fd : FuncData} (F : Fun K "_law_step" "_law_step" s_L_step f fd) (B : Blt mg) (MT : MaxT mg) (D : Cal P w K mg base "_law_draw" 1 ["_law_source_here", "_law_limit"] spDraw fD dD)
    (Pk : Cal P w K mg base "_law_pick" 2 ["_law_source_here", "_law_values"] spPick fP dP) (G : Cal P w K mg base "_law_great" 2 ["_law_source_here", "_law_limit"] spGreat fG dG) (Tn : Cal P w K mg base "_law_ten" 1 ["_law_many"] spTen fT dT) : FnOk P w K mg base CX0 3 f fd ["_law_source_here", "_law_most"] spStep := by
  refine F.ok sc_L_step (fun vs H Q E h => ?_) (fun cdv A outer s H vs Q E hr h => ?_)
  · obtain ⟨a, c, t, mo, rfl, _⟩ := h
    rfl
  · obtain ⟨a, c, t, mo, rfl, S, m0, m1, ht, q⟩ := h
    have nd := sc_L_step.nd
    refine ⟨_, (pss_cons (ps_if (pt_cmpR op_lt (pv 1) pe_int (nomark _)) (pss_one (ps_ret (pe_op op_add pe_int (pcl D hr (by decide) (by rfl) (pa_cons (pv 0) (pa_cons (pv 1) pa_nil)))))) pss_nil)
      (pss_cons (ps_set (i := 2) nd rfl (Or.inl rfl) (pcl Pk hr (by decide) (by rfl) (pa_cons (pv 0) (pa_cons (pe_lst (pa_cons pe_int (pa_cons pe_int (pa_cons pe_int (pa_cons (pe_op op_pow pe_int pe_int) (pa_cons pe_int (pa_cons (pe_op op_pow pe_int pe_int) (pa_cons (pe_op op_add (pe_op op_pow pe_int pe_int) pe_int) (pa_cons (pe_op op_pow pe_int pe_int) (pa_cons (pe_op op_pow pe_int pe_int) pa_nil)))))))))) pa_nil))))
      (pss_one (ps_ret (pe_callB (call_min2 rfl) (by rfl) MT.min (by decide +kernel) (pa_cons (pv 1) (pa_cons (pe_op op_mulW (pv 2) (pe_op op_add pe_int (pcl G hr (by decide) (by rfl) (pa_cons (pv 0) (pa_cons (pcl Tn hr (by decide) (by rfl) (pa_cons (pe_op op_add pe_int (pcl D hr (by decide) (by rfl) (pa_cons (pv 0) (pa_cons pe_int pa_nil)))) pa_nil)) pa_nil))))) pa_nil))))))), ?_⟩
    walk_at "rd"
    refine ite2 (fun h => ?_) (fun h => ?_)
    · have h' := of_decide_eq_true h
      walk_at "rd"
      refine ⟨a, c, t, mo, rfl, S, by omega, by omega, lg_small (by omega) (by omega), fun k H1 k0 k1 S1 O1 => ?_⟩
      walk_at "rd"
      exact q _ _ _ (by omega) (by omega) (by omega) S1 O1
    walk_at "rd"
    refine ⟨⟨by decide, by decide, by decide⟩, ?_⟩
    walk_at "rd"
    refine ⟨⟨by decide, by decide, by decide⟩, ?_⟩
    walk_at "rd"
    refine ⟨⟨by decide, by decide, by decide⟩, ?_⟩
    walk_at "rd"
    refine ⟨⟨by decide, by decide, by decide⟩, ?_⟩
    walk_at "rd"
    refine ⟨⟨by decide, by decide, by decide⟩, ?_⟩
    refine ⟨(by show 9 ≤ sizeLine; decide), fun l nl => ?_⟩
    obtain ⟨la, lc⟩ := S.na nl
    refine ⟨a, c, t, l, _, rfl, S.new nl, by omega, upd_same, la, lc, by decide, by decide, fun x H1 hx S1 O1 => ?_⟩
    obtain ⟨j, rfl, j0, j1⟩ := joint_of hx
    have O1' : Oth a c H H1 := ((Oth.refl a c H).new nl).trans O1
    walk_at "rd"
    refine ⟨a, c, _, 22, rfl, S1, by omega, by decide, lg_small (by decide) (by decide), fun k H2 k0 k1 S2 O2 => ?_⟩
    walk_at "rd"
    refine ⟨(1 + k).toNat, (by show [V.int (1 + k)] = [V.int _]; rw [Int.toNat_of_nonneg (by omega)]), by omega, ?_⟩
    have tp : (1 : Int) ≤ 10 ^ (1 + k).toNat := Int.pow_pos (by decide)
    have tb : (10 : Int) ^ (1 + k).toNat ≤ 10 ^ 22 := pow10_le (by omega)
    refine ⟨a, c, _, _, rfl, S2, by omega, by omega, fun g H3 g0 g1 S3 O3 => ?_⟩
    walk_at "rd"
    refine ⟨mulW (by omega) (by omega), ?_⟩
    refine ⟨_, _, rfl, ?_⟩
    have p1 := sq_bound (a := j) (b := 1 + g) j0 (by omega)
    have fin : ∀ z : Int, 1 ≤ z → z ≤ mo → Q (.int z) H3 := fun z z0 z1 => q z H3 _ z0 z1 (by omega) S3 ((O1'.trans O2).trans O3)
    refine fin _ ?_ ?_
    · split <;> omega
    · split <;> omega
theorem ok_side {f : Addr} {fd : FuncData} (F : Fun K "_law_side" "_law_side" s_L_side f fd) (B : Blt mg) (St : Cal P w K mg base "_law_step" 3 ["_law_source_here", "_law_most"] spStep fS dS)
    (Pk : Cal P w K mg base "_law_pick" 2 ["_law_source_here", "_law_values"] spPick fP dP) (G : Cal P w K mg base "_law_great" 2 ["_law_source_here", "_law_limit"] spGreat fG dG) : FnOk P w K mg base CX0 4 f fd ["_law_source_here", "_law_most"] spSide := by
  refine F.ok sc_L_side (fun vs H Q E h => ?_) (fun cdv A outer s H vs Q E hr h => ?_)
  · obtain ⟨a, c, t, mo, rfl, _⟩ := h
    rfl
  · obtain ⟨a, c, t, mo, rfl, S, m0, m1, ht, q⟩ := h
    have nd := sc_L_side.nd
    refine ⟨_, (pss_cons (ps_set (i := 2) nd rfl (Or.inl rfl) (pcl St hr (by decide) (by rfl) (pa_cons (pv 0) (pa_cons (pv 1) pa_nil))))
      (pss_cons (ps_set (i := 3) nd rfl (Or.inl rfl) (pe_op op_sub (pcl G hr (by decide) (by rfl) (pa_cons (pv 0) (pa_cons (pe_op op_mul pe_int (pv 2)) pa_nil))) (pv 2)))
      (pss_one (ps_ret (pe_tup (pa_cons (pv 3) (pa_cons (pv 2) (pa_cons (pcl Pk hr (by decide) (by rfl) (pa_cons (pv 0) (pa_cons (pe_lst (pa_cons pe_str (pa_cons pe_str (pa_cons pe_str (pa_cons pe_str (pa_cons pe_str pa_nil)))))) pa_nil))) pa_nil)))))))), ?_⟩
    walk_at "rd"
    refine ⟨a, c, t, mo, rfl, S, m0, m1, by omega, fun s H1 t1 s0 s1 ht1 S1 O1 => ?_⟩
    walk_at "rd"
    refine ⟨.inl ⟨by decide, by decide⟩, ?_⟩
    refine ⟨a, c, t1, 3 * s, rfl, S1, by omega, by omega, fun g H2 g0 g1 S2 O2 => ?_⟩
    walk_at "rd"
    refine ⟨(by show 5 ≤ sizeLine; decide), fun l nl => ?_⟩
    obtain ⟨la, lc⟩ := S2.na nl
    refine ⟨a, c, _, l, _, rfl, S2.new nl, by omega, upd_same, la, lc, by decide, by decide, fun x H3 hx S3 O3 => ?_⟩
    obtain ⟨m, rfl, hm⟩ := mode_of hx
    refine ⟨(by show 3 ≤ sizeLine; decide), fun d nd' => ?_⟩
    have O4 : Oth a c H H3 := (O1.trans O2).trans (((Oth.refl a c H2).new nl).trans O3)
    have hdn : H d = none := by
      cases e : H d with
      | none => rfl
      | some u =>
        by_cases da : d = a
        · subst da; rw [S3.ob] at nd'; cases nd'
        · by_cases dc : d = c
          · obtain ⟨cs, hcs, _⟩ := S3.cl
            subst dc; rw [hcs] at nd'; cases nd'
          · rw [O4 _ _ e da dc] at nd'; cases nd'
    exact q d _ s m _ _ hdn upd_same ⟨s0, s1, by omega, by omega, hm⟩ (by omega) (S3.new nd') (O4.new nd')
end
end HT
namespace HT
open PySem L2
def kS (x : Str) : Key := Sum.inr x
def five (a b c d e : V) : List (Key × V) := putK (mergeK [] [(kS "down", a), (kS "up", b), (kS "half_down", c), (kS "half_up", d)]) (kS "half_even") e
theorem five_d {a b c d e : V} : valV (five a b c d e) (kS "down") = some a := by rfl
theorem five_u {a b c d e : V} : valV (five a b c d e) (kS "up") = some b := by rfl
theorem five_hd {a b c d e : V} : valV (five a b c d e) (kS "half_down") = some c := by rfl
theorem five_hu {a b c d e : V} : valV (five a b c d e) (kS "half_up") = some d := by rfl
theorem five_he {a b c d e : V} : valV (five a b c d e) (kS "half_even") = some e := by rfl
theorem five_at {f : Str → V} {m : Str} (hm : Mode m) : valV (five (f "down") (f "up") (f "half_down") (f "half_up") (f "half_even")) (kS m) = some (f m) := by
  rcases hm with e | e | e | e | e <;> subst e
  · exact five_d
  · exact five_u
  · exact five_hd
  · exact five_hu
  · exact five_he
theorem cgt (a b : Int) : decide (a > b) = decide (b < a) := rfl
theorem cge (a b : Int) : decide (a ≥ b) = decide (b ≤ a) := rfl
theorem due_fig {o s v : Int} {m : Str} : dueM o s m v = o + s * ((v - o) / s + if goesUp m s ((v - o) / s) ((v - o) % s) = true then 1 else 0) := by
  unfold dueM figM
  split
  · rfl
  · rw [Int.add_zero]
section
variable {P : Program} {w : World} {K : PySem.W.Frag} {mg : Str → Option Value} {base : Heap} {fD fP fG fT fS fE : Addr} {dD dP dG dT dS dE : FuncData}
theorem ok_L_written {f : Addr} {fd : FuncData} (F : Fun K "_law_written" "_law_written" s_L_written f fd) (B : Blt mg) : FnOk P w K mg base CX0 1 f fd ["_law_side_here", "_law_value"] spDue := by
  refine F.ok sc_L_written (fun vs H Q E h => ?_) (fun cdv A outer s H vs Q E hr h => ?_)
  · obtain ⟨p, o, s, m, v, rfl, _⟩ := h
    rfl
  · obtain ⟨p, o, s, m, v, rfl, hp, S, hv, q⟩ := h
    have nd := sc_L_written.nd
    have hu := hu_of hr
    refine ⟨_, (pss_cons (ps_asg (pv 0) (pg_tup (by rfl) (pgs_cons (pg_name (i := 2) nd rfl (Or.inl rfl)) (pgs_cons (pg_name (i := 3) nd rfl (Or.inl rfl)) (pgs_cons (pg_name (i := 4) nd rfl (Or.inl rfl)) pgs_nil)))))
      (pss_cons (ps_set (i := 5) nd rfl (Or.inl rfl) (pe_op op_fdivW (pe_op op_sub (pv 1) (pv 2)) (pv 3)))
      (pss_cons (ps_set (i := 6) nd rfl (Or.inl rfl) (pe_op op_mod (pe_callTy call_int1 (by rfl) B.int (by decide +kernel) (pa_cons (pe_op op_sub (pv 1) (pv 2)) pa_nil)) (pv 3)))
      (pss_cons (ps_set (i := 7) nd rfl (Or.inl rfl) (pe_disp (pps_cons pe_str pe_bl (pps_cons pe_str (pe_cmpR op_gt (pv 6) pe_int (nomark _)) (pps_cons pe_str (pe_cmpR op_gt (pe_op op_mul pe_int (pv 6)) (pv 3) (nomark _)) (pps_cons pe_str (pe_cmpR op_ge (pe_op op_mul pe_int (pv 6)) (pv 3) (nomark _)) pps_nil)))) (by rfl) (by rfl) (fun z => by cases z) (by decide)))
      (pss_cons (ps_dput hu (pv 7) pe_str (pe_or (pe_cmpR op_gt (pe_op op_mul pe_int (pv 6)) (pv 3) (nomark _)) (pe_one (pe_and (pe_cmpR op_eq (pe_op op_mul pe_int (pv 6)) (pv 3) (nomark _)) (pe_one (pe_cmpR op_eq (pe_op op_mod (pe_callTy call_int1 (by rfl) B.int (by decide +kernel) (pa_cons (pv 5) pa_nil)) pe_int) pe_int (nomark _)))))) rfl)
      (pss_one (ps_ret (pe_op op_add (pv 2) (pe_op op_mulW (pv 3) (pe_op op_add (pv 5) (pe_callTy call_int1 (by rfl) B.int (by decide +kernel) (pa_cons (pe_dget hu (pv 7) (pv 4) (fun _ _ => rfl)) pa_nil)))))))))))), ?_⟩
    have b0 := S.s0
    have b1 := S.s1
    have b2 := S.o0
    have b3 := S.o1
    have b4 := hv.1
    have b5 := hv.2
    have fb := fig_bd S hv
    have d5 := div_bd (x := v - o) (b := 2 ^ 1001) S.s0 (by omega) (by omega)
    have r0 := Int.emod_nonneg (v - o) (show s ≠ 0 by omega)
    have r1 := Int.emod_lt_of_pos (v - o) (show 0 < s by omega)
    walk_at "rd"
    refine ⟨p, _, rfl, SqT.of hp, rfl, _, _, rfl, _, _, rfl, _, _, rfl, rfl, ?_⟩
    walk_at "rd"
    refine ⟨fdiv_ok _ (by omega) (lg_big (by omega) (by omega)), ?_⟩
    walk_at "rd"
    refine ⟨by omega, ?_⟩
    intro d nd'
    walk_at "rd"
    refine ⟨.inl ⟨by decide, by decide⟩, ?_⟩
    walk_at "rd"
    refine ⟨.inl ⟨by decide, by decide⟩, ?_⟩
    walk_at "rd"
    refine ⟨upd_same, [(kS "down", .bl false), (kS "up", .bl (decide ((v - o) % s > 0))), (kS "half_down", .bl (decide (2 * ((v - o) % s) > s))), (kS "half_up", .bl (decide (2 * ((v - o) % s) ≥ s)))], rfl, (by show 4 ≤ 15; decide), ?_⟩
    have lk : ∀ b : Bool, b = goesUp "half_even" s ((v - o) / s) ((v - o) % s) → valV (five (.bl false) (.bl (decide ((v - o) % s > 0))) (.bl (decide (2 * ((v - o) % s) > s))) (.bl (decide (2 * ((v - o) % s) ≥ s))) (.bl b)) (kS m) = some (V.bl (goesUp m s ((v - o) / s) ((v - o) % s))) := fun b hb => by
      have := five_at (f := fun m => V.bl (goesUp m s ((v - o) / s) ((v - o) % s))) S.md
      simp only [go_down, go_up, go_hd, go_hu] at this
      rw [hb]
      exact this
    have q' : ∀ H', Same H H' → Q (.int (o + s * ((v - o) / s + if goesUp m s ((v - o) / s) ((v - o) % s) = true then 1 else 0))) H' := fun H' sm => by rw [← due_fig]; exact q H' sm
    have ge := go_he s ((v - o) / s) ((v - o) % s)
    walk_at "rd"
    refine ⟨.inl ⟨by decide, by decide⟩, ?_⟩
    walk_at "rd"
    refine ite2 (fun h => ?_) (fun h => ?_)
    · have h' := of_decide_eq_true h
      walk_at "rd"
      refine ⟨d, _, rfl, DPut.k (k := kS "half_even") upd_same (by show 4 < sizeLine; decide), ?_⟩
      walk_at "rd"
      refine ⟨d, _, rfl, (lk _ (by rw [ge, decide_eq_true (by omega : s < 2 * ((v - o) % s)), Bool.true_or])) ▸ DGet.k (k := kS m) upd_same, .inr ⟨_, rfl, ?_⟩⟩
      walk_at "rd"
      refine ⟨mulW (by omega) (by split <;> omega), ?_⟩
      walk_at "rd"
      exact q' _ fun b u z => by rw [upd_ne (ne_of_none z nd'), upd_ne (ne_of_none z nd'), upd_ne (ne_of_none z nd')]; exact z
    have h' : ¬ s < 2 * ((v - o) % s) := fun z => h (decide_eq_true z)
    walk_at "rd"
    refine ⟨.inl ⟨by decide, by decide⟩, ?_⟩
    walk_at "rd"
    refine ⟨rfl, ?_⟩
    walk_at "rd"
    refine ite2 (fun c => ?_) (fun c => ?_)
    · have c' := int_t c
      walk_at "rd"
      refine ⟨(by show (0 : Int) < 2; decide), ?_⟩
      walk_at "rd"
      refine ⟨rfl, ?_⟩
      walk_at "rd"
      refine ⟨d, _, rfl, DPut.k (k := kS "half_even") upd_same (by show 4 < sizeLine; decide), ?_⟩
      walk_at "rd"
      refine ⟨d, _, rfl, (lk (decide (V.int ((v - o) / s % 2) = V.int 1)) (by rw [ge, decide_eq_false h', decide_eq_true c', dec_int, Bool.true_and, Bool.false_or])) ▸ DGet.k (k := kS m) upd_same, .inr ⟨_, rfl, ?_⟩⟩
      walk_at "rd"
      refine ⟨mulW (by omega) (by split <;> omega), ?_⟩
      walk_at "rd"
      exact q' _ fun b u z => by rw [upd_ne (ne_of_none z nd'), upd_ne (ne_of_none z nd'), upd_ne (ne_of_none z nd')]; exact z
    · have c' := int_f c
      walk_at "rd"
      refine ⟨d, _, rfl, DPut.k (k := kS "half_even") upd_same (by show 4 < sizeLine; decide), ?_⟩
      walk_at "rd"
      refine ⟨d, _, rfl, (lk _ (by rw [ge, decide_eq_false h', decide_eq_false c', Bool.false_and, Bool.or_false])) ▸ DGet.k (k := kS m) upd_same, .inr ⟨_, rfl, ?_⟩⟩
      walk_at "rd"
      refine ⟨mulW (by omega) (by split <;> omega), ?_⟩
      walk_at "rd"
      exact q' _ fun b u z => by rw [upd_ne (ne_of_none z nd'), upd_ne (ne_of_none z nd'), upd_ne (ne_of_none z nd')]; exact z
end
end HT
namespace HT
open PySem L2
def spDiv : Sp := fun vs H Q _ => ∃ a b : Nat, vs = [.int (a : Int), .int (b : Int)] ∧ Q (.int ((Nat.gcd a b : Nat) : Int)) H
section
variable {P : Program} {w : World} {K : PySem.W.Frag} {mg : Str → Option Value} {base : Heap} {fW fF : Addr} {dW dF : FuncData}
theorem ok_div {f : Addr} {fd : FuncData} (F : Fun K "_law_divisor" "_law_divisor" s_L_divisor f fd) (B : Blt mg) : FnOk P w K mg base CX0 1 f fd ["_law_one", "_law_other"] spDiv := by
  refine F.ok sc_L_divisor (fun vs H Q E h => ?_) (fun cdv A outer s0 H vs Q E hr h => ?_)
  · obtain ⟨a, b, rfl, _⟩ := h
    rfl
  · obtain ⟨a, b, rfl, q⟩ := h
    have nd := sc_L_divisor.nd
    refine ⟨_, pss_cons (ps_while PassesOwn.never (pt_cmpR op_ne (pv 1) pe_int (nomark _)) (pss_one (ps_par (i := 0) (j := 1) rfl nd rfl rfl (by decide) rfl rfl (pa_cons (pv 1) (pa_cons (pe_op op_mod (pe_callTy call_int1 (by rfl) B.int (by decide +kernel) (pa_cons (pv 0) pa_nil)) (pv 1)) pa_nil)) (by rfl))))
      (pss_one (ps_ret (pv 0))), ?_⟩
    refine ⟨fun m σ H' => ∃ c d : Nat, m = d ∧ σ = [some (.int (c : Int)), some (.int (d : Int))] ∧ H' = H ∧ Nat.gcd c d = Nat.gcd a b, ⟨b, a, b, rfl, rfl, rfl, rfl⟩, ?_⟩
    rintro d σ H' ⟨c, _, rfl, rfl, rfl, hg⟩
    walk_at "rd"
    refine ⟨rfl, ?_⟩
    rw [dec_int]
    by_cases e : d = 0
    · subst e
      walk_at "rd"
      show Q (.int (c : Int)) H'
      rw [Nat.gcd_zero_right] at hg
      rw [hg]
      exact q
    · have e2 : (!decide ((d : Int) = 0)) = true := by
        rw [decide_eq_false (by omega)]
        rfl
      rw [e2]
      refine ⟨true, rfl, fun σ' H'' => ∃ c' d' : Nat, d' < d ∧ σ' = [some (V.int (c' : Int)), some (V.int (d' : Int))] ∧ H'' = H' ∧ Nat.gcd c' d' = Nat.gcd a b, fun σ' H'' ⟨c', d', l, e1, e2, e3⟩ => ⟨d', l, c', d', rfl, e1, e2, e3⟩, ?_⟩
      walk_at "rd"
      refine ⟨(by show (0 : Int) < (d : Int); omega), ?_⟩
      refine ⟨_, _, rfl, d, c % d, Nat.mod_lt _ (by omega), ?_, rfl, ?_⟩
      · rw [Int.natCast_emod]
        rfl
      · rw [← hg, Nat.gcd_comm c d, Nat.gcd_rec d c, Nat.gcd_comm]
end
end HT
namespace HT
open PySem L2
def spPerS : Sp := fun vs H Q _ => ∃ (l : Addr) (xs : List V) (ss : List Sd), vs = [.ref l] ∧ SidesAt H l xs ss ∧ ∀ H', Same H H' → Q (.int (comN ss : Int)) H'
theorem lg_any {n : Nat} (h : n < 2 ^ 500) : ((n : Int)).natAbs.log2 < 9000 := by
  rw [Int.natAbs_natCast]
  by_cases e : n = 0
  · rw [e]; decide
  · have := (Nat.log2_lt e).mpr h
    omega
section
variable {P : Program} {w : World} {K : PySem.W.Frag} {mg : Str → Option Value} {base : Heap} {Bx fB fH fI fJ fV : Addr} {dB dH dI dJ dV : FuncData} {C : Nat → Addr}
theorem ok_period {f : Addr} {fd : FuncData} (F : Fun K "_law_period" "_law_period" s_L_period f fd) (B : Blt mg) (Dv : Cal P w K mg base "_law_divisor" 1 ["_law_one", "_law_other"] spDiv fV dV) : FnOk P w K mg base CX0 2 f fd ["_law_sides"] spPerS := by
  refine F.ok sc_L_period (fun vs H Q E h => ?_) (fun cdv A outer s0 H vs Q E hr h => ?_)
  · obtain ⟨l, xs, ss, rfl, _⟩ := h
    rfl
  · obtain ⟨l, xs, ss, rfl, SS, q⟩ := h
    have nd := sc_L_period.nd
    refine ⟨_, (pss_cons (ps_set (i := 1) nd rfl (Or.inl rfl) pe_int)
      (pss_cons (ps_for PassesOwn.never rfl (pi_list (pv 0)) (pg_tup (by rfl) (pgs_cons (pg_name (i := 2) nd rfl (Or.inl rfl)) (pgs_cons (pg_name (i := 3) nd rfl (Or.inl rfl)) (pgs_cons (pg_name (i := 4) nd rfl (Or.inl rfl)) pgs_nil)))) (pss_cons (ps_set (i := 5) nd rfl (Or.inl rfl) (pe_op op_mulW (pv 3) (pe_ix ix_list (pe_lst (pa_cons pe_int (pa_cons pe_int pa_nil))) (pe_callTy call_int1 (by rfl) B.int (by decide +kernel) (pa_cons (pe_cmpR op_eq (pv 4) pe_str (nomark _)) pa_nil)) (fun _ _ => rfl))))
      (pss_one (ps_set (i := 1) nd rfl (Or.inl rfl) (pe_op op_mulW (pe_op op_fdivW (pv 1) (pcl Dv hr (by decide) (by rfl) (pa_cons (pv 1) (pa_cons (pv 5) pa_nil)))) (pv 5))))))
      (pss_one (ps_ret (pv 1))))), ?_⟩
    walk_at "rd"
    refine ⟨⟨_, SqL.of SS.hl⟩, ?_⟩
    refine for_list (K := K) (a := l) (xs := xs) (fun i st H' => ∃ x2 x3 x4 x5 : Option V, st = [some (.ref l), some (.int (comN (ss.take i) : Int)), x2, x3, x4, x5] ∧ Same H H') ⟨none, none, none, none, rfl, Same.refl _⟩ (fun _ _ _ _ ⟨_, _, _, _, _, e⟩ => SqL.of (e _ _ SS.hl)) ?_ ?_
    · rintro i y st H' hy ⟨x2, x3, x4, x5, rfl, sm⟩
      obtain ⟨d, p, ed, rfl, hp, sp⟩ := SS.item hy
      walk_at "rd"
      refine ⟨p, _, rfl, SqT.of (sm _ _ hp), rfl, _, _, rfl, _, _, rfl, _, _, rfl, rfl, ?_⟩
      walk_at "rd"
      refine ⟨(by show 2 ≤ sizeLine; decide), fun z nz => ?_⟩
      generalize e_z : upd H' z _ = H1
      have gz : H1 z = some (.lst [.int 1, .int 2]) := by rw [← e_z]; exact upd_same
      have wz : Same H' H1 := by rw [← e_z]; exact fun b u z => (upd_ne (ne_of_none z nz)).trans z
      clear e_z
      walk_at "rd"
      refine ⟨rfl, ?_⟩
      walk_at "rd"
      refine .inr ⟨_, rfl, ?_⟩
      have s0 := sp.s0
      have s1 := sp.s1
      have pb := perM_bd sp
      have eN : ((perN d : Nat) : Int) = perM d.s d.m := Int.toNat_of_nonneg (by omega)
      obtain ⟨bI, ebI, eL, bb⟩ : ∃ bI : Int, atI [V.int 1, .int 2] (if decide (V.str d.m = V.str "half_even") = true then 1 else 0) = some (.int bI) ∧ d.s * bI = ((perN d : Nat) : Int) ∧ -2 ^ 1010 < bI ∧ bI < 2 ^ 1010 := by
        rw [eN, dec_str]
        unfold perM
        by_cases h : d.m = "half_even"
        · rw [if_pos (decide_eq_true h), if_pos h]
          exact ⟨2, rfl, by omega, by decide, by decide⟩
        · rw [if_neg (fun z => h (of_decide_eq_true z)), if_neg h]
          exact ⟨1, rfl, by omega, by decide, by decide⟩
      refine ⟨z, _, _, _, rfl, rfl, SqL.of gz, ebI, ?_⟩
      walk_at "rd"
      refine ⟨mulW (by omega) bb, ?_⟩
      walk_at "rd"
      refine ⟨comN (ss.take i), perN d, (by show [V.int _, V.int (d.s * bI)] = _; rw [eL]), ?_⟩
      have cp : 0 < comN (ss.take i) := com_pos _ 1 (by decide) fun e he => SS.side e (List.mem_of_mem_take he)
      have cl := com_take SS.side SS.l4 i
      have gp : 0 < Nat.gcd (comN (ss.take i)) (perN d) := Nat.gcd_pos_of_pos_left _ cp
      have gl : Nat.gcd (comN (ss.take i)) (perN d) ≤ comN (ss.take i) := Nat.gcd_le_left _ cp
      walk_at "rd"
      refine ⟨fdiv_ok _ (by omega) (lg_any (Nat.lt_of_le_of_lt gl (Nat.lt_trans cl (Nat.pow_lt_pow_right (by decide) (by decide))))), ?_⟩
      walk_at "rd"
      have ed2 : (comN (ss.take i) : Int) / ((Nat.gcd (comN (ss.take i)) (perN d) : Nat) : Int) = ((comN (ss.take i) / Nat.gcd (comN (ss.take i)) (perN d) : Nat) : Int) := (Int.natCast_ediv _ _).symm
      have dl : comN (ss.take i) / Nat.gcd (comN (ss.take i)) (perN d) ≤ comN (ss.take i) := Nat.div_le_self _ _
      have big : (2 : Nat) ^ 420 < 2 ^ 1010 := Nat.pow_lt_pow_right (by decide) (by decide)
      have dn : (0 : Int) ≤ ((comN (ss.take i) / Nat.gcd (comN (ss.take i)) (perN d) : Nat) : Int) := Int.natCast_nonneg _
      have ml : CMulW ((comN (ss.take i) : Int) / ((Nat.gcd (comN (ss.take i)) (perN d) : Nat) : Int)) (d.s * bI) := by
        rw [ed2, eL]
        exact mulW (by omega) (by omega)
      refine ⟨ml, ?_⟩
      refine ⟨some (.int d.o), some (.int d.s), some (.str d.m), some (.int (d.s * bI)), ?_, sm.trans wz⟩
      have e9 : (comN (ss.take i) : Int) / ((Nat.gcd (comN (ss.take i)) (perN d) : Nat) : Int) * (d.s * bI) = (comN (ss.take (i + 1)) : Int) := by
        rw [eL, ed2, com_snoc ed, ← lcm_div, Int.natCast_mul]
      rw [← e9]
      rfl
    · rintro st H' ⟨x2, x3, x4, x5, rfl, sm⟩
      rw [SS.len, List.take_length]
      walk_at "rd"
      exact q H' sm
end
end HT
namespace HT
open PySem L2
theorem back_mov {d : Sd} (S : SideP d.o d.s d.m) (b x : Int) : backM (movD b d).o (movD b d).s (movD b d).m x = backM d.o d.s d.m (x - b) + b := by
  have S2 := side_mov b S
  apply Int.le_antisymm
  · rw [back_iffW S2.md S2.s0, due_mov S, show backM d.o d.s d.m (x - b) + b - b = backM d.o d.s d.m (x - b) by omega]
    have := back_ge (o := d.o) (v := x - b) S.md S.s0
    omega
  · have h := back_ge (o := (movD b d).o) (v := x) S2.md S2.s0
    rw [due_mov S] at h
    have := (back_iffW (o := d.o) (v := x - b) (y := backM (movD b d).o (movD b d).s (movD b d).m x - b) S.md S.s0).mpr (by omega)
    omega
def shV (v : Int) (r : Int × Int) : Int × Int := (v + r.1, v + r.2)
theorem wid_sh {v : Int} {ss : List Sd} (hss : ∀ d ∈ ss, SideP d.o d.s d.m) (r : Int × Int) : widF ss (shV v r) = shV v (widF (ss.map (movD (-v))) r) := by
  have key : ∀ (ts : List Sd) (a : Int × Int), (∀ d ∈ ts, d ∈ ss) → ts.foldl (widS (shV v r)) (shV v a) = shV v ((ts.map (movD (-v))).foldl (widS r) a) := by
    intro ts
    induction ts with
    | nil => intro a _; rfl
    | cons d ts ih =>
      intro a h
      rw [List.map_cons, List.foldl_cons, List.foldl_cons, ← ih _ fun e he => h e (List.mem_cons_of_mem _ he)]
      congr 1
      have S := hss d (h d List.mem_cons_self)
      have e1 := back_mov S (-v) r.1
      have e2 := back_mov S (-v) (r.2 + 1)
      rw [show r.1 - -v = v + r.1 by omega] at e1
      rw [show r.2 + 1 - -v = v + r.2 + 1 by omega] at e2
      have main : ∀ (x y a1 a2 : Int), (if x ≤ y - 1 then (if x < v + a1 then x else v + a1, if v + a2 < y - 1 then y - 1 else v + a2) else (v + a1, v + a2)) = shV v (if x + -v ≤ y + -v - 1 then (if x + -v < a1 then x + -v else a1, if a2 < y + -v - 1 then y + -v - 1 else a2) else (a1, a2)) := fun x y a1 a2 => by
        unfold shV
        by_cases c : x ≤ y - 1
        · rw [if_pos c, if_pos (show x + -v ≤ y + -v - 1 by omega)]
          refine Prod.ext ?_ ?_
          · show (if x < v + a1 then x else v + a1) = v + if x + -v < a1 then x + -v else a1
            split <;> split <;> omega
          · show (if v + a2 < y - 1 then y - 1 else v + a2) = v + if a2 < y + -v - 1 then y + -v - 1 else a2
            split <;> split <;> omega
        · rw [if_neg c, if_neg (show ¬ x + -v ≤ y + -v - 1 by omega)]
      unfold widS
      rw [e1, e2]
      exact main _ _ a.1 a.2
  exact key ss r fun d h => h
/-- the runs, as they lie -/
def aR (v : Int) (ss : List Sd) (k : Nat) : Int × Int := shV v (runN (ss.map (movD (-v))) k)
theorem aR_succ {v : Int} {ss : List Sd} (hss : ∀ d ∈ ss, SideP d.o d.s d.m) (k : Nat) : aR v ss (k + 1) = widF ss (aR v ss k) := (wid_sh hss _).symm
theorem mem_wid {ns : List Sd} (hns : ∀ d ∈ ns, SideP d.o d.s d.m) {r : Int × Int} {y : Int} : ((widF ns r).1 ≤ y ∧ y ≤ (widF ns r).2) ↔ ((r.1 ≤ y ∧ y ≤ r.2) ∨ ∃ d ∈ ns, r.1 ≤ dueM d.o d.s d.m y ∧ dueM d.o d.s d.m y ≤ r.2) := by
  refine ⟨wid_fro hns, fun h => ?_⟩
  rcases h with h | ⟨d, hd, h1, h2⟩
  · have w := wid_in (ns := ns) (r := r) r
    exact ⟨Int.le_trans w.1 h.1, Int.le_trans h.2 w.2.1⟩
  · exact wid_back hns hd h1 h2
/-- what lies of a run in the window -/
def clA (v N : Int) (r : Int × Int) : Int × Int := (if r.1 < v - N then v - N else r.1, if v + N < r.2 then v + N else r.2)
theorem clA_mem {v N : Int} {r : Int × Int} (N0 : 0 ≤ N) {y : Int} (h : r.1 ≤ v ∧ v ≤ r.2) : ((clA v N r).1 ≤ y ∧ y ≤ (clA v N r).2) ↔ ((r.1 ≤ y ∧ y ≤ r.2) ∧ (v - N ≤ y ∧ y ≤ v + N)) := by
  unfold clA
  simp only
  split <;> split <;> omega
theorem run_eq {a b : Int × Int} {v : Int} (ha : a.1 ≤ v ∧ v ≤ a.2) (hb : b.1 ≤ v ∧ v ≤ b.2) (h : ∀ y, (a.1 ≤ y ∧ y ≤ a.2) ↔ (b.1 ≤ y ∧ y ≤ b.2)) : a = b := by
  have h1 := (h a.1).mp (by omega)
  have h2 := (h b.1).mpr (by omega)
  have h3 := (h a.2).mp (by omega)
  have h4 := (h b.2).mpr (by omega)
  exact Prod.ext (by omega) (by omega)
theorem near_s {d : Sd} (S : SideP d.o d.s d.m) (y : Int) : y - d.s < dueM d.o d.s d.m y ∧ dueM d.o d.s d.m y < y + d.s := by
  have := due_near (o := d.o) (v := y) S.md S.s0
  omega
/-- what lies beyond the window does not matter -/
theorem cl_wid {ss : List Sd} (hss : ∀ d ∈ ss, SideP d.o d.s d.m) {v N : Int} (hN : ∀ d ∈ ss, d.s ≤ N) (N0 : 0 ≤ N) {u : Int × Int} (hu : u.1 ≤ v ∧ v ≤ u.2) : clA v N (widF ss u) = clA v N (widF ss (clA v N u)) := by
  have hc : (clA v N u).1 ≤ v ∧ v ≤ (clA v N u).2 := (clA_mem N0 hu).mpr ⟨hu, by omega⟩
  have hw : (widF ss u).1 ≤ v ∧ v ≤ (widF ss u).2 := (mem_wid hss).mpr (.inl hu)
  have hwc : (widF ss (clA v N u)).1 ≤ v ∧ v ≤ (widF ss (clA v N u)).2 := (mem_wid hss).mpr (.inl hc)
  refine run_eq ((clA_mem N0 hw).mpr ⟨hw, by omega⟩) ((clA_mem N0 hwc).mpr ⟨hwc, by omega⟩) fun y => ?_
  rw [clA_mem N0 hw, clA_mem N0 hwc, mem_wid hss, mem_wid hss, clA_mem N0 hu]
  refine ⟨fun ⟨h, w⟩ => ⟨?_, w⟩, fun ⟨h, w⟩ => ⟨?_, w⟩⟩
  · rcases h with h | ⟨d, hd, h1, h2⟩
    · exact .inl ⟨h, w⟩
    · have n := near_s (hss d hd) y
      have := hN d hd
      by_cases c : v - N ≤ dueM d.o d.s d.m y ∧ dueM d.o d.s d.m y ≤ v + N
      · exact .inr ⟨d, hd, (clA_mem N0 hu).mpr ⟨⟨h1, h2⟩, c⟩⟩
      · refine .inl ⟨?_, w⟩
        omega
  · rcases h with h | ⟨d, hd, h⟩
    · exact .inl h.1
    · exact .inr ⟨d, hd, ((clA_mem N0 hu).mp h).1⟩
/-- the runs within the window -/
def cR (v N : Int) (ss : List Sd) : Nat → Int × Int
  | 0 => (v, v)
  | k + 1 => clA v N (widF ss (cR v N ss k))
theorem aR_v {v : Int} {ss : List Sd} (k : Nat) : (aR v ss k).1 ≤ v ∧ v ≤ (aR v ss k).2 := by
  have z := run_mono (ns := ss.map (movD (-v))) (Nat.zero_le k)
  have z1 : (runN (ss.map (movD (-v))) 0) = (0, 0) := rfl
  rw [z1] at z
  unfold aR shV
  simp only at z ⊢
  omega
theorem cR_eq {ss : List Sd} (hss : ∀ d ∈ ss, SideP d.o d.s d.m) {v N : Int} (hN : ∀ d ∈ ss, d.s ≤ N) (N0 : 0 ≤ N) : ∀ k, cR v N ss k = clA v N (aR v ss k)
  | 0 => by
    show (v, v) = clA v N (v + 0, v + 0)
    unfold clA
    rw [Int.add_zero, if_neg (by simp only; omega), if_neg (by simp only; omega)]
  | k + 1 => by
    show clA v N (widF ss (cR v N ss k)) = _
    rw [cR_eq hss hN N0 k, ← cl_wid hss hN N0 (aR_v k), aR_succ hss]
theorem cR_v {ss : List Sd} (hss : ∀ d ∈ ss, SideP d.o d.s d.m) {v N : Int} (hN : ∀ d ∈ ss, d.s ≤ N) (N0 : 0 ≤ N) (k : Nat) : ((cR v N ss k).1 ≤ v ∧ v ≤ (cR v N ss k).2) ∧ v - N ≤ (cR v N ss k).1 ∧ (cR v N ss k).2 ≤ v + N := by
  rw [cR_eq hss hN N0 k]
  have h := aR_v (v := v) (ss := ss) k
  refine ⟨(clA_mem N0 h).mpr ⟨h, by omega⟩, ?_⟩
  unfold clA
  simp only
  split <;> split <;> omega
theorem cR_stop {v N : Int} {ss : List Sd} {j : Nat} (h : cR v N ss (j + 1) = cR v N ss j) : ∀ k, cR v N ss (j + k) = cR v N ss j
  | 0 => rfl
  | k + 1 => by
    show clA v N (widF ss (cR v N ss (j + k))) = _
    rw [cR_stop h k]
    exact h
theorem cl_clip {v N : Int} (r : Int × Int) : clA v N (shV v r) = shV v (clipN N r) := by
  refine Prod.ext ?_ ?_
  · show (if v + r.1 < v - N then v - N else v + r.1) = v + if r.1 < -N then -N else r.1
    split <;> split <;> omega
  · show (if v + N < v + r.2 then v + N else v + r.2) = v + if N < r.2 then N else r.2
    split <;> split <;> omega
theorem sh_inj {v : Int} {a b : Int × Int} (h : shV v a = shV v b) : a = b := by
  have h1 := congrArg Prod.fst h
  have h2 := congrArg Prod.snd h
  unfold shV at h1 h2
  simp only at h1 h2
  exact Prod.ext (by omega) (by omega)
/-- where the window's runs come to rest, no error comes, and the ends are those at rest -/
theorem bef_rest {ss : List Sd} (hss : ∀ d ∈ ss, SideP d.o d.s d.m) {v N : Int} (hN : ∀ d ∈ ss, d.s ≤ N) (N0 : 0 ≤ N) {j n : Nat} (j1 : j ≤ 1000) (h : cR v N ss (j + 1) = cR v N ss j) (to : RunsTo (ss.map (movD (-v))) n) :
    ¬ TooE N (ss.map (movD (-v))) n ∧ shV v (clipN N (runN (ss.map (movD (-v))) n)) = cR v N ss j := by
  have st := cR_stop h
  have ec : ∀ k, shV v (clipN N (runN (ss.map (movD (-v))) k)) = cR v N ss k := fun k => by rw [cR_eq hss hN N0 k, ← cl_clip]; rfl
  have far : ∀ k, j ≤ k → cR v N ss k = cR v N ss j := fun k hk => by
    have := st (k - j)
    rwa [show j + (k - j) = k by omega] at this
  refine ⟨fun t => ?_, ?_⟩
  · obtain ⟨e, ne⟩ := t
    refine ne (sh_inj (v := v) ?_)
    rw [ec, ec, far 1000 j1, far 1001 (by omega)]
  · rw [ec]
    by_cases c : j ≤ n
    · exact far n c
    · have ln := to.le
      have s := to.stop.resolve_left (by omega)
      have s2 : cR v N ss (n + 1) = cR v N ss n := by rw [← ec, ← ec, s]
      have := cR_stop s2 (j - n)
      rw [show n + (j - n) = j by omega] at this
      exact this.symm
theorem bef_many {ss : List Sd} (hss : ∀ d ∈ ss, SideP d.o d.s d.m) {v N : Int} (hN : ∀ d ∈ ss, d.s ≤ N) (N0 : 0 ≤ N) {n : Nat} (h : ∀ j, j ≤ 1000 → cR v N ss (j + 1) ≠ cR v N ss j) (to : RunsTo (ss.map (movD (-v))) n) : TooE N (ss.map (movD (-v))) n := by
  have ec : ∀ k, shV v (clipN N (runN (ss.map (movD (-v))) k)) = cR v N ss k := fun k => by rw [cR_eq hss hN N0 k, ← cl_clip]; rfl
  by_cases e : n = 1001
  · refine ⟨e, fun z => h 1000 (Nat.le_refl _) ?_⟩
    rw [← ec, ← ec, z]
  · exfalso
    have ln := to.le
    have s := to.stop.resolve_left e
    exact h n (by omega) (by rw [← ec, ← ec, s])
/-- small windows: the runs come to rest -/
theorem bef_small {ss : List Sd} (hss : ∀ d ∈ ss, SideP d.o d.s d.m) {v N : Int} (hN : ∀ d ∈ ss, d.s ≤ N) (N0 : 0 ≤ N) (N1 : N ≤ 400) : ∃ j, j ≤ 1000 ∧ cR v N ss (j + 1) = cR v N ss j := by
  refine Classical.byContradiction fun no => ?_
  have ne : ∀ j, j ≤ 1000 → cR v N ss (j + 1) ≠ cR v N ss j := fun j a b => no ⟨j, a, b⟩
  have grow : ∀ k : Nat, k ≤ 1001 → (k : Int) ≤ (cR v N ss k).2 - (cR v N ss k).1 := fun k => by
    induction k with
    | zero => intro _; show ((0 : Nat) : Int) ≤ v - v; omega
    | succ k ih =>
      intro hk
      have a := ih (by omega)
      have d := ne k (by omega)
      have e : cR v N ss (k + 1) = clA v N (widF ss (cR v N ss k)) := rfl
      obtain ⟨c1, c2⟩ := cR_v hss hN N0 (v := v) k
      obtain ⟨f1, f2⟩ := cR_v hss hN N0 (v := v) (k + 1)
      have w := wid_in (ns := ss) (r := cR v N ss k) (cR v N ss k)
      have w1 : (widF ss (cR v N ss k)).1 ≤ (cR v N ss k).1 := w.1
      have w2 : (cR v N ss k).2 ≤ (widF ss (cR v N ss k)).2 := w.2.1
      have hw : (widF ss (cR v N ss k)).1 ≤ v ∧ v ≤ (widF ss (cR v N ss k)).2 := by omega
      have m1 := (clA_mem N0 hw (y := (cR v N ss k).1)).mpr (by omega)
      have m2 := (clA_mem N0 hw (y := (cR v N ss k).2)).mpr (by omega)
      rw [← e] at m1 m2
      by_cases p : (cR v N ss (k + 1)).1 = (cR v N ss k).1
      · by_cases q : (cR v N ss (k + 1)).2 = (cR v N ss k).2
        · exact absurd (Prod.ext p q) d
        · omega
      · omega
  have g := grow 1001 (Nat.le_refl _)
  obtain ⟨f1, f2⟩ := cR_v hss hN N0 (v := v) 1001
  omega
theorem com_s {ss : List Sd} (hss : ∀ d ∈ ss, SideP d.o d.s d.m) : ∀ d ∈ ss, d.s ≤ (comN ss : Int) := fun d hd => by
  have S := hss d hd
  have pb := perM_bd S
  have cp : 0 < comN ss := com_pos ss 1 (by decide) hss
  have le := Nat.le_of_dvd cp ((com_dvd ss 1).2 d hd)
  have e := perN_eq S
  have : d.s ≤ perM d.s d.m := by
    have := S.s0
    unfold perM
    split <;> omega
  have e2 : comN ss = ss.foldl (fun n d => n.lcm (perN d)) 1 := rfl
  omega
end HT
namespace HT
open PySem L2
theorem same_upd {H : Hp} {a : Addr} {o : HO} (h : H a = none) : Same H (upd H a o) := fun b u z => (upd_ne (ne_of_none z h)).trans z
/-- the ends that before tells of a run within the window -/
def endT (v N : Int) (c : Int × Int) : HO := .tup [oI (if c.1 = v - N then none else some c.1), oI (if c.2 = v + N then none else some c.2)]
theorem endT_eq {v N : Int} (r : Int × Int) : HO.tup [oI (loE v N r), oI (hiE v N r)] = endT v N (shV v (clipN N r)) := by
  unfold endT loE hiE shV
  simp only
  have e1 : ((clipN N r).1 = -N) ↔ (v + (clipN N r).1 = v - N) := by omega
  have e2 : ((clipN N r).2 = N) ↔ (v + (clipN N r).2 = v + N) := by omega
  congr 1
  by_cases c1 : (clipN N r).1 = -N <;> by_cases c2 : (clipN N r).2 = N
  · rw [if_pos c1, if_pos c2, if_pos (e1.mp c1), if_pos (e2.mp c2)]
  · rw [if_pos c1, if_neg c2, if_pos (e1.mp c1), if_neg (fun z => c2 (e2.mpr z))]
  · rw [if_neg c1, if_pos c2, if_neg (fun z => c1 (e1.mpr z)), if_pos (e2.mp c2)]
  · rw [if_neg c1, if_neg c2, if_neg (fun z => c1 (e1.mpr z)), if_neg (fun z => c2 (e2.mpr z))]
/-- what the law's told and its due for great sides come to -/
def BefP (v : Int) (ss : List Sd) (H : Hp) (Q : VK) : Prop :=
  (∀ j, j ≤ 1000 → cR v (comN ss) ss (j + 1) = cR v (comN ss) ss j → ∀ (p : Addr) (H' : Hp), H p = none → Same H H' → H' p = some (endT v (comN ss) (cR v (comN ss) ss j)) → Q (.ref p) H') ∧
  ((∀ j, j ≤ 1000 → cR v (comN ss) ss (j + 1) ≠ cR v (comN ss) ss j) → ∀ H', Same H H' → Q (.str "many") H')
def spTold13 : Sp := fun vs H Q _ => ∃ (l : Addr) (xs : List V) (ss : List Sd) (v : Int), vs = [.ref l, .int v] ∧ SidesAt H l xs ss ∧ (-2 ^ 500 < v ∧ v < 2 ^ 500) ∧ BefP v ss H Q
section
variable {P : Program} {w : World} {K : PySem.W.Frag} {mg : Str → Option Value} {base : Heap} {Bx fB : Addr} {dB : FuncData} {C : Nat → Addr}
end
end HT
namespace HT
open PySem L2
section
variable {P : Program} {w : World} {K : PySem.W.Frag} {mg : Str → Option Value} {base : Heap} {aM c0 fC fB fV fN fW fS Bx : Addr} {dC dB dV dN dW dS : FuncData} {C : Nat → Addr}
theorem ok_holds {f : Addr} {fd : FuncData} (F : Fun K "_holds" "_holds" s_holds f fd) : FnOk P w K mg base CX0 1 f fd ["ends", "value"] spHolds := by
  refine F.ok sc_holds (fun vs H Q E h => ?_) (fun cdv A outer s0 H vs Q E hr h => ?_)
  · obtain ⟨p, lo, hi, s, rfl, _⟩ := h
    rfl
  · obtain ⟨p, lo, hi, s, rfl, hp, q⟩ := h
    have nd := sc_holds.nd
    refine ⟨_, (pss_cons (ps_asg (pv 0) (pg_tup (by rfl) (pgs_cons (pg_name (i := 2) nd rfl (Or.inl rfl)) (pgs_cons (pg_name (i := 3) nd rfl (Or.inl rfl)) pgs_nil))))
      (pss_one (ps_ret (pe_and (pe_or (pe_cmpR op_isN (pv 2) pe_non (nomark _)) (pe_one (pe_cmpR op_le (pv 2) (pv 1) (nomark _)))) (pe_one (pe_or (pe_cmpR op_isN (pv 3) pe_non (nomark _)) (pe_one (pe_cmpR op_le (pv 1) (pv 3) (nomark _))))))))), ?_⟩
    walk_at "rd"
    refine ⟨p, _, rfl, SqT.of hp, rfl, _, _, rfl, _, _, rfl, rfl, ?_⟩
    unfold holdsF at q
    have dn : ∀ x : Int, decide (oI (some x) = V.non) = false := fun x => decide_eq_false fun z => nomatch (show V.int x = V.non from z)
    have d0 : decide (oI none = V.non) = true := rfl
    have not_f2 : ∀ {b : Bool}, ¬ b = true → b = false := fun {b} z => by cases b <;> simp_all
    have second : ∀ H1 : Hp, Q (.bl (highF hi s)) H1 → tOrV (tOp (fun x y H Q => y = V.non ∧ Q (V.bl (decide (x = V.non))) H) (tVar 3) (tC V.non)) (tOp (rI0 fun i j => V.bl (decide (i ≤ j))) (tVar 1) (tVar 3)) [some (.ref p), some (.int s), some (oI lo), some (oI hi)] H1 Q := fun H1 k => by
      refine ⟨_, rfl, rfl, ?_⟩
      cases hi with
      | none =>
        refine ⟨true, rfl, ?_⟩
        exact k
      | some y =>
        refine ⟨_, rfl, ?_⟩
        rw [dn, if_neg (by decide)]
        walk_at "rd"
        exact k
    walk_at "rd"
    refine ⟨rfl, ?_⟩
    cases lo with
    | none =>
      refine ⟨true, rfl, ?_⟩
      refine ⟨true, rfl, ?_⟩
      exact second H q
    | some x =>
      refine ⟨_, rfl, ?_⟩
      rw [dn, if_neg (by decide)]
      walk_at "rd"
      refine ite2 (fun z => ?_) (fun z => ?_)
      · have e : lowF (some x) s = true := z
        rw [e] at q
        exact second H q
      · have e : lowF (some x) s = false := not_f2 z
        rw [e] at q
        have e2 : decide (x ≤ s) = false := e
        exact q
end
end HT
namespace HT
open PySem L2
section
variable {P : Program} {w : World} {K : PySem.W.Frag} {mg : Str → Option Value} {base : Heap} {aM c0 fC fB fV fN fW fS Bx : Addr} {dC dB dV dN dW dS : FuncData} {C : Nat → Addr}
theorem holds_run {v : Int} {ns : List Sd} {s : Int} {i : Nat} : holdsF (some (v + (runN ns i).1)) (some (v + (runN ns i).2)) s = decide (inR v ns s i) := by
  show (decide (v + (runN ns i).1 ≤ s) && decide (s ≤ v + (runN ns i).2)) = decide (inR v ns s i)
  unfold inR
  by_cases a : v + (runN ns i).1 ≤ s <;> by_cases b : s ≤ v + (runN ns i).2 <;> simp [a, b]
theorem cut_1001 (xs : List V) : cutV xs none (some 1001) = xs.take 1001 := by
  have e : cutV xs none (some 1001) = xs.take (min 1001 xs.length) := rfl
  rw [e]
  rcases Nat.le_total 1001 xs.length with h | h
  · rw [Nat.min_eq_left h]
  · rw [Nat.min_eq_right h, List.take_of_length_le (Nat.le_refl _), List.take_of_length_le h]
theorem ok_few_x {f : Addr} {fd : FuncData} (F : Fun K "_fewest" "_fewest" s_fewest f fd) (hen : mg "enumerate" = none) (R : Er K mg C Bx) (hMH : ∃ t, mg "MOST_HANDOVERS" = some (.int 1000 t)) (Ho : Cal P w K mg base "_holds" 1 ["ends", "value"] spHolds fB dB) (En : CalX P w K mg base "_ends" 3 ["sides", "value", "runs"] (spEndsX C) fC dC) : FnOk P w K mg base (L2.CX P w) 4 f fd ["sides", "start", "value", "runs"] (spFewX C) := by
  refine F.okAny sc_fewest (fun vs H Q E h => ?_) (fun cdv A outer s0 H vs Q E hr h => ?_)
  · obtain ⟨l, q, xs, ss, ns, s, v, n, rfl, _⟩ := h
    rfl
  · obtain ⟨l, q, xs, ss, ns, s, v, n, rfl, SS, to, RA, k1, k2⟩ := h
    have nd := sc_fewest.nd
    obtain ⟨tmh, hmh⟩ := hMH
    refine ⟨_, (pss_cons (ps_for (passes_of rfl) rfl (pi_enum (by rfl) hen (pa_cons (pe_slice sl_list (pv 3) po_none (po_some (pe_op op_add (pe_glob (v := .int 1000) (by rfl) hmh ⟨_, rfl⟩) pe_int))) pa_nil)) (pg_tup (by rfl) (pgs_cons (pg_name (i := 4) nd rfl (Or.inl rfl)) (pgs_cons (pg_name (i := 5) nd rfl (Or.inl rfl)) pgs_nil))) (pss_one (ps_if (pt_val (pcl Ho hr (by decide) (by rfl) (pa_cons (pv 5) (pa_cons (pv 1) pa_nil)))) (pss_one (ps_ret (pv 4))) pss_nil)))
      (pss_cons (ps_if (pt_val (pcl Ho hr (by decide) (by rfl) (pa_cons (pcx En hr (by decide) (by rfl) (takes_of rfl rfl rfl rfl) (pa_cons (pv 0) (pa_cons (pv 2) (pa_cons (pv 3) pa_nil)))) (pa_cons (pv 1) pa_nil)))) (pss_one (ps_raise rfl (takes_of rfl rfl rfl rfl) (pmk_own PySem.F.excBase_ValueError (R.ex 2 (by decide)) R.g2 (R.kp 2 (by decide)) (raises_own (R.sb 2 (by decide)) (R.ty 2 (by decide))) (by rfl)))) pss_nil)
      (pss_one (ps_ret pe_non)))), ?_⟩
    obtain ⟨ps, hR, lp, ap⟩ := RA
    walk_at "rd"
    refine ⟨q, _, rfl, SqL.of hR, fun cu ncu => ?_⟩
    have w1 : Same H (upd H cu (.lst (cutV (ps.map V.ref) none (some 1001)))) := fun b u z => (upd_ne (ne_of_none z ncu)).trans z
    have g1 : upd H cu (.lst (cutV (ps.map V.ref) none (some 1001))) cu = some (.lst ((ps.take 1001).map V.ref)) := by
      rw [upd_same, cut_1001, List.map_take]
    change tNil _ (upd H cu (.lst (cutV (ps.map V.ref) none (some 1001)))) _
    generalize upd H cu (.lst (cutV (ps.map V.ref) none (some 1001))) = H1 at w1 g1 ⊢
    have n1 := to.le
    walk_at "rd"
    refine ⟨cu, _, rfl, SqL.of g1, ?_⟩
    refine for_enumL (K := K) (a := cu) (xs := (ps.take 1001).map V.ref) (fun i st H' => ∃ x4 x5 : Option V, st = [some (.ref l), some (.int s), some (.int v), some (.ref q), x4, x5] ∧ Same H H' ∧ H' cu = some (.lst ((ps.take 1001).map V.ref)) ∧ ∀ j, j < i → ¬ inR v ns s j)
      ⟨none, none, rfl, w1, g1, fun j z => absurd z (Nat.not_lt_zero _)⟩ (fun _ _ _ _ ⟨_, _, _, _, e, _⟩ => SqL.of e) ?_ ?_
    · rintro i y st H' hy ⟨x4, x5, rfl, sm, gc, no⟩ T nT
      rw [List.getElem?_map] at hy
      obtain ⟨p1, e1, rfl⟩ := Option.map_eq_some_iff.mp hy
      have e2 : ps[i]? = some p1 ∧ i < 1001 := by
        rw [List.getElem?_take] at e1
        split at e1
        · exact ⟨e1, by omega⟩
        · cases e1
      have hp1 := ap i p1 e2.1
      have il : i < ps.length := (List.getElem?_eq_some_iff.mp e2.1).1
      have wT : Same H' (upd H' T (.tup [.int (i : Nat), .ref p1])) := fun b u z => (upd_ne (ne_of_none z nT)).trans z
      refine ⟨T, _, rfl, SqT.of upd_same, rfl, _, _, rfl, _, _, rfl, rfl, ?_⟩
      generalize upd H' T (.tup [.int (i : Nat), .ref p1]) = H2 at wT ⊢
      walk_at "rd"
      refine ⟨p1, some (v + (runN ns i).1), some (v + (runN ns i).2), s, rfl, wT _ _ (sm _ _ hp1), _, rfl, ?_⟩
      rw [holds_run]
      refine ite2 (fun z => ?_) (fun z => ?_)
      · walk_at "rd"
        exact k1 i (by omega) (by omega) (of_decide_eq_true z) no H2 (sm.trans wT)
      · refine ⟨_, _, rfl, sm.trans wT, wT _ _ gc, fun j hj => ?_⟩
        rcases Nat.lt_or_eq_of_le (Nat.le_of_lt_succ hj) with y | y
        · exact no j y
        · rw [y]; exact fun y => z (decide_eq_true y)
    · rintro st H' ⟨x4, x5, rfl, sm, gc, no⟩
      have no2 : ∀ i, i ≤ n → i ≤ 1000 → ¬ inR v ns s i := fun i a b => no i (by rw [List.length_map, List.length_take, lp]; omega)
      walk_at "rd"
      refine ⟨l, q, xs, ss, ns, v, n, rfl, SS.same sm, to, ⟨ps, sm _ _ hR, lp, fun i p e => sm _ _ (ap i p e)⟩, ?_⟩
      by_cases many : TooE (comN ss) ns n
      · exact .inl ⟨many, fun H2 s2 => (k2 no2 H2 (sm.trans s2)).1 many⟩
      · refine .inr ⟨many, fun p H2 np s2 hp => ?_⟩
        have k3 := (k2 no2 H2 (sm.trans s2)).2 many
        walk_at "rd"
        refine ⟨p, _, _, s, rfl, hp, _, rfl, ?_⟩
        refine ite2 (fun z => ?_) (fun z => ?_)
        · exact k3.1 z
        · walk_at "rd"
          exact k3.2 (by simpa using z)
end
end HT
namespace HT
open PySem L2
abbrev sd0 : Sd := ⟨0, 1, "down"⟩
/-- the numbers of the sides that lead into the run -/
def fitL (v : Int) (ns ss : List Sd) (x : Int) (k : Nat) : List Nat := (List.range ss.length).filter fun j => decide (inR v ns (wD (ss.getD j sd0) x) k)
def fitI (v : Int) (ns ss : List Sd) (x : Int) (k : Nat) : Nat := (fitL v ns ss x k).headD 0
def wayS (v : Int) (ns ss : List Sd) (x : Int) (k : Nat) : Int := wD (ss.getD (fitI v ns ss x k) sd0) x
def wayF (v : Int) (ns ss : List Sd) : Nat → Int → List Nat
  | 0, _ => []
  | k + 1, x => fitI v ns ss x k :: wayF v ns ss k (wayS v ns ss x k)
def WayOk (v : Int) (ns ss : List Sd) : Nat → Int → Prop
  | 0, _ => True
  | k + 1, x => (∃ d ∈ ss, inR v ns (wD d x) k) ∧ WayOk v ns ss k (wayS v ns ss x k)
def natV (k : Nat) : V := .int (k : Int)
theorem at_nat {xs : List V} {k : Nat} {y : V} (h : xs[k]? = some y) : atI xs (k : Int) = some y := by
  have hk : k < xs.length := (List.getElem?_eq_some_iff.mp h).1
  unfold atI
  rw [ixN_in (by omega) (by omega), Int.toNat_natCast]
  exact h
theorem fit_ok {v : Int} {ns ss : List Sd} {x : Int} {k : Nat} (h : ∃ d ∈ ss, inR v ns (wD d x) k) : ∃ t, fitL v ns ss x k = fitI v ns ss x k :: t ∧ fitI v ns ss x k < ss.length ∧ inR v ns (wayS v ns ss x k) k := by
  obtain ⟨d, hd, r⟩ := h
  obtain ⟨j, hj, e⟩ := List.mem_iff_getElem.mp hd
  have mem : j ∈ fitL v ns ss x k := by
    unfold fitL
    refine List.mem_filter.mpr ⟨List.mem_range.mpr hj, decide_eq_true ?_⟩
    rw [List.getD_eq_getElem?_getD, List.getElem?_eq_getElem hj, e]
    exact r
  unfold wayS
  cases q : fitL v ns ss x k with
  | nil => rw [q] at mem; cases mem
  | cons a t =>
    have e1 : fitI v ns ss x k = a := by unfold fitI; rw [q]; rfl
    have ma : a ∈ fitL v ns ss x k := by rw [q]; exact List.mem_cons_self
    unfold fitL at ma
    obtain ⟨m1, m2⟩ := List.mem_filter.mp ma
    rw [e1]
    exact ⟨t, rfl, List.mem_range.mp m1, of_decide_eq_true m2⟩
/-- the last m runs ahead of the one that holds the start -/
def spWay : Sp := fun vs H Q _ => ∃ (l q : Addr) (xs : List V) (ss ns : List Sd) (s v : Int) (m : Nat) (ps : List Addr), vs = [.ref l, .int s, .ref q] ∧ SidesAt H l xs ss ∧ H q = some (.lst (ps.map V.ref)) ∧ ps.length = m ∧ m ≤ 1000 ∧
  (∀ (i : Nat) (p : Addr), ps[i]? = some p → H p = some (pairV (v + (runN ns i).1) (v + (runN ns i).2))) ∧ (∀ d ∈ ns, SideP d.o d.s d.m) ∧ (-2 ^ 500 < s ∧ s < 2 ^ 500) ∧ (-2 ^ 500 < v ∧ v < 2 ^ 500) ∧ WayOk v ns ss m s ∧
  ∀ (r : Addr) (H' : Hp), H r = none → Same H H' → H' r = some (.lst ((wayF v ns ss m s).map natV)) → Q (.ref r) H'
section
variable {P : Program} {w : World} {K : PySem.W.Frag} {mg : Str → Option Value} {base : Heap} {fB fC : Addr} {dB dC : FuncData}
theorem ok_way {f : Addr} {fd : FuncData} (F : Fun K "_way" "_way" s_way f fd) (B : Blt mg) (hen : mg "enumerate" = none) (Wr : Cal P w K mg base "written" 3 ["side", "value"] spDue fB dB) (Ho : Cal P w K mg base "_holds" 1 ["ends", "value"] spHolds fC dC) : FnOk P w K mg base CX0 4 f fd ["sides", "start", "runs"] spWay := by
  refine F.ok sc_way (fun vs H Q E h => ?_) (fun cdv A outer s0 H vs Q E hr h => ?_)
  · obtain ⟨l, q, xs, ss, ns, s, v, m, ps, rfl, _⟩ := h
    rfl
  · obtain ⟨l, q, xs, ss, ns, s, v, m, ps, rfl, SS, hq, lp, m1, ap, hns, sb, vb, ok, k⟩ := h
    have nd := sc_way.nd
    refine ⟨_, (pss_cons (ps_set (i := 3) nd rfl (Or.inl rfl) (pe_lst pa_nil))
      (pss_cons (ps_set (i := 4) nd rfl (Or.inr rfl) (pv 1))
      (pss_cons (ps_for PassesOwn.never rfl (pi_range1 (by rfl) B.range (pa_cons (pe_callB call_len_seq (by rfl) B.len PySem.boot_len (pa_cons (pv 2) pa_nil)) pa_nil)) (pg_name (i := 5) nd rfl (Or.inl rfl)) (pss_cons (ps_set (i := 6) nd rfl (Or.inr rfl) (pe_ix ix_list (pv 2) (pe_op op_sub (pe_op op_sub (pe_callB call_len_seq (by rfl) B.len PySem.boot_len (pa_cons (pv 2) pa_nil)) pe_int) (pv 5)) (fun _ _ => rfl)))
      (pss_cons (ps_setLc (i := 8) (own := [("side", 7)]) (g := gName 7) (tt := tYes) rfl nd rfl rfl (sw_true rfl rfl rfl (by decide +kernel)) (pi_list (pv 0)) (blkOk_by (N := ["sides", "start", "runs", "numbers", "here", "many", "run", "side", "places", "number", "place", "fitting"]) (sc := defScope s_way) (by decide +kernel)) (fun _ _ _ _ _ => pg_name (i := 7) nd rfl (Or.inl rfl)) (fun _ _ _ _ _ => pts_nil) (fun _ _ _ _ _ => (pcl Wr hr (by decide) (by rfl) (pa_cons (pv 7) (pa_cons (pv 4) pa_nil)))))
      (pss_cons (ps_setLc (i := 11) (own := [("number", 9), ("place", 10)]) (g := (gTup K 2 (gCons (gName 9) (gCons (gName 10) gNil)))) rfl nd rfl rfl (sw_true rfl rfl rfl (by decide +kernel)) (pi_enum (by rfl) hen (pa_cons (pv 8) pa_nil)) (blkOk_by (N := ["sides", "start", "runs", "numbers", "here", "many", "run", "side", "places", "number", "place", "fitting"]) (sc := defScope s_way) (by decide +kernel)) (fun _ _ _ _ _ => pg_tup (by rfl) (pgs_cons (pg_name (i := 9) nd rfl (Or.inl rfl)) (pgs_cons (pg_name (i := 10) nd rfl (Or.inl rfl)) pgs_nil))) (fun _ _ _ _ _ => (pts_one (pt_val (pcl Ho hr (by decide) (by rfl) (pa_cons (pv 6) (pa_cons (pv 10) pa_nil)))))) (fun _ _ _ _ _ => (pv 9)))
      (pss_cons (ps_expr (pe_bm PySem.F.plainAttrs_list PySem.F.slot_list_append PySem.F.type_list_append mt_append (pv 3) (pa_cons (pe_ix ix_list (pv 11) pe_int (fun _ _ => rfl)) pa_nil)))
      (pss_one (ps_set (i := 4) nd rfl (Or.inr rfl) (pe_ix ix_list (pv 8) (pe_ix ix_list (pv 11) pe_int (fun _ _ => rfl)) (fun _ _ => rfl)))))))))
      (pss_one (ps_ret (pv 3)))))), ?_⟩
    walk_at "rd"
    refine ⟨(by show 0 ≤ sizeLine; decide), fun nl nnl => ?_⟩
    have wn : Same H (upd H nl (.lst [])) := fun b u z => (upd_ne (ne_of_none z nnl)).trans z
    have gn : upd H nl (.lst []) nl = some (.lst (([] : List Nat).map natV)) := upd_same
    generalize upd H nl (.lst []) = H1 at wn gn ⊢
    walk_at "rd"
    refine ⟨q, _, rfl, .inl (SqL.of (wn _ _ hq)), ?_⟩
    rw [List.length_map, lp]
    refine ⟨_, rfl, by omega, by omega, ?_⟩
    rw [Int.toNat_natCast]
    refine for_range (n := m) (fun i st H' => ∃ (k' : Nat) (x : Int) (pre : List Nat) (x5 x6 x7 x8 x9 x10 x11 : Option V), st = [some (.ref l), some (.int s), some (.ref q), some (.ref nl), some (.int x), x5, x6, x7, x8, x9, x10, x11] ∧ m = i + k' ∧ WayOk v ns ss k' x ∧ wayF v ns ss m s = pre ++ wayF v ns ss k' x ∧ pre.length = i ∧ H' nl = some (.lst (pre.map natV)) ∧ Same H H' ∧ (-2 ^ 600 < x ∧ x < 2 ^ 600))
      ⟨m, s, [], none, none, none, none, none, none, none, rfl, by omega, ok, rfl, rfl, gn, wn, by omega⟩ ?_ ?_
    · rintro i st H' hi ⟨k', x, pre, x5, x6, x7, x8, x9, x10, x11, rfl, mk, ok', wf, lpre, gnl, sm, xb⟩
      obtain ⟨k1, rfl⟩ : ∃ k1, k' = k1 + 1 := ⟨k' - 1, by omega⟩
      obtain ⟨ex, ok2⟩ := ok'
      obtain ⟨tl, fl, fi, fr⟩ := fit_ok ex
      walk_at "rd"
      refine ⟨q, _, rfl, .inl (SqL.of (sm _ _ hq)), ?_⟩
      obtain ⟨p1, e1⟩ : ∃ p1, ps[k1]? = some p1 := ⟨ps[k1]'(by omega), List.getElem?_eq_getElem (by omega)⟩
      have hp1 := ap k1 p1 e1
      have at1 : atI (ps.map V.ref) ((((ps.map V.ref).length : Nat) : Int) - 1 - (0 + (i : Int))) = some (V.ref p1) := by
        have e : (((ps.map V.ref).length : Nat) : Int) - 1 - (0 + (i : Int)) = (k1 : Int) := by rw [List.length_map, lp]; omega
        rw [e]
        unfold atI
        rw [ixN_in (by omega) (by rw [List.length_map, lp]; omega), Int.toNat_natCast]
        show (ps.map V.ref)[k1]? = some (V.ref p1)
        rw [List.getElem?_map, e1]
        rfl
      walk_at "rd"
      refine ⟨q, _, _, _, rfl, rfl, SqL.of (sm _ _ hq), at1, ?_⟩
      walk_at "rd"
      refine ⟨⟨_, SqL.of (SS.same sm).hl⟩, fun D nD => ?_⟩
      refine lc_list (K := K) (a := l) (xs := xs) (fun j H3 => H3 D = some (.lst ((ss.take j).map fun d => V.int (wD d x))) ∧ Same H' H3) ⟨upd_same, fun b u z => (upd_ne (ne_of_none z nD)).trans z⟩ (fun _ _ _ ⟨_, s3⟩ => SqL.of ((SS.same sm).same s3).hl) ?_ ?_
      · rintro j y H3 hy ⟨hD, s3⟩
        obtain ⟨d, p2, ed, rfl, hp2, sp2⟩ := (SS.same (sm.trans s3)).item hy
        refine ⟨rfl, ?_⟩
        walk_at "rd"
        have xB : Bd x := ⟨Int.lt_trans (by decide) xb.1, Int.lt_trans xb.2 (by decide)⟩
        refine ⟨p2, d.o, d.s, d.m, x, rfl, hp2, sp2, xB, fun H4 s4 => ?_⟩
        refine ⟨_, s4 _ _ hD, ?_, ?_, fun b u z => (upd_ne (ne_of_none z nD)).trans (s4 _ _ (s3 _ _ z))⟩
        · rw [List.length_map, List.length_take]
          exact Nat.lt_of_le_of_lt (Nat.le_trans (Nat.min_le_right _ _) SS.l4) (by decide)
        · rw [List.take_succ, ed, List.map_append]
          exact upd_same
      rintro H2 ⟨hD, s2⟩
      rw [SS.len, List.take_length] at hD
      walk_at "rd"
      refine ⟨D, _, rfl, SqL.of hD, fun D2 nD2 => ?_⟩
      refine lc_it (walk_enum (K := K) (a := D) (xs := ss.map fun d => V.int (wD d x))) (fun j H3 => H3 D2 = some (.lst (((List.range j).filter fun t => decide (inR v ns (wD (ss.getD t sd0) x) k1)).map natV)) ∧ Same H2 H3) ⟨upd_same, fun b u z => (upd_ne (ne_of_none z nD2)).trans z⟩ (fun _ _ _ ⟨_, s3⟩ => SqL.of (s3 _ _ hD)) ?_ ?_
      · rintro j y H3 H4 hj ⟨hD2, s3⟩ ⟨T, z1, z2, rfl, nT, rfl, e1, e2⟩
        cases e1
        obtain ⟨d, ed, rfl⟩ : ∃ d, ss[j]? = some d ∧ z2 = V.int (wD d x) := by
          have e3 : (ss.map fun d => V.int (wD d x))[j]? = some z2 := e2
          rw [List.getElem?_map] at e3
          obtain ⟨d, a, b⟩ := Option.map_eq_some_iff.mp e3
          exact ⟨d, a, b.symm⟩
        have wT : Same H3 (upd H3 T (.tup [.int (j : Nat), .int (wD d x)])) := fun b u z => (upd_ne (ne_of_none z nT)).trans z
        refine ⟨T, _, rfl, SqT.of upd_same, rfl, _, _, rfl, _, _, rfl, rfl, ?_⟩
        generalize upd H3 T (.tup [.int (j : Nat), .int (wD d x)]) = H4 at wT ⊢
        refine ⟨rfl, ?_⟩
        walk_at "rd"
        refine ⟨p1, some (v + (runN ns k1).1), some (v + (runN ns k1).2), wD d x, rfl, wT _ _ (s3 _ _ (s2 _ _ (sm _ _ hp1))), _, rfl, ?_⟩
        rw [holds_run]
        have gd : ss.getD j sd0 = d := by rw [List.getD_eq_getElem?_getD, ed]; rfl
        have fs : ((List.range (j + 1)).filter fun t => decide (inR v ns (wD (ss.getD t sd0) x) k1)) = ((List.range j).filter fun t => decide (inR v ns (wD (ss.getD t sd0) x) k1)) ++ (if decide (inR v ns (wD d x) k1) = true then [j] else []) := by
          rw [List.range_succ, List.filter_append, List.filter_cons, gd]
          rfl
        rw [fs]
        refine ite2 (fun z => ?_) (fun z => ?_)
        · walk_at "rd"
          refine ⟨_, wT _ _ hD2, ?_, ?_, fun b u y => (upd_ne (ne_of_none y nD2)).trans (wT _ _ (s3 _ _ y))⟩
          · rw [List.length_map]
            refine Nat.lt_of_le_of_lt (List.length_filter_le _ _) ?_
            rw [List.length_range]
            rw [List.length_map] at hj
            have := SS.l4
            exact Nat.lt_of_lt_of_le (by omega : j < 4) (by decide)
          · rw [if_pos z, List.map_append]
            exact upd_same
        · rw [if_neg z, List.append_nil]
          exact ⟨wT _ _ hD2, fun b u y => wT _ _ (s3 _ _ y)⟩
      rintro H3 ⟨hD2, s3⟩
      rw [List.length_map, show ((List.range ss.length).filter fun t => decide (inR v ns (wD (ss.getD t sd0) x) k1)) = fitL v ns ss x k1 from rfl, fl] at hD2
      walk_at "rd"
      have s13 : Same H' H3 := s2.trans s3
      refine ⟨.inl ⟨rfl, _, SqL.of (s13 _ _ gnl)⟩, ?_⟩
      walk_at "rd"
      refine ⟨D2, _, _, natV (fitI v ns ss x k1), rfl, rfl, SqL.of hD2, at_nat (k := 0) rfl, ?_⟩
      walk_at "rd"
      refine ⟨nl, _, _, rfl, rfl, s13 _ _ gnl, ?_, ?_⟩
      · rw [List.length_map]
        exact Nat.lt_of_lt_of_le (by omega : pre.length < 1001) (by decide)
      have n_D : D ≠ nl := fun e => by rw [e] at nD; rw [gnl] at nD; cases nD
      have n_D2 : D2 ≠ nl := fun e => by rw [e] at nD2; rw [s2 _ _ gnl] at nD2; cases nD2
      have keep : ∀ b u, H' b = some u → b ≠ nl → upd H3 nl (.lst (pre.map natV ++ [natV (fitI v ns ss x k1)])) b = some u := fun b u z ne => (upd_ne ne).trans (s13 _ _ z)
      have fD : upd H3 nl (.lst (pre.map natV ++ [natV (fitI v ns ss x k1)])) D = some (.lst (ss.map fun d => V.int (wD d x))) := (upd_ne n_D).trans (s3 _ _ hD)
      have fD2 : upd H3 nl (.lst (pre.map natV ++ [natV (fitI v ns ss x k1)])) D2 = some (.lst ((fitI v ns ss x k1 :: tl).map natV)) := (upd_ne n_D2).trans hD2
      have fnl : upd H3 nl (.lst (pre.map natV ++ [natV (fitI v ns ss x k1)])) nl = some (.lst ((pre ++ [fitI v ns ss x k1]).map natV)) := by rw [upd_same, List.map_append]; rfl
      have fsm : Same H (upd H3 nl (.lst (pre.map natV ++ [natV (fitI v ns ss x k1)]))) := fun b u z => keep b u (sm _ _ z) (ne_of_none z nnl)
      generalize upd H3 nl (.lst (pre.map natV ++ [natV (fitI v ns ss x k1)])) = H5 at fD fD2 fnl fsm ⊢
      walk_at "rd"
      refine ⟨D2, _, _, natV (fitI v ns ss x k1), rfl, rfl, SqL.of fD2, at_nat (k := 0) rfl, ?_⟩
      obtain ⟨dd, ed⟩ : ∃ dd, ss[fitI v ns ss x k1]? = some dd := ⟨_, List.getElem?_eq_getElem fi⟩
      have ws : wayS v ns ss x k1 = wD dd x := by
        unfold wayS
        rw [List.getD_eq_getElem?_getD, ed]
        rfl
      have atw : atI (ss.map fun d => V.int (wD d x)) ((fitI v ns ss x k1 : Nat) : Int) = some (.int (wayS v ns ss x k1)) := at_nat (by rw [List.getElem?_map, ed, ws]; rfl)
      refine ⟨D, _, _, _, rfl, rfl, SqL.of fD, atw, ?_⟩
      have rb := run_bd hns k1
      have kk : (k1 : Int) * 10 ^ 31 ≤ 1000 * 10 ^ 31 := Int.mul_le_mul_of_nonneg_right (by omega) (by decide)
      obtain ⟨r1, r2⟩ := fr
      refine ⟨k1, wayS v ns ss x k1, pre ++ [fitI v ns ss x k1], _, _, _, _, _, _, _, rfl, by omega, ok2, ?_, ?_, fnl, fsm, ?_⟩
      · rw [wf, List.append_assoc]
        rfl
      · rw [List.length_append, lpre]
        rfl
      · have v1 := vb.1
        have v2 := vb.2
        omega
    · rintro st H' ⟨k', x, pre, x5, x6, x7, x8, x9, x10, x11, rfl, mk, ok', wf, lpre, gnl, sm, xb⟩
      obtain rfl : k' = 0 := by omega
      walk_at "rd"
      refine k nl H' nnl sm ?_
      rw [wf, show wayF v ns ss 0 x = [] from rfl, List.append_nil]
      exact gnl
end
end HT
namespace HT
open PySem L2
theorem way_ok {v : Int} {ss : List Sd} (hss : ∀ d ∈ ss, SideP d.o d.s d.m) : ∀ (k : Nat) (x : Int), inR v (ss.map (movD (-v))) x k → (∀ j, j < k → ¬ inR v (ss.map (movD (-v))) x j) → WayOk v (ss.map (movD (-v))) ss k x
  | 0, _, _, _ => trivial
  | k + 1, x, h, no => by
    have ex := in_mov hss h (no k (Nat.lt_succ_self _))
    obtain ⟨t, fl, fi, fr⟩ := fit_ok ex
    refine ⟨ex, way_ok hss k _ fr fun j hj z => no (j + 1) (by omega) ?_⟩
    refine mov_in hss (d := ss.getD (fitI v (ss.map (movD (-v))) ss x k) sd0) ?_ z
    rw [List.getD_eq_getElem?_getD, List.getElem?_eq_getElem fi]
    exact List.getElem_mem fi
end HT
namespace HT
open PySem L2
theorem cut_nat (xs : List V) (k : Nat) : cutV xs none (some (k : Int)) = xs.take k := by
  have e2 : HT.sIx xs.length xs.length (some (k : Int)) = min k xs.length := HT.sIx_nat _ _ _
  unfold cutV
  rw [e2]
  show List.take (min k xs.length - 0) (xs.drop 0) = _
  rw [List.drop_zero, Nat.sub_zero]
  rcases Nat.le_total k xs.length with h | h
  · rw [Nat.min_eq_left h]
  · rw [Nat.min_eq_right h, List.take_of_length_le (Nat.le_refl _), List.take_of_length_le h]
def spRouG (C : Nat → Addr) : Sp := fun vs H Q E => ∃ (l : Addr) (xs : List V) (ss : List Sd) (s v : Int), vs = [.ref l, .int s, .int v] ∧ SidesAt H l xs ss ∧ (-2 ^ 500 < s ∧ s < 2 ^ 500) ∧ (-2 ^ 500 < v ∧ v < 2 ^ 500) ∧
  (∀ (n i : Nat) (r : Addr) (H' : Hp), RunsTo (ss.map (movD (-v))) n → i ≤ n → i ≤ 1000 → inR v (ss.map (movD (-v))) s i → (∀ j, j < i → ¬ inR v (ss.map (movD (-v))) s j) → H r = none → Same H H' → H' r = some (.lst ((wayF v (ss.map (movD (-v))) ss i s).map natV)) → Q (.ref r) H') ∧
  (∀ n, RunsTo (ss.map (movD (-v))) n → (∀ i, i ≤ n → i ≤ 1000 → ¬ inR v (ss.map (movD (-v))) s i) → ∀ H', Same H H' → (TooE (comN ss) (ss.map (movD (-v))) n → E (.ref (C 2)) none H') ∧ (¬ TooE (comN ss) (ss.map (movD (-v))) n → (holdsF (loE v (comN ss) (runN (ss.map (movD (-v))) n)) (hiE v (comN ss) (runN (ss.map (movD (-v))) n)) s = true → E (.ref (C 2)) none H') ∧ (holdsF (loE v (comN ss) (runN (ss.map (movD (-v))) n)) (hiE v (comN ss) (runN (ss.map (movD (-v))) n)) s = false → Q .non H')))
section
variable {P : Program} {w : World} {K : PySem.W.Frag} {mg : Str → Option Value} {base : Heap} {fB fC fV fN fW : Addr} {dB dC dV dN dW : FuncData} {C : Nat → Addr}
theorem ok_route {f : Addr} {fd : FuncData} (F : Fun K "route" "route" s_route f fd) (Ls : Cal P w K mg base "check_sides" 5 ["sides"] spSides fB dB) (Vl : Cal P w K mg base "check_value" 2 ["value"] spCheckValue fV dV) (Ru : Cal P w K mg base "_runs" 5 ["sides", "value"] spRuns fN dN)
    (Fw : CalX P w K mg base "_fewest" 4 ["sides", "start", "value", "runs"] (spFewX C) fC dC) (Wa : Cal P w K mg base "_way" 4 ["sides", "start", "runs"] spWay fW dW) : FnOk P w K mg base (L2.CX P w) 6 f fd ["sides", "start", "value"] (spRouG C) := by
  refine F.okAny sc_route (fun vs H Q E h => ?_) (fun cdv A outer s0 H vs Q E hr h => ?_)
  · obtain ⟨l, xs, ss, s, v, rfl, _⟩ := h
    rfl
  · obtain ⟨l, xs, ss, s, v, rfl, SS, sb, vb, k1, k2⟩ := h
    have nd := sc_route.nd
    refine ⟨_, (pss_cons (ps_expr (pcl Ls hr (by decide) (by rfl) (pa_cons (pv 0) pa_nil)))
      (pss_cons (ps_expr (pcl Vl hr (by decide) (by rfl) (pa_cons (pv 1) pa_nil)))
      (pss_cons (ps_expr (pcl Vl hr (by decide) (by rfl) (pa_cons (pv 2) pa_nil)))
      (pss_cons (ps_set (i := 3) nd rfl (Or.inl rfl) (pcl Ru hr (by decide) (by rfl) (pa_cons (pv 0) (pa_cons (pv 2) pa_nil))))
      (pss_cons (ps_set (i := 4) nd rfl (Or.inl rfl) (pcx Fw hr (by decide) (by rfl) (takes_of rfl rfl rfl rfl) (pa_cons (pv 0) (pa_cons (pv 1) (pa_cons (pv 2) (pa_cons (pv 3) pa_nil))))))
      (pss_cons (ps_if (pt_cmpR op_isN (pv 4) pe_non (nomark _)) (pss_one (ps_ret pe_non)) pss_nil)
      (pss_one (ps_ret (pcl Wa hr (by decide) (by rfl) (pa_cons (pv 0) (pa_cons (pv 1) (pa_cons (pe_slice sl_list (pv 3) po_none (po_some (pv 4))) pa_nil)))))))))))), ?_⟩
    walk_at "rd"
    refine ⟨l, xs, ss, rfl, SS, ?_⟩
    walk_at "rd"
    refine ⟨l, xs, ss, v, rfl, SS, vb, fun q1 n H1 nq s1 to RA => ?_⟩
    walk_at "rd"
    have hns : ∀ d ∈ ss.map (movD (-v)), SideP d.o d.s d.m := fun d hd => by
      obtain ⟨e, he, rfl⟩ := List.mem_map.mp hd
      exact side_mov _ (SS.side e he)
    refine ⟨l, q1, xs, ss, _, s, v, n, rfl, SS.same s1, to, RA, fun i a b c no H2 s2 => ?_, fun none_ H2 s2 => ?_⟩
    · walk_at "rd"
      refine ⟨rfl, ?_⟩
      walk_at "rd"
      obtain ⟨ps, hR, lp, ap⟩ := RA.same s2
      refine ⟨q1, _, rfl, SqL.of hR, fun cu ncu => ?_⟩
      generalize ee : upd H2 cu _ = H3
      have w1 : Same H2 H3 := by rw [← ee]; exact fun b u z => (upd_ne (ne_of_none z ncu)).trans z
      have g1 : H3 cu = some (.lst ((ps.take i).map V.ref)) := by
        rw [← ee, upd_same, cut_nat, List.map_take]
      clear ee
      refine ⟨l, cu, xs, ss, ss.map (movD (-v)), s, v, i, ps.take i, rfl, SS.same (s1.trans (s2.trans w1)), g1, by rw [List.length_take]; omega, b, fun j p e => ?_, hns, sb, vb, way_ok SS.side i s c no, fun r H4 nr s4 hr => ?_⟩
      · rw [List.getElem?_take] at e
        split at e
        · exact w1 _ _ (ap j p e)
        · cases e
      · exact k1 n i r H4 to a b c no ((s1.trans (s2.trans w1)).free nr) (s1.trans (s2.trans (w1.trans s4))) hr
    · obtain ⟨z1, z2⟩ := k2 n to none_ H2 (s1.trans s2)
      refine ⟨z1, fun nt => ⟨(z2 nt).1, fun hf => ?_⟩⟩
      walk_at "rd"
      refine ⟨rfl, ?_⟩
      walk_at "rd"
      exact (z2 nt).2 hf
end
end HT
namespace HT
open PySem L2
section
variable {P : Program} {w : World} {K : PySem.W.Frag} {mg : Str → Option Value} {base : Heap} {aM c0 fC fB fV fN fW fS : Addr} {dC dB dV dN dW dS : FuncData}
theorem ok_nums {f : Addr} {fd : FuncData} (F : Fun K "_check_numbers" "_check_numbers" s_check_numbers f fd) (A' : AmG mg) (hMH : ∃ t, mg "MOST_HANDOVERS" = some (.int 1000 t)) (Bt : Cal P w K mg base "is_int_between" 2 ["thing", "least", "most"] spBetween fB dB) : FnOk P w K mg base CX0 3 f fd ["numbers", "many"] spNums := by
  refine F.ok sc_check_numbers (fun vs H Q E h => ?_) (fun cdv A outer s0 H vs Q E hr h => ?_)
  · obtain ⟨kl, ks, n, rfl, _⟩ := h
    rfl
  · obtain ⟨kl, ks, n, rfl, hk, kn, kb, q⟩ := h
    have nd := sc_check_numbers.nd
    obtain ⟨tmh, hmh⟩ := hMH
    refine ⟨_, pss_cons (ps_if (PW.pt (pw_or (pt_not (pt_val (pe_callB call_isi (by rfl) A'.isi (by decide +kernel) (pa_cons (pv 0) (pa_cons (pe_bltn (v := .ty "list") (by rfl) A'.list (by decide +kernel) rfl) pa_nil)))))
        (pw_or1 (pt_cmpR op_gt (pe_callB call_len_seq (by rfl) A'.len PySem.boot_len (pa_cons (pv 0) pa_nil)) (pe_glob (v := .int 1000) (by rfl) hmh ⟨_, rfl⟩) (nomark _))))) (pss_one ps_never) pss_nil)
      (pss_one (ps_for PassesOwn.never rfl (pi_list (pv 0)) (pg_name (i := 2) nd rfl (Or.inl rfl))
        (pss_one (ps_if (pt_not (pt_val (pcl Bt hr (by decide) (by rfl) (pa_cons (pv 2) (pa_cons pe_int (pa_cons (pe_op op_sub (pv 1) pe_int) pa_nil)))))) (pss_one ps_never) pss_nil)))), ?_⟩
    walk_at "rd"
    refine ⟨_, _, _, _, _, rfl, .ty "list", .base (.lst hk), kit_ty (r := true) (by decide +kernel), ?_⟩
    walk_at "rd"
    refine ⟨kl, _, rfl, .inl (SqL.of hk), ?_⟩
    walk_at "rd"
    refine ite2 (fun z => ?_) (fun _ => ?_)
    · exfalso
      have := of_decide_eq_true z
      rw [List.length_map] at this
      omega
    walk_at "rd"
    refine ⟨⟨_, SqL.of hk⟩, ?_⟩
    refine for_list (K := K) (a := kl) (xs := ks.map nV) (fun i σ H' => ∃ y : Option V, σ = [some (.ref kl), some (.int (n : Int)), y] ∧ H' = H) ⟨none, rfl, rfl⟩ (fun _ _ _ _ ⟨_, _, e⟩ => e ▸ SqL.of hk) ?_ ?_
    · rintro i y σ H' hy ⟨z, rfl, rfl⟩
      obtain ⟨k, hkk, rfl⟩ : ∃ k, ks[i]? = some k ∧ y = nV k := by
        rw [List.getElem?_map] at hy
        cases e : ks[i]? with
        | none => rw [e] at hy; cases hy
        | some k => rw [e] at hy; exact ⟨k, rfl, (Option.some.inj hy).symm⟩
      have kl' := kb k (List.mem_of_getElem? hkk)
      walk_at "rd"
      refine ⟨_, _, _, rfl, _, rfl, ?_⟩
      refine ite2 (fun z => ?_) (fun _ => ?_)
      · exfalso
        refine not_t z ?_
        rw [decide_eq_true (by omega), decide_eq_true (by omega)]
        rfl
      exact ⟨_, rfl, rfl⟩
    · rintro σ H' ⟨z, rfl, rfl⟩
      exact q
end
end HT
namespace HT
open PySem L2
theorem walk_len {ss : List Sd} {v : Int} : ∀ (o : List Nat) (a : List Int × Int), (o.foldl (stepW ss) a).1.length = a.1.length + o.length
  | [], a => rfl
  | k :: o, a => by
    have e : (stepW ss a k).1.length = a.1.length + 1 := by
      unfold stepW
      split <;> simp
    rw [List.foldl_cons, walk_len (v := v) o (stepW ss a k), e, List.length_cons]
    omega
section
variable {P : Program} {w : World} {K : PySem.W.Frag} {mg : Str → Option Value} {base : Heap} {fL fV fN fW : Addr} {dL dV dN dW : FuncData}
theorem ok_along {f : Addr} {fd : FuncData} (F : Fun K "along" "along" s_along f fd) (A' : AmG mg) (Ls : Cal P w K mg base "check_sides" 5 ["sides"] spSides fL dL) (Nm : Cal P w K mg base "_check_numbers" 3 ["numbers", "many"] spNums fN dN)
    (Vl : Cal P w K mg base "check_value" 2 ["value"] spCheckValue fV dV) (Wr : Cal P w K mg base "written" 3 ["side", "value"] spDue fW dW) : FnOk P w K mg base CX0 6 f fd ["sides", "numbers", "value"] spAlong := by
  refine F.ok sc_along (fun vs H Q E h => ?_) (fun cdv A outer s0 H vs Q E hr h => ?_)
  · obtain ⟨l, xs, ss, kl, ks, v, rfl, _⟩ := h
    rfl
  · obtain ⟨l, xs, ss, kl, ks, v, rfl, SS, hk, kn, kb, vb, q⟩ := h
    have nd := sc_along.nd
    refine ⟨_, pss_cons (ps_expr (pcl Ls hr (by decide) (by rfl) (pa_cons (pv 0) pa_nil)))
      (pss_cons (ps_expr (pcl Nm hr (by decide) (by rfl) (pa_cons (pv 1) (pa_cons (pe_callB call_len_seq (by rfl) A'.len PySem.boot_len (pa_cons (pv 0) pa_nil)) pa_nil))))
      (pss_cons (ps_expr (pcl Vl hr (by decide) (by rfl) (pa_cons (pv 2) pa_nil)))
      (pss_cons (ps_set (i := 3) nd rfl (Or.inl rfl) (pe_lst pa_nil))
      (pss_cons (ps_set (i := 4) nd rfl (Or.inl rfl) (pv 2))
      (pss_cons (ps_for PassesOwn.never rfl (pi_list (pv 1)) (pg_name (i := 5) nd rfl (Or.inl rfl))
        (pss_cons (ps_set (i := 4) nd rfl (Or.inl rfl) (pcl Wr hr (by decide) (by rfl) (pa_cons (pe_ix ix_list (pv 0) (pv 5) (fun _ _ => rfl)) (pa_cons (pv 4) pa_nil))))
        (pss_one (ps_expr (pe_bm PySem.F.plainAttrs_list PySem.F.slot_list_append PySem.F.type_list_append mt_append (pv 3) (pa_cons (pv 4) pa_nil))))))
      (pss_one (ps_ret (pv 3)))))))), ?_⟩
    walk_at "rd"
    refine ⟨l, xs, ss, rfl, SS, ?_⟩
    walk_at "rd"
    refine ⟨l, _, rfl, .inl (SqL.of SS.hl), ?_⟩
    refine ⟨kl, ks, ss.length, (by show [V.ref kl, V.int (xs.length : Int)] = _; rw [SS.len]), hk, kn, kb, ?_⟩
    walk_at "rd"
    refine ⟨(by show 0 ≤ sizeLine; decide), fun d nd1 => ?_⟩
    have hd : upd H d (.lst []) d = some (.lst []) := upd_same
    have s1 : Same H (upd H d (.lst [])) := fun b u z => (upd_ne (ne_of_none z nd1)).trans z
    walk_at "rd"
    refine ⟨⟨_, SqL.of (s1 _ _ hk)⟩, ?_⟩
    refine for_list (K := K) (a := kl) (xs := ks.map nV) (fun j st H' => ∃ x5 : Option V, st = [some (.ref l), some (.ref kl), some (.int v), some (.ref d), some (.int (walkW ss (ks.take j) v).2), x5] ∧ H' d = some (.lst ((walkW ss (ks.take j) v).1.map V.int)) ∧ Same H H' ∧ (-(2 ^ 200 + 10 ^ 30 * (j : Int)) < (walkW ss (ks.take j) v).2 ∧ (walkW ss (ks.take j) v).2 < 2 ^ 200 + 10 ^ 30 * (j : Int)) ∧ j ≤ ks.length)
      ⟨none, rfl, hd, s1, (by show -(2 ^ 200 + 10 ^ 30 * ((0 : Nat) : Int)) < v ∧ v < 2 ^ 200 + 10 ^ 30 * ((0 : Nat) : Int); omega), Nat.zero_le _⟩ (fun _ _ _ _ ⟨_, _, _, s, _⟩ => SqL.of (s _ _ hk)) ?_ ?_
    · rintro j y st H' hy ⟨x5, rfl, hdj, sm, bd, hj⟩
      obtain ⟨k, hkk, rfl⟩ : ∃ k, ks[j]? = some k ∧ y = nV k := by
        rw [List.getElem?_map] at hy
        cases e : ks[j]? with
        | none => rw [e] at hy; cases hy
        | some k => rw [e] at hy; exact ⟨k, rfl, (Option.some.inj hy).symm⟩
      have jl : j < ks.length := (List.getElem?_eq_some_iff.mp hkk).1
      have kl' := kb k (List.mem_of_getElem? hkk)
      have S2 := SS.same sm
      obtain ⟨p, ep, hp, sp⟩ := S2.at_ k ss[k] (List.getElem?_eq_getElem kl')
      have en : atI xs ((k : Nat) : Int) = some (.ref p) := by
        unfold atI
        rw [ixN_in (by omega) (by rw [SS.len]; omega)]
        exact ep
      walk_at "rd"
      refine ⟨l, _, _, _, rfl, rfl, SqL.of S2.hl, en, ?_⟩
      walk_at "rd"
      refine ⟨p, ss[k].o, ss[k].s, ss[k].m, _, rfl, hp, sp, (by unfold Bd; omega), fun H3 s3 => ?_⟩
      walk_at "rd"
      have hd2 := s3 _ _ hdj
      refine ⟨.inl ⟨rfl, _, SqL.of hd2⟩, ?_⟩
      walk_at "rd"
      have wl : (walkW ss (ks.take j) v).1.length = j := by
        unfold walkW
        rw [walk_len (v := v), List.length_take]
        show 0 + min j ks.length = j
        omega
      refine ⟨d, _, _, rfl, rfl, hd2, (by rw [List.length_map, wl]; exact Nat.lt_of_lt_of_le (by omega : j < 1000) (by decide)), ?_⟩
      have far := due_far (v := (walkW ss (ks.take j) v).2) sp bd
      have ws : walkW ss (ks.take (j + 1)) v = ((walkW ss (ks.take j) v).1 ++ [dueM ss[k].o ss[k].s ss[k].m (walkW ss (ks.take j) v).2], dueM ss[k].o ss[k].s ss[k].m (walkW ss (ks.take j) v).2) := by
        rw [walk_snoc hkk]
        unfold stepW
        rw [List.getElem?_eq_getElem kl']
      rw [ws]
      refine ⟨_, rfl, ?_, fun b u z => (upd_ne (ne_of_none z nd1)).trans (s3 _ _ (sm _ _ z)), ?_, jl⟩
      · rw [List.map_append]; exact upd_same
      · show -(2 ^ 200 + 10 ^ 30 * ((j + 1 : Nat) : Int)) < dueM ss[k].o ss[k].s ss[k].m (walkW ss (ks.take j) v).2 ∧ _ < 2 ^ 200 + 10 ^ 30 * ((j + 1 : Nat) : Int)
        omega
    · rintro st H' ⟨x5, rfl, hdj, sm, bd, hj⟩
      rw [List.length_map, List.take_length] at hdj
      walk_at "rd"
      exact q d H' nd1 sm hdj
end
end HT
namespace HT
open PySem L2
theorem cR_mono {ss : List Sd} (hss : ∀ d ∈ ss, SideP d.o d.s d.m) {v N : Int} (hN : ∀ d ∈ ss, d.s ≤ N) (N0 : 0 ≤ N) (k : Nat) : ∀ m, (cR v N ss (k + m)).1 ≤ (cR v N ss k).1 ∧ (cR v N ss k).2 ≤ (cR v N ss (k + m)).2
  | 0 => ⟨Int.le_refl _, Int.le_refl _⟩
  | m + 1 => by
    have ih := cR_mono hss hN N0 (v := v) k m
    obtain ⟨c1, c2⟩ := cR_v hss hN N0 (v := v) (k + m)
    have w := wid_in (ns := ss) (r := cR v N ss (k + m)) (cR v N ss (k + m))
    have w1 : (widF ss (cR v N ss (k + m))).1 ≤ (cR v N ss (k + m)).1 := w.1
    have w2 : (cR v N ss (k + m)).2 ≤ (widF ss (cR v N ss (k + m))).2 := w.2.1
    have hw : (widF ss (cR v N ss (k + m))).1 ≤ v ∧ v ≤ (widF ss (cR v N ss (k + m))).2 := by omega
    have m1 := (clA_mem N0 hw (y := (cR v N ss (k + m)).1)).mpr (by omega)
    have m2 := (clA_mem N0 hw (y := (cR v N ss (k + m)).2)).mpr (by omega)
    have e : cR v N ss (k + (m + 1)) = clA v N (widF ss (cR v N ss (k + m))) := rfl
    rw [e]
    omega
end HT
namespace HT
open PySem L2
theorem first_of {p : Nat → Prop} : ∀ n, p n → ∃ i, i ≤ n ∧ p i ∧ ∀ j, j < i → ¬ p j := fun n => by
  induction n using Nat.strongRecOn with
  | _ n ih =>
    intro h
    by_cases e : ∃ j, j < n ∧ p j
    · obtain ⟨j, hj, hp⟩ := e
      obtain ⟨i, a, b, c⟩ := ih j hj hp
      exact ⟨i, by omega, b, c⟩
    · exact ⟨n, Nat.le_refl _, h, fun j hj hp => e ⟨j, hj, hp⟩⟩
def holdsC (v N : Int) (c : Int × Int) (s : Int) : Bool := holdsF (if c.1 = v - N then none else some c.1) (if c.2 = v + N then none else some c.2) s
theorem holdsC_eq (v N : Int) (r : Int × Int) (s : Int) : holdsF (loE v N r) (hiE v N r) s = holdsC v N (shV v (clipN N r)) s := by
  unfold holdsC loE hiE shV
  simp only
  have e1 : ((clipN N r).1 = -N) ↔ (v + (clipN N r).1 = v - N) := by omega
  have e2 : ((clipN N r).2 = N) ↔ (v + (clipN N r).2 = v + N) := by omega
  by_cases c1 : (clipN N r).1 = -N <;> by_cases c2 : (clipN N r).2 = N
  · rw [if_pos c1, if_pos c2, if_pos (e1.mp c1), if_pos (e2.mp c2)]
  · rw [if_pos c1, if_neg c2, if_pos (e1.mp c1), if_neg (fun z => c2 (e2.mpr z))]
  · rw [if_neg c1, if_pos c2, if_neg (fun z => c1 (e1.mpr z)), if_pos (e2.mp c2)]
  · rw [if_neg c1, if_neg c2, if_neg (fun z => c1 (e1.mpr z)), if_neg (fun z => c2 (e2.mpr z))]
abbrev inA (v : Int) (ss : List Sd) (s : Int) (k : Nat) : Prop := inR v (ss.map (movD (-v))) s k
theorem in_aR {v s : Int} {ss : List Sd} {k : Nat} : inA v ss s k ↔ (aR v ss k).1 ≤ s ∧ s ≤ (aR v ss k).2 := Iff.rfl
theorem run_stopK {ns : List Sd} {n : Nat} (h : runN ns (n + 1) = runN ns n) : ∀ k, runN ns (n + k) = runN ns n
  | 0 => rfl
  | k + 1 => by
    show widF ns (runN ns (n + k)) = _
    rw [run_stopK h k]
    exact h
theorem in_zero {v x : Int} {ss : List Sd} (h : inA v ss x 0) : x = v := by
  unfold inA inR at h
  have e : runN (ss.map (movD (-v))) 0 = (0, 0) := rfl
  rw [e] at h
  omega
theorem in_self (v : Int) (ss : List Sd) (k : Nat) : inA v ss v k := by
  have := run_mono (ns := ss.map (movD (-v))) (Nat.zero_le k)
  unfold inA inR
  rw [show runN (ss.map (movD (-v))) 0 = (0, 0) from rfl] at this
  simp only at this
  omega
theorem in_mono {v x : Int} {ss : List Sd} {j k : Nat} (h : inA v ss x j) (jk : j ≤ k) : inA v ss x k := by
  have := run_mono (ns := ss.map (movD (-v))) jk
  unfold inA inR at *
  omega
theorem cR_two {v N : Int} {ss : List Sd} {i j : Nat} (hi : cR v N ss (i + 1) = cR v N ss i) (hj : cR v N ss (j + 1) = cR v N ss j) : cR v N ss i = cR v N ss j := by
  rcases Nat.le_total i j with h | h
  · have := cR_stop hi (j - i)
    rw [show i + (j - i) = j by omega] at this
    exact this.symm
  · have := cR_stop hj (i - j)
    rw [show j + (i - j) = i by omega] at this
    exact this
/-! ### there and there again -/
theorem in_trans {ss : List Sd} (hss : ∀ d ∈ ss, SideP d.o d.s d.m) {v u : Int} {i : Nat} (hi : inA v ss u i) : ∀ (j : Nat) (s : Int), inA u ss s j → inA v ss s (i + j)
  | 0, s, h => by rw [in_zero h]; exact hi
  | j + 1, s, h => by
    by_cases z : inA u ss s j
    · exact in_mono (in_trans hss hi j s z) (Nat.le_succ _)
    · obtain ⟨d, hd, q⟩ := in_mov hss h z
      exact mov_in hss hd (in_trans hss hi j _ q)
theorem due_back {d : Sd} (S : SideP d.o d.s d.m) {N : Int} (hN : perM d.s d.m ∣ N) (x : Int) : wD d (x + N) = wD d x + N := by
  obtain ⟨q, rfl⟩ := hN
  have key : ∀ j : Int, (d.m ≠ "half_even" ∨ j % 2 = 0) → perM d.s d.m * q = -(d.s * j) → wD d (x + perM d.s d.m * q) = wD d x + perM d.s d.m * q := fun j hj e => by
    have t := due_tr (o := d.o + d.s * j) (s := d.s) (m := d.m) (v := x) (t := perM d.s d.m * q)
    rw [due_shift S.md S.s0 hj] at t
    have eo : d.o + d.s * j + perM d.s d.m * q = d.o := by omega
    rw [eo] at t
    exact t
  by_cases he : d.m = "half_even"
  · refine key (-(2 * q)) (.inr (by omega)) ?_
    have : perM d.s d.m = 2 * d.s := by unfold perM; rw [if_pos he]
    rw [this, Int.mul_neg, Int.neg_neg, Int.mul_comm 2 d.s, Int.mul_assoc]
  · refine key (-q) (.inl he) ?_
    have : perM d.s d.m = d.s := by unfold perM; rw [if_neg he]
    rw [this, Int.mul_neg, Int.neg_neg]
theorem per_dvd {ss : List Sd} (hss : ∀ d ∈ ss, SideP d.o d.s d.m) {d : Sd} (hd : d ∈ ss) (k : Int) : perM d.s d.m ∣ (comN ss : Int) * k := by
  have e := perN_eq (hss d hd)
  have h := (com_dvd ss 1).2 d hd
  refine Int.dvd_mul_of_dvd_left ?_
  rw [← e]
  exact Int.natCast_dvd_natCast.mpr h
theorem in_per {ss : List Sd} (hss : ∀ d ∈ ss, SideP d.o d.s d.m) {v : Int} (k : Int) : ∀ (j : Nat) (s : Int), inA v ss s j → inA (v + (comN ss : Int) * k) ss (s + (comN ss : Int) * k) j
  | 0, s, h => by rw [in_zero h]; exact in_self _ _ _
  | j + 1, s, h => by
    by_cases z : inA v ss s j
    · exact in_mono (in_per hss k j s z) (Nat.le_succ _)
    · obtain ⟨d, hd, q⟩ := in_mov hss h z
      have := in_per hss k j _ q
      rw [← due_back (hss d hd) (per_dvd hss hd k)] at this
      exact mov_in hss hd this
/-- a run at rest does not reach a period away -/
theorem rest_near {ss : List Sd} (hss : ∀ d ∈ ss, SideP d.o d.s d.m) {v : Int} {j : Nat} (h : aR v ss (j + 1) = aR v ss j) : v - (comN ss : Int) < (aR v ss j).1 ∧ (aR v ss j).2 < v + (comN ss : Int) := by
  have cp : 0 < comN ss := com_pos ss 1 (by decide) hss
  have hr : runN (ss.map (movD (-v))) (j + 1) = runN (ss.map (movD (-v))) j := sh_inj h
  have still : ∀ s i, inA v ss s (j + i) → inA v ss s j := fun s i q => by
    unfold inA inR at *
    rw [run_stopK hr] at q
    exact q
  have vin := in_self v ss j
  have down : ∀ e : Int, inA v ss (v + (comN ss : Int) * e) j → ∀ k : Nat, inA v ss (v + (comN ss : Int) * (e * (k + 1))) j := fun e h0 k => by
    induction k with
    | zero => rw [Int.natCast_zero, Int.zero_add, Int.mul_one]; exact h0
    | succ k ih =>
      have p := in_per hss e j _ ih
      have t := in_trans hss h0 j _ p
      have := still _ _ t
      rw [show v + (comN ss : Int) * (e * ((k + 1 : Nat) + 1)) = v + (comN ss : Int) * (e * (k + 1)) + (comN ss : Int) * e by
        rw [show (((k + 1 : Nat) : Int) + 1) = ((k : Int) + 1) + 1 by omega, Int.mul_add e ((k : Int) + 1) 1, Int.mul_one, Int.mul_add (comN ss : Int) (e * ((k : Int) + 1)) e, Int.add_assoc]]
      exact this
  have lower : ∀ k : Nat, ((k : Int) + 1) ≤ (comN ss : Int) * ((k : Int) + 1) := fun k => by
    have := Int.mul_le_mul_of_nonneg_right (show (1 : Int) ≤ (comN ss : Int) by omega) (show (0 : Int) ≤ (k : Int) + 1 by omega)
    rwa [Int.one_mul] at this
  refine ⟨?_, ?_⟩
  · refine Int.not_le.mp fun z => ?_
    have h0 : inA v ss (v + (comN ss : Int) * (-1)) j := by
      rw [in_aR] at vin ⊢
      omega
    have q := down (-1) h0 (v - (aR v ss j).1).toNat
    rw [in_aR] at q vin
    have l := lower (v - (aR v ss j).1).toNat
    rw [Int.neg_one_mul, Int.mul_neg] at q
    omega
  · refine Int.not_le.mp fun z => ?_
    have h0 : inA v ss (v + (comN ss : Int) * 1) j := by
      rw [in_aR] at vin ⊢
      omega
    have q := down 1 h0 ((aR v ss j).2 - v).toNat
    rw [in_aR] at q vin
    have l := lower ((aR v ss j).2 - v).toNat
    rw [Int.one_mul] at q
    omega
/-! ### what before comes to, and what is told of it -/
open Classical in
/-- the run at rest within the window; none: 'many' -/
noncomputable def befO (v : Int) (ss : List Sd) : Option (Int × Int) := if h : ∃ j, j ≤ 1000 ∧ cR v (comN ss) ss (j + 1) = cR v (comN ss) ss j then some (cR v (comN ss) ss h.choose) else none
theorem befO_some {v : Int} {ss : List Sd} {j : Nat} (hj : j ≤ 1000) (e : cR v (comN ss) ss (j + 1) = cR v (comN ss) ss j) : befO v ss = some (cR v (comN ss) ss j) := by
  have h : ∃ j, j ≤ 1000 ∧ cR v (comN ss) ss (j + 1) = cR v (comN ss) ss j := ⟨j, hj, e⟩
  unfold befO
  rw [dif_pos h]
  exact congrArg some (cR_two h.choose_spec.2 e)
theorem befO_none {v : Int} {ss : List Sd} (h : ∀ j, j ≤ 1000 → cR v (comN ss) ss (j + 1) ≠ cR v (comN ss) ss j) : befO v ss = none := by
  unfold befO
  exact dif_neg fun ⟨j, a, b⟩ => h j a b
/-- whether a value comes to v; none: 'many' -/
noncomputable def comeO (v s : Int) (ss : List Sd) : Option Bool := if s = v then some true else (befO v ss).map fun c => holdsC v (comN ss) c s
open Classical in
/-- by how few hand-overs; none: 'many' -/
noncomputable def cntO (v s : Int) (ss : List Sd) : Option (Option Nat) := if h : ∃ i, i ≤ 1000 ∧ inA v ss s i ∧ ∀ j, j < i → ¬ inA v ss s j then some (some h.choose) else
  match befO v ss with
  | none => none
  | some c => if holdsC v (comN ss) c s = true then none else some none
theorem cnt_some {v s : Int} {ss : List Sd} {i : Nat} (hi : i ≤ 1000) (hin : inA v ss s i) (no : ∀ j, j < i → ¬ inA v ss s j) : cntO v s ss = some (some i) := by
  have h : ∃ i, i ≤ 1000 ∧ inA v ss s i ∧ ∀ j, j < i → ¬ inA v ss s j := ⟨i, hi, hin, no⟩
  unfold cntO
  rw [dif_pos h]
  obtain ⟨_, b, c⟩ := h.choose_spec
  congr 2
  rcases Nat.lt_trichotomy h.choose i with z | z | z
  · exact absurd b (no _ z)
  · exact z
  · exact absurd hin (c i z)
theorem cnt_else {v s : Int} {ss : List Sd} (no : ∀ i, i ≤ 1000 → ¬ inA v ss s i) : cntO v s ss = match befO v ss with
  | none => none
  | some c => if holdsC v (comN ss) c s = true then none else some none := by
  unfold cntO
  exact dif_neg fun ⟨i, a, b, _⟩ => no i a b
/-- the run has come to rest, and the value is not in it -/
theorem cnt_rest {ss : List Sd} (hss : ∀ d ∈ ss, SideP d.o d.s d.m) {v s : Int} {j : Nat} (hj : j ≤ 1000) (h : aR v ss (j + 1) = aR v ss j) (no : ¬ inA v ss s j) : cntO v s ss = some none := by
  have cs := com_s hss
  have N0 : (0 : Int) ≤ (comN ss : Int) := Int.natCast_nonneg _
  have hr : runN (ss.map (movD (-v))) (j + 1) = runN (ss.map (movD (-v))) j := sh_inj h
  have all : ∀ i, i ≤ 1000 → ¬ inA v ss s i := fun i _ q => by
    rcases Nat.le_total i j with z | z
    · exact no (in_mono q z)
    · refine no ?_
      unfold inA inR at *
      rw [show i = j + (i - j) by omega, run_stopK hr] at q
      exact q
  have ec : cR v (comN ss) ss j = clA v (comN ss) (aR v ss j) := cR_eq hss cs N0 j
  have e2 : cR v (comN ss) ss (j + 1) = cR v (comN ss) ss j := by rw [cR_eq hss cs N0 (j + 1), ec, h]
  rw [cnt_else all, befO_some hj e2]
  have near := rest_near hss h
  have cl : clA v (comN ss) (aR v ss j) = aR v ss j := by
    unfold clA
    rw [if_neg (by omega), if_neg (by omega)]
  have hf : holdsC v (comN ss) (aR v ss j) s = false := by
    unfold holdsC
    rw [if_neg (by omega), if_neg (by omega)]
    show (decide ((aR v ss j).1 ≤ s) && decide (s ≤ (aR v ss j).2)) = false
    by_cases a : (aR v ss j).1 ≤ s
    · rw [decide_eq_true a, decide_eq_false (fun b => no (in_aR.mpr ⟨a, b⟩))]
      rfl
    · rw [decide_eq_false a]
      rfl
  show (if holdsC v (comN ss) (cR v (comN ss) ss j) s = true then none else some none) = some none
  rw [ec, cl, hf]
  rfl
end HT
namespace HT
open PySem L2
/-- the values on the way -/
def valsF (v : Int) (ns ss : List Sd) : Nat → Int → List Int
  | 0, _ => []
  | k + 1, x => wayS v ns ss x k :: valsF v ns ss k (wayS v ns ss x k)
theorem valsF_len (v : Int) (ns ss : List Sd) : ∀ (k : Nat) (x : Int), (valsF v ns ss k x).length = k
  | 0, _ => rfl
  | k + 1, x => by
    show (valsF v ns ss k (wayS v ns ss x k)).length + 1 = k + 1
    rw [valsF_len v ns ss k]
theorem wayF_len (v : Int) (ns ss : List Sd) : ∀ (k : Nat) (x : Int), (wayF v ns ss k x).length = k
  | 0, _ => rfl
  | k + 1, x => by
    show (wayF v ns ss k (wayS v ns ss x k)).length + 1 = k + 1
    rw [wayF_len v ns ss k]
theorem walk_way {v : Int} {ns ss : List Sd} : ∀ (k : Nat) (x : Int) (a : List Int), WayOk v ns ss k x → ((wayF v ns ss k x).foldl (stepW ss) (a, x)).1 = a ++ valsF v ns ss k x
  | 0, x, a, _ => (List.append_nil a).symm
  | k + 1, x, a, h => by
    obtain ⟨ex, ok⟩ := h
    obtain ⟨t, fl, fi, fr⟩ := fit_ok ex
    have e : stepW ss (a, x) (fitI v ns ss x k) = (a ++ [wayS v ns ss x k], wayS v ns ss x k) := by
      unfold stepW
      rw [List.getElem?_eq_getElem fi]
      unfold wayS
      rw [List.getD_eq_getElem?_getD, List.getElem?_eq_getElem fi]
      rfl
    show ((wayF v ns ss k (wayS v ns ss x k)).foldl (stepW ss) (stepW ss (a, x) (fitI v ns ss x k))).1 = a ++ (wayS v ns ss x k :: valsF v ns ss k (wayS v ns ss x k))
    rw [e, walk_way k _ _ ok, List.append_assoc]
    rfl
theorem head_least {p : Nat → Bool} {n a : Nat} {t : List Nat} (h : (List.range n).filter p = a :: t) {j : Nat} (hj : j < a) (hn : j < n) : ¬ p j = true := fun z => by
  have m : j ∈ (List.range n).filter p := List.mem_filter.mpr ⟨List.mem_range.mpr hn, z⟩
  have so : ((List.range n).filter p).Pairwise (· < ·) := List.Pairwise.filter _ List.pairwise_lt_range
  rw [h] at m so
  rcases List.mem_cons.mp m with e | e
  · omega
  · have := (List.pairwise_cons.mp so).1 j e
    omega
/-- each value of the way: no nearer than what is left, and no lesser number leads on -/
theorem way_at {v : Int} {ss : List Sd} (hss : ∀ d ∈ ss, SideP d.o d.s d.m) : ∀ (i : Nat) (s : Int), inA v ss s i → (∀ j, j < i → ¬ inA v ss s j) → ∀ k, k ≤ i → ∃ x, (s :: valsF v (ss.map (movD (-v))) ss i s)[k]? = some x ∧ inA v ss x (i - k) ∧ (∀ j, j < i - k → ¬ inA v ss x j) ∧
    (k < i → ∃ t, (wayF v (ss.map (movD (-v))) ss i s)[k]? = some t ∧ t < ss.length ∧ ∀ t', t' < t → ¬ inA v ss (wD (ss.getD t' sd0) x) (i - 1 - k))
  | 0, s, h, no, k, hk => by
    obtain rfl : k = 0 := by omega
    exact ⟨s, rfl, h, no, fun z => absurd z (Nat.lt_irrefl _)⟩
  | i + 1, s, h, no, 0, _ => by
    have ex := in_mov hss h (no i (Nat.lt_succ_self _))
    obtain ⟨t, fl, fi, fr⟩ := fit_ok ex
    refine ⟨s, rfl, h, no, fun _ => ⟨_, rfl, fi, fun t' ht z => ?_⟩⟩
    have := head_least (show (List.range ss.length).filter _ = _ from fl) ht (by omega)
    exact this (decide_eq_true z)
  | i + 1, s, h, no, k + 1, hk => by
    have ex := in_mov hss h (no i (Nat.lt_succ_self _))
    obtain ⟨t, fl, fi, fr⟩ := fit_ok ex
    obtain ⟨x, e1, e2, e3, e4⟩ := way_at hss i (wayS v (ss.map (movD (-v))) ss s i) fr (fun j hj z => no (j + 1) (by omega) (mov_in hss (d := ss.getD (fitI v (ss.map (movD (-v))) ss s i) sd0) (by rw [List.getD_eq_getElem?_getD, List.getElem?_eq_getElem fi]; exact List.getElem_mem fi) z)) k (by omega)
    refine ⟨x, e1, by rw [show i + 1 - (k + 1) = i - k by omega]; exact e2, fun j hj => e3 j (by omega), fun z => ?_⟩
    obtain ⟨t2, f1, f2, f3⟩ := e4 (by omega)
    exact ⟨t2, f1, f2, fun t' ht => by rw [show i + 1 - 1 - (k + 1) = i - 1 - k by omega]; exact f3 t' ht⟩
end HT
namespace HT
open PySem L2
/-- small windows: the runs come to rest soon -/
theorem bef_soon {ss : List Sd} (hss : ∀ d ∈ ss, SideP d.o d.s d.m) {v N : Int} (hN : ∀ d ∈ ss, d.s ≤ N) (N0 : 0 ≤ N) : ∃ j : Nat, (j : Int) ≤ 2 * N ∧ cR v N ss (j + 1) = cR v N ss j := by
  refine Classical.byContradiction fun no => ?_
  have ne : ∀ j : Nat, (j : Int) ≤ 2 * N → cR v N ss (j + 1) ≠ cR v N ss j := fun j a b => no ⟨j, a, b⟩
  have grow : ∀ k : Nat, (k : Int) ≤ 2 * N + 1 → (k : Int) ≤ (cR v N ss k).2 - (cR v N ss k).1 := fun k => by
    induction k with
    | zero => intro _; show ((0 : Nat) : Int) ≤ v - v; omega
    | succ k ih =>
      intro hk
      have a := ih (by omega)
      have d := ne k (by omega)
      have m := cR_mono hss hN N0 (v := v) k 1
      by_cases p : (cR v N ss (k + 1)).1 = (cR v N ss k).1
      · by_cases q : (cR v N ss (k + 1)).2 = (cR v N ss k).2
        · exact absurd (Prod.ext p q) d
        · omega
      · omega
  have g := grow (2 * N + 1).toNat (by omega)
  obtain ⟨f1, f2⟩ := cR_v hss hN N0 (v := v) (2 * N + 1).toNat
  omega
theorem hold_in {ss : List Sd} (hss : ∀ d ∈ ss, SideP d.o d.s d.m) {v s : Int} {j : Nat} (far : v - 2 * (comN ss : Int) ≤ s ∧ s ≤ v + 2 * (comN ss : Int)) (h : holdsC v (comN ss) (cR v (comN ss) ss j) s = true) : inA v ss s (j + j) := by
  have cs := com_s hss
  have N0 : (0 : Int) ≤ (comN ss : Int) := Int.natCast_nonneg _
  have ec := cR_eq hss cs N0 (v := v) j
  obtain ⟨⟨c1, c2⟩, c3, c4⟩ := cR_v hss cs N0 (v := v) j
  have mem : ∀ y, (cR v (comN ss) ss j).1 ≤ y → y ≤ (cR v (comN ss) ss j).2 → inA v ss y j := fun y a b => by
    rw [ec] at a b
    exact in_aR.mpr ((clA_mem N0 (aR_v j)).mp ⟨a, b⟩).1
  unfold holdsC at h
  generalize cR v (comN ss) ss j = c at *
  by_cases lo : s < v - (comN ss : Int)
  · by_cases e : c.1 = v - (comN ss : Int)
    · have a := mem (s + (comN ss : Int)) (by omega) (by omega)
      have b := mem (v - (comN ss : Int)) (by omega) (by omega)
      have p := in_per hss (-1) j _ a
      rw [show v + (comN ss : Int) * (-1) = v - (comN ss : Int) by omega, show s + (comN ss : Int) + (comN ss : Int) * (-1) = s by omega] at p
      exact in_trans hss b j s p
    · rw [if_neg e] at h
      have : decide (c.1 ≤ s) = false := decide_eq_false (by omega)
      have h2 : (decide (c.1 ≤ s) && _) = true := h
      rw [this] at h2
      cases h2
  · by_cases hi : v + (comN ss : Int) < s
    · by_cases e : c.2 = v + (comN ss : Int)
      · have a := mem (s - (comN ss : Int)) (by omega) (by omega)
        have b := mem (v + (comN ss : Int)) (by omega) (by omega)
        have p := in_per hss 1 j _ a
        rw [show v + (comN ss : Int) * 1 = v + (comN ss : Int) by omega, show s - (comN ss : Int) + (comN ss : Int) * 1 = s by omega] at p
        exact in_trans hss b j s p
      · rw [if_neg e] at h
        have : decide (s ≤ c.2) = false := decide_eq_false (by omega)
        have h2 : (_ && decide (s ≤ c.2)) = true := h
        rw [this, Bool.and_false] at h2
        cases h2
    · have h2 : (lowF (if c.1 = v - (comN ss : Int) then none else some c.1) s && highF (if c.2 = v + (comN ss : Int) then none else some c.2) s) = true := h
      rw [Bool.and_eq_true] at h2
      refine in_mono (mem s ?_ ?_) (Nat.le_add_right _ _)
      · by_cases e : c.1 = v - (comN ss : Int)
        · omega
        · have := h2.1
          rw [if_neg e] at this
          exact of_decide_eq_true this
      · by_cases e : c.2 = v + (comN ss : Int)
        · omega
        · have := h2.2
          rw [if_neg e] at this
          exact of_decide_eq_true this
theorem in_hold {ss : List Sd} (hss : ∀ d ∈ ss, SideP d.o d.s d.m) {v s : Int} {i j : Nat} (e : cR v (comN ss) ss (j + 1) = cR v (comN ss) ss j) (h : inA v ss s i) : holdsC v (comN ss) (cR v (comN ss) ss j) s = true := by
  have cs := com_s hss
  have N0 : (0 : Int) ≤ (comN ss : Int) := Int.natCast_nonneg _
  have ec := cR_eq hss cs N0 (v := v) i
  have mo := cR_mono hss cs N0 (v := v) i j
  rw [show i + j = j + i by omega, cR_stop e i] at mo
  obtain ⟨⟨c1, c2⟩, c3, c4⟩ := cR_v hss cs N0 (v := v) j
  rw [in_aR] at h
  have ev := aR_v (v := v) (ss := ss) i
  have l1 : (cR v (comN ss) ss j).1 = v - (comN ss : Int) ∨ (cR v (comN ss) ss j).1 ≤ s := by
    rw [ec] at mo
    unfold clA at mo
    simp only at mo
    split at mo <;> omega
  have l2 : (cR v (comN ss) ss j).2 = v + (comN ss : Int) ∨ s ≤ (cR v (comN ss) ss j).2 := by
    rw [ec] at mo
    unfold clA at mo
    simp only at mo
    split at mo <;> split at mo <;> omega
  unfold holdsC
  show (lowF (if (cR v (comN ss) ss j).1 = v - (comN ss : Int) then none else some (cR v (comN ss) ss j).1) s && highF (if (cR v (comN ss) ss j).2 = v + (comN ss : Int) then none else some (cR v (comN ss) ss j).2) s) = true
  rw [Bool.and_eq_true]
  refine ⟨?_, ?_⟩
  · by_cases z : (cR v (comN ss) ss j).1 = v - (comN ss : Int)
    · rw [if_pos z]; rfl
    · rw [if_neg z]; exact decide_eq_true (l1.resolve_left z)
  · by_cases z : (cR v (comN ss) ss j).2 = v + (comN ss : Int)
    · rw [if_pos z]; rfl
    · rw [if_neg z]; exact decide_eq_true (l2.resolve_left z)
end HT
namespace HT
open PySem L2
/-- less, for lists of one length -/
def lexN : List Nat → List Nat → Bool
  | a :: A, b :: B => decide (a < b) || (decide (a = b) && lexN A B)
  | _, _ => false
theorem lexN_irr : ∀ A : List Nat, lexN A A = false
  | [] => rfl
  | a :: A => by simp [lexN, lexN_irr A]
theorem lexN_asym : ∀ {A B : List Nat}, lexN A B = true → lexN B A = false
  | [], _, h => by simp [lexN] at h
  | _ :: _, [], h => by simp [lexN] at h
  | a :: A, b :: B, h => by
    simp only [lexN, Bool.or_eq_true, Bool.and_eq_true, decide_eq_true_eq] at h
    simp only [lexN, Bool.or_eq_false_iff, Bool.and_eq_false_iff, decide_eq_false_iff_not]
    rcases h with h | ⟨rfl, h⟩
    · exact ⟨by omega, .inl (by omega)⟩
    · exact ⟨by omega, .inr (lexN_asym h)⟩
/-- not less: the order the other way round -/
theorem lexN_ge : ∀ {A B C : List Nat}, A.length = B.length → B.length = C.length → lexN A B = false → lexN B C = false → lexN A C = false
  | [], _, _, _, _, _, _ => by simp [lexN]
  | _ :: _, _, [], _, _, _, _ => by simp [lexN]
  | a :: A, [], c :: C, l, _, _, _ => by cases l
  | a :: A, b :: B, c :: C, l1, l2, h1, h2 => by
    simp only [lexN, Bool.or_eq_false_iff, Bool.and_eq_false_iff, decide_eq_false_iff_not] at h1 h2 ⊢
    refine ⟨by omega, ?_⟩
    by_cases e : a = c
    · refine .inr ?_
      have e1 : a = b := by omega
      have e2 : b = c := by omega
      exact lexN_ge (Nat.succ.inj l1) (Nat.succ.inj l2) (h1.2.resolve_left (fun z => z e1)) (h2.2.resolve_left (fun z => z e2))
    · exact .inl e
theorem lexN_eq : ∀ {A B : List Nat}, A.length = B.length → lexN A B = false → lexN B A = false → A = B
  | [], [], _, _, _ => rfl
  | [], _ :: _, l, _, _ => by cases l
  | _ :: _, [], l, _, _ => by cases l
  | a :: A, b :: B, l, h1, h2 => by
    simp only [lexN, Bool.or_eq_false_iff, Bool.and_eq_false_iff, decide_eq_false_iff_not] at h1 h2
    have e : a = b := by omega
    subst e
    rw [lexN_eq (Nat.succ.inj l) (h1.2.resolve_left (fun z => z rfl)) (h2.2.resolve_left (fun z => z rfl))]
theorem lexN_snoc : ∀ {A B : List Nat} (k : Nat), A.length = B.length → lexN A B = false → lexN (A ++ [k]) (B ++ [k]) = false
  | [], [], k, _, _ => lexN_irr [k]
  | [], _ :: _, _, l, _ => by cases l
  | _ :: _, [], _, l, _ => by cases l
  | a :: A, b :: B, k, l, h => by
    simp only [lexN, Bool.or_eq_false_iff, Bool.and_eq_false_iff, decide_eq_false_iff_not, List.cons_append] at h ⊢
    refine ⟨h.1, h.2.imp id fun z => lexN_snoc k (Nat.succ.inj l) z⟩
/-- the step by the side with a number -/
def stN (ss : List Sd) (x : Int) (k : Nat) : Int := wD (ss.getD k sd0) x
def goN (ss : List Sd) (x : Int) (q : List Nat) : Int := q.foldl (stN ss) x
/-- a way from s to x, within M of s -/
structure WW (ss : List Sd) (s M : Int) (q : List Nat) (x : Int) : Prop where
  lt : ∀ k ∈ q, k < ss.length
  win : ∀ j, 1 ≤ j → j ≤ q.length → -M ≤ goN ss s (q.take j) - s ∧ goN ss s (q.take j) - s ≤ M
  at_ : goN ss s q = x
theorem ww_nil {ss : List Sd} {s M x : Int} : WW ss s M [] x ↔ x = s := ⟨fun h => h.at_.symm, fun h => ⟨fun k z => (nomatch z), fun j a b => (by rw [List.length_nil] at b; omega), h.symm⟩⟩
theorem goN_snoc (ss : List Sd) (s : Int) (q : List Nat) (k : Nat) : goN ss s (q ++ [k]) = stN ss (goN ss s q) k := by
  unfold goN
  rw [List.foldl_append]
  rfl
theorem ww_snoc {ss : List Sd} {s M y : Int} {q : List Nat} {k : Nat} : WW ss s M (q ++ [k]) y ↔ ∃ x, WW ss s M q x ∧ k < ss.length ∧ y = stN ss x k ∧ (-M ≤ y - s ∧ y - s ≤ M) := by
  constructor
  · rintro ⟨a, b, c⟩
    rw [goN_snoc] at c
    refine ⟨goN ss s q, ⟨fun j hj => a j (List.mem_append_left _ hj), fun j j1 j2 => ?_, rfl⟩, a k (List.mem_append_right _ (List.mem_singleton.mpr rfl)), c.symm, ?_⟩
    · have := b j j1 (by rw [List.length_append]; omega)
      rwa [List.take_append_of_le_length j2] at this
    · have := b (q.length + 1) (by omega) (by rw [List.length_append]; exact Nat.le_refl _)
      rw [List.take_of_length_le (by rw [List.length_append]; exact Nat.le_refl _), goN_snoc, c] at this
      exact this
  · rintro ⟨x, ⟨a, b, c⟩, hk, e, w⟩
    refine ⟨fun j hj => ?_, fun j j1 j2 => ?_, by rw [goN_snoc, c, e]⟩
    · rcases List.mem_append.mp hj with z | z
      · exact a j z
      · rw [List.mem_singleton.mp z]; exact hk
    · rcases Nat.lt_or_ge q.length j with z | z
      · rw [List.take_of_length_le (by rw [List.length_append]; exact z), goN_snoc, c, ← e]
        exact w
      · rw [List.take_append_of_le_length z]
        exact b j j1 z
/-- the least of the shortest ways -/
structure Best (ss : List Sd) (s M : Int) (p : List Nat) (x : Int) : Prop where
  ww : WW ss s M p x
  le : ∀ q, WW ss s M q x → p.length ≤ q.length
  lx : ∀ q, WW ss s M q x → q.length = p.length → lexN q p = false
theorem Best.uniq {ss : List Sd} {s M x : Int} {p q : List Nat} (a : Best ss s M p x) (b : Best ss s M q x) : p = q := by
  have l : p.length = q.length := Nat.le_antisymm (a.le q b.ww) (b.le p a.ww)
  exact lexN_eq l (b.lx p a.ww l) (a.lx q b.ww l.symm)
/-- the law's search: what is known behind n levels, and the last level -/
structure Lev (ss : List Sd) (s M : Int) (n : Nat) (ds : List Int) (g : Int → List Nat) (L : List Int) : Prop where
  nd : ds.Nodup
  best : ∀ x ∈ ds, Best ss s M (g x) x ∧ (g x).length ≤ n
  all : ∀ x q, WW ss s M q x → q.length ≤ n → x ∈ ds
  lev : ∀ x, x ∈ L ↔ x ∈ ds ∧ (g x).length = n
  ne : L ≠ [] → n + 1 ≤ ds.length
/-- what is found further on, behind some of the level's values (P: which, by their numbers too) -/
structure Fur (ss : List Sd) (s M : Int) (ds : List Int) (g : Int → List Nat) (P : Int → Nat → Prop) (fs : List Int) (h : Int → List Nat) : Prop where
  nd : fs.Nodup
  src : ∀ m ∈ fs, m ∉ ds ∧ (-M ≤ m - s ∧ m - s ≤ M) ∧ ∃ x k, P x k ∧ h m = g x ++ [k] ∧ m = stN ss x k
  le : ∀ x k, P x k → (-M ≤ stN ss x k - s ∧ stN ss x k - s ≤ M) → stN ss x k ∉ ds → stN ss x k ∈ fs ∧ lexN (g x ++ [k]) (h (stN ss x k)) = false
theorem fur_nil {ss : List Sd} {s M : Int} {ds : List Int} {g h : Int → List Nat} : Fur ss s M ds g (fun _ _ => False) [] h := ⟨List.nodup_nil, fun m z => (nomatch z), fun x k (z : False) => z.elim⟩
theorem Fur.cong {ss : List Sd} {s M : Int} {ds fs : List Int} {g h : Int → List Nat} {P P' : Int → Nat → Prop} (F : Fur ss s M ds g P fs h) (e : ∀ x k, P x k ↔ P' x k) : Fur ss s M ds g P' fs h :=
  ⟨F.nd, fun m hm => let ⟨a, b, x, k, p, r⟩ := F.src m hm; ⟨a, b, x, k, (e x k).mp p, r⟩, fun x k p => F.le x k ((e x k).mpr p)⟩
/-- one step more that leads nowhere new -/
theorem Fur.skip {ss : List Sd} {s M : Int} {ds fs : List Int} {g h : Int → List Nat} {P : Int → Nat → Prop} (F : Fur ss s M ds g P fs h) {x0 : Int} {k0 : Nat} (no : ¬ ((-M ≤ stN ss x0 k0 - s ∧ stN ss x0 k0 - s ≤ M) ∧ stN ss x0 k0 ∉ ds)) : Fur ss s M ds g (fun x k => P x k ∨ (x = x0 ∧ k = k0)) fs h :=
  ⟨F.nd, fun m hm => let ⟨a, b, x, k, p, r⟩ := F.src m hm; ⟨a, b, x, k, .inl p, r⟩, fun x k p w n => by
    rcases p with p | ⟨rfl, rfl⟩
    · exact F.le x k p w n
    · exact absurd ⟨w, n⟩ no⟩
/-- .. that leads to a value not yet found, or once more to one -/
theorem Fur.put {ss : List Sd} {s M : Int} {n : Nat} {ds fs : List Int} {g h : Int → List Nat} {P : Int → Nat → Prop} (F : Fur ss s M ds g P fs h) (hl : ∀ x k, P x k → (g x).length = n) {x0 : Int} {k0 : Nat} (l0 : (g x0).length = n) (w : -M ≤ stN ss x0 k0 - s ∧ stN ss x0 k0 - s ≤ M) (nd : stN ss x0 k0 ∉ ds) :
    Fur ss s M ds g (fun x k => P x k ∨ (x = x0 ∧ k = k0)) (if stN ss x0 k0 ∈ fs then fs else fs ++ [stN ss x0 k0]) (fun m => if m = stN ss x0 k0 then (if stN ss x0 k0 ∈ fs ∧ lexN (h (stN ss x0 k0)) (g x0 ++ [k0]) = true then h (stN ss x0 k0) else g x0 ++ [k0]) else h m) := by
  have len : ∀ m ∈ fs, (h m).length = n + 1 := fun m hm => by
    obtain ⟨_, _, x, k, p, e, _⟩ := F.src m hm
    rw [e, List.length_append, hl x k p]
    rfl
  refine ⟨?_, fun m hm => ?_, fun x k p w' n' => ?_⟩
  · split
    · exact F.nd
    · rename_i z
      rw [List.nodup_append]
      exact ⟨F.nd, by simp, fun a ha b hb e => z (by rw [← List.mem_singleton.mp hb, ← e]; exact ha)⟩
  · by_cases e : m = stN ss x0 k0
    · subst e
      refine ⟨nd, w, ?_⟩
      rw [if_pos rfl]
      by_cases c : stN ss x0 k0 ∈ fs ∧ lexN (h (stN ss x0 k0)) (g x0 ++ [k0]) = true
      · rw [if_pos c]
        obtain ⟨_, _, x, k, p, r⟩ := F.src _ c.1
        exact ⟨x, k, .inl p, r⟩
      · rw [if_neg c]
        exact ⟨x0, k0, .inr ⟨rfl, rfl⟩, rfl, rfl⟩
    · have hm' : m ∈ fs := by
        split at hm
        · exact hm
        · rcases List.mem_append.mp hm with z | z
          · exact z
          · exact absurd (List.mem_singleton.mp z) e
      obtain ⟨a, b, x, k, p, r⟩ := F.src m hm'
      refine ⟨a, b, x, k, .inl p, ?_⟩
      rw [if_neg e]
      exact r
  · have inn : ∀ m, m ∈ fs → m ∈ (if stN ss x0 k0 ∈ fs then fs else fs ++ [stN ss x0 k0]) := fun m z => by
      split
      · exact z
      · exact List.mem_append_left _ z
    have inx : stN ss x0 k0 ∈ (if stN ss x0 k0 ∈ fs then fs else fs ++ [stN ss x0 k0]) := by
      split
      · assumption
      · exact List.mem_append_right _ (List.mem_singleton.mpr rfl)
    by_cases e : stN ss x k = stN ss x0 k0
    · rw [e]
      refine ⟨inx, ?_⟩
      rw [if_pos rfl]
      rcases p with p | ⟨rfl, rfl⟩
      · obtain ⟨i1, i2⟩ := F.le x k p w' n'
        rw [e] at i1 i2
        by_cases c : stN ss x0 k0 ∈ fs ∧ lexN (h (stN ss x0 k0)) (g x0 ++ [k0]) = true
        · rw [if_pos c]; exact i2
        · rw [if_neg c]
          have c2 : lexN (h (stN ss x0 k0)) (g x0 ++ [k0]) = false := by
            rw [Bool.eq_false_iff]
            exact fun z => c ⟨i1, z⟩
          exact lexN_ge (by rw [List.length_append, hl x k p, len _ i1]; rfl) (by rw [List.length_append, l0, len _ i1]; rfl) i2 c2
      · by_cases c : stN ss x k ∈ fs ∧ lexN (h (stN ss x k)) (g x ++ [k]) = true
        · rw [if_pos c]
          exact lexN_asym c.2
        · rw [if_neg c]
          exact lexN_irr _
    · rcases p with p | ⟨rfl, rfl⟩
      · obtain ⟨i1, i2⟩ := F.le x k p w' n'
        refine ⟨inn _ i1, ?_⟩
        rw [if_neg e]
        exact i2
      · exact absurd rfl e
/-- the next level -/
theorem Lev.next {ss : List Sd} {s M : Int} {n : Nat} {ds L fs : List Int} {g h : Int → List Nat} (V : Lev ss s M n ds g L) (F : Fur ss s M ds g (fun x k => x ∈ L ∧ k < ss.length) fs h) {L' : List Int} (hL : ∀ x, x ∈ L' ↔ x ∈ fs) :
    Lev ss s M (n + 1) (ds ++ fs) (fun m => if m ∈ fs then h m else g m) L' := by
  have dis : ∀ m ∈ fs, m ∉ ds := fun m hm => (F.src m hm).1
  have gl : ∀ x ∈ L, (g x).length = n := fun x hx => ((V.lev x).mp hx).2
  have hlen : ∀ m ∈ fs, (h m).length = n + 1 := fun m hm => by
    obtain ⟨_, _, x, k, p, e, _⟩ := F.src m hm
    rw [e, List.length_append, gl x p.1]
    rfl
  have wwh : ∀ m ∈ fs, WW ss s M (h m) m := fun m hm => by
    obtain ⟨_, b, x, k, p, e, e2⟩ := F.src m hm
    rw [e]
    exact ww_snoc.mpr ⟨x, (V.best x ((V.lev x).mp p.1).1).1.ww, p.2, e2, b⟩
  -- a way of n + 1 steps to what is not known yet comes by the level
  have back : ∀ m, m ∉ ds → ∀ q, WW ss s M q m → q.length ≤ n + 1 → m ∈ fs ∧ q.length = n + 1 ∧ lexN q (h m) = false := fun m hm q wq hq => by
    have ql : q.length = n + 1 := by
      rcases Nat.lt_or_ge q.length (n + 1) with z | z
      · exact absurd (V.all m q wq (by omega)) hm
      · omega
    obtain ⟨p, k, rfl⟩ : ∃ p k, q = p ++ [k] := by
      refine ⟨q.dropLast, q.getLast (fun z => by rw [z] at ql; cases ql), ?_⟩
      exact (List.dropLast_concat_getLast _).symm
    rw [List.length_append] at ql
    have pl : p.length = n := by
      have : [k].length = 1 := rfl
      omega
    obtain ⟨x, wx, hk, e, w⟩ := ww_snoc.mp wq
    have xd := V.all x p wx (by omega)
    obtain ⟨bx, lx⟩ := V.best x xd
    have gx : (g x).length = n := by
      rcases Nat.lt_or_ge (g x).length n with z | z
      · refine absurd (V.all m (g x ++ [k]) (ww_snoc.mpr ⟨x, bx.ww, hk, e, w⟩) ?_) hm
        rw [List.length_append]
        have : [k].length = 1 := rfl
        omega
      · omega
    have xL := (V.lev x).mpr ⟨xd, gx⟩
    obtain ⟨i1, i2⟩ := F.le x k ⟨xL, hk⟩ (by rw [← e]; exact w) (by rw [← e]; exact hm)
    rw [← e] at i1 i2
    refine ⟨i1, by rw [List.length_append, pl]; rfl, ?_⟩
    exact lexN_ge (by rw [List.length_append, List.length_append, pl, gx]) (by rw [List.length_append, gx, hlen m i1]; rfl) (lexN_snoc k (by rw [pl, gx]) (bx.lx p wx (by rw [pl, gx]))) i2
  refine ⟨?_, fun x hx => ?_, fun x q wq hq => ?_, fun x => ?_, fun ne => ?_⟩
  · rw [List.nodup_append]
    exact ⟨V.nd, F.nd, fun a ha b hb e => dis b hb (by rw [← e]; exact ha)⟩
  · by_cases z : x ∈ fs
    · rw [if_pos z]
      refine ⟨⟨wwh x z, fun q wq => ?_, fun q wq l => ?_⟩, Nat.le_of_eq (hlen x z)⟩
      · rw [hlen x z]
        rcases Nat.lt_or_ge q.length (n + 1) with y | y
        · exact absurd (V.all x q wq (by omega)) (dis x z)
        · exact y
      · rw [hlen x z] at l
        exact (back x (dis x z) q wq (by omega)).2.2
    · have xd := (List.mem_append.mp hx).resolve_right z
      rw [if_neg z]
      obtain ⟨a, b⟩ := V.best x xd
      exact ⟨a, by omega⟩
  · by_cases z : x ∈ ds
    · exact List.mem_append_left _ z
    · exact List.mem_append_right _ (back x z q wq hq).1
  · rw [hL]
    constructor
    · intro z
      exact ⟨List.mem_append_right _ z, by rw [if_pos z]; exact hlen x z⟩
    · rintro ⟨z, e⟩
      refine Classical.byContradiction fun nz => ?_
      have xd := (List.mem_append.mp z).resolve_right nz
      rw [if_neg nz] at e
      have := (V.best x xd).2
      omega
  · cases hfs : fs with
    | nil =>
      refine absurd ?_ ne
      cases hL' : L' with
      | nil => rfl
      | cons y ys =>
        have := (hL y).mp (by rw [hL']; exact List.mem_cons_self)
        rw [hfs] at this
        cases this
    | cons y ys =>
      rw [List.length_append, List.length_cons]
      have hy : y ∈ fs := by rw [hfs]; exact List.mem_cons_self
      obtain ⟨_, _, x, k, p, _⟩ := F.src y hy
      have := V.ne (fun z => by rw [z] at p; exact nomatch p.1)
      omega
/-- behind the last level all that can be reached is known -/
theorem Lev.end {ss : List Sd} {s M : Int} {n : Nat} {ds : List Int} {g : Int → List Nat} (V : Lev ss s M n ds g []) : ∀ (q : List Nat) (x : Int), WW ss s M q x → x ∈ ds := fun q => by
  have key : ∀ (m : Nat) (q : List Nat) (x : Int), q.length = m → WW ss s M q x → x ∈ ds := fun m => by
    induction m with
    | zero => exact fun q x l w => V.all x q w (by omega)
    | succ m ih =>
      intro q x l w
      obtain ⟨p, k, rfl⟩ : ∃ p k, q = p ++ [k] := by
        refine ⟨q.dropLast, q.getLast (fun z => by rw [z] at l; cases l), ?_⟩
        exact (List.dropLast_concat_getLast _).symm
      rw [List.length_append] at l
      obtain ⟨y, wy, hk, e, ww⟩ := ww_snoc.mp w
      have yd := ih p y (by have : [k].length = 1 := rfl; omega) wy
      obtain ⟨by_, ly⟩ := V.best y yd
      have lt : (g y).length < n := by
        rcases Nat.lt_or_ge (g y).length n with z | z
        · exact z
        · exact nomatch (V.lev y).mpr ⟨yd, by omega⟩
      exact V.all x (g y ++ [k]) (ww_snoc.mpr ⟨y, by_.ww, hk, e, ww⟩) (by rw [List.length_append]; have : [k].length = 1 := rfl; omega)
  exact fun x w => key q.length q x rfl w
theorem lev_0 {ss : List Sd} {s M : Int} : Lev ss s M 0 [s] (fun _ => []) [s] := by
  refine ⟨by simp, fun x hx => ?_, fun x q w l => ?_, fun x => ⟨fun h => ⟨h, rfl⟩, fun h => h.1⟩, fun _ => Nat.le_refl _⟩
  · rw [List.mem_singleton.mp hx]
    exact ⟨⟨ww_nil.mpr rfl, fun q _ => Nat.zero_le _, fun q _ l => by rw [List.length_eq_zero_iff.mp l]; rfl⟩, Nat.zero_le _⟩
  · rw [List.length_eq_zero_iff.mp (Nat.le_zero.mp l)] at w
    rw [ww_nil.mp w]
    exact List.mem_singleton.mpr rfl
theorem Lev.win {ss : List Sd} {s M : Int} (M0 : 0 ≤ M) {n : Nat} {ds L : List Int} {g : Int → List Nat} (V : Lev ss s M n ds g L) : ∀ x ∈ ds, s - M ≤ x ∧ x ≤ s + M := fun x hx => by
  obtain ⟨⟨w, _, _⟩, _⟩ := V.best x hx
  by_cases z : g x = []
  · rw [z] at w
    have := ww_nil.mp w
    omega
  · have := w.win (g x).length (List.length_pos_iff.mpr z) (Nat.le_refl _)
    rw [List.take_of_length_le (Nat.le_refl _), w.at_] at this
    omega
end HT
namespace HT
open PySem L2
theorem st_way {v : Int} {ss : List Sd} {x : Int} {i : Nat} : stN ss x (fitI v (ss.map (movD (-v))) ss x i) = wayS v (ss.map (movD (-v))) ss x i := rfl
theorem go_take {v : Int} {ss : List Sd} : ∀ (i : Nat) (x : Int) (k : Nat), k ≤ i → (x :: valsF v (ss.map (movD (-v))) ss i x)[k]? = some (goN ss x ((wayF v (ss.map (movD (-v))) ss i x).take k))
  | _, x, 0, _ => by rw [List.take_zero]; rfl
  | i + 1, x, k + 1, h => go_take i (wayS v (ss.map (movD (-v))) ss x i) k (Nat.le_of_succ_le_succ h)
theorem sides_at {ss : List Sd} {k : Nat} (h : k < ss.length) : ss.getD k sd0 ∈ ss := by
  rw [List.getD_eq_getElem?_getD, List.getElem?_eq_getElem h]
  exact List.getElem_mem h
theorem in_go {ss : List Sd} (hss : ∀ d ∈ ss, SideP d.o d.s d.m) : ∀ (q : List Nat) (x : Int), (∀ k ∈ q, k < ss.length) → inA (goN ss x q) ss x q.length
  | [], x, _ => in_self x ss 0
  | k :: q, x, h => mov_in hss (sides_at (h k List.mem_cons_self)) (in_go hss q (stN ss x k) fun j hj => h j (List.mem_cons_of_mem _ hj))
/-- the way of least numbers is least -/
theorem way_least {v : Int} {ss : List Sd} (hss : ∀ d ∈ ss, SideP d.o d.s d.m) : ∀ (q : List Nat) (x : Int), (∀ k ∈ q, k < ss.length) → goN ss x q = v → lexN q (wayF v (ss.map (movD (-v))) ss q.length x) = false
  | [], x, _, _ => rfl
  | k :: q, x, h, e => by
    have hk := h k List.mem_cons_self
    have e' : goN ss (stN ss x k) q = v := e
    have i1 := in_go hss q (stN ss x k) fun j hj => h j (List.mem_cons_of_mem _ hj)
    rw [e'] at i1
    have ex : ∃ d ∈ ss, inR v (ss.map (movD (-v))) (wD d x) q.length := ⟨_, sides_at hk, i1⟩
    obtain ⟨t, fl, fi, fr⟩ := fit_ok ex
    have nlt : ¬ k < fitI v (ss.map (movD (-v))) ss x q.length := fun z => by
      have := head_least (show (List.range ss.length).filter _ = _ from fl) z hk
      exact this (decide_eq_true i1)
    show (decide (k < fitI v (ss.map (movD (-v))) ss x q.length) || (decide (k = fitI v (ss.map (movD (-v))) ss x q.length) && lexN q (wayF v (ss.map (movD (-v))) ss q.length (wayS v (ss.map (movD (-v))) ss x q.length)))) = false
    rw [decide_eq_false nlt]
    by_cases c : k = fitI v (ss.map (movD (-v))) ss x q.length
    · have es : wayS v (ss.map (movD (-v))) ss x q.length = stN ss x k := by rw [c]; rfl
      rw [es, way_least hss q (stN ss x k) (fun j hj => h j (List.mem_cons_of_mem _ hj)) e', Bool.and_false]
      rfl
    · rw [decide_eq_false c]
      rfl
/-- a shortest way stays near -/
theorem way_near {v : Int} {ss : List Sd} (hss : ∀ d ∈ ss, SideP d.o d.s d.m) {K : Int} (hK : ∀ d ∈ ss, d.s ≤ K) : ∀ (i : Nat) (x : Int), inA v ss x i → (∀ j, j < i → ¬ inA v ss x j) → ∀ (B : Int), K ≤ B → (v - B ≤ x ∧ x ≤ v + B) → ∀ k, k ≤ i → v - B ≤ goN ss x ((wayF v (ss.map (movD (-v))) ss i x).take k) ∧ goN ss x ((wayF v (ss.map (movD (-v))) ss i x).take k) ≤ v + B
  | _, x, _, _, B, _, hx, 0, _ => by rw [List.take_zero]; exact hx
  | i + 1, x, h, no, B, hB, hx, k + 1, hk => by
    have ex := in_mov hss h (no i (Nat.lt_succ_self _))
    obtain ⟨t, fl, fi, fr⟩ := fit_ok ex
    have no' : ∀ j, j < i → ¬ inA v ss (wayS v (ss.map (movD (-v))) ss x i) j := fun j hj z => no (j + 1) (by omega) (mov_in hss (sides_at fi) z)
    refine way_near hss hK i (wayS v (ss.map (movD (-v))) ss x i) fr no' B hB ?_ k (Nat.le_of_succ_le_succ hk)
    have n := near_s (hss _ (sides_at fi)) x
    have s7 := hK _ (sides_at fi)
    have ev := aR_v (v := v) (ss := ss) i
    have ni := no i (Nat.lt_succ_self _)
    rw [in_aR] at ni
    have fr' : (aR v ss i).1 ≤ wayS v (ss.map (movD (-v))) ss x i ∧ wayS v (ss.map (movD (-v))) ss x i ≤ (aR v ss i).2 := fr
    have ew : wayS v (ss.map (movD (-v))) ss x i = dueM (ss.getD (fitI v (ss.map (movD (-v))) ss x i) sd0).o (ss.getD (fitI v (ss.map (movD (-v))) ss x i) sd0).s (ss.getD (fitI v (ss.map (movD (-v))) ss x i) sd0).m x := rfl
    rw [← ew] at n
    generalize wayS v (ss.map (movD (-v))) ss x i = y at *
    generalize (ss.getD (fitI v (ss.map (movD (-v))) ss x i) sd0).s = u at *
    by_cases c : x < (aR v ss i).1
    · omega
    · omega
theorem way_Best {v s M K : Int} {ss : List Sd} (hss : ∀ d ∈ ss, SideP d.o d.s d.m) (hK : ∀ d ∈ ss, d.s ≤ K) {i : Nat} (h : inA v ss s i) (no : ∀ j, j < i → ¬ inA v ss s j) {B : Int} (kB : K ≤ B) (hs : v - B ≤ s ∧ s ≤ v + B) (BM : 2 * B ≤ M) : Best ss s M (wayF v (ss.map (movD (-v))) ss i s) v := by
  have ln := wayF_len v (ss.map (movD (-v))) ss i s
  refine ⟨⟨fun k hk => ?_, fun j j1 j2 => ?_, ?_⟩, fun q wq => ?_, fun q wq l => ?_⟩
  · obtain ⟨j, hj, e⟩ := List.mem_iff_getElem.mp hk
    obtain ⟨x, _, _, _, e4⟩ := way_at hss i s h no j (by omega)
    obtain ⟨t, f1, f2, _⟩ := e4 (by omega)
    rw [List.getElem?_eq_getElem hj, e] at f1
    rw [Option.some.inj f1]
    exact f2
  · have := way_near hss hK i s h no B kB hs j (by omega)
    omega
  · obtain ⟨x, e1, e2, _⟩ := way_at hss i s h no i (Nat.le_refl _)
    rw [go_take i s i (Nat.le_refl _), List.take_of_length_le (by omega)] at e1
    rw [Option.some.inj e1]
    rw [Nat.sub_self] at e2
    exact in_zero e2
  · rw [ln]
    have := in_go hss q s wq.lt
    rw [wq.at_] at this
    exact Nat.not_lt.mp fun z => no _ z this
  · have := way_least hss q s wq.lt wq.at_
    rwa [l, ln] at this
/-- what is known just where there is a way -/
theorem lev_in {v s M K : Int} {ss : List Sd} (hss : ∀ d ∈ ss, SideP d.o d.s d.m) (hK : ∀ d ∈ ss, d.s ≤ K) {B : Int} (kB : K ≤ B) (hs : v - B ≤ s ∧ s ≤ v + B) (BM : 2 * B ≤ M) {n : Nat} {ds : List Int} {g : Int → List Nat} (V : Lev ss s M n ds g []) :
    (v ∉ ds → ∀ i, ¬ inA v ss s i) ∧ (v ∈ ds → inA v ss s (g v).length) ∧ (∀ i, inA v ss s i → (∀ j, j < i → ¬ inA v ss s j) → v ∈ ds ∧ g v = wayF v (ss.map (movD (-v))) ss i s) := by
  have main : ∀ i, inA v ss s i → (∀ j, j < i → ¬ inA v ss s j) → v ∈ ds ∧ g v = wayF v (ss.map (movD (-v))) ss i s := fun i h no => by
    have b := way_Best hss hK h no kB hs BM
    have m := V.end _ _ b.ww
    exact ⟨m, (V.best v m).1.uniq b⟩
  refine ⟨fun nm i h => ?_, fun m => ?_, main⟩
  · obtain ⟨i', _, a, b⟩ := first_of (p := inA v ss s) i h
    exact nm (main i' a b).1
  · have w := (V.best v m).1.ww
    have := in_go hss (g v) s w.lt
    rwa [w.at_] at this
end HT
namespace HT
open PySem L2
def nD (k : Nat) : PyData := .int (k : Int)
end HT
namespace PySem
section
variable {prog : Program} {w : World} {A : Around} {E : Value → Shared → Prop} {s : Shared}
/-- min of two things that are compared where a heap stands -/
theorem call_min_twoH {a b : Value} {Q : Value → Shared → Prop}
    (h : wpAny (model prog w) A.in1 (pyIter (.ref s.heap.objs.size)) (fun it s₂ => ∃ I fp wr G n P St H bt, it = .ref I ∧ WalksS prog w A.in1 I fp wr G n P St ∧ St 0 s₂ ∧ (∀ b ∈ fp, b < s₂.heap.objs.size) ∧ 0 < n ∧ (∀ b o, H.get? b = some o → b ∉ wr) ∧ (∀ b o, H.get? b = some o → s₂.heap.get? b = some o) ∧
      CmpIn prog w A.in1 .Lt H P bt ∧ ∀ v s', P (argBest bt (n - 1)) v → Moved wr G s₂ s' → Q v s') E { s with heap := s.heap.push { cls := .type "tuple", data := .seq #[a, b] } }) : wpAny (model prog w) A (call (.builtin "min") [a, b]) Q E s := by
  have nm : (toString "min" ++ toString ".loop" : String) = "min.loop" := by decide
  refine call_function_tree F.kind_min F.plain_min F.entry_min (F.args_min2 _ _) ?_
  show wpAny _ A.in1 (Builtin.Builtins.bindParams "min" ["key", "default"] 0 ⟨[], []⟩ >>= _) _ _ s
  refine wpAny_bind (wpAny_of_eq (show Builtin.Builtins.bindParams "min" ["key", "default"] 0 ⟨[], []⟩ = pure [none, none] from rfl) ?_)
  show wpAny _ A.in1 (newTuple [a, b] >>= _) _ _ s
  refine wpAny_bind (wpAny_newObj_type (wpAny_bind (wpAny_mono h (fun it t ht => ?_) fun _ _ e => e)))
  obtain ⟨I, fp, wr, G, n, P, St, H, bt, rfl, W, st, lt, pos, nw, kp, cmp, q⟩ := ht
  refine wpAny_bind (wpAny_newObj_type ?_)
  have nfp : t.heap.objs.size ∉ fp := fun hm => Nat.lt_irrefl _ (lt _ hm)
  rw [nm]
  refine wpAny_pure ⟨plainId_quiet F.plain_min_loop _, codeAny_min_loop_firstH W H nw bt cmp t.heap.objs.size nfp (fresh_in kp) _ pos (fun b o e => Heap.get?_push_of_some _ (kp b o e)) (W.frame 0 t _ t.toks st (Nat.le_refl _) fun b _ o e => Heap.get?_push_of_some _ e) (Heap.get?_push_size _ rfl) fun v s' hP hm => ?_⟩
  exact q v s' hP (Moved.drop_new (tk := t.toks) hm (Nat.le_refl _))
end
end PySem
namespace PySem.W
open PySem PySem.SeqAt PyProof.Rows
section
variable {prog : Program} {w : World} {A : Around} {E : Value → Shared → Prop} {s : Shared}
/-- min of two alike data -/
theorem min_two_data {a b : Value} {x y : PyData} {as bs : List Addr} {Q : Value → Shared → Prop} (hh : A.handled = none) (ra : Reads s.heap a x as) (rb : Reads s.heap b y bs) (al : AlikeAll [x, y]) (hu : A.units + 1 + PyData.depthAll [x, y] < cLine)
    (h : ∀ h' tk, (∀ c o, s.heap.get? c = some o → h'.get? c = some o) → Q (if dataLt y x = true then b else a) { s with heap := h', toks := tk }) : wpAny (model prog w) A (call (.builtin "min") [a, b]) Q E s := by
  have tup : (s.heap.push { cls := .type "tuple", data := .seq #[a, b] }).IsTuple s.heap.objs.size #[a, b] := ⟨_, Heap.get?_push_size _ rfl, rfl, 0, rfl⟩
  have hr : ReadsAll ({ s with heap := s.heap.push { cls := .type "tuple", data := .seq #[a, b] } } : Shared).heap (#[a, b] : Array Value).toList [x, y] (as ++ (bs ++ [])) := .cons (reads_keeps (fun c o e => Heap.get?_push_of_some _ e) ra) (.cons (reads_keeps (fun c o e => Heap.get?_push_of_some _ e) rb) .nil)
  refine call_min_twoH (iter_tupleW (s := { s with heap := s.heap.push { cls := .type "tuple", data := .seq #[a, b] } }) (A := A.in1) hh tup fun s₂ e W st hfp hw hk => ?_)
  refine ⟨_, _, _, _, _, _, _, _, _, rfl, W, st, hfp, (by show 0 < 2; decide), hw, hk, cmpIn_lt (A := A.in1) hr al (by show A.units + 1 + _ < _; exact hu), fun v s' hP m => ?_⟩
  obtain ⟨h', tk, rfl, hk'⟩ := moved_old e rfl m
  have q := h h' tk fun c o z => hk' c o (Heap.get?_push_of_some _ z)
  have ev : v = if dataLt y x = true then b else a := by
    have hP' : (#[a, b] : Array Value)[argBest (fun i j => dataLt ([x, y].getD i .none) ([x, y].getD j .none)) 1]? = some v := hP
    have e1 : argBest (fun i j => dataLt ([x, y].getD i .none) ([x, y].getD j .none)) 1 = if dataLt y x = true then 1 else 0 := rfl
    rw [e1] at hP'
    by_cases c : dataLt y x = true
    · rw [if_pos c] at hP' ⊢
      exact (Option.some.inj hP').symm
    · rw [if_neg c] at hP' ⊢
      exact (Option.some.inj hP').symm
  rw [ev]
  exact q
end
end PySem.W
namespace L2
open PySem PySem.Spec PyProof.Rows PySem.W
theorem lt_inl (a b : Int) : itemOrd.blt (Sum.inl a) (Sum.inl b) = decide (a < b) := rfl
/-- the order of tuples of naturals of one length -/
theorem lt_nats : ∀ (A B : List Nat), A.length = B.length → dataLt (.tuple (A.map HT.nD)) (.tuple (B.map HT.nD)) = HT.lexN A B
  | [], [], _ => by decide +kernel
  | [], _ :: _, l => by cases l
  | _ :: _, [], l => by cases l
  | a :: A, b :: B, l => by
    have ih := lt_nats A B (Nat.succ.inj l)
    unfold dataLt at ih ⊢
    rw [keyToks, keyToks] at ih ⊢
    rw [List.map_cons, List.map_cons, show HT.nD a = .int (a : Int) from rfl, show HT.nD b = .int (b : Int) from rfl, toks_all_cons, toks_all_cons, lex_self, keyToks, keyToks]
    show PyProof.Rows.lexLt itemOrd (Sum.inl (a : Int) :: keyToksAll (A.map HT.nD)) (Sum.inl (b : Int) :: keyToksAll (B.map HT.nD)) = (decide (a < b) || (decide (a = b) && HT.lexN A B))
    rw [lex_cons, lt_inl, lt_inl, ih]
    rcases Nat.lt_trichotomy a b with z | z | z
    · rw [decide_eq_true (show (a : Int) < (b : Int) by omega), decide_eq_true z]
      rfl
    · subst z
      rw [decide_eq_false (Int.lt_irrefl _), decide_eq_false (Nat.lt_irrefl _), decide_eq_true rfl]
      cases HT.lexN A B <;> rfl
    · rw [decide_eq_false (show ¬ (a : Int) < (b : Int) by omega), decide_eq_true (show (b : Int) < (a : Int) by omega), decide_eq_false (by omega), decide_eq_false (by omega)]
      rfl
/-- min(x, y) of tuples of naturals of one length -/
def rMin2T (K : PySem.W.Frag) : List V → Hp → VK → Prop := fun vs H Q => ∃ (p q : Addr) (A B : List Nat), vs = [V.ref p, V.ref q] ∧ H p = some (.tup (A.map HT.natV)) ∧ H q = some (.tup (B.map HT.natV)) ∧ A.length = B.length ∧ Q (if HT.lexN B A = true then .ref q else .ref p) H
theorem dp_nats {K : PySem.W.Frag} {H : Hp} {p : Addr} {A : List Nat} (h : H p = some (.tup (A.map HT.natV))) : Dp K H (.ref p) (.tuple (A.map HT.nD)) := by
  have key : ∀ A : List Nat, DpAll K H (A.map HT.natV) (A.map HT.nD) := fun A => by
    induction A with
    | nil => exact .nil
    | cons a A ih => exact .cons (.int _) ih
  exact .tup (SqT.of h) (key A)
theorem cr_min2T {X : Cx} (hc : X.calm = true) (hu : X.A.units + 64 < cLine) : CallR X (.builtin "min") (rMin2T X.K) := by
  intro pins s σ H vs us Q I r h
  obtain ⟨p, q, A, B, rfl, hp, hq, l, k⟩ := h
  obtain ⟨u, v, rfl, r1, r2⟩ := vals2 r
  obtain ⟨as, ra⟩ := Dp.reads I _ _ _ (dp_nats hp) r1
  obtain ⟨bs, rb⟩ := Dp.reads I _ _ _ (dp_nats hq) r2
  have dep : ∀ A : List Nat, PyData.depthAll (A.map HT.nD) = 0 := fun A => by
    induction A with
    | nil => rfl
    | cons a A ih => show max 0 (PyData.depthAll _) = 0; rw [ih]; rfl
  have alk : ∀ A B : List Nat, alikeAll (A.map HT.nD) (B.map HT.nD) = true := fun A => by
    induction A with
    | nil => intro B; rw [List.map_nil, alikeAll]
    | cons a A ih =>
      intro B
      cases B with
      | nil => rfl
      | cons b B =>
        rw [List.map_cons, List.map_cons, show HT.nD a = .int (a : Int) from rfl, show HT.nD b = .int (b : Int) from rfl, alikeAll, ih B, alike]
        rfl
  refine min_two_data (I.ok.hd hc) ra rb ⟨fun x hx y hy => ?_, fun x hx e => ?_⟩ ?_ fun h' tk kp => ?_
  · simp only [List.mem_cons, List.not_mem_nil, or_false] at hx hy
    rcases hx with rfl | rfl <;> rcases hy with rfl | rfl <;> (rw [alike]; exact alk _ _)
  · simp only [List.mem_cons, List.not_mem_nil, or_false] at hx
    rcases hx with rfl | rfl <;> cases e
  · have d1 := dep A
    have d2 := dep B
    have : PyData.depthAll [.tuple (A.map HT.nD), .tuple (B.map HT.nD)] ≤ 1 := by
      show max (PyData.depthAll (A.map HT.nD) + 1) (max (PyData.depthAll (B.map HT.nD) + 1) 0) ≤ 1
      omega
    omega
  · rw [lt_nats B A l.symm]
    refine ⟨_, H, I.kept kp, ?_, k⟩
    by_cases c : HT.lexN B A = true
    · rw [if_pos c, if_pos c]; exact r2
    · rw [if_neg c, if_neg c]; exact r1
/-- a walk over the keys of a locked dict -/
theorem for_keysK {d : Addr} {o : Obj} {kvs : List (Key × V)} {g : TG} {tb : TS} {D : Ends} {σ : St} {H : Hp} (Pv : Nat → St → Hp → Prop) (h0 : Pv 0 σ H) (hl : ∀ i σ H, i ≤ kvs.length → Pv i σ H → H d = some (.frz o (.dK kvs)))
    (hs : ∀ i k v σ H, kvs[i]? = some (k, v) → Pv i σ H → g (kV k) σ H fun σ2 H2 => tb { D with nx := Pv (i + 1), ct := Pv (i + 1), bk := D.nx } σ2 H2) (hd : ∀ σ H, Pv kvs.length σ H → D.nx σ H) :
    ∃ W : Nat → Nat → St → Hp → Prop, (∃ m, W 0 m σ H) ∧ ∀ i m σ H, W i m σ H →
      ((Itk d o kvs).stop i H ∧ D.nx σ H) ∨ ((Itk d o kvs).go i H ∧ ∃ N : St → Hp → Prop, (∀ σ' H', N σ' H' → ∃ m', m' < m ∧ W (i + 1) m' σ' H') ∧ ∀ x H', (Itk d o kvs).yld i H x H' → g x σ H' fun σ2 H2 => tb { D with nx := N, ct := N, bk := D.nx } σ2 H2) := by
  refine ⟨fun i m σ H => m = kvs.length - i ∧ i ≤ kvs.length ∧ Pv i σ H, ⟨kvs.length, by simp, Nat.zero_le _, h0⟩, ?_⟩
  rintro i m σ H ⟨rfl, hi, p⟩
  have e := hl i σ H hi p
  by_cases lt : i < kvs.length
  · refine .inr ⟨⟨e, lt⟩, Pv (i + 1), fun σ' H' p' => ⟨kvs.length - (i + 1), by omega, rfl, lt, p'⟩, fun x H' y => ?_⟩
    obtain ⟨e1, k, v, e2, e3⟩ := y
    subst e1 e3
    exact hs i k v σ _ e2 p
  · obtain rfl : i = kvs.length := by omega
    exact .inl ⟨⟨e, Nat.le_refl _⟩, hd σ H p⟩
/-- .. within a comprehension -/
theorem lc_keysK {d : Addr} {o : Obj} {kvs : List (Key × V)} {g : TG} {tt : TT} {te : TE} {vs : List Nat} {σ : St} {H1 : Hp} {D : Addr} {Qd : Hp → Prop} (Pv : Nat → Hp → Prop) (h0 : Pv 0 (upd H1 D (.lst []))) (hl : ∀ i H, i ≤ kvs.length → Pv i H → H d = some (.frz o (.dK kvs)))
    (hs : ∀ i k v H, kvs[i]? = some (k, v) → Pv i H → g (kV k) (wipe σ vs) H fun σ2 H2 => wipe σ2 vs = wipe σ vs ∧ tt σ2 H2 fun b H3 => if b = true then te σ2 H3 fun y H4 => ∃ acc, H4 D = some (.lst acc) ∧ acc.length < sizeLine ∧ Pv (i + 1) (upd H4 D (.lst (acc ++ [y]))) else Pv (i + 1) H3) (hd : ∀ H, Pv kvs.length H → Qd H) :
    ∃ W : Nat → Nat → Hp → Prop, (∃ m, W 0 m (upd H1 D (.lst []))) ∧ ∀ i m H, W i m H →
      ((Itk d o kvs).stop i H ∧ Qd H) ∨ ((Itk d o kvs).go i H ∧ ∃ Nx : Hp → Prop, (∀ H', Nx H' → ∃ m', m' < m ∧ W (i + 1) m' H') ∧ ∀ x H', (Itk d o kvs).yld i H x H' → g x (wipe σ vs) H' fun σ2 H2 => wipe σ2 vs = wipe σ vs ∧ tt σ2 H2 fun b H3 =>
        if b = true then te σ2 H3 fun y H4 => ∃ acc, H4 D = some (.lst acc) ∧ acc.length < sizeLine ∧ Nx (upd H4 D (.lst (acc ++ [y]))) else Nx H3) := by
  refine ⟨fun i m H => m = kvs.length - i ∧ i ≤ kvs.length ∧ Pv i H, ⟨kvs.length, by simp, Nat.zero_le _, h0⟩, ?_⟩
  rintro i m H ⟨rfl, hi, p⟩
  have e := hl i H hi p
  by_cases lt : i < kvs.length
  · refine .inr ⟨⟨e, lt⟩, Pv (i + 1), fun H' p' => ⟨kvs.length - (i + 1), by omega, rfl, lt, p'⟩, fun x H' y => ?_⟩
    obtain ⟨e1, k, v, e2, e3⟩ := y
    subst e1 e3
    exact hs i k v _ e2 p
  · obtain rfl : i = kvs.length := by omega
    exact .inl ⟨⟨e, Nat.le_refl _⟩, hd H p⟩
end L2
namespace HT
open PySem L2
theorem lt1 {n c : Nat} (h : n + 64 < c) : n + 1 < c := by omega
theorem free_of {H H' : Hp} (s : Same H H') {p : Addr} (h : H' p = none) : H p = none := by
  cases hh : H p with
  | none => rfl
  | some u => rw [s _ _ hh] at h; cases h
theorem nodup_le : ∀ {C R : List Int}, C.Nodup → (∀ y ∈ C, y ∈ R) → C.length ≤ R.length
  | [], _, _, _ => Nat.zero_le _
  | y :: C, R, n, h => by
    rw [List.nodup_cons] at n
    have m := h y List.mem_cons_self
    have ih := nodup_le (C := C) (R := R.erase y) n.2 fun z hz => (List.mem_erase_of_ne (fun e => n.1 (by rw [← e]; exact hz))).mpr (h z (List.mem_cons_of_mem _ hz))
    rw [List.length_erase_of_mem m] at ih
    have : 0 < R.length := List.length_pos_of_mem m
    show C.length + 1 ≤ _
    omega
theorem win_len {s M : Int} (M0 : 0 ≤ M) {ds : List Int} (nd : ds.Nodup) (w : ∀ x ∈ ds, s - M ≤ x ∧ x ≤ s + M) : (ds.length : Int) ≤ 2 * M + 1 := by
  have := nodup_le (R := (List.range (2 * M + 1).toNat).map fun k : Nat => s - M + (k : Int)) nd fun y hy => by
    obtain ⟨a, b⟩ := w y hy
    exact List.mem_map.mpr ⟨(y - (s - M)).toNat, List.mem_range.mpr (by omega), by omega⟩
  rw [List.length_map, List.length_range] at this
  omega
theorem shaped_ints (A : List Int) : SeqAt.shaped (.list (A.map PyData.int)) = true := by
  have key : ∀ A : List Int, PyData.canLayAll0 (A.map PyData.int) = true ∧ PyData.depthAll (A.map PyData.int) ≤ 1 := fun A => by
    induction A with
    | nil => exact ⟨rfl, Nat.zero_le _⟩
    | cons a A ih => exact ⟨by simp [PyData.canLayAll0, PyData.canLay0, ih.1], by show max (PyData.depth (.int a)) (PyData.depthAll (A.map PyData.int)) ≤ 1; exact Nat.max_le.mpr ⟨by simp [PyData.depth], ih.2⟩⟩
  obtain ⟨a, b⟩ := key A
  unfold SeqAt.shaped
  rw [Bool.and_eq_true]
  refine ⟨a, decide_eq_true ?_⟩
  show PyData.depthAll (A.map PyData.int) + 1 ≤ 64
  omega
theorem dp_ints {K : PySem.W.Frag} {H : Hp} {p : Addr} {A : List Int} (h : H p = some (.lst (A.map V.int))) : Dp K H (.ref p) (.list (A.map PyData.int)) := by
  have key : ∀ A : List Int, DpAll K H (A.map V.int) (A.map PyData.int) := fun A => by
    induction A with
    | nil => exact .nil
    | cons a A ih => exact .cons (.int _) ih
  exact .lst (SqL.of h) (key A)
theorem eqv_ints (A B : List Int) : PyData.eqv (.list (A.map PyData.int)) (.list (B.map PyData.int)) = decide (A = B) := by
  rw [PyData.eqv]
  induction A generalizing B with
  | nil => cases B with
    | nil => rfl
    | cons b B => rfl
  | cons a A ih => cases B with
    | nil => rfl
    | cons b B =>
      rw [List.map_cons, List.map_cons, PyData.eqvAll, ih, PyData.eqv]
      by_cases x : a = b
      · subst x
        by_cases y : A = B
        · subst y; simp
        · rw [decide_eq_false y, decide_eq_false (by simpa using y)]; simp
      · rw [decide_eq_false (show ¬ a :: A = b :: B by intro h; injection h with h1 h2; exact x h1)]
        simp [x]
theorem snoc_iff {A : Prop} {x now : Int} {k j : Nat} : ((A ∨ (x = now ∧ k < j)) ∨ (x = now ∧ k = j)) ↔ (A ∨ (x = now ∧ k < j + 1)) := by
  constructor
  · rintro ((a | ⟨a, b⟩) | ⟨a, b⟩)
    · exact .inl a
    · exact .inr ⟨a, by omega⟩
    · exact .inr ⟨a, by omega⟩
  · rintro (a | ⟨a, b⟩)
    · exact .inl (.inl a)
    · by_cases e : k = j
      · exact .inr ⟨a, e⟩
      · exact .inl (.inr ⟨a, by omega⟩)
/-- lists of naturals, as tuples, under ints -/
def PK (H : Hp) (kvs : List (Key × V)) (ds : List Int) (g : Int → List Nat) : Prop := kvs.map (·.1) = ds.map (Sum.inl : Int → Key) ∧ (∀ m : Int, m ∉ ds → valV kvs (Sum.inl m : Key) = none) ∧ ∀ m : Int, m ∈ ds → ∃ p, valV kvs (Sum.inl m : Key) = some (.ref p) ∧ H p = some (.tup ((g m).map natV))
theorem PK.same {H H' : Hp} {kvs : List (Key × V)} {ds : List Int} {g : Int → List Nat} (h : PK H kvs ds g) (s : Same H H') : PK H' kvs ds g := ⟨h.1, h.2.1, fun m hm => let ⟨p, a, b⟩ := h.2.2 m hm; ⟨p, a, s _ _ b⟩⟩
theorem PK.upd {H : Hp} {kd : Addr} {kvs kvs' : List (Key × V)} {o : HO} {ds : List Int} {g : Int → List Nat} (h : PK H kvs ds g) (hk : H kd = some (.dK kvs')) : PK (upd H kd o) kvs ds g := ⟨h.1, h.2.1, fun m hm => let ⟨p, a, b⟩ := h.2.2 m hm; ⟨p, a, (upd_ne (ne_of b hk (by intro z; cases z))).trans b⟩⟩
theorem PK.updo {H : Hp} {kd : Addr} {kvs : List (Key × V)} {o o' : HO} {ds : List Int} {g : Int → List Nat} (h : PK H kvs ds g) (hk : H kd = some o') (no : ∀ xs, o' ≠ .tup xs) : PK (L2.upd H kd o) kvs ds g := ⟨h.1, h.2.1, fun m hm => let ⟨p, a, b⟩ := h.2.2 m hm; ⟨p, a, (upd_ne (ne_of b hk (fun z => no _ z.symm))).trans b⟩⟩
theorem PK.cong {H : Hp} {kvs : List (Key × V)} {ds ds' : List Int} {g g' : Int → List Nat} (h : PK H kvs ds g) (e : ds = ds') (e2 : ∀ m ∈ ds', g m = g' m) : PK H kvs ds' g' := by
  subst e
  exact ⟨h.1, h.2.1, fun m hm => by rw [← e2 m hm]; exact h.2.2 m hm⟩
theorem PK.len {H : Hp} {kvs : List (Key × V)} {ds : List Int} {g : Int → List Nat} (h : PK H kvs ds g) : kvs.length = ds.length := by
  have := congrArg List.length h.1
  rwa [List.length_map, List.length_map] at this
theorem PK.put {H : Hp} {kvs : List (Key × V)} {ds : List Int} {g : Int → List Nat} (h : PK H kvs ds g) {m : Int} {p : Addr} {q : List Nat} (hp : H p = some (.tup (q.map natV))) : PK H (putK kvs (Sum.inl m) (.ref p)) (if m ∈ ds then ds else ds ++ [m]) (fun x => if x = m then q else g x) := by
  refine ⟨?_, fun x hx => ?_, fun x hx => ?_⟩
  · by_cases c : m ∈ ds
    · rw [if_pos c]
      obtain ⟨p', e, _⟩ := h.2.2 m c
      unfold putK
      rw [valV_any, e, if_pos (show (some (V.ref p')).isSome = true from rfl), List.map_map, ← h.1]
      refine List.map_congr_left fun kv _ => ?_
      show (if kv.1 = Sum.inl m then (kv.1, V.ref p) else kv).1 = kv.1
      split <;> rfl
    · rw [if_neg c, putK_new _ (h.2.1 m c), List.map_append, List.map_append, h.1]
      rfl
  · have nx : x ≠ m ∧ x ∉ ds := by
      by_cases c : m ∈ ds
      · rw [if_pos c] at hx
        exact ⟨fun e => hx (by rw [e]; exact c), hx⟩
      · rw [if_neg c] at hx
        exact ⟨fun e => hx (List.mem_append_right _ (List.mem_singleton.mpr e)), fun z => hx (List.mem_append_left _ z)⟩
    rw [valV_put, if_neg (fun z => nx.1 (Sum.inl.inj z))]
    exact h.2.1 x nx.2
  · rw [valV_put]
    show ∃ p_1, (if (Sum.inl x : Key) = Sum.inl m then some (V.ref p) else valV kvs (Sum.inl x)) = some (V.ref p_1) ∧ H p_1 = some (HO.tup ((if x = m then q else g x).map natV))
    by_cases e : x = m
    · rw [if_pos (congrArg Sum.inl e), if_pos e]
      exact ⟨p, rfl, hp⟩
    · rw [if_neg (fun z => e (Sum.inl.inj z)), if_neg e]
      refine h.2.2 x ?_
      by_cases c : m ∈ ds
      · rwa [if_pos c] at hx
      · rw [if_neg c] at hx
        exact (List.mem_append.mp hx).resolve_right fun z => e (List.mem_singleton.mp z)
def spLevels : Sp := fun vs H Q _ => ∃ (l : Addr) (xs : List V) (ss : List Sd) (s M : Int), vs = [.ref l, .int s, .int M] ∧ SidesAt H l xs ss ∧ (-100 ≤ s ∧ s ≤ 100) ∧ (0 ≤ M ∧ M ≤ 300) ∧
  ∀ (kd : Addr) (kvs : List (Key × V)) (ds : List Int) (g : Int → List Nat) (n : Nat) H', H kd = none → Same H H' → H' kd = some (.dK kvs) → PK H' kvs ds g → Lev ss s M n ds g [] → n ≤ ds.length → Q (.ref kd) H'
section
variable {P : Program} {w : World} {K : PySem.W.Frag} {mg : Str → Option Value} {base : Heap} {f1 : Addr} {d1 : FuncData}
theorem ok_L_levels {f : Addr} {fd : FuncData} (F : Fun K "_law_levels" "_law_levels" s_L_levels f fd) (B : Blt mg) (MT : MaxT mg) (hso : mg "sorted" = none) (hli : mg "list" = none) (Wr : Cal P w K mg base "_law_written" 1 ["_law_side_here", "_law_value"] spDue f1 d1) : FnOk P w K mg base CX0 2 f fd ["_law_sides", "_law_start", "_law_most"] spLevels := by
  refine F.ok sc_L_levels (fun vs H Q E h => ?_) (fun cdv A outer s0 H vs Q E hr h => ?_)
  · obtain ⟨l, xs, ss, s, M, rfl, _⟩ := h
    rfl
  · obtain ⟨l, xs, ss, s, M, rfl, SS, sb, Mb, q⟩ := h
    have nd := sc_L_levels.nd
    refine ⟨_, (pss_cons (ps_mid (ps_set (i := 3) nd rfl (Or.inl rfl) (pe_disp (pps_cons (pv 1) (pe_tup pa_nil) pps_nil) rfl rfl nofun (by decide))))
      (pss_cons (ps_mid (ps_set (i := 4) nd rfl (Or.inl rfl) (pe_lst (pa_cons (pv 1) pa_nil))))
      (pss_cons (ps_while PassesOwn.never (pt_cmpR (op_neD hr.units) (pv 4) (pe_lst pa_nil) (nomark _)) (pss_cons (ps_mid (ps_set (i := 5) nd rfl (Or.inl rfl) pe_dnewK))
      (pss_cons (ps_mid (ps_for PassesOwn.never rfl (pi_list (pv 4)) (pg_name (i := 6) nd rfl (Or.inl rfl)) (pss_one (ps_mid (ps_for PassesOwn.never rfl (pi_range1 (by rfl) B.range (pa_cons (pe_callB call_len_seq (by rfl) B.len PySem.boot_len (pa_cons (pv 0) pa_nil)) pa_nil)) (pg_name (i := 7) nd rfl (Or.inl rfl)) (pss_cons (ps_mid (ps_set (i := 8) nd rfl (Or.inl rfl) (pcl Wr hr (by decide) (by rfl) (pa_cons (pe_ix ix_list (pv 0) (pv 7) (fun _ _ => rfl)) (pa_cons (pv 6) pa_nil)))))
      (pss_cons (ps_mid (ps_set (i := 9) nd rfl (Or.inl rfl) (pe_op op_catA (pe_dget (lt1 hr.units) (pv 3) (pv 6) (fun _ _ => rfl)) (pe_tup (pa_cons (pv 7) pa_nil)))))
      (pss_one (ps_if (pt_mid (PW.pt (pw_and (pt_cmpR op_le (pe_callB call_abs (by rfl) B.abs (by decide +kernel) (pa_cons (pe_op op_sub (pv 8) (pv 1)) pa_nil)) (pv 2) (nomark _)) (pw_and1 (pt_cmp (pc_dnotin (lt1 hr.units) (pv 8) (pv 3)) (by rfl)))))) (pss_one (ps_mid (ps_dput (lt1 hr.units) (pv 5) (pv 8) (pe_callB (cr_min2T rfl hr.units) (by rfl) MT.min (by decide +kernel) (pa_cons (pv 9) (pa_cons (pe_dget2 (lt1 hr.units) (pv 5) (pv 8) (pv 9) ⟨rfl, rfl, rfl, rfl⟩) pa_nil))) rfl))) pss_nil)))))))))
      (pss_cons (ps_mid (ps_lock (ps_for PassesOwn.never rfl (pi_keys (pv 5)) (pg_name (i := 8) nd rfl (Or.inl rfl)) (pss_one (ps_mid (ps_dput (lt1 hr.units) (pv 3) (pv 8) (pe_dget (lt1 hr.units) (pv 5) (pv 8) (fun _ _ => rfl)) rfl))))))
      (pss_one (ps_mid (ps_set (i := 4) nd rfl (Or.inl rfl) (pe_callB cr_sortedI (by rfl) hso (by decide +kernel) (pa_cons (pe_callTy (call_listD rfl) (by rfl) hli (by decide +kernel) (pa_cons (pv 5) pa_nil)) pa_nil)))))))))
      (pss_one (ps_ret (pv 3)))))), ?_⟩
    walk_at "rd"
    refine ⟨fun σ' H' => ∃ kd kvs, σ' = [some (.ref l), some (.int s), some (.int M), some (.ref kd), none, none, none, none, none, none] ∧ H kd = none ∧ Same H H' ∧ H' kd = some (.dK kvs) ∧ PK H' kvs [s] (fun _ => []), ?_, ?_⟩
    · walk_at "rd"
      intro Kd nKd
      walk_at "rd"
      refine ⟨(by show 0 ≤ sizeLine; decide), fun T nT => ?_⟩
      have neT : T ≠ Kd := fun e => by rw [e, upd_same] at nT; cases nT
      refine ⟨(upd_ne (fun e => neT e.symm)).trans upd_same, [(Sum.inl s, .ref T)], rfl, (by show 1 ≤ 15; decide), ?_⟩
      have gT : upd (upd (upd H Kd (.dK [])) T (.tup [])) Kd (.dK (mergeK [] [((Sum.inl s : Key), V.ref T)])) T = some (.tup []) := by rw [upd_ne neT, upd_same]
      have gK : upd (upd (upd H Kd (.dK [])) T (.tup [])) Kd (.dK (mergeK [] [((Sum.inl s : Key), V.ref T)])) Kd = some (.dK [((Sum.inl s : Key), V.ref T)]) := upd_same
      have sK : Same H (upd (upd (upd H Kd (.dK [])) T (.tup [])) Kd (.dK (mergeK [] [((Sum.inl s : Key), V.ref T)]))) := fun b u z => by
        have nb := ne_of_none z nKd
        have nb2 : b ≠ T := ne_of_none ((upd_ne nb).trans z) nT
        rw [upd_ne nb, upd_ne nb2, upd_ne nb]
        exact z
      refine ⟨Kd, _, rfl, nKd, sK, gK, rfl, fun m hm => ?_, fun m hm => ?_⟩
      · exact valV_neg fun z => hm (List.mem_singleton.mpr (Sum.inl.inj z).symm)
      · rw [List.mem_singleton.mp hm]
        exact ⟨T, valV_pos rfl, gT⟩
    rintro σ' H1 ⟨kd, kvs, rfl, nkd, s1, hk, pk⟩
    walk_at "rd"
    refine ⟨fun σ' H' => ∃ lp, σ' = [some (.ref l), some (.int s), some (.int M), some (.ref kd), some (.ref lp), none, none, none, none, none] ∧ H lp = none ∧ Same H H' ∧ H' lp = some (.lst ([s].map V.int)) ∧ H' kd = some (.dK kvs) ∧ PK H' kvs [s] (fun _ => []), ?_, ?_⟩
    · walk_at "rd"
      refine ⟨(by show 1 ≤ sizeLine; decide), fun b1 nb1 => ?_⟩
      exact ⟨b1, rfl, free_of s1 nb1, s1.trans (same_upd nb1), upd_same, (upd_ne (ne_of_none hk nb1)).trans hk, pk.same (same_upd nb1)⟩
    rintro σ' H2 ⟨lp, rfl, nlp, s2, hlp, hk2, pk2⟩
    clear hk pk s1
    walk_at "rd"
    refine ⟨fun x st H' => ∃ (n : Nat) (lp : Addr) (L ds : List Int) (g : Int → List Nat) (kvs : List (Key × V)) (x5 x6 x7 x8 x9 : Option V), x = 2 * ((2 * M + 1).toNat - ds.length) + (if L = [] then 0 else 1) ∧ st = [some (.ref l), some (.int s), some (.int M), some (.ref kd), some (.ref lp), x5, x6, x7, x8, x9] ∧ Same H H' ∧ H lp = none ∧ lp ≠ kd ∧ H' lp = some (.lst (L.map V.int)) ∧ H' kd = some (.dK kvs) ∧ PK H' kvs ds g ∧ Lev ss s M n ds g L ∧ n ≤ ds.length, ⟨_, 0, lp, [s], [s], fun _ => [], kvs, none, none, none, none, none, rfl, rfl, s2, nlp, ne_of hlp hk2 (by intro z; cases z), hlp, hk2, pk2, lev_0, Nat.zero_le _⟩, ?_⟩
    clear hk2 pk2 hlp nlp s2 kvs lp
    rintro _ st Ha ⟨n, lp, L, ds, g, kvs, x5, x6, x7, x8, x9, rfl, rfl, sa, nlp, nlk, hlp, hk, pk, LV, nds⟩
    walk_at "rd"
    refine ⟨(by show 0 ≤ sizeLine; decide), fun e ne => ?_⟩
    have ge : upd Ha e (.lst []) e = some (.lst (([] : List Int).map V.int)) := upd_same
    have se : Same Ha (upd Ha e (.lst [])) := same_upd ne
    generalize upd Ha e (.lst []) = Hb at ge se ⊢
    have sb := sa.trans se
    have hkb := se _ _ hk
    have hlb := se _ _ hlp
    have pkb := pk.same se
    clear hk hlp pk
    refine ⟨_, _, dp_ints hlb, dp_ints (A := []) ge, shaped_ints L, shaped_ints [], ?_⟩
    rw [eqv_ints]
    have dsl : (ds.length : Int) ≤ 2 * M + 1 := win_len Mb.1 LV.nd (LV.win Mb.1)
    by_cases c : L = []
    · subst c
      refine ⟨_, rfl, ?_⟩
      refine ite2 (fun z => absurd z (by decide)) (fun _ => ?_)
      walk_at "rd"
      exact q kd kvs ds g n Hb nkd sb hkb pkb LV nds
    refine ⟨_, rfl, ?_⟩
    refine ite2 (fun _ => ?_) (fun z => absurd z (by rw [decide_eq_false c]; decide))
    rw [if_neg c]
    refine ⟨fun st H' => ∃ (n : Nat) (lp : Addr) (L' ds' : List Int) (g : Int → List Nat) (kvs : List (Key × V)) (x5 x6 x7 x8 x9 : Option V), st = [some (.ref l), some (.int s), some (.int M), some (.ref kd), some (.ref lp), x5, x6, x7, x8, x9] ∧ Same H H' ∧ H lp = none ∧ lp ≠ kd ∧ H' lp = some (.lst (L'.map V.int)) ∧ H' kd = some (.dK kvs) ∧ PK H' kvs ds' g ∧ Lev ss s M n ds' g L' ∧ n ≤ ds'.length ∧ (2 * ((2 * M + 1).toNat - ds'.length) + (if L' = [] then 0 else 1)) < 2 * ((2 * M + 1).toNat - ds.length) + 1,
      fun st H' ⟨n, lp, L', ds', g, kvs, x5, x6, x7, x8, x9, e1, e2, e3, e4, e5, e6, e7, e8, e9, e10⟩ => ⟨_, e10, n, lp, L', ds', g, kvs, x5, x6, x7, x8, x9, rfl, e1, e2, e3, e4, e5, e6, e7, e8, e9⟩, ?_⟩
    walk_at "rd"
    refine ⟨fun st H' => ∃ fp, st = [some (.ref l), some (.int s), some (.int M), some (.ref kd), some (.ref lp), some (.ref fp), x6, x7, x8, x9] ∧ H fp = none ∧ Same H H' ∧ H' lp = some (.lst (L.map V.int)) ∧ H' kd = some (.dK kvs) ∧ PK H' kvs ds g ∧ H' fp = some (.dK []) ∧ fp ≠ kd, ?_, ?_⟩
    · walk_at "rd"
      refine fun fp nfd => ?_
      have sF := same_upd (o := .dK []) nfd
      exact ⟨fp, rfl, free_of sb nfd, sb.trans sF, sF _ _ hlb, sF _ _ hkb, pkb.same sF, upd_same, fun z => by rw [z, hkb] at nfd; cases nfd⟩
    rintro st Hc ⟨fp, rfl, nfd, sc, hlc, hkc, pkc, hfc, nfk⟩
    clear hkb hlb pkb ge se sb
    walk_at "rd"
    refine ⟨fun st H' => ∃ fs h kvsF y6 y7 y8 y9, st = [some (.ref l), some (.int s), some (.int M), some (.ref kd), some (.ref lp), some (.ref fp), y6, y7, y8, y9] ∧ Same H H' ∧ H' lp = some (.lst (L.map V.int)) ∧ H' kd = some (.dK kvs) ∧ PK H' kvs ds g ∧ H' fp = some (.dK kvsF) ∧ PK H' kvsF fs h ∧ Fur ss s M ds g (fun x k => x ∈ L ∧ k < ss.length) fs h, ?_, ?_⟩
    · walk_at "rd"
      refine ⟨⟨_, SqL.of hlc⟩, ?_⟩
      refine for_list (K := K) (a := lp) (xs := L.map V.int) (fun i st H' => ∃ fs h kvsF y6 y7 y8 y9, st = [some (.ref l), some (.int s), some (.int M), some (.ref kd), some (.ref lp), some (.ref fp), y6, y7, y8, y9] ∧ Same H H' ∧ H' lp = some (.lst (L.map V.int)) ∧ H' kd = some (.dK kvs) ∧ PK H' kvs ds g ∧ H' fp = some (.dK kvsF) ∧ PK H' kvsF fs h ∧ Fur ss s M ds g (fun x k => x ∈ L.take i ∧ k < ss.length) fs h)
        ⟨[], fun _ => [], [], x6, x7, x8, x9, rfl, sc, hlc, hkc, pkc, hfc, ⟨rfl, fun m _ => rfl, fun m z => (nomatch z)⟩, fur_nil.cong fun x k => ⟨fun z => z.elim, fun z => by rw [List.take_zero] at z; exact nomatch z.1⟩⟩ (fun _ _ _ _ ⟨_, _, _, _, _, _, _, _, _, z, _⟩ => SqL.of z) ?_ ?_
      · clear hlc hkc pkc hfc sc
        rintro i y st Hd ey ⟨fs, h, kvsF, y6, y7, y8, y9, rfl, sd, hld, hkd, pkd, hfd, pf, FF⟩
        rw [List.getElem?_map] at ey
        obtain ⟨now, ex, rfl⟩ := Option.map_eq_some_iff.mp ey
        have nL : now ∈ L := List.mem_of_getElem? ex
        have nwin := LV.win Mb.1 now ((LV.lev now).mp nL).1
        have tk : L.take (i + 1) = L.take i ++ [now] := by rw [List.take_succ, ex]; rfl
        refine ⟨fun st H' => ∃ fs h kvsF y6 y7 y8 y9, st = [some (.ref l), some (.int s), some (.int M), some (.ref kd), some (.ref lp), some (.ref fp), y6, y7, y8, y9] ∧ Same H H' ∧ H' lp = some (.lst (L.map V.int)) ∧ H' kd = some (.dK kvs) ∧ PK H' kvs ds g ∧ H' fp = some (.dK kvsF) ∧ PK H' kvsF fs h ∧ Fur ss s M ds g (fun x k => x ∈ L.take (i + 1) ∧ k < ss.length) fs h, ?_, fun σ' H' z => z⟩
        walk_at "rd"
        refine ⟨l, _, rfl, .inl (SqL.of (sd _ _ SS.hl)), ?_⟩
        walk_at "rd"
        have l4 := SS.l4
        rw [SS.len]
        refine ⟨by omega, by omega, ?_⟩
        refine for_range (fun j st H' => ∃ fs h kvsF y7 y8 y9, st = [some (.ref l), some (.int s), some (.int M), some (.ref kd), some (.ref lp), some (.ref fp), some (.int now), y7, y8, y9] ∧ Same H H' ∧ H' lp = some (.lst (L.map V.int)) ∧ H' kd = some (.dK kvs) ∧ PK H' kvs ds g ∧ H' fp = some (.dK kvsF) ∧ PK H' kvsF fs h ∧ Fur ss s M ds g (fun x k => (x ∈ L.take i ∧ k < ss.length) ∨ (x = now ∧ k < j)) fs h)
          ⟨fs, h, kvsF, y7, y8, y9, rfl, sd, hld, hkd, pkd, hfd, pf, FF.cong fun x k => ⟨.inl, fun z => z.resolve_right fun z => Nat.not_lt_zero _ z.2⟩⟩ ?_ ?_
        · clear hld hkd pkd hfd pf FF sd
          rintro j st He hj ⟨fs, h, kvsF, y7, y8, y9, rfl, se, hle, hke, pke, hfe, pf, FF⟩
          have jl : j < ss.length := by omega
          have ed : ss[j]? = some (ss.getD j sd0) := by rw [List.getD_eq_getElem?_getD, List.getElem?_eq_getElem jl]; rfl
          obtain ⟨q6, eq, hq, sp⟩ := SS.at_ _ _ ed
          refine ⟨fun st H' => ∃ y9, st = [some (.ref l), some (.int s), some (.int M), some (.ref kd), some (.ref lp), some (.ref fp), some (.int now), some (.int (0 + (j : Int))), some (.int (stN ss now j)), y9] ∧ Same He H', ?_, ?_⟩
          · walk_at "rd"
            refine ⟨l, _, _, _, rfl, rfl, SqL.of (se _ _ SS.hl), by rw [Int.zero_add]; exact at_nat eq, ?_⟩
            walk_at "rd"
            refine ⟨q6, _, _, _, now, rfl, se _ _ hq, sp, ⟨by omega, by omega⟩, fun Hf sf => ?_⟩
            exact ⟨y9, rfl, sf⟩
          rintro st Hf ⟨z9, rfl, sf⟩
          rw [Int.zero_add]
          obtain ⟨pg, ekv, hpg⟩ := pke.2.2 now ((LV.lev now).mp nL).1
          have gl : (g now).length = n := ((LV.lev now).mp nL).2
          have dl3 : ds.length ≤ 601 := by omega
          replace hle := sf _ _ hle
          replace hke := sf _ _ hke
          replace pke := pke.same sf
          replace hfe := sf _ _ hfe
          replace pf := pf.same sf
          replace hpg := sf _ _ hpg
          have sef := se.trans sf
          clear sf se
          refine ⟨fun st H' => ∃ p9, st = [some (.ref l), some (.int s), some (.int M), some (.ref kd), some (.ref lp), some (.ref fp), some (.int now), some (.int (j : Int)), some (.int (stN ss now j)), some (.ref p9)] ∧ Same Hf H' ∧ H' p9 = some (.tup ((g now ++ [j]).map natV)), ?_, ?_⟩
          · walk_at "rd"
            refine ⟨kd, .ref pg, rfl, by rw [← ekv]; exact DGet.k (k := Sum.inl now) hke, ?_⟩
            walk_at "rd"
            refine ⟨(by show 1 ≤ sizeLine; decide), fun p2 np2 => ?_⟩
            have s2 := same_upd (o := .tup [natV j]) np2
            refine ⟨pg, p2, _, _, rfl, rfl, SqT.of (s2 _ _ hpg), SqT.of upd_same, ?_, fun z => ?_, fun _ z => (by cases z), fun _ _ p3 np3 => ?_⟩
            · rw [List.length_map, gl]
              exact Nat.le_trans (show n + 1 ≤ 10000 by omega) (by decide)
            · refine ⟨p2, rfl, s2, ?_⟩
              rw [upd_same, List.map_append, z]
              rfl
            refine ⟨p3, rfl, s2.trans (same_upd np3), ?_⟩
            rw [upd_same, List.map_append]
            rfl
          rintro st Hg ⟨p9, rfl, sg, hp9⟩
          replace hle := sg _ _ hle
          replace hke := sg _ _ hke
          replace pke := pke.same sg
          replace hfe := sg _ _ hfe
          replace pf := pf.same sg
          have seg := sef.trans sg
          clear sg sef hpg
          generalize em : stN ss now j = m
          refine ⟨fun b H' => b = decide ((-M ≤ m - s ∧ m - s ≤ M) ∧ m ∉ ds) ∧ H' = Hg, ?_, ?_⟩
          · walk_at "rd"
            refine ite2 (fun b => ?_) (fun b => ?_)
            · walk_at "rd"
              refine ⟨kd, _, rfl, DGet.k (k := Sum.inl m) hke, ?_⟩
              have b := of_decide_eq_true b
              have b2 : -M ≤ m - s ∧ m - s ≤ M := by split at b <;> omega
              refine ⟨_, rfl, ?_, rfl⟩
              by_cases md : m ∈ ds
              · obtain ⟨p', e', _⟩ := pke.2.2 m md
                rw [e', decide_eq_false (fun z => z.2 md)]
                rfl
              · rw [pke.2.1 m md, decide_eq_true ⟨b2, md⟩]
                rfl
            · refine ⟨?_, rfl⟩
              rw [decide_eq_false]
              rintro ⟨z, _⟩
              exact b (decide_eq_true (by split <;> omega))
          rintro b H7 ⟨rfl, rfl⟩
          refine ite2 (fun b => ?_) (fun b => ?_)
          · have b := of_decide_eq_true b
            refine ⟨fun st H' => ∃ fs' h' kvsF' y7 y8 y9, st = [some (.ref l), some (.int s), some (.int M), some (.ref kd), some (.ref lp), some (.ref fp), some (.int now), y7, y8, y9] ∧ Same H H' ∧ H' lp = some (.lst (L.map V.int)) ∧ H' kd = some (.dK kvs) ∧ PK H' kvs ds g ∧ H' fp = some (.dK kvsF') ∧ PK H' kvsF' fs' h' ∧ Fur ss s M ds g (fun x k => (x ∈ L.take i ∧ k < ss.length) ∨ (x = now ∧ k < j + 1)) fs' h', ?_, fun σ' H' z => z⟩
            walk_at "rd"
            refine ⟨.inl ⟨_, .inl hfe⟩, ?_⟩
            walk_at "rd"
            refine ⟨_, DGet.k (k := Sum.inl m) hfe, ?_⟩
            have fl : (kvsF.length : Int) ≤ 601 := by
              have := win_len (s := s) (M := M) Mb.1 FF.nd fun x hx => by have := (FF.src x hx).2.1; omega
              rw [pf.len]
              omega
            refine ⟨p9, ?_⟩
            obtain ⟨pz, B, ez, hpz, lB, ev⟩ : ∃ (pz : Addr) (B : List Nat), (valV kvsF (Sum.inl m : Key)).getD (.ref p9) = .ref pz ∧ H7 pz = some (.tup (B.map natV)) ∧ (g now ++ [j]).length = B.length ∧ (if lexN B (g now ++ [j]) = true then B else g now ++ [j]) = (if m ∈ fs ∧ lexN (h m) (g now ++ [j]) = true then h m else g now ++ [j]) := by
              by_cases mf : m ∈ fs
              · obtain ⟨p', e', hp'⟩ := pf.2.2 m mf
                refine ⟨p', h m, by rw [e']; rfl, hp', ?_, ?_⟩
                · obtain ⟨_, _, x, k, pk', e2, _⟩ := FF.src m mf
                  have : (g x).length = n := by
                    rcases pk' with z | z
                    · exact ((LV.lev x).mp (List.mem_of_mem_take z.1)).2
                    · rw [z.1]; exact gl
                  rw [e2, List.length_append, List.length_append, this, gl]
                  rfl
                · by_cases z : lexN (h m) (g now ++ [j]) = true
                  · rw [if_pos z, if_pos ⟨mf, z⟩]
                  · rw [if_neg z, if_neg fun y => z y.2]
              · refine ⟨p9, g now ++ [j], by rw [pf.2.1 m mf]; rfl, hp9, rfl, ?_⟩
                rw [lexN_irr, if_neg (by decide), if_neg fun z => mf z.1]
            rw [ez]
            refine ⟨pz, _, B, rfl, hp9, hpz, lB, ?_⟩
            walk_at "rd"
            obtain ⟨pq, eq2, hpq⟩ : ∃ pq, (if lexN B (g now ++ [j]) = true then V.ref pz else .ref p9) = .ref pq ∧ H7 pq = some (.tup ((if m ∈ fs ∧ lexN (h m) (g now ++ [j]) = true then h m else g now ++ [j]).map natV)) := by
              rw [← ev]
              by_cases z : lexN B (g now ++ [j]) = true
              · rw [if_pos z, if_pos z]; exact ⟨pz, rfl, hpz⟩
              · rw [if_neg z, if_neg z]; exact ⟨p9, rfl, hp9⟩
            rw [eq2]
            refine ⟨fp, _, rfl, DPut.k (k := Sum.inl m) hfe (Nat.lt_of_lt_of_le (by omega : kvsF.length < 10000) (by decide)), ?_⟩
            have PF := FF.put (n := n) (x0 := now) (k0 := j) (fun x k z => by
              rcases z with z | z
              · exact ((LV.lev x).mp (List.mem_of_mem_take z.1)).2
              · rw [z.1]; exact gl) gl (by rw [em]; exact b.1) (by rw [em]; exact b.2)
            rw [em] at PF
            exact ⟨_, _, _, _, _, _, rfl, fun c u z => (upd_ne (ne_of_none z nfd)).trans (seg _ _ z), (upd_ne (ne_of hle hfe (by intro z; cases z))).trans hle, (upd_ne nfk.symm).trans hke, pke.upd hfe, upd_same, (pf.put hpq).upd hfe, PF.cong fun x k => snoc_iff⟩
          · refine ⟨fs, h, kvsF, _, _, _, rfl, seg, hle, hke, pke, hfe, pf, (FF.skip (x0 := now) (k0 := j) (by rw [em]; exact fun z => b (decide_eq_true z))).cong fun x k => ?_⟩
            exact snoc_iff
        · rintro st He ⟨fs, h, kvsF, y7, y8, y9, rfl, se, hle, hke, pke, hfe, pf, FF⟩
          refine ⟨fs, h, kvsF, _, y7, y8, y9, rfl, se, hle, hke, pke, hfe, pf, FF.cong fun x k => ?_⟩
          rw [tk, List.mem_append, List.mem_singleton, Int.toNat_natCast]
          constructor
          · rintro (z | z)
            · exact ⟨.inl z.1, z.2⟩
            · exact ⟨.inr z.1, z.2⟩
          · rintro ⟨z | z, y⟩
            · exact .inl ⟨z, y⟩
            · exact .inr ⟨z, y⟩
      · rintro st Hd ⟨fs, h, kvsF, y6, y7, y8, y9, rfl, sd, hld, hkd, pkd, hfd, pf, FF⟩
        exact ⟨fs, h, kvsF, y6, y7, y8, y9, rfl, sd, hld, hkd, pkd, hfd, pf, FF.cong fun x k => by rw [List.length_map, List.take_length]⟩
    rintro st Hd ⟨fs, h, kvsF, y6, y7, y8, y9, rfl, sd, hld, hkd, pkd, hfd, pf, FF⟩
    walk_at "rd"
    refine ⟨fun st H' => ∃ kvs' y8, st = [some (.ref l), some (.int s), some (.int M), some (.ref kd), some (.ref lp), some (.ref fp), y6, y7, y8, y9] ∧ Same H H' ∧ H' lp = some (.lst (L.map V.int)) ∧ H' kd = some (.dK kvs') ∧ PK H' kvs' (ds ++ fs) (fun m => if m ∈ fs then h m else g m) ∧ H' fp = some (.dK kvsF), ?_, ?_⟩
    · walk_at "rd"
      refine ⟨fp, _, hfd, trivial, fun od => ?_⟩
      have hF : upd Hd fp (.frz od (.dK kvsF)) fp = some (.frz od (.dK kvsF)) := upd_same
      have sF : Same H (upd Hd fp (.frz od (.dK kvsF))) := fun c u z => (upd_ne (ne_of_none z nfd)).trans (sd _ _ z)
      have hlF := (upd_ne (o := .frz od (.dK kvsF)) (ne_of hld hfd (by intro z; cases z))).trans hld
      have hkF := (upd_ne (o := .frz od (.dK kvsF)) nfk.symm).trans hkd
      have pkF := pkd.upd (o := .frz od (.dK kvsF)) hfd
      have pfF := pf.upd (o := .frz od (.dK kvsF)) hfd
      generalize upd Hd fp (.frz od (.dK kvsF)) = He at hF sF hlF hkF pkF pfF ⊢
      clear hld hkd pkd hfd pf sd
      have dis : ∀ m ∈ fs, m ∉ ds := fun m hm => (FF.src m hm).1
      walk_at "rd"
      refine ⟨fp, od, rfl, .inl ⟨kvsF, hF, ?_⟩⟩
      refine for_keysK (fun i st H' => ∃ kvs' y8, st = [some (.ref l), some (.int s), some (.int M), some (.ref kd), some (.ref lp), some (.ref fp), y6, y7, y8, y9] ∧ Same H H' ∧ H' lp = some (.lst (L.map V.int)) ∧ H' kd = some (.dK kvs') ∧ PK H' kvs' (ds ++ fs.take i) (fun m => if m ∈ fs.take i then h m else g m) ∧ H' fp = some (.frz od (.dK kvsF)) ∧ PK H' kvsF fs h)
        ⟨kvs, y8, rfl, sF, hlF, hkF, pkF.cong (by rw [List.take_zero, List.append_nil]) (fun m _ => by rw [List.take_zero, if_neg (by simp)]), hF, pfF⟩ (fun i σ H' _ ⟨_, _, _, _, _, _, _, z, _⟩ => z) ?_ ?_
      · clear hF sF hlF hkF pkF pfF
        rintro i k v st Hf ekv ⟨kvs', z8, rfl, sf, hlf, hkf, pkf, hff, pff⟩
        have ek : fs[i]?.map (Sum.inl : Int → Key) = some k := by
          rw [← List.getElem?_map, ← pff.1, List.getElem?_map, ekv]
          rfl
        obtain ⟨m, em, rfl⟩ := Option.map_eq_some_iff.mp ek
        have mf : m ∈ fs := List.mem_of_getElem? em
        have tk : fs.take (i + 1) = fs.take i ++ [m] := by rw [List.take_succ, em]; rfl
        have nt : m ∉ fs.take i := by
          have nd2 : (fs.take (i + 1)).Nodup := FF.nd.sublist (List.take_sublist _ _)
          rw [tk, List.nodup_append] at nd2
          exact fun z => nd2.2.2 m z m (List.mem_singleton.mpr rfl) rfl
        obtain ⟨pm, ev, hpm⟩ := pff.2.2 m mf
        have kl : kvs'.length < 10000 := by
          rw [pkf.len, List.length_append, List.length_take]
          have := win_len (s := s) (M := M) Mb.1 FF.nd fun x hx => by have := (FF.src x hx).2.1; omega
          omega
        walk_at "rd"
        refine ⟨fun st H' => ∃ kvs' y8, st = [some (.ref l), some (.int s), some (.int M), some (.ref kd), some (.ref lp), some (.ref fp), y6, y7, y8, y9] ∧ Same H H' ∧ H' lp = some (.lst (L.map V.int)) ∧ H' kd = some (.dK kvs') ∧ PK H' kvs' (ds ++ fs.take (i + 1)) (fun m => if m ∈ fs.take (i + 1) then h m else g m) ∧ H' fp = some (.frz od (.dK kvsF)) ∧ PK H' kvsF fs h, ?_, fun σ' H' z => z⟩
        walk_at "rd"
        refine ⟨fp, .ref pm, rfl, .inl ⟨kvsF, Sum.inl m, .inr ⟨od, hff⟩, rfl, ev.symm⟩, ?_⟩
        walk_at "rd"
        refine ⟨kd, _, rfl, DPut.k (k := Sum.inl m) hkf (Nat.lt_of_lt_of_le kl (by decide)), ?_⟩
        refine ⟨_, _, rfl, fun c u z => (upd_ne (ne_of_none z nkd)).trans (sf _ _ z), (upd_ne (ne_of hlf hkf (by intro z; cases z))).trans hlf, upd_same, ((pkf.put hpm).upd hkf).cong ?_ (fun x _ => ?_), (upd_ne nfk).trans hff, pff.upd hkf⟩
        · rw [if_neg (fun z => by
            rcases List.mem_append.mp z with z | z
            · exact dis m mf z
            · exact nt z), tk, List.append_assoc]
        · by_cases e : x = m
          · subst e
            rw [if_pos rfl, if_pos (by rw [tk]; exact List.mem_append_right _ (List.mem_singleton.mpr rfl))]
          · rw [if_neg e]
            by_cases z : x ∈ fs.take i
            · rw [if_pos z, if_pos (by rw [tk]; exact List.mem_append_left _ z)]
            · rw [if_neg z, if_neg (by rw [tk]; exact fun y => (List.mem_append.mp y).elim z fun y => e (List.mem_singleton.mp y))]
      · rintro st Hf ⟨kvs', z8, rfl, sf, hlf, hkf, pkf, hff, pff⟩
        have tl : fs.take kvsF.length = fs := by rw [pff.len, List.take_length]
        rw [tl] at pkf
        exact ⟨hff, kvs', z8, rfl, fun c u z => (upd_ne (ne_of_none z nfd)).trans (sf _ _ z), (upd_ne (ne_of hlf hff (by intro z; cases z))).trans hlf, (upd_ne nfk.symm).trans hkf, pkf.updo hff (fun _ z => by cases z), upd_same⟩
    rintro st He ⟨kvs', z8, rfl, se, hle, hke, pke, hfe⟩
    walk_at "rd"
    refine ⟨fun st H' => ∃ (n : Nat) (lp : Addr) (L' ds' : List Int) (g : Int → List Nat) (kvs : List (Key × V)) (x5 x6 x7 x8 x9 : Option V), st = [some (.ref l), some (.int s), some (.int M), some (.ref kd), some (.ref lp), x5, x6, x7, x8, x9] ∧ Same H H' ∧ H lp = none ∧ lp ≠ kd ∧ H' lp = some (.lst (L'.map V.int)) ∧ H' kd = some (.dK kvs) ∧ PK H' kvs ds' g ∧ Lev ss s M n ds' g L' ∧ n ≤ ds'.length ∧ (2 * ((2 * M + 1).toNat - ds'.length) + (if L' = [] then 0 else 1)) < 2 * ((2 * M + 1).toNat - ds.length) + 1, ?_, fun σ' H' z => z⟩
    walk_at "rd"
    refine ⟨fp, _, rfl, .inl hfe, fun p np => ?_⟩
    have gp : upd He p (.lst (kvsF.map fun kv => kV kv.1)) p = some (.lst (fs.map V.int)) := by
      rw [upd_same]
      have : kvsF.map (fun kv => kV kv.1) = (kvsF.map (·.1)).map kV := by rw [List.map_map]; rfl
      rw [this, pf.1, List.map_map]
      rfl
    have sp := same_upd (o := .lst (kvsF.map fun kv => kV kv.1)) np
    generalize upd He p _ = Hf at gp sp ⊢
    walk_at "rd"
    refine ⟨p, fs, rfl, SqL.of gp, fun L' r pm sd' nr => ?_⟩
    have sf := se.trans sp
    have sr := same_upd (o := .lst (L'.map V.int)) nr
    have NX := LV.next FF (L' := L') fun x => pm.mem_iff
    have bnd := win_len Mb.1 NX.nd (NX.win Mb.1)
    rw [List.length_append] at bnd
    have hkr := sr _ _ (sp _ _ hke)
    refine ⟨n + 1, r, L', ds ++ fs, _, kvs', _, _, _, _, _, rfl, sf.trans sr, free_of sf nr, ne_of_none (sp _ _ hke) nr |>.symm, upd_same, hkr, pke.same (sp.trans sr), NX, ?_, ?_⟩
    · have l1 := LV.ne c
      rw [List.length_append]
      omega
    · rw [List.length_append]
      have l1 := LV.ne c
      cases L' with
      | nil =>
        rw [if_pos rfl]
        omega
      | cons y ys =>
        have : y ∈ fs := pm.mem_iff.mp List.mem_cons_self
        have := List.length_pos_of_mem this
        rw [if_neg (by simp)]
        omega
end
end HT
namespace HT
open PySem L2
section
variable {P : Program} {w : World} {K : PySem.W.Frag} {mg : Str → Option Value} {base : Heap}
/-- a promise that follows from another one -/
theorem ok_imp {CX : CXT} {k : Nat} {f : Addr} {fd : FuncData} {ps : List Str} {sp sp' : Sp} (F : FnOk P w K mg base CX k f fd ps sp) (h : ∀ vs H Q E, sp' vs H Q E → sp vs H Q E) : FnOk P w K mg base CX k f fd ps sp' :=
  ⟨fun vs H Q E z => F.len vs H Q E (h _ _ _ _ z), fun A outer s H args us vs Q E hr he hb hv hs => F.run A outer s H args us vs Q E hr he hb hv (h _ _ _ _ hs)⟩
end
/-- route: a way where there is one, else by the window -/
def spRouN (C : Nat → Addr) : Sp := fun vs H Q E => ∃ (l : Addr) (xs : List V) (ss : List Sd) (s v : Int), vs = [.ref l, .int s, .int v] ∧ SidesAt H l xs ss ∧ (-2 ^ 500 < s ∧ s < 2 ^ 500) ∧ (-2 ^ 500 < v ∧ v < 2 ^ 500) ∧
  (∀ (i : Nat) (r : Addr) (H' : Hp), i ≤ 1000 → inA v ss s i → (∀ j, j < i → ¬ inA v ss s j) → H r = none → Same H H' → H' r = some (.lst ((wayF v (ss.map (movD (-v))) ss i s).map natV)) → Q (.ref r) H') ∧
  ((∀ i, i ≤ 1000 → ¬ inA v ss s i) → ∃ j : Nat, j ≤ 1000 ∧ cR v (comN ss) ss (j + 1) = cR v (comN ss) ss j ∧ ∀ H', Same H H' → (holdsC v (comN ss) (cR v (comN ss) ss j) s = false → Q .non H') ∧ (holdsC v (comN ss) (cR v (comN ss) ss j) s = true → E (.ref (C 2)) none H'))
theorem rou_imp {C : Nat → Addr} {vs : List V} {H : Hp} {Q : VK} {E : XK} (h : spRouN C vs H Q E) : spRouG C vs H Q E := by
  obtain ⟨l, xs, ss, s, v, rfl, SS, sb, vb, k1, k2⟩ := h
  have cs := com_s SS.side
  have N0 : (0 : Int) ≤ (comN ss : Int) := Int.natCast_nonneg _
  refine ⟨l, xs, ss, s, v, rfl, SS, sb, vb, fun n i r H' to i1 i2 hin no hr s1 hw => k1 i r H' i2 hin no hr s1 hw, fun n to none_ H' s1 => ?_⟩
  have all : ∀ i, i ≤ 1000 → ¬ inA v ss s i := fun i hi => by
    rcases Nat.le_total i n with z | z
    · exact none_ i z hi
    · by_cases e : n = 1001
      · omega
      · have st := to.stop.resolve_left e
        have q := none_ n (Nat.le_refl _) (by omega)
        unfold inA inR at *
        rw [show i = n + (i - n) by omega, run_stopK st]
        exact q
  obtain ⟨j, hj, e, kk⟩ := k2 all
  obtain ⟨b1, b2⟩ := bef_rest SS.side cs N0 hj e to
  refine ⟨fun too => absurd too b1, fun _ => ?_⟩
  rw [holdsC_eq, b2]
  exact ⟨(kk H' s1).2, (kk H' s1).1⟩
def spRouZ (C : Nat → Addr) : Sp := fun vs H Q _ => spRouN C vs H Q fun _ _ _ => False
/-- .. near: never too many -/
def spRouW : Sp := fun vs H Q _ => ∃ (l : Addr) (xs : List V) (ss : List Sd) (s v : Int), vs = [.ref l, .int s, .int v] ∧ SidesAt H l xs ss ∧ (-2 ^ 500 < s ∧ s < 2 ^ 500) ∧ (-2 ^ 500 < v ∧ v < 2 ^ 500) ∧
  (comN ss : Int) ≤ 200 ∧ (v - 2 * (comN ss : Int) ≤ s ∧ s ≤ v + 2 * (comN ss : Int)) ∧
  (∀ (i : Nat) (r : Addr) (H' : Hp), inA v ss s i → (∀ j, j < i → ¬ inA v ss s j) → H r = none → Same H H' → H' r = some (.lst ((wayF v (ss.map (movD (-v))) ss i s).map natV)) → Q (.ref r) H') ∧
  ((∀ i, ¬ inA v ss s i) → ∀ H', Same H H' → Q .non H')
theorem rou_near {C : Nat → Addr} {vs : List V} {H : Hp} {Q : VK} {E : XK} (h : spRouW vs H Q E) : spRouZ C vs H Q E := by
  obtain ⟨l, xs, ss, s, v, rfl, SS, sb, vb, nb, far, k1, k2⟩ := h
  refine ⟨l, xs, ss, s, v, rfl, SS, sb, vb, fun i r H' _ hin no hr s1 hw => k1 i r H' hin no hr s1 hw, fun all => ?_⟩
  obtain ⟨j, hj, e⟩ := bef_soon SS.side (v := v) (com_s SS.side) (Int.natCast_nonneg (comN ss))
  refine ⟨j, by omega, e, fun H' s' => ⟨fun hf => k2 (fun i hi => ?_) H' s', fun hf => all (j + j) (by omega) (hold_in SS.side far hf)⟩⟩
  rw [in_hold SS.side e hi] at hf
  cases hf
/-- before, where the runs come to rest -/
def spBefN : Sp := fun vs H Q _ => ∃ (l : Addr) (xs : List V) (ss : List Sd) (v : Int), vs = [.ref l, .int v] ∧ SidesAt H l xs ss ∧ (-2 ^ 500 < v ∧ v < 2 ^ 500) ∧
  ∃ j : Nat, j ≤ 1000 ∧ cR v (comN ss) ss (j + 1) = cR v (comN ss) ss j ∧ ∀ (p : Addr) (H' : Hp), H p = none → Same H H' → H' p = some (endT v (comN ss) (cR v (comN ss) ss j)) → Q (.ref p) H'
def spBefZ (K : PySem.W.Frag) (C : Nat → Addr) : Sp := fun vs H Q _ => spBefX K C vs H Q fun _ _ _ => False
theorem bef_imp {K : PySem.W.Frag} {C : Nat → Addr} {vs : List V} {H : Hp} {Q : VK} {E : XK} (h : spBefN vs H Q E) : spBefZ K C vs H Q E := by
  obtain ⟨l, xs, ss, v, rfl, SS, vb, j, hj, e, k⟩ := h
  refine ⟨_, _, rfl, .inr (.inr ⟨l, xs, ss, v, rfl, SS, rfl, vb, fun n to => ?_⟩)⟩
  obtain ⟨b1, b2⟩ := bef_rest SS.side (com_s SS.side) (Int.natCast_nonneg (comN ss)) hj e to
  exact ⟨fun too => absurd too b1, fun _ p H' np s' hp => k p H' np s' (by rw [← b2, ← endT_eq]; exact hp)⟩
def spLH : Sp := fun vs H Q _ => ∃ (p : Addr) (lo hi : Option Int) (s : Int), vs = [.ref p, .int s] ∧ H p = some (.tup [oI lo, oI hi]) ∧ Q (.bl (holdsF lo hi s)) H
section
variable {P : Program} {w : World} {K : PySem.W.Frag} {mg : Str → Option Value} {base : Heap}
theorem ok_L_holds {f : Addr} {fd : FuncData} (F : Fun K "_law_holds" "_law_holds" s_L_holds f fd) : FnOk P w K mg base CX0 1 f fd ["_law_run", "_law_value"] spLH := by
  refine F.ok sc_L_holds (fun vs H Q E h => ?_) (fun cdv A outer s0 H vs Q E hr h => ?_)
  · obtain ⟨p, lo, hi, s, rfl, _⟩ := h
    rfl
  · obtain ⟨p, lo, hi, s, rfl, hp, q⟩ := h
    have nd := sc_L_holds.nd
    refine ⟨_, (pss_cons (ps_mid (ps_if (PW.pt (pw_and (pt_cmpR op_notN (pe_ix ix_tup (pv 0) pe_int (fun _ _ => rfl)) pe_non (nomark _)) (pw_and1 (pt_cmpR op_lt (pv 1) (pe_ix ix_tup (pv 0) pe_int (fun _ _ => rfl)) (nomark _))))) (pss_one (ps_ret pe_bl)) pss_nil))
      (pss_one (ps_ret (pe_or (pe_cmpR op_isN (pe_ix ix_tup (pv 0) pe_int (fun _ _ => rfl)) pe_non (nomark _)) (pe_one (pe_cmpR op_le (pv 1) (pe_ix ix_tup (pv 0) pe_int (fun _ _ => rfl)) (nomark _))))))), ?_⟩
    have dn : ∀ x : Int, decide (oI (some x) = V.non) = false := fun x => decide_eq_false fun z => nomatch (show V.int x = V.non from z)
    refine ⟨fun st Hz => st = [some (.ref p), some (.int s)] ∧ Hz = H ∧ lowF lo s = true, ?_, ?_⟩
    · walk_at "rd"
      refine ⟨p, _, 0, _, rfl, rfl, SqT.of hp, rfl, ?_⟩
      refine ⟨rfl, ?_⟩
      refine ⟨_, rfl, ?_⟩
      cases lo with
      | none => exact ⟨rfl, rfl, rfl⟩
      | some x =>
        refine ite2 (fun _ => ?_) (fun z => absurd (by rw [dn]; rfl) z)
        walk_at "rd"
        refine ⟨p, _, 0, _, rfl, rfl, SqT.of hp, rfl, ?_⟩
        walk_at "rd"
        refine ite2 (fun z => ?_) (fun z => ?_)
        · have e : holdsF (some x) hi s = false := by
            show (decide (x ≤ s) && _) = false
            rw [decide_eq_false (by have := of_decide_eq_true z; omega)]
            rfl
          rw [e] at q
          exact q
        · exact ⟨rfl, rfl, decide_eq_true (Int.not_lt.mp fun y => z (decide_eq_true y))⟩
    rintro st Hz ⟨rfl, rfl, lt⟩
    have e : holdsF lo hi s = highF hi s := by unfold holdsF; rw [lt]; rfl
    rw [e] at q
    walk_at "rd"
    refine ⟨p, _, 1, _, rfl, rfl, SqT.of hp, rfl, ?_⟩
    refine ⟨rfl, ?_⟩
    refine ⟨_, rfl, ?_⟩
    cases hi with
    | none => exact q
    | some y =>
      refine ite2 (fun z => absurd z (by rw [dn]; decide)) (fun _ => ?_)
      walk_at "rd"
      refine ⟨p, _, 1, _, rfl, rfl, SqT.of hp, rfl, ?_⟩
      walk_at "rd"
      exact q
end
end HT
namespace HT
open PySem L2
abbrev three : List Sd := [⟨0, 3, "half_up"⟩, ⟨1, 3, "half_up"⟩, ⟨2, 3, "half_up"⟩]
abbrev two11 : List Sd := [⟨0, 10, "up"⟩, ⟨3, 10, "down"⟩]
abbrev upp : List Sd := [⟨0, 10, "up"⟩, ⟨5, 10, "up"⟩]
theorem up_md : Mode "up" := .inr (.inl rfl)
theorem down_md : Mode "down" := .inl rfl
theorem hu_md : Mode "half_up" := .inr (.inr (.inr (.inl rfl)))
theorem three_side : ∀ d ∈ three, SideP d.o d.s d.m := fun d hd => by
  simp only [List.mem_cons, List.not_mem_nil, or_false] at hd
  rcases hd with rfl | rfl | rfl <;> exact ⟨by decide, by decide, by decide, by decide, hu_md⟩
theorem two_side : ∀ d ∈ two11, SideP d.o d.s d.m := fun d hd => by
  simp only [List.mem_cons, List.not_mem_nil, or_false] at hd
  rcases hd with rfl | rfl
  · exact ⟨by decide, by decide, by decide, by decide, up_md⟩
  · exact ⟨by decide, by decide, by decide, by decide, down_md⟩
theorem upp_side : ∀ d ∈ upp, SideP d.o d.s d.m := fun d hd => by
  simp only [List.mem_cons, List.not_mem_nil, or_false] at hd
  rcases hd with rfl | rfl <;> exact ⟨by decide, by decide, by decide, by decide, up_md⟩
theorem due_hu (o s : Int) : dueM o 3 "half_up" s = if (s - o) % 3 = 2 then s + 1 else if (s - o) % 3 = 1 then s - 1 else s := by
  unfold dueM figM goesUp
  rw [if_neg hu_d, if_neg hu_u, if_neg (show ¬ 2 * ((s - o) % 3) = 3 by omega)]
  rcases (by omega : (s - o) % 3 = 0 ∨ (s - o) % 3 = 1 ∨ (s - o) % 3 = 2) with m | m | m
  · rw [m, if_neg (by decide), if_neg (by decide), if_neg (by decide)]; omega
  · rw [m, if_neg (by decide), if_neg (by decide), if_pos rfl]; omega
  · rw [m, if_pos (by decide), if_pos rfl]; omega
theorem three_in : ∀ (i : Nat) (v s : Int), (s - v).natAbs ≤ i → inA v three s i
  | 0, v, s, h => by
    have : s = v := by omega
    rw [this]
    exact in_self _ _ _
  | i + 1, v, s, h => by
    by_cases c : (s - v).natAbs ≤ i
    · exact in_mono (three_in i v s c) (Nat.le_succ _)
    obtain ⟨d, hd, e⟩ : ∃ d ∈ three, (wD d s - v).natAbs ≤ i := by
      have hw : ∀ o : Int, wD ⟨o, 3, "half_up"⟩ s = if (s - o) % 3 = 2 then s + 1 else if (s - o) % 3 = 1 then s - 1 else s := fun o => due_hu o s
      by_cases up : s < v
      · rcases (by omega : s % 3 = 0 ∨ s % 3 = 1 ∨ s % 3 = 2) with m | m | m
        · exact ⟨⟨1, 3, "half_up"⟩, by simp, by rw [hw, if_pos (by omega)]; omega⟩
        · exact ⟨⟨2, 3, "half_up"⟩, by simp, by rw [hw, if_pos (by omega)]; omega⟩
        · exact ⟨⟨0, 3, "half_up"⟩, by simp, by rw [hw, if_pos (by omega)]; omega⟩
      · rcases (by omega : s % 3 = 0 ∨ s % 3 = 1 ∨ s % 3 = 2) with m | m | m
        · exact ⟨⟨2, 3, "half_up"⟩, by simp, by rw [hw, if_neg (by omega), if_pos (by omega)]; omega⟩
        · exact ⟨⟨0, 3, "half_up"⟩, by simp, by rw [hw, if_neg (by omega), if_pos (by omega)]; omega⟩
        · exact ⟨⟨1, 3, "half_up"⟩, by simp, by rw [hw, if_neg (by omega), if_pos (by omega)]; omega⟩
    exact mov_in three_side hd (three_in i v _ e)
theorem three_far : ∀ (i : Nat) (v s : Int), inA v three s i → (s - v).natAbs ≤ i
  | 0, v, s, h => by rw [in_zero h]; omega
  | i + 1, v, s, h => by
    by_cases c : inA v three s i
    · have := three_far i v s c
      omega
    obtain ⟨d, hd, e⟩ := in_mov three_side h c
    have ih := three_far i v _ e
    have hw : ∀ o : Int, wD ⟨o, 3, "half_up"⟩ s = if (s - o) % 3 = 2 then s + 1 else if (s - o) % 3 = 1 then s - 1 else s := fun o => due_hu o s
    have near : (wD d s - s).natAbs ≤ 1 := by
      simp only [List.mem_cons, List.not_mem_nil, or_false] at hd
      rcases hd with rfl | rfl | rfl <;> (rw [hw]; split <;> (try split) <;> omega)
    omega
theorem three_many : cR 3000 (comN three) three (5 + 1) = cR 3000 (comN three) three 5 ∧ holdsC 3000 (comN three) (cR 3000 (comN three) three 5) 0 = true := by decide +kernel
theorem upp_none : cR 10 (comN upp) upp (5 + 1) = cR 10 (comN upp) upp 5 ∧ holdsC 10 (comN upp) (cR 10 (comN upp) upp 5) 11 = false := by decide +kernel
theorem two_none (v : Int) (h : v = 0 ∨ v = 13 ∨ v = 20) : cR v (comN two11) two11 (5 + 1) = cR v (comN two11) two11 5 ∧ holdsC v (comN two11) (cR v (comN two11) two11 5) 7 = false := by
  rcases h with rfl | rfl | rfl <;> decide +kernel
theorem two_10 : inA 10 two11 7 1 ∧ ¬ inA 10 two11 7 0 ∧ wayF 10 (two11.map (movD (-10))) two11 1 7 = [0] := by
  rw [in_aR, in_aR]
  decide +kernel
theorem two_3 : inA 3 two11 7 1 ∧ ¬ inA 3 two11 7 0 ∧ wayF 3 (two11.map (movD (-3))) two11 1 7 = [1] := by
  rw [in_aR, in_aR]
  decide +kernel
/-- what route's promise asks where before says no -/
theorem rou_no {ss : List Sd} (hss : ∀ d ∈ ss, SideP d.o d.s d.m) {v s : Int} {j : Nat} (h : cR v (comN ss) ss (j + 1) = cR v (comN ss) ss j ∧ holdsC v (comN ss) (cR v (comN ss) ss j) s = false) (i : Nat) : ¬ inA v ss s i := fun z => by
  have := in_hold hss h.1 z
  rw [h.2] at this
  cases this
end HT
namespace HT
open PySem L2
theorem walk_last {ss : List Sd} : ∀ (ks : List Nat) (a : List Int) (x : Int), (∀ k ∈ ks, k < ss.length) → ks ≠ [] → ∃ T : List Int, (ks.foldl (stepW ss) (a, x)).1 = T ++ [(ks.foldl (stepW ss) (a, x)).2] ∧ T.length + 1 = a.length + ks.length
  | [], _, _, _, n => absurd rfl n
  | k :: ks, a, x, h, _ => by
    have hk := h k List.mem_cons_self
    have e : stepW ss (a, x) k = (a ++ [dueM ss[k].o ss[k].s ss[k].m x], dueM ss[k].o ss[k].s ss[k].m x) := by
      unfold stepW
      rw [List.getElem?_eq_getElem hk]
    rw [List.foldl_cons, e, List.length_cons]
    by_cases z : ks = []
    · subst z
      exact ⟨a, rfl, by rw [List.length_nil]⟩
    · obtain ⟨T, e1, e2⟩ := walk_last ks (a ++ [dueM ss[k].o ss[k].s ss[k].m x]) (dueM ss[k].o ss[k].s ss[k].m x) (fun j hj => h j (List.mem_cons_of_mem _ hj)) z
      refine ⟨T, e1, ?_⟩
      rw [List.length_append] at e2
      have : [dueM ss[k].o ss[k].s ss[k].m x].length = 1 := rfl
      omega
def natsD (A : List Nat) : PyData := .list (A.map fun n : Nat => .int (n : Int))
theorem nats_dp {K : PySem.W.Frag} {H : Hp} {p : Addr} {A : List Nat} (h : H p = some (.lst (A.map natV))) : Dp K H (.ref p) (natsD A) := by
  have key : ∀ A : List Nat, DpAll K H (A.map natV) (A.map fun n : Nat => PyData.int (n : Int)) := fun A => by
    induction A with
    | nil => exact .nil
    | cons a A ih => exact .cons (.int _) ih
  exact .lst (SqL.of h) (key A)
theorem nats_sh (A : List Nat) : SeqAt.shaped (natsD A) = true := by
  have key : ∀ A : List Nat, PyData.canLayAll0 (A.map fun n : Nat => PyData.int (n : Int)) = true ∧ PyData.depthAll (A.map fun n : Nat => PyData.int (n : Int)) ≤ 1 := fun A => by
    induction A with
    | nil => exact ⟨rfl, Nat.zero_le _⟩
    | cons a A ih => exact ⟨by simp [PyData.canLayAll0, PyData.canLay0, ih.1], by show max (PyData.depth (.int a)) (PyData.depthAll (A.map fun n : Nat => PyData.int (n : Int))) ≤ 1; exact Nat.max_le.mpr ⟨by simp [PyData.depth], ih.2⟩⟩
  obtain ⟨a, b⟩ := key A
  unfold SeqAt.shaped
  rw [Bool.and_eq_true]
  refine ⟨a, decide_eq_true ?_⟩
  show PyData.depthAll (A.map fun n : Nat => PyData.int (n : Int)) + 1 ≤ 64
  omega
theorem walk_go {ss : List Sd} : ∀ (ks : List Nat) (a : List Int) (x : Int), (∀ k ∈ ks, k < ss.length) → (ks.foldl (stepW ss) (a, x)).2 = goN ss x ks
  | [], _, _, _ => rfl
  | k :: ks, a, x, h => by
    have hk := h k List.mem_cons_self
    have e : stepW ss (a, x) k = (a ++ [stN ss x k], stN ss x k) := by
      unfold stepW stN wD
      rw [List.getD_eq_getElem?_getD, List.getElem?_eq_getElem hk]
      rfl
    rw [List.foldl_cons, e]
    exact walk_go ks _ _ fun j hj => h j (List.mem_cons_of_mem _ hj)
theorem nonD_sh : SeqAt.shaped .none = true := by decide +kernel
theorem non_self : (!PyData.eqv .none .none) = false := by decide +kernel
end HT
namespace HT
open PySem L2
/-- sides of at most so great steps -/
structure SdQ (mo : Int) (H : Hp) (xs : List V) (ss : List Sd) : Prop where
  len : xs.length = ss.length
  at_ : ∀ (i : Nat) (d : Sd), ss[i]? = some d → ∃ p : Addr, xs[i]? = some (V.ref p) ∧ H p = some (sideV d.o d.s d.m) ∧ (SideP d.o d.s d.m ∧ d.s ≤ mo)
theorem SdQ.oth {mo : Int} {H H' : Hp} {xs : List V} {ss : List Sd} {a c : Addr} {t : Nat} (S : SdQ mo H xs ss) (s : Src H a c t) (o : Oth a c H H') : SdQ mo H' xs ss :=
  ⟨S.len, fun i d h => let ⟨p, e, hp, r⟩ := S.at_ i d h; ⟨p, e, o _ _ hp (s.nt hp).1 (s.nt hp).2, r⟩⟩
theorem SdQ.put {mo : Int} {H : Hp} {xs : List V} {ss : List Sd} {l : Addr} {ys zs : List V} (S : SdQ mo H xs ss) (hl : H l = some (.lst ys)) : SdQ mo (upd H l (.lst zs)) xs ss :=
  ⟨S.len, fun i d h => let ⟨p, e1, hp, r⟩ := S.at_ i d h; ⟨p, e1, (upd_ne (ne_of hp hl (by intro z; cases z))).trans hp, r⟩⟩
theorem SdQ.same {mo : Int} {H H' : Hp} {xs : List V} {ss : List Sd} (S : SdQ mo H xs ss) (e : Same H H') : SdQ mo H' xs ss :=
  ⟨S.len, fun i d h => let ⟨p, e1, hp, r⟩ := S.at_ i d h; ⟨p, e1, e _ _ hp, r⟩⟩
theorem SdQ.snoc {mo : Int} {H : Hp} {xs : List V} {ss : List Sd} {p : Addr} {d : Sd} (S : SdQ mo H xs ss) (hp : H p = some (sideV d.o d.s d.m)) (r : SideP d.o d.s d.m ∧ d.s ≤ mo) : SdQ mo H (xs ++ [V.ref p]) (ss ++ [d]) := by
  refine ⟨by rw [List.length_append, List.length_append, S.len]; rfl, fun i e h => ?_⟩
  have hi : i < ss.length + 1 := by
    have := (List.getElem?_eq_some_iff.mp h).1
    rw [List.length_append] at this
    exact this
  rcases Nat.lt_or_eq_of_le (Nat.le_of_lt_succ hi) with lt | eq
  · rw [List.getElem?_append_left lt] at h
    obtain ⟨q, e1, e2⟩ := S.at_ i e h
    exact ⟨q, by rw [List.getElem?_append_left (by rw [S.len]; exact lt)]; exact e1, e2⟩
  · subst eq
    rw [List.getElem?_append_right (Nat.le_refl _), Nat.sub_self] at h
    cases h
    exact ⟨p, by rw [← S.len, List.getElem?_append_right (Nat.le_refl _), Nat.sub_self]; rfl, hp, r⟩
theorem SdQ.sides {mo : Int} {H : Hp} {l : Addr} {xs : List V} {ss : List Sd} (S : SdQ mo H xs ss) (hl : H l = some (.lst xs)) (h1 : 1 ≤ ss.length) (h4 : ss.length ≤ 4) : SidesAt H l xs ss :=
  ⟨hl, S.len, h1, h4, fun i d h => let ⟨p, e, hp, a, _⟩ := S.at_ i d h; ⟨p, e, hp, a⟩⟩
theorem SdQ.le {mo : Int} {H : Hp} {xs : List V} {ss : List Sd} (S : SdQ mo H xs ss) : ∀ d ∈ ss, d.s ≤ mo := fun d hd => by
  obtain ⟨i, hi, rfl⟩ := List.mem_iff_getElem.mp hd
  obtain ⟨_, _, _, _, r⟩ := S.at_ i _ (List.getElem?_eq_getElem hi)
  exact r
theorem SdQ.app {mo : Int} {H : Hp} {xs ys : List V} {ss ts : List Sd} (S : SdQ mo H xs ss) (T : SdQ mo H ys ts) : SdQ mo H (xs ++ ys) (ss ++ ts) := by
  refine ⟨by rw [List.length_append, List.length_append, S.len, T.len], fun i d h => ?_⟩
  rcases Nat.lt_or_ge i ss.length with lt | ge
  · rw [List.getElem?_append_left lt] at h
    obtain ⟨q, e1, e2⟩ := S.at_ i d h
    exact ⟨q, by rw [List.getElem?_append_left (by rw [S.len]; exact lt)]; exact e1, e2⟩
  · rw [List.getElem?_append_right ge] at h
    obtain ⟨q, e1, e2⟩ := T.at_ _ d h
    exact ⟨q, by rw [List.getElem?_append_right (by rw [S.len]; exact ge), S.len]; exact e1, e2⟩
theorem SdQ.take {mo : Int} {H : Hp} {xs : List V} {ss : List Sd} (S : SdQ mo H xs ss) (n : Nat) : SdQ mo H (xs.take n) (ss.take n) := by
  refine ⟨by rw [List.length_take, List.length_take, S.len], fun i d h => ?_⟩
  rw [List.getElem?_take] at h ⊢
  split at h
  · rw [if_pos (by assumption)]
    exact S.at_ i d h
  · cases h
theorem SdQ.drop {mo : Int} {H : Hp} {xs : List V} {ss : List Sd} (S : SdQ mo H xs ss) (n : Nat) : SdQ mo H (xs.drop n) (ss.drop n) := by
  refine ⟨by rw [List.length_drop, List.length_drop, S.len], fun i d h => ?_⟩
  rw [List.getElem?_drop] at h ⊢
  exact S.at_ _ d h
theorem SdQ.up {mo mo' : Int} {H : Hp} {xs : List V} {ss : List Sd} (S : SdQ mo H xs ss) (h : mo ≤ mo') : SdQ mo' H xs ss :=
  ⟨S.len, fun i d e => let ⟨p, e1, hp, a, b⟩ := S.at_ i d e; ⟨p, e1, hp, a, by omega⟩⟩
theorem SdQ.ofL {H : Hp} {l : Addr} {xs : List V} {ss : List Sd} (S : SidL H l xs ss) : SdQ (10 ^ 30) H xs ss := ⟨S.len, fun i d e => let ⟨p, e1, hp, a⟩ := S.at_ i d e; ⟨p, e1, hp, a, a.s1⟩⟩
theorem SdQ.toL {mo : Int} {H : Hp} {l : Addr} {xs : List V} {ss : List Sd} (S : SdQ mo H xs ss) (hl : H l = some (.lst xs)) (h4 : ss.length ≤ 4) : SidL H l xs ss :=
  ⟨hl, S.len, h4, fun i d h => let ⟨p, e, hp, a, _⟩ := S.at_ i d h; ⟨p, e, hp, a⟩⟩
theorem Src.chg {a c p : Addr} {H : Hp} {t : Nat} {o : HO} (S : Src H a c t) (na : p ≠ a) (nc : p ≠ c) : Src (upd H p o) a c t := by
  obtain ⟨cs, h, l⟩ := S.cl
  exact ⟨S.ne, (upd_ne na.symm).trans S.ob, cs, (upd_ne nc.symm).trans h, l⟩
theorem sdq_nil {mo : Int} {H : Hp} : SdQ mo H [] [] := ⟨rfl, fun i d h => by simp at h⟩
end HT
namespace HT
open PySem L2
def sdD (d : Sd) : PyData := .tuple [.int d.o, .int d.s, .str d.m]
theorem strOk_mode {m : Str} (h : Mode m) : PyData.canLay0 (.str m) = true := by
  rcases h with e | e | e | e | e <;> subst e <;> decide +kernel
theorem can_sides : ∀ {ss : List Sd}, (∀ d ∈ ss, Mode d.m) → PyData.canLayAll0 (ss.map sdD) = true ∧ PyData.depthAll (ss.map sdD) ≤ 1
  | [], _ => ⟨rfl, Nat.zero_le _⟩
  | d :: r, h => by
    have ⟨a, b⟩ := can_sides (ss := r) fun e he => h e (List.mem_cons_of_mem _ he)
    have c := strOk_mode (h d List.mem_cons_self)
    constructor
    · show ((true && (true && (PyData.canLay0 (.str d.m) && true))) && PyData.canLayAll0 (r.map sdD)) = true
      rw [c, a]
      rfl
    · show max 1 (PyData.depthAll (r.map sdD)) ≤ 1
      omega
theorem dpSides {K : PySem.W.Frag} {H : Hp} : ∀ {xs : List V} {ss : List Sd}, xs.length = ss.length → (∀ (i : Nat) (d : Sd), ss[i]? = some d → ∃ p : Addr, xs[i]? = some (V.ref p) ∧ H p = some (sideV d.o d.s d.m)) → DpAll K H xs (ss.map sdD)
  | [], [], _, _ => .nil
  | [], _ :: _, S, _ => nomatch S
  | _ :: _, [], S, _ => nomatch S
  | x :: xs, d :: ss, S, h => by
    obtain ⟨p, e, hp⟩ := h 0 d rfl
    cases e
    exact .cons (.tup (SqT.of hp) (.cons (.int _) (.cons (.int _) (.cons (.str _) .nil)))) (dpSides (Nat.succ.inj S) fun i e z => h (i + 1) e z)
theorem SidesAt.dp {K : PySem.W.Frag} {H : Hp} {l k : Addr} {xs : List V} {ss : List Sd} (S : SidesAt H l xs ss) (hk : H k = some (.lst xs)) : Dp K H (.ref k) (.list (ss.map sdD)) := .lst (SqL.of hk) (dpSides S.len fun i d h => let ⟨p, a, b, _⟩ := S.at_ i d h; ⟨p, a, b⟩)
theorem shaped_sides {ss : List Sd} (h : ∀ d ∈ ss, Mode d.m) : SeqAt.shaped (.list (ss.map sdD)) = true := by
  have ⟨a, b⟩ := can_sides h
  unfold SeqAt.shaped
  show (PyData.canLayAll0 (ss.map sdD) && decide (PyData.depthAll (ss.map sdD) + 1 ≤ 64)) = true
  rw [a, decide_eq_true (by omega)]
  rfl
theorem eqv_self {d : PyData} (h : SeqAt.shaped d = true) : (!PyData.eqv d d) = false := by rw [SeqAt.eqv_refl _ (SeqAt.canLay_of_shaped h)]; rfl
end HT
namespace HT
open PySem L2
theorem PK.oth {H H' : Hp} {kvs : List (Key × V)} {ds : List Int} {g : Int → List Nat} {a c : Addr} {t : Nat} (h : PK H kvs ds g) (S : Src H a c t) (O : Oth a c H H') : PK H' kvs ds g := ⟨h.1, h.2.1, fun m hm => let ⟨p, e, b⟩ := h.2.2 m hm; let z := S.nt b; ⟨p, e, O _ _ b z.1 z.2⟩⟩
theorem ev47 (k : Int) : atI [V.int 4, V.int 7] (k % 2) = some (.int (if k % 2 = 0 then 4 else 7)) := by
  rcases (by omega : k % 2 = 0 ∨ k % 2 = 1) with h | h
  · rw [h]; rfl
  · rw [h]; rfl
def spLaw (K : PySem.W.Frag) : Sp := fun vs H Q _ => ∃ (l : Addr) (ns : List Int), vs = [.ref l] ∧ SqL K H l (ns.map V.int) ∧ ns.length ≤ 63 ∧ ∀ H', Q (.bl true) H'
def rLenK (K : PySem.W.Frag) : List V → Hp → VK → Prop := fun xs H Q => ∃ p ys, xs = [V.ref p] ∧ (SqL K H p ys ∨ SqT K H p ys) ∧ Q (V.int (ys.length : Nat)) H
def due11 (p0 p1 p7 : Addr) : List (Key × V) := [(Sum.inl 10, .ref p0), (Sum.inl 3, .ref p1), (Sum.inl 0, .non), (Sum.inl 7, .ref p7), (Sum.inl 13, .non), (Sum.inl 20, .non)]
/-- what stands for each value -/
theorem due11_at {p0 p1 p7 : Addr} {H : Hp} (h0 : H p0 = some (.lst ([0].map natV))) (h1 : H p1 = some (.lst ([1].map natV))) (h7 : H p7 = some (.lst (([] : List Nat).map natV))) {i : Nat} {k : Key} {v : V} (e : (due11 p0 p1 p7)[i]? = some (k, v)) :
    ∃ x : Int, k = Sum.inl x ∧ valV (due11 p0 p1 p7) (Sum.inl x : Key) = some v ∧ (-100 ≤ x ∧ x ≤ 100) ∧ ((∃ p q im, v = .ref p ∧ H p = some (.lst (q.map natV)) ∧ im ≤ 1000 ∧ inA x two11 7 im ∧ (∀ j, j < im → ¬ inA x two11 7 j) ∧ wayF x (two11.map (movD (-x))) two11 im 7 = q) ∨ (v = .non ∧ cR x (comN two11) two11 (5 + 1) = cR x (comN two11) two11 5 ∧ holdsC x (comN two11) (cR x (comN two11) two11 5) 7 = false)) := by
  have one : ∀ {x : Int}, ¬ inA x two11 7 0 → ∀ j, j < 1 → ¬ inA x two11 7 j := fun h j hj => by
    obtain rfl : j = 0 := by omega
    exact h
  match i, e with
  | 0, e =>
    cases e
    exact ⟨10, rfl, rfl, by decide, .inl ⟨p0, [0], 1, rfl, h0, by decide, two_10.1, one two_10.2.1, two_10.2.2⟩⟩
  | 1, e =>
    cases e
    exact ⟨3, rfl, rfl, by decide, .inl ⟨p1, [1], 1, rfl, h1, by decide, two_3.1, one two_3.2.1, two_3.2.2⟩⟩
  | 2, e =>
    cases e
    exact ⟨0, rfl, rfl, by decide, .inr ⟨rfl, two_none 0 (.inl rfl)⟩⟩
  | 3, e =>
    cases e
    exact ⟨7, rfl, rfl, by decide, .inl ⟨p7, [], 0, rfl, h7, by decide, in_self _ _ _, fun j hj => absurd hj (Nat.not_lt_zero _), rfl⟩⟩
  | 4, e =>
    cases e
    exact ⟨13, rfl, rfl, by decide, .inr ⟨rfl, two_none 13 (.inr (.inl rfl))⟩⟩
  | 5, e =>
    cases e
    exact ⟨20, rfl, rfl, by decide, .inr ⟨rfl, two_none 20 (.inr (.inr rfl))⟩⟩
  | n + 6, e => cases e
theorem due_merge (p0 p1 p7 : Addr) : mergeK [] (due11 p0 p1 p7) = due11 p0 p1 p7 := rfl
section
variable {P : Program} {w : World} {K : PySem.W.Frag} {mg : Str → Option Value} {base : Heap} {Bx f1 f2 f3 f4 f5 f6 f7 f8 f9 fA : Addr} {d1 d2 d3 d4 d5 d6 d7 d8 d9 dA : FuncData} {C : Nat → Addr}
theorem ok_law {f : Addr} {fd : FuncData} (F : Fun K "law" "law" s_law f fd) (B : Blt mg) (hli : mg "list" = none) (R : Er K mg C Bx) (em2 : PySem.W.exmOne K (.ref (C 2)) (.ref (C 2)) = some true) (So : Cal P w K mg base "_law_source" 1 ["_law_script"] (spSource K) f1 d1) (D : Cal P w K mg base "_law_draw" 1 ["_law_source_here", "_law_limit"] spDraw f2 d2) (Sd : Cal P w K mg base "_law_side" 4 ["_law_source_here", "_law_most"] spSide f3 d3)
    (Wr : Cal P w K mg base "_law_written" 1 ["_law_side_here", "_law_value"] spDue f4 d4) (Pe : Cal P w K mg base "_law_period" 2 ["_law_sides"] spPerS f5 d5) (Le : Cal P w K mg base "_law_levels" 2 ["_law_sides", "_law_start", "_law_most"] spLevels f6 d6) (Ho : Cal P w K mg base "_law_holds" 1 ["_law_run", "_law_value"] spLH f7 d7)
    (Al : Cal P w K mg base "along" 6 ["sides", "numbers", "value"] spAlong f8 d8) (Bf : Cal P w K mg base "before" 6 ["sides", "value"] (spBefZ K C) f9 d9) (RoX : CalX P w K mg base "route" 6 ["sides", "start", "value"] (spRouN C) fA dA) (Ro : Cal P w K mg base "route" 6 ["sides", "start", "value"] (spRouZ C) fA dA) : FnOk P w K mg base CX0 7 f fd ["_law_script"] (spLaw K) := by
  refine F.ok sc_law (fun vs H Q E h => ?_) (fun cdv A outer s0 H vs Q E hr h => ?_)
  · obtain ⟨l, ns, rfl, _⟩ := h
    rfl
  · obtain ⟨l, ns, rfl, hl, nl, q⟩ := h
    have nd := sc_law.nd
    refine ⟨_, (pss_cons (ps_mid (ps_set (i := 1) nd rfl (Or.inr rfl) (pcl So hr (by decide) (by rfl) (pa_cons (pv 0) pa_nil))))
      (pss_cons (ps_mid (ps_for PassesOwn.never rfl (pi_range1 (by rfl) B.range (pa_cons pe_int pa_nil)) (pg_name (i := 2) nd rfl (Or.inr rfl)) (pss_cons (ps_mid (ps_set (i := 4) nd rfl (Or.inr rfl) (pe_lc (own := [("_law_k", 3)]) (g := gName 3) (tt := tYes) rfl nd (pi_range1 (by rfl) B.range (pa_cons (pe_op op_add pe_int (pcl D hr (by decide) (by rfl) (pa_cons (pv 1) (pa_cons pe_int pa_nil)))) pa_nil)) (blkOk_by (N := ["_law_script", "_law_source_here", "_law_turn", "_law_k", "_law_sides", "_law_period_here", "_law_start", "_law_known", "_law_kept", "_law_value", "_law_found", "_law_due", "_law_three", "_law_caught", "e"]) (sc := defScope s_law) (by decide +kernel)) (fun _ _ _ _ _ => pg_name (i := 3) nd rfl (Or.inl rfl)) (fun _ _ _ _ _ => pts_nil) (fun _ _ _ _ _ => (pcl Sd hr (by decide) (by rfl) (pa_cons (pv 1) (pa_cons (pe_ix (r := rIxL K) (by exact ix_list) (pe_lst (pa_cons pe_int (pa_cons pe_int pa_nil))) (pe_op op_mod (pv 2) pe_int) (fun _ _ => rfl)) pa_nil)))))))
      (pss_cons (ps_mid (ps_set (i := 5) nd rfl (Or.inl rfl) (pcl Pe hr (by decide) (by rfl) (pa_cons (pv 4) pa_nil))))
      (pss_one (ps_if (pt_cmpR op_lt (pv 5) pe_int (nomark _)) (pss_cons (ps_mid (ps_set (i := 6) nd rfl (Or.inl rfl) (pe_op op_sub (pcl D hr (by decide) (by rfl) (pa_cons (pv 1) (pa_cons pe_int pa_nil))) pe_int)))
      (pss_cons (ps_mid (ps_set (i := 7) nd rfl (Or.inl rfl) (pcl Le hr (by decide) (by rfl) (pa_cons (pv 4) (pa_cons (pv 6) (pa_cons (pe_op op_add (pe_op op_mul pe_int (pv 5)) pe_int) pa_nil))))))
      (pss_cons (ps_mid (ps_set (i := 8) nd rfl (Or.inl rfl) (pe_callTy call_list_of (by rfl) hli (by decide +kernel) (pa_cons (pv 4) pa_nil))))
      (pss_one (ps_mid (ps_for PassesOwn.never rfl (pi_range1 (by rfl) B.range (pa_cons pe_int pa_nil)) (pg_name (i := 3) nd rfl (Or.inl rfl)) (pss_cons (ps_mid (ps_set (i := 9) nd rfl (Or.inl rfl) (pe_op op_sub (pe_op op_add (pv 6) (pcl D hr (by decide) (by rfl) (pa_cons (pv 1) (pa_cons (pe_op op_add (pe_op op_mul pe_int (pv 5)) pe_int) pa_nil)))) (pv 5))))
      (pss_cons (ps_mid (ps_if (pt_cmpR op_eq (pcl D hr (by decide) (by rfl) (pa_cons (pv 1) (pa_cons pe_int pa_nil))) pe_int (nomark _)) (pss_one (ps_mid (ps_set (i := 9) nd rfl (Or.inl rfl) (pcl Wr hr (by decide) (by rfl) (pa_cons (pe_ix ix_list (pv 4) (pcl D hr (by decide) (by rfl) (pa_cons (pv 1) (pa_cons (pe_callB call_len_seq (by rfl) B.len PySem.boot_len (pa_cons (pv 4) pa_nil)) pa_nil))) (fun _ _ => rfl)) (pa_cons (pv 9) pa_nil)))))) pss_nil))
      (pss_cons (ps_mid (ps_set (i := 10) nd rfl (Or.inl rfl) (pcl Ro hr (by decide) (by rfl) (pa_cons (pv 4) (pa_cons (pv 6) (pa_cons (pv 9) pa_nil))))))
      (pss_cons (ps_mid (ps_set (i := 11) nd rfl (Or.inr rfl) pe_non))
      (pss_cons (ps_mid (ps_if (pt_cmp (pc_din (lt1 hr.units) (pv 9) (pv 7)) (by rfl)) (pss_one (ps_mid (ps_set (i := 11) nd rfl (Or.inr rfl) (pe_callTy call_list_of (by rfl) hli (by decide +kernel) (pa_cons (pe_dget (lt1 hr.units) (pv 7) (pv 9) (fun _ _ => rfl)) pa_nil))))) pss_nil))
      (pss_cons (ps_if (pt_mid (PW.pt (pw_or (pt_cmpR (op_neD hr.units) (pv 10) (pv 11) (nomark _)) (pw_or1 (pt_cmpR op_ne (pe_cmpR op_notN (pv 10) pe_non (nomark _)) (pcl Ho hr (by decide) (by rfl) (pa_cons (pcl Bf hr (by decide) (by rfl) (pa_cons (pv 4) (pa_cons (pv 9) pa_nil))) (pa_cons (pv 6) pa_nil))) (nomark _)))))) (pss_one (ps_ret pe_bl)) pss_nil)
      (pss_one (ps_if (pt_mid (PW.pt (pw_or (pt_cmpR (op_neD hr.units) (pv 4) (pv 8) (nomark _)) (pw_or1 (PW.pt (pw_and (pt_cmpR op_notN (pv 10) pe_non (nomark _)) (pw_and1 (pt_cmpR op_ne (pe_ix ix_list (pe_op op_cat (pe_lst (pa_cons (pv 6) pa_nil)) (pcl Al hr (by decide) (by rfl) (pa_cons (pv 4) (pa_cons (pv 10) (pa_cons (pv 6) pa_nil))))) (pe_un un_neg pe_int) (fun _ _ => rfl)) (pv 9) (nomark _))))))))) (pss_one (ps_ret pe_bl)) pss_nil)))))))))))))) pss_nil))))))
      (pss_cons (ps_mid (ps_set (i := 4) nd rfl (Or.inr rfl) (pe_lst (pa_cons (pe_tup (pa_cons pe_int (pa_cons pe_int (pa_cons pe_str pa_nil)))) (pa_cons (pe_tup (pa_cons pe_int (pa_cons pe_int (pa_cons pe_str pa_nil)))) pa_nil)))))
      (pss_cons (ps_mid (ps_set (i := 12) nd rfl (Or.inl rfl) (pe_lst (pa_cons (pe_tup (pa_cons pe_int (pa_cons pe_int (pa_cons pe_str pa_nil)))) (pa_cons (pe_tup (pa_cons pe_int (pa_cons pe_int (pa_cons pe_str pa_nil)))) (pa_cons (pe_tup (pa_cons pe_int (pa_cons pe_int (pa_cons pe_str pa_nil)))) pa_nil))))))
      (pss_cons (ps_mid (ps_set (i := 13) nd rfl (Or.inl rfl) pe_non))
      (pss_cons (ps_mid (ps_try_keep (i := 14) rfl rfl rfl nd rfl rfl ⟨rfl, by decide, .inl R.g2⟩ takes0 (fun W pn xe tk _ => pss_one (ps_expr (pcx RoX hr (by decide) (by rfl) tk (pa_cons (pv 12) (pa_cons pe_int (pa_cons pe_int pa_nil)))))) (fun a rc kl dd pn hz hf => pss_one (ps_set (i := 13) nd rfl (Or.inl rfl) (pv 14)))))
      (pss_cons (ps_if (pt_mid (PW.pt (pw_or (pt_cmpR op_isN (pv 13) pe_non (nomark _)) (pw_or (pt_cmpR op_ne (pe_callB call_len_seq (by rfl) B.len PySem.boot_len (pa_cons (pcl Ro hr (by decide) (by rfl) (pa_cons (pv 12) (pa_cons pe_int (pa_cons pe_int pa_nil)))) pa_nil)) pe_int (nomark _)) (pw_or1 (pt_cmpR op_ne (pe_callB call_len_seq (by rfl) B.len PySem.boot_len (pa_cons (pcl Ro hr (by decide) (by rfl) (pa_cons (pv 12) (pa_cons pe_int (pa_cons pe_int pa_nil)))) pa_nil)) pe_int (nomark _))))))) (pss_one (ps_ret pe_bl)) pss_nil)
      (pss_cons (ps_if (pt_mid (pt_cmpR op_notN (pcl Ro hr (by decide) (by rfl) (pa_cons (pe_lst (pa_cons (pe_tup (pa_cons pe_int (pa_cons pe_int (pa_cons pe_str pa_nil)))) (pa_cons (pe_tup (pa_cons pe_int (pa_cons pe_int (pa_cons pe_str pa_nil)))) pa_nil))) (pa_cons pe_int (pa_cons pe_int pa_nil)))) pe_non (nomark _))) (pss_one (ps_ret pe_bl)) pss_nil)
      (pss_cons (ps_mid (ps_set (i := 11) nd rfl (Or.inr rfl) (pe_disp (pps_cons pe_int (pe_lst (pa_cons pe_int pa_nil)) (pps_cons pe_int (pe_lst (pa_cons pe_int pa_nil)) (pps_cons pe_int pe_non (pps_cons pe_int (pe_lst pa_nil) (pps_cons pe_int pe_non (pps_cons pe_int pe_non pps_nil)))))) rfl rfl nofun (by decide))))
      (pss_one (ps_ret (pe_cmpR (op_eqD hr.units) (pe_lock (pe_lc (own := [("_law_value", 9)]) (g := gName 9) rfl nd (pi_keys (pv 11)) (blkOk_by (N := ["_law_script", "_law_source_here", "_law_turn", "_law_k", "_law_sides", "_law_period_here", "_law_start", "_law_known", "_law_kept", "_law_value", "_law_found", "_law_due", "_law_three", "_law_caught", "e"]) (sc := defScope s_law) (by decide +kernel)) (fun _ _ _ _ _ => pg_name (i := 9) nd rfl (Or.inl rfl)) (fun _ _ _ _ _ => (pts_one (pt_cmpR (show OpR _ _ (rNeD K) from op_neD hr.units) (pcl Ro hr (by decide) (by rfl) (pa_cons (pv 4) (pa_cons pe_int (pa_cons (pv 9) pa_nil)))) (pe_dget (lt1 hr.units) (pv 11) (pv 9) (fun _ _ => rfl)) (nomark _)))) (fun _ _ _ _ _ => (pv 9)))) (pe_lst pa_nil) (nomark _))))))))))))), ?_⟩
    refine ⟨fun st Hz => ∃ a c : Addr, st = [some (.ref l), some (.ref a), none, none, none, none, none, none, none, none, none, none, none, none, none] ∧ Src Hz a c 0, ?_, ?_⟩
    · walk_at "rd"
      refine ⟨l, ns, rfl, hl, nl, fun a c H1 _ _ _ S1 => ?_⟩
      exact ⟨a, c, rfl, S1⟩
    rintro st H1 ⟨a, c, rfl, S1⟩
    refine ⟨fun st Hz => ∃ (x2 x3 x4 x5 x6 x7 x8 x9 x10 x11 : Option V), st = [some (.ref l), some (.ref a), x2, x3, x4, x5, x6, x7, x8, x9, x10, x11, none, none, none], ?_, ?_⟩
    · walk_at "rd"
      refine ⟨by decide, by decide, ?_⟩
      refine for_range (n := 30) (fun i st Hz => ∃ (x2 x3 x4 x5 x6 x7 x8 x9 x10 x11 : Option V) (t : Nat), st = [some (.ref l), some (.ref a), x2, x3, x4, x5, x6, x7, x8, x9, x10, x11, none, none, none] ∧ Src Hz a c t ∧ t ≤ 1000 * i) ⟨none, none, none, none, none, none, none, none, none, none, 0, rfl, S1, by omega⟩ ?_ (fun st Hz ⟨x2, x3, x4, x5, x6, x7, x8, x9, x10, x11, t, e, S, tb⟩ => ⟨x2, x3, x4, x5, x6, x7, x8, x9, x10, x11, e⟩)
      rintro i st Ha hi ⟨x2, x3, x4, x5, x6, x7, x8, x9, x10, x11, t, rfl, Sa, tb⟩
      walk_at "rd"
      refine ⟨fun st Hz => ∃ (x3 : Option V) (Ls : Addr) (xs : List V) (ss : List HT.Sd) (t' : Nat), st = [some (.ref l), some (.ref a), some (.int (0 + (i : Int))), x3, some (.ref Ls), x5, x6, x7, x8, x9, x10, x11, none, none, none] ∧ Src Hz a c t' ∧ t' ≤ t + 200 ∧ Hz Ls = some (.lst xs) ∧ Ls ≠ a ∧ Ls ≠ c ∧ SdQ 7 Hz xs ss ∧ 1 ≤ ss.length ∧ ss.length ≤ 4, ?_, ?_⟩
      · walk_at "rd"
        refine ⟨a, c, t, 4, rfl, Sa, by omega, by decide, lg_small (by decide) (by decide), fun y H2 y0 y1 S2 O2 => ?_⟩
        walk_at "rd"
        refine ⟨by omega, by omega, fun Ls nLs => ?_⟩
        obtain ⟨La, Lc⟩ := S2.na nLs
        refine lc_range (lo := 0) (n := (1 + y).toNat) (fun j H5 => ∃ (xs : List V) (ss : List HT.Sd) (t' : Nat), H5 Ls = some (.lst xs) ∧ SdQ 7 H5 xs ss ∧ ss.length = j ∧ t' ≤ t + 1 + 40 * j ∧ Src H5 a c t')
          ⟨[], [], t + 1, upd_same, ⟨rfl, fun i d h => nomatch h⟩, rfl, by omega, S2.new nLs⟩ ?_ ?_
        · rintro j H5 hj ⟨xs, ss, t', hLs, SS, hlen, ht', S5⟩
          refine ⟨rfl, ?_⟩
          walk_at "rd"
          refine ⟨(by show 2 ≤ sizeLine; decide), fun lm nlm => ?_⟩
          have glm : upd H5 lm (.lst [.int 4, .int 7]) lm = some (.lst [.int 4, .int 7]) := upd_same
          have slm : Same H5 (upd H5 lm (.lst [.int 4, .int 7])) := same_upd nlm
          generalize upd H5 lm (.lst [.int 4, .int 7]) = H6 at glm slm ⊢
          walk_at "rd"
          refine ⟨(by show (0 : Int) < 2; decide), ?_⟩
          refine ⟨lm, _, _, .int (if (0 + (i : Int)) % 2 = 0 then 4 else 7), rfl, rfl, SqL.of glm, ev47 _, ?_⟩
          have S6 := S5.of_same slm
          have SS6 := SS.same slm
          have hLs6 := slm _ _ hLs
          have m9 : 1 ≤ (if (0 + (i : Int)) % 2 = 0 then (4 : Int) else 7) ∧ (if (0 + (i : Int)) % 2 = 0 then (4 : Int) else 7) ≤ 7 := by split <;> omega
          generalize (if (0 + (i : Int)) % 2 = 0 then (4 : Int) else 7) = mo at m9 ⊢
          walk_at "rd"
          refine ⟨a, c, t', mo, rfl, S6, m9.1, by omega, by omega, fun p o s m H7 t7 np hp hh ht7 S7 O7 => ?_⟩
          refine ⟨_, O7 _ _ hLs6 La Lc, (by rw [SS.len, hlen]; exact Nat.lt_of_lt_of_le (by omega : j < 100) (by decide)), xs ++ [.ref p], ss ++ [⟨o, s, m⟩], t7, upd_same, ?_, by rw [List.length_append, hlen]; rfl, by omega, S7.chg La Lc⟩
          have SS7 := (SS6.oth S6 O7).snoc (d := ⟨o, s, m⟩) hp ⟨⟨by simp only; omega, by simp only; omega, hh.1, by simp only; omega, hh.2.2.2.2⟩, by simp only; omega⟩
          exact SS7.put (O7 _ _ hLs6 La Lc)
        · rintro H5 ⟨xs, ss, t', hLs, SS, hlen, ht', S5⟩
          exact ⟨_, Ls, xs, ss, t', rfl, S5, by omega, hLs, La, Lc, SS, by omega, by omega⟩
      rintro st H2 ⟨y3, Ls, xs, ss, t2, rfl, S2, t2b, hLs, La, Lc, SQ, l1, l4⟩
      have s7 := SQ.le
      have SS := SQ.sides hLs l1 l4
      clear SQ hLs
      refine ⟨fun st Hz => st = [some (.ref l), some (.ref a), some (.int (0 + (i : Int))), y3, some (.ref Ls), some (.int (comN ss : Int)), x6, x7, x8, x9, x10, x11, none, none, none] ∧ Same H2 Hz, ?_, ?_⟩
      · walk_at "rd"
        refine ⟨Ls, xs, ss, rfl, SS, fun H3 s3 => ?_⟩
        exact ⟨rfl, s3⟩
      rintro st H3 ⟨rfl, s3⟩
      replace S2 := S2.of_same s3
      replace SS := SS.same s3
      clear s3
      walk_at "rd"
      refine ite2 (fun z => ?_) (fun _ => ⟨_, _, _, _, _, _, _, _, _, _, _, rfl, S2, by omega⟩)
      have N90 : (comN ss : Int) < 90 := of_decide_eq_true z
      have cs := com_s SS.side
      have N1 : (1 : Int) ≤ (comN ss : Int) := by
        have := cs _ (sides_at (show 0 < ss.length by omega))
        have := (SS.side _ (sides_at (show 0 < ss.length by omega))).s0
        omega
      have b2 : Src H3 a c t2 ∧ True := ⟨S2, trivial⟩
      refine ⟨fun st Hz => ∃ s : Int, st = [some (.ref l), some (.ref a), some (.int (0 + (i : Int))), y3, some (.ref Ls), some (.int (comN ss : Int)), some (.int s), x7, x8, x9, x10, x11, none, none, none] ∧ (-100 ≤ s ∧ s ≤ 100) ∧ Src Hz a c (t2 + 1) ∧ SidesAt Hz Ls xs ss, ?_, ?_⟩
      · walk_at "rd"
        refine ⟨a, c, t2, 60, rfl, S2, by omega, by decide, lg_small (by decide) (by decide), fun y H4 y0 y1 S4 O4 => ?_⟩
        walk_at "rd"
        exact ⟨by omega, S4, SS.oth S2 La Lc O4⟩
      rintro st H4 ⟨s, rfl, sb, S4, SS4⟩
      clear b2 S2 SS
      refine ⟨fun st Hz => ∃ kd kvs ds g n, st = [some (.ref l), some (.ref a), some (.int (0 + (i : Int))), y3, some (.ref Ls), some (.int (comN ss : Int)), some (.int s), some (.ref kd), x8, x9, x10, x11, none, none, none] ∧ Same H4 Hz ∧ kd ≠ a ∧ kd ≠ c ∧ Hz kd = some (.dK kvs) ∧ PK Hz kvs ds g ∧ Lev ss s (2 * (comN ss : Int) + 40) n ds g [] ∧ n ≤ ds.length, ?_, ?_⟩
      · walk_at "rd"
        refine ⟨.inl ⟨by decide, by decide⟩, ?_⟩
        walk_at "rd"
        refine ⟨Ls, xs, ss, s, _, rfl, SS4, by omega, by omega, fun kd kvs ds g n H5 nkd s5 hk pk LV nds => ?_⟩
        obtain ⟨ka, kc⟩ := S4.na nkd
        exact ⟨kd, kvs, ds, g, n, rfl, s5, ka, kc, hk, pk, LV, nds⟩
      rintro st H5 ⟨kd, kvs, ds, g, n, rfl, s5, ka, kc, hk, pk, LV, nds⟩
      have S5 := S4.of_same s5
      have SS5 := SS4.same s5
      clear S4 SS4 s5
      refine ⟨fun st Hz => ∃ Kp, st = [some (.ref l), some (.ref a), some (.int (0 + (i : Int))), y3, some (.ref Ls), some (.int (comN ss : Int)), some (.int s), some (.ref kd), some (.ref Kp), x9, x10, x11, none, none, none] ∧ Same H5 Hz ∧ Hz Kp = some (.lst xs) ∧ Kp ≠ a ∧ Kp ≠ c, ?_, ?_⟩
      · walk_at "rd"
        refine ⟨Ls, xs, rfl, .inl (SqL.of SS5.hl), fun Kp nKp => ?_⟩
        obtain ⟨ka, kc⟩ := S5.na nKp
        exact ⟨Kp, rfl, same_upd nKp, upd_same, ka, kc⟩
      rintro st H6 ⟨Kp, rfl, s6, hKp, Ka, Kc⟩
      have S6 := S5.of_same s6
      have SS6 := SS5.same s6
      have hk6 := s6 _ _ hk
      have pk6 := pk.same s6
      clear S5 SS5 s6 hk pk
      refine ⟨fun st Hz => ∃ (x3 x9 x10 x11 : Option V) (t' : Nat), st = [some (.ref l), some (.ref a), some (.int (0 + (i : Int))), x3, some (.ref Ls), some (.int (comN ss : Int)), some (.int s), some (.ref kd), some (.ref Kp), x9, x10, x11, none, none, none] ∧ Src Hz a c t' ∧ t' ≤ t2 + 100, ?_, fun st Hz ⟨x3, x9, x10, x11, t', e, S, tb'⟩ => ⟨_, _, _, _, _, _, _, _, _, _, t', e, S, by omega⟩⟩
      walk_at "rd"
      refine ⟨by decide, by decide, ?_⟩
      refine for_range (n := 8) (fun j st Hz => ∃ (x3 x9 x10 x11 : Option V) (t' : Nat), st = [some (.ref l), some (.ref a), some (.int (0 + (i : Int))), x3, some (.ref Ls), some (.int (comN ss : Int)), some (.int s), some (.ref kd), some (.ref Kp), x9, x10, x11, none, none, none] ∧ Src Hz a c t' ∧ t' ≤ t2 + 1 + 10 * j ∧ SidesAt Hz Ls xs ss ∧ Hz kd = some (.dK kvs) ∧ PK Hz kvs ds g ∧ Hz Kp = some (.lst xs))
        ⟨_, _, _, _, _, rfl, S6, by omega, SS6, hk6, pk6, hKp⟩ ?_ (fun st Hz ⟨x3, x9, x10, x11, t', e, S, tb', _⟩ => ⟨x3, x9, x10, x11, t', e, S, by omega⟩)
      clear S6 SS6 hk6 pk6 hKp
      rintro j st H7 hj ⟨y3, y9, y10, y11, t3, rfl, S7, tb3, SS, hk, pk, hKp⟩
      have dsl : (ds.length : Int) ≤ 2 * (2 * (comN ss : Int) + 40) + 1 := win_len (by omega) LV.nd (LV.win (by omega))
      refine ⟨fun st Hz => ∃ v : Int, st = [some (.ref l), some (.ref a), some (.int (0 + (i : Int))), some (.int (0 + (j : Int))), some (.ref Ls), some (.int (comN ss : Int)), some (.int s), some (.ref kd), some (.ref Kp), some (.int v), y10, y11, none, none, none] ∧ (s - (comN ss : Int) ≤ v ∧ v ≤ s + (comN ss : Int)) ∧ Src Hz a c (t3 + 1) ∧ Oth a c H7 Hz, ?_, ?_⟩
      · walk_at "rd"
        refine ⟨.inl ⟨by decide, by decide⟩, ?_⟩
        walk_at "rd"
        refine ⟨a, c, t3, _, rfl, S7, by omega, by omega, lg_small (by omega) (by omega), fun y H8 y0 y1 S8 O8 => ?_⟩
        walk_at "rd"
        exact ⟨by omega, S8, O8⟩
      rintro st H8 ⟨v0, rfl, v0b, S8, O8⟩
      replace SS := SS.oth S7 La Lc O8
      replace hk := O8 _ _ hk ka kc
      replace hKp := O8 _ _ hKp Ka Kc
      replace pk := pk.oth S7 O8
      clear S7 O8
      refine ⟨fun st Hz => ∃ (v : Int) (t4 : Nat), st = [some (.ref l), some (.ref a), some (.int (0 + (i : Int))), some (.int (0 + (j : Int))), some (.ref Ls), some (.int (comN ss : Int)), some (.int s), some (.ref kd), some (.ref Kp), some (.int v), y10, y11, none, none, none] ∧ (s - 2 * (comN ss : Int) ≤ v ∧ v ≤ s + 2 * (comN ss : Int)) ∧ (s - ((comN ss : Int) + 7) ≤ v ∧ v ≤ s + ((comN ss : Int) + 7)) ∧ Src Hz a c t4 ∧ t4 ≤ t3 + 3 ∧ Oth a c H8 Hz, ?_, ?_⟩
      · walk_at "rd"
        refine ⟨a, c, t3 + 1, 2, rfl, S8, by omega, by decide, lg_small (by decide) (by decide), fun y H9 y0 y1 S9 O9 => ?_⟩
        walk_at "rd"
        refine ⟨rfl, ?_⟩
        refine ⟨_, rfl, ?_⟩
        refine ite2 (fun _ => ?_) (fun _ => ⟨v0, _, rfl, by omega, by omega, S9, by omega, O9⟩)
        refine ⟨fun st Hz => ∃ (v : Int) (t4 : Nat), st = [some (.ref l), some (.ref a), some (.int (0 + (i : Int))), some (.int (0 + (j : Int))), some (.ref Ls), some (.int (comN ss : Int)), some (.int s), some (.ref kd), some (.ref Kp), some (.int v), y10, y11, none, none, none] ∧ (s - 2 * (comN ss : Int) ≤ v ∧ v ≤ s + 2 * (comN ss : Int)) ∧ (s - ((comN ss : Int) + 7) ≤ v ∧ v ≤ s + ((comN ss : Int) + 7)) ∧ Src Hz a c t4 ∧ t4 ≤ t3 + 3 ∧ Oth a c H8 Hz, ?_, fun _ _ z => z⟩
        have SS9 := SS.oth S8 La Lc O9
        walk_at "rd"
        refine ⟨Ls, _, rfl, .inl (SqL.of SS9.hl), ?_⟩
        have lx := SS9.len
        walk_at "rd"
        refine ⟨a, c, t3 + 2, (xs.length : Int), rfl, S9, by omega, by omega, lg_small (by omega) (by omega), fun k Hv k0 k1 Sv Ov => ?_⟩
        have SSv := SS9.oth S9 La Lc Ov
        have ed : ss[k.toNat]? = some (ss.getD k.toNat sd0) := by rw [List.getD_eq_getElem?_getD, List.getElem?_eq_getElem (show k.toNat < ss.length by omega)]; rfl
        obtain ⟨pq, ep, hp, sp⟩ := SSv.at_ _ _ ed
        have s9 := s7 _ (sides_at (show k.toNat < ss.length by omega))
        have c9 := cs _ (sides_at (show k.toNat < ss.length by omega))
        refine ⟨Ls, _, k, _, rfl, rfl, SqL.of SSv.hl, by have := at_nat ep; rwa [Int.toNat_of_nonneg k0] at this, ?_⟩
        walk_at "rd"
        refine ⟨pq, _, _, _, v0, rfl, hp, sp, ⟨by omega, by omega⟩, fun Hw sw => ?_⟩
        have nn := near_s sp v0
        exact ⟨_, _, rfl, by omega, by omega, Sv.of_same sw, by omega, fun b u z n1 n2 => sw _ _ (Ov _ _ (O9 _ _ z n1 n2) n1 n2)⟩
      rintro st H9 ⟨v, t4, rfl, vb, vb7, S9, tb4, O9⟩
      replace SS := SS.oth S8 La Lc O9
      replace hk := O9 _ _ hk ka kc
      replace hKp := O9 _ _ hKp Ka Kc
      replace pk := pk.oth S8 O9
      clear S8 O9 v0b v0
      obtain ⟨L1, L2', L3⟩ := lev_in (v := v) (B := (comN ss : Int) + 20) SS.side s7 (by omega) (by omega) (by omega) LV
      refine ⟨fun st Hz => ∃ fo : V, st = [some (.ref l), some (.ref a), some (.int (0 + (i : Int))), some (.int (0 + (j : Int))), some (.ref Ls), some (.int (comN ss : Int)), some (.int s), some (.ref kd), some (.ref Kp), some (.int v), some fo, y11, none, none, none] ∧ Same H9 Hz ∧ ((∃ r i, fo = .ref r ∧ inA v ss s i ∧ (∀ j, j < i → ¬ inA v ss s j) ∧ Hz r = some (.lst ((wayF v (ss.map (movD (-v))) ss i s).map natV))) ∨ (fo = .non ∧ ∀ i, ¬ inA v ss s i)), ?_, ?_⟩
      · walk_at "rd"
        show spRouZ C _ _ _ E0
        refine rou_near ⟨Ls, xs, ss, s, v, rfl, SS, ⟨by omega, by omega⟩, ⟨by omega, by omega⟩, by omega, by omega, fun i r H' hin no nr s' hr' => ?_, fun none_ H' s' => ?_⟩
        · exact ⟨_, rfl, s', .inl ⟨r, i, rfl, hin, no, hr'⟩⟩
        · exact ⟨_, rfl, s', .inr ⟨rfl, none_⟩⟩
      rintro st HA ⟨fo, rfl, sA, fc⟩
      replace SS := SS.same sA
      replace hk := sA _ _ hk
      replace hKp := sA _ _ hKp
      replace pk := pk.same sA
      replace S9 := S9.of_same sA
      clear sA
      refine ⟨fun st Hz => st = [some (.ref l), some (.ref a), some (.int (0 + (i : Int))), some (.int (0 + (j : Int))), some (.ref Ls), some (.int (comN ss : Int)), some (.int s), some (.ref kd), some (.ref Kp), some (.int v), some fo, some .non, none, none, none] ∧ HA = Hz, ?_, ?_⟩
      · exact ⟨rfl, rfl⟩
      rintro st _ ⟨rfl, rfl⟩
      refine ⟨fun st Hz => ∃ dv : V, st = [some (.ref l), some (.ref a), some (.int (0 + (i : Int))), some (.int (0 + (j : Int))), some (.ref Ls), some (.int (comN ss : Int)), some (.int s), some (.ref kd), some (.ref Kp), some (.int v), some fo, some dv, none, none, none] ∧ Same HA Hz ∧ ((∃ r i d, fo = .ref r ∧ dv = .ref d ∧ i ≤ 1000 ∧ inA v ss s i ∧ (∀ j, j < i → ¬ inA v ss s j) ∧ Hz r = some (.lst ((wayF v (ss.map (movD (-v))) ss i s).map natV)) ∧ Hz d = some (.lst ((wayF v (ss.map (movD (-v))) ss i s).map natV))) ∨ (fo = .non ∧ dv = .non ∧ ∀ i, ¬ inA v ss s i)), ?_, ?_⟩
      · walk_at "rd"
        refine ⟨kd, _, rfl, DGet.k (k := Sum.inl v) hk, ?_⟩
        rcases fc with ⟨r, im, rfl, hin, no, hr⟩ | ⟨rfl, none_⟩
        · obtain ⟨vd, eg⟩ := L3 im hin no
          obtain ⟨pg, ev, hpg⟩ := pk.2.2 v vd
          rw [ev]
          refine ⟨_, rfl, ?_⟩
          refine ite2 (fun _ => ?_) (fun z => absurd rfl z)
          refine ⟨fun st Hz => ∃ dv : V, st = [some (.ref l), some (.ref a), some (.int (0 + (i : Int))), some (.int (0 + (j : Int))), some (.ref Ls), some (.int (comN ss : Int)), some (.int s), some (.ref kd), some (.ref Kp), some (.int v), some (.ref r), some dv, none, none, none] ∧ Same HA Hz ∧ ((∃ r' i d, V.ref r = .ref r' ∧ dv = .ref d ∧ i ≤ 1000 ∧ inA v ss s i ∧ (∀ j, j < i → ¬ inA v ss s j) ∧ Hz r' = some (.lst ((wayF v (ss.map (movD (-v))) ss i s).map natV)) ∧ Hz d = some (.lst ((wayF v (ss.map (movD (-v))) ss i s).map natV))) ∨ (V.ref r = .non ∧ dv = .non ∧ ∀ i, ¬ inA v ss s i)), ?_, fun _ _ z => z⟩
          walk_at "rd"
          refine ⟨kd, .ref pg, rfl, by rw [← ev]; exact DGet.k (k := Sum.inl v) hk, ?_⟩
          walk_at "rd"
          refine ⟨pg, _, rfl, .inr (SqT.of hpg), fun d nd' => ?_⟩
          have sd := same_upd (o := .lst ((g v).map natV)) nd'
          have il : im ≤ 1000 := by
            have := ((LV.best v vd).2)
            rw [eg, wayF_len] at this
            omega
          exact ⟨_, rfl, sd, .inl ⟨r, im, d, rfl, rfl, il, hin, no, sd _ _ hr, by rw [upd_same, eg]⟩⟩
        · have nv : v ∉ ds := fun z => none_ _ (L2' z)
          rw [pk.2.1 v nv]
          refine ⟨_, rfl, ?_⟩
          refine ite2 (fun z => absurd z (by decide)) (fun _ => ?_)
          exact ⟨.non, rfl, Same.refl _, .inr ⟨rfl, rfl, none_⟩⟩
      rintro st HB ⟨dv, rfl, sB, fd'⟩
      clear fc L1 L2' L3
      replace SS := SS.same sB
      replace hk := sB _ _ hk
      replace hKp := sB _ _ hKp
      replace pk := pk.same sB
      replace S9 := S9.of_same sB
      clear sB
      walk_at "rd"
      refine ⟨fun b Hz => b = false ∧ Same HB Hz, ?_, ?_⟩
      · walk_at "rd"
        obtain ⟨jb, hjb, ejb⟩ := bef_soon SS.side (v := v) cs (Int.natCast_nonneg (comN ss))
        rcases fd' with ⟨r, im, d, rfl, rfl, il, hin, no, hr, hd⟩ | ⟨rfl, rfl, none_⟩
        · refine ⟨_, _, nats_dp hr, nats_dp hd, nats_sh _, nats_sh _, ?_⟩
          rw [eqv_self (nats_sh _)]
          refine ⟨_, rfl, ?_⟩
          refine ite2 (fun z => absurd z (by decide)) (fun _ => ?_)
          walk_at "rd"
          refine ⟨rfl, ?_⟩
          walk_at "rd"
          show spBefZ K C _ _ _ E0
          refine bef_imp ⟨Ls, xs, ss, v, rfl, SS, ⟨by omega, by omega⟩, jb, by omega, ejb, fun p H' np s' hp => ?_⟩
          walk_at "rd"
          refine ⟨p, _, _, s, rfl, hp, ?_⟩
          have hh : holdsF (if (cR v (comN ss : Int) ss jb).1 = v - (comN ss : Int) then none else some (cR v (comN ss : Int) ss jb).1) (if (cR v (comN ss : Int) ss jb).2 = v + (comN ss : Int) then none else some (cR v (comN ss : Int) ss jb).2) s = true := in_hold SS.side ejb hin
          rw [hh]
          refine ⟨rfl, ?_⟩
          have e0 : decide (V.ref r = V.non) = false := decide_eq_false (fun y => V.noConfusion y)
          exact ⟨_, rfl, by rw [e0]; decide +kernel, s'⟩
        · refine ⟨_, _, .non, .non, nonD_sh, nonD_sh, ?_⟩
          rw [non_self]
          refine ⟨_, rfl, ?_⟩
          refine ite2 (fun z => absurd z (by decide)) (fun _ => ?_)
          walk_at "rd"
          refine ⟨rfl, ?_⟩
          walk_at "rd"
          show spBefZ K C _ _ _ E0
          refine bef_imp ⟨Ls, xs, ss, v, rfl, SS, ⟨by omega, by omega⟩, jb, by omega, ejb, fun p H' np s' hp => ?_⟩
          walk_at "rd"
          refine ⟨p, _, _, s, rfl, hp, ?_⟩
          have hh : holdsF (if (cR v (comN ss : Int) ss jb).1 = v - (comN ss : Int) then none else some (cR v (comN ss : Int) ss jb).1) (if (cR v (comN ss : Int) ss jb).2 = v + (comN ss : Int) then none else some (cR v (comN ss : Int) ss jb).2) s = false := by
            rw [Bool.eq_false_iff]
            exact fun z => none_ _ (hold_in SS.side ⟨by omega, by omega⟩ (show holdsC v (comN ss) (cR v (comN ss) ss jb) s = true from z))
          rw [hh]
          refine ⟨rfl, ?_⟩
          exact ⟨_, rfl, by rw [decide_eq_true rfl]; decide +kernel, s'⟩
      rintro b HC ⟨rfl, sC⟩
      refine ite2 (fun z => absurd z (by decide)) (fun _ => ?_)
      walk_at "rd"
      refine ⟨fun b Hz => b = false ∧ Same HC Hz, ?_, ?_⟩
      · replace SS := SS.same sC
        have md : ∀ d ∈ ss, Mode d.m := fun d hd => (SS.side d hd).md
        walk_at "rd"
        refine ⟨_, _, SS.dp SS.hl, SS.dp (sC _ _ hKp), shaped_sides md, shaped_sides md, ?_⟩
        rw [eqv_self (shaped_sides md)]
        refine ⟨_, rfl, ?_⟩
        refine ite2 (fun z => absurd z (by decide)) (fun _ => ?_)
        walk_at "rd"
        refine ⟨rfl, ?_⟩
        refine ⟨_, rfl, ?_⟩
        rcases fd' with ⟨r, im, d, rfl, rfl, il, hin, no, hr, hd⟩ | ⟨rfl, rfl, none_⟩
        · refine ite2 (fun _ => ?_) (fun z => absurd (by rw [show decide (V.ref r = V.non) = false from decide_eq_false (fun y => V.noConfusion y)]; rfl) z)
          have BW := way_Best (v := v) (s := s) (B := (comN ss : Int) + 20) (M := 2 * (comN ss : Int) + 40) SS.side s7 hin no (by omega) (by omega) (by omega)
          have wl := wayF_len v (ss.map (movD (-v))) ss im s
          replace hr := sC _ _ hr
          generalize wayF v (ss.map (movD (-v))) ss im s = ks at BW wl hr
          walk_at "rd"
          refine ⟨(by show 1 ≤ sizeLine; decide), fun e1 ne1 => ?_⟩
          have ge1 : upd HC e1 (.lst [V.int s]) e1 = some (.lst [V.int s]) := upd_same
          have se1 : Same HC (upd HC e1 (.lst [V.int s])) := same_upd ne1
          generalize upd HC e1 (.lst [V.int s]) = HE at ge1 se1 ⊢
          walk_at "rd"
          refine ⟨Ls, xs, ss, r, ks, s, rfl, SS.same se1, se1 _ _ hr, by omega, BW.ww.lt, ⟨by omega, by omega⟩, fun d H4 nd4 s4 hd => ?_⟩
          have wlen : (walkW ss ks s).1.length = ks.length := by
            unfold walkW
            rw [walk_len (v := s)]
            exact Nat.zero_add _
          refine ⟨e1, d, _, _, rfl, rfl, s4 _ _ ge1, hd, ?_, fun p np => ?_⟩
          · rw [List.length_map, wlen]
            exact Nat.le_trans (by show 1 + ks.length ≤ 2000; omega) (by decide)
          have gp : upd H4 p (.lst ([V.int s] ++ (walkW ss ks s).1.map V.int)) p = some (.lst ([V.int s] ++ (walkW ss ks s).1.map V.int)) := upd_same
          have sp : Same H4 (upd H4 p (.lst ([V.int s] ++ (walkW ss ks s).1.map V.int))) := same_upd np
          generalize upd H4 p (.lst ([V.int s] ++ (walkW ss ks s).1.map V.int)) = HF at gp sp ⊢
          have ev : (walkW ss ks s).2 = v := (walk_go ks [] s BW.ww.lt).trans BW.ww.at_
          have hix : atI ([V.int s] ++ (walkW ss ks s).1.map V.int) (-1) = some (.int v) := by
            by_cases z : ks = []
            · subst z
              rw [← ev]
              exact atI_last [] _
            · obtain ⟨T, e2, e3⟩ := walk_last ks [] s BW.ww.lt z
              have e2' : (walkW ss ks s).1 = T ++ [v] := by rw [← ev]; exact e2
              rw [e2', List.map_append, ← List.append_assoc]
              exact atI_last _ _
          walk_at "rd"
          refine ⟨p, _, _, _, rfl, rfl, SqL.of gp, hix, ?_⟩
          walk_at "rd"
          refine ⟨rfl, ?_⟩
          exact ⟨_, rfl, by rw [decide_eq_true rfl]; rfl, se1.trans (s4.trans sp)⟩
        · refine ite2 (fun z => absurd z (by rw [decide_eq_true rfl]; decide)) (fun _ => ?_)
          exact ⟨rfl, Same.refl _⟩
      rintro b HD ⟨rfl, sD⟩
      refine ite2 (fun z => absurd z (by decide)) (fun _ => ?_)
      have sBD := sC.trans sD
      exact ⟨_, _, _, _, _, rfl, S9.of_same sBD, by omega, SS.same sBD, sBD _ _ hk, pk.same sBD, sBD _ _ hKp⟩
    rintro st H2 ⟨x2, x3, x4, x5, x6, x7, x8, x9, x10, x11, rfl⟩
    refine ⟨fun st Hz => ∃ (tw : Addr) (tx : List V), st = [some (.ref l), some (.ref a), x2, x3, some (.ref tw), x5, x6, x7, x8, x9, x10, x11, none, none, none] ∧ SidesAt Hz tw tx two11, ?_, ?_⟩
    · walk_at "rd"
      refine ⟨(by show 3 ≤ sizeLine; decide), fun p np => ?_⟩
      have gp : upd H2 p (.tup [V.int 0, .int 10, .str "up"]) p = some (.tup [V.int 0, .int 10, .str "up"]) := upd_same
      generalize upd H2 p (.tup [V.int 0, .int 10, .str "up"]) = H3 at gp ⊢
      walk_at "rd"
      refine ⟨(by show 3 ≤ sizeLine; decide), fun p2 np2 => ?_⟩
      have gp2 : upd H3 p2 (.tup [V.int 3, .int 10, .str "down"]) p2 = some (.tup [V.int 3, .int 10, .str "down"]) := upd_same
      have sp2 : Same H3 (upd H3 p2 (.tup [V.int 3, .int 10, .str "down"])) := same_upd np2
      generalize upd H3 p2 (.tup [V.int 3, .int 10, .str "down"]) = H4 at gp2 sp2 ⊢
      walk_at "rd"
      refine ⟨(by show 2 ≤ sizeLine; decide), fun p3 np3 => ?_⟩
      have sp3 : Same H4 (upd H4 p3 (.lst [V.ref p, .ref p2])) := same_upd np3
      have T : SidesAt (upd H4 p3 (.lst [V.ref p, .ref p2])) p3 [V.ref p, .ref p2] two11 := (show SdQ (10 ^ 30) _ _ _ from ((sdq_nil.snoc (d := ⟨0, 10, "up"⟩) (sp3 _ _ (sp2 _ _ gp)) ⟨two_side _ (by simp), by decide⟩).snoc (d := ⟨3, 10, "down"⟩) (sp3 _ _ gp2) ⟨two_side _ (by simp), by decide⟩)).sides upd_same (by decide) (by decide)
      exact ⟨p3, _, rfl, T⟩
    rintro st H3 ⟨tw, tx, rfl, TT⟩
    refine ⟨fun st Hz => ∃ (th : Addr) (hx : List V), st = [some (.ref l), some (.ref a), x2, x3, some (.ref tw), x5, x6, x7, x8, x9, x10, x11, some (.ref th), none, none] ∧ SidesAt Hz th hx three ∧ Same H3 Hz, ?_, ?_⟩
    · walk_at "rd"
      refine ⟨(by show 3 ≤ sizeLine; decide), fun p np => ?_⟩
      have gp : upd H3 p (.tup [V.int 0, .int 3, .str "half_up"]) p = some (.tup [V.int 0, .int 3, .str "half_up"]) := upd_same
      have sp : Same H3 (upd H3 p (.tup [V.int 0, .int 3, .str "half_up"])) := same_upd np
      generalize upd H3 p (.tup [V.int 0, .int 3, .str "half_up"]) = H4 at gp sp ⊢
      walk_at "rd"
      refine ⟨(by show 3 ≤ sizeLine; decide), fun p2 np2 => ?_⟩
      have gp2 : upd H4 p2 (.tup [V.int 1, .int 3, .str "half_up"]) p2 = some (.tup [V.int 1, .int 3, .str "half_up"]) := upd_same
      have sp2 : Same H4 (upd H4 p2 (.tup [V.int 1, .int 3, .str "half_up"])) := same_upd np2
      generalize upd H4 p2 (.tup [V.int 1, .int 3, .str "half_up"]) = H5 at gp2 sp2 ⊢
      walk_at "rd"
      refine ⟨(by show 3 ≤ sizeLine; decide), fun p3 np3 => ?_⟩
      have gp3 : upd H5 p3 (.tup [V.int 2, .int 3, .str "half_up"]) p3 = some (.tup [V.int 2, .int 3, .str "half_up"]) := upd_same
      have sp3 : Same H5 (upd H5 p3 (.tup [V.int 2, .int 3, .str "half_up"])) := same_upd np3
      generalize upd H5 p3 (.tup [V.int 2, .int 3, .str "half_up"]) = H6 at gp3 sp3 ⊢
      walk_at "rd"
      refine ⟨(by show 3 ≤ sizeLine; decide), fun p4 np4 => ?_⟩
      have sp4 : Same H6 (upd H6 p4 (.lst [V.ref p, .ref p2, .ref p3])) := same_upd np4
      have T : SidesAt (upd H6 p4 (.lst [V.ref p, .ref p2, .ref p3])) p4 [V.ref p, .ref p2, .ref p3] three := (show SdQ (10 ^ 30) _ _ _ from (((sdq_nil.snoc (d := ⟨0, 3, "half_up"⟩) (sp4 _ _ (sp3 _ _ (sp2 _ _ gp))) ⟨three_side _ (by simp), by decide⟩).snoc (d := ⟨1, 3, "half_up"⟩) (sp4 _ _ (sp3 _ _ gp2)) ⟨three_side _ (by simp), by decide⟩).snoc (d := ⟨2, 3, "half_up"⟩) (sp4 _ _ gp3) ⟨three_side _ (by simp), by decide⟩)).sides upd_same (by decide) (by decide)
      exact ⟨p4, _, rfl, T, sp.trans (sp2.trans (sp3.trans sp4))⟩
    rintro st H4 ⟨th, hx, rfl, TH, s4⟩
    replace TT := TT.same s4
    clear s4
    refine ⟨fun st Hz => st = [some (.ref l), some (.ref a), x2, x3, some (.ref tw), x5, x6, x7, x8, x9, x10, x11, some (.ref th), some .non, none] ∧ H4 = Hz, ?_, ?_⟩
    · exact ⟨rfl, rfl⟩
    rintro st _ ⟨rfl, rfl⟩
    refine ⟨fun st Hz => ∃ pe : Addr, st = [some (.ref l), some (.ref a), x2, x3, some (.ref tw), x5, x6, x7, x8, x9, x10, x11, some (.ref th), some (.ref pe), none] ∧ Same H4 Hz, ?_, ?_⟩
    · walk_at "rd"
      refine ⟨th, hx, three, 0, 3000, rfl, TH, by decide, by decide, fun i r H' i1 hin no nr s' hr => ?_, fun none_ => ⟨5, by decide, three_many.1, fun H' s' => ⟨fun hf => ?_, fun _ => ?_⟩⟩⟩
      · have := three_far _ _ _ hin
        omega
      · rw [three_many.2] at hf
        cases hf
      refine ⟨true, em2, fun _ => ⟨rfl, fun pe hpe => ?_⟩, fun z => Bool.noConfusion z⟩
      walk_at "rd"
      exact fun b u y => (upd_ne (ne_of_none (s' _ _ y) hpe)).trans (s' _ _ y)
    rintro st H5 ⟨pe, rfl, s5⟩
    replace TT := TT.same s5
    replace TH := TH.same s5
    clear s5
    walk_at "rd"
    refine ⟨fun b Hz => b = false ∧ Same H5 Hz, ?_, ?_⟩
    · walk_at "rd"
      refine ⟨rfl, ?_⟩
      refine ⟨_, rfl, ?_⟩
      refine ite2 (fun z => absurd z (by rw [decide_eq_false (fun y => V.noConfusion y)]; decide)) (fun _ => ?_)
      walk_at "rd"
      refine ⟨th, hx, three, 0, 900, rfl, TH, by decide, by decide, fun i r H' i1 hin no nr s' hr => ?_, fun none_ => absurd (three_in 900 900 0 (by decide)) (none_ 900 (by decide))⟩
      have i9 : i = 900 := by
        have := three_far _ _ _ hin
        rcases Nat.lt_or_ge 900 i with z | z
        · exact absurd (three_in 900 900 0 (by decide)) (no 900 z)
        · omega
      have wl := wayF_len 900 (three.map (movD (-900))) three i 0
      walk_at "rd"
      refine ⟨r, _, rfl, .inl (SqL.of hr), ?_⟩
      rw [List.length_map, wl, i9]
      refine ⟨rfl, ?_⟩
      refine ⟨_, rfl, ?_⟩
      refine ite2 (fun z => absurd z (by decide +kernel)) (fun _ => ?_)
      walk_at "rd"
      refine ⟨th, hx, three, 900, 0, rfl, TH.same s', by decide, by decide, fun i r H2' i1 hin no nr s2' hr => ?_, fun none_ => absurd (three_in 900 0 900 (by decide)) (none_ 900 (by decide))⟩
      have i9 : i = 900 := by
        have := three_far _ _ _ hin
        rcases Nat.lt_or_ge 900 i with z | z
        · exact absurd (three_in 900 0 900 (by decide)) (no 900 z)
        · omega
      have wl := wayF_len 0 (three.map (movD (-0))) three i 900
      walk_at "rd"
      refine ⟨r, _, rfl, .inl (SqL.of hr), ?_⟩
      rw [List.length_map, wl, i9]
      refine ⟨rfl, ?_⟩
      refine ⟨_, rfl, ?_⟩
      exact ⟨by decide +kernel, s'.trans s2'⟩
    rintro b H6 ⟨rfl, s6⟩
    replace TT := TT.same s6
    clear TH s6
    refine ite2 (fun z => absurd z (by decide)) (fun _ => ?_)
    walk_at "rd"
    refine ⟨fun b Hz => b = false ∧ Same H6 Hz, ?_, ?_⟩
    · walk_at "rd"
      refine ⟨(by show 3 ≤ sizeLine; decide), fun p np => ?_⟩
      have gp : upd H6 p (.tup [V.int 0, .int 10, .str "up"]) p = some (.tup [V.int 0, .int 10, .str "up"]) := upd_same
      have sp : Same H6 (upd H6 p (.tup [V.int 0, .int 10, .str "up"])) := same_upd np
      generalize upd H6 p (.tup [V.int 0, .int 10, .str "up"]) = H7 at gp sp ⊢
      walk_at "rd"
      refine ⟨(by show 3 ≤ sizeLine; decide), fun p2 np2 => ?_⟩
      have gp2 : upd H7 p2 (.tup [V.int 5, .int 10, .str "up"]) p2 = some (.tup [V.int 5, .int 10, .str "up"]) := upd_same
      have sp2 : Same H7 (upd H7 p2 (.tup [V.int 5, .int 10, .str "up"])) := same_upd np2
      generalize upd H7 p2 (.tup [V.int 5, .int 10, .str "up"]) = H8 at gp2 sp2 ⊢
      walk_at "rd"
      refine ⟨(by show 2 ≤ sizeLine; decide), fun p3 np3 => ?_⟩
      have sp3 : Same H8 (upd H8 p3 (.lst [V.ref p, .ref p2])) := same_upd np3
      have T : SidesAt (upd H8 p3 (.lst [V.ref p, .ref p2])) p3 [V.ref p, .ref p2] upp := (show SdQ (10 ^ 30) _ _ _ from ((sdq_nil.snoc (d := ⟨0, 10, "up"⟩) (sp3 _ _ (sp2 _ _ gp)) ⟨upp_side _ (by simp), by decide⟩).snoc (d := ⟨5, 10, "up"⟩) (sp3 _ _ gp2) ⟨upp_side _ (by simp), by decide⟩)).sides upd_same (by decide) (by decide)
      generalize upd H8 p3 (.lst [V.ref p, .ref p2]) = H9 at T sp3 ⊢
      walk_at "rd"
      refine ⟨p3, _, upp, 11, 10, rfl, T, by decide, by decide, fun i r H' i1 hin no nr s' hr => absurd hin (rou_no upp_side upp_none i), fun _ => ⟨5, by decide, upp_none.1, fun H' s' => ⟨fun _ => ?_, fun hf => by rw [upp_none.2] at hf; cases hf⟩⟩⟩
      walk_at "rd"
      refine ⟨rfl, ?_⟩
      exact ⟨_, rfl, by rw [decide_eq_true rfl]; rfl, sp.trans (sp2.trans (sp3.trans s'))⟩
    rintro b H7 ⟨rfl, s7'⟩
    replace TT := TT.same s7'
    clear s7'
    refine ite2 (fun z => absurd z (by decide)) (fun _ => ?_)
    walk_at "rd"
    refine ⟨fun st Hz => ∃ dd p0 p1 p7 : Addr, st = [some (.ref l), some (.ref a), x2, x3, some (.ref tw), x5, x6, x7, x8, x9, x10, some (.ref dd), some (.ref th), some (.ref pe), none] ∧ Same H7 Hz ∧ Hz dd = some (.dK (due11 p0 p1 p7)) ∧ Hz p0 = some (.lst ([0].map natV)) ∧ Hz p1 = some (.lst ([1].map natV)) ∧ Hz p7 = some (.lst (([] : List Nat).map natV)) ∧ H7 dd = none, ?_, ?_⟩
    · walk_at "rd"
      intro dd ndd
      have gd : upd H7 dd (.dK []) dd = some (.dK []) := upd_same
      have sd : Same H7 (upd H7 dd (.dK [])) := same_upd ndd
      generalize upd H7 dd (.dK []) = HA at gd sd ⊢
      walk_at "rd"
      refine ⟨(by show 1 ≤ sizeLine; decide), fun p0 np0 => ?_⟩
      have g0 : upd HA p0 (.lst [V.int 0]) p0 = some (.lst [V.int 0]) := upd_same
      have s0' : Same HA (upd HA p0 (.lst [V.int 0])) := same_upd np0
      generalize upd HA p0 (.lst [V.int 0]) = HB at g0 s0' ⊢
      walk_at "rd"
      refine ⟨(by show 1 ≤ sizeLine; decide), fun p1 np1 => ?_⟩
      have g1 : upd HB p1 (.lst [V.int 1]) p1 = some (.lst [V.int 1]) := upd_same
      have s1' : Same HB (upd HB p1 (.lst [V.int 1])) := same_upd np1
      generalize upd HB p1 (.lst [V.int 1]) = HC at g1 s1' ⊢
      walk_at "rd"
      refine ⟨(by show 0 ≤ sizeLine; decide), fun p7 np7 => ?_⟩
      have g7 : upd HC p7 (.lst []) p7 = some (.lst []) := upd_same
      have s7' : Same HC (upd HC p7 (.lst [])) := same_upd np7
      generalize upd HC p7 (.lst []) = HD at g7 s7' ⊢
      replace g0 := s7' _ _ (s1' _ _ g0)
      replace g1 := s7' _ _ g1
      replace gd := s7' _ _ (s1' _ _ (s0' _ _ gd))
      have sAll := sd.trans (s0'.trans (s1'.trans s7'))
      refine ⟨gd, due11 p0 p1 p7, rfl, (by show 6 ≤ 15; decide), ?_⟩
      exact ⟨dd, p0, p1, p7, rfl, fun b u z => (upd_ne (ne_of_none z ndd)).trans (sAll _ _ z), by rw [due_merge]; exact upd_same, (upd_ne (ne_of g0 gd (by intro z; cases z))).trans g0, (upd_ne (ne_of g1 gd (by intro z; cases z))).trans g1, (upd_ne (ne_of g7 gd (by intro z; cases z))).trans g7, ndd⟩
    rintro st H8 ⟨dd, p0, p1, p7, rfl, s8, hdd, h0, h1, h7, ndd⟩
    replace TT := TT.same s8
    clear s8
    walk_at "rd"
    refine ⟨dd, _, hdd, trivial, fun od => ?_⟩
    have hF : upd H8 dd (.frz od (.dK (due11 p0 p1 p7))) dd = some (.frz od (.dK (due11 p0 p1 p7))) := upd_same
    have sF : ∀ b u, H8 b = some u → (∀ kvs, u ≠ .dK kvs) → upd H8 dd (.frz od (.dK (due11 p0 p1 p7))) b = some u := fun b u z n => (upd_ne (ne_of z hdd (n _))).trans z
    have TF : SidesAt (upd H8 dd (.frz od (.dK (due11 p0 p1 p7)))) tw tx two11 := ⟨sF _ _ TT.hl (fun _ z => by cases z), TT.len, TT.l1, TT.l4, fun i d h => let ⟨p, a, b, c⟩ := TT.at_ i d h; ⟨p, a, sF _ _ b (fun _ z => by cases z), c⟩⟩
    have h0F := sF _ _ h0 (fun _ z => by cases z)
    have h1F := sF _ _ h1 (fun _ z => by cases z)
    have h7F := sF _ _ h7 (fun _ z => by cases z)
    generalize upd H8 dd (.frz od (.dK (due11 p0 p1 p7))) = HF at hF TF h0F h1F h7F ⊢
    clear sF h0 h1 h7 TT hdd
    walk_at "rd"
    refine ⟨dd, od, rfl, .inl ⟨_, hF, ?_⟩⟩
    refine fun Dl nDl => ?_
    have sD := same_upd (o := .lst []) nDl
    refine lc_keysK (fun i H' => H' Dl = some (.lst []) ∧ H' dd = some (.frz od (.dK (due11 p0 p1 p7))) ∧ SidesAt H' tw tx two11 ∧ H' p0 = some (.lst ([0].map natV)) ∧ H' p1 = some (.lst ([1].map natV)) ∧ H' p7 = some (.lst (([] : List Nat).map natV))) ⟨upd_same, sD _ _ hF, TF.same sD, sD _ _ h0F, sD _ _ h1F, sD _ _ h7F⟩ (fun _ _ _ z => z.2.1) ?_ ?_
    · rintro i k v H' ekv ⟨hD, hd, T, h0, h1, h7⟩
      obtain ⟨x, rfl, ev, xb, cs⟩ := due11_at h0 h1 h7 ekv
      refine ⟨rfl, ?_⟩
      walk_at "rd"
      rcases cs with ⟨p, q', im, rfl, hp, im1, hin, no, ew⟩ | ⟨rfl, rest, hf⟩
      · refine ⟨tw, tx, two11, 7, x, rfl, T, by decide, ⟨by omega, by omega⟩, fun i2 r H2' hi1 hin2 no2 nr s' hr => ?_, fun none_ => absurd hin (none_ im im1)⟩
        obtain rfl : i2 = im := by
          rcases Nat.lt_trichotomy i2 im with z | z | z
          · exact absurd hin2 (no i2 z)
          · exact z
          · exact absurd hin (no2 im z)
        rw [ew] at hr
        walk_at "rd"
        refine ⟨dd, .ref p, rfl, .inl ⟨_, Sum.inl x, .inr ⟨od, s' _ _ hd⟩, rfl, ev.symm⟩, ?_⟩
        refine ⟨_, _, nats_dp hr, nats_dp (s' _ _ hp), nats_sh _, nats_sh _, ?_⟩
        rw [eqv_self (nats_sh _)]
        exact ⟨_, rfl, s' _ _ hD, s' _ _ hd, T.same s', s' _ _ h0, s' _ _ h1, s' _ _ h7⟩
      · refine ⟨tw, tx, two11, 7, x, rfl, T, by decide, ⟨by omega, by omega⟩, fun i2 r H2' hi1 hin2 no2 nr s' hr => absurd hin2 (rou_no two_side ⟨rest, hf⟩ i2), fun none_ => ⟨5, by decide, rest, fun H2' s' => ⟨fun _ => ?_, fun ht => by rw [hf] at ht; cases ht⟩⟩⟩
        walk_at "rd"
        refine ⟨dd, .non, rfl, .inl ⟨_, Sum.inl x, .inr ⟨od, s' _ _ hd⟩, rfl, ev.symm⟩, ?_⟩
        refine ⟨_, _, .non, .non, nonD_sh, nonD_sh, ?_⟩
        rw [non_self]
        exact ⟨_, rfl, s' _ _ hD, s' _ _ hd, T.same s', s' _ _ h0, s' _ _ h1, s' _ _ h7⟩
    · rintro H' ⟨hD, hd, _⟩
      refine ⟨hd, ?_⟩
      have nDd : Dl ≠ dd := ne_of hD hd (by intro z; cases z)
      walk_at "rd"
      refine ⟨(by show 0 ≤ sizeLine; decide), fun e ne => ?_⟩
      have z := (upd_ne (o := .dK (due11 p0 p1 p7)) nDd).trans hD
      refine ⟨_, _, dp_ints (A := []) ((upd_ne (ne_of_none z ne)).trans z), dp_ints (A := []) upd_same, shaped_ints [], shaped_ints [], ?_⟩
      rw [eqv_ints]
      exact q _
end
end HT
namespace HT
open PySem L2
section
variable {P : Program} {w : World} {K : PySem.W.Frag} {mg : Str → Option Value} {base : Heap}
/-- a def's promise among errors where none comes -/
theorem of_x {k : Nat} {f : Addr} {fd : FuncData} {ps : List Str} {sp : Sp} (F : FnOk P w K mg base (L2.CX P w) k f fd ps sp) : FnOk P w K mg base CX0 k f fd ps (fun vs H Q _ => sp vs H Q fun _ _ _ => False) :=
  ⟨fun vs H Q E h => F.len vs H Q _ h, fun A outer s0 H args us vs Q E hr he hb hv hs => codeAny_mono (F.run A outer s0 H args us vs Q _ hr he hb hv hs) fun r s' h => by
    unfold CR at h ⊢
    split at h
    · exact h
    · exact h
    · obtain ⟨_, _, _, _, _, _, _, _, _, _, _, _, z⟩ := h
      exact z.elim⟩
end
end HT
namespace HT
open PySem L2
section
variable {P : Program} {w : World} {K : PySem.W.Frag} {mg : Str → Option Value} {base : Heap} {aM fI fB fV fC fG fF : Addr} {dI dB dV dC dG dF : FuncData}
theorem ok_goes_up {f : Addr} {fd : FuncData} (F : Fun K "_goes_up" "_goes_up" s_goes_up f fd) : FnOk P w K mg base CX0 1 f fd ["mode", "step", "figure", "rest"] spGo := by
  refine F.ok sc_goes_up (fun vs H Q E h => ?_) (fun cdv A outer s H vs Q E hr h => ?_)
  · obtain ⟨m, s, q, r, rfl, _⟩ := h
    rfl
  · obtain ⟨m, s, fg, r, rfl, q⟩ := h
    refine ⟨_, pss_cons (ps_if (pt_cmpR op_eq (pv 0) pe_str (nomark _)) (pss_one (ps_ret pe_bl)) pss_nil)
      (pss_cons (ps_if (pt_cmpR op_eq (pv 0) pe_str (nomark _)) (pss_one (ps_ret (pe_cmpR op_gt (pv 3) pe_int (nomark _)))) pss_nil)
      (pss_cons (ps_if (pt_cmpR op_ne (pe_op op_mul pe_int (pv 3)) (pv 1) (nomark _)) (pss_one (ps_ret (pe_cmpR op_gt (pe_op op_mul pe_int (pv 3)) (pv 1) (nomark _)))) pss_nil)
      (pss_cons (ps_if (pt_cmpR op_eq (pv 0) pe_str (nomark _)) (pss_one (ps_ret (pe_cmpR op_eq (pe_op op_mod (pv 2) pe_int) pe_int (nomark _)))) pss_nil)
      (pss_one (ps_ret (pe_cmpR op_eq (pv 0) pe_str (nomark _))))))), ?_⟩
    unfold goesUp at q
    walk_at "rd"
    refine ⟨rfl, ?_⟩
    walk_at "rd"
    refine ite2 (fun h => ?_) (fun h1 => ?_)
    · rw [if_pos (str_t h)] at q
      exact q
    rw [if_neg (str_f h1)] at q
    walk_at "rd"
    refine ⟨rfl, ?_⟩
    walk_at "rd"
    refine ite2 (fun h => ?_) (fun h2 => ?_)
    · rw [if_pos (str_t h)] at q
      walk_at "rd"
      exact q
    rw [if_neg (str_f h2)] at q
    walk_at "rd"
    refine ⟨.inl ⟨by decide, by decide⟩, ?_⟩
    walk_at "rd"
    refine ⟨rfl, ?_⟩
    walk_at "rd"
    refine ite2 (fun h => ?_) (fun h3 => ?_)
    · rw [if_neg (int_f (not_t h))] at q
      walk_at "rd"
      refine ⟨.inl ⟨by decide, by decide⟩, ?_⟩
      walk_at "rd"
      exact q
    rw [if_pos (int_t (not_f h3))] at q
    walk_at "rd"
    refine ⟨rfl, ?_⟩
    walk_at "rd"
    refine ite2 (fun h => ?_) (fun h4 => ?_)
    · rw [if_pos (str_t h), ← dec_int] at q
      walk_at "rd"
      refine ⟨(by show (0 : Int) < 2; decide), ?_⟩
      walk_at "rd"
      exact ⟨rfl, q⟩
    · rw [if_neg (str_f h4), ← dec_str] at q
      walk_at "rd"
      exact ⟨rfl, q⟩
theorem ok_figure {f : Addr} {fd : FuncData} (F : Fun K "_figure" "_figure" s_figure f fd) (T : SideT K mg aM)
    (G : Cal P w K mg base "_goes_up" 1 ["mode", "step", "figure", "rest"] spGo fG dG) : FnOk P w K mg base CX0 2 f fd ["side", "value"] spFig := by
  refine F.ok sc_figure (fun vs H Q E h => ?_) (fun cdv A outer s H vs Q E hr h => ?_)
  · obtain ⟨p, o, s, m, v, rfl, _⟩ := h
    rfl
  · obtain ⟨p, o, s, m, v, rfl, hp, S, hv, q⟩ := h
    have nd := sc_figure.nd
    refine ⟨_, pss_cons (ps_asg (pv 0) (pg_tup (by rfl) (pgs_cons (pg_name (i := 2) nd rfl (Or.inl rfl)) (pgs_cons (pg_name (i := 3) nd rfl (Or.inl rfl)) (pgs_cons (pg_name (i := 4) nd rfl (Or.inl rfl)) pgs_nil)))))
      (pss_cons (ps_asg (pe_callB call_divmodW (by rfl) T.dm (by decide +kernel) (pa_cons (pe_op op_sub (pv 1) (pv 2)) (pa_cons (pv 3) pa_nil))) (pg_tup (by rfl) (pgs_cons (pg_name (i := 5) nd rfl (Or.inl rfl)) (pgs_cons (pg_name (i := 6) nd rfl (Or.inl rfl)) pgs_nil))))
      (pss_cons (ps_if (pt_val (pcl G hr (by decide) (by rfl) (pa_cons (pv 4) (pa_cons (pv 3) (pa_cons (pv 5) (pa_cons (pv 6) pa_nil)))))) (pss_one (ps_ret (pe_op op_add (pv 5) pe_int))) pss_nil)
      (pss_one (ps_ret (pv 5))))), ?_⟩
    walk_at "rd"
    refine ⟨p, _, rfl, SqT.of hp, rfl, _, _, rfl, _, _, rfl, _, _, rfl, rfl, ?_⟩
    walk_at "rd"
    refine ⟨_, _, rfl, divp S.s0 ⟨S.o0, S.o1⟩ hv, fun d nd' => ?_⟩
    refine ⟨d, _, rfl, SqT.of upd_same, rfl, _, _, rfl, _, _, rfl, rfl, ?_⟩
    have sm : Same H (upd H d (.tup [.int ((v - o) / s), .int ((v - o) % s)])) := fun b u z => by rw [upd_ne (ne_of_none z nd')]; exact z
    have q' : Q (.int (figM o s m v)) (upd H d (.tup [.int ((v - o) / s), .int ((v - o) % s)])) := q _ sm
    unfold figM at q'
    walk_at "rd"
    refine ⟨_, _, _, _, rfl, ?_⟩
    walk_at "rd"
    refine ite2 (fun h => ?_) (fun h => ?_)
    · rw [if_pos h] at q'
      walk_at "rd"
      exact q'
    · rw [if_neg h] at q'
      walk_at "rd"
      exact q'
end
end HT
namespace HT
open PySem L2
section
variable {P : Program} {w : World} {K : PySem.W.Frag} {mg : Str → Option Value} {base : Heap} {fF : Addr} {dF : FuncData}
theorem ok_written {f : Addr} {fd : FuncData} (F : Fun K "written" "written" s_written f fd) (G : Cal P w K mg base "_figure" 2 ["side", "value"] spFig fF dF) : FnOk P w K mg base CX0 3 f fd ["side", "value"] spDue := by
  refine F.ok sc_written (fun vs H Q E h => ?_) (fun cdv A outer s H vs Q E hr h => ?_)
  · obtain ⟨p, o, s, m, v, rfl, _⟩ := h
    rfl
  · obtain ⟨p, o, s, m, v, rfl, hp, S, hv, q⟩ := h
    have nd := sc_written.nd
    refine ⟨_, pss_cons (ps_asg (pv 0) (pg_tup (by rfl) (pgs_cons (pg_name (i := 2) nd rfl (Or.inl rfl)) (pgs_cons (pg_name (i := 3) nd rfl (Or.inl rfl)) (pgs_cons (pg_name (i := 4) nd rfl (Or.inl rfl)) pgs_nil)))))
      (pss_one (ps_ret (pe_op op_add (pv 2) (pe_op op_mulW (pv 3) (pcl G hr (by decide) (by rfl) (pa_cons (pv 0) (pa_cons (pv 1) pa_nil))))))), ?_⟩
    walk_at "rd"
    refine ⟨p, _, rfl, SqT.of hp, rfl, _, _, rfl, _, _, rfl, _, _, rfl, rfl, ?_⟩
    walk_at "rd"
    refine ⟨p, o, s, m, v, rfl, hp, S, hv, fun H' sm => ?_⟩
    walk_at "rd"
    have b1 := fig_bd S hv
    have b2 := S.s0
    have b3 := S.s1
    refine ⟨mulW (by omega) (by omega), ?_⟩
    walk_at "rd"
    exact q H' sm
end
end HT
namespace HT
open PySem L2
def errB (K : PySem.W.Frag) (C : Addr) : Bool := (PySem.W.clsIn K C).isSome && (decide (PySem.W.findIn K (.ref C) "__getattribute__" = some (some (.builtin "BaseException.__getattribute__"))) && (decide (PySem.W.findIn K (.ref C) "__getattr__" = some none) && (decide (PySem.W.subIn K (.ref C) (.type "BaseException") = some true) &&
  (decide (PySem.W.findIn K (.ref C) "__class__" = some (some (.builtin "object.__class__"))) && decide (PySem.W.mroIn K C (.type "object") = some true)))))
theorem errB_ok {K : PySem.W.Frag} {C : Addr} (h : errB K C = true) : ErrC K C := by
  unfold errB at h
  simp only [Bool.and_eq_true, decide_eq_true_eq] at h
  obtain ⟨a, b, c, d, e, f⟩ := h
  exact ⟨a, b, c, d, e, f⟩
def exB (K : PySem.W.Frag) (C : Addr) : Bool := PySem.W.excIn K C [.type "ValueError", .type "Exception", .type "BaseException", .type "object"] "ValueError.__new__" && PySem.W.keepIn K (.ref C)
def erT (K : PySem.W.Frag) (C : Nat → Addr) (B : Addr) (i : Nat) : Bool := errB K (C i) && (exB K (C i) && (decide (PySem.W.kitOne K (.ref (C i)) (.type "ValueError") = some true) && (decide (PySem.W.subIn K (.ref (C i)) (.type "BaseException") = some true) && (decide (PySem.W.typeIn K (.ref (C i)) = some (.type "type")) && (decide (PySem.W.exmOne K (.ref (C i)) (.ref B) = some true) &&
  (List.range 4).all fun j => decide (PySem.W.kitOne K (.ref (C i)) (.ref (C j)) = some (decide (i = j))))))))
def cAt (l : List Addr) (i : Nat) : Addr := l.getD i 0
theorem all_of {p : Nat → Bool} {n : Nat} (h : (List.range n).all p = true) {i : Nat} (hi : i < n) : p i = true := List.all_eq_true.mp h i (List.mem_range.mpr hi)
theorem all_mk {l : PySem.W.OpenLaw} {w : World} {K : PySem.W.Frag} {h : Heap} {mg : Str → Option Value} {fa aM c0 c1 c2 c3 cB f_is_int f_is_int_between f_check_value f_check_side f_is_side f_figure f_goes_up f_written f_below f_threshold f_check_sides f_period_of f_moved f_common_period f_along f_check_numbers f_before f_route f_fewest f_runs f_widened f_ends f_within f_holds f_way f_L_source f_L_draw f_L_pick f_L_great f_L_ten f_L_step f_L_side f_L_written f_L_divisor f_L_period f_L_levels f_L_holds f_law : Addr} (X : K.In h) (G : h.Ns mainGlobals mg) (hfa : mg "law" = some (.ref fa))
    {odM od_is_int an_is_int od_is_int_between an_is_int_between od_check_value an_check_value od_check_side an_check_side od_is_side an_is_side od_figure an_figure od_goes_up an_goes_up od_written an_written od_below an_below od_threshold an_threshold od_check_sides an_check_sides od_period_of an_period_of od_moved an_moved od_common_period an_common_period od_along an_along od_check_numbers an_check_numbers od_before an_before od_route an_route od_fewest an_fewest od_runs an_runs od_widened an_widened od_ends an_ends od_within an_within od_holds an_holds od_way an_way od_L_source an_L_source od_L_draw an_L_draw od_L_pick an_L_pick od_L_great an_L_great od_L_ten an_L_ten od_L_step an_L_step od_L_side an_L_side od_L_written an_L_written od_L_divisor an_L_divisor od_L_period an_L_period od_L_levels an_L_levels od_L_holds an_L_holds od_law an_law : Option Addr} {slM sl_is_int sl_is_int_between sl_check_value sl_check_side sl_is_side sl_figure sl_goes_up sl_written sl_below sl_threshold sl_check_sides sl_period_of sl_moved sl_common_period sl_along sl_check_numbers sl_before sl_route sl_fewest sl_runs sl_widened sl_ends sl_within sl_holds sl_way sl_L_source sl_L_draw sl_L_pick sl_L_great sl_L_ten sl_L_step sl_L_side sl_L_written sl_L_divisor sl_L_period sl_L_levels sl_L_holds sl_law : Array (Option Value)} {nM : Nat} {itsM : Array Value} {tMS tMH : Tok} {oc_is_int kV_is_int dc_is_int pm_is_int cd_is_int ct_is_int oc_is_int_between kV_is_int_between dc_is_int_between pm_is_int_between cd_is_int_between ct_is_int_between oc_check_value kV_check_value dc_check_value pm_check_value cd_check_value ct_check_value oc_check_side kV_check_side dc_check_side pm_check_side cd_check_side ct_check_side oc_is_side kV_is_side dc_is_side pm_is_side cd_is_side ct_is_side oc_figure kV_figure dc_figure pm_figure cd_figure ct_figure oc_goes_up kV_goes_up dc_goes_up pm_goes_up cd_goes_up ct_goes_up oc_written kV_written dc_written pm_written cd_written ct_written oc_below kV_below dc_below pm_below cd_below ct_below oc_threshold kV_threshold dc_threshold pm_threshold cd_threshold ct_threshold oc_check_sides kV_check_sides dc_check_sides pm_check_sides cd_check_sides ct_check_sides oc_period_of kV_period_of dc_period_of pm_period_of cd_period_of ct_period_of oc_moved kV_moved dc_moved pm_moved cd_moved ct_moved oc_common_period kV_common_period dc_common_period pm_common_period cd_common_period ct_common_period oc_along kV_along dc_along pm_along cd_along ct_along oc_check_numbers kV_check_numbers dc_check_numbers pm_check_numbers cd_check_numbers ct_check_numbers oc_before kV_before dc_before pm_before cd_before ct_before oc_route kV_route dc_route pm_route cd_route ct_route oc_fewest kV_fewest dc_fewest pm_fewest cd_fewest ct_fewest oc_runs kV_runs dc_runs pm_runs cd_runs ct_runs oc_widened kV_widened dc_widened pm_widened cd_widened ct_widened oc_ends kV_ends dc_ends pm_ends cd_ends ct_ends oc_within kV_within dc_within pm_within cd_within ct_within oc_holds kV_holds dc_holds pm_holds cd_holds ct_holds oc_way kV_way dc_way pm_way cd_way ct_way oc_L_source kV_L_source dc_L_source pm_L_source cd_L_source ct_L_source oc_L_draw kV_L_draw dc_L_draw pm_L_draw cd_L_draw ct_L_draw oc_L_pick kV_L_pick dc_L_pick pm_L_pick cd_L_pick ct_L_pick oc_L_great kV_L_great dc_L_great pm_L_great cd_L_great ct_L_great oc_L_ten kV_L_ten dc_L_ten pm_L_ten cd_L_ten ct_L_ten oc_L_step kV_L_step dc_L_step pm_L_step cd_L_step ct_L_step oc_L_side kV_L_side dc_L_side pm_L_side cd_L_side ct_L_side oc_L_written kV_L_written dc_L_written pm_L_written cd_L_written ct_L_written oc_L_divisor kV_L_divisor dc_L_divisor pm_L_divisor cd_L_divisor ct_L_divisor oc_L_period kV_L_period dc_L_period pm_L_period cd_L_period ct_L_period oc_L_levels kV_L_levels dc_L_levels pm_L_levels cd_L_levels ct_L_levels oc_L_holds kV_L_holds dc_L_holds pm_L_holds cd_L_holds ct_L_holds oc_law kV_law dc_law pm_law cd_law ct_law : Value}
    (a_is_int : PySem.W.nsIn K mainGlobals "is_int" = some (some (.ref f_is_int)))
    (l_is_int : K.lookup f_is_int = some ⟨oc_is_int, od_is_int, .func (PySem.W.fnOf "is_int" "is_int" (defArgs s_is_int) (defBody s_is_int) (defScope s_is_int) .none kV_is_int dc_is_int pm_is_int an_is_int cd_is_int ct_is_int), sl_is_int⟩)
    (c_is_int : PySem.W.codeIn K cd_is_int "is_int" = true) (k_is_int : PySem.W.keepIn K (.ref f_is_int) = true)
    (a_is_int_between : PySem.W.nsIn K mainGlobals "is_int_between" = some (some (.ref f_is_int_between)))
    (l_is_int_between : K.lookup f_is_int_between = some ⟨oc_is_int_between, od_is_int_between, .func (PySem.W.fnOf "is_int_between" "is_int_between" (defArgs s_is_int_between) (defBody s_is_int_between) (defScope s_is_int_between) .none kV_is_int_between dc_is_int_between pm_is_int_between an_is_int_between cd_is_int_between ct_is_int_between), sl_is_int_between⟩)
    (c_is_int_between : PySem.W.codeIn K cd_is_int_between "is_int_between" = true) (k_is_int_between : PySem.W.keepIn K (.ref f_is_int_between) = true)
    (a_check_value : PySem.W.nsIn K mainGlobals "check_value" = some (some (.ref f_check_value)))
    (l_check_value : K.lookup f_check_value = some ⟨oc_check_value, od_check_value, .func (PySem.W.fnOf "check_value" "check_value" (defArgs s_check_value) (defBody s_check_value) (defScope s_check_value) .none kV_check_value dc_check_value pm_check_value an_check_value cd_check_value ct_check_value), sl_check_value⟩)
    (c_check_value : PySem.W.codeIn K cd_check_value "check_value" = true) (k_check_value : PySem.W.keepIn K (.ref f_check_value) = true)
    (a_check_side : PySem.W.nsIn K mainGlobals "check_side" = some (some (.ref f_check_side)))
    (l_check_side : K.lookup f_check_side = some ⟨oc_check_side, od_check_side, .func (PySem.W.fnOf "check_side" "check_side" (defArgs s_check_side) (defBody s_check_side) (defScope s_check_side) .none kV_check_side dc_check_side pm_check_side an_check_side cd_check_side ct_check_side), sl_check_side⟩)
    (c_check_side : PySem.W.codeIn K cd_check_side "check_side" = true) (k_check_side : PySem.W.keepIn K (.ref f_check_side) = true)
    (a_is_side : PySem.W.nsIn K mainGlobals "is_side" = some (some (.ref f_is_side)))
    (l_is_side : K.lookup f_is_side = some ⟨oc_is_side, od_is_side, .func (PySem.W.fnOf "is_side" "is_side" (defArgs s_is_side) (defBody s_is_side) (defScope s_is_side) .none kV_is_side dc_is_side pm_is_side an_is_side cd_is_side ct_is_side), sl_is_side⟩)
    (c_is_side : PySem.W.codeIn K cd_is_side "is_side" = true) (k_is_side : PySem.W.keepIn K (.ref f_is_side) = true)
    (a_figure : PySem.W.nsIn K mainGlobals "_figure" = some (some (.ref f_figure)))
    (l_figure : K.lookup f_figure = some ⟨oc_figure, od_figure, .func (PySem.W.fnOf "_figure" "_figure" (defArgs s_figure) (defBody s_figure) (defScope s_figure) .none kV_figure dc_figure pm_figure an_figure cd_figure ct_figure), sl_figure⟩)
    (c_figure : PySem.W.codeIn K cd_figure "_figure" = true) (k_figure : PySem.W.keepIn K (.ref f_figure) = true)
    (a_goes_up : PySem.W.nsIn K mainGlobals "_goes_up" = some (some (.ref f_goes_up)))
    (l_goes_up : K.lookup f_goes_up = some ⟨oc_goes_up, od_goes_up, .func (PySem.W.fnOf "_goes_up" "_goes_up" (defArgs s_goes_up) (defBody s_goes_up) (defScope s_goes_up) .none kV_goes_up dc_goes_up pm_goes_up an_goes_up cd_goes_up ct_goes_up), sl_goes_up⟩)
    (c_goes_up : PySem.W.codeIn K cd_goes_up "_goes_up" = true) (k_goes_up : PySem.W.keepIn K (.ref f_goes_up) = true)
    (a_written : PySem.W.nsIn K mainGlobals "written" = some (some (.ref f_written)))
    (l_written : K.lookup f_written = some ⟨oc_written, od_written, .func (PySem.W.fnOf "written" "written" (defArgs s_written) (defBody s_written) (defScope s_written) .none kV_written dc_written pm_written an_written cd_written ct_written), sl_written⟩)
    (c_written : PySem.W.codeIn K cd_written "written" = true) (k_written : PySem.W.keepIn K (.ref f_written) = true)
    (a_below : PySem.W.nsIn K mainGlobals "_below" = some (some (.ref f_below)))
    (l_below : K.lookup f_below = some ⟨oc_below, od_below, .func (PySem.W.fnOf "_below" "_below" (defArgs s_below) (defBody s_below) (defScope s_below) .none kV_below dc_below pm_below an_below cd_below ct_below), sl_below⟩)
    (c_below : PySem.W.codeIn K cd_below "_below" = true) (k_below : PySem.W.keepIn K (.ref f_below) = true)
    (a_threshold : PySem.W.nsIn K mainGlobals "threshold" = some (some (.ref f_threshold)))
    (l_threshold : K.lookup f_threshold = some ⟨oc_threshold, od_threshold, .func (PySem.W.fnOf "threshold" "threshold" (defArgs s_threshold) (defBody s_threshold) (defScope s_threshold) .none kV_threshold dc_threshold pm_threshold an_threshold cd_threshold ct_threshold), sl_threshold⟩)
    (c_threshold : PySem.W.codeIn K cd_threshold "threshold" = true) (k_threshold : PySem.W.keepIn K (.ref f_threshold) = true)
    (a_check_sides : PySem.W.nsIn K mainGlobals "check_sides" = some (some (.ref f_check_sides)))
    (l_check_sides : K.lookup f_check_sides = some ⟨oc_check_sides, od_check_sides, .func (PySem.W.fnOf "check_sides" "check_sides" (defArgs s_check_sides) (defBody s_check_sides) (defScope s_check_sides) .none kV_check_sides dc_check_sides pm_check_sides an_check_sides cd_check_sides ct_check_sides), sl_check_sides⟩)
    (c_check_sides : PySem.W.codeIn K cd_check_sides "check_sides" = true) (k_check_sides : PySem.W.keepIn K (.ref f_check_sides) = true)
    (a_period_of : PySem.W.nsIn K mainGlobals "period_of" = some (some (.ref f_period_of)))
    (l_period_of : K.lookup f_period_of = some ⟨oc_period_of, od_period_of, .func (PySem.W.fnOf "period_of" "period_of" (defArgs s_period_of) (defBody s_period_of) (defScope s_period_of) .none kV_period_of dc_period_of pm_period_of an_period_of cd_period_of ct_period_of), sl_period_of⟩)
    (c_period_of : PySem.W.codeIn K cd_period_of "period_of" = true) (k_period_of : PySem.W.keepIn K (.ref f_period_of) = true)
    (a_moved : PySem.W.nsIn K mainGlobals "moved" = some (some (.ref f_moved)))
    (l_moved : K.lookup f_moved = some ⟨oc_moved, od_moved, .func (PySem.W.fnOf "moved" "moved" (defArgs s_moved) (defBody s_moved) (defScope s_moved) .none kV_moved dc_moved pm_moved an_moved cd_moved ct_moved), sl_moved⟩)
    (c_moved : PySem.W.codeIn K cd_moved "moved" = true) (k_moved : PySem.W.keepIn K (.ref f_moved) = true)
    (a_common_period : PySem.W.nsIn K mainGlobals "common_period" = some (some (.ref f_common_period)))
    (l_common_period : K.lookup f_common_period = some ⟨oc_common_period, od_common_period, .func (PySem.W.fnOf "common_period" "common_period" (defArgs s_common_period) (defBody s_common_period) (defScope s_common_period) .none kV_common_period dc_common_period pm_common_period an_common_period cd_common_period ct_common_period), sl_common_period⟩)
    (c_common_period : PySem.W.codeIn K cd_common_period "common_period" = true) (k_common_period : PySem.W.keepIn K (.ref f_common_period) = true)
    (a_along : PySem.W.nsIn K mainGlobals "along" = some (some (.ref f_along)))
    (l_along : K.lookup f_along = some ⟨oc_along, od_along, .func (PySem.W.fnOf "along" "along" (defArgs s_along) (defBody s_along) (defScope s_along) .none kV_along dc_along pm_along an_along cd_along ct_along), sl_along⟩)
    (c_along : PySem.W.codeIn K cd_along "along" = true) (k_along : PySem.W.keepIn K (.ref f_along) = true)
    (a_check_numbers : PySem.W.nsIn K mainGlobals "_check_numbers" = some (some (.ref f_check_numbers)))
    (l_check_numbers : K.lookup f_check_numbers = some ⟨oc_check_numbers, od_check_numbers, .func (PySem.W.fnOf "_check_numbers" "_check_numbers" (defArgs s_check_numbers) (defBody s_check_numbers) (defScope s_check_numbers) .none kV_check_numbers dc_check_numbers pm_check_numbers an_check_numbers cd_check_numbers ct_check_numbers), sl_check_numbers⟩)
    (c_check_numbers : PySem.W.codeIn K cd_check_numbers "_check_numbers" = true) (k_check_numbers : PySem.W.keepIn K (.ref f_check_numbers) = true)
    (a_before : PySem.W.nsIn K mainGlobals "before" = some (some (.ref f_before)))
    (l_before : K.lookup f_before = some ⟨oc_before, od_before, .func (PySem.W.fnOf "before" "before" (defArgs s_before) (defBody s_before) (defScope s_before) .none kV_before dc_before pm_before an_before cd_before ct_before), sl_before⟩)
    (c_before : PySem.W.codeIn K cd_before "before" = true) (k_before : PySem.W.keepIn K (.ref f_before) = true)
    (a_route : PySem.W.nsIn K mainGlobals "route" = some (some (.ref f_route)))
    (l_route : K.lookup f_route = some ⟨oc_route, od_route, .func (PySem.W.fnOf "route" "route" (defArgs s_route) (defBody s_route) (defScope s_route) .none kV_route dc_route pm_route an_route cd_route ct_route), sl_route⟩)
    (c_route : PySem.W.codeIn K cd_route "route" = true) (k_route : PySem.W.keepIn K (.ref f_route) = true)
    (a_fewest : PySem.W.nsIn K mainGlobals "_fewest" = some (some (.ref f_fewest)))
    (l_fewest : K.lookup f_fewest = some ⟨oc_fewest, od_fewest, .func (PySem.W.fnOf "_fewest" "_fewest" (defArgs s_fewest) (defBody s_fewest) (defScope s_fewest) .none kV_fewest dc_fewest pm_fewest an_fewest cd_fewest ct_fewest), sl_fewest⟩)
    (c_fewest : PySem.W.codeIn K cd_fewest "_fewest" = true) (k_fewest : PySem.W.keepIn K (.ref f_fewest) = true)
    (a_runs : PySem.W.nsIn K mainGlobals "_runs" = some (some (.ref f_runs)))
    (l_runs : K.lookup f_runs = some ⟨oc_runs, od_runs, .func (PySem.W.fnOf "_runs" "_runs" (defArgs s_runs) (defBody s_runs) (defScope s_runs) .none kV_runs dc_runs pm_runs an_runs cd_runs ct_runs), sl_runs⟩)
    (c_runs : PySem.W.codeIn K cd_runs "_runs" = true) (k_runs : PySem.W.keepIn K (.ref f_runs) = true)
    (a_widened : PySem.W.nsIn K mainGlobals "_widened" = some (some (.ref f_widened)))
    (l_widened : K.lookup f_widened = some ⟨oc_widened, od_widened, .func (PySem.W.fnOf "_widened" "_widened" (defArgs s_widened) (defBody s_widened) (defScope s_widened) .none kV_widened dc_widened pm_widened an_widened cd_widened ct_widened), sl_widened⟩)
    (c_widened : PySem.W.codeIn K cd_widened "_widened" = true) (k_widened : PySem.W.keepIn K (.ref f_widened) = true)
    (a_ends : PySem.W.nsIn K mainGlobals "_ends" = some (some (.ref f_ends)))
    (l_ends : K.lookup f_ends = some ⟨oc_ends, od_ends, .func (PySem.W.fnOf "_ends" "_ends" (defArgs s_ends) (defBody s_ends) (defScope s_ends) .none kV_ends dc_ends pm_ends an_ends cd_ends ct_ends), sl_ends⟩)
    (c_ends : PySem.W.codeIn K cd_ends "_ends" = true) (k_ends : PySem.W.keepIn K (.ref f_ends) = true)
    (a_within : PySem.W.nsIn K mainGlobals "_within" = some (some (.ref f_within)))
    (l_within : K.lookup f_within = some ⟨oc_within, od_within, .func (PySem.W.fnOf "_within" "_within" (defArgs s_within) (defBody s_within) (defScope s_within) .none kV_within dc_within pm_within an_within cd_within ct_within), sl_within⟩)
    (c_within : PySem.W.codeIn K cd_within "_within" = true) (k_within : PySem.W.keepIn K (.ref f_within) = true)
    (a_holds : PySem.W.nsIn K mainGlobals "_holds" = some (some (.ref f_holds)))
    (l_holds : K.lookup f_holds = some ⟨oc_holds, od_holds, .func (PySem.W.fnOf "_holds" "_holds" (defArgs s_holds) (defBody s_holds) (defScope s_holds) .none kV_holds dc_holds pm_holds an_holds cd_holds ct_holds), sl_holds⟩)
    (c_holds : PySem.W.codeIn K cd_holds "_holds" = true) (k_holds : PySem.W.keepIn K (.ref f_holds) = true)
    (a_way : PySem.W.nsIn K mainGlobals "_way" = some (some (.ref f_way)))
    (l_way : K.lookup f_way = some ⟨oc_way, od_way, .func (PySem.W.fnOf "_way" "_way" (defArgs s_way) (defBody s_way) (defScope s_way) .none kV_way dc_way pm_way an_way cd_way ct_way), sl_way⟩)
    (c_way : PySem.W.codeIn K cd_way "_way" = true) (k_way : PySem.W.keepIn K (.ref f_way) = true)
    (a_L_source : PySem.W.nsIn K mainGlobals "_law_source" = some (some (.ref f_L_source)))
    (l_L_source : K.lookup f_L_source = some ⟨oc_L_source, od_L_source, .func (PySem.W.fnOf "_law_source" "_law_source" (defArgs s_L_source) (defBody s_L_source) (defScope s_L_source) .none kV_L_source dc_L_source pm_L_source an_L_source cd_L_source ct_L_source), sl_L_source⟩)
    (c_L_source : PySem.W.codeIn K cd_L_source "_law_source" = true) (k_L_source : PySem.W.keepIn K (.ref f_L_source) = true)
    (a_L_draw : PySem.W.nsIn K mainGlobals "_law_draw" = some (some (.ref f_L_draw)))
    (l_L_draw : K.lookup f_L_draw = some ⟨oc_L_draw, od_L_draw, .func (PySem.W.fnOf "_law_draw" "_law_draw" (defArgs s_L_draw) (defBody s_L_draw) (defScope s_L_draw) .none kV_L_draw dc_L_draw pm_L_draw an_L_draw cd_L_draw ct_L_draw), sl_L_draw⟩)
    (c_L_draw : PySem.W.codeIn K cd_L_draw "_law_draw" = true) (k_L_draw : PySem.W.keepIn K (.ref f_L_draw) = true)
    (a_L_pick : PySem.W.nsIn K mainGlobals "_law_pick" = some (some (.ref f_L_pick)))
    (l_L_pick : K.lookup f_L_pick = some ⟨oc_L_pick, od_L_pick, .func (PySem.W.fnOf "_law_pick" "_law_pick" (defArgs s_L_pick) (defBody s_L_pick) (defScope s_L_pick) .none kV_L_pick dc_L_pick pm_L_pick an_L_pick cd_L_pick ct_L_pick), sl_L_pick⟩)
    (c_L_pick : PySem.W.codeIn K cd_L_pick "_law_pick" = true) (k_L_pick : PySem.W.keepIn K (.ref f_L_pick) = true)
    (a_L_great : PySem.W.nsIn K mainGlobals "_law_great" = some (some (.ref f_L_great)))
    (l_L_great : K.lookup f_L_great = some ⟨oc_L_great, od_L_great, .func (PySem.W.fnOf "_law_great" "_law_great" (defArgs s_L_great) (defBody s_L_great) (defScope s_L_great) .none kV_L_great dc_L_great pm_L_great an_L_great cd_L_great ct_L_great), sl_L_great⟩)
    (c_L_great : PySem.W.codeIn K cd_L_great "_law_great" = true) (k_L_great : PySem.W.keepIn K (.ref f_L_great) = true)
    (a_L_ten : PySem.W.nsIn K mainGlobals "_law_ten" = some (some (.ref f_L_ten)))
    (l_L_ten : K.lookup f_L_ten = some ⟨oc_L_ten, od_L_ten, .func (PySem.W.fnOf "_law_ten" "_law_ten" (defArgs s_L_ten) (defBody s_L_ten) (defScope s_L_ten) .none kV_L_ten dc_L_ten pm_L_ten an_L_ten cd_L_ten ct_L_ten), sl_L_ten⟩)
    (c_L_ten : PySem.W.codeIn K cd_L_ten "_law_ten" = true) (k_L_ten : PySem.W.keepIn K (.ref f_L_ten) = true)
    (a_L_step : PySem.W.nsIn K mainGlobals "_law_step" = some (some (.ref f_L_step)))
    (l_L_step : K.lookup f_L_step = some ⟨oc_L_step, od_L_step, .func (PySem.W.fnOf "_law_step" "_law_step" (defArgs s_L_step) (defBody s_L_step) (defScope s_L_step) .none kV_L_step dc_L_step pm_L_step an_L_step cd_L_step ct_L_step), sl_L_step⟩)
    (c_L_step : PySem.W.codeIn K cd_L_step "_law_step" = true) (k_L_step : PySem.W.keepIn K (.ref f_L_step) = true)
    (a_L_side : PySem.W.nsIn K mainGlobals "_law_side" = some (some (.ref f_L_side)))
    (l_L_side : K.lookup f_L_side = some ⟨oc_L_side, od_L_side, .func (PySem.W.fnOf "_law_side" "_law_side" (defArgs s_L_side) (defBody s_L_side) (defScope s_L_side) .none kV_L_side dc_L_side pm_L_side an_L_side cd_L_side ct_L_side), sl_L_side⟩)
    (c_L_side : PySem.W.codeIn K cd_L_side "_law_side" = true) (k_L_side : PySem.W.keepIn K (.ref f_L_side) = true)
    (a_L_written : PySem.W.nsIn K mainGlobals "_law_written" = some (some (.ref f_L_written)))
    (l_L_written : K.lookup f_L_written = some ⟨oc_L_written, od_L_written, .func (PySem.W.fnOf "_law_written" "_law_written" (defArgs s_L_written) (defBody s_L_written) (defScope s_L_written) .none kV_L_written dc_L_written pm_L_written an_L_written cd_L_written ct_L_written), sl_L_written⟩)
    (c_L_written : PySem.W.codeIn K cd_L_written "_law_written" = true) (k_L_written : PySem.W.keepIn K (.ref f_L_written) = true)
    (a_L_divisor : PySem.W.nsIn K mainGlobals "_law_divisor" = some (some (.ref f_L_divisor)))
    (l_L_divisor : K.lookup f_L_divisor = some ⟨oc_L_divisor, od_L_divisor, .func (PySem.W.fnOf "_law_divisor" "_law_divisor" (defArgs s_L_divisor) (defBody s_L_divisor) (defScope s_L_divisor) .none kV_L_divisor dc_L_divisor pm_L_divisor an_L_divisor cd_L_divisor ct_L_divisor), sl_L_divisor⟩)
    (c_L_divisor : PySem.W.codeIn K cd_L_divisor "_law_divisor" = true) (k_L_divisor : PySem.W.keepIn K (.ref f_L_divisor) = true)
    (a_L_period : PySem.W.nsIn K mainGlobals "_law_period" = some (some (.ref f_L_period)))
    (l_L_period : K.lookup f_L_period = some ⟨oc_L_period, od_L_period, .func (PySem.W.fnOf "_law_period" "_law_period" (defArgs s_L_period) (defBody s_L_period) (defScope s_L_period) .none kV_L_period dc_L_period pm_L_period an_L_period cd_L_period ct_L_period), sl_L_period⟩)
    (c_L_period : PySem.W.codeIn K cd_L_period "_law_period" = true) (k_L_period : PySem.W.keepIn K (.ref f_L_period) = true)
    (a_L_levels : PySem.W.nsIn K mainGlobals "_law_levels" = some (some (.ref f_L_levels)))
    (l_L_levels : K.lookup f_L_levels = some ⟨oc_L_levels, od_L_levels, .func (PySem.W.fnOf "_law_levels" "_law_levels" (defArgs s_L_levels) (defBody s_L_levels) (defScope s_L_levels) .none kV_L_levels dc_L_levels pm_L_levels an_L_levels cd_L_levels ct_L_levels), sl_L_levels⟩)
    (c_L_levels : PySem.W.codeIn K cd_L_levels "_law_levels" = true) (k_L_levels : PySem.W.keepIn K (.ref f_L_levels) = true)
    (a_L_holds : PySem.W.nsIn K mainGlobals "_law_holds" = some (some (.ref f_L_holds)))
    (l_L_holds : K.lookup f_L_holds = some ⟨oc_L_holds, od_L_holds, .func (PySem.W.fnOf "_law_holds" "_law_holds" (defArgs s_L_holds) (defBody s_L_holds) (defScope s_L_holds) .none kV_L_holds dc_L_holds pm_L_holds an_L_holds cd_L_holds ct_L_holds), sl_L_holds⟩)
    (c_L_holds : PySem.W.codeIn K cd_L_holds "_law_holds" = true) (k_L_holds : PySem.W.keepIn K (.ref f_L_holds) = true)
    (a_law : PySem.W.nsIn K mainGlobals "law" = some (some (.ref f_law)))
    (l_law : K.lookup f_law = some ⟨oc_law, od_law, .func (PySem.W.fnOf "law" "law" (defArgs s_law) (defBody s_law) (defScope s_law) .none kV_law dc_law pm_law an_law cd_law ct_law), sl_law⟩)
    (c_law : PySem.W.codeIn K cd_law "law" = true) (k_law : PySem.W.keepIn K (.ref f_law) = true)
    (z_len : PySem.W.nsIn K mainGlobals "len" = some none)
    (z_abs : PySem.W.nsIn K mainGlobals "abs" = some none)
    (z_int : PySem.W.nsIn K mainGlobals "int" = some none)
    (z_range : PySem.W.nsIn K mainGlobals "range" = some none)
    (z_isinstance : PySem.W.nsIn K mainGlobals "isinstance" = some none)
    (z_bool : PySem.W.nsIn K mainGlobals "bool" = some none)
    (z_tuple : PySem.W.nsIn K mainGlobals "tuple" = some none)
    (z_divmod : PySem.W.nsIn K mainGlobals "divmod" = some none)
    (z_max : PySem.W.nsIn K mainGlobals "max" = some none)
    (z_min : PySem.W.nsIn K mainGlobals "min" = some none)
    (z_list : PySem.W.nsIn K mainGlobals "list" = some none)
    (z_sorted : PySem.W.nsIn K mainGlobals "sorted" = some none)
    (z_enumerate : PySem.W.nsIn K mainGlobals "enumerate" = some none)
    (z_ValueError : PySem.W.nsIn K mainGlobals "ValueError" = some none)
    (g_0 : PySem.W.nsIn K mainGlobals "InvalidSide" = some (some (.ref c0)))
    (g_1 : PySem.W.nsIn K mainGlobals "InvalidSides" = some (some (.ref c1)))
    (g_2 : PySem.W.nsIn K mainGlobals "TooMany" = some (some (.ref c2)))
    (g_3 : PySem.W.nsIn K mainGlobals "InvalidValue" = some (some (.ref c3)))
    (g_B : PySem.W.nsIn K mainGlobals "HandedError" = some (some (.ref cB)))
    (et_0 : erT K (cAt [c0, c1, c2, c3]) cB 0 = true)
    (et_1 : erT K (cAt [c0, c1, c2, c3]) cB 1 = true)
    (et_2 : erT K (cAt [c0, c1, c2, c3]) cB 2 = true)
    (et_3 : erT K (cAt [c0, c1, c2, c3]) cB 3 = true)
    (em_0 : PySem.W.exmOne K (.ref c0) (.ref c0) = some true)
    (gsp : PySem.W.specialIn K (.builtin "object.__class__") "__get__" = some (some (.builtin "getset_descriptor.__get__")))
    (gtk : PySem.W.takesIn K (.builtin "object.__class__") = some true)
    (a_MS : PySem.W.nsIn K mainGlobals "MOST_SIDES" = some (some (.int 4 tMS)))
    (a_MH : PySem.W.nsIn K mainGlobals "MOST_HANDOVERS" = some (some (.int 1000 tMH)))
    (em_2 : PySem.W.exmOne K (.ref c2) (.ref c2) = some true)
    (a_lcm : PySem.W.nsIn K mainGlobals "lcm" = some (some (.builtin "math.lcm")))
    (a_MODES : PySem.W.nsIn K mainGlobals "MODES" = some (some (.ref aM)))
    (l_MODES : K.lookup aM = some ⟨.type "tuple", odM, .seq itsM nM, slM⟩)
    (v_MODES : itsM.size ≤ sizeLine ∧ Vals modesV itsM.toList) :
    ∃ fd : FuncData, (∀ (s : Shared) (v : Value), BindsTo s fd ⟨[v], []⟩ [("_law_script", v)]) ∧ ∀ base : Heap, K.In base → base.Ns mainGlobals mg → FnOk l.prog w K mg base CX0 7 fa fd ["_law_script"] (spLaw K) := by
  have e := hfa.symm.trans (PySem.W.mg_of X G a_law)
  cases e
  have F_is_int := fun_mk (st := s_is_int) l_is_int c_is_int k_is_int
  have b_is_int := F_is_int.binds (ps := ["thing"]) fun _ _ _ _ _ _ us hl => match us, hl with | [_], _ => rfl
  have m_is_int := PySem.W.mg_of X G a_is_int
  have F_is_int_between := fun_mk (st := s_is_int_between) l_is_int_between c_is_int_between k_is_int_between
  have b_is_int_between := F_is_int_between.binds (ps := ["thing", "least", "most"]) fun _ _ _ _ _ _ us hl => match us, hl with | [_, _, _], _ => rfl
  have m_is_int_between := PySem.W.mg_of X G a_is_int_between
  have F_check_value := fun_mk (st := s_check_value) l_check_value c_check_value k_check_value
  have b_check_value := F_check_value.binds (ps := ["value"]) fun _ _ _ _ _ _ us hl => match us, hl with | [_], _ => rfl
  have m_check_value := PySem.W.mg_of X G a_check_value
  have F_check_side := fun_mk (st := s_check_side) l_check_side c_check_side k_check_side
  have b_check_side := F_check_side.binds (ps := ["side"]) fun _ _ _ _ _ _ us hl => match us, hl with | [_], _ => rfl
  have m_check_side := PySem.W.mg_of X G a_check_side
  have F_is_side := fun_mk (st := s_is_side) l_is_side c_is_side k_is_side
  have b_is_side := F_is_side.binds (ps := ["thing"]) fun _ _ _ _ _ _ us hl => match us, hl with | [_], _ => rfl
  have m_is_side := PySem.W.mg_of X G a_is_side
  have F_figure := fun_mk (st := s_figure) l_figure c_figure k_figure
  have b_figure := F_figure.binds (ps := ["side", "value"]) fun _ _ _ _ _ _ us hl => match us, hl with | [_, _], _ => rfl
  have m_figure := PySem.W.mg_of X G a_figure
  have F_goes_up := fun_mk (st := s_goes_up) l_goes_up c_goes_up k_goes_up
  have b_goes_up := F_goes_up.binds (ps := ["mode", "step", "figure", "rest"]) fun _ _ _ _ _ _ us hl => match us, hl with | [_, _, _, _], _ => rfl
  have m_goes_up := PySem.W.mg_of X G a_goes_up
  have F_written := fun_mk (st := s_written) l_written c_written k_written
  have b_written := F_written.binds (ps := ["side", "value"]) fun _ _ _ _ _ _ us hl => match us, hl with | [_, _], _ => rfl
  have m_written := PySem.W.mg_of X G a_written
  have F_below := fun_mk (st := s_below) l_below c_below k_below
  have b_below := F_below.binds (ps := ["mode", "step", "figure"]) fun _ _ _ _ _ _ us hl => match us, hl with | [_, _, _], _ => rfl
  have m_below := PySem.W.mg_of X G a_below
  have F_threshold := fun_mk (st := s_threshold) l_threshold c_threshold k_threshold
  have b_threshold := F_threshold.binds (ps := ["side", "value"]) fun _ _ _ _ _ _ us hl => match us, hl with | [_, _], _ => rfl
  have m_threshold := PySem.W.mg_of X G a_threshold
  have F_check_sides := fun_mk (st := s_check_sides) l_check_sides c_check_sides k_check_sides
  have b_check_sides := F_check_sides.binds (ps := ["sides"]) fun _ _ _ _ _ _ us hl => match us, hl with | [_], _ => rfl
  have m_check_sides := PySem.W.mg_of X G a_check_sides
  have F_period_of := fun_mk (st := s_period_of) l_period_of c_period_of k_period_of
  have b_period_of := F_period_of.binds (ps := ["side"]) fun _ _ _ _ _ _ us hl => match us, hl with | [_], _ => rfl
  have m_period_of := PySem.W.mg_of X G a_period_of
  have F_moved := fun_mk (st := s_moved) l_moved c_moved k_moved
  have b_moved := F_moved.binds (ps := ["side", "by"]) fun _ _ _ _ _ _ us hl => match us, hl with | [_, _], _ => rfl
  have m_moved := PySem.W.mg_of X G a_moved
  have F_common_period := fun_mk (st := s_common_period) l_common_period c_common_period k_common_period
  have b_common_period := F_common_period.binds (ps := ["sides"]) fun _ _ _ _ _ _ us hl => match us, hl with | [_], _ => rfl
  have m_common_period := PySem.W.mg_of X G a_common_period
  have F_along := fun_mk (st := s_along) l_along c_along k_along
  have b_along := F_along.binds (ps := ["sides", "numbers", "value"]) fun _ _ _ _ _ _ us hl => match us, hl with | [_, _, _], _ => rfl
  have m_along := PySem.W.mg_of X G a_along
  have F_check_numbers := fun_mk (st := s_check_numbers) l_check_numbers c_check_numbers k_check_numbers
  have b_check_numbers := F_check_numbers.binds (ps := ["numbers", "many"]) fun _ _ _ _ _ _ us hl => match us, hl with | [_, _], _ => rfl
  have m_check_numbers := PySem.W.mg_of X G a_check_numbers
  have F_before := fun_mk (st := s_before) l_before c_before k_before
  have b_before := F_before.binds (ps := ["sides", "value"]) fun _ _ _ _ _ _ us hl => match us, hl with | [_, _], _ => rfl
  have m_before := PySem.W.mg_of X G a_before
  have F_route := fun_mk (st := s_route) l_route c_route k_route
  have b_route := F_route.binds (ps := ["sides", "start", "value"]) fun _ _ _ _ _ _ us hl => match us, hl with | [_, _, _], _ => rfl
  have m_route := PySem.W.mg_of X G a_route
  have F_fewest := fun_mk (st := s_fewest) l_fewest c_fewest k_fewest
  have b_fewest := F_fewest.binds (ps := ["sides", "start", "value", "runs"]) fun _ _ _ _ _ _ us hl => match us, hl with | [_, _, _, _], _ => rfl
  have m_fewest := PySem.W.mg_of X G a_fewest
  have F_runs := fun_mk (st := s_runs) l_runs c_runs k_runs
  have b_runs := F_runs.binds (ps := ["sides", "value"]) fun _ _ _ _ _ _ us hl => match us, hl with | [_, _], _ => rfl
  have m_runs := PySem.W.mg_of X G a_runs
  have F_widened := fun_mk (st := s_widened) l_widened c_widened k_widened
  have b_widened := F_widened.binds (ps := ["sides", "run"]) fun _ _ _ _ _ _ us hl => match us, hl with | [_, _], _ => rfl
  have m_widened := PySem.W.mg_of X G a_widened
  have F_ends := fun_mk (st := s_ends) l_ends c_ends k_ends
  have b_ends := F_ends.binds (ps := ["sides", "value", "runs"]) fun _ _ _ _ _ _ us hl => match us, hl with | [_, _, _], _ => rfl
  have m_ends := PySem.W.mg_of X G a_ends
  have F_within := fun_mk (st := s_within) l_within c_within k_within
  have b_within := F_within.binds (ps := ["run", "window"]) fun _ _ _ _ _ _ us hl => match us, hl with | [_, _], _ => rfl
  have m_within := PySem.W.mg_of X G a_within
  have F_holds := fun_mk (st := s_holds) l_holds c_holds k_holds
  have b_holds := F_holds.binds (ps := ["ends", "value"]) fun _ _ _ _ _ _ us hl => match us, hl with | [_, _], _ => rfl
  have m_holds := PySem.W.mg_of X G a_holds
  have F_way := fun_mk (st := s_way) l_way c_way k_way
  have b_way := F_way.binds (ps := ["sides", "start", "runs"]) fun _ _ _ _ _ _ us hl => match us, hl with | [_, _, _], _ => rfl
  have m_way := PySem.W.mg_of X G a_way
  have F_L_source := fun_mk (st := s_L_source) l_L_source c_L_source k_L_source
  have b_L_source := F_L_source.binds (ps := ["_law_script"]) fun _ _ _ _ _ _ us hl => match us, hl with | [_], _ => rfl
  have m_L_source := PySem.W.mg_of X G a_L_source
  have F_L_draw := fun_mk (st := s_L_draw) l_L_draw c_L_draw k_L_draw
  have b_L_draw := F_L_draw.binds (ps := ["_law_source_here", "_law_limit"]) fun _ _ _ _ _ _ us hl => match us, hl with | [_, _], _ => rfl
  have m_L_draw := PySem.W.mg_of X G a_L_draw
  have F_L_pick := fun_mk (st := s_L_pick) l_L_pick c_L_pick k_L_pick
  have b_L_pick := F_L_pick.binds (ps := ["_law_source_here", "_law_values"]) fun _ _ _ _ _ _ us hl => match us, hl with | [_, _], _ => rfl
  have m_L_pick := PySem.W.mg_of X G a_L_pick
  have F_L_great := fun_mk (st := s_L_great) l_L_great c_L_great k_L_great
  have b_L_great := F_L_great.binds (ps := ["_law_source_here", "_law_limit"]) fun _ _ _ _ _ _ us hl => match us, hl with | [_, _], _ => rfl
  have m_L_great := PySem.W.mg_of X G a_L_great
  have F_L_ten := fun_mk (st := s_L_ten) l_L_ten c_L_ten k_L_ten
  have b_L_ten := F_L_ten.binds (ps := ["_law_many"]) fun _ _ _ _ _ _ us hl => match us, hl with | [_], _ => rfl
  have m_L_ten := PySem.W.mg_of X G a_L_ten
  have F_L_step := fun_mk (st := s_L_step) l_L_step c_L_step k_L_step
  have b_L_step := F_L_step.binds (ps := ["_law_source_here", "_law_most"]) fun _ _ _ _ _ _ us hl => match us, hl with | [_, _], _ => rfl
  have m_L_step := PySem.W.mg_of X G a_L_step
  have F_L_side := fun_mk (st := s_L_side) l_L_side c_L_side k_L_side
  have b_L_side := F_L_side.binds (ps := ["_law_source_here", "_law_most"]) fun _ _ _ _ _ _ us hl => match us, hl with | [_, _], _ => rfl
  have m_L_side := PySem.W.mg_of X G a_L_side
  have F_L_written := fun_mk (st := s_L_written) l_L_written c_L_written k_L_written
  have b_L_written := F_L_written.binds (ps := ["_law_side_here", "_law_value"]) fun _ _ _ _ _ _ us hl => match us, hl with | [_, _], _ => rfl
  have m_L_written := PySem.W.mg_of X G a_L_written
  have F_L_divisor := fun_mk (st := s_L_divisor) l_L_divisor c_L_divisor k_L_divisor
  have b_L_divisor := F_L_divisor.binds (ps := ["_law_one", "_law_other"]) fun _ _ _ _ _ _ us hl => match us, hl with | [_, _], _ => rfl
  have m_L_divisor := PySem.W.mg_of X G a_L_divisor
  have F_L_period := fun_mk (st := s_L_period) l_L_period c_L_period k_L_period
  have b_L_period := F_L_period.binds (ps := ["_law_sides"]) fun _ _ _ _ _ _ us hl => match us, hl with | [_], _ => rfl
  have m_L_period := PySem.W.mg_of X G a_L_period
  have F_L_levels := fun_mk (st := s_L_levels) l_L_levels c_L_levels k_L_levels
  have b_L_levels := F_L_levels.binds (ps := ["_law_sides", "_law_start", "_law_most"]) fun _ _ _ _ _ _ us hl => match us, hl with | [_, _, _], _ => rfl
  have m_L_levels := PySem.W.mg_of X G a_L_levels
  have F_L_holds := fun_mk (st := s_L_holds) l_L_holds c_L_holds k_L_holds
  have b_L_holds := F_L_holds.binds (ps := ["_law_run", "_law_value"]) fun _ _ _ _ _ _ us hl => match us, hl with | [_, _], _ => rfl
  have m_L_holds := PySem.W.mg_of X G a_L_holds
  have F_law := fun_mk (st := s_law) l_law c_law k_law
  have b_law := F_law.binds (ps := ["_law_script"]) fun _ _ _ _ _ _ us hl => match us, hl with | [_], _ => rfl
  have m_law := PySem.W.mg_of X G a_law
  have n_len := PySem.W.mg_none_of X G z_len
  have n_abs := PySem.W.mg_none_of X G z_abs
  have n_int := PySem.W.mg_none_of X G z_int
  have n_range := PySem.W.mg_none_of X G z_range
  have n_isinstance := PySem.W.mg_none_of X G z_isinstance
  have n_bool := PySem.W.mg_none_of X G z_bool
  have n_tuple := PySem.W.mg_none_of X G z_tuple
  have n_divmod := PySem.W.mg_none_of X G z_divmod
  have n_max := PySem.W.mg_none_of X G z_max
  have n_min := PySem.W.mg_none_of X G z_min
  have n_list := PySem.W.mg_none_of X G z_list
  have n_sorted := PySem.W.mg_none_of X G z_sorted
  have n_enumerate := PySem.W.mg_none_of X G z_enumerate
  have n_ValueError := PySem.W.mg_none_of X G z_ValueError
  have BL : Blt mg := ⟨n_len, n_abs, n_int, n_range⟩
  have T : SideT K mg aM := ⟨n_isinstance, n_int, n_bool, n_tuple, n_len, n_divmod, PySem.W.mg_of X G a_MODES, fun _ => .inr ⟨_, _, _, l_MODES, rfl, rfl, v_MODES.1, v_MODES.2⟩⟩
  have TC : ChkT mg := ⟨n_isinstance, n_int, n_bool, n_tuple, n_list, n_len⟩
  have TM : ModT K mg aM := ⟨PySem.W.mg_of X G a_MODES, fun _ => .inr ⟨_, _, _, l_MODES, rfl, rfl, v_MODES.1, v_MODES.2⟩⟩
  have AT : AmT mg := ⟨⟨_, PySem.W.mg_of X G a_MS⟩⟩
  have tab : ∀ i, i < 4 → erT K (cAt [c0, c1, c2, c3]) cB i = true := fun i hi => by
    rcases (by omega : i = 0 ∨ i = 1 ∨ i = 2 ∨ i = 3) with e | e | e | e <;> subst e
    · exact et_0
    · exact et_1
    · exact et_2
    · exact et_3
  have tb : ∀ i, i < 4 → errB K (cAt [c0, c1, c2, c3] i) = true ∧ (PySem.W.excIn K (cAt [c0, c1, c2, c3] i) [.type "ValueError", .type "Exception", .type "BaseException", .type "object"] "ValueError.__new__" = true ∧ PySem.W.keepIn K (.ref (cAt [c0, c1, c2, c3] i)) = true) ∧ PySem.W.kitOne K (.ref (cAt [c0, c1, c2, c3] i)) (.type "ValueError") = some true ∧ PySem.W.subIn K (.ref (cAt [c0, c1, c2, c3] i)) (.type "BaseException") = some true ∧ PySem.W.typeIn K (.ref (cAt [c0, c1, c2, c3] i)) = some (.type "type") ∧ PySem.W.exmOne K (.ref (cAt [c0, c1, c2, c3] i)) (.ref cB) = some true ∧ ∀ j, j < 4 → PySem.W.kitOne K (.ref (cAt [c0, c1, c2, c3] i)) (.ref (cAt [c0, c1, c2, c3] j)) = some (decide (i = j)) := fun i hi => by
    have z := tab i hi
    unfold erT exB at z
    simp only [Bool.and_eq_true, decide_eq_true_eq] at z
    obtain ⟨a, b, c, d, e, f, g⟩ := z
    exact ⟨a, b, c, d, e, f, fun j hj => of_decide_eq_true (all_of g hj)⟩
  have R : Er K mg (cAt [c0, c1, c2, c3]) cB := { isi := n_isinstance, ve := n_ValueError, gB := PySem.W.mg_of X G g_B, g0 := PySem.W.mg_of X G g_0, g1 := PySem.W.mg_of X G g_1, g2 := PySem.W.mg_of X G g_2, g3 := PySem.W.mg_of X G g_3, kit := fun i j hi hj => (tb i hi).2.2.2.2.2.2 j hj, kitV := fun i hi => (tb i hi).2.2.1, ec := fun i hi => errB_ok (tb i hi).1, eg := ⟨gsp, gtk⟩, ex := fun i hi => (tb i hi).2.1.1, kp := fun i hi => (tb i hi).2.1.2, sb := fun i hi => (tb i hi).2.2.2.1, ty := fun i hi => (tb i hi).2.2.2.2.1, emB := fun i hi => (tb i hi).2.2.2.2.2.1, em0 := em_0 }
  have MX : MaxT mg := ⟨n_max, n_min⟩
  have AM : AmG mg := ⟨n_isinstance, n_list, n_len, ⟨_, PySem.W.mg_of X G a_MS⟩, PySem.W.mg_of X G a_lcm⟩
  refine ⟨PySem.W.fnOf "law" "law" (defArgs s_law) (defBody s_law) (defScope s_law) .none kV_law dc_law pm_law an_law cd_law ct_law, fun s v => .of_eq rfl, fun base _ _ => ?_⟩
  have C_is_int : Cal l.prog w K mg base "is_int" 1 ["thing"] spIsInt f_is_int _ := ⟨ok_is_int F_is_int T, m_is_int, k_is_int, b_is_int⟩
  have C_is_int_between : Cal l.prog w K mg base "is_int_between" 2 ["thing", "least", "most"] spBetween f_is_int_between _ := ⟨ok_between F_is_int_between C_is_int, m_is_int_between, k_is_int_between, b_is_int_between⟩
  have C_check_value : Cal l.prog w K mg base "check_value" 2 ["value"] spCheckValue f_check_value _ := ⟨ok_check_value F_check_value C_is_int, m_check_value, k_check_value, b_check_value⟩
  have C_check_side : Cal l.prog w K mg base "check_side" 3 ["side"] spCheckSide f_check_side _ := ⟨ok_check_side F_check_side T C_is_int_between, m_check_side, k_check_side, b_check_side⟩
  have C_goes_up : Cal l.prog w K mg base "_goes_up" 1 ["mode", "step", "figure", "rest"] spGo f_goes_up _ := ⟨ok_goes_up F_goes_up, m_goes_up, k_goes_up, b_goes_up⟩
  have C_figure : Cal l.prog w K mg base "_figure" 2 ["side", "value"] spFig f_figure _ := ⟨ok_figure F_figure T C_goes_up, m_figure, k_figure, b_figure⟩
  have C_written : Cal l.prog w K mg base "written" 3 ["side", "value"] spDue f_written _ := ⟨ok_written F_written C_figure, m_written, k_written, b_written⟩
  have C_is_side : Cal l.prog w K mg base "is_side" 4 ["thing"] spIsSide f_is_side _ := ⟨ok_is_side F_is_side (PySem.W.mg_of X G g_0) C_check_side, m_is_side, k_is_side, b_is_side⟩
  have C_check_sides : Cal l.prog w K mg base "check_sides" 5 ["sides"] spSides f_check_sides _ := ⟨ok_sides F_check_sides AM C_is_side, m_check_sides, k_check_sides, b_check_sides⟩
  have C_below : Cal l.prog w K mg base "_below" 1 ["mode", "step", "figure"] spBelow f_below _ := ⟨ok_below F_below, m_below, k_below, b_below⟩
  have C_threshold : Cal l.prog w K mg base "threshold" 3 ["side", "value"] spBack f_threshold _ := ⟨ok_threshold F_threshold C_below, m_threshold, k_threshold, b_threshold⟩
  have C_period_of : Cal l.prog w K mg base "period_of" 1 ["side"] spPerOf f_period_of _ := ⟨ok_per F_period_of, m_period_of, k_period_of, b_period_of⟩
  have C_moved : Cal l.prog w K mg base "moved" 2 ["side", "by"] spMoved f_moved _ := ⟨ok_moved F_moved C_period_of, m_moved, k_moved, b_moved⟩
  have C_common_period : Cal l.prog w K mg base "common_period" 2 ["sides"] spPerL f_common_period _ := ⟨ok_commonL F_common_period AM C_period_of, m_common_period, k_common_period, b_common_period⟩
  have C_widened : Cal l.prog w K mg base "_widened" 4 ["sides", "run"] spWid f_widened _ := ⟨ok_wid F_widened MX C_threshold, m_widened, k_widened, b_widened⟩
  have C_runs : Cal l.prog w K mg base "_runs" 5 ["sides", "value"] spRuns f_runs _ := ⟨ok_runs F_runs BL ⟨_, PySem.W.mg_of X G a_MH⟩ C_moved C_widened, m_runs, k_runs, b_runs⟩
  have C_within : Cal l.prog w K mg base "_within" 1 ["run", "window"] spWin f_within _ := ⟨ok_win F_within MX, m_within, k_within, b_within⟩
  have X_ends : CalX l.prog w K mg base "_ends" 3 ["sides", "value", "runs"] (spEndsX (cAt [c0, c1, c2, c3])) f_ends _ := ⟨ok_ends_x F_ends BL R ⟨_, PySem.W.mg_of X G a_MH⟩ C_common_period C_within, m_ends, k_ends, b_ends⟩
  have C_holds : Cal l.prog w K mg base "_holds" 1 ["ends", "value"] spHolds f_holds _ := ⟨ok_holds F_holds, m_holds, k_holds, b_holds⟩
  have X_fewest : CalX l.prog w K mg base "_fewest" 4 ["sides", "start", "value", "runs"] (spFewX (cAt [c0, c1, c2, c3])) f_fewest _ := ⟨ok_few_x F_fewest n_enumerate R ⟨_, PySem.W.mg_of X G a_MH⟩ C_holds X_ends, m_fewest, k_fewest, b_fewest⟩
  have C_way : Cal l.prog w K mg base "_way" 4 ["sides", "start", "runs"] spWay f_way _ := ⟨ok_way F_way BL n_enumerate C_written C_holds, m_way, k_way, b_way⟩
  have R_route : CalX l.prog w K mg base "route" 6 ["sides", "start", "value"] (spRouN (cAt [c0, c1, c2, c3])) f_route _ := ⟨ok_imp (ok_route F_route C_check_sides C_check_value C_runs X_fewest C_way) fun _ _ _ _ => rou_imp, m_route, k_route, b_route⟩
  have Z_route : Cal l.prog w K mg base "route" 6 ["sides", "start", "value"] (spRouZ (cAt [c0, c1, c2, c3])) f_route _ := ⟨of_x R_route.ok, m_route, k_route, b_route⟩
  have X_is_int : Cal l.prog w K mg base "is_int" 1 ["thing"] spIsAny f_is_int _ := ⟨ok_is_any F_is_int TC, m_is_int, k_is_int, b_is_int⟩
  have X_is_int_between : Cal l.prog w K mg base "is_int_between" 2 ["thing", "least", "most"] spBetAny f_is_int_between _ := ⟨ok_bet_any F_is_int_between X_is_int, m_is_int_between, k_is_int_between, b_is_int_between⟩
  have X_check_value : CalX l.prog w K mg base "check_value" 2 ["value"] (spValX (cAt [c0, c1, c2, c3])) f_check_value _ := ⟨ok_val_x F_check_value R X_is_int, m_check_value, k_check_value, b_check_value⟩
  have X_check_side : CalX l.prog w K mg base "check_side" 3 ["side"] (spSideX K (cAt [c0, c1, c2, c3])) f_check_side _ := ⟨ok_side_x F_check_side TC TM R X_is_int_between, m_check_side, k_check_side, b_check_side⟩
  have X_is_side : Cal l.prog w K mg base "is_side" 4 ["thing"] (spIsSideX K) f_is_side _ := ⟨ok_is_side_x F_is_side R X_check_side, m_is_side, k_is_side, b_is_side⟩
  have X_check_sides : CalX l.prog w K mg base "check_sides" 5 ["sides"] (spSidesX K (cAt [c0, c1, c2, c3])) f_check_sides _ := ⟨ok_sides_x F_check_sides TC AT R X_is_side, m_check_sides, k_check_sides, b_check_sides⟩
  have X_before : CalX l.prog w K mg base "before" 6 ["sides", "value"] (spBefX K (cAt [c0, c1, c2, c3])) f_before _ := ⟨ok_before_x F_before X_check_sides X_check_value C_runs X_ends, m_before, k_before, b_before⟩
  have Z_before : Cal l.prog w K mg base "before" 6 ["sides", "value"] (spBefZ K (cAt [c0, c1, c2, c3])) f_before _ := ⟨of_x X_before.ok, m_before, k_before, b_before⟩
  have C_check_numbers : Cal l.prog w K mg base "_check_numbers" 3 ["numbers", "many"] spNums f_check_numbers _ := ⟨ok_nums F_check_numbers AM ⟨_, PySem.W.mg_of X G a_MH⟩ C_is_int_between, m_check_numbers, k_check_numbers, b_check_numbers⟩
  have C_along : Cal l.prog w K mg base "along" 6 ["sides", "numbers", "value"] spAlong f_along _ := ⟨ok_along F_along AM C_check_sides C_check_numbers C_check_value C_written, m_along, k_along, b_along⟩
  have C_L_source : Cal l.prog w K mg base "_law_source" 1 ["_law_script"] (spSource K) f_L_source _ := ⟨ok_source F_L_source BL, m_L_source, k_L_source, b_L_source⟩
  have C_L_draw : Cal l.prog w K mg base "_law_draw" 1 ["_law_source_here", "_law_limit"] spDraw f_L_draw _ := ⟨ok_draw F_L_draw BL, m_L_draw, k_L_draw, b_L_draw⟩
  have C_L_pick : Cal l.prog w K mg base "_law_pick" 2 ["_law_source_here", "_law_values"] spPick f_L_pick _ := ⟨ok_pick F_L_pick BL C_L_draw, m_L_pick, k_L_pick, b_L_pick⟩
  have C_L_great : Cal l.prog w K mg base "_law_great" 2 ["_law_source_here", "_law_limit"] spGreat f_L_great _ := ⟨ok_great F_L_great BL C_L_draw, m_L_great, k_L_great, b_L_great⟩
  have C_L_ten : Cal l.prog w K mg base "_law_ten" 1 ["_law_many"] spTen f_L_ten _ := ⟨ok_ten F_L_ten BL, m_L_ten, k_L_ten, b_L_ten⟩
  have C_L_step : Cal l.prog w K mg base "_law_step" 3 ["_law_source_here", "_law_most"] spStep f_L_step _ := ⟨ok_step F_L_step BL MX C_L_draw C_L_pick C_L_great C_L_ten, m_L_step, k_L_step, b_L_step⟩
  have C_L_side : Cal l.prog w K mg base "_law_side" 4 ["_law_source_here", "_law_most"] spSide f_L_side _ := ⟨ok_side F_L_side BL C_L_step C_L_pick C_L_great, m_L_side, k_L_side, b_L_side⟩
  have C_L_written : Cal l.prog w K mg base "_law_written" 1 ["_law_side_here", "_law_value"] spDue f_L_written _ := ⟨ok_L_written F_L_written BL, m_L_written, k_L_written, b_L_written⟩
  have C_L_divisor : Cal l.prog w K mg base "_law_divisor" 1 ["_law_one", "_law_other"] spDiv f_L_divisor _ := ⟨ok_div F_L_divisor BL, m_L_divisor, k_L_divisor, b_L_divisor⟩
  have C_L_period : Cal l.prog w K mg base "_law_period" 2 ["_law_sides"] spPerS f_L_period _ := ⟨ok_period F_L_period BL C_L_divisor, m_L_period, k_L_period, b_L_period⟩
  have C_L_levels : Cal l.prog w K mg base "_law_levels" 2 ["_law_sides", "_law_start", "_law_most"] spLevels f_L_levels _ := ⟨ok_L_levels F_L_levels BL MX n_sorted n_list C_L_written, m_L_levels, k_L_levels, b_L_levels⟩
  have C_L_holds : Cal l.prog w K mg base "_law_holds" 1 ["_law_run", "_law_value"] spLH f_L_holds _ := ⟨ok_L_holds F_L_holds, m_L_holds, k_L_holds, b_L_holds⟩
  exact ok_law F_law BL n_list R em_2 C_L_source C_L_draw C_L_side C_L_written C_L_period C_L_levels C_L_holds C_along Z_before R_route Z_route
theorem walk {l : PySem.W.OpenLaw} {q : Program} {loose : List Str} {XP : (Str → Option Value) → Heap → Prop} {YP : World → Heap → Prop} {d : DefRec} {K : Params → PySem.W.Frag} (hn : l.most = some 63) (hdf : d.params.defaults = [])
    (hY : ∀ (w : World) (h : Heap), YP w h → (K w.params).In h)
    (F : ∀ (w : World) (mg : Str → Option Value) (fa : Addr) (h : Heap), (K w.params).In h → h.Ns mainGlobals mg → mg d.name = some (.ref fa) →
      ∃ fd : FuncData, (∀ (s : Shared) (u : Value), BindsTo s fd ⟨[u], []⟩ [("_law_script", u)]) ∧ ∀ base : Heap, (K w.params).In base → base.Ns mainGlobals mg → FnOk l.prog w (K w.params) mg base CX0 7 fa fd ["_law_script"] (spLaw (K w.params))) :
    PySem.W.WalkO q loose XP YP l.row.toRowW d [] (fun f vs => PySem.call f vs) :=
  L2.walk_of (n := 63) (k := 7) (x := "_law_script") (CX := fun _ => CX0) (sp := fun w => spLaw (K w.params)) hn (by decide) hdf ⟨rfl, by decide, by decide⟩ hY F (fun _ _ a ns hl _ hS => ⟨a, ns, rfl, hS, hl, fun _ => rfl⟩) fun _ _ _ _ _ z => z
end HT
open PySem PySem.W PyProof.Rows
set_option maxRecDepth 100000 in
set_option maxHeartbeats 0 in
theorem PySem.Challenge.cw_handedtext_k11_ways_holds : PySem.Challenge.rw_handedtext_k11_ways.Holds := by
  w_on; o_law; k_head; (case hw => w_witness2)
  k_fill
  refine HT.walk (l := PySem.Challenge.rw_handedtext_k11_ways) rfl rfl (fun w h Y => PySem.W.kIn_of Y) ?F
  case F =>
    intro w mg fa h KX G hmg
    refine' HT.all_mk KX G hmg ?a_is_int ?l_is_int ?c_is_int ?k_is_int ?a_is_int_between ?l_is_int_between ?c_is_int_between ?k_is_int_between ?a_check_value ?l_check_value ?c_check_value ?k_check_value ?a_check_side ?l_check_side ?c_check_side ?k_check_side ?a_is_side ?l_is_side ?c_is_side ?k_is_side ?a_figure ?l_figure ?c_figure ?k_figure ?a_goes_up ?l_goes_up ?c_goes_up ?k_goes_up ?a_written ?l_written ?c_written ?k_written ?a_below ?l_below ?c_below ?k_below ?a_threshold ?l_threshold ?c_threshold ?k_threshold ?a_check_sides ?l_check_sides ?c_check_sides ?k_check_sides ?a_period_of ?l_period_of ?c_period_of ?k_period_of ?a_moved ?l_moved ?c_moved ?k_moved ?a_common_period ?l_common_period ?c_common_period ?k_common_period ?a_along ?l_along ?c_along ?k_along ?a_check_numbers ?l_check_numbers ?c_check_numbers ?k_check_numbers ?a_before ?l_before ?c_before ?k_before ?a_route ?l_route ?c_route ?k_route ?a_fewest ?l_fewest ?c_fewest ?k_fewest ?a_runs ?l_runs ?c_runs ?k_runs ?a_widened ?l_widened ?c_widened ?k_widened ?a_ends ?l_ends ?c_ends ?k_ends ?a_within ?l_within ?c_within ?k_within ?a_holds ?l_holds ?c_holds ?k_holds ?a_way ?l_way ?c_way ?k_way ?a_L_source ?l_L_source ?c_L_source ?k_L_source ?a_L_draw ?l_L_draw ?c_L_draw ?k_L_draw ?a_L_pick ?l_L_pick ?c_L_pick ?k_L_pick ?a_L_great ?l_L_great ?c_L_great ?k_L_great ?a_L_ten ?l_L_ten ?c_L_ten ?k_L_ten ?a_L_step ?l_L_step ?c_L_step ?k_L_step ?a_L_side ?l_L_side ?c_L_side ?k_L_side ?a_L_written ?l_L_written ?c_L_written ?k_L_written ?a_L_divisor ?l_L_divisor ?c_L_divisor ?k_L_divisor ?a_L_period ?l_L_period ?c_L_period ?k_L_period ?a_L_levels ?l_L_levels ?c_L_levels ?k_L_levels ?a_L_holds ?l_L_holds ?c_L_holds ?k_L_holds ?a_law ?l_law ?c_law ?k_law ?z_len ?z_abs ?z_int ?z_range ?z_isinstance ?z_bool ?z_tuple ?z_divmod ?z_max ?z_min ?z_list ?z_sorted ?z_enumerate ?z_ValueError ?g_0 ?g_1 ?g_2 ?g_3 ?g_B ?et_0 ?et_1 ?et_2 ?et_3 ?em_0 ?gsp ?gtk ?a_MS ?a_MH ?em_2 ?a_lcm ?a_MODES ?l_MODES ?v_MODES
    (case a_is_int => k_is)
    (case l_is_int => k_is)
    (case c_is_int => k_is)
    (case k_is_int => k_is)
    (case a_is_int_between => k_is)
    (case l_is_int_between => k_is)
    (case c_is_int_between => k_is)
    (case k_is_int_between => k_is)
    (case a_check_value => k_is)
    (case l_check_value => k_is)
    (case c_check_value => k_is)
    (case k_check_value => k_is)
    (case a_check_side => k_is)
    (case l_check_side => k_is)
    (case c_check_side => k_is)
    (case k_check_side => k_is)
    (case a_is_side => k_is)
    (case l_is_side => k_is)
    (case c_is_side => k_is)
    (case k_is_side => k_is)
    (case a_figure => k_is)
    (case l_figure => k_is)
    (case c_figure => k_is)
    (case k_figure => k_is)
    (case a_goes_up => k_is)
    (case l_goes_up => k_is)
    (case c_goes_up => k_is)
    (case k_goes_up => k_is)
    (case a_written => k_is)
    (case l_written => k_is)
    (case c_written => k_is)
    (case k_written => k_is)
    (case a_below => k_is)
    (case l_below => k_is)
    (case c_below => k_is)
    (case k_below => k_is)
    (case a_threshold => k_is)
    (case l_threshold => k_is)
    (case c_threshold => k_is)
    (case k_threshold => k_is)
    (case a_check_sides => k_is)
    (case l_check_sides => k_is)
    (case c_check_sides => k_is)
    (case k_check_sides => k_is)
    (case a_period_of => k_is)
    (case l_period_of => k_is)
    (case c_period_of => k_is)
    (case k_period_of => k_is)
    (case a_moved => k_is)
    (case l_moved => k_is)
    (case c_moved => k_is)
    (case k_moved => k_is)
    (case a_common_period => k_is)
    (case l_common_period => k_is)
    (case c_common_period => k_is)
    (case k_common_period => k_is)
    (case a_along => k_is)
    (case l_along => k_is)
    (case c_along => k_is)
    (case k_along => k_is)
    (case a_check_numbers => k_is)
    (case l_check_numbers => k_is)
    (case c_check_numbers => k_is)
    (case k_check_numbers => k_is)
    (case a_before => k_is)
    (case l_before => k_is)
    (case c_before => k_is)
    (case k_before => k_is)
    (case a_route => k_is)
    (case l_route => k_is)
    (case c_route => k_is)
    (case k_route => k_is)
    (case a_fewest => k_is)
    (case l_fewest => k_is)
    (case c_fewest => k_is)
    (case k_fewest => k_is)
    (case a_runs => k_is)
    (case l_runs => k_is)
    (case c_runs => k_is)
    (case k_runs => k_is)
    (case a_widened => k_is)
    (case l_widened => k_is)
    (case c_widened => k_is)
    (case k_widened => k_is)
    (case a_ends => k_is)
    (case l_ends => k_is)
    (case c_ends => k_is)
    (case k_ends => k_is)
    (case a_within => k_is)
    (case l_within => k_is)
    (case c_within => k_is)
    (case k_within => k_is)
    (case a_holds => k_is)
    (case l_holds => k_is)
    (case c_holds => k_is)
    (case k_holds => k_is)
    (case a_way => k_is)
    (case l_way => k_is)
    (case c_way => k_is)
    (case k_way => k_is)
    (case a_L_source => k_is)
    (case l_L_source => k_is)
    (case c_L_source => k_is)
    (case k_L_source => k_is)
    (case a_L_draw => k_is)
    (case l_L_draw => k_is)
    (case c_L_draw => k_is)
    (case k_L_draw => k_is)
    (case a_L_pick => k_is)
    (case l_L_pick => k_is)
    (case c_L_pick => k_is)
    (case k_L_pick => k_is)
    (case a_L_great => k_is)
    (case l_L_great => k_is)
    (case c_L_great => k_is)
    (case k_L_great => k_is)
    (case a_L_ten => k_is)
    (case l_L_ten => k_is)
    (case c_L_ten => k_is)
    (case k_L_ten => k_is)
    (case a_L_step => k_is)
    (case l_L_step => k_is)
    (case c_L_step => k_is)
    (case k_L_step => k_is)
    (case a_L_side => k_is)
    (case l_L_side => k_is)
    (case c_L_side => k_is)
    (case k_L_side => k_is)
    (case a_L_written => k_is)
    (case l_L_written => k_is)
    (case c_L_written => k_is)
    (case k_L_written => k_is)
    (case a_L_divisor => k_is)
    (case l_L_divisor => k_is)
    (case c_L_divisor => k_is)
    (case k_L_divisor => k_is)
    (case a_L_period => k_is)
    (case l_L_period => k_is)
    (case c_L_period => k_is)
    (case k_L_period => k_is)
    (case a_L_levels => k_is)
    (case l_L_levels => k_is)
    (case c_L_levels => k_is)
    (case k_L_levels => k_is)
    (case a_L_holds => k_is)
    (case l_L_holds => k_is)
    (case c_L_holds => k_is)
    (case k_L_holds => k_is)
    (case a_law => k_is)
    (case l_law => k_is)
    (case c_law => k_is)
    (case k_law => k_is)
    (case z_len => k_is)
    (case z_abs => k_is)
    (case z_int => k_is)
    (case z_range => k_is)
    (case z_isinstance => k_is)
    (case z_bool => k_is)
    (case z_tuple => k_is)
    (case z_divmod => k_is)
    (case z_max => k_is)
    (case z_min => k_is)
    (case z_list => k_is)
    (case z_sorted => k_is)
    (case z_enumerate => k_is)
    (case z_ValueError => k_is)
    (case g_0 => k_is)
    (case g_1 => k_is)
    (case g_2 => k_is)
    (case g_3 => k_is)
    (case g_B => k_is)
    (case et_0 => kernel_rfl)
    (case et_1 => kernel_rfl)
    (case et_2 => kernel_rfl)
    (case et_3 => kernel_rfl)
    (case em_0 => kernel_rfl)
    (case gsp => k_is)
    (case gtk => k_is)
    (case a_MS => k_is)
    (case a_MH => k_is)
    (case em_2 => kernel_rfl)
    (case a_lcm => k_is)
    (case a_MODES => k_is)
    (case l_MODES => k_is)
    (case v_MODES => exact ⟨by decide, .cons ⟨_, rfl⟩ (.cons ⟨_, rfl⟩ (.cons ⟨_, rfl⟩ (.cons ⟨_, rfl⟩ (.cons ⟨_, rfl⟩ .nil))))⟩)
#print axioms PySem.Challenge.cw_handedtext_k11_ways_holds
