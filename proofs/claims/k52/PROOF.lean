import PyProof.Rows.All
import Wide.All
import OpenK.AllK
import Wide.FinOn
import HandS.CallSlots
import HandS.Deep
import HandS.Defaults
import HandS.Exc
import HandS.ExcField
import HandS.ExcInit
import HandS.ExcIs
import HandS.ExcValue
import HandS.ForMost
import HandS.HotCalls
import HandS.IsInst
import HandS.MakeKwOnly
import HandS.More
import HandS.NoneIn
import HandS.RaiseFrom
import HandS.ReplaceLit
import HandS.StrMore
import HandS.Style
import HandS.SuiteRaise
import HandS.TryOnly
import HandS.Wide
import HandS.WideBits
import HandS.WordsExc
import KE.KEqDeep
import KE.KEqSeq
import KE.KExcIs
import HandS.Gcd
import HandS.SortKw
import KE.DataMinMax
import HandS.SortInts
import HandS.SetFor
import HandS.Strs
import KE.SortData
import HandS.Walk
import HandS.Conv
import KE.KDictDisplayH
import HandS.TupAny
import PySem.Challenge.RW_handedtext_k52_doors_of_limits
set_option Elab.async false
set_option linter.all false
set_option maxRecDepth 100000
set_option maxHeartbeats 4000000
set_option exponentiation.threshold 9000
open PySem L2
local macro_rules | `(tactic| walk_at "rd") => `(tactic| repeat (first | refine ⟨_, rfl, ?_⟩ | refine ⟨_, _, rfl, rfl, ?_⟩ | refine .inl ⟨_, rfl, ?_⟩))
namespace L2
open PySem PySem.Spec PyProof.Rows
/-- an error that was caught and kept, at a -/
def ExK (cls : Value) (a : Addr) : HO := .ext fun hp => ∃ (rec' : Obj) (cells : Array Value), hp.get? a = some rec' ∧ Zc cls none rec' ∧ rec'.data = .fields cells
/-- wKeep: what 'except x as n' wishes, where the error stays tracked behind the suite -/
def wKeep (K : PySem.W.Frag) (c : Value) (i : Nat) (ts : Addr → Value → Option Addr → TS) (Wout : WX) (D : Ends) : WX := fun kl dd st H =>
  ∃ yes, PySem.W.exmOne K kl c = some yes ∧ (yes = true → dd = none ∧ ∀ a, H a = none → ts a kl dd { nx := fun st' H' => D.nx (st'.set i none) (upd H' a (ExK kl a)), rt := D.rt, bk := fun st' H' => D.bk (st'.set i none) H', ct := fun st' H' => D.ct (st'.set i none) H' } (st.set i (some (.ref a))) H) ∧
    (yes = false → Wout kl dd st H)
section
variable {X : Cx} {pins : List (Addr × Obj)} {st : St} {H : Hp} {sh : Shared}
theorem Inv.adopt {a : Addr} {kl : Value} {rc : Obj} {cells : Array Value} (iv : Inv X pins st H sh) (new0 : X.s_0.heap.get? a = none) (free : H a = none) (at0 : sh.heap.get? a = some rc) (zc : Zc kl none rc) (fl : rc.data = .fields cells) (nl : a ≠ X.env.locals)
    (np : ∀ p ∈ X.pn ++ pins, p.1 ≠ a) : Inv X pins st (upd H a (ExK kl a)) sh := by
  have old : ∀ c rr, X.s_0.heap.get? c = some rr → c ≠ a := fun c rr e z => by
    rw [z, new0] at e
    cases e
  have other : ∀ c u, H c = some u → upd H a (ExK kl a) c = some u := fun c u e => (upd_ne (ne_of_none e free)).trans e
  refine ⟨iv.ok, iv.os, iv.bare, ⟨iv.base.keep, iv.base.slot, fun c rr e n0 nx => ?_, iv.base.there, fun c xs e => other _ _ (iv.base.tups c xs e), fun c rr u e => other _ _ (iv.base.frzs c rr u e), fun c ps e => ?_⟩, iv.loc, iv.cell, ?_, fun y c e => ?_, fun p hp => ?_, fun c u e => ?_, iv.len⟩
  · exact (upd_ne (old c rr e)).trans (iv.base.free c rr e n0 nx)
  · obtain ⟨more, e2⟩ := iv.base.tbls c ps e
    exact ⟨more, other _ _ e2⟩
  · exact (upd_ne nl.symm).trans iv.free
  · obtain ⟨w, rr, e2, e3⟩ := iv.cell y c e
    refine (upd_ne fun z => ?_).trans (iv.freeC y c e)
    subst z
    rw [at0] at e2
    cases e2
    simp [fl] at e3
  · obtain ⟨e1, e2, e3, e4, e5⟩ := iv.pin p hp
    exact ⟨e1, (upd_ne (np p hp)).trans e2, e3, e4, e5⟩
  · by_cases ca : c = a
    · subst ca
      rw [upd_same] at e
      cases e
      exact ⟨⟨rc, cells, at0, zc, fl⟩, ⟨rc, at0⟩, fun _ _ ⟨r2, c2, e2, e3⟩ same => ⟨r2, c2, same _ e2, e3⟩⟩
    · rw [upd_ne ca] at e
      exact (iv.hok c u e).stay (fun _ _ _ e2 => e2) (fun c2 e2 => other _ _ e2) fun c2 xs e2 => other _ _ e2
end
end L2
namespace L2
open PySem PySem.Spec PyProof.Rows
section
variable {X : Cx} {x n : Str} {c : Value} {i : Nat} {body suite : List Stmt} {first : Stmt} {np pos pos' : Pos} {tb : WX → TS} {ts : Addr → Value → Option Addr → TS} {Wout : WX}
/-- try: .. except x as n: suite; the caught error stays tracked behind it -/
theorem ps_try_keep (stk : X.stack = X.env :: X.outer) (frm : X.env.frame = some X.env.locals) (noex : X.ex = []) (dist : X.N.Nodup) (slot : X.N[i]? = some n) (loc : X.env.kindOf n = some .local) (nam : Names X x c) (tk : Takes X Wout)
    (inner : ∀ (W : WX) (pn : List (Addr × Obj)) (xe : Value → Shared → Prop), Takes (X.tr pn xe) W → PassesOwn (model X.prog X.w) X.A X.env xe → PSs (X.tr pn xe) body (tb W))
    (caught : ∀ (a : Addr) (rc : Obj) (kl : Value) (dd : Option Addr) (pn : List (Addr × Obj)), Zc kl dd rc → (∃ cells, rc.data = .fields cells) → PSs (X.suite a ((a, rc) :: pn)) (first :: suite) (ts a kl dd)) :
    PS X (.Try body [.ExceptHandler (some (.Name x np)) (some n) (first :: suite) pos'] [] [] pos) (fun D st H => tb (wKeep X.K c i ts Wout D) D st H) where
  run := fun pins sh st H D iv want => by
    have fine := iv.ok
    have frames : X.A.frames = some (X.env :: X.outer) := by rw [fine.frames, stk]
    refine wpAny_Try_except (wpAny_mono ((inner (wKeep X.K c i ts Wout D) (X.pn ++ pins) _ (fun u sh' air => ?_) PassesOwn.looking).run [] sh st H D (iv.toTry _) want) ?_ fun _ _ e => e)
    · obtain ⟨a, B, shI, pins', st1, H1, kl, dd, rfl, ivT, inB, upTo, sky, freeA, sameOs, bareG, yes, dec, onYes, onNo⟩ := air
      have iv1 : Inv X pins st1 H1 shI := ivT.ofTry fine
      rw [stk] at sky
      refine Sky.land Zc.steady frames frm sky fun hp3 fly3 up3 => ?_
      have bNone : B.get? a = none := fly3.2.1
      have iv3 : Inv X pins st1 H1 { sh' with heap := hp3 } := iv1.landed inB fly3.1 (upTo.trans up3) sameOs bareG
      obtain ⟨rc3, cells3, at3, zc3, dt3⟩ := fly3.there
      have offFrames : a ∉ frs (X.env :: X.outer) := fun mem => by
        obtain ⟨_, r2, e2, bad⟩ := fly3.2.2.1.mem mem
        rw [at3] at e2
        cases e2
        exact bad _ dt3
      have offL : a ≠ X.env.locals := fun z => offFrames (List.mem_filterMap.mpr ⟨X.env, List.mem_cons_self, by rw [frm, z]⟩)
      have offF : a ∉ X.fs := fun mem => by
        obtain ⟨ee, inn, ef⟩ := List.mem_filterMap.mp mem
        exact offFrames (List.mem_filterMap.mpr ⟨ee, List.mem_cons_of_mem _ inn, ef⟩)
      have notThere : shI.heap.get? a = none := by
        cases e : shI.heap.get? a with
        | none => rfl
        | some rr =>
          have z := inB a rr e (by rw [stk]; exact offFrames)
          rw [bNone] at z
          cases z
      have new0 : X.s_0.heap.get? a = none := by
        cases e : X.s_0.heap.get? a with
        | none => rfl
        | some rr =>
          obtain ⟨r2, e2⟩ := iv1.base.there a rr e (by rw [noex]; exact List.not_mem_nil)
          rw [notThere] at e2
          cases e2
      have pinsOff : ∀ p ∈ X.pn ++ pins, p.1 ≠ a := fun p hp z => by
        have e2 := (iv1.pin p hp).1
        rw [z, notThere] at e2
        cases e2
      have inSuite := iv3.suite at3 dt3 freeA offL offF
      refine wpAny_handleBy_cons (codeAny_handlers_test ?_) (by intro q; cases q)
      have theClass : PySem.W.Looks (model X.prog X.w) hp3 (typeOf (.ref a)) kl := fun A' Q' E' s' kk qq => wpAny_typeOf_ref (kk _ _ at3) (by rw [zc3.1]; exact qq)
      have theTest := PySem.W.exm_one (M := model X.prog X.w) iv3.kIn theClass dec
      have clause : ∀ {Q' : Value → Shared → Prop} {E' : Value → Shared → Prop}, Q' c { sh' with heap := hp3 } → wpAny (model X.prog X.w) (X.A.mark (some (.ref a))) (eval (.Name x np) X.env) Q' E' { sh' with heap := hp3 } := fun {Q' E'} qq => by
        obtain ⟨g1, g2, g3 | ⟨g3, g4, g5⟩⟩ := nam
        · exact ld_glob (X := X.suite a ((a, rc3) :: (X.pn ++ pins))) inSuite g1 g3 qq g2
        · exact ld_blt (X := X.suite a ((a, rc3) :: (X.pn ++ pins))) inSuite g1 g3 g4 qq g5 g2
      refine clause (theTest.here ?_)
      cases yes with
      | true =>
        obtain ⟨rfl, go⟩ := onYes rfl
        refine codeAny_handlers_suite_as (HandSPX.lands_againZ fly3 fun hp4 fly4 up4 => ?_)
        have iv4 : Inv X pins st1 H1 { sh' with heap := hp4 } := iv1.landed inB fly4.1 ((upTo.trans up3).trans up4) sameOs bareG
        obtain ⟨rc4, cells4, at4, zc4, dt4⟩ := fly4.there
        refine store_ok (X := X.suite a ((a, rc4) :: (X.pn ++ pins))) (v := .ref a) (iv4.suite at4 dt4 freeA offL offF) dist slot (.inl loc) rfl (fun sh5 iv5 => ?_) (.inr loc)
        refine wpAny_mono ((caught a rc4 kl none (X.pn ++ pins) zc4 ⟨_, dt4⟩).run [] sh5 _ H1 _ iv5 (go a freeA)) (fun flow sh6 came => ?_) fun _ _ z => z.elim
        cases flow with
        | next =>
          obtain ⟨st6, H6, iv6, q6⟩ := came
          have more : Inv X ((a, rc4) :: pins) st6 H6 sh6 := ⟨fine, iv6.os, iv6.bare, iv6.base, iv6.loc, iv6.cell, iv6.free, iv6.freeC, fun p hp => iv6.pin p (List.mem_append_left _ ?_), iv6.hok, iv6.len⟩
          refine gone_ok more dist slot loc fun sh7 iv7 => ?_
          have there : (a, rc4) ∈ X.pn ++ (a, rc4) :: pins := List.mem_append_right _ List.mem_cons_self
          obtain ⟨e1, e2, e3, _⟩ := iv7.pin (a, rc4) there
          have less : Inv X pins (st6.set i none) H6 sh7 := ⟨fine, iv7.os, iv7.bare, iv7.base, iv7.loc, iv7.cell, iv7.free, iv7.freeC, fun p hp => iv7.pin p ?_, iv7.hok, iv7.len⟩
          · exact ⟨_, _, less.adopt new0 e2 e1 zc4 dt4 e3 pinsOff, q6⟩
          · rcases List.mem_append.mp hp with hq | hq
            · exact List.mem_append_left _ hq
            · exact List.mem_append_right _ (List.mem_cons_of_mem _ hq)
          · rcases List.mem_append.mp hp with hq | hq
            · exact List.mem_cons_of_mem _ (List.mem_append_left _ hq)
            · rcases List.mem_cons.mp hq with hr | hr
              · rw [hr]; exact List.mem_cons_self
              · exact List.mem_cons_of_mem _ (List.mem_append_right _ hr)
        | brk =>
          obtain ⟨st6, H6, iv6, q6⟩ := came
          exact gone_ok (iv6.unsuite fine) dist slot loc fun sh7 iv7 => ⟨_, _, iv7, q6⟩
        | cont =>
          obtain ⟨st6, H6, iv6, q6⟩ := came
          exact gone_ok (iv6.unsuite fine) dist slot loc fun sh7 iv7 => ⟨_, _, iv7, q6⟩
        | ret u =>
          obtain ⟨v6, st6, H6, iv6, r6, q6⟩ := came
          exact gone_ok (iv6.unsuite fine) dist slot loc fun sh7 iv7 => ⟨_, _, _, iv7, r6, q6⟩
      | false =>
        show wpAny _ X.A (handleBy (.ref a) X.env []) _ _ _
        refine wpAny_handleBy_nil ?_
        obtain ⟨_, _, _, rc5, cells5, tr5, _, _, at5, _, dt5, at1, _⟩ := id fly3
        unfold PySem.passOn
        refine wpAny_bind (wpAny_field at5 dt5 at1 ?_)
        rw [if_neg (by simp : ¬ (Value.ref tr5 == Value.none) = true)]
        have out : wpAny (model X.prog X.w) X.A (setFlight (.ref a) X.env.frame) (fun _ sh8 => wpAny (model X.prog X.w) X.A (throw (.ref a) : Sem Flow) (SP X pins D) X.xe sh8) X.xe { sh' with heap := hp3 } := by
          rw [frm]
          refine HandSPX.setFlight_upZ fly3 fun hp8 held up8 => wpAny_throw (tk _ _ ?_)
          exact ⟨a, B, shI, pins, st1, H1, kl, dd, rfl, iv1, inB, (upTo.trans up3).trans up8, .inr (.inr (by rw [stk]; exact held)), freeA, sameOs, bareG, onNo rfl⟩
        first
          | exact wpAny_bind out
          | exact wpAny_bind (wpAny_pure (wpAny_bind out))
    · intro flow sh1 came
      cases flow with
      | next =>
        obtain ⟨st1, H1, iv1, q1⟩ := came
        exact wpAny_execs_nil ⟨st1, H1, iv1.ofTry fine, q1⟩
      | brk =>
        obtain ⟨st1, H1, iv1, q1⟩ := came
        exact ⟨st1, H1, iv1.ofTry fine, q1⟩
      | cont =>
        obtain ⟨st1, H1, iv1, q1⟩ := came
        exact ⟨st1, H1, iv1.ofTry fine, q1⟩
      | ret u =>
        obtain ⟨v1, st1, H1, iv1, r1, q1⟩ := came
        exact ⟨v1, st1, H1, iv1.ofTry fine, r1, q1⟩
end
end L2
namespace L2
open PySem PySem.Spec PyProof.Rows
/-- what the written part says of an error class, for isinstance -/
structure ErrC (K : PySem.W.Frag) (C : Addr) : Prop where
  cl : (PySem.W.clsIn K C).isSome = true
  ga : PySem.W.findIn K (.ref C) "__getattribute__" = some (some (.builtin "BaseException.__getattribute__"))
  gg : PySem.W.findIn K (.ref C) "__getattr__" = some none
  sb : PySem.W.subIn K (.ref C) (.type "BaseException") = some true
  cn : PySem.W.findIn K (.ref C) "__class__" = some (some (.builtin "object.__class__"))
  mo : PySem.W.mroIn K C (.type "object") = some true
/-- .. of the attribute __class__ of all objects -/
structure ErrG (K : PySem.W.Frag) : Prop where
  sp : PySem.W.specialIn K (.builtin "object.__class__") "__get__" = some (some (.builtin "getset_descriptor.__get__"))
  tk : PySem.W.takesIn K (.builtin "object.__class__") = some true
def rIsKept (K : PySem.W.Frag) : List V → Hp → VK → Prop := fun xs H Q => ∃ (a C : Addr) (c : V) (cv : Value) (b : Bool), xs = [.ref a, c] ∧ ClsV c cv ∧ H a = some (ExK (.ref C) a) ∧ ErrC K C ∧ ErrG K ∧ PySem.W.kitOne K (.ref C) cv = some b ∧ Q (.bl b) H
theorem call_isKept {X : Cx} : CallR X (.builtin "isinstance") (rIsKept X.K) := by
  intro pins sh st H xs us Q iv r h
  obtain ⟨a, C, c, cv, b, rfl, k, at', T, G, e, q⟩ := h
  obtain ⟨u1, u2, rfl, r1, r2⟩ := vals2 r
  have e2 := k.eq r2
  subst e2
  obtain rfl : u1 = Value.ref a := r1
  obtain ⟨⟨oe, vs, ho, hz, hd⟩, _, _⟩ := iv.hok a _ at'
  have J : PySem.W.InstAt sh.heap a oe C none := by
    obtain ⟨oc, od, oda, osl⟩ := oe
    obtain ⟨h1, h2⟩ := hz
    dsimp only at h1 h2 hd
    subst h1 h2 hd
    exact ⟨ho, rfl, rfl, trivial⟩
  exact PySem.W.kia_one (PySem.W.kitx_exc T.cl T.ga T.gg T.sb T.cn G.sp G.tk T.mo) iv.kIn J e (fun z => nomatch z) fun tk => ⟨.bl b, H, iv.tok tk, rfl, q⟩
end L2
namespace L2
open PySem PySem.Spec PyProof.Rows
/-- a def of which any kind of error may come -/
theorem Fun.okAny {CX' : CXT} {P : Program} {w : World} {K : PySem.W.Frag} {mg : Str → Option Value} {base : Heap} {nm qu : Str} {row : Stmt} {at0 : Addr} {fd : FuncData} {names pars : List Str} {lev : Nat} {want : Sp} (F : Fun K nm qu row at0 fd) (S : FnScope names pars (defScope row)) (len : ∀ vs H Q E, want vs H Q E → vs.length = pars.length)
    (body : ∀ (code : Value) (A : Around) (outer : List Env) (sh : Shared) (H : Hp) (vs : List V) (Q : VK) (E : XK), Room lev (A.deeper (envOfC qu (defScope row) sh.heap.objs.size at0 code)) → want vs H Q E →
      ∃ t, PSs (cxOf CX' P w K mg base names qu (defScope row) at0 code A outer sh H E) (defBody row) t ∧ t { nx := fun _ H' => Q .non H', rt := Q } (start names vs) H) : FnOk P w K mg base CX' (lev + 1) at0 fd pars want := by
  obtain ⟨_, _, _, _, _, _, code, _, _, rfl, there, isCode⟩ := F.ex
  exact fn_of there isCode S len (body code)
/-- X('..') of an own class, for a raise .. from None -/
theorem pmk5_own {X : Cx} {C : Addr} {bmB : List Value} {B newId initId : String} {x m : Str} {j : Nat} {p p2 pos : Pos} (F : ExcBaseFacts B newId initId bmB) (q : PySem.W.excIn X.K C bmB newId = true) (gC : X.mg x = some (.ref C)) (kC : PySem.W.keepIn X.K (.ref C) = true) (r : Raises X (.ref C)) (hg : Gl X x)
    (plain : (x == ("__debug__" : Str)) = false := by decide) : L2H.PMk5 X (.Call (.Name x p) [.Constant (.str m) j p2] [] pos) (fun _ H Q => Q (.ref C) none H) := by
  intro pins sh st H Q iv want
  have arg : PA X [.Constant (.str m) j p2] (tCons (tC (.str m)) tNil) := pa_cons pe_str pa_nil
  refine wpAny_Call_Name_kw (ld_glob iv hg gC (PySem.W.callWith_K (h₀ := X.base) iv.ok.mod.kin kC (thn (arg.run pos pins sh st H (fun vs H1 => vs = [V.str m] ∧ H = H1) iv ⟨rfl, rfl⟩) ?_)) plain)
  rintro us sh1 ⟨vs, H1, iv1, rel, rfl, rfl⟩
  refine ⟨iv1.kIn, ?_⟩
  match us, rel with
  | [u], .cons _ .nil =>
    show wpAny _ _ (call (.ref C) [u]) _ _ _
    obtain ⟨_, _, _, _, _, _, _, _, _, _, _, _, _, _, _, _, _, hC, hN, hni, T⟩ := exc_obj iv1.kIn q
    exact wpAny_call_exc_subT F T hC hN hni (fun h' e made => L2H.mk_of5 iv1 made r want (iv1.hok.gone made.new)) (by show 1 ≤ sizeLine; decide)
/-- try: .. except x: suite, the suite raising: ps_try_onlyX with its reading under a name, for a loop around it -/
def tTryX (K : PySem.W.Frag) (c : Value) (ts : Addr → Value → Option Addr → TS) (Wout : WX) (tb : WX → TS) : TS := fun D st H => tb (wOnly K c ts Wout D) D st H
theorem ps_tryX {X : Cx} {x : Str} {c : Value} {body suite : List Stmt} {first : Stmt} {np pos pos' : Pos} {tb : WX → TS} {ts : Addr → Value → Option Addr → TS} {Wout : WX} (h1 : X.stack = X.env :: X.outer) (h2 : X.env.frame = some X.env.locals) (h3 : Names X x c)
    (h4 : ∀ hd : Option Value, PassesOwnAt (model X.prog X.w) (X.A.mark hd) X.A X.env X.xe) (h5 : L2.Takes X Wout)
    (h6 : ∀ (W : WX) (pn : List (Addr × Obj)) (xe : Value → Shared → Prop), L2N.Takes (X.tr pn xe) W → L2.Takes (X.tr pn xe) (L2H.wPass X.K c Wout) → PassesOwn (model X.prog X.w) X.A X.env xe → PSs (X.tr pn xe) body (tb W))
    (h7 : ∀ (a : Addr) (oe : Obj) (cls : Value) (d : Option Addr) (pn : List (Addr × Obj)), L2N.Zn cls d oe → (∃ vs, oe.data = .fields vs) → L2.Takes (L2H.suiteX X a ((a, oe) :: pn)) Wout → L2H.HotC (L2H.suiteX X a ((a, oe) :: pn)) → PSs (L2H.suiteX X a ((a, oe) :: pn)) (first :: suite) (ts a cls d)) :
    PS X (.Try body [.ExceptHandler (some (.Name x np)) none (first :: suite) pos'] [] [] pos) (tTryX X.K c ts Wout tb) := L2H.ps_try_onlyX h1 h2 h3 h4 h5 h6 h7
end L2
namespace HT
open PySem L2
/-- a test whose ways are joined by a statement of the heap -/
def tMidT (t : TT) : TT := fun σ H Q => ∃ M : Bool → Hp → Prop, t σ H M ∧ ∀ b H', M b H' → Q b H'
def tMidE (t : TE) : TE := fun σ H Q => ∃ M : V → Hp → Prop, t σ H M ∧ ∀ v H', M v H' → Q v H'
def tMidS (t : TS) : TS := fun D σ H => ∃ M : St → Hp → Prop, t { D with nx := M } σ H ∧ ∀ σ' H', M σ' H' → D.nx σ' H'
theorem pt_mid {X : Cx} {e : Expr} {t : TT} (h : PT X e t) : PT X e (tMidT t) :=
  ⟨fun pins s σ H _ I ⟨M, a, b⟩ => thn (h.run pins s σ H M I a) fun c _ ⟨H1, I1, q1⟩ => ⟨H1, I1, b c H1 q1⟩⟩
theorem pe_mid {X : Cx} {e : Expr} {t : TE} (h : PE X e t) : PE X e (tMidE t) :=
  ⟨fun pins s σ H _ I ⟨M, a, b⟩ => thn (h.run pins s σ H M I a) fun _ _ ⟨v, H1, I1, r, q1⟩ => ⟨v, H1, I1, r, b v H1 q1⟩⟩
theorem ps_mid {X : Cx} {st : Stmt} {t : TS} (h : PS X st t) : PS X st (tMidS t) :=
  ⟨fun pins s σ H D I ⟨M, a, b⟩ => thn (h.run pins s σ H { D with nx := M } I a) fun f _ q => by
    cases f with
    | next => obtain ⟨σ', H', I', q⟩ := q; exact ⟨σ', H', I', b σ' H' q⟩
    | brk => exact q
    | cont => exact q
    | ret v => exact q⟩
end HT
namespace HT
open PySem L2
def top (i : Nat) : Stmt := PySem.Challenge.pw_handedtext_k52_doors_of_limits.main.body.getD i (.Pass ⟨0, 0, 0, 0⟩)
abbrev s_is_int : Stmt := top 9
abbrev s_is_int_between : Stmt := top 10
abbrev s_check_value : Stmt := top 11
abbrev s_check_side : Stmt := top 15
abbrev s_is_side : Stmt := top 16
abbrev s_figure : Stmt := top 17
abbrev s_goes_up : Stmt := top 18
abbrev s_written : Stmt := top 19
abbrev s_span : Stmt := top 20
abbrev s_uspan : Stmt := top 21
abbrev s_below : Stmt := top 22
abbrev s_threshold : Stmt := top 23
abbrev s_mirror : Stmt := top 24
abbrev s_check_sides : Stmt := top 27
abbrev s_period_of : Stmt := top 28
abbrev s_common_period : Stmt := top 29
abbrev s_highest : Stmt := top 30
abbrev s_mirrors : Stmt := top 31
abbrev s_first_hit : Stmt := top 33
abbrev s_first_between : Stmt := top 34
abbrev s_unraised : Stmt := top 36
abbrev s_settled : Stmt := top 38
abbrev s_pace : Stmt := top 39
abbrev s_creep : Stmt := top 40
abbrev s_wide_and_narrow : Stmt := top 41
abbrev s_rounds_up : Stmt := top 42
abbrev s_settled_on_wide : Stmt := top 43
abbrev s_settled_on_narrow : Stmt := top 44
abbrev s_unneeded : Stmt := top 47
abbrev s_within : Stmt := top 54
abbrev s_highest_within : Stmt := top 55
abbrev s_continued : Stmt := top 56
abbrev s_meeting : Stmt := top 57
abbrev s_way_to : Stmt := top 58
abbrev s_fewest_places : Stmt := top 59
abbrev s_L_source : Stmt := top 61
abbrev s_L_draw : Stmt := top 62
abbrev s_L_pick : Stmt := top 63
abbrev s_L_great : Stmt := top 64
abbrev s_L_side : Stmt := top 65
abbrev s_L_asked : Stmt := top 66
abbrev s_L_word : Stmt := top 67
abbrev s_L_is_side : Stmt := top 68
abbrev s_L_bent : Stmt := top 69
abbrev s_L_two_fit : Stmt := top 70
abbrev s_L_lists_fit : Stmt := top 71
abbrev s_law : Stmt := top 72
/- is_int: 0:thing -/
theorem sc_is_int : FnScope ["thing"] ["thing"] (defScope s_is_int) := ⟨rfl, rfl, rfl, by decide +kernel, rfl, by decide +kernel, by decide +kernel⟩
/- is_int_between: 0:thing 1:least 2:most -/
theorem sc_is_int_between : FnScope ["thing", "least", "most"] ["thing", "least", "most"] (defScope s_is_int_between) := ⟨rfl, rfl, rfl, by decide +kernel, rfl, by decide +kernel, by decide +kernel⟩
/- check_value: 0:value -/
theorem sc_check_value : FnScope ["value"] ["value"] (defScope s_check_value) := ⟨rfl, rfl, rfl, by decide +kernel, rfl, by decide +kernel, by decide +kernel⟩
/- check_side: 0:side 1:offset 2:step 3:mode -/
theorem sc_check_side : FnScope ["side", "offset", "step", "mode"] ["side"] (defScope s_check_side) := ⟨rfl, rfl, rfl, by decide +kernel, rfl, by decide +kernel, by decide +kernel⟩
/- is_side: 0:thing -/
theorem sc_is_side : FnScope ["thing"] ["thing"] (defScope s_is_side) := ⟨rfl, rfl, rfl, by decide +kernel, rfl, by decide +kernel, by decide +kernel⟩
/- _figure: 0:side 1:value 2:offset 3:step 4:mode 5:figure 6:rest -/
theorem sc_figure : FnScope ["side", "value", "offset", "step", "mode", "figure", "rest"] ["side", "value"] (defScope s_figure) := ⟨rfl, rfl, rfl, by decide +kernel, rfl, by decide +kernel, by decide +kernel⟩
/- _goes_up: 0:mode 1:step 2:figure 3:rest -/
theorem sc_goes_up : FnScope ["mode", "step", "figure", "rest"] ["mode", "step", "figure", "rest"] (defScope s_goes_up) := ⟨rfl, rfl, rfl, by decide +kernel, rfl, by decide +kernel, by decide +kernel⟩
/- written: 0:side 1:value 2:offset 3:step 4:_ -/
theorem sc_written : FnScope ["side", "value", "offset", "step", "_"] ["side", "value"] (defScope s_written) := ⟨rfl, rfl, rfl, by decide +kernel, rfl, by decide +kernel, by decide +kernel⟩
/- span: 0:side 1:figure -/
theorem sc_span : FnScope ["side", "figure"] ["side", "figure"] (defScope s_span) := ⟨rfl, rfl, rfl, by decide +kernel, rfl, by decide +kernel, by decide +kernel⟩
/- _span: 0:side 1:figure 2:offset 3:step 4:mode 5:value -/
theorem sc_uspan : FnScope ["side", "figure", "offset", "step", "mode", "value"] ["side", "figure"] (defScope s_uspan) := ⟨rfl, rfl, rfl, by decide +kernel, rfl, by decide +kernel, by decide +kernel⟩
/- _below: 0:mode 1:step 2:figure -/
theorem sc_below : FnScope ["mode", "step", "figure"] ["mode", "step", "figure"] (defScope s_below) := ⟨rfl, rfl, rfl, by decide +kernel, rfl, by decide +kernel, by decide +kernel⟩
/- threshold: 0:side 1:value 2:offset 3:step 4:mode 5:figure -/
theorem sc_threshold : FnScope ["side", "value", "offset", "step", "mode", "figure"] ["side", "value"] (defScope s_threshold) := ⟨rfl, rfl, rfl, by decide +kernel, rfl, by decide +kernel, by decide +kernel⟩
/- mirror: 0:side 1:offset 2:step 3:mode -/
theorem sc_mirror : FnScope ["side", "offset", "step", "mode"] ["side"] (defScope s_mirror) := ⟨rfl, rfl, rfl, by decide +kernel, rfl, by decide +kernel, by decide +kernel⟩
/- check_sides: 0:sides 1:side -/
theorem sc_check_sides : FnScope ["sides", "side"] ["sides"] (defScope s_check_sides) := ⟨rfl, rfl, rfl, by decide +kernel, rfl, by decide +kernel, by decide +kernel⟩
/- period_of: 0:side 1:_ 2:step 3:mode -/
theorem sc_period_of : FnScope ["side", "_", "step", "mode"] ["side"] (defScope s_period_of) := ⟨rfl, rfl, rfl, by decide +kernel, rfl, by decide +kernel, by decide +kernel⟩
/- common_period: 0:sides 1:many 2:side -/
theorem sc_common_period : FnScope ["sides", "many", "side"] ["sides"] (defScope s_common_period) := ⟨rfl, rfl, rfl, by decide +kernel, rfl, by decide +kernel, by decide +kernel⟩
/- highest: 0:sides 1:value 2:side -/
theorem sc_highest : FnScope ["sides", "value", "side"] ["sides", "value"] (defScope s_highest) := ⟨rfl, rfl, rfl, by decide +kernel, rfl, by decide +kernel, by decide +kernel⟩
/- mirrors: 0:sides 1:side -/
theorem sc_mirrors : FnScope ["sides", "side"] ["sides"] (defScope s_mirrors) := ⟨rfl, rfl, rfl, by decide +kernel, rfl, by decide +kernel, by decide +kernel⟩
/- first_hit: 0:start 1:step 2:most 3:modulus 4:least 5:greatest -/
theorem sc_first_hit : FnScope ["start", "step", "most", "modulus", "least", "greatest"] ["start", "step", "most", "modulus"] (defScope s_first_hit) := ⟨rfl, rfl, rfl, by decide +kernel, rfl, by decide +kernel, by decide +kernel⟩
/- _first_between: 0:step 1:least 2:greatest 3:modulus 4:many 5:rounds -/
theorem sc_first_between : FnScope ["step", "least", "greatest", "modulus", "many", "rounds"] ["step", "least", "greatest", "modulus"] (defScope s_first_between) := ⟨rfl, rfl, rfl, by decide +kernel, rfl, by decide +kernel, by decide +kernel⟩
/- unraised: 0:side 1:least 2:offset 3:step 4:_ 5:period 6:blocks 7:figure 8:low 9:high 10:start -/
theorem sc_unraised : FnScope ["side", "least", "offset", "step", "_", "period", "blocks", "figure", "low", "high", "start"] ["side", "least"] (defScope s_unraised) := ⟨rfl, rfl, rfl, by decide +kernel, rfl, by decide +kernel, by decide +kernel⟩
/- settled: 0:first 1:second 2:value 3:creep 4:start 5:end 6:rounds -/
theorem sc_settled : FnScope ["first", "second", "value", "creep", "start", "end", "rounds"] ["first", "second", "value"] (defScope s_settled) := ⟨rfl, rfl, rfl, by decide +kernel, rfl, by decide +kernel, by decide +kernel⟩
/- pace: 0:first 1:second -/
theorem sc_pace : FnScope ["first", "second"] ["first", "second"] (defScope s_pace) := ⟨rfl, rfl, rfl, by decide +kernel, rfl, by decide +kernel, by decide +kernel⟩
/- _creep: 0:first 1:second 2:wide 3:narrow 4:offset 5:step 6:_ -/
theorem sc_creep : FnScope ["first", "second", "wide", "narrow", "offset", "step", "_"] ["first", "second"] (defScope s_creep) := ⟨rfl, rfl, rfl, by decide +kernel, rfl, by decide +kernel, by decide +kernel⟩
/- wide_and_narrow: 0:first 1:second -/
theorem sc_wide_and_narrow : FnScope ["first", "second"] ["first", "second"] (defScope s_wide_and_narrow) := ⟨rfl, rfl, rfl, by decide +kernel, rfl, by decide +kernel, by decide +kernel⟩
/- rounds_up: 0:wide 1:narrow 2:value 3:_ 4:step 5:turns 6:found 7:turn 8:place 9:least 10:start 11:most 12:period 13:many -/
theorem sc_rounds_up : FnScope ["wide", "narrow", "value", "_", "step", "turns", "found", "turn", "place", "least", "start", "most", "period", "many"] ["wide", "narrow", "value"] (defScope s_rounds_up) := ⟨rfl, rfl, rfl, by decide +kernel, rfl, by decide +kernel, by decide +kernel⟩
/- _settled_on_wide: 0:wide 1:narrow 2:value 3:_ 4:step 5:rounds -/
theorem sc_settled_on_wide : FnScope ["wide", "narrow", "value", "_", "step", "rounds"] ["wide", "narrow", "value"] (defScope s_settled_on_wide) := ⟨rfl, rfl, rfl, by decide +kernel, rfl, by decide +kernel, by decide +kernel⟩
/- _settled_on_narrow: 0:narrow 1:wide 2:value 3:_ 4:step 5:start 6:there 7:rounds 8:end -/
theorem sc_settled_on_narrow : FnScope ["narrow", "wide", "value", "_", "step", "start", "there", "rounds", "end"] ["narrow", "wide", "value"] (defScope s_settled_on_narrow) := ⟨rfl, rfl, rfl, by decide +kernel, rfl, by decide +kernel, by decide +kernel⟩
/- unneeded: 0:sides 1:many 2:needed 3:value 4:side 5:worths 6:number 7:worth 8:raising 9:lowering 10:numbers -/
theorem sc_unneeded : FnScope ["sides", "many", "needed", "value", "side", "worths", "number", "worth", "raising", "lowering", "numbers"] ["sides"] (defScope s_unneeded) := ⟨rfl, rfl, rfl, by decide +kernel, rfl, by decide +kernel, by decide +kernel⟩
/- within: 0:sides 1:value 2:many 3:greatest -/
theorem sc_within : FnScope ["sides", "value", "many", "greatest"] ["sides", "value", "many"] (defScope s_within) := ⟨rfl, rfl, rfl, by decide +kernel, rfl, by decide +kernel, by decide +kernel⟩
/- _highest_within: 0:sides 1:value 2:many 3:period 4:values 5:numbers 6:number 7:place -/
theorem sc_highest_within : FnScope ["sides", "value", "many", "period", "values", "numbers", "number", "place"] ["sides", "value", "many"] (defScope s_highest_within) := ⟨rfl, rfl, rfl, by decide +kernel, rfl, by decide +kernel, by decide +kernel⟩
/- _continued: 0:values 1:following 2:many 3:rounds 4:number -/
theorem sc_continued : FnScope ["values", "following", "many", "rounds", "number"] ["values", "following", "many"] (defScope s_continued) := ⟨rfl, rfl, rfl, by decide +kernel, rfl, by decide +kernel, by decide +kernel⟩
/- meeting: 0:sides 1:one 2:other 3:period 4:pairs 5:ways 6:at 7:low 8:apart 9:number 10:side 11:there 12:pair -/
theorem sc_meeting : FnScope ["sides", "one", "other", "period", "pairs", "ways", "at", "low", "apart", "number", "side", "there", "pair"] ["sides", "one", "other"] (defScope s_meeting) := ⟨rfl, rfl, rfl, by decide +kernel, rfl, by decide +kernel, by decide +kernel⟩
/- _way_to: 0:ways 1:pair 2:numbers 3:way 4:number -/
theorem sc_way_to : FnScope ["ways", "pair", "numbers", "way", "number"] ["ways", "pair"] (defScope s_way_to) := ⟨rfl, rfl, rfl, by decide +kernel, rfl, by decide +kernel, by decide +kernel⟩
/- fewest_places: 0:sides 1:side 2:offset 3:step 4:mode 5:places -/
theorem sc_fewest_places : FnScope ["sides", "side", "offset", "step", "mode", "places"] ["sides", "side"] (defScope s_fewest_places) := ⟨rfl, rfl, rfl, by decide +kernel, rfl, by decide +kernel, by decide +kernel⟩
/- _law_source: 0:_law_script 1:_law_cells 2:_law_k -/
theorem sc_L_source : FnScope ["_law_script", "_law_cells", "_law_k"] ["_law_script"] (defScope s_L_source) := ⟨rfl, rfl, rfl, by decide +kernel, rfl, by decide +kernel, by decide +kernel⟩
/- _law_draw: 0:_law_source_here 1:_law_limit 2:_law_cells 3:_law_turn 4:_law_place 5:_law_cell 6:_law_number -/
theorem sc_L_draw : FnScope ["_law_source_here", "_law_limit", "_law_cells", "_law_turn", "_law_place", "_law_cell", "_law_number"] ["_law_source_here", "_law_limit"] (defScope s_L_draw) := ⟨rfl, rfl, rfl, by decide +kernel, rfl, by decide +kernel, by decide +kernel⟩
/- _law_pick: 0:_law_source_here 1:_law_values -/
theorem sc_L_pick : FnScope ["_law_source_here", "_law_values"] ["_law_source_here", "_law_values"] (defScope s_L_pick) := ⟨rfl, rfl, rfl, by decide +kernel, rfl, by decide +kernel, by decide +kernel⟩
/- _law_great: 0:_law_source_here 1:_law_digits 2:_law_number 3:_law_k -/
theorem sc_L_great : FnScope ["_law_source_here", "_law_digits", "_law_number", "_law_k"] ["_law_source_here", "_law_digits"] (defScope s_L_great) := ⟨rfl, rfl, rfl, by decide +kernel, rfl, by decide +kernel, by decide +kernel⟩
/- _law_side: 0:_law_source_here 1:_law_digits 2:_law_step 3:_law_offset -/
theorem sc_L_side : FnScope ["_law_source_here", "_law_digits", "_law_step", "_law_offset"] ["_law_source_here", "_law_digits"] (defScope s_L_side) := ⟨rfl, rfl, rfl, by decide +kernel, rfl, by decide +kernel, by decide +kernel⟩
/- _law_asked: 0:_law_way 1:_law_parts 2:_law_one 3:_law_other 4:_law_left 5:_law_right 6:_law_many -/
theorem sc_L_asked : FnScope ["_law_way", "_law_parts", "_law_one", "_law_other", "_law_left", "_law_right", "_law_many"] ["_law_way", "_law_parts"] (defScope s_L_asked) := ⟨rfl, rfl, rfl, by decide +kernel, rfl, by decide +kernel, by decide +kernel⟩
/- _law_word: 0:_law_way 1:_law_parts 2:_law_caught 3:e 4:_law_hits -/
theorem sc_L_word : FnScope ["_law_way", "_law_parts", "_law_caught", "e", "_law_hits"] ["_law_way", "_law_parts"] (defScope s_L_word) := ⟨rfl, rfl, rfl, by decide +kernel, rfl, by decide +kernel, by decide +kernel⟩
/- _law_is_side: 0:_law_value 1:_law_caught 2:e -/
theorem sc_L_is_side : FnScope ["_law_value", "_law_caught", "e"] ["_law_value"] (defScope s_L_is_side) := ⟨rfl, rfl, rfl, by decide +kernel, rfl, by decide +kernel, by decide +kernel⟩
/- _law_bent: 0:_law_source_here 1:_law_one 2:_law_odd 3:_law_at 4:_law_some -/
theorem sc_L_bent : FnScope ["_law_source_here", "_law_one", "_law_odd", "_law_at", "_law_some"] ["_law_source_here", "_law_one"] (defScope s_L_bent) := ⟨rfl, rfl, rfl, by decide +kernel, rfl, by decide +kernel, by decide +kernel⟩
/- _law_two_fit: 0:_law_source_here 1:_law_one 2:_law_other 3:_law_bent_here 4:_law_due 5:_law_left 6:_law_right 7:_law_wish 8:_law_way 9:_law_bad 10:_law_words -/
theorem sc_L_two_fit : FnScope ["_law_source_here", "_law_one", "_law_other", "_law_bent_here", "_law_due", "_law_left", "_law_right", "_law_wish", "_law_way", "_law_bad", "_law_words"] ["_law_source_here", "_law_one", "_law_other", "_law_bent_here"] (defScope s_L_two_fit) := ⟨rfl, rfl, rfl, by decide +kernel, rfl, by decide +kernel, by decide +kernel⟩
/- _law_lists_fit: 0:_law_source_here 1:_law_one 2:_law_bent_here 3:_law_small 4:_law_due 5:_law_sides 6:_law_value 7:_law_way 8:_law_bad 9:_law_words 10:_law_wide -/
theorem sc_L_lists_fit : FnScope ["_law_source_here", "_law_one", "_law_bent_here", "_law_small", "_law_due", "_law_sides", "_law_value", "_law_way", "_law_bad", "_law_words", "_law_wide"] ["_law_source_here", "_law_one", "_law_bent_here"] (defScope s_L_lists_fit) := ⟨rfl, rfl, rfl, by decide +kernel, rfl, by decide +kernel, by decide +kernel⟩
/- law: 0:_law_script 1:_law_source_here 2:_law_turn 3:_law_one 4:_law_other 5:_law_bent_here 6:_law_rows 7:_law_sides 8:_law_value 9:_law_wish 10:_law_step 11:_law_found -/
theorem sc_law : FnScope ["_law_script", "_law_source_here", "_law_turn", "_law_one", "_law_other", "_law_bent_here", "_law_rows", "_law_sides", "_law_value", "_law_wish", "_law_step", "_law_found"] ["_law_script"] (defScope s_law) := ⟨rfl, rfl, rfl, by decide +kernel, rfl, by decide +kernel, by decide +kernel⟩

end HT
namespace L2
open PySem PySem.Spec PyProof.Rows
/-- powers of great numbers -/
def CPowW (i j : Int) : Prop := 0 ≤ j ∧ (Builtin.Int.intBits i : Int) * j ≤ 2 ^ 27
theorem op_powW {X : Cx} : OpR X (binaryOp .Pow) (rI CPowW fun i j => .int (i ^ j.toNat)) := opI fun _ _ _ _ _ _ _ hc q => pow_int hc.1 hc.2 q
end L2
namespace HT
open PySem L2
/-- the law's source of draws: a list of its cells' list and the turn -/
structure Src (H : Hp) (a c : Addr) (t : Nat) : Prop where
  ne : a ≠ c
  ob : H a = some (.lst [.ref c, .int (t : Int)])
  cl : ∃ cs : List Int, H c = some (.lst (cs.map V.int)) ∧ 0 < cs.length ∧ cs.length ≤ 63
/-- nothing else is touched -/
def Oth (a c : Addr) (H H' : Hp) : Prop := ∀ b o, H b = some o → b ≠ a → b ≠ c → H' b = some o
theorem Oth.refl (a c : Addr) (H : Hp) : Oth a c H H := fun _ _ h _ _ => h
theorem Oth.trans {a c : Addr} {H H1 H2 : Hp} (x : Oth a c H H1) (y : Oth a c H1 H2) : Oth a c H H2 := fun b o h n m => y b o (x b o h n m) n m
theorem Oth.new {a c p : Addr} {H H1 : Hp} {o : HO} (x : Oth a c H H1) (n : H1 p = none) : Oth a c H (upd H1 p o) := fun b u h na nc => by
  rw [upd_ne (ne_of_none (x b u h na nc) n)]
  exact x b u h na nc
theorem Src.new {a c p : Addr} {H : Hp} {t : Nat} {o : HO} (S : Src H a c t) (n : H p = none) : Src (upd H p o) a c t := by
  obtain ⟨cs, h, l⟩ := S.cl
  exact ⟨S.ne, by rw [upd_ne (ne_of_none S.ob n)]; exact S.ob, cs, by rw [upd_ne (ne_of_none h n)]; exact h, l⟩
theorem Src.of_same {a c : Addr} {H H' : Hp} {t : Nat} (S : Src H a c t) (e : Same H H') : Src H' a c t := by
  obtain ⟨cs, h, l⟩ := S.cl
  exact ⟨S.ne, e _ _ S.ob, cs, e _ _ h, l⟩
theorem Src.na {a c p : Addr} {H : Hp} {t : Nat} (S : Src H a c t) (n : H p = none) : p ≠ a ∧ p ≠ c := by
  obtain ⟨cs, h, l⟩ := S.cl
  exact ⟨(ne_of_none S.ob n).symm, (ne_of_none h n).symm⟩
theorem Src.nt {a c p : Addr} {H : Hp} {t : Nat} {xs : List V} (S : Src H a c t) (n : H p = some (.tup xs)) : p ≠ a ∧ p ≠ c := by
  obtain ⟨cs, h, l⟩ := S.cl
  exact ⟨ne_of n S.ob (by intro z; cases z), ne_of n h (by intro z; cases z)⟩
def spSource (K : PySem.W.Frag) : Sp := fun vs H Q _ => ∃ (l : Addr) (ns : List Int), vs = [.ref l] ∧ SqL K H l (ns.map V.int) ∧ ns.length ≤ 63 ∧
  ∀ a c H', Same H H' → H a = none → H c = none → Src H' a c 0 → Q (.ref a) H'
def spDraw : Sp := fun vs H Q _ => ∃ (a c : Addr) (t : Nat) (lim : Int), vs = [.ref a, .int lim] ∧ Src H a c t ∧ t < 2 ^ 30 ∧ 0 < lim ∧ lim.natAbs.log2 < 9000 ∧
  ∀ k H', 0 ≤ k → k < lim → Src H' a c (t + 1) → Oth a c H H' → Q (.int k) H'
/-- what the walk asks of the names that the text does not bind -/
structure Blt (mg : Str → Option Value) : Prop where
  len : mg "len" = none
  abs : mg "abs" = none
  int : mg "int" = none
  range : mg "range" = none
section
variable {P : Program} {w : World} {K : PySem.W.Frag} {mg : Str → Option Value} {base : Heap}
theorem fdiv_ok (i : Int) {j : Int} (h : 0 < j) (h9 : j.natAbs.log2 < 9000) : CDivW i j := ⟨h, h9⟩
theorem atI_in {xs : List Int} {i : Int} (h0 : 0 ≤ i) (h : i < (xs.length : Int)) : atI (xs.map V.int) i = some (.int (xs.getD i.toNat 0)) := by
  have e : ixN (xs.map V.int).length i = some i.toNat := by
    unfold ixN
    rw [List.length_map, if_pos h0, if_pos h]
  unfold atI
  rw [e]
  show (xs.map V.int)[i.toNat]? = _
  have hl : i.toNat < xs.length := by omega
  rw [List.getElem?_map, List.getElem?_eq_getElem hl, List.getD_eq_getElem?_getD, List.getElem?_eq_getElem hl]
  rfl
theorem ixN_in {n : Nat} {i : Int} (h0 : 0 ≤ i) (h : i < (n : Int)) : ixN n i = some i.toNat := by
  unfold ixN
  rw [if_pos h0, if_pos h]
theorem b_mod (x : Int) : -(2 ^ 64) < x % 2147483629 ∧ x % 2147483629 < 2 ^ 64 := by omega
theorem b_mod1 (x : Int) : -(2 ^ 64) < x % 2147483647 ∧ x % 2147483647 < 2 ^ 64 := by omega
theorem b_t {t : Nat} (h : t < 2 ^ 30) : -(2 ^ 64) < (t : Int) ∧ (t : Int) < 2 ^ 64 := by omega
theorem b_tt {t : Nat} (h : t < 2 ^ 30) : -(2 ^ 64) < (t : Int) * t ∧ (t : Int) * t < 2 ^ 64 := by
  have h1 : t * t < 2 ^ 30 * 2 ^ 30 := Nat.mul_lt_mul'' h h
  have h2 : ((t * t : Nat) : Int) = (t : Int) * t := Int.natCast_mul t t
  omega
theorem set_ints (xs : List Int) (j : Nat) (y : Int) : (xs.map V.int).set j (.int y) = (xs.set j y).map V.int := by
  rw [List.map_set]
theorem ok_draw {f : Addr} {fd : FuncData} (F : Fun K "_law_draw" "_law_draw" s_L_draw f fd) (B : Blt mg) : FnOk P w K mg base CX0 1 f fd ["_law_source_here", "_law_limit"] spDraw := by
  refine F.ok sc_L_draw (fun vs H Q E h => ?_) (fun cdv A outer s H vs Q E hr h => ?_)
  · obtain ⟨a, c, t, lim, rfl, _⟩ := h
    rfl
  · obtain ⟨a, c, t, lim, rfl, S, ht, hl0, hl9, q⟩ := h
    obtain ⟨cs, hc, hn0, hn⟩ := S.cl
    have nd := sc_L_draw.nd
    refine ⟨_, pss_cons (ps_asg (pv 0) (pg_unl (n := 2) (by rfl) (pgs_cons (pg_name (i := 2) nd rfl (Or.inl rfl)) (pgs_cons (pg_name (i := 3) nd rfl (Or.inl rfl)) pgs_nil))))
      (pss_cons (ps_set (i := 4) nd rfl (Or.inl rfl) (pe_op op_mod (pe_callTy call_int1 (by rfl) B.int (by decide +kernel) (pa_cons (pv 3) pa_nil)) (pe_callB call_len_seq (by rfl) B.len PySem.boot_len (pa_cons (pv 2) pa_nil))))
      (pss_cons (ps_set (i := 5) nd rfl (Or.inl rfl) (pe_ix ix_list (pv 2) (pv 4) (fun _ _ => rfl)))
      (pss_cons (ps_asg (pe_op op_add (pv 3) pe_int) (pg_sub (pv 0) pe_int set_list))
      (pss_cons (ps_if (pt_cmpR op_ge (pv 5) (pe_op op_pow pe_int pe_int) (nomark _))
        (pss_cons (ps_asg (pe_op op_fdivW (pv 5) (pv 1)) (pg_sub (pv 2) (pv 4) set_list))
          (pss_one (ps_ret (pe_op op_mod (pe_callTy call_int1 (by rfl) B.int (by decide +kernel) (pa_cons (pv 5) pa_nil)) (pv 1))))) pss_nil)
      (pss_cons (ps_set (i := 6) nd rfl (Or.inl rfl) (pe_op op_mod (pe_callTy call_int1 (by rfl) B.int (by decide +kernel) (pa_cons
          (pe_op op_add (pe_op op_add (pe_op op_mul (pe_op op_mod (pe_callTy call_int1 (by rfl) B.int (by decide +kernel) (pa_cons (pv 5) pa_nil)) pe_int) pe_int) (pe_op op_mul (pe_op op_mul (pv 3) (pv 3)) pe_int)) pe_int) pa_nil)) pe_int))
      (pss_cons (ps_set (i := 6) nd rfl (Or.inl rfl) (pe_op op_mod (pe_callTy call_int1 (by rfl) B.int (by decide +kernel) (pa_cons (pe_op op_mul (pv 6) (pv 6)) pa_nil)) pe_int))
      (pss_cons (ps_set (i := 6) nd rfl (Or.inl rfl) (pe_op op_mod (pe_callTy call_int1 (by rfl) B.int (by decide +kernel) (pa_cons (pe_op op_mul (pv 6) (pv 6)) pa_nil)) pe_int))
      (pss_one (ps_ret (pe_op op_mod (pe_callTy call_int1 (by rfl) B.int (by decide +kernel) (pa_cons (pv 6) pa_nil)) (pv 1))))))))))), ?_⟩
    -- _law_cells, _law_turn = _law_source_here
    walk_at "rd"
    refine ⟨a, _, rfl, SqL.of S.ob, rfl, _, _, rfl, _, _, rfl, rfl, ?_⟩
    -- _law_place
    walk_at "rd"
    have hn0' : (0 : Int) < ((cs.map V.int).length : Nat) := by rw [List.length_map]; omega
    refine ⟨c, _, rfl, .inl (SqL.of hc), _, _, rfl, rfl, hn0', ?_⟩
    have hp0 : 0 ≤ (t : Int) % ((cs.map V.int).length : Nat) := Int.emod_nonneg _ (by omega)
    have hp1 : (t : Int) % ((cs.map V.int).length : Nat) < ((cs.map V.int).length : Nat) := Int.emod_lt_of_pos _ hn0'
    have hp1' : (t : Int) % ((cs.map V.int).length : Nat) < (cs.length : Int) := by rw [List.length_map] at hp1 ⊢; exact hp1
    -- _law_cell
    walk_at "rd"
    refine ⟨c, _, _, _, rfl, rfl, SqL.of hc, atI_in hp0 hp1', ?_⟩
    -- _law_source_here[1] = _law_turn + 1
    walk_at "rd"
    refine ⟨a, _, 1, 1, rfl, rfl, S.ob, rfl, ?_⟩
    have S1 : Src (upd H a (.lst ([V.ref c, V.int t].set 1 (.int ((t : Int) + 1))))) a c (t + 1) := ⟨S.ne, by rw [upd_same]; rfl, cs, by rw [upd_ne S.ne.symm]; exact hc, hn0, hn⟩
    have O1 : Oth a c H (upd H a (.lst ([V.ref c, V.int t].set 1 (.int ((t : Int) + 1))))) := fun b o h na _ => by rw [upd_ne na]; exact h
    have hc1 : upd H a (.lst ([V.ref c, V.int t].set 1 (.int ((t : Int) + 1)))) c = some (.lst (cs.map V.int)) := by rw [upd_ne S.ne.symm]; exact hc
    generalize upd H a (.lst ([V.ref c, V.int t].set 1 (.int ((t : Int) + 1)))) = H1 at S1 O1 hc1 ⊢
    -- if _law_cell >= 10 ** 18
    walk_at "rd"
    refine ⟨⟨by decide, by decide, by decide⟩, ?_⟩
    walk_at "rd"
    refine ite2 (fun _ => ?_) (fun _ => ?_)
    · walk_at "rd"
      refine ⟨fdiv_ok _ hl0 hl9, ?_⟩
      walk_at "rd"
      refine ⟨c, _, _, _, rfl, rfl, hc1, ixN_in hp0 hp1, ?_⟩
      walk_at "rd"
      refine ⟨hl0, ?_⟩
      rw [set_ints]
      refine q _ _ (Int.emod_nonneg _ (by omega)) (Int.emod_lt_of_pos _ hl0) ⟨S1.ne, by rw [upd_ne S1.ne]; exact S1.ob, _, upd_same, by rw [List.length_set]; exact hn0, by rw [List.length_set]; exact hn⟩ fun b o h na nc => ?_
      rw [upd_ne nc]
      exact O1 b o h na nc
    · walk_at "rd"
      refine ⟨(by show (0 : Int) < 2147483629; decide), ?_⟩
      walk_at "rd"
      refine ⟨.inl (b_mod _), ?_⟩
      walk_at "rd"
      refine ⟨.inl (b_t ht), ?_⟩
      walk_at "rd"
      refine ⟨.inl (b_tt ht), ?_⟩
      walk_at "rd"
      refine ⟨(by show (0 : Int) < 2147483647; decide), ?_⟩
      walk_at "rd"
      refine ⟨.inl (b_mod1 _), ?_⟩
      walk_at "rd"
      refine ⟨(by show (0 : Int) < 2147483629; decide), ?_⟩
      walk_at "rd"
      refine ⟨.inl (b_mod _), ?_⟩
      walk_at "rd"
      refine ⟨(by show (0 : Int) < 2147483587; decide), ?_⟩
      walk_at "rd"
      refine ⟨hl0, ?_⟩
      exact q _ _ (Int.emod_nonneg _ (by omega)) (Int.emod_lt_of_pos _ hl0) S1 O1
end
end HT
namespace HT
open PySem L2
/-- a def of the text that may be called by its name, and what it promises -/
structure Cal (P : Program) (w : World) (K : PySem.W.Frag) (mg : Str → Option Value) (base : Heap) (x : Str) (k : Nat) (ps : List Str) (sp : Sp) (f : Addr) (fd : FuncData) : Prop where
  ok : FnOk P w K mg base CX0 k f fd ps sp
  gl : mg x = some (.ref f)
  kp : PySem.W.keepIn K (.ref f) = true
  bd : Binds K fd ps []
theorem pcl {X : Cx} {x : Str} {k j : Nat} {ps : List Str} {sp : Sp} {f : Addr} {fd : FuncData} {e : Expr} {es : List Expr} {t : TA} {p pos : Pos} (C : Cal X.prog X.w X.K X.mg X.base x k ps sp f fd) (hr : Room j X.A) (hj : k ≤ j) (hg : Gl X x) (ha : PA X (e :: es) t)
    (hdb : (x == ("__debug__" : Str)) = false := by decide) (he : starEach (e :: es) X.env = (false, eval e X.env) :: starEach es X.env := by rfl) (hpl : (backTo pos (starEach es X.env)).any (·.1) = false := by rfl) : PE X (.Call (.Name x p) (e :: es) [] pos) (tCall sp [] E0 t) :=
  pe_call C.ok (hr.mono hj) hg C.gl C.kp C.bd .nil pass0 ha hdb he hpl
section
variable {P : Program} {w : World} {K : PySem.W.Frag} {mg : Str → Option Value} {base : Heap}
theorem cut63 {ns : List Int} (h : ns.length ≤ 63) : cutV (ns.map V.int) none (some 63) = ns.map V.int := by
  have e1 : HT.sIx (ns.map V.int).length 0 none = 0 := rfl
  have e2 : HT.sIx (ns.map V.int).length (ns.map V.int).length (some 63) = (ns.map V.int).length := by
    have := HT.sIx_nat (ns.map V.int).length (ns.map V.int).length 63
    rw [show ((63 : Nat) : Int) = 63 from rfl] at this
    rw [this, List.length_map]
    omega
  unfold cutV
  rw [e1, e2, List.drop_zero, Nat.sub_zero, List.take_length]
theorem dpInts (H : Hp) : ∀ ns : List Int, DpAll K H (ns.map V.int) (ns.map PyData.int)
  | [] => .nil
  | n :: r => .cons (.int n) (dpInts H r)
theorem pow_ok : CPowW ((10 : Int) ^ (60 : Int).toNat) 20 := ⟨by decide, by decide +kernel⟩
theorem pow_pos' : (0 : Int) < ((10 : Int) ^ (60 : Int).toNat) ^ (20 : Int).toNat := by decide +kernel
theorem ok_source {f : Addr} {fd : FuncData} (F : Fun K "_law_source" "_law_source" s_L_source f fd) (B : Blt mg) : FnOk P w K mg base CX0 1 f fd ["_law_script"] (spSource K) := by
  refine F.ok sc_L_source (fun vs H Q E h => ?_) (fun cdv A outer s H vs Q E hr h => ?_)
  · obtain ⟨l, ns, rfl, _⟩ := h
    rfl
  · obtain ⟨l, ns, rfl, hL, hn, q⟩ := h
    have nd := sc_L_source.nd
    refine ⟨_, pss_cons (ps_set (i := 1) nd rfl (Or.inl rfl) (pe_slice sl_list (pv 0) po_none (po_some pe_int)))
      (pss_cons (ps_for PassesOwn.never rfl (pi_range1 (by rfl) B.range (pa_cons (pe_callB call_len_seq (by rfl) B.len PySem.boot_len (pa_cons (pv 1) pa_nil)) pa_nil)) (pg_name (i := 2) nd rfl (Or.inl rfl))
        (pss_one (ps_if (pt_cmpR op_ge (pe_callB call_abs (by rfl) B.abs (by decide +kernel) (pa_cons (pe_ix ix_list (pv 1) (pv 2) (fun _ _ => rfl)) pa_nil)) (pe_op op_pow pe_int pe_int) (nomark _))
          (pss_one (ps_asg (pe_op op_mod (pe_callTy call_int1 (by rfl) B.int (by decide +kernel) (pa_cons (pe_ix ix_list (pv 1) (pv 2) (fun _ _ => rfl)) pa_nil)) (pe_op op_powW (pe_op op_pow pe_int pe_int) pe_int)) (pg_sub (pv 1) (pv 2) set_list))) pss_nil)))
      (pss_cons (ps_if (pt_cmpR (op_eqD hr.units) (pv 1) (pe_lst pa_nil) (nomark _)) (pss_one (ps_set (i := 1) nd rfl (Or.inl rfl) (pe_lst (pa_cons pe_int pa_nil)))) pss_nil)
      (pss_one (ps_ret (pe_lst (pa_cons (pv 1) (pa_cons pe_int pa_nil))))))), ?_⟩
    walk_at "rd"
    refine ⟨l, _, rfl, hL, fun p np => ?_⟩
    rw [cut63 hn]
    walk_at "rd"
    refine ⟨p, _, rfl, .inl (SqL.of upd_same), _, rfl, by omega, ?_, ?_⟩
    · show ((ns.map V.int).length : Int) < 2 ^ 62
      rw [List.length_map]
      omega
    have en : ((ns.map V.int).length : Int).toNat = ns.length := by rw [List.length_map]; omega
    rw [en]
    refine for_range (fun i σ H' => ∃ (cs : List Int) (kv : Option V), σ = [some (.ref l), some (.ref p), kv] ∧ H' p = some (.lst (cs.map V.int)) ∧ cs.length = ns.length ∧ Same H H') ⟨ns, none, rfl, upd_same, rfl, fun b o e => by rw [upd_ne (ne_of_none e np)]; exact e⟩ ?_ ?_
    · rintro i σ H' hi ⟨cs, kv, rfl, hp, hl, sm⟩
      have h0 : (0 : Int) ≤ 0 + (i : Int) := by omega
      have h1 : (0 : Int) + (i : Int) < (cs.length : Int) := by omega
      walk_at "rd"
      refine ⟨p, _, _, _, rfl, rfl, SqL.of hp, atI_in h0 h1, ?_⟩
      walk_at "rd"
      refine ⟨⟨by decide, by decide, by decide⟩, ?_⟩
      walk_at "rd"
      refine ite2 (fun _ => ?_) (fun _ => ?_)
      · walk_at "rd"
        refine ⟨p, _, _, _, rfl, rfl, SqL.of hp, atI_in h0 h1, ?_⟩
        walk_at "rd"
        refine ⟨⟨by decide, by decide, by decide⟩, ?_⟩
        walk_at "rd"
        refine ⟨pow_ok, ?_⟩
        walk_at "rd"
        refine ⟨pow_pos', ?_⟩
        walk_at "rd"
        refine ⟨p, _, _, _, rfl, rfl, hp, ixN_in h0 (by rw [List.length_map]; exact h1), ?_⟩
        rw [set_ints]
        exact ⟨_, _, rfl, upd_same, by rw [List.length_set]; exact hl, fun b o e => by rw [upd_ne (ne_of_none e np)]; exact sm b o e⟩
      · exact ⟨cs, _, rfl, hp, hl, sm⟩
    · rintro σ H' ⟨cs, kv, rfl, hp, hl, sm⟩
      walk_at "rd"
      refine ⟨by decide, fun e ne => ?_⟩
      have hpe : upd H' e (.lst []) p = some (.lst (cs.map V.int)) := by rw [upd_ne (ne_of_none hp ne)]; exact hp
      have sm1 : Same H (upd H' e (.lst [])) := fun b o z => by rw [upd_ne (ne_of_none (sm b o z) ne)]; exact sm b o z
      refine ⟨_, _, .lst (SqL.of hpe) (dpInts _ cs), .lst (SqL.of upd_same) .nil, PySem.W.ke_shaped_ints cs, by decide +kernel, ?_⟩
      walk_at "rd"
      have hb : PyData.eqv (.list (cs.map PyData.int)) (.list []) = decide (cs = []) := by
        have z := PySem.W.ked_eqvAll cs []
        rw [← z]
        rfl
      rw [hb]
      refine ite2 (fun _ => ?_) (fun hne => ?_)
      · walk_at "rd"
        refine ⟨by decide, fun c nc => ?_⟩
        walk_at "rd"
        refine ⟨(by show 2 ≤ sizeLine; decide), fun a na => ?_⟩
        have sm2 : Same H (upd (upd H' e (.lst [])) c (.lst [.int 0])) := fun b o z => by rw [upd_ne (ne_of_none (sm1 b o z) nc)]; exact sm1 b o z
        have nac : a ≠ c := (ne_of_none upd_same na).symm
        refine q a c _ (fun b o z => by rw [upd_ne (ne_of_none (sm2 b o z) na)]; exact sm2 b o z) (sm2.free na) (sm1.free nc) ⟨nac, upd_same, [0], by rw [upd_ne nac.symm]; exact upd_same, by decide, by decide⟩
      · walk_at "rd"
        refine ⟨(by show 2 ≤ sizeLine; decide), fun a na => ?_⟩
        have nap : a ≠ p := (ne_of_none hpe na).symm
        refine q a p _ (fun b o z => by rw [upd_ne (ne_of_none (sm1 b o z) na)]; exact sm1 b o z) (sm1.free na) np ⟨nap, upd_same, cs, by rw [upd_ne nap.symm]; exact hpe, ?_, by omega⟩
        have : cs ≠ [] := fun z => hne (decide_eq_true z)
        exact List.length_pos_iff.mpr this
end
end HT
namespace HT
open PySem L2
/-- a def of which errors may come, and its call -/
structure CalX (P : Program) (w : World) (K : PySem.W.Frag) (mg : Str → Option Value) (base : Heap) (x : Str) (k : Nat) (ps : List Str) (sp : Sp) (f : Addr) (fd : FuncData) : Prop where
  ok : FnOk P w K mg base (L2.CX P w) k f fd ps sp
  mgf : mg x = some (.ref f)
  kp : PySem.W.keepIn K (.ref f) = true
  b : Binds K fd ps []
theorem pcx {X : Cx} {x : Str} {k j : Nat} {ps : List Str} {sp : Sp} {f : Addr} {fd : FuncData} {e : Expr} {es : List Expr} {t : TA} {p pos : Pos} {W : WX} (C : CalX X.prog X.w X.K X.mg X.base x k ps sp f fd) (hr : Room j X.A) (hj : k ≤ j) (hg : Gl X x) (tk : L2.Takes X W) (ha : PA X (e :: es) t)
    (hdb : (x == ("__debug__" : Str)) = false := by decide) (he : starEach (e :: es) X.env = (false, eval e X.env) :: starEach es X.env := by rfl) (hpl : (backTo pos (starEach es X.env)).any (·.1) = false := by rfl) : PE X (.Call (.Name x p) (e :: es) [] pos) (tCallS sp (WE W) t) :=
  pe_callS C.ok (hr.mono hj) hg C.mgf C.kp C.b (fun σ => L2.passAt tk σ) ha hdb he hpl
end HT
namespace PySem.W
open PySem PySem.Calls
theorem args_lcm3 (a b c : Value) : argsOk "math.lcm" ⟨[a, b, c], []⟩ := by unfold argsOk; kernel_rfl
theorem run_lcm3 (a : Int) (t : Tok) (b : Int) (u : Tok) (c : Int) (v : Tok) (hc0 : ¬(max 1 a.natAbs).log2 / 30 + 1 > 450) (hc1 : ¬(max a.natAbs b.natAbs).log2 / 30 + 1 > 450)
    (hc2 : ¬(max ((Nat.lcm 1 a.natAbs).lcm b.natAbs) c.natAbs).log2 / 30 + 1 > 450)
    (hsz : (((((Nat.lcm 1 a.natAbs).lcm b.natAbs).lcm c.natAbs : Nat) : Int)).natAbs.log2 < bitsLine) :
    Gives (Builtin.«math.lcm» ⟨[.int a t, .int b u, .int c v], []⟩) (.int (((((Nat.lcm 1 a.natAbs).lcm b.natAbs).lcm c.natAbs : Nat) : Int))) :=
  .of_wp fun M A E s Q h => by obtain ⟨hp, g, d, tk, os⟩ := s; wp_walk; refine wpAny_ite_false (decide_eq_false hc2) ?_; wp_walk; (try (refine wpAny_ite_false (decide_eq_false (Nat.not_le.mpr hsz)) ?_; wp_walk)); exact ⟨_, rfl, h⟩
end PySem.W
namespace L2
open PySem PySem.Spec PyProof.Rows
/-- xs.count(y) of flat things -/
def rCntV (K : PySem.W.Frag) : V → List V → Hp → VK → Prop := fun x xs H Q => ∃ (p : Addr) (ys : List V) (y : V), x = .ref p ∧ xs = [y] ∧ SqL K H p ys ∧ flatV y = true ∧ ys.all flatV = true ∧ Q (.int (ys.countP (fun z => eqV z y) : Nat)) H
theorem count_eqU {x : V} : ∀ {xs : List V} {us : List Value}, Vals xs us → xs.all flatV = true → us.countP (eqU x) = xs.countP fun y => eqV y x
  | _, _, .nil, _ => rfl
  | y :: xs, u :: us, .cons r t, f => by
    obtain ⟨f1, f2⟩ := Bool.and_eq_true_iff.mp (List.all_cons ▸ f)
    rw [List.countP_cons, List.countP_cons, eqU_of r f1, count_eqU t f2]
theorem mt_cntV {X : Cx} : MtR X "list.count" (rCntV X.K) := by
  intro pins sh st H x xs v us Q iv rx rxs h
  obtain ⟨p, ys, y, rfl, rfl, hs, fy, fys, q⟩ := h
  cases rx
  obtain ⟨u, rfl, ru⟩ := rxs.one
  obtain ⟨its, rv, ⟨⟨cls, dd, data, sl⟩, n, ho, hc, hdn, hd⟩, hlen⟩ := iv.list hs
  dsimp only at hc hd
  subst hc hd
  refine call_meets PySem.F.slot_list_count ⟨_, ho, rfl⟩ PySem.F.entry_list_count (PySem.F.args_list_count_2 _ _) (SeqAt.list_countAt p its.toArray n dd sl u (eqU y)) ⟨ho, fun w hw => mem_eqAt ru fy rv fys w (by simpa using hw), ?_⟩
  refine ⟨.int (ys.countP (fun z => eqV z y) : Nat), H, iv.tok _, ⟨sh.toks, ?_⟩, q⟩
  rw [show its.toArray.toList.countP (eqU y) = ys.countP (fun z => eqV z y) from count_eqU rv fys]
end L2
namespace HT
open PySem L2
/-! ### pick, great, side -/
def spPick : Sp := fun vs H Q _ => ∃ (a c : Addr) (t : Nat) (l : Addr) (xs : List V), vs = [.ref a, .ref l] ∧ Src H a c t ∧ t < 2 ^ 30 ∧ H l = some (.lst xs) ∧ l ≠ a ∧ l ≠ c ∧ 0 < xs.length ∧ xs.length < 2 ^ 60 ∧
  ∀ x H', x ∈ xs → Src H' a c (t + 1) → Oth a c H H' → Q x H'
def spGreat : Sp := fun vs H Q _ => ∃ (a c : Addr) (t n : Nat), vs = [.ref a, .int (n : Int)] ∧ Src H a c t ∧ n ≤ 1000 ∧ t + n < 2 ^ 30 ∧
  ∀ k H', 0 ≤ k → k < 10 ^ n → Src H' a c (t + n) → Oth a c H H' → Q (.int k) H'
/-- the modes -/
def Mode (m : Str) : Prop := m = "down" ∨ m = "up" ∨ m = "half_down" ∨ m = "half_up" ∨ m = "half_even"
/-- a side's parts -/
structure SideP (o s : Int) (m : Str) : Prop where
  o0 : -10 ^ 40 ≤ o
  o1 : o ≤ 10 ^ 40
  s0 : 1 ≤ s
  s1 : s ≤ 10 ^ 30
  md : Mode m
def sideV (o s : Int) (m : Str) : HO := .tup [.int o, .int s, .str m]
def spSide : Sp := fun vs H Q _ => ∃ (a c : Addr) (t n : Nat), vs = [.ref a, .int (n : Int)] ∧ Src H a c t ∧ 1 ≤ n ∧ n ≤ 40 ∧ t + 200 < 2 ^ 30 ∧
  ∀ p o s m H' t', H p = none → H' p = some (sideV o s m) → SideP o s m → t' ≤ t + 200 → Src H' a c t' → Oth a c H H' → Q (.ref p) H'
theorem lg_nat {n : Nat} (h : n < 2 ^ 200) : ((n : Int)).natAbs.log2 < 9000 := by
  rw [Int.natAbs_natCast]
  by_cases e : n = 0
  · rw [e]; decide
  · have := (Nat.log2_lt e).mpr h
    omega
theorem lg_small {n : Int} (h0 : 0 ≤ n) (h : n < 2 ^ 64) : n.natAbs.log2 < 9000 := by
  obtain ⟨m, rfl⟩ := Int.eq_ofNat_of_zero_le h0
  exact lg_nat (Nat.lt_of_lt_of_le (by omega : m < 2 ^ 64) (Nat.pow_le_pow_right (by decide) (by decide)))
section
variable {P : Program} {w : World} {K : PySem.W.Frag} {mg : Str → Option Value} {base : Heap} {fD fP fG : Addr} {dD dP dG : FuncData}
theorem ok_pick {f : Addr} {fd : FuncData} (F : Fun K "_law_pick" "_law_pick" s_L_pick f fd) (B : Blt mg) (D : Cal P w K mg base "_law_draw" 1 ["_law_source_here", "_law_limit"] spDraw fD dD) :
    FnOk P w K mg base CX0 2 f fd ["_law_source_here", "_law_values"] spPick := by
  refine F.ok sc_L_pick (fun vs H Q E h => ?_) (fun cdv A outer s H vs Q E hr h => ?_)
  · obtain ⟨a, c, t, l, xs, rfl, _⟩ := h
    rfl
  · obtain ⟨a, c, t, l, xs, rfl, S, ht, hl, na, nc, h0, h1, q⟩ := h
    refine ⟨_, pss_one (ps_ret (pe_ix ix_list (pv 1) (pcl D hr (by decide) (by rfl) (pa_cons (pv 0) (pa_cons (pe_callB call_len_seq (by rfl) B.len PySem.boot_len (pa_cons (pv 1) pa_nil)) pa_nil))) (fun _ _ => rfl))), ?_⟩
    walk_at "rd"
    refine ⟨l, _, rfl, .inl (SqL.of hl), ?_⟩
    have p1 : (0 : Int) < (xs.length : Int) := by omega
    refine ⟨a, c, t, _, rfl, S, ht, p1, lg_nat (Nat.lt_of_lt_of_le h1 (Nat.pow_le_pow_right (by decide) (by decide))), fun k H' k0 k1 S' O => ?_⟩
    have hl' : k.toNat < xs.length := by omega
    have e : atI xs k = some xs[k.toNat] := by
      unfold atI
      rw [ixN_in k0 k1]
      exact List.getElem?_eq_getElem hl'
    refine ⟨l, _, _, _, rfl, rfl, SqL.of (O _ _ hl na nc), e, ?_⟩
    exact q _ _ (List.getElem_mem hl') S' O
theorem ok_great {f : Addr} {fd : FuncData} (F : Fun K "_law_great" "_law_great" s_L_great f fd) (B : Blt mg) (D : Cal P w K mg base "_law_draw" 1 ["_law_source_here", "_law_limit"] spDraw fD dD) :
    FnOk P w K mg base CX0 2 f fd ["_law_source_here", "_law_digits"] spGreat := by
  refine F.ok sc_L_great (fun vs H Q E h => ?_) (fun cdv A outer s H vs Q E hr h => ?_)
  · obtain ⟨a, c, t, n, rfl, _⟩ := h
    rfl
  · obtain ⟨a, c, t, n, rfl, S, hn, ht, q⟩ := h
    have nd := sc_L_great.nd
    refine ⟨_, pss_cons (ps_set (i := 2) nd rfl (Or.inl rfl) pe_int)
      (pss_cons (ps_for PassesOwn.never rfl (pi_range1 (by rfl) B.range (pa_cons (pv 1) pa_nil)) (pg_name (i := 3) nd rfl (Or.inl rfl))
        (pss_one (ps_set (i := 2) nd rfl (Or.inl rfl) (pe_op op_add (pe_op op_mul (pv 2) pe_int) (pcl D hr (by decide) (by rfl) (pa_cons (pv 0) (pa_cons pe_int pa_nil)))))))
      (pss_one (ps_ret (pv 2)))), ?_⟩
    walk_at "rd"
    refine ⟨by omega, by omega, ?_⟩
    rw [Int.toNat_natCast]
    refine for_range (fun i σ H' => ∃ (k : Int) (kv : Option V), σ = [some (.ref a), some (.int (n : Int)), some (.int k), kv] ∧ 0 ≤ k ∧ k < 10 ^ i ∧ Src H' a c (t + i) ∧ Oth a c H H') ⟨0, none, rfl, by decide, by decide, S, Oth.refl _ _ _⟩ ?_ ?_
    · rintro i σ H' hi ⟨k, kv, rfl, k0, k1, S', O⟩
      walk_at "rd"
      refine ⟨.inr ⟨by decide, by decide⟩, ?_⟩
      walk_at "rd"
      refine ⟨a, c, t + i, _, rfl, S', by omega, (by show (0 : Int) < 10; decide), (by show (10 : Int).natAbs.log2 < 9000; decide), fun y H2 y0 y1 S2 O2 => ?_⟩
      walk_at "rd"
      have y1' : y < 10 := y1
      refine ⟨_, _, rfl, (by show 0 ≤ k * 10 + y; omega), (by show k * 10 + y < 10 ^ (i + 1); rw [Int.pow_succ]; omega), S2, O.trans O2⟩
    · rintro σ H' ⟨k, kv, rfl, k0, k1, S', O⟩
      walk_at "rd"
      exact q _ _ k0 k1 S' O
theorem mode_of {x : V} (h : x ∈ [V.str "down", .str "up", .str "half_down", .str "half_up", .str "half_even"]) : ∃ m : Str, x = .str m ∧ Mode m := by
  simp only [List.mem_cons, List.not_mem_nil, or_false] at h
  rcases h with h | h | h | h | h
  · exact ⟨_, h, .inl rfl⟩
  · exact ⟨_, h, .inr (.inl rfl)⟩
  · exact ⟨_, h, .inr (.inr (.inl rfl))⟩
  · exact ⟨_, h, .inr (.inr (.inr (.inl rfl)))⟩
  · exact ⟨_, h, .inr (.inr (.inr (.inr rfl)))⟩
end
end HT
namespace HT
open PySem L2
/-! ### the mathematics of a side -/
def goesUp (m : Str) (s q r : Int) : Bool := if m = "down" then false else if m = "up" then decide (0 < r) else if 2 * r = s then (if m = "half_even" then decide (q % 2 = 1) else decide (m = "half_up")) else decide (s < 2 * r)
/-- the figure to which v comes -/
def figM (o s : Int) (m : Str) (v : Int) : Int := if goesUp m s ((v - o) / s) ((v - o) % s) = true then (v - o) / s + 1 else (v - o) / s
def dueM (o s : Int) (m : Str) (v : Int) : Int := o + s * figM o s m v
theorem d_u : ¬ (("up" : Str) = "down") := by decide +kernel
theorem hd_d : ¬ (("half_down" : Str) = "down") := by decide +kernel
theorem hd_u : ¬ (("half_down" : Str) = "up") := by decide +kernel
theorem hu_d : ¬ (("half_up" : Str) = "down") := by decide +kernel
theorem hu_u : ¬ (("half_up" : Str) = "up") := by decide +kernel
theorem he_d : ¬ (("half_even" : Str) = "down") := by decide +kernel
theorem he_u : ¬ (("half_even" : Str) = "up") := by decide +kernel
theorem hd_e : ¬ (("half_down" : Str) = "half_even") := by decide +kernel
theorem hu_e : ¬ (("half_up" : Str) = "half_even") := by decide +kernel
theorem hd_hu : ¬ (("half_down" : Str) = "half_up") := by decide +kernel
theorem he_hu : ¬ (("half_even" : Str) = "half_up") := by decide +kernel
theorem u_hd : ¬ (("up" : Str) = "half_down") := by decide +kernel
theorem hu_hd : ¬ (("half_up" : Str) = "half_down") := by decide +kernel
theorem he_hd : ¬ (("half_even" : Str) = "half_down") := by decide +kernel
theorem go_down (s q r : Int) : goesUp "down" s q r = false := by unfold goesUp; rw [if_pos rfl]
theorem go_up (s q r : Int) : goesUp "up" s q r = decide (0 < r) := by unfold goesUp; rw [if_neg d_u, if_pos rfl]
theorem go_hd (s q r : Int) : goesUp "half_down" s q r = decide (s < 2 * r) := by
  unfold goesUp
  rw [if_neg hd_d, if_neg hd_u, if_neg hd_e, decide_eq_false hd_hu]
  by_cases h : 2 * r = s
  · rw [if_pos h, decide_eq_false (by omega)]
  · rw [if_neg h]
theorem go_hu (s q r : Int) : goesUp "half_up" s q r = decide (s ≤ 2 * r) := by
  unfold goesUp
  rw [if_neg hu_d, if_neg hu_u, if_neg hu_e, decide_eq_true rfl]
  by_cases h : 2 * r = s
  · rw [if_pos h, decide_eq_true (by omega)]
  · rw [if_neg h]
    by_cases g : s < 2 * r
    · rw [decide_eq_true g, decide_eq_true (by omega)]
    · rw [decide_eq_false g, decide_eq_false (by omega)]
theorem go_he (s q r : Int) : goesUp "half_even" s q r = (decide (s < 2 * r) || (decide (2 * r = s) && decide (q % 2 = 1))) := by
  unfold goesUp
  rw [if_neg he_d, if_neg he_u, if_pos rfl]
  by_cases h : 2 * r = s
  · rw [if_pos h, decide_eq_false (show ¬ s < 2 * r by omega), decide_eq_true h]
    rfl
  · rw [if_neg h, decide_eq_false h]
    simp
/-- what is known of a figure -/
structure Fig (o s : Int) (m : Str) (v q r k : Int) : Prop where
  eq : v - o = s * q + r
  r0 : 0 ≤ r
  r1 : r < s
  wh : (goesUp m s q r = true ∧ k = q + 1) ∨ (goesUp m s q r = false ∧ k = q)
theorem fig_of {o s : Int} {m : Str} {v : Int} (hs : 1 ≤ s) : Fig o s m v ((v - o) / s) ((v - o) % s) (figM o s m v) := by
  refine ⟨?_, Int.emod_nonneg _ (by omega), Int.emod_lt_of_pos _ (by omega), ?_⟩
  · have := Int.mul_ediv_add_emod (v - o) s
    omega
  · unfold figM
    cases h : goesUp m s ((v - o) / s) ((v - o) % s)
    · exact .inr ⟨rfl, by simp⟩
    · exact .inl ⟨rfl, by simp⟩
theorem divmod_eq {s q r x : Int} (hs : 1 ≤ s) (h : x = s * q + r) (r0 : 0 ≤ r) (r1 : r < s) : x / s = q ∧ x % s = r := by
  subst h
  constructor
  · rw [Int.add_comm, Int.add_mul_ediv_left _ _ (by omega), Int.ediv_eq_zero_of_lt r0 r1]
    omega
  · rw [Int.add_comm, Int.add_mul_emod_self_left]
    exact Int.emod_eq_of_lt r0 r1
theorem fig_uniq {o s : Int} {m : Str} {v q r k : Int} (hs : 1 ≤ s) (F : Fig o s m v q r k) : figM o s m v = k := by
  obtain ⟨e1, e2⟩ := divmod_eq hs F.eq F.r0 F.r1
  unfold figM
  rw [e1, e2]
  rcases F.wh with ⟨h, e⟩ | ⟨h, e⟩
  · rw [h, if_pos rfl, e]
  · rw [h, if_neg (by decide), e]
/-- going up wants a rest, and not going up a small one -/
theorem go_pos {m : Str} {s q r : Int} (hm : Mode m) (hs : 1 ≤ s) (r0 : 0 ≤ r) (h : goesUp m s q r = true) : 0 < r := by
  rcases hm with e | e | e | e | e <;> subst e
  · rw [go_down] at h; cases h
  · rw [go_up] at h; exact of_decide_eq_true h
  · rw [go_hd] at h; have := of_decide_eq_true h; omega
  · rw [go_hu] at h; have := of_decide_eq_true h; omega
  · rw [go_he, Bool.or_eq_true, Bool.and_eq_true] at h
    rcases h with h | ⟨h, _⟩ <;> have := of_decide_eq_true h <;> omega
theorem due_near {o s : Int} {m : Str} {v : Int} (hm : Mode m) (hs : 1 ≤ s) : dueM o s m v - v < s ∧ v - dueM o s m v < s := by
  have F := fig_of (o := o) (m := m) (v := v) hs
  unfold dueM
  generalize (v - o) / s = q at F
  generalize (v - o) % s = r at F
  obtain ⟨eq, r0, r1, wh⟩ := F
  rcases wh with ⟨h, e⟩ | ⟨h, e⟩
  · have := go_pos hm hs r0 h
    rw [e, Int.mul_add, Int.mul_one]
    generalize s * q = z at eq ⊢
    omega
  · rw [e]
    generalize s * q = z at eq ⊢
    omega
def half (m : Str) : Prop := m = "half_down" ∨ m = "half_up" ∨ m = "half_even"
theorem due_half {o s : Int} {m : Str} {v : Int} (hm : half m) (hs : 1 ≤ s) : 2 * (dueM o s m v - v) ≤ s ∧ 2 * (v - dueM o s m v) ≤ s := by
  have F := fig_of (o := o) (m := m) (v := v) hs
  unfold dueM
  generalize (v - o) / s = q at F
  generalize (v - o) % s = r at F
  obtain ⟨eq, r0, r1, wh⟩ := F
  have hb : (goesUp m s q r = true → s ≤ 2 * r) ∧ (goesUp m s q r = false → 2 * r ≤ s) := by
    rcases hm with e | e | e <;> subst e
    · rw [go_hd]; exact ⟨fun h => by have := of_decide_eq_true h; omega, fun h => by have := of_decide_eq_false h; omega⟩
    · rw [go_hu]; exact ⟨fun h => by have := of_decide_eq_true h; omega, fun h => by have := of_decide_eq_false h; omega⟩
    · rw [go_he]
      refine ⟨fun h => ?_, fun h => ?_⟩
      · rw [Bool.or_eq_true, Bool.and_eq_true] at h
        rcases h with h | ⟨h, _⟩ <;> have := of_decide_eq_true h <;> omega
      · rw [Bool.or_eq_false_iff] at h
        have := of_decide_eq_false h.1
        omega
  rcases wh with ⟨h, e⟩ | ⟨h, e⟩
  · have := hb.1 h
    rw [e, Int.mul_add, Int.mul_one]
    generalize s * q = z at eq ⊢
    omega
  · have := hb.2 h
    rw [e]
    generalize s * q = z at eq ⊢
    omega
theorem go_zero {m : Str} {s q : Int} (hm : Mode m) (hs : 1 ≤ s) : goesUp m s q 0 = false := by
  cases h : goesUp m s q 0 with
  | false => rfl
  | true => exact absurd (go_pos hm hs (Int.le_refl _) h) (by omega)
/-- what is written stands and is written as it is -/
theorem fig_at {o s k : Int} {m : Str} (hm : Mode m) (hs : 1 ≤ s) : figM o s m (o + s * k) = k :=
  fig_uniq (q := k) (r := 0) hs ⟨by omega, Int.le_refl _, by omega, .inr ⟨go_zero hm hs, rfl⟩⟩
theorem stands_at {o s k : Int} : (o + s * k - o) % s = 0 := by
  rw [show o + s * k - o = s * k by omega]
  exact Int.mul_emod_right s k
theorem due_eq {o s : Int} {m : Str} {v : Int} (hm : Mode m) (hs : 1 ≤ s) : (v - o) % s = 0 ↔ dueM o s m v = v := by
  have F := fig_of (o := o) (m := m) (v := v) hs
  unfold dueM
  generalize (v - o) / s = q at F
  generalize (v - o) % s = r at F ⊢
  obtain ⟨eq, r0, r1, wh⟩ := F
  rcases wh with ⟨h, e⟩ | ⟨h, e⟩
  · have := go_pos hm hs r0 h
    rw [e, Int.mul_add, Int.mul_one]
    generalize s * q = z at eq ⊢
    omega
  · rw [e]
    generalize s * q = z at eq ⊢
    omega
theorem go_mono {m : Str} {s q r : Int} (hm : Mode m) (h : goesUp m s q r = true) : goesUp m s q (r + 1) = true := by
  rcases hm with e | e | e | e | e <;> subst e
  · rw [go_down] at h; cases h
  · rw [go_up] at h ⊢; have := of_decide_eq_true h; exact decide_eq_true (by omega)
  · rw [go_hd] at h ⊢; have := of_decide_eq_true h; exact decide_eq_true (by omega)
  · rw [go_hu] at h ⊢; have := of_decide_eq_true h; exact decide_eq_true (by omega)
  · rw [go_he] at h ⊢
    have : s ≤ 2 * r := by
      rw [Bool.or_eq_true, Bool.and_eq_true] at h
      rcases h with h | ⟨h, _⟩ <;> have := of_decide_eq_true h <;> omega
    rw [decide_eq_true (show s < 2 * (r + 1) by omega)]
    rfl
theorem fig_mono {o s : Int} {m : Str} {v : Int} (hm : Mode m) (hs : 1 ≤ s) : figM o s m v ≤ figM o s m (v + 1) := by
  have F := fig_of (o := o) (m := m) (v := v) hs
  generalize (v - o) / s = q at F
  generalize (v - o) % s = r at F
  obtain ⟨eq, r0, r1, wh⟩ := F
  by_cases hr : r + 1 < s
  · cases g : goesUp m s q (r + 1) with
    | true =>
      rw [fig_uniq (v := v + 1) (q := q) (r := r + 1) (k := q + 1) hs ⟨by omega, by omega, hr, .inl ⟨g, rfl⟩⟩]
      rcases wh with ⟨_, e⟩ | ⟨_, e⟩ <;> omega
    | false =>
      rw [fig_uniq (v := v + 1) (q := q) (r := r + 1) (k := q) hs ⟨by omega, by omega, hr, .inr ⟨g, rfl⟩⟩]
      rcases wh with ⟨h, e⟩ | ⟨_, e⟩
      · rw [go_mono hm h] at g
        cases g
      · omega
  · rw [fig_uniq (v := v + 1) (q := q + 1) (r := 0) (k := q + 1) hs ⟨by rw [Int.mul_add, Int.mul_one]; omega, by omega, by omega, .inr ⟨go_zero hm hs, rfl⟩⟩]
    rcases wh with ⟨_, e⟩ | ⟨_, e⟩ <;> omega
theorem due_mono {o s : Int} {m : Str} {v : Int} (hm : Mode m) (hs : 1 ≤ s) : dueM o s m v ≤ dueM o s m (v + 1) := by
  unfold dueM
  have := Int.mul_le_mul_of_nonneg_left (fig_mono (o := o) (v := v) hm hs) (show 0 ≤ s by omega)
  omega
theorem go_two {m : Str} {s q r : Int} (hm : Mode m) : goesUp m s (q + 2) r = goesUp m s q r := by
  rcases hm with e | e | e | e | e <;> subst e
  · rw [go_down, go_down]
  · rw [go_up, go_up]
  · rw [go_hd, go_hd]
  · rw [go_hu, go_hu]
  · rw [go_he, go_he, show (q + 2) % 2 = q % 2 by omega]
theorem due_two {o s : Int} {m : Str} {v : Int} (hm : Mode m) (hs : 1 ≤ s) : dueM o s m (v + s * 2) = dueM o s m v + s * 2 := by
  have F := fig_of (o := o) (m := m) (v := v) hs
  unfold dueM
  generalize (v - o) / s = q at F
  generalize (v - o) % s = r at F
  obtain ⟨eq, r0, r1, wh⟩ := F
  rw [fig_uniq (v := v + s * 2) (q := q + 2) (r := r) (k := figM o s m v + 2) hs ⟨by rw [Int.mul_add]; omega, r0, r1, ?_⟩, Int.mul_add]
  · omega
  · rw [go_two hm]
    rcases wh with ⟨h, e⟩ | ⟨h, e⟩
    · exact .inl ⟨h, by omega⟩
    · exact .inr ⟨h, by omega⟩
/-! ### bounds -/
def Bd (x : Int) : Prop := -2 ^ 1000 < x ∧ x < 2 ^ 1000
theorem div_bd {x s b : Int} (hs : 1 ≤ s) (h0 : -b < x) (h1 : x < b) : -b < x / s ∧ x / s < b := by
  by_cases hx : 0 ≤ x
  · have a := Int.ediv_nonneg hx (show 0 ≤ s by omega)
    have c := Int.ediv_le_self s hx
    omega
  · have a : x ≤ x / s := by
      rw [Int.le_ediv_iff_mul_le (by omega)]
      have := Int.mul_le_mul_of_nonpos_left (show x ≤ 0 by omega) hs
      omega
    have c : x / s < 0 := Int.ediv_neg_of_neg_of_pos (by omega) (by omega)
    omega
end HT
namespace HT
open PySem L2
/-! ### spans -/
def below (m : Str) (s k : Int) : Int := if m = "down" then 0 else if m = "up" then s - 1 else if m = "half_up" ∨ (m = "half_even" ∧ k % 2 = 0) then s / 2 else (s - 1) / 2
def mir (m : Str) : Str := if m = "down" then "up" else if m = "up" then "down" else if m = "half_down" then "half_up" else if m = "half_up" then "half_down" else "half_even"
def lowM (o s : Int) (m : Str) (k : Int) : Int := o + s * k - below m s k
def highM (o s : Int) (m : Str) (k : Int) : Int := o + s * k + below (mir m) s k
theorem mir_d : mir "down" = "up" := by unfold mir; rw [if_pos rfl]
theorem mir_u : mir "up" = "down" := by unfold mir; rw [if_neg d_u, if_pos rfl]
theorem mir_hd : mir "half_down" = "half_up" := by unfold mir; rw [if_neg hd_d, if_neg hd_u, if_pos rfl]
theorem mir_hu : mir "half_up" = "half_down" := by unfold mir; rw [if_neg hu_d, if_neg hu_u, if_neg hu_hd, if_pos rfl]
theorem mir_he : mir "half_even" = "half_even" := by unfold mir; rw [if_neg he_d, if_neg he_u, if_neg he_hd, if_neg he_hu]
theorem be_d (s k : Int) : below "down" s k = 0 := by unfold below; rw [if_pos rfl]
theorem be_u (s k : Int) : below "up" s k = s - 1 := by unfold below; rw [if_neg d_u, if_pos rfl]
theorem be_hd (s k : Int) : below "half_down" s k = (s - 1) / 2 := by
  unfold below
  rw [if_neg hd_d, if_neg hd_u, if_neg]
  rintro (z | ⟨z, _⟩)
  · exact hd_hu z
  · exact hd_e z
theorem be_hu (s k : Int) : below "half_up" s k = s / 2 := by unfold below; rw [if_neg hu_d, if_neg hu_u, if_pos (.inl rfl)]
theorem be_he (s k : Int) : below "half_even" s k = if k % 2 = 0 then s / 2 else (s - 1) / 2 := by
  unfold below
  rw [if_neg he_d, if_neg he_u]
  by_cases h : k % 2 = 0
  · rw [if_pos (.inr ⟨rfl, h⟩), if_pos h]
  · rw [if_neg h, if_neg]
    rintro (z | ⟨_, z⟩)
    · exact he_hu z
    · exact h z
theorem mir_mode {m : Str} (h : Mode m) : Mode (mir m) := by
  rcases h with e | e | e | e | e <;> subst e
  · rw [mir_d]; exact .inr (.inl rfl)
  · rw [mir_u]; exact .inl rfl
  · rw [mir_hd]; exact .inr (.inr (.inr (.inl rfl)))
  · rw [mir_hu]; exact .inr (.inr (.inl rfl))
  · rw [mir_he]; exact .inr (.inr (.inr (.inr rfl)))
theorem below_bd {m : Str} {s k : Int} (h : Mode m) (hs : 1 ≤ s) : 0 ≤ below m s k ∧ below m s k < s := by
  rcases h with e | e | e | e | e <;> subst e
  · rw [be_d]; omega
  · rw [be_u]; omega
  · rw [be_hd]; omega
  · rw [be_hu]; omega
  · rw [be_he]; split <;> omega
theorem up_iff {m : Str} {s q r : Int} (h : Mode m) (r0 : 0 ≤ r) (r1 : r < s) : goesUp m s q r = true ↔ below (mir m) s q < r := by
  rcases h with e | e | e | e | e <;> subst e
  · rw [go_down, mir_d, be_u]
    exact ⟨fun z => (Bool.false_ne_true z).elim, fun z => absurd z (by omega)⟩
  · rw [go_up, mir_u, be_d, decide_eq_true_eq]
  · rw [go_hd, mir_hd, be_hu, decide_eq_true_eq]; omega
  · rw [go_hu, mir_hu, be_hd, decide_eq_true_eq]; omega
  · rw [go_he, mir_he, be_he, Bool.or_eq_true, Bool.and_eq_true, decide_eq_true_eq, decide_eq_true_eq, decide_eq_true_eq]
    split <;> omega
theorem touch {m : Str} {s : Int} (q : Int) (h : Mode m) (hs : 1 ≤ s) : below m s (q + 1) + below (mir m) s q = s - 1 := by
  rcases h with e | e | e | e | e <;> subst e
  · rw [be_d, mir_d, be_u]; omega
  · rw [be_u, mir_u, be_d]; omega
  · rw [be_hd, mir_hd, be_hu]; omega
  · rw [be_hu, mir_hu, be_hd]; omega
  · rw [be_he, mir_he, be_he]; split <;> split <;> omega
theorem mul_lt_step {s q k : Int} (hs : 1 ≤ s) (h : q < k) : s * q + s ≤ s * k := by
  have := Int.mul_le_mul_of_nonneg_left (show q + 1 ≤ k by omega) (show 0 ≤ s by omega)
  rw [Int.mul_add, Int.mul_one] at this
  exact this
/-- a value comes to k just between the ends -/
theorem fig_iff {o s : Int} {m : Str} {v k : Int} (h : Mode m) (hs : 1 ≤ s) : figM o s m v = k ↔ lowM o s m k ≤ v ∧ v ≤ highM o s m k := by
  have F := fig_of (o := o) (m := m) (v := v) hs
  generalize (v - o) / s = q at F
  generalize (v - o) % s = r at F
  generalize figM o s m v = f at F ⊢
  obtain ⟨eq, r0, r1, wh⟩ := F
  have ui := up_iff (q := q) h r0 r1
  have t1 := touch (k - 1) h hs
  rw [show k - 1 + 1 = k by omega] at t1
  have bk := below_bd (k := k) (mir_mode h) hs
  have bk1 := below_bd (k := k - 1) (mir_mode h) hs
  have bq := below_bd (k := q) (mir_mode h) hs
  unfold lowM highM
  have hf : (f = q + 1 ∧ below (mir m) s q < r) ∨ (f = q ∧ r ≤ below (mir m) s q) := by
    rcases wh with ⟨g, e⟩ | ⟨g, e⟩
    · exact .inl ⟨e, ui.mp g⟩
    · refine .inr ⟨e, ?_⟩
      have : ¬ below (mir m) s q < r := fun z => by rw [ui.mpr z] at g; cases g
      omega
  rcases Int.lt_trichotomy q k with hq | hq | hq
  · rcases Int.lt_trichotomy (q + 1) k with hq1 | hq1 | hq1
    · have := mul_lt_step hs (show q + 1 < k from hq1)
      rw [Int.mul_add, Int.mul_one] at this
      generalize s * q = a at *
      generalize s * k = b at *
      constructor
      · intro z; omega
      · intro z; omega
    · have e : q = k - 1 := by omega
      subst e
      have : s * (k - 1) = s * k - s := by rw [Int.mul_sub, Int.mul_one]
      generalize s * (k - 1) = a at *
      generalize s * k = b at *
      constructor
      · intro z; omega
      · intro z; omega
    · omega
  · subst hq
    generalize s * q = a at *
    constructor
    · intro z; omega
    · intro z; omega
  · have := mul_lt_step hs hq
    generalize s * q = a at *
    generalize s * k = b at *
    constructor
    · intro z; omega
    · intro z; omega
theorem low_high {o s : Int} {m : Str} {k : Int} (h : Mode m) (hs : 1 ≤ s) : lowM o s m k ≤ o + s * k ∧ o + s * k ≤ highM o s m k := by
  have a := below_bd (k := k) h hs
  have b := below_bd (k := k) (mir_mode h) hs
  unfold lowM highM
  omega
theorem low_next {o s : Int} {m : Str} (k : Int) (h : Mode m) (hs : 1 ≤ s) : lowM o s m (k + 1) = highM o s m k + 1 := by
  have := touch k h hs
  unfold lowM highM
  rw [Int.mul_add, Int.mul_one]
  omega
theorem high_prev {o s : Int} {m : Str} (k : Int) (h : Mode m) (hs : 1 ≤ s) : highM o s m (k - 1) = lowM o s m k - 1 := by
  have := low_next (o := o) (k - 1) h hs
  rw [show k - 1 + 1 = k by omega] at this
  omega
theorem fig_low {o s : Int} {m : Str} (k : Int) (h : Mode m) (hs : 1 ≤ s) : figM o s m (lowM o s m k) = k := by
  have a := low_high (o := o) (k := k) h hs
  exact (fig_iff h hs).mpr ⟨by omega, by omega⟩
theorem fig_high {o s : Int} {m : Str} (k : Int) (h : Mode m) (hs : 1 ≤ s) : figM o s m (highM o s m k) = k := by
  have a := low_high (o := o) (k := k) h hs
  exact (fig_iff h hs).mpr ⟨by omega, by omega⟩
theorem fig_low1 {o s : Int} {m : Str} (k : Int) (h : Mode m) (hs : 1 ≤ s) : figM o s m (lowM o s m k - 1) = k - 1 := by
  rw [← high_prev k h hs]
  exact fig_high _ h hs
theorem fig_high1 {o s : Int} {m : Str} (k : Int) (h : Mode m) (hs : 1 ≤ s) : figM o s m (highM o s m k + 1) = k + 1 := by
  rw [← low_next k h hs]
  exact fig_low _ h hs
/-- the figure of the least standing value that is not less -/
def ceilM (o s v : Int) : Int := -((o - v) / s)
theorem ceil_eq {o s v : Int} (hs : 1 ≤ s) : v ≤ o + s * ceilM o s v ∧ o + s * (ceilM o s v - 1) < v := by
  have a := Int.mul_ediv_add_emod (o - v) s
  have b := Int.emod_nonneg (o - v) (show s ≠ 0 by omega)
  have c := Int.emod_lt_of_pos (o - v) (show 0 < s by omega)
  unfold ceilM
  rw [Int.mul_sub, Int.mul_one, Int.mul_neg]
  omega
def backM (o s : Int) (m : Str) (v : Int) : Int := lowM o s m (ceilM o s v)
theorem back_ge {o s : Int} {m : Str} {v : Int} (h : Mode m) (hs : 1 ≤ s) : v ≤ dueM o s m (backM o s m v) := by
  unfold dueM backM
  rw [fig_low _ h hs]
  exact (ceil_eq hs).1
theorem back_lt {o s : Int} {m : Str} {v : Int} (h : Mode m) (hs : 1 ≤ s) : dueM o s m (backM o s m v - 1) < v := by
  unfold dueM backM
  rw [fig_low1 _ h hs]
  exact (ceil_eq hs).2
theorem mul_b {s k : Int} (s0 : 1 ≤ s) (s1 : s ≤ 10 ^ 30) (h : -2 ^ 720 < k ∧ k < 2 ^ 720) : -2 ^ 820 < s * k ∧ s * k < 2 ^ 820 := by
  have h1 : (s * k).natAbs < 2 ^ (100 + 720) := wide_lt (a := 100) (b := 720) (by omega) (by omega)
  omega
end HT
namespace HT
open PySem L2
theorem lg_big {n : Int} (h0 : 0 ≤ n) (h : n < 2 ^ 200) : n.natAbs.log2 < 9000 := by
  obtain ⟨m, rfl⟩ := Int.eq_ofNat_of_zero_le h0
  exact lg_nat (by omega)
def modesV : List V := [.str "down", .str "up", .str "half_down", .str "half_up", .str "half_even"]
/-- the further names that the text of sides does not bind, and its table of modes -/
structure SideT (K : PySem.W.Frag) (mg : Str → Option Value) (aM : Addr) : Prop where
  isi : mg "isinstance" = none
  int : mg "int" = none
  bool : mg "bool" = none
  tuple : mg "tuple" = none
  len : mg "len" = none
  dm : mg "divmod" = none
  gM : mg "MODES" = some (.ref aM)
  tM : ∀ H, SqT K H aM modesV
def spIsInt : Sp := fun vs H Q _ => ∃ i : Int, vs = [.int i] ∧ Q (.bl true) H
def spBetween : Sp := fun vs H Q _ => ∃ i a b : Int, vs = [.int i, .int a, .int b] ∧ Q (.bl (decide (a ≤ i) && decide (i ≤ b))) H
def spCheckValue : Sp := fun vs H Q _ => ∃ i : Int, vs = [.int i] ∧ Q .non H
def spCheckSide : Sp := fun vs H Q _ => ∃ (p : Addr) (o s : Int) (m : Str), vs = [.ref p] ∧ H p = some (sideV o s m) ∧ SideP o s m ∧ Q .non H
def spGo : Sp := fun vs H Q _ => ∃ (m : Str) (s q r : Int), vs = [.str m, .int s, .int q, .int r] ∧ Q (.bl (goesUp m s q r)) H
def spSV (f : Int → Int → Str → Int → V) : Sp := fun vs H Q _ => ∃ (p : Addr) (o s : Int) (m : Str) (v : Int), vs = [.ref p, .int v] ∧ H p = some (sideV o s m) ∧ SideP o s m ∧ Bd v ∧ ∀ H', Same H H' → Q (f o s m v) H'
def spFig : Sp := spSV fun o s m v => .int (figM o s m v)
def spDue : Sp := spSV fun o s m v => .int (dueM o s m v)
def spStands : Sp := spSV fun o s m v => .bl (decide ((v - o) % s = 0))
theorem dec_int (a b : Int) : decide (V.int a = V.int b) = decide (a = b) := by
  by_cases h : a = b
  · rw [decide_eq_true h, h, decide_eq_true rfl]
  · rw [decide_eq_false h, decide_eq_false (fun z => h (V.int.inj z))]
theorem dec_str (a b : Str) : decide (V.str a = V.str b) = decide (a = b) := by
  by_cases h : a = b
  · rw [decide_eq_true h, h, decide_eq_true rfl]
  · rw [decide_eq_false h, decide_eq_false (fun z => h (V.str.inj z))]
theorem dec_bl (a b : Bool) : decide (V.bl a = V.bl b) = decide (a = b) := by
  by_cases h : a = b
  · rw [decide_eq_true h, h, decide_eq_true rfl]
  · rw [decide_eq_false h, decide_eq_false (fun z => h (V.bl.inj z))]
theorem str_t {a b : Str} (h : decide (V.str a = V.str b) = true) : a = b := V.str.inj (of_decide_eq_true h)
theorem str_f {a b : Str} (h : ¬ decide (V.str a = V.str b) = true) : ¬ a = b := fun z => h (decide_eq_true (congrArg V.str z))
theorem int_t {a b : Int} (h : decide (V.int a = V.int b) = true) : a = b := V.int.inj (of_decide_eq_true h)
theorem int_f {a b : Int} (h : ¬ decide (V.int a = V.int b) = true) : ¬ a = b := fun z => h (decide_eq_true (congrArg V.int z))
theorem not_t {b : Bool} (h : (!b) = true) : ¬ b = true := by cases b <;> simp_all
theorem not_f {b : Bool} (h : ¬ (!b) = true) : b = true := by cases b <;> simp_all
theorem mode_in {m : Str} (h : Mode m) : inV (.str m) modesV = true := by
  rcases h with e | e | e | e | e <;> subst e <;> decide +kernel
theorem divp {o v s : Int} (hs : 1 ≤ s) (ho : -10 ^ 40 ≤ o ∧ o ≤ 10 ^ 40) (hv : Bd v) : CDivP (v - o) s := by
  refine divp_ok (by omega) ?_
  have h : (v - o).natAbs < 2 ^ 1010 := by
    have h1 := hv.1
    have h2 := hv.2
    omega
  have h2 : Builtin.Int.intBits (v - o) ≤ 1011 := by
    unfold Builtin.Int.intBits
    split
    · omega
    · have := PySem.Flt.log2_lt_of (by decide) h
      omega
  omega
theorem mulW {i j : Int} (hi : -2 ^ 1010 < i ∧ i < 2 ^ 1010) (hj : -2 ^ 1010 < j ∧ j < 2 ^ 1010) : CMulW i j := wide_mul (a := 1010) (b := 1010) (by omega) (by omega) (by decide) (by decide) (by decide)
theorem fig_bd {o s : Int} {m : Str} {v : Int} (S : SideP o s m) (hv : Bd v) : -2 ^ 1001 < figM o s m v ∧ figM o s m v < 2 ^ 1001 := by
  obtain ⟨h1, h2⟩ := hv
  obtain ⟨o0, o1, s0, s1, _⟩ := S
  have := div_bd (x := v - o) (b := 2 ^ 1000 + 10 ^ 40) s0 (by omega) (by omega)
  unfold figM
  split <;> omega
section
variable {P : Program} {w : World} {K : PySem.W.Frag} {mg : Str → Option Value} {base : Heap} {aM fI fB fV fC fG fF : Addr} {dI dB dV dC dG dF : FuncData}
theorem ok_is_int {f : Addr} {fd : FuncData} (F : Fun K "is_int" "is_int" s_is_int f fd) (T : SideT K mg aM) : FnOk P w K mg base CX0 1 f fd ["thing"] spIsInt := by
  refine F.ok sc_is_int (fun vs H Q E h => ?_) (fun cdv A outer s H vs Q E hr h => ?_)
  · obtain ⟨i, rfl, _⟩ := h
    rfl
  · obtain ⟨i, rfl, q⟩ := h
    refine ⟨_, pss_one (ps_ret (pe_and (pe_callB call_isi (by rfl) T.isi (by decide +kernel) (pa_cons (pv 0) (pa_cons (pe_bltn (v := .ty "int") (by rfl) T.int (by decide +kernel) rfl) pa_nil)))
      (pe_one (pe_not (pe_callB call_isi (by rfl) T.isi (by decide +kernel) (pa_cons (pv 0) (pa_cons (pe_bltn (v := .ty "bool") (by rfl) T.bool (by decide +kernel) rfl) pa_nil))))))), ?_⟩
    walk_at "rd"
    refine ⟨_, _, _, _, _, rfl, .ty "int", .base (.int _), kit_ty (r := true) (by decide +kernel), ?_⟩
    walk_at "rd"
    refine ⟨_, _, _, _, _, rfl, .ty "bool", .base (.int _), kit_ty (r := false) (by decide +kernel), ?_⟩
    walk_at "rd"
    exact q
theorem ok_between {f : Addr} {fd : FuncData} (F : Fun K "is_int_between" "is_int_between" s_is_int_between f fd) (I : Cal P w K mg base "is_int" 1 ["thing"] spIsInt fI dI) : FnOk P w K mg base CX0 2 f fd ["thing", "least", "most"] spBetween := by
  refine F.ok sc_is_int_between (fun vs H Q E h => ?_) (fun cdv A outer s H vs Q E hr h => ?_)
  · obtain ⟨i, a, b, rfl, _⟩ := h
    rfl
  · obtain ⟨i, a, b, rfl, q⟩ := h
    refine ⟨_, pss_one (ps_ret (pe_and (pcl I hr (by decide) (by rfl) (pa_cons (pv 0) pa_nil)) (pe_one (pe_chain op_le op_le (pv 1) (pv 0) (pv 2))))), ?_⟩
    walk_at "rd"
    refine ite2 (fun h => ?_) (fun h => ?_)
    · walk_at "rd"
      rw [decide_eq_true (of_decide_eq_true h)] at q
      exact q
    · rw [decide_eq_false (of_decide_eq_false (by simpa using h))] at q
      exact q
theorem ok_check_value {f : Addr} {fd : FuncData} (F : Fun K "check_value" "check_value" s_check_value f fd) (I : Cal P w K mg base "is_int" 1 ["thing"] spIsInt fI dI) : FnOk P w K mg base CX0 2 f fd ["value"] spCheckValue := by
  refine F.ok sc_check_value (fun vs H Q E h => ?_) (fun cdv A outer s H vs Q E hr h => ?_)
  · obtain ⟨i, rfl, _⟩ := h
    rfl
  · obtain ⟨i, rfl, q⟩ := h
    refine ⟨_, pss_one (ps_if (pt_not (pt_val (pcl I hr (by decide) (by rfl) (pa_cons (pv 0) pa_nil)))) (pss_one ps_never) pss_nil), ?_⟩
    walk_at "rd"
    exact q
theorem ok_check_side {f : Addr} {fd : FuncData} (F : Fun K "check_side" "check_side" s_check_side f fd) (T : SideT K mg aM) (B : Cal P w K mg base "is_int_between" 2 ["thing", "least", "most"] spBetween fB dB) : FnOk P w K mg base CX0 3 f fd ["side"] spCheckSide := by
  refine F.ok sc_check_side (fun vs H Q E h => ?_) (fun cdv A outer s H vs Q E hr h => ?_)
  · obtain ⟨p, o, s, m, rfl, _⟩ := h
    rfl
  · obtain ⟨p, o, s, m, rfl, hp, S, q⟩ := h
    have nd := sc_check_side.nd
    refine ⟨_, pss_cons (ps_if (PW.pt (pw_or (pt_not (pt_val (pe_callB call_isi (by rfl) T.isi (by decide +kernel) (pa_cons (pv 0) (pa_cons (pe_bltn (v := .ty "tuple") (by rfl) T.tuple (by decide +kernel) rfl) pa_nil)))))
        (pw_or1 (pt_cmpR op_ne (pe_callB call_len_seq (by rfl) T.len PySem.boot_len (pa_cons (pv 0) pa_nil)) pe_int (nomark _))))) (pss_one ps_never) pss_nil)
      (pss_cons (ps_asg (pv 0) (pg_tup (by rfl) (pgs_cons (pg_name (i := 1) nd rfl (Or.inl rfl)) (pgs_cons (pg_name (i := 2) nd rfl (Or.inl rfl)) (pgs_cons (pg_name (i := 3) nd rfl (Or.inl rfl)) pgs_nil)))))
      (pss_cons (ps_if (pt_not (pt_val (pcl B hr (by decide) (by rfl) (pa_cons (pv 1) (pa_cons (pe_un un_neg (pe_op op_pow pe_int pe_int)) (pa_cons (pe_op op_pow pe_int pe_int) pa_nil)))))) (pss_one ps_never) pss_nil)
      (pss_cons (ps_if (pt_not (pt_val (pcl B hr (by decide) (by rfl) (pa_cons (pv 2) (pa_cons pe_int (pa_cons (pe_op op_pow pe_int pe_int) pa_nil)))))) (pss_one ps_never) pss_nil)
      (pss_one (ps_if (pt_cmpR op_notIn_seq (pv 3) (pe_glob (v := .ref aM) (by rfl) T.gM rfl) (by rfl)) (pss_one ps_never) pss_nil))))), ?_⟩
    walk_at "rd"
    refine ⟨_, _, _, _, _, rfl, .ty "tuple", .base (.tup hp), kit_ty (r := true) (by decide +kernel), ?_⟩
    walk_at "rd"
    refine ⟨p, _, rfl, .inr (SqT.of hp), rfl, ?_⟩
    walk_at "rd"
    refine ⟨p, _, rfl, SqT.of hp, rfl, _, _, rfl, _, _, rfl, _, _, rfl, rfl, ?_⟩
    walk_at "rd"
    refine ⟨⟨by decide, by decide, by decide⟩, ?_⟩
    walk_at "rd"
    refine ⟨⟨by decide, by decide, by decide⟩, _, _, _, rfl, ?_⟩
    have e1 : (decide (-(10 : Int) ^ (40 : Int).toNat ≤ o) && decide (o ≤ (10 : Int) ^ (40 : Int).toNat)) = true := by
      rw [decide_eq_true (show -(10 : Int) ^ (40 : Int).toNat ≤ o from S.o0), decide_eq_true (show o ≤ (10 : Int) ^ (40 : Int).toNat from S.o1)]
      rfl
    refine ⟨_, rfl, ?_⟩
    refine ite2 (fun h => (not_t h e1).elim) (fun _ => ?_)
    walk_at "rd"
    refine ⟨⟨by decide, by decide, by decide⟩, _, _, _, rfl, ?_⟩
    have e2 : (decide ((1 : Int) ≤ s) && decide (s ≤ (10 : Int) ^ (30 : Int).toNat)) = true := by
      rw [decide_eq_true S.s0, decide_eq_true (show s ≤ (10 : Int) ^ (30 : Int).toNat from S.s1)]
      rfl
    refine ⟨_, rfl, ?_⟩
    refine ite2 (fun h => (not_t h e2).elim) (fun _ => ?_)
    walk_at "rd"
    refine ⟨aM, _, rfl, .inr (T.tM H), rfl, by decide, ?_⟩
    walk_at "rd"
    refine ite2 (fun h => (not_t h (mode_in S.md)).elim) (fun _ => ?_)
    exact q
end
end HT
namespace HT
open PySem L2
section
variable {P : Program} {w : World} {K : PySem.W.Frag} {mg : Str → Option Value} {base : Heap} {aM fI fB fV fC fG fF : Addr} {dI dB dV dC dG dF : FuncData}
theorem ok_goes_up {f : Addr} {fd : FuncData} (F : Fun K "_goes_up" "_goes_up" s_goes_up f fd) : FnOk P w K mg base CX0 1 f fd ["mode", "step", "figure", "rest"] spGo := by
  refine F.ok sc_goes_up (fun vs H Q E h => ?_) (fun cdv A outer s H vs Q E hr h => ?_)
  · obtain ⟨m, s, q, r, rfl, _⟩ := h
    rfl
  · obtain ⟨m, s, fg, r, rfl, q⟩ := h
    refine ⟨_, pss_cons (ps_if (pt_cmpR op_eq (pv 0) pe_str (nomark _)) (pss_one (ps_ret pe_bl)) pss_nil)
      (pss_cons (ps_if (pt_cmpR op_eq (pv 0) pe_str (nomark _)) (pss_one (ps_ret (pe_cmpR op_gt (pv 3) pe_int (nomark _)))) pss_nil)
      (pss_cons (ps_if (pt_cmpR op_ne (pe_op op_mul pe_int (pv 3)) (pv 1) (nomark _)) (pss_one (ps_ret (pe_cmpR op_gt (pe_op op_mul pe_int (pv 3)) (pv 1) (nomark _)))) pss_nil)
      (pss_cons (ps_if (pt_cmpR op_eq (pv 0) pe_str (nomark _)) (pss_one (ps_ret (pe_cmpR op_eq (pe_op op_mod (pv 2) pe_int) pe_int (nomark _)))) pss_nil)
      (pss_one (ps_ret (pe_cmpR op_eq (pv 0) pe_str (nomark _))))))), ?_⟩
    unfold goesUp at q
    walk_at "rd"
    refine ⟨rfl, ?_⟩
    walk_at "rd"
    refine ite2 (fun h => ?_) (fun h1 => ?_)
    · rw [if_pos (str_t h)] at q
      exact q
    rw [if_neg (str_f h1)] at q
    walk_at "rd"
    refine ⟨rfl, ?_⟩
    walk_at "rd"
    refine ite2 (fun h => ?_) (fun h2 => ?_)
    · rw [if_pos (str_t h)] at q
      walk_at "rd"
      exact q
    rw [if_neg (str_f h2)] at q
    walk_at "rd"
    refine ⟨.inl ⟨by decide, by decide⟩, ?_⟩
    walk_at "rd"
    refine ⟨rfl, ?_⟩
    walk_at "rd"
    refine ite2 (fun h => ?_) (fun h3 => ?_)
    · rw [if_neg (int_f (not_t h))] at q
      walk_at "rd"
      refine ⟨.inl ⟨by decide, by decide⟩, ?_⟩
      walk_at "rd"
      exact q
    rw [if_pos (int_t (not_f h3))] at q
    walk_at "rd"
    refine ⟨rfl, ?_⟩
    walk_at "rd"
    refine ite2 (fun h => ?_) (fun h4 => ?_)
    · rw [if_pos (str_t h), ← dec_int] at q
      walk_at "rd"
      refine ⟨(by show (0 : Int) < 2; decide), ?_⟩
      walk_at "rd"
      exact ⟨rfl, q⟩
    · rw [if_neg (str_f h4), ← dec_str] at q
      walk_at "rd"
      exact ⟨rfl, q⟩
theorem ok_figure {f : Addr} {fd : FuncData} (F : Fun K "_figure" "_figure" s_figure f fd) (T : SideT K mg aM)
    (G : Cal P w K mg base "_goes_up" 1 ["mode", "step", "figure", "rest"] spGo fG dG) : FnOk P w K mg base CX0 2 f fd ["side", "value"] spFig := by
  refine F.ok sc_figure (fun vs H Q E h => ?_) (fun cdv A outer s H vs Q E hr h => ?_)
  · obtain ⟨p, o, s, m, v, rfl, _⟩ := h
    rfl
  · obtain ⟨p, o, s, m, v, rfl, hp, S, hv, q⟩ := h
    have nd := sc_figure.nd
    refine ⟨_, pss_cons (ps_asg (pv 0) (pg_tup (by rfl) (pgs_cons (pg_name (i := 2) nd rfl (Or.inl rfl)) (pgs_cons (pg_name (i := 3) nd rfl (Or.inl rfl)) (pgs_cons (pg_name (i := 4) nd rfl (Or.inl rfl)) pgs_nil)))))
      (pss_cons (ps_asg (pe_callB call_divmodW (by rfl) T.dm (by decide +kernel) (pa_cons (pe_op op_sub (pv 1) (pv 2)) (pa_cons (pv 3) pa_nil))) (pg_tup (by rfl) (pgs_cons (pg_name (i := 5) nd rfl (Or.inl rfl)) (pgs_cons (pg_name (i := 6) nd rfl (Or.inl rfl)) pgs_nil))))
      (pss_cons (ps_if (pt_val (pcl G hr (by decide) (by rfl) (pa_cons (pv 4) (pa_cons (pv 3) (pa_cons (pv 5) (pa_cons (pv 6) pa_nil)))))) (pss_one (ps_ret (pe_op op_add (pv 5) pe_int))) pss_nil)
      (pss_one (ps_ret (pv 5))))), ?_⟩
    walk_at "rd"
    refine ⟨p, _, rfl, SqT.of hp, rfl, _, _, rfl, _, _, rfl, _, _, rfl, rfl, ?_⟩
    walk_at "rd"
    refine ⟨_, _, rfl, divp S.s0 ⟨S.o0, S.o1⟩ hv, fun d nd' => ?_⟩
    refine ⟨d, _, rfl, SqT.of upd_same, rfl, _, _, rfl, _, _, rfl, rfl, ?_⟩
    have sm : Same H (upd H d (.tup [.int ((v - o) / s), .int ((v - o) % s)])) := fun b u z => by rw [upd_ne (ne_of_none z nd')]; exact z
    have q' : Q (.int (figM o s m v)) (upd H d (.tup [.int ((v - o) / s), .int ((v - o) % s)])) := q _ sm
    unfold figM at q'
    walk_at "rd"
    refine ⟨_, _, _, _, rfl, ?_⟩
    walk_at "rd"
    refine ite2 (fun h => ?_) (fun h => ?_)
    · rw [if_pos h] at q'
      walk_at "rd"
      exact q'
    · rw [if_neg h] at q'
      walk_at "rd"
      exact q'
end
end HT
namespace HT
open PySem L2
section
variable {P : Program} {w : World} {K : PySem.W.Frag} {mg : Str → Option Value} {base : Heap} {fF : Addr} {dF : FuncData}
theorem ok_written {f : Addr} {fd : FuncData} (F : Fun K "written" "written" s_written f fd) (G : Cal P w K mg base "_figure" 2 ["side", "value"] spFig fF dF) : FnOk P w K mg base CX0 3 f fd ["side", "value"] spDue := by
  refine F.ok sc_written (fun vs H Q E h => ?_) (fun cdv A outer s H vs Q E hr h => ?_)
  · obtain ⟨p, o, s, m, v, rfl, _⟩ := h
    rfl
  · obtain ⟨p, o, s, m, v, rfl, hp, S, hv, q⟩ := h
    have nd := sc_written.nd
    refine ⟨_, pss_cons (ps_asg (pv 0) (pg_tup (by rfl) (pgs_cons (pg_name (i := 2) nd rfl (Or.inl rfl)) (pgs_cons (pg_name (i := 3) nd rfl (Or.inl rfl)) (pgs_cons (pg_name (i := 4) nd rfl (Or.inl rfl)) pgs_nil)))))
      (pss_one (ps_ret (pe_op op_add (pv 2) (pe_op op_mulW (pv 3) (pcl G hr (by decide) (by rfl) (pa_cons (pv 0) (pa_cons (pv 1) pa_nil))))))), ?_⟩
    walk_at "rd"
    refine ⟨p, _, rfl, SqT.of hp, rfl, _, _, rfl, _, _, rfl, _, _, rfl, rfl, ?_⟩
    walk_at "rd"
    refine ⟨p, o, s, m, v, rfl, hp, S, hv, fun H' sm => ?_⟩
    walk_at "rd"
    have b1 := fig_bd S hv
    have b2 := S.s0
    have b3 := S.s1
    refine ⟨mulW (by omega) (by omega), ?_⟩
    walk_at "rd"
    exact q H' sm
end
end HT
namespace HT
open PySem L2
structure MirT (K : PySem.W.Frag) (w : World) (mg : Str → Option Value) (aR : Addr) : Prop where
  gR : mg "MIRRORED" = some (.ref aR)
  dR : ∀ m, Mode m → KDct K w aR m (.str (mir m))
def BdK (x : Int) : Prop := -2 ^ 720 < x ∧ x < 2 ^ 720
def spBelow : Sp := fun vs H Q _ => ∃ (m : Str) (s k : Int), vs = [.str m, .int s, .int k] ∧ Mode m ∧ Q (.int (below m s k)) H
def spSpan : Sp := fun vs H Q _ => ∃ (p : Addr) (o s : Int) (m : Str) (k : Int), vs = [.ref p, .int k] ∧ H p = some (sideV o s m) ∧ SideP o s m ∧ BdK k ∧
  ∀ (d : Addr) (H' : Hp), Same H H' → H d = none → H' d = some (.tup [.int (lowM o s m k), .int (highM o s m k)]) → Q (.ref d) H'
def spBack : Sp := fun vs H Q _ => ∃ (p : Addr) (o s : Int) (m : Str) (v : Int), vs = [.ref p, .int v] ∧ H p = some (sideV o s m) ∧ SideP o s m ∧ -2 ^ 700 < v ∧ v < 2 ^ 700 ∧
  ∀ H' : Hp, Same H H' → Q (.int (backM o s m v)) H'
theorem bdK_bd {x : Int} (h : BdK x) : Bd x := by
  unfold BdK at h
  unfold Bd
  omega
section
variable {P : Program} {w : World} {K : PySem.W.Frag} {mg : Str → Option Value} {base : Heap} {aM aR fV fC fB fS : Addr} {dV dC dB dS : FuncData}
theorem ok_below {f : Addr} {fd : FuncData} (F : Fun K "_below" "_below" s_below f fd) : FnOk P w K mg base CX0 1 f fd ["mode", "step", "figure"] spBelow := by
  refine F.ok sc_below (fun vs H Q E h => ?_) (fun cdv A outer s H vs Q E hr h => ?_)
  · obtain ⟨m, s, k, rfl, _⟩ := h
    rfl
  · obtain ⟨m, s, k, rfl, hm, q⟩ := h
    refine ⟨_, pss_cons (ps_if (pt_cmpR op_eq (pv 0) pe_str (nomark _)) (pss_one (ps_ret pe_int)) pss_nil)
      (pss_cons (ps_if (pt_cmpR op_eq (pv 0) pe_str (nomark _)) (pss_one (ps_ret (pe_op op_sub (pv 1) pe_int))) pss_nil)
      (pss_cons (ps_if (PW.pt (pw_or (pt_cmpR op_eq (pv 0) pe_str (nomark _)) (pw_or1 (PW.pt (pw_and (pt_cmpR op_eq (pv 0) pe_str (nomark _)) (pw_and1 (pt_cmpR op_eq (pe_op op_mod (pv 2) pe_int) pe_int (nomark _)))))))) (pss_one (ps_ret (pe_op op_fdiv (pv 1) pe_int))) pss_nil)
      (pss_one (ps_ret (pe_op op_fdiv (pe_op op_sub (pv 1) pe_int) pe_int))))), ?_⟩
    have d2 : ∀ (i : Int), CDiv i 2 := fun _ => ⟨by decide, by decide⟩
    unfold below at q
    walk_at "rd"
    refine ⟨rfl, ?_⟩
    walk_at "rd"
    refine ite2 (fun h => ?_) (fun h1 => ?_)
    · rw [if_pos (str_t h)] at q
      walk_at "rd"
      exact q
    rw [if_neg (str_f h1)] at q
    walk_at "rd"
    refine ⟨rfl, ?_⟩
    walk_at "rd"
    refine ite2 (fun h => ?_) (fun h2 => ?_)
    · rw [if_pos (str_t h)] at q
      walk_at "rd"
      exact q
    rw [if_neg (str_f h2)] at q
    walk_at "rd"
    refine ⟨rfl, ?_⟩
    walk_at "rd"
    refine ite2 (fun h => ?_) (fun h3 => ?_)
    · rw [if_pos (.inl (str_t h))] at q
      walk_at "rd"
      refine ⟨d2 _, ?_⟩
      walk_at "rd"
      exact q
    walk_at "rd"
    refine ⟨rfl, ?_⟩
    walk_at "rd"
    refine ite2 (fun h => ?_) (fun h4 => ?_)
    · walk_at "rd"
      refine ⟨(by show (0 : Int) < 2; decide), ?_⟩
      walk_at "rd"
      refine ⟨rfl, ?_⟩
      walk_at "rd"
      refine ite2 (fun g => ?_) (fun g => ?_)
      · rw [if_pos (.inr ⟨str_t h, int_t g⟩)] at q
        walk_at "rd"
        refine ⟨d2 _, ?_⟩
        walk_at "rd"
        exact q
      · rw [if_neg (by rintro (z | ⟨_, z⟩); exact str_f h3 z; exact int_f g z)] at q
        walk_at "rd"
        refine ⟨d2 _, ?_⟩
        walk_at "rd"
        exact q
    · rw [if_neg (by rintro (z | ⟨z, _⟩); exact str_f h3 z; exact str_f h4 z)] at q
      walk_at "rd"
      refine ⟨d2 _, ?_⟩
      walk_at "rd"
      exact q
theorem ok_uspan {f : Addr} {fd : FuncData} (F : Fun K "_span" "_span" s_uspan f fd) (R : MirT K w mg aR)
    (B : Cal P w K mg base "_below" 1 ["mode", "step", "figure"] spBelow fB dB) : FnOk P w K mg base CX0 2 f fd ["side", "figure"] spSpan := by
  refine F.ok sc_uspan (fun vs H Q E h => ?_) (fun cdv A outer s H vs Q E hr h => ?_)
  · obtain ⟨p, o, s, m, k, rfl, _⟩ := h
    rfl
  · obtain ⟨p, o, s, m, k, rfl, hp, S, hk, q⟩ := h
    have nd := sc_uspan.nd
    refine ⟨_, pss_cons (ps_asg (pv 0) (pg_tup (by rfl) (pgs_cons (pg_name (i := 2) nd rfl (Or.inl rfl)) (pgs_cons (pg_name (i := 3) nd rfl (Or.inl rfl)) (pgs_cons (pg_name (i := 4) nd rfl (Or.inl rfl)) pgs_nil)))))
      (pss_cons (ps_set (i := 5) nd rfl (Or.inl rfl) (pe_op op_add (pv 2) (pe_op op_mulW (pv 3) (pv 1))))
      (pss_one (ps_ret (pe_tup (pa_cons (pe_op op_sub (pv 5) (pcl B hr (by decide) (by rfl) (pa_cons (pv 4) (pa_cons (pv 3) (pa_cons (pv 1) pa_nil)))))
        (pa_cons (pe_op op_add (pv 5) (pcl B hr (by decide) (by rfl) (pa_cons (pe_ix ix_kdict (pe_glob (v := .ref aR) (by rfl) R.gR rfl) (pv 4) (fun _ _ => rfl)) (pa_cons (pv 3) (pa_cons (pv 1) pa_nil))))) pa_nil)))))), ?_⟩
    walk_at "rd"
    refine ⟨p, _, rfl, SqT.of hp, rfl, _, _, rfl, _, _, rfl, _, _, rfl, rfl, ?_⟩
    have s0 := S.s0
    have s1 := S.s1
    have hk' := hk
    unfold BdK at hk'
    walk_at "rd"
    refine ⟨mulW (by omega) (by omega), ?_⟩
    walk_at "rd"
    refine ⟨m, s, k, rfl, S.md, ?_⟩
    walk_at "rd"
    refine ⟨aR, m, _, rfl, rfl, R.dR m S.md, ?_⟩
    walk_at "rd"
    refine ⟨mir m, s, k, rfl, mir_mode S.md, ?_⟩
    walk_at "rd"
    refine ⟨(by show 2 ≤ sizeLine; decide), fun d nd' => ?_⟩
    exact q d _ (fun b u z => (upd_ne (ne_of_none z nd')).trans z) nd' upd_same
theorem ok_span {f : Addr} {fd : FuncData} (F : Fun K "span" "span" s_span f fd) (C : Cal P w K mg base "check_side" 3 ["side"] spCheckSide fC dC) (V' : Cal P w K mg base "check_value" 2 ["value"] spCheckValue fV dV)
    (G : Cal P w K mg base "_span" 2 ["side", "figure"] spSpan fS dS) : FnOk P w K mg base CX0 4 f fd ["side", "figure"] spSpan := by
  refine F.ok sc_span (fun vs H Q E h => ?_) (fun cdv A outer s H vs Q E hr h => ?_)
  · obtain ⟨p, o, s, m, v, rfl, _⟩ := h
    rfl
  · obtain ⟨p, o, s, m, v, rfl, hp, S, q⟩ := h
    refine ⟨_, pss_cons (ps_expr (pcl C hr (by decide) (by rfl) (pa_cons (pv 0) pa_nil)))
      (pss_cons (ps_expr (pcl V' hr (by decide) (by rfl) (pa_cons (pv 1) pa_nil)))
      (pss_one (ps_ret (pcl G hr (by decide) (by rfl) (pa_cons (pv 0) (pa_cons (pv 1) pa_nil)))))), ?_⟩
    walk_at "rd"
    refine ⟨p, o, s, m, rfl, hp, S, ?_⟩
    walk_at "rd"
    exact ⟨p, o, s, m, v, rfl, hp, S, q⟩
theorem ok_threshold {f : Addr} {fd : FuncData} (F : Fun K "threshold" "threshold" s_threshold f fd) (B : Cal P w K mg base "_below" 1 ["mode", "step", "figure"] spBelow fB dB) : FnOk P w K mg base CX0 3 f fd ["side", "value"] spBack := by
  refine F.ok sc_threshold (fun vs H Q E h => ?_) (fun cdv A outer s H vs Q E hr h => ?_)
  · obtain ⟨p, o, s, m, v, rfl, _⟩ := h
    rfl
  · obtain ⟨p, o, s, m, v, rfl, hp, S, hv0, hv1, q⟩ := h
    have nd := sc_threshold.nd
    refine ⟨_, pss_cons (ps_asg (pv 0) (pg_tup (by rfl) (pgs_cons (pg_name (i := 2) nd rfl (Or.inl rfl)) (pgs_cons (pg_name (i := 3) nd rfl (Or.inl rfl)) (pgs_cons (pg_name (i := 4) nd rfl (Or.inl rfl)) pgs_nil)))))
      (pss_cons (ps_set (i := 5) nd rfl (Or.inl rfl) (pe_un un_neg (pe_op op_fdivW (pe_op op_sub (pv 2) (pv 1)) (pv 3))))
      (pss_one (ps_ret (pe_op op_sub (pe_op op_add (pv 2) (pe_op op_mulW (pv 3) (pv 5))) (pcl B hr (by decide) (by rfl) (pa_cons (pv 4) (pa_cons (pv 3) (pa_cons (pv 5) pa_nil)))))))), ?_⟩
    walk_at "rd"
    refine ⟨p, _, rfl, SqT.of hp, rfl, _, _, rfl, _, _, rfl, _, _, rfl, rfl, ?_⟩
    have s0 := S.s0
    have s1 := S.s1
    have o0 := S.o0
    have o1 := S.o1
    walk_at "rd"
    refine ⟨fdiv_ok _ (by omega) (lg_big (by omega) (by omega)), ?_⟩
    walk_at "rd"
    have db := div_bd (x := o - v) (b := 2 ^ 701) s0 (by omega) (by omega)
    refine ⟨mulW (by omega) (by omega), ?_⟩
    walk_at "rd"
    refine ⟨m, s, ceilM o s v, rfl, S.md, ?_⟩
    walk_at "rd"
    exact q H (fun _ _ z => z)
end
end HT
namespace HT
open PySem L2
/-! ### mirrors and forms -/
theorem mir_mir {m : Str} (h : Mode m) : mir (mir m) = m := by
  rcases h with e | e | e | e | e <;> subst e
  · rw [mir_d, mir_u]
  · rw [mir_u, mir_d]
  · rw [mir_hd, mir_hu]
  · rw [mir_hu, mir_hd]
  · rw [mir_he, mir_he]
theorem below_neg {m : Str} {s : Int} (k : Int) (h : Mode m) : below m s (-k) = below m s k := by
  rcases h with e | e | e | e | e <;> subst e
  · rw [be_d, be_d]
  · rw [be_u, be_u]
  · rw [be_hd, be_hd]
  · rw [be_hu, be_hu]
  · rw [be_he, be_he]; split <;> split <;> omega
theorem due_mirror {o s : Int} {m : Str} {v : Int} (h : Mode m) (hs : 1 ≤ s) : dueM (-o) s (mir m) (-v) = -dueM o s m v := by
  have f := (fig_iff (o := o) (v := v) (k := figM o s m v) h hs).mp rfl
  generalize figM o s m v = k at f
  have e : figM o s m v = k := (fig_iff h hs).mpr f
  have e2 : figM (-o) s (mir m) (-v) = -k := by
    refine (fig_iff (mir_mode h) hs).mpr ?_
    unfold lowM highM at f ⊢
    rw [mir_mir h, below_neg k h, below_neg k (mir_mode h), Int.mul_neg]
    omega
  unfold dueM
  rw [e, e2, Int.mul_neg]
  omega
def firstM (s : Int) (m : Str) : Str := if s = 1 then "down" else if s = 2 ∧ m = "half_down" then "down" else if s = 2 ∧ m = "half_up" then "up" else if s % 2 = 1 ∧ (m = "half_up" ∨ m = "half_even") then "half_down" else m
def formO (o s : Int) (f : Str) : Int := if f = "half_even" then o % (2 * s) else o % s
def ordM (m : Str) : Nat := if m = "down" then 0 else if m = "up" then 1 else if m = "half_down" then 2 else if m = "half_up" then 3 else 4
theorem ord_d : ordM "down" = 0 := by unfold ordM; rw [if_pos rfl]
theorem ord_u : ordM "up" = 1 := by unfold ordM; rw [if_neg d_u, if_pos rfl]
theorem ord_hd : ordM "half_down" = 2 := by unfold ordM; rw [if_neg hd_d, if_neg hd_u, if_pos rfl]
theorem ord_hu : ordM "half_up" = 3 := by unfold ordM; rw [if_neg hu_d, if_neg hu_u, if_neg hu_hd, if_pos rfl]
theorem ord_he : ordM "half_even" = 4 := by unfold ordM; rw [if_neg he_d, if_neg he_u, if_neg he_hd, if_neg he_hu]
theorem u_hu : ¬ (("up" : Str) = "half_up") := by decide +kernel
theorem u_he : ¬ (("up" : Str) = "half_even") := by decide +kernel
theorem dn_hd : ¬ (("down" : Str) = "half_down") := by decide +kernel
theorem dn_hu : ¬ (("down" : Str) = "half_up") := by decide +kernel
theorem dn_he : ¬ (("down" : Str) = "half_even") := by decide +kernel
theorem dn_u : ¬ (("down" : Str) = "up") := by decide +kernel
/-- the first modes, mode by mode -/
theorem fi_one (m : Str) : firstM 1 m = "down" := by unfold firstM; rw [if_pos rfl]
theorem fi_d (s : Int) : firstM s "down" = "down" := by
  unfold firstM
  by_cases h : s = 1
  · rw [if_pos h]
  · rw [if_neg h, if_neg (fun z => dn_hd z.2), if_neg (fun z => dn_hu z.2), if_neg (fun z => z.2.elim dn_hu dn_he)]
theorem fi_u {s : Int} (h : s ≠ 1) : firstM s "up" = "up" := by
  unfold firstM
  rw [if_neg h, if_neg (fun z => u_hd z.2), if_neg (fun z => u_hu z.2), if_neg (fun z => z.2.elim u_hu u_he)]
theorem fi_hd2 : firstM 2 "half_down" = "down" := by unfold firstM; rw [if_neg (by decide), if_pos ⟨rfl, rfl⟩]
theorem fi_hd {s : Int} (h : s ≠ 1) (h2 : s ≠ 2) : firstM s "half_down" = "half_down" := by
  unfold firstM
  rw [if_neg h, if_neg (fun z => h2 z.1), if_neg (fun z => h2 z.1), if_neg (fun z => z.2.elim hd_hu hd_e)]
theorem fi_hu2 : firstM 2 "half_up" = "up" := by unfold firstM; rw [if_neg (by decide), if_neg (fun z => hu_hd z.2), if_pos ⟨rfl, rfl⟩]
theorem fi_huO {s : Int} (h : s ≠ 1) (h2 : s % 2 = 1) : firstM s "half_up" = "half_down" := by
  unfold firstM
  rw [if_neg h, if_neg (fun z => hu_hd z.2), if_neg (fun z => by have := z.1; omega), if_pos ⟨h2, .inl rfl⟩]
theorem fi_huE {s : Int} (h : s ≠ 2) (h2 : s % 2 = 0) : firstM s "half_up" = "half_up" := by
  unfold firstM
  rw [if_neg (by omega), if_neg (fun z => hu_hd z.2), if_neg (fun z => h z.1), if_neg (fun z => by have := z.1; omega)]
theorem fi_heO {s : Int} (h : s ≠ 1) (h2 : s % 2 = 1) : firstM s "half_even" = "half_down" := by
  unfold firstM
  rw [if_neg h, if_neg (fun z => he_hd z.2), if_neg (fun z => he_hu z.2), if_pos ⟨h2, .inr rfl⟩]
theorem fi_heE {s : Int} (h2 : s % 2 = 0) : firstM s "half_even" = "half_even" := by
  unfold firstM
  rw [if_neg (by omega), if_neg (fun z => he_hd z.2), if_neg (fun z => he_hu z.2), if_neg (fun z => by have := z.1; omega)]
/-- what is known of the first mode -/
structure FirstP (s : Int) (m : Str) : Prop where
  md : Mode (firstM s m)
  id : firstM s (firstM s m) = firstM s m
  od : ordM (firstM s m) ≤ ordM m
  go : ∀ q r, 0 ≤ r → r < s → goesUp (firstM s m) s q r = goesUp m s q r
  ev : firstM s m = "half_even" → s % 2 = 0
theorem first_ok {s : Int} {m : Str} (h : Mode m) (hs : 1 ≤ s) : FirstP s m := by
  have D : Mode "down" := .inl rfl
  have U : Mode "up" := .inr (.inl rfl)
  have HD : Mode "half_down" := .inr (.inr (.inl rfl))
  by_cases s1 : s = 1
  · subst s1
    refine ⟨by rw [fi_one]; exact D, by rw [fi_one, fi_one], by rw [fi_one, ord_d]; omega, fun q r r0 r1 => ?_, by rw [fi_one]; exact fun z => (dn_he z).elim⟩
    have : r = 0 := by omega
    subst this
    rw [fi_one, go_zero D (by decide), go_zero h (by decide)]
  rcases h with e | e | e | e | e <;> subst e
  · exact ⟨by rw [fi_d]; exact D, by rw [fi_d, fi_d], by rw [fi_d]; omega, fun q r _ _ => by rw [fi_d], by rw [fi_d]; exact fun z => (dn_he z).elim⟩
  · exact ⟨by rw [fi_u s1]; exact U, by rw [fi_u s1, fi_u s1], by rw [fi_u s1]; omega, fun q r _ _ => by rw [fi_u s1], by rw [fi_u s1]; exact fun z => (u_he z).elim⟩
  · by_cases s2 : s = 2
    · subst s2
      refine ⟨by rw [fi_hd2]; exact D, by rw [fi_hd2, fi_d], by rw [fi_hd2, ord_d]; omega, fun q r r0 r1 => ?_, by rw [fi_hd2]; exact fun z => (dn_he z).elim⟩
      rw [fi_hd2, go_down, go_hd, decide_eq_false (by omega)]
    · exact ⟨by rw [fi_hd s1 s2]; exact HD, by rw [fi_hd s1 s2, fi_hd s1 s2], by rw [fi_hd s1 s2]; omega, fun q r _ _ => by rw [fi_hd s1 s2], by rw [fi_hd s1 s2]; exact fun z => (hd_e z).elim⟩
  · by_cases s2 : s = 2
    · subst s2
      refine ⟨by rw [fi_hu2]; exact U, by rw [fi_hu2, fi_u s1], by rw [fi_hu2, ord_u, ord_hu]; omega, fun q r r0 r1 => ?_, by rw [fi_hu2]; exact fun z => (u_he z).elim⟩
      rw [fi_hu2, go_up, go_hu]
      exact decide_eq_decide.mpr (by omega)
    · by_cases od : s % 2 = 1
      · refine ⟨by rw [fi_huO s1 od]; exact HD, by rw [fi_huO s1 od, fi_hd s1 s2], by rw [fi_huO s1 od, ord_hd, ord_hu]; omega, fun q r r0 r1 => ?_, by rw [fi_huO s1 od]; exact fun z => (hd_e z).elim⟩
        rw [fi_huO s1 od, go_hd, go_hu]
        exact decide_eq_decide.mpr (by omega)
      · have ev : s % 2 = 0 := by omega
        exact ⟨by rw [fi_huE s2 ev]; exact .inr (.inr (.inr (.inl rfl))), by rw [fi_huE s2 ev, fi_huE s2 ev], by rw [fi_huE s2 ev]; omega, fun q r _ _ => by rw [fi_huE s2 ev], by rw [fi_huE s2 ev]; exact fun z => (hu_e z).elim⟩
  · by_cases od : s % 2 = 1
    · refine ⟨by rw [fi_heO s1 od]; exact HD, by rw [fi_heO s1 od, fi_hd s1 (by omega)], by rw [fi_heO s1 od, ord_hd, ord_he]; omega, fun q r r0 r1 => ?_, by rw [fi_heO s1 od]; exact fun z => (hd_e z).elim⟩
      rw [fi_heO s1 od, go_hd, go_he, decide_eq_false (show ¬ 2 * r = s by omega), Bool.false_and, Bool.or_false]
    · have ev : s % 2 = 0 := by omega
      exact ⟨by rw [fi_heE ev]; exact .inr (.inr (.inr (.inr rfl))), by rw [fi_heE ev, fi_heE ev], by rw [fi_heE ev]; omega, fun q r _ _ => by rw [fi_heE ev], fun _ => ev⟩
theorem go_shift {m : Str} {s q r j : Int} (h : Mode m) (hj : m ≠ "half_even" ∨ j % 2 = 0) : goesUp m s (q + j) r = goesUp m s q r := by
  rcases h with e | e | e | e | e <;> subst e
  · rw [go_down, go_down]
  · rw [go_up, go_up]
  · rw [go_hd, go_hd]
  · rw [go_hu, go_hu]
  · have z : j % 2 = 0 := hj.resolve_left (fun z => z rfl)
    rw [go_he, go_he, show (q + j) % 2 = q % 2 by omega]
/-- an offset moved by whole steps, by two of them for the even -/
theorem due_shift {o s j : Int} {m : Str} {v : Int} (h : Mode m) (hs : 1 ≤ s) (hj : m ≠ "half_even" ∨ j % 2 = 0) : dueM (o + s * j) s m v = dueM o s m v := by
  have F := fig_of (o := o + s * j) (m := m) (v := v) hs
  generalize (v - (o + s * j)) / s = q at F
  generalize (v - (o + s * j)) % s = r at F
  generalize hk : figM (o + s * j) s m v = k at F
  obtain ⟨eq, r0, r1, wh⟩ := F
  have e : figM o s m v = k + j := by
    refine fig_uniq (q := q + j) (r := r) hs ⟨by rw [Int.mul_add]; omega, r0, r1, ?_⟩
    rw [go_shift h hj]
    rcases wh with ⟨g, e⟩ | ⟨g, e⟩
    · exact .inl ⟨g, by omega⟩
    · exact .inr ⟨g, by omega⟩
  unfold dueM
  rw [e, hk, Int.mul_add]
  omega
theorem due_go {o s : Int} {m m' : Str} {v : Int} (hs : 1 ≤ s) (h : ∀ q r, 0 ≤ r → r < s → goesUp m s q r = goesUp m' s q r) : dueM o s m v = dueM o s m' v := by
  unfold dueM figM
  rw [h _ _ (Int.emod_nonneg _ (by omega)) (Int.emod_lt_of_pos _ (by omega))]
theorem due_form {o s : Int} {m : Str} (v : Int) (h : Mode m) (hs : 1 ≤ s) : dueM (formO o s (firstM s m)) s (firstM s m) v = dueM o s m v := by
  have P := first_ok h hs
  rw [← due_go hs P.go]
  unfold formO
  by_cases e : firstM s m = "half_even"
  · rw [if_pos e]
    have a := Int.mul_ediv_add_emod o (2 * s)
    have b : o % (2 * s) = o + s * (-(2 * (o / (2 * s)))) := by
      rw [Int.mul_neg, ← Int.mul_assoc, Int.mul_comm s 2]
      omega
    rw [b]
    exact due_shift P.md hs (.inr (by omega))
  · rw [if_neg e]
    have a := Int.mul_ediv_add_emod o s
    have b : o % s = o + s * (-(o / s)) := by
      rw [Int.mul_neg]
      omega
    rw [b]
    exact due_shift P.md hs (.inl e)
theorem form_bd {o s : Int} {f : Str} (hs : 1 ≤ s) : 0 ≤ formO o s f ∧ formO o s f < 2 * s ∧ (f ≠ "half_even" → formO o s f < s) := by
  unfold formO
  by_cases e : f = "half_even"
  · rw [if_pos e]
    exact ⟨Int.emod_nonneg _ (by omega), Int.emod_lt_of_pos _ (by omega), fun z => absurd e z⟩
  · rw [if_neg e]
    have := Int.emod_lt_of_pos o (show 0 < s by omega)
    exact ⟨Int.emod_nonneg _ (by omega), by omega, fun _ => this⟩
theorem form_idem {o s : Int} {f : Str} : formO (formO o s f) s f = formO o s f := by
  unfold formO
  by_cases e : f = "half_even"
  · rw [if_pos e, if_pos e, Int.emod_emod_of_dvd _ (Int.dvd_refl _)]
  · rw [if_neg e, if_neg e, Int.emod_emod_of_dvd _ (Int.dvd_refl _)]
/-- a value told by its figure and rest -/
theorem due_at {o s q r : Int} {m : Str} (hs : 1 ≤ s) (r0 : 0 ≤ r) (r1 : r < s) : dueM o s m (o + s * q + r) = o + s * q + (if goesUp m s q r = true then s else 0) := by
  unfold dueM
  by_cases g : goesUp m s q r = true
  · rw [fig_uniq (q := q) (r := r) (k := q + 1) hs ⟨by omega, r0, r1, .inl ⟨g, rfl⟩⟩, if_pos g, Int.mul_add]
    omega
  · have g' : goesUp m s q r = false := by cases h : goesUp m s q r <;> simp_all
    rw [fig_uniq (q := q) (r := r) (k := q) hs ⟨by omega, r0, r1, .inr ⟨g', rfl⟩⟩, if_neg g]
    omega
end HT
namespace HT
open PySem L2
def spMirror : Sp := fun vs H Q _ => ∃ (p : Addr) (o s : Int) (m : Str), vs = [.ref p] ∧ H p = some (sideV o s m) ∧ SideP o s m ∧
  ∀ (d : Addr) (H' : Hp), Same H H' → H d = none → H' d = some (sideV (-o) s (mir m)) → Q (.ref d) H'
def spFirst : Sp := fun vs H Q _ => ∃ (s : Int) (m : Str), vs = [.int s, .str m] ∧ 1 ≤ s ∧ Mode m ∧ ∀ H' : Hp, Same H H' → Q (.str (firstM s m)) H'
def spForm : Sp := fun vs H Q _ => ∃ (p : Addr) (o s : Int) (m : Str), vs = [.ref p] ∧ H p = some (sideV o s m) ∧ SideP o s m ∧
  ∀ (d : Addr) (H' : Hp), Same H H' → H d = none → H' d = some (sideV (formO o s (firstM s m)) s (firstM s m)) → Q (.ref d) H'
theorem side_mir {o s : Int} {m : Str} (S : SideP o s m) : SideP (-o) s (mir m) := by
  obtain ⟨o0, o1, s0, s1, md⟩ := S
  exact ⟨by omega, by omega, s0, s1, mir_mode md⟩
theorem side_form {o s : Int} {m : Str} (S : SideP o s m) : SideP (formO o s (firstM s m)) s (firstM s m) := by
  obtain ⟨o0, o1, s0, s1, md⟩ := S
  obtain ⟨a, b, _⟩ := form_bd (o := o) (f := firstM s m) s0
  exact ⟨by omega, by omega, s0, s1, (first_ok md s0).md⟩
theorem in_two (m : Str) : inV (.str m) [V.str "half_up", .str "half_even"] = decide (m = "half_up" ∨ m = "half_even") := by
  show (eqV (V.str "half_up") (V.str m) || (eqV (V.str "half_even") (V.str m) || false)) = _
  have e : ∀ a b : Str, eqV (V.str a) (V.str b) = decide (a = b) := fun a b => by
    show (a == b) = decide (a = b)
    by_cases h : a = b
    · rw [decide_eq_true h, h, beq_self_eq_true]
    · rw [decide_eq_false h]
      exact beq_eq_false_iff_ne.mpr h
  rw [e, e, Bool.or_false]
  by_cases a : m = "half_up"
  · rw [decide_eq_true a.symm, decide_eq_true (Or.inl a)]
    rfl
  · by_cases b : m = "half_even"
    · rw [decide_eq_true b.symm, decide_eq_true (Or.inr b), Bool.or_true]
    · rw [decide_eq_false (fun z => a z.symm), decide_eq_false (fun z => b z.symm), decide_eq_false (fun z => z.elim a b)]
      rfl
section
variable {P : Program} {w : World} {K : PySem.W.Frag} {mg : Str → Option Value} {base : Heap} {aM aR fV fC fB fS : Addr} {dV dC dB dS : FuncData}
theorem ok_mirror {f : Addr} {fd : FuncData} (F : Fun K "mirror" "mirror" s_mirror f fd) (R : MirT K w mg aR) (C : Cal P w K mg base "check_side" 3 ["side"] spCheckSide fC dC) : FnOk P w K mg base CX0 4 f fd ["side"] spMirror := by
  refine F.ok sc_mirror (fun vs H Q E h => ?_) (fun cdv A outer s H vs Q E hr h => ?_)
  · obtain ⟨p, o, s, m, rfl, _⟩ := h
    rfl
  · obtain ⟨p, o, s, m, rfl, hp, S, q⟩ := h
    have nd := sc_mirror.nd
    refine ⟨_, pss_cons (ps_expr (pcl C hr (by decide) (by rfl) (pa_cons (pv 0) pa_nil)))
      (pss_cons (ps_asg (pv 0) (pg_tup (by rfl) (pgs_cons (pg_name (i := 1) nd rfl (Or.inl rfl)) (pgs_cons (pg_name (i := 2) nd rfl (Or.inl rfl)) (pgs_cons (pg_name (i := 3) nd rfl (Or.inl rfl)) pgs_nil)))))
      (pss_one (ps_ret (pe_tup (pa_cons (pe_un un_neg (pv 1)) (pa_cons (pv 2) (pa_cons (pe_ix ix_kdict (pe_glob (v := .ref aR) (by rfl) R.gR rfl) (pv 3) (fun _ _ => rfl)) pa_nil))))))), ?_⟩
    walk_at "rd"
    refine ⟨p, o, s, m, rfl, hp, S, ?_⟩
    walk_at "rd"
    refine ⟨p, _, rfl, SqT.of hp, rfl, _, _, rfl, _, _, rfl, _, _, rfl, rfl, ?_⟩
    walk_at "rd"
    refine ⟨aR, m, _, rfl, rfl, R.dR m S.md, ?_⟩
    refine ⟨(by show 3 ≤ sizeLine; decide), fun d nd' => ?_⟩
    exact q d _ (fun b u z => (upd_ne (ne_of_none z nd')).trans z) nd' upd_same
end
end HT
namespace HT
open PySem L2
section
variable {P : Program} {w : World} {K : PySem.W.Frag} {mg : Str → Option Value} {base : Heap} {aM fD fP fG fL fA fF fH fS : Addr} {dD dP dG dL dA dF dH dS : FuncData}
end
end HT
namespace HT
open PySem L2
def spDiv : Sp := fun vs H Q _ => ∃ a b : Nat, vs = [.int (a : Int), .int (b : Int)] ∧ Q (.int ((Nat.gcd a b : Nat) : Int)) H
section
variable {P : Program} {w : World} {K : PySem.W.Frag} {mg : Str → Option Value} {base : Heap} {fW fF : Addr} {dW dF : FuncData}
end
end HT
namespace HT
open PySem L2
structure Sd where
  o : Int
  s : Int
  m : Str
/-- the list at l holds sides with these parts -/
structure SidesAt (H : Hp) (l : Addr) (xs : List V) (ss : List Sd) : Prop where
  hl : H l = some (.lst xs)
  len : xs.length = ss.length
  l1 : 1 ≤ ss.length
  l4 : ss.length ≤ 4
  at_ : ∀ (i : Nat) (d : Sd), ss[i]? = some d → ∃ p : Addr, xs[i]? = some (V.ref p) ∧ H p = some (sideV d.o d.s d.m) ∧ SideP d.o d.s d.m
theorem SidesAt.same {H H' : Hp} {l : Addr} {xs : List V} {ss : List Sd} (S : SidesAt H l xs ss) (e : Same H H') : SidesAt H' l xs ss :=
  ⟨e _ _ S.hl, S.len, S.l1, S.l4, fun i d h => let ⟨p, a, b, c⟩ := S.at_ i d h; ⟨p, a, e _ _ b, c⟩⟩
theorem SidesAt.oth {a c : Addr} {t : Nat} {H H' : Hp} {l : Addr} {xs : List V} {ss : List Sd} (S : SidesAt H l xs ss) (R : Src H a c t) (la : l ≠ a) (lc : l ≠ c) (e : Oth a c H H') : SidesAt H' l xs ss :=
  ⟨e _ _ S.hl la lc, S.len, S.l1, S.l4, fun i d h => let ⟨p, x, b, y⟩ := S.at_ i d h; let z := R.nt b; ⟨p, x, e _ _ b z.1 z.2, y⟩⟩
theorem SidesAt.item {H : Hp} {l : Addr} {xs : List V} {ss : List Sd} (S : SidesAt H l xs ss) {i : Nat} {y : V} (h : xs[i]? = some y) : ∃ d p, ss[i]? = some d ∧ y = .ref p ∧ H p = some (sideV d.o d.s d.m) ∧ SideP d.o d.s d.m := by
  have hi : i < ss.length := by have := (List.getElem?_eq_some_iff.mp h).1; rw [S.len] at this; exact this
  obtain ⟨p, e, hp, sp⟩ := S.at_ i ss[i] (List.getElem?_eq_getElem hi)
  rw [h] at e
  exact ⟨ss[i], p, List.getElem?_eq_getElem hi, Option.some.inj e, hp, sp⟩
/-- a side's period -/
def perM (s : Int) (m : Str) : Int := if m = "half_even" then 2 * s else s
theorem perM_bd {o s : Int} {m : Str} (S : SideP o s m) : 1 ≤ perM s m ∧ perM s m ≤ 2 * 10 ^ 30 := by
  have a := S.s0
  have b := S.s1
  unfold perM
  split <;> omega
def perN (d : Sd) : Nat := (perM d.s d.m).toNat
/-- the common period -/
def comN (ss : List Sd) : Nat := ss.foldl (fun n d => n.lcm (perN d)) 1
theorem com_snoc {ss : List Sd} {i : Nat} {d : Sd} (h : ss[i]? = some d) : comN (ss.take (i + 1)) = (comN (ss.take i)).lcm (perN d) := by
  unfold comN
  rw [List.take_succ, h, List.foldl_append]
  rfl
theorem lcm_le {a b : Nat} : a.lcm b ≤ a * b := Nat.div_le_self _ _
theorem com_le : ∀ (ss : List Sd) (n : Nat), (∀ d ∈ ss, SideP d.o d.s d.m) → ss.foldl (fun n d => n.lcm (perN d)) n ≤ n * (2 * 10 ^ 30) ^ ss.length
  | [], n, _ => by simp
  | d :: ss, n, h => by
    have z := com_le ss (n.lcm (perN d)) fun e he => h e (List.mem_cons_of_mem _ he)
    have b := perM_bd (h d List.mem_cons_self)
    have y : perN d ≤ 2 * 10 ^ 30 := by unfold perN; omega
    refine Nat.le_trans z ?_
    generalize (2 * 10 ^ 30 : Nat) = k at y
    rw [List.length_cons, Nat.pow_succ, Nat.mul_comm (k ^ ss.length), ← Nat.mul_assoc]
    exact Nat.mul_le_mul_right _ (Nat.le_trans lcm_le (Nat.mul_le_mul_left _ y))
theorem SidesAt.side {H : Hp} {l : Addr} {xs : List V} {ss : List Sd} (S : SidesAt H l xs ss) : ∀ d ∈ ss, SideP d.o d.s d.m := fun d hd => by
  obtain ⟨i, hi, rfl⟩ := List.mem_iff_getElem.mp hd
  obtain ⟨_, _, _, sp⟩ := S.at_ i _ (List.getElem?_eq_getElem hi)
  exact sp
theorem com_lt {ss : List Sd} (h : ∀ d ∈ ss, SideP d.o d.s d.m) (l4 : ss.length ≤ 4) : comN ss < 2 ^ 420 := by
  have z := com_le ss 1 h
  rw [Nat.one_mul] at z
  refine Nat.lt_of_le_of_lt z (Nat.lt_of_le_of_lt (Nat.pow_le_pow_right (by decide) l4) ?_)
  decide
theorem com_take {ss : List Sd} (h : ∀ d ∈ ss, SideP d.o d.s d.m) (l4 : ss.length ≤ 4) (i : Nat) : comN (ss.take i) < 2 ^ 420 :=
  com_lt (fun d hd => h d (List.mem_of_mem_take hd)) (Nat.le_trans (List.length_take_le' _ _) l4)
theorem com_pos : ∀ (ss : List Sd) (n : Nat), 0 < n → (∀ d ∈ ss, SideP d.o d.s d.m) → 0 < ss.foldl (fun n d => n.lcm (perN d)) n
  | [], n, hn, _ => hn
  | d :: ss, n, hn, h => by
    have b := perM_bd (h d List.mem_cons_self)
    have y : 0 < perN d := by unfold perN; omega
    exact com_pos ss _ (Nat.lcm_pos hn y) fun e he => h e (List.mem_cons_of_mem _ he)
/-- as the law has it -/
theorem lcm_div (a b : Nat) : a / Nat.gcd a b * b = a.lcm b := by
  unfold Nat.lcm
  rw [Nat.mul_comm (a / Nat.gcd a b), ← Nat.mul_div_assoc _ (Nat.gcd_dvd_left a b), Nat.mul_comm]
end HT
namespace HT
open PySem L2
theorem lg_any {n : Nat} (h : n < 2 ^ 500) : ((n : Int)).natAbs.log2 < 9000 := by
  rw [Int.natAbs_natCast]
  by_cases e : n = 0
  · rw [e]; decide
  · have := (Nat.log2_lt e).mpr h
    omega
def spSmall : Sp := fun vs H Q _ => ∃ (a c : Addr) (t most : Nat), vs = [.ref a, .int (most : Int)] ∧ Src H a c t ∧ 1 ≤ most ∧ most ≤ 1000 ∧ t + 5 < 2 ^ 30 ∧
  ∀ (p : Addr) (o s : Int) (m : Str) (H' : Hp) (t' : Nat), H' p = some (sideV o s m) → -30 ≤ o → o ≤ 29 → 1 ≤ s → s ≤ (most : Int) → Mode m → t' ≤ t + 3 → Src H' a c t' → Oth a c H H' → Q (.ref p) H'
def spPer : Sp := fun vs H Q _ => ∃ (l : Addr) (xs : List V) (ss : List Sd), vs = [.ref l] ∧ SidesAt H l xs ss ∧ Q (.int (comN ss : Int)) H
def spSet : Sp := fun vs H Q _ => ∃ (a c : Addr) (t most many : Nat), vs = [.ref a, .int (most : Int), .int (many : Int)] ∧ Src H a c t ∧ 1 ≤ most ∧ most ≤ 1000 ∧ 1 ≤ many ∧ many ≤ 4 ∧ t + 50 < 2 ^ 30 ∧
  ∀ (l : Addr) (xs : List V) (ss : List Sd) (H' : Hp) (t' : Nat), SidesAt H' l xs ss → (∀ d ∈ ss, -30 ≤ d.o ∧ d.o ≤ 29 ∧ d.s ≤ (most : Int)) → l ≠ a → l ≠ c → t' ≤ t + 20 → Src H' a c t' → Oth a c H H' → Q (.ref l) H'
section
variable {P : Program} {w : World} {K : PySem.W.Frag} {mg : Str → Option Value} {base : Heap} {fD fP fS fV : Addr} {dD dP dS dV : FuncData}
end
end HT
namespace HT
open PySem L2
def nV (k : Nat) : V := .int (k : Int)
structure AmG (mg : Str → Option Value) : Prop where
  isi : mg "isinstance" = none
  list : mg "list" = none
  len : mg "len" = none
  ms : ∃ t, mg "MOST_SIDES" = some (.int 4 t)
  lcm : mg "lcm" = some (.builtin "math.lcm")
  sorted : mg "sorted" = none
def spIsSide : Sp := fun vs H Q _ => ∃ (p : Addr) (o s : Int) (m : Str), vs = [.ref p] ∧ H p = some (sideV o s m) ∧ SideP o s m ∧ Q (.bl true) H
def spSides : Sp := fun vs H Q _ => ∃ (l : Addr) (xs : List V) (ss : List Sd), vs = [.ref l] ∧ SidesAt H l xs ss ∧ Q .non H
def spPerOf : Sp := fun vs H Q _ => ∃ (p : Addr) (o s : Int) (m : Str), vs = [.ref p] ∧ H p = some (sideV o s m) ∧ SideP o s m ∧ Q (.int (perM s m)) H
def spNums : Sp := fun vs H Q _ => ∃ (kl : Addr) (ks : List Nat) (n : Nat), vs = [.ref kl, .int (n : Int)] ∧ H kl = some (.lst (ks.map nV)) ∧ ks.length ≤ 1000 ∧ (∀ k ∈ ks, k < n) ∧ Q .non H
/-- one hand-over more -/
def stepW (ss : List Sd) (a : List Int × Int) (k : Nat) : List Int × Int :=
  match ss[k]? with
  | some d => (a.1 ++ [dueM d.o d.s d.m a.2], dueM d.o d.s d.m a.2)
  | none => (a.1 ++ [a.2], a.2)
def walkW (ss : List Sd) (ks : List Nat) (v : Int) : List Int × Int := ks.foldl (stepW ss) ([], v)
theorem walk_snoc {ss : List Sd} {ks : List Nat} {v : Int} {i k : Nat} (h : ks[i]? = some k) : walkW ss (ks.take (i + 1)) v = stepW ss (walkW ss (ks.take i) v) k := by
  unfold walkW
  rw [List.take_succ, h, List.foldl_append]
  rfl
theorem due_far {o s v b : Int} {m : Str} (S : SideP o s m) (h : -b < v ∧ v < b) : -(b + 10 ^ 30) < dueM o s m v ∧ dueM o s m v < b + 10 ^ 30 := by
  have h1 := due_near (o := o) (v := v) S.md S.s0
  have h2 := S.s1
  omega
def spAlong : Sp := fun vs H Q _ => ∃ (l : Addr) (xs : List V) (ss : List Sd) (kl : Addr) (ks : List Nat) (v : Int), vs = [.ref l, .ref kl, .int v] ∧ SidesAt H l xs ss ∧ H kl = some (.lst (ks.map nV)) ∧ ks.length ≤ 1000 ∧ (∀ k ∈ ks, k < ss.length) ∧ (-2 ^ 200 < v ∧ v < 2 ^ 200) ∧
  ∀ (d : Addr) (H' : Hp), H d = none → Same H H' → H' d = some (.lst ((walkW ss ks v).1.map V.int)) → Q (.ref d) H'
section
variable {P : Program} {w : World} {K : PySem.W.Frag} {mg : Str → Option Value} {base : Heap} {aM c0 fC fB fV fN fW fS : Addr} {dC dB dV dN dW dS : FuncData}
theorem ok_is_side {f : Addr} {fd : FuncData} (F : Fun K "is_side" "is_side" s_is_side f fd) (g0 : mg "InvalidSide" = some (.ref c0)) (Ck : Cal P w K mg base "check_side" 3 ["side"] spCheckSide fC dC) : FnOk P w K mg base CX0 4 f fd ["thing"] spIsSide := by
  refine F.ok sc_is_side (fun vs H Q E h => ?_) (fun cdv A outer s0 H vs Q E hr h => ?_)
  · obtain ⟨p, o, s, m, rfl, _⟩ := h
    rfl
  · obtain ⟨p, o, s, m, rfl, hp, S, q⟩ := h
    refine ⟨_, pss_cons (ps_try_only rfl rfl ⟨rfl, by decide, .inl g0⟩ takes0 (fun W pn xe tk _ => pss_one (ps_expr (pcl Ck hr (by decide) (by rfl) (pa_cons (pv 0) pa_nil)))) (fun a oe cls d pn _ _ => pss_one (ps_ret pe_bl))) (pss_one (ps_ret pe_bl)), ?_⟩
    walk_at "rd"
    refine ⟨p, o, s, m, rfl, hp, S, ?_⟩
    walk_at "rd"
    exact q
theorem ok_sides {f : Addr} {fd : FuncData} (F : Fun K "check_sides" "check_sides" s_check_sides f fd) (A' : AmG mg) (Ck : Cal P w K mg base "is_side" 4 ["thing"] spIsSide fC dC) : FnOk P w K mg base CX0 5 f fd ["sides"] spSides := by
  refine F.ok sc_check_sides (fun vs H Q E h => ?_) (fun cdv A outer s0 H vs Q E hr h => ?_)
  · obtain ⟨l, xs, ss, rfl, _⟩ := h
    rfl
  · obtain ⟨l, xs, ss, rfl, SS, q⟩ := h
    have nd := sc_check_sides.nd
    obtain ⟨tms, hms⟩ := A'.ms
    refine ⟨_, pss_cons (ps_if (PW.pt (pw_or (pt_not (pt_val (pe_callB call_isi (by rfl) A'.isi (by decide +kernel) (pa_cons (pv 0) (pa_cons (pe_bltn (v := .ty "list") (by rfl) A'.list (by decide +kernel) rfl) pa_nil)))))
        (pw_or1 (pt_not (pt_chain op_le op_le pe_int (pe_callB call_len_seq (by rfl) A'.len PySem.boot_len (pa_cons (pv 0) pa_nil)) (pe_glob (v := .int 4) (by rfl) hms ⟨_, rfl⟩)))))) (pss_one ps_never) pss_nil)
      (pss_one (ps_for PassesOwn.never rfl (pi_list (pv 0)) (pg_name (i := 1) nd rfl (Or.inl rfl))
        (pss_one (ps_if (pt_not (pt_val (pcl Ck hr (by decide) (by rfl) (pa_cons (pv 1) pa_nil)))) (pss_one ps_never) pss_nil)))), ?_⟩
    walk_at "rd"
    refine ⟨_, _, _, _, _, rfl, .ty "list", .base (.lst SS.hl), kit_ty (r := true) (by decide +kernel), ?_⟩
    walk_at "rd"
    refine ⟨l, _, rfl, .inl (SqL.of SS.hl), ?_⟩
    have l1 := SS.l1
    have l4 := SS.l4
    have ln := SS.len
    walk_at "rd"
    refine ite2 (fun _ => ?_) (fun z => absurd (decide_eq_true (by omega)) z)
    walk_at "rd"
    refine ite2 (fun z => ?_) (fun _ => ?_)
    · exfalso
      have e : decide ((xs.length : Int) ≤ 4) = true := decide_eq_true (by omega)
      exact not_t z e
    walk_at "rd"
    refine ⟨⟨_, SqL.of SS.hl⟩, ?_⟩
    refine for_list (K := K) (a := l) (xs := xs) (fun i σ H' => ∃ y : Option V, σ = [some (.ref l), y] ∧ H' = H) ⟨none, rfl, rfl⟩ (fun _ _ _ _ ⟨_, _, e⟩ => e ▸ SqL.of SS.hl) ?_ ?_
    · rintro i y σ H' hy ⟨z, rfl, rfl⟩
      obtain ⟨d, p, ed, rfl, hp, sp⟩ := SS.item hy
      walk_at "rd"
      refine ⟨p, d.o, d.s, d.m, rfl, hp, sp, _, rfl, ?_⟩
      refine ite2 (fun z => (not_t z rfl).elim) (fun _ => ?_)
      exact ⟨_, rfl, rfl⟩
    · rintro σ H' ⟨z, rfl, rfl⟩
      exact q
theorem ok_per {f : Addr} {fd : FuncData} (F : Fun K "period_of" "period_of" s_period_of f fd) : FnOk P w K mg base CX0 1 f fd ["side"] spPerOf := by
  refine F.ok sc_period_of (fun vs H Q E h => ?_) (fun cdv A outer s0 H vs Q E hr h => ?_)
  · obtain ⟨p, o, s, m, rfl, _⟩ := h
    rfl
  · obtain ⟨p, o, s, m, rfl, hp, S, q⟩ := h
    have nd := sc_period_of.nd
    refine ⟨_, (pss_cons (ps_asg (pv 0) (pg_tup (by rfl) (pgs_cons (pg_name (i := 1) nd rfl (Or.inl rfl)) (pgs_cons (pg_name (i := 2) nd rfl (Or.inl rfl)) (pgs_cons (pg_name (i := 3) nd rfl (Or.inl rfl)) pgs_nil)))))
      (pss_cons (ps_if (pt_cmpR op_eq (pv 3) pe_str (nomark _)) (pss_one (ps_ret (pe_op op_mul pe_int (pv 2)))) pss_nil)
      (pss_one (ps_ret (pv 2))))), ?_⟩
    walk_at "rd"
    refine ⟨p, _, rfl, SqT.of hp, rfl, _, _, rfl, _, _, rfl, _, _, rfl, rfl, ?_⟩
    walk_at "rd"
    refine ⟨rfl, ?_⟩
    walk_at "rd"
    unfold perM at q
    refine ite2 (fun h => ?_) (fun h => ?_)
    · rw [if_pos (str_t h)] at q
      walk_at "rd"
      refine ⟨.inl ⟨by decide, by decide⟩, ?_⟩
      exact q
    · rw [if_neg (str_f h)] at q
      walk_at "rd"
      exact q
end
end HT
namespace HT
open PySem L2
theorem log_lt {n k : Nat} (h : n < 2 ^ (k + 1)) : n.log2 ≤ k := by
  by_cases h0 : n = 0
  · subst h0
    rw [Nat.log2_zero]
    exact Nat.zero_le _
  · exact Nat.le_of_lt_succ ((Nat.log2_lt h0).mpr h)
theorem lcm_lt {a b i j : Nat} (ha : a < 2 ^ i) (hb : b < 2 ^ j) : a.lcm b < 2 ^ (i + j) := by
  rw [Nat.pow_add]
  exact Nat.lt_of_le_of_lt (PySem.W.mc_lcm_le a b) (Nat.mul_lt_mul'' ha hb)
def rLcm2 : List V → Hp → VK → Prop := fun vs H Q => ∃ a b : Int, vs = [.int a, .int b] ∧ a.natAbs < 2 ^ 2000 ∧ b.natAbs < 2 ^ 2000 ∧ Q (.int (((a.natAbs.lcm b.natAbs : Nat) : Int))) H
theorem cr_lcm2 {X : Cx} : CallR X (.builtin "math.lcm") rLcm2 := by
  intro pins s σ H vs us Q I r h
  obtain ⟨a, b, rfl, ha, hb, q⟩ := h
  obtain ⟨u1, u2, rfl, r1, r2⟩ := vals2 r
  obtain ⟨t, rfl⟩ := r1
  obtain ⟨u, rfl⟩ := r2
  have hab := lcm_lt ha hb
  have e1 : Nat.lcm 1 a.natAbs = a.natAbs := PySem.W.mc_lcm_one _
  have two : ∀ {k : Nat}, 1 < 2 ^ (k + 1) := fun {k} => Nat.one_lt_two_pow (by omega)
  have g := PySem.W.mg_run_lcm a t b u
    (by have := log_lt (n := max 1 a.natAbs) (k := 1999) (Nat.max_lt.mpr ⟨two, ha⟩); omega)
    (by have := log_lt (n := max a.natAbs b.natAbs) (k := 1999) (Nat.max_lt.mpr ⟨ha, hb⟩); omega)
    (by rw [e1]; exact PySem.W.mc_size (k := 100) (Nat.le_trans (Nat.le_of_lt hab) (Nat.pow_le_pow_right (by decide) (by decide))) (by decide))
  rw [e1] at g
  exact PySem.call_function_meets PySem.W.MGF.kind_lcm PySem.W.MGF.plain_lcm PySem.W.MGF.entry_lcm (PySem.W.MGF.args_lcm _ _) g.meets ⟨.int _, H, I.tok _, ⟨_, rfl⟩, q⟩
section
variable {P : Program} {w : World} {K : PySem.W.Frag} {mg : Str → Option Value} {base : Heap} {aM c0 fC fB fV fN fW fS : Addr} {dC dB dV dN dW dS : FuncData}
theorem ok_common {f : Addr} {fd : FuncData} (F : Fun K "common_period" "common_period" s_common_period f fd) (A' : AmG mg) (Pe : Cal P w K mg base "period_of" 1 ["side"] spPerOf fC dC) : FnOk P w K mg base CX0 2 f fd ["sides"] spPer := by
  refine F.ok sc_common_period (fun vs H Q E h => ?_) (fun cdv A outer s0 H vs Q E hr h => ?_)
  · obtain ⟨l, xs, ss, rfl, _⟩ := h
    rfl
  · obtain ⟨l, xs, ss, rfl, SS, q⟩ := h
    have nd := sc_common_period.nd
    refine ⟨_, pss_cons (ps_set (i := 1) nd rfl (Or.inl rfl) pe_int)
      (pss_cons (ps_for PassesOwn.never rfl (pi_list (pv 0)) (pg_name (i := 2) nd rfl (Or.inl rfl)) (pss_one (ps_set (i := 1) nd rfl (Or.inl rfl) (pe_callBfun cr_lcm2 (by rfl) A'.lcm (pa_cons (pv 1) (pa_cons (pcl Pe hr (by decide) (by rfl) (pa_cons (pv 2) pa_nil)) pa_nil))))))
      (pss_one (ps_ret (pv 1)))), ?_⟩
    walk_at "rd"
    refine ⟨⟨_, SqL.of SS.hl⟩, ?_⟩
    refine for_list (K := K) (a := l) (xs := xs) (fun i st H' => ∃ x2 : Option V, st = [some (.ref l), some (.int (comN (ss.take i) : Int)), x2] ∧ H' = H) ⟨none, rfl, rfl⟩ (fun _ _ _ _ ⟨_, _, e⟩ => e ▸ SqL.of SS.hl) ?_ ?_
    · rintro i y st H' hy ⟨x2, rfl, rfl⟩
      obtain ⟨d, p, ed, rfl, hp, sp⟩ := SS.item hy
      walk_at "rd"
      refine ⟨p, d.o, d.s, d.m, rfl, hp, sp, ?_⟩
      have pb := perM_bd sp
      have cl := com_take SS.side SS.l4 i
      have big : (2 : Nat) ^ 420 < 2 ^ 2000 := Nat.pow_lt_pow_right (by decide) (by decide)
      have big2 : (2 : Nat) ^ 120 < 2 ^ 2000 := Nat.pow_lt_pow_right (by decide) (by decide)
      have e2 : (perM d.s d.m).natAbs = perN d := by unfold perN; omega
      refine ⟨_, _, rfl, ?_, ?_, ?_⟩
      · rw [Int.natAbs_natCast]; omega
      · rw [e2]; unfold perN; omega
      · rw [Int.natAbs_natCast, e2, ← com_snoc ed]
        exact ⟨_, rfl, rfl⟩
    · rintro st H' ⟨x2, rfl, rfl⟩
      rw [SS.len, List.take_length]
      walk_at "rd"
      exact q
end
end HT
namespace HT
/-- k steps come to a place between two -/
def Hit (step least greatest M : Int) (k : Nat) : Prop := least ≤ (step * (k : Int)) % M ∧ (step * (k : Int)) % M ≤ greatest
/-- the least number with a property, or none -/
def Least (Pr : Nat → Prop) : Option Nat → Prop
  | some k => Pr k ∧ ∀ j, j < k → ¬ Pr j
  | none => ∀ k, ¬ Pr k
theorem least_uniq {Pr : Nat → Prop} {a b : Option Nat} (ha : Least Pr a) (hb : Least Pr b) : a = b := by
  cases a with
  | none =>
    cases b with
    | none => rfl
    | some k => exact absurd hb.1 (ha k)
  | some j =>
    cases b with
    | none => exact absurd ha.1 (hb j)
    | some k =>
      rcases Nat.lt_trichotomy j k with h | h | h
      · exact absurd ha.1 (hb.2 j h)
      · rw [h]
      · exact absurd hb.1 (ha.2 k h)
theorem least_congr {A B : Nat → Prop} (h : ∀ k, A k ↔ B k) {r : Option Nat} (l : Least A r) : Least B r := by
  cases r with
  | none => exact fun k z => l k ((h k).mpr z)
  | some k => exact ⟨(h k).mp l.1, fun j hj z => l.2 j hj ((h j).mpr z)⟩
/-- seen from the other side -/
theorem hit_flip {step least greatest M : Int} (hM : 0 < M) (h0 : 0 < least) (h1 : greatest < M) (k : Nat) : Hit (M - step) (M - greatest) (M - least) M k ↔ Hit step least greatest M k := by
  have e : ((M - step) * (k : Int)) % M = (-(step * (k : Int))) % M := by
    rw [Int.sub_mul, show M * (k : Int) - step * (k : Int) = -(step * (k : Int)) + M * (k : Int) by omega, Int.add_mul_emod_self_left]
  unfold Hit
  rw [e]
  generalize step * (k : Int) = x
  have a := Int.emod_nonneg x (by omega : M ≠ 0)
  have b := Int.emod_lt_of_pos x hM
  have c := Int.emod_nonneg (-x) (by omega : M ≠ 0)
  have d := Int.emod_lt_of_pos (-x) hM
  have e1 := Int.emod_add_mul_ediv x M
  have e2 := Int.emod_add_mul_ediv (-x) M
  -- x % M + (-x) % M is 0 or M
  have s : (x % M + (-x) % M) % M = 0 := by
    rw [← Int.add_emod]
    rw [show x + -x = 0 by omega]
    exact Int.zero_emod M
  have s2 : x % M + (-x) % M = 0 ∨ x % M + (-x) % M = M := by
    have f := Int.emod_add_mul_ediv (x % M + (-x) % M) M
    rw [s] at f
    have g1 : (x % M + (-x) % M) / M = 0 ∨ (x % M + (-x) % M) / M = 1 := by
      have h1 : 0 ≤ (x % M + (-x) % M) / M := Int.ediv_nonneg (by omega) (by omega)
      have h2 : (x % M + (-x) % M) / M < 2 := Int.ediv_lt_of_lt_mul hM (by omega)
      omega
    rcases g1 with g | g
    · rw [g] at f; left; omega
    · rw [g] at f; right; omega
  constructor
  · rintro ⟨p, q⟩
    omega
  · rintro ⟨p, q⟩
    omega
def ceilD (a s : Int) : Int := -((-a) / s)
theorem ceilD_spec {a s : Int} (hs : 0 < s) : a ≤ s * ceilD a s ∧ s * (ceilD a s - 1) < a := by
  unfold ceilD
  have e := Int.emod_add_mul_ediv (-a) s
  have a0 := Int.emod_nonneg (-a) (by omega : s ≠ 0)
  have a1 := Int.emod_lt_of_pos (-a) hs
  generalize (-a) / s = t at e
  have m1 : s * (-t) = -(s * t) := Int.mul_neg s t
  have m2 : s * (-t - 1) = -(s * t) - s := by rw [Int.mul_sub, m1, Int.mul_one]
  rw [m1, m2]
  omega
end HT
namespace HT
theorem mod_small {x M : Int} (h0 : 0 ≤ x) (h1 : x < M) : x % M = x := Int.emod_eq_of_lt h0 h1
theorem divmod_eq' {s q r x : Int} (hs : 0 < s) (h : x = s * q + r) (r0 : 0 ≤ r) (r1 : r < s) : x / s = q ∧ x % s = r := by
  subst h
  constructor
  · rw [Int.add_comm, Int.add_mul_ediv_left _ _ (by omega : s ≠ 0), Int.ediv_eq_zero_of_lt r0 r1, Int.zero_add]
  · rw [Int.add_comm, Int.add_mul_emod_self_left, Int.emod_eq_of_lt r0 r1]
theorem hit_zero {least greatest M : Int} (h0 : 0 < least) (k : Nat) : ¬ Hit 0 least greatest M k := by
  rintro ⟨a, _⟩
  rw [Int.zero_mul, Int.zero_emod] at a
  omega
theorem ceil_le {a s k : Int} (hs : 0 < s) (h : a ≤ s * k) : ceilD a s ≤ k := by
  have c := (ceilD_spec (a := a) hs).2
  refine Decidable.byContradiction fun z => ?_
  have h2 : s * k ≤ s * (ceilD a s - 1) := Int.mul_le_mul_of_nonneg_left (by omega) (by omega)
  omega
theorem ceil_pos {a s : Int} (hs : 0 < s) (ha : 0 < a) : 0 < ceilD a s := by
  have c := (ceilD_spec (a := a) hs).1
  refine Decidable.byContradiction fun z => ?_
  have h2 : s * ceilD a s ≤ s * 0 := Int.mul_le_mul_of_nonneg_left (by omega) (by omega)
  omega
/-- the first round reaches a place -/
theorem hit_direct {s l g M : Int} (hs : 0 < s) (h0 : 0 < l) (h1 : g < M) (h : s * ceilD l s ≤ g) : Least (Hit s l g M) (some (ceilD l s).toNat) := by
  have c := ceilD_spec (a := l) hs
  have cp := ceil_pos hs h0
  have e : (((ceilD l s).toNat : Nat) : Int) = ceilD l s := Int.toNat_of_nonneg (by omega)
  refine ⟨?_, fun j hj => ?_⟩
  · unfold Hit
    rw [e, mod_small (by omega) (by omega)]
    exact ⟨c.1, h⟩
  · rintro ⟨a, b⟩
    have hj' : (j : Int) ≤ ceilD l s - 1 := by omega
    have h2 : s * (j : Int) ≤ s * (ceilD l s - 1) := Int.mul_le_mul_of_nonneg_left hj' (by omega)
    have h3 : 0 ≤ s * (j : Int) := Int.mul_nonneg (by omega) (by omega)
    rw [mod_small h3 (by omega)] at a
    omega
/-- both ends lie in one cell -/
theorem one_cell {s l g : Int} (hs : 0 < s) (h : g < s * ceilD l s) (hl : l ≤ g) : l / s = g / s ∧ 0 < l % s ∧ l % s ≤ g % s := by
  have c := ceilD_spec (a := l) hs
  generalize ceilD l s = t at c h
  have e1 : s * (t - 1) = s * t - s := by rw [Int.mul_sub, Int.mul_one]
  have q1 : l / s = t - 1 := by
    refine (divmod_eq' hs (q := t - 1) (r := l - s * (t - 1)) (by omega) (by omega) (by omega)).1
  have q2 : g / s = t - 1 := by
    refine (divmod_eq' hs (q := t - 1) (r := g - s * (t - 1)) (by omega) (by omega) (by omega)).1
  have m1 := Int.emod_add_mul_ediv l s
  have m2 := Int.emod_add_mul_ediv g s
  rw [q1] at m1
  rw [q2] at m2
  exact ⟨by rw [q1, q2], by omega, by omega⟩
end HT
namespace HT
theorem hit_round {s l g M : Int} (hM : 0 < M) (hs : 0 ≤ s) (h0 : 0 < l) (h1 : g < M) (k : Nat) : Hit s l g M k ↔ ∃ n : Nat, l + M * (n : Int) ≤ s * (k : Int) ∧ s * (k : Int) ≤ g + M * (n : Int) := by
  have p : 0 ≤ s * (k : Int) := Int.mul_nonneg hs (by omega)
  unfold Hit
  generalize s * (k : Int) = x at p
  have e := Int.emod_add_mul_ediv x M
  have q0 : 0 ≤ x / M := Int.ediv_nonneg p (by omega)
  constructor
  · rintro ⟨a, b⟩
    refine ⟨(x / M).toNat, ?_, ?_⟩ <;> rw [Int.toNat_of_nonneg q0] <;> omega
  · rintro ⟨n, a, b⟩
    have d := (divmod_eq' hM (q := (n : Int)) (r := x - M * (n : Int)) (x := x) (by omega) (by omega) (by omega)).2
    rw [d]
    omega
theorem hit_cell {s l g M : Int} (hs : 0 < s) (hl : l ≤ g) (h : g < s * ceilD l s) (n : Nat) : Hit ((-M) % s) (l % s) (g % s) s n ↔ ∃ k : Int, l + M * (n : Int) ≤ s * k ∧ s * k ≤ g + M * (n : Int) := by
  obtain ⟨c1, c2, c3⟩ := one_cell hs h hl
  have el := Int.emod_add_mul_ediv l s
  have eg := Int.emod_add_mul_ediv g s
  rw [← c1] at eg
  have e : (((-M) % s) * (n : Int)) % s = (-(M * (n : Int))) % s := by
    rw [Int.mul_emod, Int.emod_emod, ← Int.mul_emod, Int.neg_mul]
  unfold Hit
  rw [e]
  generalize M * (n : Int) = y
  have ew := Int.emod_add_mul_ediv (-y) s
  have w0 := Int.emod_nonneg (-y) (by omega : s ≠ 0)
  have w1 := Int.emod_lt_of_pos (-y) hs
  have lm := Int.emod_lt_of_pos g hs
  have ll := Int.emod_nonneg l (by omega : s ≠ 0)
  constructor
  · rintro ⟨a, b⟩
    refine ⟨l / s - (-y) / s, ?_, ?_⟩ <;> rw [Int.mul_sub] <;> omega
  · rintro ⟨k, a, b⟩
    -- s k - y lies in the cell of l
    have d := divmod_eq' hs (q := l / s) (r := s * k - y - s * (l / s)) (x := s * k - y) (by omega) (by omega) (by omega)
    have f : (s * k - y) % s = (-y) % s := by
      rw [show s * k - y = -y + s * k by omega, Int.add_mul_emod_self_left]
    rw [f] at d
    omega
theorem mono_mul {M : Int} (hM : 0 < M) {a b : Nat} (h : a ≤ b) : M * (a : Int) ≤ M * (b : Int) := Int.mul_le_mul_of_nonneg_left (by omega) (by omega)
/-- behind the rounds that leap over the places -/
theorem hit_rec {s l g M : Int} (hs : 0 < s) (hM : 0 < M) (h0 : 0 < l) (hl : l ≤ g) (h1 : g < M) (h : g < s * ceilD l s) {r : Option Nat} (L : Least (Hit ((-M) % s) (l % s) (g % s) s) r) :
    Least (Hit s l g M) (r.map fun n => (ceilD (l + M * (n : Int)) s).toNat) := by
  cases r with
  | none =>
    intro k hk
    obtain ⟨n, a, b⟩ := (hit_round hM (by omega) h0 h1 k).mp hk
    exact L n ((hit_cell hs hl h n).mpr ⟨k, a, b⟩)
  | some n =>
    obtain ⟨L1, L2⟩ := L
    obtain ⟨k, a, b⟩ := (hit_cell hs hl h n).mp L1
    have nn : 0 ≤ M * (n : Int) := Int.mul_nonneg (by omega) (by omega)
    have cs := ceilD_spec (a := l + M * (n : Int)) hs
    have cp := ceil_pos hs (show 0 < l + M * (n : Int) by omega)
    have ck := ceil_le hs a
    have e : ((((ceilD (l + M * (n : Int)) s).toNat) : Nat) : Int) = ceilD (l + M * (n : Int)) s := Int.toNat_of_nonneg (by omega)
    refine ⟨?_, fun j hj hit => ?_⟩
    · refine (hit_round hM (by omega) h0 h1 _).mpr ⟨n, ?_, ?_⟩
      · rw [e]; exact cs.1
      · rw [e]
        have : s * ceilD (l + M * (n : Int)) s ≤ s * k := Int.mul_le_mul_of_nonneg_left ck (by omega)
        omega
    · obtain ⟨n2, a2, b2⟩ := (hit_round hM (by omega) h0 h1 j).mp hit
      have nle : n ≤ n2 := Decidable.byContradiction fun z => L2 n2 (by omega) ((hit_cell hs hl h n2).mpr ⟨j, a2, b2⟩)
      have m := mono_mul hM nle
      have := ceil_le hs (show l + M * (n : Int) ≤ s * (j : Int) by omega)
      have hj' : j < (ceilD (l + M * (n : Int)) s).toNat := hj
      omega
/-- the places from start on by their remainder -/
def HitS (start step most M : Int) (k : Nat) : Prop := (start + step * (k : Int)) % M ≤ most
theorem hits_iff {start step most M : Int} (hM : 0 < M) (h0 : 0 ≤ most) (hl : 0 < (-start) % M) (h1 : (-start) % M + most < M) (k : Nat) : HitS start step most M k ↔ Hit (step % M) ((-start) % M) ((-start) % M + most) M k := by
  have e : ((step % M) * (k : Int)) % M = (step * (k : Int)) % M := by
    rw [Int.mul_emod, Int.emod_emod, ← Int.mul_emod]
  unfold HitS Hit
  rw [e]
  generalize step * (k : Int) = x
  have l1 := Int.emod_lt_of_pos (-start) hM
  generalize el : (-start) % M = l at hl h1 l1
  have es : ∃ t, start = -l + M * t := by
    have := Int.emod_add_mul_ediv (-start) M
    rw [el] at this
    exact ⟨-((-start) / M), by rw [Int.mul_neg]; omega⟩
  obtain ⟨t, rfl⟩ := es
  have e2 : (-l + M * t + x) % M = (x - l) % M := by
    rw [show -l + M * t + x = x - l + M * t by omega, Int.add_mul_emod_self_left]
  rw [e2]
  have ex := Int.emod_add_mul_ediv x M
  have x0 := Int.emod_nonneg x (by omega : M ≠ 0)
  have x1 := Int.emod_lt_of_pos x hM
  generalize x % M = r at ex x0 x1
  generalize x / M = qq at ex
  by_cases c : l ≤ r
  · have d := (divmod_eq' hM (q := qq) (r := r - l) (x := x - l) (by omega) (by omega) (by omega)).2
    rw [d]
    omega
  · have d := (divmod_eq' hM (q := qq - 1) (r := r - l + M) (x := x - l) (by rw [Int.mul_sub, Int.mul_one]; omega) (by omega) (by omega)).2
    rw [d]
    omega
theorem hits_zero {start step most M : Int} (hM : 0 < M) (h0 : 0 ≤ most) (h : (-start) % M = 0 ∨ M ≤ (-start) % M + most) : Least (HitS start step most M) (some 0) := by
  refine ⟨?_, fun j hj => absurd hj (Nat.not_lt_zero _)⟩
  unfold HitS
  rw [show start + step * ((0 : Nat) : Int) = start by omega]
  have e := Int.emod_add_mul_ediv (-start) M
  have l0 := Int.emod_nonneg (-start) (by omega : M ≠ 0)
  have l1 := Int.emod_lt_of_pos (-start) hM
  generalize (-start) / M = t at e
  generalize (-start) % M = l at e l0 l1 h
  by_cases c : l = 0
  · have d := (divmod_eq' hM (q := -t) (r := 0) (x := start) (by rw [Int.mul_neg]; omega) (by omega) (by omega)).2
    rw [d]
    exact h0
  · have d := (divmod_eq' hM (q := -t - 1) (r := M - l) (x := start) (by rw [Int.mul_sub, Int.mul_neg, Int.mul_one]; omega) (by omega) (by omega)).2
    rw [d]
    omega
end HT
namespace HT
open PySem L2
def oN : Option Nat → V
  | none => .non
  | some k => .int (k : Int)
def spFB (n : Nat) : Sp := fun vs H Q _ => ∃ s l g M : Int, vs = [.int s, .int l, .int g, .int M] ∧ 0 ≤ s ∧ s < M ∧ 0 < l ∧ l ≤ g ∧ g < M ∧ M < 2 ^ n ∧ ∀ r, Least (Hit s l g M) r → Q (oN r) H
theorem hit_lt {s l g M : Int} (hM : 0 < M) {k : Nat} (h : Least (Hit s l g M) (some k)) : (k : Int) < M := by
  by_cases e : (k : Int) < M
  · exact e
  · exfalso
    obtain ⟨⟨a, b⟩, c⟩ := h
    refine c (k - M.toNat) (by omega) ?_
    have e2 : s * ((k - M.toNat : Nat) : Int) = s * (k : Int) - M * s := by
      rw [show ((k - M.toNat : Nat) : Int) = (k : Int) - M by omega, Int.mul_sub, Int.mul_comm M s]
    unfold Hit
    rw [e2, Int.sub_mul_emod_self_left]
    exact ⟨a, b⟩
section
variable {P : Program} {w : World} {K : PySem.W.Frag} {mg : Str → Option Value} {base : Heap} {fC : Addr} {dC : FuncData}
theorem ok_fb0 {f : Addr} {fd : FuncData} (F : Fun K "_first_between" "_first_between" s_first_between f fd) : FnOk P w K mg base CX0 1 f fd ["step", "least", "greatest", "modulus"] (spFB 0) := by
  refine F.ok sc_first_between (fun vs H Q E h => ?_) (fun cdv A outer s0 H vs Q E hr h => ?_)
  · obtain ⟨s, l, g, M, rfl, _⟩ := h
    rfl
  · exfalso
    obtain ⟨s, l, g, M, rfl, s0, s1, l0, lg, g1, M1, q⟩ := h
    rw [Int.pow_zero] at M1
    omega
theorem ok_fbS {f : Addr} {fd : FuncData} {n : Nat} (F : Fun K "_first_between" "_first_between" s_first_between f fd) (hn : n ≤ 200) (Se : Cal P w K mg base "_first_between" (n + 1) ["step", "least", "greatest", "modulus"] (spFB n) f fd) : FnOk P w K mg base CX0 (n + 2) f fd ["step", "least", "greatest", "modulus"] (spFB (n + 1)) := by
  refine F.ok sc_first_between (fun vs H Q E h => ?_) (fun cdv A outer s0 H vs Q E hr h => ?_)
  · obtain ⟨s, l, g, M, rfl, _⟩ := h
    rfl
  · obtain ⟨s, l, g, M, rfl, s0, s1, l0, lg, g1, M1, q⟩ := h
    have nd := sc_first_between.nd
    refine ⟨_, (pss_cons (ps_if (pt_cmpR op_eq (pv 0) pe_int (nomark _)) (pss_one (ps_ret pe_non)) pss_nil)
      (pss_cons (ps_if (pt_cmpR op_gt (pe_op op_mul pe_int (pv 0)) (pv 3) (nomark _)) (pss_one (ps_par3 (i := 0) (j := 1) (l := 2) (by rfl) nd rfl rfl rfl (by decide) (by decide) (by decide) rfl rfl rfl (pa_cons (pe_op op_sub (pv 3) (pv 0)) (pa_cons (pe_op op_sub (pv 3) (pv 2)) (pa_cons (pe_op op_sub (pv 3) (pv 1)) pa_nil))) (by rfl))) pss_nil)
      (pss_cons (ps_set (i := 4) nd rfl (Or.inl rfl) (pe_un un_neg (pe_op op_fdivW (pe_un un_neg (pv 1)) (pv 0))))
      (pss_cons (ps_if (pt_cmpR op_le (pe_op op_mulW (pv 0) (pv 4)) (pv 2) (nomark _)) (pss_one (ps_ret (pv 4))) pss_nil)
      (pss_cons (ps_set (i := 5) nd rfl (Or.inl rfl) (pcl Se hr (Nat.le_refl _) (by rfl) (pa_cons (pe_op op_mod (pe_un un_neg (pv 3)) (pv 0)) (pa_cons (pe_op op_mod (pv 1) (pv 0)) (pa_cons (pe_op op_mod (pv 2) (pv 0)) (pa_cons (pv 0) pa_nil))))))
      (pss_cons (ps_if (pt_cmpR op_isN (pv 5) pe_non (nomark _)) (pss_one (ps_ret pe_non)) pss_nil)
      (pss_one (ps_ret (pe_un un_neg (pe_op op_fdivW (pe_un un_neg (pe_op op_add (pv 1) (pe_op op_mulW (pv 3) (pv 5)))) (pv 0))))))))))), ?_⟩
    have pw : (2 : Int) ^ (n + 1) = 2 * 2 ^ n := by rw [Int.pow_succ]; omega
    have bigN : (2 : Nat) ^ (n + 1) ≤ 2 ^ 201 := Nat.pow_le_pow_right (by decide) (by omega)
    have big : (2 : Int) ^ (n + 1) ≤ 2 ^ 201 := by exact_mod_cast bigN
    have hM : 0 < M := by omega
    walk_at "rd"
    refine ⟨rfl, ?_⟩
    walk_at "rd"
    refine ite2 (fun z => ?_) (fun z => ?_)
    · have e := int_t z
      subst e
      walk_at "rd"
      exact q none fun k hk => hit_zero l0 k hk
    have sp : 0 < s := by have := int_f z; omega
    walk_at "rd"
    refine ⟨.inl ⟨by decide, by decide⟩, ?_⟩
    walk_at "rd"
    refine ite2 (fun z => ?a) (fun z => ?b)
    case' a =>
      have fl : M < 2 * s := by have := of_decide_eq_true z; omega
      walk_at "rd"
      refine ⟨_, _, _, rfl, ?_⟩
      dsimp only
      have q2 : ∀ r, Least (Hit (M - s) (M - g) (M - l) M) r → Q (oN r) H := fun r L => q r (least_congr (fun k => hit_flip hM l0 g1 k) L)
      have t1 : 0 < M - s := by omega
      have t2 : 2 * (M - s) ≤ M := by omega
      have t3 : 0 < M - g := by omega
      have t4 : M - g ≤ M - l := by omega
      have t5 : M - l < M := by omega
      generalize M - s = s' at q2 t1 t2 ⊢
      generalize M - g = l' at q2 t3 t4 ⊢
      generalize M - l = g' at q2 t4 t5 ⊢
    case' b =>
      have q2 := q
      have t1 := sp
      have t2 : 2 * s ≤ M := by
        have : ¬ M < 2 * s := fun y => z (decide_eq_true (by omega))
        omega
      have t3 := l0
      have t4 := lg
      have t5 := g1
      generalize s = s' at q2 t1 t2 ⊢
      generalize l = l' at q2 t3 t4 ⊢
      generalize g = g' at q2 t4 t5 ⊢
    all_goals
      walk_at "rd"
      refine ⟨fdiv_ok _ t1 (lg_big (by omega) (by omega)), ?_⟩
      walk_at "rd"
      have cp := ceil_pos t1 t3
      have cl : ceilD l' s' ≤ l' := ceil_le t1 (by
        have : 1 * l' ≤ s' * l' := Int.mul_le_mul_of_nonneg_right (by omega) (by omega)
        omega)
      have ec : -((-l') / s') = ceilD l' s' := rfl
      rw [ec]
      refine ⟨mulW (by omega) (by omega), ?_⟩
      walk_at "rd"
      refine ite2 (fun z => ?_) (fun z => ?_)
      · walk_at "rd"
        have y : Q (.int (((ceilD l' s').toNat : Nat) : Int)) H := q2 _ (hit_direct t1 t3 t5 (of_decide_eq_true z))
        have e2 : (((ceilD l' s').toNat : Nat) : Int) = ceilD l' s' := Int.toNat_of_nonneg (by omega)
        rw [e2] at y
        exact y
      · have hh : g' < s' * ceilD l' s' := by
          have : ¬ s' * ceilD l' s' ≤ g' := fun y => z (decide_eq_true y)
          omega
        obtain ⟨o1, o2, o3⟩ := one_cell t1 hh t4
        walk_at "rd"
        refine ⟨t1, ?_⟩
        walk_at "rd"
        refine ⟨t1, ?_⟩
        walk_at "rd"
        refine ⟨t1, ?_⟩
        walk_at "rd"
        refine ⟨(-M) % s', l' % s', g' % s', s', rfl, Int.emod_nonneg _ (by omega), Int.emod_lt_of_pos _ t1, o2, o3, Int.emod_lt_of_pos _ t1, by omega, fun r L => ?_⟩
        have L2 := hit_rec t1 hM t3 t4 t5 hh L
        walk_at "rd"
        cases r with
        | none =>
          refine ⟨rfl, ?_⟩
          walk_at "rd"
          exact q2 none L2
        | some n =>
          have nl := hit_lt t1 L
          refine ⟨rfl, ?_⟩
          walk_at "rd"
          refine ⟨mulW (by omega) (by omega), ?_⟩
          walk_at "rd"
          refine ⟨fdiv_ok _ t1 (lg_big (by omega) (by omega)), ?_⟩
          walk_at "rd"
          have y : Q (.int (((ceilD (l' + M * (n : Int)) s').toNat : Nat) : Int)) H := q2 _ L2
          have mn : 0 ≤ M * (n : Int) := Int.mul_nonneg (by omega) (by omega)
          have c2 := ceil_pos t1 (show 0 < l' + M * (n : Int) by omega)
          have e2 : (((ceilD (l' + M * (n : Int)) s').toNat : Nat) : Int) = ceilD (l' + M * (n : Int)) s' := Int.toNat_of_nonneg (by omega)
          rw [e2] at y
          exact y
theorem ok_fb {f : Addr} {fd : FuncData} (F : Fun K "_first_between" "_first_between" s_first_between f fd) (m : mg "_first_between" = some (.ref f)) (k : PySem.W.keepIn K (.ref f) = true) (b : Binds K fd ["step", "least", "greatest", "modulus"] []) : ∀ n, n ≤ 200 → FnOk P w K mg base CX0 (n + 1) f fd ["step", "least", "greatest", "modulus"] (spFB n)
  | 0, _ => ok_fb0 F
  | n + 1, h => ok_fbS F (by omega) ⟨ok_fb F m k b n (by omega), m, k, b⟩
end
end HT
namespace HT
open PySem L2
theorem due_more {o s : Int} {m : Str} {v : Int} (hm : Mode m) (hs : 1 ≤ s) (n : Nat) : dueM o s m (v + s * 2 * (n : Int)) = dueM o s m v + s * 2 * (n : Int) := by
  induction n with
  | zero => rw [show v + s * 2 * ((0 : Nat) : Int) = v by simp]; simp
  | succ n ih =>
    have e : s * 2 * ((n + 1 : Nat) : Int) = s * 2 * (n : Int) + s * 2 := by
      rw [show ((n + 1 : Nat) : Int) = (n : Int) + 1 by omega, Int.mul_add, Int.mul_one]
    rw [e, show v + (s * 2 * (n : Int) + s * 2) = v + s * 2 * (n : Int) + s * 2 by omega, due_two hm hs, ih]
    omega
theorem due_per {o s : Int} {m : Str} {v : Int} (hm : Mode m) (hs : 1 ≤ s) (t : Int) : dueM o s m (v + s * 2 * t) = dueM o s m v + s * 2 * t := by
  rcases Int.le_total 0 t with h | h
  · obtain ⟨n, rfl⟩ := Int.eq_ofNat_of_zero_le h
    exact due_more hm hs n
  · obtain ⟨n, hn⟩ := Int.eq_ofNat_of_zero_le (show 0 ≤ -t by omega)
    have := due_more (o := o) (v := v + s * 2 * t) hm hs n
    have e : s * 2 * (n : Int) = -(s * 2 * t) := by rw [← hn, Int.mul_neg]
    rw [e, show v + s * 2 * t + -(s * 2 * t) = v by omega] at this
    omega
/-- the order of the sides (o, s, m) and (p, u, q) matters for x -/
def diffX (o s : Int) (m : Str) (p u : Int) (q : Str) (x : Int) : Prop := dueM p u q (dueM o s m x) ≠ dueM o s m (dueM p u q x)
theorem due_com {o s : Int} {m : Str} {v : Int} (hm : Mode m) (hs : 1 ≤ s) (t : Int) : dueM o s m (v + perM s m * t) = dueM o s m v + perM s m * t := by
  unfold perM
  by_cases e : m = "half_even"
  · rw [if_pos e, Int.mul_comm 2 s]
    exact due_per hm hs t
  · rw [if_neg e]
    obtain ⟨eq, r0, r1, wh⟩ := fig_of (o := o) (m := m) (v := v) hs
    generalize (v - o) / s = q at eq wh
    generalize (v - o) % s = r at eq r0 r1 wh
    have g : goesUp m s (q + t) r = goesUp m s q r := by
      unfold goesUp
      rw [if_neg e, if_neg e]
    have F2 : Fig o s m (v + s * t) (q + t) r (figM o s m v + t) := by
      refine ⟨?_, r0, r1, ?_⟩
      · rw [Int.mul_add]; omega
      · rw [g]
        rcases wh with ⟨a, b⟩ | ⟨a, b⟩
        · exact .inl ⟨a, by omega⟩
        · exact .inr ⟨a, by omega⟩
    have z := fig_uniq hs F2
    unfold dueM
    rw [z, Int.mul_add]
    omega
theorem due_dvd {o s : Int} {m : Str} {v L : Int} (hm : Mode m) (hs : 1 ≤ s) (h : perM s m ∣ L) : dueM o s m (v + L) = dueM o s m v + L := by
  obtain ⟨t, rfl⟩ := h
  exact due_com hm hs t
theorem due_monoN {o s : Int} {m : Str} {v : Int} (hm : Mode m) (hs : 1 ≤ s) : ∀ n : Nat, dueM o s m v ≤ dueM o s m (v + (n : Int))
  | 0 => by rw [show v + ((0 : Nat) : Int) = v by omega]; exact Int.le_refl _
  | n + 1 => by
    have a := due_monoN hm hs n (o := o) (v := v)
    have b := due_mono hm hs (o := o) (v := v + (n : Int))
    rw [show v + ((n + 1 : Nat) : Int) = v + (n : Int) + 1 by omega]
    omega
theorem due_le {o s : Int} {m : Str} {v y : Int} (hm : Mode m) (hs : 1 ≤ s) (h : v ≤ y) : dueM o s m v ≤ dueM o s m y := by
  have := due_monoN hm hs (y - v).toNat (o := o) (v := v)
  rw [show v + (((y - v).toNat : Nat) : Int) = y by omega] at this
  exact this
/-- the values of a block -/
def InB (st mo pe v : Int) : Prop := (v - st) % pe ≤ mo
instance (st mo pe v : Int) : Decidable (InB st mo pe v) := by unfold InB; exact inferInstance
def fibM (st mo pe v : Int) : Int := if (v - st) % pe ≤ mo then v else v + pe - (v - st) % pe
theorem inb_add {st mo pe v t : Int} : InB st mo pe (v + pe * t) ↔ InB st mo pe v := by
  unfold InB
  rw [show v + pe * t - st = v - st + pe * t by omega, Int.add_mul_emod_self_left]
theorem inb_of {st mo pe v r t : Int} (h : v = st + pe * t + r) (r0 : 0 ≤ r) (r1 : r < pe) (rm : r ≤ mo) : InB st mo pe v := by
  unfold InB
  rw [show v - st = r + pe * t by omega, Int.add_mul_emod_self_left, Int.emod_eq_of_lt r0 r1]
  exact rm
theorem inb_at {st mo pe v : Int} (hp : 0 < pe) (h : InB st mo pe v) : ∃ t r : Int, v = st + pe * t + r ∧ 0 ≤ r ∧ r ≤ mo ∧ r < pe := by
  refine ⟨(v - st) / pe, (v - st) % pe, ?_, Int.emod_nonneg _ (by omega), h, Int.emod_lt_of_pos _ hp⟩
  have := Int.emod_add_mul_ediv (v - st) pe
  omega
theorem mul_pos_le {pe a b : Int} (hp : 0 < pe) (h : a < b) : pe * a + pe ≤ pe * b := by
  have : pe * (a + 1) ≤ pe * b := Int.mul_le_mul_of_nonneg_left (by omega) (by omega)
  rw [Int.mul_add, Int.mul_one] at this
  exact this
theorem fib_spec {st mo pe v : Int} (hp : 0 < pe) (hm : 0 ≤ mo) : v ≤ fibM st mo pe v ∧ fibM st mo pe v < v + pe ∧ InB st mo pe (fibM st mo pe v) ∧ ∀ y, v ≤ y → y < fibM st mo pe v → ¬ InB st mo pe y := by
  have r0 := Int.emod_nonneg (v - st) (show pe ≠ 0 by omega)
  have r1 := Int.emod_lt_of_pos (v - st) hp
  have ee := Int.emod_add_mul_ediv (v - st) pe
  unfold fibM
  by_cases h : (v - st) % pe ≤ mo
  · rw [if_pos h]
    exact ⟨by omega, by omega, h, fun y a b => by omega⟩
  · rw [if_neg h]
    refine ⟨by omega, by omega, ?_, fun y a b c => ?_⟩
    · refine inb_of (t := (v - st) / pe + 1) (r := 0) ?_ (by omega) hp hm
      rw [Int.mul_add]
      omega
    · obtain ⟨t, r, e1, e2, e3, e4⟩ := inb_at hp c
      rcases Int.lt_trichotomy t ((v - st) / pe) with z | z | z
      · have := mul_pos_le hp z
        omega
      · rw [z] at e1
        omega
      · have := mul_pos_le hp z
        omega
/-- the least value from v on with a property -/
def LeastI (Pr : Int → Prop) (v : Int) : Option Int → Prop
  | some x => v ≤ x ∧ Pr x ∧ ∀ y, v ≤ y → y < x → ¬ Pr y
  | none => ∀ y, v ≤ y → ¬ Pr y
theorem leastI_congr {A B : Int → Prop} {v : Int} {r : Option Int} (h : ∀ x, A x ↔ B x) (e : LeastI A v r) : LeastI B v r := by
  cases r with
  | none => exact fun y z w => e y z ((h y).mpr w)
  | some x => exact ⟨e.1, (h x).mp e.2.1, fun y y0 y1 z => e.2.2 y y0 y1 ((h y).mpr z)⟩
/-- a place of one block holds a value of the other -/
theorem place_iff {b mo os om op : Int} (hp : 0 < op) (hm : 0 ≤ mo) (ho : 0 ≤ om) : (∃ y, b ≤ y ∧ y ≤ b + mo ∧ InB os om op y) ↔ (b + mo - os) % op ≤ mo + om := by
  have r0 := Int.emod_nonneg (b + mo - os) (show op ≠ 0 by omega)
  have r1 := Int.emod_lt_of_pos (b + mo - os) hp
  have ee := Int.emod_add_mul_ediv (b + mo - os) op
  constructor
  · rintro ⟨y, h1, h2, h3⟩
    obtain ⟨t, r, e1, e2, e3, e4⟩ := inb_at hp h3
    have e5 : b + mo - os = (r + (b + mo - y)) + op * t := by omega
    rw [e5, Int.add_mul_emod_self_left]
    have := Int.emod_add_mul_ediv (r + (b + mo - y)) op
    have q0 : 0 ≤ (r + (b + mo - y)) / op := Int.ediv_nonneg (by omega) (by omega)
    have q1 : 0 ≤ op * ((r + (b + mo - y)) / op) := Int.mul_nonneg (by omega) q0
    omega
  · intro h
    by_cases e : (b + mo - os) % op ≤ om
    · exact ⟨b + mo, by omega, by omega, e⟩
    · refine ⟨b + mo - ((b + mo - os) % op - om), by omega, by omega, ?_⟩
      refine inb_of (t := (b + mo - os) / op) (r := om) ?_ ho (by omega) (by omega)
      omega
/-- first_in_both, as the program finds it -/
theorem both_near {st mo pe os om op v : Int} (hp : 0 < pe) (hm : 0 ≤ mo) (hq : 0 < op) (ho : 0 ≤ om) (hmp : mo < pe)
    (h : fibM os om op (fibM st mo pe v) ≤ fibM st mo pe v - (fibM st mo pe v - st) % pe + mo) : LeastI (fun x => InB st mo pe x ∧ InB os om op x) v (some (fibM os om op (fibM st mo pe v))) := by
  obtain ⟨a1, a2, a3, a4⟩ := fib_spec (v := v) (st := st) hp hm
  generalize fibM st mo pe v = x at *
  obtain ⟨b1, b2, b3, b4⟩ := fib_spec (v := x) (st := os) hq ho
  generalize fibM os om op x = z at *
  have r0 := Int.emod_nonneg (x - st) (show pe ≠ 0 by omega)
  have ee := Int.emod_add_mul_ediv (x - st) pe
  refine ⟨by omega, ⟨?_, b3⟩, fun y y0 y1 c => ?_⟩
  · exact inb_of (t := (x - st) / pe) (r := z - (x - (x - st) % pe)) (by omega) (by omega) (by omega) (by omega)
  · by_cases g : y < x
    · exact a4 y y0 g c.1
    · exact b4 y (by omega) y1 c.2
theorem both_far {st mo pe os om op v : Int} (hp : 0 < pe) (hm : 0 ≤ mo) (hq : 0 < op) (ho : 0 ≤ om) (hmp : mo < pe) {r : Option Nat}
    (h : fibM st mo pe v - (fibM st mo pe v - st) % pe + mo < fibM os om op (fibM st mo pe v)) (L : Least (HitS (fibM st mo pe v - (fibM st mo pe v - st) % pe + pe + mo - os) pe (mo + om) op) r) :
    LeastI (fun x => InB st mo pe x ∧ InB os om op x) v (r.map fun k : Nat => fibM os om op (fibM st mo pe v - (fibM st mo pe v - st) % pe + pe + pe * (k : Int))) := by
  obtain ⟨a1, a2, a3, a4⟩ := fib_spec (v := v) (st := st) hp hm
  generalize fibM st mo pe v = x at *
  obtain ⟨b1, b2, b3, b4⟩ := fib_spec (v := x) (st := os) hq ho
  generalize fibM os om op x = z at *
  have r0 := Int.emod_nonneg (x - st) (show pe ≠ 0 by omega)
  have r1 := Int.emod_lt_of_pos (x - st) hp
  have ee := Int.emod_add_mul_ediv (x - st) pe
  have bx : (x - st) % pe ≤ mo := a3
  -- the places behind
  have key : ∀ y, v ≤ y → InB st mo pe y → InB os om op y → ∃ j : Nat, x - (x - st) % pe + pe + pe * (j : Int) ≤ y ∧ y ≤ x - (x - st) % pe + pe + pe * (j : Int) + mo ∧ HitS (x - (x - st) % pe + pe + mo - os) pe (mo + om) op j := by
    intro y y0 c1 c2
    have yx : x ≤ y := by
      by_cases g : y < x
      · exact absurd c1 (a4 y y0 g)
      · omega
    have yz : z ≤ y := by
      by_cases g : y < z
      · exact absurd c2 (b4 y yx g)
      · omega
    obtain ⟨t, r, e1, e2, e3, e4⟩ := inb_at hp c1
    have tj : (x - st) / pe < t := by
      rcases Int.lt_trichotomy t ((x - st) / pe) with q | q | q
      · have := mul_pos_le hp q
        omega
      · rw [q] at e1
        omega
      · exact q
    refine ⟨(t - (x - st) / pe - 1).toNat, ?_⟩
    have en : (((t - (x - st) / pe - 1).toNat : Nat) : Int) = t - (x - st) / pe - 1 := Int.toNat_of_nonneg (by omega)
    rw [en]
    have ep : pe * (t - (x - st) / pe - 1) = pe * t - pe * ((x - st) / pe) - pe := by rw [Int.mul_sub, Int.mul_sub, Int.mul_one]
    have l1 : x - (x - st) % pe + pe + pe * (t - (x - st) / pe - 1) ≤ y := by omega
    have l2 : y ≤ x - (x - st) % pe + pe + pe * (t - (x - st) / pe - 1) + mo := by omega
    refine ⟨l1, l2, ?_⟩
    unfold HitS
    rw [en]
    have := (place_iff hq hm ho).mp ⟨y, l1, l2, c2⟩
    rw [show x - (x - st) % pe + pe + mo - os + pe * (t - (x - st) / pe - 1) = x - (x - st) % pe + pe + pe * (t - (x - st) / pe - 1) + mo - os by omega]
    exact this
  cases r with
  | none =>
    intro y y0 c
    obtain ⟨j, _, _, hj⟩ := key y y0 c.1 c.2
    exact L j hj
  | some k =>
    obtain ⟨L1, L2⟩ := L
    have kk : (x - (x - st) % pe + pe + pe * (k : Int) + mo - os) % op ≤ mo + om := by
      unfold HitS at L1
      rw [show x - (x - st) % pe + pe + pe * (k : Int) + mo - os = x - (x - st) % pe + pe + mo - os + pe * (k : Int) by omega]
      exact L1
    obtain ⟨y, h1, h2, h3⟩ := (place_iff hq hm ho).mpr kk
    have kp : 0 ≤ pe * (k : Int) := Int.mul_nonneg (by omega) (by omega)
    obtain ⟨d1, d2, d3, d4⟩ := fib_spec (v := x - (x - st) % pe + pe + pe * (k : Int)) (st := os) hq ho
    show LeastI _ v (some (fibM os om op (x - (x - st) % pe + pe + pe * (k : Int))))
    generalize hf : fibM os om op (x - (x - st) % pe + pe + pe * (k : Int)) = f at d1 d2 d3 d4
    have fy : f ≤ y := by
      by_cases g : y < f
      · exact absurd h3 (d4 y h1 g)
      · omega
    refine ⟨by omega, ⟨?_, d3⟩, fun w w0 w1 c => ?_⟩
    · refine inb_of (t := (x - st) / pe + 1 + (k : Int)) (r := f - (x - (x - st) % pe + pe + pe * (k : Int))) ?_ (by omega) (by omega) (by omega)
      rw [Int.mul_add, Int.mul_add, Int.mul_one]
      omega
    · obtain ⟨j, j1, j2, j3⟩ := key w w0 c.1 c.2
      have jk : k ≤ j := by
        by_cases g : j < k
        · exact absurd j3 (L2 j g)
        · omega
      have : pe * (k : Int) ≤ pe * (j : Int) := Int.mul_le_mul_of_nonneg_left (by omega) (by omega)
      exact d4 w (by omega) w1 c.2
/-- the figures of a period -/
def figsN (s : Int) (m : Str) : Int := perM s m / s
theorem figs_eq {s : Int} {m : Str} (hs : 1 ≤ s) : figsN s m = if m = "half_even" then 2 else 1 := by
  unfold figsN perM
  by_cases e : m = "half_even"
  · rw [if_pos e, if_pos e, Int.mul_ediv_cancel _ (by omega)]
  · rw [if_neg e, if_neg e, Int.ediv_self (by omega)]
theorem per_figs {s : Int} {m : Str} (hs : 1 ≤ s) : perM s m = s * figsN s m := by
  rw [figs_eq hs]
  unfold perM
  by_cases e : m = "half_even"
  · rw [if_pos e, if_pos e, Int.mul_comm]
  · rw [if_neg e, if_neg e, Int.mul_one]
theorem figs_bd {s : Int} {m : Str} (hs : 1 ≤ s) : 1 ≤ figsN s m ∧ figsN s m ≤ 2 := by
  rw [figs_eq hs]
  split <;> omega
theorem unr_iff {o s : Int} {m : Str} {v : Int} (hm : Mode m) (hs : 1 ≤ s) : dueM o s m v ≤ v ↔ ∃ k, 0 ≤ k ∧ k < figsN s m ∧ InB (o + s * k) (below (mir m) s k) (perM s m) v := by
  have fb := figs_bd (m := m) hs
  have pf := per_figs (m := m) hs
  have pp : s ≤ perM s m := by
    rw [pf]
    have : s * 1 ≤ s * figsN s m := Int.mul_le_mul_of_nonneg_left (by omega) (by omega)
    omega
  constructor
  · intro h
    have e0 := Int.emod_add_mul_ediv (figM o s m v) (figsN s m)
    refine ⟨figM o s m v % figsN s m, Int.emod_nonneg _ (by omega), Int.emod_lt_of_pos _ (by omega), ?_⟩
    generalize hk : figM o s m v % figsN s m = k at *
    generalize hj : figM o s m v / figsN s m = j at *
    have ev : v = (v - perM s m * j) + perM s m * j := by omega
    have dc := due_com (o := o) (v := v - perM s m * j) hm hs j
    rw [← ev] at dc
    have es : s * figM o s m v = s * k + perM s m * j := by
      rw [← e0, Int.mul_add, pf, Int.mul_assoc]
    have ed : dueM o s m v = o + s * k + perM s m * j := by
      unfold dueM
      omega
    have ed2 : dueM o s m (v - perM s m * j) = o + s * k := by omega
    have ef : figM o s m (v - perM s m * j) = k := by
      unfold dueM at ed2
      exact Int.eq_of_mul_eq_mul_left (show s ≠ 0 by omega) (by omega)
    have hi := ((fig_iff hm hs).mp ef).2
    unfold highM at hi
    have bb := below_bd (k := k) (mir_mode hm) hs
    exact inb_of (t := j) (r := v - perM s m * j - (o + s * k)) (by omega) (by omega) (by omega) (by omega)
  · rintro ⟨k, k0, k1, h⟩
    obtain ⟨t, r, e1, e2, e3, e4⟩ := inb_at (by omega) h
    have lh := low_high (o := o) (k := k) hm hs
    have ef : figM o s m (o + s * k + r) = k := (fig_iff hm hs).mpr ⟨by omega, by unfold highM; omega⟩
    have dc := due_com (o := o) (v := o + s * k + r) hm hs t
    rw [show o + s * k + r + perM s m * t = v by omega] at dc
    have ed : dueM o s m (o + s * k + r) = o + s * k := by
      unfold dueM
      rw [ef]
    omega
end HT
namespace HT
open PySem L2
def oV : Option Int → V
  | none => .non
  | some k => .int k
def spFH : Sp := fun vs H Q _ => ∃ st sp mo M : Int, vs = [.int st, .int sp, .int mo, .int M] ∧ 0 < M ∧ M < 2 ^ 102 ∧ 0 ≤ mo ∧ ∀ r, Least (HitS st sp mo M) r → Q (oN r) H
def blkV (st mo pe : Int) : HO := .tup [.int st, .int mo, .int pe]
structure BlkP (st mo pe : Int) : Prop where
  p0 : 0 < pe
  p1 : pe < 2 ^ 102
  m0 : 0 ≤ mo
  m1 : mo < pe
def spFIB : Sp := fun vs H Q _ => ∃ (b : Addr) (st mo pe v : Int), vs = [.ref b, .int v] ∧ H b = some (blkV st mo pe) ∧ BlkP st mo pe ∧ Q (.int (fibM st mo pe v)) H
def spFI2 : Sp := fun vs H Q _ => ∃ (a b : Addr) (st mo pe os om op v : Int), vs = [.ref a, .ref b, .int v] ∧ H a = some (blkV st mo pe) ∧ BlkP st mo pe ∧ H b = some (blkV os om op) ∧ BlkP os om op ∧ ∀ r, LeastI (fun x => InB st mo pe x ∧ InB os om op x) v r → Q (oV r) H
theorem hitS_lt {st sp mo M : Int} (hM : 0 < M) {k : Nat} (h : Least (HitS st sp mo M) (some k)) : (k : Int) < M := by
  by_cases e : (k : Int) < M
  · exact e
  · exfalso
    obtain ⟨a, c⟩ := h
    refine c (k - M.toNat) (by omega) ?_
    have e2 : st + sp * ((k - M.toNat : Nat) : Int) = st + sp * (k : Int) - M * sp := by
      rw [show ((k - M.toNat : Nat) : Int) = (k : Int) - M by omega, Int.mul_sub, Int.mul_comm M sp]
      omega
    unfold HitS
    rw [e2, Int.sub_mul_emod_self_left]
    exact a
section
variable {P : Program} {w : World} {K : PySem.W.Frag} {mg : Str → Option Value} {base : Heap} {fB fH fI : Addr} {dB dH dI : FuncData}
theorem ok_hit {f : Addr} {fd : FuncData} (F : Fun K "first_hit" "first_hit" s_first_hit f fd) (FB : Cal P w K mg base "_first_between" 103 ["step", "least", "greatest", "modulus"] (spFB 102) fB dB) : FnOk P w K mg base CX0 104 f fd ["start", "step", "most", "modulus"] spFH := by
  refine F.ok sc_first_hit (fun vs H Q E h => ?_) (fun cdv A outer s0 H vs Q E hr h => ?_)
  · obtain ⟨st, sp, mo, M, rfl, _⟩ := h
    rfl
  · obtain ⟨st, sp, mo, M, rfl, M0, M1, m0, q⟩ := h
    have nd := sc_first_hit.nd
    refine ⟨_, (pss_cons (ps_set (i := 4) nd rfl (Or.inl rfl) (pe_op op_mod (pe_un un_neg (pv 0)) (pv 3)))
      (pss_cons (ps_set (i := 5) nd rfl (Or.inl rfl) (pe_op op_add (pv 4) (pv 2)))
      (pss_cons (ps_if (PW.pt (pw_or (pt_cmpR op_eq (pv 4) pe_int (nomark _)) (pw_or1 (pt_cmpR op_ge (pv 5) (pv 3) (nomark _))))) (pss_one (ps_ret pe_int)) pss_nil)
      (pss_one (ps_ret (pcl FB hr (by decide) (by rfl) (pa_cons (pe_op op_mod (pv 1) (pv 3)) (pa_cons (pv 4) (pa_cons (pv 5) (pa_cons (pv 3) pa_nil)))))))))), ?_⟩
    have l0 := Int.emod_nonneg (-st) (show M ≠ 0 by omega)
    have l1 := Int.emod_lt_of_pos (-st) M0
    walk_at "rd"
    refine ⟨M0, ?_⟩
    walk_at "rd"
    refine ⟨rfl, ?_⟩
    walk_at "rd"
    refine ite2 (fun z => ?_) (fun z => ?_)
    · have e := int_t z
      walk_at "rd"
      exact q (some 0) (hits_zero M0 m0 (.inl e))
    have e1 := int_f z
    walk_at "rd"
    refine ite2 (fun z => ?_) (fun z => ?_)
    · have e := of_decide_eq_true z
      walk_at "rd"
      exact q (some 0) (hits_zero M0 m0 (.inr e))
    have e2 : (-st) % M + mo < M := by
      have : ¬ M ≤ (-st) % M + mo := fun y => z (decide_eq_true y)
      omega
    walk_at "rd"
    refine ⟨M0, ?_⟩
    walk_at "rd"
    refine ⟨sp % M, (-st) % M, (-st) % M + mo, M, rfl, Int.emod_nonneg _ (by omega), Int.emod_lt_of_pos _ M0, by omega, by omega, e2, M1, fun r L => ?_⟩
    exact q r (least_congr (fun k => (hits_iff M0 m0 (by omega) e2 k).symm) L)
end
end HT
namespace HT
open PySem L2
/-- a def with defaults that may be called by its name -/
structure CalD (P : Program) (w : World) (K : PySem.W.Frag) (mg : Str → Option Value) (base : Heap) (x : Str) (k : Nat) (ps : List Str) (dvs : List V) (sp : Sp) (f : Addr) (fd : FuncData) : Prop where
  ok : FnOk P w K mg base CX0 k f fd ps sp
  gl : mg x = some (.ref f)
  kp : PySem.W.keepIn K (.ref f) = true
  bd : ∃ ds, Vals dvs ds ∧ Binds K fd ps ds
theorem pcd {X : Cx} {x : Str} {k j : Nat} {ps : List Str} {dvs : List V} {sp : Sp} {f : Addr} {fd : FuncData} {e : Expr} {es : List Expr} {t : TA} {p pos : Pos} (C : CalD X.prog X.w X.K X.mg X.base x k ps dvs sp f fd) (hr : Room j X.A) (hj : k ≤ j) (hg : Gl X x) (ha : PA X (e :: es) t)
    (hdb : (x == ("__debug__" : Str)) = false := by decide) (he : starEach (e :: es) X.env = (false, eval e X.env) :: starEach es X.env := by rfl) (hpl : (backTo pos (starEach es X.env)).any (·.1) = false := by rfl) : PE X (.Call (.Name x p) (e :: es) [] pos) (tCall sp dvs E0 t) := by
  obtain ⟨ds, hv, hb⟩ := C.bd
  exact pe_call C.ok (hr.mono hj) hg C.gl C.kp hb hv pass0 ha hdb he hpl
structure MaxT (mg : Str → Option Value) : Prop where
  max : mg "max" = none
  min : mg "min" = none
def BlksAt (H' : Hp) (L : Addr) (o s : Int) (m : Str) : Prop := ∃ ps : List Addr, H' L = some (.lst (ps.map V.ref)) ∧ ps.length = (figsN s m).toNat ∧ ∀ (i : Nat) (p : Addr), ps[i]? = some p → H' p = some (blkV (o + s * (i : Int)) (below (mir m) s (i : Int)) (perM s m))
def spUnr : Sp := fun vs H Q _ => ∃ (p : Addr) (o s : Int) (m : Str), vs = [.ref p, .int 1] ∧ H p = some (sideV o s m) ∧ SideP o s m ∧ ∀ (L : Addr) (H' : Hp), H L = none → Same H H' → BlksAt H' L o s m → Q (.ref L) H'
def spRs : Sp := fun vs H Q _ => ∃ (p : Addr) (o s : Int) (m : Str), vs = [.ref p] ∧ H p = some (sideV o s m) ∧ SideP o s m ∧ ∀ H', Same H H' → Q (.bl (!decide (firstM s m = "down"))) H'
theorem blkP_of {o s k : Int} {m : Str} (S : SideP o s m) : BlkP (o + s * k) (below (mir m) s k) (perM s m) := by
  have b := below_bd (k := k) (mir_mode S.md) S.s0
  have p := perM_bd S
  have pf := per_figs (m := m) S.s0
  have fb := figs_bd (m := m) S.s0
  have s0 := S.s0
  have : s * 1 ≤ s * figsN s m := Int.mul_le_mul_of_nonneg_left (by omega) (by omega)
  exact ⟨by omega, by omega, b.1, by omega⟩
section
variable {P : Program} {w : World} {K : PySem.W.Frag} {mg : Str → Option Value} {base : Heap} {fB fH fI : Addr} {dB dH dI : FuncData}
end
end HT
namespace HT
open PySem L2
/-- the list at l holds sides with these parts; it may be empty -/
structure SidL (H : Hp) (l : Addr) (xs : List V) (ss : List Sd) : Prop where
  hl : H l = some (.lst xs)
  len : xs.length = ss.length
  l4 : ss.length ≤ 4
  at_ : ∀ (i : Nat) (d : Sd), ss[i]? = some d → ∃ p : Addr, xs[i]? = some (V.ref p) ∧ H p = some (sideV d.o d.s d.m) ∧ SideP d.o d.s d.m
theorem SidesAt.toL {H : Hp} {l : Addr} {xs : List V} {ss : List Sd} (S : SidesAt H l xs ss) : SidL H l xs ss := ⟨S.hl, S.len, S.l4, S.at_⟩
theorem SidL.same {H H' : Hp} {l : Addr} {xs : List V} {ss : List Sd} (S : SidL H l xs ss) (e : Same H H') : SidL H' l xs ss :=
  ⟨e _ _ S.hl, S.len, S.l4, fun i d h => let ⟨p, a, b, c⟩ := S.at_ i d h; ⟨p, a, e _ _ b, c⟩⟩
theorem SidL.item {H : Hp} {l : Addr} {xs : List V} {ss : List Sd} (S : SidL H l xs ss) {i : Nat} {y : V} (h : xs[i]? = some y) : ∃ d p, ss[i]? = some d ∧ y = .ref p ∧ H p = some (sideV d.o d.s d.m) ∧ SideP d.o d.s d.m := by
  have hi : i < ss.length := by have := (List.getElem?_eq_some_iff.mp h).1; rw [S.len] at this; exact this
  obtain ⟨p, e, hp, sp⟩ := S.at_ i ss[i] (List.getElem?_eq_getElem hi)
  rw [h] at e
  exact ⟨ss[i], p, List.getElem?_eq_getElem hi, Option.some.inj e, hp, sp⟩
theorem SidL.side {H : Hp} {l : Addr} {xs : List V} {ss : List Sd} (S : SidL H l xs ss) : ∀ d ∈ ss, SideP d.o d.s d.m := fun d hd => by
  obtain ⟨i, hi, rfl⟩ := List.mem_iff_getElem.mp hd
  obtain ⟨_, _, _, sp⟩ := S.at_ i _ (List.getElem?_eq_getElem hi)
  exact sp
def upD (d : Sd) : Bool := !decide (firstM d.s d.m = "down")
def mirD (d : Sd) : Sd := ⟨-d.o, d.s, mir d.m⟩
/-- v, or what some side writes for it, and no less -/
def HiP (ss : List Sd) (v h : Int) : Prop := v ≤ h ∧ (∀ d ∈ ss, dueM d.o d.s d.m v ≤ h) ∧ (h = v ∨ ∃ d ∈ ss, h = dueM d.o d.s d.m v)
def spPerL : Sp := fun vs H Q _ => ∃ (l : Addr) (xs : List V) (ss : List Sd), vs = [.ref l] ∧ SidL H l xs ss ∧ Q (.int (comN ss : Int)) H
def spRais : Sp := fun vs H Q _ => ∃ (l : Addr) (xs : List V) (ss : List Sd), vs = [.ref l] ∧ SidL H l xs ss ∧ ∀ (L : Addr) (ys : List V) (H' : Hp), H L = none → Same H H' → SidL H' L ys (ss.filter upD) → Q (.ref L) H'
def spMirs : Sp := fun vs H Q _ => ∃ (l : Addr) (xs : List V) (ss : List Sd), vs = [.ref l] ∧ SidL H l xs ss ∧ ∀ (L : Addr) (ys : List V) (H' : Hp), H L = none → Same H H' → SidL H' L ys (ss.map mirD) → Q (.ref L) H'
def spHi : Sp := fun vs H Q _ => ∃ (l : Addr) (xs : List V) (ss : List Sd) (v : Int), vs = [.ref l, .int v] ∧ SidL H l xs ss ∧ (-2 ^ 900 < v ∧ v < 2 ^ 900) ∧ ∀ (h : Int) (H' : Hp), HiP ss v h → Same H H' → Q (.int h) H'
/-- a list of sides grows -/
theorem grow_side {H H' : Hp} {D : Addr} {ys : List V} {ts : List Sd} {p : Addr} {d : Sd} (A : ∀ (i : Nat) (e : Sd), ts[i]? = some e → ∃ p : Addr, ys[i]? = some (V.ref p) ∧ H p = some (sideV e.o e.s e.m) ∧ SideP e.o e.s e.m) (len : ys.length = ts.length)
    (k : ∀ b u, H b = some u → b ≠ D → H' b = some u) (hD : H D = some (.lst ys)) (hp : H' p = some (sideV d.o d.s d.m)) (sp : SideP d.o d.s d.m) :
    ∀ (i : Nat) (e : Sd), (ts ++ [d])[i]? = some e → ∃ p' : Addr, (ys ++ [V.ref p])[i]? = some (V.ref p') ∧ H' p' = some (sideV e.o e.s e.m) ∧ SideP e.o e.s e.m := by
  intro i e he
  rcases Nat.lt_or_ge i ts.length with z | z
  · rw [List.getElem?_append_left z] at he
    obtain ⟨p2, e1, hp2, sp2⟩ := A i e he
    exact ⟨p2, by rw [List.getElem?_append_left (by omega)]; exact e1, k _ _ hp2 (ne_of hp2 hD (by intro y; cases y)), sp2⟩
  · rw [List.getElem?_append_right z] at he
    have e0 : i - ts.length = 0 := by
      have := (List.getElem?_eq_some_iff.mp he).1
      simp at this
      omega
    rw [e0] at he
    have ee : e = d := by simpa using he.symm
    subst ee
    exact ⟨p, by rw [List.getElem?_append_right (by omega), show i - ys.length = 0 by omega]; rfl, hp, sp⟩
section
variable {P : Program} {w : World} {K : PySem.W.Frag} {mg : Str → Option Value} {base : Heap} {fB fH fI : Addr} {dB dH dI : FuncData}
theorem ok_commonL {f : Addr} {fd : FuncData} (F : Fun K "common_period" "common_period" s_common_period f fd) (A' : AmG mg) (Pe : Cal P w K mg base "period_of" 1 ["side"] spPerOf fB dB) : FnOk P w K mg base CX0 2 f fd ["sides"] spPerL := by
  refine F.ok sc_common_period (fun vs H Q E h => ?_) (fun cdv A outer s0 H vs Q E hr h => ?_)
  · obtain ⟨l, xs, ss, rfl, _⟩ := h
    rfl
  · obtain ⟨l, xs, ss, rfl, SS, q⟩ := h
    have nd := sc_common_period.nd
    refine ⟨_, pss_cons (ps_set (i := 1) nd rfl (Or.inl rfl) pe_int)
      (pss_cons (ps_for PassesOwn.never rfl (pi_list (pv 0)) (pg_name (i := 2) nd rfl (Or.inl rfl)) (pss_one (ps_set (i := 1) nd rfl (Or.inl rfl) (pe_callBfun cr_lcm2 (by rfl) A'.lcm (pa_cons (pv 1) (pa_cons (pcl Pe hr (by decide) (by rfl) (pa_cons (pv 2) pa_nil)) pa_nil))))))
      (pss_one (ps_ret (pv 1)))), ?_⟩
    walk_at "rd"
    refine ⟨⟨_, SqL.of SS.hl⟩, ?_⟩
    refine for_list (K := K) (a := l) (xs := xs) (fun i st H' => ∃ x2 : Option V, st = [some (.ref l), some (.int (comN (ss.take i) : Int)), x2] ∧ H' = H) ⟨none, rfl, rfl⟩ (fun _ _ _ _ ⟨_, _, e⟩ => e ▸ SqL.of SS.hl) ?_ ?_
    · rintro i y st H' hy ⟨x2, rfl, rfl⟩
      obtain ⟨d, p, ed, rfl, hp, sp⟩ := SS.item hy
      walk_at "rd"
      refine ⟨p, d.o, d.s, d.m, rfl, hp, sp, ?_⟩
      have pb := perM_bd sp
      have cl := com_take SS.side SS.l4 i
      have big : (2 : Nat) ^ 420 < 2 ^ 2000 := Nat.pow_lt_pow_right (by decide) (by decide)
      have big2 : (2 : Nat) ^ 120 < 2 ^ 2000 := Nat.pow_lt_pow_right (by decide) (by decide)
      have e2 : (perM d.s d.m).natAbs = perN d := by unfold perN; omega
      refine ⟨_, _, rfl, ?_, ?_, ?_⟩
      · rw [Int.natAbs_natCast]; omega
      · rw [e2]; unfold perN; omega
      · rw [Int.natAbs_natCast, e2, ← com_snoc ed]
        exact ⟨_, rfl, rfl⟩
    · rintro st H' ⟨x2, rfl, rfl⟩
      rw [SS.len, List.take_length]
      walk_at "rd"
      exact q
theorem filter_snoc {ss : List Sd} {i : Nat} {d : Sd} (h : ss[i]? = some d) : (ss.take (i + 1)).filter upD = (ss.take i).filter upD ++ (if upD d = true then [d] else []) := by
  rw [List.take_succ, h, List.filter_append]
  congr 1
  simp only [Option.toList, List.filter_cons, List.filter_nil]
theorem ok_mirs {f : Addr} {fd : FuncData} (F : Fun K "mirrors" "mirrors" s_mirrors f fd) (Mi : Cal P w K mg base "mirror" 4 ["side"] spMirror fB dB) : FnOk P w K mg base CX0 5 f fd ["sides"] spMirs := by
  refine F.ok sc_mirrors (fun vs H Q E h => ?_) (fun cdv A outer s0 H vs Q E hr h => ?_)
  · obtain ⟨l, xs, ss, rfl, _⟩ := h
    rfl
  · obtain ⟨l, xs, ss, rfl, SS, q⟩ := h
    have nd := sc_mirrors.nd
    refine ⟨_, (pss_one (ps_ret (pe_lc (own := [("side", 1)]) (g := gName 1) (tt := tYes) rfl nd (pi_list (pv 0)) (blkOk_by (N := ["sides", "side"]) (sc := defScope s_mirrors) (by decide +kernel)) (fun _ _ _ _ _ => pg_name (i := 1) nd rfl (Or.inl rfl)) (fun _ _ _ _ _ => pts_nil) (fun _ _ _ _ _ => (pcl Mi hr (by decide) (by rfl) (pa_cons (pv 1) pa_nil)))))), ?_⟩
    walk_at "rd"
    refine ⟨⟨_, SqL.of SS.hl⟩, fun L nL => ?_⟩
    refine lc_list (K := K) (a := l) (xs := xs) (fun i H3 => ∃ ys : List V, H3 L = some (.lst ys) ∧ ys.length = ((ss.take i).map mirD).length ∧ i ≤ ss.length ∧ Same H H3 ∧ (∀ (j : Nat) (d : Sd), ((ss.take i).map mirD)[j]? = some d → ∃ p : Addr, ys[j]? = some (V.ref p) ∧ H3 p = some (sideV d.o d.s d.m) ∧ SideP d.o d.s d.m))
      ⟨[], upd_same, rfl, Nat.zero_le _, fun b u z => (upd_ne (ne_of_none z nL)).trans z, fun j d z => by simp at z⟩ (fun _ _ _ ⟨_, _, _, _, sm, _⟩ => SqL.of (sm _ _ SS.hl)) ?_ ?_
    · rintro i y H3 hy ⟨ys, hD, ly, li, sm, at_⟩
      obtain ⟨d, p, ed, rfl, hp, sp⟩ := SS.item hy
      have il : i < ss.length := (List.getElem?_eq_some_iff.mp ed).1
      refine ⟨rfl, ?_⟩
      walk_at "rd"
      refine ⟨p, d.o, d.s, d.m, rfl, sm _ _ hp, sp, fun b H4 s34 nb hb => ?_⟩
      have hD4 := s34 _ _ hD
      have es : (ss.take (i + 1)).map mirD = (ss.take i).map mirD ++ [mirD d] := by
        rw [List.take_succ, ed, List.map_append]
        rfl
      walk_at "rd"
      refine ⟨_, hD4, ?_, ys ++ [.ref b], upd_same, ?_, il, ?_, ?_⟩
      · rw [ly, List.length_map]
        exact Nat.lt_of_le_of_lt (Nat.le_trans (List.length_take_le' _ _) SS.l4) (by decide)
      · rw [es, List.length_append, List.length_append, ly]
        rfl
      · intro c u y
        exact (upd_ne (ne_of_none y nL)).trans (s34 _ _ (sm _ _ y))
      · rw [es]
        exact grow_side (d := mirD d) at_ ly (fun c u y nb => (upd_ne nb).trans (s34 _ _ y)) hD ((upd_ne (ne_of hb hD4 (by intro y; cases y))).trans hb) (side_mir sp)
    · rintro H3 ⟨ys, hD, ly, li, sm, at_⟩
      rw [SS.len, List.take_length] at ly at_
      walk_at "rd"
      exact q L ys H3 nL sm ⟨hD, ly, by rw [List.length_map]; exact SS.l4, at_⟩
theorem ok_hi {f : Addr} {fd : FuncData} (F : Fun K "highest" "highest" s_highest f fd) (MT : MaxT mg) (Wr : Cal P w K mg base "written" 3 ["side", "value"] spDue fB dB) : FnOk P w K mg base CX0 4 f fd ["sides", "value"] spHi := by
  refine F.ok sc_highest (fun vs H Q E h => ?_) (fun cdv A outer s0 H vs Q E hr h => ?_)
  · obtain ⟨l, xs, ss, v, rfl, _⟩ := h
    rfl
  · obtain ⟨l, xs, ss, v, rfl, SS, hv, q⟩ := h
    have nd := sc_highest.nd
    refine ⟨_, pss_one (ps_ret (pe_callB (cr_max rfl) (by rfl) MT.max (by decide +kernel) (pa_cons (pe_op op_cat (pe_lst (pa_cons (pv 1) pa_nil)) (pe_lc (own := [("side", 2)]) (g := gName 2) (tt := tYes) rfl nd (pi_list (pv 0)) (blkOk_by (N := ["sides", "value", "side"]) (sc := defScope s_highest) (by decide +kernel)) (fun _ _ _ _ _ => pg_name (i := 2) nd rfl (Or.inl rfl)) (fun _ _ _ _ _ => pts_nil) (fun _ _ _ _ _ => pcl Wr hr (by decide) (by rfl) (pa_cons (pv 2) (pa_cons (pv 1) pa_nil))))) pa_nil))), ?_⟩
    walk_at "rd"
    refine ⟨(by show 1 ≤ sizeLine; decide), fun a na => ?_⟩
    have fa : upd H a (.lst [.int v]) a = some (.lst [.int v]) := upd_same
    have s1 : Same H (upd H a (.lst [.int v])) := fun b u z => (upd_ne (ne_of_none z na)).trans z
    generalize upd H a (.lst [.int v]) = H1 at fa s1 ⊢
    walk_at "rd"
    refine ⟨⟨_, SqL.of (s1 _ _ SS.hl)⟩, fun L nL => ?_⟩
    refine lc_list (K := K) (a := l) (xs := xs) (fun i H3 => H3 L = some (.lst (((ss.take i).map fun d => dueM d.o d.s d.m v).map V.int)) ∧ i ≤ ss.length ∧ Same H1 H3)
      ⟨upd_same, Nat.zero_le _, fun b u z => (upd_ne (ne_of_none z nL)).trans z⟩ (fun _ _ _ ⟨_, _, sm⟩ => SqL.of (sm _ _ (s1 _ _ SS.hl))) ?_ ?_
    · rintro i y H3 hy ⟨hD, li, sm⟩
      obtain ⟨d, p, ed, rfl, hp, sp⟩ := SS.item hy
      have il : i < ss.length := (List.getElem?_eq_some_iff.mp ed).1
      refine ⟨rfl, ?_⟩
      walk_at "rd"
      refine ⟨p, d.o, d.s, d.m, v, rfl, sm _ _ (s1 _ _ hp), sp, (by unfold Bd; omega), fun H4 s34 => ?_⟩
      have hD4 := s34 _ _ hD
      have es : (ss.take (i + 1)).map (fun d => dueM d.o d.s d.m v) = (ss.take i).map (fun d => dueM d.o d.s d.m v) ++ [dueM d.o d.s d.m v] := by
        rw [List.take_succ, ed, List.map_append]
        rfl
      walk_at "rd"
      refine ⟨_, hD4, ?_, ?_, il, fun b u y => (upd_ne (ne_of_none y nL)).trans (s34 _ _ (sm _ _ y))⟩
      · rw [List.length_map, List.length_map]
        exact Nat.lt_of_le_of_lt (Nat.le_trans (List.length_take_le' _ _) SS.l4) (by decide)
      · rw [es, List.map_append]
        exact upd_same
    · rintro H3 ⟨hD, li, sm⟩
      rw [SS.len, List.take_length] at hD
      have l4 := SS.l4
      walk_at "rd"
      refine ⟨a, L, _, _, rfl, rfl, sm _ _ fa, hD, (by show 1 + _ ≤ sizeLine; rw [List.length_map, List.length_map]; exact Nat.le_trans (by omega : 1 + ss.length ≤ 8) (by decide)), fun c nc => ?_⟩
      refine ⟨c, v :: ss.map fun d => dueM d.o d.s d.m v, rfl, SqL.of upd_same, Nat.succ_pos _, fun m mi mm => ?_⟩
      refine q m _ ⟨mm v List.mem_cons_self, fun d hd => mm _ (List.mem_cons_of_mem _ (List.mem_map.mpr ⟨d, hd, rfl⟩)), ?_⟩ (fun b u z => (upd_ne (ne_of_none (sm _ _ (s1 _ _ z)) nc)).trans (sm _ _ (s1 _ _ z)))
      rcases List.mem_cons.mp mi with e | e
      · exact .inl e
      · obtain ⟨d, hd, e2⟩ := List.mem_map.mp e
        exact .inr ⟨d, hd, e2.symm⟩
end
end HT
namespace L2
open PySem PySem.Spec PyProof.Rows PySem.W PySem.SeqAt
theorem reads_ints {h : Heap} : ∀ {ns : List Int} {its : List Value}, Vals (ns.map V.int) its → ∃ as, ReadsAll h its (ns.map PyData.int) as
  | [], its, r => by rw [List.map_nil] at r; cases r; exact ⟨_, .nil⟩
  | n :: ns, its, r => by
    rw [List.map_cons] at r
    cases r with
    | @cons x y xs ys h1 t =>
      obtain ⟨as, ra⟩ := reads_ints (h := h) t
      obtain ⟨tk, rfl⟩ := h1
      exact ⟨_, .cons (.int n tk) ra⟩
theorem depth_ints : ∀ ns : List Int, PyData.depthAll (ns.map PyData.int) = 0
  | [] => rfl
  | n :: ns => by
    show max 0 (PyData.depthAll (ns.map PyData.int)) = 0
    rw [depth_ints ns]; rfl
theorem alike_ints (ns : List Int) : AlikeAll (ns.map PyData.int) := by
  refine ⟨fun x hx y hy => ?_, fun x hx e => ?_⟩
  · obtain ⟨a, _, rfl⟩ := List.mem_map.mp hx
    obtain ⟨b, _, rfl⟩ := List.mem_map.mp hy
    simp [alike]
  · obtain ⟨a, _, rfl⟩ := List.mem_map.mp hx
    cases e
theorem fold_min : ∀ (ns : List Int) (n : Int), ns.foldl min n ∈ n :: ns ∧ ∀ y ∈ n :: ns, ns.foldl min n ≤ y
  | [], n => ⟨List.mem_cons_self, fun y hy => by rw [List.mem_singleton.mp hy]; exact Int.le_refl _⟩
  | k :: r, n => by
    obtain ⟨a, b⟩ := fold_min r (min n k)
    rw [List.foldl_cons]
    have m0 := b (min n k) List.mem_cons_self
    refine ⟨?_, fun y hy => ?_⟩
    · rcases List.mem_cons.mp a with e | e
      · rw [e]
        by_cases h : n ≤ k
        · rw [show min n k = n by omega]; exact List.mem_cons_self
        · rw [show min n k = k by omega]; exact List.mem_cons_of_mem _ List.mem_cons_self
      · exact List.mem_cons_of_mem _ (List.mem_cons_of_mem _ e)
    · rcases List.mem_cons.mp hy with e | e
      · omega
      · rcases List.mem_cons.mp e with e | e
        · omega
        · exact b y (List.mem_cons_of_mem _ e)
theorem fold_max : ∀ (ns : List Int) (n : Int), ns.foldl max n ∈ n :: ns ∧ ∀ y ∈ n :: ns, y ≤ ns.foldl max n
  | [], n => ⟨List.mem_cons_self, fun y hy => by rw [List.mem_singleton.mp hy]; exact Int.le_refl _⟩
  | k :: r, n => by
    obtain ⟨a, b⟩ := fold_max r (max n k)
    rw [List.foldl_cons]
    have m0 := b (max n k) List.mem_cons_self
    refine ⟨?_, fun y hy => ?_⟩
    · rcases List.mem_cons.mp a with e | e
      · rw [e]
        by_cases h : k ≤ n
        · rw [show max n k = n by omega]; exact List.mem_cons_self
        · rw [show max n k = k by omega]; exact List.mem_cons_of_mem _ List.mem_cons_self
      · exact List.mem_cons_of_mem _ (List.mem_cons_of_mem _ e)
    · rcases List.mem_cons.mp hy with e | e
      · omega
      · rcases List.mem_cons.mp e with e | e
        · omega
        · exact b y (List.mem_cons_of_mem _ e)
def rMinDf (K : PySem.W.Frag) : List V → List V → Hp → VK → Prop := fun vs zs H Q => ∃ (a : Addr) (ns : List Int) (d : V), vs = [V.ref a] ∧ zs = [d] ∧ SqL K H a (ns.map V.int) ∧ (ns = [] → Q d H) ∧ ∀ m, m ∈ ns → (∀ y, y ∈ ns → m ≤ y) → Q (.int m) H
def rMaxDf (K : PySem.W.Frag) : List V → List V → Hp → VK → Prop := fun vs zs H Q => ∃ (a : Addr) (ns : List Int) (d : V), vs = [V.ref a] ∧ zs = [d] ∧ SqL K H a (ns.map V.int) ∧ (ns = [] → Q d H) ∧ ∀ m, m ∈ ns → (∀ y, y ∈ ns → y ≤ m) → Q (.int m) H
theorem cr_minDf {X : Cx} (hc : X.calm = true) (hu : X.A.units + 64 < cLine) : CallRK X (.builtin "min") [Str.ofString "default"] (rMinDf X.K) := by
  intro pins s σ H vs zs us ws Q I r rz h
  obtain ⟨a, ns, d, rfl, rfl, hs, q0, q1⟩ := h
  obtain ⟨its, rv, hl, _⟩ := I.list hs
  obtain rfl := Vals.ref1 r
  obtain ⟨w1, rfl, e1⟩ := vals1 rz
  obtain ⟨as, ra⟩ := reads_ints (h := s.heap) rv
  refine min_list_default (I.ok.hd hc) hl.isList (by simpa using ra) (alike_ints ns) (by rw [depth_ints]; omega) (fun e h' tk hk => ?_) (fun y ys i v h' tk bs e hv rd hk => ?_)
  · cases ns with
    | nil => exact ⟨d, H, I.kept hk, e1, q0 rfl⟩
    | cons n r => cases e
  · cases ns with
    | nil => cases e
    | cons n r =>
      rw [List.map_cons] at e
      injection e with ey es
      subst ey es
      rw [minD_ints] at rd
      obtain ⟨f1, f2⟩ := fold_min r n
      cases rd with
      | int _ t => exact ⟨.int _, H, I.kept hk, ⟨t, rfl⟩, q1 _ f1 f2⟩
theorem cr_maxDf {X : Cx} (hc : X.calm = true) (hu : X.A.units + 64 < cLine) : CallRK X (.builtin "max") [Str.ofString "default"] (rMaxDf X.K) := by
  intro pins s σ H vs zs us ws Q I r rz h
  obtain ⟨a, ns, d, rfl, rfl, hs, q0, q1⟩ := h
  obtain ⟨its, rv, hl, _⟩ := I.list hs
  obtain rfl := Vals.ref1 r
  obtain ⟨w1, rfl, e1⟩ := vals1 rz
  obtain ⟨as, ra⟩ := reads_ints (h := s.heap) rv
  refine max_list_default (I.ok.hd hc) hl.isList (by simpa using ra) (alike_ints ns) (by rw [depth_ints]; omega) (fun e h' tk hk => ?_) (fun y ys i v h' tk bs e hv rd hk => ?_)
  · cases ns with
    | nil => exact ⟨d, H, I.kept hk, e1, q0 rfl⟩
    | cons n r => cases e
  · cases ns with
    | nil => cases e
    | cons n r =>
      rw [List.map_cons] at e
      injection e with ey es
      subst ey es
      rw [maxD_ints] at rd
      obtain ⟨f1, f2⟩ := fold_max r n
      cases rd with
      | int _ t => exact ⟨.int _, H, I.kept hk, ⟨t, rfl⟩, q1 _ f1 f2⟩
end L2
namespace HT
open PySem L2
theorem scal_some {x : Int} : V.int x ≠ V.non := fun z => by cases z
/-- a value that two sides do not raise -/
def UnR (d e : Sd) (x : Int) : Prop := dueM d.o d.s d.m x ≤ x ∧ dueM e.o e.s e.m x ≤ x
def BB (d e : Sd) (a b : Nat) (x : Int) : Prop := InB (d.o + d.s * (a : Int)) (below (mir d.m) d.s (a : Int)) (perM d.s d.m) x ∧ InB (e.o + e.s * (b : Int)) (below (mir e.m) e.s (b : Int)) (perM e.s e.m) x
theorem unr_bb {d e : Sd} {x : Int} (hd : SideP d.o d.s d.m) (he : SideP e.o e.s e.m) : UnR d e x ↔ ∃ a b : Nat, a < (figsN d.s d.m).toNat ∧ b < (figsN e.s e.m).toNat ∧ BB d e a b x := by
  unfold UnR BB
  rw [unr_iff hd.md hd.s0, unr_iff he.md he.s0]
  constructor
  · rintro ⟨⟨k, k0, k1, h⟩, j, j0, j1, g⟩
    refine ⟨k.toNat, j.toNat, by omega, by omega, ?_, ?_⟩
    · rw [Int.toNat_of_nonneg k0]; exact h
    · rw [Int.toNat_of_nonneg j0]; exact g
  · rintro ⟨a, b, h1, h2, h, g⟩
    exact ⟨⟨(a : Int), by omega, by omega, h⟩, (b : Int), by omega, by omega, g⟩
/-- the pairs that are looked at -/
def DoneP (n2 i j a b : Nat) : Prop := (a < i ∧ b < n2) ∨ (a = i ∧ b < j)
structure FndP (d e : Sd) (v : Int) (D : Nat → Nat → Prop) (ns : List Int) : Prop where
  from_ : ∀ n ∈ ns, ∃ a b, D a b ∧ LeastI (BB d e a b) v (some n)
  to_ : ∀ a b, D a b → ∃ r, LeastI (BB d e a b) v r ∧ ∀ x, r = some x → x ∈ ns
def spTwo : Sp := fun vs H Q _ => ∃ (p q : Addr) (d e : Sd) (v : Int), vs = [.ref p, .ref q, .int v] ∧ H p = some (sideV d.o d.s d.m) ∧ SideP d.o d.s d.m ∧ H q = some (sideV e.o e.s e.m) ∧ SideP e.o e.s e.m ∧ ∀ r H', LeastI (UnR d e) v r → Same H H' → Q (oV r) H'
theorem fnd_end {d e : Sd} {v : Int} {ns : List Int} {n1 n2 : Nat} (hd : SideP d.o d.s d.m) (he : SideP e.o e.s e.m) (e1 : n1 = (figsN d.s d.m).toNat) (e2 : n2 = (figsN e.s e.m).toNat) (F : FndP d e v (DoneP n2 n1 0) ns) :
    (ns = [] → LeastI (UnR d e) v none) ∧ ∀ m, m ∈ ns → (∀ y, y ∈ ns → m ≤ y) → LeastI (UnR d e) v (some m) := by
  have key : ∀ y, v ≤ y → UnR d e y → ∃ x ∈ ns, x ≤ y := by
    intro y y0 u
    obtain ⟨a, b, h1, h2, h⟩ := (unr_bb hd he).mp u
    obtain ⟨r, L, m⟩ := F.to_ a b (.inl ⟨by omega, by omega⟩)
    cases r with
    | none => exact absurd h (L y y0)
    | some x =>
      refine ⟨x, m x rfl, ?_⟩
      by_cases g : y < x
      · exact absurd h (L.2.2 y y0 g)
      · omega
  refine ⟨fun z y y0 u => ?_, fun m mi mm => ?_⟩
  · obtain ⟨x, hx, _⟩ := key y y0 u
    rw [z] at hx
    exact absurd hx List.not_mem_nil
  · obtain ⟨a, b, D, L⟩ := F.from_ m mi
    have ab : a < (figsN d.s d.m).toNat ∧ b < (figsN e.s e.m).toNat := by
      rcases D with ⟨x, y⟩ | ⟨x, y⟩ <;> omega
    refine ⟨L.1, (unr_bb hd he).mpr ⟨a, b, ab.1, ab.2, L.2.1⟩, fun y y0 y1 u => ?_⟩
    obtain ⟨x, hx, xy⟩ := key y y0 u
    have := mm x hx
    omega
theorem fnd_add {d e : Sd} {v : Int} {ns : List Int} {n2 i j : Nat} {r : Option Int} (F : FndP d e v (DoneP n2 i j) ns) (L : LeastI (BB d e i j) v r) : FndP d e v (DoneP n2 i (j + 1)) (ns ++ r.toList) := by
  refine ⟨fun n hn => ?_, fun a b D => ?_⟩
  · rcases List.mem_append.mp hn with h | h
    · obtain ⟨a, b, D, L'⟩ := F.from_ n h
      refine ⟨a, b, ?_, L'⟩
      rcases D with ⟨x, y⟩ | ⟨x, y⟩
      · exact .inl ⟨x, y⟩
      · exact .inr ⟨x, by omega⟩
    · cases r with
      | none => exact absurd h List.not_mem_nil
      | some x =>
        rw [List.mem_singleton.mp h]
        exact ⟨i, j, .inr ⟨rfl, by omega⟩, L⟩
  · by_cases g : a = i ∧ b = j
    · obtain ⟨rfl, rfl⟩ := g
      refine ⟨r, L, fun x hx => ?_⟩
      subst hx
      exact List.mem_append_right _ List.mem_cons_self
    · have D' : DoneP n2 i j a b := by
        rcases D with ⟨x, y⟩ | ⟨x, y⟩
        · exact .inl ⟨x, y⟩
        · exact .inr ⟨x, by omega⟩
      obtain ⟨r', L', m⟩ := F.to_ a b D'
      exact ⟨r', L', fun x hx => List.mem_append_left _ (m x hx)⟩
theorem fnd_row {d e : Sd} {v : Int} {ns : List Int} {n2 i : Nat} (F : FndP d e v (DoneP n2 i n2) ns) : FndP d e v (DoneP n2 (i + 1) 0) ns := by
  refine ⟨fun n hn => ?_, fun a b D => ?_⟩
  · obtain ⟨a, b, D, L⟩ := F.from_ n hn
    refine ⟨a, b, ?_, L⟩
    rcases D with ⟨x, y⟩ | ⟨x, y⟩
    · exact .inl ⟨by omega, y⟩
    · exact .inl ⟨by omega, y⟩
  · refine F.to_ a b ?_
    rcases D with ⟨x, y⟩ | ⟨x, y⟩
    · by_cases g : a = i
      · exact .inr ⟨g, y⟩
      · exact .inl ⟨by omega, y⟩
    · omega
section
variable {P : Program} {w : World} {K : PySem.W.Frag} {mg : Str → Option Value} {base : Heap} {fB fH fI : Addr} {dB dH dI : FuncData}
end
end HT
namespace HT
open PySem L2
/-- no side raises the value -/
def UnA (ss : List Sd) (x : Int) : Prop := ∀ d ∈ ss, dueM d.o d.s d.m x ≤ x
theorem com_dvd : ∀ (ss : List Sd) (n : Nat), n ∣ ss.foldl (fun n d => n.lcm (perN d)) n ∧ ∀ d ∈ ss, perN d ∣ ss.foldl (fun n d => n.lcm (perN d)) n
  | [], n => ⟨Nat.dvd_refl _, fun d h => absurd h List.not_mem_nil⟩
  | d :: ss, n => by
    obtain ⟨a, b⟩ := com_dvd ss (n.lcm (perN d))
    rw [List.foldl_cons]
    refine ⟨Nat.dvd_trans (Nat.dvd_lcm_left _ _) a, fun e he => ?_⟩
    rcases List.mem_cons.mp he with z | z
    · rw [z]; exact Nat.dvd_trans (Nat.dvd_lcm_right _ _) a
    · exact b e z
theorem per_com {ss : List Sd} {d : Sd} (h : d ∈ ss) (hd : SideP d.o d.s d.m) : perM d.s d.m ∣ (comN ss : Int) := by
  have pa := perM_bd hd
  have ea : ((perN d : Nat) : Int) = perM d.s d.m := Int.toNat_of_nonneg (by omega)
  rw [← ea]
  exact Int.natCast_dvd_natCast.mpr ((com_dvd ss 1).2 d h)
theorem una_com {ss : List Sd} (hs : ∀ d ∈ ss, SideP d.o d.s d.m) (x t : Int) : UnA ss (x + (comN ss : Int) * t) ↔ UnA ss x := by
  have key : ∀ d ∈ ss, dueM d.o d.s d.m (x + (comN ss : Int) * t) = dueM d.o d.s d.m x + (comN ss : Int) * t := fun d hd =>
    due_dvd (hs d hd).md (hs d hd).s0 (Int.dvd_mul_of_dvd_left (per_com hd (hs d hd)))
  constructor
  · intro h d hd
    have := h d hd
    rw [key d hd] at this
    omega
  · intro h d hd
    rw [key d hd]
    have := h d hd
    omega
theorem una_none {ss : List Sd} (hs : ∀ d ∈ ss, SideP d.o d.s d.m) {v u : Int} (hu : v + (comN ss : Int) ≤ u) (no : ∀ y, v ≤ y → y < u → ¬ UnA ss y) : LeastI (UnA ss) v none := by
  intro y y0 c
  have cp : 0 < (comN ss : Int) := by
    have := com_pos ss 1 (by decide) hs
    show 0 < ((ss.foldl (fun n d => n.lcm (perN d)) 1 : Nat) : Int)
    omega
  have r0 := Int.emod_nonneg (y - v) (show (comN ss : Int) ≠ 0 by omega)
  have r1 := Int.emod_lt_of_pos (y - v) cp
  have ee := Int.emod_add_mul_ediv (y - v) (comN ss : Int)
  refine no (v + (y - v) % (comN ss : Int)) (by omega) (by omega) ?_
  have := una_com hs (v + (y - v) % (comN ss : Int)) ((y - v) / (comN ss : Int))
  rw [show v + (y - v) % (comN ss : Int) + (comN ss : Int) * ((y - v) / (comN ss : Int)) = y by omega] at this
  exact this.mp c
theorem hi_step {ss : List Sd} (hs : ∀ d ∈ ss, SideP d.o d.s d.m) {v u h : Int} (no : ∀ y, v ≤ y → y < u → ¬ UnA ss y) (hp : HiP ss u h) (ne : h ≠ u) : u < h ∧ ∀ y, v ≤ y → y < h → ¬ UnA ss y := by
  obtain ⟨a, b, c⟩ := hp
  refine ⟨by omega, fun y y0 y1 un => ?_⟩
  by_cases g : y < u
  · exact no y y0 g un
  · rcases c with e | ⟨d, hd, e⟩
    · exact ne e
    · have m := due_le (o := d.o) (hs d hd).md (hs d hd).s0 (show u ≤ y by omega)
      have := un d hd
      omega
theorem hi_bd {ss : List Sd} (hs : ∀ d ∈ ss, SideP d.o d.s d.m) {u h : Int} (hp : HiP ss u h) : h < u + 10 ^ 31 := by
  obtain ⟨a, b, c⟩ := hp
  rcases c with e | ⟨d, hd, e⟩
  · omega
  · have := due_near (o := d.o) (v := u) (hs d hd).md (hs d hd).s0
    have := (hs d hd).s1
    omega
theorem una_two {d e : Sd} {x : Int} : UnR d e x ↔ UnA [d, e] x := by
  constructor
  · rintro ⟨a, b⟩ f hf
    rcases List.mem_cons.mp hf with z | z
    · rw [z]; exact a
    · rw [List.mem_singleton.mp z]; exact b
  · intro h
    exact ⟨h d List.mem_cons_self, h e (List.mem_cons_of_mem _ List.mem_cons_self)⟩
theorem down_le {o s v : Int} (hs : 1 ≤ s) : dueM o s "down" v ≤ v := by
  have := Int.emod_add_mul_ediv (v - o) s
  have := Int.emod_nonneg (v - o) (show s ≠ 0 by omega)
  unfold dueM figM
  rw [go_down, if_neg (by decide)]
  omega
theorem una_filter {ss : List Sd} (hs : ∀ d ∈ ss, SideP d.o d.s d.m) (x : Int) : UnA (ss.filter upD) x ↔ UnA ss x := by
  constructor
  · intro h d hd
    by_cases u : upD d = true
    · exact h d (List.mem_filter.mpr ⟨hd, u⟩)
    · have e : firstM d.s d.m = "down" := by
        unfold upD at u
        simpa using u
      have f := due_form (o := d.o) x (hs d hd).md (hs d hd).s0
      rw [e] at f
      rw [← f]
      exact down_le (hs d hd).s0
  · intro h d hd
    exact h d (List.mem_filter.mp hd).1
def FewP (ss : List Sd) : Prop := (ss.filter upD).length ≤ 2 ∨ comN (ss.filter upD) ≤ 100000
def spFU : Sp := fun vs H Q _ => ∃ (l : Addr) (xs : List V) (ss : List Sd) (v : Int), vs = [.ref l, .int v] ∧ SidL H l xs ss ∧ (-2 ^ 800 < v ∧ v < 2 ^ 800) ∧ ∀ r H', LeastI (UnA ss) v r → Same H H' → Q (oV r) H'
def spCF : Sp := fun vs H Q _ => ∃ (l : Addr) (xs : List V) (ss : List Sd), vs = [.ref l] ∧ SidL H l xs ss ∧ (ss.length ≤ 2 ∨ comN ss ≤ 100000) ∧ Q .non H
def spReach : Sp := fun vs H Q _ => ∃ (l : Addr) (xs : List V) (ss : List Sd) (v : Int), vs = [.ref l, .int v] ∧ SidesAt H l xs ss ∧ (-2 ^ 790 < v ∧ v < 2 ^ 790) ∧ FewP ss ∧ FewP (ss.map mirD) ∧
  ∀ (lo hi : Option Int) (p : Addr) (H' : Hp), LeastI (UnA ss) v hi → LeastI (UnA (ss.map mirD)) (-v) lo → Same H H' → H p = none → H' p = some (.tup [oV (lo.map fun x => -x), oV hi]) → Q (.ref p) H'
section
variable {P : Program} {w : World} {K : PySem.W.Frag} {mg : Str → Option Value} {base : Heap} {fB fH fI fJ fL fM fN : Addr} {dB dH dI dJ dL dM dN : FuncData}
end
end HT
namespace HT
open PySem L2
theorem back_iff {o s v y : Int} {m : Str} (hm : Mode m) (hs : 1 ≤ s) : backM o s m v ≤ y ↔ v ≤ dueM o s m y := by
  constructor
  · intro h
    exact Int.le_trans (back_ge hm hs) (due_le hm hs h)
  · intro h
    by_cases z : backM o s m v ≤ y
    · exact z
    · exfalso
      have h1 := due_le (o := o) (m := m) hm hs (show y ≤ backM o s m v - 1 by omega)
      have h2 := back_lt (o := o) (v := v) hm hs
      omega
theorem back_com {o s v : Int} {m : Str} (hm : Mode m) (hs : 1 ≤ s) (t : Int) : backM o s m (v + perM s m * t) = backM o s m v + perM s m * t := by
  have key : ∀ y, backM o s m (v + perM s m * t) ≤ y ↔ backM o s m v + perM s m * t ≤ y := fun y => by
    rw [back_iff hm hs]
    have h := due_com (o := o) (v := y - perM s m * t) hm hs t
    rw [show y - perM s m * t + perM s m * t = y by omega] at h
    rw [h]
    have h2 := back_iff (o := o) (v := v) (y := y - perM s m * t) hm hs
    omega
  have a := (key (backM o s m (v + perM s m * t))).mp (Int.le_refl _)
  have b := (key (backM o s m v + perM s m * t)).mpr (Int.le_refl _)
  omega
theorem back_pos {o s v : Int} {m : Str} (hm : Mode m) (hs : 1 ≤ s) : v + 1 ≤ backM o s m (v + s) := by
  by_cases z : backM o s m (v + s) ≤ v
  · exfalso
    have h := (back_iff hm hs).mp z
    have h2 := due_near (o := o) (v := v) hm hs
    omega
  · omega
theorem back_le {o s v : Int} {m : Str} (hm : Mode m) (hs : 1 ≤ s) : backM o s m v ≤ v + s := by
  have h := due_near (o := o) (v := v + s) hm hs
  exact (back_iff hm hs).mpr (by omega)
def dW (d : Sd) (x : Int) : Int := dueM d.o d.s d.m x
/-- there and back: by e, then by d -/
def Rd (d e : Sd) (x : Int) : Int := dW d (dW e x)
/-- the value of a figure -/
def atK (d : Sd) (k : Int) : Int := d.o + d.s * k
theorem dW_at {d : Sd} (h : SideP d.o d.s d.m) (k : Int) : dW d (atK d k) = atK d k := by
  unfold dW dueM atK
  rw [fig_at h.md h.s0]
theorem dW_is (d : Sd) (x : Int) : ∃ k, dW d x = atK d k := ⟨figM d.o d.s d.m x, rfl⟩
theorem atK_lt {d : Sd} (h : SideP d.o d.s d.m) {j k : Int} : atK d j < atK d k ↔ j < k := by
  have s0 := h.s0
  unfold atK
  constructor
  · intro z
    by_cases y : j < k
    · exact y
    · have : d.s * k ≤ d.s * j := Int.mul_le_mul_of_nonneg_left (by omega) (by omega)
      omega
  · intro z
    have : d.s * (j + 1) ≤ d.s * k := Int.mul_le_mul_of_nonneg_left (by omega) (by omega)
    rw [Int.mul_add, Int.mul_one] at this
    omega
theorem atK_le {d : Sd} (h : SideP d.o d.s d.m) {j k : Int} : atK d j ≤ atK d k ↔ j ≤ k := by
  have := atK_lt h (j := k) (k := j)
  omega
theorem atK_succ (d : Sd) (k : Int) : atK d (k + 1) = atK d k + d.s := by
  unfold atK
  rw [Int.mul_add, Int.mul_one]
  omega
theorem atK_add (d : Sd) (k n : Int) : atK d (k + n) = atK d k + d.s * n := by
  unfold atK
  rw [Int.mul_add]
  omega
theorem dW_le {d : Sd} (h : SideP d.o d.s d.m) {x y : Int} (z : x ≤ y) : dW d x ≤ dW d y := due_le h.md h.s0 z
/-- the round raises no value by a step of the wide side -/
def NotUp (d e : Sd) (x : Int) : Prop := dW e x < backM d.o d.s d.m (x + d.s)
instance (d e : Sd) (x : Int) : Decidable (NotUp d e x) := by unfold NotUp; exact inferInstance
theorem notup_iff {d e : Sd} (h : SideP d.o d.s d.m) (k : Int) : NotUp d e (atK d k) ↔ Rd d e (atK d k) ≤ atK d k := by
  unfold NotUp
  have b := back_iff (o := d.o) (v := atK d k + d.s) (y := dW e (atK d k)) h.md h.s0
  have r : dueM d.o d.s d.m (dW e (atK d k)) = Rd d e (atK d k) := rfl
  rw [r, ← atK_succ] at b
  rw [← atK_succ]
  obtain ⟨j, hj⟩ := dW_is d (dW e (atK d k))
  have hj2 : Rd d e (atK d k) = atK d j := hj
  rw [hj2] at b ⊢
  rw [atK_le h] at b
  rw [atK_le h]
  omega
theorem rd_up {d e : Sd} (h : SideP d.o d.s d.m) (he : SideP e.o e.s e.m) (le : e.s ≤ d.s) {k : Int} (z : ¬ NotUp d e (atK d k)) : Rd d e (atK d k) = atK d (k + 1) := by
  have h1 : ¬ Rd d e (atK d k) ≤ atK d k := fun y => z ((notup_iff h k).mpr y)
  have h2 : dW e (atK d k) ≤ atK d (k + 1) := by
    rw [atK_succ]
    have := due_near (o := e.o) (v := atK d k) he.md he.s0
    unfold dW
    omega
  have h3 := dW_le h h2
  rw [dW_at h] at h3
  obtain ⟨j, hj⟩ := dW_is d (dW e (atK d k))
  have hj2 : Rd d e (atK d k) = atK d j := hj
  rw [hj2] at h1 ⊢
  rw [hj] at h3
  rw [atK_le h] at h1 h3
  rw [show j = k + 1 by omega]
theorem rd_mono {d e : Sd} (h : SideP d.o d.s d.m) (he : SideP e.o e.s e.m) {x y : Int} (z : x ≤ y) : Rd d e x ≤ Rd d e y := dW_le h (dW_le he z)
def mirS (d : Sd) : Sd := ⟨-d.o, d.s, mir d.m⟩
theorem mirS_side {d : Sd} (h : SideP d.o d.s d.m) : SideP (mirS d).o (mirS d).s (mirS d).m := by
  obtain ⟨a, b, c, e, f⟩ := h
  exact ⟨by show -10 ^ 40 ≤ -d.o; omega, by show -d.o ≤ 10 ^ 40; omega, c, e, mir_mode f⟩
theorem mirS_dW {d : Sd} (h : SideP d.o d.s d.m) (x : Int) : dW (mirS d) (-x) = -dW d x := due_mirror h.md h.s0
theorem mirS_at (d : Sd) (k : Int) : atK (mirS d) k = -atK d (-k) := by
  unfold atK mirS
  show -d.o + d.s * k = -(d.o + d.s * -k)
  rw [Int.mul_neg]
  omega
theorem mirS_Rd {d e : Sd} (h : SideP d.o d.s d.m) (he : SideP e.o e.s e.m) (x : Int) : Rd (mirS d) (mirS e) (-x) = -Rd d e x := by
  unfold Rd
  rw [mirS_dW he, mirS_dW h]
/-- the figures of the blocks of what e does not raise by so much -/
def stL (e : Sd) (L f : Int) : Int := if e.o + e.s * f - L + 1 > lowM e.o e.s e.m f then e.o + e.s * f - L + 1 else lowM e.o e.s e.m f
def moL (e : Sd) (L f : Int) : Int := highM e.o e.s e.m f - stL e L f
theorem moL_pos {e : Sd} (h : SideP e.o e.s e.m) {L : Int} (hL : 1 ≤ L) (f : Int) : 0 ≤ moL e L f ∧ moL e L f < perM e.s e.m := by
  have lh := low_high (o := e.o) (k := f) h.md h.s0
  have fb := figs_bd (m := e.m) h.s0
  have pf := per_figs (m := e.m) h.s0
  have b1 := below_bd (k := f) h.md h.s0
  have b2 := below_bd (k := f) (mir_mode h.md) h.s0
  have t := touch (f - 1) h.md h.s0
  have nx := low_next (o := e.o) f h.md h.s0
  have p1 : e.s * 1 ≤ e.s * figsN e.s e.m := Int.mul_le_mul_of_nonneg_left (by omega) (by have := h.s0; omega)
  have wid : highM e.o e.s e.m f - lowM e.o e.s e.m f < perM e.s e.m := by
    rw [figs_eq h.s0] at pf
    unfold highM lowM
    by_cases he : e.m = "half_even"
    · rw [if_pos he] at pf
      omega
    · rw [if_neg he] at pf
      have tt := touch f h.md h.s0
      have bb : below e.m e.s (f + 1) = below e.m e.s f := by
        unfold below
        by_cases h1 : e.m = "down"
        · rw [if_pos h1, if_pos h1]
        · by_cases h2 : e.m = "up"
          · rw [if_neg h1, if_pos h2, if_neg h1, if_pos h2]
          · rw [if_neg h1, if_neg h2, if_neg h1, if_neg h2]
            have i1 : ∀ z : Int, (e.m = "half_up" ∨ (e.m = "half_even" ∧ z % 2 = 0)) ↔ e.m = "half_up" := fun z => ⟨fun y => y.elim id fun w => absurd w.1 he, .inl⟩
            by_cases h3 : e.m = "half_up"
            · rw [if_pos (.inl h3), if_pos (.inl h3)]
            · rw [if_neg (fun y => h3 ((i1 _).mp y)), if_neg (fun y => h3 ((i1 _).mp y))]
      omega
  unfold moL stL
  split <;> constructor <;> omega
theorem unrL_iff {e : Sd} (h : SideP e.o e.s e.m) {L v : Int} (hL : 1 ≤ L) : dW e v < v + L ↔ ∃ k, 0 ≤ k ∧ k < figsN e.s e.m ∧ InB (stL e L k) (moL e L k) (perM e.s e.m) v := by
  have hm := h.md
  have hs := h.s0
  have fb := figs_bd (m := e.m) hs
  have pf := per_figs (m := e.m) hs
  have pp : e.s ≤ perM e.s e.m := by
    rw [pf]
    have : e.s * 1 ≤ e.s * figsN e.s e.m := Int.mul_le_mul_of_nonneg_left (by omega) (by omega)
    omega
  constructor
  · intro hh
    have hh : dueM e.o e.s e.m v < v + L := hh
    have e0 := Int.emod_add_mul_ediv (figM e.o e.s e.m v) (figsN e.s e.m)
    refine ⟨figM e.o e.s e.m v % figsN e.s e.m, Int.emod_nonneg _ (by omega), Int.emod_lt_of_pos _ (by omega), ?_⟩
    generalize hk : figM e.o e.s e.m v % figsN e.s e.m = k at *
    generalize hj : figM e.o e.s e.m v / figsN e.s e.m = j at *
    have ev : v = (v - perM e.s e.m * j) + perM e.s e.m * j := by omega
    have dc := due_com (o := e.o) (v := v - perM e.s e.m * j) hm hs j
    rw [← ev] at dc
    have es : e.s * figM e.o e.s e.m v = e.s * k + perM e.s e.m * j := by
      rw [← e0, Int.mul_add, pf, Int.mul_assoc]
    have ed : dueM e.o e.s e.m v = e.o + e.s * k + perM e.s e.m * j := by
      unfold dueM
      omega
    have ed2 : dueM e.o e.s e.m (v - perM e.s e.m * j) = e.o + e.s * k := by omega
    have ef : figM e.o e.s e.m (v - perM e.s e.m * j) = k := by
      unfold dueM at ed2
      exact Int.eq_of_mul_eq_mul_left (show e.s ≠ 0 by omega) (by omega)
    obtain ⟨lo, hi⟩ := (fig_iff hm hs).mp ef
    have mp := moL_pos h hL k
    have sl : stL e L k ≤ v - perM e.s e.m * j := by
      unfold stL
      split <;> omega
    have sh : v - perM e.s e.m * j - stL e L k ≤ moL e L k := by
      unfold moL
      omega
    exact inb_of (t := j) (r := v - perM e.s e.m * j - stL e L k) (by omega) (by omega) (by omega) sh
  · rintro ⟨k, k0, k1, hh⟩
    obtain ⟨t, r, e1, e2, e3, e4⟩ := inb_at (by omega) hh
    have lh := low_high (o := e.o) (k := k) hm hs
    have sl : lowM e.o e.s e.m k ≤ stL e L k ∧ e.o + e.s * k - L + 1 ≤ stL e L k := by
      unfold stL
      split <;> omega
    have sh : stL e L k + r ≤ highM e.o e.s e.m k := by
      unfold moL at e3
      omega
    have ef : figM e.o e.s e.m (stL e L k + r) = k := (fig_iff hm hs).mpr ⟨by omega, sh⟩
    have dc := due_com (o := e.o) (v := stL e L k + r) hm hs t
    rw [show stL e L k + r + perM e.s e.m * t = v by omega] at dc
    have ed : dueM e.o e.s e.m (stL e L k + r) = e.o + e.s * k := by
      unfold dueM
      rw [ef]
    show dueM e.o e.s e.m v < v + L
    omega
end HT
namespace HT
open PySem L2
/-- the values as far as n steps of the wide side -/
def upP (d e : Sd) (v : Int) (n : Nat) : Prop := NotUp d e (v + d.s * (n : Int))
/-- what rounds_up has found so far -/
structure RuF (d e : Sd) (v : Int) (ys : List Int) (done : Nat → Nat → Prop) : Prop where
  tr : ∀ y ∈ ys, ∃ n : Nat, y = (n : Int) ∧ upP d e v n
  al : ∀ t f k : Nat, done t f → HitS (v + d.s * (t : Int) - stL e (backM d.o d.s d.m (v + d.s * (t : Int) + d.s) - (v + d.s * (t : Int))) (f : Int)) (figsN d.s d.m * d.s) (moL e (backM d.o d.s d.m (v + d.s * (t : Int) + d.s) - (v + d.s * (t : Int))) (f : Int)) (perM e.s e.m) k → ∃ y ∈ ys, y ≤ (t : Int) + figsN d.s d.m * (k : Int)
def lessT (d : Sd) (v : Int) (t : Nat) : Int := backM d.o d.s d.m (v + d.s * (t : Int) + d.s) - (v + d.s * (t : Int))
theorem less_pos {d : Sd} (h : SideP d.o d.s d.m) (v : Int) (t : Nat) : 1 ≤ lessT d v t ∧ lessT d v t ≤ 2 * d.s := by
  have a := back_pos (o := d.o) (v := v + d.s * (t : Int)) h.md h.s0
  have b := back_le (o := d.o) (v := v + d.s * (t : Int) + d.s) h.md h.s0
  unfold lessT
  omega
/-- a hit is a value that the round does not raise -/
theorem hit_up {d e : Sd} (h : SideP d.o d.s d.m) (he : SideP e.o e.s e.m) (v : Int) (t k : Nat) : upP d e v (t + (figsN d.s d.m).toNat * k) ↔ ∃ f : Nat, (f : Int) < figsN e.s e.m ∧ HitS (v + d.s * (t : Int) - stL e (lessT d v t) (f : Int)) (figsN d.s d.m * d.s) (moL e (lessT d v t) (f : Int)) (perM e.s e.m) k := by
  have fb := figs_bd (m := d.m) h.s0
  have pf := per_figs (m := d.m) h.s0
  obtain ⟨l1, _⟩ := less_pos h v t
  have ex : v + d.s * ((t + (figsN d.s d.m).toNat * k : Nat) : Int) = v + d.s * (t : Int) + perM d.s d.m * (k : Int) := by
    have e1 : ((t + (figsN d.s d.m).toNat * k : Nat) : Int) = (t : Int) + figsN d.s d.m * (k : Int) := by
      rw [Int.natCast_add, Int.natCast_mul, Int.toNat_of_nonneg (by omega)]
    rw [e1, Int.mul_add, pf, ← Int.mul_assoc]
    omega
  have bc := back_com (o := d.o) (v := v + d.s * (t : Int) + d.s) h.md h.s0 (k : Int)
  have e2 : backM d.o d.s d.m (v + d.s * (t : Int) + perM d.s d.m * (k : Int) + d.s) = v + d.s * (t : Int) + perM d.s d.m * (k : Int) + lessT d v t := by
    rw [show v + d.s * (t : Int) + perM d.s d.m * (k : Int) + d.s = v + d.s * (t : Int) + d.s + perM d.s d.m * (k : Int) by omega, bc]
    unfold lessT
    omega
  have e5 : figsN d.s d.m * d.s * (k : Int) = perM d.s d.m * (k : Int) := by rw [pf, Int.mul_comm d.s (figsN d.s d.m)]
  unfold upP NotUp
  rw [ex, e2, unrL_iff he l1]
  constructor
  · rintro ⟨f, f0, f1, hh⟩
    obtain ⟨n, rfl⟩ := Int.eq_ofNat_of_zero_le f0
    refine ⟨n, f1, ?_⟩
    unfold HitS
    unfold InB at hh
    rw [show v + d.s * (t : Int) - stL e (lessT d v t) (n : Int) + figsN d.s d.m * d.s * (k : Int) = v + d.s * (t : Int) + perM d.s d.m * (k : Int) - stL e (lessT d v t) (n : Int) by rw [e5]; omega]
    exact hh
  · rintro ⟨n, f1, hh⟩
    refine ⟨n, by omega, f1, ?_⟩
    unfold InB
    unfold HitS at hh
    rw [show v + d.s * (t : Int) - stL e (lessT d v t) (n : Int) + figsN d.s d.m * d.s * (k : Int) = v + d.s * (t : Int) + perM d.s d.m * (k : Int) - stL e (lessT d v t) (n : Int) by rw [e5]; omega] at hh
    exact hh
/-- the least of what is found -/
theorem ru_least {d e : Sd} (h : SideP d.o d.s d.m) (he : SideP e.o e.s e.m) {v : Int} {ys : List Int} (R : RuF d e v ys fun t f => (t : Int) < figsN d.s d.m ∧ (f : Int) < figsN e.s e.m) : (ys = [] → Least (upP d e v) none) ∧ ∀ y ∈ ys, (∀ z ∈ ys, y ≤ z) → Least (upP d e v) (some y.toNat) ∧ 0 ≤ y := by
  have fb := figs_bd (m := d.m) h.s0
  have key : ∀ n, upP d e v n → ∃ y ∈ ys, y ≤ (n : Int) := by
    intro n hn
    have e0 := Nat.mod_add_div n (figsN d.s d.m).toNat
    have lt := Nat.mod_lt n (show 0 < (figsN d.s d.m).toNat by omega)
    rw [← e0] at hn
    obtain ⟨f, f1, hh⟩ := (hit_up h he v _ _).mp hn
    obtain ⟨y, hy, le⟩ := R.al _ f _ ⟨by omega, f1⟩ hh
    refine ⟨y, hy, ?_⟩
    have e1 : (n : Int) = ((n % (figsN d.s d.m).toNat : Nat) : Int) + figsN d.s d.m * ((n / (figsN d.s d.m).toNat : Nat) : Int) := by
      have e2 : ((figsN d.s d.m).toNat : Int) = figsN d.s d.m := Int.toNat_of_nonneg (by omega)
      have e3 : ((n % (figsN d.s d.m).toNat + (figsN d.s d.m).toNat * (n / (figsN d.s d.m).toNat) : Nat) : Int) = (n : Int) := by rw [e0]
      rw [Int.natCast_add, Int.natCast_mul, e2] at e3
      exact e3.symm
    omega
  constructor
  · rintro rfl n hn
    obtain ⟨y, hy, _⟩ := key n hn
    exact List.not_mem_nil hy
  · intro y hy mn
    obtain ⟨n, rfl, hn⟩ := R.tr y hy
    refine ⟨⟨by rw [Int.toNat_natCast]; exact hn, fun j hj c => ?_⟩, by omega⟩
    obtain ⟨z, hz, le⟩ := key j c
    have := mn z hz
    omega
end HT
namespace HT
open PySem L2
def it (f : Int → Int) : Nat → Int → Int
  | 0, x => x
  | n + 1, x => f (it f n x)
/-- it settles at E behind r rounds -/
def Stl (f : Int → Int) (v E : Int) (r : Nat) : Prop := it f r v = E ∧ f E = E ∧ ∀ i, i < r → it f (i + 1) v ≠ it f i v
theorem it_fix {f : Int → Int} {v : Int} {n : Nat} (h : it f (n + 1) v = it f n v) : ∀ m, it f (n + m) v = it f n v
  | 0 => rfl
  | m + 1 => by
    have ih := it_fix h m
    show f (it f (n + m) v) = _
    rw [ih]
    exact h
theorem stl_uniq {f : Int → Int} {v E E' : Int} {r r' : Nat} (h : Stl f v E r) (h' : Stl f v E' r') : E = E' ∧ r = r' := by
  have key : ∀ {E E' : Int} {r r' : Nat}, Stl f v E r → Stl f v E' r' → ¬ r < r' := by
    intro E E' r r' h h' lt
    obtain ⟨a, b, _⟩ := h
    refine h'.2.2 r lt ?_
    show f (it f r v) = it f r v
    rw [a]
    exact b
  have e : r = r' := by
    have a := key h h'
    have b := key h' h
    omega
  subst e
  exact ⟨h.1.symm.trans h'.1, rfl⟩
/-- a remainder comes again -/
def RepP (f : Int → Int) (L v c : Int) : Prop := ∃ (j i : Nat) (t : Int), j < i ∧ it f i v = it f j v + L * t ∧ c = (it f i v - it f j v) / ((i - j : Nat) : Int) ∧ ∀ k, k < i → it f (k + 1) v ≠ it f k v
/-- it creeps -/
def Crp (f : Int → Int) (L v c : Int) : Prop := c ≠ 0 ∧ ∃ g : Int → Int, (∀ x t, g (x + L * t) = g x + L * t) ∧ ∀ i : Nat, g (it f i v) = g v + c * (i : Int)
theorem it_shift {f : Int → Int} {L : Int} (hf : ∀ x t, f (x + L * t) = f x + L * t) {v : Int} {i j : Nat} {t : Int} (h : it f i v = it f j v + L * t) : ∀ k, it f (i + k) v = it f (j + k) v + L * t
  | 0 => h
  | k + 1 => by
    show f (it f (i + k) v) = f (it f (j + k) v) + L * t
    rw [it_shift hf h k, hf]
theorem stl_rep {f : Int → Int} {L v E c : Int} {r : Nat} (hf : ∀ x t, f (x + L * t) = f x + L * t) (h : Stl f v E r) (h' : RepP f L v c) : False := by
  obtain ⟨j, i, t, ji, e, _, ne⟩ := h'
  obtain ⟨a, b, d⟩ := h
  have ri : i ≤ r := by
    by_cases z : i ≤ r
    · exact z
    · exfalso
      refine ne r (by omega) ?_
      show f (it f r v) = it f r v
      rw [a]
      exact b
  have s1 := it_shift hf e (r - i)
  have s2 := it_shift hf e (r - i + 1)
  rw [show i + (r - i) = r by omega] at s1
  rw [show i + (r - i + 1) = r + 1 by omega] at s2
  have s3 : it f (r + 1) v = it f r v := by
    show f (it f r v) = it f r v
    rw [a]
    exact b
  refine d (j + (r - i)) (by omega) ?_
  show it f (j + (r - i) + 1) v = _
  rw [show j + (r - i) + 1 = j + (r - i + 1) by omega]
  omega
theorem stl_crp {f : Int → Int} {L v E c : Int} {r : Nat} (h : Stl f v E r) (h' : Crp f L v c) : False := by
  obtain ⟨c0, g, _, hg⟩ := h'
  obtain ⟨a, b, _⟩ := h
  have s3 : it f (r + 1) v = it f r v := by
    show f (it f r v) = it f r v
    rw [a]
    exact b
  have h1 := hg r
  have h2 := hg (r + 1)
  rw [s3, h1, show ((r + 1 : Nat) : Int) = (r : Int) + 1 by omega, Int.mul_add, Int.mul_one] at h2
  omega
theorem rep_crp {f : Int → Int} {L v c c' : Int} (h : RepP f L v c') (h' : Crp f L v c) : c' = c := by
  obtain ⟨j, i, t, ji, e, ec, _⟩ := h
  obtain ⟨c0, g, gp, hg⟩ := h'
  have h1 := hg i
  rw [e, gp, hg j] at h1
  have e2 : it f i v - it f j v = c * ((i - j : Nat) : Int) := by
    rw [show ((i - j : Nat) : Int) = (i : Int) - (j : Int) by omega, Int.mul_sub]
    omega
  rw [ec, e2, Int.mul_ediv_cancel _ (by omega)]
theorem crp_ne {f : Int → Int} {L v c : Int} (h : Crp f L v c) (k : Nat) : it f (k + 1) v ≠ it f k v := by
  intro z
  obtain ⟨c0, g, _, hg⟩ := h
  have h1 := hg k
  have h2 := hg (k + 1)
  rw [z, h1, show ((k + 1 : Nat) : Int) = (k : Int) + 1 by omega, Int.mul_add, Int.mul_one] at h2
  omega
theorem least_ex {P : Nat → Prop} : (∃ n, P n) → ∃ r, Least P (some r) := by
  rintro ⟨n, hn⟩
  induction n using Nat.strongRecOn with
  | _ n ih =>
    by_cases z : ∃ m, m < n ∧ P m
    · obtain ⟨m, lt, hm⟩ := z
      exact ih m lt hm
    · exact ⟨n, hn, fun j hj c => z ⟨j, hj, c⟩⟩
/-! ### the two sides -/
def perL (d e : Sd) : Int := ((comN [d, e] : Nat) : Int)
theorem perL_pos {d e : Sd} (h : SideP d.o d.s d.m) (he : SideP e.o e.s e.m) : 0 < perL d e := by
  have := com_pos [d, e] 1 (by decide) (fun x hx => by
    simp only [List.mem_cons, List.not_mem_nil, or_false] at hx
    rcases hx with rfl | rfl
    · exact h
    · exact he)
  show 0 < (([d, e].foldl (fun n d => n.lcm (perN d)) 1 : Nat) : Int)
  omega
theorem comD : ∀ (ss : List Sd) (n : Nat), n ∣ ss.foldl (fun n d => n.lcm (perN d)) n ∧ ∀ d ∈ ss, perN d ∣ ss.foldl (fun n d => n.lcm (perN d)) n
  | [], n => ⟨Nat.dvd_refl _, fun d h => absurd h List.not_mem_nil⟩
  | d :: ss, n => by
    obtain ⟨a, b⟩ := comD ss (n.lcm (perN d))
    rw [List.foldl_cons]
    refine ⟨Nat.dvd_trans (Nat.dvd_lcm_left _ _) a, fun e he => ?_⟩
    rcases List.mem_cons.mp he with z | z
    · rw [z]; exact Nat.dvd_trans (Nat.dvd_lcm_right _ _) a
    · exact b e z
theorem per_in {ss : List Sd} {d : Sd} (h : d ∈ ss) (hd : SideP d.o d.s d.m) : perM d.s d.m ∣ (comN ss : Int) := by
  have pa := perM_bd hd
  have ea : ((perN d : Nat) : Int) = perM d.s d.m := Int.toNat_of_nonneg (by omega)
  rw [← ea]
  exact Int.natCast_dvd_natCast.mpr ((comD ss 1).2 d h)
theorem dW_per {d : Sd} {ss : List Sd} (h : SideP d.o d.s d.m) (hin : d ∈ ss) (x t : Int) : dW d (x + (comN ss : Int) * t) = dW d x + (comN ss : Int) * t :=
  due_dvd h.md h.s0 (Int.dvd_mul_of_dvd_left (per_in hin h))
theorem rd_per {d e : Sd} {ss : List Sd} (h : SideP d.o d.s d.m) (he : SideP e.o e.s e.m) (hd : d ∈ ss) (hee : e ∈ ss) (x t : Int) : Rd d e (x + (comN ss : Int) * t) = Rd d e x + (comN ss : Int) * t := by
  unfold Rd
  rw [dW_per he hee, dW_per h hd]
theorem step_in {d e : Sd} (h : SideP d.o d.s d.m) (he : SideP e.o e.s e.m) : ∃ j : Int, 1 ≤ j ∧ perL d e = d.s * j := by
  have s0 := h.s0
  obtain ⟨t, ht⟩ := per_in (ss := [d, e]) List.mem_cons_self h
  have pf := per_figs (m := d.m) h.s0
  have pp := perL_pos h he
  refine ⟨figsN d.s d.m * t, ?_, ?_⟩
  · by_cases z : 1 ≤ figsN d.s d.m * t
    · exact z
    · exfalso
      have : d.s * (figsN d.s d.m * t) ≤ d.s * 0 := Int.mul_le_mul_of_nonneg_left (by omega) (by omega)
      rw [← Int.mul_assoc, ← pf] at this
      have e2 : perL d e = perM d.s d.m * t := ht
      omega
  · show (comN [d, e] : Int) = _
    rw [ht, pf, Int.mul_assoc]
/-- what pace tells, of the wide and the narrow one -/
def CreepP (d e : Sd) (c : Int) : Prop := (c = d.s ∧ ∀ k, Rd d e (atK d k) = atK d (k + 1)) ∨ (c = -d.s ∧ ∀ k, Rd d e (atK d k) = atK d (k - 1)) ∨ (c = 0 ∧ (∃ k, Rd d e (atK d k) ≤ atK d k) ∧ ∃ k, atK d k ≤ Rd d e (atK d k))
theorem far {k j : Int} (hj : 1 ≤ j) (k0 : Int) : ∃ t : Int, 0 ≤ t ∧ k0 ≤ k + j * t := by
  refine ⟨((k0 - k).natAbs : Int), by omega, ?_⟩
  have : 1 * ((k0 - k).natAbs : Int) ≤ j * ((k0 - k).natAbs : Int) := Int.mul_le_mul_of_nonneg_right hj (by omega)
  omega
theorem rd_at {d e : Sd} (h : SideP d.o d.s d.m) (he : SideP e.o e.s e.m) {j : Int} (hj : perL d e = d.s * j) (k t : Int) : Rd d e (atK d (k + j * t)) = Rd d e (atK d k) + d.s * (j * t) := by
  have := rd_per (ss := [d, e]) h he (by simp) (by simp) (atK d k) t
  have e1 : (comN [d, e] : Int) * t = d.s * (j * t) := by
    show perL d e * t = _
    rw [hj, Int.mul_assoc]
  rw [e1] at this
  rw [atK_add]
  exact this
theorem creep_up {d e : Sd} (h : SideP d.o d.s d.m) (he : SideP e.o e.s e.m) (le : e.s ≤ d.s) (no : Least (upP d e d.o) none) (k : Int) : Rd d e (atK d k) = atK d (k + 1) := by
  obtain ⟨j, j1, hj⟩ := step_in h he
  obtain ⟨t, t0, ht⟩ := far (k := k) j1 0
  obtain ⟨n, hn⟩ := Int.eq_ofNat_of_zero_le ht
  have h1 : ¬ NotUp d e (atK d (n : Int)) := no n
  have h2 := rd_up h he le h1
  rw [← hn, rd_at h he hj, show k + j * t + 1 = k + 1 + j * t by omega, atK_add d (k + 1)] at h2
  omega
theorem not_creep {d e : Sd} (h : SideP d.o d.s d.m) (he : SideP e.o e.s e.m) {k1 : Int} (no : Rd d e (atK d k1) ≤ atK d k1) (k0 : Int) : ∃ n, upP d e (atK d k0) n := by
  obtain ⟨j, j1, hj⟩ := step_in h he
  obtain ⟨t, t0, ht⟩ := far (k := k1) j1 k0
  refine ⟨(k1 + j * t - k0).toNat, ?_⟩
  unfold upP
  rw [← atK_add, Int.toNat_of_nonneg (by omega), show k0 + (k1 + j * t - k0) = k1 + j * t by omega, notup_iff h, rd_at h he hj, atK_add]
  omega
/-- it settles on the wide side -/
def SetW (d e : Sd) (v E : Int) (r : Nat) : Prop := ∃ c : Int, (c = d.s ∨ c = -d.s) ∧ E = v + c * (r : Int) ∧ (∀ i : Nat, i < r → Rd d e (v + c * (i : Int)) = v + c * (i : Int) + c) ∧ Rd d e E = E
theorem up_set {d e : Sd} (h : SideP d.o d.s d.m) (he : SideP e.o e.s e.m) (le : e.s ≤ d.s) {k : Int} {r : Nat} (nl : atK d k ≤ Rd d e (atK d k)) (L : Least (upP d e (atK d k)) (some r)) : SetW d e (atK d k) (atK d k + d.s * (r : Int)) r := by
  have st : ∀ i : Nat, i < r → Rd d e (atK d k + d.s * (i : Int)) = atK d k + d.s * (i : Int) + d.s := fun i hi => by
    have h1 := L.2 i hi
    unfold upP at h1
    rw [← atK_add] at h1 ⊢
    rw [rd_up h he le h1, atK_succ]
  refine ⟨d.s, .inl rfl, rfl, st, ?_⟩
  have h1 := L.1
  unfold upP at h1
  rw [← atK_add] at h1 ⊢
  have h2 := (notup_iff h _).mp h1
  have h3 : atK d (k + (r : Int)) ≤ Rd d e (atK d (k + (r : Int))) := by
    cases r with
    | zero =>
      rw [show k + ((0 : Nat) : Int) = k by omega]
      exact nl
    | succ n =>
      have h4 := st n (by omega)
      rw [← atK_add, ← atK_succ] at h4
      have h5 := rd_mono h he (show atK d (k + (n : Int)) ≤ atK d (k + ((n + 1 : Nat) : Int)) from (atK_le h).mpr (by omega))
      rw [h4] at h5
      rw [show k + ((n + 1 : Nat) : Int) = k + (n : Int) + 1 by omega] at h5 ⊢
      exact h5
  omega
theorem down_set {d e : Sd} (h : SideP d.o d.s d.m) (he : SideP e.o e.s e.m) (le : e.s ≤ d.s) {k : Int} {r : Nat} (nl : Rd d e (atK d k) ≤ atK d k) (L : Least (upP (mirS d) (mirS e) (-atK d k)) (some r)) : SetW d e (atK d k) (atK d k - d.s * (r : Int)) r := by
  have ea : -atK d k = atK (mirS d) (-k) := by rw [mirS_at, Int.neg_neg]
  rw [ea] at L
  have nl2 : atK (mirS d) (-k) ≤ Rd (mirS d) (mirS e) (atK (mirS d) (-k)) := by
    rw [← ea, mirS_Rd h he]
    omega
  obtain ⟨c, hc, eE, st, fx⟩ := up_set (mirS_side h) (mirS_side he) le nl2 L
  have c' : c = d.s ∨ c = -d.s := hc
  have eE2 : atK (mirS d) (-k) + (mirS d).s * (r : Int) = atK (mirS d) (-k) + c * (r : Int) := eE
  have ms : (mirS d).s = d.s := rfl
  rw [ms] at eE2 fx
  rw [← ea] at st fx eE2
  refine ⟨-c, by omega, ?_, fun i hi => ?_, ?_⟩
  · rw [Int.neg_mul]
    omega
  · have h1 := st i hi
    rw [show -atK d k + c * (i : Int) = -(atK d k + -c * (i : Int)) by rw [Int.neg_mul]; omega, mirS_Rd h he] at h1
    omega
  · rw [show -atK d k + d.s * (r : Int) = -(atK d k - d.s * (r : Int)) by omega, mirS_Rd h he] at fx
    omega
theorem setw_it {d e : Sd} {v E : Int} {r : Nat} {c : Int} (st : ∀ i : Nat, i < r → Rd d e (v + c * (i : Int)) = v + c * (i : Int) + c) : ∀ i : Nat, i ≤ r → it (Rd d e) i v = v + c * (i : Int)
  | 0, _ => by show v = _; simp
  | i + 1, h => by
    show Rd d e (it (Rd d e) i v) = _
    rw [setw_it (E := E) st i (by omega), st i (by omega), show ((i + 1 : Nat) : Int) = (i : Int) + 1 by omega, Int.mul_add, Int.mul_one]
    omega
theorem setw_stl {d e : Sd} (h : SideP d.o d.s d.m) {v E : Int} {r : Nat} (S : SetW d e v E r) : Stl (Rd d e) v E r := by
  obtain ⟨c, hc, eE, st, fx⟩ := S
  have s0 := h.s0
  have ei := setw_it (E := E) st
  refine ⟨by rw [ei r (Nat.le_refl _)]; exact eE.symm, fx, fun i hi => ?_⟩
  rw [ei i (by omega), ei (i + 1) (by omega), show ((i + 1 : Nat) : Int) = (i : Int) + 1 by omega, Int.mul_add, Int.mul_one]
  rcases hc with e1 | e1 <;> omega
/-- the narrow side is the first one -/
def fT (a b : Sd) (x : Int) : Int := dW a (dW b x)
def lastN (d e : Sd) (y w0 E : Int) : Int := if w0 < E then dW e (E - d.s) else if E < w0 then dW e (E + d.s) else y
theorem setn_stl {d e : Sd} (h : SideP d.o d.s d.m) {y E : Int} {r : Nat} (S : SetW d e (dW d y) E r) : Stl (fT e d) y (dW e E) (if lastN d e y (dW d y) E = dW e E then r else r + 1) := by
  obtain ⟨c, hc, eE, st, fx⟩ := S
  have s0 := h.s0
  have ei : ∀ i : Nat, i ≤ r → dW d (it (fT e d) i y) = dW d y + c * (i : Int) := by
    intro i
    induction i with
    | zero => intro _; show dW d y = _; simp
    | succ i ih =>
      intro hi
      show dW d (dW e (dW d (it (fT e d) i y))) = _
      rw [ih (by omega)]
      have := st i (by omega)
      unfold Rd at this
      rw [this, show ((i + 1 : Nat) : Int) = (i : Int) + 1 by omega, Int.mul_add, Int.mul_one]
      omega
  have e1 : it (fT e d) (r + 1) y = dW e E := by
    show dW e (dW d (it (fT e d) r y)) = _
    rw [ei r (Nat.le_refl _), ← eE]
  have fx2 : fT e d (dW e E) = dW e E := by
    show dW e (dW d (dW e E)) = _
    have : dW d (dW e E) = E := fx
    rw [this]
  have ne : ∀ i, i < r → it (fT e d) (i + 1) y ≠ it (fT e d) i y := by
    intro i hi z
    have h1 := ei i (by omega)
    have h2 := ei (i + 1) (by omega)
    rw [z, h1, show ((i + 1 : Nat) : Int) = (i : Int) + 1 by omega, Int.mul_add, Int.mul_one] at h2
    rcases hc with e1 | e1 <;> omega
  have el : it (fT e d) r y = lastN d e y (dW d y) E := by
    unfold lastN
    cases r with
    | zero =>
      have : E = dW d y := by rw [eE]; simp
      rw [if_neg (by omega), if_neg (by omega)]
      rfl
    | succ n =>
      have h1 : it (fT e d) (n + 1) y = dW e (dW d y + c * (n : Int)) := by
        show dW e (dW d (it (fT e d) n y)) = _
        rw [ei n (by omega)]
      have h2 : E = dW d y + c * (n : Int) + c := by
        rw [eE, show ((n + 1 : Nat) : Int) = (n : Int) + 1 by omega, Int.mul_add, Int.mul_one]
        omega
      rw [h1]
      rcases hc with e1 | e1
      · have p : 0 ≤ c * (n : Int) := Int.mul_nonneg (by omega) (by omega)
        rw [if_pos (by omega)]
        congr 1
        omega
      · have p : (-c) * (n : Int) ≥ 0 := Int.mul_nonneg (by omega) (by omega)
        rw [Int.neg_mul] at p
        rw [if_neg (by omega), if_pos (by omega)]
        congr 1
        omega
  by_cases z : lastN d e y (dW d y) E = dW e E
  · rw [if_pos z]
    exact ⟨el.trans z, fx2, ne⟩
  · rw [if_neg z]
    refine ⟨e1, fx2, fun i hi => ?_⟩
    by_cases y' : i < r
    · exact ne i y'
    · obtain rfl : i = r := by omega
      rw [e1, el]
      exact fun w => z w.symm
/-- a creeping value creeps from each side -/
theorem creep_crp {d e : Sd} (h : SideP d.o d.s d.m) {c : Int} (ch : (c = d.s ∧ ∀ k, Rd d e (atK d k) = atK d (k + 1)) ∨ (c = -d.s ∧ ∀ k, Rd d e (atK d k) = atK d (k - 1))) : c ≠ 0 ∧ ∀ k, Rd d e (atK d k) = atK d k + c := by
  have s0 := h.s0
  rcases ch with ⟨e1, st⟩ | ⟨e1, st⟩
  · exact ⟨by omega, fun k => by rw [st, atK_succ, e1]⟩
  · refine ⟨by omega, fun k => ?_⟩
    rw [st]
    have := atK_succ d (k - 1)
    rw [show k - 1 + 1 = k by omega] at this
    omega
theorem crp_wide {d e : Sd} (h : SideP d.o d.s d.m) {ss : List Sd} (hd : d ∈ ss) {c : Int} (ch : c ≠ 0 ∧ ∀ k, Rd d e (atK d k) = atK d k + c) (v : Int) : Crp (fT d e) (comN ss : Int) (dW d v) c := by
  obtain ⟨c0, st⟩ := ch
  refine ⟨c0, dW d, dW_per h hd, fun i => ?_⟩
  obtain ⟨k, hk⟩ := dW_is d v
  have ei : ∀ i : Nat, ∃ k', it (fT d e) i (dW d v) = atK d k' ∧ atK d k' = dW d v + c * (i : Int) := by
    intro i
    induction i with
    | zero => exact ⟨k, hk, by rw [← hk]; simp⟩
    | succ i ih =>
      obtain ⟨k', e1, e2⟩ := ih
      have h1 : it (fT d e) (i + 1) (dW d v) = Rd d e (atK d k') := by
        show fT d e (it (fT d e) i (dW d v)) = _
        rw [e1]
        rfl
      rw [h1]
      obtain ⟨k2, hk2⟩ := dW_is d (dW e (atK d k'))
      have hk3 : Rd d e (atK d k') = atK d k2 := hk2
      refine ⟨k2, hk3, ?_⟩
      rw [← hk3, st, e2, show ((i + 1 : Nat) : Int) = (i : Int) + 1 by omega, Int.mul_add, Int.mul_one]
      omega
  obtain ⟨k', e1, e2⟩ := ei i
  rw [e1, dW_at h, e2, hk, dW_at h]
theorem crp_narrow {d e : Sd} (h : SideP d.o d.s d.m) {ss : List Sd} (hd : d ∈ ss) {c : Int} (ch : c ≠ 0 ∧ ∀ k, Rd d e (atK d k) = atK d k + c) (y : Int) : Crp (fT e d) (comN ss : Int) y c := by
  obtain ⟨c0, st⟩ := ch
  refine ⟨c0, dW d, dW_per h hd, fun i => ?_⟩
  induction i with
  | zero => show dW d y = _; simp
  | succ i ih =>
    show dW d (dW e (dW d (it (fT e d) i y))) = _
    obtain ⟨k, hk⟩ := dW_is d (it (fT e d) i y)
    have h1 := st k
    unfold Rd at h1
    rw [hk, h1, ← hk, ih, show ((i + 1 : Nat) : Int) = (i : Int) + 1 by omega, Int.mul_add, Int.mul_one]
    omega
theorem creep_uniq {d e : Sd} (h : SideP d.o d.s d.m) {c c' : Int} (a : CreepP d e c) (b : CreepP d e c') : c = c' := by
  have s0 := h.s0
  have two : ∀ {c c' : Int}, CreepP d e c → CreepP d e c' → c ≠ c' → (c = d.s ∨ c = -d.s) → (c' = d.s ∨ c' = -d.s) → False := by
    intro c c' a b ne _ _
    rcases a with ⟨e1, st⟩ | ⟨e1, st⟩ | ⟨e1, _⟩ <;> rcases b with ⟨e2, st2⟩ | ⟨e2, st2⟩ | ⟨e2, _⟩ <;> try omega
    · have h1 := st 0
      rw [st2 0] at h1
      have := (atK_lt h (j := 0 - 1) (k := 0 + 1)).mpr (by omega)
      omega
    · have h1 := st 0
      rw [st2 0] at h1
      have := (atK_lt h (j := 0 - 1) (k := 0 + 1)).mpr (by omega)
      omega
  have zero : ∀ {c : Int}, CreepP d e c → (∃ k, Rd d e (atK d k) ≤ atK d k) → (∃ k, atK d k ≤ Rd d e (atK d k)) → c = 0 := by
    intro c a ⟨k1, h1⟩ ⟨k2, h2⟩
    rcases a with ⟨e1, st⟩ | ⟨e1, st⟩ | ⟨e1, _⟩
    · exfalso
      rw [st, atK_le h] at h1
      omega
    · exfalso
      rw [st, atK_le h] at h2
      omega
    · exact e1
  have a2 := a
  have b2 := b
  rcases a2 with ⟨e1, st⟩ | ⟨e1, st⟩ | ⟨e1, x, y⟩
  · rcases b2 with ⟨e2, st2⟩ | ⟨e2, st2⟩ | ⟨e2, x, y⟩
    · omega
    · by_cases z : c = c'
      · exact z
      · exact (two a b z (.inl e1) (.inr e2)).elim
    · rw [e2]; exact zero a x y
  · rcases b2 with ⟨e2, st2⟩ | ⟨e2, st2⟩ | ⟨e2, x, y⟩
    · by_cases z : c = c'
      · exact z
      · exact (two a b z (.inr e1) (.inl e2)).elim
    · omega
    · rw [e2]; exact zero a x y
  · rw [e1]; exact (zero b x y).symm
end HT
namespace HT
open PySem L2
theorem it_add (f : Int → Int) (x : Int) : ∀ n, it f n (f x) = it f (n + 1) x
  | 0 => rfl
  | n + 1 => by
    show f (it f n (f x)) = f (it f (n + 1) x)
    rw [it_add f x n]
/-- one hand-over ahead -/
theorem stl_cons {f : Int → Int} {h E : Int} {r : Nat} (ne : f h ≠ h) (s : Stl f (f h) E r) : Stl f h E (r + 1) := by
  obtain ⟨a, b, c⟩ := s
  refine ⟨by rw [← it_add]; exact a, b, fun i hi => ?_⟩
  cases i with
  | zero => exact ne
  | succ i =>
    have := c i (by omega)
    rw [it_add, it_add] at this
    exact this
theorem stl_fix {f : Int → Int} {h : Int} (e : f h = h) : Stl f h h 0 := ⟨rfl, e, fun i hi => absurd hi (Nat.not_lt_zero _)⟩
/-- the greatest writer of two, or the value -/
def hi2 (d e : Sd) (x : Int) : Int := max x (max (dW d x) (dW e x))
theorem hi2_comm (d e : Sd) (x : Int) : hi2 d e x = hi2 e d x := by
  unfold hi2
  rw [Int.max_comm (dW d x)]
theorem dW_dW {d : Sd} (h : SideP d.o d.s d.m) (x : Int) : dW d (dW d x) = dW d x := by
  obtain ⟨k, hk⟩ := dW_is d x
  rw [hk, dW_at h]
/-- a round that raises: first by the narrow one, then by the wide one -/
theorem hi_two {d e : Sd} (h : SideP d.o d.s d.m) (he : SideP e.o e.s e.m) (le : e.s ≤ d.s) {k : Int} (z : ¬ NotUp d e (atK d k)) : hi2 d e (atK d k) ≠ atK d k ∧ hi2 d e (hi2 d e (atK d k)) = atK d (k + 1) ∧ hi2 d e (hi2 d e (atK d k)) ≠ hi2 d e (atK d k) := by
  have r := rd_up h he le z
  have w0 := dW_at h k
  have bp := back_pos (o := d.o) (v := atK d k) h.md h.s0
  have ge : backM d.o d.s d.m (atK d k + d.s) ≤ dW e (atK d k) := by
    unfold NotUp at z
    omega
  have near := due_near (o := e.o) (v := atK d k) he.md he.s0
  have near' : dW e (atK d k) - atK d k < e.s := near.1
  have as := atK_succ d k
  have e1 : hi2 d e (atK d k) = dW e (atK d k) := by
    unfold hi2
    rw [w0]
    omega
  have r2 : dW d (dW e (atK d k)) = atK d (k + 1) := r
  have e2 : hi2 d e (dW e (atK d k)) = atK d (k + 1) := by
    unfold hi2
    rw [r2, dW_dW he]
    omega
  rw [e1, e2]
  exact ⟨by omega, rfl, by omega⟩
/-- behind the last round that raises -/
def lastE (d e : Sd) (z : Int) : Nat := if z < dW e z then 1 else 0
theorem hi_last {d e : Sd} (h : SideP d.o d.s d.m) (he : SideP e.o e.s e.m) {k : Int} (z : NotUp d e (atK d k)) : ∃ E, Stl (hi2 d e) (atK d k) E (lastE d e (atK d k)) := by
  have w0 := dW_at h k
  unfold lastE
  by_cases y : atK d k < dW e (atK d k)
  · rw [if_pos y]
    have e1 : hi2 d e (atK d k) = dW e (atK d k) := by
      unfold hi2
      rw [w0]
      omega
    have r := (notup_iff h k).mp z
    have r2 : dW d (dW e (atK d k)) ≤ atK d k := r
    have e2 : hi2 d e (dW e (atK d k)) = dW e (atK d k) := by
      have hh := dW_dW he (atK d k)
      unfold hi2
      rw [hh]
      omega
    refine ⟨dW e (atK d k), stl_cons (r := 0) (by rw [e1]; omega) ?_⟩
    rw [e1]
    exact stl_fix e2
  · rw [if_neg y]
    refine ⟨atK d k, stl_fix ?_⟩
    unfold hi2
    rw [w0]
    omega
theorem two_stl {d e : Sd} (h : SideP d.o d.s d.m) (he : SideP e.o e.s e.m) (le : e.s ≤ d.s) : ∀ (r : Nat) (k : Int), Least (upP d e (atK d k)) (some r) → ∃ E, Stl (hi2 d e) (atK d k) E (2 * r + lastE d e (atK d k + d.s * (r : Int)))
  | 0, k, L => by
    have h1 := L.1
    unfold upP at h1
    rw [← atK_add, show k + ((0 : Nat) : Int) = k by omega] at h1
    obtain ⟨E, s⟩ := hi_last h he h1
    refine ⟨E, ?_⟩
    rw [← atK_add, show k + ((0 : Nat) : Int) = k by omega, show 2 * 0 + lastE d e (atK d k) = lastE d e (atK d k) by omega]
    exact s
  | r + 1, k, L => by
    have z : ¬ NotUp d e (atK d k) := by
      have := L.2 0 (by omega)
      unfold upP at this
      rw [← atK_add, show k + ((0 : Nat) : Int) = k by omega] at this
      exact this
    have up : ∀ n : Nat, upP d e (atK d (k + 1)) n ↔ upP d e (atK d k) (n + 1) := fun n => by
      unfold upP
      rw [← atK_add, ← atK_add, show k + 1 + (n : Int) = k + ((n + 1 : Nat) : Int) by omega]
    have L2 : Least (upP d e (atK d (k + 1))) (some r) := ⟨(up r).mpr L.1, fun j hj c => L.2 (j + 1) (by omega) ((up j).mp c)⟩
    obtain ⟨E, s⟩ := two_stl h he le r (k + 1) L2
    obtain ⟨n1, e2, n2⟩ := hi_two h he le z
    refine ⟨E, ?_⟩
    rw [← atK_add, show k + ((r + 1 : Nat) : Int) = k + 1 + (r : Int) by omega, atK_add, show 2 * (r + 1) + lastE d e (atK d (k + 1) + d.s * (r : Int)) = (2 * r + lastE d e (atK d (k + 1) + d.s * (r : Int))) + 1 + 1 by omega]
    refine stl_cons n1 (stl_cons n2 ?_)
    rw [e2]
    exact s
end HT
namespace HT
open PySem L2
/-- the greatest writer of some, or the value -/
def hiL : List Sd → Int → Int
  | [], x => x
  | d :: ss, x => max (dW d x) (hiL ss x)
theorem hiL_hip : ∀ (ss : List Sd) (x : Int), HiP ss x (hiL ss x)
  | [], x => ⟨Int.le_refl _, fun d h => absurd h List.not_mem_nil, .inl rfl⟩
  | d :: ss, x => by
    obtain ⟨a, b, c⟩ := hiL_hip ss x
    have e : hiL (d :: ss) x = max (dW d x) (hiL ss x) := rfl
    refine ⟨by omega, fun y hy => ?_, ?_⟩
    · rcases List.mem_cons.mp hy with z | hy
      · rw [z]
        show dW d x ≤ _
        omega
      · have := b y hy
        omega
    · by_cases z : dW d x ≤ hiL ss x
      · rcases c with c | ⟨y, hy, c⟩
        · exact .inl (by omega)
        · exact .inr ⟨y, List.mem_cons_of_mem _ hy, by omega⟩
      · exact .inr ⟨d, List.mem_cons_self, by show _ = dW d x; omega⟩
theorem hip_le {ss : List Sd} {v h g : Int} (p : HiP ss v h) (q : HiP ss v g) : h ≤ g := by
  obtain ⟨a, b, c⟩ := p
  obtain ⟨a2, b2, c2⟩ := q
  rcases c with c | ⟨y, hy, c⟩
  · omega
  · have := b2 y hy
    omega
theorem hip_eq {ss : List Sd} {v h : Int} (p : HiP ss v h) : h = hiL ss v := Int.le_antisymm (hip_le p (hiL_hip ss v)) (hip_le (hiL_hip ss v) p)
theorem hiL_two (d e : Sd) : hiL [d, e] = hi2 d e := funext fun x => by
  show max (dW d x) (max (dW e x) x) = _
  unfold hi2
  omega
theorem hiL_ge (ss : List Sd) (x : Int) : x ≤ hiL ss x := (hiL_hip ss x).1
theorem hiL_mono {ss : List Sd} (hs : ∀ d ∈ ss, SideP d.o d.s d.m) {x y : Int} (z : x ≤ y) : hiL ss x ≤ hiL ss y := by
  obtain ⟨a, b, c⟩ := hiL_hip ss x
  obtain ⟨a2, b2, c2⟩ := hiL_hip ss y
  rcases c with c | ⟨d, hd, c⟩
  · omega
  · have e : dW d x ≤ dW d y := dW_le (hs d hd) z
    have f : dW d y ≤ hiL ss y := b2 d hd
    have g : hiL ss x = dW d x := c
    omega
theorem itL_le {ss : List Sd} (hs : ∀ d ∈ ss, SideP d.o d.s d.m) {X v : Int} (u : hiL ss X = X) (le : v ≤ X) : ∀ n, it (hiL ss) n v ≤ X
  | 0 => le
  | n + 1 => by
    have := hiL_mono hs (itL_le hs u le n)
    rw [u] at this
    exact this
theorem una_hi {ss : List Sd} {x : Int} : UnA ss x ↔ hiL ss x = x := by
  obtain ⟨a, b, c⟩ := hiL_hip ss x
  constructor
  · intro h
    rcases c with c | ⟨d, hd, c⟩
    · exact c
    · have := h d hd
      omega
  · intro h d hd
    have := b d hd
    omega
end HT
namespace HT
open PySem L2
theorem hiL_filter {ss : List Sd} (hs : ∀ d ∈ ss, SideP d.o d.s d.m) (x : Int) : hiL (ss.filter upD) x = hiL ss x := by
  obtain ⟨a, b, c⟩ := hiL_hip (ss.filter upD) x
  refine hip_eq ⟨a, fun d hd => ?_, ?_⟩
  · by_cases u : upD d = true
    · exact b d (List.mem_filter.mpr ⟨hd, u⟩)
    · have e : firstM d.s d.m = "down" := by
        unfold upD at u
        simpa using u
      have f := due_form (o := d.o) x (hs d hd).md (hs d hd).s0
      rw [e] at f
      rw [← f]
      exact Int.le_trans (down_le (hs d hd).s0) a
  · rcases c with c | ⟨d, hd, c⟩
    · exact .inl c
    · exact .inr ⟨d, (List.mem_filter.mp hd).1, c⟩
theorem hiL_filter' {ss : List Sd} (hs : ∀ d ∈ ss, SideP d.o d.s d.m) : hiL (ss.filter upD) = hiL ss := funext (hiL_filter hs)
theorem up_bd {ss : List Sd} (hs : ∀ d ∈ ss, SideP d.o d.s d.m) (l4 : ss.length ≤ 4) {v X : Int} (L : LeastI (UnA ss) v (some X)) : v ≤ X ∧ X < v + 2 ^ 420 := by
  obtain ⟨a, b, c⟩ := L
  refine ⟨a, ?_⟩
  by_cases z : X < v + 2 ^ 420
  · exact z
  · exfalso
    have cl := com_lt hs l4
    have cl2 : ((comN ss : Nat) : Int) < 2 ^ 420 := by exact_mod_cast cl
    have cp := com_pos ss 1 (by decide) hs
    have cp2 : 1 ≤ ((comN ss : Nat) : Int) := by
      show 1 ≤ ((ss.foldl (fun n d => n.lcm (perN d)) 1 : Nat) : Int)
      omega
    have u := (una_com hs X (-1)).mpr b
    exact c _ (by omega) (by omega) u
/-- the fewest hand-overs upwards, none where there is no end -/
def EndN (ss : List Sd) (v : Int) : Option Nat → Prop
  | none => LeastI (UnA ss) v none
  | some n => ∃ E, Stl (hiL ss) v E n ∧ LeastI (UnA ss) v (some E)
theorem stl_least {ss : List Sd} (hs : ∀ d ∈ ss, SideP d.o d.s d.m) {v E X : Int} {n : Nat} (s : Stl (hiL ss) v E n) (L : LeastI (UnA ss) v (some X)) : E = X := by
  obtain ⟨a, b, c⟩ := s
  obtain ⟨a2, b2, c2⟩ := L
  have le := itL_le hs (una_hi.mp b2) a2 n
  rw [a] at le
  by_cases z : E < X
  · refine absurd (una_hi.mpr b) (c2 E ?_ z)
    have key : ∀ m, v ≤ it (hiL ss) m v := fun m => by
      induction m with
      | zero => exact Int.le_refl _
      | succ m ih => exact Int.le_trans ih (hiL_ge ss _)
    rw [← a]
    exact key n
  · omega
end HT
namespace HT
open PySem L2
theorem hiL_com {ss : List Sd} (hs : ∀ d ∈ ss, SideP d.o d.s d.m) (x : Int) {c : Int} (hc : ((comN ss : Nat) : Int) ∣ c) : hiL ss (x + c) = hiL ss x + c := by
  have key : ∀ d ∈ ss, dueM d.o d.s d.m (x + c) = dueM d.o d.s d.m x + c := fun d hd =>
    due_dvd (hs d hd).md (hs d hd).s0 (Int.dvd_trans (per_com hd (hs d hd)) hc)
  obtain ⟨a, b, e⟩ := hiL_hip ss x
  refine (hip_eq ⟨by omega, fun d hd => ?_, ?_⟩).symm
  · rw [key d hd]
    have := b d hd
    omega
  · rcases e with e | ⟨d, hd, e⟩
    · exact .inl (by omega)
    · exact .inr ⟨d, hd, by rw [key d hd]; omega⟩
theorem itL_com {ss : List Sd} (hs : ∀ d ∈ ss, SideP d.o d.s d.m) (x : Int) {c : Int} (hc : ((comN ss : Nat) : Int) ∣ c) : ∀ n, it (hiL ss) n (x + c) = it (hiL ss) n x + c
  | 0 => rfl
  | n + 1 => by
    show hiL ss (it (hiL ss) n (x + c)) = hiL ss (it (hiL ss) n x) + c
    rw [itL_com hs x hc n, hiL_com hs _ hc]
theorem it_plus (f : Int → Int) (x : Int) (m : Nat) : ∀ n, it f (m + n) x = it f n (it f m x)
  | 0 => rfl
  | n + 1 => by
    show f (it f (m + n) x) = f (it f n (it f m x))
    rw [it_plus f x m n]
/-- behind a remainder that has come again all goes on alike -/
theorem it_again {ss : List Sd} (hs : ∀ d ∈ ss, SideP d.o d.s d.m) {v c : Int} {j p : Nat} (hc : ((comN ss : Nat) : Int) ∣ c) (e : it (hiL ss) (j + p) v = it (hiL ss) j v + c) (r : Nat) : ∀ k : Nat, it (hiL ss) (j + r + p * k) v = it (hiL ss) (j + r) v + (k : Int) * c
  | 0 => by
    show it (hiL ss) (j + r) v = _
    rw [show ((0 : Nat) : Int) * c = 0 from Int.zero_mul c]
    omega
  | k + 1 => by
    have ih := it_again hs hc e r k
    have e1 : j + r + p * (k + 1) = j + p + (r + p * k) := by rw [Nat.mul_add]; omega
    have e2 : j + r + p * k = j + (r + p * k) := by omega
    rw [e1, it_plus, e, itL_com hs _ hc, ← it_plus, ← e2, ih, Int.natCast_add, Int.add_mul]
    omega
theorem itL_bd {ss : List Sd} (hs : ∀ d ∈ ss, SideP d.o d.s d.m) (v : Int) : ∀ n : Nat, v ≤ it (hiL ss) n v ∧ it (hiL ss) n v ≤ v + 10 ^ 31 * (n : Int)
  | 0 => ⟨Int.le_refl _, by show v ≤ _; omega⟩
  | n + 1 => by
    obtain ⟨a, b⟩ := itL_bd hs v n
    have g := hiL_ge ss (it (hiL ss) n v)
    have h := hi_bd hs (hiL_hip ss (it (hiL ss) n v))
    have e : it (hiL ss) (n + 1) v = hiL ss (it (hiL ss) n v) := rfl
    omega
end HT
namespace HT
open PySem L2
def spWrL : Sp := fun vs H Q _ => ∃ (l : Addr) (xs : List V) (ss : List Sd) (v : Int), vs = [.ref l, .int v] ∧ SidesAt H l xs ss ∧ (-2 ^ 900 < v ∧ v < 2 ^ 900) ∧ ∀ (L : Addr) (H' : Hp), H L = none → Same H H' → H' L = some (.lst ((ss.map fun d => dueM d.o d.s d.m v).map V.int)) → Q (.ref L) H'
section
variable {P : Program} {w : World} {K : PySem.W.Frag} {mg : Str → Option Value} {base : Heap} {fB fH fI fJ fL fM fN : Addr} {dB dH dI dJ dL dM dN : FuncData}
end
end HT
namespace HT
open PySem L2
theorem goes_scale {m : Str} {s q r f : Int} (h : Mode m) (hf : 1 ≤ f) : goesUp m (s * f) q (r * f) = goesUp m s q r := by
  have key : ∀ a b : Int, a * f < b * f ↔ a < b := fun a b => Int.mul_lt_mul_right (by omega)
  have key2 : ∀ a b : Int, a * f ≤ b * f ↔ a ≤ b := fun a b => by
    rw [← Int.not_lt, key, Int.not_lt]
  have e0 : (0 : Int) < r * f ↔ 0 < r := by
    have := key 0 r
    rw [Int.zero_mul] at this
    exact this
  have e1 : s * f < 2 * (r * f) ↔ s < 2 * r := by
    have := key s (2 * r)
    rw [Int.mul_assoc] at this
    exact this
  have e2 : s * f ≤ 2 * (r * f) ↔ s ≤ 2 * r := by
    have := key2 s (2 * r)
    rw [Int.mul_assoc] at this
    exact this
  have e3 : 2 * (r * f) = s * f ↔ 2 * r = s := by
    rw [← Int.mul_assoc]
    exact Int.mul_eq_mul_right_iff (by omega)
  rcases h with e | e | e | e | e <;> subst e
  · rw [go_down, go_down]
  · rw [go_up, go_up]; exact decide_eq_decide.mpr e0
  · rw [go_hd, go_hd]; exact decide_eq_decide.mpr e1
  · rw [go_hu, go_hu]; exact decide_eq_decide.mpr e2
  · rw [go_he, go_he, decide_eq_decide.mpr e1, decide_eq_decide.mpr e3]
theorem due_scale {o s v f : Int} {m : Str} (h : Mode m) (hs : 1 ≤ s) (hf : 1 ≤ f) : dueM (o * f) (s * f) m (v * f) = dueM o s m v * f := by
  have F := fig_of (o := o) (m := m) (v := v) hs
  have sf : 1 ≤ s * f := Int.mul_pos (by omega) (by omega)
  obtain ⟨eq, r0, r1, wh⟩ := F
  generalize (v - o) / s = q at eq wh
  generalize (v - o) % s = r at eq r0 r1 wh
  have F2 : Fig (o * f) (s * f) m (v * f) q (r * f) (figM o s m v) := by
    refine ⟨?_, Int.mul_nonneg r0 (by omega), (Int.mul_lt_mul_right (by omega)).mpr r1, ?_⟩
    · rw [← Int.sub_mul, eq, Int.add_mul, Int.mul_assoc, Int.mul_assoc, Int.mul_comm q f]
    · rw [goes_scale h hf]; exact wh
  have e := fig_uniq sf F2
  unfold dueM
  rw [e, Int.add_mul, Int.mul_assoc, Int.mul_assoc, Int.mul_comm f]
def lift (f : Int) (d : Sd) : Sd := ⟨d.o * f, d.s * f, d.m⟩
theorem due_lift {d : Sd} (h : SideP d.o d.s d.m) {f : Int} (hf : 1 ≤ f) (v : Int) : dueM (lift f d).o (lift f d).s (lift f d).m (v * f) = dueM d.o d.s d.m v * f := due_scale h.md h.s0 hf
theorem mir_lift (f : Int) (ss : List Sd) : (ss.map (lift f)).map mirD = (ss.map mirD).map (lift f) := by
  rw [List.map_map, List.map_map]
  refine List.map_congr_left fun d _ => ?_
  show (⟨-(d.o * f), d.s * f, mir d.m⟩ : Sd) = ⟨-d.o * f, d.s * f, mir d.m⟩
  rw [Int.neg_mul]
theorem side_mirs {ss : List Sd} (hs : ∀ d ∈ ss, SideP d.o d.s d.m) : ∀ d ∈ ss.map mirD, SideP d.o d.s d.m := fun d hd => by
  obtain ⟨e, he, rfl⟩ := List.mem_map.mp hd
  exact side_mir (hs e he)
theorem max_mul {a b f : Int} (hf : 1 ≤ f) : max (a * f) (b * f) = max a b * f := by
  rcases Int.le_total a b with h | h
  · have := Int.mul_le_mul_of_nonneg_right h (show 0 ≤ f by omega)
    rw [Int.max_eq_right h, Int.max_eq_right this]
  · have := Int.mul_le_mul_of_nonneg_right h (show 0 ≤ f by omega)
    rw [Int.max_eq_left h, Int.max_eq_left this]
theorem hiL_lift {f : Int} (hf : 1 ≤ f) : ∀ {ss : List Sd}, (∀ d ∈ ss, SideP d.o d.s d.m) → ∀ x, hiL (ss.map (lift f)) (x * f) = hiL ss x * f
  | [], _, x => rfl
  | d :: ss, h, x => by
    have e1 : dW (lift f d) (x * f) = dW d x * f := due_lift (h d List.mem_cons_self) hf x
    have e2 := hiL_lift hf (fun y hy => h y (List.mem_cons_of_mem _ hy)) x (ss := ss)
    show max (dW (lift f d) (x * f)) (hiL (ss.map (lift f)) (x * f)) = max (dW d x) (hiL ss x) * f
    rw [e1, e2, max_mul hf]
theorem itL_lift {f : Int} (hf : 1 ≤ f) {ss : List Sd} (hs : ∀ d ∈ ss, SideP d.o d.s d.m) (x : Int) : ∀ n, it (hiL (ss.map (lift f))) n (x * f) = it (hiL ss) n x * f
  | 0 => rfl
  | n + 1 => by
    show hiL (ss.map (lift f)) (it (hiL (ss.map (lift f))) n (x * f)) = hiL ss (it (hiL ss) n x) * f
    rw [itL_lift hf hs x n, hiL_lift hf hs]
theorem mulf_inj {a b f : Int} (hf : 1 ≤ f) (e : a * f = b * f) : a = b := Int.eq_of_mul_eq_mul_right (by omega) e
theorem lift_one (ss : List Sd) : ss.map (lift 1) = ss := by
  have : lift 1 = id := funext fun d => by unfold lift; rw [Int.mul_one, Int.mul_one]; rfl
  rw [this, List.map_id]
theorem lift_bd {d : Sd} {f : Int} (sp : SideP d.o d.s d.m) (b : -30 ≤ d.o ∧ d.o ≤ 29 ∧ d.s ≤ 12) (h1 : 1 ≤ f) (h2 : f ≤ 10 ^ 27) : SideP (d.o * f) (d.s * f) d.m := by
  obtain ⟨o0, o1, s0, s1, md⟩ := sp
  obtain ⟨b1, b2, b3⟩ := b
  have x1 : (-30) * f ≤ d.o * f := Int.mul_le_mul_of_nonneg_right b1 (by omega)
  have x2 : d.o * f ≤ 29 * f := Int.mul_le_mul_of_nonneg_right b2 (by omega)
  have x3 : d.s * f ≤ 12 * f := Int.mul_le_mul_of_nonneg_right b3 (by omega)
  have x4 : 1 * f ≤ d.s * f := Int.mul_le_mul_of_nonneg_right s0 (by omega)
  refine ⟨?_, ?_, ?_, ?_, md⟩ <;> omega
theorem mulF {i f : Int} (hi : -10 ^ 300 ≤ i ∧ i ≤ 10 ^ 300) (h1 : 1 ≤ f) (h2 : f ≤ 10 ^ 27) : CMulW i f := by
  refine mulW ?_ ?_
  · have : (10 ^ 300 : Int) < 2 ^ 1010 := by decide +kernel
    omega
  · have : (10 ^ 27 : Int) < 2 ^ 1010 := by decide +kernel
    omega
end HT
namespace HT
open PySem L2
section
variable {P : Program} {w : World} {K : PySem.W.Frag} {mg : Str → Option Value} {base : Heap}
/-- both promises of a def -/
theorem or_ok {CX : CXT} {k : Nat} {f : Addr} {fd : FuncData} {ps : List Str} {sp sp' : Sp} (F : FnOk P w K mg base CX k f fd ps sp) (G : FnOk P w K mg base CX k f fd ps sp') : FnOk P w K mg base CX k f fd ps (fun vs H Q E => sp vs H Q E ∨ sp' vs H Q E) :=
  ⟨fun vs H Q E h => h.elim (F.len vs H Q E) (G.len vs H Q E), fun A outer s H args us vs Q E hr he hb hv hs => hs.elim (F.run A outer s H args us vs Q E hr he hb hv) (G.run A outer s H args us vs Q E hr he hb hv)⟩
end
end HT
namespace HT
open PySem L2
section
variable {P : Program} {w : World} {K : PySem.W.Frag} {mg : Str → Option Value} {base : Heap}
/-- a def that lets nothing out keeps its promise among errors too -/
theorem to_x {k : Nat} {f : Addr} {fd : FuncData} {ps : List Str} {sp : Sp} (F : FnOk P w K mg base CX0 k f fd ps sp) : FnOk P w K mg base (L2.CX P w) k f fd ps sp :=
  ⟨F.len, fun A outer s H args us vs Q E hr he hb hv hs => codeAny_mono (F.run A outer s H args us vs Q E hr he hb hv hs) fun r s' h => by
    unfold CR at h ⊢
    split at h
    · exact h
    · exact h
    · exact h.elim⟩
def spNo : Sp := fun _ _ _ _ => False
end
end HT
namespace PySem.SeqAt
open MeetsSeq
theorem str_eq_declines_dict (b : Str) (u : Tok) (l : Addr) (o : Obj) (hcl : o.cls = .type "dict") {es : Array DictEntry} {n : Nat} (h2 : o.data = .dict es n) :
    Meets (Builtin.«str.__eq__» ⟨[.str b u, .ref l], []⟩) (fun _ R s => s.heap.get? l = some o ∧ R (.ok (.ret .notImplemented)) s) :=
  .of_wp fun prog w A R s h => by obtain ⟨hp, g, d, tk, os⟩ := s; obtain ⟨hl, h⟩ := h; obtain ⟨cls, dd, data, sl⟩ := o; simp only at h2; subst h2; wp_walk using AutoSeq1.wpAny_loadPart' hl, wpAny_load hl; exact ⟨_, rfl, h⟩
theorem dict_eq_declines_str (l : Addr) (o : Obj) (hcl : o.cls = .type "dict") (b : Str) (u : Tok) :
    Meets (Builtin.«dict.__eq__» ⟨[.ref l, .str b u], []⟩) (fun _ R s => s.heap.get? l = some o ∧ R (.ok (.ret .notImplemented)) s) :=
  .of_wp fun prog w A R s h => by obtain ⟨hp, g, d, tk, os⟩ := s; obtain ⟨hl, h⟩ := h; have f1 := F.sub_str_dict; wp_walk using AutoSeq1.wpAny_loadPart' hl, wpAny_load hl; exact ⟨_, rfl, h⟩
section
variable {A : Around} {s : Shared}
theorem RcAt.str_dict {l : Addr} {o : Obj} (b : Str) (u : Tok) (ho : s.heap.get? l = some o) (hc : o.cls = .type "dict") {es : Array DictEntry} {n : Nat} (hd : o.data = .dict es n) (hu : A.units < cLine) : RcAt A s (.str b u) (.ref l) false := fun prog w E Q h =>
  rc_eq_decline_or (k := false) (typeIs_str s b u) ⟨_, ho, hc⟩ (by decide) F.sub_dict_str F.slot_str_eq F.slot_dict_eq_refl
    (fun _ hq => call_meets F.slot_str_eq (typeIs_str s b u) F.entry_str_eq (F.args_str_eq_2 _ _) (str_eq_declines_dict b u l o hc hd) ⟨ho, hq⟩)
    (fun _ hq => call_meets F.slot_dict_eq_refl ⟨_, ho, hc⟩ F.entry_dict_eq (F.args_dict_eq_2 _ _) (dict_eq_declines_str l o hc b u) ⟨ho, hq⟩)
    (fun _ hq => wpAny_of_eq (rfl : isSame (.str b u) (.ref l) = pure false) hq) (.inr hu) h
theorem EqAt.str_dict {l : Addr} {o : Obj} (b : Str) (u : Tok) (ho : s.heap.get? l = some o) (hc : o.cls = .type "dict") {es : Array DictEntry} {n : Nat} (hd : o.data = .dict es n) (hu : A.units < cLine) : EqAt A s (.str b u) (.ref l) false := fun prog w E Q h => by
  unfold eqBool
  refine wpAny_holding ?_
  refine wpAny_ite_split (fun hab => absurd (eq_of_beq hab) nofun) (fun _ => ?_)
  exact wpAny_bind (RcAt.str_dict b u ho hc hd hu prog w E _ (wpAny_truthy_bool h))
end
end PySem.SeqAt
namespace HT
open PySem L2
/-- a thing of any kind, with its type's name -/
inductive Th (H : Hp) : V → String → Prop where
  | int (i : Int) : Th H (.int i) "int"
  | bl (b : Bool) : Th H (.bl b) "bool"
  | non : Th H .non "NoneType"
  | str (s : Str) : Th H (.str s) "str"
  | tup {p : Addr} {xs : List V} (h : H p = some (.tup xs)) : Th H (.ref p) "tuple"
  | lst {p : Addr} {xs : List V} (h : H p = some (.lst xs)) : Th H (.ref p) "list"
  | dk {p : Addr} {kvs : List (Key × V)} (h : H p = some (.dK kvs)) : Th H (.ref p) "dict"
theorem Th.ty {K : PySem.W.Frag} {H : Hp} {x : V} {n : String} (t : Th H x n) : TyX K H x (.type n) := by
  cases t with
  | int i => exact .base (.int i)
  | bl b => exact .base (.bl b)
  | non => exact .base .non
  | str s => exact .base (.str s)
  | tup h => exact .base (.tup h)
  | lst h => exact .base (.lst h)
  | dk h => exact .base (.dK h)
theorem Th.kint {K : PySem.W.Frag} {H : Hp} {x : V} {n : String} (t : Th H x n) : PySem.W.kitOne K (.type n) (.type "int") = some (n == "int" || n == "bool") := by
  cases t <;> exact kit_ty (by decide +kernel)
theorem Th.kbool {K : PySem.W.Frag} {H : Hp} {x : V} {n : String} (t : Th H x n) : PySem.W.kitOne K (.type n) (.type "bool") = some (n == "bool") := by
  cases t <;> exact kit_ty (by decide +kernel)
theorem Th.ktup {K : PySem.W.Frag} {H : Hp} {x : V} {n : String} (t : Th H x n) : PySem.W.kitOne K (.type n) (.type "tuple") = some (n == "tuple") := by
  cases t <;> exact kit_ty (by decide +kernel)
theorem Th.klst {K : PySem.W.Frag} {H : Hp} {x : V} {n : String} (t : Th H x n) : PySem.W.kitOne K (.type n) (.type "list") = some (n == "list") := by
  cases t <;> exact kit_ty (by decide +kernel)
theorem Th.same {H H' : Hp} {x : V} {n : String} (t : Th H x n) (s : Same H H') : Th H' x n := by
  cases t with
  | int i => exact .int i
  | bl b => exact .bl b
  | non => exact .non
  | str x => exact .str x
  | tup h => exact .tup (s _ _ h)
  | lst h => exact .lst (s _ _ h)
  | dk h => exact .dk (s _ _ h)
def isI (n : String) : Bool := n == "int"
def spIsAny : Sp := fun vs H Q _ => ∃ (x : V) (n : String), vs = [x] ∧ Th H x n ∧ Q (.bl (isI n)) H
/-- an int between the ends -/
def inB (x : V) (a b : Int) : Bool := match x with
  | .int i => decide (a ≤ i) && decide (i ≤ b)
  | _ => false
def spBetAny : Sp := fun vs H Q _ => ∃ (x : V) (n : String) (a b : Int), vs = [x, .int a, .int b] ∧ Th H x n ∧ Q (.bl (inB x a b)) H
/-- the names that the text of checks does not bind -/
structure ChkT (mg : Str → Option Value) : Prop where
  isi : mg "isinstance" = none
  int : mg "int" = none
  bool : mg "bool" = none
  tuple : mg "tuple" = none
  list : mg "list" = none
  len : mg "len" = none
section
variable {P : Program} {w : World} {K : PySem.W.Frag} {mg : Str → Option Value} {base : Heap} {fI : Addr} {dI : FuncData}
theorem ok_is_any {f : Addr} {fd : FuncData} (F : Fun K "is_int" "is_int" s_is_int f fd) (T : ChkT mg) : FnOk P w K mg base CX0 1 f fd ["thing"] spIsAny := by
  refine F.ok sc_is_int (fun vs H Q E h => ?_) (fun cdv A outer s H vs Q E hr h => ?_)
  · obtain ⟨x, n, rfl, _⟩ := h
    rfl
  · obtain ⟨x, n, rfl, t, q⟩ := h
    refine ⟨_, pss_one (ps_ret (pe_and (pe_callB call_isi (by rfl) T.isi (by decide +kernel) (pa_cons (pv 0) (pa_cons (pe_bltn (v := .ty "int") (by rfl) T.int (by decide +kernel) rfl) pa_nil)))
      (pe_one (pe_not (pe_callB call_isi (by rfl) T.isi (by decide +kernel) (pa_cons (pv 0) (pa_cons (pe_bltn (v := .ty "bool") (by rfl) T.bool (by decide +kernel) rfl) pa_nil))))))), ?_⟩
    walk_at "rd"
    refine ⟨_, _, _, _, _, rfl, .ty "int", t.ty, t.kint, ?_⟩
    walk_at "rd"
    refine ite2 (fun h => ?_) (fun h => ?_)
    · walk_at "rd"
      refine ⟨_, _, _, _, _, rfl, .ty "bool", t.ty, t.kbool, ?_⟩
      walk_at "rd"
      have e : (!(n == "bool")) = isI n := by
        cases t <;> first | rfl | exact absurd h (by decide)
      rw [e]
      exact q
    · have e : isI n = false := by
        cases t <;> first | rfl | exact absurd (by decide) h
      rw [e] at q
      exact q
theorem ok_bet_any {f : Addr} {fd : FuncData} (F : Fun K "is_int_between" "is_int_between" s_is_int_between f fd) (I : Cal P w K mg base "is_int" 1 ["thing"] spIsAny fI dI) : FnOk P w K mg base CX0 2 f fd ["thing", "least", "most"] spBetAny := by
  refine F.ok sc_is_int_between (fun vs H Q E h => ?_) (fun cdv A outer s H vs Q E hr h => ?_)
  · obtain ⟨x, n, a, b, rfl, _⟩ := h
    rfl
  · obtain ⟨x, n, a, b, rfl, t, q⟩ := h
    refine ⟨_, pss_one (ps_ret (pe_and (pcl I hr (by decide) (by rfl) (pa_cons (pv 0) pa_nil)) (pe_one (pe_chain op_le op_le (pv 1) (pv 0) (pv 2))))), ?_⟩
    walk_at "rd"
    refine ⟨x, n, rfl, t, ?_⟩
    cases t with
    | int i =>
      walk_at "rd"
      refine ite2 (fun h => ?_) (fun h => ?_)
      · walk_at "rd"
        change Q (.bl (decide (a ≤ i) && decide (i ≤ b))) H at q
        rw [decide_eq_true (of_decide_eq_true h)] at q
        exact q
      · change Q (.bl (decide (a ≤ i) && decide (i ≤ b))) H at q
        rw [decide_eq_false (of_decide_eq_false (by simpa using h))] at q
        exact q
    | _ => exact ⟨_, rfl, q⟩
end
end HT
namespace HT
open PySem L2
def modesD : List PyData := [.str "down", .str "up", .str "half_down", .str "half_up", .str "half_even"]
/-- a mode's place is taken by something else -/
def NoMode (d : PyData) : Prop := SeqAt.shaped d = true ∧ (modesD.any fun z => PyData.eqv z d) = false
/-- the four classes by number, and their base class at B -/
structure Er (K : PySem.W.Frag) (mg : Str → Option Value) (C : Nat → Addr) (B : Addr) : Prop where
  isi : mg "isinstance" = none
  ve : mg "ValueError" = none
  gB : mg "HandedError" = some (.ref B)
  g0 : mg "InvalidSide" = some (.ref (C 0))
  g1 : mg "InvalidSides" = some (.ref (C 1))
  g2 : mg "TooMany" = some (.ref (C 2))
  g3 : mg "InvalidValue" = some (.ref (C 3))
  g4 : mg "InvalidNumber" = some (.ref (C 4))
  kit : ∀ i j, i < 5 → j < 5 → PySem.W.kitOne K (.ref (C i)) (.ref (C j)) = some (decide (i = j))
  kitV : ∀ i, i < 5 → PySem.W.kitOne K (.ref (C i)) (.type "ValueError") = some true
  ec : ∀ i, i < 5 → ErrC K (C i)
  eg : ErrG K
  ex : ∀ i, i < 5 → PySem.W.excIn K (C i) [.type "ValueError", .type "Exception", .type "BaseException", .type "object"] "ValueError.__new__" = true
  kp : ∀ i, i < 5 → PySem.W.keepIn K (.ref (C i)) = true
  sb : ∀ i, i < 5 → PySem.W.subIn K (.ref (C i)) (.type "BaseException") = some true
  ty : ∀ i, i < 5 → PySem.W.typeIn K (.ref (C i)) = some (.type "type")
  emB : ∀ i, i < 5 → PySem.W.exmOne K (.ref (C i)) (.ref B) = some true
  em0 : PySem.W.exmOne K (.ref (C 0)) (.ref (C 0)) = some true
/-- flat data, and a list of one text -/
inductive Fl (H : Hp) : V → PyData → Prop where
  | non : Fl H .non .none
  | bl (b : Bool) : Fl H (.bl b) (.bool b)
  | int (i : Int) : Fl H (.int i) (.int i)
  | str (s : Str) : Fl H (.str s) (.str s)
  | one {l : Addr} {s : Str} (h : H l = some (.lst [.str s])) : Fl H (.ref l) (.list [.str s])
  | l0 {l : Addr} (h : H l = some (.lst [])) : Fl H (.ref l) (.list [])
  | t0 {l : Addr} (h : H l = some (.tup [])) : Fl H (.ref l) (.tuple [])
  | t1 {l : Addr} {s : Str} (h : H l = some (.tup [.str s])) : Fl H (.ref l) (.tuple [.str s])
  | t3 {l : Addr} {o s : Int} {m : Str} (h : H l = some (sideV o s m)) : Fl H (.ref l) (.tuple [.int o, .int s, .str m])
theorem Fl.dp {K : PySem.W.Frag} {H : Hp} {c : V} {d : PyData} (f : Fl H c d) : Dp K H c d := by
  cases f with
  | non => exact .non
  | bl b => exact .bl b
  | int i => exact .int i
  | str s => exact .str s
  | one h => exact .lst (SqL.of h) (.cons (.str _) .nil)
  | l0 h => exact .lst (SqL.of h) .nil
  | t0 h => exact .tup (SqT.of h) .nil
  | t1 h => exact .tup (SqT.of h) (.cons (.str _) .nil)
  | t3 h => exact .tup (SqT.of h) (.cons (.int _) (.cons (.int _) (.cons (.str _) .nil)))
theorem Fl.same {H H' : Hp} {c : V} {d : PyData} (f : Fl H c d) (s : Same H H') : Fl H' c d := by
  cases f with
  | non => exact .non
  | bl b => exact .bl b
  | int i => exact .int i
  | str x => exact .str x
  | one h => exact .one (s _ _ h)
  | l0 h => exact .l0 (s _ _ h)
  | t0 h => exact .t0 (s _ _ h)
  | t1 h => exact .t1 (s _ _ h)
  | t3 h => exact .t3 (s _ _ h)
/-- no side -/
inductive BadS (K : PySem.W.Frag) (H : Hp) : V → Prop where
  | kind {x : V} {n : String} (t : Th H x n) (h : (n == "tuple") = false) : BadS K H x
  | len {p : Addr} {xs : List V} (hp : H p = some (.tup xs)) (h : ¬ xs.length = 3) : BadS K H (.ref p)
  | off {p : Addr} {a b c : V} {n : String} (hp : H p = some (.tup [a, b, c])) (t : Th H a n) (h : inB a (-10 ^ 40) (10 ^ 40) = false) : BadS K H (.ref p)
  | stp {p : Addr} {a b c : V} {n m : String} (hp : H p = some (.tup [a, b, c])) (t : Th H a n) (h : inB a (-10 ^ 40) (10 ^ 40) = true) (u : Th H b m) (g : inB b 1 (10 ^ 30) = false) : BadS K H (.ref p)
  | mod {p : Addr} {a b c : V} {n m : String} {d : PyData} (hp : H p = some (.tup [a, b, c])) (t : Th H a n) (h : inB a (-10 ^ 40) (10 ^ 40) = true) (u : Th H b m) (g : inB b 1 (10 ^ 30) = true) (dp : Fl H c d) (hd : NoMode d) : BadS K H (.ref p)
  | dct {p k : Addr} {a b : V} {n m : String} {kvs : List (Key × V)} (hp : H p = some (.tup [a, b, .ref k])) (t : Th H a n) (h : inB a (-10 ^ 40) (10 ^ 40) = true) (u : Th H b m) (g : inB b 1 (10 ^ 30) = true) (hk : H k = some (.dK kvs)) : BadS K H (.ref p)
theorem BadS.same {K : PySem.W.Frag} {H H' : Hp} {x : V} (b : BadS K H x) (e : Same H H') : BadS K H' x := by
  cases b with
  | kind t h => exact .kind (t.same e) h
  | len hp h => exact .len (e _ _ hp) h
  | off hp t h => exact .off (e _ _ hp) (t.same e) h
  | stp hp t h u g => exact .stp (e _ _ hp) (t.same e) h (u.same e) g
  | mod hp t h u g dp hd => exact .mod (e _ _ hp) (t.same e) h (u.same e) g (dp.same e) hd
  | dct hp t h u g hk => exact .dct (e _ _ hp) (t.same e) h (u.same e) g (e _ _ hk)
def GoodS (H : Hp) (x : V) : Prop := ∃ (p : Addr) (o s : Int) (m : Str), x = .ref p ∧ H p = some (sideV o s m) ∧ SideP o s m
def spValX (C : Nat → Addr) : Sp := fun vs H Q E => ∃ (x : V) (n : String), vs = [x] ∧ Th H x n ∧ (isI n = true → Q .non H) ∧ (isI n = false → E (.ref (C 3)) none H)
def spSideX (K : PySem.W.Frag) (C : Nat → Addr) : Sp := fun vs H Q E => ∃ x : V, vs = [x] ∧ ((GoodS H x ∧ Q .non H) ∨ (BadS K H x ∧ E (.ref (C 0)) none H))
def rNotInT (K : PySem.W.Frag) : R2 := fun x y H Q => ∃ d ds, Dp K H x d ∧ Dp K H y (.tuple ds) ∧ SeqAt.shaped d = true ∧ PyData.canLayAll0 ds = true ∧ PyData.depthAll ds ≤ 60 ∧ Q (.bl (!ds.any fun z => PyData.eqv z d)) H
theorem op_notInT {X : Cx} (hu : X.A.units + 64 < cLine) : OpR X (compareOp .NotIn) (rNotInT X.K) := by
  intro pins sh st H x y v u Q iv rx ry h
  obtain ⟨d, ds, hd, he, sd, se, sz, q⟩ := h
  obtain ⟨as, r1⟩ := Dp.reads iv d x v hd rx
  obtain ⟨bs, r2⟩ := Dp.reads iv (.tuple ds) y u he ry
  refine SeqAt.notIn_tuple_reads r2 r1 se (SeqAt.canLay_of_shaped sd) ?_ ⟨.bl _, H, iv, rfl, q⟩
  have : min (PyData.depthAll ds) d.depth ≤ PyData.depthAll ds := Nat.min_le_left _ _
  omega
def rNotInT2 (K : PySem.W.Frag) : R2 := fun x y H Q => rNotInT K x y H Q ∨ ∃ (k p : Addr) (kvs : List (Key × V)) (zs : List Str), x = .ref k ∧ y = .ref p ∧ H k = some (.dK kvs) ∧ SqT K H p (zs.map V.str) ∧ Q (.bl true) H
theorem op_notInT2 {X : Cx} (hu : X.A.units + 64 < cLine) : OpR X (compareOp .NotIn) (rNotInT2 X.K) := by
  intro pins sh st H x y v u Q iv rx ry h
  rcases h with h | ⟨k, p, kvs, zs, rfl, rfl, hk, hp, q⟩
  · exact op_notInT hu pins sh st H x y v u Q iv rx ry h
  · cases rx
    cases ry
    obtain ⟨_, _, vs, _, o, es, ep, ho, ex, hd, _⟩ := iv.hok k _ hk
    obtain ⟨its, rv, ht, _⟩ := iv.tuple hp
    have key : ∀ {zs : List Str} {its : List Value}, Vals (zs.map V.str) its → ∀ y ∈ its, ∃ z t, y = .str z t := fun {zs} => by
      induction zs with
      | nil => intro its r y hy; cases r; cases hy
      | cons z zs ih =>
        intro its r y hy
        cases r with
        | cons a b =>
          rcases List.mem_cons.mp hy with e | hy
          · obtain ⟨t, e2⟩ := a
            exact ⟨z, t, e.trans e2⟩
          · exact ih b y hy
    refine SeqAt.notIn_tupleAt (fun _ => false) ht (fun y hy => ?_) ⟨.bl _, H, iv, rfl, ?_⟩
    · obtain ⟨z, t, rfl⟩ := key rv y (by simpa using hy)
      exact SeqAt.EqAt.str_dict z t ho ex.1 hd (by show X.A.units + 1 < cLine; omega)
    · rw [show its.toArray.any (fun _ => false) = false by simp]
      exact q
/-- the table of modes -/
structure ModT (K : PySem.W.Frag) (mg : Str → Option Value) (aM : Addr) : Prop where
  gM : mg "MODES" = some (.ref aM)
  tM : ∀ H, SqT K H aM modesV
theorem dpModes {K : PySem.W.Frag} {H : Hp} {aM : Addr} (t : SqT K H aM modesV) : Dp K H (.ref aM) (.tuple modesD) := .tup t (.cons (.str _) (.cons (.str _) (.cons (.str _) (.cons (.str _) (.cons (.str _) .nil)))))
theorem mode_inX {m : Str} (h : Mode m) : SeqAt.shaped (.str m) = true ∧ (modesD.any fun z => PyData.eqv z (.str m)) = true := by
  rcases h with e | e | e | e | e <;> subst e <;> decide +kernel
section
variable {P : Program} {w : World} {K : PySem.W.Frag} {mg : Str → Option Value} {base : Heap} {aM fI fB fV fC fL fN fW B : Addr} {dI dB dV dC dL dN dW : FuncData} {C : Nat → Addr}
theorem ok_val_x {f : Addr} {fd : FuncData} (F : Fun K "check_value" "check_value" s_check_value f fd) (R : Er K mg C B) (I : Cal P w K mg base "is_int" 1 ["thing"] spIsAny fI dI) : FnOk P w K mg base (L2.CX P w) 2 f fd ["value"] (spValX C) := by
  refine F.okX sc_check_value (fun vs H Q E h => ?_) (fun cdv A outer s H vs Q E hr h => ?_)
  · obtain ⟨x, n, rfl, _⟩ := h
    rfl
  · obtain ⟨x, n, rfl, t, q1, q2⟩ := h
    refine ⟨_, pss_one (ps_if (pt_not (pt_val (pcl I hr (by decide) (by rfl) (pa_cons (pv 0) pa_nil)))) (pss_one (ps_raise rfl (takes_of rfl rfl rfl rfl) (pmk_own PySem.F.excBase_ValueError (R.ex 3 (by decide)) R.g3 (R.kp 3 (by decide)) (raises_own (R.sb 3 (by decide)) (R.ty 3 (by decide))) (by rfl)))) pss_nil), ?_⟩
    walk_at "rd"
    refine ⟨x, n, rfl, t, ?_⟩
    walk_at "rd"
    refine ite2 (fun h => ?_) (fun h => ?_)
    · exact q2 (by simpa using h)
    · exact q1 (not_f h)
end
end HT
namespace HT
open PySem L2
section
variable {P : Program} {w : World} {K : PySem.W.Frag} {mg : Str → Option Value} {base : Heap} {aM fI fB fV fC fL fN fW B : Addr} {dI dB dV dC dL dN dW : FuncData} {C : Nat → Addr}
theorem ok_side_x {f : Addr} {fd : FuncData} (F : Fun K "check_side" "check_side" s_check_side f fd) (T : ChkT mg) (M : ModT K mg aM) (R : Er K mg C B) (Bt : Cal P w K mg base "is_int_between" 2 ["thing", "least", "most"] spBetAny fB dB) : FnOk P w K mg base (L2.CX P w) 3 f fd ["side"] (spSideX K C) := by
  refine F.okAny sc_check_side (fun vs H Q E h => ?_) (fun cdv A outer s0 H vs Q E hr h => ?_)
  · obtain ⟨x, rfl, _⟩ := h
    rfl
  · obtain ⟨x, rfl, h⟩ := h
    have nd := sc_check_side.nd
    refine ⟨_, pss_cons (ps_if (PW.pt (pw_or (pt_not (pt_val (pe_callB call_isi (by rfl) T.isi (by decide +kernel) (pa_cons (pv 0) (pa_cons (pe_bltn (v := .ty "tuple") (by rfl) T.tuple (by decide +kernel) rfl) pa_nil)))))
        (pw_or1 (pt_cmpR op_ne (pe_callB call_len_seq (by rfl) T.len PySem.boot_len (pa_cons (pv 0) pa_nil)) pe_int (nomark _))))) (pss_one (ps_raise rfl (takes_of rfl rfl rfl rfl) (pmk_own PySem.F.excBase_ValueError (R.ex 0 (by decide)) R.g0 (R.kp 0 (by decide)) (raises_own (R.sb 0 (by decide)) (R.ty 0 (by decide))) (by rfl)))) pss_nil)
      (pss_cons (ps_asg (pv 0) (pg_tup (by rfl) (pgs_cons (pg_name (i := 1) nd rfl (Or.inl rfl)) (pgs_cons (pg_name (i := 2) nd rfl (Or.inl rfl)) (pgs_cons (pg_name (i := 3) nd rfl (Or.inl rfl)) pgs_nil)))))
      (pss_cons (ps_if (pt_not (pt_val (pcl Bt hr (by decide) (by rfl) (pa_cons (pv 1) (pa_cons (pe_un un_neg (pe_op op_pow pe_int pe_int)) (pa_cons (pe_op op_pow pe_int pe_int) pa_nil)))))) (pss_one (ps_raise rfl (takes_of rfl rfl rfl rfl) (pmk_own PySem.F.excBase_ValueError (R.ex 0 (by decide)) R.g0 (R.kp 0 (by decide)) (raises_own (R.sb 0 (by decide)) (R.ty 0 (by decide))) (by rfl)))) pss_nil)
      (pss_cons (ps_if (pt_not (pt_val (pcl Bt hr (by decide) (by rfl) (pa_cons (pv 2) (pa_cons pe_int (pa_cons (pe_op op_pow pe_int pe_int) pa_nil)))))) (pss_one (ps_raise rfl (takes_of rfl rfl rfl rfl) (pmk_own PySem.F.excBase_ValueError (R.ex 0 (by decide)) R.g0 (R.kp 0 (by decide)) (raises_own (R.sb 0 (by decide)) (R.ty 0 (by decide))) (by rfl)))) pss_nil)
      (pss_one (ps_if (pt_cmpR (op_notInT2 hr.units) (pv 3) (pe_glob (v := .ref aM) (by rfl) M.gM rfl) (by rfl)) (pss_one (ps_raise rfl (takes_of rfl rfl rfl rfl) (pmk_own PySem.F.excBase_ValueError (R.ex 0 (by decide)) R.g0 (R.kp 0 (by decide)) (raises_own (R.sb 0 (by decide)) (R.ty 0 (by decide))) (by rfl)))) pss_nil))))), ?_⟩
    walk_at "rd"
    rcases h with ⟨⟨p, o, s, m, rfl, hp, S⟩, q⟩ | ⟨bad, q⟩
    · refine ⟨_, _, _, _, _, rfl, .ty "tuple", .base (.tup hp), kit_ty (r := true) (by decide +kernel), ?_⟩
      walk_at "rd"
      refine ⟨p, _, rfl, .inr (SqT.of hp), rfl, ?_⟩
      walk_at "rd"
      refine ⟨p, _, rfl, SqT.of hp, rfl, _, _, rfl, _, _, rfl, _, _, rfl, rfl, ?_⟩
      walk_at "rd"
      refine ⟨⟨by decide, by decide, by decide⟩, ?_⟩
      walk_at "rd"
      refine ⟨⟨by decide, by decide, by decide⟩, _, _, _, _, rfl, .int o, ?_⟩
      have e1 : inB (.int o) (-(10 : Int) ^ (40 : Int).toNat) ((10 : Int) ^ (40 : Int).toNat) = true := by
        show (decide (-(10 : Int) ^ (40 : Int).toNat ≤ o) && decide (o ≤ (10 : Int) ^ (40 : Int).toNat)) = true
        rw [decide_eq_true (show -(10 : Int) ^ (40 : Int).toNat ≤ o from S.o0), decide_eq_true (show o ≤ (10 : Int) ^ (40 : Int).toNat from S.o1)]
        rfl
      refine ⟨_, rfl, ?_⟩
      refine ite2 (fun h => (not_t h e1).elim) (fun _ => ?_)
      walk_at "rd"
      refine ⟨⟨by decide, by decide, by decide⟩, _, _, _, _, rfl, .int s, ?_⟩
      have e2 : inB (.int s) 1 ((10 : Int) ^ (30 : Int).toNat) = true := by
        show (decide ((1 : Int) ≤ s) && decide (s ≤ (10 : Int) ^ (30 : Int).toNat)) = true
        rw [decide_eq_true S.s0, decide_eq_true (show s ≤ (10 : Int) ^ (30 : Int).toNat from S.s1)]
        rfl
      refine ⟨_, rfl, ?_⟩
      refine ite2 (fun h => (not_t h e2).elim) (fun _ => ?_)
      walk_at "rd"
      refine .inl ⟨_, _, .str m, dpModes (M.tM H), (mode_inX S.md).1, by decide +kernel, by decide +kernel, ?_⟩
      walk_at "rd"
      refine ite2 (fun h => (not_t h (mode_inX S.md).2).elim) (fun _ => ?_)
      exact q
    · cases bad with
      | kind t h =>
        refine ⟨_, _, _, _, _, rfl, .ty "tuple", t.ty, t.ktup, ?_⟩
        walk_at "rd"
        refine ite2 (fun _ => ?_) (fun z => absurd (by rw [h]; rfl) z)
        exact q
      | len hp h =>
        refine ⟨_, _, _, _, _, rfl, .ty "tuple", .base (.tup hp), kit_ty (r := true) (by decide +kernel), ?_⟩
        walk_at "rd"
        refine ⟨_, _, rfl, .inr (SqT.of hp), ?_⟩
        walk_at "rd"
        refine ⟨rfl, ?_⟩
        walk_at "rd"
        refine ite2 (fun _ => q) (fun z => absurd ?_ z)
        rw [dec_int, decide_eq_false (fun y => h (by omega))]
        rfl
      | off hp t h =>
        refine ⟨_, _, _, _, _, rfl, .ty "tuple", .base (.tup hp), kit_ty (r := true) (by decide +kernel), ?_⟩
        walk_at "rd"
        refine ⟨_, _, rfl, .inr (SqT.of hp), rfl, ?_⟩
        walk_at "rd"
        refine ⟨_, _, rfl, SqT.of hp, rfl, _, _, rfl, _, _, rfl, _, _, rfl, rfl, ?_⟩
        walk_at "rd"
        refine ⟨⟨by decide, by decide, by decide⟩, ?_⟩
        walk_at "rd"
        refine ⟨⟨by decide, by decide, by decide⟩, _, _, _, _, rfl, t, ?_⟩
        refine ⟨_, rfl, ?_⟩
        exact ite2 (fun _ => q) (fun z => absurd (by rw [show inB _ (-(10 : Int) ^ (40 : Int).toNat) ((10 : Int) ^ (40 : Int).toNat) = false from h]; rfl) z)
      | stp hp t h u g =>
        refine ⟨_, _, _, _, _, rfl, .ty "tuple", .base (.tup hp), kit_ty (r := true) (by decide +kernel), ?_⟩
        walk_at "rd"
        refine ⟨_, _, rfl, .inr (SqT.of hp), rfl, ?_⟩
        walk_at "rd"
        refine ⟨_, _, rfl, SqT.of hp, rfl, _, _, rfl, _, _, rfl, _, _, rfl, rfl, ?_⟩
        walk_at "rd"
        refine ⟨⟨by decide, by decide, by decide⟩, ?_⟩
        walk_at "rd"
        refine ⟨⟨by decide, by decide, by decide⟩, _, _, _, _, rfl, t, ?_⟩
        refine ⟨_, rfl, ?_⟩
        refine ite2 (fun z => (not_t z (show inB _ (-(10 : Int) ^ (40 : Int).toNat) ((10 : Int) ^ (40 : Int).toNat) = true from h)).elim) (fun _ => ?_)
        walk_at "rd"
        refine ⟨⟨by decide, by decide, by decide⟩, _, _, _, _, rfl, u, ?_⟩
        refine ⟨_, rfl, ?_⟩
        exact ite2 (fun _ => q) (fun z => absurd (by rw [show inB _ 1 ((10 : Int) ^ (30 : Int).toNat) = false from g]; rfl) z)
      | mod hp t h u g dp hd =>
        refine ⟨_, _, _, _, _, rfl, .ty "tuple", .base (.tup hp), kit_ty (r := true) (by decide +kernel), ?_⟩
        walk_at "rd"
        refine ⟨_, _, rfl, .inr (SqT.of hp), rfl, ?_⟩
        walk_at "rd"
        refine ⟨_, _, rfl, SqT.of hp, rfl, _, _, rfl, _, _, rfl, _, _, rfl, rfl, ?_⟩
        walk_at "rd"
        refine ⟨⟨by decide, by decide, by decide⟩, ?_⟩
        walk_at "rd"
        refine ⟨⟨by decide, by decide, by decide⟩, _, _, _, _, rfl, t, ?_⟩
        refine ⟨_, rfl, ?_⟩
        refine ite2 (fun z => (not_t z (show inB _ (-(10 : Int) ^ (40 : Int).toNat) ((10 : Int) ^ (40 : Int).toNat) = true from h)).elim) (fun _ => ?_)
        walk_at "rd"
        refine ⟨⟨by decide, by decide, by decide⟩, _, _, _, _, rfl, u, ?_⟩
        refine ⟨_, rfl, ?_⟩
        refine ite2 (fun z => (not_t z (show inB _ 1 ((10 : Int) ^ (30 : Int).toNat) = true from g)).elim) (fun _ => ?_)
        walk_at "rd"
        refine .inl ⟨_, _, dp.dp, dpModes (M.tM H), hd.1, by decide +kernel, by decide +kernel, ?_⟩
        walk_at "rd"
        refine ite2 (fun _ => q) (fun z => absurd (by rw [hd.2]; rfl) z)
      | dct hp t h u g hk =>
        refine ⟨_, _, _, _, _, rfl, .ty "tuple", .base (.tup hp), kit_ty (r := true) (by decide +kernel), ?_⟩
        walk_at "rd"
        refine ⟨_, _, rfl, .inr (SqT.of hp), rfl, ?_⟩
        walk_at "rd"
        refine ⟨_, _, rfl, SqT.of hp, rfl, _, _, rfl, _, _, rfl, _, _, rfl, rfl, ?_⟩
        walk_at "rd"
        refine ⟨⟨by decide, by decide, by decide⟩, ?_⟩
        walk_at "rd"
        refine ⟨⟨by decide, by decide, by decide⟩, _, _, _, _, rfl, t, ?_⟩
        refine ⟨_, rfl, ?_⟩
        refine ite2 (fun z => (not_t z (show inB _ (-(10 : Int) ^ (40 : Int).toNat) ((10 : Int) ^ (40 : Int).toNat) = true from h)).elim) (fun _ => ?_)
        walk_at "rd"
        refine ⟨⟨by decide, by decide, by decide⟩, _, _, _, _, rfl, u, ?_⟩
        refine ⟨_, rfl, ?_⟩
        refine ite2 (fun z => (not_t z (show inB _ 1 ((10 : Int) ^ (30 : Int).toNat) = true from g)).elim) (fun _ => ?_)
        walk_at "rd"
        refine .inr ⟨_, _, _, ["down", "up", "half_down", "half_up", "half_even"], rfl, rfl, hk, M.tM H, ?_⟩
        walk_at "rd"
        exact q
end
end HT
namespace HT
open PySem L2
def GoodL (H : Hp) (l : Addr) (xs : List V) : Prop := H l = some (.lst xs) ∧ 1 ≤ xs.length ∧ xs.length ≤ 4 ∧ ∀ y ∈ xs, GoodS H y
/-- no list of sides -/
inductive BadL (K : PySem.W.Frag) (H : Hp) : V → Prop where
  | kind {x : V} {n : String} (t : Th H x n) (h : (n == "list") = false) : BadL K H x
  | len {l : Addr} {xs : List V} (hl : H l = some (.lst xs)) (h : ¬ (1 ≤ xs.length ∧ xs.length ≤ 4)) : BadL K H (.ref l)
  | item {l : Addr} {xs : List V} {i : Nat} {y : V} (hl : H l = some (.lst xs)) (h1 : 1 ≤ xs.length) (h2 : xs.length ≤ 4) (hi : xs[i]? = some y) (bad : BadS K H y) (good : ∀ j z, j < i → xs[j]? = some z → GoodS H z) : BadL K H (.ref l)
def spIsSideX (K : PySem.W.Frag) : Sp := fun vs H Q _ => ∃ x : V, vs = [x] ∧ ((GoodS H x ∧ Q (.bl true) H) ∨ (BadS K H x ∧ Q (.bl false) H))
def spSidesX (K : PySem.W.Frag) (C : Nat → Addr) : Sp := fun vs H Q E => ∃ x : V, vs = [x] ∧ ((∃ l xs, x = .ref l ∧ GoodL H l xs ∧ Q .non H) ∨ (BadL K H x ∧ E (.ref (C 1)) none H))
/-- the numbers of among's top -/
structure AmT (mg : Str → Option Value) : Prop where
  ms : ∃ t, mg "MOST_SIDES" = some (.int 4 t)
section
variable {P : Program} {w : World} {K : PySem.W.Frag} {mg : Str → Option Value} {base : Heap} {aM fI fB fV fC fL fN fW B : Addr} {dI dB dV dC dL dN dW : FuncData} {C : Nat → Addr}
theorem ok_is_side_x {f : Addr} {fd : FuncData} (F : Fun K "is_side" "is_side" s_is_side f fd) (R : Er K mg C B) (Ck : CalX P w K mg base "check_side" 3 ["side"] (spSideX K C) fC dC) : FnOk P w K mg base CX0 4 f fd ["thing"] (spIsSideX K) := by
  refine F.ok sc_is_side (fun vs H Q E h => ?_) (fun cdv A outer s0 H vs Q E hr h => ?_)
  · obtain ⟨x, rfl, _⟩ := h
    rfl
  · obtain ⟨x, rfl, h⟩ := h
    refine ⟨_, pss_cons (ps_try_only rfl rfl ⟨rfl, by decide, .inl R.g0⟩ takes0 (fun W pn xe tk _ => pss_one (ps_expr (pcx Ck hr (by decide) (by rfl) tk (pa_cons (pv 0) pa_nil)))) (fun a oe cls d pn _ _ => pss_one (ps_ret pe_bl))) (pss_one (ps_ret pe_bl)), ?_⟩
    walk_at "rd"
    rcases h with ⟨good, q⟩ | ⟨bad, q⟩
    · refine .inl ⟨good, ?_⟩
      walk_at "rd"
      exact q
    · refine .inr ⟨bad, ?_⟩
      exact ⟨true, R.em0, fun _ a ha => q, fun z => Bool.noConfusion z⟩
theorem ok_sides_x {f : Addr} {fd : FuncData} (F : Fun K "check_sides" "check_sides" s_check_sides f fd) (T : ChkT mg) (A' : AmT mg) (R : Er K mg C B) (Ck : Cal P w K mg base "is_side" 4 ["thing"] (spIsSideX K) fC dC) : FnOk P w K mg base (L2.CX P w) 5 f fd ["sides"] (spSidesX K C) := by
  refine F.okAny sc_check_sides (fun vs H Q E h => ?_) (fun cdv A outer s0 H vs Q E hr h => ?_)
  · obtain ⟨x, rfl, _⟩ := h
    rfl
  · obtain ⟨x, rfl, h⟩ := h
    have nd := sc_check_sides.nd
    obtain ⟨tms, hms⟩ := A'.ms
    refine ⟨_, pss_cons (ps_if (PW.pt (pw_or (pt_not (pt_val (pe_callB call_isi (by rfl) T.isi (by decide +kernel) (pa_cons (pv 0) (pa_cons (pe_bltn (v := .ty "list") (by rfl) T.list (by decide +kernel) rfl) pa_nil)))))
        (pw_or1 (pt_not (pt_chain op_le op_le pe_int (pe_callB call_len_seq (by rfl) T.len PySem.boot_len (pa_cons (pv 0) pa_nil)) (pe_glob (v := .int 4) (by rfl) hms ⟨_, rfl⟩)))))) (pss_one (ps_raise rfl (takes_of rfl rfl rfl rfl) (pmk_own PySem.F.excBase_ValueError (R.ex 1 (by decide)) R.g1 (R.kp 1 (by decide)) (raises_own (R.sb 1 (by decide)) (R.ty 1 (by decide))) (by rfl)))) pss_nil)
      (pss_one (ps_for (passes_of rfl) rfl (pi_list (pv 0)) (pg_name (i := 1) nd rfl (Or.inl rfl))
        (pss_one (ps_if (pt_not (pt_val (pcl Ck hr (by decide) (by rfl) (pa_cons (pv 1) pa_nil)))) (pss_one (ps_raise rfl (takes_of rfl rfl rfl rfl) (pmk_own PySem.F.excBase_ValueError (R.ex 1 (by decide)) R.g1 (R.kp 1 (by decide)) (raises_own (R.sb 1 (by decide)) (R.ty 1 (by decide))) (by rfl)))) pss_nil)))), ?_⟩
    walk_at "rd"
    rcases h with ⟨l, xs, rfl, ⟨hl, l1, l4, good⟩, q⟩ | ⟨bad, q⟩
    · refine ⟨_, _, _, _, _, rfl, .ty "list", .base (.lst hl), kit_ty (r := true) (by decide +kernel), ?_⟩
      walk_at "rd"
      refine ⟨l, _, rfl, .inl (SqL.of hl), ?_⟩
      walk_at "rd"
      refine ite2 (fun _ => ?_) (fun z => absurd (decide_eq_true (by omega)) z)
      walk_at "rd"
      refine ite2 (fun z => ?_) (fun _ => ?_)
      · exfalso
        have e : decide ((xs.length : Int) ≤ 4) = true := decide_eq_true (by omega)
        exact not_t z e
      walk_at "rd"
      refine ⟨⟨_, SqL.of hl⟩, ?_⟩
      refine for_list (K := K) (a := l) (xs := xs) (fun i σ H' => ∃ y : Option V, σ = [some (.ref l), y] ∧ H' = H) ⟨none, rfl, rfl⟩ (fun _ _ _ _ ⟨_, _, e⟩ => e ▸ SqL.of hl) ?_ ?_
      · rintro i y σ H' hy ⟨z, rfl, rfl⟩
        walk_at "rd"
        refine .inl ⟨good y (List.mem_of_getElem? hy), _, rfl, ?_⟩
        refine ite2 (fun z => (not_t z rfl).elim) (fun _ => ?_)
        exact ⟨_, rfl, rfl⟩
      · rintro σ H' ⟨z, rfl, rfl⟩
        exact q
    · cases bad with
      | kind t h =>
        refine ⟨_, _, _, _, _, rfl, .ty "list", t.ty, t.klst, ?_⟩
        walk_at "rd"
        refine ite2 (fun _ => ?_) (fun z => absurd (by rw [h]; rfl) z)
        exact q
      | @len l xs hl h =>
        refine ⟨_, _, _, _, _, rfl, .ty "list", .base (.lst hl), kit_ty (r := true) (by decide +kernel), ?_⟩
        walk_at "rd"
        refine ⟨l, _, rfl, .inl (SqL.of hl), ?_⟩
        walk_at "rd"
        refine ite2 (fun z1 => ?_) (fun z1 => ?_)
        · have z1' := of_decide_eq_true z1
          walk_at "rd"
          refine ite2 (fun _ => q) (fun z => absurd ?_ z)
          have e : decide ((xs.length : Int) ≤ 4) = false := decide_eq_false (by omega)
          rw [e]
          rfl
        · walk_at "rd"
          exact q
      | @item l xs i0 y0 hl l1 l4 hi bad good =>
        refine ⟨_, _, _, _, _, rfl, .ty "list", .base (.lst hl), kit_ty (r := true) (by decide +kernel), ?_⟩
        walk_at "rd"
        refine ⟨l, _, rfl, .inl (SqL.of hl), ?_⟩
        walk_at "rd"
        refine ite2 (fun _ => ?_) (fun z => absurd (decide_eq_true (by omega)) z)
        walk_at "rd"
        refine ite2 (fun z => ?_) (fun _ => ?_)
        · exfalso
          have e : decide ((xs.length : Int) ≤ 4) = true := decide_eq_true (by omega)
          exact not_t z e
        walk_at "rd"
        refine ⟨⟨_, SqL.of hl⟩, ?_⟩
        have i0l : i0 < xs.length := (List.getElem?_eq_some_iff.mp hi).1
        refine for_list (K := K) (a := l) (xs := xs) (fun i σ H' => ∃ y : Option V, σ = [some (.ref l), y] ∧ H' = H ∧ i ≤ i0) ⟨none, rfl, rfl, Nat.zero_le _⟩ (fun _ _ _ _ ⟨_, _, e, _⟩ => e ▸ SqL.of hl) ?_ ?_
        · rintro i y σ H' hy ⟨z, rfl, rfl, le⟩
          walk_at "rd"
          rcases Nat.lt_or_eq_of_le le with lt | eq
          · refine .inl ⟨good i y lt hy, _, rfl, ?_⟩
            refine ite2 (fun z => (not_t z rfl).elim) (fun _ => ?_)
            exact ⟨_, rfl, rfl, lt⟩
          · subst eq
            have ey : y = y0 := by rw [hi] at hy; exact (Option.some.inj hy).symm
            subst ey
            refine .inr ⟨bad, _, rfl, ?_⟩
            refine ite2 (fun _ => ?_) (fun z => absurd rfl z)
            exact q
        · rintro σ H' ⟨z, rfl, rfl, le⟩
          omega
end
end HT
namespace HT
open PySem L2
def sdD (d : Sd) : PyData := .tuple [.int d.o, .int d.s, .str d.m]
theorem modes_ok {m : Str} (h : Mode m) : PyData.strOk m = true := by
  rcases h with e | e | e | e | e <;> subst e <;> decide +kernel
theorem can_sides : ∀ {ss : List Sd}, (∀ d ∈ ss, Mode d.m) → PyData.canLayAll0 (ss.map sdD) = true ∧ PyData.depthAll (ss.map sdD) ≤ 2
  | [], _ => ⟨rfl, Nat.zero_le _⟩
  | u :: us, h => by
    obtain ⟨a, b⟩ := can_sides fun d hd => h d (List.mem_cons_of_mem _ hd)
    have c := modes_ok (h u List.mem_cons_self)
    refine ⟨?_, ?_⟩
    · simp [PyData.canLayAll0, sdD, PyData.canLay0, c, a]
    · show max (PyData.depth (sdD u)) (PyData.depthAll (us.map sdD)) ≤ 2
      refine Nat.max_le.mpr ⟨?_, b⟩
      show PyData.depth (.tuple [.int _, .int _, .str _]) ≤ 2
      simp [PyData.depth, PyData.depthAll]
theorem shaped_sides {ss : List Sd} (h : ∀ d ∈ ss, Mode d.m) : SeqAt.shaped (.list (ss.map sdD)) = true := by
  obtain ⟨a, b⟩ := can_sides h
  unfold SeqAt.shaped
  rw [Bool.and_eq_true]
  refine ⟨a, decide_eq_true ?_⟩
  show PyData.depthAll (ss.map sdD) + 1 ≤ 64
  omega
theorem sidesDp {K : PySem.W.Frag} {H : Hp} : ∀ {xs : List V} {ss : List Sd}, xs.length = ss.length → (∀ (i : Nat) (d : Sd), ss[i]? = some d → ∃ p : Addr, xs[i]? = some (V.ref p) ∧ H p = some (sideV d.o d.s d.m) ∧ SideP d.o d.s d.m) → DpAll K H xs (ss.map sdD)
  | [], [], _, _ => .nil
  | [], _ :: _, l, _ => nomatch l
  | _ :: _, [], l, _ => nomatch l
  | x :: xs, d :: ss, l, S => by
    obtain ⟨p, e, hp, _⟩ := S 0 d rfl
    cases e
    exact .cons (.tup (SqT.of hp) (.cons (.int _) (.cons (.int _) (.cons (.str _) .nil)))) (sidesDp (Nat.succ.inj l) fun i e h => S (i + 1) e h)
theorem SidesAt.dp {K : PySem.W.Frag} {H : Hp} {l : Addr} {xs : List V} {ss : List Sd} (S : SidesAt H l xs ss) : Dp K H (.ref l) (.list (ss.map sdD)) := .lst (SqL.of S.hl) (sidesDp S.len S.at_)
end HT
namespace HT
open PySem L2
structure LimG (mg : Str → Option Value) : Prop where
  dm : mg "divmod" = none
  mn : ∃ t, mg "MOST_NUMBER" = some (.int (10 ^ 40) t)
  mr : ∃ t, mg "MOST_ROWS" = some (.int 10000 t)
def spCont : Sp := fun vs H Q _ => ∃ (l : Addr) (ys : List Int) (fo : Int) (n : Nat), vs = [.ref l, .int fo, .int (n : Int)] ∧ H l = some (.lst (ys.map V.int)) ∧ 0 < ys.length ∧ n ≤ 10 ^ 41 ∧ ys.length ≤ 100000 ∧ (-2 ^ 800 < fo ∧ fo < 2 ^ 800) ∧ (-2 ^ 800 < ys.getD 0 0 ∧ ys.getD 0 0 < 2 ^ 800) ∧
  ∀ H', Same H H' → Q (.int (ys.getD (n % ys.length) 0 + ((n / ys.length : Nat) : Int) * (fo - ys.getD 0 0))) H'
section
variable {P : Program} {w : World} {K : PySem.W.Frag} {mg : Str → Option Value} {base : Heap} {fB fH fI fJ fL fM : Addr} {dB dH dI dJ dL dM : FuncData}
theorem ok_cont {f : Addr} {fd : FuncData} (F : Fun K "_continued" "_continued" s_continued f fd) (A' : AmG mg) (G : LimG mg) : FnOk P w K mg base CX0 1 f fd ["values", "following", "many"] spCont := by
  refine F.ok sc_continued (fun vs H Q E h => ?_) (fun cdv A outer s0 H vs Q E hr h => ?_)
  · obtain ⟨l, ys, fo, n, rfl, _⟩ := h
    rfl
  · obtain ⟨l, ys, fo, n, rfl, hl, y0, n1, y1, fb, vb, q⟩ := h
    have nd := sc_continued.nd
    refine ⟨_, pss_cons (ps_asg (pe_callB call_divmod (by rfl) G.dm (by decide +kernel) (pa_cons (pv 2) (pa_cons (pe_callB call_len_seq (by rfl) A'.len PySem.boot_len (pa_cons (pv 0) pa_nil)) pa_nil))) (pg_tup (by rfl) (pgs_cons (pg_name (i := 3) nd rfl (Or.inl rfl)) (pgs_cons (pg_name (i := 4) nd rfl (Or.inl rfl)) pgs_nil))))
      (pss_one (ps_ret (pe_op op_add (pe_ix ix_list (pv 0) (pv 4) (fun _ _ => rfl)) (pe_op op_mulW (pv 3) (pe_op op_sub (pv 1) (pe_ix ix_list (pv 0) pe_int (fun _ _ => rfl))))))), ?_⟩
    walk_at "rd"
    refine ⟨l, _, rfl, .inl (SqL.of hl), ?_⟩
    rw [List.length_map]
    refine ⟨_, _, rfl, ⟨by omega, by omega⟩, fun T nT => ?_⟩
    rw [← Int.natCast_ediv, ← Int.natCast_emod]
    generalize e_T : upd H T _ = H1
    have hT : H1 T = some (.tup [.int ((n / ys.length : Nat) : Int), .int ((n % ys.length : Nat) : Int)]) := by rw [← e_T]; exact upd_same
    have s1 : Same H H1 := by rw [← e_T]; exact fun b u z => (upd_ne (ne_of_none z nT)).trans z
    clear e_T
    have ml := Nat.mod_lt n y0
    have dl := Nat.div_le_self n ys.length
    generalize n / ys.length = k at q hT dl
    generalize n % ys.length = r at q hT ml
    walk_at "rd"
    refine ⟨T, _, rfl, SqT.of hT, rfl, _, _, rfl, _, _, rfl, rfl, ?_⟩
    walk_at "rd"
    refine ⟨l, _, _, _, rfl, rfl, SqL.of (s1 _ _ hl), atI_in (by omega) (by omega), ?_⟩
    walk_at "rd"
    refine ⟨l, _, _, _, rfl, rfl, SqL.of (s1 _ _ hl), atI_in (by decide) (by omega), ?_⟩
    walk_at "rd"
    refine ⟨mulW (by omega) (by show _ < fo - ys.getD 0 0 ∧ fo - ys.getD 0 0 < _; omega), ?_⟩
    walk_at "rd"
    exact q _ s1
end
end HT
namespace HT
open PySem L2
theorem lt1 {n c : Nat} (h : n + 64 < c) : n + 1 < c := by omega
/-- the first values of a walk -/
def valsI (ss : List Sd) (v : Int) (i : Nat) : List Int := (List.range (i + 1)).map fun k => it (hiL ss) k v
theorem valsI_len (ss : List Sd) (v : Int) (i : Nat) : (valsI ss v i).length = i + 1 := by unfold valsI; rw [List.length_map, List.length_range]
theorem valsI_succ (ss : List Sd) (v : Int) (i : Nat) : valsI ss v (i + 1) = valsI ss v i ++ [it (hiL ss) (i + 1) v] := by
  unfold valsI
  rw [List.range_succ (n := i + 1), List.map_append]
  rfl
theorem valsI_get {ss : List Sd} {v : Int} {i j r : Nat} (h : j + r ≤ i) : ((valsI ss v i).drop j).getD r 0 = it (hiL ss) (j + r) v := by
  unfold valsI
  rw [List.getD_eq_getElem?_getD, List.getElem?_drop, List.getElem?_map, List.getElem?_range (by omega)]
  rfl
theorem cutV_drop (xs : List V) {j : Nat} (h : j ≤ xs.length) : cutV xs (some (j : Int)) none = xs.drop j := by
  unfold cutV
  rw [HT.sIx_nat, HT.sIx_none, Nat.min_eq_left h]
  exact List.take_of_length_le (by rw [List.length_drop]; exact Nat.le_refl _)
/-- a remainder comes again within 10,000 hand-overs -/
def Rec (ss : List Sd) (v : Int) : Prop := ∃ i j : Nat, i < j ∧ j ≤ 10000 ∧ it (hiL ss) i v % ((comN ss : Nat) : Int) = it (hiL ss) j v % ((comN ss : Nat) : Int)
/-- the numbers at which remainders came first; none has come again -/
def NumsP (ss : List Sd) (v : Int) (i : Nat) (kvs : List (Key × V)) : Prop := kvs.length ≤ i + 1 ∧ (∀ (p : Int) (y : V), valV kvs (.inl p) = some y → ∃ j : Nat, y = .int (j : Int) ∧ j ≤ i ∧ it (hiL ss) j v % ((comN ss : Nat) : Int) = p) ∧
  (∀ j : Nat, j ≤ i → (valV kvs (.inl (it (hiL ss) j v % ((comN ss : Nat) : Int)))).isSome = true) ∧ ∀ a b : Nat, a < b → b ≤ i → it (hiL ss) a v % ((comN ss : Nat) : Int) ≠ it (hiL ss) b v % ((comN ss : Nat) : Int)
theorem numsP_put {ss : List Sd} {v : Int} {i : Nat} {kvs : List (Key × V)} (N : NumsP ss v i kvs) (new : ¬ (valV kvs (.inl (it (hiL ss) (i + 1) v % ((comN ss : Nat) : Int)))).isSome = true) : NumsP ss v (i + 1) (putK kvs (.inl (it (hiL ss) (i + 1) v % ((comN ss : Nat) : Int))) (.int ((i + 1 : Nat) : Int))) := by
  refine ⟨Nat.le_trans (length_putK _ _ _) (by have := N.1; omega), fun p y h => ?_, fun j hj => ?_, fun a b ab hb => ?_⟩
  · rw [valV_put] at h
    split at h
    · rename_i e
      cases h
      refine ⟨i + 1, rfl, Nat.le_refl _, ?_⟩
      injection e with e
      exact e.symm
    · obtain ⟨j, a, b, c⟩ := N.2.1 p y h
      exact ⟨j, a, by omega, c⟩
  · rw [valV_put]
    split
    · rfl
    · rename_i ne
      by_cases e : j = i + 1
      · subst e
        exact absurd rfl ne
      · exact N.2.2.1 j (by omega)
  · by_cases e : b = i + 1
    · subst e
      intro z
      exact new (z ▸ N.2.2.1 a (by omega))
    · exact N.2.2.2 a b ab (by omega)
/-- what the walk tells where a remainder has come again -/
theorem walk_end {ss : List Sd} (hs : ∀ d ∈ ss, SideP d.o d.s d.m) {v : Int} {i j n : Nat} (ji : j ≤ i) (ni : i < n) (e : it (hiL ss) j v % ((comN ss : Nat) : Int) = it (hiL ss) (i + 1) v % ((comN ss : Nat) : Int)) :
    ((valsI ss v i).drop j).getD ((n - j) % (i + 1 - j)) 0 + (((n - j) / (i + 1 - j) : Nat) : Int) * (it (hiL ss) (i + 1) v - ((valsI ss v i).drop j).getD 0 0) = it (hiL ss) n v := by
  have ml := Nat.mod_lt (n - j) (show 0 < i + 1 - j by omega)
  have dm := Nat.mod_add_div (n - j) (i + 1 - j)
  rw [valsI_get (by omega), valsI_get (by omega)]
  have hc : ((comN ss : Nat) : Int) ∣ it (hiL ss) (i + 1) v - it (hiL ss) j v := Int.dvd_of_emod_eq_zero (Int.emod_eq_emod_iff_emod_sub_eq_zero.mp e.symm)
  have g := it_again hs (v := v) (j := j) (p := i + 1 - j) hc (by rw [show j + (i + 1 - j) = i + 1 by omega]; omega) ((n - j) % (i + 1 - j)) ((n - j) / (i + 1 - j))
  rw [show j + (n - j) % (i + 1 - j) + (i + 1 - j) * ((n - j) / (i + 1 - j)) = n by omega] at g
  rw [g]
  rfl
def spHWX (C : Nat → Addr) : Sp := fun vs H Q E => ∃ (l : Addr) (xs : List V) (ss : List Sd) (v : Int) (n : Nat), vs = [.ref l, .int v, .int (n : Int)] ∧ SidL H l xs ss ∧ (-2 ^ 590 < v ∧ v < 2 ^ 590) ∧ n ≤ 10 ^ 40 ∧
  ((n ≤ 10000 ∨ Rec ss v) → ∀ H', Same H H' → Q (.int (it (hiL ss) n v)) H') ∧ (10000 < n → ¬ Rec ss v → ∀ H', Same H H' → E (.ref (C 2)) none H')
section
variable {P : Program} {w : World} {K : PySem.W.Frag} {mg : Str → Option Value} {base : Heap} {fB fH fI fJ fL fM B' : Addr} {dB dH dI dJ dL dM : FuncData} {C : Nat → Addr}
theorem ok_hw {f : Addr} {fd : FuncData} (F : Fun K "_highest_within" "_highest_within" s_highest_within f fd) (B : Blt mg) (MT : MaxT mg) (G : LimG mg) (R : Er K mg C B') (Cp : Cal P w K mg base "common_period" 2 ["sides"] spPerL fH dH) (Hi : Cal P w K mg base "highest" 4 ["sides", "value"] spHi fI dI) (Co : Cal P w K mg base "_continued" 1 ["values", "following", "many"] spCont fJ dJ) : FnOk P w K mg base (L2.CX P w) 5 f fd ["sides", "value", "many"] (spHWX C) := by
  refine F.okAny sc_highest_within (fun vs H Q E h => ?_) (fun cdv A outer s0 H vs Q E hr h => ?_)
  · obtain ⟨l, xs, ss, v, n, rfl, _⟩ := h
    rfl
  · obtain ⟨l, xs, ss, v, n, rfl, SS, hv, hn, q, qe⟩ := h
    have nd := sc_highest_within.nd
    obtain ⟨tmr, hmr⟩ := G.mr
    refine ⟨_, pss_cons (ps_set (i := 3) nd rfl (Or.inl rfl) (pcl Cp hr (by decide) (by rfl) (pa_cons (pv 0) pa_nil)))
      (pss_cons (ps_set (i := 4) nd rfl (Or.inl rfl) (pe_lst (pa_cons (pv 1) pa_nil)))
      (pss_cons (ps_set (i := 5) nd rfl (Or.inl rfl) (pe_disp (pps_cons (pe_op op_mod (pv 1) (pv 3)) pe_int pps_nil) rfl rfl nofun (by decide)))
      (pss_cons (ps_for (passes_of rfl) rfl (pi_range2 (by rfl) B.range (pa_cons pe_int (pa_cons (pe_op op_add (pe_callB (call_min2 rfl) (by rfl) MT.min (by decide +kernel) (pa_cons (pv 2) (pa_cons (pe_glob (v := .int 10000) (by rfl) hmr ⟨_, rfl⟩) pa_nil))) pe_int) pa_nil))) (pg_name (i := 6) nd rfl (Or.inl rfl))
        (pss_cons (ps_set (i := 1) nd rfl (Or.inl rfl) (pcl Hi hr (by decide) (by rfl) (pa_cons (pv 0) (pa_cons (pv 1) pa_nil))))
        (pss_cons (ps_set (i := 7) nd rfl (Or.inl rfl) (pe_op op_mod (pv 1) (pv 3)))
        (pss_cons (ps_if (pt_cmp (pc_din (lt1 hr.units) (pv 7) (pv 5)) (by rfl)) (pss_one (ps_ret (pcl Co hr (by decide) (by rfl) (pa_cons (pe_slice sl_list (pv 4) (po_some (pe_dget (lt1 hr.units) (pv 5) (pv 7) (fun _ _ => rfl))) po_none) (pa_cons (pv 1) (pa_cons (pe_op op_sub (pv 2) (pe_dget (lt1 hr.units) (pv 5) (pv 7) (fun _ _ => rfl))) pa_nil)))))) pss_nil)
        (pss_cons (ps_dput (lt1 hr.units) (pv 5) (pv 7) (pv 6) rfl)
        (pss_one (ps_expr (pe_bm PySem.F.plainAttrs_list PySem.F.slot_list_append PySem.F.type_list_append mt_append (pv 4) (pa_cons (pv 1) pa_nil)))))))))
      (pss_cons (ps_if (pt_cmpR op_gt (pv 2) (pe_glob (v := .int 10000) (by rfl) hmr ⟨_, rfl⟩) (nomark _)) (pss_one (ps_raise rfl (takes_of rfl rfl rfl rfl) (pmk_own PySem.F.excBase_ValueError (R.ex 2 (by decide)) R.g2 (R.kp 2 (by decide)) (raises_own (R.sb 2 (by decide)) (R.ty 2 (by decide))) (by rfl)))) pss_nil)
      (pss_one (ps_ret (pv 1))))))), ?_⟩
    walk_at "rd"
    refine ⟨l, xs, ss, rfl, SS, ?_⟩
    have cp := com_pos ss 1 (by decide) SS.side
    have cp2 : 0 < ((comN ss : Nat) : Int) := by
      show 0 < ((ss.foldl (fun n d => n.lcm (perN d)) 1 : Nat) : Int)
      omega
    walk_at "rd"
    refine ⟨(by show 1 ≤ sizeLine; decide), fun L nL => ?_⟩
    generalize e_L : upd H L _ = H1
    have g1 : H1 L = some (.lst [.int v]) := by rw [← e_L]; exact upd_same
    have w1 : Same H H1 := by rw [← e_L]; exact fun b u z => (upd_ne (ne_of_none z nL)).trans z
    clear e_L
    walk_at "rd"
    refine fun D nD => ?_
    walk_at "rd"
    refine ⟨cp2, ?_⟩
    walk_at "rd"
    refine ⟨upd_same, [(.inl (v % ((comN ss : Nat) : Int)), .int 0)], rfl, (by show 1 ≤ 15; decide), ?_⟩
    generalize e_D : upd (upd H1 D _) D _ = H2
    have g2 : H2 D = some (.dK [(.inl (v % ((comN ss : Nat) : Int)), .int 0)]) := by rw [← e_D]; exact upd_same
    have w2 : Same H1 H2 := by rw [← e_D]; exact fun b u z => (upd_ne (ne_of_none z nD)).trans ((upd_ne (ne_of_none z nD)).trans z)
    clear e_D
    have nLD : L ≠ D := fun z => by rw [← z, g1] at nD; cases nD
    walk_at "rd"
    refine ⟨_, _, rfl, ?_⟩
    obtain ⟨N, eN, N1, N2, N3⟩ : ∃ N : Nat, (if (10000 : Int) < (n : Int) then (10000 : Int) else (n : Int)) = (N : Int) ∧ N ≤ 10000 ∧ N ≤ n ∧ (N = n ∨ (N = 10000 ∧ 10000 < n)) := by
      by_cases y : (10000 : Int) < (n : Int)
      · exact ⟨10000, by rw [if_pos y]; rfl, by omega, by omega, by omega⟩
      · exact ⟨n, by rw [if_neg y], by omega, by omega, by omega⟩
    rw [eN]
    walk_at "rd"
    refine ⟨_, _, rfl, ⟨by decide, by decide, by omega, by omega⟩, ?_⟩
    rw [show ((N : Int) + 1 - 1).toNat = N by omega]
    refine for_range (n := N) (fun i st H' => ∃ (x6 x7 : Option V) (kvs : List (Key × V)), st = [some (.ref l), some (.int (it (hiL ss) i v)), some (.int (n : Int)), some (.int ((comN ss : Nat) : Int)), some (.ref L), some (.ref D), x6, x7] ∧ Same H H' ∧ H' L = some (.lst ((valsI ss v i).map V.int)) ∧ H' D = some (.dK kvs) ∧ NumsP ss v i kvs)
      ⟨none, none, _, rfl, w1.trans w2, w2 _ _ g1, g2, ⟨Nat.le_refl _, fun p y h => ?_, fun j hj => ?_, fun a b ab hb => by omega⟩⟩ ?_ ?_
    · by_cases e : v % ((comN ss : Nat) : Int) = p
      · rw [valV_pos (by rw [e])] at h
        cases h
        exact ⟨0, rfl, Nat.le_refl _, e⟩
      · rw [valV_neg (fun z => e (by injection z))] at h
        cases h
    · obtain rfl : j = 0 := by omega
      rw [valV_pos (by rfl)]
      rfl
    · rintro i st H' hi ⟨x6, x7, kvs, rfl, sm, hL, hD, NP⟩
      have e1 : it (hiL ss) (i + 1) v = hiL ss (it (hiL ss) i v) := rfl
      obtain ⟨b0, b1⟩ := itL_bd SS.side v i
      obtain ⟨b2, b3⟩ := itL_bd SS.side v (i + 1)
      walk_at "rd"
      refine ⟨l, xs, ss, _, rfl, SS.same sm, by omega, fun h H3 hp s3 => ?_⟩
      obtain rfl := hip_eq hp
      rw [← e1]
      walk_at "rd"
      refine ⟨cp2, ?_⟩
      walk_at "rd"
      refine ⟨D, _, rfl, DGet.k (k := .inl _) (s3 _ _ hD), ?_⟩
      walk_at "rd"
      refine ite2 (fun z => ?_) (fun z => ?_)
      · obtain ⟨y, hy⟩ := Option.isSome_iff_exists.mp z
        obtain ⟨j, rfl, ji, ej⟩ := NP.2.1 _ y hy
        have dg := DGet.k (k := .inl (it (hiL ss) (i + 1) v % ((comN ss : Nat) : Int))) (s3 _ _ hD)
        rw [hy] at dg
        obtain ⟨b4, b5⟩ := itL_bd SS.side v j
        walk_at "rd"
        refine ⟨D, _, rfl, dg, ?_⟩
        walk_at "rd"
        refine ⟨L, _, rfl, SqL.of (s3 _ _ hL), fun T nT => ?_⟩
        rw [cutV_drop _ (by rw [List.length_map, valsI_len]; omega), ← List.map_drop]
        generalize e_T : upd H3 T _ = H4
        have gT : H4 T = some (.lst (((valsI ss v i).drop j).map V.int)) := by rw [← e_T]; exact upd_same
        have w4 : Same H3 H4 := by rw [← e_T]; exact fun b u z => (upd_ne (ne_of_none z nT)).trans z
        clear e_T
        have dg4 : DGet H4 D (kV (.inl (it (hiL ss) (i + 1) v % ((comN ss : Nat) : Int)))) (valV kvs (.inl (it (hiL ss) (i + 1) v % ((comN ss : Nat) : Int)))) := DGet.k (k := .inl _) (w4 _ _ (s3 _ _ hD))
        rw [hy] at dg4
        walk_at "rd"
        refine ⟨D, _, rfl, dg4, ?_⟩
        walk_at "rd"
        have we := walk_end SS.side (n := n) ji (by omega) ej
        have g0 := valsI_get (ss := ss) (v := v) (i := i) (j := j) (r := 0) (by omega)
        have gl : ((valsI ss v i).drop j).length = i + 1 - j := by rw [List.length_drop, valsI_len]
        have g0' : ((valsI ss v i).drop j).getD 0 0 = it (hiL ss) j v := g0
        refine ⟨T, (valsI ss v i).drop j, _, n - j, (by show _ = [V.ref T, V.int (it (hiL ss) (i + 1) v), V.int ((n - j : Nat) : Int)]; rw [show ((n - j : Nat) : Int) = (n : Int) - (j : Int) by omega]; rfl), gT, by rw [gl]; omega, by omega, by rw [gl]; omega, by omega, by rw [g0']; omega, fun H5 s5 => ?_⟩
        rw [gl, we]
        exact q (.inr ⟨j, i + 1, by omega, by omega, ej⟩) _ (sm.trans (s3.trans (w4.trans s5)))
      · have nD0 : H D = none := w1.free nD
        walk_at "rd"
        refine ⟨D, _, rfl, DPut.k (k := .inl _) (s3 _ _ hD) (Nat.lt_of_le_of_lt NP.1 (Nat.lt_of_lt_of_le (by omega : i + 1 < 20000) (by decide))), ?_⟩
        walk_at "rd"
        have hL3 := s3 _ _ hL
        refine ⟨.inl ⟨rfl, _, SqL.of ((upd_ne nLD).trans hL3)⟩, ?_⟩
        walk_at "rd"
        refine ⟨L, _, _, rfl, rfl, (upd_ne nLD).trans hL3, (by rw [List.length_map, valsI_len]; exact Nat.lt_of_lt_of_le (by omega : i + 1 < 20000) (by decide)), ?_⟩
        refine ⟨_, _, _, rfl, fun b u z => (upd_ne (ne_of_none z nL)).trans ((upd_ne (ne_of_none z nD0)).trans (s3 _ _ (sm _ _ z))), ?_, (upd_ne (Ne.symm nLD)).trans upd_same, ?_⟩
        · rw [valsI_succ, List.map_append]
          exact upd_same
        · have np := numsP_put NP z
          rw [show ((i + 1 : Nat) : Int) = 1 + (i : Int) by omega] at np
          exact np
    · rintro st H' ⟨x6, x7, kvs, rfl, sm, hL, hD, NP⟩
      walk_at "rd"
      refine ite2 (fun z => ?_) (fun z => ?_)
      · have big : (10000 : Int) < (n : Int) := of_decide_eq_true z
        have e4 : N = 10000 := by omega
        subst e4
        walk_at "rd"
        exact qe (by omega) (fun ⟨a, b, ab, hb, e⟩ => NP.2.2.2 a b ab hb e) _ sm
      · have small : ¬ (10000 : Int) < (n : Int) := fun y => z (decide_eq_true y)
        have e4 : N = n := by omega
        subst e4
        walk_at "rd"
        exact q (.inl (by omega)) _ sm
end
end HT
namespace HT
open PySem L2
def spWiX (C : Nat → Addr) : Sp := fun vs H Q E => ∃ (l : Addr) (xs : List V) (ss : List Sd) (v : Int) (n : Nat), vs = [.ref l, .int v, .int (n : Int)] ∧ SidesAt H l xs ss ∧ (-2 ^ 590 < v ∧ v < 2 ^ 590) ∧ n ≤ 10 ^ 40 ∧
  ((n ≤ 10000 ∨ (Rec ss v ∧ Rec (ss.map mirD) (-v))) → ∀ (p : Addr) (H' : Hp), Same H H' → H p = none → H' p = some (.tup [.int (-(it (hiL (ss.map mirD)) n (-v))), .int (it (hiL ss) n v)]) → Q (.ref p) H') ∧
  (10000 < n → ¬ (Rec ss v ∧ Rec (ss.map mirD) (-v)) → ∀ H', Same H H' → E (.ref (C 2)) none H')
section
variable {P : Program} {w : World} {K : PySem.W.Frag} {mg : Str → Option Value} {base : Heap} {fB fH fI fJ fL fM B' : Addr} {dB dH dI dJ dL dM : FuncData} {C : Nat → Addr}
theorem ok_within {f : Addr} {fd : FuncData} (F : Fun K "within" "within" s_within f fd) (G : LimG mg) (Ls : Cal P w K mg base "check_sides" 5 ["sides"] spSides fB dB) (Vl : Cal P w K mg base "check_value" 2 ["value"] spCheckValue fH dH) (Bw : Cal P w K mg base "is_int_between" 2 ["thing", "least", "most"] spBetween fI dI) (Mi : Cal P w K mg base "mirrors" 5 ["sides"] spMirs fJ dJ)
    (Hw : CalX P w K mg base "_highest_within" 5 ["sides", "value", "many"] (spHWX C) fL dL) : FnOk P w K mg base (L2.CX P w) 6 f fd ["sides", "value", "many"] (spWiX C) := by
  refine F.okAny sc_within (fun vs H Q E h => ?_) (fun cdv A outer s0 H vs Q E hr h => ?_)
  · obtain ⟨l, xs, ss, v, n, rfl, _⟩ := h
    rfl
  · obtain ⟨l, xs, ss, v, n, rfl, SS, hv, hn, q, qe⟩ := h
    have nd := sc_within.nd
    obtain ⟨tmn, hmn⟩ := G.mn
    refine ⟨_, (pss_cons (ps_expr (pcl Ls hr (by decide) (by rfl) (pa_cons (pv 0) pa_nil)))
      (pss_cons (ps_expr (pcl Vl hr (by decide) (by rfl) (pa_cons (pv 1) pa_nil)))
      (pss_cons (ps_if (pt_not (pt_val (pcl Bw hr (by decide) (by rfl) (pa_cons (pv 2) (pa_cons pe_int (pa_cons (pe_glob (v := .int (10 ^ 40)) (by rfl) hmn ⟨_, rfl⟩) pa_nil)))))) (pss_one ps_never) pss_nil)
      (pss_cons (ps_set (i := 3) nd rfl (Or.inl rfl) (pcx Hw hr (by decide) (by rfl) (takes_of rfl rfl rfl rfl) (pa_cons (pv 0) (pa_cons (pv 1) (pa_cons (pv 2) pa_nil)))))
      (pss_one (ps_ret (pe_tup (pa_cons (pe_un un_neg (pcx Hw hr (by decide) (by rfl) (takes_of rfl rfl rfl rfl) (pa_cons (pcl Mi hr (by decide) (by rfl) (pa_cons (pv 0) pa_nil)) (pa_cons (pe_un un_neg (pv 1)) (pa_cons (pv 2) pa_nil))))) (pa_cons (pv 3) pa_nil))))))))), ?_⟩
    have sM : ∀ d ∈ ss.map mirD, SideP d.o d.s d.m := fun d hd => by
      obtain ⟨e, he, rfl⟩ := List.mem_map.mp hd
      exact side_mir (SS.side e he)
    walk_at "rd"
    refine ⟨l, xs, ss, rfl, SS, ?_⟩
    walk_at "rd"
    refine ⟨_, _, _, rfl, ?_⟩
    walk_at "rd"
    refine ite2 (fun z => ?_) (fun _ => ?_)
    · exfalso
      have a1 : decide ((0 : Int) ≤ (n : Int)) = true := decide_eq_true (by omega)
      have a2 : decide ((n : Int) ≤ 10 ^ 40) = true := decide_eq_true (by omega)
      rw [a1, a2] at z
      exact absurd z (by decide)
    walk_at "rd"
    refine ⟨l, xs, ss, v, n, rfl, SS.toL, hv, hn, fun g1 H1 s1 => ?_, fun g1 g2 H1 s1 => qe g1 (fun z => g2 z.1) _ s1⟩
    walk_at "rd"
    refine ⟨l, xs, ss, rfl, SS.toL.same s1, fun L2 y2 H2 n2 s2 S2 => ?_⟩
    walk_at "rd"
    refine ⟨L2, y2, _, -v, n, rfl, S2, by omega, hn, fun g3 H3 s3 => ?_, fun g3 g4 H3 s3 => qe g3 (fun z => g4 z.2) _ (s1.trans (s2.trans s3))⟩
    walk_at "rd"
    refine ⟨(by show 2 ≤ sizeLine; decide), fun T nT => ?_⟩
    have sA := s1.trans (s2.trans s3)
    exact q (by rcases g1 with y | y <;> rcases g3 with z | z <;> first | exact .inl y | exact .inl z | exact .inr ⟨y, z⟩) T _ (fun b u z => (upd_ne (ne_of_none (sA _ _ z) nT)).trans (sA _ _ z)) (sA.free nT) upd_same
end
end HT
namespace HT
open PySem L2
def BlksL (H' : Hp) (A : Addr) (d : Sd) (L : Int) : Prop := ∃ ps : List Addr, H' A = some (.lst (ps.map V.ref)) ∧ ps.length = (figsN d.s d.m).toNat ∧ ∀ (i : Nat) (b : Addr), ps[i]? = some b → H' b = some (blkV (stL d L (i : Int)) (moL d L (i : Int)) (perM d.s d.m))
def spUnrL : Sp := fun vs H Q _ => ∃ (p : Addr) (d : Sd) (L : Int), vs = [.ref p, .int L] ∧ H p = some (sideV d.o d.s d.m) ∧ SideP d.o d.s d.m ∧ 1 ≤ L ∧ L < 2 ^ 200 ∧ ∀ (A : Addr) (H' : Hp), H A = none → Same H H' → BlksL H' A d L → Q (.ref A) H'
section
variable {P : Program} {w : World} {K : PySem.W.Frag} {mg : Str → Option Value} {base : Heap} {fB fH fI : Addr} {dB dH dI : FuncData}
theorem ok_unrL {f : Addr} {fd : FuncData} (F : FunD K "unraised" "unraised" (defArgs s_unraised) (defBody s_unraised) (defScope s_unraised) [.int 1] [] f fd) (B : Blt mg) (MT : MaxT mg) (Pe : Cal P w K mg base "period_of" 1 ["side"] spPerOf fB dB) (Sp' : Cal P w K mg base "span" 4 ["side", "figure"] spSpan fH dH) : FnOk P w K mg base CX0 5 f fd ["side", "least"] spUnrL := by
  refine F.ok sc_unraised (fun vs H Q E h => ?_) (fun cdv A outer s0 H vs Q E hr h => ?_)
  · obtain ⟨p, d, L0, rfl, _⟩ := h
    rfl
  · obtain ⟨p, ⟨o, s, m⟩, L0, rfl, hp, S, l1, l2, q⟩ := h
    dsimp only at hp S
    have nd := sc_unraised.nd
    refine ⟨_, (pss_cons (ps_asg (pv 0) (pg_tup (by rfl) (pgs_cons (pg_name (i := 2) nd rfl (Or.inl rfl)) (pgs_cons (pg_name (i := 3) nd rfl (Or.inl rfl)) (pgs_cons (pg_name (i := 4) nd rfl (Or.inl rfl)) pgs_nil)))))
      (pss_cons (ps_set (i := 5) nd rfl (Or.inl rfl) (pcl Pe hr (by decide) (by rfl) (pa_cons (pv 0) pa_nil)))
      (pss_cons (ps_set (i := 6) nd rfl (Or.inl rfl) (pe_lst pa_nil))
      (pss_cons (ps_for (passes_of rfl) rfl (pi_range1 (by rfl) B.range (pa_cons (pe_op op_fdivW (pv 5) (pv 3)) pa_nil)) (pg_name (i := 7) nd rfl (Or.inl rfl)) (pss_cons (ps_asg (pcl Sp' hr (by decide) (by rfl) (pa_cons (pv 0) (pa_cons (pv 7) pa_nil))) (pg_tup (by rfl) (pgs_cons (pg_name (i := 8) nd rfl (Or.inl rfl)) (pgs_cons (pg_name (i := 9) nd rfl (Or.inl rfl)) pgs_nil))))
      (pss_cons (ps_set (i := 10) nd rfl (Or.inl rfl) (pe_callB (call_max2 rfl) (by rfl) MT.max (by decide +kernel) (pa_cons (pv 8) (pa_cons (pe_op op_add (pe_op op_sub (pe_op op_add (pv 2) (pe_op op_mulW (pv 3) (pv 7))) (pv 1)) pe_int) pa_nil))))
      (pss_one (ps_expr (pe_bm PySem.F.plainAttrs_list PySem.F.slot_list_append PySem.F.type_list_append mt_append (pv 6) (pa_cons (pe_tup (pa_cons (pv 10) (pa_cons (pe_op op_sub (pv 9) (pv 10)) (pa_cons (pv 5) pa_nil)))) pa_nil)))))))
      (pss_one (ps_ret (pv 6))))))), ?_⟩
    have s1 := S.s0
    have s2 := S.s1
    have o0 := S.o0
    have o1 := S.o1
    have fb := figs_bd (m := m) S.s0
    walk_at "rd"
    refine ⟨p, _, rfl, SqT.of hp, rfl, _, _, rfl, _, _, rfl, _, _, rfl, rfl, ?_⟩
    walk_at "rd"
    refine ⟨p, o, s, m, rfl, hp, S, ?_⟩
    walk_at "rd"
    refine ⟨(by show 0 ≤ sizeLine; decide), fun L nL => ?_⟩
    walk_at "rd"
    refine ⟨fdiv_ok _ (by omega) (lg_big (by omega) (by omega)), ?_⟩
    walk_at "rd"
    have ef : perM s m / s = figsN s m := rfl
    refine ⟨by omega, by omega, ?_⟩
    refine for_range (n := (perM s m / s).toNat) (fun i st H' => ∃ (x7 x8 x9 x10 : Option V) (ps : List Addr), st = [some (.ref p), some (.int L0), some (.int o), some (.int s), some (.str m), some (.int (perM s m)), some (.ref L), x7, x8, x9, x10] ∧ Same H H' ∧ H' L = some (.lst (ps.map V.ref)) ∧ ps.length = i ∧ (∀ (j : Nat) (b : Addr), ps[j]? = some b → H' b = some (blkV (stL ⟨o, s, m⟩ L0 (j : Int)) (moL ⟨o, s, m⟩ L0 (j : Int)) (perM s m)))) ⟨none, none, none, none, [], rfl, fun b u z => (upd_ne (ne_of_none z nL)).trans z, upd_same, rfl, fun j b z => nomatch z⟩ ?_ ?_
    · rintro i st H' hi ⟨x7, x8, x9, x10, ps, rfl, sm, hL, lp, at_⟩
      have hi2 : i < 2 := by omega
      have hp' := sm _ _ hp
      walk_at "rd"
      refine ⟨p, o, s, m, 0 + (i : Int), rfl, hp', S, (by unfold BdK; omega), fun d H2 s2' nd2 hd => ?_⟩
      refine ⟨d, _, rfl, SqT.of hd, rfl, _, _, rfl, _, _, rfl, rfl, ?_⟩
      walk_at "rd"
      refine ⟨mulW (by omega) (by omega), ?_⟩
      walk_at "rd"
      refine ⟨_, _, rfl, ?_⟩
      walk_at "rd"
      have hL2 := s2' _ _ hL
      refine ⟨.inl ⟨rfl, _, SqL.of hL2⟩, ?_⟩
      walk_at "rd"
      refine ⟨(by show 3 ≤ sizeLine; decide), fun b nb => ?_⟩
      have nbL : b ≠ L := ne_of_none hL2 nb |>.symm
      have lh := low_high (o := o) (k := (i : Int)) S.md S.s0
      have e0 : (0 : Int) + (i : Int) = (i : Int) := by omega
      refine ⟨L, _, _, rfl, rfl, (upd_ne nbL.symm).trans hL2, (by rw [List.length_map, lp]; exact Nat.lt_of_lt_of_le (by omega : i < 8) (by decide)), ?_⟩
      refine ⟨_, _, _, _, ps ++ [b], rfl, ?_, ?_, by rw [List.length_append, lp]; rfl, ?_⟩
      · intro c u z
        have z3 := s2' _ _ (sm _ _ z)
        exact (upd_ne (ne_of_none z nL)).trans ((upd_ne (ne_of_none z3 nb)).trans z3)
      · rw [List.map_append]; exact upd_same
      · intro j c hc
        rcases Nat.lt_or_ge j ps.length with y | y
        · rw [List.getElem?_append_left y] at hc
          have g := s2' _ _ (at_ j c hc)
          exact (upd_ne (ne_of g hL2 (by intro y; cases y))).trans ((upd_ne (ne_of_none g nb)).trans g)
        · rw [List.getElem?_append_right y] at hc
          have ej : j - ps.length = 0 := by
            have := (List.getElem?_eq_some_iff.mp hc).1
            simp at this
            omega
          rw [ej] at hc
          cases hc
          rw [show j = i by omega]
          refine (upd_ne nbL).trans (upd_same.trans ?_)
          rw [e0]
          rfl
    · rintro st H' ⟨x7, x8, x9, x10, ps, rfl, sm, hL, lp, at_⟩
      walk_at "rd"
      exact q L H' nL sm ⟨ps, hL, by rw [lp, ef], at_⟩
end
end HT
namespace HT
open PySem L2
def spWN : Sp := fun vs H Q _ => ∃ (a b : Addr) (d e : Sd), vs = [.ref a, .ref b] ∧ H a = some (sideV d.o d.s d.m) ∧ H b = some (sideV e.o e.s e.m) ∧ ∀ (T : Addr) (H' : Hp), H T = none → Same H H' → H' T = some (.tup (if e.s < d.s then [.ref a, .ref b] else [.ref b, .ref a])) → Q (.ref T) H'
def spRU : Sp := fun vs H Q _ => ∃ (a b : Addr) (d e : Sd) (v : Int), vs = [.ref a, .ref b, .int v] ∧ H a = some (sideV d.o d.s d.m) ∧ SideP d.o d.s d.m ∧ H b = some (sideV e.o e.s e.m) ∧ SideP e.o e.s e.m ∧ (-2 ^ 600 < v ∧ v < 2 ^ 600) ∧ ∀ r H', Least (upP d e v) r → Same H H' → Q (oN r) H'
theorem ru_nil {d e : Sd} {v : Int} : RuF d e v [] fun t f => (t : Int) < (0 : Int) ∧ (f : Int) < figsN e.s e.m := ⟨fun y h => absurd h List.not_mem_nil, fun t f k h => by omega⟩
def doneP (e : Sd) (i j : Nat) (t f : Nat) : Prop := (t < i ∧ (f : Int) < figsN e.s e.m) ∨ (t = i ∧ f < j)
theorem ru_add {d e : Sd} (h : SideP d.o d.s d.m) (he : SideP e.o e.s e.m) {v : Int} {ys : List Int} {i j : Nat} (hj : (j : Int) < figsN e.s e.m) (R : RuF d e v ys (doneP e i j)) {r : Option Nat}
    (L : Least (HitS (v + d.s * (i : Int) - stL e (lessT d v i) (j : Int)) (figsN d.s d.m * d.s) (moL e (lessT d v i) (j : Int)) (perM e.s e.m)) r) : RuF d e v (ys ++ (r.map fun k : Nat => (i : Int) + figsN d.s d.m * (k : Int)).toList) (doneP e i (j + 1)) := by
  have fb := figs_bd (m := d.m) h.s0
  refine ⟨fun y hy => ?_, fun t f k D hk => ?_⟩
  · rcases List.mem_append.mp hy with z | z
    · exact R.tr y z
    · cases r with
      | none => exact absurd z List.not_mem_nil
      | some k =>
        have ey : y = (i : Int) + figsN d.s d.m * (k : Int) := List.mem_singleton.mp z
        refine ⟨i + (figsN d.s d.m).toNat * k, ?_, (hit_up h he v i k).mpr ⟨j, hj, L.1⟩⟩
        rw [ey, Int.natCast_add, Int.natCast_mul, Int.toNat_of_nonneg (by omega)]
  · have D2 : doneP e i j t f ∨ (t = i ∧ f = j) := by
      rcases D with z | ⟨z1, z2⟩
      · exact .inl (.inl z)
      · by_cases g : f = j
        · exact .inr ⟨z1, g⟩
        · exact .inl (.inr ⟨z1, by omega⟩)
    rcases D2 with z | ⟨rfl, rfl⟩
    · obtain ⟨y, hy, le⟩ := R.al t f k z hk
      exact ⟨y, List.mem_append_left _ hy, le⟩
    · cases r with
      | none => exact absurd hk (L k)
      | some k0 =>
        refine ⟨(t : Int) + figsN d.s d.m * (k0 : Int), List.mem_append_right _ (List.mem_singleton.mpr rfl), ?_⟩
        have : k0 ≤ k := by
          by_cases g : k < k0
          · exact absurd hk (L.2 k g)
          · omega
        have := Int.mul_le_mul_of_nonneg_left (show (k0 : Int) ≤ (k : Int) by omega) (show (0 : Int) ≤ figsN d.s d.m by omega)
        omega
theorem ru_row {d e : Sd} {v : Int} {ys : List Int} {i : Nat} (he : 1 ≤ figsN e.s e.m) (R : RuF d e v ys (doneP e i (figsN e.s e.m).toNat)) : RuF d e v ys (doneP e (i + 1) 0) :=
  ⟨R.tr, fun t f k D hk => R.al t f k (by
    rcases D with ⟨z1, z2⟩ | ⟨_, z2⟩
    · by_cases g : t = i
      · exact .inr ⟨g, by omega⟩
      · exact .inl ⟨by omega, z2⟩
    · omega) hk⟩
section
variable {P : Program} {w : World} {K : PySem.W.Frag} {mg : Str → Option Value} {base : Heap} {fB fH fI fJ fL : Addr} {dB dH dI dJ dL : FuncData}
theorem ok_wn {f : Addr} {fd : FuncData} (F : Fun K "wide_and_narrow" "wide_and_narrow" s_wide_and_narrow f fd) : FnOk P w K mg base CX0 1 f fd ["first", "second"] spWN := by
  refine F.ok sc_wide_and_narrow (fun vs H Q E h => ?_) (fun cdv A outer s0 H vs Q E hr h => ?_)
  · obtain ⟨a, b, d, e, rfl, _⟩ := h
    rfl
  · obtain ⟨a, b, d, e, rfl, ha, hb, q⟩ := h
    refine ⟨_, (pss_cons (ps_if (pt_cmpR op_gt (pe_ix ix_tup (pv 0) pe_int (fun _ _ => rfl)) (pe_ix ix_tup (pv 1) pe_int (fun _ _ => rfl)) (nomark _)) (pss_one (ps_ret (pe_tup (pa_cons (pv 0) (pa_cons (pv 1) pa_nil))))) pss_nil)
      (pss_one (ps_ret (pe_tup (pa_cons (pv 1) (pa_cons (pv 0) pa_nil)))))), ?_⟩
    walk_at "rd"
    refine ⟨a, _, _, _, rfl, rfl, SqT.of ha, rfl, ?_⟩
    walk_at "rd"
    refine ⟨b, _, _, _, rfl, rfl, SqT.of hb, rfl, ?_⟩
    walk_at "rd"
    refine ite2 (fun z => ?_) (fun z => ?_)
    · have lt := of_decide_eq_true z
      walk_at "rd"
      refine ⟨(by show 2 ≤ sizeLine; decide), fun T nT => ?_⟩
      exact q T _ nT (fun b u z => (upd_ne (ne_of_none z nT)).trans z) (by rw [if_pos lt]; exact upd_same)
    · have lt : ¬ e.s < d.s := fun y => z (decide_eq_true y)
      walk_at "rd"
      refine ⟨(by show 2 ≤ sizeLine; decide), fun T nT => ?_⟩
      exact q T _ nT (fun b u z => (upd_ne (ne_of_none z nT)).trans z) (by rw [if_neg lt]; exact upd_same)
theorem ok_ru {f : Addr} {fd : FuncData} (F : Fun K "rounds_up" "rounds_up" s_rounds_up f fd) (B : Blt mg) (MT : MaxT mg) (Pe : Cal P w K mg base "period_of" 1 ["side"] spPerOf fB dB) (Th : Cal P w K mg base "threshold" 3 ["side", "value"] spBack fH dH) (Un : Cal P w K mg base "unraised" 5 ["side", "least"] spUnrL fI dI) (Fh : Cal P w K mg base "first_hit" 104 ["start", "step", "most", "modulus"] spFH fJ dJ) : FnOk P w K mg base CX0 105 f fd ["wide", "narrow", "value"] spRU := by
  refine F.ok sc_rounds_up (fun vs H Q E h => ?_) (fun cdv A outer s0 H vs Q E hr h => ?_)
  · obtain ⟨a, b, d, e, v, rfl, _⟩ := h
    rfl
  · obtain ⟨a, b, d, e, v, rfl, ha, S, hb, T, hv, q⟩ := h
    have nd := sc_rounds_up.nd
    refine ⟨_, (pss_cons (ps_asg (pv 0) (pg_tup (by rfl) (pgs_cons (pg_name (i := 3) nd rfl (Or.inl rfl)) (pgs_cons (pg_name (i := 4) nd rfl (Or.inl rfl)) (pgs_cons (pg_name (i := 3) nd rfl (Or.inl rfl)) pgs_nil)))))
      (pss_cons (ps_set (i := 5) nd rfl (Or.inl rfl) (pe_op op_fdivW (pcl Pe hr (by decide) (by rfl) (pa_cons (pv 0) pa_nil)) (pv 4)))
      (pss_cons (ps_set (i := 6) nd rfl (Or.inl rfl) (pe_lst pa_nil))
      (pss_cons (ps_for PassesOwn.never rfl (pi_range1 (by rfl) B.range (pa_cons (pv 5) pa_nil)) (pg_name (i := 7) nd rfl (Or.inl rfl)) (pss_cons (ps_set (i := 8) nd rfl (Or.inl rfl) (pe_op op_add (pv 2) (pe_op op_mulW (pv 4) (pv 7))))
      (pss_cons (ps_set (i := 9) nd rfl (Or.inl rfl) (pe_op op_sub (pcl Th hr (by decide) (by rfl) (pa_cons (pv 0) (pa_cons (pe_op op_add (pv 8) (pv 4)) pa_nil))) (pv 8)))
      (pss_one (ps_for PassesOwn.never rfl (pi_list (pcl Un hr (by decide) (by rfl) (pa_cons (pv 1) (pa_cons (pv 9) pa_nil)))) (pg_tup (by rfl) (pgs_cons (pg_name (i := 10) nd rfl (Or.inl rfl)) (pgs_cons (pg_name (i := 11) nd rfl (Or.inl rfl)) (pgs_cons (pg_name (i := 12) nd rfl (Or.inl rfl)) pgs_nil)))) (pss_cons (ps_set (i := 13) nd rfl (Or.inl rfl) (pcl Fh hr (by decide) (by rfl) (pa_cons (pe_op op_sub (pv 8) (pv 10)) (pa_cons (pe_op op_mulW (pv 5) (pv 4)) (pa_cons (pv 11) (pa_cons (pv 12) pa_nil))))))
      (pss_one (ps_if (pt_cmpR op_notN (pv 13) pe_non (nomark _)) (pss_one (ps_expr (pe_bm PySem.F.plainAttrs_list PySem.F.slot_list_append PySem.F.type_list_append mt_append (pv 6) (pa_cons (pe_op op_add (pv 7) (pe_op op_mulW (pv 5) (pv 13))) pa_nil)))) pss_nil))))))))
      (pss_one (ps_ret (pe_callBK (cr_minDf rfl hr.units) (by rfl) MT.min (by decide +kernel) (pa_cons (pv 6) pa_nil) (pk_cons pe_non pk_nil)))))))), ?_⟩
    have s1 := S.s0
    have s2 := S.s1
    have o0 := S.o0
    have o1 := S.o1
    have fb := figs_bd (m := d.m) S.s0
    have fe := figs_bd (m := e.m) T.s0
    walk_at "rd"
    refine ⟨a, _, rfl, SqT.of ha, rfl, _, _, rfl, _, _, rfl, _, _, rfl, rfl, ?_⟩
    walk_at "rd"
    refine ⟨a, d.o, d.s, d.m, rfl, ha, S, ?_⟩
    walk_at "rd"
    refine ⟨fdiv_ok _ (by omega) (lg_big (by omega) (by omega)), ?_⟩
    walk_at "rd"
    walk_at "rd"
    refine ⟨(by show 0 ≤ sizeLine; decide), fun N nN => ?_⟩
    generalize e_N : upd H N _ = H1
    have fN : H1 N = some (.lst []) := by rw [← e_N]; exact upd_same
    have s01 : Same H H1 := by rw [← e_N]; exact fun b u z => (upd_ne (ne_of_none z nN)).trans z
    clear e_N
    walk_at "rd"
    have ef : perM d.s d.m / d.s = figsN d.s d.m := rfl
    rw [ef]
    refine ⟨by omega, by omega, ?_⟩
    refine for_range (n := (figsN d.s d.m).toNat) (fun i st H' => ∃ (x7 x8 x9 x10 x11 x12 x13 : Option V) (ys : List Int), st = [some (.ref a), some (.ref b), some (.int v), some (.str d.m), some (.int d.s), some (.int (figsN d.s d.m)), some (.ref N), x7, x8, x9, x10, x11, x12, x13] ∧ Same H H' ∧ H' N = some (.lst (ys.map V.int)) ∧ ys.length ≤ 2 * i ∧ RuF d e v ys (doneP e i 0))
      ⟨none, none, none, none, none, none, none, [], rfl, s01, fN, Nat.zero_le _, ⟨fun y h => absurd h List.not_mem_nil, fun t f k D => by rcases D with ⟨x, _⟩ | ⟨_, y⟩ <;> omega⟩⟩ ?_ ?_
    · rintro i st H' hi ⟨x7, x8, x9, x10, x11, x12, x13, ys, rfl, sm, hN, ln, R⟩
      have hi2 : i < 2 := by omega
      have ha' := sm _ _ ha
      have hb' := sm _ _ hb
      have ei : (0 : Int) + (i : Int) = (i : Int) := by omega
      obtain ⟨lp, lq⟩ := less_pos S v i
      have si : d.s * (i : Int) ≤ d.s * 1 := Int.mul_le_mul_of_nonneg_left (by omega) (by omega)
      have si0 : 0 ≤ d.s * (i : Int) := Int.mul_nonneg (by omega) (by omega)
      walk_at "rd"
      refine ⟨mulW (by omega) (by omega), ?_⟩
      rw [ei]
      walk_at "rd"
      refine ⟨a, d.o, d.s, d.m, v + d.s * (i : Int) + d.s, rfl, ha', S, by omega, by omega, fun H2 s12 => ?_⟩
      walk_at "rd"
      refine ⟨b, e, lessT d v i, rfl, s12 _ _ hb', T, lp, by omega, fun L2 H4 nL2 s34 B2 => ?_⟩
      obtain ⟨ps2, hL2, lp2, at2⟩ := B2
      have hN4 := s34 _ _ (s12 _ _ hN)
      have nL2N : L2 ≠ N := fun z => by rw [z, s12 _ _ hN] at nL2; cases nL2
      have nNH : H N = none := nN
      walk_at "rd"
      refine ⟨⟨_, SqL.of hL2⟩, ?_⟩
      refine for_list (K := K) (a := L2) (xs := ps2.map V.ref) (fun j st H5 => ∃ (y10 y11 y12 y13 : Option V) (ys : List Int), st = [some (.ref a), some (.ref b), some (.int v), some (.str d.m), some (.int d.s), some (.int (figsN d.s d.m)), some (.ref N), some (.int (i : Int)), some (.int (v + d.s * (i : Int))), some (.int (lessT d v i)), y10, y11, y12, y13] ∧ (∀ b u, H4 b = some u → b ≠ N → H5 b = some u) ∧ H5 N = some (.lst (ys.map V.int)) ∧ ys.length ≤ 2 * i + j ∧ RuF d e v ys (doneP e i j))
        ⟨x10, x11, x12, x13, ys, rfl, fun b u z _ => z, hN4, ln, R⟩ (fun _ _ _ _ ⟨_, _, _, _, _, _, pr, _⟩ => SqL.of (pr _ _ hL2 nL2N)) ?_ ?_
      · rintro j y st H5 hy ⟨y10, y11, y12, y13, ys, rfl, pr4, hN5, ln, R⟩
        obtain ⟨b2, hb2, rfl⟩ : ∃ b, ps2[j]? = some b ∧ y = .ref b := by
          rw [List.getElem?_map] at hy
          cases e : ps2[j]? with
          | none => rw [e] at hy; cases hy
          | some b => rw [e] at hy; exact ⟨b, rfl, (Option.some.inj hy).symm⟩
        have jl : j < 2 := by
          have := (List.getElem?_eq_some_iff.mp hb2).1
          omega
        have jf : (j : Int) < figsN e.s e.m := by
          have := (List.getElem?_eq_some_iff.mp hb2).1
          omega
        have g2 := at2 j b2 hb2
        have g2n : b2 ≠ N := fun z => by rw [z, hN4] at g2; cases g2
        have g2' := pr4 _ _ g2 g2n
        have pe := perM_bd T
        obtain ⟨m0, m1⟩ := moL_pos T lp (j : Int)
        walk_at "rd"
        refine ⟨b2, _, rfl, SqT.of g2', rfl, _, _, rfl, _, _, rfl, _, _, rfl, rfl, ?_⟩
        walk_at "rd"
        refine ⟨mulW (by omega) (by omega), ?_⟩
        walk_at "rd"
        refine ⟨_, _, _, _, rfl, by omega, by omega, m0, fun r L => ?_⟩
        have R2 := ru_add S T jf R L
        walk_at "rd"
        cases r with
        | none =>
          refine ⟨rfl, ?_⟩
          walk_at "rd"
          rw [Option.map_none, Option.toList_none, List.append_nil] at R2
          exact ⟨_, _, _, _, ys, rfl, pr4, hN5, by omega, R2⟩
        | some k =>
          refine ⟨rfl, ?_⟩
          walk_at "rd"
          have kl := hitS_lt (show 0 < perM e.s e.m by omega) L
          refine ⟨.inl ⟨rfl, _, SqL.of hN5⟩, ?_⟩
          walk_at "rd"
          refine ⟨mulW (by omega) (by omega), ?_⟩
          walk_at "rd"
          refine ⟨N, _, _, rfl, rfl, hN5, (by rw [List.length_map]; exact Nat.lt_of_le_of_lt ln (Nat.lt_of_lt_of_le (by omega : 2 * i + j < 100) (by decide))), ?_⟩
          refine ⟨_, _, _, _, ys ++ [(i : Int) + figsN d.s d.m * (k : Int)], rfl, fun b u z nb => (upd_ne nb).trans (pr4 _ _ z nb), ?_, by rw [List.length_append]; show ys.length + 1 ≤ _; omega, R2⟩
          rw [List.map_append]
          exact upd_same
      · rintro st H5 ⟨y10, y11, y12, y13, ys, rfl, pr4, hN5, ln, R⟩
        rw [List.length_map, lp2] at R ln
        refine ⟨_, _, _, _, _, _, _, ys, rfl, fun b u z => ?_, hN5, by omega, ru_row (by omega) R⟩
        exact pr4 _ _ (s34 _ _ (s12 _ _ (sm _ _ z))) (ne_of_none z nNH)
    · rintro st H' ⟨x7, x8, x9, x10, x11, x12, x13, ys, rfl, sm, hN, ln, R⟩
      have R2 : RuF d e v ys fun t f => (t : Int) < figsN d.s d.m ∧ (f : Int) < figsN e.s e.m := ⟨R.tr, fun t f k D hk => R.al t f k (.inl ⟨by omega, D.2⟩) hk⟩
      obtain ⟨r1, r2⟩ := ru_least S T R2
      walk_at "rd"
      refine ⟨N, ys, .non, rfl, rfl, SqL.of hN, fun z => q none H' (r1 z) sm, fun m mi mm => ?_⟩
      obtain ⟨L, m0⟩ := r2 m mi mm
      have := q (some m.toNat) H' L sm
      rw [show oN (some m.toNat) = V.int m from congrArg V.int (Int.toNat_of_nonneg m0)] at this
      exact this
end
end HT
namespace HT
open PySem L2
theorem perL_lt {d e : Sd} (h : SideP d.o d.s d.m) (he : SideP e.o e.s e.m) : perL d e < 2 ^ 420 := by
  have := com_lt (ss := [d, e]) (fun x hx => by
    simp only [List.mem_cons, List.not_mem_nil, or_false] at hx
    rcases hx with rfl | rfl
    · exact h
    · exact he) (by show 2 ≤ 4; decide)
  show ((comN [d, e] : Nat) : Int) < 2 ^ 420
  exact_mod_cast this
theorem least_bd {d e : Sd} (h : SideP d.o d.s d.m) (he : SideP e.o e.s e.m) {k : Int} {r : Nat} (L : Least (upP d e (atK d k)) (some r)) : d.s * (r : Int) < 2 ^ 420 := by
  obtain ⟨j, j1, hj⟩ := step_in h he
  have s0 := h.s0
  have pl := perL_lt h he
  by_cases z : (r : Int) < j
  · have : d.s * (r : Int) ≤ d.s * j := Int.mul_le_mul_of_nonneg_left (by omega) (by omega)
    omega
  · exfalso
    refine L.2 (r - j.toNat) (by omega) ?_
    have h1 := L.1
    unfold upP at h1 ⊢
    rw [← atK_add] at h1 ⊢
    rw [notup_iff h] at h1 ⊢
    have e1 : k + (r : Int) = k + ((r - j.toNat : Nat) : Int) + j * 1 := by omega
    rw [e1, rd_at h he hj, atK_add d (k + ((r - j.toNat : Nat) : Int))] at h1
    omega
theorem creep_dn {d e : Sd} (h : SideP d.o d.s d.m) (he : SideP e.o e.s e.m) (le : e.s ≤ d.s) (no : Least (upP (mirS d) (mirS e) (-d.o)) none) (k : Int) : Rd d e (atK d k) = atK d (k - 1) := by
  have h1 := creep_up (mirS_side h) (mirS_side he) le no (-k)
  rw [mirS_at, mirS_at, Int.neg_neg, mirS_Rd h he, show -(-k + 1) = k - 1 by omega] at h1
  omega
theorem creep_no {d e : Sd} (h : SideP d.o d.s d.m) (he : SideP e.o e.s e.m) {r r' : Nat} (a : Least (upP d e d.o) (some r)) (b : Least (upP (mirS d) (mirS e) (-d.o)) (some r')) : CreepP d e 0 := by
  refine .inr (.inr ⟨rfl, ⟨(r : Int), (notup_iff h _).mp a.1⟩, ⟨-(r' : Int), ?_⟩⟩)
  have h1 := (notup_iff (e := mirS e) (mirS_side h) (r' : Int)).mp b.1
  rw [mirS_at, mirS_Rd h he] at h1
  omega
def wdS (A B : Sd) : Sd := if B.s < A.s then A else B
def nwS (A B : Sd) : Sd := if B.s < A.s then B else A
def spCreep : Sp := fun vs H Q _ => ∃ (a b : Addr) (A B : Sd), vs = [.ref a, .ref b] ∧ H a = some (sideV A.o A.s A.m) ∧ SideP A.o A.s A.m ∧ H b = some (sideV B.o B.s B.m) ∧ SideP B.o B.s B.m ∧ ∀ c H', CreepP (wdS A B) (nwS A B) c → Same H H' → Q (.int c) H'
def spSW : Sp := fun vs H Q _ => ∃ (a b : Addr) (d e : Sd) (k : Int), vs = [.ref a, .ref b, .int (atK d k)] ∧ H a = some (sideV d.o d.s d.m) ∧ SideP d.o d.s d.m ∧ H b = some (sideV e.o e.s e.m) ∧ SideP e.o e.s e.m ∧ e.s ≤ d.s ∧ CreepP d e 0 ∧ (-2 ^ 590 < atK d k ∧ atK d k < 2 ^ 590) ∧ ∀ (T : Addr) (H' : Hp) (E : Int) (r : Nat), H T = none → Same H H' → H' T = some (.tup [.int E, .int (r : Int)]) → SetW d e (atK d k) E r → (-2 ^ 600 < E ∧ E < 2 ^ 600) → Q (.ref T) H'
section
variable {P : Program} {w : World} {K : PySem.W.Frag} {mg : Str → Option Value} {base : Heap} {fB fH fI fJ fL : Addr} {dB dH dI dJ dL : FuncData}
theorem ok_creep {f : Addr} {fd : FuncData} (F : Fun K "_creep" "_creep" s_creep f fd) (WN : Cal P w K mg base "wide_and_narrow" 1 ["first", "second"] spWN fB dB) (Ru : Cal P w K mg base "rounds_up" 105 ["wide", "narrow", "value"] spRU fH dH) (Mi : Cal P w K mg base "mirror" 4 ["side"] spMirror fI dI) : FnOk P w K mg base CX0 106 f fd ["first", "second"] spCreep := by
  refine F.ok sc_creep (fun vs H Q E h => ?_) (fun cdv A outer s0 H vs Q E hr h => ?_)
  · obtain ⟨a, b, A, B, rfl, _⟩ := h
    rfl
  · obtain ⟨a, b, A1, B1, rfl, ha, S, hb, T, q⟩ := h
    have nd := sc_creep.nd
    refine ⟨_, (pss_cons (ps_asg (pcl WN hr (by decide) (by rfl) (pa_cons (pv 0) (pa_cons (pv 1) pa_nil))) (pg_tup (by rfl) (pgs_cons (pg_name (i := 2) nd rfl (Or.inl rfl)) (pgs_cons (pg_name (i := 3) nd rfl (Or.inl rfl)) pgs_nil))))
      (pss_cons (ps_asg (pv 2) (pg_tup (by rfl) (pgs_cons (pg_name (i := 4) nd rfl (Or.inl rfl)) (pgs_cons (pg_name (i := 5) nd rfl (Or.inl rfl)) (pgs_cons (pg_name (i := 6) nd rfl (Or.inl rfl)) pgs_nil)))))
      (pss_cons (ps_if (pt_cmpR op_isN (pcl Ru hr (by decide) (by rfl) (pa_cons (pv 2) (pa_cons (pv 3) (pa_cons (pv 4) pa_nil)))) pe_non (nomark _)) (pss_one (ps_ret (pv 5))) pss_nil)
      (pss_cons (ps_if (pt_cmpR op_isN (pcl Ru hr (by decide) (by rfl) (pa_cons (pcl Mi hr (by decide) (by rfl) (pa_cons (pv 2) pa_nil)) (pa_cons (pcl Mi hr (by decide) (by rfl) (pa_cons (pv 3) pa_nil)) (pa_cons (pe_un un_neg (pv 4)) pa_nil)))) pe_non (nomark _)) (pss_one (ps_ret (pe_un un_neg (pv 5)))) pss_nil)
      (pss_one (ps_ret pe_int)))))), ?_⟩
    walk_at "rd"
    refine ⟨a, b, A1, B1, rfl, ha, hb, fun T1 H1 nT1 s1 hT1 => ?_⟩
    obtain ⟨wa, na, d, e, hT, hw, hn, Sd', Se', le, ed, ee⟩ : ∃ (wa na : Addr) (d e : Sd), H1 T1 = some (.tup [.ref wa, .ref na]) ∧ H1 wa = some (sideV d.o d.s d.m) ∧ H1 na = some (sideV e.o e.s e.m) ∧ SideP d.o d.s d.m ∧ SideP e.o e.s e.m ∧ e.s ≤ d.s ∧ d = wdS A1 B1 ∧ e = nwS A1 B1 := by
      by_cases z : B1.s < A1.s
      · rw [if_pos z] at hT1
        exact ⟨a, b, A1, B1, hT1, s1 _ _ ha, s1 _ _ hb, S, T, by omega, by unfold wdS; rw [if_pos z], by unfold nwS; rw [if_pos z]⟩
      · rw [if_neg z] at hT1
        exact ⟨b, a, B1, A1, hT1, s1 _ _ hb, s1 _ _ ha, T, S, by omega, by unfold wdS; rw [if_neg z], by unfold nwS; rw [if_neg z]⟩
    rw [← ed, ← ee] at q
    clear hT1 ed ee
    have o0 := Sd'.o0
    have o1 := Sd'.o1
    refine ⟨T1, _, rfl, SqT.of hT, rfl, _, _, rfl, _, _, rfl, rfl, ?_⟩
    walk_at "rd"
    refine ⟨wa, _, rfl, SqT.of hw, rfl, _, _, rfl, _, _, rfl, _, _, rfl, rfl, ?_⟩
    walk_at "rd"
    refine ⟨wa, na, d, e, d.o, rfl, hw, Sd', hn, Se', by omega, fun r H2 L s2 => ?_⟩
    walk_at "rd"
    cases r with
    | none =>
      refine ⟨rfl, ?_⟩
      walk_at "rd"
      exact q d.s H2 (.inl ⟨rfl, creep_up Sd' Se' le L⟩) (s1.trans s2)
    | some r =>
      refine ⟨rfl, ?_⟩
      walk_at "rd"
      refine ⟨wa, d.o, d.s, d.m, rfl, s2 _ _ hw, Sd', fun m1 H3 s3 n3 h3 => ?_⟩
      walk_at "rd"
      refine ⟨na, e.o, e.s, e.m, rfl, s3 _ _ (s2 _ _ hn), Se', fun m2 H4 s4 n4 h4 => ?_⟩
      walk_at "rd"
      refine ⟨m1, m2, mirS d, mirS e, -d.o, rfl, s4 _ _ h3, mirS_side Sd', h4, mirS_side Se', by omega, fun r' H5 L' s5 => ?_⟩
      have sA := s1.trans (s2.trans (s3.trans (s4.trans s5)))
      walk_at "rd"
      cases r' with
      | none =>
        refine ⟨rfl, ?_⟩
        walk_at "rd"
        exact q (-d.s) H5 (.inr (.inl ⟨rfl, creep_dn Sd' Se' le L'⟩)) sA
      | some r' =>
        refine ⟨rfl, ?_⟩
        walk_at "rd"
        exact q 0 H5 (creep_no Sd' Se' L L') sA
theorem ok_sw {f : Addr} {fd : FuncData} (F : Fun K "_settled_on_wide" "_settled_on_wide" s_settled_on_wide f fd) (Ru : Cal P w K mg base "rounds_up" 105 ["wide", "narrow", "value"] spRU fH dH) (Mi : Cal P w K mg base "mirror" 4 ["side"] spMirror fI dI) (Wr : Cal P w K mg base "written" 3 ["side", "value"] spDue fJ dJ) : FnOk P w K mg base CX0 106 f fd ["wide", "narrow", "value"] spSW := by
  refine F.ok sc_settled_on_wide (fun vs H Q E h => ?_) (fun cdv A outer s0 H vs Q E hr h => ?_)
  · obtain ⟨a, b, d, e, k, rfl, _⟩ := h
    rfl
  · obtain ⟨a, b, d, e, k, rfl, ha, S, hb, T, le, cr, vb, q⟩ := h
    have nd := sc_settled_on_wide.nd
    refine ⟨_, (pss_cons (ps_asg (pv 0) (pg_tup (by rfl) (pgs_cons (pg_name (i := 3) nd rfl (Or.inl rfl)) (pgs_cons (pg_name (i := 4) nd rfl (Or.inl rfl)) (pgs_cons (pg_name (i := 3) nd rfl (Or.inl rfl)) pgs_nil)))))
      (pss_cons (ps_if (pt_cmpR op_lt (pcl Wr hr (by decide) (by rfl) (pa_cons (pv 0) (pa_cons (pcl Wr hr (by decide) (by rfl) (pa_cons (pv 1) (pa_cons (pv 2) pa_nil))) pa_nil))) (pv 2) (nomark _)) (pss_cons (ps_set (i := 5) nd rfl (Or.inl rfl) (pcl Ru hr (by decide) (by rfl) (pa_cons (pcl Mi hr (by decide) (by rfl) (pa_cons (pv 0) pa_nil)) (pa_cons (pcl Mi hr (by decide) (by rfl) (pa_cons (pv 1) pa_nil)) (pa_cons (pe_un un_neg (pv 2)) pa_nil)))))
      (pss_one (ps_ret (pe_tup (pa_cons (pe_op op_sub (pv 2) (pe_op op_mulW (pv 4) (pv 5))) (pa_cons (pv 5) pa_nil)))))) pss_nil)
      (pss_cons (ps_set (i := 5) nd rfl (Or.inl rfl) (pcl Ru hr (by decide) (by rfl) (pa_cons (pv 0) (pa_cons (pv 1) (pa_cons (pv 2) pa_nil)))))
      (pss_one (ps_ret (pe_tup (pa_cons (pe_op op_add (pv 2) (pe_op op_mulW (pv 4) (pv 5))) (pa_cons (pv 5) pa_nil)))))))), ?_⟩
    have s0' := S.s0
    have s1' := S.s1
    have t0' := T.s0
    have t1' := T.s1
    obtain ⟨⟨k1, c1⟩, k2, c2⟩ : (∃ k, Rd d e (atK d k) ≤ atK d k) ∧ ∃ k, atK d k ≤ Rd d e (atK d k) := by
      rcases cr with ⟨z, _⟩ | ⟨z, _⟩ | ⟨_, x⟩
      · omega
      · omega
      · exact x
    have near := due_near (o := e.o) (v := atK d k) T.md t0'
    walk_at "rd"
    refine ⟨a, _, rfl, SqT.of ha, rfl, _, _, rfl, _, _, rfl, _, _, rfl, rfl, ?_⟩
    walk_at "rd"
    refine ⟨b, e.o, e.s, e.m, _, rfl, hb, T, (by unfold Bd; omega), fun H1 s1 => ?_⟩
    refine ⟨a, d.o, d.s, d.m, _, rfl, s1 _ _ ha, S, (by unfold Bd; omega), fun H2 s2 => ?_⟩
    have ha2 := s2 _ _ (s1 _ _ ha)
    have hb2 := s2 _ _ (s1 _ _ hb)
    walk_at "rd"
    refine ite2 (fun z => ?_) (fun z => ?_)
    · have lt : Rd d e (atK d k) < atK d k := of_decide_eq_true z
      walk_at "rd"
      refine ⟨a, d.o, d.s, d.m, rfl, ha2, S, fun m1 H3 s3 n3 h3 => ?_⟩
      walk_at "rd"
      refine ⟨b, e.o, e.s, e.m, rfl, s3 _ _ hb2, T, fun m2 H4 s4 n4 h4 => ?_⟩
      walk_at "rd"
      refine ⟨m1, m2, mirS d, mirS e, -atK d k, rfl, s4 _ _ h3, mirS_side S, h4, mirS_side T, by omega, fun r H5 L s5 => ?_⟩
      walk_at "rd"
      have sA := s1.trans (s2.trans (s3.trans (s4.trans s5)))
      have ea : -atK d k = atK (mirS d) (-k) := by rw [mirS_at, Int.neg_neg]
      cases r with
      | none =>
        exfalso
        have c3 : Rd (mirS d) (mirS e) (atK (mirS d) (-k2)) ≤ atK (mirS d) (-k2) := by
          rw [mirS_at, Int.neg_neg, mirS_Rd S T]
          omega
        obtain ⟨n, hn⟩ := not_creep (mirS_side S) (mirS_side T) c3 (-k)
        rw [← ea] at hn
        exact L n hn
      | some r =>
        have lb := least_bd (mirS_side S) (mirS_side T) (k := -k) (by rw [← ea]; exact L)
        have lb2 : d.s * (r : Int) < 2 ^ 420 := lb
        have r0 : 1 * (r : Int) ≤ d.s * (r : Int) := Int.mul_le_mul_of_nonneg_right s0' (by omega)
        walk_at "rd"
        refine ⟨mulW (by omega) (by omega), ?_⟩
        walk_at "rd"
        refine ⟨(by show 2 ≤ sizeLine; decide), fun p np => ?_⟩
        exact q p _ _ r (sA.free np) (fun b u z => (upd_ne (ne_of_none (sA _ _ z) np)).trans (sA _ _ z)) upd_same (down_set S T le (by omega) L) (by omega)
    · have ge : ¬ Rd d e (atK d k) < atK d k := fun y => z (decide_eq_true y)
      walk_at "rd"
      refine ⟨a, b, d, e, atK d k, rfl, ha2, S, hb2, T, by omega, fun r H5 L s5 => ?_⟩
      walk_at "rd"
      have sA := s1.trans (s2.trans s5)
      cases r with
      | none =>
        exfalso
        obtain ⟨n, hn⟩ := not_creep S T c1 k
        exact L n hn
      | some r =>
        have lb2 := least_bd S T (k := k) L
        have r0 : 1 * (r : Int) ≤ d.s * (r : Int) := Int.mul_le_mul_of_nonneg_right s0' (by omega)
        walk_at "rd"
        refine ⟨mulW (by omega) (by omega), ?_⟩
        walk_at "rd"
        refine ⟨(by show 2 ≤ sizeLine; decide), fun p np => ?_⟩
        exact q p _ _ r (sA.free np) (fun b u z => (upd_ne (ne_of_none (sA _ _ z) np)).trans (sA _ _ z)) upd_same (up_set S T le (by omega) L) (by omega)
end
end HT
namespace HT
open PySem L2
def spSN : Sp := fun vs H Q _ => ∃ (a b : Addr) (d e : Sd) (y : Int), vs = [.ref b, .ref a, .int y] ∧ H a = some (sideV d.o d.s d.m) ∧ SideP d.o d.s d.m ∧ H b = some (sideV e.o e.s e.m) ∧ SideP e.o e.s e.m ∧ e.s ≤ d.s ∧ CreepP d e 0 ∧ (-2 ^ 580 < y ∧ y < 2 ^ 580) ∧ ∀ (T : Addr) (H' : Hp) (E : Int) (r : Nat), H T = none → Same H H' → H' T = some (.tup [.int E, .int (r : Int)]) → Stl (fT e d) y E r → Q (.ref T) H'
def ResP (A B : Sd) (v c : Int) (o : HO) : Prop := (c ≠ 0 ∧ o = .tup [.str "creeps", .int c]) ∨ (c = 0 ∧ ∃ (E : Int) (r : Nat), Stl (fT A B) (dW A v) E r ∧ o = .tup [.str "settles", .int E, .int (r : Int)])
def spSettled : Sp := fun vs H Q _ => ∃ (a b : Addr) (A B : Sd) (v : Int), vs = [.ref a, .ref b, .int v] ∧ H a = some (sideV A.o A.s A.m) ∧ SideP A.o A.s A.m ∧ H b = some (sideV B.o B.s B.m) ∧ SideP B.o B.s B.m ∧ (-2 ^ 570 < v ∧ v < 2 ^ 570) ∧ ∀ (c : Int) (T : Addr) (H' : Hp) (o : HO), CreepP (wdS A B) (nwS A B) c → H T = none → Same H H' → H' T = some o → ResP A B v c o → Q (.ref T) H'
section
variable {P : Program} {w : World} {K : PySem.W.Frag} {mg : Str → Option Value} {base : Heap} {fB fH fI fJ fL fM : Addr} {dB dH dI dJ dL dM : FuncData}
theorem ok_sn {f : Addr} {fd : FuncData} (F : Fun K "_settled_on_narrow" "_settled_on_narrow" s_settled_on_narrow f fd) (SW : Cal P w K mg base "_settled_on_wide" 106 ["wide", "narrow", "value"] spSW fH dH) (Wr : Cal P w K mg base "written" 3 ["side", "value"] spDue fJ dJ) : FnOk P w K mg base CX0 107 f fd ["narrow", "wide", "value"] spSN := by
  refine F.ok sc_settled_on_narrow (fun vs H Q E h => ?_) (fun cdv A outer s0 H vs Q E hr h => ?_)
  · obtain ⟨a, b, d, e, y, rfl, _⟩ := h
    rfl
  · obtain ⟨a, b, d, e, y, rfl, ha, S, hb, T, le, cr, vb, q⟩ := h
    have nd := sc_settled_on_narrow.nd
    refine ⟨_, (pss_cons (ps_asg (pv 1) (pg_tup (by rfl) (pgs_cons (pg_name (i := 3) nd rfl (Or.inl rfl)) (pgs_cons (pg_name (i := 4) nd rfl (Or.inl rfl)) (pgs_cons (pg_name (i := 3) nd rfl (Or.inl rfl)) pgs_nil)))))
      (pss_cons (ps_set (i := 5) nd rfl (Or.inl rfl) (pcl Wr hr (by decide) (by rfl) (pa_cons (pv 1) (pa_cons (pv 2) pa_nil))))
      (pss_cons (ps_asg (pcl SW hr (by decide) (by rfl) (pa_cons (pv 1) (pa_cons (pv 0) (pa_cons (pv 5) pa_nil)))) (pg_tup (by rfl) (pgs_cons (pg_name (i := 6) nd rfl (Or.inl rfl)) (pgs_cons (pg_name (i := 7) nd rfl (Or.inl rfl)) pgs_nil))))
      (pss_cons (ps_set (i := 8) nd rfl (Or.inl rfl) (pcl Wr hr (by decide) (by rfl) (pa_cons (pv 0) (pa_cons (pv 6) pa_nil))))
      (pss_cons (ps_if (pt_cmpR op_gt (pv 6) (pv 5) (nomark _)) (pss_one (ps_set (i := 2) nd rfl (Or.inl rfl) (pcl Wr hr (by decide) (by rfl) (pa_cons (pv 0) (pa_cons (pe_op op_sub (pv 6) (pv 4)) pa_nil))))) pss_nil)
      (pss_cons (ps_if (pt_cmpR op_lt (pv 6) (pv 5) (nomark _)) (pss_one (ps_set (i := 2) nd rfl (Or.inl rfl) (pcl Wr hr (by decide) (by rfl) (pa_cons (pv 0) (pa_cons (pe_op op_add (pv 6) (pv 4)) pa_nil))))) pss_nil)
      (pss_cons (ps_if (pt_cmpR op_eq (pv 2) (pv 8) (nomark _)) (pss_one (ps_ret (pe_tup (pa_cons (pv 8) (pa_cons (pv 7) pa_nil))))) pss_nil)
      (pss_one (ps_ret (pe_tup (pa_cons (pv 8) (pa_cons (pe_op op_add (pv 7) pe_int) pa_nil)))))))))))), ?_⟩
    have s0' := S.s0
    have s1' := S.s1
    have t0' := T.s0
    have t1' := T.s1
    have near := due_near (o := d.o) (v := y) S.md s0'
    walk_at "rd"
    refine ⟨a, _, rfl, SqT.of ha, rfl, _, _, rfl, _, _, rfl, _, _, rfl, rfl, ?_⟩
    walk_at "rd"
    refine ⟨a, d.o, d.s, d.m, y, rfl, ha, S, (by unfold Bd; omega), fun H1 s1 => ?_⟩
    obtain ⟨k, hk⟩ := dW_is d y
    have hk2 : dueM d.o d.s d.m y = atK d k := hk
    have bk : -2 ^ 590 < atK d k ∧ atK d k < 2 ^ 590 := by rw [← hk2]; omega
    walk_at "rd"
    refine ⟨a, b, d, e, k, (by show [V.ref a, V.ref b, V.int (dueM d.o d.s d.m y)] = _; rw [hk2]), s1 _ _ ha, S, s1 _ _ hb, T, le, cr, bk, fun T1 H2 E1 r nT1 s2 hT1 SE bE => ?_⟩
    have ha2 := s2 _ _ (s1 _ _ ha)
    have hb2 := s2 _ _ (s1 _ _ hb)
    have stl := setn_stl (y := y) S (by rw [hk]; exact SE)
    refine ⟨T1, _, rfl, SqT.of hT1, rfl, _, _, rfl, _, _, rfl, rfl, ?_⟩
    walk_at "rd"
    refine ⟨b, e.o, e.s, e.m, E1, rfl, hb2, T, (by unfold Bd; omega), fun H3 s3 => ?_⟩
    have hb3 := s3 _ _ hb2
    have sA := s1.trans (s2.trans s3)
    have fin : ∀ (z : Int) (H' : Hp), Same H H' → z = lastN d e y (dW d y) E1 → ∀ (T : Addr), H' T = none → ∀ (H'' : Hp) (r2 : Nat), Same H' H'' → r2 = (if z = dW e E1 then r else r + 1) → H'' T = some (.tup [.int (dW e E1), .int (r2 : Int)]) → Q (.ref T) H'' := by
      intro z H' sm ez T3 nT H'' r2 sm2 er hT
      refine q T3 H'' (dW e E1) r2 (sm.free nT) (sm.trans sm2) hT ?_
      rw [er, ez]
      exact stl
    clear stl
    walk_at "rd"
    refine ite2 (fun z => ?_) (fun z => ?_)
    · have lt : dW d y < E1 := of_decide_eq_true z
      walk_at "rd"
      refine ⟨b, e.o, e.s, e.m, E1 - d.s, rfl, hb3, T, (by unfold Bd; omega), fun H4 s4 => ?_⟩
      walk_at "rd"
      refine ite2 (fun z2 => (by have z3 : E1 < dW d y := of_decide_eq_true z2; omega)) (fun _ => ?_)
      have ez : dueM e.o e.s e.m (E1 - d.s) = lastN d e y (dW d y) E1 := by unfold lastN; rw [if_pos lt]; rfl
      walk_at "rd"
      refine ⟨rfl, ?_⟩
      walk_at "rd"
      refine ite2 (fun y1 => ?_) (fun y1 => ?_)
      · have ey : dueM e.o e.s e.m (E1 - d.s) = dW e E1 := int_t y1
        walk_at "rd"
        refine ⟨(by show 2 ≤ sizeLine; decide), fun p np => ?_⟩
        exact fin _ H4 (sA.trans s4) ez p np _ r (fun b u z => (upd_ne (ne_of_none z np)).trans z) (by rw [if_pos ey]) upd_same
      · have ey : ¬ dueM e.o e.s e.m (E1 - d.s) = dW e E1 := int_f y1
        walk_at "rd"
        refine ⟨(by show 2 ≤ sizeLine; decide), fun p np => ?_⟩
        exact fin _ H4 (sA.trans s4) ez p np _ (r + 1) (fun b u z => (upd_ne (ne_of_none z np)).trans z) (by rw [if_neg ey]) upd_same
    · have lt : ¬ dW d y < E1 := fun w => z (decide_eq_true w)
      walk_at "rd"
      refine ite2 (fun z2 => ?_) (fun z2 => ?_)
      · have gt : E1 < dW d y := of_decide_eq_true z2
        walk_at "rd"
        refine ⟨b, e.o, e.s, e.m, E1 + d.s, rfl, hb3, T, (by unfold Bd; omega), fun H4 s4 => ?_⟩
        have ez : dueM e.o e.s e.m (E1 + d.s) = lastN d e y (dW d y) E1 := by unfold lastN; rw [if_neg lt, if_pos gt]; rfl
        walk_at "rd"
        refine ⟨rfl, ?_⟩
        walk_at "rd"
        refine ite2 (fun y1 => ?_) (fun y1 => ?_)
        · have ey : dueM e.o e.s e.m (E1 + d.s) = dW e E1 := int_t y1
          walk_at "rd"
          refine ⟨(by show 2 ≤ sizeLine; decide), fun p np => ?_⟩
          exact fin _ H4 (sA.trans s4) ez p np _ r (fun b u z => (upd_ne (ne_of_none z np)).trans z) (by rw [if_pos ey]) upd_same
        · have ey : ¬ dueM e.o e.s e.m (E1 + d.s) = dW e E1 := int_f y1
          walk_at "rd"
          refine ⟨(by show 2 ≤ sizeLine; decide), fun p np => ?_⟩
          exact fin _ H4 (sA.trans s4) ez p np _ (r + 1) (fun b u z => (upd_ne (ne_of_none z np)).trans z) (by rw [if_neg ey]) upd_same
      · have gt : ¬ E1 < dW d y := fun w => z2 (decide_eq_true w)
        have ez : y = lastN d e y (dW d y) E1 := by unfold lastN; rw [if_neg lt, if_neg gt]
        walk_at "rd"
        refine ⟨rfl, ?_⟩
        walk_at "rd"
        refine ite2 (fun y1 => ?_) (fun y1 => ?_)
        · have ey : y = dW e E1 := int_t y1
          walk_at "rd"
          refine ⟨(by show 2 ≤ sizeLine; decide), fun p np => ?_⟩
          exact fin _ H3 sA ez p np _ r (fun b u z => (upd_ne (ne_of_none z np)).trans z) (by rw [if_pos ey]) upd_same
        · have ey : ¬ y = dW e E1 := int_f y1
          walk_at "rd"
          refine ⟨(by show 2 ≤ sizeLine; decide), fun p np => ?_⟩
          exact fin _ H3 sA ez p np _ (r + 1) (fun b u z => (upd_ne (ne_of_none z np)).trans z) (by rw [if_neg ey]) upd_same
theorem ok_settled {f : Addr} {fd : FuncData} (F : Fun K "settled" "settled" s_settled f fd) (Cs : Cal P w K mg base "check_side" 3 ["side"] spCheckSide fB dB) (Cv : Cal P w K mg base "check_value" 2 ["value"] spCheckValue fH dH) (Cr : Cal P w K mg base "_creep" 106 ["first", "second"] spCreep fI dI) (SW : Cal P w K mg base "_settled_on_wide" 106 ["wide", "narrow", "value"] spSW fJ dJ) (SN : Cal P w K mg base "_settled_on_narrow" 107 ["narrow", "wide", "value"] spSN fL dL) (Wr : Cal P w K mg base "written" 3 ["side", "value"] spDue fM dM) : FnOk P w K mg base CX0 108 f fd ["first", "second", "value"] spSettled := by
  refine F.ok sc_settled (fun vs H Q E h => ?_) (fun cdv A outer s0 H vs Q E hr h => ?_)
  · obtain ⟨a, b, A, B, v, rfl, _⟩ := h
    rfl
  · obtain ⟨a, b, A1, B1, v, rfl, ha, S, hb, T, vb, q⟩ := h
    have nd := sc_settled.nd
    refine ⟨_, (pss_cons (ps_expr (pcl Cs hr (by decide) (by rfl) (pa_cons (pv 0) pa_nil)))
      (pss_cons (ps_expr (pcl Cs hr (by decide) (by rfl) (pa_cons (pv 1) pa_nil)))
      (pss_cons (ps_expr (pcl Cv hr (by decide) (by rfl) (pa_cons (pv 2) pa_nil)))
      (pss_cons (ps_set (i := 3) nd rfl (Or.inl rfl) (pcl Cr hr (by decide) (by rfl) (pa_cons (pv 0) (pa_cons (pv 1) pa_nil))))
      (pss_cons (ps_if (pt_cmpR op_ne (pv 3) pe_int (nomark _)) (pss_one (ps_ret (pe_tup (pa_cons pe_str (pa_cons (pv 3) pa_nil))))) pss_nil)
      (pss_cons (ps_set (i := 4) nd rfl (Or.inl rfl) (pcl Wr hr (by decide) (by rfl) (pa_cons (pv 0) (pa_cons (pv 2) pa_nil))))
      (pss_cons (ps_if (pt_cmpR op_gt (pe_ix ix_tup (pv 0) pe_int (fun _ _ => rfl)) (pe_ix ix_tup (pv 1) pe_int (fun _ _ => rfl)) (nomark _)) (pss_one (ps_asg (pcl SW hr (by decide) (by rfl) (pa_cons (pv 0) (pa_cons (pv 1) (pa_cons (pv 4) pa_nil)))) (pg_tup (by rfl) (pgs_cons (pg_name (i := 5) nd rfl (Or.inl rfl)) (pgs_cons (pg_name (i := 6) nd rfl (Or.inl rfl)) pgs_nil))))) (pss_one (ps_asg (pcl SN hr (by decide) (by rfl) (pa_cons (pv 0) (pa_cons (pv 1) (pa_cons (pv 4) pa_nil)))) (pg_tup (by rfl) (pgs_cons (pg_name (i := 5) nd rfl (Or.inl rfl)) (pgs_cons (pg_name (i := 6) nd rfl (Or.inl rfl)) pgs_nil))))))
      (pss_one (ps_ret (pe_tup (pa_cons pe_str (pa_cons (pv 5) (pa_cons (pv 6) pa_nil))))))))))))), ?_⟩
    have s0' := S.s0
    have s1' := S.s1
    have near := due_near (o := A1.o) (v := v) S.md s0'
    walk_at "rd"
    refine ⟨a, _, _, _, rfl, ha, S, ?_⟩
    walk_at "rd"
    refine ⟨b, _, _, _, rfl, hb, T, ?_⟩
    walk_at "rd"
    refine ⟨a, b, A1, B1, rfl, ha, S, hb, T, fun c H1 cr s1 => ?_⟩
    have ha1 := s1 _ _ ha
    have hb1 := s1 _ _ hb
    walk_at "rd"
    refine ⟨rfl, ?_⟩
    walk_at "rd"
    refine ite2 (fun z => ?_) (fun z => ?_)
    · have c0 : c ≠ 0 := fun e => not_t z (decide_eq_true (congrArg V.int e))
      walk_at "rd"
      refine ⟨(by show 2 ≤ sizeLine; decide), fun p np => ?_⟩
      exact q c p _ _ cr (s1.free np) (fun b u z => (upd_ne (ne_of_none (s1 _ _ z) np)).trans (s1 _ _ z)) upd_same (.inl ⟨c0, rfl⟩)
    · have c0 : c = 0 := int_t (not_f z)
      subst c0
      walk_at "rd"
      refine ⟨a, A1.o, A1.s, A1.m, v, rfl, ha1, S, (by unfold Bd; omega), fun H2 s2 => ?_⟩
      have ha2 := s2 _ _ ha1
      have hb2 := s2 _ _ hb1
      have s02 := s1.trans s2
      walk_at "rd"
      refine ⟨a, _, _, _, rfl, rfl, SqT.of ha2, rfl, ?_⟩
      walk_at "rd"
      refine ⟨b, _, _, _, rfl, rfl, SqT.of hb2, rfl, ?_⟩
      walk_at "rd"
      refine ite2 (fun y => ?_) (fun y => ?_)
      · have lt : B1.s < A1.s := of_decide_eq_true y
        obtain ⟨k, hk⟩ := dW_is A1 v
        have hk2 : dueM A1.o A1.s A1.m v = atK A1 k := hk
        have cr2 : CreepP A1 B1 0 := by
          have := cr
          unfold wdS nwS at this
          rw [if_pos lt, if_pos lt] at this
          exact this
        walk_at "rd"
        refine ⟨a, b, A1, B1, k, (by show [V.ref a, V.ref b, V.int (dueM A1.o A1.s A1.m v)] = _; rw [hk2]), ha2, S, hb2, T, by omega, cr2, by rw [← hk2]; omega, fun T1 H3 E1 r nT1 s3 hT1 SE bE => ?_⟩
        have stl : Stl (fT A1 B1) (dW A1 v) E1 r := by rw [hk]; exact setw_stl S SE
        refine ⟨T1, _, rfl, SqT.of hT1, rfl, _, _, rfl, _, _, rfl, rfl, ?_⟩
        walk_at "rd"
        refine ⟨(by show 3 ≤ sizeLine; decide), fun p np => ?_⟩
        have sA := s02.trans s3
        exact q 0 p _ _ cr (sA.free np) (fun b u z => (upd_ne (ne_of_none (sA _ _ z) np)).trans (sA _ _ z)) upd_same (.inr ⟨rfl, E1, r, stl, rfl⟩)
      · have lt : ¬ B1.s < A1.s := fun w => y (decide_eq_true w)
        have cr2 : CreepP B1 A1 0 := by
          have := cr
          unfold wdS nwS at this
          rw [if_neg lt, if_neg lt] at this
          exact this
        walk_at "rd"
        refine ⟨b, a, B1, A1, dueM A1.o A1.s A1.m v, rfl, hb2, T, ha2, S, by omega, cr2, by omega, fun T1 H3 E1 r nT1 s3 hT1 stl => ?_⟩
        refine ⟨T1, _, rfl, SqT.of hT1, rfl, _, _, rfl, _, _, rfl, rfl, ?_⟩
        walk_at "rd"
        refine ⟨(by show 3 ≤ sizeLine; decide), fun p np => ?_⟩
        have sA := s02.trans s3
        exact q 0 p _ _ cr (sA.free np) (fun b u z => (upd_ne (ne_of_none (sA _ _ z) np)).trans (sA _ _ z)) upd_same (.inr ⟨rfl, E1, r, stl, rfl⟩)
theorem ok_pace {f : Addr} {fd : FuncData} (F : Fun K "pace" "pace" s_pace f fd) (Cs : Cal P w K mg base "check_side" 3 ["side"] spCheckSide fB dB) (Cr : Cal P w K mg base "_creep" 106 ["first", "second"] spCreep fI dI) : FnOk P w K mg base CX0 107 f fd ["first", "second"] spCreep := by
  refine F.ok sc_pace (fun vs H Q E h => ?_) (fun cdv A outer s0 H vs Q E hr h => ?_)
  · obtain ⟨a, b, A, B, rfl, _⟩ := h
    rfl
  · obtain ⟨a, b, A1, B1, rfl, ha, S, hb, T, q⟩ := h
    refine ⟨_, (pss_cons (ps_expr (pcl Cs hr (by decide) (by rfl) (pa_cons (pv 0) pa_nil)))
      (pss_cons (ps_expr (pcl Cs hr (by decide) (by rfl) (pa_cons (pv 1) pa_nil)))
      (pss_one (ps_ret (pcl Cr hr (by decide) (by rfl) (pa_cons (pv 0) (pa_cons (pv 1) pa_nil))))))), ?_⟩
    walk_at "rd"
    refine ⟨a, _, _, _, rfl, ha, S, ?_⟩
    walk_at "rd"
    refine ⟨b, _, _, _, rfl, hb, T, ?_⟩
    walk_at "rd"
    exact ⟨a, b, A1, B1, rfl, ha, S, hb, T, q⟩
end
end HT
namespace HT
open PySem L2
/-- settled and pace: no side, or no value -/
def spSetB (K : PySem.W.Frag) (C : Nat → Addr) : Sp := fun vs H _ E => ∃ x y z : V, vs = [x, y, z] ∧ ((BadS K H x ∧ E (.ref (C 0)) none H) ∨ (GoodS H x ∧ BadS K H y ∧ E (.ref (C 0)) none H) ∨ (∃ n, GoodS H x ∧ GoodS H y ∧ Th H z n ∧ isI n = false ∧ E (.ref (C 3)) none H))
def spPacB (K : PySem.W.Frag) (C : Nat → Addr) : Sp := fun vs H _ E => ∃ x y : V, vs = [x, y] ∧ ((BadS K H x ∧ E (.ref (C 0)) none H) ∨ (GoodS H x ∧ BadS K H y ∧ E (.ref (C 0)) none H))
/-- within, meeting, fewest_places: no list of sides, no value, no number -/
def spWiB (K : PySem.W.Frag) (C : Nat → Addr) : Sp := fun vs H _ E => ∃ x y z : V, vs = [x, y, z] ∧ ((BadL K H x ∧ E (.ref (C 1)) none H) ∨ (∃ l xs n, x = .ref l ∧ GoodL H l xs ∧ Th H y n ∧ isI n = false ∧ E (.ref (C 3)) none H) ∨ (∃ l xs n m, x = .ref l ∧ GoodL H l xs ∧ Th H y n ∧ isI n = true ∧ Th H z m ∧ inB z 0 (10 ^ 40) = false ∧ E (.ref (C 4)) none H))
section
variable {P : Program} {w : World} {K : PySem.W.Frag} {mg : Str → Option Value} {base : Heap} {f1 f2 f3 f4 f5 B : Addr} {d1 d2 d3 d4 d5 : FuncData} {C : Nat → Addr}
theorem ok_set_b {f : Addr} {fd : FuncData} (F : Fun K "settled" "settled" s_settled f fd) (Ck : CalX P w K mg base "check_side" 3 ["side"] (spSideX K C) f1 d1) (Vl : CalX P w K mg base "check_value" 2 ["value"] (spValX C) f2 d2) : FnOk P w K mg base (L2.CX P w) 108 f fd ["first", "second", "value"] (spSetB K C) := by
  refine F.okAny sc_settled (fun vs H Q E h => ?_) (fun cdv A outer s0 H vs Q E hr h => ?_)
  · obtain ⟨x, y, z, rfl, _⟩ := h
    rfl
  · obtain ⟨x, y, z, rfl, h⟩ := h
    refine ⟨_, pss_cons (ps_expr (pcx Ck hr (by decide) (by rfl) (takes_of rfl rfl rfl rfl) (pa_cons (pv 0) pa_nil)))
      (pss_cons (ps_expr (pcx Ck hr (by decide) (by rfl) (takes_of rfl rfl rfl rfl) (pa_cons (pv 1) pa_nil)))
      (pss_cons (ps_expr (pcx Vl hr (by decide) (by rfl) (takes_of rfl rfl rfl rfl) (pa_cons (pv 2) pa_nil)))
      (pss_cons ps_never (pss_cons ps_never (pss_cons ps_never (pss_cons ps_never (pss_one ps_never))))))), ?_⟩
    walk_at "rd"
    rcases h with ⟨bx, e⟩ | ⟨gx, by_, e⟩ | ⟨n, gx, gy, tz, iz, e⟩
    · exact .inr ⟨bx, e⟩
    · refine .inl ⟨gx, ?_⟩
      walk_at "rd"
      exact .inr ⟨by_, e⟩
    · refine .inl ⟨gx, ?_⟩
      walk_at "rd"
      refine .inl ⟨gy, ?_⟩
      walk_at "rd"
      exact ⟨z, n, rfl, tz, (fun i => by rw [i] at iz; cases iz), fun _ => e⟩
theorem ok_pac_b {f : Addr} {fd : FuncData} (F : Fun K "pace" "pace" s_pace f fd) (Ck : CalX P w K mg base "check_side" 3 ["side"] (spSideX K C) f1 d1) : FnOk P w K mg base (L2.CX P w) 107 f fd ["first", "second"] (spPacB K C) := by
  refine F.okAny sc_pace (fun vs H Q E h => ?_) (fun cdv A outer s0 H vs Q E hr h => ?_)
  · obtain ⟨x, y, rfl, _⟩ := h
    rfl
  · obtain ⟨x, y, rfl, h⟩ := h
    refine ⟨_, pss_cons (ps_expr (pcx Ck hr (by decide) (by rfl) (takes_of rfl rfl rfl rfl) (pa_cons (pv 0) pa_nil)))
      (pss_cons (ps_expr (pcx Ck hr (by decide) (by rfl) (takes_of rfl rfl rfl rfl) (pa_cons (pv 1) pa_nil)))
      (pss_one ps_never)), ?_⟩
    walk_at "rd"
    rcases h with ⟨bx, e⟩ | ⟨gx, by_, e⟩
    · exact .inr ⟨bx, e⟩
    · refine .inl ⟨gx, ?_⟩
      walk_at "rd"
      exact .inr ⟨by_, e⟩
theorem ok_wi_b {f : Addr} {fd : FuncData} (F : Fun K "within" "within" s_within f fd) (G : LimG mg) (R : Er K mg C B) (Ls : CalX P w K mg base "check_sides" 5 ["sides"] (spSidesX K C) f1 d1) (Vl : CalX P w K mg base "check_value" 2 ["value"] (spValX C) f2 d2) (Bw : Cal P w K mg base "is_int_between" 2 ["thing", "least", "most"] spBetAny f3 d3) : FnOk P w K mg base (L2.CX P w) 6 f fd ["sides", "value", "many"] (spWiB K C) := by
  refine F.okAny sc_within (fun vs H Q E h => ?_) (fun cdv A outer s0 H vs Q E hr h => ?_)
  · obtain ⟨x, y, z, rfl, _⟩ := h
    rfl
  · obtain ⟨x, y, z, rfl, h⟩ := h
    obtain ⟨tmn, hmn⟩ := G.mn
    refine ⟨_, pss_cons (ps_expr (pcx Ls hr (by decide) (by rfl) (takes_of rfl rfl rfl rfl) (pa_cons (pv 0) pa_nil)))
      (pss_cons (ps_expr (pcx Vl hr (by decide) (by rfl) (takes_of rfl rfl rfl rfl) (pa_cons (pv 1) pa_nil)))
      (pss_cons (ps_if (pt_not (pt_val (pcl Bw hr (by decide) (by rfl) (pa_cons (pv 2) (pa_cons pe_int (pa_cons (pe_glob (v := .int (10 ^ 40)) (by rfl) hmn ⟨_, rfl⟩) pa_nil)))))) (pss_one (ps_raise rfl (takes_of rfl rfl rfl rfl) (pmk_own PySem.F.excBase_ValueError (R.ex 4 (by decide)) R.g4 (R.kp 4 (by decide)) (raises_own (R.sb 4 (by decide)) (R.ty 4 (by decide))) (by rfl)))) pss_nil)
      (pss_cons ps_never (pss_one ps_never)))), ?_⟩
    walk_at "rd"
    rcases h with ⟨bx, e⟩ | ⟨l, xs, n, rfl, gx, ty, iy, e⟩ | ⟨l, xs, n, m, rfl, gx, ty, iy, tz, bz, e⟩
    · exact .inr ⟨bx, e⟩
    · refine .inl ⟨l, xs, rfl, gx, ?_⟩
      walk_at "rd"
      exact ⟨y, n, rfl, ty, (fun i => by rw [i] at iy; cases iy), fun _ => e⟩
    · refine .inl ⟨l, xs, rfl, gx, ?_⟩
      walk_at "rd"
      refine ⟨y, n, rfl, ty, (fun _ => ?_), (fun i => by rw [i] at iy; cases iy)⟩
      walk_at "rd"
      refine ⟨z, m, _, _, rfl, tz, ?_⟩
      rw [bz]
      refine ⟨_, rfl, ?_⟩
      refine ite2 (fun _ => ?_) (fun z => absurd rfl z)
      exact e
end
end HT
namespace HT
open PySem L2
/-- no side raises the value -/
theorem in_period {c x : Int} (hc : 0 < c) : ∃ y t : Int, x = y + c * t ∧ 0 ≤ y ∧ y < c := by
  refine ⟨x % c, x / c, ?_, Int.emod_nonneg _ (by omega), Int.emod_lt_of_pos _ hc⟩
  have := Int.emod_add_mul_ediv x c
  omega
end HT
namespace HT
open PySem L2
theorem same_upd {H : Hp} {a : Addr} {o : HO} (h : H a = none) : Same H (upd H a o) := fun b u z => (upd_ne (ne_of_none z h)).trans z
theorem at0 {x : V} {xs : List V} : atI (x :: xs) 0 = some x := by
  unfold atI ixN
  rw [if_pos (by decide), if_pos (by rw [List.length_cons]; omega)]
  rfl
def sd0 : Sd := ⟨0, 1, "down"⟩
def wD (d : Sd) (x : Int) : Int := dueM d.o d.s d.m x
def upsL (ss : List Sd) (v : Int) : List Nat := (List.range ss.length).filter fun t => decide (v < wD (ss.getD t sd0) v)
def dnsL (ss : List Sd) (v : Int) : List Nat := (List.range ss.length).filter fun t => decide (wD (ss.getD t sd0) v < v)
/-- a side is the only one that raises, or lowers, a value -/
def HitN (ss : List Sd) (v : Int) (i : Nat) : Prop := upsL ss v = [i] ∨ dnsL ss v = [i]
def NeedN (ss : List Sd) (i : Nat) : Prop := ∃ v : Nat, v < comN ss ∧ HitN ss v i
def UnnIs (ss : List Sd) (ns : List Nat) : Prop := (ss.length = 1 ∧ ns = []) ∨ (ss.length ≠ 1 ∧ ns.Pairwise (· < ·) ∧ ∀ i, i ∈ ns ↔ i < ss.length ∧ ¬ NeedN ss i)
def spUnn : Sp := fun vs H Q _ => ∃ (l : Addr) (xs : List V) (ss : List Sd), vs = [.ref l] ∧ SidesAt H l xs ss ∧ comN ss ≤ 20000 ∧ ∀ (L : Addr) (H' : Hp) (ns : List Nat), H L = none → Same H H' → H' L = some (.lst (ns.map nV)) → UnnIs ss ns → Q (.ref L) H'
structure UnG (mg : Str → Option Value) : Prop where
  len : mg "len" = none
  range : mg "range" = none
  enum : mg "enumerate" = none
  mp : ∃ t, mg "MOST_PERIOD_OF_ALL" = some (.int 20000 t)
theorem filt_snoc (p : Nat → Bool) (j : Nat) : (List.range (j + 1)).filter p = (List.range j).filter p ++ (if p j = true then [j] else []) := by
  rw [List.range_succ, List.filter_append, List.filter_cons]
  rfl
/-- the dict of the needed ones -/
def NdK (ss : List Sd) (kvs : List (Key × V)) (i : Nat) : Prop := kvs.length ≤ 2 * i ∧ ∀ n : Nat, (valV kvs (.inl (n : Int))).isSome = true ↔ ∃ v : Nat, v < i ∧ HitN ss v n
def hitK (kvs : List (Key × V)) (L : List Nat) : List (Key × V) := match L with
  | [n] => putK kvs (.inl (n : Int)) (.bl true)
  | _ => kvs
theorem hit_no {kvs : List (Key × V)} {L : List Nat} (h : L.length ≠ 1) : hitK kvs L = kvs := by
  unfold hitK
  split
  · exact absurd rfl h
  · rfl
theorem hit_len (kvs : List (Key × V)) (L : List Nat) : (hitK kvs L).length ≤ kvs.length + 1 := by
  unfold hitK
  split
  · exact length_putK _ _ _
  · omega
theorem hit_some (kvs : List (Key × V)) (L : List Nat) (n : Nat) : (valV (hitK kvs L) (.inl (n : Int))).isSome = true ↔ (valV kvs (.inl (n : Int))).isSome = true ∨ L = [n] := by
  unfold hitK
  split
  · rename_i m
    rw [valV_put]
    by_cases e : (Sum.inl (n : Int) : Key) = .inl (m : Int)
    · have : n = m := by injection e with e; omega
      rw [if_pos e, this]
      exact ⟨fun _ => .inr rfl, fun _ => rfl⟩
    · rw [if_neg e]
      exact ⟨.inl, fun h => h.elim id fun h => absurd (by injection h with h; rw [h]) e⟩
  · rename_i no
    exact ⟨.inl, fun h => h.elim id fun h => absurd h (no n)⟩
theorem NdK.step {ss : List Sd} {kvs : List (Key × V)} {i : Nat} (h : NdK ss kvs i) : NdK ss (hitK (hitK kvs (upsL ss i)) (dnsL ss i)) (i + 1) := by
  obtain ⟨l, k⟩ := h
  have a := hit_len kvs (upsL ss i)
  have b := hit_len (hitK kvs (upsL ss i)) (dnsL ss i)
  refine ⟨by omega, fun n => ?_⟩
  rw [hit_some, hit_some, k]
  constructor
  · rintro ((⟨v, a, b⟩ | h) | h)
    · exact ⟨v, by omega, b⟩
    · exact ⟨i, by omega, .inl h⟩
    · exact ⟨i, by omega, .inr h⟩
  · rintro ⟨v, hv, hb⟩
    by_cases e : v = i
    · subst e
      exact hb.elim (fun h => .inl (.inr h)) .inr
    · exact .inl (.inl ⟨v, by omega, hb⟩)
section
variable {P : Program} {w : World} {K : PySem.W.Frag} {mg : Str → Option Value} {base : Heap} {f1 f2 f3 f4 : Addr} {d1 d2 d3 d4 : FuncData}
theorem ok_unneeded {f : Addr} {fd : FuncData} (F : Fun K "unneeded" "unneeded" s_unneeded f fd) (G : UnG mg) (Sd' : Cal P w K mg base "check_sides" 5 ["sides"] spSides f1 d1) (Pe : Cal P w K mg base "common_period" 2 ["sides"] spPer f2 d2) (Wr : Cal P w K mg base "written" 3 ["side", "value"] spDue f3 d3) : FnOk P w K mg base CX0 6 f fd ["sides"] spUnn := by
  refine F.ok sc_unneeded (fun vs H Q E h => ?_) (fun cdv A outer s0 H vs Q E hr h => ?_)
  · obtain ⟨l, xs, ss, rfl, _⟩ := h
    rfl
  · obtain ⟨l, xs, ss, rfl, SS, c2, q⟩ := h
    have nd := sc_unneeded.nd
    obtain ⟨tmp, hmp⟩ := G.mp
    have hen := G.enum
    refine ⟨_, (pss_cons (ps_expr (pcl Sd' hr (by decide) (by rfl) (pa_cons (pv 0) pa_nil)))
      (pss_cons (ps_set (i := 1) nd rfl (Or.inl rfl) (pcl Pe hr (by decide) (by rfl) (pa_cons (pv 0) pa_nil)))
      (pss_cons (ps_if (pt_cmpR op_gt (pv 1) (pe_glob (v := .int 20000) (by rfl) hmp ⟨_, rfl⟩) (nomark _)) (pss_one ps_never) pss_nil)
      (pss_cons (ps_if (pt_cmpR op_eq (pe_callB call_len_seq (by rfl) G.len PySem.boot_len (pa_cons (pv 0) pa_nil)) pe_int (nomark _)) (pss_one (ps_ret (pe_lst pa_nil))) pss_nil)
      (pss_cons (ps_set (i := 2) nd rfl (Or.inr rfl) pe_dnewK)
      (pss_cons (ps_for PassesOwn.never rfl (pi_range1 (by rfl) G.range (pa_cons (pv 1) pa_nil)) (pg_name (i := 3) nd rfl (Or.inr rfl)) (pss_cons (ps_setLc (i := 5) (own := [("side", 4)]) (g := gName 4) (tt := tYes) rfl nd rfl rfl (sw_true rfl rfl rfl (by decide +kernel)) (pi_list (pv 0)) (blkOk_by (N := ["sides", "many", "needed", "value", "side", "worths", "number", "worth", "raising", "lowering", "numbers"]) (sc := defScope s_unneeded) (by decide +kernel)) (fun _ _ _ _ _ => pg_name (i := 4) nd rfl (Or.inl rfl)) (fun _ _ _ _ _ => pts_nil) (fun _ _ _ _ _ => (pcl Wr hr (by decide) (by rfl) (pa_cons (pv 4) (pa_cons (pv 3) pa_nil)))))
      (pss_cons (ps_setLc (i := 8) (own := [("number", 6), ("worth", 7)]) (g := (gTup K 2 (gCons (gName 6) (gCons (gName 7) gNil)))) rfl nd rfl rfl (sw_true rfl rfl rfl (by decide +kernel)) (pi_enum (by rfl) hen (pa_cons (pv 5) pa_nil)) (blkOk_by (N := ["sides", "many", "needed", "value", "side", "worths", "number", "worth", "raising", "lowering", "numbers"]) (sc := defScope s_unneeded) (by decide +kernel)) (fun _ _ _ _ _ => pg_tup (by rfl) (pgs_cons (pg_name (i := 6) nd rfl (Or.inl rfl)) (pgs_cons (pg_name (i := 7) nd rfl (Or.inl rfl)) pgs_nil))) (fun _ _ _ _ _ => (pts_one (pt_cmpR op_gt (pv 7) (pv 3) (nomark _)))) (fun _ _ _ _ _ => (pv 6)))
      (pss_cons (ps_setLc (i := 9) (own := [("number", 6), ("worth", 7)]) (g := (gTup K 2 (gCons (gName 6) (gCons (gName 7) gNil)))) rfl nd rfl rfl (sw_true rfl rfl rfl (by decide +kernel)) (pi_enum (by rfl) hen (pa_cons (pv 5) pa_nil)) (blkOk_by (N := ["sides", "many", "needed", "value", "side", "worths", "number", "worth", "raising", "lowering", "numbers"]) (sc := defScope s_unneeded) (by decide +kernel)) (fun _ _ _ _ _ => pg_tup (by rfl) (pgs_cons (pg_name (i := 6) nd rfl (Or.inl rfl)) (pgs_cons (pg_name (i := 7) nd rfl (Or.inl rfl)) pgs_nil))) (fun _ _ _ _ _ => (pts_one (pt_cmpR op_lt (pv 7) (pv 3) (nomark _)))) (fun _ _ _ _ _ => (pv 6)))
      (pss_one (ps_for PassesOwn.never rfl (pi_tup (pe_tup (pa_cons (pv 8) (pa_cons (pv 9) pa_nil)))) (pg_name (i := 10) nd rfl (Or.inl rfl)) (pss_one (ps_if (pt_cmpR op_eq (pe_callB call_len_seq (by rfl) G.len PySem.boot_len (pa_cons (pv 10) pa_nil)) pe_int (nomark _)) (pss_one (ps_dput (lt1 hr.units) (pv 2) (pe_ix ix_list (pv 10) pe_int (fun _ _ => rfl)) pe_bl rfl)) pss_nil))))))))
      (pss_one (ps_ret (pe_lc (own := [("number", 6)]) (g := gName 6) rfl nd (pi_range1 (by rfl) G.range (pa_cons (pe_callB call_len_seq (by rfl) G.len PySem.boot_len (pa_cons (pv 0) pa_nil)) pa_nil)) (blkOk_by (N := ["sides", "many", "needed", "value", "side", "worths", "number", "worth", "raising", "lowering", "numbers"]) (sc := defScope s_unneeded) (by decide +kernel)) (fun _ _ _ _ _ => pg_name (i := 6) nd rfl (Or.inl rfl)) (fun _ _ _ _ _ => (pts_one (pt_cmp (pc_dnotin (lt1 hr.units) (pv 6) (pv 2)) (by rfl)))) (fun _ _ _ _ _ => (pv 6))))))))))), ?_⟩
    have l1 := SS.l1
    have l4 := SS.l4
    have ln := SS.len
    walk_at "rd"
    refine ⟨l, xs, ss, rfl, SS, ?_⟩
    walk_at "rd"
    refine ⟨l, xs, ss, rfl, SS, ?_⟩
    walk_at "rd"
    refine ite2 (fun z => absurd (of_decide_eq_true z) (by omega)) (fun _ => ?_)
    walk_at "rd"
    refine ⟨l, _, rfl, .inl (SqL.of SS.hl), ?_⟩
    walk_at "rd"
    refine ⟨rfl, _, rfl, ?_⟩
    refine ite2 (fun z => ?_) (fun z => ?_)
    · walk_at "rd"
      refine ⟨(by show 0 ≤ sizeLine; decide), fun L nL => ?_⟩
      have e1 : (xs.length : Int) = 1 := int_t z
      exact q L _ [] nL (same_upd nL) upd_same (.inl ⟨by omega, rfl⟩)
    have n1 : ss.length ≠ 1 := fun e => int_f z (by omega)
    walk_at "rd"
    intro d nd0
    have gd : upd H d (.dK []) d = some (.dK []) := upd_same
    have sd : Same H (upd H d (.dK [])) := same_upd nd0
    generalize upd H d (.dK []) = H1 at gd sd ⊢
    walk_at "rd"
    refine ⟨by omega, by omega, ?_⟩
    rw [Int.toNat_natCast]
    refine for_range (n := comN ss) (fun i st H' => ∃ (x3 x4 x5 x6 x7 x8 x9 x10 : Option V) (kvs : List (Key × V)), st = [some (.ref l), some (.int (comN ss : Int)), some (.ref d), x3, x4, x5, x6, x7, x8, x9, x10] ∧ H' d = some (.dK kvs) ∧ NdK ss kvs i ∧ ∀ b o, H b = some o → H' b = some o)
      ⟨none, none, none, none, none, none, none, none, [], rfl, gd, ⟨Nat.zero_le _, fun n => ⟨fun z => Bool.noConfusion z, fun ⟨v, a, _⟩ => absurd a (Nat.not_lt_zero _)⟩⟩, sd⟩ ?_ ?_
    · rintro i st H' hi ⟨x3, x4, x5, x6, x7, x8, x9, x10, kvs, rfl, hd, nk, sm⟩
      have SS' := SS.same sm
      walk_at "rd"
      have ei : (0 : Int) + (i : Int) = (i : Int) := Int.zero_add _
      rw [ei]
      refine ⟨⟨_, SqL.of SS'.hl⟩, fun D nD => ?_⟩
      refine lc_list (K := K) (a := l) (xs := xs) (fun j H3 => H3 D = some (.lst ((ss.take j).map fun d => V.int (wD d (i : Int)))) ∧ Same H' H3) ⟨upd_same, same_upd nD⟩ (fun _ _ _ ⟨_, s3⟩ => SqL.of (SS'.same s3).hl) ?_ ?_
      · rintro j y H3 hy ⟨hD, s3⟩
        obtain ⟨e, p2, ed, rfl, hp2, sp2⟩ := (SS'.same s3).item hy
        refine ⟨rfl, ?_⟩
        walk_at "rd"
        refine ⟨p2, e.o, e.s, e.m, (i : Int), rfl, hp2, sp2, (by unfold Bd; omega), fun H4 s4 => ?_⟩
        refine ⟨_, s4 _ _ hD, ?_, ?_, fun b u z => (upd_ne (ne_of_none z nD)).trans (s4 _ _ (s3 _ _ z))⟩
        · rw [List.length_map, List.length_take]
          exact Nat.lt_of_le_of_lt (Nat.le_trans (Nat.min_le_right _ _) SS.l4) (by decide)
        · rw [List.take_succ, ed, List.map_append]
          exact upd_same
      rintro H2 ⟨hD, s2⟩
      rw [ln, List.take_length] at hD
      walk_at "rd"
      refine ⟨D, _, rfl, SqL.of hD, fun D2 nD2 => ?_⟩
      refine lc_it (walk_enum (K := K) (a := D) (xs := ss.map fun d => V.int (wD d (i : Int)))) (fun j H3 => H3 D2 = some (.lst (((List.range j).filter fun t => decide ((i : Int) < wD (ss.getD t sd0) (i : Int)))  |>.map nV)) ∧ Same H2 H3) ⟨upd_same, same_upd nD2⟩ (fun _ _ _ ⟨_, s3⟩ => SqL.of (s3 _ _ hD)) ?_ ?_
      · rintro j y H3 H4 hj ⟨hE, s3⟩ ⟨T, z1, z2, rfl, nT, rfl, e1, e2⟩
        cases e1
        rw [List.length_map] at hj
        obtain ⟨e, ed, rfl⟩ : ∃ e, ss[j]? = some e ∧ z2 = V.int (wD e (i : Int)) := by
          have e3 : (ss.map fun d => V.int (wD d (i : Int)))[j]? = some z2 := e2
          rw [List.getElem?_map] at e3
          obtain ⟨d, a, b⟩ := Option.map_eq_some_iff.mp e3
          exact ⟨d, a, b.symm⟩
        have wT : Same H3 (upd H3 T (.tup [.int (j : Nat), .int (wD e (i : Int))])) := same_upd nT
        have gT : upd H3 T (.tup [.int (j : Nat), .int (wD e (i : Int))]) T = some (.tup [.int (j : Nat), .int (wD e (i : Int))]) := upd_same
        generalize upd H3 T (.tup [.int (j : Nat), .int (wD e (i : Int))]) = H4 at wT gT ⊢
        refine ⟨T, _, rfl, SqT.of gT, rfl, _, _, rfl, _, _, rfl, rfl, ?_⟩
        refine ⟨rfl, ?_⟩
        walk_at "rd"
        have gd' : ss.getD j sd0 = e := by rw [List.getD_eq_getElem?_getD, ed]; rfl
        rw [filt_snoc, gd']
        refine ite2 (fun z => ?_) (fun z => ?_)
        · walk_at "rd"
          refine ⟨_, wT _ _ hE, ?_, ?_, fun b u y => (upd_ne (ne_of_none y nD2)).trans (wT _ _ (s3 _ _ y))⟩
          · rw [List.length_map]
            refine Nat.lt_of_le_of_lt (List.length_filter_le _ _) ?_
            rw [List.length_range]
            exact Nat.lt_of_lt_of_le (by omega : j < 4) (by decide)
          · rw [if_pos z, List.map_append]
            exact upd_same
        · rw [if_neg z, List.append_nil]
          exact ⟨wT _ _ hE, fun b u y => wT _ _ (s3 _ _ y)⟩
      rintro H5 ⟨hD2, sH5⟩
      rw [List.length_map] at hD2
      walk_at "rd"
      have hD5 := sH5 _ _ hD
      refine ⟨D, _, rfl, SqL.of hD5, fun D3 nD3 => ?_⟩
      refine lc_it (walk_enum (K := K) (a := D) (xs := ss.map fun d => V.int (wD d (i : Int)))) (fun j H3 => H3 D3 = some (.lst (((List.range j).filter fun t => decide (wD (ss.getD t sd0) (i : Int) < (i : Int)))  |>.map nV)) ∧ Same H5 H3) ⟨upd_same, same_upd nD3⟩ (fun _ _ _ ⟨_, s3⟩ => SqL.of (s3 _ _ hD5)) ?_ ?_
      · rintro j y H3 H4 hj ⟨hE, s3⟩ ⟨T, z1, z2, rfl, nT, rfl, e1, e2⟩
        cases e1
        rw [List.length_map] at hj
        obtain ⟨e, ed, rfl⟩ : ∃ e, ss[j]? = some e ∧ z2 = V.int (wD e (i : Int)) := by
          have e3 : (ss.map fun d => V.int (wD d (i : Int)))[j]? = some z2 := e2
          rw [List.getElem?_map] at e3
          obtain ⟨d, a, b⟩ := Option.map_eq_some_iff.mp e3
          exact ⟨d, a, b.symm⟩
        have wT : Same H3 (upd H3 T (.tup [.int (j : Nat), .int (wD e (i : Int))])) := same_upd nT
        have gT : upd H3 T (.tup [.int (j : Nat), .int (wD e (i : Int))]) T = some (.tup [.int (j : Nat), .int (wD e (i : Int))]) := upd_same
        generalize upd H3 T (.tup [.int (j : Nat), .int (wD e (i : Int))]) = H4 at wT gT ⊢
        refine ⟨T, _, rfl, SqT.of gT, rfl, _, _, rfl, _, _, rfl, rfl, ?_⟩
        refine ⟨rfl, ?_⟩
        walk_at "rd"
        have gd' : ss.getD j sd0 = e := by rw [List.getD_eq_getElem?_getD, ed]; rfl
        rw [filt_snoc, gd']
        refine ite2 (fun z => ?_) (fun z => ?_)
        · walk_at "rd"
          refine ⟨_, wT _ _ hE, ?_, ?_, fun b u y => (upd_ne (ne_of_none y nD3)).trans (wT _ _ (s3 _ _ y))⟩
          · rw [List.length_map]
            refine Nat.lt_of_le_of_lt (List.length_filter_le _ _) ?_
            rw [List.length_range]
            exact Nat.lt_of_lt_of_le (by omega : j < 4) (by decide)
          · rw [if_pos z, List.map_append]
            exact upd_same
        · rw [if_neg z, List.append_nil]
          exact ⟨wT _ _ hE, fun b u y => wT _ _ (s3 _ _ y)⟩
      rintro H6 ⟨hD3, sH6⟩
      rw [List.length_map] at hD3
      walk_at "rd"
      have hD26 := sH6 _ _ hD2
      refine ⟨(by show 2 ≤ sizeLine; decide), fun T2 nT2 => ?_⟩
      have gT2 : upd H6 T2 (.tup [.ref D2, .ref D3]) T2 = some (.tup [.ref D2, .ref D3]) := upd_same
      have sT2 : Same H6 (upd H6 T2 (.tup [.ref D2, .ref D3])) := same_upd nT2
      generalize upd H6 T2 (.tup [.ref D2, .ref D3]) = H7 at gT2 sT2 ⊢
      have sA : Same H' H7 := s2.trans (sH5.trans (sH6.trans sT2))
      have hd7 := sA _ _ hd
      have hu7 : H7 D2 = some (.lst ((upsL ss (i : Int)).map nV)) := sT2 _ _ hD26
      have hn7 : H7 D3 = some (.lst ((dnsL ss (i : Int)).map nV)) := sT2 _ _ hD3
      walk_at "rd"
      refine ⟨⟨_, SqT.of gT2⟩, ?_⟩
      obtain ⟨kv, k0, k1, k2⟩ : ∃ kv : Nat → List (Key × V), kv 0 = kvs ∧ kv 1 = hitK kvs (upsL ss (i : Int)) ∧ kv 2 = hitK (hitK kvs (upsL ss (i : Int))) (dnsL ss (i : Int)) := ⟨fun j => match j with | 0 => kvs | 1 => hitK kvs (upsL ss (i : Int)) | _ => hitK (hitK kvs (upsL ss (i : Int))) (dnsL ss (i : Int)), rfl, rfl, rfl⟩
      have nkl := nk.1
      have nT2d : T2 ≠ d := (ne_of_none ((s2.trans (sH5.trans sH6)) _ _ hd) nT2).symm
      have nD2d : D2 ≠ d := (ne_of_none (s2 _ _ hd) nD2).symm
      have nD3d : D3 ≠ d := (ne_of_none ((s2.trans sH5) _ _ hd) nD3).symm
      refine for_tup (K := K) (a := T2) (xs := [.ref D2, .ref D3]) (fun j st H8 => ∃ x10 : Option V, st = [some (.ref l), some (.int (comN ss : Int)), some (.ref d), some (.int (i : Int)), x4, some (.ref D), x6, x7, some (.ref D2), some (.ref D3), x10] ∧ H8 d = some (.dK (kv j)) ∧ (kv j).length ≤ 2 * i + j ∧ ∀ b o, b ≠ d → H7 b = some o → H8 b = some o)
        ⟨_, rfl, by rw [k0]; exact hd7, by rw [k0]; exact nkl, fun b o _ h => h⟩ (fun _ _ _ _ ⟨_, _, _, _, s8⟩ => SqT.of (s8 _ _ nT2d gT2)) ?_ ?_
      · rintro j y st H8 ey ⟨y10, rfl, hd8, lk, s8⟩
        obtain ⟨Dx, L, rfl, hx, ek, jl⟩ : ∃ (Dx : Addr) (L : List Nat), y = .ref Dx ∧ H8 Dx = some (.lst (L.map nV)) ∧ kv (j + 1) = hitK (kv j) L ∧ j < 2 := by
          match j, ey with
          | 0, ey => cases ey; exact ⟨D2, _, rfl, s8 _ _ nD2d hu7, by rw [k1, k0], by decide⟩
          | 1, ey => cases ey; exact ⟨D3, _, rfl, s8 _ _ nD3d hn7, by rw [k2, k1], by decide⟩
          | j + 2, ey => cases ey
        have hl := hit_len (kv j) L
        rw [← ek] at hl
        walk_at "rd"
        refine ⟨Dx, _, rfl, .inl (SqL.of hx), ?_⟩
        walk_at "rd"
        refine ⟨rfl, _, rfl, ?_⟩
        refine ite2 (fun z => ?_) (fun z => ?_)
        · have e1 : ((L.map nV).length : Int) = 1 := int_t z
          rw [List.length_map] at e1
          obtain ⟨n, rfl⟩ : ∃ n, L = [n] := by
            match L, e1 with
            | [n], _ => exact ⟨n, rfl⟩
            | [], e => exact absurd e (by decide)
            | _ :: _ :: _, e => rw [List.length_cons, List.length_cons] at e; omega
          walk_at "rd"
          refine ⟨Dx, _, _, _, rfl, rfl, SqL.of hx, at0, ?_⟩
          refine ⟨d, _, rfl, DPut.k (k := .inl (n : Int)) hd8 (Nat.lt_of_lt_of_le (by omega : _ < 100000) (by decide)), ?_⟩
          exact ⟨_, rfl, by rw [ek]; exact upd_same, by omega, fun b o nb hb => (upd_ne nb).trans (s8 _ _ nb hb)⟩
        · have e1 : L.length ≠ 1 := fun e => int_f z (by rw [List.length_map, e]; rfl)
          exact ⟨_, rfl, by rw [ek, hit_no e1]; exact hd8, by omega, s8⟩
      rintro st H8 ⟨y10, rfl, hd8, lk, s8⟩
      refine ⟨_, _, _, _, _, _, _, _, _, rfl, hd8, ?_, fun b o hb => s8 _ _ (ne_of_none hb nd0) (sA _ _ (sm _ _ hb))⟩
      have := nk.step
      rw [← k2] at this
      exact this
    rintro st H' ⟨x3, x4, x5, x6, x7, x8, x9, x10, kvs, rfl, hd, nk, sm⟩
    walk_at "rd"
    refine ⟨l, _, rfl, .inl (SqL.of (sm _ _ SS.hl)), ?_⟩
    walk_at "rd"
    refine ⟨by omega, by omega, fun L nL => ?_⟩
    rw [Int.toNat_natCast]
    refine lc_range (fun j Hj => Hj L = some (.lst (((List.range j).filter fun t : Nat => !(valV kvs (.inl (t : Int))).isSome).map nV)) ∧ Same H' Hj) ⟨upd_same, same_upd nL⟩ ?_ ?_
    · rintro j Hj hj ⟨hL, sj⟩
      refine ⟨rfl, ?_⟩
      walk_at "rd"
      have ej : (0 : Int) + (j : Int) = (j : Int) := Int.zero_add _
      rw [ej]
      refine ⟨d, _, rfl, DGet.k (k := Sum.inl (j : Int)) (sj _ _ hd), ?_⟩
      rw [filt_snoc]
      refine ⟨_, rfl, ?_⟩
      refine ite2 (fun z => ?_) (fun z => ?_)
      · have z' : (!(valV kvs (.inl (j : Int))).isSome) = true := z
        walk_at "rd"
        refine ⟨_, hL, ?_, ?_, fun b u y => (upd_ne (ne_of_none y nL)).trans (sj _ _ y)⟩
        · rw [List.length_map]
          refine Nat.lt_of_le_of_lt (List.length_filter_le _ _) ?_
          rw [List.length_range]
          exact Nat.lt_of_lt_of_le (by omega : j < 5) (by decide)
        · rw [if_pos z', List.map_append]
          exact upd_same
      · have z' : ¬ (!(valV kvs (.inl (j : Int))).isSome) = true := z
        rw [if_neg z', List.append_nil]
        exact ⟨hL, sj⟩
    rintro H2 ⟨hL, s2⟩
    have sm' : Same H H' := sm
    refine q L H2 _ (sm'.free nL) (sm'.trans s2) hL (.inr ⟨n1, List.Pairwise.filter _ List.pairwise_lt_range, fun i => ?_⟩)
    show _ ↔ i < ss.length ∧ ¬ (∃ v : Nat, v < comN ss ∧ HitN ss v i)
    rw [List.mem_filter, List.mem_range, ← nk.2 i, ln]
    cases (valV kvs (.inl (i : Int))).isSome <;> simp
end
end HT
namespace HT
open PySem L2
/-- what comes of dropping noughts off a step -/
inductive FewIs (N : Int → Prop) : Int → Option Nat → Prop
  | done {s : Int} (h : ¬ N s) : FewIs N s (some 0)
  | out {s : Int} (h : N s) (d : s % 10 ≠ 0) : FewIs N s none
  | more {s : Int} {r : Option Nat} (h : N s) (d : s % 10 = 0) (t : FewIs N (s / 10) r) : FewIs N s (r.map (· + 1))
theorem FewIs.uniq {N : Int → Prop} {s : Int} {r : Option Nat} (h : FewIs N s r) : ∀ {r' : Option Nat}, FewIs N s r' → r = r' := by
  induction h with
  | done n =>
    intro r' k
    cases k with
    | done _ => rfl
    | out h _ => exact absurd h n
    | more h _ _ => exact absurd h n
  | out h d =>
    intro r' k
    cases k with
    | done n => exact absurd h n
    | out _ _ => rfl
    | more _ d' _ => exact absurd d' d
  | more h d _ ih =>
    intro r' k
    cases k with
    | done n => exact absurd h n
    | out _ d' => exact absurd d d'
    | more _ _ t => rw [ih t]
/-- on the way: k noughts have been dropped -/
def Drop (N : Int → Prop) (s : Int) (k : Nat) (t : Int) : Prop := s = t * 10 ^ k ∧ 1 ≤ t ∧ ∀ r, FewIs N t r → FewIs N s (r.map (· + k))
theorem drop0 {N : Int → Prop} {s : Int} (h : 1 ≤ s) : Drop N s 0 s := ⟨by simp, h, fun r f => by
  have e : r.map (· + 0) = r := by cases r <;> rfl
  rw [e]
  exact f⟩
theorem drop_succ {N : Int → Prop} {s t : Int} {k : Nat} (h : Drop N s k t) (n : N t) (d : t % 10 = 0) : Drop N s (k + 1) (t / 10) := by
  obtain ⟨a, b, c⟩ := h
  have e : t = t / 10 * 10 := by omega
  refine ⟨?_, by omega, fun r f => ?_⟩
  · rw [Int.pow_succ, Int.mul_comm (10 ^ k), ← Int.mul_assoc, ← e]
    exact a
  · have := c _ (.more n d f)
    have e2 : (r.map (· + 1)).map (· + k) = r.map (· + (k + 1)) := by
      cases r with
      | none => rfl
      | some x => show some (x + 1 + k) = some (x + (k + 1)); congr 1; omega
    rwa [e2] at this
theorem drop_done {N : Int → Prop} {s t : Int} {k : Nat} (h : Drop N s k t) (n : ¬ N t) : FewIs N s (some k) := by
  have := h.2.2 _ (.done n)
  rwa [show (some 0 : Option Nat).map (· + k) = some k by show some (0 + k) = _; rw [Nat.zero_add]] at this
theorem drop_out {N : Int → Prop} {s t : Int} {k : Nat} (h : Drop N s k t) (n : N t) (d : t % 10 ≠ 0) : FewIs N s none := h.2.2 _ (.out n d)
theorem filt_nil {p : Nat → Bool} {n : Nat} : (List.range n).filter p = [] ↔ ∀ t, t < n → ¬ p t = true := by
  rw [List.filter_eq_nil_iff]
  exact ⟨fun h t ht => h t (List.mem_range.mpr ht), fun h t ht => h t (List.mem_range.mp ht)⟩
theorem filt_last {p : Nat → Bool} {n : Nat} : (List.range (n + 1)).filter p = [n] ↔ (∀ t, t < n → ¬ p t = true) ∧ p n = true := by
  rw [filt_snoc]
  by_cases h : p n = true
  · rw [if_pos h]
    constructor
    · intro e
      have : (List.range n).filter p = [] := by
        have l := congrArg List.length e
        rw [List.length_append] at l
        exact List.eq_nil_of_length_eq_zero (by rw [List.length_singleton] at l; omega)
      exact ⟨filt_nil.mp this, h⟩
    · rintro ⟨a, _⟩
      rw [filt_nil.mpr a]
      rfl
  · rw [if_neg h, List.append_nil]
    constructor
    · intro e
      have : n ∈ (List.range n).filter p := by rw [e]; exact List.mem_singleton.mpr rfl
      have := List.mem_range.mp (List.mem_filter.mp this).1
      omega
    · rintro ⟨_, b⟩
      exact absurd b h
theorem getD_left {ss : List Sd} {d : Sd} {t : Nat} (h : t < ss.length) : (ss ++ [d]).getD t sd0 = ss.getD t sd0 := by
  rw [List.getD_eq_getElem?_getD, List.getD_eq_getElem?_getD, List.getElem?_append_left h]
theorem getD_last {ss : List Sd} {d : Sd} : (ss ++ [d]).getD ss.length sd0 = d := by
  rw [List.getD_eq_getElem?_getD, List.getElem?_append_right (Nat.le_refl _), Nat.sub_self]
  rfl
theorem all_getD {ss : List Sd} {R : Sd → Prop} : (∀ t, t < ss.length → R (ss.getD t sd0)) ↔ ∀ d ∈ ss, R d := by
  constructor
  · intro h d hd
    obtain ⟨i, hi, rfl⟩ := List.mem_iff_getElem.mp hd
    have := h i hi
    rwa [List.getD_eq_getElem?_getD, List.getElem?_eq_getElem hi] at this
  · intro h t ht
    rw [List.getD_eq_getElem?_getD, List.getElem?_eq_getElem ht]
    exact h _ (List.getElem_mem ht)
/-- none lowers the value -/
def DnA (ss : List Sd) (x : Int) : Prop := ∀ d ∈ ss, x ≤ dueM d.o d.s d.m x
theorem ups_last {ss : List Sd} {d : Sd} {v : Int} : upsL (ss ++ [d]) v = [ss.length] ↔ UnA ss v ∧ v < wD d v := by
  unfold upsL
  rw [List.length_append, List.length_singleton, filt_last, getD_last, decide_eq_true_eq]
  refine and_congr ?_ Iff.rfl
  unfold UnA
  rw [← all_getD (R := fun d => dueM d.o d.s d.m v ≤ v)]
  refine forall_congr' fun t => forall_congr' fun ht => ?_
  rw [getD_left ht, decide_eq_true_eq]
  unfold wD
  omega
theorem dns_last {ss : List Sd} {d : Sd} {v : Int} : dnsL (ss ++ [d]) v = [ss.length] ↔ DnA ss v ∧ wD d v < v := by
  unfold dnsL
  rw [List.length_append, List.length_singleton, filt_last, getD_last, decide_eq_true_eq]
  refine and_congr ?_ Iff.rfl
  unfold DnA
  rw [← all_getD (R := fun d => v ≤ dueM d.o d.s d.m v)]
  refine forall_congr' fun t => forall_congr' fun ht => ?_
  rw [getD_left ht, decide_eq_true_eq]
  unfold wD
  omega
theorem una_more {ss : List Sd} {d : Sd} {v : Int} : UnA (ss ++ [d]) v ↔ UnA ss v ∧ wD d v ≤ v := by
  unfold UnA wD
  constructor
  · intro h
    exact ⟨fun e he => h e (List.mem_append_left _ he), h d (List.mem_append_right _ (List.mem_singleton.mpr rfl))⟩
  · rintro ⟨a, b⟩ e he
    rcases List.mem_append.mp he with he | he
    · exact a e he
    · rcases List.mem_singleton.mp he with rfl
      exact b
theorem dna_more {ss : List Sd} {d : Sd} {v : Int} : DnA (ss ++ [d]) v ↔ DnA ss v ∧ v ≤ wD d v := by
  unfold DnA wD
  constructor
  · intro h
    exact ⟨fun e he => h e (List.mem_append_left _ he), h d (List.mem_append_right _ (List.mem_singleton.mpr rfl))⟩
  · rintro ⟨a, b⟩ e he
    rcases List.mem_append.mp he with he | he
    · exact a e he
    · rcases List.mem_singleton.mp he with rfl
      exact b
/-- a further side is not needed just if all stops stay -/
theorem need_stops {ss : List Sd} {d : Sd} : ¬ NeedN (ss ++ [d]) ss.length ↔ ∀ v : Nat, v < comN (ss ++ [d]) → (UnA ss v ↔ UnA (ss ++ [d]) v) ∧ (DnA ss v ↔ DnA (ss ++ [d]) v) := by
  unfold NeedN HitN
  constructor
  · intro h v hv
    refine ⟨⟨fun u => una_more.mpr ⟨u, Classical.byContradiction fun n => h ⟨v, hv, .inl (ups_last.mpr ⟨u, by omega⟩)⟩⟩, fun u => (una_more.mp u).1⟩, ⟨fun u => dna_more.mpr ⟨u, Classical.byContradiction fun n => h ⟨v, hv, .inr (dns_last.mpr ⟨u, by omega⟩)⟩⟩, fun u => (dna_more.mp u).1⟩⟩
  · rintro h ⟨v, hv, z | z⟩
    · obtain ⟨u, w⟩ := ups_last.mp z
      have := (una_more.mp ((h v hv).1.mp u)).2
      omega
    · obtain ⟨u, w⟩ := dns_last.mp z
      have := (dna_more.mp ((h v hv).2.mp u)).2
      omega
/-- a shorter step makes no longer common period -/
theorem com_drop {ss : List Sd} {o t : Int} {m : Str} {k : Nat} (h : 1 ≤ t) : comN (ss ++ [⟨o, t, m⟩]) ∣ comN (ss ++ [⟨o, t * 10 ^ k, m⟩]) := by
  unfold comN
  rw [List.foldl_append, List.foldl_append]
  show Nat.lcm _ (perN ⟨o, t, m⟩) ∣ Nat.lcm _ (perN ⟨o, t * 10 ^ k, m⟩)
  refine Nat.lcm_dvd (Nat.dvd_lcm_left _ _) (Nat.dvd_trans ?_ (Nat.dvd_lcm_right _ _))
  obtain ⟨n, rfl⟩ := Int.eq_ofNat_of_zero_le (show 0 ≤ t by omega)
  have e : ((n : Int) * 10 ^ k) = ((n * 10 ^ k : Nat) : Int) := by rw [Int.natCast_mul]; rfl
  unfold perN perM
  show (if m = "half_even" then 2 * (n : Int) else (n : Int)).toNat ∣ (if m = "half_even" then 2 * ((n : Int) * 10 ^ k) else (n : Int) * 10 ^ k).toNat
  rw [e]
  split
  · rw [show (2 * (n : Int)).toNat = 2 * n by omega, show (2 * ((n * 10 ^ k : Nat) : Int)).toNat = 2 * (n * 10 ^ k) by omega]
    exact Nat.mul_dvd_mul_left _ (Nat.dvd_mul_right _ _)
  · rw [Int.toNat_natCast, Int.toNat_natCast]
    exact Nat.dvd_mul_right _ _
end HT
namespace HT
open PySem L2
def NdP (ss : List Sd) (o : Int) (m : Str) : Int → Prop := fun t => NeedN (ss ++ [⟨o, t, m⟩]) ss.length
def optV : Option Nat → V
  | some k => .int (k : Int)
  | none => .non
def spFew : Sp := fun vs H Q _ => ∃ (l p : Addr) (xs : List V) (ss : List Sd) (o s : Int) (m : Str), vs = [.ref l, .ref p] ∧ SidesAt H l xs ss ∧ ss.length ≤ 3 ∧ H p = some (sideV o s m) ∧ SideP o s m ∧ comN (ss ++ [⟨o, s, m⟩]) ≤ 20000 ∧ ∀ (r : Option Nat) (H' : Hp), FewIs (NdP ss o m) s r → Same H H' → Q (optV r) H'
theorem SidesAt.snoc {H : Hp} {l L p : Addr} {xs : List V} {ss : List Sd} {o s : Int} {m : Str} (S : SidesAt H l xs ss) (l3 : ss.length ≤ 3) (hp : H p = some (sideV o s m)) (sp : SideP o s m) (hL : H L = some (.lst (xs ++ [.ref p]))) : SidesAt H L (xs ++ [.ref p]) (ss ++ [⟨o, s, m⟩]) := by
  refine ⟨hL, by rw [List.length_append, List.length_append, S.len]; rfl, by rw [List.length_append, List.length_singleton]; omega, by rw [List.length_append, List.length_singleton]; omega, fun i d hd => ?_⟩
  have sl := S.len
  rcases Nat.lt_or_ge i ss.length with z | z
  · rw [List.getElem?_append_left z] at hd
    obtain ⟨p2, e1, hp2, sp2⟩ := S.at_ i d hd
    exact ⟨p2, by rw [List.getElem?_append_left (by omega)]; exact e1, hp2, sp2⟩
  · rw [List.getElem?_append_right z] at hd
    have e0 : i - ss.length = 0 := by
      have := (List.getElem?_eq_some_iff.mp hd).1
      rw [List.length_singleton] at this
      omega
    rw [e0] at hd
    cases hd
    exact ⟨p, by rw [List.getElem?_append_right (by omega), show i - xs.length = 0 by omega]; rfl, hp, sp⟩
theorem any_nV {n : Nat} {ns : List Nat} : inV (nV n) (ns.map nV) = decide (n ∈ ns) := by
  unfold inV
  rw [Bool.eq_iff_iff, List.any_eq_true, decide_eq_true_eq]
  constructor
  · rintro ⟨y, hy, e⟩
    obtain ⟨k, hk, rfl⟩ := List.mem_map.mp hy
    have : k = n := by
      have e' : ((k : Int) == (n : Int)) = true := e
      have := beq_iff_eq.mp e'
      omega
    rwa [← this]
  · intro h
    exact ⟨nV n, List.mem_map.mpr ⟨n, h, rfl⟩, by show ((n : Int) == (n : Int)) = true; exact beq_self_eq_true _⟩
theorem flat_nV (ns : List Nat) : (ns.map nV).all flatV = true := List.all_eq_true.mpr fun y hy => by
  obtain ⟨k, _, rfl⟩ := List.mem_map.mp hy
  rfl
section
variable {P : Program} {w : World} {K : PySem.W.Frag} {mg : Str → Option Value} {base : Heap} {f1 f2 f3 f4 : Addr} {d1 d2 d3 d4 : FuncData}
theorem ok_few {f : Addr} {fd : FuncData} (F : Fun K "fewest_places" "fewest_places" s_fewest_places f fd) (G : UnG mg) (hma : ∃ t, mg "MOST_SIDES_AHEAD" = some (.int 3 t)) (Sd' : Cal P w K mg base "check_sides" 5 ["sides"] spSides f1 d1) (Ck : Cal P w K mg base "check_side" 3 ["side"] spCheckSide f2 d2) (Un : Cal P w K mg base "unneeded" 6 ["sides"] spUnn f3 d3) : FnOk P w K mg base CX0 7 f fd ["sides", "side"] spFew := by
  refine F.ok sc_fewest_places (fun vs H Q E h => ?_) (fun cdv A outer s0 H vs Q E hr h => ?_)
  · obtain ⟨l, p, xs, ss, o, s, m, rfl, _⟩ := h
    rfl
  · obtain ⟨l, p, xs, ss, o, s, m, rfl, SS, l3, hp, sp, c2, q⟩ := h
    have nd := sc_fewest_places.nd
    obtain ⟨tma, hma⟩ := hma
    refine ⟨_, (pss_cons (ps_expr (pcl Sd' hr (by decide) (by rfl) (pa_cons (pv 0) pa_nil)))
      (pss_cons (ps_if (pt_cmpR op_gt (pe_callB call_len_seq (by rfl) G.len PySem.boot_len (pa_cons (pv 0) pa_nil)) (pe_glob (v := .int 3) (by rfl) hma ⟨_, rfl⟩) (nomark _)) (pss_one ps_never) pss_nil)
      (pss_cons (ps_expr (pcl Ck hr (by decide) (by rfl) (pa_cons (pv 1) pa_nil)))
      (pss_cons (ps_asg (pv 1) (pg_tup (by rfl) (pgs_cons (pg_name (i := 2) nd rfl (Or.inl rfl)) (pgs_cons (pg_name (i := 3) nd rfl (Or.inl rfl)) (pgs_cons (pg_name (i := 4) nd rfl (Or.inl rfl)) pgs_nil)))))
      (pss_cons (ps_set (i := 5) nd rfl (Or.inl rfl) pe_int)
      (pss_cons (ps_while PassesOwn.never (pt_cmpR op_notIn_seq (pe_callB call_len_seq (by rfl) G.len PySem.boot_len (pa_cons (pv 0) pa_nil)) (pcl Un hr (by decide) (by rfl) (pa_cons (pe_op op_cat (pv 0) (pe_lst (pa_cons (pe_tup (pa_cons (pv 2) (pa_cons (pv 3) (pa_cons (pv 4) pa_nil)))) pa_nil))) pa_nil)) (by rfl)) (pss_cons (ps_if (pt_cmpR op_ne (pe_op op_mod (pv 3) pe_int) pe_int (nomark _)) (pss_one (ps_ret pe_non)) pss_nil)
      (pss_cons (ps_set (i := 3) nd rfl (Or.inl rfl) (pe_op op_fdiv (pv 3) pe_int))
      (pss_one (ps_aug (i := 5) nd rfl (Or.inl rfl) pe_int ip_add)))))
      (pss_one (ps_ret (pv 5))))))))), ?_⟩
    have l1 := SS.l1
    have ln := SS.len
    have s0' := sp.s0
    have s1' := sp.s1
    walk_at "rd"
    refine ⟨l, xs, ss, rfl, SS, ?_⟩
    walk_at "rd"
    refine ⟨l, _, rfl, .inl (SqL.of SS.hl), ?_⟩
    walk_at "rd"
    refine ite2 (fun z => absurd (of_decide_eq_true z) (by omega)) (fun _ => ?_)
    walk_at "rd"
    refine ⟨p, o, s, m, rfl, hp, sp, ?_⟩
    walk_at "rd"
    refine ⟨p, _, rfl, SqT.of hp, rfl, _, _, rfl, _, _, rfl, _, _, rfl, rfl, ?_⟩
    walk_at "rd"
    refine ⟨fun n σ H' => ∃ (k : Nat) (t : Int), n = t.toNat ∧ σ = [some (.ref l), some (.ref p), some (.int o), some (.int t), some (.str m), some (.int (k : Int))] ∧ Same H H' ∧ Drop (NdP ss o m) s k t ∧ t ≤ s, ⟨s.toNat, 0, s, rfl, rfl, Same.refl H, drop0 s0', Int.le_refl _⟩, ?_⟩
    rintro n σ H1 ⟨k, t, rfl, rfl, s1, dr, ts⟩
    have t1 := dr.2.1
    have spt : SideP o t m := ⟨sp.o0, sp.o1, t1, by omega, sp.md⟩
    have c2t : comN (ss ++ [⟨o, t, m⟩]) ≤ 20000 := by
      have a := com_drop (ss := ss) (o := o) (m := m) (k := k) t1
      rw [← dr.1] at a
      have b : 0 < comN (ss ++ [⟨o, s, m⟩]) := com_pos _ 1 (by decide) fun d hd => by
        rcases List.mem_append.mp hd with h | h
        · exact SS.side d h
        · rcases List.mem_singleton.mp h with rfl
          exact sp
      exact Nat.le_trans (Nat.le_of_dvd b a) c2
    walk_at "rd"
    refine ⟨l, _, rfl, .inl (SqL.of (s1 _ _ SS.hl)), ?_⟩
    walk_at "rd"
    refine ⟨(by show 3 ≤ sizeLine; decide), fun pt npt => ?_⟩
    have gpt : upd H1 pt (.tup [.int o, .int t, .str m]) pt = some (sideV o t m) := upd_same
    have spt1 : Same H1 (upd H1 pt (.tup [.int o, .int t, .str m])) := same_upd npt
    generalize upd H1 pt (.tup [.int o, .int t, .str m]) = H2 at gpt spt1 ⊢
    walk_at "rd"
    refine ⟨(by show 1 ≤ sizeLine; decide), fun L1 nL1 => ?_⟩
    have gL1 : upd H2 L1 (.lst [.ref pt]) L1 = some (.lst [.ref pt]) := upd_same
    have sL1 : Same H2 (upd H2 L1 (.lst [.ref pt])) := same_upd nL1
    generalize upd H2 L1 (.lst [.ref pt]) = H3 at gL1 sL1 ⊢
    walk_at "rd"
    have hl3 := sL1 _ _ (spt1 _ _ (s1 _ _ SS.hl))
    refine ⟨l, L1, _, _, rfl, rfl, hl3, gL1, (by show xs.length + 1 ≤ sizeLine; exact Nat.le_trans (by omega : _ ≤ 4) (by decide)), fun L2 nL2 => ?_⟩
    have gL2 : upd H3 L2 (.lst (xs ++ [.ref pt])) L2 = some (.lst (xs ++ [.ref pt])) := upd_same
    have sL2 : Same H3 (upd H3 L2 (.lst (xs ++ [.ref pt]))) := same_upd nL2
    generalize upd H3 L2 (.lst (xs ++ [.ref pt])) = H4 at gL2 sL2 ⊢
    have s14 : Same H1 H4 := spt1.trans (sL1.trans sL2)
    have SS4 := (SS.same (s1.trans s14)).snoc l3 (sL2 _ _ (sL1 _ _ gpt)) spt gL2
    refine ⟨L2, _, _, rfl, SS4, c2t, fun L3 H5 ns nL3 s5 h5 un => ?_⟩
    walk_at "rd"
    have iff : ss.length ∈ ns ↔ ¬ NdP ss o m t := by
      rcases un with ⟨a, _⟩ | ⟨_, _, c⟩
      · rw [List.length_append, List.length_singleton] at a; omega
      · rw [c]; exact ⟨fun h => h.2, fun h => ⟨by rw [List.length_append, List.length_singleton]; omega, h⟩⟩
    refine ⟨L3, _, rfl, .inl (SqL.of h5), rfl, flat_nV ns, _, rfl, ?_⟩
    rw [show V.int (xs.length : Int) = nV ss.length by rw [ln]; rfl, any_nV]
    have s05 := s1.trans (s14.trans s5)
    by_cases hn : ss.length ∈ ns
    · refine ite2 (fun z => absurd z (by simp [hn])) (fun _ => ?_)
      walk_at "rd"
      exact q (some k) H5 (drop_done dr (iff.mp hn)) s05
    · have nd : NdP ss o m t := Classical.byContradiction fun z => hn (iff.mpr z)
      refine ite2 (fun _ => ?_) (fun z => absurd (by simp [hn]) z)
      refine ⟨fun σ' H'' => ∃ (k' : Nat) (t' : Int), t' < t ∧ 0 ≤ t' ∧ σ' = [some (.ref l), some (.ref p), some (.int o), some (.int t'), some (.str m), some (.int (k' : Int))] ∧ Same H H'' ∧ Drop (NdP ss o m) s k' t' ∧ t' ≤ s, fun σ' H'' ⟨k', t', a, b, c⟩ => ⟨t'.toNat, by omega, k', t', rfl, c⟩, ?_⟩
      walk_at "rd"
      refine ⟨(by show (0 : Int) < 10; decide), ?_⟩
      walk_at "rd"
      refine ⟨rfl, _, rfl, ?_⟩
      by_cases hd : t % 10 = 0
      · refine ite2 (fun z => absurd z (by simp [hd])) (fun _ => ?_)
        walk_at "rd"
        refine ⟨⟨by decide, by decide⟩, ?_⟩
        walk_at "rd"
        refine ⟨k + 1, t / 10, by omega, by omega, rfl, s05, drop_succ dr nd hd, by omega⟩
      · refine ite2 (fun _ => ?_) (fun z => absurd (by simp [hd]) z)
        walk_at "rd"
        exact q none H5 (drop_out dr nd hd) s05
end
end HT
namespace HT
open PySem L2
def spUnnM (C : Nat → Addr) : Sp := fun vs H _ E => ∃ (l : Addr) (xs : List V) (ss : List Sd), vs = [.ref l] ∧ SidesAt H l xs ss ∧ 20000 < comN ss ∧ ∀ H', Same H H' → E (.ref (C 2)) none H'
def spFewB (K : PySem.W.Frag) (C : Nat → Addr) : Sp := fun vs H _ E => ∃ x y : V, vs = [x, y] ∧ ((BadL K H x ∧ E (.ref (C 1)) none H) ∨ (∃ l xs, x = .ref l ∧ GoodL H l xs ∧ 3 < xs.length ∧ E (.ref (C 1)) none H) ∨ (∃ l xs, x = .ref l ∧ GoodL H l xs ∧ xs.length ≤ 3 ∧ BadS K H y ∧ E (.ref (C 0)) none H) ∨
  (∃ (l p : Addr) (xs : List V) (ss : List Sd) (o s : Int) (m : Str), x = .ref l ∧ y = .ref p ∧ SidesAt H l xs ss ∧ ss.length ≤ 3 ∧ H p = some (sideV o s m) ∧ SideP o s m ∧ 20000 < comN (ss ++ [⟨o, s, m⟩]) ∧ ∀ H', Same H H' → E (.ref (C 2)) none H'))
theorem good_of {H : Hp} {l : Addr} {xs : List V} {ss : List Sd} (S : SidesAt H l xs ss) : GoodL H l xs := ⟨S.hl, by have := S.l1; have := S.len; omega, by have := S.l4; have := S.len; omega, fun y hy => by
  obtain ⟨i, hi, e⟩ := List.mem_iff_getElem.mp hy
  obtain ⟨d, p, ed, e2, hp, sp⟩ := S.item (i := i) (y := y) (by rw [← e]; exact List.getElem?_eq_getElem hi)
  exact ⟨p, d.o, d.s, d.m, e2, hp, sp⟩⟩
section
variable {P : Program} {w : World} {K : PySem.W.Frag} {mg : Str → Option Value} {base : Heap} {f1 f2 f3 f4 f5 B : Addr} {d1 d2 d3 d4 d5 : FuncData} {C : Nat → Addr}
theorem ok_unn_m {f : Addr} {fd : FuncData} (F : Fun K "unneeded" "unneeded" s_unneeded f fd) (G : UnG mg) (R : Er K mg C B) (Sd' : Cal P w K mg base "check_sides" 5 ["sides"] spSides f1 d1) (Pe : Cal P w K mg base "common_period" 2 ["sides"] spPerL f2 d2) : FnOk P w K mg base (L2.CX P w) 6 f fd ["sides"] (spUnnM C) := by
  refine F.okAny sc_unneeded (fun vs H Q E h => ?_) (fun cdv A outer s0 H vs Q E hr h => ?_)
  · obtain ⟨l, xs, ss, rfl, _⟩ := h
    rfl
  · obtain ⟨l, xs, ss, rfl, SS, c2, q⟩ := h
    have nd := sc_unneeded.nd
    obtain ⟨tmp, hmp⟩ := G.mp
    refine ⟨_, pss_cons (ps_expr (pcl Sd' hr (by decide) (by rfl) (pa_cons (pv 0) pa_nil)))
      (pss_cons (ps_set (i := 1) nd rfl (Or.inl rfl) (pcl Pe hr (by decide) (by rfl) (pa_cons (pv 0) pa_nil)))
      (pss_cons (ps_if (pt_cmpR op_gt (pv 1) (pe_glob (v := .int 20000) (by rfl) hmp ⟨_, rfl⟩) (nomark _)) (pss_one (ps_raise rfl (takes_of rfl rfl rfl rfl) (pmk_own PySem.F.excBase_ValueError (R.ex 2 (by decide)) R.g2 (R.kp 2 (by decide)) (raises_own (R.sb 2 (by decide)) (R.ty 2 (by decide))) (by rfl)))) pss_nil)
      (pss_cons ps_never (pss_cons ps_never (pss_cons ps_never (pss_one ps_never)))))), ?_⟩
    walk_at "rd"
    refine ⟨l, xs, ss, rfl, SS, ?_⟩
    walk_at "rd"
    refine ⟨l, xs, ss, rfl, SS.toL, ?_⟩
    walk_at "rd"
    refine ite2 (fun _ => ?_) (fun z => absurd (decide_eq_true (by omega)) z)
    exact q _ (Same.refl H)
theorem ok_few_b {f : Addr} {fd : FuncData} (F : Fun K "fewest_places" "fewest_places" s_fewest_places f fd) (G : UnG mg) (R : Er K mg C B) (hma : ∃ t, mg "MOST_SIDES_AHEAD" = some (.int 3 t)) (Ls : CalX P w K mg base "check_sides" 5 ["sides"] (spSidesX K C) f1 d1) (Ck : CalX P w K mg base "check_side" 3 ["side"] (spSideX K C) f2 d2) (Un : CalX P w K mg base "unneeded" 6 ["sides"] (spUnnM C) f3 d3) : FnOk P w K mg base (L2.CX P w) 7 f fd ["sides", "side"] (spFewB K C) := by
  refine F.okAny sc_fewest_places (fun vs H Q E h => ?_) (fun cdv A outer s0 H vs Q E hr h => ?_)
  · obtain ⟨x, y, rfl, _⟩ := h
    rfl
  · obtain ⟨x, y, rfl, h⟩ := h
    have nd := sc_fewest_places.nd
    obtain ⟨tma, hma⟩ := hma
    refine ⟨_, pss_cons (ps_expr (pcx Ls hr (by decide) (by rfl) (takes_of rfl rfl rfl rfl) (pa_cons (pv 0) pa_nil)))
      (pss_cons (ps_if (pt_cmpR op_gt (pe_callB call_len_seq (by rfl) G.len PySem.boot_len (pa_cons (pv 0) pa_nil)) (pe_glob (v := .int 3) (by rfl) hma ⟨_, rfl⟩) (nomark _)) (pss_one (ps_raise rfl (takes_of rfl rfl rfl rfl) (pmk_own PySem.F.excBase_ValueError (R.ex 1 (by decide)) R.g1 (R.kp 1 (by decide)) (raises_own (R.sb 1 (by decide)) (R.ty 1 (by decide))) (by rfl)))) pss_nil)
      (pss_cons (ps_expr (pcx Ck hr (by decide) (by rfl) (takes_of rfl rfl rfl rfl) (pa_cons (pv 1) pa_nil)))
      (pss_cons (ps_asg (pv 1) (pg_tup (by rfl) (pgs_cons (pg_name (i := 2) nd rfl (Or.inl rfl)) (pgs_cons (pg_name (i := 3) nd rfl (Or.inl rfl)) (pgs_cons (pg_name (i := 4) nd rfl (Or.inl rfl)) pgs_nil)))))
      (pss_cons (ps_set (i := 5) nd rfl (Or.inl rfl) pe_int)
      (pss_cons (ps_while (passes_of rfl) (pt_cmpR op_notIn_seq (pe_callB call_len_seq (by rfl) G.len PySem.boot_len (pa_cons (pv 0) pa_nil)) (pcx Un hr (by decide) (by rfl) (takes_of rfl rfl rfl rfl) (pa_cons (pe_op op_cat (pv 0) (pe_lst (pa_cons (pe_tup (pa_cons (pv 2) (pa_cons (pv 3) (pa_cons (pv 4) pa_nil)))) pa_nil))) pa_nil)) (by rfl)) (pss_cons ps_never (pss_cons ps_never (pss_one ps_never))))
      (pss_one ps_never)))))), ?_⟩
    walk_at "rd"
    rcases h with ⟨bx, e⟩ | ⟨l, xs, rfl, gx, l3, e⟩ | ⟨l, xs, rfl, gx, l3, by_, e⟩ | ⟨l, p, xs, ss, o, s, m, rfl, rfl, SS, l3, hp, sp, c2, e⟩
    · exact .inr ⟨bx, e⟩
    · refine .inl ⟨l, xs, rfl, gx, ?_⟩
      walk_at "rd"
      refine ⟨l, _, rfl, .inl (SqL.of gx.1), ?_⟩
      walk_at "rd"
      refine ite2 (fun _ => ?_) (fun z => absurd (decide_eq_true (by omega)) z)
      exact e
    · refine .inl ⟨l, xs, rfl, gx, ?_⟩
      walk_at "rd"
      refine ⟨l, _, rfl, .inl (SqL.of gx.1), ?_⟩
      walk_at "rd"
      refine ite2 (fun z => absurd (of_decide_eq_true z) (by omega)) (fun _ => ?_)
      walk_at "rd"
      exact .inr ⟨by_, e⟩
    · refine .inl ⟨l, xs, rfl, good_of SS, ?_⟩
      have ln := SS.len
      walk_at "rd"
      refine ⟨l, _, rfl, .inl (SqL.of SS.hl), ?_⟩
      walk_at "rd"
      refine ite2 (fun z => absurd (of_decide_eq_true z) (by omega)) (fun _ => ?_)
      walk_at "rd"
      refine .inl ⟨⟨p, o, s, m, rfl, hp, sp⟩, ?_⟩
      walk_at "rd"
      refine ⟨p, _, rfl, SqT.of hp, rfl, _, _, rfl, _, _, rfl, _, _, rfl, rfl, ?_⟩
      walk_at "rd"
      refine ⟨fun n σ H' => n = 0 ∧ σ = [some (.ref l), some (.ref p), some (.int o), some (.int s), some (.str m), some (.int 0)] ∧ Same H H', ⟨0, rfl, rfl, Same.refl H⟩, ?_⟩
      rintro n σ H1 ⟨rfl, rfl, s1⟩
      walk_at "rd"
      refine ⟨l, _, rfl, .inl (SqL.of (s1 _ _ SS.hl)), ?_⟩
      walk_at "rd"
      refine ⟨(by show 3 ≤ sizeLine; decide), fun pt npt => ?_⟩
      have gpt : upd H1 pt (.tup [.int o, .int s, .str m]) pt = some (sideV o s m) := upd_same
      have spt1 : Same H1 (upd H1 pt (.tup [.int o, .int s, .str m])) := same_upd npt
      generalize upd H1 pt (.tup [.int o, .int s, .str m]) = H2 at gpt spt1 ⊢
      walk_at "rd"
      refine ⟨(by show 1 ≤ sizeLine; decide), fun L1 nL1 => ?_⟩
      have gL1 : upd H2 L1 (.lst [.ref pt]) L1 = some (.lst [.ref pt]) := upd_same
      have sL1 : Same H2 (upd H2 L1 (.lst [.ref pt])) := same_upd nL1
      generalize upd H2 L1 (.lst [.ref pt]) = H3 at gL1 sL1 ⊢
      walk_at "rd"
      have hl3 := sL1 _ _ (spt1 _ _ (s1 _ _ SS.hl))
      refine ⟨l, L1, _, _, rfl, rfl, hl3, gL1, (by show xs.length + 1 ≤ sizeLine; exact Nat.le_trans (by omega : _ ≤ 4) (by decide)), fun L2 nL2 => ?_⟩
      have gL2 : upd H3 L2 (.lst (xs ++ [.ref pt])) L2 = some (.lst (xs ++ [.ref pt])) := upd_same
      have sL2 : Same H3 (upd H3 L2 (.lst (xs ++ [.ref pt]))) := same_upd nL2
      generalize upd H3 L2 (.lst (xs ++ [.ref pt])) = H4 at gL2 sL2 ⊢
      have s14 : Same H1 H4 := spt1.trans (sL1.trans sL2)
      have SS4 := (SS.same (s1.trans s14)).snoc l3 (sL2 _ _ (sL1 _ _ gpt)) sp gL2
      refine ⟨L2, _, _, rfl, SS4, c2, fun H' s' => e H' (s1.trans (s14.trans s'))⟩
end
end HT
namespace PySem
section
variable {prog : Program} {w : World} {K : Type} [DecidableEq K] {knd : HeapKind prog w K} {A : Around} {E : Value → Shared → Prop} {s : Shared}
theorem wpAny_Dict_heapKeys {env : Env} {keys : List (Option Expr)} {values : List Expr} {pos : Pos} {Q : Value → Shared → Prop} (hu : knd.room A)
    (hall : keys.all (·.isSome) = true) (hl : keys.length = values.length) (h0 : keys ≠ []) (hlen : keys.length ≤ 15)
    (h : wpAny (model prog w) A (evalPairs (pairTrees keys values env pos)) (fun vs s₁ => ∃ ps, CarriesH knd s₁.heap vs ps ∧ s₁.heap.DictOfH knd s.heap.objs.size [] ∧
      ∀ h' tk, h'.DictOfH knd s.heap.objs.size (storedAllH [] ps) → Heap.SameBut s.heap.objs.size s₁.heap h' → Q (.ref s.heap.objs.size) { s₁ with heap := h', toks := tk }) E
      { s with heap := s.heap.push { cls := .type "dict", data := .dict #[] } }) :
    wpAny (model prog w) A (eval (.Dict keys values pos) env) Q E s := by
  have hn := pairTrees_length keys values env pos hall hl
  have h1 : pairTrees keys values env pos ≠ [] := fun he => by
    rw [he] at hn
    exact h0 (List.length_eq_zero_iff.mp hn.symm)
  rw [arm_eval_Dict, zip_pairTrees keys values env pos hall hl, dictDisplay_pairs _ h1 (by omega)]
  exact wpAny_bind (wpAny_standAt (wpAny_bind (wpAny_subDictH (knd := knd) (Q := fun d s' => wpAny (model prog w) A (pure (Value.ref d)) Q E s') hu (by omega)
    (wpAny_mono h (fun vs s₁ h₁ => by obtain ⟨ps, hc, hm, hq⟩ := h₁; exact ⟨ps, hc, hm, fun h' tk a b => wpAny_pure (hq h' tk a b)⟩) fun _ _ e => e))))
end
end PySem
namespace L2
open PySem PySem.Spec PyProof.Rows PySem.W
/-- {t: v}, t a tuple of ints and texts -/
def tDispT1 (tk tv : TE) : TE := fun σ H Q => ∀ p, H p = none → tk σ (upd H p (.dT [])) fun x H1 => tv σ H1 fun y H2 => H2 p = some (.dT []) ∧ ∃ (b : Addr) (k : List Key), x = .ref b ∧ H2 b = some (.tup (k.map kV)) ∧ Q (.ref p) (upd H2 p (.dT [(k, y)]))
theorem pe_dispT1 {X : Cx} {pos : Pos} {k v : Expr} {tk tv : TE} (hu : X.A.units + 1 < cLine) (hk : PE X k tk) (hv : PE X v tv) : PE X (.Dict [some k] [v] pos) (tDispT1 tk tv) := by
  refine ⟨fun pins s σ H Q I q => ?_⟩
  have hn := I.hok.fresh (Nat.le_refl s.heap.objs.size)
  have I1 := I.laid (a := s.heap.objs.size) (o := .dT []) (h' := s.heap.push { cls := .type "dict", data := .dict #[] }) (t' := s.toks) (fun _ _ q => Heap.get?_push_of_some _ q) (Nat.le_refl _) (dt_empty s.heap I.big)
  refine wpAny_Dict_heapKeys (knd := tupleKind (mixKind X.prog X.w)) (show X.A.units < cLine by omega) rfl rfl nofun (by show 1 ≤ 15; decide) ?_
  refine pairTrees_cons_walk (thn (hk.run pins _ σ _ _ I1 (q _ hn)) fun u s1 ⟨x, H1, I2, rx, q1⟩ => thn (hv.run pins s1 σ H1 _ I2 q1) fun w2 s2 ⟨y, H2, I3, ry, q2⟩ => pairTrees_nil_walk ?_)
  obtain ⟨e, b, ks, ex, eb, qq⟩ := q2
  subst ex
  obtain rfl : u = Value.ref b := rx
  obtain ⟨z, hd, xs, rel, dd⟩ := dt_of I3.hok e
  cases rel
  refine ⟨[(ks, b, w2)], ⟨rfl, rfl, key_of I3.hok eb, trivial⟩, dd, fun h' tk dd' hs => ⟨.ref s.heap.objs.size, _, ?_, rfl, qq⟩⟩
  obtain ⟨o, es, ep, hq, h2, h3, h4, _, h5⟩ := dd'
  refine d_write I3 (by rw [e]; exact True.intro) hs ⟨o, hq⟩ ⟨(by show 1 ≤ sizeLine; rw [sizeLine_eq]; omega), hd, _, .cons ⟨rfl, ?_, ry⟩ .nil, o, es, ep, hq, h2, h3, h4, h5⟩
  show upd H2 s.heap.objs.size (.dT [(ks, y)]) b = some (.tup (ks.map kV))
  rw [upd_ne (ne_of eb e (fun z => nomatch z))]
  exact eb
end L2
namespace HT
open PySem L2
/-- over enumerate of a list that the body leaves as it is -/
theorem for_enumL {K : PySem.W.Frag} {a : Addr} {xs : List V} {g : TG} {tb : TS} {D : Ends} {σ : St} {H : Hp} (Pv : Nat → St → Hp → Prop) (h0 : Pv 0 σ H) (hl : ∀ i σ H, i ≤ xs.length → Pv i σ H → SqL K H a xs)
    (hs : ∀ i x σ H, xs[i]? = some x → Pv i σ H → ∀ T, H T = none → g (.ref T) σ (upd H T (.tup [.int (i : Nat), x])) fun σ2 H2 => tb { D with nx := Pv (i + 1), ct := Pv (i + 1), bk := D.nx } σ2 H2) (hd : ∀ σ H, Pv xs.length σ H → D.nx σ H) :
    ∃ W : Nat → Nat → St → Hp → Prop, (∃ m, W 0 m σ H) ∧ ∀ i m σ H, W i m σ H →
      ((Ite K a).stop i H ∧ D.nx σ H) ∨ ((Ite K a).go i H ∧ ∃ N : St → Hp → Prop, (∀ σ' H', N σ' H' → ∃ m', m' < m ∧ W (i + 1) m' σ' H') ∧ ∀ x H', (Ite K a).yld i H x H' → g x σ H' fun σ2 H2 => tb { D with nx := N, ct := N, bk := D.nx } σ2 H2) := by
  refine ⟨fun i m σ H => m = xs.length - i ∧ i ≤ xs.length ∧ Pv i σ H, ⟨xs.length, by simp, Nat.zero_le _, h0⟩, ?_⟩
  rintro i m σ H ⟨rfl, le, p⟩
  have q := hl i σ H le p
  by_cases lt : i < xs.length
  · refine .inr ⟨⟨xs, xs[i], q, by simp [lt]⟩, Pv (i + 1), fun σ' H' p' => ⟨xs.length - (i + 1), by omega, rfl, lt, p'⟩, fun x H' y => ?_⟩
    obtain ⟨T, x', rfl, nT, rfl, e⟩ := y
    exact hs i x' σ H (e xs q) p T nT
  · have e : i = xs.length := by omega
    subst e
    exact .inl ⟨⟨xs, q, Nat.le_refl _⟩, hd σ H p⟩
theorem due_due {o s v : Int} {m : Str} (hm : Mode m) (hs : 1 ≤ s) : dueM o s m (dueM o s m v) = dueM o s m v :=
  (due_eq hm hs).mp (by unfold dueM; exact stands_at)
/-- a step of a pair -/
def lowP (d : Sd) (l : Int) : Int := wD d l % perM d.s d.m
def apP (d : Sd) (l a : Int) : Int := wD d (l + a) - wD d l
theorem pair_rest {d : Sd} (S : SideP d.o d.s d.m) (l a : Int) : wD d (lowP d l) = lowP d l ∧ wD d (lowP d l + apP d l a) = lowP d l + apP d l a := by
  have e : lowP d l = wD d l + perM d.s d.m * (-(wD d l / perM d.s d.m)) := by
    unfold lowP
    rw [Int.emod_def, Int.mul_neg, Int.sub_eq_add_neg]
  have k1 : wD d (lowP d l) = lowP d l := by
    rw [e]
    unfold wD
    rw [due_com S.md S.s0, due_due S.md S.s0]
  refine ⟨k1, ?_⟩
  rw [show lowP d l + apP d l a = wD d (l + a) + perM d.s d.m * (-(wD d l / perM d.s d.m)) by rw [e]; unfold apP; omega]
  unfold wD
  rw [due_com S.md S.s0, due_due S.md S.s0]
def keyP (l a : Int) : List Key := [Sum.inl l, Sum.inl a]
theorem keyP_inj {l a l' a' : Int} (h : keyP l a = keyP l' a') : l = l' ∧ a = a' := by
  unfold keyP at h
  injection h with h1 h2
  injection h2 with h2 _
  exact ⟨Sum.inl.inj h1, Sum.inl.inj h2⟩
def spWT : Sp := fun vs H Q _ => ∃ (d q : Addr) (kvs : List (List Key × V)) (k : List Key), vs = [.ref d, .ref q] ∧ H d = some (.dT kvs) ∧ H q = some (.tup (k.map kV)) ∧
  (valV kvs k = some .non ∨ ∃ (t q0 : Addr) (n : Int) (k0 : List Key), valV kvs k = some (.ref t) ∧ H t = some (.tup [.ref q0, .int n]) ∧ H q0 = some (.tup (k0.map kV)) ∧ valV kvs k0 = some .non) ∧ ∀ r H', Same H H' → Q (.ref r) H'
section
variable {P : Program} {w : World} {K : PySem.W.Frag} {mg : Str → Option Value} {base : Heap} {f1 f2 f3 f4 f5 B' : Addr} {d1 d2 d3 d4 d5 : FuncData} {C : Nat → Addr}
theorem ok_way_to {f : Addr} {fd : FuncData} (F : Fun K "_way_to" "_way_to" s_way_to f fd) : FnOk P w K mg base CX0 1 f fd ["ways", "pair"] spWT := by
  refine F.ok sc_way_to (fun vs H Q E h => ?_) (fun cdv A outer s0 H vs Q E hr h => ?_)
  · obtain ⟨d, q, kvs, k, rfl, _⟩ := h
    rfl
  · obtain ⟨d, q, kvs, k, rfl, hd, hq, cs, qq⟩ := h
    have nd := sc_way_to.nd
    refine ⟨_, (pss_cons (ps_set (i := 2) nd rfl (Or.inl rfl) (pe_lst pa_nil))
      (pss_cons (ps_set (i := 3) nd rfl (Or.inl rfl) (pe_dget (lt1 hr.units) (pv 0) (pv 1) (fun _ _ => rfl)))
      (pss_cons (ps_while PassesOwn.never (pt_cmpR op_notN (pv 3) pe_non (nomark _)) (pss_cons (ps_asg (pv 3) (pg_tup (by rfl) (pgs_cons (pg_name (i := 1) nd rfl (Or.inl rfl)) (pgs_cons (pg_name (i := 4) nd rfl (Or.inl rfl)) pgs_nil))))
      (pss_cons (ps_expr (pe_bm PySem.F.plainAttrs_list PySem.F.slot_list_append PySem.F.type_list_append mt_append (pv 2) (pa_cons (pv 4) pa_nil)))
      (pss_one (ps_set (i := 3) nd rfl (Or.inl rfl) (pe_dget (lt1 hr.units) (pv 0) (pv 1) (fun _ _ => rfl)))))))
      (pss_one (ps_ret (pe_revL (pv 2))))))), ?_⟩
    walk_at "rd"
    refine ⟨(by show 0 ≤ sizeLine; decide), fun nl nnl => ?_⟩
    have gn : upd H nl (.lst []) nl = some (.lst []) := upd_same
    have sn : Same H (upd H nl (.lst [])) := same_upd nnl
    generalize upd H nl (.lst []) = H1 at gn sn ⊢
    walk_at "rd"
    obtain ⟨wv, ew⟩ : ∃ wv, valV kvs k = some wv := by rcases cs with e | ⟨t, _, _, _, e, _⟩ <;> exact ⟨_, e⟩
    refine ⟨d, wv, rfl, by rw [← ew]; exact DGet.t (sn _ _ hd) (sn _ _ hq), ?_⟩
    walk_at "rd"
    refine ⟨fun m σ H' => ∃ (q' : Addr) (wv' : V) (x4 : Option V) (ns : List V), σ = [some (.ref d), some (.ref q'), some (.ref nl), some wv', x4] ∧ Same H H' ∧ H' nl = some (.lst ns) ∧ ns.length ≤ 1 ∧ ((wv' = .non ∧ m = 0) ∨ (m = 1 ∧ ns = [] ∧ ∃ (t q0 : Addr) (n : Int) (k0 : List Key), wv' = .ref t ∧ H t = some (.tup [.ref q0, .int n]) ∧ H q0 = some (.tup (k0.map kV)) ∧ valV kvs k0 = some .non)), ?_, ?_⟩
    · rcases cs with e | ⟨t, q0, n, k0, e, e1, e2, e3⟩
      · rw [e] at ew
        cases ew
        exact ⟨0, q, _, none, [], rfl, sn, gn, by decide, .inl ⟨rfl, rfl⟩⟩
      · rw [e] at ew
        cases ew
        exact ⟨1, q, _, none, [], rfl, sn, gn, by decide, .inr ⟨rfl, rfl, t, q0, n, k0, rfl, e1, e2, e3⟩⟩
    rintro m σ H2 ⟨q', wv', x4, ns, rfl, s2, hn, nl1, cs2⟩
    walk_at "rd"
    refine ⟨rfl, ?_⟩
    rcases cs2 with ⟨rfl, rfl⟩ | ⟨rfl, rfl, t, q0, n, k0, rfl, e1, e2, e3⟩
    · refine ⟨_, rfl, ?_⟩
      refine ite2 (fun z => absurd z (by rw [decide_eq_true rfl]; decide)) (fun _ => ?_)
      walk_at "rd"
      exact ⟨nl, _, rfl, SqL.of hn, fun p np => qq p _ (s2.trans (same_upd np))⟩
    · refine ⟨_, rfl, ?_⟩
      refine ite2 (fun _ => ?_) (fun z => absurd (by rw [decide_eq_false (fun y => V.noConfusion y)]; rfl) z)
      refine ⟨fun σ' H' => ∃ (q' : Addr) (x4 : Option V) (ns : List V), σ' = [some (.ref d), some (.ref q'), some (.ref nl), some .non, x4] ∧ Same H H' ∧ H' nl = some (.lst ns) ∧ ns.length ≤ 1, fun σ' H' ⟨q', x4, ns, e1, e2, e3, e4⟩ => ⟨0, by decide, q', _, x4, ns, e1, e2, e3, e4, .inl ⟨rfl, rfl⟩⟩, ?_⟩
      walk_at "rd"
      refine ⟨t, _, rfl, SqT.of (s2 _ _ e1), rfl, _, _, rfl, _, _, rfl, rfl, ?_⟩
      walk_at "rd"
      refine ⟨.inl ⟨rfl, _, SqL.of hn⟩, ?_⟩
      walk_at "rd"
      refine ⟨nl, _, _, rfl, rfl, hn, (by show 0 < sizeLine; decide), ?_⟩
      have s3 : Same H (upd H2 nl (.lst ([] ++ [V.int n]))) := fun b u z => (upd_ne (ne_of_none z nnl)).trans (s2 _ _ z)
      have g3 : upd H2 nl (.lst ([] ++ [V.int n])) nl = some (.lst [V.int n]) := upd_same
      generalize upd H2 nl (.lst ([] ++ [V.int n])) = H3 at s3 g3 ⊢
      walk_at "rd"
      refine ⟨d, .non, rfl, by rw [← e3]; exact DGet.t (s3 _ _ hd) (s3 _ _ e2), ?_⟩
      exact ⟨q0, _, _, rfl, s3, g3, Nat.le_refl _⟩
theorem sidesAt1 {H : Hp} {l p : Addr} {d : Sd} (hl : H l = some (.lst [V.ref p])) (hp : H p = some (sideV d.o d.s d.m)) (S : SideP d.o d.s d.m) : SidesAt H l [V.ref p] [d] :=
  ⟨hl, rfl, (by show 1 ≤ 1; decide), (by show 1 ≤ 4; decide), fun i e h => by
    match i, h with
    | 0, h => cases h; exact ⟨p, rfl, hp, S⟩⟩
def spMeetX (K : PySem.W.Frag) (C : Nat → Addr) : Sp := fun vs H Q E => ∃ x y z : V, vs = [x, y, z] ∧ ((BadL K H x ∧ E (.ref (C 1)) none H) ∨ (∃ l xs n, x = .ref l ∧ GoodL H l xs ∧ Th H y n ∧ isI n = false ∧ E (.ref (C 3)) none H) ∨ (∃ l xs n m, x = .ref l ∧ GoodL H l xs ∧ Th H y n ∧ isI n = true ∧ Th H z m ∧ isI m = false ∧ E (.ref (C 3)) none H) ∨
  (∃ (l p : Addr) (d : Sd) (a b : Int), x = .ref l ∧ y = .int a ∧ z = .int b ∧ H l = some (.lst [.ref p]) ∧ H p = some (sideV d.o d.s d.m) ∧ SideP d.o d.s d.m ∧ (-10 ^ 6 < a ∧ a < 10 ^ 6) ∧ (-10 ^ 6 < b ∧ b < 10 ^ 6) ∧
    ((120 < perM d.s d.m ∧ ∀ H', Same H H' → E (.ref (C 2)) none H') ∨ (perM d.s d.m ≤ 120 ∧ 240 < ((a - b).natAbs : Int) ∧ ∀ H', Same H H' → E (.ref (C 2)) none H') ∨ (perM d.s d.m ≤ 120 ∧ ((a - b).natAbs : Int) ≤ 240 ∧ ∀ v H', Same H H' → Q v H'))))
theorem ok_meeting {f : Addr} {fd : FuncData} (F : Fun K "meeting" "meeting" s_meeting f fd) (G : UnG mg) (B : Blt mg) (MT : MaxT mg) (hen : mg "enumerate" = none) (hmp : ∃ t, mg "MOST_PERIOD_TO_MEET" = some (.int 120 t)) (hmd : ∃ t, mg "MOST_DIFFERENCE" = some (.int 240 t)) (R : Er K mg C B') (Ls : CalX P w K mg base "check_sides" 5 ["sides"] (spSidesX K C) f1 d1) (Vl : CalX P w K mg base "check_value" 2 ["value"] (spValX C) f2 d2) (Pe : Cal P w K mg base "common_period" 2 ["sides"] spPerL f3 d3) (Wr : Cal P w K mg base "written" 3 ["side", "value"] spDue f4 d4) (Wt : Cal P w K mg base "_way_to" 1 ["ways", "pair"] spWT f5 d5) : FnOk P w K mg base (L2.CX P w) 6 f fd ["sides", "one", "other"] (spMeetX K C) := by
  refine F.okAny sc_meeting (fun vs H Q E h => ?_) (fun cdv A outer s0 H vs Q E hr h => ?_)
  · obtain ⟨x, y, z, rfl, _⟩ := h
    rfl
  · obtain ⟨x, y, z, rfl, h⟩ := h
    have nd := sc_meeting.nd
    obtain ⟨tmp, hmp⟩ := hmp
    obtain ⟨tmd, hmd⟩ := hmd
    refine ⟨_, (pss_cons (ps_expr (pcx Ls hr (by decide) (by rfl) (takes_of rfl rfl rfl rfl) (pa_cons (pv 0) pa_nil)))
      (pss_cons (ps_expr (pcx Vl hr (by decide) (by rfl) (takes_of rfl rfl rfl rfl) (pa_cons (pv 1) pa_nil)))
      (pss_cons (ps_expr (pcx Vl hr (by decide) (by rfl) (takes_of rfl rfl rfl rfl) (pa_cons (pv 2) pa_nil)))
      (pss_cons (ps_set (i := 3) nd rfl (Or.inl rfl) (pcl Pe hr (by decide) (by rfl) (pa_cons (pv 0) pa_nil)))
      (pss_cons (ps_if (pt_cmpR op_gt (pv 3) (pe_glob (v := .int 120) (by rfl) hmp ⟨_, rfl⟩) (nomark _)) (pss_one (ps_raise rfl (takes_of rfl rfl rfl rfl) (pmk_own PySem.F.excBase_ValueError (R.ex 2 (by decide)) R.g2 (R.kp 2 (by decide)) (raises_own (R.sb 2 (by decide)) (R.ty 2 (by decide))) (by rfl)))) pss_nil)
      (pss_cons (ps_if (pt_cmpR op_gt (pe_callB call_abs (by rfl) B.abs (by decide +kernel) (pa_cons (pe_op op_sub (pv 1) (pv 2)) pa_nil)) (pe_glob (v := .int 240) (by rfl) hmd ⟨_, rfl⟩) (nomark _)) (pss_one (ps_raise rfl (takes_of rfl rfl rfl rfl) (pmk_own PySem.F.excBase_ValueError (R.ex 2 (by decide)) R.g2 (R.kp 2 (by decide)) (raises_own (R.sb 2 (by decide)) (R.ty 2 (by decide))) (by rfl)))) pss_nil)
      (pss_cons (ps_set (i := 4) nd rfl (Or.inl rfl) (pe_lst (pa_cons (pe_tup (pa_cons (pe_op op_mod (pe_callB (call_min2 rfl) (by rfl) MT.min (by decide +kernel) (pa_cons (pv 1) (pa_cons (pv 2) pa_nil))) (pv 3)) (pa_cons (pe_callB call_abs (by rfl) B.abs (by decide +kernel) (pa_cons (pe_op op_sub (pv 1) (pv 2)) pa_nil)) pa_nil))) pa_nil)))
      (pss_cons (ps_set (i := 5) nd rfl (Or.inl rfl) (pe_dispT1 (lt1 hr.units) (pe_ix ix_list (pv 4) pe_int (fun _ _ => rfl)) pe_non))
      (pss_cons (ps_set (i := 6) nd rfl (Or.inl rfl) pe_int)
      (pss_cons (ps_while (passes_of rfl) (pt_cmpR op_lt (pv 6) (pe_callB call_len_seq (by rfl) G.len PySem.boot_len (pa_cons (pv 4) pa_nil)) (nomark _)) (pss_cons (ps_asg (pe_ix ix_list (pv 4) (pv 6) (fun _ _ => rfl)) (pg_tup (by rfl) (pgs_cons (pg_name (i := 7) nd rfl (Or.inl rfl)) (pgs_cons (pg_name (i := 8) nd rfl (Or.inl rfl)) pgs_nil))))
      (pss_cons (ps_if (pt_cmpR op_eq (pv 8) pe_int (nomark _)) (pss_one (ps_ret (pcl Wt hr (by decide) (by rfl) (pa_cons (pv 5) (pa_cons (pe_ix ix_list (pv 4) (pv 6) (fun _ _ => rfl)) pa_nil))))) pss_nil)
      (pss_cons (ps_mid (ps_for (passes_of rfl) rfl (pi_enum (by rfl) hen (pa_cons (pv 0) pa_nil)) (pg_tup (by rfl) (pgs_cons (pg_name (i := 9) nd rfl (Or.inl rfl)) (pgs_cons (pg_name (i := 10) nd rfl (Or.inl rfl)) pgs_nil))) (pss_cons (ps_set (i := 11) nd rfl (Or.inl rfl) (pcl Wr hr (by decide) (by rfl) (pa_cons (pv 10) (pa_cons (pv 7) pa_nil))))
      (pss_cons (ps_set (i := 12) nd rfl (Or.inl rfl) (pe_tup (pa_cons (pe_op op_mod (pv 11) (pv 3)) (pa_cons (pe_op op_sub (pcl Wr hr (by decide) (by rfl) (pa_cons (pv 10) (pa_cons (pe_op op_add (pv 7) (pv 8)) pa_nil))) (pv 11)) pa_nil))))
      (pss_one (ps_if (pt_cmp (pc_dnotin (lt1 hr.units) (pv 12) (pv 5)) (by rfl)) (pss_cons (ps_dput (lt1 hr.units) (pv 5) (pv 12) (pe_tup (pa_cons (pe_ix ix_list (pv 4) (pv 6) (fun _ _ => rfl)) (pa_cons (pv 9) pa_nil))) rfl)
      (pss_one (ps_expr (pe_bm PySem.F.plainAttrs_list PySem.F.slot_list_append PySem.F.type_list_append mt_append (pv 4) (pa_cons (pv 12) pa_nil))))) pss_nil))))))
      (pss_one (ps_aug (i := 6) nd rfl (Or.inl rfl) pe_int ip_add))))))
      (pss_one (ps_ret pe_non)))))))))))), ?_⟩
    walk_at "rd"
    rcases h with ⟨bx, e⟩ | ⟨l, xs, n, rfl, gx, ty, iy, e⟩ | ⟨l, xs, n, m, rfl, gx, ty, iy, tz, iz, e⟩ | ⟨l, p, d, a, b, rfl, rfl, rfl, hl, hp, S, ab, bb, cs⟩
    · exact .inr ⟨bx, e⟩
    · refine .inl ⟨l, xs, rfl, gx, ?_⟩
      walk_at "rd"
      exact ⟨y, n, rfl, ty, (fun i => by rw [i] at iy; cases iy), fun _ => e⟩
    · refine .inl ⟨l, xs, rfl, gx, ?_⟩
      walk_at "rd"
      refine ⟨y, n, rfl, ty, (fun _ => ?_), (fun i => by rw [i] at iy; cases iy)⟩
      walk_at "rd"
      exact ⟨z, m, rfl, tz, (fun i => by rw [i] at iz; cases iz), fun _ => e⟩
    have SS := sidesAt1 hl hp S
    have cN : ((comN [d] : Nat) : Int) = perM d.s d.m := by
      have e : comN [d] = perN d := by
        show Nat.lcm 1 (perN d) = perN d
        exact Nat.lcm_one_left _
      rw [e]
      have := perM_bd S
      exact Int.toNat_of_nonneg (by omega)
    have pb := perM_bd S
    refine .inl ⟨l, _, rfl, good_of SS, ?_⟩
    walk_at "rd"
    refine ⟨_, "int", rfl, .int a, (fun _ => ?_), (fun z => by cases z)⟩
    walk_at "rd"
    refine ⟨_, "int", rfl, .int b, (fun _ => ?_), (fun z => by cases z)⟩
    walk_at "rd"
    refine ⟨l, _, _, rfl, SS.toL, ?_⟩
    rw [cN]
    walk_at "rd"
    rcases cs with ⟨c1, e⟩ | ⟨c1, c2, e⟩ | ⟨c1, c2, q⟩
    · refine ite2 (fun _ => ?_) (fun z => absurd (decide_eq_true (by omega)) z)
      exact e _ (Same.refl H)
    · refine ite2 (fun z => absurd (of_decide_eq_true z) (by omega)) (fun _ => ?_)
      walk_at "rd"
      refine ite2 (fun _ => ?_) (fun z => absurd (decide_eq_true (by split <;> omega)) z)
      exact e _ (Same.refl H)
    refine ite2 (fun z => absurd (of_decide_eq_true z) (by omega)) (fun _ => ?_)
    walk_at "rd"
    refine ite2 (fun z => absurd (of_decide_eq_true z) (by split <;> omega)) (fun _ => ?_)
    walk_at "rd"
    refine ⟨a, b, rfl, ?_⟩
    walk_at "rd"
    refine ⟨by omega, ?_⟩
    walk_at "rd"
    obtain ⟨l0, el⟩ : ∃ l0, l0 = (if b < a then b else a) % perM d.s d.m := ⟨_, rfl⟩
    obtain ⟨a0, ea⟩ : ∃ a0, a0 = (if a - b < 0 then -(a - b) else a - b) := ⟨_, rfl⟩
    have l0b : 0 ≤ l0 ∧ l0 < perM d.s d.m := by
      rw [el]
      exact ⟨Int.emod_nonneg _ (by omega), Int.emod_lt_of_pos _ (by omega)⟩
    have a0b : 0 ≤ a0 ∧ a0 ≤ 240 := by
      rw [ea]
      split <;> omega
    refine ⟨(by show 2 ≤ sizeLine; decide), fun p0 np0 => ?_⟩
    generalize e_1 : upd H p0 _ = H1
    have g0 : H1 p0 = some (.tup ((keyP l0 a0).map kV)) := by
      rw [← e_1, upd_same, el, ea]
      rfl
    have s0' : Same H H1 := by rw [← e_1]; exact same_upd np0
    clear e_1 el ea
    walk_at "rd"
    refine ⟨(by show 1 ≤ sizeLine; decide), fun pl npl => ?_⟩
    have gl : upd H1 pl (.lst [.ref p0]) pl = some (.lst [.ref p0]) := upd_same
    have sl : Same H1 (upd H1 pl (.lst [.ref p0])) := same_upd npl
    have npl0 := s0'.free npl
    generalize upd H1 pl (.lst [.ref p0]) = H2 at gl sl ⊢
    walk_at "rd"
    refine fun wd nwd => ?_
    have gw : upd H2 wd (.dT []) wd = some (.dT []) := upd_same
    have sw : Same H2 (upd H2 wd (.dT [])) := same_upd nwd
    have nwd0 := (s0'.trans sl).free nwd
    generalize upd H2 wd (.dT []) = H3 at gw sw ⊢
    have npw : pl ≠ wd := ne_of_none gl nwd
    walk_at "rd"
    refine ⟨pl, _, 0, _, rfl, rfl, SqL.of (sw _ _ gl), rfl, ?_⟩
    refine ⟨gw, p0, keyP l0 a0, rfl, sw _ _ (sl _ _ g0), ?_⟩
    have gw4 : upd H3 wd (.dT [(keyP l0 a0, .non)]) wd = some (.dT [(keyP l0 a0, .non)]) := upd_same
    have gl4 : upd H3 wd (.dT [(keyP l0 a0, .non)]) pl = some (.lst [.ref p0]) := (upd_ne npw).trans (sw _ _ gl)
    have g04 : upd H3 wd (.dT [(keyP l0 a0, .non)]) p0 = some (.tup ((keyP l0 a0).map kV)) := (upd_ne (ne_of (sw _ _ (sl _ _ g0)) gw (by intro z; cases z))).trans (sw _ _ (sl _ _ g0))
    have s4 : Same H (upd H3 wd (.dT [(keyP l0 a0, .non)])) := fun c u z => (upd_ne (ne_of_none z nwd0)).trans (sw _ _ (sl _ _ (s0' _ _ z)))
    generalize upd H3 wd (.dT [(keyP l0 a0, .non)]) = H4 at gw4 gl4 g04 s4 ⊢
    clear gw sw gl sl g0 s0'
    walk_at "rd"
    have nb1 := due_near (o := d.o) (v := l0) S.md S.s0
    have nb2 := due_near (o := d.o) (v := l0 + a0) S.md S.s0
    have sp1 : d.s ≤ perM d.s d.m := by unfold perM; split <;> (have := S.s0; omega)
    have l1b : 0 ≤ lowP d l0 ∧ lowP d l0 < perM d.s d.m := ⟨Int.emod_nonneg _ (by omega), Int.emod_lt_of_pos _ (by omega)⟩
    have a1b : -1000 ≤ apP d l0 a0 ∧ apP d l0 a0 ≤ 1000 := by
      unfold apP wD
      omega
    obtain ⟨r1, r2⟩ := pair_rest S l0 a0
    refine ⟨fun m σ H' => ∃ (k : Nat) (ps : List Addr) (kvs : List (List Key × V)) (x7 x8 x9 x10 x11 x12 : Option V), σ = [some (.ref l), some (.int a), some (.int b), some (.int (perM d.s d.m)), some (.ref pl), some (.ref wd), some (.int (k : Int)), x7, x8, x9, x10, x11, x12] ∧ Same H H' ∧ H' pl = some (.lst (ps.map V.ref)) ∧ H' wd = some (.dT kvs) ∧ H' p0 = some (.tup ((keyP l0 a0).map kV)) ∧ m = 2 - k ∧ ((k = 0 ∧ ps = [p0] ∧ kvs = [(keyP l0 a0, .non)]) ∨ (k = 1 ∧ ps = [p0]) ∨ (∃ p1 t, k = 1 ∧ ps = [p0, p1] ∧ H' p1 = some (.tup ((keyP (lowP d l0) (apP d l0 a0)).map kV)) ∧ keyP l0 a0 ≠ keyP (lowP d l0) (apP d l0 a0) ∧ kvs = [(keyP l0 a0, .non), (keyP (lowP d l0) (apP d l0 a0), .ref t)] ∧ H' t = some (.tup [.ref p0, .int 0])) ∨ (k = 2 ∧ ∃ p1, ps = [p0, p1])),
      ⟨2, 0, [p0], _, none, none, none, none, none, none, rfl, s4, gl4, gw4, g04, rfl, .inl ⟨rfl, rfl, rfl⟩⟩, ?_⟩
    clear gw4 gl4 g04 s4
    rintro m σ H5 ⟨k, ps, kvs, x7, x8, x9, x10, x11, x12, rfl, s5, hpl, hwd, hp0, rfl, cs⟩
    walk_at "rd"
    refine ⟨pl, _, rfl, .inl (SqL.of hpl), ?_⟩
    rw [List.length_map]
    walk_at "rd"
    refine ite2 (fun z => ?_) (fun _ => ?_)
    · have kl : k < ps.length := by have := of_decide_eq_true z; omega
      obtain ⟨pk, lk, ak, hpk, epk, lkb, akb, way, step⟩ : ∃ (pk : Addr) (lk ak : Int), H5 pk = some (.tup ((keyP lk ak).map kV)) ∧ (ps.map V.ref)[k]? = some (.ref pk) ∧ (0 ≤ lk ∧ lk < perM d.s d.m) ∧ (-1000 ≤ ak ∧ ak ≤ 1000) ∧ (valV kvs (keyP lk ak) = some .non ∨ ∃ (t : Addr) (n : Int), valV kvs (keyP lk ak) = some (.ref t) ∧ H5 t = some (.tup [.ref p0, .int n]) ∧ valV kvs (keyP l0 a0) = some .non) ∧
          ((k = 0 ∧ ps = [p0] ∧ kvs = [(keyP l0 a0, .non)] ∧ pk = p0 ∧ lk = l0 ∧ ak = a0) ∨ (k = 1 ∧ (∃ p1, ps = [p0, p1]) ∧ (valV kvs (keyP (lowP d lk) (apP d lk ak))).isSome = true)) := by
        rcases cs with ⟨rfl, rfl, rfl⟩ | ⟨rfl, rfl⟩ | ⟨p1, t, rfl, rfl, hp1, ne, rfl, ht⟩ | ⟨rfl, p1, rfl⟩
        · exact ⟨p0, l0, a0, hp0, rfl, l0b, by omega, .inl (valV_pos rfl), .inl ⟨rfl, rfl, rfl, rfl, rfl, rfl⟩⟩
        · exact absurd kl (by show ¬ 1 < 1; decide)
        · have e1 : valV [(keyP l0 a0, V.non), (keyP (lowP d l0) (apP d l0 a0), V.ref t)] (keyP (lowP d l0) (apP d l0 a0)) = some (.ref t) := by
            rw [valV_neg ne]
            exact valV_pos rfl
          have el : lowP d (lowP d l0) = lowP d l0 := by
            show wD d (lowP d l0) % perM d.s d.m = _
            rw [r1]
            exact Int.emod_eq_of_lt l1b.1 l1b.2
          have ea : apP d (lowP d l0) (apP d l0 a0) = apP d l0 a0 := by
            show wD d (lowP d l0 + apP d l0 a0) - wD d (lowP d l0) = _
            rw [r1, r2]
            omega
          exact ⟨p1, lowP d l0, apP d l0 a0, hp1, rfl, l1b, a1b, .inr ⟨t, 0, e1, ht, valV_pos rfl⟩, .inr ⟨rfl, ⟨p1, rfl⟩, by rw [el, ea, e1]; rfl⟩⟩
        · exact absurd kl (by show ¬ 2 < 2; decide)
      clear cs
      have k1 : k ≤ 1 := by rcases step with ⟨z, _⟩ | ⟨z, _⟩ <;> omega
      refine ⟨fun σ H' => ∃ (ps : List Addr) (kvs : List (List Key × V)) (x7 x8 x9 x10 x11 x12 : Option V), σ = [some (.ref l), some (.int a), some (.int b), some (.int (perM d.s d.m)), some (.ref pl), some (.ref wd), some (.int ((k : Int) + 1)), x7, x8, x9, x10, x11, x12] ∧ Same H H' ∧ H' pl = some (.lst (ps.map V.ref)) ∧ H' wd = some (.dT kvs) ∧ H' p0 = some (.tup ((keyP l0 a0).map kV)) ∧ ((k = 0 ∧ ps = [p0]) ∨ (∃ p1 t, k = 0 ∧ ps = [p0, p1] ∧ H' p1 = some (.tup ((keyP (lowP d l0) (apP d l0 a0)).map kV)) ∧ keyP l0 a0 ≠ keyP (lowP d l0) (apP d l0 a0) ∧ kvs = [(keyP l0 a0, .non), (keyP (lowP d l0) (apP d l0 a0), .ref t)] ∧ H' t = some (.tup [.ref p0, .int 0])) ∨ (k = 1 ∧ ∃ p1, ps = [p0, p1])),
        fun σ H' ⟨ps, kvs, x7, x8, x9, x10, x11, x12, e1, e2, e3, e4, e5, e6⟩ => ⟨2 - (k + 1), by omega, k + 1, ps, kvs, x7, x8, x9, x10, x11, x12, e1, e2, e3, e4, e5, rfl, ?_⟩, ?_⟩
      · rcases e6 with ⟨a1, a2⟩ | ⟨p1, t, a1, a2⟩ | ⟨a1, a2⟩
        · exact .inr (.inl ⟨by omega, a2⟩)
        · exact .inr (.inr (.inl ⟨p1, t, by omega, a2⟩))
        · exact .inr (.inr (.inr ⟨by omega, a2⟩))
      walk_at "rd"
      refine ⟨pl, _, _, _, rfl, rfl, SqL.of hpl, atI_nat epk, ?_⟩
      walk_at "rd"
      refine ⟨pk, _, rfl, SqT.of hpk, rfl, _, _, rfl, _, _, rfl, rfl, ?_⟩
      walk_at "rd"
      refine ⟨rfl, ?_⟩
      refine ⟨_, rfl, ?_⟩
      refine ite2 (fun _ => ?_) (fun _ => ?_)
      · walk_at "rd"
        refine ⟨pl, _, _, _, rfl, rfl, SqL.of hpl, atI_nat epk, ?_⟩
        refine ⟨wd, pk, kvs, keyP lk ak, rfl, hwd, hpk, way.imp id fun ⟨t, n, e1, e2, e3⟩ => ⟨t, p0, n, keyP l0 a0, e1, e2, hp0, e3⟩, fun r H' s' => q _ _ (s5.trans s')⟩
      walk_at "rd"
      refine ⟨fun σ H' => ∃ (ps : List Addr) (kvs : List (List Key × V)) (x7 x8 x9 x10 x11 x12 : Option V), σ = [some (.ref l), some (.int a), some (.int b), some (.int (perM d.s d.m)), some (.ref pl), some (.ref wd), some (.int ((k : Int))), x7, x8, x9, x10, x11, x12] ∧ Same H H' ∧ H' pl = some (.lst (ps.map V.ref)) ∧ H' wd = some (.dT kvs) ∧ H' p0 = some (.tup ((keyP l0 a0).map kV)) ∧ ((k = 0 ∧ ps = [p0]) ∨ (∃ p1 t, k = 0 ∧ ps = [p0, p1] ∧ H' p1 = some (.tup ((keyP (lowP d l0) (apP d l0 a0)).map kV)) ∧ keyP l0 a0 ≠ keyP (lowP d l0) (apP d l0 a0) ∧ kvs = [(keyP l0 a0, .non), (keyP (lowP d l0) (apP d l0 a0), .ref t)] ∧ H' t = some (.tup [.ref p0, .int 0])) ∨ (k = 1 ∧ ∃ p1, ps = [p0, p1])), ?_, ?_⟩
      · walk_at "rd"
        refine ⟨l, _, rfl, SqL.of (s5 _ _ hl), ?_⟩
        refine for_enumL (K := K) (a := l) (xs := [V.ref p]) (fun i st H' => (i = 0 ∧ H' = H5 ∧ st = [some (.ref l), some (.int a), some (.int b), some (.int (perM d.s d.m)), some (.ref pl), some (.ref wd), some (.int (k : Int)), some (.int lk), some (.int ak), x9, x10, x11, x12]) ∨ (i = 1 ∧ ∃ (ps : List Addr) (kvs : List (List Key × V)) (x7 x8 x9 x10 x11 x12 : Option V), st = [some (.ref l), some (.int a), some (.int b), some (.int (perM d.s d.m)), some (.ref pl), some (.ref wd), some (.int ((k : Int))), x7, x8, x9, x10, x11, x12] ∧ Same H H' ∧ H' pl = some (.lst (ps.map V.ref)) ∧ H' wd = some (.dT kvs) ∧ H' p0 = some (.tup ((keyP l0 a0).map kV)) ∧ ((k = 0 ∧ ps = [p0]) ∨ (∃ p1 t, k = 0 ∧ ps = [p0, p1] ∧ H' p1 = some (.tup ((keyP (lowP d l0) (apP d l0 a0)).map kV)) ∧ keyP l0 a0 ≠ keyP (lowP d l0) (apP d l0 a0) ∧ kvs = [(keyP l0 a0, .non), (keyP (lowP d l0) (apP d l0 a0), .ref t)] ∧ H' t = some (.tup [.ref p0, .int 0])) ∨ (k = 1 ∧ ∃ p1, ps = [p0, p1]))))
          (.inl ⟨rfl, rfl, rfl⟩) (fun i st H' _ z => by
            rcases z with ⟨_, rfl, _⟩ | ⟨_, ps, kvs, x7, x8, x9, x10, x11, x12, _, e, _⟩
            · exact SqL.of (s5 _ _ hl)
            · exact SqL.of (e _ _ hl)) ?_ (fun st H' z => by
            rcases z with ⟨z, _⟩ | ⟨_, z⟩
            · cases z
            · exact z)
        rintro i y st H' hy z T nT
        rcases z with ⟨rfl, rfl, rfl⟩ | ⟨rfl, _⟩
        · cases hy
          have gT : upd H' T (.tup [.int ((0 : Nat) : Int), .ref p]) T = some (.tup [.int ((0 : Nat) : Int), .ref p]) := upd_same
          have sT : Same H' (upd H' T (.tup [.int ((0 : Nat) : Int), .ref p])) := same_upd nT
          generalize upd H' T (.tup [.int ((0 : Nat) : Int), .ref p]) = H6 at gT sT ⊢
          refine ⟨T, _, rfl, SqT.of gT, rfl, ?_⟩
          refine ⟨_, _, rfl, _, _, rfl, rfl, ?_⟩
          walk_at "rd"
          refine ⟨p, _, _, _, lk, rfl, sT _ _ (s5 _ _ hp), S, ⟨by omega, by omega⟩, fun H7 s7 => ?_⟩
          walk_at "rd"
          refine ⟨by omega, ?_⟩
          walk_at "rd"
          refine ⟨p, _, _, _, lk + ak, rfl, s7 _ _ (sT _ _ (s5 _ _ hp)), S, ⟨by omega, by omega⟩, fun H8 s8 => ?_⟩
          walk_at "rd"
          refine ⟨(by show 2 ≤ sizeLine; decide), fun pn npn => ?_⟩
          generalize e_9 : upd H8 pn _ = H9
          have gn : H9 pn = some (.tup ((keyP (lowP d lk) (apP d lk ak)).map kV)) := by
            rw [← e_9, upd_same]
            rfl
          have s9 : Same H' H9 := by
            rw [← e_9]
            exact sT.trans (s7.trans (s8.trans (same_upd npn)))
          have npnH : H pn = none := (s5.trans (sT.trans (s7.trans s8))).free npn
          have npn5 : H' pn = none := (sT.trans (s7.trans s8)).free npn
          clear e_9 npn s7 s8 gT sT
          walk_at "rd"
          refine ⟨wd, _, rfl, DGet.t (s9 _ _ hwd) gn, ?_⟩
          refine ⟨_, rfl, ?_⟩
          rcases step with ⟨k0, rfl, rfl, rfl, rfl, rfl⟩ | ⟨rfl, ⟨p1, rfl⟩, isS⟩
          · by_cases ne : keyP lk ak = keyP (lowP d lk) (apP d lk ak)
            · have e1 : valV [(keyP lk ak, V.non)] (keyP (lowP d lk) (apP d lk ak)) = some .non := valV_pos ne
              refine ite2 (fun z => absurd z (by rw [e1]; decide)) (fun _ => ?_)
              exact .inr ⟨rfl, [pk], _, _, _, _, _, _, _, rfl, s5.trans s9, s9 _ _ hpl, s9 _ _ hwd, s9 _ _ hp0, .inl ⟨k0, rfl⟩⟩
            have e1 : valV [(keyP lk ak, V.non)] (keyP (lowP d lk) (apP d lk ak)) = none := valV_neg ne
            refine ite2 (fun _ => ?_) (fun z => absurd (by rw [e1]; rfl) z)
            walk_at "rd"
            refine ⟨pl, _, _, _, rfl, rfl, SqL.of (s9 _ _ hpl), atI_nat epk, ?_⟩
            walk_at "rd"
            refine ⟨(by show 2 ≤ sizeLine; decide), fun tn ntn => ?_⟩
            have gt : upd H9 tn (.tup [.ref pk, .int ((0 : Nat) : Int)]) tn = some (.tup [.ref pk, .int 0]) := upd_same
            have st' : Same H9 (upd H9 tn (.tup [.ref pk, .int ((0 : Nat) : Int)])) := same_upd ntn
            have ntnH : H tn = none := (s5.trans s9).free ntn
            generalize upd H9 tn (.tup [.ref pk, .int ((0 : Nat) : Int)]) = H10 at gt st' ⊢
            walk_at "rd"
            have hw10 := st' _ _ (s9 _ _ hwd)
            have hl10 := st' _ _ (s9 _ _ hpl)
            have hp10 := st' _ _ (s9 _ _ hp0)
            have gn10 := st' _ _ gn
            refine ⟨wd, _, rfl, DPut.t hw10 gn10 (by show 1 < sizeLine; decide), ?_⟩
            rw [putK_new _ e1]
            have sA : Same H (upd H10 wd (.dT ([(keyP lk ak, V.non)] ++ [(keyP (lowP d lk) (apP d lk ak), .ref tn)]))) := fun b u z => (upd_ne (ne_of_none z nwd0)).trans (st' _ _ (s9 _ _ (s5 _ _ z)))
            have gA : upd H10 wd (.dT ([(keyP lk ak, V.non)] ++ [(keyP (lowP d lk) (apP d lk ak), .ref tn)])) wd = some (.dT [(keyP lk ak, .non), (keyP (lowP d lk) (apP d lk ak), .ref tn)]) := upd_same
            have oth : ∀ {b : Addr} {u : HO}, H10 b = some u → (∀ z, u ≠ .dT z) → upd H10 wd (.dT ([(keyP lk ak, V.non)] ++ [(keyP (lowP d lk) (apP d lk ak), .ref tn)])) b = some u := fun {b u} e n => (upd_ne (ne_of e hw10 (fun y => n _ y))).trans e
            have hlA := oth hl10 (fun _ y => by cases y)
            have hpA := oth hp10 (fun _ y => by cases y)
            have gnA := oth gn10 (fun _ y => by cases y)
            have gtA := oth gt (fun _ y => by cases y)
            generalize upd H10 wd (.dT ([(keyP lk ak, V.non)] ++ [(keyP (lowP d lk) (apP d lk ak), .ref tn)])) = H11 at sA gA hlA hpA gnA gtA ⊢
            walk_at "rd"
            refine ⟨.inl ⟨rfl, _, SqL.of hlA⟩, ?_⟩
            walk_at "rd"
            refine ⟨pl, _, _, rfl, rfl, hlA, (by show 1 < sizeLine; decide), ?_⟩
            have oth2 : ∀ {b : Addr} {u : HO}, H11 b = some u → (∀ z, u ≠ .lst z) → upd H11 pl (.lst ([pk].map V.ref ++ [.ref pn])) b = some u := fun {b u} e n => (upd_ne (ne_of e hlA (fun y => n _ y))).trans e
            exact .inr ⟨rfl, [pk, pn], _, _, _, _, _, _, _, rfl, fun b u z => (upd_ne (ne_of_none z npl0)).trans (sA _ _ z), upd_same, oth2 gA (fun _ y => by cases y), oth2 hpA (fun _ y => by cases y), .inr (.inl ⟨pn, tn, k0, rfl, oth2 gnA (fun _ y => by cases y), ne, rfl, oth2 gtA (fun _ y => by cases y)⟩)⟩
          · refine ite2 (fun z => absurd z (by rw [isS]; decide)) (fun _ => ?_)
            exact .inr ⟨rfl, [p0, p1], kvs, _, _, _, _, _, _, rfl, s5.trans s9, s9 _ _ hpl, s9 _ _ hwd, s9 _ _ hp0, .inr (.inr ⟨rfl, p1, rfl⟩)⟩
        · cases hy
      rintro σ H6 ⟨ps', kvs', y7, y8, y9, y10, y11, y12, rfl, s6, z⟩
      walk_at "rd"
      exact ⟨ps', kvs', y7, y8, y9, y10, y11, y12, rfl, s6, z⟩
    · exact q _ _ s5
end
end HT
namespace HT
open PySem L2
def spPacU (K : PySem.W.Frag) (C : Nat → Addr) : Sp := fun vs H Q E => spCreep vs H Q E ∨ spPacB K C vs H Q E
def spSetU (K : PySem.W.Frag) (C : Nat → Addr) : Sp := fun vs H Q E => spSettled vs H Q E ∨ spSetB K C vs H Q E
def spWiU (K : PySem.W.Frag) (C : Nat → Addr) : Sp := fun vs H Q E => spWiX C vs H Q E ∨ spWiB K C vs H Q E
def spFewU (K : PySem.W.Frag) (C : Nat → Addr) : Sp := fun vs H Q E => spFew vs H Q E ∨ spFewB K C vs H Q E
/-- what a call by its way comes to: no error, or which -/
inductive AskW (K : PySem.W.Frag) (H : Hp) : Nat → V → V → V → V → V → Option Nat → Prop
  | p0 {o t l r m : V} (b : BadS K H o) : AskW K H 0 o t l r m (some 0)
  | p1 {o t l r m : V} (g : GoodS H o) (b : BadS K H t) : AskW K H 0 o t l r m (some 0)
  | p2 {o t l r m : V} (g : GoodS H o) (g2 : GoodS H t) : AskW K H 0 o t l r m none
  | s0 {o t l r m : V} (b : BadS K H o) : AskW K H 1 o t l r m (some 0)
  | s1 {o t l r m : V} (g : GoodS H o) (b : BadS K H t) : AskW K H 1 o t l r m (some 0)
  | s2 {o t l r m : V} {n : String} (g : GoodS H o) (g2 : GoodS H t) (h : Th H l n) (i : isI n = false) : AskW K H 1 o t l r m (some 3)
  | s3 {o t r m : V} {v : Int} (g : GoodS H o) (g2 : GoodS H t) (b : -1000 < v ∧ v < 1000) : AskW K H 1 o t (.int v) r m none
  | w0 {o t l r m : V} (b : BadL K H o) : AskW K H 2 o t l r m (some 1)
  | w1 {a : Addr} {xs : List V} {t l r m : V} {n : String} (g : GoodL H a xs) (h : Th H l n) (i : isI n = false) : AskW K H 2 (.ref a) t l r m (some 3)
  | w2 {a : Addr} {xs : List V} {t l r m : V} {n k : String} (g : GoodL H a xs) (h : Th H l n) (i : isI n = true) (h2 : Th H m k) (i2 : inB m 0 (10 ^ 40) = false) : AskW K H 2 (.ref a) t l r m (some 4)
  | w3 {a : Addr} {xs : List V} {ss : List Sd} {t r : V} {v : Int} {n : Nat} (S : SidesAt H a xs ss) (b : -1000 < v ∧ v < 1000) (h : n ≤ 10 ^ 40) (h2 : n ≤ 10000 ∨ (Rec ss v ∧ Rec (ss.map mirD) (-v))) : AskW K H 2 (.ref a) t (.int v) r (.int (n : Int)) none
  | m0 {o t l r m : V} (b : BadL K H o) : AskW K H 3 o t l r m (some 1)
  | m1 {a : Addr} {xs : List V} {t l r m : V} {n : String} (g : GoodL H a xs) (h : Th H l n) (i : isI n = false) : AskW K H 3 (.ref a) t l r m (some 3)
  | m2 {a : Addr} {xs : List V} {t l r m : V} {n k : String} (g : GoodL H a xs) (h : Th H l n) (i : isI n = true) (h2 : Th H r k) (i2 : isI k = false) : AskW K H 3 (.ref a) t l r m (some 3)
  | m3 {a p : Addr} {d : Sd} {t m : V} {x y : Int} (h : H a = some (.lst [.ref p])) (hp : H p = some (sideV d.o d.s d.m)) (S : SideP d.o d.s d.m) (xb : -10 ^ 6 < x ∧ x < 10 ^ 6) (yb : -10 ^ 6 < y ∧ y < 10 ^ 6) (c : 120 < perM d.s d.m ∨ (perM d.s d.m ≤ 120 ∧ 240 < ((x - y).natAbs : Int))) : AskW K H 3 (.ref a) t (.int x) (.int y) m (some 2)
  | m4 {a p : Addr} {d : Sd} {t m : V} {x y : Int} (h : H a = some (.lst [.ref p])) (hp : H p = some (sideV d.o d.s d.m)) (S : SideP d.o d.s d.m) (xb : -10 ^ 6 < x ∧ x < 10 ^ 6) (yb : -10 ^ 6 < y ∧ y < 10 ^ 6) (c : perM d.s d.m ≤ 120 ∧ ((x - y).natAbs : Int) ≤ 240) : AskW K H 3 (.ref a) t (.int x) (.int y) m none
  | f0 {o t l r m : V} (b : BadL K H o) : AskW K H 4 o t l r m (some 1)
  | f1 {a : Addr} {xs : List V} {t l r m : V} (g : GoodL H a xs) (c : 3 < xs.length) : AskW K H 4 (.ref a) t l r m (some 1)
  | f2 {a : Addr} {xs : List V} {t l r m : V} (g : GoodL H a xs) (c : xs.length ≤ 3) (b : BadS K H t) : AskW K H 4 (.ref a) t l r m (some 0)
  | f3 {a p : Addr} {xs : List V} {ss : List Sd} {l r m : V} {o s : Int} {md : Str} (S : SidesAt H a xs ss) (c : ss.length ≤ 3) (hp : H p = some (sideV o s md)) (sp : SideP o s md) (b : 20000 < comN (ss ++ [⟨o, s, md⟩])) : AskW K H 4 (.ref a) (.ref p) l r m (some 2)
  | f4 {a p : Addr} {xs : List V} {ss : List Sd} {l r m : V} {o s : Int} {md : Str} (S : SidesAt H a xs ss) (c : ss.length ≤ 3) (hp : H p = some (sideV o s md)) (sp : SideP o s md) (b : comN (ss ++ [⟨o, s, md⟩]) ≤ 20000) : AskW K H 4 (.ref a) (.ref p) l r m none
def spAsked (K : PySem.W.Frag) (C : Nat → Addr) : Sp := fun vs H Q E => ∃ (kd : Nat) (pl : Addr) (o t l r m : V) (wd : Option Nat), vs = [.int (kd : Int), .ref pl] ∧ H pl = some (.lst [o, t, l, r, m]) ∧ AskW K H kd o t l r m wd ∧
  (wd = none → ∀ v H', Same H H' → Q v H') ∧ (∀ i, wd = some i → ∀ H', Same H H' → E (.ref (C i)) none H')
theorem GoodS.sd {H : Hp} {x : V} (g : GoodS H x) : ∃ (p : Addr) (d : Sd), x = .ref p ∧ H p = some (sideV d.o d.s d.m) ∧ SideP d.o d.s d.m := let ⟨p, o, s, m, a, b, c⟩ := g; ⟨p, ⟨o, s, m⟩, a, b, c⟩
theorem kd_of {k j : Nat} (z : decide (V.int (k : Int) = V.int (j : Int)) = true) : k = j := by
  have e := of_decide_eq_true z
  injection e with e
  omega
section
variable {P : Program} {w : World} {K : PySem.W.Frag} {mg : Str → Option Value} {base : Heap} {f1 f2 f3 f4 f5 : Addr} {d1 d2 d3 d4 d5 : FuncData} {C : Nat → Addr}
theorem ok_asked {f : Addr} {fd : FuncData} (F : Fun K "_law_asked" "_law_asked" s_L_asked f fd) (Pa : CalX P w K mg base "pace" 107 ["first", "second"] (spPacU K C) f1 d1) (Se : CalX P w K mg base "settled" 108 ["first", "second", "value"] (spSetU K C) f2 d2) (Wi : CalX P w K mg base "within" 6 ["sides", "value", "many"] (spWiU K C) f3 d3) (Me : CalX P w K mg base "meeting" 6 ["sides", "one", "other"] (spMeetX K C) f4 d4) (Fe : CalX P w K mg base "fewest_places" 7 ["sides", "side"] (spFewU K C) f5 d5) : FnOk P w K mg base (L2.CX P w) 109 f fd ["_law_way", "_law_parts"] (spAsked K C) := by
  refine F.okAny sc_L_asked (fun vs H Q E h => ?_) (fun cdv A outer s0 H vs Q E hr h => ?_)
  · obtain ⟨kd, pl, o, t, l, r, m, wd, rfl, _⟩ := h
    rfl
  · obtain ⟨kd, pl, o, t, l, r, m, wd, rfl, hp, aw, q, qe⟩ := h
    have nd := sc_L_asked.nd
    refine ⟨_, (pss_cons (ps_asg (pv 1) (pg_unl (n := 5) (by rfl) (pgs_cons (pg_name (i := 2) nd rfl (Or.inl rfl)) (pgs_cons (pg_name (i := 3) nd rfl (Or.inl rfl)) (pgs_cons (pg_name (i := 4) nd rfl (Or.inl rfl)) (pgs_cons (pg_name (i := 5) nd rfl (Or.inl rfl)) (pgs_cons (pg_name (i := 6) nd rfl (Or.inl rfl)) pgs_nil)))))))
      (pss_cons (ps_if (pt_cmpR op_eq (pv 0) pe_int (nomark _)) (pss_one (ps_ret (pcx Pa hr (by decide) (by rfl) (takes_of rfl rfl rfl rfl) (pa_cons (pv 2) (pa_cons (pv 3) pa_nil))))) pss_nil)
      (pss_cons (ps_if (pt_cmpR op_eq (pv 0) pe_int (nomark _)) (pss_one (ps_ret (pcx Se hr (by decide) (by rfl) (takes_of rfl rfl rfl rfl) (pa_cons (pv 2) (pa_cons (pv 3) (pa_cons (pv 4) pa_nil)))))) pss_nil)
      (pss_cons (ps_if (pt_cmpR op_eq (pv 0) pe_int (nomark _)) (pss_one (ps_ret (pcx Wi hr (by decide) (by rfl) (takes_of rfl rfl rfl rfl) (pa_cons (pv 2) (pa_cons (pv 4) (pa_cons (pv 6) pa_nil)))))) pss_nil)
      (pss_cons (ps_if (pt_cmpR op_eq (pv 0) pe_int (nomark _)) (pss_one (ps_ret (pcx Me hr (by decide) (by rfl) (takes_of rfl rfl rfl rfl) (pa_cons (pv 2) (pa_cons (pv 4) (pa_cons (pv 5) pa_nil)))))) pss_nil)
      (pss_one (ps_ret (pcx Fe hr (by decide) (by rfl) (takes_of rfl rfl rfl rfl) (pa_cons (pv 2) (pa_cons (pv 3) pa_nil)))))))))), ?_⟩
    walk_at "rd"
    refine ⟨pl, _, rfl, SqL.of hp, ?_⟩
    refine ⟨rfl, _, _, rfl, _, _, rfl, _, _, rfl, _, _, rfl, _, _, rfl, rfl, ?_⟩
    walk_at "rd"
    refine ⟨rfl, ?_⟩
    refine ⟨_, rfl, ?_⟩
    refine ite2 (fun z => ?_) (fun z0 => ?_)
    · obtain rfl : kd = 0 := kd_of (j := 0) z
      walk_at "rd"
      cases aw with
      | p0 b => exact .inr ⟨_, _, rfl, .inl ⟨b, qe _ rfl _ (Same.refl H)⟩⟩
      | p1 g b => exact .inr ⟨_, _, rfl, .inr ⟨g, b, qe _ rfl _ (Same.refl H)⟩⟩
      | p2 g g2 =>
        obtain ⟨a, A, rfl, ha, SA⟩ := g.sd
        obtain ⟨b, B, rfl, hb, SB⟩ := g2.sd
        exact .inl ⟨a, b, A, B, rfl, ha, SA, hb, SB, fun c H' _ s' => q rfl _ _ s'⟩
    walk_at "rd"
    refine ⟨rfl, ?_⟩
    refine ⟨_, rfl, ?_⟩
    refine ite2 (fun z => ?_) (fun z1 => ?_)
    · obtain rfl : kd = 1 := kd_of (j := 1) z
      walk_at "rd"
      cases aw with
      | s0 b => exact .inr ⟨_, _, _, rfl, .inl ⟨b, qe _ rfl _ (Same.refl H)⟩⟩
      | s1 g b => exact .inr ⟨_, _, _, rfl, .inr (.inl ⟨g, b, qe _ rfl _ (Same.refl H)⟩)⟩
      | s2 g g2 h i => exact .inr ⟨_, _, _, rfl, .inr (.inr ⟨_, g, g2, h, i, qe _ rfl _ (Same.refl H)⟩)⟩
      | s3 g g2 vb =>
        obtain ⟨a, A, rfl, ha, SA⟩ := g.sd
        obtain ⟨b, B, rfl, hb, SB⟩ := g2.sd
        exact .inl ⟨a, b, A, B, _, rfl, ha, SA, hb, SB, ⟨by omega, by omega⟩, fun c T H' o' _ _ s' _ _ => q rfl _ _ s'⟩
    walk_at "rd"
    refine ⟨rfl, ?_⟩
    refine ⟨_, rfl, ?_⟩
    refine ite2 (fun z => ?_) (fun z2 => ?_)
    · obtain rfl : kd = 2 := kd_of (j := 2) z
      walk_at "rd"
      cases aw with
      | w0 b => exact .inr ⟨_, _, _, rfl, .inl ⟨b, qe _ rfl _ (Same.refl H)⟩⟩
      | w1 g h i => exact .inr ⟨_, _, _, rfl, .inr (.inl ⟨_, _, _, rfl, g, h, i, qe _ rfl _ (Same.refl H)⟩)⟩
      | w2 g h i h2 i2 => exact .inr ⟨_, _, _, rfl, .inr (.inr ⟨_, _, _, _, rfl, g, h, i, h2, i2, qe _ rfl _ (Same.refl H)⟩)⟩
      | w3 S b h h2 => exact .inl ⟨_, _, _, _, _, rfl, S, ⟨by omega, by omega⟩, h, fun _ p H' s' _ _ => q rfl _ _ s', fun c n => absurd h2 (fun y => y.elim (fun y => by omega) n)⟩
    walk_at "rd"
    refine ⟨rfl, ?_⟩
    refine ⟨_, rfl, ?_⟩
    refine ite2 (fun z => ?_) (fun z3 => ?_)
    · obtain rfl : kd = 3 := kd_of (j := 3) z
      walk_at "rd"
      cases aw with
      | m0 b => exact ⟨_, _, _, rfl, .inl ⟨b, qe _ rfl _ (Same.refl H)⟩⟩
      | m1 g h i => exact ⟨_, _, _, rfl, .inr (.inl ⟨_, _, _, rfl, g, h, i, qe _ rfl _ (Same.refl H)⟩)⟩
      | m2 g h i h2 i2 => exact ⟨_, _, _, rfl, .inr (.inr (.inl ⟨_, _, _, _, rfl, g, h, i, h2, i2, qe _ rfl _ (Same.refl H)⟩))⟩
      | m3 h hp2 S xb yb c => exact ⟨_, _, _, rfl, .inr (.inr (.inr ⟨_, _, _, _, _, rfl, rfl, rfl, h, hp2, S, xb, yb, c.elim (fun c => .inl ⟨c, fun H' s' => qe _ rfl _ s'⟩) fun c => .inr (.inl ⟨c.1, c.2, fun H' s' => qe _ rfl _ s'⟩)⟩))⟩
      | m4 h hp2 S xb yb c => exact ⟨_, _, _, rfl, .inr (.inr (.inr ⟨_, _, _, _, _, rfl, rfl, rfl, h, hp2, S, xb, yb, .inr (.inr ⟨c.1, c.2, fun v H' s' => q rfl _ _ s'⟩)⟩))⟩
    walk_at "rd"
    cases aw with
    | p0 _ => exact absurd rfl z0
    | p1 _ _ => exact absurd rfl z0
    | p2 _ _ => exact absurd rfl z0
    | s0 _ => exact absurd rfl z1
    | s1 _ _ => exact absurd rfl z1
    | s2 _ _ _ _ => exact absurd rfl z1
    | s3 _ _ _ => exact absurd rfl z1
    | w0 _ => exact absurd rfl z2
    | w1 _ _ _ => exact absurd rfl z2
    | w2 _ _ _ _ _ => exact absurd rfl z2
    | w3 _ _ _ _ => exact absurd rfl z2
    | m0 _ => exact absurd rfl z3
    | m1 _ _ _ => exact absurd rfl z3
    | m2 _ _ _ _ _ => exact absurd rfl z3
    | m3 _ _ _ _ _ _ => exact absurd rfl z3
    | m4 _ _ _ _ _ _ => exact absurd rfl z3
    | f0 b => exact .inr ⟨_, _, rfl, .inl ⟨b, qe _ rfl _ (Same.refl H)⟩⟩
    | f1 g c => exact .inr ⟨_, _, rfl, .inr (.inl ⟨_, _, rfl, g, c, qe _ rfl _ (Same.refl H)⟩)⟩
    | f2 g c b => exact .inr ⟨_, _, rfl, .inr (.inr (.inl ⟨_, _, rfl, g, c, b, qe _ rfl _ (Same.refl H)⟩))⟩
    | f3 S c hp2 sp b => exact .inr ⟨_, _, rfl, .inr (.inr (.inr ⟨_, _, _, _, _, _, _, rfl, rfl, S, c, hp2, sp, b, fun H' s' => qe _ rfl _ s'⟩))⟩
    | f4 S c hp2 sp b => exact .inl ⟨_, _, _, _, _, _, _, rfl, S, c, hp2, sp, b, fun _ H' _ s' => q rfl _ _ s'⟩
end
end HT
namespace HT
open PySem L2
def wordS : Option Nat → Str
  | none => "good"
  | some 0 => "side"
  | some 1 => "sides"
  | some 3 => "value"
  | some 4 => "number"
  | some 2 => "many"
  | some _ => "other"
theorem AskW.lt {K : PySem.W.Frag} {H : Hp} {kd : Nat} {o t l r m : V} {i : Nat} (h : AskW K H kd o t l r m (some i)) : i < 5 := by
  cases h <;> decide
def spWord52 (K : PySem.W.Frag) : Sp := fun vs H Q _ => ∃ (kd : Nat) (pl : Addr) (o t l r m : V) (wd : Option Nat), vs = [.int (kd : Int), .ref pl] ∧ H pl = some (.lst [o, t, l, r, m]) ∧ AskW K H kd o t l r m wd ∧ ∀ H', Same H H' → Q (.str (wordS wd)) H'
section
variable {P : Program} {w : World} {K : PySem.W.Frag} {mg : Str → Option Value} {base : Heap} {aM fA fB fR B : Addr} {dA dB dR : FuncData} {C : Nat → Addr}
theorem ok_L_word {f : Addr} {fd : FuncData} (F : Fun K "_law_word" "_law_word" s_L_word f fd) (R : Er K mg C B) (As : CalX P w K mg base "_law_asked" 109 ["_law_way", "_law_parts"] (spAsked K C) fA dA) : FnOk P w K mg base CX0 110 f fd ["_law_way", "_law_parts"] (spWord52 K) := by
  refine F.ok sc_L_word (fun vs H Q E h => ?_) (fun cdv A outer s0 H vs Q E hr h => ?_)
  · obtain ⟨kd, pl, o, t, l, r, m, wd, rfl, _⟩ := h
    rfl
  · obtain ⟨kd, pl, o, t, l, r, m, wd, rfl, hp, aw, q⟩ := h
    have nd := sc_L_word.nd
    refine ⟨_, pss_cons (ps_set (i := 2) nd rfl (Or.inl rfl) pe_non)
      (pss_cons (ps_try_keep (i := 3) rfl rfl rfl nd rfl rfl ⟨rfl, by decide, .inl R.gB⟩ takes0 (fun W pn xe tk _ => pss_one (ps_expr (pcx As hr (by decide) (by rfl) tk (pa_cons (pv 0) (pa_cons (pv 1) pa_nil)))))
        (fun a rc kl dd pn hz hf => pss_one (ps_set (i := 2) nd rfl (Or.inl rfl) (pv 3))))
      (pss_cons (ps_if (pt_cmpR op_isN (pv 2) pe_non (nomark _)) (pss_one (ps_ret pe_str)) pss_nil)
      (pss_cons (ps_set (i := 4) nd rfl (Or.inl rfl) (pe_lst (pa_cons (pe_callB call_isKept (by rfl) R.isi (by decide +kernel) (pa_cons (pv 2) (pa_cons (pe_glob (v := .ref (C 0)) (by rfl) R.g0 rfl) pa_nil))) (pa_cons (pe_callB call_isKept (by rfl) R.isi (by decide +kernel) (pa_cons (pv 2) (pa_cons (pe_glob (v := .ref (C 1)) (by rfl) R.g1 rfl) pa_nil))) (pa_cons (pe_callB call_isKept (by rfl) R.isi (by decide +kernel) (pa_cons (pv 2) (pa_cons (pe_glob (v := .ref (C 3)) (by rfl) R.g3 rfl) pa_nil))) pa_nil)))))
      (pss_cons (ps_set (i := 4) nd rfl (Or.inl rfl) (pe_op op_cat (pv 4) (pe_lst (pa_cons (pe_callB call_isKept (by rfl) R.isi (by decide +kernel) (pa_cons (pv 2) (pa_cons (pe_glob (v := .ref (C 4)) (by rfl) R.g4 rfl) pa_nil))) (pa_cons (pe_callB call_isKept (by rfl) R.isi (by decide +kernel) (pa_cons (pv 2) (pa_cons (pe_glob (v := .ref (C 2)) (by rfl) R.g2 rfl) pa_nil))) pa_nil)))))
      (pss_cons (ps_if (PW.pt (pw_or (pt_cmpR op_ne (pe_bm PySem.F.plainAttrs_list PySem.F.slot_list_count PySem.F.type_list_count mt_cntV (pv 4) (pa_cons pe_bl pa_nil)) pe_int (nomark _)) (pw_or1 (pt_not (pt_val (pe_callB call_isKept (by rfl) R.isi (by decide +kernel) (pa_cons (pv 2) (pa_cons (pe_bltn (v := .ty "ValueError") (by rfl) R.ve (by decide +kernel) rfl) pa_nil)))))))) (pss_one (ps_ret pe_str)) pss_nil)
      (pss_one (ps_ret (pe_ix ix_list (pe_lst (pa_cons pe_str (pa_cons pe_str (pa_cons pe_str (pa_cons pe_str (pa_cons pe_str pa_nil)))))) (pe_bm PySem.F.plainAttrs_list PySem.F.slot_list_index PySem.F.type_list_index mt_index (pv 4) (pa_cons pe_bl pa_nil)) (fun _ _ => rfl))))))))), ?_⟩
    walk_at "rd"
    refine ⟨kd, pl, o, t, l, r, m, wd, rfl, hp, aw, fun e v H1 s1 => ?_, fun i e H1 s1 => ?_⟩
    · subst e
      walk_at "rd"
      refine ⟨rfl, ?_⟩
      walk_at "rd"
      exact q _ s1
    · subst e
      have lt := aw.lt
      rcases (by omega : i = 0 ∨ i = 1 ∨ i = 2 ∨ i = 3 ∨ i = 4) with rfl | rfl | rfl | rfl | rfl
      · refine ⟨true, R.emB 0 (by decide), fun _ => ⟨rfl, fun a ha => ?_⟩, fun z => Bool.noConfusion z⟩
        walk_at "rd"
        refine ⟨rfl, ?_⟩
        walk_at "rd"
        have ea0 : upd H1 a (ExK (.ref (C 0)) a) a = some (ExK (.ref (C 0)) a) := upd_same
        have eb0 : Same H (upd H1 a (ExK (.ref (C 0)) a)) := fun b u e0 => (upd_ne (ne_of_none (s1 _ _ e0) ha)).trans (s1 _ _ e0)
        generalize upd H1 a (ExK (.ref (C 0)) a) = H2 at ea0 eb0 ⊢
        refine ⟨a, C 0, _, .ref (C 0), decide (0 = 0), rfl, .own _, ea0, R.ec 0 (by decide), R.eg, R.kit 0 0 (by decide) (by decide), ?_⟩
        walk_at "rd"
        refine ⟨a, C 0, _, .ref (C 1), decide (0 = 1), rfl, .own _, ea0, R.ec 0 (by decide), R.eg, R.kit 0 1 (by decide) (by decide), ?_⟩
        walk_at "rd"
        refine ⟨a, C 0, _, .ref (C 3), decide (0 = 3), rfl, .own _, ea0, R.ec 0 (by decide), R.eg, R.kit 0 3 (by decide) (by decide), ?_⟩
        walk_at "rd"
        refine ⟨(by show 3 ≤ sizeLine; decide), fun l1 nl1 => ?_⟩
        have hl1 : upd H2 l1 (.lst [V.bl (decide (0 = 0)), .bl (decide (0 = 1)), .bl (decide (0 = 3))]) l1 = some (.lst [V.bl (decide (0 = 0)), .bl (decide (0 = 1)), .bl (decide (0 = 3))]) := upd_same
        have eb1 : Same H2 (upd H2 l1 (.lst [V.bl (decide (0 = 0)), .bl (decide (0 = 1)), .bl (decide (0 = 3))])) := fun b u e0 => (upd_ne (ne_of_none e0 nl1)).trans e0
        generalize upd H2 l1 (.lst [V.bl (decide (0 = 0)), .bl (decide (0 = 1)), .bl (decide (0 = 3))]) = H3 at hl1 eb1 ⊢
        have ea1 := eb1 _ _ ea0
        walk_at "rd"
        refine ⟨a, C 0, _, .ref (C 4), decide (0 = 4), rfl, .own _, ea1, R.ec 0 (by decide), R.eg, R.kit 0 4 (by decide) (by decide), ?_⟩
        walk_at "rd"
        refine ⟨a, C 0, _, .ref (C 2), decide (0 = 2), rfl, .own _, ea1, R.ec 0 (by decide), R.eg, R.kit 0 2 (by decide) (by decide), ?_⟩
        walk_at "rd"
        refine ⟨(by show 2 ≤ sizeLine; decide), fun l2 nl2 => ?_⟩
        have hl2 : upd H3 l2 (.lst [V.bl (decide (0 = 4)), .bl (decide (0 = 2))]) l2 = some (.lst [V.bl (decide (0 = 4)), .bl (decide (0 = 2))]) := upd_same
        have eb2 : Same H3 (upd H3 l2 (.lst [V.bl (decide (0 = 4)), .bl (decide (0 = 2))])) := fun b u e0 => (upd_ne (ne_of_none e0 nl2)).trans e0
        generalize upd H3 l2 (.lst [V.bl (decide (0 = 4)), .bl (decide (0 = 2))]) = H4 at hl2 eb2 ⊢
        refine ⟨l1, l2, _, _, rfl, rfl, eb2 _ _ hl1, hl2, (by show 5 ≤ sizeLine; decide), fun l3 nl3 => ?_⟩
        have hl3 : upd H4 l3 (.lst ([V.bl (decide (0 = 0)), .bl (decide (0 = 1)), .bl (decide (0 = 3))] ++ [V.bl (decide (0 = 4)), .bl (decide (0 = 2))])) l3 = some (.lst ([V.bl (decide (0 = 0)), .bl (decide (0 = 1)), .bl (decide (0 = 3))] ++ [V.bl (decide (0 = 4)), .bl (decide (0 = 2))])) := upd_same
        have eb3 : Same H4 (upd H4 l3 (.lst ([V.bl (decide (0 = 0)), .bl (decide (0 = 1)), .bl (decide (0 = 3))] ++ [V.bl (decide (0 = 4)), .bl (decide (0 = 2))]))) := fun b u e0 => (upd_ne (ne_of_none e0 nl3)).trans e0
        generalize upd H4 l3 (.lst ([V.bl (decide (0 = 0)), .bl (decide (0 = 1)), .bl (decide (0 = 3))] ++ [V.bl (decide (0 = 4)), .bl (decide (0 = 2))])) = H5 at hl3 eb3 ⊢
        have ea3 := eb3 _ _ (eb2 _ _ ea1)
        walk_at "rd"
        refine ⟨.inl ⟨rfl, _, SqL.of hl3⟩, ?_⟩
        walk_at "rd"
        refine ⟨l3, _, .bl true, rfl, rfl, SqL.of hl3, rfl, rfl, ?_⟩
        walk_at "rd"
        refine ⟨rfl, ?_⟩
        walk_at "rd"
        refine ⟨a, C 0, _, .type "ValueError", true, rfl, .ty _, ea3, R.ec 0 (by decide), R.eg, R.kitV 0 (by decide), ?_⟩
        walk_at "rd"
        refine ⟨(by show 5 ≤ sizeLine; decide), fun l4 nl4 => ?_⟩
        have hl4 : upd H5 l4 (.lst [V.str "side", .str "sides", .str "value", .str "number", .str "many"]) l4 = some (.lst [V.str "side", .str "sides", .str "value", .str "number", .str "many"]) := upd_same
        have eb4 : Same H5 (upd H5 l4 (.lst [V.str "side", .str "sides", .str "value", .str "number", .str "many"])) := fun b u e0 => (upd_ne (ne_of_none e0 nl4)).trans e0
        generalize upd H5 l4 (.lst [V.str "side", .str "sides", .str "value", .str "number", .str "many"]) = H6 at eb4 hl4 ⊢
        walk_at "rd"
        refine ⟨.inl ⟨rfl, _, SqL.of (eb4 _ _ hl3)⟩, ?_⟩
        walk_at "rd"
        refine ⟨l3, _, .bl true, 0, .bl true, rfl, rfl, SqL.of (eb4 _ _ hl3), rfl, rfl, rfl, rfl, fun m z' hm hz => ?_, ?_⟩
        · exact absurd hm (Nat.not_lt_zero _)
        refine ⟨l4, _, _, _, rfl, rfl, SqL.of hl4, rfl, ?_⟩
        exact q _ (eb0.trans (eb1.trans (eb2.trans (eb3.trans eb4))))
      · refine ⟨true, R.emB 1 (by decide), fun _ => ⟨rfl, fun a ha => ?_⟩, fun z => Bool.noConfusion z⟩
        walk_at "rd"
        refine ⟨rfl, ?_⟩
        walk_at "rd"
        have ea0 : upd H1 a (ExK (.ref (C 1)) a) a = some (ExK (.ref (C 1)) a) := upd_same
        have eb0 : Same H (upd H1 a (ExK (.ref (C 1)) a)) := fun b u e0 => (upd_ne (ne_of_none (s1 _ _ e0) ha)).trans (s1 _ _ e0)
        generalize upd H1 a (ExK (.ref (C 1)) a) = H2 at ea0 eb0 ⊢
        refine ⟨a, C 1, _, .ref (C 0), decide (1 = 0), rfl, .own _, ea0, R.ec 1 (by decide), R.eg, R.kit 1 0 (by decide) (by decide), ?_⟩
        walk_at "rd"
        refine ⟨a, C 1, _, .ref (C 1), decide (1 = 1), rfl, .own _, ea0, R.ec 1 (by decide), R.eg, R.kit 1 1 (by decide) (by decide), ?_⟩
        walk_at "rd"
        refine ⟨a, C 1, _, .ref (C 3), decide (1 = 3), rfl, .own _, ea0, R.ec 1 (by decide), R.eg, R.kit 1 3 (by decide) (by decide), ?_⟩
        walk_at "rd"
        refine ⟨(by show 3 ≤ sizeLine; decide), fun l1 nl1 => ?_⟩
        have hl1 : upd H2 l1 (.lst [V.bl (decide (1 = 0)), .bl (decide (1 = 1)), .bl (decide (1 = 3))]) l1 = some (.lst [V.bl (decide (1 = 0)), .bl (decide (1 = 1)), .bl (decide (1 = 3))]) := upd_same
        have eb1 : Same H2 (upd H2 l1 (.lst [V.bl (decide (1 = 0)), .bl (decide (1 = 1)), .bl (decide (1 = 3))])) := fun b u e0 => (upd_ne (ne_of_none e0 nl1)).trans e0
        generalize upd H2 l1 (.lst [V.bl (decide (1 = 0)), .bl (decide (1 = 1)), .bl (decide (1 = 3))]) = H3 at hl1 eb1 ⊢
        have ea1 := eb1 _ _ ea0
        walk_at "rd"
        refine ⟨a, C 1, _, .ref (C 4), decide (1 = 4), rfl, .own _, ea1, R.ec 1 (by decide), R.eg, R.kit 1 4 (by decide) (by decide), ?_⟩
        walk_at "rd"
        refine ⟨a, C 1, _, .ref (C 2), decide (1 = 2), rfl, .own _, ea1, R.ec 1 (by decide), R.eg, R.kit 1 2 (by decide) (by decide), ?_⟩
        walk_at "rd"
        refine ⟨(by show 2 ≤ sizeLine; decide), fun l2 nl2 => ?_⟩
        have hl2 : upd H3 l2 (.lst [V.bl (decide (1 = 4)), .bl (decide (1 = 2))]) l2 = some (.lst [V.bl (decide (1 = 4)), .bl (decide (1 = 2))]) := upd_same
        have eb2 : Same H3 (upd H3 l2 (.lst [V.bl (decide (1 = 4)), .bl (decide (1 = 2))])) := fun b u e0 => (upd_ne (ne_of_none e0 nl2)).trans e0
        generalize upd H3 l2 (.lst [V.bl (decide (1 = 4)), .bl (decide (1 = 2))]) = H4 at hl2 eb2 ⊢
        refine ⟨l1, l2, _, _, rfl, rfl, eb2 _ _ hl1, hl2, (by show 5 ≤ sizeLine; decide), fun l3 nl3 => ?_⟩
        have hl3 : upd H4 l3 (.lst ([V.bl (decide (1 = 0)), .bl (decide (1 = 1)), .bl (decide (1 = 3))] ++ [V.bl (decide (1 = 4)), .bl (decide (1 = 2))])) l3 = some (.lst ([V.bl (decide (1 = 0)), .bl (decide (1 = 1)), .bl (decide (1 = 3))] ++ [V.bl (decide (1 = 4)), .bl (decide (1 = 2))])) := upd_same
        have eb3 : Same H4 (upd H4 l3 (.lst ([V.bl (decide (1 = 0)), .bl (decide (1 = 1)), .bl (decide (1 = 3))] ++ [V.bl (decide (1 = 4)), .bl (decide (1 = 2))]))) := fun b u e0 => (upd_ne (ne_of_none e0 nl3)).trans e0
        generalize upd H4 l3 (.lst ([V.bl (decide (1 = 0)), .bl (decide (1 = 1)), .bl (decide (1 = 3))] ++ [V.bl (decide (1 = 4)), .bl (decide (1 = 2))])) = H5 at hl3 eb3 ⊢
        have ea3 := eb3 _ _ (eb2 _ _ ea1)
        walk_at "rd"
        refine ⟨.inl ⟨rfl, _, SqL.of hl3⟩, ?_⟩
        walk_at "rd"
        refine ⟨l3, _, .bl true, rfl, rfl, SqL.of hl3, rfl, rfl, ?_⟩
        walk_at "rd"
        refine ⟨rfl, ?_⟩
        walk_at "rd"
        refine ⟨a, C 1, _, .type "ValueError", true, rfl, .ty _, ea3, R.ec 1 (by decide), R.eg, R.kitV 1 (by decide), ?_⟩
        walk_at "rd"
        refine ⟨(by show 5 ≤ sizeLine; decide), fun l4 nl4 => ?_⟩
        have hl4 : upd H5 l4 (.lst [V.str "side", .str "sides", .str "value", .str "number", .str "many"]) l4 = some (.lst [V.str "side", .str "sides", .str "value", .str "number", .str "many"]) := upd_same
        have eb4 : Same H5 (upd H5 l4 (.lst [V.str "side", .str "sides", .str "value", .str "number", .str "many"])) := fun b u e0 => (upd_ne (ne_of_none e0 nl4)).trans e0
        generalize upd H5 l4 (.lst [V.str "side", .str "sides", .str "value", .str "number", .str "many"]) = H6 at eb4 hl4 ⊢
        walk_at "rd"
        refine ⟨.inl ⟨rfl, _, SqL.of (eb4 _ _ hl3)⟩, ?_⟩
        walk_at "rd"
        refine ⟨l3, _, .bl true, 1, .bl true, rfl, rfl, SqL.of (eb4 _ _ hl3), rfl, rfl, rfl, rfl, fun m z' hm hz => ?_, ?_⟩
        · obtain rfl : m = 0 := by omega
          cases hz; rfl
        refine ⟨l4, _, _, _, rfl, rfl, SqL.of hl4, rfl, ?_⟩
        exact q _ (eb0.trans (eb1.trans (eb2.trans (eb3.trans eb4))))
      · refine ⟨true, R.emB 2 (by decide), fun _ => ⟨rfl, fun a ha => ?_⟩, fun z => Bool.noConfusion z⟩
        walk_at "rd"
        refine ⟨rfl, ?_⟩
        walk_at "rd"
        have ea0 : upd H1 a (ExK (.ref (C 2)) a) a = some (ExK (.ref (C 2)) a) := upd_same
        have eb0 : Same H (upd H1 a (ExK (.ref (C 2)) a)) := fun b u e0 => (upd_ne (ne_of_none (s1 _ _ e0) ha)).trans (s1 _ _ e0)
        generalize upd H1 a (ExK (.ref (C 2)) a) = H2 at ea0 eb0 ⊢
        refine ⟨a, C 2, _, .ref (C 0), decide (2 = 0), rfl, .own _, ea0, R.ec 2 (by decide), R.eg, R.kit 2 0 (by decide) (by decide), ?_⟩
        walk_at "rd"
        refine ⟨a, C 2, _, .ref (C 1), decide (2 = 1), rfl, .own _, ea0, R.ec 2 (by decide), R.eg, R.kit 2 1 (by decide) (by decide), ?_⟩
        walk_at "rd"
        refine ⟨a, C 2, _, .ref (C 3), decide (2 = 3), rfl, .own _, ea0, R.ec 2 (by decide), R.eg, R.kit 2 3 (by decide) (by decide), ?_⟩
        walk_at "rd"
        refine ⟨(by show 3 ≤ sizeLine; decide), fun l1 nl1 => ?_⟩
        have hl1 : upd H2 l1 (.lst [V.bl (decide (2 = 0)), .bl (decide (2 = 1)), .bl (decide (2 = 3))]) l1 = some (.lst [V.bl (decide (2 = 0)), .bl (decide (2 = 1)), .bl (decide (2 = 3))]) := upd_same
        have eb1 : Same H2 (upd H2 l1 (.lst [V.bl (decide (2 = 0)), .bl (decide (2 = 1)), .bl (decide (2 = 3))])) := fun b u e0 => (upd_ne (ne_of_none e0 nl1)).trans e0
        generalize upd H2 l1 (.lst [V.bl (decide (2 = 0)), .bl (decide (2 = 1)), .bl (decide (2 = 3))]) = H3 at hl1 eb1 ⊢
        have ea1 := eb1 _ _ ea0
        walk_at "rd"
        refine ⟨a, C 2, _, .ref (C 4), decide (2 = 4), rfl, .own _, ea1, R.ec 2 (by decide), R.eg, R.kit 2 4 (by decide) (by decide), ?_⟩
        walk_at "rd"
        refine ⟨a, C 2, _, .ref (C 2), decide (2 = 2), rfl, .own _, ea1, R.ec 2 (by decide), R.eg, R.kit 2 2 (by decide) (by decide), ?_⟩
        walk_at "rd"
        refine ⟨(by show 2 ≤ sizeLine; decide), fun l2 nl2 => ?_⟩
        have hl2 : upd H3 l2 (.lst [V.bl (decide (2 = 4)), .bl (decide (2 = 2))]) l2 = some (.lst [V.bl (decide (2 = 4)), .bl (decide (2 = 2))]) := upd_same
        have eb2 : Same H3 (upd H3 l2 (.lst [V.bl (decide (2 = 4)), .bl (decide (2 = 2))])) := fun b u e0 => (upd_ne (ne_of_none e0 nl2)).trans e0
        generalize upd H3 l2 (.lst [V.bl (decide (2 = 4)), .bl (decide (2 = 2))]) = H4 at hl2 eb2 ⊢
        refine ⟨l1, l2, _, _, rfl, rfl, eb2 _ _ hl1, hl2, (by show 5 ≤ sizeLine; decide), fun l3 nl3 => ?_⟩
        have hl3 : upd H4 l3 (.lst ([V.bl (decide (2 = 0)), .bl (decide (2 = 1)), .bl (decide (2 = 3))] ++ [V.bl (decide (2 = 4)), .bl (decide (2 = 2))])) l3 = some (.lst ([V.bl (decide (2 = 0)), .bl (decide (2 = 1)), .bl (decide (2 = 3))] ++ [V.bl (decide (2 = 4)), .bl (decide (2 = 2))])) := upd_same
        have eb3 : Same H4 (upd H4 l3 (.lst ([V.bl (decide (2 = 0)), .bl (decide (2 = 1)), .bl (decide (2 = 3))] ++ [V.bl (decide (2 = 4)), .bl (decide (2 = 2))]))) := fun b u e0 => (upd_ne (ne_of_none e0 nl3)).trans e0
        generalize upd H4 l3 (.lst ([V.bl (decide (2 = 0)), .bl (decide (2 = 1)), .bl (decide (2 = 3))] ++ [V.bl (decide (2 = 4)), .bl (decide (2 = 2))])) = H5 at hl3 eb3 ⊢
        have ea3 := eb3 _ _ (eb2 _ _ ea1)
        walk_at "rd"
        refine ⟨.inl ⟨rfl, _, SqL.of hl3⟩, ?_⟩
        walk_at "rd"
        refine ⟨l3, _, .bl true, rfl, rfl, SqL.of hl3, rfl, rfl, ?_⟩
        walk_at "rd"
        refine ⟨rfl, ?_⟩
        walk_at "rd"
        refine ⟨a, C 2, _, .type "ValueError", true, rfl, .ty _, ea3, R.ec 2 (by decide), R.eg, R.kitV 2 (by decide), ?_⟩
        walk_at "rd"
        refine ⟨(by show 5 ≤ sizeLine; decide), fun l4 nl4 => ?_⟩
        have hl4 : upd H5 l4 (.lst [V.str "side", .str "sides", .str "value", .str "number", .str "many"]) l4 = some (.lst [V.str "side", .str "sides", .str "value", .str "number", .str "many"]) := upd_same
        have eb4 : Same H5 (upd H5 l4 (.lst [V.str "side", .str "sides", .str "value", .str "number", .str "many"])) := fun b u e0 => (upd_ne (ne_of_none e0 nl4)).trans e0
        generalize upd H5 l4 (.lst [V.str "side", .str "sides", .str "value", .str "number", .str "many"]) = H6 at eb4 hl4 ⊢
        walk_at "rd"
        refine ⟨.inl ⟨rfl, _, SqL.of (eb4 _ _ hl3)⟩, ?_⟩
        walk_at "rd"
        refine ⟨l3, _, .bl true, 4, .bl true, rfl, rfl, SqL.of (eb4 _ _ hl3), rfl, rfl, rfl, rfl, fun m z' hm hz => ?_, ?_⟩
        · rcases (by omega : m = 0 ∨ m = 1 ∨ m = 2 ∨ m = 3) with rfl | rfl | rfl | rfl <;> (cases hz; rfl)
        refine ⟨l4, _, _, _, rfl, rfl, SqL.of hl4, rfl, ?_⟩
        exact q _ (eb0.trans (eb1.trans (eb2.trans (eb3.trans eb4))))
      · refine ⟨true, R.emB 3 (by decide), fun _ => ⟨rfl, fun a ha => ?_⟩, fun z => Bool.noConfusion z⟩
        walk_at "rd"
        refine ⟨rfl, ?_⟩
        walk_at "rd"
        have ea0 : upd H1 a (ExK (.ref (C 3)) a) a = some (ExK (.ref (C 3)) a) := upd_same
        have eb0 : Same H (upd H1 a (ExK (.ref (C 3)) a)) := fun b u e0 => (upd_ne (ne_of_none (s1 _ _ e0) ha)).trans (s1 _ _ e0)
        generalize upd H1 a (ExK (.ref (C 3)) a) = H2 at ea0 eb0 ⊢
        refine ⟨a, C 3, _, .ref (C 0), decide (3 = 0), rfl, .own _, ea0, R.ec 3 (by decide), R.eg, R.kit 3 0 (by decide) (by decide), ?_⟩
        walk_at "rd"
        refine ⟨a, C 3, _, .ref (C 1), decide (3 = 1), rfl, .own _, ea0, R.ec 3 (by decide), R.eg, R.kit 3 1 (by decide) (by decide), ?_⟩
        walk_at "rd"
        refine ⟨a, C 3, _, .ref (C 3), decide (3 = 3), rfl, .own _, ea0, R.ec 3 (by decide), R.eg, R.kit 3 3 (by decide) (by decide), ?_⟩
        walk_at "rd"
        refine ⟨(by show 3 ≤ sizeLine; decide), fun l1 nl1 => ?_⟩
        have hl1 : upd H2 l1 (.lst [V.bl (decide (3 = 0)), .bl (decide (3 = 1)), .bl (decide (3 = 3))]) l1 = some (.lst [V.bl (decide (3 = 0)), .bl (decide (3 = 1)), .bl (decide (3 = 3))]) := upd_same
        have eb1 : Same H2 (upd H2 l1 (.lst [V.bl (decide (3 = 0)), .bl (decide (3 = 1)), .bl (decide (3 = 3))])) := fun b u e0 => (upd_ne (ne_of_none e0 nl1)).trans e0
        generalize upd H2 l1 (.lst [V.bl (decide (3 = 0)), .bl (decide (3 = 1)), .bl (decide (3 = 3))]) = H3 at hl1 eb1 ⊢
        have ea1 := eb1 _ _ ea0
        walk_at "rd"
        refine ⟨a, C 3, _, .ref (C 4), decide (3 = 4), rfl, .own _, ea1, R.ec 3 (by decide), R.eg, R.kit 3 4 (by decide) (by decide), ?_⟩
        walk_at "rd"
        refine ⟨a, C 3, _, .ref (C 2), decide (3 = 2), rfl, .own _, ea1, R.ec 3 (by decide), R.eg, R.kit 3 2 (by decide) (by decide), ?_⟩
        walk_at "rd"
        refine ⟨(by show 2 ≤ sizeLine; decide), fun l2 nl2 => ?_⟩
        have hl2 : upd H3 l2 (.lst [V.bl (decide (3 = 4)), .bl (decide (3 = 2))]) l2 = some (.lst [V.bl (decide (3 = 4)), .bl (decide (3 = 2))]) := upd_same
        have eb2 : Same H3 (upd H3 l2 (.lst [V.bl (decide (3 = 4)), .bl (decide (3 = 2))])) := fun b u e0 => (upd_ne (ne_of_none e0 nl2)).trans e0
        generalize upd H3 l2 (.lst [V.bl (decide (3 = 4)), .bl (decide (3 = 2))]) = H4 at hl2 eb2 ⊢
        refine ⟨l1, l2, _, _, rfl, rfl, eb2 _ _ hl1, hl2, (by show 5 ≤ sizeLine; decide), fun l3 nl3 => ?_⟩
        have hl3 : upd H4 l3 (.lst ([V.bl (decide (3 = 0)), .bl (decide (3 = 1)), .bl (decide (3 = 3))] ++ [V.bl (decide (3 = 4)), .bl (decide (3 = 2))])) l3 = some (.lst ([V.bl (decide (3 = 0)), .bl (decide (3 = 1)), .bl (decide (3 = 3))] ++ [V.bl (decide (3 = 4)), .bl (decide (3 = 2))])) := upd_same
        have eb3 : Same H4 (upd H4 l3 (.lst ([V.bl (decide (3 = 0)), .bl (decide (3 = 1)), .bl (decide (3 = 3))] ++ [V.bl (decide (3 = 4)), .bl (decide (3 = 2))]))) := fun b u e0 => (upd_ne (ne_of_none e0 nl3)).trans e0
        generalize upd H4 l3 (.lst ([V.bl (decide (3 = 0)), .bl (decide (3 = 1)), .bl (decide (3 = 3))] ++ [V.bl (decide (3 = 4)), .bl (decide (3 = 2))])) = H5 at hl3 eb3 ⊢
        have ea3 := eb3 _ _ (eb2 _ _ ea1)
        walk_at "rd"
        refine ⟨.inl ⟨rfl, _, SqL.of hl3⟩, ?_⟩
        walk_at "rd"
        refine ⟨l3, _, .bl true, rfl, rfl, SqL.of hl3, rfl, rfl, ?_⟩
        walk_at "rd"
        refine ⟨rfl, ?_⟩
        walk_at "rd"
        refine ⟨a, C 3, _, .type "ValueError", true, rfl, .ty _, ea3, R.ec 3 (by decide), R.eg, R.kitV 3 (by decide), ?_⟩
        walk_at "rd"
        refine ⟨(by show 5 ≤ sizeLine; decide), fun l4 nl4 => ?_⟩
        have hl4 : upd H5 l4 (.lst [V.str "side", .str "sides", .str "value", .str "number", .str "many"]) l4 = some (.lst [V.str "side", .str "sides", .str "value", .str "number", .str "many"]) := upd_same
        have eb4 : Same H5 (upd H5 l4 (.lst [V.str "side", .str "sides", .str "value", .str "number", .str "many"])) := fun b u e0 => (upd_ne (ne_of_none e0 nl4)).trans e0
        generalize upd H5 l4 (.lst [V.str "side", .str "sides", .str "value", .str "number", .str "many"]) = H6 at eb4 hl4 ⊢
        walk_at "rd"
        refine ⟨.inl ⟨rfl, _, SqL.of (eb4 _ _ hl3)⟩, ?_⟩
        walk_at "rd"
        refine ⟨l3, _, .bl true, 2, .bl true, rfl, rfl, SqL.of (eb4 _ _ hl3), rfl, rfl, rfl, rfl, fun m z' hm hz => ?_, ?_⟩
        · rcases (by omega : m = 0 ∨ m = 1) with rfl | rfl <;> (cases hz; rfl)
        refine ⟨l4, _, _, _, rfl, rfl, SqL.of hl4, rfl, ?_⟩
        exact q _ (eb0.trans (eb1.trans (eb2.trans (eb3.trans eb4))))
      · refine ⟨true, R.emB 4 (by decide), fun _ => ⟨rfl, fun a ha => ?_⟩, fun z => Bool.noConfusion z⟩
        walk_at "rd"
        refine ⟨rfl, ?_⟩
        walk_at "rd"
        have ea0 : upd H1 a (ExK (.ref (C 4)) a) a = some (ExK (.ref (C 4)) a) := upd_same
        have eb0 : Same H (upd H1 a (ExK (.ref (C 4)) a)) := fun b u e0 => (upd_ne (ne_of_none (s1 _ _ e0) ha)).trans (s1 _ _ e0)
        generalize upd H1 a (ExK (.ref (C 4)) a) = H2 at ea0 eb0 ⊢
        refine ⟨a, C 4, _, .ref (C 0), decide (4 = 0), rfl, .own _, ea0, R.ec 4 (by decide), R.eg, R.kit 4 0 (by decide) (by decide), ?_⟩
        walk_at "rd"
        refine ⟨a, C 4, _, .ref (C 1), decide (4 = 1), rfl, .own _, ea0, R.ec 4 (by decide), R.eg, R.kit 4 1 (by decide) (by decide), ?_⟩
        walk_at "rd"
        refine ⟨a, C 4, _, .ref (C 3), decide (4 = 3), rfl, .own _, ea0, R.ec 4 (by decide), R.eg, R.kit 4 3 (by decide) (by decide), ?_⟩
        walk_at "rd"
        refine ⟨(by show 3 ≤ sizeLine; decide), fun l1 nl1 => ?_⟩
        have hl1 : upd H2 l1 (.lst [V.bl (decide (4 = 0)), .bl (decide (4 = 1)), .bl (decide (4 = 3))]) l1 = some (.lst [V.bl (decide (4 = 0)), .bl (decide (4 = 1)), .bl (decide (4 = 3))]) := upd_same
        have eb1 : Same H2 (upd H2 l1 (.lst [V.bl (decide (4 = 0)), .bl (decide (4 = 1)), .bl (decide (4 = 3))])) := fun b u e0 => (upd_ne (ne_of_none e0 nl1)).trans e0
        generalize upd H2 l1 (.lst [V.bl (decide (4 = 0)), .bl (decide (4 = 1)), .bl (decide (4 = 3))]) = H3 at hl1 eb1 ⊢
        have ea1 := eb1 _ _ ea0
        walk_at "rd"
        refine ⟨a, C 4, _, .ref (C 4), decide (4 = 4), rfl, .own _, ea1, R.ec 4 (by decide), R.eg, R.kit 4 4 (by decide) (by decide), ?_⟩
        walk_at "rd"
        refine ⟨a, C 4, _, .ref (C 2), decide (4 = 2), rfl, .own _, ea1, R.ec 4 (by decide), R.eg, R.kit 4 2 (by decide) (by decide), ?_⟩
        walk_at "rd"
        refine ⟨(by show 2 ≤ sizeLine; decide), fun l2 nl2 => ?_⟩
        have hl2 : upd H3 l2 (.lst [V.bl (decide (4 = 4)), .bl (decide (4 = 2))]) l2 = some (.lst [V.bl (decide (4 = 4)), .bl (decide (4 = 2))]) := upd_same
        have eb2 : Same H3 (upd H3 l2 (.lst [V.bl (decide (4 = 4)), .bl (decide (4 = 2))])) := fun b u e0 => (upd_ne (ne_of_none e0 nl2)).trans e0
        generalize upd H3 l2 (.lst [V.bl (decide (4 = 4)), .bl (decide (4 = 2))]) = H4 at hl2 eb2 ⊢
        refine ⟨l1, l2, _, _, rfl, rfl, eb2 _ _ hl1, hl2, (by show 5 ≤ sizeLine; decide), fun l3 nl3 => ?_⟩
        have hl3 : upd H4 l3 (.lst ([V.bl (decide (4 = 0)), .bl (decide (4 = 1)), .bl (decide (4 = 3))] ++ [V.bl (decide (4 = 4)), .bl (decide (4 = 2))])) l3 = some (.lst ([V.bl (decide (4 = 0)), .bl (decide (4 = 1)), .bl (decide (4 = 3))] ++ [V.bl (decide (4 = 4)), .bl (decide (4 = 2))])) := upd_same
        have eb3 : Same H4 (upd H4 l3 (.lst ([V.bl (decide (4 = 0)), .bl (decide (4 = 1)), .bl (decide (4 = 3))] ++ [V.bl (decide (4 = 4)), .bl (decide (4 = 2))]))) := fun b u e0 => (upd_ne (ne_of_none e0 nl3)).trans e0
        generalize upd H4 l3 (.lst ([V.bl (decide (4 = 0)), .bl (decide (4 = 1)), .bl (decide (4 = 3))] ++ [V.bl (decide (4 = 4)), .bl (decide (4 = 2))])) = H5 at hl3 eb3 ⊢
        have ea3 := eb3 _ _ (eb2 _ _ ea1)
        walk_at "rd"
        refine ⟨.inl ⟨rfl, _, SqL.of hl3⟩, ?_⟩
        walk_at "rd"
        refine ⟨l3, _, .bl true, rfl, rfl, SqL.of hl3, rfl, rfl, ?_⟩
        walk_at "rd"
        refine ⟨rfl, ?_⟩
        walk_at "rd"
        refine ⟨a, C 4, _, .type "ValueError", true, rfl, .ty _, ea3, R.ec 4 (by decide), R.eg, R.kitV 4 (by decide), ?_⟩
        walk_at "rd"
        refine ⟨(by show 5 ≤ sizeLine; decide), fun l4 nl4 => ?_⟩
        have hl4 : upd H5 l4 (.lst [V.str "side", .str "sides", .str "value", .str "number", .str "many"]) l4 = some (.lst [V.str "side", .str "sides", .str "value", .str "number", .str "many"]) := upd_same
        have eb4 : Same H5 (upd H5 l4 (.lst [V.str "side", .str "sides", .str "value", .str "number", .str "many"])) := fun b u e0 => (upd_ne (ne_of_none e0 nl4)).trans e0
        generalize upd H5 l4 (.lst [V.str "side", .str "sides", .str "value", .str "number", .str "many"]) = H6 at eb4 hl4 ⊢
        walk_at "rd"
        refine ⟨.inl ⟨rfl, _, SqL.of (eb4 _ _ hl3)⟩, ?_⟩
        walk_at "rd"
        refine ⟨l3, _, .bl true, 3, .bl true, rfl, rfl, SqL.of (eb4 _ _ hl3), rfl, rfl, rfl, rfl, fun m z' hm hz => ?_, ?_⟩
        · rcases (by omega : m = 0 ∨ m = 1 ∨ m = 2) with rfl | rfl | rfl <;> (cases hz; rfl)
        refine ⟨l4, _, _, _, rfl, rfl, SqL.of hl4, rfl, ?_⟩
        exact q _ (eb0.trans (eb1.trans (eb2.trans (eb3.trans eb4))))
end
end HT
namespace HT
open PySem L2
def spSideB : Sp := fun vs H Q _ => ∃ (a c : Addr) (t n : Nat), vs = [.ref a, .int (n : Int)] ∧ Src H a c t ∧ 1 ≤ n ∧ n ≤ 40 ∧ t + 200 < 2 ^ 30 ∧
  ∀ p o s m H' t', H p = none → H' p = some (sideV o s m) → SideP o s m → (-10 ^ n ≤ o ∧ o ≤ 10 ^ n) → t' ≤ t + 200 → Src H' a c t' → Oth a c H H' → Q (.ref p) H'
/-! ### pick, great, side -/
section
variable {P : Program} {w : World} {K : PySem.W.Frag} {mg : Str → Option Value} {base : Heap} {fD fP fG : Addr} {dD dP dG : FuncData}
theorem pow10_le {n : Nat} (h : n ≤ 40) : (10 : Int) ^ n ≤ 10 ^ 40 := by
  have : (10 : Nat) ^ n ≤ 10 ^ 40 := Nat.pow_le_pow_right (by decide) h
  exact_mod_cast this
theorem pow10_mono {a b : Nat} (h : a ≤ b) : (10 : Int) ^ a ≤ 10 ^ b := by
  have : (10 : Nat) ^ a ≤ 10 ^ b := Nat.pow_le_pow_right (by decide) h
  exact_mod_cast this
theorem sgn_of {x : V} (h : x ∈ [V.int 1, .int (-1), .int 0]) : ∃ j : Int, x = .int j ∧ (j = 1 ∨ j = -1 ∨ j = 0) := by
  simp only [List.mem_cons, List.not_mem_nil, or_false] at h
  rcases h with h | h | h
  · exact ⟨_, h, .inl rfl⟩
  · exact ⟨_, h, .inr (.inl rfl)⟩
  · exact ⟨_, h, .inr (.inr rfl)⟩
theorem ok_side {f : Addr} {fd : FuncData} (F : Fun K "_law_side" "_law_side" s_L_side f fd) (B : Blt mg) (D : Cal P w K mg base "_law_draw" 1 ["_law_source_here", "_law_limit"] spDraw fD dD)
    (Pk : Cal P w K mg base "_law_pick" 2 ["_law_source_here", "_law_values"] spPick fP dP) (G : Cal P w K mg base "_law_great" 2 ["_law_source_here", "_law_digits"] spGreat fG dG) :
    FnOk P w K mg base CX0 3 f fd ["_law_source_here", "_law_digits"] spSideB := by
  refine F.ok sc_L_side (fun vs H Q E h => ?_) (fun cdv A outer s H vs Q E hr h => ?_)
  · obtain ⟨a, c, t, n, rfl, _⟩ := h
    rfl
  · obtain ⟨a, c, t, n, rfl, S, hn0, hn, ht, q⟩ := h
    have nd := sc_L_side.nd
    refine ⟨_, pss_cons (ps_set (i := 2) nd rfl (Or.inl rfl) (pe_op op_add pe_int (pe_op op_mod (pcl G hr (by decide) (by rfl) (pa_cons (pv 0) (pa_cons (pe_op op_add pe_int (pcl D hr (by decide) (by rfl) (pa_cons (pv 0) (pa_cons (pv 1) pa_nil)))) pa_nil))) (pe_op op_pow pe_int pe_int))))
      (pss_cons (ps_if (pt_cmpR op_eq (pcl D hr (by decide) (by rfl) (pa_cons (pv 0) (pa_cons pe_int pa_nil))) pe_int (nomark _))
        (pss_one (ps_set (i := 2) nd rfl (Or.inl rfl) (pe_op op_add pe_int (pcl D hr (by decide) (by rfl) (pa_cons (pv 0) (pa_cons pe_int pa_nil)))))) pss_nil)
      (pss_cons (ps_set (i := 3) nd rfl (Or.inl rfl) (pe_op op_mul (pcl G hr (by decide) (by rfl) (pa_cons (pv 0) (pa_cons (pe_op op_add pe_int (pcl D hr (by decide) (by rfl) (pa_cons (pv 0) (pa_cons (pv 1) pa_nil)))) pa_nil)))
        (pcl Pk hr (by decide) (by rfl) (pa_cons (pv 0) (pa_cons (pe_lst (pa_cons pe_int (pa_cons (pe_un un_neg pe_int) (pa_cons pe_int pa_nil)))) pa_nil)))))
      (pss_one (ps_ret (pe_tup (pa_cons (pv 3) (pa_cons (pv 2) (pa_cons (pcl Pk hr (by decide) (by rfl) (pa_cons (pv 0) (pa_cons (pe_lst (pa_cons pe_str (pa_cons pe_str (pa_cons pe_str (pa_cons pe_str (pa_cons pe_str pa_nil)))))) pa_nil))) pa_nil)))))))), ?_⟩
    have nl0 : (0 : Int) < (n : Int) := by omega
    have nl9 : ((n : Int)).natAbs.log2 < 9000 := lg_nat (Nat.lt_of_lt_of_le (by omega : n < 2 ^ 64) (Nat.pow_le_pow_right (by decide) (by decide)))
    -- step
    walk_at "rd"
    refine ⟨a, c, t, _, rfl, S, by omega, nl0, nl9, fun k1 H1 k10 k11 S1 O1 => ?_⟩
    obtain ⟨m1, rfl⟩ := Int.eq_ofNat_of_zero_le k10
    walk_at "rd"
    have g1 : (1 : Int) + (m1 : Int) = ((m1 + 1 : Nat) : Int) := by omega
    refine ⟨a, c, t + 1, m1 + 1, (by show [V.ref a, V.int (1 + (m1 : Int))] = _; rw [g1]), S1, by omega, by omega, fun k2 H2 k20 k21 S2 O2 => ?_⟩
    walk_at "rd"
    refine ⟨⟨by decide, by decide, by decide⟩, ?_⟩
    walk_at "rd"
    refine ⟨(by show (0 : Int) < 10 ^ (30 : Int).toNat; decide), ?_⟩
    walk_at "rd"
    have st0 : (1 : Int) ≤ 1 + k2 % 10 ^ (30 : Int).toNat := by
      have := Int.emod_nonneg k2 (show (10 : Int) ^ (30 : Int).toNat ≠ 0 by decide)
      omega
    have st1 : 1 + k2 % (10 : Int) ^ (30 : Int).toNat ≤ 10 ^ 30 := by
      have := Int.emod_lt_of_pos k2 (show (0 : Int) < 10 ^ (30 : Int).toNat by decide)
      have e : (10 : Int) ^ (30 : Int).toNat = 10 ^ 30 := by decide
      omega
    refine ⟨a, c, t + 1 + (m1 + 1), _, rfl, S2, by omega, (by show (0 : Int) < 3; decide), (by show (3 : Int).natAbs.log2 < 9000; decide), fun k3 H3 k30 k31 S3 O3 => ?_⟩
    walk_at "rd"
    have O13 : Oth a c H H3 := (O1.trans O2).trans O3
    refine ⟨rfl, ?_⟩
    walk_at "rd"
    refine ite2 (fun _ => ?A) (fun _ => ?B)
    case' A =>
      walk_at "rd"
      refine ⟨a, c, _, _, rfl, S3, by omega, (by show (0 : Int) < 12; decide), (by show (12 : Int).natAbs.log2 < 9000; decide), fun k4 H4 k40 k41 S4 O4 => ?_⟩
      walk_at "rd"
      have k41' : k4 < 12 := k41
      have hs0 : 1 ≤ 1 + k4 := by omega
      have hs1 : 1 + k4 ≤ 10 ^ 30 := by omega
      obtain ⟨t5, ht5, S5⟩ : ∃ t5, t5 ≤ t + 100 ∧ Src H4 a c t5 := ⟨_, (by omega), S4⟩
      have O5 := O13.trans O4
    case' B =>
      have hs0 := st0
      have hs1 := st1
      obtain ⟨t5, ht5, S5⟩ : ∃ t5, t5 ≤ t + 100 ∧ Src H3 a c t5 := ⟨_, (by omega), S3⟩
      have O5 := O13
    all_goals
      walk_at "rd"
      refine ⟨a, c, t5, _, rfl, S5, by omega, nl0, nl9, fun k6 H6 k60 k61 S6 O6 => ?_⟩
      obtain ⟨m6, rfl⟩ := Int.eq_ofNat_of_zero_le k60
      walk_at "rd"
      have g6 : (1 : Int) + (m6 : Int) = ((m6 + 1 : Nat) : Int) := by omega
      refine ⟨a, c, t5 + 1, m6 + 1, (by show [V.ref a, V.int (1 + (m6 : Int))] = _; rw [g6]), S6, by omega, by omega, fun k7 H7 k70 k71 S7 O7 => ?_⟩
      walk_at "rd"
      refine ⟨(by show 3 ≤ sizeLine; decide), fun l nl => ?_⟩
      obtain ⟨la, lc⟩ := S7.na nl
      refine ⟨a, c, _, l, _, rfl, S7.new nl, by omega, upd_same, la, lc, by decide, by decide, fun x H8 hx S8 O8 => ?_⟩
      obtain ⟨j, rfl, hj⟩ := sgn_of hx
      walk_at "rd"
      refine ⟨.inr (by rcases hj with e | e | e <;> subst e <;> exact ⟨by decide, by decide⟩), ?_⟩
      have z7 : k7 < 10 ^ 40 := Int.lt_of_lt_of_le k71 (pow10_le (by omega))
      have of0 : -10 ^ 40 ≤ k7 * j := by rcases hj with e | e | e <;> subst e <;> omega
      have of1 : k7 * j ≤ 10 ^ 40 := by rcases hj with e | e | e <;> subst e <;> omega
      have O8' : Oth a c H H8 := (((O5.trans O6).trans O7).new nl).trans O8
      walk_at "rd"
      refine ⟨(by show 5 ≤ sizeLine; decide), fun l2 nl2 => ?_⟩
      obtain ⟨la2, lc2⟩ := S8.na nl2
      refine ⟨a, c, _, l2, _, rfl, S8.new nl2, by omega, upd_same, la2, lc2, by decide, by decide, fun x2 H9 hx2 S9 O9 => ?_⟩
      obtain ⟨md, rfl, hmd⟩ := mode_of hx2
      refine ⟨(by show 3 ≤ sizeLine; decide), fun p np => ?_⟩
      have O9' : Oth a c H H9 := (O8'.new nl2).trans O9
      have npH : H p = none := by
        cases e : H p with
        | none => rfl
        | some o =>
          by_cases ea : p = a
          · subst ea
            rw [S9.ob] at np
            cases np
          · by_cases ec : p = c
            · subst ec
              obtain ⟨cs, z, _⟩ := S9.cl
              rw [z] at np
              cases np
            · have z := O9' p o e ea ec
              rw [np] at z
              cases z
      have zn : k7 < 10 ^ n := Int.lt_of_lt_of_le k71 (pow10_mono (by omega))
      have on0 : -10 ^ n ≤ k7 * j := by rcases hj with e | e | e <;> subst e <;> omega
      have on1 : k7 * j ≤ 10 ^ n := by rcases hj with e | e | e <;> subst e <;> omega
      refine q p _ _ md _ _ npH upd_same ⟨of0, of1, hs0, hs1, hmd⟩ ⟨on0, on1⟩ ?_ (S9.new np) (O9'.new np)
      omega
end
end HT
namespace HT
open PySem PyProof.Rows
section
variable {prog : Program} {w : World} {A : Around} {E : Value → Shared → Prop} {s : Shared}
theorem sliceApplied_rev {sl : Addr} {vl vu vs : Value} {Q : Int × Int × Nat → Shared → Prop} (hs : s.heap.IsSliceOf sl vl vu vs) (pl : IsPart vl none) (pu : IsPart vu none) (ps : IsPart vs (some (-1)))
    (h : Q (2, -1, 3) s) : wpAny (model prog w) A (Builtin.Slice.sliceApplied (.ref sl) (pure (3 : Int))) Q E s := by
  obtain ⟨os, hos, hcs, hds⟩ := id hs
  unfold Builtin.Slice.sliceApplied Builtin.Slice.sliceFields
  refine wpAny_bind (wpAny_bind (wpAny_field hos hds (x := vl) rfl (wpAny_bind (wpAny_field hos hds (x := vu) rfl (wpAny_bind (wpAny_field hos hds (x := vs) rfl (wpAny_pure ?_)))))))
  refine wpAny_bind (slicePart_ ps ?_)
  show wpAny _ _ (if ((-1 : Int) == 0) = true then _ else _) _ _ s
  rw [if_neg (by decide)]
  refine wpAny_bind (slicePart_ pl (wpAny_bind (slicePart_ pu (wpAny_bind (wpAny_pure ?_)))))
  show wpAny _ _ (match Builtin.Slice.sliceAdjust none none (-1) (3 : Int) with | (lo, hi) => pure (lo, (-1 : Int), Builtin.Slice.slicePlaces lo hi (-1))) _ _ s
  rw [show Builtin.Slice.sliceAdjust none none (-1) (3 : Int) = (2, -1) from by decide]
  show wpAny _ _ (pure ((2 : Int), (-1 : Int), Builtin.Slice.slicePlaces 2 (-1) (-1))) _ _ s
  rw [show Builtin.Slice.slicePlaces 2 (-1) (-1) = 3 from by decide]
  exact wpAny_pure h
theorem getItem_rev3 {t sl : Addr} {x y z : Value} {vl vu vs : Value} {Q : Value → Shared → Prop} (ht : IsTup s.heap t #[x, y, z]) (hs : s.heap.IsSliceOf sl vl vu vs) (pl : IsPart vl none) (pu : IsPart vu none) (ps : IsPart vs (some (-1)))
    (h : Q (.ref s.heap.objs.size) { s with heap := s.heap.push { cls := .type "tuple", data := .seq #[z, y, x] } }) : wpAny (model prog w) A (getItem (.ref t) (.ref sl)) Q E s := by
  have htake : sizeOk (.seq #[z, y, x]) := by
    show 3 ≤ sizeLine
    decide
  obtain ⟨os, hos, hcs, hds⟩ := id hs
  have hTs : s.TypeIs (.ref sl) "slice" := ⟨os, hos, hcs⟩
  unfold getItem
  try with_reducible refine wpAny_holding ?_
  first | refine wpAny_bind (wpAny_pure ?_) | skip
  refine wpAny_bind (wpAny_sequenceKey ht.typeIs (by decide) ?_)
  refine wpAny_bind (wpAny_callSpecial?_slot (name := Str.ofString "__getitem__") ht.typeIs PyProof.Rows.slot_tuple_getitem
    (wpAny_call_entry PyProof.Rows.slot_tuple_getitem ht.typeIs entry_tuple_getitem ?_ (args_tuple_getitem _ _)))
  show wpAny _ _ (Builtin.Tuple.tupleItemsOf (.ref t) >>= _) _ _ s
  refine wpAny_bind (tupleItemsOf_ ht ?_)
  refine wpAny_bind (wpAny_typeOf hTs ?_)
  rw [if_pos (by decide)]
  refine wpAny_bind (sliceApplied_rev hs pl pu ps ?_)
  show wpAny _ _ (if (((2 : Int)) == 0 && (-1 : Int) == 1 && (3 == 3)) = true then _ else _) _ _ s
  rw [if_neg (by decide)]
  have e : ((List.range 3).filterMap fun (m : Nat) => (#[x, y, z] : Array Value)[((2 : Int) + (m : Int) * -1).toNat]?).toArray = #[z, y, x] := rfl
  rw [e]
  first
    | exact wpAny_bind (m := Builtin.Tuple.tupleExact _) (wpAny_newObj_type (wpAny_pure ⟨_, rfl, wpAny_pure h⟩) htake)
    | exact wpAny_bind (m := Builtin.Tuple.tupleExact _) (wpAny_newObj_type (wpAny_bind (wpAny_pure (wpAny_pure ⟨_, rfl, wpAny_pure h⟩))) htake)
    | exact wpAny_bind (wpAny_bind (m := Builtin.Tuple.tupleExact _) (wpAny_newObj_type (wpAny_pure (wpAny_pure ⟨_, rfl, wpAny_pure h⟩)) htake))
    | exact wpAny_bind (wpAny_bind (m := Builtin.Tuple.tupleExact _) (wpAny_newObj_type (wpAny_pure ⟨_, rfl, wpAny_pure h⟩) htake))
end
end HT
namespace L2
open PySem PySem.Spec PyProof.Rows
section
variable {X : Cx}
/-- t[::-1] of a tuple of three -/
def tRev3 (K : PySem.W.Frag) (te : TE) : TE := fun σ H Q => te σ H fun x H1 => ∃ (a : Addr) (u v w : V), x = .ref a ∧ SqT K H1 a [u, v, w] ∧ ∀ p, H1 p = none → Q (.ref p) (upd H1 p (.tup [w, v, u]))
theorem pe_rev3 {e : Expr} {te : TE} {k : Nat} {p1 p2 p3 pos : Pos} (he : PE X e te) : PE X (.Subscript e (.Slice none none (some (.UnaryOp .USub (.Constant (.int 1) k p1) p2)) p3) pos) (tRev3 X.K te) := by
  refine ⟨fun pins s σ H Q I h => ?_⟩
  refine Subscript_ (thn (he.run pins s σ H _ I h) fun v s1 ⟨x, H1, I1, r1, q1⟩ => ?_)
  obtain ⟨a, xu, xv, xw, ex, hx, q⟩ := q1
  subst ex
  cases r1
  have hst : PO X (some (.UnaryOp .USub (.Constant (.int 1) k p1) p2)) (tPart (tUn (rU fun i => .int (-i)) (tC (.int 1)))) := po_some (pe_un un_neg pe_int)
  refine wpAny_Slice (thn (po_none.run pins s1 σ H1 (fun o H2 => o = none ∧ H2 = H1) I1 ⟨rfl, rfl⟩) fun vl s2 ⟨l, H2, I2, pl, el, e2⟩ => ?_)
  subst el e2
  refine thn (po_none.run pins s2 σ H2 (fun o H3 => o = none ∧ H3 = H2) I2 ⟨rfl, rfl⟩) fun vu s3 ⟨u, H3, I3, pu, eu, e3⟩ => ?_
  subst eu e3
  refine thn (hst.run pins s3 σ H3 (fun o H4 => o = some (-1) ∧ H4 = H3) I3 ⟨1, rfl, -1, rfl, rfl, rfl⟩) fun vs s4 ⟨o, H4, I4, ps, eo, e4⟩ => ?_
  subst eo e4
  have I5 : Inv X pins σ H4 { s4 with heap := s4.heap.push { cls := .type "slice", data := .fields #[vl, vu, vs] } } := I4.kept (t' := s4.toks) fun b ob q => Heap.get?_push_of_some _ q
  obtain ⟨its, r, ht, hz⟩ := I5.tuple hx
  show wpAny (model X.prog X.w) X.A (subscriptTail e (.Slice none none (some (.UnaryOp .USub (.Constant (.int 1) k p1) p2)) p3) (.ref a) (.ref s4.heap.objs.size)) (EP X pins σ Q) X.xe { s4 with heap := s4.heap.push { cls := .type "slice", data := .fields #[vl, vu, vs] } }
  refine tail_any (ops := [.ref a, .ref s4.heap.objs.size]) ht.typeIs (PyProof.Rows.slot_tuple_getitem.lookup) ?_ (by with_unfolding_all rfl)
  obtain ⟨vx, vy, vz, rx, ry, rz, rfl⟩ : ∃ vx vy vz, RelV xu vx ∧ RelV xv vy ∧ RelV xw vz ∧ its = [vx, vy, vz] := by
    cases r with
    | cons a1 r1 =>
      cases r1 with
      | cons a2 r2 =>
        cases r2 with
        | cons a3 r3 =>
          cases r3
          exact ⟨_, _, _, a1, a2, a3, rfl⟩
  refine HT.getItem_rev3 (x := vx) (y := vy) (z := vz) ht (Heap.IsSliceOf.new _ vl vu vs) pl pu ps ?_
  refine ⟨.ref _, _, I5.laid (t' := s4.toks) (o := .tup [xw, xv, xu]) (fun b ob q => Heap.get?_push_of_some _ q) (Nat.le_refl _) ?_, rfl, q _ (I5.hok.fresh (Nat.le_refl _))⟩
  exact ⟨(by show 3 ≤ sizeLine; decide), _, .cons rz (.cons ry (.cons rx .nil)), IsTup.new _ _⟩
end
end L2
namespace HT
open PySem L2
/-- a heap without the source's two lists -/
def Off (a c : Addr) (G : Hp) : Hp := fun b => if b = a ∨ b = c then none else G b
theorem Off.same {a c : Addr} {G H' : Hp} (O : Oth a c G H') : Same (Off a c G) H' := fun b o h => by
  unfold Off at h
  split at h
  · cases h
  · rename_i n
    exact O b o h (fun e => n (.inl e)) (fun e => n (.inr e))
theorem Off.mono {a c : Addr} {G G' : Hp} (s : Same G G') : Same (Off a c G) (Off a c G') := fun b o h => by
  unfold Off at h ⊢
  split at h
  · cases h
  · rename_i n
    rw [if_neg n]
    exact s _ _ h
theorem Off.oth {a c : Addr} {G G' : Hp} (s : Oth a c G G') : Same (Off a c G) (Off a c G') := fun b o h => by
  unfold Off at h ⊢
  split at h
  · cases h
  · rename_i n
    rw [if_neg n]
    exact s b o h (fun e => n (.inl e)) (fun e => n (.inr e))
theorem Off.at_ {a c p : Addr} {G : Hp} {o : HO} (n : p ≠ a ∧ p ≠ c) (h : G p = some o) : Off a c G p = some o := by
  unfold Off
  rw [if_neg (fun e => e.elim n.1 n.2)]
  exact h
theorem Off.un {a c p : Addr} {G : Hp} {o : HO} (h : Off a c G p = some o) : G p = some o := by
  unfold Off at h
  split at h
  · cases h
  · exact h
theorem inB_int {y : V} {a b : Int} (h : inB y a b = true) : ∃ i : Int, y = .int i ∧ a ≤ i ∧ i ≤ b := by
  cases y with
  | int i =>
    have h' : (decide (a ≤ i) && decide (i ≤ b)) = true := h
    rw [Bool.and_eq_true] at h'
    exact ⟨i, rfl, of_decide_eq_true h'.1, of_decide_eq_true h'.2⟩
  | _ => cases h
theorem in_o {o s : Int} {m : Str} (S : SideP o s m) : inB (.int o) (-10 ^ 40) (10 ^ 40) = true := by
  show (decide (-(10 : Int) ^ 40 ≤ o) && decide (o ≤ (10 : Int) ^ 40)) = true
  rw [decide_eq_true S.o0, decide_eq_true S.o1]
  rfl
theorem in_s {o s : Int} {m : Str} (S : SideP o s m) : inB (.int s) 1 (10 ^ 30) = true := by
  show (decide ((1 : Int) ≤ s) && decide (s ≤ (10 : Int) ^ 30)) = true
  rw [decide_eq_true S.s0, decide_eq_true S.s1]
  rfl
/-- a side or none -/
def SiQ (K : PySem.W.Frag) (H : Hp) (x : V) : Prop := GoodS H x ∨ BadS K H x
theorem GoodS.same {H H' : Hp} {x : V} (g : GoodS H x) (e : Same H H') : GoodS H' x := let ⟨p, o, s, m, a, b, c⟩ := g; ⟨p, o, s, m, a, e _ _ b, c⟩
theorem SiQ.same {K : PySem.W.Frag} {H H' : Hp} {x : V} (b : SiQ K H x) (e : Same H H') : SiQ K H' x := b.elim (fun z => .inl (z.same e)) (fun z => .inr (z.same e))
/-- what stands for no mode -/
def MOdd (H : Hp) (x : V) : Prop := (∃ d, Fl H x d ∧ NoMode d) ∨ ∃ (k : Addr) (kvs : List (Key × V)), x = .ref k ∧ H k = some (.dK kvs)
theorem MOdd.same {H H' : Hp} {x : V} (b : MOdd H x) (e : Same H H') : MOdd H' x := b.imp (fun ⟨d, f, n⟩ => ⟨d, f.same e, n⟩) (fun ⟨k, kvs, a, b⟩ => ⟨k, kvs, a, e _ _ b⟩)
theorem nomode_side {o s : Int} {m : Str} (h : Mode m) : NoMode (.tuple [.int o, .int s, .str m]) := by
  refine ⟨?_, ?_⟩
  · rcases h with rfl | rfl | rfl | rfl | rfl <;> (unfold SeqAt.shaped; rw [Bool.and_eq_true]; refine ⟨by simp [PyData.canLay0, PyData.canLayAll0]; decide +kernel, decide_eq_true (by simp [PyData.depth, PyData.depthAll])⟩)
  · unfold modesD
    simp only [List.any_cons, List.any_nil, PyData.eqv, Bool.or_false]
theorem put0 {K : PySem.W.Frag} {H : Hp} {p : Addr} {y : V} {n : String} {o s : Int} {m : Str} (S : SideP o s m) (t : Th H y n) (hp : H p = some (.tup [y, .int s, .str m])) : SiQ K H (.ref p) := by
  cases e : inB y (-10 ^ 40) (10 ^ 40) with
  | false => exact .inr (.off hp t e)
  | true =>
    obtain ⟨i, rfl, a, b⟩ := inB_int e
    exact .inl ⟨p, i, s, m, rfl, hp, ⟨a, b, S.s0, S.s1, S.md⟩⟩
theorem put1 {K : PySem.W.Frag} {H : Hp} {p : Addr} {y : V} {n : String} {o s : Int} {m : Str} (S : SideP o s m) (t : Th H y n) (hp : H p = some (.tup [.int o, y, .str m])) : SiQ K H (.ref p) := by
  cases e : inB y 1 (10 ^ 30) with
  | false => exact .inr (.stp hp (.int o) (in_o S) t e)
  | true =>
    obtain ⟨i, rfl, a, b⟩ := inB_int e
    exact .inl ⟨p, o, i, m, rfl, hp, ⟨S.o0, S.o1, a, b, S.md⟩⟩
theorem put2 {K : PySem.W.Frag} {H : Hp} {p : Addr} {y : V} {o s : Int} {m : Str} (S : SideP o s m) (t : MOdd H y) (hp : H p = some (.tup [.int o, .int s, y])) : SiQ K H (.ref p) := by
  rcases t with ⟨d, f, n⟩ | ⟨k, kvs, rfl, hk⟩
  · exact .inr (.mod hp (.int o) (in_o S) (.int s) (in_s S) f n)
  · exact .inr (.dct hp (.int o) (in_o S) (.int s) (in_s S) hk)
def spBent (K : PySem.W.Frag) : Sp := fun vs H Q _ => ∃ (a c : Addr) (t : Nat) (p : Addr) (o s : Int) (m : Str), vs = [.ref a, .ref p] ∧ Src H a c t ∧ t + 10 < 2 ^ 30 ∧ H p = some (sideV o s m) ∧ SideP o s m ∧
  ∀ (x : V) (H' : Hp) (t' : Nat), SiQ K (Off a c H') x → t' ≤ t + 10 → Src H' a c t' → Oth a c H H' → Q x H'
section
variable {P : Program} {w : World} {K : PySem.W.Frag} {mg : Str → Option Value} {base : Heap} {fP fD : Addr} {dP dD : FuncData}
theorem ok_bent {f : Addr} {fd : FuncData} (F : Fun K "_law_bent" "_law_bent" s_L_bent f fd) (tL : mg "list" = none) (D : Cal P w K mg base "_law_draw" 1 ["_law_source_here", "_law_limit"] spDraw fD dD) (Pk : Cal P w K mg base "_law_pick" 2 ["_law_source_here", "_law_values"] spPick fP dP) : FnOk P w K mg base CX0 3 f fd ["_law_source_here", "_law_one"] (spBent K) := by
  refine F.ok sc_L_bent (fun vs H Q E h => ?_) (fun cdv A outer s0 H vs Q E hr h => ?_)
  · obtain ⟨a, c, t, p, o, s, m, rfl, _⟩ := h
    rfl
  · obtain ⟨a, c, t, p, o, s, m, rfl, S0, ht, hp, S, q⟩ := h
    have nd := sc_L_bent.nd
    refine ⟨_, (pss_cons (ps_mid (ps_set (i := 2) nd rfl (Or.inl rfl) (pe_lst (pa_cons pe_non (pa_cons pe_bl (pa_cons pe_str (pa_cons (pe_lst pa_nil) (pa_cons (pe_tup pa_nil) (pa_cons pe_dnewK (pa_cons pe_int (pa_cons (pe_un un_neg pe_int) (pa_cons (pe_op op_add (pe_op op_pow pe_int pe_int) pe_int) (pa_cons (pe_op op_add (pe_op op_pow pe_int pe_int) pe_int) (pa_cons pe_str (pa_cons pe_str (pa_cons (pe_tup (pa_cons pe_str pa_nil)) (pa_cons pe_bl (pa_cons (pv 1) pa_nil))))))))))))))))))
      (pss_cons (ps_mid (ps_set (i := 3) nd rfl (Or.inl rfl) (pcl D hr (by decide) (by rfl) (pa_cons (pv 0) (pa_cons pe_int pa_nil)))))
      (pss_cons (ps_mid (ps_set (i := 4) nd rfl (Or.inl rfl) (pe_op op_rep (pe_lst (pa_cons (pe_op op_catA (pe_op op_catA (pe_slice sl_tupA (pv 1) po_none (po_some (pv 3))) (pe_tup (pa_cons (pcl Pk hr (by decide) (by rfl) (pa_cons (pv 0) (pa_cons (pv 2) pa_nil))) pa_nil))) (pe_slice sl_tupA (pv 1) (po_some (pe_op op_add (pv 3) pe_int)) po_none)) pa_nil)) pe_int)))
      (pss_one (ps_ret (pcl Pk hr (by decide) (by rfl) (pa_cons (pv 0) (pa_cons (pe_op op_cat (pv 4) (pe_lst (pa_cons (pe_callTy call_list_of (by rfl) tL (by decide +kernel) (pa_cons (pv 1) pa_nil)) (pa_cons (pe_slice sl_tupA (pv 1) po_none (po_some pe_int)) (pa_cons (pe_op op_catA (pv 1) (pe_tup (pa_cons pe_int pa_nil))) (pa_cons pe_non (pa_cons (pe_tup pa_nil) (pa_cons (pe_lst pa_nil) (pa_cons pe_str (pa_cons pe_int (pa_cons pe_dnewK (pa_cons (pe_tup (pa_cons (pv 1) pa_nil)) (pa_cons (pe_rev3 (pv 1)) pa_nil))))))))))))) pa_nil)))))))), ?_⟩
    have fp0 : Off a c H p = some (.tup [.int o, .int s, .str m]) := Off.at_ (S0.nt hp) hp
    refine ⟨fun st G => ∃ (od : Addr) (xsO : List V), st = [some (.ref a), some (.ref p), some (.ref od), none, none] ∧ Same (Off a c H) (Off a c G) ∧ Src G a c t ∧ Off a c G od = some (.lst xsO) ∧ xsO.length = 15 ∧ ∀ x ∈ xsO, (∃ n, Th (Off a c G) x n) ∧ MOdd (Off a c G) x, ?_, ?_⟩
    · clear q
      walk_at "rd"
      refine ⟨(by show 0 ≤ sizeLine; decide), fun p1 np1 => ?_⟩
      generalize e1 : upd H p1 _ = G1
      have y1 : Same H G1 := by rw [← e1]; exact same_upd np1
      have z1 : Same (Off a c H) (Off a c G1) := Off.mono y1
      have fp1 : Off a c G1 p1 = some (.lst []) := Off.at_ (S0.na np1) (by rw [← e1]; exact upd_same)
      have T1 : Src G1 a c _ := S0.of_same y1
      clear e1
      walk_at "rd"
      refine ⟨(by show 0 ≤ sizeLine; decide), fun p2 np2 => ?_⟩
      generalize e2 : upd G1 p2 _ = G2
      have y2 : Same G1 G2 := by rw [← e2]; exact same_upd np2
      have z2 : Same (Off a c G1) (Off a c G2) := Off.mono y2
      have fp2 : Off a c G2 p2 = some (.tup []) := Off.at_ (T1.na np2) (by rw [← e2]; exact upd_same)
      have T2 : Src G2 a c _ := T1.of_same y2
      clear e2
      walk_at "rd"
      refine fun p3 np3 => ?_
      generalize e3 : upd G2 p3 _ = G3
      have y3 : Same G2 G3 := by rw [← e3]; exact same_upd np3
      have z3 : Same (Off a c G2) (Off a c G3) := Off.mono y3
      have fp3 : Off a c G3 p3 = some (.dK []) := Off.at_ (T2.na np3) (by rw [← e3]; exact upd_same)
      have T3 : Src G3 a c _ := T2.of_same y3
      clear e3
      walk_at "rd"
      refine ⟨⟨by decide, by decide, by decide⟩, ?_⟩
      walk_at "rd"
      refine ⟨⟨by decide, by decide, by decide⟩, ?_⟩
      walk_at "rd"
      refine ⟨(by show 1 ≤ sizeLine; decide), fun p4 np4 => ?_⟩
      generalize e4 : upd G3 p4 _ = G4
      have y4 : Same G3 G4 := by rw [← e4]; exact same_upd np4
      have z4 : Same (Off a c G3) (Off a c G4) := Off.mono y4
      have fp4 : Off a c G4 p4 = some (.tup [.str "up"]) := Off.at_ (T3.na np4) (by rw [← e4]; exact upd_same)
      have T4 : Src G4 a c _ := T3.of_same y4
      clear e4
      walk_at "rd"
      refine ⟨(by show 15 ≤ sizeLine; decide), fun od nod => ?_⟩
      generalize e5 : upd G4 od _ = G5
      have y5 : Same G4 G5 := by rw [← e5]; exact same_upd nod
      have z5 : Same (Off a c G4) (Off a c G5) := Off.mono y5
      have fod : Off a c G5 od = some (.lst [V.non, .bl true, .str "1", .ref p1, .ref p2, .ref p3, .int 0, .int (-1), .int ((10 : Int) ^ (30 : Int).toNat + 1), .int ((10 : Int) ^ (40 : Int).toNat + 1), .str "half", .str "Up", .ref p4, .bl false, .ref p]) := Off.at_ (T4.na nod) (by rw [← e5]; exact upd_same)
      have T5 : Src G5 a c _ := T4.of_same y5
      clear e5
      refine ⟨od, _, rfl, fun b u e => (z5 _ _ (z4 _ _ (z3 _ _ (z2 _ _ (z1 _ _ e))))), T5, fod, rfl, fun x hx => ?_⟩
      simp only [List.mem_cons, List.not_mem_nil, or_false] at hx
      rcases hx with rfl | rfl | rfl | rfl | rfl | rfl | rfl | rfl | rfl | rfl | rfl | rfl | rfl | rfl | rfl
      · exact ⟨⟨_, .non⟩, .inl ⟨_, .non, by decide +kernel, by decide +kernel⟩⟩
      · exact ⟨⟨_, .bl _⟩, .inl ⟨_, .bl _, by decide +kernel, by decide +kernel⟩⟩
      · exact ⟨⟨_, .str _⟩, .inl ⟨_, .str _, by decide +kernel, by decide +kernel⟩⟩
      · exact ⟨⟨_, .lst (z5 _ _ (z4 _ _ (z3 _ _ (z2 _ _ fp1))))⟩, .inl ⟨_, .l0 (z5 _ _ (z4 _ _ (z3 _ _ (z2 _ _ fp1)))), by decide +kernel, by decide +kernel⟩⟩
      · exact ⟨⟨_, .tup (z5 _ _ (z4 _ _ (z3 _ _ fp2)))⟩, .inl ⟨_, .t0 (z5 _ _ (z4 _ _ (z3 _ _ fp2))), by decide +kernel, by decide +kernel⟩⟩
      · exact ⟨⟨_, .dk (z5 _ _ (z4 _ _ fp3))⟩, .inr ⟨_, _, rfl, (z5 _ _ (z4 _ _ fp3))⟩⟩
      · exact ⟨⟨_, .int _⟩, .inl ⟨_, .int _, by decide +kernel, by decide +kernel⟩⟩
      · exact ⟨⟨_, .int _⟩, .inl ⟨_, .int _, by decide +kernel, by decide +kernel⟩⟩
      · exact ⟨⟨_, .int _⟩, .inl ⟨_, .int _, by decide +kernel, by decide +kernel⟩⟩
      · exact ⟨⟨_, .int _⟩, .inl ⟨_, .int _, by decide +kernel, by decide +kernel⟩⟩
      · exact ⟨⟨_, .str _⟩, .inl ⟨_, .str _, by decide +kernel, by decide +kernel⟩⟩
      · exact ⟨⟨_, .str _⟩, .inl ⟨_, .str _, by decide +kernel, by decide +kernel⟩⟩
      · exact ⟨⟨_, .tup (z5 _ _ fp4)⟩, .inl ⟨_, .t1 (z5 _ _ fp4), by decide +kernel, by decide +kernel⟩⟩
      · exact ⟨⟨_, .bl _⟩, .inl ⟨_, .bl _, by decide +kernel, by decide +kernel⟩⟩
      · exact ⟨⟨_, .tup (z5 _ _ (z4 _ _ (z3 _ _ (z2 _ _ (z1 _ _ fp0)))))⟩, .inl ⟨_, .t3 (z5 _ _ (z4 _ _ (z3 _ _ (z2 _ _ (z1 _ _ fp0))))), nomode_side S.md⟩⟩
    rintro st H0 ⟨od, xsO, rfl, sO, S9', fod, lO, odd⟩
    have fp : Off a c H0 p = some (.tup [.int o, .int s, .str m]) := sO _ _ fp0
    refine ⟨fun st G => ∃ k : Int, st = [some (.ref a), some (.ref p), some (.ref od), some (.int k), none] ∧ (k = 0 ∨ k = 1 ∨ k = 2) ∧ Same (Off a c H0) (Off a c G) ∧ Src G a c (t + 1), ?_, ?_⟩
    · walk_at "rd"
      refine ⟨a, c, _, 3, rfl, S9', by omega, (by decide), (by show (3 : Int).natAbs.log2 < 9000; decide), fun kp H9 kp0 kp1 S9 O9 => ?_⟩
      exact ⟨kp, rfl, by omega, Off.oth O9, S9⟩
    rintro st H1 ⟨k, rfl, kb, s1, S1⟩
    replace fp := s1 _ _ fp
    replace fod := s1 _ _ fod
    replace odd : ∀ x ∈ xsO, (∃ n, Th (Off a c H1) x n) ∧ MOdd (Off a c H1) x := fun x hx => let ⟨⟨n, h⟩, h2⟩ := odd x hx; ⟨⟨n, h.same s1⟩, h2.same s1⟩
    have s01 := fun b u e => s1 b u (sO b u e)
    clear S9' s1 sO
    have nod : od ≠ a ∧ od ≠ c := by
      unfold Off at fod
      split at fod
      · cases fod
      · rename_i n
        exact ⟨fun z => n (.inl z), fun z => n (.inr z)⟩
    refine ⟨fun st G => ∃ (so T : Addr), st = [some (.ref a), some (.ref p), some (.ref od), some (.int k), some (.ref so)] ∧ Same (Off a c H1) (Off a c G) ∧ Src G a c (t + 2) ∧ Off a c G so = some (.lst [V.ref T, .ref T, .ref T, .ref T, .ref T]) ∧ SiQ K (Off a c G) (.ref T), ?_, ?_⟩
    · walk_at "rd"
      rcases kb with rfl | rfl | rfl
      · refine ⟨p, _, rfl, SqT.of (Off.un fp), fun z => absurd z (by change ¬ (HT.sIx 3 0 none = 0 ∧ HT.sIx 3 3 (some 0) = 3); decide), fun _ => fun t1 nt1 => ?_⟩
        skip
        generalize e1 : upd H1 t1 _ = G1
        have y1 : Same H1 G1 := by rw [← e1]; exact same_upd nt1
        have z1 : Same (Off a c H1) (Off a c G1) := Off.mono y1
        have ft1 : Off a c G1 t1 = some (.tup []) := Off.at_ (S1.na nt1) (by rw [← e1]; exact upd_same)
        have T1 : Src G1 a c _ := S1.of_same y1
        clear e1
        walk_at "rd"
        refine ⟨a, c, _, od, _, rfl, T1, by omega, (Off.un (z1 _ _ fod)), nod.1, nod.2, (by rw [lO]; decide), (by rw [lO]; decide), fun x G2 hx T2 O2 => ?_⟩
        have z2 : Same (Off a c G1) (Off a c G2) := Off.oth O2
        obtain ⟨⟨nx, tx⟩, mx⟩ := odd x hx
        walk_at "rd"
        refine ⟨(by show 1 ≤ sizeLine; decide), fun t2 nt2 => ?_⟩
        generalize e3 : upd G2 t2 _ = G3
        have y3 : Same G2 G3 := by rw [← e3]; exact same_upd nt2
        have z3 : Same (Off a c G2) (Off a c G3) := Off.mono y3
        have ft2 : Off a c G3 t2 = some (.tup [x]) := Off.at_ (T2.na nt2) (by rw [← e3]; exact upd_same)
        have T3 : Src G3 a c _ := T2.of_same y3
        clear e3
        refine ⟨t1, t2, _, _, rfl, rfl, SqT.of (Off.un (z3 _ _ (z2 _ _ ft1))), SqT.of (Off.un ft2), (by show 0 + 1 ≤ sizeLine; decide), fun _ => ?_, fun z => absurd rfl z, fun z => absurd rfl z⟩
        walk_at "rd"
        refine ⟨p, _, rfl, SqT.of (Off.un (z3 _ _ (z2 _ _ (z1 _ _ fp)))), fun z => absurd z (by change ¬ (HT.sIx 3 0 (some 1) = 0 ∧ HT.sIx 3 3 none = 3); decide), fun _ => fun t4 nt4 => ?_⟩
        skip
        generalize e4 : upd G3 t4 _ = G4
        have y4 : Same G3 G4 := by rw [← e4]; exact same_upd nt4
        have z4 : Same (Off a c G3) (Off a c G4) := Off.mono y4
        have ft4 : Off a c G4 t4 = some (.tup [.int s, .str m]) := Off.at_ (T3.na nt4) (by rw [← e4]; exact upd_same)
        have T4 : Src G4 a c _ := T3.of_same y4
        clear e4
        refine ⟨t2, t4, _, _, rfl, rfl, SqT.of (Off.un (z4 _ _ ft2)), SqT.of (Off.un ft4), (by show 1 + 2 ≤ sizeLine; decide), fun z => absurd z (by simp), fun _ z => absurd z (by simp), fun _ _ => fun t5 nt5 => ?_⟩
        skip
        generalize e5 : upd G4 t5 _ = G5
        have y5 : Same G4 G5 := by rw [← e5]; exact same_upd nt5
        have z5 : Same (Off a c G4) (Off a c G5) := Off.mono y5
        have ft5 : Off a c G5 t5 = some (.tup [x, .int s, .str m]) := Off.at_ (T4.na nt5) (by rw [← e5]; exact upd_same)
        have T5 : Src G5 a c _ := T4.of_same y5
        clear e5
        have sq : SiQ K (Off a c G5) (.ref t5) := put0 (o := o) S (((((tx.same z1).same z2).same z3).same z4).same z5) ft5
        walk_at "rd"
        refine ⟨(by show 1 ≤ sizeLine; decide), fun u1 nu1 => ?_⟩
        generalize e6 : upd G5 u1 _ = G6
        have y6 : Same G5 G6 := by rw [← e6]; exact same_upd nu1
        have z6 : Same (Off a c G5) (Off a c G6) := Off.mono y6
        have fu1 : Off a c G6 u1 = some (.lst [.ref t5]) := Off.at_ (T5.na nu1) (by rw [← e6]; exact upd_same)
        have T6 : Src G6 a c _ := T5.of_same y6
        clear e6
        walk_at "rd"
        refine ⟨u1, _, _, rfl, rfl, (Off.un fu1), by decide, by decide, (by show 1 * 5 ≤ sizeLine; decide), fun u2 nu2 => ?_⟩
        skip
        generalize e7 : upd G6 u2 _ = G7
        have y7 : Same G6 G7 := by rw [← e7]; exact same_upd nu2
        have z7 : Same (Off a c G6) (Off a c G7) := Off.mono y7
        have fu2 : Off a c G7 u2 = some (.lst [V.ref t5, .ref t5, .ref t5, .ref t5, .ref t5]) := Off.at_ (T6.na nu2) (by rw [← e7]; exact upd_same)
        have T7 : Src G7 a c _ := T6.of_same y7
        clear e7
        exact ⟨u2, t5, rfl, fun b u e => (z7 _ _ (z6 _ _ (z5 _ _ (z4 _ _ (z3 _ _ (z2 _ _ (z1 _ _ e))))))), T7, fu2, ((sq.same z6).same z7)⟩
      · refine ⟨p, _, rfl, SqT.of (Off.un fp), fun z => absurd z (by change ¬ (HT.sIx 3 0 none = 0 ∧ HT.sIx 3 3 (some 1) = 3); decide), fun _ => fun t1 nt1 => ?_⟩
        skip
        generalize e1 : upd H1 t1 _ = G1
        have y1 : Same H1 G1 := by rw [← e1]; exact same_upd nt1
        have z1 : Same (Off a c H1) (Off a c G1) := Off.mono y1
        have ft1 : Off a c G1 t1 = some (.tup [.int o]) := Off.at_ (S1.na nt1) (by rw [← e1]; exact upd_same)
        have T1 : Src G1 a c _ := S1.of_same y1
        clear e1
        walk_at "rd"
        refine ⟨a, c, _, od, _, rfl, T1, by omega, (Off.un (z1 _ _ fod)), nod.1, nod.2, (by rw [lO]; decide), (by rw [lO]; decide), fun x G2 hx T2 O2 => ?_⟩
        have z2 : Same (Off a c G1) (Off a c G2) := Off.oth O2
        obtain ⟨⟨nx, tx⟩, mx⟩ := odd x hx
        walk_at "rd"
        refine ⟨(by show 1 ≤ sizeLine; decide), fun t2 nt2 => ?_⟩
        generalize e3 : upd G2 t2 _ = G3
        have y3 : Same G2 G3 := by rw [← e3]; exact same_upd nt2
        have z3 : Same (Off a c G2) (Off a c G3) := Off.mono y3
        have ft2 : Off a c G3 t2 = some (.tup [x]) := Off.at_ (T2.na nt2) (by rw [← e3]; exact upd_same)
        have T3 : Src G3 a c _ := T2.of_same y3
        clear e3
        refine ⟨t1, t2, _, _, rfl, rfl, SqT.of (Off.un (z3 _ _ (z2 _ _ ft1))), SqT.of (Off.un ft2), (by show 1 + 1 ≤ sizeLine; decide), fun z => absurd z (by simp), fun _ z => absurd z (by simp), fun _ _ => fun t3 nt3 => ?_⟩
        skip
        generalize e4 : upd G3 t3 _ = G4
        have y4 : Same G3 G4 := by rw [← e4]; exact same_upd nt3
        have z4 : Same (Off a c G3) (Off a c G4) := Off.mono y4
        have ft3 : Off a c G4 t3 = some (.tup [.int o, x]) := Off.at_ (T3.na nt3) (by rw [← e4]; exact upd_same)
        have T4 : Src G4 a c _ := T3.of_same y4
        clear e4
        walk_at "rd"
        refine ⟨p, _, rfl, SqT.of (Off.un (z4 _ _ (z3 _ _ (z2 _ _ (z1 _ _ fp))))), fun z => absurd z (by change ¬ (HT.sIx 3 0 (some 2) = 0 ∧ HT.sIx 3 3 none = 3); decide), fun _ => fun t4 nt4 => ?_⟩
        skip
        generalize e5 : upd G4 t4 _ = G5
        have y5 : Same G4 G5 := by rw [← e5]; exact same_upd nt4
        have z5 : Same (Off a c G4) (Off a c G5) := Off.mono y5
        have ft4 : Off a c G5 t4 = some (.tup [.str m]) := Off.at_ (T4.na nt4) (by rw [← e5]; exact upd_same)
        have T5 : Src G5 a c _ := T4.of_same y5
        clear e5
        refine ⟨t3, t4, _, _, rfl, rfl, SqT.of (Off.un (z5 _ _ ft3)), SqT.of (Off.un ft4), (by show 2 + 1 ≤ sizeLine; decide), fun z => absurd z (by simp), fun _ z => absurd z (by simp), fun _ _ => fun t5 nt5 => ?_⟩
        skip
        generalize e6 : upd G5 t5 _ = G6
        have y6 : Same G5 G6 := by rw [← e6]; exact same_upd nt5
        have z6 : Same (Off a c G5) (Off a c G6) := Off.mono y6
        have ft5 : Off a c G6 t5 = some (.tup [.int o, x, .str m]) := Off.at_ (T5.na nt5) (by rw [← e6]; exact upd_same)
        have T6 : Src G6 a c _ := T5.of_same y6
        clear e6
        have sq : SiQ K (Off a c G6) (.ref t5) := put1 S ((((((tx.same z1).same z2).same z3).same z4).same z5).same z6) ft5
        walk_at "rd"
        refine ⟨(by show 1 ≤ sizeLine; decide), fun u1 nu1 => ?_⟩
        generalize e7 : upd G6 u1 _ = G7
        have y7 : Same G6 G7 := by rw [← e7]; exact same_upd nu1
        have z7 : Same (Off a c G6) (Off a c G7) := Off.mono y7
        have fu1 : Off a c G7 u1 = some (.lst [.ref t5]) := Off.at_ (T6.na nu1) (by rw [← e7]; exact upd_same)
        have T7 : Src G7 a c _ := T6.of_same y7
        clear e7
        walk_at "rd"
        refine ⟨u1, _, _, rfl, rfl, (Off.un fu1), by decide, by decide, (by show 1 * 5 ≤ sizeLine; decide), fun u2 nu2 => ?_⟩
        skip
        generalize e8 : upd G7 u2 _ = G8
        have y8 : Same G7 G8 := by rw [← e8]; exact same_upd nu2
        have z8 : Same (Off a c G7) (Off a c G8) := Off.mono y8
        have fu2 : Off a c G8 u2 = some (.lst [V.ref t5, .ref t5, .ref t5, .ref t5, .ref t5]) := Off.at_ (T7.na nu2) (by rw [← e8]; exact upd_same)
        have T8 : Src G8 a c _ := T7.of_same y8
        clear e8
        exact ⟨u2, t5, rfl, fun b u e => (z8 _ _ (z7 _ _ (z6 _ _ (z5 _ _ (z4 _ _ (z3 _ _ (z2 _ _ (z1 _ _ e)))))))), T8, fu2, ((sq.same z7).same z8)⟩
      · refine ⟨p, _, rfl, SqT.of (Off.un fp), fun z => absurd z (by change ¬ (HT.sIx 3 0 none = 0 ∧ HT.sIx 3 3 (some 2) = 3); decide), fun _ => fun t1 nt1 => ?_⟩
        skip
        generalize e1 : upd H1 t1 _ = G1
        have y1 : Same H1 G1 := by rw [← e1]; exact same_upd nt1
        have z1 : Same (Off a c H1) (Off a c G1) := Off.mono y1
        have ft1 : Off a c G1 t1 = some (.tup [.int o, .int s]) := Off.at_ (S1.na nt1) (by rw [← e1]; exact upd_same)
        have T1 : Src G1 a c _ := S1.of_same y1
        clear e1
        walk_at "rd"
        refine ⟨a, c, _, od, _, rfl, T1, by omega, (Off.un (z1 _ _ fod)), nod.1, nod.2, (by rw [lO]; decide), (by rw [lO]; decide), fun x G2 hx T2 O2 => ?_⟩
        have z2 : Same (Off a c G1) (Off a c G2) := Off.oth O2
        obtain ⟨⟨nx, tx⟩, mx⟩ := odd x hx
        walk_at "rd"
        refine ⟨(by show 1 ≤ sizeLine; decide), fun t2 nt2 => ?_⟩
        generalize e3 : upd G2 t2 _ = G3
        have y3 : Same G2 G3 := by rw [← e3]; exact same_upd nt2
        have z3 : Same (Off a c G2) (Off a c G3) := Off.mono y3
        have ft2 : Off a c G3 t2 = some (.tup [x]) := Off.at_ (T2.na nt2) (by rw [← e3]; exact upd_same)
        have T3 : Src G3 a c _ := T2.of_same y3
        clear e3
        refine ⟨t1, t2, _, _, rfl, rfl, SqT.of (Off.un (z3 _ _ (z2 _ _ ft1))), SqT.of (Off.un ft2), (by show 2 + 1 ≤ sizeLine; decide), fun z => absurd z (by simp), fun _ z => absurd z (by simp), fun _ _ => fun t3 nt3 => ?_⟩
        skip
        generalize e4 : upd G3 t3 _ = G4
        have y4 : Same G3 G4 := by rw [← e4]; exact same_upd nt3
        have z4 : Same (Off a c G3) (Off a c G4) := Off.mono y4
        have ft3 : Off a c G4 t3 = some (.tup [.int o, .int s, x]) := Off.at_ (T3.na nt3) (by rw [← e4]; exact upd_same)
        have T4 : Src G4 a c _ := T3.of_same y4
        clear e4
        walk_at "rd"
        refine ⟨p, _, rfl, SqT.of (Off.un (z4 _ _ (z3 _ _ (z2 _ _ (z1 _ _ fp))))), fun z => absurd z (by change ¬ (HT.sIx 3 0 (some 3) = 0 ∧ HT.sIx 3 3 none = 3); decide), fun _ => fun t4 nt4 => ?_⟩
        skip
        generalize e5 : upd G4 t4 _ = G5
        have y5 : Same G4 G5 := by rw [← e5]; exact same_upd nt4
        have z5 : Same (Off a c G4) (Off a c G5) := Off.mono y5
        have ft4 : Off a c G5 t4 = some (.tup []) := Off.at_ (T4.na nt4) (by rw [← e5]; exact upd_same)
        have T5 : Src G5 a c _ := T4.of_same y5
        clear e5
        refine ⟨t3, t4, _, _, rfl, rfl, SqT.of (Off.un (z5 _ _ ft3)), SqT.of (Off.un ft4), (by show 3 + 0 ≤ sizeLine; decide), fun z => absurd z (by simp), fun _ _ => ?_, fun _ z => absurd rfl z⟩
        have sq : SiQ K (Off a c G5) (.ref t3) := put2 S (((((mx.same z1).same z2).same z3).same z4).same z5) (z5 _ _ ft3)
        walk_at "rd"
        refine ⟨(by show 1 ≤ sizeLine; decide), fun u1 nu1 => ?_⟩
        generalize e6 : upd G5 u1 _ = G6
        have y6 : Same G5 G6 := by rw [← e6]; exact same_upd nu1
        have z6 : Same (Off a c G5) (Off a c G6) := Off.mono y6
        have fu1 : Off a c G6 u1 = some (.lst [.ref t3]) := Off.at_ (T5.na nu1) (by rw [← e6]; exact upd_same)
        have T6 : Src G6 a c _ := T5.of_same y6
        clear e6
        walk_at "rd"
        refine ⟨u1, _, _, rfl, rfl, (Off.un fu1), by decide, by decide, (by show 1 * 5 ≤ sizeLine; decide), fun u2 nu2 => ?_⟩
        skip
        generalize e7 : upd G6 u2 _ = G7
        have y7 : Same G6 G7 := by rw [← e7]; exact same_upd nu2
        have z7 : Same (Off a c G6) (Off a c G7) := Off.mono y7
        have fu2 : Off a c G7 u2 = some (.lst [V.ref t3, .ref t3, .ref t3, .ref t3, .ref t3]) := Off.at_ (T6.na nu2) (by rw [← e7]; exact upd_same)
        have T7 : Src G7 a c _ := T6.of_same y7
        clear e7
        exact ⟨u2, t3, rfl, fun b u e => (z7 _ _ (z6 _ _ (z5 _ _ (z4 _ _ (z3 _ _ (z2 _ _ (z1 _ _ e))))))), T7, fu2, ((sq.same z6).same z7)⟩
    rintro st H2 ⟨so, T, rfl, s2, S2, fso, sq⟩
    replace fp := s2 _ _ fp
    have s02 := fun b u e => s2 b u (s01 b u e)
    clear fod odd s2 s01 S1
    walk_at "rd"
    refine ⟨p, _, rfl, .inr (SqT.of (Off.un fp)), fun u3 nu3 => ?_⟩
    skip
    generalize e1 : upd H2 u3 _ = G1
    have y1 : Same H2 G1 := by rw [← e1]; exact same_upd nu3
    have z1 : Same (Off a c H2) (Off a c G1) := Off.mono y1
    have fu3 : Off a c G1 u3 = some (.lst [.int o, .int s, .str m]) := Off.at_ (S2.na nu3) (by rw [← e1]; exact upd_same)
    have T1 : Src G1 a c _ := S2.of_same y1
    clear e1
    walk_at "rd"
    refine ⟨p, _, rfl, SqT.of (Off.un (z1 _ _ fp)), fun z => absurd z (by change ¬ (HT.sIx 3 0 none = 0 ∧ HT.sIx 3 3 (some 2) = 3); decide), fun _ => fun u4 nu4 => ?_⟩
    skip
    generalize e2 : upd G1 u4 _ = G2
    have y2 : Same G1 G2 := by rw [← e2]; exact same_upd nu4
    have z2 : Same (Off a c G1) (Off a c G2) := Off.mono y2
    have fu4 : Off a c G2 u4 = some (.tup [.int o, .int s]) := Off.at_ (T1.na nu4) (by rw [← e2]; exact upd_same)
    have T2 : Src G2 a c _ := T1.of_same y2
    clear e2
    walk_at "rd"
    refine ⟨(by show 1 ≤ sizeLine; decide), fun u5 nu5 => ?_⟩
    generalize e3 : upd G2 u5 _ = G3
    have y3 : Same G2 G3 := by rw [← e3]; exact same_upd nu5
    have z3 : Same (Off a c G2) (Off a c G3) := Off.mono y3
    have fu5 : Off a c G3 u5 = some (.tup [.int 0]) := Off.at_ (T2.na nu5) (by rw [← e3]; exact upd_same)
    have T3 : Src G3 a c _ := T2.of_same y3
    clear e3
    refine ⟨p, u5, _, _, rfl, rfl, SqT.of (Off.un (z3 _ _ (z2 _ _ (z1 _ _ fp)))), SqT.of (Off.un fu5), (by show 3 + 1 ≤ sizeLine; decide), fun z => absurd z (by simp), fun _ z => absurd z (by simp), fun _ _ => fun u6 nu6 => ?_⟩
    skip
    generalize e4 : upd G3 u6 _ = G4
    have y4 : Same G3 G4 := by rw [← e4]; exact same_upd nu6
    have z4 : Same (Off a c G3) (Off a c G4) := Off.mono y4
    have fu6 : Off a c G4 u6 = some (.tup [.int o, .int s, .str m, .int 0]) := Off.at_ (T3.na nu6) (by rw [← e4]; exact upd_same)
    have T4 : Src G4 a c _ := T3.of_same y4
    clear e4
    walk_at "rd"
    refine ⟨(by show 0 ≤ sizeLine; decide), fun u7 nu7 => ?_⟩
    generalize e5 : upd G4 u7 _ = G5
    have y5 : Same G4 G5 := by rw [← e5]; exact same_upd nu7
    have z5 : Same (Off a c G4) (Off a c G5) := Off.mono y5
    have fu7 : Off a c G5 u7 = some (.tup []) := Off.at_ (T4.na nu7) (by rw [← e5]; exact upd_same)
    have T5 : Src G5 a c _ := T4.of_same y5
    clear e5
    walk_at "rd"
    refine ⟨(by show 0 ≤ sizeLine; decide), fun u8 nu8 => ?_⟩
    generalize e6 : upd G5 u8 _ = G6
    have y6 : Same G5 G6 := by rw [← e6]; exact same_upd nu8
    have z6 : Same (Off a c G5) (Off a c G6) := Off.mono y6
    have fu8 : Off a c G6 u8 = some (.lst []) := Off.at_ (T5.na nu8) (by rw [← e6]; exact upd_same)
    have T6 : Src G6 a c _ := T5.of_same y6
    clear e6
    walk_at "rd"
    refine fun u9 nu9 => ?_
    generalize e7 : upd G6 u9 _ = G7
    have y7 : Same G6 G7 := by rw [← e7]; exact same_upd nu9
    have z7 : Same (Off a c G6) (Off a c G7) := Off.mono y7
    have fu9 : Off a c G7 u9 = some (.dK []) := Off.at_ (T6.na nu9) (by rw [← e7]; exact upd_same)
    have T7 : Src G7 a c _ := T6.of_same y7
    clear e7
    walk_at "rd"
    refine ⟨(by show 1 ≤ sizeLine; decide), fun ua nua => ?_⟩
    generalize e8 : upd G7 ua _ = G8
    have y8 : Same G7 G8 := by rw [← e8]; exact same_upd nua
    have z8 : Same (Off a c G7) (Off a c G8) := Off.mono y8
    have fua : Off a c G8 ua = some (.tup [.ref p]) := Off.at_ (T7.na nua) (by rw [← e8]; exact upd_same)
    have T8 : Src G8 a c _ := T7.of_same y8
    clear e8
    walk_at "rd"
    refine ⟨p, _, _, _, rfl, SqT.of (Off.un (z8 _ _ (z7 _ _ (z6 _ _ (z5 _ _ (z4 _ _ (z3 _ _ (z2 _ _ (z1 _ _ fp))))))))), fun ub nub => ?_⟩
    skip
    generalize e9 : upd G8 ub _ = G9
    have y9 : Same G8 G9 := by rw [← e9]; exact same_upd nub
    have z9 : Same (Off a c G8) (Off a c G9) := Off.mono y9
    have fub : Off a c G9 ub = some (.tup [.str m, .int s, .int o]) := Off.at_ (T8.na nub) (by rw [← e9]; exact upd_same)
    have T9 : Src G9 a c _ := T8.of_same y9
    clear e9
    walk_at "rd"
    refine ⟨(by show 11 ≤ sizeLine; decide), fun uc nuc => ?_⟩
    generalize e10 : upd G9 uc _ = G10
    have y10 : Same G9 G10 := by rw [← e10]; exact same_upd nuc
    have z10 : Same (Off a c G9) (Off a c G10) := Off.mono y10
    have fuc : Off a c G10 uc = some (.lst [V.ref u3, .ref u4, .ref u6, .non, .ref u7, .ref u8, .str "side", .int 0, .ref u9, .ref ua, .ref ub]) := Off.at_ (T9.na nuc) (by rw [← e10]; exact upd_same)
    have T10 : Src G10 a c _ := T9.of_same y10
    clear e10
    refine ⟨_, _, _, _, rfl, rfl, (Off.un (z10 _ _ (z9 _ _ (z8 _ _ (z7 _ _ (z6 _ _ (z5 _ _ (z4 _ _ (z3 _ _ (z2 _ _ (z1 _ _ fso))))))))))), (Off.un fuc), (by show 5 + 11 ≤ sizeLine; decide), fun ud nud => ?_⟩
    skip
    generalize e11 : upd G10 ud _ = G11
    have y11 : Same G10 G11 := by rw [← e11]; exact same_upd nud
    have z11 : Same (Off a c G10) (Off a c G11) := Off.mono y11
    have fud : Off a c G11 ud = some (.lst ([V.ref T, .ref T, .ref T, .ref T, .ref T] ++ [V.ref u3, .ref u4, .ref u6, .non, .ref u7, .ref u8, .str "side", .int 0, .ref u9, .ref ua, .ref ub])) := Off.at_ (T10.na nud) (by rw [← e11]; exact upd_same)
    have T11 : Src G11 a c _ := T10.of_same y11
    clear e11
    walk_at "rd"
    have zAll : Same (Off a c H2) (Off a c G11) := fun b u e => (z11 _ _ (z10 _ _ (z9 _ _ (z8 _ _ (z7 _ _ (z6 _ _ (z5 _ _ (z4 _ _ (z3 _ _ (z2 _ _ (z1 _ _ e)))))))))))
    have all : ∀ x ∈ ([V.ref T, .ref T, .ref T, .ref T, .ref T] ++ [V.ref u3, .ref u4, .ref u6, .non, .ref u7, .ref u8, .str "side", .int 0, .ref u9, .ref ua, .ref ub]), SiQ K (Off a c G11) x := by
      intro x hx
      simp only [List.cons_append, List.nil_append, List.mem_cons, List.not_mem_nil, or_false] at hx
      have sq' := sq.same zAll
      rcases hx with rfl | rfl | rfl | rfl | rfl | rfl | rfl | rfl | rfl | rfl | rfl | rfl | rfl | rfl | rfl | rfl
      · exact sq'
      · exact sq'
      · exact sq'
      · exact sq'
      · exact sq'
      · exact .inr (.kind (.lst (z11 _ _ (z10 _ _ (z9 _ _ (z8 _ _ (z7 _ _ (z6 _ _ (z5 _ _ (z4 _ _ (z3 _ _ (z2 _ _ fu3))))))))))) rfl)
      · exact .inr (.len (z11 _ _ (z10 _ _ (z9 _ _ (z8 _ _ (z7 _ _ (z6 _ _ (z5 _ _ (z4 _ _ (z3 _ _ fu4))))))))) (by simp))
      · exact .inr (.len (z11 _ _ (z10 _ _ (z9 _ _ (z8 _ _ (z7 _ _ (z6 _ _ (z5 _ _ fu6))))))) (by simp))
      · exact .inr (.kind .non rfl)
      · exact .inr (.len (z11 _ _ (z10 _ _ (z9 _ _ (z8 _ _ (z7 _ _ (z6 _ _ fu7)))))) (by simp))
      · exact .inr (.kind (.lst (z11 _ _ (z10 _ _ (z9 _ _ (z8 _ _ (z7 _ _ fu8)))))) rfl)
      · exact .inr (.kind (.str _) rfl)
      · exact .inr (.kind (.int _) rfl)
      · exact .inr (.kind (.dk (z11 _ _ (z10 _ _ (z9 _ _ (z8 _ _ fu9))))) rfl)
      · exact .inr (.len (z11 _ _ (z10 _ _ (z9 _ _ fua))) (by simp))
      · exact .inr (.off (z11 _ _ (z10 _ _ fub)) (.str m) rfl)
    generalize exS : ([V.ref T, .ref T, .ref T, .ref T, .ref T] ++ [V.ref u3, .ref u4, .ref u6, .non, .ref u7, .ref u8, .str "side", .int 0, .ref u9, .ref ua, .ref ub]) = xsS at all fud
    have lS : xsS.length = 16 := by rw [← exS]; rfl
    have nud2 := T10.na nud
    refine ⟨a, c, _, ud, _, rfl, T11, by omega, Off.un fud, nud2.1, nud2.2, (by rw [lS]; decide), (by rw [lS]; decide), fun x Hz hx SZ OZ => ?_⟩
    have zZ : Same (Off a c G11) (Off a c Hz) := Off.oth OZ
    exact q x Hz _ ((all x hx).same zZ) (by omega) SZ (fun b u e n1 n2 => Off.un (zZ _ _ (zAll _ _ (s02 _ _ (Off.at_ ⟨n1, n2⟩ e)))))
end
end HT
namespace HT
open PySem L2
theorem shaped_ints (A : List Int) : SeqAt.shaped (.list (A.map PyData.int)) = true := by
  have key : ∀ A : List Int, PyData.canLayAll0 (A.map PyData.int) = true ∧ PyData.depthAll (A.map PyData.int) ≤ 1 := fun A => by
    induction A with
    | nil => exact ⟨rfl, Nat.zero_le _⟩
    | cons a A ih => exact ⟨by simp [PyData.canLayAll0, PyData.canLay0, ih.1], by show max (PyData.depth (.int a)) (PyData.depthAll (A.map PyData.int)) ≤ 1; exact Nat.max_le.mpr ⟨by simp [PyData.depth], ih.2⟩⟩
  obtain ⟨a, b⟩ := key A
  unfold SeqAt.shaped
  rw [Bool.and_eq_true]
  refine ⟨a, decide_eq_true ?_⟩
  show PyData.depthAll (A.map PyData.int) + 1 ≤ 64
  omega
theorem dp_ints {K : PySem.W.Frag} {H : Hp} {p : Addr} {A : List Int} (h : H p = some (.lst (A.map V.int))) : Dp K H (.ref p) (.list (A.map PyData.int)) := by
  have key : ∀ A : List Int, DpAll K H (A.map V.int) (A.map PyData.int) := fun A => by
    induction A with
    | nil => exact .nil
    | cons a A ih => exact .cons (.int _) ih
  exact .lst (SqL.of h) (key A)
theorem eqv_ints (A B : List Int) : PyData.eqv (.list (A.map PyData.int)) (.list (B.map PyData.int)) = decide (A = B) := by
  rw [PyData.eqv]
  induction A generalizing B with
  | nil => cases B with
    | nil => rfl
    | cons b B => rfl
  | cons a A ih => cases B with
    | nil => rfl
    | cons b B =>
      rw [List.map_cons, List.map_cons, PyData.eqvAll, ih, PyData.eqv]
      by_cases x : a = b
      · subst x
        by_cases y : A = B
        · subst y; simp
        · rw [decide_eq_false y, decide_eq_false (by simpa using y)]; simp
      · rw [decide_eq_false (show ¬ a :: A = b :: B by intro h; injection h with h1 h2; exact x h1)]
        simp [x]
theorem BadL.same {K : PySem.W.Frag} {H H' : Hp} {x : V} (b : BadL K H x) (e : Same H H') : BadL K H' x := by
  cases b with
  | kind t h => exact .kind (t.same e) h
  | len hl h => exact .len (e _ _ hl) h
  | item hl h1 h2 hi bad good => exact .item (e _ _ hl) h1 h2 hi (bad.same e) fun j z a b => (good j z a b).same e
theorem GoodL.same {H H' : Hp} {l : Addr} {xs : List V} (g : GoodL H l xs) (e : Same H H') : GoodL H' l xs := ⟨e _ _ g.1, g.2.1, g.2.2.1, fun y hy => (g.2.2.2 y hy).same e⟩
theorem AskW.same {K : PySem.W.Frag} {H H' : Hp} {kd : Nat} {o t l r m : V} {wd : Option Nat} (h : AskW K H kd o t l r m wd) (e : Same H H') : AskW K H' kd o t l r m wd := by
  cases h with
  | p0 b => exact .p0 (b.same e)
  | p1 g b => exact .p1 (g.same e) (b.same e)
  | p2 g g2 => exact .p2 (g.same e) (g2.same e)
  | s0 b => exact .s0 (b.same e)
  | s1 g b => exact .s1 (g.same e) (b.same e)
  | s2 g g2 h i => exact .s2 (g.same e) (g2.same e) (h.same e) i
  | s3 g g2 b => exact .s3 (g.same e) (g2.same e) b
  | w0 b => exact .w0 (b.same e)
  | w1 g h i => exact .w1 (g.same e) (h.same e) i
  | w2 g h i h2 i2 => exact .w2 (g.same e) (h.same e) i (h2.same e) i2
  | w3 S b h h2 => exact .w3 (S.same e) b h h2
  | m0 b => exact .m0 (b.same e)
  | m1 g h i => exact .m1 (g.same e) (h.same e) i
  | m2 g h i h2 i2 => exact .m2 (g.same e) (h.same e) i (h2.same e) i2
  | m3 h hp S xb yb c => exact .m3 (e _ _ h) (e _ _ hp) S xb yb c
  | m4 h hp S xb yb c => exact .m4 (e _ _ h) (e _ _ hp) S xb yb c
  | f0 b => exact .f0 (b.same e)
  | f1 g c => exact .f1 (g.same e) c
  | f2 g c b => exact .f2 (g.same e) c (b.same e)
  | f3 S c hp sp b => exact .f3 (S.same e) c (e _ _ hp) sp b
  | f4 S c hp sp b => exact .f4 (S.same e) c (e _ _ hp) sp b
def spIsS (K : PySem.W.Frag) : Sp := fun vs H Q _ => ∃ x : V, vs = [x] ∧ ((GoodS H x ∧ ∀ H', Same H H' → Q (.bl true) H') ∨ (BadS K H x ∧ ∀ H', Same H H' → Q (.bl false) H'))
/-- no value -/
def NoV (H : Hp) (x : V) : Prop := ∃ n, Th H x n ∧ isI n = false
theorem NoV.same {H H' : Hp} {x : V} (h : NoV H x) (s : Same H H') : NoV H' x := let ⟨n, a, b⟩ := h; ⟨n, a.same s, b⟩
theorem off_up {a c : Addr} {G : Hp} : Same (Off a c G) G := fun _ _ h => Off.un h
def spTwoF (K : PySem.W.Frag) : Sp := fun vs H Q _ => ∃ (a c : Addr) (t : Nat) (o p b : V), vs = [.ref a, o, p, b] ∧ Src H a c t ∧ t + 10 < 2 ^ 30 ∧ GoodS (Off a c H) o ∧ GoodS (Off a c H) p ∧ SiQ K (Off a c H) b ∧ ∀ H' t', t' ≤ t + 10 → Src H' a c t' → Oth a c H H' → Q (.bl true) H'
def dueI : Bool → Option Nat
  | true => none
  | false => some 0
section
variable {P : Program} {w : World} {K : PySem.W.Frag} {mg : Str → Option Value} {base : Heap} {f1 f2 f3 f4 B' : Addr} {d1 d2 d3 d4 : FuncData} {C : Nat → Addr}
theorem ok_is_s {f : Addr} {fd : FuncData} (F : Fun K "_law_is_side" "_law_is_side" s_L_is_side f fd) (R : Er K mg C B') (Ck : CalX P w K mg base "check_side" 3 ["side"] (spSideX K C) f1 d1) : FnOk P w K mg base CX0 4 f fd ["_law_value"] (spIsS K) := by
  refine F.ok sc_L_is_side (fun vs H Q E h => ?_) (fun cdv A outer s0 H vs Q E hr h => ?_)
  · obtain ⟨x, rfl, _⟩ := h
    rfl
  · obtain ⟨x, rfl, h⟩ := h
    have nd := sc_L_is_side.nd
    refine ⟨_, (pss_cons (ps_set (i := 1) nd rfl (Or.inl rfl) pe_non)
      (pss_cons (ps_try_keep (i := 2) rfl rfl rfl nd rfl rfl ⟨rfl, by decide, .inl R.g0⟩ takes0 (fun W pn xe tk _ => pss_one (ps_expr (pcx Ck hr (by decide) (by rfl) tk (pa_cons (pv 0) pa_nil)))) (fun a rc kl dd pn hz hf => pss_one (ps_set (i := 1) nd rfl (Or.inl rfl) (pv 2))))
      (pss_one (ps_ret (pe_cmpR op_isN (pv 1) pe_non (nomark _)))))), ?_⟩
    walk_at "rd"
    rcases h with ⟨g, q⟩ | ⟨b, q⟩
    · refine .inl ⟨g, ?_⟩
      walk_at "rd"
      refine ⟨rfl, ?_⟩
      exact q _ (Same.refl H)
    · refine .inr ⟨b, ?_⟩
      refine ⟨true, R.em0, fun _ => ⟨rfl, fun pe hpe => ?_⟩, fun z => Bool.noConfusion z⟩
      walk_at "rd"
      refine ⟨rfl, ?_⟩
      exact q _ (fun c u z => (upd_ne (ne_of_none z hpe)).trans z)
theorem ok_two {f : Addr} {fd : FuncData} (F : Fun K "_law_two_fit" "_law_two_fit" s_L_two_fit f fd) (B : Blt mg) (Wo : Cal P w K mg base "_law_word" 110 ["_law_way", "_law_parts"] (spWord52 K) f1 d1) (Is : Cal P w K mg base "_law_is_side" 4 ["_law_value"] (spIsS K) f2 d2) (Pk : Cal P w K mg base "_law_pick" 2 ["_law_source_here", "_law_values"] spPick f3 d3) : FnOk P w K mg base CX0 111 f fd ["_law_source_here", "_law_one", "_law_other", "_law_bent_here"] (spTwoF K) := by
  refine F.ok sc_L_two_fit (fun vs H Q E h => ?_) (fun cdv A outer s0 H vs Q E hr h => ?_)
  · obtain ⟨a, c, t, o, p, b, rfl, _⟩ := h
    rfl
  · obtain ⟨a, c, t, o, p, b, rfl, S0, ht, go, gp, sb, q⟩ := h
    have nd := sc_L_two_fit.nd
    refine ⟨_, (pss_cons (ps_mid (ps_set (i := 4) nd rfl (Or.inl rfl) (pe_ix ix_list (pe_lst (pa_cons pe_str (pa_cons pe_str pa_nil))) (pe_callTy call_int1 (by rfl) B.int (by decide +kernel) (pa_cons (pcl Is hr (by decide) (by rfl) (pa_cons (pv 3) pa_nil)) pa_nil)) (fun _ _ => rfl))))
      (pss_cons (ps_mid (ps_for PassesOwn.never rfl (pi_list (pe_lst (pa_cons (pe_tup (pa_cons (pv 3) (pa_cons (pv 2) pa_nil))) (pa_cons (pe_tup (pa_cons (pv 2) (pa_cons (pv 3) pa_nil))) (pa_cons (pe_tup (pa_cons (pv 3) (pa_cons pe_non pa_nil))) (pa_cons (pe_tup (pa_cons pe_non (pa_cons (pv 3) pa_nil))) pa_nil)))))) (pg_tup (by rfl) (pgs_cons (pg_name (i := 5) nd rfl (Or.inr rfl)) (pgs_cons (pg_name (i := 6) nd rfl (Or.inr rfl)) pgs_nil))) (pss_cons (ps_mid (ps_set (i := 7) nd rfl (Or.inr rfl) (pe_ix ix_list (pe_lst (pa_cons (pv 4) (pa_cons pe_str pa_nil))) (pe_callTy call_int1 (by rfl) B.int (by decide +kernel) (pa_cons (pe_or (pe_cmpR op_isN (pv 5) pe_non (nomark _)) (pe_one (pe_cmpR op_isN (pv 6) pe_non (nomark _)))) pa_nil)) (fun _ _ => rfl))))
      (pss_one (ps_if (pt_mid (pt_cmpR (op_neD hr.units) (pe_lc (own := [("_law_way", 8)]) (g := gName 8) rfl nd (pi_range1 (by rfl) B.range (pa_cons pe_int pa_nil)) (blkOk_by (N := ["_law_source_here", "_law_one", "_law_other", "_law_bent_here", "_law_due", "_law_left", "_law_right", "_law_wish", "_law_way", "_law_bad", "_law_words"]) (sc := defScope s_L_two_fit) (by decide +kernel)) (fun _ _ _ _ _ => pg_name (i := 8) nd rfl (Or.inl rfl)) (fun _ _ _ _ _ => (pts_one (pt_cmpR op_ne (pcl Wo hr (by decide) (by rfl) (pa_cons (pv 8) (pa_cons (pe_lst (pa_cons (pv 5) (pa_cons (pv 6) (pa_cons pe_int (pa_cons pe_int (pa_cons pe_int pa_nil)))))) pa_nil))) (pv 7) (nomark _)))) (fun _ _ _ _ _ => (pv 8))) (pe_lst pa_nil) (nomark _))) (pss_one (ps_ret pe_bl)) pss_nil)))))
      (pss_cons (ps_mid (ps_set (i := 9) nd rfl (Or.inl rfl) (pcl Pk hr (by decide) (by rfl) (pa_cons (pv 0) (pa_cons (pe_lst (pa_cons pe_non (pa_cons pe_bl (pa_cons pe_bl (pa_cons pe_str (pa_cons (pe_lst pa_nil) (pa_cons (pe_tup (pa_cons pe_int pa_nil)) (pa_cons pe_dnewK pa_nil)))))))) pa_nil)))))
      (pss_cons (ps_mid (ps_set (i := 7) nd rfl (Or.inr rfl) (pe_ix ix_list (pe_lst (pa_cons pe_str (pa_cons pe_str pa_nil))) (pe_callTy call_int1 (by rfl) B.int (by decide +kernel) (pa_cons (pe_cmpR op_eq (pv 4) pe_str (nomark _)) pa_nil)) (fun _ _ => rfl))))
      (pss_cons (ps_mid (ps_set (i := 10) nd rfl (Or.inl rfl) (pe_lst (pa_cons (pcl Wo hr (by decide) (by rfl) (pa_cons pe_int (pa_cons (pe_lst (pa_cons (pv 3) (pa_cons (pv 2) (pa_cons (pv 9) (pa_cons pe_int (pa_cons pe_int pa_nil)))))) pa_nil))) (pa_cons (pcl Wo hr (by decide) (by rfl) (pa_cons pe_int (pa_cons (pe_lst (pa_cons (pv 2) (pa_cons (pv 3) (pa_cons (pv 9) (pa_cons pe_int (pa_cons pe_int pa_nil)))))) pa_nil))) pa_nil)))))
      (pss_one (ps_ret (pe_and (pe_cmpR op_eq (pcl Wo hr (by decide) (by rfl) (pa_cons pe_int (pa_cons (pe_lst (pa_cons (pv 1) (pa_cons (pv 2) (pa_cons (pv 9) (pa_cons pe_int (pa_cons pe_int pa_nil)))))) pa_nil))) pe_str (nomark _)) (pe_one (pe_cmpR (op_eqD hr.units) (pv 10) (pe_op op_rep (pe_lst (pa_cons (pv 7) pa_nil)) pe_int) (nomark _))))))))))), ?_⟩
    obtain ⟨d, hd⟩ : ∃ d : Bool, (d = true ∧ GoodS (Off a c H) b) ∨ (d = false ∧ BadS K (Off a c H) b) := sb.elim (fun g => ⟨true, .inl ⟨rfl, g⟩⟩) fun g => ⟨false, .inr ⟨rfl, g⟩⟩
    refine ⟨fun st G => st = [some (.ref a), some o, some p, some b, some (.str (wordS (dueI d))), none, none, none, none, none, none] ∧ Same H G, ?_, ?_⟩
    · walk_at "rd"
      refine ⟨(by show 2 ≤ sizeLine; decide), fun l1 nl1 => ?_⟩
      have g1 : upd H l1 (.lst [.str "side", .str "good"]) l1 = some (.lst [.str "side", .str "good"]) := upd_same
      have s1 : Same H (upd H l1 (.lst [.str "side", .str "good"])) := same_upd nl1
      generalize upd H l1 (.lst [.str "side", .str "good"]) = H1 at g1 s1 ⊢
      have u1 : Same (Off a c H) H1 := fun _ _ h => s1 _ _ (Off.un h)
      walk_at "rd"
      rcases hd with ⟨rfl, g⟩ | ⟨rfl, g⟩
      · refine .inl ⟨g.same u1, fun H2 s2 => ?_⟩
        walk_at "rd"
        refine .inr ⟨true, rfl, ?_⟩
        refine ⟨l1, _, _, _, rfl, rfl, SqL.of (s2 _ _ g1), rfl, ?_⟩
        exact ⟨rfl, s1.trans s2⟩
      · refine .inr ⟨g.same u1, fun H2 s2 => ?_⟩
        walk_at "rd"
        refine .inr ⟨false, rfl, ?_⟩
        refine ⟨l1, _, _, _, rfl, rfl, SqL.of (s2 _ _ g1), rfl, ?_⟩
        exact ⟨rfl, s1.trans s2⟩
    rintro st H1 ⟨rfl, s1⟩
    refine ⟨fun st G => ∃ x5 x6 x7 : Option V, st = [some (.ref a), some o, some p, some b, some (.str (wordS (dueI d))), x5, x6, x7, none, none, none] ∧ Same H G, ?_, ?_⟩
    · walk_at "rd"
      refine ⟨(by show 2 ≤ sizeLine; decide), fun t1 nt1 => ?_⟩
      have gt1 : upd H1 t1 (.tup [b, p]) t1 = some (.tup [b, p]) := upd_same
      have st1 : Same H1 (upd H1 t1 (.tup [b, p])) := same_upd nt1
      generalize upd H1 t1 (.tup [b, p]) = H2 at gt1 st1 ⊢
      walk_at "rd"
      refine ⟨(by show 2 ≤ sizeLine; decide), fun t2 nt2 => ?_⟩
      have gt2 : upd H2 t2 (.tup [p, b]) t2 = some (.tup [p, b]) := upd_same
      have st2 : Same H2 (upd H2 t2 (.tup [p, b])) := same_upd nt2
      generalize upd H2 t2 (.tup [p, b]) = H3 at gt2 st2 ⊢
      walk_at "rd"
      refine ⟨(by show 2 ≤ sizeLine; decide), fun t3 nt3 => ?_⟩
      have gt3 : upd H3 t3 (.tup [b, .non]) t3 = some (.tup [b, .non]) := upd_same
      have st3 : Same H3 (upd H3 t3 (.tup [b, .non])) := same_upd nt3
      generalize upd H3 t3 (.tup [b, .non]) = H4 at gt3 st3 ⊢
      walk_at "rd"
      refine ⟨(by show 2 ≤ sizeLine; decide), fun t4 nt4 => ?_⟩
      have gt4 : upd H4 t4 (.tup [V.non, b]) t4 = some (.tup [V.non, b]) := upd_same
      have st4 : Same H4 (upd H4 t4 (.tup [V.non, b])) := same_upd nt4
      generalize upd H4 t4 (.tup [V.non, b]) = H5 at gt4 st4 ⊢
      walk_at "rd"
      refine ⟨(by show 4 ≤ sizeLine; decide), fun lq nlq => ?_⟩
      have glq : upd H5 lq (.lst [.ref t1, .ref t2, .ref t3, .ref t4]) lq = some (.lst [.ref t1, .ref t2, .ref t3, .ref t4]) := upd_same
      have slq : Same H5 (upd H5 lq (.lst [.ref t1, .ref t2, .ref t3, .ref t4])) := same_upd nlq
      generalize upd H5 lq (.lst [.ref t1, .ref t2, .ref t3, .ref t4]) = H6 at glq slq ⊢
      have s6 : Same H H6 := s1.trans (st1.trans (st2.trans (st3.trans (st4.trans slq))))
      replace gt1 := slq _ _ (st4 _ _ (st3 _ _ (st2 _ _ gt1)))
      replace gt2 := slq _ _ (st4 _ _ (st3 _ _ gt2))
      replace gt3 := slq _ _ (st4 _ _ gt3)
      replace gt4 := slq _ _ gt4
      walk_at "rd"
      refine ⟨⟨_, SqL.of glq⟩, ?_⟩
      refine for_list (K := K) (a := lq) (xs := [.ref t1, .ref t2, .ref t3, .ref t4]) (fun i st G => ∃ x5 x6 x7 : Option V, st = [some (.ref a), some o, some p, some b, some (.str (wordS (dueI d))), x5, x6, x7, none, none, none] ∧ Same H6 G) ⟨none, none, none, rfl, Same.refl _⟩ (fun _ _ _ _ ⟨_, _, _, _, s⟩ => SqL.of (s _ _ glq)) ?_ (fun st G ⟨x5, x6, x7, e, s⟩ => ⟨x5, x6, x7, e, s6.trans s⟩)
      rintro i y st G hy ⟨x5, x6, x7, rfl, sG⟩
      have uG : Same (Off a c H) G := fun _ _ h => sG _ _ (s6 _ _ (Off.un h))
      have go' := go.same uG
      have gp' := gp.same uG
      have bn : BadS K G .non := .kind .non rfl
      have nn : ∀ {x : V}, GoodS G x → decide (x = V.non) = false := fun {x} g => by
        obtain ⟨q1, _, _, _, rfl, _⟩ := g
        exact decide_eq_false fun z => V.noConfusion z
      obtain ⟨tp, lf, rg, wd, rfl, htp, wish, as0, as1⟩ : ∃ (tp : Addr) (lf rg : V) (wd : Option Nat), y = .ref tp ∧ G tp = some (.tup [lf, rg]) ∧ (if (decide (lf = V.non) || decide (rg = V.non)) = true then ("side" : Str) else wordS (dueI d)) = wordS wd ∧ AskW K G 0 lf rg (.int 5) (.int 5) (.int 5) wd ∧ AskW K G 1 lf rg (.int 5) (.int 5) (.int 5) wd := by
        match i, hy with
        | 0, hy =>
          cases hy
          rcases hd with ⟨rfl, g⟩ | ⟨rfl, g⟩
          · exact ⟨t1, b, p, none, rfl, sG _ _ gt1, by rw [nn (g.same uG), nn gp']; rfl, .p2 (g.same uG) gp', .s3 (g.same uG) gp' (by decide)⟩
          · exact ⟨t1, b, p, some 0, rfl, sG _ _ gt1, by split <;> rfl, .p0 (g.same uG), .s0 (g.same uG)⟩
        | 1, hy =>
          cases hy
          rcases hd with ⟨rfl, g⟩ | ⟨rfl, g⟩
          · exact ⟨t2, p, b, none, rfl, sG _ _ gt2, by rw [nn (g.same uG), nn gp']; rfl, .p2 gp' (g.same uG), .s3 gp' (g.same uG) (by decide)⟩
          · exact ⟨t2, p, b, some 0, rfl, sG _ _ gt2, by split <;> rfl, .p1 gp' (g.same uG), .s1 gp' (g.same uG)⟩
        | 2, hy =>
          cases hy
          rcases hd with ⟨rfl, g⟩ | ⟨rfl, g⟩
          · exact ⟨t3, b, .non, some 0, rfl, sG _ _ gt3, by rw [decide_eq_true (show V.non = V.non from rfl), Bool.or_true]; rfl, .p1 (g.same uG) bn, .s1 (g.same uG) bn⟩
          · exact ⟨t3, b, .non, some 0, rfl, sG _ _ gt3, by split <;> rfl, .p0 (g.same uG), .s0 (g.same uG)⟩
        | 3, hy =>
          cases hy
          exact ⟨t4, .non, b, some 0, rfl, sG _ _ gt4, by rw [decide_eq_true (show V.non = V.non from rfl), Bool.true_or]; rfl, .p0 bn, .s0 bn⟩
        | n + 4, hy => cases hy
      refine ⟨tp, _, rfl, SqT.of htp, rfl, _, _, rfl, _, _, rfl, rfl, ?_⟩
      refine ⟨fun st G' => st = [some (.ref a), some o, some p, some b, some (.str (wordS (dueI d))), some lf, some rg, some (.str (wordS wd)), none, none, none] ∧ Same G G', ?_, ?_⟩
      · walk_at "rd"
        refine ⟨(by show 2 ≤ sizeLine; decide), fun l1 nl1 => ?_⟩
        have gl1 : upd G l1 (.lst [.str (wordS (dueI d)), .str "side"]) l1 = some (.lst [.str (wordS (dueI d)), .str "side"]) := upd_same
        have sl1 : Same G (upd G l1 (.lst [.str (wordS (dueI d)), .str "side"])) := same_upd nl1
        generalize upd G l1 (.lst [.str (wordS (dueI d)), .str "side"]) = G1 at gl1 sl1 ⊢
        walk_at "rd"
        refine ⟨rfl, ?_⟩
        refine ⟨_, rfl, ?_⟩
        generalize decide (lf = V.non) = c1 at wish ⊢
        cases c1 with
        | true =>
          change ("side" : Str) = wordS wd at wish
          refine ite2 (fun _ => ?_) (fun z => absurd rfl z)
          walk_at "rd"
          refine .inr ⟨true, rfl, ?_⟩
          refine ⟨l1, _, _, _, rfl, rfl, SqL.of gl1, rfl, ?_⟩
          rw [← wish]
          exact ⟨rfl, sl1⟩
        | false =>
          refine ite2 (fun z => absurd z (by decide)) (fun _ => ?_)
          walk_at "rd"
          refine ⟨rfl, ?_⟩
          generalize decide (rg = V.non) = c2 at wish ⊢
          cases c2 with
          | true =>
            change ("side" : Str) = wordS wd at wish
            walk_at "rd"
            refine .inr ⟨true, rfl, ?_⟩
            refine ⟨l1, _, _, _, rfl, rfl, SqL.of gl1, rfl, ?_⟩
            rw [← wish]
            exact ⟨rfl, sl1⟩
          | false =>
            change wordS (dueI d) = wordS wd at wish
            walk_at "rd"
            refine .inr ⟨false, rfl, ?_⟩
            refine ⟨l1, _, _, _, rfl, rfl, SqL.of gl1, rfl, ?_⟩
            rw [← wish]
            exact ⟨rfl, sl1⟩
      rintro st G' ⟨rfl, sG'⟩
      walk_at "rd"
      refine ⟨fun b G2 => b = false ∧ Same G' G2, ?_, ?_⟩
      · walk_at "rd"
        refine ⟨by decide, by decide, fun Dl nDl => ?_⟩
        refine lc_range (n := 2) (fun j G2 => G2 Dl = some (.lst []) ∧ Same G' G2) ⟨upd_same, same_upd nDl⟩ ?_ ?_
        · rintro j G2 hj ⟨hD, s2⟩
          refine ⟨rfl, ?_⟩
          walk_at "rd"
          refine ⟨(by show 5 ≤ sizeLine; decide), fun pl npl => ?_⟩
          have gpl : upd G2 pl (.lst [lf, rg, .int 5, .int 5, .int 5]) pl = some (.lst [lf, rg, .int 5, .int 5, .int 5]) := upd_same
          have spl : Same G2 (upd G2 pl (.lst [lf, rg, .int 5, .int 5, .int 5])) := same_upd npl
          generalize upd G2 pl (.lst [lf, rg, .int 5, .int 5, .int 5]) = G3 at gpl spl ⊢
          have as : AskW K G3 j lf rg (.int 5) (.int 5) (.int 5) wd := by
            have e := sG'.trans (s2.trans spl)
            rcases (by omega : j = 0 ∨ j = 1) with rfl | rfl
            · exact as0.same e
            · exact as1.same e
          rw [Int.zero_add]
          refine ⟨j, pl, _, _, _, _, _, wd, rfl, gpl, as, fun G4 s4 => ?_⟩
          walk_at "rd"
          refine ⟨rfl, ?_⟩
          refine ⟨_, rfl, ?_⟩
          refine ite2 (fun z => absurd z (by rw [decide_eq_true rfl]; decide)) (fun _ => ?_)
          exact ⟨s4 _ _ (spl _ _ hD), s2.trans (spl.trans s4)⟩
        · rintro G2 ⟨hD, s2⟩
          walk_at "rd"
          refine ⟨(by show 0 ≤ sizeLine; decide), fun e ne => ?_⟩
          refine ⟨_, _, dp_ints (A := []) ((upd_ne (ne_of_none hD ne)).trans hD), dp_ints (A := []) upd_same, shaped_ints [], shaped_ints [], ?_⟩
          rw [eqv_ints]
          exact ⟨_, rfl, rfl, s2.trans (same_upd ne)⟩
      rintro b G2 ⟨rfl, sG2⟩
      refine ite2 (fun z => absurd z (by decide)) (fun _ => ?_)
      exact ⟨_, _, _, rfl, sG.trans (sG'.trans sG2)⟩
    rintro st H2 ⟨x5, x6, x7, rfl, s2⟩
    have S2 := S0.of_same s2
    have o2 : Same (Off a c H) (Off a c H2) := Off.mono s2
    refine ⟨fun st G => ∃ bd : V, st = [some (.ref a), some o, some p, some b, some (.str (wordS (dueI d))), x5, x6, x7, none, some bd, none] ∧ NoV (Off a c G) bd ∧ Same (Off a c H2) (Off a c G) ∧ Src G a c (t + 1), ?_, ?_⟩
    · walk_at "rd"
      refine ⟨(by show 0 ≤ sizeLine; decide), fun q1 nq1 => ?_⟩
      have f1 : Off a c (upd H2 q1 (.lst [])) q1 = some (.lst []) := Off.at_ (S2.na nq1) upd_same
      have y1 : Same H2 (upd H2 q1 (.lst [])) := same_upd nq1
      generalize upd H2 q1 (.lst []) = H3 at f1 y1 ⊢
      have S3 := S2.of_same y1
      walk_at "rd"
      refine ⟨(by show 1 ≤ sizeLine; decide), fun q2 nq2 => ?_⟩
      have f2 : Off a c (upd H3 q2 (.tup [.int 5])) q2 = some (.tup [.int 5]) := Off.at_ (S3.na nq2) upd_same
      have y2 : Same H3 (upd H3 q2 (.tup [.int 5])) := same_upd nq2
      generalize upd H3 q2 (.tup [.int 5]) = H4 at f2 y2 ⊢
      have S4 := S3.of_same y2
      walk_at "rd"
      refine fun q3 nq3 => ?_
      have f3 : Off a c (upd H4 q3 (.dK [])) q3 = some (.dK []) := Off.at_ (S4.na nq3) upd_same
      have y3 : Same H4 (upd H4 q3 (.dK [])) := same_upd nq3
      generalize upd H4 q3 (.dK []) = H5 at f3 y3 ⊢
      have S5 := S4.of_same y3
      refine ⟨(by show 7 ≤ sizeLine; decide), fun q4 nq4 => ?_⟩
      have g4 : upd H5 q4 (.lst [V.non, .bl true, .bl false, .str "5", .ref q1, .ref q2, .ref q3]) q4 = some (.lst [V.non, .bl true, .bl false, .str "5", .ref q1, .ref q2, .ref q3]) := upd_same
      have y4 : Same H5 (upd H5 q4 (.lst [V.non, .bl true, .bl false, .str "5", .ref q1, .ref q2, .ref q3])) := same_upd nq4
      generalize upd H5 q4 (.lst [V.non, .bl true, .bl false, .str "5", .ref q1, .ref q2, .ref q3]) = H6 at g4 y4 ⊢
      have S6 := S5.of_same y4
      have na4 := S5.na nq4
      walk_at "rd"
      refine ⟨a, c, _, q4, _, rfl, S6, by omega, g4, na4.1, na4.2, (by show 0 < 7; decide), (by show 7 < 2 ^ 60; decide), fun x H7 hx S7 O7 => ?_⟩
      have z7 : Same (Off a c H6) (Off a c H7) := Off.oth O7
      have z6 := Off.mono (a := a) (c := c) y4
      have z5 := Off.mono (a := a) (c := c) y3
      have z4 := Off.mono (a := a) (c := c) y2
      have z3 := Off.mono (a := a) (c := c) y1
      refine ⟨x, rfl, ?_, fun _ _ e => z7 _ _ (z6 _ _ (z5 _ _ (z4 _ _ (z3 _ _ e)))), S7⟩
      simp only [List.mem_cons, List.not_mem_nil, or_false] at hx
      rcases hx with rfl | rfl | rfl | rfl | rfl | rfl | rfl
      · exact ⟨_, .non, rfl⟩
      · exact ⟨_, .bl _, rfl⟩
      · exact ⟨_, .bl _, rfl⟩
      · exact ⟨_, .str _, rfl⟩
      · exact ⟨_, .lst (z7 _ _ (z6 _ _ (z5 _ _ (z4 _ _ f1)))), rfl⟩
      · exact ⟨_, .tup (z7 _ _ (z6 _ _ (z5 _ _ f2))), rfl⟩
      · exact ⟨_, .dk (z7 _ _ (z6 _ _ f3)), rfl⟩
    rintro st H3 ⟨bd, rfl, nv, o3, S3⟩
    have o23 : Same (Off a c H) (Off a c H3) := fun _ _ e => o3 _ _ (o2 _ _ e)
    obtain ⟨wI, ewI⟩ : ∃ wI : Option Nat, wI = if d then some 3 else some 0 := ⟨_, rfl⟩
    have U : ∀ {G : Hp}, Same H3 G → Same (Off a c H) G := fun e _ _ h => e _ _ (Off.un (o23 _ _ h))
    have V3 : ∀ {G : Hp}, Same H3 G → Same (Off a c H3) G := fun e _ _ h => e _ _ (Off.un h)
    have asB : ∀ {G : Hp}, Same H3 G → AskW K G 1 b p bd (.int 5) (.int 5) wI ∧ AskW K G 1 p b bd (.int 5) (.int 5) wI ∧ AskW K G 1 o p bd (.int 5) (.int 5) (some 3) := fun {G} e => by
      obtain ⟨n, tn, ni⟩ := nv
      have tn' := tn.same (V3 e)
      refine ⟨?_, ?_, .s2 (go.same (U e)) (gp.same (U e)) tn' ni⟩
      · rcases hd with ⟨rfl, g⟩ | ⟨rfl, g⟩
        · rw [ewI]; exact .s2 (g.same (U e)) (gp.same (U e)) tn' ni
        · rw [ewI]; exact .s0 (g.same (U e))
      · rcases hd with ⟨rfl, g⟩ | ⟨rfl, g⟩
        · rw [ewI]; exact .s2 (gp.same (U e)) (g.same (U e)) tn' ni
        · rw [ewI]; exact .s1 (gp.same (U e)) (g.same (U e))
    refine ⟨fun st G => st = [some (.ref a), some o, some p, some b, some (.str (wordS (dueI d))), x5, x6, some (.str (wordS wI)), none, some bd, none] ∧ Same H3 G, ?_, ?_⟩
    · walk_at "rd"
      refine ⟨(by show 2 ≤ sizeLine; decide), fun l1 nl1 => ?_⟩
      have g1 : upd H3 l1 (.lst [.str "side", .str "value"]) l1 = some (.lst [.str "side", .str "value"]) := upd_same
      have y1 : Same H3 (upd H3 l1 (.lst [.str "side", .str "value"])) := same_upd nl1
      generalize upd H3 l1 (.lst [.str "side", .str "value"]) = H4 at g1 y1 ⊢
      walk_at "rd"
      refine ⟨rfl, ?_⟩
      walk_at "rd"
      have e5 : decide (V.str (wordS (dueI d)) = V.str "good") = d := by cases d <;> decide +kernel
      refine .inr ⟨_, rfl, ?_⟩
      rw [e5]
      refine ⟨l1, _, _, .str (wordS wI), rfl, rfl, SqL.of g1, by rw [ewI]; cases d <;> rfl, ?_⟩
      exact ⟨rfl, y1⟩
    rintro st H4 ⟨rfl, s4⟩
    refine ⟨fun st G => ∃ wl : Addr, st = [some (.ref a), some o, some p, some b, some (.str (wordS (dueI d))), x5, x6, some (.str (wordS wI)), none, some bd, some (.ref wl)] ∧ Same H4 G ∧ G wl = some (.lst [.str (wordS wI), .str (wordS wI)]), ?_, ?_⟩
    · walk_at "rd"
      refine ⟨(by show 5 ≤ sizeLine; decide), fun p1 np1 => ?_⟩
      have gp1 : upd H4 p1 (.lst [b, p, bd, .int 5, .int 5]) p1 = some (.lst [b, p, bd, .int 5, .int 5]) := upd_same
      have sp1 : Same H4 (upd H4 p1 (.lst [b, p, bd, .int 5, .int 5])) := same_upd np1
      generalize upd H4 p1 (.lst [b, p, bd, .int 5, .int 5]) = H5 at gp1 sp1 ⊢
      refine ⟨1, p1, _, _, _, _, _, wI, rfl, gp1, (asB (s4.trans sp1)).1, fun H6 s6 => ?_⟩
      walk_at "rd"
      refine ⟨(by show 5 ≤ sizeLine; decide), fun p2 np2 => ?_⟩
      have gp2 : upd H6 p2 (.lst [p, b, bd, .int 5, .int 5]) p2 = some (.lst [p, b, bd, .int 5, .int 5]) := upd_same
      have sp2 : Same H6 (upd H6 p2 (.lst [p, b, bd, .int 5, .int 5])) := same_upd np2
      generalize upd H6 p2 (.lst [p, b, bd, .int 5, .int 5]) = H7 at gp2 sp2 ⊢
      refine ⟨1, p2, _, _, _, _, _, wI, rfl, gp2, (asB (s4.trans (sp1.trans (s6.trans sp2)))).2.1, fun H8 s8 => ?_⟩
      refine ⟨(by show 2 ≤ sizeLine; decide), fun wl nwl => ?_⟩
      exact ⟨wl, rfl, sp1.trans (s6.trans (sp2.trans (s8.trans (same_upd nwl)))), upd_same⟩
    rintro st H5 ⟨wl, rfl, s5, hwl⟩
    walk_at "rd"
    refine ⟨(by show 5 ≤ sizeLine; decide), fun p1 np1 => ?_⟩
    have gp1 : upd H5 p1 (.lst [o, p, bd, .int 5, .int 5]) p1 = some (.lst [o, p, bd, .int 5, .int 5]) := upd_same
    have sp1 : Same H5 (upd H5 p1 (.lst [o, p, bd, .int 5, .int 5])) := same_upd np1
    generalize upd H5 p1 (.lst [o, p, bd, .int 5, .int 5]) = H6 at gp1 sp1 ⊢
    refine ⟨1, p1, _, _, _, _, _, some 3, rfl, gp1, (asB (s4.trans (s5.trans sp1))).2.2, fun H7 s7 => ?_⟩
    walk_at "rd"
    refine ⟨rfl, ?_⟩
    refine ⟨_, rfl, ?_⟩
    refine ite2 (fun _ => ?_) (fun z => absurd (decide_eq_true rfl) z)
    walk_at "rd"
    refine ⟨(by show 1 ≤ sizeLine; decide), fun u1 nu1 => ?_⟩
    have gu1 : upd H7 u1 (.lst [.str (wordS wI)]) u1 = some (.lst [.str (wordS wI)]) := upd_same
    have su1 : Same H7 (upd H7 u1 (.lst [.str (wordS wI)])) := same_upd nu1
    generalize upd H7 u1 (.lst [.str (wordS wI)]) = H8 at gu1 su1 ⊢
    walk_at "rd"
    refine ⟨u1, _, _, rfl, rfl, gu1, by decide, by decide, (by show 1 * 2 ≤ sizeLine; decide), fun u2 nu2 => ?_⟩
    have gu2 : upd H8 u2 (.lst [.str (wordS wI), .str (wordS wI)]) u2 = some (.lst [.str (wordS wI), .str (wordS wI)]) := upd_same
    have su2 : Same H8 (upd H8 u2 (.lst [.str (wordS wI), .str (wordS wI)])) := same_upd nu2
    change rEqD _ _ _ (upd H8 u2 (.lst [.str (wordS wI), .str (wordS wI)])) _
    generalize upd H8 u2 (.lst [.str (wordS wI), .str (wordS wI)]) = H9 at gu2 su2 ⊢
    have dps : ∀ {G : Hp} {q1 : Addr}, G q1 = some (.lst [.str (wordS wI), .str (wordS wI)]) → Dp K G (.ref q1) (.list [.str (wordS wI), .str (wordS wI)]) := fun h => .lst (SqL.of h) (.cons (.str _) (.cons (.str _) .nil))
    have sh : SeqAt.shaped (.list [.str (wordS wI), .str (wordS wI)]) = true := by rw [ewI]; cases d <;> decide +kernel
    have ev : PyData.eqv (.list [.str (wordS wI), .str (wordS wI)]) (.list [.str (wordS wI), .str (wordS wI)]) = true := by rw [ewI]; cases d <;> decide +kernel
    have s59 := sp1.trans (s7.trans (su1.trans su2))
    refine ⟨_, _, dps (s59 _ _ hwl), dps gu2, sh, sh, ?_⟩
    rw [ev]
    have S9 := S3.of_same (s4.trans (s5.trans s59))
    exact q _ _ (by omega) S9 (fun c' u e n1 n2 => s59 _ _ (s5 _ _ (s4 _ _ (Off.un (o23 _ _ (Off.at_ ⟨n1, n2⟩ e))))))
end
end HT
namespace HT
open PySem L2
theorem len_subN : ∀ {a b : List Int}, a.Pairwise (· ≠ ·) → (∀ x, x ∈ a → x ∈ b) → a.length ≤ b.length
  | [], _, _, _ => Nat.zero_le _
  | x :: a, b, ha, h => by
    obtain ⟨a1, a2⟩ := List.pairwise_cons.mp ha
    have hx := h x List.mem_cons_self
    have e := List.length_erase_of_mem hx
    have p := List.length_pos_of_mem hx
    have ih := len_subN (a := a) (b := b.erase x) a2 fun y hy => (List.mem_erase_of_ne (a1 y hy).symm).mpr (h y (List.mem_cons_of_mem _ hy))
    rw [List.length_cons]
    omega
/-- different remainders are at most as many as the period is long -/
theorem pig {r : Nat → Int} {P i : Nat} (h : ∀ j, j ≤ i → 0 ≤ r j ∧ r j < (P : Int)) (d : ∀ a b, a < b → b ≤ i → r a ≠ r b) : i + 1 ≤ P := by
  have := len_subN (a := (List.range (i + 1)).map r) (b := (List.range P).map fun n : Nat => (n : Int)) ?_ ?_
  · rw [List.length_map, List.length_map, List.length_range, List.length_range] at this
    exact this
  · rw [List.pairwise_map]
    refine (List.pairwise_lt_range (n := i + 1)).imp_of_mem fun {a b} ha hb ab => ?_
    exact d a b ab (by have := List.mem_range.mp hb; omega)
  · intro x hx
    obtain ⟨j, hj, rfl⟩ := List.mem_map.mp hx
    obtain ⟨r0, r1⟩ := h j (by have := List.mem_range.mp hj; omega)
    exact List.mem_map.mpr ⟨(r j).toNat, List.mem_range.mpr (by omega), by omega⟩
theorem rec_of {ss : List Sd} (hs : ∀ d ∈ ss, SideP d.o d.s d.m) (h : comN ss ≤ 10000) (v : Int) : Rec ss v := by
  have cp := com_pos ss 1 (by decide) hs
  have cp2 : 0 < ((comN ss : Nat) : Int) := by
    show 0 < ((ss.foldl (fun n d => n.lcm (perN d)) 1 : Nat) : Int)
    omega
  refine Classical.byContradiction fun no => ?_
  have := pig (r := fun k => it (hiL ss) k v % ((comN ss : Nat) : Int)) (P := comN ss) (i := comN ss) (fun j _ => ⟨Int.emod_nonneg _ (by omega), Int.emod_lt_of_pos _ cp2⟩) (fun a b ab hb e => no ⟨a, b, ab, by omega, e⟩)
  omega
end HT
namespace HT
open PySem L2
theorem dp_strs {K : PySem.W.Frag} {H : Hp} {p : Addr} {A : List Str} (h : H p = some (.lst (A.map V.str))) : Dp K H (.ref p) (.list (A.map PyData.str)) := by
  have key : ∀ A : List Str, DpAll K H (A.map V.str) (A.map PyData.str) := fun A => by
    induction A with
    | nil => exact .nil
    | cons a A ih => exact .cons (.str _) ih
  exact .lst (SqL.of h) (key A)
theorem sh3 : SeqAt.shaped (.list ((["sides", "sides", "sides"] : List Str).map PyData.str)) = true := by decide +kernel
theorem sh3v : SeqAt.shaped (.list ((["value", "value", "value"] : List Str).map PyData.str)) = true := by decide +kernel
theorem sh3s : SeqAt.shaped (.list ((["value", "value", "side"] : List Str).map PyData.str)) = true := by decide +kernel
theorem ev3 : (!PyData.eqv (.list ((["sides", "sides", "sides"] : List Str).map PyData.str)) (.list ((["sides", "sides", "sides"] : List Str).map PyData.str))) = false := by decide +kernel
theorem ev3v : (!PyData.eqv (.list ((["value", "value", "value"] : List Str).map PyData.str)) (.list ((["value", "value", "value"] : List Str).map PyData.str))) = false := by decide +kernel
theorem ev3s : (!PyData.eqv (.list ((["value", "value", "side"] : List Str).map PyData.str)) (.list ((["value", "value", "side"] : List Str).map PyData.str))) = false := by decide +kernel
/-- the small side at hand -/
structure Small (H : Hp) (sm : Addr) (d : Sd) : Prop where
  at_ : H sm = some (sideV d.o d.s d.m)
  sd : SideP d.o d.s d.m
  per : perM d.s d.m ≤ 18
theorem Small.same {H H' : Hp} {sm : Addr} {d : Sd} (S : Small H sm d) (e : Same H H') : Small H' sm d := ⟨e _ _ S.at_, S.sd, S.per⟩
theorem Small.one {H : Hp} {sm L : Addr} {d : Sd} (S : Small H sm d) (h : H L = some (.lst [.ref sm])) : SidesAt H L [.ref sm] [d] := sidesAt1 h S.at_ S.sd
theorem Small.good {H : Hp} {sm : Addr} {d : Sd} (S : Small H sm d) : GoodS H (.ref sm) := ⟨sm, d.o, d.s, d.m, rfl, S.at_, S.sd⟩
theorem bad2 {K : PySem.W.Frag} {H : Hp} {sm L : Addr} {d : Sd} {y : V} (S : Small H sm d) (h : H L = some (.lst [.ref sm, y])) (b : BadS K H y) : BadL K H (.ref L) :=
  .item (i := 1) h (by show 1 ≤ 2; decide) (by show 2 ≤ 4; decide) rfl b fun j z hj hz => by
    obtain rfl : j = 0 := by omega
    cases hz
    exact S.good
theorem bad1 {K : PySem.W.Frag} {H : Hp} {L : Addr} {y : V} (h : H L = some (.lst [y])) (b : BadS K H y) : BadL K H (.ref L) :=
  .item (i := 0) h (by show 1 ≤ 1; decide) (by show 1 ≤ 4; decide) rfl b fun j z hj _ => absurd hj (Nat.not_lt_zero _)
theorem comN_one {d : Sd} (S : SideP d.o d.s d.m) : ((comN [d] : Nat) : Int) = perM d.s d.m := by
  have e : comN [d] = perN d := by
    show Nat.lcm 1 (perN d) = perN d
    exact Nat.lcm_one_left _
  rw [e]
  have := perM_bd S
  exact Int.toNat_of_nonneg (by omega)
theorem Small.recs {H : Hp} {sm : Addr} {d : Sd} (S : Small H sm d) : Rec [d] 5 ∧ Rec ([d].map mirD) (-5) := by
  have h1 : ∀ e ∈ [d], SideP e.o e.s e.m := fun e he => by rw [List.mem_singleton.mp he]; exact S.sd
  have h2 : ∀ e ∈ [d].map mirD, SideP e.o e.s e.m := fun e he => by
    obtain ⟨e', he', rfl⟩ := List.mem_map.mp he
    exact side_mir (h1 e' he')
  refine ⟨rec_of h1 ?_ _, rec_of h2 ?_ _⟩
  · have := comN_one S.sd
    have := S.per
    omega
  · have := comN_one (h2 (mirD d) (by simp))
    have e : perM (mirD d).s (mirD d).m = perM d.s d.m := by
      show perM d.s (mir d.m) = perM d.s d.m
      rcases S.sd.md with h | h | h | h | h <;> (rw [h]; rfl)
    have := S.per
    show comN [mirD d] ≤ 10000
    omega

def spLists (K : PySem.W.Frag) : Sp := fun vs H Q _ => ∃ (aS p : Addr) (o s : Int) (m : Str) (b : V), vs = [.ref aS, .ref p, b] ∧ H p = some (sideV o s m) ∧ SideP o s m ∧ SiQ K H b ∧ ∀ H', Same H H' → Q (.bl true) H'
section
variable {P : Program} {w : World} {K : PySem.W.Frag} {mg : Str → Option Value} {base : Heap} {f1 f2 f3 f4 B' : Addr} {d1 d2 d3 d4 : FuncData} {C : Nat → Addr}
theorem ok_lists {f : Addr} {fd : FuncData} (F : Fun K "_law_lists_fit" "_law_lists_fit" s_L_lists_fit f fd) (B : Blt mg) (Wo : Cal P w K mg base "_law_word" 110 ["_law_way", "_law_parts"] (spWord52 K) f1 d1) (Is : Cal P w K mg base "_law_is_side" 4 ["_law_value"] (spIsS K) f2 d2) : FnOk P w K mg base CX0 111 f fd ["_law_source_here", "_law_one", "_law_bent_here"] (spLists K) := by
  refine F.ok sc_L_lists_fit (fun vs H Q E h => ?_) (fun cdv A outer s0 H vs Q E hr h => ?_)
  · obtain ⟨aS, p, o, s, m, b, rfl, _⟩ := h
    rfl
  · obtain ⟨aS, p, o, s, m, b, rfl, hp, S, sb, q⟩ := h
    have nd := sc_L_lists_fit.nd
    refine ⟨_, (pss_cons (ps_mid (ps_set (i := 3) nd rfl (Or.inr rfl) (pe_tup (pa_cons (pe_op op_mod (pe_ix ix_tup (pv 1) pe_int (fun _ _ => rfl)) pe_int) (pa_cons (pe_op op_add pe_int (pe_op op_mod (pe_ix ix_tup (pv 1) pe_int (fun _ _ => rfl)) pe_int)) (pa_cons (pe_ix ix_tup (pv 1) pe_int (fun _ _ => rfl)) pa_nil))))))
      (pss_cons (ps_mid (ps_set (i := 4) nd rfl (Or.inl rfl) (pe_ix ix_list (pe_lst (pa_cons pe_str (pa_cons pe_str pa_nil))) (pe_callTy call_int1 (by rfl) B.int (by decide +kernel) (pa_cons (pe_and (pcl Is hr (by decide) (by rfl) (pa_cons (pv 2) pa_nil)) (pe_one (pe_cmpR (op_eqD hr.units) (pv 2) (pv 1) (nomark _)))) pa_nil)) (fun _ _ => rfl))))
      (pss_cons (ps_mid (ps_for PassesOwn.never rfl (pi_list (pe_lst (pa_cons (pe_lst pa_nil) (pa_cons (pe_op op_rep (pe_lst (pa_cons (pv 3) pa_nil)) pe_int) (pa_cons (pe_tup (pa_cons (pv 3) pa_nil)) (pa_cons (pv 3) (pa_cons pe_non (pa_cons pe_dnewK (pa_cons pe_str (pa_cons (pe_lst (pa_cons (pv 3) (pa_cons pe_non pa_nil))) (pa_cons (pe_lst (pa_cons (pv 3) (pa_cons (pe_lst (pa_cons pe_int (pa_cons pe_int (pa_cons pe_str pa_nil)))) pa_nil))) (pa_cons (pe_lst (pa_cons (pe_lst (pa_cons (pv 3) pa_nil)) pa_nil)) pa_nil)))))))))))) (pg_name (i := 5) nd rfl (Or.inr rfl)) (pss_one (ps_mid (ps_for PassesOwn.never rfl (pi_list (pe_lst (pa_cons pe_int (pa_cons pe_non pa_nil)))) (pg_name (i := 6) nd rfl (Or.inr rfl)) (pss_one (ps_if (pt_mid (pt_cmpR (op_neD hr.units) (pe_lc (own := [("_law_way", 7)]) (g := gName 7) (tt := tYes) rfl nd (pi_list (pe_lst (pa_cons pe_int (pa_cons pe_int (pa_cons pe_int pa_nil))))) (blkOk_by (N := ["_law_source_here", "_law_one", "_law_bent_here", "_law_small", "_law_due", "_law_sides", "_law_value", "_law_way", "_law_bad", "_law_words", "_law_wide"]) (sc := defScope s_L_lists_fit) (by decide +kernel)) (fun _ _ _ _ _ => pg_name (i := 7) nd rfl (Or.inl rfl)) (fun _ _ _ _ _ => pts_nil) (fun _ _ _ _ _ => (pcl Wo hr (by decide) (by rfl) (pa_cons (pv 7) (pa_cons (pe_lst (pa_cons (pv 5) (pa_cons pe_non (pa_cons (pv 6) (pa_cons (pv 6) (pa_cons pe_non pa_nil)))))) pa_nil))))) (pe_op op_rep (pe_lst (pa_cons pe_str pa_nil)) pe_int) (nomark _))) (pss_one (ps_ret pe_bl)) pss_nil)))))))
      (pss_cons (ps_mid (ps_if (pt_mid (PW.pt (pw_and (pt_cmpR op_eq (pv 4) pe_str (nomark _)) (pw_and1 (pt_not (pt_val (pcl Is hr (by decide) (by rfl) (pa_cons (pv 2) pa_nil)))))))) (pss_cons (ps_if (pt_mid (pt_cmpR (op_neD hr.units) (pe_lc (own := [("_law_way", 7)]) (g := gName 7) (tt := tYes) rfl nd (pi_list (pe_lst (pa_cons pe_int (pa_cons pe_int (pa_cons pe_int pa_nil))))) (blkOk_by (N := ["_law_source_here", "_law_one", "_law_bent_here", "_law_small", "_law_due", "_law_sides", "_law_value", "_law_way", "_law_bad", "_law_words", "_law_wide"]) (sc := defScope s_L_lists_fit) (by decide +kernel)) (fun _ _ _ _ _ => pg_name (i := 7) nd rfl (Or.inl rfl)) (fun _ _ _ _ _ => pts_nil) (fun _ _ _ _ _ => (pcl Wo hr (by decide) (by rfl) (pa_cons (pv 7) (pa_cons (pe_lst (pa_cons (pe_lst (pa_cons (pv 3) (pa_cons (pv 2) pa_nil))) (pa_cons (pv 3) (pa_cons pe_int (pa_cons pe_int (pa_cons pe_int pa_nil)))))) pa_nil))))) (pe_op op_rep (pe_lst (pa_cons pe_str pa_nil)) pe_int) (nomark _))) (pss_one (ps_ret pe_bl)) pss_nil)
      (pss_one (ps_if (pt_mid (PW.pt (pw_or (pt_cmpR op_ne (pcl Wo hr (by decide) (by rfl) (pa_cons pe_int (pa_cons (pe_lst (pa_cons (pe_lst (pa_cons (pv 3) pa_nil)) (pa_cons (pv 2) (pa_cons pe_int (pa_cons pe_int (pa_cons pe_int pa_nil)))))) pa_nil))) pe_str (nomark _)) (pw_or1 (pt_cmpR op_ne (pcl Wo hr (by decide) (by rfl) (pa_cons pe_int (pa_cons (pe_lst (pa_cons (pe_op op_rep (pe_lst (pa_cons (pv 3) pa_nil)) pe_int) (pa_cons (pv 2) (pa_cons pe_int (pa_cons pe_int (pa_cons pe_int pa_nil)))))) pa_nil))) pe_str (nomark _)))))) (pss_one (ps_ret pe_bl)) pss_nil))) pss_nil))
      (pss_cons (ps_mid (ps_for PassesOwn.never rfl (pi_list (pe_lst (pa_cons pe_non (pa_cons pe_bl (pa_cons pe_str (pa_cons (pe_lst pa_nil) (pa_cons (pe_tup (pa_cons pe_int pa_nil)) (pa_cons pe_dnewK pa_nil)))))))) (pg_name (i := 8) nd rfl (Or.inl rfl)) (pss_cons (ps_mid (ps_set (i := 9) nd rfl (Or.inl rfl) (pe_lst (pa_cons (pcl Wo hr (by decide) (by rfl) (pa_cons pe_int (pa_cons (pe_lst (pa_cons (pe_lst (pa_cons (pv 3) pa_nil)) (pa_cons pe_int (pa_cons (pv 8) (pa_cons pe_int (pa_cons pe_non pa_nil)))))) pa_nil))) (pa_cons (pcl Wo hr (by decide) (by rfl) (pa_cons pe_int (pa_cons (pe_lst (pa_cons (pe_lst (pa_cons (pv 3) pa_nil)) (pa_cons pe_int (pa_cons (pv 8) (pa_cons pe_int (pa_cons pe_int pa_nil)))))) pa_nil))) pa_nil)))))
      (pss_cons (ps_if (pt_mid (pt_cmpR (op_neD hr.units) (pe_op op_cat (pv 9) (pe_lst (pa_cons (pcl Wo hr (by decide) (by rfl) (pa_cons pe_int (pa_cons (pe_lst (pa_cons (pe_lst (pa_cons (pv 3) pa_nil)) (pa_cons pe_int (pa_cons pe_int (pa_cons (pv 8) (pa_cons pe_int pa_nil)))))) pa_nil))) pa_nil))) (pe_op op_rep (pe_lst (pa_cons pe_str pa_nil)) pe_int) (nomark _))) (pss_one (ps_ret pe_bl)) pss_nil)
      (pss_cons (ps_mid (ps_set (i := 10) nd rfl (Or.inl rfl) (pe_lst (pa_cons (pe_tup (pa_cons pe_int (pa_cons (pe_op op_add pe_int (pe_op op_mod (pe_ix ix_tup (pv 1) pe_int (fun _ _ => rfl)) (pe_op op_pow pe_int pe_int))) (pa_cons pe_str pa_nil)))) pa_nil))))
      (pss_cons (ps_mid (ps_set (i := 9) nd rfl (Or.inl rfl) (pe_lst (pa_cons (pcl Wo hr (by decide) (by rfl) (pa_cons pe_int (pa_cons (pe_lst (pa_cons (pv 10) (pa_cons pe_int (pa_cons (pv 8) (pa_cons pe_int (pa_cons pe_int pa_nil)))))) pa_nil))) (pa_cons (pcl Wo hr (by decide) (by rfl) (pa_cons pe_int (pa_cons (pe_lst (pa_cons (pv 10) (pa_cons pe_int (pa_cons pe_int (pa_cons (pv 8) (pa_cons pe_int pa_nil)))))) pa_nil))) pa_nil)))))
      (pss_one (ps_if (pt_mid (pt_cmpR (op_neD hr.units) (pe_op op_cat (pv 9) (pe_lst (pa_cons (pcl Wo hr (by decide) (by rfl) (pa_cons pe_int (pa_cons (pe_lst (pa_cons (pv 10) (pa_cons (pv 8) (pa_cons pe_int (pa_cons pe_int (pa_cons pe_int pa_nil)))))) pa_nil))) pa_nil))) (pe_lst (pa_cons pe_str (pa_cons pe_str (pa_cons pe_str pa_nil)))) (nomark _))) (pss_one (ps_ret pe_bl)) pss_nil))))))))
      (pss_cons (ps_mid (ps_for PassesOwn.never rfl (pi_list (pe_lst (pa_cons pe_non (pa_cons pe_bl (pa_cons pe_bl (pa_cons (pe_un un_neg pe_int) (pa_cons pe_str (pa_cons (pe_op op_add (pe_op op_pow pe_int pe_int) pe_int) (pa_cons (pe_lst pa_nil) (pa_cons (pe_tup (pa_cons pe_int pa_nil)) pa_nil)))))))))) (pg_name (i := 8) nd rfl (Or.inl rfl)) (pss_one (ps_if (pt_mid (pt_cmpR op_ne (pcl Wo hr (by decide) (by rfl) (pa_cons pe_int (pa_cons (pe_lst (pa_cons (pe_lst (pa_cons (pv 3) pa_nil)) (pa_cons pe_int (pa_cons pe_int (pa_cons pe_int (pa_cons (pv 8) pa_nil)))))) pa_nil))) pe_str (nomark _))) (pss_one (ps_ret pe_bl)) pss_nil))))
      (pss_one (ps_ret (pe_and (pe_cmpR op_eq (pcl Wo hr (by decide) (by rfl) (pa_cons pe_int (pa_cons (pe_lst (pa_cons (pe_lst (pa_cons (pv 3) pa_nil)) (pa_cons pe_int (pa_cons pe_int (pa_cons pe_int (pa_cons pe_int pa_nil)))))) pa_nil))) pe_str (nomark _)) (pe_one (pe_cmpR op_eq (pcl Wo hr (by decide) (by rfl) (pa_cons pe_int (pa_cons (pe_lst (pa_cons (pe_lst (pa_cons (pv 3) pa_nil)) (pa_cons pe_int (pa_cons pe_int (pa_cons pe_int (pa_cons (pe_op op_pow pe_int pe_int) pa_nil)))))) pa_nil))) pe_str (nomark _)))))))))))), ?_⟩
    obtain ⟨d, hd⟩ : ∃ d : Bool, (d = true ∧ GoodS H b) ∨ (d = false ∧ BadS K H b) := sb.elim (fun g => ⟨true, .inl ⟨rfl, g⟩⟩) fun g => ⟨false, .inr ⟨rfl, g⟩⟩
    refine ⟨fun st G => ∃ (sm : Addr) (e : Sd), st = [some (.ref aS), some (.ref p), some b, some (.ref sm), none, none, none, none, none, none, none] ∧ Same H G ∧ Small G sm e, ?_, ?_⟩
    · walk_at "rd"
      refine ⟨p, _, 0, _, rfl, rfl, SqT.of hp, rfl, ?_⟩
      walk_at "rd"
      refine ⟨(by show (0 : Int) < 9; decide), ?_⟩
      walk_at "rd"
      refine ⟨p, _, 1, _, rfl, rfl, SqT.of hp, rfl, ?_⟩
      walk_at "rd"
      refine ⟨(by show (0 : Int) < 9; decide), ?_⟩
      walk_at "rd"
      refine ⟨p, _, 2, _, rfl, rfl, SqT.of hp, rfl, ?_⟩
      refine ⟨(by show 3 ≤ sizeLine; decide), fun sm nsm => ?_⟩
      generalize e_1 : upd H sm _ = H1
      have g1 : H1 sm = some (sideV (o % 9) (1 + s % 9) m) := by
        rw [← e_1, upd_same]
        rfl
      have s1 : Same H H1 := by rw [← e_1]; exact same_upd nsm
      clear e_1
      have s0' := S.s0
      refine ⟨sm, ⟨o % 9, 1 + s % 9, m⟩, rfl, s1, g1, ⟨by simp only; omega, by simp only; omega, by simp only; omega, by simp only; omega, S.md⟩, ?_⟩
      show perM (1 + s % 9) m ≤ 18
      unfold perM
      split <;> omega
    rintro st H1 ⟨sm, e, rfl, s1, SM⟩
    refine ⟨fun st G => ∃ du : Str, st = [some (.ref aS), some (.ref p), some b, some (.ref sm), some (.str du), none, none, none, none, none, none] ∧ Same H1 G ∧ (d = false → du = "sides"), ?_, ?_⟩
    · walk_at "rd"
      refine ⟨(by show 2 ≤ sizeLine; decide), fun l1 nl1 => ?_⟩
      have g1 : upd H1 l1 (.lst [.str "sides", .str "good"]) l1 = some (.lst [.str "sides", .str "good"]) := upd_same
      have y1 : Same H1 (upd H1 l1 (.lst [.str "sides", .str "good"])) := same_upd nl1
      generalize upd H1 l1 (.lst [.str "sides", .str "good"]) = H2 at g1 y1 ⊢
      have s2 := s1.trans y1
      walk_at "rd"
      rcases hd with ⟨rfl, g⟩ | ⟨rfl, g⟩
      · refine .inl ⟨g.same s2, fun H3 s3 => ?_⟩
        refine ⟨_, rfl, ?_⟩
        refine ite2 (fun _ => ?_) (fun z => absurd rfl z)
        walk_at "rd"
        obtain ⟨q1, o1, t1, m1, rfl, hq, S1⟩ := g
        refine ⟨_, _, .tup (SqT.of (s3 _ _ (s2 _ _ hq))) (.cons (.int _) (.cons (.int _) (.cons (.str _) .nil))), .tup (SqT.of (s3 _ _ (s2 _ _ hp))) (.cons (.int _) (.cons (.int _) (.cons (.str _) .nil))), (nomode_side S1.md).1, (nomode_side S.md).1, ?_⟩
        generalize PyData.eqv _ _ = ev
        refine .inr ⟨ev, rfl, ?_⟩
        refine ⟨l1, _, _, .str (if ev = true then "good" else "sides"), rfl, rfl, SqL.of (s3 _ _ g1), by cases ev <;> rfl, ?_⟩
        exact ⟨_, rfl, y1.trans s3, fun z => by cases z⟩
      · refine .inr ⟨g.same s2, fun H3 s3 => ?_⟩
        refine ⟨_, rfl, ?_⟩
        refine ite2 (fun z => absurd z (by decide)) (fun _ => ?_)
        walk_at "rd"
        refine .inr ⟨false, rfl, ?_⟩
        refine ⟨l1, _, _, _, rfl, rfl, SqL.of (s3 _ _ g1), rfl, ?_⟩
        exact ⟨_, rfl, y1.trans s3, fun _ => rfl⟩
    rintro st H2 ⟨du, rfl, s2, hdu⟩
    replace SM := SM.same s2
    have s12 := s1.trans s2
    clear s1 s2
    refine ⟨fun st G => ∃ x5 x6 : Option V, st = [some (.ref aS), some (.ref p), some b, some (.ref sm), some (.str du), x5, x6, none, none, none, none] ∧ Same H2 G, ?_, ?_⟩
    · walk_at "rd"
      refine ⟨(by show 0 ≤ sizeLine; decide), fun b1 nb1 => ?_⟩
      have gb1 : upd H2 b1 (.lst []) b1 = some (.lst []) := upd_same
      have sb1 : Same H2 (upd H2 b1 (.lst [])) := same_upd nb1
      generalize upd H2 b1 (.lst []) = Hb1 at gb1 sb1 ⊢
      walk_at "rd"
      refine ⟨(by show 1 ≤ sizeLine; decide), fun b2 nb2 => ?_⟩
      have gb2 : upd Hb1 b2 (.lst [.ref sm]) b2 = some (.lst [.ref sm]) := upd_same
      have sb2 : Same Hb1 (upd Hb1 b2 (.lst [.ref sm])) := same_upd nb2
      generalize upd Hb1 b2 (.lst [.ref sm]) = Hb2 at gb2 sb2 ⊢
      walk_at "rd"
      refine ⟨b2, _, _, rfl, rfl, gb2, by decide, by decide, (by show 1 * 5 ≤ sizeLine; decide), fun b3 nb3 => ?_⟩
      have gb3 : upd Hb2 b3 (.lst (List.replicate (Int.toNat 5) [V.ref sm]).flatten) b3 = some (.lst [V.ref sm, .ref sm, .ref sm, .ref sm, .ref sm]) := upd_same
      have sb3 : Same Hb2 (upd Hb2 b3 (.lst (List.replicate (Int.toNat 5) [V.ref sm]).flatten)) := same_upd nb3
      generalize upd Hb2 b3 (.lst (List.replicate (Int.toNat 5) [V.ref sm]).flatten) = Hb3 at gb3 sb3 ⊢
      walk_at "rd"
      refine ⟨(by show 1 ≤ sizeLine; decide), fun b4 nb4 => ?_⟩
      have gb4 : upd Hb3 b4 (.tup [V.ref sm]) b4 = some (.tup [V.ref sm]) := upd_same
      have sb4 : Same Hb3 (upd Hb3 b4 (.tup [V.ref sm])) := same_upd nb4
      generalize upd Hb3 b4 (.tup [V.ref sm]) = Hb4 at gb4 sb4 ⊢
      walk_at "rd"
      refine fun b5 nb5 => ?_
      have gb5 : upd Hb4 b5 (.dK []) b5 = some (.dK []) := upd_same
      have sb5 : Same Hb4 (upd Hb4 b5 (.dK [])) := same_upd nb5
      generalize upd Hb4 b5 (.dK []) = Hb5 at gb5 sb5 ⊢
      walk_at "rd"
      refine ⟨(by show 2 ≤ sizeLine; decide), fun b6 nb6 => ?_⟩
      have gb6 : upd Hb5 b6 (.lst [V.ref sm, .non]) b6 = some (.lst [V.ref sm, .non]) := upd_same
      have sb6 : Same Hb5 (upd Hb5 b6 (.lst [V.ref sm, .non])) := same_upd nb6
      generalize upd Hb5 b6 (.lst [V.ref sm, .non]) = Hb6 at gb6 sb6 ⊢
      walk_at "rd"
      refine ⟨(by show 3 ≤ sizeLine; decide), fun b7 nb7 => ?_⟩
      have gb7 : upd Hb6 b7 (.lst [V.int 0, .int 5, .str "up"]) b7 = some (.lst [V.int 0, .int 5, .str "up"]) := upd_same
      have sb7 : Same Hb6 (upd Hb6 b7 (.lst [V.int 0, .int 5, .str "up"])) := same_upd nb7
      generalize upd Hb6 b7 (.lst [V.int 0, .int 5, .str "up"]) = Hb7 at gb7 sb7 ⊢
      walk_at "rd"
      refine ⟨(by show 2 ≤ sizeLine; decide), fun b8 nb8 => ?_⟩
      have gb8 : upd Hb7 b8 (.lst [V.ref sm, .ref b7]) b8 = some (.lst [V.ref sm, .ref b7]) := upd_same
      have sb8 : Same Hb7 (upd Hb7 b8 (.lst [V.ref sm, .ref b7])) := same_upd nb8
      generalize upd Hb7 b8 (.lst [V.ref sm, .ref b7]) = Hb8 at gb8 sb8 ⊢
      walk_at "rd"
      refine ⟨(by show 1 ≤ sizeLine; decide), fun b9 nb9 => ?_⟩
      have gb9 : upd Hb8 b9 (.lst [V.ref sm]) b9 = some (.lst [V.ref sm]) := upd_same
      have sb9 : Same Hb8 (upd Hb8 b9 (.lst [V.ref sm])) := same_upd nb9
      generalize upd Hb8 b9 (.lst [V.ref sm]) = Hb9 at gb9 sb9 ⊢
      walk_at "rd"
      refine ⟨(by show 1 ≤ sizeLine; decide), fun b10 nb10 => ?_⟩
      have gb10 : upd Hb9 b10 (.lst [V.ref b9]) b10 = some (.lst [V.ref b9]) := upd_same
      have sb10 : Same Hb9 (upd Hb9 b10 (.lst [V.ref b9])) := same_upd nb10
      generalize upd Hb9 b10 (.lst [V.ref b9]) = Hb10 at gb10 sb10 ⊢
      walk_at "rd"
      refine ⟨(by show 10 ≤ sizeLine; decide), fun b11 nb11 => ?_⟩
      have gb11 : upd Hb10 b11 (.lst [V.ref b1, .ref b3, .ref b4, .ref sm, .non, .ref b5, .str "sides", .ref b6, .ref b8, .ref b10]) b11 = some (.lst [V.ref b1, .ref b3, .ref b4, .ref sm, .non, .ref b5, .str "sides", .ref b6, .ref b8, .ref b10]) := upd_same
      have sb11 : Same Hb10 (upd Hb10 b11 (.lst [V.ref b1, .ref b3, .ref b4, .ref sm, .non, .ref b5, .str "sides", .ref b6, .ref b8, .ref b10])) := same_upd nb11
      generalize upd Hb10 b11 (.lst [V.ref b1, .ref b3, .ref b4, .ref sm, .non, .ref b5, .str "sides", .ref b6, .ref b8, .ref b10]) = Hb11 at gb11 sb11 ⊢
      have SMz := SM.same (sb1.trans (sb2.trans (sb3.trans (sb4.trans (sb5.trans (sb6.trans (sb7.trans (sb8.trans (sb9.trans (sb10.trans sb11))))))))))
      have sAll : Same H2 Hb11 := (sb1.trans (sb2.trans (sb3.trans (sb4.trans (sb5.trans (sb6.trans (sb7.trans (sb8.trans (sb9.trans (sb10.trans sb11))))))))))
      have bad : ∀ x ∈ [V.ref b1, .ref b3, .ref b4, .ref sm, .non, .ref b5, .str "sides", .ref b6, .ref b8, .ref b10], BadL K Hb11 x := fun x hx => by
        simp only [List.mem_cons, List.not_mem_nil, or_false] at hx
        rcases hx with rfl | rfl | rfl | rfl | rfl | rfl | rfl | rfl | rfl | rfl
        · exact .len (sb11 _ _ (sb10 _ _ (sb9 _ _ (sb8 _ _ (sb7 _ _ (sb6 _ _ (sb5 _ _ (sb4 _ _ (sb3 _ _ (sb2 _ _ gb1)))))))))) (by simp)
        · exact .len (sb11 _ _ (sb10 _ _ (sb9 _ _ (sb8 _ _ (sb7 _ _ (sb6 _ _ (sb5 _ _ (sb4 _ _ gb3)))))))) (by simp)
        · exact .kind (.tup (sb11 _ _ (sb10 _ _ (sb9 _ _ (sb8 _ _ (sb7 _ _ (sb6 _ _ (sb5 _ _ gb4)))))))) rfl
        · exact .kind (.tup SMz.at_) rfl
        · exact .kind .non rfl
        · exact .kind (.dk (sb11 _ _ (sb10 _ _ (sb9 _ _ (sb8 _ _ (sb7 _ _ (sb6 _ _ gb5))))))) rfl
        · exact .kind (.str _) rfl
        · exact bad2 SMz (sb11 _ _ (sb10 _ _ (sb9 _ _ (sb8 _ _ (sb7 _ _ gb6))))) (.kind .non rfl)
        · exact bad2 SMz (sb11 _ _ (sb10 _ _ (sb9 _ _ gb8))) (.kind (.lst (sb11 _ _ (sb10 _ _ (sb9 _ _ (sb8 _ _ gb7))))) rfl)
        · exact bad1 (sb11 _ _ gb10) (.kind (.lst (sb11 _ _ (sb10 _ _ gb9))) rfl)
      have lX : ([V.ref b1, .ref b3, .ref b4, .ref sm, .non, .ref b5, .str "sides", .ref b6, .ref b8, .ref b10]).length = 10 := rfl
      generalize [V.ref b1, .ref b3, .ref b4, .ref sm, .non, .ref b5, .str "sides", .ref b6, .ref b8, .ref b10] = xs at bad gb11 lX
      walk_at "rd"
      refine ⟨⟨_, SqL.of gb11⟩, ?_⟩
      refine for_list (K := K) (a := b11) (xs := xs) (fun i st G => ∃ x5 x6 : Option V, st = [some (.ref aS), some (.ref p), some b, some (.ref sm), some (.str du), x5, x6, none, none, none, none] ∧ Same Hb11 G) ⟨none, none, rfl, Same.refl _⟩ (fun _ _ _ _ ⟨_, _, _, s⟩ => SqL.of (s _ _ gb11)) ?_ (fun st G ⟨x5, x6, e, s⟩ => ⟨x5, x6, e, sAll.trans s⟩)
      rintro i y st G hy ⟨x5, x6, rfl, sG⟩
      have by_ := (bad y (List.mem_of_getElem? hy)).same sG
      refine ⟨fun st G' => ∃ x6 : Option V, st = [some (.ref aS), some (.ref p), some b, some (.ref sm), some (.str du), some y, x6, none, none, none, none] ∧ Same G G', ?_, fun st G' ⟨x6, e, s⟩ => ⟨_, x6, e, sG.trans s⟩⟩
      walk_at "rd"
      refine ⟨(by show 2 ≤ sizeLine; decide), fun v1 nv1 => ?_⟩
      have gv1 : upd G v1 (.lst [V.int 5, .non]) v1 = some (.lst [V.int 5, .non]) := upd_same
      have sv1 : Same G (upd G v1 (.lst [V.int 5, .non])) := same_upd nv1
      generalize upd G v1 (.lst [V.int 5, .non]) = Hv1 at gv1 sv1 ⊢
      walk_at "rd"
      refine ⟨⟨_, SqL.of gv1⟩, ?_⟩
      refine for_list (K := K) (a := v1) (xs := [V.int 5, .non]) (fun i st G' => ∃ x6 : Option V, st = [some (.ref aS), some (.ref p), some b, some (.ref sm), some (.str du), some y, x6, none, none, none, none] ∧ Same Hv1 G') ⟨x6, rfl, Same.refl _⟩ (fun _ _ _ _ ⟨_, _, s⟩ => SqL.of (s _ _ gv1)) ?_ (fun st G ⟨x6, e, s⟩ => ⟨x6, e, sv1.trans s⟩)
      rintro j v st G1 _ ⟨x6, rfl, s1⟩
      walk_at "rd"
      refine ⟨fun b G3 => b = false ∧ Same G1 G3, ?_, ?_⟩
      · skip
        walk_at "rd"
        refine ⟨(by show 3 ≤ sizeLine; decide), fun lw1 nlw1 => ?_⟩
        have glw1 : upd G1 lw1 (.lst [V.int 2, .int 3, .int 4]) lw1 = some (.lst [V.int 2, .int 3, .int 4]) := upd_same
        have slw1 : Same G1 (upd G1 lw1 (.lst [V.int 2, .int 3, .int 4])) := same_upd nlw1
        generalize upd G1 lw1 (.lst [V.int 2, .int 3, .int 4]) = Hlw1 at glw1 slw1 ⊢
        walk_at "rd"
        refine ⟨⟨_, SqL.of glw1⟩, fun Dl nDl => ?_⟩
        refine lc_list (K := K) (a := lw1) (xs := [V.int 2, .int 3, .int 4]) (fun i G2 => G2 Dl = some (.lst (List.replicate i (V.str "sides"))) ∧ Same Hlw1 G2 ∧ G2 lw1 = some (.lst [V.int 2, .int 3, .int 4])) ⟨upd_same, same_upd nDl, (upd_ne (ne_of_none glw1 nDl)).trans glw1⟩ (fun _ _ _ z => SqL.of z.2.2) ?_ ?_
        · rintro i y G2 hy ⟨hD, s2, hl⟩
          refine ⟨rfl, ?_⟩
          obtain ⟨kd, rfl, kb⟩ : ∃ kd : Nat, y = .int (kd : Int) ∧ (kd = 2 ∨ kd = 3 ∨ kd = 4) ∧ i < 3 := by
            match i, hy with
            | 0, hy => cases hy; exact ⟨2, rfl, .inl rfl, by decide⟩
            | 1, hy => cases hy; exact ⟨3, rfl, .inr (.inl rfl), by decide⟩
            | 2, hy => cases hy; exact ⟨4, rfl, .inr (.inr rfl), by decide⟩
            | n + 3, hy => cases hy
          walk_at "rd"
          refine ⟨(by show 5 ≤ sizeLine; decide), fun pw1 npw1 => ?_⟩
          have gpw1 : upd G2 pw1 (.lst [y, .non, v, v, .non]) pw1 = some (.lst [y, .non, v, v, .non]) := upd_same
          have spw1 : Same G2 (upd G2 pw1 (.lst [y, .non, v, v, .non])) := same_upd npw1
          generalize upd G2 pw1 (.lst [y, .non, v, v, .non]) = Hpw1 at gpw1 spw1 ⊢
          refine ⟨kd, pw1, _, _, _, _, _, (some 1), rfl, gpw1, (by rcases kb.1 with rfl | rfl | rfl; exact .w0 (by_.same (sv1.trans (s1.trans (slw1.trans (s2.trans spw1))))); exact .m0 (by_.same (sv1.trans (s1.trans (slw1.trans (s2.trans spw1))))); exact .f0 (by_.same (sv1.trans (s1.trans (slw1.trans (s2.trans spw1)))))), fun HWpw2 swpw2 => ?_⟩
          refine ⟨_, ((spw1.trans swpw2) _ _ hD), (by rw [List.length_replicate]; exact Nat.lt_of_lt_of_le kb.2 (by decide)), ?_, ?_, ?_⟩
          · rw [upd_same, List.replicate_succ']
            rfl
          · exact fun b1 u1 z => (upd_ne (ne_of_none z nDl)).trans ((spw1.trans swpw2) _ _ (s2 _ _ z))
          · exact (upd_ne (ne_of_none glw1 nDl)).trans ((spw1.trans swpw2) _ _ hl)
        · rintro G2 ⟨hD, s2, hl⟩
          walk_at "rd"
          refine ⟨(by show 1 ≤ sizeLine; decide), fun z1 nz1 => ?_⟩
          have gz1 : upd G2 z1 (.lst [.str "sides"]) z1 = some (.lst [.str "sides"]) := upd_same
          have sz1 : Same G2 (upd G2 z1 (.lst [.str "sides"])) := same_upd nz1
          generalize upd G2 z1 (.lst [.str "sides"]) = G3 at gz1 sz1 ⊢
          walk_at "rd"
          refine ⟨z1, _, _, rfl, rfl, gz1, by decide, by decide, (by show 1 * 3 ≤ sizeLine; decide), fun z2 nz2 => ?_⟩
          have gz2 : upd G3 z2 (.lst (List.replicate (Int.toNat 3) [V.str "sides"]).flatten) z2 = some (.lst ((["sides", "sides", "sides"] : List Str).map V.str)) := upd_same
          have sz2 : Same G3 (upd G3 z2 (.lst (List.replicate (Int.toNat 3) [V.str "sides"]).flatten)) := same_upd nz2
          generalize upd G3 z2 (.lst (List.replicate (Int.toNat 3) [V.str "sides"]).flatten) = G4 at gz2 sz2 ⊢
          refine ⟨_, _, dp_strs (A := ["sides", "sides", "sides"]) (sz2 _ _ (sz1 _ _ hD)), dp_strs gz2, sh3, sh3, ?_⟩
          rw [ev3]
          exact ⟨_, rfl, rfl, slw1.trans (s2.trans (sz1.trans sz2))⟩
      rintro b G3 ⟨rfl, s3⟩
      refine ite2 (fun z => absurd z (by decide)) (fun _ => ?_)
      exact ⟨_, rfl, s1.trans s3⟩
    rintro st H3 ⟨x5, x6, rfl, s3⟩
    replace SM := SM.same s3
    have s13 := s12.trans s3
    clear s3 s12
    have hb : (d = true ∧ GoodS H3 b) ∨ (d = false ∧ BadS K H3 b) := hd.imp (fun z => ⟨z.1, z.2.same s13⟩) fun z => ⟨z.1, z.2.same s13⟩
    refine ⟨fun st G => st = [some (.ref aS), some (.ref p), some b, some (.ref sm), some (.str du), x5, x6, none, none, none, none] ∧ Same H3 G, ?_, ?_⟩
    · walk_at "rd"
      refine ⟨fun b2 G => b2 = !d ∧ Same H3 G, ?_, ?_⟩
      · walk_at "rd"
        refine ⟨rfl, ?_⟩
        refine ⟨_, rfl, ?_⟩
        refine ite2 (fun z => ?_) (fun z => ?_)
        · walk_at "rd"
          rcases hb with ⟨rfl, g⟩ | ⟨rfl, g⟩
          · exact .inl ⟨g, fun H4 s4 => ⟨_, rfl, rfl, s4⟩⟩
          · exact .inr ⟨g, fun H4 s4 => ⟨_, rfl, rfl, s4⟩⟩
        · refine ⟨?_, Same.refl _⟩
          cases hd1 : d with
          | true => rfl
          | false => exact absurd (by rw [hdu hd1]; exact decide_eq_true rfl) z
      rintro b2 G ⟨rfl, sG⟩
      refine ite2 (fun z => ?_) (fun _ => ⟨rfl, sG⟩)
      have bb : BadS K G b := by
        rcases hb with ⟨rfl, g⟩ | ⟨rfl, g⟩
        · cases z
        · exact g.same sG
      have SMG := SM.same sG
      walk_at "rd"
      refine ⟨fun b2 G2 => b2 = false ∧ Same G G2, ?_, ?_⟩
      · skip
        walk_at "rd"
        refine ⟨(by show 3 ≤ sizeLine; decide), fun lw1 nlw1 => ?_⟩
        have glw1 : upd G lw1 (.lst [V.int 2, .int 3, .int 4]) lw1 = some (.lst [V.int 2, .int 3, .int 4]) := upd_same
        have slw1 : Same G (upd G lw1 (.lst [V.int 2, .int 3, .int 4])) := same_upd nlw1
        generalize upd G lw1 (.lst [V.int 2, .int 3, .int 4]) = Hlw1 at glw1 slw1 ⊢
        walk_at "rd"
        refine ⟨⟨_, SqL.of glw1⟩, fun Dl nDl => ?_⟩
        refine lc_list (K := K) (a := lw1) (xs := [V.int 2, .int 3, .int 4]) (fun i G2 => G2 Dl = some (.lst (List.replicate i (V.str "sides"))) ∧ Same Hlw1 G2 ∧ G2 lw1 = some (.lst [V.int 2, .int 3, .int 4])) ⟨upd_same, same_upd nDl, (upd_ne (ne_of_none glw1 nDl)).trans glw1⟩ (fun _ _ _ z => SqL.of z.2.2) ?_ ?_
        · rintro i y G2 hy ⟨hD, s2, hl⟩
          refine ⟨rfl, ?_⟩
          obtain ⟨kd, rfl, kb⟩ : ∃ kd : Nat, y = .int (kd : Int) ∧ (kd = 2 ∨ kd = 3 ∨ kd = 4) ∧ i < 3 := by
            match i, hy with
            | 0, hy => cases hy; exact ⟨2, rfl, .inl rfl, by decide⟩
            | 1, hy => cases hy; exact ⟨3, rfl, .inr (.inl rfl), by decide⟩
            | 2, hy => cases hy; exact ⟨4, rfl, .inr (.inr rfl), by decide⟩
            | n + 3, hy => cases hy
          walk_at "rd"
          refine ⟨(by show 2 ≤ sizeLine; decide), fun pw1 npw1 => ?_⟩
          have gpw1 : upd G2 pw1 (.lst [V.ref sm, b]) pw1 = some (.lst [V.ref sm, b]) := upd_same
          have spw1 : Same G2 (upd G2 pw1 (.lst [V.ref sm, b])) := same_upd npw1
          generalize upd G2 pw1 (.lst [V.ref sm, b]) = Hpw1 at gpw1 spw1 ⊢
          walk_at "rd"
          refine ⟨(by show 5 ≤ sizeLine; decide), fun pw2 npw2 => ?_⟩
          have gpw2 : upd Hpw1 pw2 (.lst [.ref pw1, .ref sm, .int 5, .int 5, .int 5]) pw2 = some (.lst [.ref pw1, .ref sm, .int 5, .int 5, .int 5]) := upd_same
          have spw2 : Same Hpw1 (upd Hpw1 pw2 (.lst [.ref pw1, .ref sm, .int 5, .int 5, .int 5])) := same_upd npw2
          generalize upd Hpw1 pw2 (.lst [.ref pw1, .ref sm, .int 5, .int 5, .int 5]) = Hpw2 at gpw2 spw2 ⊢
          refine ⟨kd, pw2, _, _, _, _, _, (some 1), rfl, gpw2, (by rcases kb.1 with rfl | rfl | rfl; exact .w0 (bad2 (SMG.same (slw1.trans (s2.trans (spw1.trans spw2)))) (spw2 _ _ gpw1) (bb.same (slw1.trans (s2.trans (spw1.trans spw2))))); exact .m0 (bad2 (SMG.same (slw1.trans (s2.trans (spw1.trans spw2)))) (spw2 _ _ gpw1) (bb.same (slw1.trans (s2.trans (spw1.trans spw2))))); exact .f0 (bad2 (SMG.same (slw1.trans (s2.trans (spw1.trans spw2)))) (spw2 _ _ gpw1) (bb.same (slw1.trans (s2.trans (spw1.trans spw2)))))), fun HWpw3 swpw3 => ?_⟩
          refine ⟨_, ((spw1.trans (spw2.trans swpw3)) _ _ hD), (by rw [List.length_replicate]; exact Nat.lt_of_lt_of_le kb.2 (by decide)), ?_, ?_, ?_⟩
          · rw [upd_same, List.replicate_succ']
            rfl
          · exact fun b1 u1 z => (upd_ne (ne_of_none z nDl)).trans ((spw1.trans (spw2.trans swpw3)) _ _ (s2 _ _ z))
          · exact (upd_ne (ne_of_none glw1 nDl)).trans ((spw1.trans (spw2.trans swpw3)) _ _ hl)
        · rintro G2 ⟨hD, s2, hl⟩
          walk_at "rd"
          refine ⟨(by show 1 ≤ sizeLine; decide), fun z1 nz1 => ?_⟩
          have gz1 : upd G2 z1 (.lst [.str "sides"]) z1 = some (.lst [.str "sides"]) := upd_same
          have sz1 : Same G2 (upd G2 z1 (.lst [.str "sides"])) := same_upd nz1
          generalize upd G2 z1 (.lst [.str "sides"]) = G3 at gz1 sz1 ⊢
          walk_at "rd"
          refine ⟨z1, _, _, rfl, rfl, gz1, by decide, by decide, (by show 1 * 3 ≤ sizeLine; decide), fun z2 nz2 => ?_⟩
          have gz2 : upd G3 z2 (.lst (List.replicate (Int.toNat 3) [V.str "sides"]).flatten) z2 = some (.lst ((["sides", "sides", "sides"] : List Str).map V.str)) := upd_same
          have sz2 : Same G3 (upd G3 z2 (.lst (List.replicate (Int.toNat 3) [V.str "sides"]).flatten)) := same_upd nz2
          generalize upd G3 z2 (.lst (List.replicate (Int.toNat 3) [V.str "sides"]).flatten) = G4 at gz2 sz2 ⊢
          refine ⟨_, _, dp_strs (A := ["sides", "sides", "sides"]) (sz2 _ _ (sz1 _ _ hD)), dp_strs gz2, sh3, sh3, ?_⟩
          rw [ev3]
          exact ⟨_, rfl, rfl, slw1.trans (s2.trans (sz1.trans sz2))⟩
      rintro b2 G2 ⟨rfl, sG2⟩
      refine ite2 (fun z => absurd z (by decide)) (fun _ => ?_)
      replace bb := bb.same sG2
      replace SMG := SMG.same sG2
      walk_at "rd"
      refine ⟨fun b2 G3 => b2 = false ∧ Same G2 G3, ?_, ?_⟩
      · walk_at "rd"
        refine ⟨(by show 1 ≤ sizeLine; decide), fun k1 nk1 => ?_⟩
        have gk1 : upd G2 k1 (.lst [V.ref sm]) k1 = some (.lst [V.ref sm]) := upd_same
        have sk1 : Same G2 (upd G2 k1 (.lst [V.ref sm])) := same_upd nk1
        generalize upd G2 k1 (.lst [V.ref sm]) = Hk1 at gk1 sk1 ⊢
        walk_at "rd"
        refine ⟨(by show 5 ≤ sizeLine; decide), fun k2 nk2 => ?_⟩
        have gk2 : upd Hk1 k2 (.lst [.ref k1, b, .int 5, .int 5, .int 5]) k2 = some (.lst [.ref k1, b, .int 5, .int 5, .int 5]) := upd_same
        have sk2 : Same Hk1 (upd Hk1 k2 (.lst [.ref k1, b, .int 5, .int 5, .int 5])) := same_upd nk2
        generalize upd Hk1 k2 (.lst [.ref k1, b, .int 5, .int 5, .int 5]) = Hk2 at gk2 sk2 ⊢
        refine ⟨4, k2, _, _, _, _, _, (some 0), rfl, gk2, (.f2 (good_of ((SMG.same (sk1.trans sk2)).one (sk2 _ _ gk1))) (by show 1 ≤ 3; decide) (bb.same (sk1.trans sk2))), fun HWk3 swk3 => ?_⟩
        walk_at "rd"
        refine ⟨rfl, ?_⟩
        refine ⟨_, rfl, ?_⟩
        refine ite2 (fun z => absurd z (by decide +kernel)) (fun _ => ?_)
        walk_at "rd"
        refine ⟨(by show 1 ≤ sizeLine; decide), fun k4 nk4 => ?_⟩
        have gk4 : upd HWk3 k4 (.lst [V.ref sm]) k4 = some (.lst [V.ref sm]) := upd_same
        have sk4 : Same HWk3 (upd HWk3 k4 (.lst [V.ref sm])) := same_upd nk4
        generalize upd HWk3 k4 (.lst [V.ref sm]) = Hk4 at gk4 sk4 ⊢
        walk_at "rd"
        refine ⟨k4, _, _, rfl, rfl, gk4, by decide, by decide, (by show 1 * 4 ≤ sizeLine; decide), fun k5 nk5 => ?_⟩
        have gk5 : upd Hk4 k5 (.lst (List.replicate (Int.toNat 4) [V.ref sm]).flatten) k5 = some (.lst [V.ref sm, .ref sm, .ref sm, .ref sm]) := upd_same
        have sk5 : Same Hk4 (upd Hk4 k5 (.lst (List.replicate (Int.toNat 4) [V.ref sm]).flatten)) := same_upd nk5
        generalize upd Hk4 k5 (.lst (List.replicate (Int.toNat 4) [V.ref sm]).flatten) = Hk5 at gk5 sk5 ⊢
        walk_at "rd"
        refine ⟨(by show 5 ≤ sizeLine; decide), fun k6 nk6 => ?_⟩
        have gk6 : upd Hk5 k6 (.lst [.ref k5, b, .int 5, .int 5, .int 5]) k6 = some (.lst [.ref k5, b, .int 5, .int 5, .int 5]) := upd_same
        have sk6 : Same Hk5 (upd Hk5 k6 (.lst [.ref k5, b, .int 5, .int 5, .int 5])) := same_upd nk6
        generalize upd Hk5 k6 (.lst [.ref k5, b, .int 5, .int 5, .int 5]) = Hk6 at gk6 sk6 ⊢
        refine ⟨4, k6, _, _, _, _, _, (some 1), rfl, gk6, (.f1 (xs := [.ref sm, .ref sm, .ref sm, .ref sm]) ⟨(sk6 _ _ gk5), by show 1 ≤ 4; decide, by show 4 ≤ 4; decide, fun y hy => (by simp only [List.mem_cons, List.not_mem_nil, or_false, or_self] at hy; rw [hy]; exact (SMG.same (sk1.trans (sk2.trans (swk3.trans (sk4.trans (sk5.trans sk6)))))).good)⟩ (by show 3 < 4; decide)), fun HWk7 swk7 => ?_⟩
        walk_at "rd"
        refine ⟨rfl, ?_⟩
        exact ⟨_, rfl, by decide +kernel, (sk1.trans (sk2.trans (swk3.trans (sk4.trans (sk5.trans (sk6.trans swk7))))))⟩
      rintro b2 G3 ⟨rfl, sG3⟩
      refine ite2 (fun z => absurd z (by decide)) (fun _ => ?_)
      exact ⟨rfl, sG.trans (sG2.trans sG3)⟩
    rintro st H4 ⟨rfl, s4⟩
    replace SM := SM.same s4
    have s14 := s13.trans s4
    clear hb s4 s13
    refine ⟨fun st G => ∃ x8 x9 x10 : Option V, st = [some (.ref aS), some (.ref p), some b, some (.ref sm), some (.str du), x5, x6, none, x8, x9, x10] ∧ Same H4 G, ?_, ?_⟩
    · walk_at "rd"
      refine ⟨(by show 0 ≤ sizeLine; decide), fun b1 nb1 => ?_⟩
      have gb1 : upd H4 b1 (.lst []) b1 = some (.lst []) := upd_same
      have sb1 : Same H4 (upd H4 b1 (.lst [])) := same_upd nb1
      generalize upd H4 b1 (.lst []) = Hb1 at gb1 sb1 ⊢
      walk_at "rd"
      refine ⟨(by show 1 ≤ sizeLine; decide), fun b2 nb2 => ?_⟩
      have gb2 : upd Hb1 b2 (.tup [V.int 5]) b2 = some (.tup [V.int 5]) := upd_same
      have sb2 : Same Hb1 (upd Hb1 b2 (.tup [V.int 5])) := same_upd nb2
      generalize upd Hb1 b2 (.tup [V.int 5]) = Hb2 at gb2 sb2 ⊢
      walk_at "rd"
      refine fun b3 nb3 => ?_
      have gb3 : upd Hb2 b3 (.dK []) b3 = some (.dK []) := upd_same
      have sb3 : Same Hb2 (upd Hb2 b3 (.dK [])) := same_upd nb3
      generalize upd Hb2 b3 (.dK []) = Hb3 at gb3 sb3 ⊢
      refine ⟨(by show 6 ≤ sizeLine; decide), fun b4 nb4 => ?_⟩
      have gb4 : upd Hb3 b4 (.lst [V.non, .bl true, .str "5", .ref b1, .ref b2, .ref b3]) b4 = some (.lst [V.non, .bl true, .str "5", .ref b1, .ref b2, .ref b3]) := upd_same
      have sb4 : Same Hb3 (upd Hb3 b4 (.lst [V.non, .bl true, .str "5", .ref b1, .ref b2, .ref b3])) := same_upd nb4
      generalize upd Hb3 b4 (.lst [V.non, .bl true, .str "5", .ref b1, .ref b2, .ref b3]) = Hb4 at gb4 sb4 ⊢
      have SMz := SM.same (sb1.trans (sb2.trans (sb3.trans sb4)))
      have sAll : Same H4 Hb4 := (sb1.trans (sb2.trans (sb3.trans sb4)))
      have bad : ∀ x ∈ [V.non, .bl true, .str "5", .ref b1, .ref b2, .ref b3], NoV Hb4 x ∧ BadS K Hb4 x := fun x hx => by
        simp only [List.mem_cons, List.not_mem_nil, or_false] at hx
        rcases hx with rfl | rfl | rfl | rfl | rfl | rfl
        · exact ⟨⟨_, .non, rfl⟩, .kind (.non) rfl⟩
        · exact ⟨⟨_, .bl _, rfl⟩, .kind (.bl _) rfl⟩
        · exact ⟨⟨_, .str _, rfl⟩, .kind (.str _) rfl⟩
        · exact ⟨⟨_, .lst (sb4 _ _ (sb3 _ _ (sb2 _ _ gb1))), rfl⟩, .kind (.lst (sb4 _ _ (sb3 _ _ (sb2 _ _ gb1)))) rfl⟩
        · exact ⟨⟨_, .tup (sb4 _ _ (sb3 _ _ gb2)), rfl⟩, .len (sb4 _ _ (sb3 _ _ gb2)) (by simp)⟩
        · exact ⟨⟨_, .dk (sb4 _ _ gb3), rfl⟩, .kind (.dk (sb4 _ _ gb3)) rfl⟩
      generalize [V.non, .bl true, .str "5", .ref b1, .ref b2, .ref b3] = xs at bad gb4
      walk_at "rd"
      refine ⟨⟨_, SqL.of gb4⟩, ?_⟩
      refine for_list (K := K) (a := b4) (xs := xs) (fun i st G => ∃ x8 x9 x10 : Option V, st = [some (.ref aS), some (.ref p), some b, some (.ref sm), some (.str du), x5, x6, none, x8, x9, x10] ∧ Same Hb4 G) ⟨none, none, none, rfl, Same.refl _⟩ (fun _ _ _ _ ⟨_, _, _, _, s⟩ => SqL.of (s _ _ gb4)) ?_ (fun st G ⟨x8, x9, x10, e, s⟩ => ⟨x8, x9, x10, e, sAll.trans s⟩)
      rintro i y st G0 hy ⟨x8, x9, x10, rfl, sG0⟩
      obtain ⟨⟨ny, ty, iy⟩, by_⟩ := bad y (List.mem_of_getElem? hy)
      replace ty := ty.same sG0
      replace by_ := by_.same sG0
      have SM0 := SMz.same sG0
      have hp0 := sG0 _ _ (sAll _ _ (s14 _ _ hp))
      refine ⟨fun st G => ∃ wl : Addr, st = [some (.ref aS), some (.ref p), some b, some (.ref sm), some (.str du), x5, x6, none, some y, some (.ref wl), x10] ∧ Same G0 G ∧ G wl = some (.lst ((["value", "value"] : List Str).map V.str)), ?_, ?_⟩
      · walk_at "rd"
        refine ⟨(by show 1 ≤ sizeLine; decide), fun k1 nk1 => ?_⟩
        have gk1 : upd G0 k1 (.lst [V.ref sm]) k1 = some (.lst [V.ref sm]) := upd_same
        have sk1 : Same G0 (upd G0 k1 (.lst [V.ref sm])) := same_upd nk1
        generalize upd G0 k1 (.lst [V.ref sm]) = Hk1 at gk1 sk1 ⊢
        walk_at "rd"
        refine ⟨(by show 5 ≤ sizeLine; decide), fun k2 nk2 => ?_⟩
        have gk2 : upd Hk1 k2 (.lst [.ref k1, .int 0, y, .int 5, .non]) k2 = some (.lst [.ref k1, .int 0, y, .int 5, .non]) := upd_same
        have sk2 : Same Hk1 (upd Hk1 k2 (.lst [.ref k1, .int 0, y, .int 5, .non])) := same_upd nk2
        generalize upd Hk1 k2 (.lst [.ref k1, .int 0, y, .int 5, .non]) = Hk2 at gk2 sk2 ⊢
        refine ⟨2, k2, _, _, _, _, _, (some 3), rfl, gk2, (.w1 (good_of ((SM0.same (sk1.trans sk2)).one (sk2 _ _ gk1))) (ty.same (sk1.trans sk2)) iy), fun HWk3 swk3 => ?_⟩
        walk_at "rd"
        refine ⟨(by show 1 ≤ sizeLine; decide), fun k4 nk4 => ?_⟩
        have gk4 : upd HWk3 k4 (.lst [V.ref sm]) k4 = some (.lst [V.ref sm]) := upd_same
        have sk4 : Same HWk3 (upd HWk3 k4 (.lst [V.ref sm])) := same_upd nk4
        generalize upd HWk3 k4 (.lst [V.ref sm]) = Hk4 at gk4 sk4 ⊢
        walk_at "rd"
        refine ⟨(by show 5 ≤ sizeLine; decide), fun k5 nk5 => ?_⟩
        have gk5 : upd Hk4 k5 (.lst [.ref k4, .int 0, y, .int 5, .int 5]) k5 = some (.lst [.ref k4, .int 0, y, .int 5, .int 5]) := upd_same
        have sk5 : Same Hk4 (upd Hk4 k5 (.lst [.ref k4, .int 0, y, .int 5, .int 5])) := same_upd nk5
        generalize upd Hk4 k5 (.lst [.ref k4, .int 0, y, .int 5, .int 5]) = Hk5 at gk5 sk5 ⊢
        refine ⟨3, k5, _, _, _, _, _, (some 3), rfl, gk5, (.m1 (good_of ((SM0.same (sk1.trans (sk2.trans (swk3.trans (sk4.trans sk5))))).one (sk5 _ _ gk4))) (ty.same (sk1.trans (sk2.trans (swk3.trans (sk4.trans sk5))))) iy), fun HWk6 swk6 => ?_⟩
        refine ⟨(by show 2 ≤ sizeLine; decide), fun k7 nk7 => ?_⟩
        have gk7 : upd HWk6 k7 (.lst [.str (wordS (some 3)), .str (wordS (some 3))]) k7 = some (.lst [.str (wordS (some 3)), .str (wordS (some 3))]) := upd_same
        have sk7 : Same HWk6 (upd HWk6 k7 (.lst [.str (wordS (some 3)), .str (wordS (some 3))])) := same_upd nk7
        generalize upd HWk6 k7 (.lst [.str (wordS (some 3)), .str (wordS (some 3))]) = Hk7 at gk7 sk7 ⊢
        exact ⟨k7, rfl, (sk1.trans (sk2.trans (swk3.trans (sk4.trans (sk5.trans (swk6.trans sk7)))))), gk7⟩
      rintro st G1 ⟨wl, rfl, sG1, hwl⟩
      have ty1 := ty.same sG1
      have by1 := by_.same sG1
      have SM1 := SM0.same sG1
      walk_at "rd"
      refine ⟨fun b2 G => b2 = false ∧ Same G1 G, ?_, ?_⟩
      · walk_at "rd"
        refine ⟨(by show 1 ≤ sizeLine; decide), fun k1 nk1 => ?_⟩
        have gk1 : upd G1 k1 (.lst [V.ref sm]) k1 = some (.lst [V.ref sm]) := upd_same
        have sk1 : Same G1 (upd G1 k1 (.lst [V.ref sm])) := same_upd nk1
        generalize upd G1 k1 (.lst [V.ref sm]) = Hk1 at gk1 sk1 ⊢
        walk_at "rd"
        refine ⟨(by show 5 ≤ sizeLine; decide), fun k2 nk2 => ?_⟩
        have gk2 : upd Hk1 k2 (.lst [.ref k1, .int 0, .int 5, y, .int 5]) k2 = some (.lst [.ref k1, .int 0, .int 5, y, .int 5]) := upd_same
        have sk2 : Same Hk1 (upd Hk1 k2 (.lst [.ref k1, .int 0, .int 5, y, .int 5])) := same_upd nk2
        generalize upd Hk1 k2 (.lst [.ref k1, .int 0, .int 5, y, .int 5]) = Hk2 at gk2 sk2 ⊢
        refine ⟨3, k2, _, _, _, _, _, (some 3), rfl, gk2, (.m2 (good_of ((SM1.same (sk1.trans sk2)).one (sk2 _ _ gk1))) (.int 5) rfl (ty1.same (sk1.trans sk2)) iy), fun HWk3 swk3 => ?_⟩
        refine ⟨(by show 1 ≤ sizeLine; decide), fun k4 nk4 => ?_⟩
        have gk4 : upd HWk3 k4 (.lst [.str (wordS (some 3))]) k4 = some (.lst [.str (wordS (some 3))]) := upd_same
        have sk4 : Same HWk3 (upd HWk3 k4 (.lst [.str (wordS (some 3))])) := same_upd nk4
        generalize upd HWk3 k4 (.lst [.str (wordS (some 3))]) = Hk4 at gk4 sk4 ⊢
        refine ⟨wl, k4, _, _, rfl, rfl, ((sk1.trans (sk2.trans (swk3.trans sk4))) _ _ hwl), gk4, (by show 3 ≤ sizeLine; decide), fun k5 nk5 => ?_⟩
        have gk5 : upd Hk4 k5 (.lst ((["value", "value"] : List Str).map V.str ++ [.str (wordS (some 3))])) k5 = some (.lst ((["value", "value", "value"] : List Str).map V.str)) := upd_same
        have sk5 : Same Hk4 (upd Hk4 k5 (.lst ((["value", "value"] : List Str).map V.str ++ [.str (wordS (some 3))]))) := same_upd nk5
        generalize upd Hk4 k5 (.lst ((["value", "value"] : List Str).map V.str ++ [.str (wordS (some 3))])) = Hk5 at gk5 sk5 ⊢
        walk_at "rd"
        refine ⟨(by show 1 ≤ sizeLine; decide), fun k6 nk6 => ?_⟩
        have gk6 : upd Hk5 k6 (.lst [V.str "value"]) k6 = some (.lst [V.str "value"]) := upd_same
        have sk6 : Same Hk5 (upd Hk5 k6 (.lst [V.str "value"])) := same_upd nk6
        generalize upd Hk5 k6 (.lst [V.str "value"]) = Hk6 at gk6 sk6 ⊢
        walk_at "rd"
        refine ⟨k6, _, _, rfl, rfl, gk6, by decide, by decide, (by show 1 * 3 ≤ sizeLine; decide), fun k7 nk7 => ?_⟩
        have gk7 : upd Hk6 k7 (.lst (List.replicate (Int.toNat 3) [V.str "value"]).flatten) k7 = some (.lst ((["value", "value", "value"] : List Str).map V.str)) := upd_same
        have sk7 : Same Hk6 (upd Hk6 k7 (.lst (List.replicate (Int.toNat 3) [V.str "value"]).flatten)) := same_upd nk7
        generalize upd Hk6 k7 (.lst (List.replicate (Int.toNat 3) [V.str "value"]).flatten) = Hk7 at gk7 sk7 ⊢
        refine ⟨_, _, dp_strs (A := ["value", "value", "value"]) (sk7 _ _ (sk6 _ _ gk5)), dp_strs (A := ["value", "value", "value"]) gk7, sh3v, sh3v, ?_⟩
        rw [ev3v]
        exact ⟨_, rfl, rfl, (sk1.trans (sk2.trans (swk3.trans (sk4.trans (sk5.trans (sk6.trans sk7))))))⟩
      rintro b2 G2 ⟨rfl, sG2⟩
      refine ite2 (fun z => absurd z (by decide)) (fun _ => ?_)
      have ty2 := ty1.same sG2
      have by2 := by1.same sG2
      have hp2 := sG2 _ _ (sG1 _ _ hp0)
      clear hwl
      refine ⟨fun st G => ∃ (wi q1 : Addr) (e2 : Sd), st = [some (.ref aS), some (.ref p), some b, some (.ref sm), some (.str du), x5, x6, none, some y, some (.ref wl), some (.ref wi)] ∧ Same G2 G ∧ G wi = some (.lst [.ref q1]) ∧ G q1 = some (sideV e2.o e2.s e2.m) ∧ SideP e2.o e2.s e2.m, ?_, ?_⟩
      · walk_at "rd"
        refine ⟨p, _, 1, _, rfl, rfl, SqT.of hp2, rfl, ?_⟩
        walk_at "rd"
        refine ⟨⟨by decide, by decide, by decide⟩, ?_⟩
        walk_at "rd"
        refine ⟨(by show (0 : Int) < 10 ^ (20 : Int).toNat; decide), ?_⟩
        walk_at "rd"
        refine ⟨(by show 3 ≤ sizeLine; decide), fun q1 nq1 => ?_⟩
        generalize e_1 : upd G2 q1 _ = G3
        have g1 : G3 q1 = some (sideV 0 (20001 + s % (10 : Int) ^ (20 : Int).toNat) "up") := by
          rw [← e_1, upd_same]
          rfl
        have y1 : Same G2 G3 := by rw [← e_1]; exact same_upd nq1
        clear e_1
        walk_at "rd"
        refine ⟨(by show 1 ≤ sizeLine; decide), fun wi nwi => ?_⟩
        have y2 := same_upd (o := .lst [V.ref q1]) nwi
        have m0 : 0 ≤ s % (10 : Int) ^ (20 : Int).toNat := Int.emod_nonneg _ (by decide)
        have m1 : s % (10 : Int) ^ (20 : Int).toNat < 10 ^ 20 := Int.emod_lt_of_pos _ (by decide)
        exact ⟨wi, q1, ⟨0, _, "up"⟩, rfl, y1.trans y2, upd_same, y2 _ _ g1, ⟨(by show -10 ^ 40 ≤ (0 : Int); decide), (by show (0 : Int) ≤ 10 ^ 40; decide), by simp only; omega, by simp only; omega, .inr (.inl rfl)⟩⟩
      rintro st G3 ⟨wi, q1, e2, rfl, sG3, hwi, hq1, S2⟩
      have ty3 := ty2.same sG3
      have by3 := by2.same sG3
      have gw : ∀ {G : Hp}, Same G3 G → GoodL G wi [.ref q1] := fun e => good_of (sidesAt1 (e _ _ hwi) (e _ _ hq1) S2)
      refine ⟨fun st G => ∃ wl : Addr, st = [some (.ref aS), some (.ref p), some b, some (.ref sm), some (.str du), x5, x6, none, some y, some (.ref wl), some (.ref wi)] ∧ Same G3 G ∧ G wl = some (.lst ((["value", "value"] : List Str).map V.str)), ?_, ?_⟩
      · walk_at "rd"
        refine ⟨(by show 5 ≤ sizeLine; decide), fun k1 nk1 => ?_⟩
        have gk1 : upd G3 k1 (.lst [.ref wi, .int 0, y, .int 5, .int 5]) k1 = some (.lst [.ref wi, .int 0, y, .int 5, .int 5]) := upd_same
        have sk1 : Same G3 (upd G3 k1 (.lst [.ref wi, .int 0, y, .int 5, .int 5])) := same_upd nk1
        generalize upd G3 k1 (.lst [.ref wi, .int 0, y, .int 5, .int 5]) = Hk1 at gk1 sk1 ⊢
        refine ⟨3, k1, _, _, _, _, _, (some 3), rfl, gk1, (.m1 (gw sk1) (ty3.same sk1) iy), fun HWk2 swk2 => ?_⟩
        walk_at "rd"
        refine ⟨(by show 5 ≤ sizeLine; decide), fun k3 nk3 => ?_⟩
        have gk3 : upd HWk2 k3 (.lst [.ref wi, .int 0, .int 5, y, .int 5]) k3 = some (.lst [.ref wi, .int 0, .int 5, y, .int 5]) := upd_same
        have sk3 : Same HWk2 (upd HWk2 k3 (.lst [.ref wi, .int 0, .int 5, y, .int 5])) := same_upd nk3
        generalize upd HWk2 k3 (.lst [.ref wi, .int 0, .int 5, y, .int 5]) = Hk3 at gk3 sk3 ⊢
        refine ⟨3, k3, _, _, _, _, _, (some 3), rfl, gk3, (.m2 (gw (sk1.trans (swk2.trans sk3))) (.int 5) rfl (ty3.same (sk1.trans (swk2.trans sk3))) iy), fun HWk4 swk4 => ?_⟩
        refine ⟨(by show 2 ≤ sizeLine; decide), fun k5 nk5 => ?_⟩
        have gk5 : upd HWk4 k5 (.lst [.str (wordS (some 3)), .str (wordS (some 3))]) k5 = some (.lst [.str (wordS (some 3)), .str (wordS (some 3))]) := upd_same
        have sk5 : Same HWk4 (upd HWk4 k5 (.lst [.str (wordS (some 3)), .str (wordS (some 3))])) := same_upd nk5
        generalize upd HWk4 k5 (.lst [.str (wordS (some 3)), .str (wordS (some 3))]) = Hk5 at gk5 sk5 ⊢
        exact ⟨k5, rfl, (sk1.trans (swk2.trans (sk3.trans (swk4.trans sk5)))), gk5⟩
      rintro st G4 ⟨wl, rfl, sG4, hwl⟩
      have by4 := by3.same sG4
      walk_at "rd"
      refine ⟨fun b2 G => b2 = false ∧ Same G4 G, ?_, ?_⟩
      · walk_at "rd"
        refine ⟨(by show 5 ≤ sizeLine; decide), fun k1 nk1 => ?_⟩
        have gk1 : upd G4 k1 (.lst [.ref wi, y, .int 0, .int 0, .int 0]) k1 = some (.lst [.ref wi, y, .int 0, .int 0, .int 0]) := upd_same
        have sk1 : Same G4 (upd G4 k1 (.lst [.ref wi, y, .int 0, .int 0, .int 0])) := same_upd nk1
        generalize upd G4 k1 (.lst [.ref wi, y, .int 0, .int 0, .int 0]) = Hk1 at gk1 sk1 ⊢
        refine ⟨4, k1, _, _, _, _, _, (some 0), rfl, gk1, (.f2 (gw (sG4.trans sk1)) (by show 1 ≤ 3; decide) (by4.same sk1)), fun HWk2 swk2 => ?_⟩
        refine ⟨(by show 1 ≤ sizeLine; decide), fun k3 nk3 => ?_⟩
        have gk3 : upd HWk2 k3 (.lst [.str (wordS (some 0))]) k3 = some (.lst [.str (wordS (some 0))]) := upd_same
        have sk3 : Same HWk2 (upd HWk2 k3 (.lst [.str (wordS (some 0))])) := same_upd nk3
        generalize upd HWk2 k3 (.lst [.str (wordS (some 0))]) = Hk3 at gk3 sk3 ⊢
        refine ⟨wl, k3, _, _, rfl, rfl, ((sk1.trans (swk2.trans sk3)) _ _ hwl), gk3, (by show 3 ≤ sizeLine; decide), fun k4 nk4 => ?_⟩
        have gk4 : upd Hk3 k4 (.lst ((["value", "value"] : List Str).map V.str ++ [.str (wordS (some 0))])) k4 = some (.lst ((["value", "value", "side"] : List Str).map V.str)) := upd_same
        have sk4 : Same Hk3 (upd Hk3 k4 (.lst ((["value", "value"] : List Str).map V.str ++ [.str (wordS (some 0))]))) := same_upd nk4
        generalize upd Hk3 k4 (.lst ((["value", "value"] : List Str).map V.str ++ [.str (wordS (some 0))])) = Hk4 at gk4 sk4 ⊢
        walk_at "rd"
        refine ⟨(by show 3 ≤ sizeLine; decide), fun k5 nk5 => ?_⟩
        have gk5 : upd Hk4 k5 (.lst [V.str "value", .str "value", .str "side"]) k5 = some (.lst ((["value", "value", "side"] : List Str).map V.str)) := upd_same
        have sk5 : Same Hk4 (upd Hk4 k5 (.lst [V.str "value", .str "value", .str "side"])) := same_upd nk5
        generalize upd Hk4 k5 (.lst [V.str "value", .str "value", .str "side"]) = Hk5 at gk5 sk5 ⊢
        refine ⟨_, _, dp_strs (A := ["value", "value", "side"]) (sk5 _ _ gk4), dp_strs (A := ["value", "value", "side"]) gk5, sh3s, sh3s, ?_⟩
        rw [ev3s]
        exact ⟨_, rfl, rfl, (sk1.trans (swk2.trans (sk3.trans (sk4.trans sk5))))⟩
      rintro b2 G5 ⟨rfl, sG5⟩
      refine ite2 (fun z => absurd z (by decide)) (fun _ => ?_)
      exact ⟨_, _, _, rfl, sG0.trans (sG1.trans (sG2.trans (sG3.trans (sG4.trans sG5))))⟩
    rintro st H5 ⟨x8, x9, x10, rfl, s5⟩
    replace SM := SM.same s5
    have s15 := s14.trans s5
    clear s5 s14
    refine ⟨fun st G => ∃ x8 : Option V, st = [some (.ref aS), some (.ref p), some b, some (.ref sm), some (.str du), x5, x6, none, x8, x9, x10] ∧ Same H5 G, ?_, ?_⟩
    · walk_at "rd"
      refine ⟨⟨by decide, by decide, by decide⟩, ?_⟩
      walk_at "rd"
      refine ⟨(by show 0 ≤ sizeLine; decide), fun b1 nb1 => ?_⟩
      have gb1 : upd H5 b1 (.lst []) b1 = some (.lst []) := upd_same
      have sb1 : Same H5 (upd H5 b1 (.lst [])) := same_upd nb1
      generalize upd H5 b1 (.lst []) = Hb1 at gb1 sb1 ⊢
      walk_at "rd"
      refine ⟨(by show 1 ≤ sizeLine; decide), fun b2 nb2 => ?_⟩
      have gb2 : upd Hb1 b2 (.tup [V.int 5]) b2 = some (.tup [V.int 5]) := upd_same
      have sb2 : Same Hb1 (upd Hb1 b2 (.tup [V.int 5])) := same_upd nb2
      generalize upd Hb1 b2 (.tup [V.int 5]) = Hb2 at gb2 sb2 ⊢
      walk_at "rd"
      refine ⟨(by show 8 ≤ sizeLine; decide), fun b3 nb3 => ?_⟩
      have gb3 : upd Hb2 b3 (.lst [V.non, .bl true, .bl false, .int (-1), .str "5", .int ((10 : Int) ^ (40 : Int).toNat + 1), .ref b1, .ref b2]) b3 = some (.lst [V.non, .bl true, .bl false, .int (-1), .str "5", .int ((10 : Int) ^ (40 : Int).toNat + 1), .ref b1, .ref b2]) := upd_same
      have sb3 : Same Hb2 (upd Hb2 b3 (.lst [V.non, .bl true, .bl false, .int (-1), .str "5", .int ((10 : Int) ^ (40 : Int).toNat + 1), .ref b1, .ref b2])) := same_upd nb3
      generalize upd Hb2 b3 (.lst [V.non, .bl true, .bl false, .int (-1), .str "5", .int ((10 : Int) ^ (40 : Int).toNat + 1), .ref b1, .ref b2]) = Hb3 at gb3 sb3 ⊢
      have SMz := SM.same (sb1.trans (sb2.trans sb3))
      have sAll : Same H5 Hb3 := (sb1.trans (sb2.trans sb3))
      have bad : ∀ x ∈ [V.non, .bl true, .bl false, .int (-1), .str "5", .int ((10 : Int) ^ (40 : Int).toNat + 1), .ref b1, .ref b2], ∃ k, Th Hb3 x k ∧ inB x 0 (10 ^ 40) = false := fun x hx => by
        simp only [List.mem_cons, List.not_mem_nil, or_false] at hx
        rcases hx with rfl | rfl | rfl | rfl | rfl | rfl | rfl | rfl
        · exact ⟨_, .non, rfl⟩
        · exact ⟨_, .bl _, rfl⟩
        · exact ⟨_, .bl _, rfl⟩
        · exact ⟨_, .int _, by decide +kernel⟩
        · exact ⟨_, .str _, rfl⟩
        · exact ⟨_, .int _, by decide +kernel⟩
        · exact ⟨_, .lst (sb3 _ _ (sb2 _ _ gb1)), rfl⟩
        · exact ⟨_, .tup (sb3 _ _ gb2), rfl⟩
      generalize [V.non, .bl true, .bl false, .int (-1), .str "5", .int ((10 : Int) ^ (40 : Int).toNat + 1), .ref b1, .ref b2] = xs at bad gb3
      walk_at "rd"
      refine ⟨⟨_, SqL.of gb3⟩, ?_⟩
      refine for_list (K := K) (a := b3) (xs := xs) (fun i st G => ∃ x8 : Option V, st = [some (.ref aS), some (.ref p), some b, some (.ref sm), some (.str du), x5, x6, none, x8, x9, x10] ∧ Same Hb3 G) ⟨x8, rfl, Same.refl _⟩ (fun _ _ _ _ ⟨_, _, s⟩ => SqL.of (s _ _ gb3)) ?_ (fun st G ⟨x8, e, s⟩ => ⟨x8, e, sAll.trans s⟩)
      rintro i y st G0 hy ⟨x8, rfl, sG0⟩
      obtain ⟨ny, ty, iy⟩ := bad y (List.mem_of_getElem? hy)
      replace ty := ty.same sG0
      have SM0 := SMz.same sG0
      walk_at "rd"
      refine ⟨fun b2 G => b2 = false ∧ Same G0 G, ?_, ?_⟩
      · walk_at "rd"
        refine ⟨(by show 1 ≤ sizeLine; decide), fun k1 nk1 => ?_⟩
        have gk1 : upd G0 k1 (.lst [V.ref sm]) k1 = some (.lst [V.ref sm]) := upd_same
        have sk1 : Same G0 (upd G0 k1 (.lst [V.ref sm])) := same_upd nk1
        generalize upd G0 k1 (.lst [V.ref sm]) = Hk1 at gk1 sk1 ⊢
        walk_at "rd"
        refine ⟨(by show 5 ≤ sizeLine; decide), fun k2 nk2 => ?_⟩
        have gk2 : upd Hk1 k2 (.lst [.ref k1, .int 0, .int 5, .int 5, y]) k2 = some (.lst [.ref k1, .int 0, .int 5, .int 5, y]) := upd_same
        have sk2 : Same Hk1 (upd Hk1 k2 (.lst [.ref k1, .int 0, .int 5, .int 5, y])) := same_upd nk2
        generalize upd Hk1 k2 (.lst [.ref k1, .int 0, .int 5, .int 5, y]) = Hk2 at gk2 sk2 ⊢
        refine ⟨2, k2, _, _, _, _, _, (some 4), rfl, gk2, (.w2 (good_of ((SM0.same (sk1.trans sk2)).one (sk2 _ _ gk1))) (.int 5) rfl (ty.same (sk1.trans sk2)) iy), fun HWk3 swk3 => ?_⟩
        walk_at "rd"
        refine ⟨rfl, ?_⟩
        exact ⟨_, rfl, by decide +kernel, (sk1.trans (sk2.trans swk3))⟩
      rintro b2 G5 ⟨rfl, sG5⟩
      refine ite2 (fun z => absurd z (by decide)) (fun _ => ?_)
      exact ⟨_, rfl, sG0.trans sG5⟩
    rintro st H6 ⟨x8, rfl, s6⟩
    replace SM := SM.same s6
    have s16 := s15.trans s6
    clear s6 s15
    walk_at "rd"
    refine ⟨(by show 1 ≤ sizeLine; decide), fun k1 nk1 => ?_⟩
    have gk1 : upd H6 k1 (.lst [V.ref sm]) k1 = some (.lst [V.ref sm]) := upd_same
    have sk1 : Same H6 (upd H6 k1 (.lst [V.ref sm])) := same_upd nk1
    generalize upd H6 k1 (.lst [V.ref sm]) = Hk1 at gk1 sk1 ⊢
    walk_at "rd"
    refine ⟨(by show 5 ≤ sizeLine; decide), fun k2 nk2 => ?_⟩
    have gk2 : upd Hk1 k2 (.lst [.ref k1, .int 0, .int 5, .int 5, .int 0]) k2 = some (.lst [.ref k1, .int 0, .int 5, .int 5, .int 0]) := upd_same
    have sk2 : Same Hk1 (upd Hk1 k2 (.lst [.ref k1, .int 0, .int 5, .int 5, .int 0])) := same_upd nk2
    generalize upd Hk1 k2 (.lst [.ref k1, .int 0, .int 5, .int 5, .int 0]) = Hk2 at gk2 sk2 ⊢
    refine ⟨2, k2, _, _, _, _, _, none, rfl, gk2, (.w3 (n := 0) ((SM.same (sk1.trans sk2)).one (sk2 _ _ gk1)) (by decide) (by decide) (.inl (by decide))), fun HWk3 swk3 => ?_⟩
    walk_at "rd"
    refine ⟨rfl, ?_⟩
    refine ⟨_, rfl, ?_⟩
    refine ite2 (fun _ => ?_) (fun z => absurd (by decide +kernel) z)
    walk_at "rd"
    refine ⟨(by show 1 ≤ sizeLine; decide), fun k4 nk4 => ?_⟩
    have gk4 : upd HWk3 k4 (.lst [V.ref sm]) k4 = some (.lst [V.ref sm]) := upd_same
    have sk4 : Same HWk3 (upd HWk3 k4 (.lst [V.ref sm])) := same_upd nk4
    generalize upd HWk3 k4 (.lst [V.ref sm]) = Hk4 at gk4 sk4 ⊢
    walk_at "rd"
    refine ⟨⟨by decide, by decide, by decide⟩, ?_⟩
    walk_at "rd"
    refine ⟨(by show 5 ≤ sizeLine; decide), fun k5 nk5 => ?_⟩
    have gk5 : upd Hk4 k5 (.lst [.ref k4, .int 0, .int 5, .int 5, .int ((10 : Int) ^ (40 : Int).toNat)]) k5 = some (.lst [.ref k4, .int 0, .int 5, .int 5, .int ((10 : Int) ^ (40 : Int).toNat)]) := upd_same
    have sk5 : Same Hk4 (upd Hk4 k5 (.lst [.ref k4, .int 0, .int 5, .int 5, .int ((10 : Int) ^ (40 : Int).toNat)])) := same_upd nk5
    generalize upd Hk4 k5 (.lst [.ref k4, .int 0, .int 5, .int 5, .int ((10 : Int) ^ (40 : Int).toNat)]) = Hk5 at gk5 sk5 ⊢
    refine ⟨2, k5, _, _, _, _, _, none, rfl, gk5, (by rw [show (10 : Int) ^ (40 : Int).toNat = ((10 ^ 40 : Nat) : Int) by decide +kernel]; exact .w3 (n := 10 ^ 40) ((SM.same (sk1.trans (sk2.trans (swk3.trans (sk4.trans sk5))))).one (sk5 _ _ gk4)) (by decide) (Nat.le_refl _) (.inr SM.recs)), fun HWk6 swk6 => ?_⟩
    walk_at "rd"
    refine ⟨rfl, ?_⟩
    have fin := q HWk6 (s16.trans (sk1.trans (sk2.trans (swk3.trans (sk4.trans (sk5.trans swk6))))))
    exact fin
end
end HT
namespace HT
open PySem L2
theorem sidesAt2 {H : Hp} {l p q : Addr} {d e : Sd} (hl : H l = some (.lst [V.ref p, .ref q])) (hp : H p = some (sideV d.o d.s d.m)) (hq : H q = some (sideV e.o e.s e.m)) (S : SideP d.o d.s d.m) (T : SideP e.o e.s e.m) : SidesAt H l [V.ref p, .ref q] [d, e] :=
  ⟨hl, rfl, (by show 1 ≤ 2; decide), (by show 2 ≤ 4; decide), fun i f h => by
    match i, h with
    | 0, h => cases h; exact ⟨p, rfl, hp, S⟩
    | 1, h => cases h; exact ⟨q, rfl, hq, T⟩
    | n + 2, h => cases h⟩
theorem upS {s : Int} (h : 1 ≤ s ∧ s ≤ 10 ^ 30) : SideP 0 s "up" := ⟨by decide, by decide, h.1, h.2, .inr (.inl rfl)⟩
def spLaw (K : PySem.W.Frag) : Sp := fun vs H Q _ => ∃ (l : Addr) (ns : List Int), vs = [.ref l] ∧ SqL K H l (ns.map V.int) ∧ ns.length ≤ 63 ∧ ∀ H', Q (.bl true) H'
section
variable {P : Program} {w : World} {K : PySem.W.Frag} {mg : Str → Option Value} {base : Heap} {f0 f1 f2 f3 f4 f5 : Addr} {d0 d1 d2 d3 d4 d5 : FuncData}
theorem ok_law {f : Addr} {fd : FuncData} (F : Fun K "law" "law" s_law f fd) (B : Blt mg) (So : Cal P w K mg base "_law_source" 1 ["_law_script"] (spSource K) f0 d0) (Si : Cal P w K mg base "_law_side" 3 ["_law_source_here", "_law_digits"] spSideB f1 d1) (Be : Cal P w K mg base "_law_bent" 3 ["_law_source_here", "_law_one"] (spBent K) f2 d2) (Tw : Cal P w K mg base "_law_two_fit" 111 ["_law_source_here", "_law_one", "_law_other", "_law_bent_here"] (spTwoF K) f3 d3) (Li : Cal P w K mg base "_law_lists_fit" 111 ["_law_source_here", "_law_one", "_law_bent_here"] (spLists K) f4 d4) (Wo : Cal P w K mg base "_law_word" 110 ["_law_way", "_law_parts"] (spWord52 K) f5 d5) : FnOk P w K mg base CX0 112 f fd ["_law_script"] (spLaw K) := by
  refine F.ok sc_law (fun vs H Q E h => ?_) (fun cdv A outer s0 H vs Q E hr h => ?_)
  · obtain ⟨l, ns, rfl, _⟩ := h
    rfl
  · obtain ⟨l, ns, rfl, hl, nl, q⟩ := h
    have nd := sc_law.nd
    refine ⟨_, (pss_cons (ps_mid (ps_set (i := 1) nd rfl (Or.inl rfl) (pcl So hr (by decide) (by rfl) (pa_cons (pv 0) pa_nil))))
      (pss_cons (ps_mid (ps_for PassesOwn.never rfl (pi_range1 (by rfl) B.range (pa_cons pe_int pa_nil)) (pg_name (i := 2) nd rfl (Or.inl rfl)) (pss_cons (ps_mid (ps_par (i := 3) (j := 4) (by rfl) nd rfl rfl (by decide) rfl rfl (pa_cons (pcl Si hr (by decide) (by rfl) (pa_cons (pv 1) (pa_cons pe_int pa_nil))) (pa_cons (pcl Si hr (by decide) (by rfl) (pa_cons (pv 1) (pa_cons pe_int pa_nil))) pa_nil)) (by rfl)))
      (pss_cons (ps_mid (ps_set (i := 5) nd rfl (Or.inl rfl) (pcl Be hr (by decide) (by rfl) (pa_cons (pv 1) (pa_cons (pv 3) pa_nil)))))
      (pss_one (ps_if (pt_mid (PW.pt (pw_or (pt_not (pt_val (pcl Tw hr (by decide) (by rfl) (pa_cons (pv 1) (pa_cons (pv 3) (pa_cons (pv 4) (pa_cons (pv 5) pa_nil))))))) (pw_or1 (pt_not (pt_val (pcl Li hr (by decide) (by rfl) (pa_cons (pv 1) (pa_cons (pv 3) (pa_cons (pv 5) pa_nil)))))))))) (pss_one (ps_ret pe_bl)) pss_nil))))))
      (pss_cons (ps_mid (ps_set (i := 6) nd rfl (Or.inl rfl) (pe_lst (pa_cons (pe_tup (pa_cons (pe_lst (pa_cons (pe_tup (pa_cons pe_int (pa_cons pe_int (pa_cons pe_str pa_nil)))) pa_nil)) (pa_cons pe_int (pa_cons pe_str pa_nil)))) (pa_cons (pe_tup (pa_cons (pe_lst (pa_cons (pe_tup (pa_cons pe_int (pa_cons pe_int (pa_cons pe_str pa_nil)))) pa_nil)) (pa_cons pe_int (pa_cons pe_str pa_nil)))) (pa_cons (pe_tup (pa_cons (pe_lst (pa_cons (pe_tup (pa_cons pe_int (pa_cons pe_int (pa_cons pe_str pa_nil)))) pa_nil)) (pa_cons pe_int (pa_cons pe_str pa_nil)))) pa_nil))))))
      (pss_cons (ps_mid (ps_for PassesOwn.never rfl (pi_list (pv 6)) (pg_tup (by rfl) (pgs_cons (pg_name (i := 7) nd rfl (Or.inl rfl)) (pgs_cons (pg_name (i := 8) nd rfl (Or.inl rfl)) (pgs_cons (pg_name (i := 9) nd rfl (Or.inl rfl)) pgs_nil)))) (pss_one (ps_if (pt_mid (PW.pt (pw_or (pt_cmpR op_ne (pcl Wo hr (by decide) (by rfl) (pa_cons pe_int (pa_cons (pe_lst (pa_cons (pv 7) (pa_cons pe_int (pa_cons pe_int (pa_cons (pv 8) (pa_cons pe_int pa_nil)))))) pa_nil))) (pv 9) (nomark _)) (pw_or1 (pt_cmpR op_ne (pcl Wo hr (by decide) (by rfl) (pa_cons pe_int (pa_cons (pe_lst (pa_cons (pv 7) (pa_cons pe_int (pa_cons pe_int (pa_cons (pe_un un_neg (pv 8)) (pa_cons pe_int pa_nil)))))) pa_nil))) (pv 9) (nomark _)))))) (pss_one (ps_ret pe_bl)) pss_nil))))
      (pss_cons (ps_if (pt_mid (pt_cmpR (op_neD hr.units) (pe_lc (own := [("_law_value", 8)]) (g := gName 8) (tt := tYes) rfl nd (pi_list (pe_lst (pa_cons pe_int (pa_cons pe_int (pa_cons (pe_un un_neg pe_int) (pa_cons (pe_un un_neg pe_int) pa_nil)))))) (blkOk_by (N := ["_law_script", "_law_source_here", "_law_turn", "_law_one", "_law_other", "_law_bent_here", "_law_rows", "_law_sides", "_law_value", "_law_wish", "_law_step", "_law_found"]) (sc := defScope s_law) (by decide +kernel)) (fun _ _ _ _ _ => pg_name (i := 8) nd rfl (Or.inl rfl)) (fun _ _ _ _ _ => pts_nil) (fun _ _ _ _ _ => (pcl Wo hr (by decide) (by rfl) (pa_cons pe_int (pa_cons (pe_lst (pa_cons (pe_lst (pa_cons (pe_tup (pa_cons pe_int (pa_cons pe_int (pa_cons pe_str pa_nil)))) pa_nil)) (pa_cons pe_int (pa_cons pe_int (pa_cons (pv 8) (pa_cons pe_int pa_nil)))))) pa_nil))))) (pe_op op_rep (pe_lst (pa_cons pe_str (pa_cons pe_str pa_nil))) pe_int) (nomark _))) (pss_one (ps_ret pe_bl)) pss_nil)
      (pss_cons (ps_mid (ps_setLc (i := 11) (own := [("_law_step", 10)]) (g := gName 10) (tt := tYes) rfl nd rfl rfl (sw_true rfl rfl rfl (by decide +kernel)) (pi_list (pe_lst (pa_cons pe_int (pa_cons pe_int (pa_cons pe_int (pa_cons pe_int pa_nil)))))) (blkOk_by (N := ["_law_script", "_law_source_here", "_law_turn", "_law_one", "_law_other", "_law_bent_here", "_law_rows", "_law_sides", "_law_value", "_law_wish", "_law_step", "_law_found"]) (sc := defScope s_law) (by decide +kernel)) (fun _ _ _ _ _ => pg_name (i := 10) nd rfl (Or.inl rfl)) (fun _ _ _ _ _ => pts_nil) (fun _ _ _ _ _ => (pcl Wo hr (by decide) (by rfl) (pa_cons pe_int (pa_cons (pe_lst (pa_cons (pe_lst (pa_cons (pe_tup (pa_cons pe_int (pa_cons pe_int (pa_cons pe_str pa_nil)))) pa_nil)) (pa_cons (pe_tup (pa_cons pe_int (pa_cons (pv 10) (pa_cons pe_str pa_nil)))) (pa_cons pe_int (pa_cons pe_int (pa_cons pe_int pa_nil)))))) pa_nil))))))
      (pss_cons (ps_if (pt_mid (pt_cmpR op_ne (pcl Wo hr (by decide) (by rfl) (pa_cons pe_int (pa_cons (pe_lst (pa_cons (pe_lst (pa_cons (pe_tup (pa_cons pe_int (pa_cons pe_int (pa_cons pe_str pa_nil)))) (pa_cons (pe_tup (pa_cons pe_int (pa_cons pe_int (pa_cons pe_str pa_nil)))) pa_nil))) (pa_cons (pe_tup (pa_cons pe_int (pa_cons pe_int (pa_cons pe_str pa_nil)))) (pa_cons pe_int (pa_cons pe_int (pa_cons pe_int pa_nil)))))) pa_nil))) pe_str (nomark _))) (pss_one (ps_ret pe_bl)) pss_nil)
      (pss_cons (ps_if (pt_mid (pt_cmpR op_ne (pcl Wo hr (by decide) (by rfl) (pa_cons pe_int (pa_cons (pe_lst (pa_cons (pe_lst (pa_cons (pe_tup (pa_cons pe_int (pa_cons pe_int (pa_cons pe_str pa_nil)))) (pa_cons (pe_tup (pa_cons pe_int (pa_cons pe_int (pa_cons pe_str pa_nil)))) pa_nil))) (pa_cons (pe_tup (pa_cons pe_int (pa_cons pe_int (pa_cons pe_str pa_nil)))) (pa_cons pe_int (pa_cons pe_int (pa_cons pe_int pa_nil)))))) pa_nil))) pe_str (nomark _))) (pss_one (ps_ret pe_bl)) pss_nil)
      (pss_cons (ps_mid (ps_for PassesOwn.never rfl (pi_list (pe_lst (pa_cons (pe_tup (pa_cons pe_int (pa_cons pe_int (pa_cons pe_str pa_nil)))) (pa_cons (pe_tup (pa_cons pe_int (pa_cons pe_int (pa_cons pe_str pa_nil)))) (pa_cons (pe_tup (pa_cons pe_int (pa_cons pe_int (pa_cons pe_str pa_nil)))) pa_nil))))) (pg_tup (by rfl) (pgs_cons (pg_name (i := 10) nd rfl (Or.inl rfl)) (pgs_cons (pg_name (i := 4) nd rfl (Or.inl rfl)) (pgs_cons (pg_name (i := 9) nd rfl (Or.inl rfl)) pgs_nil)))) (pss_one (ps_if (pt_mid (pt_cmpR op_ne (pcl Wo hr (by decide) (by rfl) (pa_cons pe_int (pa_cons (pe_lst (pa_cons (pe_lst (pa_cons (pe_tup (pa_cons pe_int (pa_cons (pv 10) (pa_cons pe_str pa_nil)))) pa_nil)) (pa_cons (pe_tup (pa_cons pe_int (pa_cons (pv 4) (pa_cons pe_str pa_nil)))) (pa_cons pe_int (pa_cons pe_int (pa_cons pe_int pa_nil)))))) pa_nil))) (pv 9) (nomark _))) (pss_one (ps_ret pe_bl)) pss_nil))))
      (pss_one (ps_ret (pe_cmpR (op_eqD hr.units) (pv 11) (pe_lst (pa_cons pe_str (pa_cons pe_str (pa_cons pe_str (pa_cons pe_str pa_nil))))) (nomark _))))))))))))), ?_⟩
    refine ⟨fun st Hz => ∃ a c : Addr, st = [some (.ref l), some (.ref a), none, none, none, none, none, none, none, none, none, none] ∧ Src Hz a c 0, ?_, ?_⟩
    · walk_at "rd"
      refine ⟨l, ns, rfl, hl, nl, fun a c H1 _ _ _ S1 => ?_⟩
      exact ⟨a, c, rfl, S1⟩
    rintro st H1 ⟨a, c, rfl, S1⟩
    refine ⟨fun st Hz => ∃ (x2 x3 x4 x5 : Option V), st = [some (.ref l), some (.ref a), x2, x3, x4, x5, none, none, none, none, none, none], ?_, ?_⟩
    · walk_at "rd"
      refine ⟨by decide, by decide, ?_⟩
      refine for_range (n := 20) (fun i st Hz => ∃ (x2 x3 x4 x5 : Option V) (t : Nat), st = [some (.ref l), some (.ref a), x2, x3, x4, x5, none, none, none, none, none, none] ∧ Src Hz a c t ∧ t ≤ 1000 * i) ⟨none, none, none, none, 0, rfl, S1, by omega⟩ ?_ (fun st Hz ⟨x2, x3, x4, x5, t, e, S, tb⟩ => ⟨x2, x3, x4, x5, e⟩)
      rintro i st Ha hi ⟨x2, x3, x4, x5, t, rfl, Sa, tb⟩
      walk_at "rd"
      refine ⟨fun st Hz => ∃ (p1 p2 : Addr) (o1 s1 : Int) (m1 : Str) (o2 s2 : Int) (m2 : Str) (t' : Nat), st = [some (.ref l), some (.ref a), some (.int (0 + (i : Int))), some (.ref p1), some (.ref p2), x5, none, none, none, none, none, none] ∧ Src Hz a c t' ∧ t' ≤ t + 400 ∧ Hz p1 = some (sideV o1 s1 m1) ∧ SideP o1 s1 m1 ∧ Hz p2 = some (sideV o2 s2 m2) ∧ SideP o2 s2 m2, ?_, ?_⟩
      · walk_at "rd"
        refine ⟨a, c, t, 30, rfl, Sa, by decide, by decide, by omega, fun p1 o1 s1 m1 H2 t2 n1 h1 P1 _ tb2 S2 O2 => ?_⟩
        walk_at "rd"
        refine ⟨a, c, t2, 30, rfl, S2, by decide, by decide, by omega, fun p2 o2 s2 m2 H3 t3 n2 h2 P2 _ tb3 S3 O3 => ?_⟩
        have nt1 := S2.nt h1
        exact ⟨_, _, rfl, p1, p2, o1, s1, m1, o2, s2, m2, t3, rfl, S3, by omega, O3 _ _ h1 nt1.1 nt1.2, P1, h2, P2⟩
      rintro st H2 ⟨p1, p2, o1, s1, m1, o2, s2, m2, t2, rfl, S2, tb2, h1, P1, h2, P2⟩
      refine ⟨fun st Hz => ∃ (b : V) (t' : Nat), st = [some (.ref l), some (.ref a), some (.int (0 + (i : Int))), some (.ref p1), some (.ref p2), some b, none, none, none, none, none, none] ∧ Src Hz a c t' ∧ t' ≤ t2 + 10 ∧ Hz p1 = some (sideV o1 s1 m1) ∧ Hz p2 = some (sideV o2 s2 m2) ∧ SiQ K (Off a c Hz) b, ?_, ?_⟩
      · walk_at "rd"
        refine ⟨a, c, t2, p1, o1, s1, m1, rfl, S2, by omega, h1, P1, fun x H3 t3 sq tb3 S3 O3 => ?_⟩
        have nt1 := S2.nt h1
        have nt2 := S2.nt h2
        exact ⟨x, t3, rfl, S3, tb3, O3 _ _ h1 nt1.1 nt1.2, O3 _ _ h2 nt2.1 nt2.2, sq⟩
      rintro st H3 ⟨b, t3, rfl, S3, tb3, h1', h2', sq⟩
      clear h1 h2 S2
      walk_at "rd"
      refine ⟨fun b2 Hz => ∃ t' : Nat, b2 = false ∧ Src Hz a c t' ∧ t' ≤ t3 + 10, ?_, ?_⟩
      · walk_at "rd"
        have g1 : GoodS (Off a c H3) (.ref p1) := ⟨p1, o1, s1, m1, rfl, Off.at_ (S3.nt h1') h1', P1⟩
        have g2 : GoodS (Off a c H3) (.ref p2) := ⟨p2, o2, s2, m2, rfl, Off.at_ (S3.nt h2') h2', P2⟩
        refine ⟨a, c, t3, _, _, _, rfl, S3, by omega, g1, g2, sq, fun H4 t4 tb4 S4 O4 => ?_⟩
        refine ⟨_, rfl, ?_⟩
        refine ite2 (fun z => absurd z (by decide)) (fun _ => ?_)
        walk_at "rd"
        have nt1 := S3.nt h1'
        refine ⟨a, p1, o1, s1, m1, b, rfl, O4 _ _ h1' nt1.1 nt1.2, P1, (sq.same (Off.oth O4)).same off_up, fun H5 s5 => ?_⟩
        exact ⟨_, rfl, t4, rfl, S4.of_same s5, tb4⟩
      rintro b2 H4 ⟨t4, rfl, S4, tb4⟩
      refine ite2 (fun z => absurd z (by decide)) (fun _ => ?_)
      exact ⟨_, _, _, _, t4, rfl, S4, by omega⟩
    rintro st H2 ⟨x2, x3, x4, x5, rfl⟩
    clear S1
    have up : ∀ {s : Int}, 1 ≤ s ∧ s ≤ 10 ^ 30 → SideP 0 s "up" := fun h => upS h
    refine ⟨fun st G => ∃ (rw r1 r2 r3 L1 L2 L3 q1 q2 q3 : Addr), st = [some (.ref l), some (.ref a), x2, x3, x4, x5, some (.ref rw), none, none, none, none, none] ∧ G rw = some (.lst [.ref r1, .ref r2, .ref r3]) ∧ G r1 = some (.tup [.ref L1, .int 240, .str "good"]) ∧ G r2 = some (.tup [.ref L2, .int 240, .str "good"]) ∧ G r3 = some (.tup [.ref L3, .int 0, .str "many"]) ∧ G L1 = some (.lst [.ref q1]) ∧ G L2 = some (.lst [.ref q2]) ∧ G L3 = some (.lst [.ref q3]) ∧ G q1 = some (sideV 0 120 "up") ∧ G q2 = some (sideV 0 60 "half_even") ∧ G q3 = some (sideV 0 121 "up"), ?_, ?_⟩
    · walk_at "rd"
      refine ⟨(by show 3 ≤ sizeLine; decide), fun b1 nb1 => ?_⟩
      have gb1 : upd H2 b1 (.tup [V.int 0, .int 120, .str "up"]) b1 = some (.tup [V.int 0, .int 120, .str "up"]) := upd_same
      have sb1 : Same H2 (upd H2 b1 (.tup [V.int 0, .int 120, .str "up"])) := same_upd nb1
      generalize upd H2 b1 (.tup [V.int 0, .int 120, .str "up"]) = Hb1 at gb1 sb1 ⊢
      walk_at "rd"
      refine ⟨(by show 1 ≤ sizeLine; decide), fun b2 nb2 => ?_⟩
      have gb2 : upd Hb1 b2 (.lst [V.ref b1]) b2 = some (.lst [V.ref b1]) := upd_same
      have sb2 : Same Hb1 (upd Hb1 b2 (.lst [V.ref b1])) := same_upd nb2
      generalize upd Hb1 b2 (.lst [V.ref b1]) = Hb2 at gb2 sb2 ⊢
      walk_at "rd"
      refine ⟨(by show 3 ≤ sizeLine; decide), fun b3 nb3 => ?_⟩
      have gb3 : upd Hb2 b3 (.tup [V.ref b2, .int 240, .str "good"]) b3 = some (.tup [V.ref b2, .int 240, .str "good"]) := upd_same
      have sb3 : Same Hb2 (upd Hb2 b3 (.tup [V.ref b2, .int 240, .str "good"])) := same_upd nb3
      generalize upd Hb2 b3 (.tup [V.ref b2, .int 240, .str "good"]) = Hb3 at gb3 sb3 ⊢
      walk_at "rd"
      refine ⟨(by show 3 ≤ sizeLine; decide), fun b4 nb4 => ?_⟩
      have gb4 : upd Hb3 b4 (.tup [V.int 0, .int 60, .str "half_even"]) b4 = some (.tup [V.int 0, .int 60, .str "half_even"]) := upd_same
      have sb4 : Same Hb3 (upd Hb3 b4 (.tup [V.int 0, .int 60, .str "half_even"])) := same_upd nb4
      generalize upd Hb3 b4 (.tup [V.int 0, .int 60, .str "half_even"]) = Hb4 at gb4 sb4 ⊢
      walk_at "rd"
      refine ⟨(by show 1 ≤ sizeLine; decide), fun b5 nb5 => ?_⟩
      have gb5 : upd Hb4 b5 (.lst [V.ref b4]) b5 = some (.lst [V.ref b4]) := upd_same
      have sb5 : Same Hb4 (upd Hb4 b5 (.lst [V.ref b4])) := same_upd nb5
      generalize upd Hb4 b5 (.lst [V.ref b4]) = Hb5 at gb5 sb5 ⊢
      walk_at "rd"
      refine ⟨(by show 3 ≤ sizeLine; decide), fun b6 nb6 => ?_⟩
      have gb6 : upd Hb5 b6 (.tup [V.ref b5, .int 240, .str "good"]) b6 = some (.tup [V.ref b5, .int 240, .str "good"]) := upd_same
      have sb6 : Same Hb5 (upd Hb5 b6 (.tup [V.ref b5, .int 240, .str "good"])) := same_upd nb6
      generalize upd Hb5 b6 (.tup [V.ref b5, .int 240, .str "good"]) = Hb6 at gb6 sb6 ⊢
      walk_at "rd"
      refine ⟨(by show 3 ≤ sizeLine; decide), fun b7 nb7 => ?_⟩
      have gb7 : upd Hb6 b7 (.tup [V.int 0, .int 121, .str "up"]) b7 = some (.tup [V.int 0, .int 121, .str "up"]) := upd_same
      have sb7 : Same Hb6 (upd Hb6 b7 (.tup [V.int 0, .int 121, .str "up"])) := same_upd nb7
      generalize upd Hb6 b7 (.tup [V.int 0, .int 121, .str "up"]) = Hb7 at gb7 sb7 ⊢
      walk_at "rd"
      refine ⟨(by show 1 ≤ sizeLine; decide), fun b8 nb8 => ?_⟩
      have gb8 : upd Hb7 b8 (.lst [V.ref b7]) b8 = some (.lst [V.ref b7]) := upd_same
      have sb8 : Same Hb7 (upd Hb7 b8 (.lst [V.ref b7])) := same_upd nb8
      generalize upd Hb7 b8 (.lst [V.ref b7]) = Hb8 at gb8 sb8 ⊢
      walk_at "rd"
      refine ⟨(by show 3 ≤ sizeLine; decide), fun b9 nb9 => ?_⟩
      have gb9 : upd Hb8 b9 (.tup [V.ref b8, .int 0, .str "many"]) b9 = some (.tup [V.ref b8, .int 0, .str "many"]) := upd_same
      have sb9 : Same Hb8 (upd Hb8 b9 (.tup [V.ref b8, .int 0, .str "many"])) := same_upd nb9
      generalize upd Hb8 b9 (.tup [V.ref b8, .int 0, .str "many"]) = Hb9 at gb9 sb9 ⊢
      walk_at "rd"
      refine ⟨(by show 3 ≤ sizeLine; decide), fun b10 nb10 => ?_⟩
      have gb10 : upd Hb9 b10 (.lst [V.ref b3, .ref b6, .ref b9]) b10 = some (.lst [V.ref b3, .ref b6, .ref b9]) := upd_same
      have sb10 : Same Hb9 (upd Hb9 b10 (.lst [V.ref b3, .ref b6, .ref b9])) := same_upd nb10
      generalize upd Hb9 b10 (.lst [V.ref b3, .ref b6, .ref b9]) = Hb10 at gb10 sb10 ⊢
      exact ⟨b10, b3, b6, b9, b2, b5, b8, b1, b4, b7, rfl, gb10, (sb10 _ _ (sb9 _ _ (sb8 _ _ (sb7 _ _ (sb6 _ _ (sb5 _ _ (sb4 _ _ gb3))))))), (sb10 _ _ (sb9 _ _ (sb8 _ _ (sb7 _ _ gb6)))), (sb10 _ _ gb9), (sb10 _ _ (sb9 _ _ (sb8 _ _ (sb7 _ _ (sb6 _ _ (sb5 _ _ (sb4 _ _ (sb3 _ _ gb2)))))))), (sb10 _ _ (sb9 _ _ (sb8 _ _ (sb7 _ _ (sb6 _ _ gb5))))), (sb10 _ _ (sb9 _ _ gb8)), (sb10 _ _ (sb9 _ _ (sb8 _ _ (sb7 _ _ (sb6 _ _ (sb5 _ _ (sb4 _ _ (sb3 _ _ (sb2 _ _ gb1))))))))), (sb10 _ _ (sb9 _ _ (sb8 _ _ (sb7 _ _ (sb6 _ _ (sb5 _ _ gb4)))))), (sb10 _ _ (sb9 _ _ (sb8 _ _ gb7)))⟩
    rintro st H3 ⟨rw, r1, r2, r3, L1, L2, L3, q1, q2, q3, rfl, hrw, hr1, hr2, hr3, hL1, hL2, hL3, hq1, hq2, hq3⟩
    refine ⟨fun st G => ∃ x7 x8 x9 : Option V, st = [some (.ref l), some (.ref a), x2, x3, x4, x5, some (.ref rw), x7, x8, x9, none, none] ∧ Same H3 G, ?_, ?_⟩
    · walk_at "rd"
      refine ⟨⟨_, SqL.of hrw⟩, ?_⟩
      refine for_list (K := K) (a := rw) (xs := [.ref r1, .ref r2, .ref r3]) (fun i st G => ∃ x7 x8 x9 : Option V, st = [some (.ref l), some (.ref a), x2, x3, x4, x5, some (.ref rw), x7, x8, x9, none, none] ∧ Same H3 G) ⟨none, none, none, rfl, Same.refl _⟩ (fun _ _ _ _ ⟨_, _, _, _, s⟩ => SqL.of (s _ _ hrw)) ?_ (fun st G z => z)
      rintro i y st G hy ⟨x7, x8, x9, rfl, sG⟩
      obtain ⟨r, L, v, wd, rfl, hr, ask⟩ : ∃ (r L : Addr) (v : Int) (wd : Option Nat), y = .ref r ∧ G r = some (.tup [.ref L, .int v, .str (wordS wd)]) ∧ ∀ x, (x = v ∨ x = -v) → AskW K G 3 (.ref L) (.int 0) (.int 0) (.int x) (.int 0) wd := by
        match i, hy with
        | 0, hy =>
          cases hy
          refine ⟨r1, L1, 240, none, rfl, sG _ _ hr1, fun x hx => ?_⟩
          rcases hx with rfl | rfl
          · exact .m4 (d := ⟨0, 120, "up"⟩) (sG _ _ hL1) (sG _ _ hq1) (up (by decide)) (by decide) (by decide) (by decide +kernel)
          · exact .m4 (d := ⟨0, 120, "up"⟩) (sG _ _ hL1) (sG _ _ hq1) (up (by decide)) (by decide) (by decide) (by decide +kernel)
        | 1, hy =>
          cases hy
          have hs : SideP 0 60 "half_even" := ⟨by decide, by decide, by decide, by decide, .inr (.inr (.inr (.inr rfl)))⟩
          refine ⟨r2, L2, 240, none, rfl, sG _ _ hr2, fun x hx => ?_⟩
          rcases hx with rfl | rfl
          · exact .m4 (d := ⟨0, 60, "half_even"⟩) (sG _ _ hL2) (sG _ _ hq2) hs (by decide) (by decide) (by decide +kernel)
          · exact .m4 (d := ⟨0, 60, "half_even"⟩) (sG _ _ hL2) (sG _ _ hq2) hs (by decide) (by decide) (by decide +kernel)
        | 2, hy =>
          cases hy
          refine ⟨r3, L3, 0, some 2, rfl, sG _ _ hr3, fun x hx => ?_⟩
          rcases hx with rfl | rfl
          · exact .m3 (d := ⟨0, 121, "up"⟩) (sG _ _ hL3) (sG _ _ hq3) (up (by decide)) (by decide) (by decide) (by decide +kernel)
          · exact .m3 (d := ⟨0, 121, "up"⟩) (sG _ _ hL3) (sG _ _ hq3) (up (by decide)) (by decide) (by decide) (by decide +kernel)
        | n + 3, hy => cases hy
      refine ⟨r, _, rfl, SqT.of hr, rfl, _, _, rfl, _, _, rfl, _, _, rfl, rfl, ?_⟩
      walk_at "rd"
      refine ⟨fun b2 G2 => b2 = false ∧ Same G G2, ?_, ?_⟩
      · walk_at "rd"
        refine ⟨(by show 5 ≤ sizeLine; decide), fun k1 nk1 => ?_⟩
        have gk1 : upd G k1 (.lst [.ref L, .int 0, .int 0, .int v, .int 0]) k1 = some (.lst [.ref L, .int 0, .int 0, .int v, .int 0]) := upd_same
        have sk1 : Same G (upd G k1 (.lst [.ref L, .int 0, .int 0, .int v, .int 0])) := same_upd nk1
        generalize upd G k1 (.lst [.ref L, .int 0, .int 0, .int v, .int 0]) = Hk1 at gk1 sk1 ⊢
        refine ⟨3, k1, _, _, _, _, _, wd, rfl, gk1, ((ask v (.inl rfl)).same sk1), fun HWk2 swk2 => ?_⟩
        walk_at "rd"
        refine ⟨rfl, ?_⟩
        refine ⟨_, rfl, ?_⟩
        refine ite2 (fun z => absurd z (by rw [decide_eq_true rfl]; decide)) (fun _ => ?_)
        walk_at "rd"
        refine ⟨(by show 5 ≤ sizeLine; decide), fun k3 nk3 => ?_⟩
        have gk3 : upd HWk2 k3 (.lst [.ref L, .int 0, .int 0, .int (-v), .int 0]) k3 = some (.lst [.ref L, .int 0, .int 0, .int (-v), .int 0]) := upd_same
        have sk3 : Same HWk2 (upd HWk2 k3 (.lst [.ref L, .int 0, .int 0, .int (-v), .int 0])) := same_upd nk3
        generalize upd HWk2 k3 (.lst [.ref L, .int 0, .int 0, .int (-v), .int 0]) = Hk3 at gk3 sk3 ⊢
        refine ⟨3, k3, _, _, _, _, _, wd, rfl, gk3, ((ask (-v) (.inr rfl)).same (sk1.trans (swk2.trans sk3))), fun HWk4 swk4 => ?_⟩
        walk_at "rd"
        refine ⟨rfl, ?_⟩
        exact ⟨_, rfl, by rw [decide_eq_true rfl]; rfl, (sk1.trans (swk2.trans (sk3.trans swk4)))⟩
      rintro b2 G2 ⟨rfl, sG2⟩
      refine ite2 (fun z => absurd z (by decide)) (fun _ => ?_)
      exact ⟨_, _, _, rfl, sG.trans sG2⟩
    rintro st H4 ⟨x7, x8, x9, rfl, s4⟩
    clear hrw hr1 hr2 hr3 hL1 hL2 hL3 hq1 hq2 hq3 s4
    walk_at "rd"
    refine ⟨fun b2 G => b2 = false ∧ Same H4 G, ?_, ?_⟩
    · walk_at "rd"
      refine ⟨(by show 4 ≤ sizeLine; decide), fun lw1 nlw1 => ?_⟩
      have glw1 : upd H4 lw1 (.lst [V.int 247, .int 248, .int (-233), .int (-234)]) lw1 = some (.lst [V.int 247, .int 248, .int (-233), .int (-234)]) := upd_same
      have slw1 : Same H4 (upd H4 lw1 (.lst [V.int 247, .int 248, .int (-233), .int (-234)])) := same_upd nlw1
      generalize upd H4 lw1 (.lst [V.int 247, .int 248, .int (-233), .int (-234)]) = Hlw1 at glw1 slw1 ⊢
      walk_at "rd"
      refine ⟨⟨_, SqL.of glw1⟩, fun Dl nDl => ?_⟩
      refine lc_list (K := K) (a := lw1) (xs := [V.int 247, .int 248, .int (-233), .int (-234)]) (fun i G2 => G2 Dl = some (.lst (((["good", "many", "good", "many"] : List Str).take i).map V.str)) ∧ G2 lw1 = some (.lst [V.int 247, .int 248, .int (-233), .int (-234)]) ∧ Same Hlw1 G2) ⟨upd_same, (upd_ne (ne_of_none glw1 nDl)).trans glw1, same_upd nDl⟩ (fun _ _ _ z => SqL.of z.2.1) ?_ ?_
      · rintro i y G2 hy ⟨hD, hl, s2⟩
        have i4 : i < 4 := (List.getElem?_eq_some_iff.mp hy).1
        refine ⟨rfl, ?_⟩
        walk_at "rd"
        refine ⟨(by show 3 ≤ sizeLine; decide), fun pw1 npw1 => ?_⟩
        have gpw1 : upd G2 pw1 (.tup [V.int 0, .int 5, .str "up"]) pw1 = some (.tup [V.int 0, .int 5, .str "up"]) := upd_same
        have spw1 : Same G2 (upd G2 pw1 (.tup [V.int 0, .int 5, .str "up"])) := same_upd npw1
        generalize upd G2 pw1 (.tup [V.int 0, .int 5, .str "up"]) = Hpw1 at gpw1 spw1 ⊢
        walk_at "rd"
        refine ⟨(by show 1 ≤ sizeLine; decide), fun pw2 npw2 => ?_⟩
        have gpw2 : upd Hpw1 pw2 (.lst [V.ref pw1]) pw2 = some (.lst [V.ref pw1]) := upd_same
        have spw2 : Same Hpw1 (upd Hpw1 pw2 (.lst [V.ref pw1])) := same_upd npw2
        generalize upd Hpw1 pw2 (.lst [V.ref pw1]) = Hpw2 at gpw2 spw2 ⊢
        walk_at "rd"
        obtain ⟨wd, ew, ask⟩ : ∃ wd, (["good", "many", "good", "many"] : List Str)[i]? = some (wordS wd) ∧ ∀ G, Same Hpw2 G → AskW K G 3 (.ref pw2) (.int 0) (.int 7) y (.int 0) wd := by
          have sd := up (s := 5) (by decide)
          match i, hy with
          | 0, hy => cases hy; exact ⟨none, rfl, fun G e => .m4 (d := ⟨0, 5, "up"⟩) (e _ _ gpw2) (e _ _ (spw2 _ _ gpw1)) sd (by decide) (by decide) (by decide +kernel)⟩
          | 1, hy => cases hy; exact ⟨some 2, rfl, fun G e => .m3 (d := ⟨0, 5, "up"⟩) (e _ _ gpw2) (e _ _ (spw2 _ _ gpw1)) sd (by decide) (by decide) (by decide +kernel)⟩
          | 2, hy => cases hy; exact ⟨none, rfl, fun G e => .m4 (d := ⟨0, 5, "up"⟩) (e _ _ gpw2) (e _ _ (spw2 _ _ gpw1)) sd (by decide) (by decide) (by decide +kernel)⟩
          | 3, hy => cases hy; exact ⟨some 2, rfl, fun G e => .m3 (d := ⟨0, 5, "up"⟩) (e _ _ gpw2) (e _ _ (spw2 _ _ gpw1)) sd (by decide) (by decide) (by decide +kernel)⟩
          | n + 4, hy => cases hy
        refine ⟨(by show 5 ≤ sizeLine; decide), fun pw3 npw3 => ?_⟩
        have gpw3 : upd Hpw2 pw3 (.lst [.ref pw2, .int 0, .int 7, y, .int 0]) pw3 = some (.lst [.ref pw2, .int 0, .int 7, y, .int 0]) := upd_same
        have spw3 : Same Hpw2 (upd Hpw2 pw3 (.lst [.ref pw2, .int 0, .int 7, y, .int 0])) := same_upd npw3
        generalize upd Hpw2 pw3 (.lst [.ref pw2, .int 0, .int 7, y, .int 0]) = Hpw3 at gpw3 spw3 ⊢
        refine ⟨3, pw3, _, _, _, _, _, wd, rfl, gpw3, (ask _ spw3), fun HWpw4 swpw4 => ?_⟩
        refine ⟨_, (spw1.trans (spw2.trans (spw3.trans swpw4))) _ _ hD, (by rw [List.length_map, List.length_take]; exact Nat.lt_of_lt_of_le (by omega : min i _ < 10) (by decide)), ?_, ?_, ?_⟩
        · rw [upd_same, List.take_succ, ew, List.map_append]
          rfl
        · exact (upd_ne (ne_of_none glw1 nDl)).trans ((spw1.trans (spw2.trans (spw3.trans swpw4))) _ _ hl)
        · exact fun b1 u1 z => (upd_ne (ne_of_none z nDl)).trans ((spw1.trans (spw2.trans (spw3.trans swpw4))) _ _ (s2 _ _ z))
      · rintro G2 ⟨hD, hl, s2⟩
        walk_at "rd"
        refine ⟨(by show 2 ≤ sizeLine; decide), fun z1 nz1 => ?_⟩
        have gz1 : upd G2 z1 (.lst [.str "good", .str "many"]) z1 = some (.lst [.str "good", .str "many"]) := upd_same
        have sz1 : Same G2 (upd G2 z1 (.lst [.str "good", .str "many"])) := same_upd nz1
        generalize upd G2 z1 (.lst [.str "good", .str "many"]) = G3 at gz1 sz1 ⊢
        walk_at "rd"
        refine ⟨z1, _, _, rfl, rfl, gz1, by decide, by decide, (by show 2 * 2 ≤ sizeLine; decide), fun z2 nz2 => ?_⟩
        have gz2 : upd G3 z2 (.lst (List.replicate (Int.toNat 2) [V.str "good", .str "many"]).flatten) z2 = some (.lst ((["good", "many", "good", "many"] : List Str).map V.str)) := upd_same
        have sz2 : Same G3 (upd G3 z2 (.lst (List.replicate (Int.toNat 2) [V.str "good", .str "many"]).flatten)) := same_upd nz2
        generalize upd G3 z2 (.lst (List.replicate (Int.toNat 2) [V.str "good", .str "many"]).flatten) = G4 at gz2 sz2 ⊢
        refine ⟨_, _, dp_strs (A := ["good", "many", "good", "many"]) (sz2 _ _ (sz1 _ _ hD)), dp_strs gz2, by decide +kernel, by decide +kernel, ?_⟩
        rw [show (!PyData.eqv (.list ((["good", "many", "good", "many"] : List Str).map PyData.str)) (.list ((["good", "many", "good", "many"] : List Str).map PyData.str))) = false by decide +kernel]
        exact ⟨_, rfl, rfl, slw1.trans (s2.trans (sz1.trans sz2))⟩
    rintro b2 H5 ⟨rfl, s5⟩
    refine ite2 (fun z => absurd z (by decide)) (fun _ => ?_)
    clear s5
    refine ⟨fun st G => ∃ fo : Addr, st = [some (.ref l), some (.ref a), x2, x3, x4, x5, some (.ref rw), x7, x8, x9, none, some (.ref fo)] ∧ G fo = some (.lst ((["good", "many", "many", "many"] : List Str).map V.str)), ?_, ?_⟩
    · walk_at "rd"
      refine ⟨(by show 4 ≤ sizeLine; decide), fun lw1 nlw1 => ?_⟩
      have glw1 : upd H5 lw1 (.lst [V.int 20000, .int 4001, .int 20001, .int 200000]) lw1 = some (.lst [V.int 20000, .int 4001, .int 20001, .int 200000]) := upd_same
      have slw1 : Same H5 (upd H5 lw1 (.lst [V.int 20000, .int 4001, .int 20001, .int 200000])) := same_upd nlw1
      generalize upd H5 lw1 (.lst [V.int 20000, .int 4001, .int 20001, .int 200000]) = Hlw1 at glw1 slw1 ⊢
      walk_at "rd"
      refine ⟨⟨_, SqL.of glw1⟩, fun Dl nDl => ?_⟩
      refine lc_list (K := K) (a := lw1) (xs := [V.int 20000, .int 4001, .int 20001, .int 200000]) (fun i G2 => G2 Dl = some (.lst (((["good", "many", "many", "many"] : List Str).take i).map V.str)) ∧ G2 lw1 = some (.lst [V.int 20000, .int 4001, .int 20001, .int 200000]) ∧ Same Hlw1 G2) ⟨upd_same, (upd_ne (ne_of_none glw1 nDl)).trans glw1, same_upd nDl⟩ (fun _ _ _ z => SqL.of z.2.1) ?_ ?_
      · rintro i y G2 hy ⟨hD, hl, s2⟩
        have i4 : i < 4 := (List.getElem?_eq_some_iff.mp hy).1
        refine ⟨rfl, ?_⟩
        walk_at "rd"
        refine ⟨(by show 3 ≤ sizeLine; decide), fun pw1 npw1 => ?_⟩
        have gpw1 : upd G2 pw1 (.tup [V.int 0, .int 5, .str "up"]) pw1 = some (.tup [V.int 0, .int 5, .str "up"]) := upd_same
        have spw1 : Same G2 (upd G2 pw1 (.tup [V.int 0, .int 5, .str "up"])) := same_upd npw1
        generalize upd G2 pw1 (.tup [V.int 0, .int 5, .str "up"]) = Hpw1 at gpw1 spw1 ⊢
        walk_at "rd"
        refine ⟨(by show 1 ≤ sizeLine; decide), fun pw2 npw2 => ?_⟩
        have gpw2 : upd Hpw1 pw2 (.lst [V.ref pw1]) pw2 = some (.lst [V.ref pw1]) := upd_same
        have spw2 : Same Hpw1 (upd Hpw1 pw2 (.lst [V.ref pw1])) := same_upd npw2
        generalize upd Hpw1 pw2 (.lst [V.ref pw1]) = Hpw2 at gpw2 spw2 ⊢
        walk_at "rd"
        obtain ⟨sv, rfl, sb⟩ : ∃ sv : Int, y = .int sv ∧ (1 ≤ sv ∧ sv ≤ 10 ^ 30) := by
          match i, hy with
          | 0, hy => cases hy; exact ⟨_, rfl, by decide⟩
          | 1, hy => cases hy; exact ⟨_, rfl, by decide⟩
          | 2, hy => cases hy; exact ⟨_, rfl, by decide⟩
          | 3, hy => cases hy; exact ⟨_, rfl, by decide⟩
          | n + 4, hy => cases hy
        refine ⟨(by show 3 ≤ sizeLine; decide), fun pw3 npw3 => ?_⟩
        have gpw3 : upd Hpw2 pw3 (.tup [V.int 0, .int sv, .str "up"]) pw3 = some (.tup [V.int 0, .int sv, .str "up"]) := upd_same
        have spw3 : Same Hpw2 (upd Hpw2 pw3 (.tup [V.int 0, .int sv, .str "up"])) := same_upd npw3
        generalize upd Hpw2 pw3 (.tup [V.int 0, .int sv, .str "up"]) = Hpw3 at gpw3 spw3 ⊢
        walk_at "rd"
        obtain ⟨wd, ew, ask⟩ : ∃ wd, (["good", "many", "many", "many"] : List Str)[i]? = some (wordS wd) ∧ ∀ G, Same Hpw3 G → AskW K G 4 (.ref pw2) (.ref pw3) (.int 0) (.int 0) (.int 0) wd := by
          have h1 : SidesAt Hpw3 pw2 [.ref pw1] [⟨0, 5, "up"⟩] := sidesAt1 (d := ⟨0, 5, "up"⟩) (spw3 _ _ gpw2) (spw3 _ _ (spw2 _ _ gpw1)) (up (s := 5) (by decide))
          have h2 : Hpw3 pw3 = some (sideV 0 sv "up") := gpw3
          match i, hy with
          | 0, hy => cases hy; exact ⟨none, rfl, fun G e => .f4 (h1.same e) (by show 1 ≤ 3; decide) (e _ _ h2) (up (by decide)) (by decide +kernel)⟩
          | 1, hy => cases hy; exact ⟨some 2, rfl, fun G e => .f3 (h1.same e) (by show 1 ≤ 3; decide) (e _ _ h2) (up (by decide)) (by decide +kernel)⟩
          | 2, hy => cases hy; exact ⟨some 2, rfl, fun G e => .f3 (h1.same e) (by show 1 ≤ 3; decide) (e _ _ h2) (up (by decide)) (by decide +kernel)⟩
          | 3, hy => cases hy; exact ⟨some 2, rfl, fun G e => .f3 (h1.same e) (by show 1 ≤ 3; decide) (e _ _ h2) (up (by decide)) (by decide +kernel)⟩
          | n + 4, hy => cases hy
        refine ⟨(by show 5 ≤ sizeLine; decide), fun pw4 npw4 => ?_⟩
        have gpw4 : upd Hpw3 pw4 (.lst [.ref pw2, .ref pw3, .int 0, .int 0, .int 0]) pw4 = some (.lst [.ref pw2, .ref pw3, .int 0, .int 0, .int 0]) := upd_same
        have spw4 : Same Hpw3 (upd Hpw3 pw4 (.lst [.ref pw2, .ref pw3, .int 0, .int 0, .int 0])) := same_upd npw4
        generalize upd Hpw3 pw4 (.lst [.ref pw2, .ref pw3, .int 0, .int 0, .int 0]) = Hpw4 at gpw4 spw4 ⊢
        refine ⟨4, pw4, _, _, _, _, _, wd, rfl, gpw4, (ask _ spw4), fun HWpw5 swpw5 => ?_⟩
        refine ⟨_, (spw1.trans (spw2.trans (spw3.trans (spw4.trans swpw5)))) _ _ hD, (by rw [List.length_map, List.length_take]; exact Nat.lt_of_lt_of_le (by omega : min i _ < 10) (by decide)), ?_, ?_, ?_⟩
        · rw [upd_same, List.take_succ, ew, List.map_append]
          rfl
        · exact (upd_ne (ne_of_none glw1 nDl)).trans ((spw1.trans (spw2.trans (spw3.trans (spw4.trans swpw5)))) _ _ hl)
        · exact fun b1 u1 z => (upd_ne (ne_of_none z nDl)).trans ((spw1.trans (spw2.trans (spw3.trans (spw4.trans swpw5)))) _ _ (s2 _ _ z))
      · rintro G2 ⟨hD, hl, s2⟩
        exact ⟨Dl, rfl, hD⟩
    rintro st H6 ⟨fo, rfl, hfo⟩
    walk_at "rd"
    refine ⟨fun b2 G => b2 = false ∧ Same H6 G, ?_, ?_⟩
    · walk_at "rd"
      refine ⟨(by show 3 ≤ sizeLine; decide), fun k1 nk1 => ?_⟩
      have gk1 : upd H6 k1 (.tup [V.int 0, .int 3, .str "up"]) k1 = some (.tup [V.int 0, .int 3, .str "up"]) := upd_same
      have sk1 : Same H6 (upd H6 k1 (.tup [V.int 0, .int 3, .str "up"])) := same_upd nk1
      generalize upd H6 k1 (.tup [V.int 0, .int 3, .str "up"]) = Hk1 at gk1 sk1 ⊢
      walk_at "rd"
      refine ⟨(by show 3 ≤ sizeLine; decide), fun k2 nk2 => ?_⟩
      have gk2 : upd Hk1 k2 (.tup [V.int 0, .int 7, .str "up"]) k2 = some (.tup [V.int 0, .int 7, .str "up"]) := upd_same
      have sk2 : Same Hk1 (upd Hk1 k2 (.tup [V.int 0, .int 7, .str "up"])) := same_upd nk2
      generalize upd Hk1 k2 (.tup [V.int 0, .int 7, .str "up"]) = Hk2 at gk2 sk2 ⊢
      walk_at "rd"
      refine ⟨(by show 2 ≤ sizeLine; decide), fun k3 nk3 => ?_⟩
      have gk3 : upd Hk2 k3 (.lst [V.ref k1, .ref k2]) k3 = some (.lst [V.ref k1, .ref k2]) := upd_same
      have sk3 : Same Hk2 (upd Hk2 k3 (.lst [V.ref k1, .ref k2])) := same_upd nk3
      generalize upd Hk2 k3 (.lst [V.ref k1, .ref k2]) = Hk3 at gk3 sk3 ⊢
      walk_at "rd"
      refine ⟨(by show 3 ≤ sizeLine; decide), fun k4 nk4 => ?_⟩
      have gk4 : upd Hk3 k4 (.tup [V.int 0, .int 1000, .str "up"]) k4 = some (.tup [V.int 0, .int 1000, .str "up"]) := upd_same
      have sk4 : Same Hk3 (upd Hk3 k4 (.tup [V.int 0, .int 1000, .str "up"])) := same_upd nk4
      generalize upd Hk3 k4 (.tup [V.int 0, .int 1000, .str "up"]) = Hk4 at gk4 sk4 ⊢
      walk_at "rd"
      have T2 : SideP 0 7 "up" := (up (s := 7) (by decide))
      refine ⟨(by show 5 ≤ sizeLine; decide), fun k5 nk5 => ?_⟩
      have gk5 : upd Hk4 k5 (.lst [.ref k3, .ref k4, .int 0, .int 0, .int 0]) k5 = some (.lst [.ref k3, .ref k4, .int 0, .int 0, .int 0]) := upd_same
      have sk5 : Same Hk4 (upd Hk4 k5 (.lst [.ref k3, .ref k4, .int 0, .int 0, .int 0])) := same_upd nk5
      generalize upd Hk4 k5 (.lst [.ref k3, .ref k4, .int 0, .int 0, .int 0]) = Hk5 at gk5 sk5 ⊢
      refine ⟨4, k5, _, _, _, _, _, (some 2), rfl, gk5, (.f3 (sidesAt2 (d := ⟨0, 3, "up"⟩) (e := ⟨0, 7, "up"⟩) (sk5 _ _ (sk4 _ _ gk3)) (sk5 _ _ (sk4 _ _ (sk3 _ _ (sk2 _ _ gk1)))) (sk5 _ _ (sk4 _ _ (sk3 _ _ gk2))) (up (by decide)) T2) (by show 2 ≤ 3; decide) (sk5 _ _ gk4) (up (s := 1000) (by decide)) (by decide +kernel)), fun HWk6 swk6 => ?_⟩
      walk_at "rd"
      refine ⟨rfl, ?_⟩
      exact ⟨_, rfl, by decide +kernel, (sk1.trans (sk2.trans (sk3.trans (sk4.trans (sk5.trans swk6)))))⟩
    rintro b2 H7 ⟨rfl, s7⟩
    refine ite2 (fun z => absurd z (by decide)) (fun _ => ?_)
    replace hfo := s7 _ _ hfo
    clear s7
    walk_at "rd"
    refine ⟨fun b2 G => b2 = false ∧ Same H7 G, ?_, ?_⟩
    · walk_at "rd"
      refine ⟨(by show 3 ≤ sizeLine; decide), fun k1 nk1 => ?_⟩
      have gk1 : upd H7 k1 (.tup [V.int 0, .int 32, .str "up"]) k1 = some (.tup [V.int 0, .int 32, .str "up"]) := upd_same
      have sk1 : Same H7 (upd H7 k1 (.tup [V.int 0, .int 32, .str "up"])) := same_upd nk1
      generalize upd H7 k1 (.tup [V.int 0, .int 32, .str "up"]) = Hk1 at gk1 sk1 ⊢
      walk_at "rd"
      refine ⟨(by show 3 ≤ sizeLine; decide), fun k2 nk2 => ?_⟩
      have gk2 : upd Hk1 k2 (.tup [V.int 0, .int 625, .str "down"]) k2 = some (.tup [V.int 0, .int 625, .str "down"]) := upd_same
      have sk2 : Same Hk1 (upd Hk1 k2 (.tup [V.int 0, .int 625, .str "down"])) := same_upd nk2
      generalize upd Hk1 k2 (.tup [V.int 0, .int 625, .str "down"]) = Hk2 at gk2 sk2 ⊢
      walk_at "rd"
      refine ⟨(by show 2 ≤ sizeLine; decide), fun k3 nk3 => ?_⟩
      have gk3 : upd Hk2 k3 (.lst [V.ref k1, .ref k2]) k3 = some (.lst [V.ref k1, .ref k2]) := upd_same
      have sk3 : Same Hk2 (upd Hk2 k3 (.lst [V.ref k1, .ref k2])) := same_upd nk3
      generalize upd Hk2 k3 (.lst [V.ref k1, .ref k2]) = Hk3 at gk3 sk3 ⊢
      walk_at "rd"
      refine ⟨(by show 3 ≤ sizeLine; decide), fun k4 nk4 => ?_⟩
      have gk4 : upd Hk3 k4 (.tup [V.int 0, .int 20000, .str "up"]) k4 = some (.tup [V.int 0, .int 20000, .str "up"]) := upd_same
      have sk4 : Same Hk3 (upd Hk3 k4 (.tup [V.int 0, .int 20000, .str "up"])) := same_upd nk4
      generalize upd Hk3 k4 (.tup [V.int 0, .int 20000, .str "up"]) = Hk4 at gk4 sk4 ⊢
      walk_at "rd"
      have T2 : SideP 0 625 "down" := ⟨by decide, by decide, by decide, by decide, .inl rfl⟩
      refine ⟨(by show 5 ≤ sizeLine; decide), fun k5 nk5 => ?_⟩
      have gk5 : upd Hk4 k5 (.lst [.ref k3, .ref k4, .int 0, .int 0, .int 0]) k5 = some (.lst [.ref k3, .ref k4, .int 0, .int 0, .int 0]) := upd_same
      have sk5 : Same Hk4 (upd Hk4 k5 (.lst [.ref k3, .ref k4, .int 0, .int 0, .int 0])) := same_upd nk5
      generalize upd Hk4 k5 (.lst [.ref k3, .ref k4, .int 0, .int 0, .int 0]) = Hk5 at gk5 sk5 ⊢
      refine ⟨4, k5, _, _, _, _, _, none, rfl, gk5, (.f4 (sidesAt2 (d := ⟨0, 32, "up"⟩) (e := ⟨0, 625, "down"⟩) (sk5 _ _ (sk4 _ _ gk3)) (sk5 _ _ (sk4 _ _ (sk3 _ _ (sk2 _ _ gk1)))) (sk5 _ _ (sk4 _ _ (sk3 _ _ gk2))) (up (by decide)) T2) (by show 2 ≤ 3; decide) (sk5 _ _ gk4) (up (s := 20000) (by decide)) (by decide +kernel)), fun HWk6 swk6 => ?_⟩
      walk_at "rd"
      refine ⟨rfl, ?_⟩
      exact ⟨_, rfl, by decide +kernel, (sk1.trans (sk2.trans (sk3.trans (sk4.trans (sk5.trans swk6)))))⟩
    rintro b2 H8 ⟨rfl, s8⟩
    refine ite2 (fun z => absurd z (by decide)) (fun _ => ?_)
    replace hfo := s8 _ _ hfo
    clear s8
    refine ⟨fun st G => ∃ y10 y4 y9 : Option V, st = [some (.ref l), some (.ref a), x2, x3, y4, x5, some (.ref rw), x7, x8, y9, y10, some (.ref fo)] ∧ Same H8 G, ?_, ?_⟩
    · walk_at "rd"
      refine ⟨(by show 3 ≤ sizeLine; decide), fun b1 nb1 => ?_⟩
      have gb1 : upd H8 b1 (.tup [V.int 20000, .int 20000, .str "good"]) b1 = some (.tup [V.int 20000, .int 20000, .str "good"]) := upd_same
      have sb1 : Same H8 (upd H8 b1 (.tup [V.int 20000, .int 20000, .str "good"])) := same_upd nb1
      generalize upd H8 b1 (.tup [V.int 20000, .int 20000, .str "good"]) = Hb1 at gb1 sb1 ⊢
      walk_at "rd"
      refine ⟨(by show 3 ≤ sizeLine; decide), fun b2 nb2 => ?_⟩
      have gb2 : upd Hb1 b2 (.tup [V.int 20001, .int 20001, .str "many"]) b2 = some (.tup [V.int 20001, .int 20001, .str "many"]) := upd_same
      have sb2 : Same Hb1 (upd Hb1 b2 (.tup [V.int 20001, .int 20001, .str "many"])) := same_upd nb2
      generalize upd Hb1 b2 (.tup [V.int 20001, .int 20001, .str "many"]) = Hb2 at gb2 sb2 ⊢
      walk_at "rd"
      refine ⟨(by show 3 ≤ sizeLine; decide), fun b3 nb3 => ?_⟩
      have gb3 : upd Hb2 b3 (.tup [V.int 20001, .int 1, .str "many"]) b3 = some (.tup [V.int 20001, .int 1, .str "many"]) := upd_same
      have sb3 : Same Hb2 (upd Hb2 b3 (.tup [V.int 20001, .int 1, .str "many"])) := same_upd nb3
      generalize upd Hb2 b3 (.tup [V.int 20001, .int 1, .str "many"]) = Hb3 at gb3 sb3 ⊢
      walk_at "rd"
      refine ⟨(by show 3 ≤ sizeLine; decide), fun b4 nb4 => ?_⟩
      have gb4 : upd Hb3 b4 (.lst [V.ref b1, .ref b2, .ref b3]) b4 = some (.lst [V.ref b1, .ref b2, .ref b3]) := upd_same
      have sb4 : Same Hb3 (upd Hb3 b4 (.lst [V.ref b1, .ref b2, .ref b3])) := same_upd nb4
      generalize upd Hb3 b4 (.lst [V.ref b1, .ref b2, .ref b3]) = Hb4 at gb4 sb4 ⊢
      walk_at "rd"
      refine ⟨⟨_, SqL.of gb4⟩, ?_⟩
      refine for_list (K := K) (a := b4) (xs := [V.ref b1, .ref b2, .ref b3]) (fun i st G => ∃ y10 y4 y9 : Option V, st = [some (.ref l), some (.ref a), x2, x3, y4, x5, some (.ref rw), x7, x8, y9, y10, some (.ref fo)] ∧ Same Hb4 G) ⟨_, _, _, rfl, Same.refl _⟩ (fun _ _ _ _ ⟨_, _, _, _, s⟩ => SqL.of (s _ _ gb4)) ?_ (fun st G ⟨y10, y4, y9, e, s⟩ => ⟨y10, y4, y9, e, (sb1.trans (sb2.trans (sb3.trans sb4))).trans s⟩)
      rintro i y st G hy ⟨y10, y4, y9, rfl, sG⟩
      have hb1 := sG _ _ (sb4 _ _ (sb3 _ _ (sb2 _ _ gb1)))
      have hb2 := sG _ _ (sb4 _ _ (sb3 _ _ gb2))
      have hb3 := sG _ _ (sb4 _ _ gb3)
      obtain ⟨r, sv, tv, wd, rfl, hr, sb, tb, ask⟩ : ∃ (r : Addr) (sv tv : Int) (wd : Option Nat), y = .ref r ∧ G r = some (.tup [.int sv, .int tv, .str (wordS wd)]) ∧ (1 ≤ sv ∧ sv ≤ 10 ^ 30) ∧ (1 ≤ tv ∧ tv ≤ 10 ^ 30) ∧ ∀ (G2 : Hp) (L p1 p2 : Addr), SidesAt G2 L [.ref p1] [⟨0, sv, "up"⟩] → G2 p2 = some (sideV 0 tv "up") → AskW K G2 4 (.ref L) (.ref p2) (.int 0) (.int 0) (.int 0) wd := by
        match i, hy with
        | 0, hy => cases hy; exact ⟨b1, 20000, 20000, none, rfl, hb1, by decide, by decide, fun G2 L p1 p2 h1 h2 => .f4 h1 (by show 1 ≤ 3; decide) h2 (up (by decide)) (by decide +kernel)⟩
        | 1, hy => cases hy; exact ⟨b2, 20001, 20001, some 2, rfl, hb2, by decide, by decide, fun G2 L p1 p2 h1 h2 => .f3 h1 (by show 1 ≤ 3; decide) h2 (up (by decide)) (by decide +kernel)⟩
        | 2, hy => cases hy; exact ⟨b3, 20001, 1, some 2, rfl, hb3, by decide, by decide, fun G2 L p1 p2 h1 h2 => .f3 h1 (by show 1 ≤ 3; decide) h2 (up (by decide)) (by decide +kernel)⟩
        | n + 3, hy => cases hy
      refine ⟨r, _, rfl, SqT.of hr, rfl, _, _, rfl, _, _, rfl, _, _, rfl, rfl, ?_⟩
      walk_at "rd"
      refine ⟨fun b2 G2 => b2 = false ∧ Same G G2, ?_, ?_⟩
      · walk_at "rd"
        refine ⟨(by show 3 ≤ sizeLine; decide), fun k1 nk1 => ?_⟩
        have gk1 : upd G k1 (.tup [V.int 0, .int sv, .str "up"]) k1 = some (.tup [V.int 0, .int sv, .str "up"]) := upd_same
        have sk1 : Same G (upd G k1 (.tup [V.int 0, .int sv, .str "up"])) := same_upd nk1
        generalize upd G k1 (.tup [V.int 0, .int sv, .str "up"]) = Hk1 at gk1 sk1 ⊢
        walk_at "rd"
        refine ⟨(by show 1 ≤ sizeLine; decide), fun k2 nk2 => ?_⟩
        have gk2 : upd Hk1 k2 (.lst [V.ref k1]) k2 = some (.lst [V.ref k1]) := upd_same
        have sk2 : Same Hk1 (upd Hk1 k2 (.lst [V.ref k1])) := same_upd nk2
        generalize upd Hk1 k2 (.lst [V.ref k1]) = Hk2 at gk2 sk2 ⊢
        walk_at "rd"
        refine ⟨(by show 3 ≤ sizeLine; decide), fun k3 nk3 => ?_⟩
        have gk3 : upd Hk2 k3 (.tup [V.int 0, .int tv, .str "up"]) k3 = some (.tup [V.int 0, .int tv, .str "up"]) := upd_same
        have sk3 : Same Hk2 (upd Hk2 k3 (.tup [V.int 0, .int tv, .str "up"])) := same_upd nk3
        generalize upd Hk2 k3 (.tup [V.int 0, .int tv, .str "up"]) = Hk3 at gk3 sk3 ⊢
        walk_at "rd"
        refine ⟨(by show 5 ≤ sizeLine; decide), fun k4 nk4 => ?_⟩
        have gk4 : upd Hk3 k4 (.lst [.ref k2, .ref k3, .int 0, .int 0, .int 0]) k4 = some (.lst [.ref k2, .ref k3, .int 0, .int 0, .int 0]) := upd_same
        have sk4 : Same Hk3 (upd Hk3 k4 (.lst [.ref k2, .ref k3, .int 0, .int 0, .int 0])) := same_upd nk4
        generalize upd Hk3 k4 (.lst [.ref k2, .ref k3, .int 0, .int 0, .int 0]) = Hk4 at gk4 sk4 ⊢
        refine ⟨4, k4, _, _, _, _, _, wd, rfl, gk4, (ask _ k2 k1 k3 (sidesAt1 (d := ⟨0, sv, "up"⟩) (sk4 _ _ (sk3 _ _ gk2)) (sk4 _ _ (sk3 _ _ (sk2 _ _ gk1))) (up sb)) (sk4 _ _ gk3)), fun HWk5 swk5 => ?_⟩
        walk_at "rd"
        refine ⟨rfl, ?_⟩
        exact ⟨_, rfl, by rw [decide_eq_true rfl]; rfl, (sk1.trans (sk2.trans (sk3.trans (sk4.trans swk5))))⟩
      rintro b2 G2 ⟨rfl, sG2⟩
      refine ite2 (fun z => absurd z (by decide)) (fun _ => ?_)
      exact ⟨_, _, _, rfl, sG.trans sG2⟩
    rintro st H9 ⟨y10, y4, y9, rfl, s9⟩
    replace hfo := s9 _ _ hfo
    walk_at "rd"
    refine ⟨(by show 4 ≤ sizeLine; decide), fun k1 nk1 => ?_⟩
    have gk1 : upd H9 k1 (.lst [V.str "good", .str "many", .str "many", .str "many"]) k1 = some (.lst [V.str "good", .str "many", .str "many", .str "many"]) := upd_same
    have sk1 : Same H9 (upd H9 k1 (.lst [V.str "good", .str "many", .str "many", .str "many"])) := same_upd nk1
    generalize upd H9 k1 (.lst [V.str "good", .str "many", .str "many", .str "many"]) = Hk1 at gk1 sk1 ⊢
    refine ⟨_, _, dp_strs (A := ["good", "many", "many", "many"]) (sk1 _ _ hfo), dp_strs (A := ["good", "many", "many", "many"]) gk1, by decide +kernel, by decide +kernel, ?_⟩
    rw [show PyData.eqv (.list ((["good", "many", "many", "many"] : List Str).map PyData.str)) (.list ((["good", "many", "many", "many"] : List Str).map PyData.str)) = true by decide +kernel]
    exact q _
end
end HT
namespace HT
open PySem L2
def errB (K : PySem.W.Frag) (C : Addr) : Bool := (PySem.W.clsIn K C).isSome && (decide (PySem.W.findIn K (.ref C) "__getattribute__" = some (some (.builtin "BaseException.__getattribute__"))) && (decide (PySem.W.findIn K (.ref C) "__getattr__" = some none) && (decide (PySem.W.subIn K (.ref C) (.type "BaseException") = some true) &&
  (decide (PySem.W.findIn K (.ref C) "__class__" = some (some (.builtin "object.__class__"))) && decide (PySem.W.mroIn K C (.type "object") = some true)))))
theorem errB_ok {K : PySem.W.Frag} {C : Addr} (h : errB K C = true) : ErrC K C := by
  unfold errB at h
  simp only [Bool.and_eq_true, decide_eq_true_eq] at h
  obtain ⟨a, b, c, d, e, f⟩ := h
  exact ⟨a, b, c, d, e, f⟩
def exB (K : PySem.W.Frag) (C : Addr) : Bool := PySem.W.excIn K C [.type "ValueError", .type "Exception", .type "BaseException", .type "object"] "ValueError.__new__" && PySem.W.keepIn K (.ref C)
def erT (K : PySem.W.Frag) (C : Nat → Addr) (B : Addr) (i : Nat) : Bool := errB K (C i) && (exB K (C i) && (decide (PySem.W.kitOne K (.ref (C i)) (.type "ValueError") = some true) && (decide (PySem.W.subIn K (.ref (C i)) (.type "BaseException") = some true) && (decide (PySem.W.typeIn K (.ref (C i)) = some (.type "type")) && (decide (PySem.W.exmOne K (.ref (C i)) (.ref B) = some true) &&
  (List.range 5).all fun j => decide (PySem.W.kitOne K (.ref (C i)) (.ref (C j)) = some (decide (i = j))))))))
def cAt (l : List Addr) (i : Nat) : Addr := l.getD i 0
theorem all_of {p : Nat → Bool} {n : Nat} (h : (List.range n).all p = true) {i : Nat} (hi : i < n) : p i = true := List.all_eq_true.mp h i (List.mem_range.mpr hi)
theorem all_mk {l : PySem.W.OpenLaw} {w : World} {K : PySem.W.Frag} {h : Heap} {mg : Str → Option Value} {fa aM aR aU c0 c1 c2 c3 c4 cB f_is_int f_is_int_between f_check_value f_check_side f_is_side f_figure f_goes_up f_written f_span f_uspan f_below f_threshold f_mirror f_check_sides f_period_of f_common_period f_highest f_mirrors f_first_hit f_first_between f_unraised f_settled f_pace f_creep f_wide_and_narrow f_rounds_up f_settled_on_wide f_settled_on_narrow f_unneeded f_within f_highest_within f_continued f_meeting f_way_to f_fewest_places f_L_source f_L_draw f_L_pick f_L_great f_L_side f_L_asked f_L_word f_L_is_side f_L_bent f_L_two_fit f_L_lists_fit f_law : Addr} (X : K.In h) (G : h.Ns mainGlobals mg) (hfa : mg "law" = some (.ref fa))
    {odM odU od_is_int an_is_int od_is_int_between an_is_int_between od_check_value an_check_value od_check_side an_check_side od_is_side an_is_side od_figure an_figure od_goes_up an_goes_up od_written an_written od_span an_span od_uspan an_uspan od_below an_below od_threshold an_threshold od_mirror an_mirror od_check_sides an_check_sides od_period_of an_period_of od_common_period an_common_period od_highest an_highest od_mirrors an_mirrors od_first_hit an_first_hit od_first_between an_first_between od_unraised an_unraised od_settled an_settled od_pace an_pace od_creep an_creep od_wide_and_narrow an_wide_and_narrow od_rounds_up an_rounds_up od_settled_on_wide an_settled_on_wide od_settled_on_narrow an_settled_on_narrow od_unneeded an_unneeded od_within an_within od_highest_within an_highest_within od_continued an_continued od_meeting an_meeting od_way_to an_way_to od_fewest_places an_fewest_places od_L_source an_L_source od_L_draw an_L_draw od_L_pick an_L_pick od_L_great an_L_great od_L_side an_L_side od_L_asked an_L_asked od_L_word an_L_word od_L_is_side an_L_is_side od_L_bent an_L_bent od_L_two_fit an_L_two_fit od_L_lists_fit an_L_lists_fit od_law an_law : Option Addr} {slM slU sl_is_int sl_is_int_between sl_check_value sl_check_side sl_is_side sl_figure sl_goes_up sl_written sl_span sl_uspan sl_below sl_threshold sl_mirror sl_check_sides sl_period_of sl_common_period sl_highest sl_mirrors sl_first_hit sl_first_between sl_unraised sl_settled sl_pace sl_creep sl_wide_and_narrow sl_rounds_up sl_settled_on_wide sl_settled_on_narrow sl_unneeded sl_within sl_highest_within sl_continued sl_meeting sl_way_to sl_fewest_places sl_L_source sl_L_draw sl_L_pick sl_L_great sl_L_side sl_L_asked sl_L_word sl_L_is_side sl_L_bent sl_L_two_fit sl_L_lists_fit sl_law : Array (Option Value)} {nM nR nU : Nat} {itsM itsU : Array Value} {esR : Array DictEntry} {tMS tMN tMR tMP tMA tMM tMD : Tok} {u_down u_up u_half_down u_half_up u_half_even oc_is_int kV_is_int dc_is_int pm_is_int cd_is_int ct_is_int oc_is_int_between kV_is_int_between dc_is_int_between pm_is_int_between cd_is_int_between ct_is_int_between oc_check_value kV_check_value dc_check_value pm_check_value cd_check_value ct_check_value oc_check_side kV_check_side dc_check_side pm_check_side cd_check_side ct_check_side oc_is_side kV_is_side dc_is_side pm_is_side cd_is_side ct_is_side oc_figure kV_figure dc_figure pm_figure cd_figure ct_figure oc_goes_up kV_goes_up dc_goes_up pm_goes_up cd_goes_up ct_goes_up oc_written kV_written dc_written pm_written cd_written ct_written oc_span kV_span dc_span pm_span cd_span ct_span oc_uspan kV_uspan dc_uspan pm_uspan cd_uspan ct_uspan oc_below kV_below dc_below pm_below cd_below ct_below oc_threshold kV_threshold dc_threshold pm_threshold cd_threshold ct_threshold oc_mirror kV_mirror dc_mirror pm_mirror cd_mirror ct_mirror oc_check_sides kV_check_sides dc_check_sides pm_check_sides cd_check_sides ct_check_sides oc_period_of kV_period_of dc_period_of pm_period_of cd_period_of ct_period_of oc_common_period kV_common_period dc_common_period pm_common_period cd_common_period ct_common_period oc_highest kV_highest dc_highest pm_highest cd_highest ct_highest oc_mirrors kV_mirrors dc_mirrors pm_mirrors cd_mirrors ct_mirrors oc_first_hit kV_first_hit dc_first_hit pm_first_hit cd_first_hit ct_first_hit oc_first_between kV_first_between dc_first_between pm_first_between cd_first_between ct_first_between oc_unraised kV_unraised dc_unraised pm_unraised cd_unraised ct_unraised oc_settled kV_settled dc_settled pm_settled cd_settled ct_settled oc_pace kV_pace dc_pace pm_pace cd_pace ct_pace oc_creep kV_creep dc_creep pm_creep cd_creep ct_creep oc_wide_and_narrow kV_wide_and_narrow dc_wide_and_narrow pm_wide_and_narrow cd_wide_and_narrow ct_wide_and_narrow oc_rounds_up kV_rounds_up dc_rounds_up pm_rounds_up cd_rounds_up ct_rounds_up oc_settled_on_wide kV_settled_on_wide dc_settled_on_wide pm_settled_on_wide cd_settled_on_wide ct_settled_on_wide oc_settled_on_narrow kV_settled_on_narrow dc_settled_on_narrow pm_settled_on_narrow cd_settled_on_narrow ct_settled_on_narrow oc_unneeded kV_unneeded dc_unneeded pm_unneeded cd_unneeded ct_unneeded oc_within kV_within dc_within pm_within cd_within ct_within oc_highest_within kV_highest_within dc_highest_within pm_highest_within cd_highest_within ct_highest_within oc_continued kV_continued dc_continued pm_continued cd_continued ct_continued oc_meeting kV_meeting dc_meeting pm_meeting cd_meeting ct_meeting oc_way_to kV_way_to dc_way_to pm_way_to cd_way_to ct_way_to oc_fewest_places kV_fewest_places dc_fewest_places pm_fewest_places cd_fewest_places ct_fewest_places oc_L_source kV_L_source dc_L_source pm_L_source cd_L_source ct_L_source oc_L_draw kV_L_draw dc_L_draw pm_L_draw cd_L_draw ct_L_draw oc_L_pick kV_L_pick dc_L_pick pm_L_pick cd_L_pick ct_L_pick oc_L_great kV_L_great dc_L_great pm_L_great cd_L_great ct_L_great oc_L_side kV_L_side dc_L_side pm_L_side cd_L_side ct_L_side oc_L_asked kV_L_asked dc_L_asked pm_L_asked cd_L_asked ct_L_asked oc_L_word kV_L_word dc_L_word pm_L_word cd_L_word ct_L_word oc_L_is_side kV_L_is_side dc_L_is_side pm_L_is_side cd_L_is_side ct_L_is_side oc_L_bent kV_L_bent dc_L_bent pm_L_bent cd_L_bent ct_L_bent oc_L_two_fit kV_L_two_fit dc_L_two_fit pm_L_two_fit cd_L_two_fit ct_L_two_fit oc_L_lists_fit kV_L_lists_fit dc_L_lists_fit pm_L_lists_fit cd_L_lists_fit ct_L_lists_fit oc_law kV_law dc_law pm_law cd_law ct_law : Value}
    (a_is_int : PySem.W.nsIn K mainGlobals "is_int" = some (some (.ref f_is_int)))
    (l_is_int : K.lookup f_is_int = some ⟨oc_is_int, od_is_int, .func (PySem.W.fnOf "is_int" "is_int" (defArgs s_is_int) (defBody s_is_int) (defScope s_is_int) .none kV_is_int dc_is_int pm_is_int an_is_int cd_is_int ct_is_int), sl_is_int⟩)
    (c_is_int : PySem.W.codeIn K cd_is_int "is_int" = true) (k_is_int : PySem.W.keepIn K (.ref f_is_int) = true)
    (a_is_int_between : PySem.W.nsIn K mainGlobals "is_int_between" = some (some (.ref f_is_int_between)))
    (l_is_int_between : K.lookup f_is_int_between = some ⟨oc_is_int_between, od_is_int_between, .func (PySem.W.fnOf "is_int_between" "is_int_between" (defArgs s_is_int_between) (defBody s_is_int_between) (defScope s_is_int_between) .none kV_is_int_between dc_is_int_between pm_is_int_between an_is_int_between cd_is_int_between ct_is_int_between), sl_is_int_between⟩)
    (c_is_int_between : PySem.W.codeIn K cd_is_int_between "is_int_between" = true) (k_is_int_between : PySem.W.keepIn K (.ref f_is_int_between) = true)
    (a_check_value : PySem.W.nsIn K mainGlobals "check_value" = some (some (.ref f_check_value)))
    (l_check_value : K.lookup f_check_value = some ⟨oc_check_value, od_check_value, .func (PySem.W.fnOf "check_value" "check_value" (defArgs s_check_value) (defBody s_check_value) (defScope s_check_value) .none kV_check_value dc_check_value pm_check_value an_check_value cd_check_value ct_check_value), sl_check_value⟩)
    (c_check_value : PySem.W.codeIn K cd_check_value "check_value" = true) (k_check_value : PySem.W.keepIn K (.ref f_check_value) = true)
    (a_check_side : PySem.W.nsIn K mainGlobals "check_side" = some (some (.ref f_check_side)))
    (l_check_side : K.lookup f_check_side = some ⟨oc_check_side, od_check_side, .func (PySem.W.fnOf "check_side" "check_side" (defArgs s_check_side) (defBody s_check_side) (defScope s_check_side) .none kV_check_side dc_check_side pm_check_side an_check_side cd_check_side ct_check_side), sl_check_side⟩)
    (c_check_side : PySem.W.codeIn K cd_check_side "check_side" = true) (k_check_side : PySem.W.keepIn K (.ref f_check_side) = true)
    (a_is_side : PySem.W.nsIn K mainGlobals "is_side" = some (some (.ref f_is_side)))
    (l_is_side : K.lookup f_is_side = some ⟨oc_is_side, od_is_side, .func (PySem.W.fnOf "is_side" "is_side" (defArgs s_is_side) (defBody s_is_side) (defScope s_is_side) .none kV_is_side dc_is_side pm_is_side an_is_side cd_is_side ct_is_side), sl_is_side⟩)
    (c_is_side : PySem.W.codeIn K cd_is_side "is_side" = true) (k_is_side : PySem.W.keepIn K (.ref f_is_side) = true)
    (a_figure : PySem.W.nsIn K mainGlobals "_figure" = some (some (.ref f_figure)))
    (l_figure : K.lookup f_figure = some ⟨oc_figure, od_figure, .func (PySem.W.fnOf "_figure" "_figure" (defArgs s_figure) (defBody s_figure) (defScope s_figure) .none kV_figure dc_figure pm_figure an_figure cd_figure ct_figure), sl_figure⟩)
    (c_figure : PySem.W.codeIn K cd_figure "_figure" = true) (k_figure : PySem.W.keepIn K (.ref f_figure) = true)
    (a_goes_up : PySem.W.nsIn K mainGlobals "_goes_up" = some (some (.ref f_goes_up)))
    (l_goes_up : K.lookup f_goes_up = some ⟨oc_goes_up, od_goes_up, .func (PySem.W.fnOf "_goes_up" "_goes_up" (defArgs s_goes_up) (defBody s_goes_up) (defScope s_goes_up) .none kV_goes_up dc_goes_up pm_goes_up an_goes_up cd_goes_up ct_goes_up), sl_goes_up⟩)
    (c_goes_up : PySem.W.codeIn K cd_goes_up "_goes_up" = true) (k_goes_up : PySem.W.keepIn K (.ref f_goes_up) = true)
    (a_written : PySem.W.nsIn K mainGlobals "written" = some (some (.ref f_written)))
    (l_written : K.lookup f_written = some ⟨oc_written, od_written, .func (PySem.W.fnOf "written" "written" (defArgs s_written) (defBody s_written) (defScope s_written) .none kV_written dc_written pm_written an_written cd_written ct_written), sl_written⟩)
    (c_written : PySem.W.codeIn K cd_written "written" = true) (k_written : PySem.W.keepIn K (.ref f_written) = true)
    (a_span : PySem.W.nsIn K mainGlobals "span" = some (some (.ref f_span)))
    (l_span : K.lookup f_span = some ⟨oc_span, od_span, .func (PySem.W.fnOf "span" "span" (defArgs s_span) (defBody s_span) (defScope s_span) .none kV_span dc_span pm_span an_span cd_span ct_span), sl_span⟩)
    (c_span : PySem.W.codeIn K cd_span "span" = true) (k_span : PySem.W.keepIn K (.ref f_span) = true)
    (a_uspan : PySem.W.nsIn K mainGlobals "_span" = some (some (.ref f_uspan)))
    (l_uspan : K.lookup f_uspan = some ⟨oc_uspan, od_uspan, .func (PySem.W.fnOf "_span" "_span" (defArgs s_uspan) (defBody s_uspan) (defScope s_uspan) .none kV_uspan dc_uspan pm_uspan an_uspan cd_uspan ct_uspan), sl_uspan⟩)
    (c_uspan : PySem.W.codeIn K cd_uspan "_span" = true) (k_uspan : PySem.W.keepIn K (.ref f_uspan) = true)
    (a_below : PySem.W.nsIn K mainGlobals "_below" = some (some (.ref f_below)))
    (l_below : K.lookup f_below = some ⟨oc_below, od_below, .func (PySem.W.fnOf "_below" "_below" (defArgs s_below) (defBody s_below) (defScope s_below) .none kV_below dc_below pm_below an_below cd_below ct_below), sl_below⟩)
    (c_below : PySem.W.codeIn K cd_below "_below" = true) (k_below : PySem.W.keepIn K (.ref f_below) = true)
    (a_threshold : PySem.W.nsIn K mainGlobals "threshold" = some (some (.ref f_threshold)))
    (l_threshold : K.lookup f_threshold = some ⟨oc_threshold, od_threshold, .func (PySem.W.fnOf "threshold" "threshold" (defArgs s_threshold) (defBody s_threshold) (defScope s_threshold) .none kV_threshold dc_threshold pm_threshold an_threshold cd_threshold ct_threshold), sl_threshold⟩)
    (c_threshold : PySem.W.codeIn K cd_threshold "threshold" = true) (k_threshold : PySem.W.keepIn K (.ref f_threshold) = true)
    (a_mirror : PySem.W.nsIn K mainGlobals "mirror" = some (some (.ref f_mirror)))
    (l_mirror : K.lookup f_mirror = some ⟨oc_mirror, od_mirror, .func (PySem.W.fnOf "mirror" "mirror" (defArgs s_mirror) (defBody s_mirror) (defScope s_mirror) .none kV_mirror dc_mirror pm_mirror an_mirror cd_mirror ct_mirror), sl_mirror⟩)
    (c_mirror : PySem.W.codeIn K cd_mirror "mirror" = true) (k_mirror : PySem.W.keepIn K (.ref f_mirror) = true)
    (a_check_sides : PySem.W.nsIn K mainGlobals "check_sides" = some (some (.ref f_check_sides)))
    (l_check_sides : K.lookup f_check_sides = some ⟨oc_check_sides, od_check_sides, .func (PySem.W.fnOf "check_sides" "check_sides" (defArgs s_check_sides) (defBody s_check_sides) (defScope s_check_sides) .none kV_check_sides dc_check_sides pm_check_sides an_check_sides cd_check_sides ct_check_sides), sl_check_sides⟩)
    (c_check_sides : PySem.W.codeIn K cd_check_sides "check_sides" = true) (k_check_sides : PySem.W.keepIn K (.ref f_check_sides) = true)
    (a_period_of : PySem.W.nsIn K mainGlobals "period_of" = some (some (.ref f_period_of)))
    (l_period_of : K.lookup f_period_of = some ⟨oc_period_of, od_period_of, .func (PySem.W.fnOf "period_of" "period_of" (defArgs s_period_of) (defBody s_period_of) (defScope s_period_of) .none kV_period_of dc_period_of pm_period_of an_period_of cd_period_of ct_period_of), sl_period_of⟩)
    (c_period_of : PySem.W.codeIn K cd_period_of "period_of" = true) (k_period_of : PySem.W.keepIn K (.ref f_period_of) = true)
    (a_common_period : PySem.W.nsIn K mainGlobals "common_period" = some (some (.ref f_common_period)))
    (l_common_period : K.lookup f_common_period = some ⟨oc_common_period, od_common_period, .func (PySem.W.fnOf "common_period" "common_period" (defArgs s_common_period) (defBody s_common_period) (defScope s_common_period) .none kV_common_period dc_common_period pm_common_period an_common_period cd_common_period ct_common_period), sl_common_period⟩)
    (c_common_period : PySem.W.codeIn K cd_common_period "common_period" = true) (k_common_period : PySem.W.keepIn K (.ref f_common_period) = true)
    (a_highest : PySem.W.nsIn K mainGlobals "highest" = some (some (.ref f_highest)))
    (l_highest : K.lookup f_highest = some ⟨oc_highest, od_highest, .func (PySem.W.fnOf "highest" "highest" (defArgs s_highest) (defBody s_highest) (defScope s_highest) .none kV_highest dc_highest pm_highest an_highest cd_highest ct_highest), sl_highest⟩)
    (c_highest : PySem.W.codeIn K cd_highest "highest" = true) (k_highest : PySem.W.keepIn K (.ref f_highest) = true)
    (a_mirrors : PySem.W.nsIn K mainGlobals "mirrors" = some (some (.ref f_mirrors)))
    (l_mirrors : K.lookup f_mirrors = some ⟨oc_mirrors, od_mirrors, .func (PySem.W.fnOf "mirrors" "mirrors" (defArgs s_mirrors) (defBody s_mirrors) (defScope s_mirrors) .none kV_mirrors dc_mirrors pm_mirrors an_mirrors cd_mirrors ct_mirrors), sl_mirrors⟩)
    (c_mirrors : PySem.W.codeIn K cd_mirrors "mirrors" = true) (k_mirrors : PySem.W.keepIn K (.ref f_mirrors) = true)
    (a_first_hit : PySem.W.nsIn K mainGlobals "first_hit" = some (some (.ref f_first_hit)))
    (l_first_hit : K.lookup f_first_hit = some ⟨oc_first_hit, od_first_hit, .func (PySem.W.fnOf "first_hit" "first_hit" (defArgs s_first_hit) (defBody s_first_hit) (defScope s_first_hit) .none kV_first_hit dc_first_hit pm_first_hit an_first_hit cd_first_hit ct_first_hit), sl_first_hit⟩)
    (c_first_hit : PySem.W.codeIn K cd_first_hit "first_hit" = true) (k_first_hit : PySem.W.keepIn K (.ref f_first_hit) = true)
    (a_first_between : PySem.W.nsIn K mainGlobals "_first_between" = some (some (.ref f_first_between)))
    (l_first_between : K.lookup f_first_between = some ⟨oc_first_between, od_first_between, .func (PySem.W.fnOf "_first_between" "_first_between" (defArgs s_first_between) (defBody s_first_between) (defScope s_first_between) .none kV_first_between dc_first_between pm_first_between an_first_between cd_first_between ct_first_between), sl_first_between⟩)
    (c_first_between : PySem.W.codeIn K cd_first_between "_first_between" = true) (k_first_between : PySem.W.keepIn K (.ref f_first_between) = true)
    (a_unraised : PySem.W.nsIn K mainGlobals "unraised" = some (some (.ref f_unraised)))
    (l_unraised : K.lookup f_unraised = some ⟨oc_unraised, od_unraised, .func (PySem.W.fnOf "unraised" "unraised" (defArgs s_unraised) (defBody s_unraised) (defScope s_unraised) (.ref aU) kV_unraised dc_unraised pm_unraised an_unraised cd_unraised ct_unraised), sl_unraised⟩)
    (c_unraised : PySem.W.codeIn K cd_unraised "unraised" = true) (k_unraised : PySem.W.keepIn K (.ref f_unraised) = true)
    (a_settled : PySem.W.nsIn K mainGlobals "settled" = some (some (.ref f_settled)))
    (l_settled : K.lookup f_settled = some ⟨oc_settled, od_settled, .func (PySem.W.fnOf "settled" "settled" (defArgs s_settled) (defBody s_settled) (defScope s_settled) .none kV_settled dc_settled pm_settled an_settled cd_settled ct_settled), sl_settled⟩)
    (c_settled : PySem.W.codeIn K cd_settled "settled" = true) (k_settled : PySem.W.keepIn K (.ref f_settled) = true)
    (a_pace : PySem.W.nsIn K mainGlobals "pace" = some (some (.ref f_pace)))
    (l_pace : K.lookup f_pace = some ⟨oc_pace, od_pace, .func (PySem.W.fnOf "pace" "pace" (defArgs s_pace) (defBody s_pace) (defScope s_pace) .none kV_pace dc_pace pm_pace an_pace cd_pace ct_pace), sl_pace⟩)
    (c_pace : PySem.W.codeIn K cd_pace "pace" = true) (k_pace : PySem.W.keepIn K (.ref f_pace) = true)
    (a_creep : PySem.W.nsIn K mainGlobals "_creep" = some (some (.ref f_creep)))
    (l_creep : K.lookup f_creep = some ⟨oc_creep, od_creep, .func (PySem.W.fnOf "_creep" "_creep" (defArgs s_creep) (defBody s_creep) (defScope s_creep) .none kV_creep dc_creep pm_creep an_creep cd_creep ct_creep), sl_creep⟩)
    (c_creep : PySem.W.codeIn K cd_creep "_creep" = true) (k_creep : PySem.W.keepIn K (.ref f_creep) = true)
    (a_wide_and_narrow : PySem.W.nsIn K mainGlobals "wide_and_narrow" = some (some (.ref f_wide_and_narrow)))
    (l_wide_and_narrow : K.lookup f_wide_and_narrow = some ⟨oc_wide_and_narrow, od_wide_and_narrow, .func (PySem.W.fnOf "wide_and_narrow" "wide_and_narrow" (defArgs s_wide_and_narrow) (defBody s_wide_and_narrow) (defScope s_wide_and_narrow) .none kV_wide_and_narrow dc_wide_and_narrow pm_wide_and_narrow an_wide_and_narrow cd_wide_and_narrow ct_wide_and_narrow), sl_wide_and_narrow⟩)
    (c_wide_and_narrow : PySem.W.codeIn K cd_wide_and_narrow "wide_and_narrow" = true) (k_wide_and_narrow : PySem.W.keepIn K (.ref f_wide_and_narrow) = true)
    (a_rounds_up : PySem.W.nsIn K mainGlobals "rounds_up" = some (some (.ref f_rounds_up)))
    (l_rounds_up : K.lookup f_rounds_up = some ⟨oc_rounds_up, od_rounds_up, .func (PySem.W.fnOf "rounds_up" "rounds_up" (defArgs s_rounds_up) (defBody s_rounds_up) (defScope s_rounds_up) .none kV_rounds_up dc_rounds_up pm_rounds_up an_rounds_up cd_rounds_up ct_rounds_up), sl_rounds_up⟩)
    (c_rounds_up : PySem.W.codeIn K cd_rounds_up "rounds_up" = true) (k_rounds_up : PySem.W.keepIn K (.ref f_rounds_up) = true)
    (a_settled_on_wide : PySem.W.nsIn K mainGlobals "_settled_on_wide" = some (some (.ref f_settled_on_wide)))
    (l_settled_on_wide : K.lookup f_settled_on_wide = some ⟨oc_settled_on_wide, od_settled_on_wide, .func (PySem.W.fnOf "_settled_on_wide" "_settled_on_wide" (defArgs s_settled_on_wide) (defBody s_settled_on_wide) (defScope s_settled_on_wide) .none kV_settled_on_wide dc_settled_on_wide pm_settled_on_wide an_settled_on_wide cd_settled_on_wide ct_settled_on_wide), sl_settled_on_wide⟩)
    (c_settled_on_wide : PySem.W.codeIn K cd_settled_on_wide "_settled_on_wide" = true) (k_settled_on_wide : PySem.W.keepIn K (.ref f_settled_on_wide) = true)
    (a_settled_on_narrow : PySem.W.nsIn K mainGlobals "_settled_on_narrow" = some (some (.ref f_settled_on_narrow)))
    (l_settled_on_narrow : K.lookup f_settled_on_narrow = some ⟨oc_settled_on_narrow, od_settled_on_narrow, .func (PySem.W.fnOf "_settled_on_narrow" "_settled_on_narrow" (defArgs s_settled_on_narrow) (defBody s_settled_on_narrow) (defScope s_settled_on_narrow) .none kV_settled_on_narrow dc_settled_on_narrow pm_settled_on_narrow an_settled_on_narrow cd_settled_on_narrow ct_settled_on_narrow), sl_settled_on_narrow⟩)
    (c_settled_on_narrow : PySem.W.codeIn K cd_settled_on_narrow "_settled_on_narrow" = true) (k_settled_on_narrow : PySem.W.keepIn K (.ref f_settled_on_narrow) = true)
    (a_unneeded : PySem.W.nsIn K mainGlobals "unneeded" = some (some (.ref f_unneeded)))
    (l_unneeded : K.lookup f_unneeded = some ⟨oc_unneeded, od_unneeded, .func (PySem.W.fnOf "unneeded" "unneeded" (defArgs s_unneeded) (defBody s_unneeded) (defScope s_unneeded) .none kV_unneeded dc_unneeded pm_unneeded an_unneeded cd_unneeded ct_unneeded), sl_unneeded⟩)
    (c_unneeded : PySem.W.codeIn K cd_unneeded "unneeded" = true) (k_unneeded : PySem.W.keepIn K (.ref f_unneeded) = true)
    (a_within : PySem.W.nsIn K mainGlobals "within" = some (some (.ref f_within)))
    (l_within : K.lookup f_within = some ⟨oc_within, od_within, .func (PySem.W.fnOf "within" "within" (defArgs s_within) (defBody s_within) (defScope s_within) .none kV_within dc_within pm_within an_within cd_within ct_within), sl_within⟩)
    (c_within : PySem.W.codeIn K cd_within "within" = true) (k_within : PySem.W.keepIn K (.ref f_within) = true)
    (a_highest_within : PySem.W.nsIn K mainGlobals "_highest_within" = some (some (.ref f_highest_within)))
    (l_highest_within : K.lookup f_highest_within = some ⟨oc_highest_within, od_highest_within, .func (PySem.W.fnOf "_highest_within" "_highest_within" (defArgs s_highest_within) (defBody s_highest_within) (defScope s_highest_within) .none kV_highest_within dc_highest_within pm_highest_within an_highest_within cd_highest_within ct_highest_within), sl_highest_within⟩)
    (c_highest_within : PySem.W.codeIn K cd_highest_within "_highest_within" = true) (k_highest_within : PySem.W.keepIn K (.ref f_highest_within) = true)
    (a_continued : PySem.W.nsIn K mainGlobals "_continued" = some (some (.ref f_continued)))
    (l_continued : K.lookup f_continued = some ⟨oc_continued, od_continued, .func (PySem.W.fnOf "_continued" "_continued" (defArgs s_continued) (defBody s_continued) (defScope s_continued) .none kV_continued dc_continued pm_continued an_continued cd_continued ct_continued), sl_continued⟩)
    (c_continued : PySem.W.codeIn K cd_continued "_continued" = true) (k_continued : PySem.W.keepIn K (.ref f_continued) = true)
    (a_meeting : PySem.W.nsIn K mainGlobals "meeting" = some (some (.ref f_meeting)))
    (l_meeting : K.lookup f_meeting = some ⟨oc_meeting, od_meeting, .func (PySem.W.fnOf "meeting" "meeting" (defArgs s_meeting) (defBody s_meeting) (defScope s_meeting) .none kV_meeting dc_meeting pm_meeting an_meeting cd_meeting ct_meeting), sl_meeting⟩)
    (c_meeting : PySem.W.codeIn K cd_meeting "meeting" = true) (k_meeting : PySem.W.keepIn K (.ref f_meeting) = true)
    (a_way_to : PySem.W.nsIn K mainGlobals "_way_to" = some (some (.ref f_way_to)))
    (l_way_to : K.lookup f_way_to = some ⟨oc_way_to, od_way_to, .func (PySem.W.fnOf "_way_to" "_way_to" (defArgs s_way_to) (defBody s_way_to) (defScope s_way_to) .none kV_way_to dc_way_to pm_way_to an_way_to cd_way_to ct_way_to), sl_way_to⟩)
    (c_way_to : PySem.W.codeIn K cd_way_to "_way_to" = true) (k_way_to : PySem.W.keepIn K (.ref f_way_to) = true)
    (a_fewest_places : PySem.W.nsIn K mainGlobals "fewest_places" = some (some (.ref f_fewest_places)))
    (l_fewest_places : K.lookup f_fewest_places = some ⟨oc_fewest_places, od_fewest_places, .func (PySem.W.fnOf "fewest_places" "fewest_places" (defArgs s_fewest_places) (defBody s_fewest_places) (defScope s_fewest_places) .none kV_fewest_places dc_fewest_places pm_fewest_places an_fewest_places cd_fewest_places ct_fewest_places), sl_fewest_places⟩)
    (c_fewest_places : PySem.W.codeIn K cd_fewest_places "fewest_places" = true) (k_fewest_places : PySem.W.keepIn K (.ref f_fewest_places) = true)
    (a_L_source : PySem.W.nsIn K mainGlobals "_law_source" = some (some (.ref f_L_source)))
    (l_L_source : K.lookup f_L_source = some ⟨oc_L_source, od_L_source, .func (PySem.W.fnOf "_law_source" "_law_source" (defArgs s_L_source) (defBody s_L_source) (defScope s_L_source) .none kV_L_source dc_L_source pm_L_source an_L_source cd_L_source ct_L_source), sl_L_source⟩)
    (c_L_source : PySem.W.codeIn K cd_L_source "_law_source" = true) (k_L_source : PySem.W.keepIn K (.ref f_L_source) = true)
    (a_L_draw : PySem.W.nsIn K mainGlobals "_law_draw" = some (some (.ref f_L_draw)))
    (l_L_draw : K.lookup f_L_draw = some ⟨oc_L_draw, od_L_draw, .func (PySem.W.fnOf "_law_draw" "_law_draw" (defArgs s_L_draw) (defBody s_L_draw) (defScope s_L_draw) .none kV_L_draw dc_L_draw pm_L_draw an_L_draw cd_L_draw ct_L_draw), sl_L_draw⟩)
    (c_L_draw : PySem.W.codeIn K cd_L_draw "_law_draw" = true) (k_L_draw : PySem.W.keepIn K (.ref f_L_draw) = true)
    (a_L_pick : PySem.W.nsIn K mainGlobals "_law_pick" = some (some (.ref f_L_pick)))
    (l_L_pick : K.lookup f_L_pick = some ⟨oc_L_pick, od_L_pick, .func (PySem.W.fnOf "_law_pick" "_law_pick" (defArgs s_L_pick) (defBody s_L_pick) (defScope s_L_pick) .none kV_L_pick dc_L_pick pm_L_pick an_L_pick cd_L_pick ct_L_pick), sl_L_pick⟩)
    (c_L_pick : PySem.W.codeIn K cd_L_pick "_law_pick" = true) (k_L_pick : PySem.W.keepIn K (.ref f_L_pick) = true)
    (a_L_great : PySem.W.nsIn K mainGlobals "_law_great" = some (some (.ref f_L_great)))
    (l_L_great : K.lookup f_L_great = some ⟨oc_L_great, od_L_great, .func (PySem.W.fnOf "_law_great" "_law_great" (defArgs s_L_great) (defBody s_L_great) (defScope s_L_great) .none kV_L_great dc_L_great pm_L_great an_L_great cd_L_great ct_L_great), sl_L_great⟩)
    (c_L_great : PySem.W.codeIn K cd_L_great "_law_great" = true) (k_L_great : PySem.W.keepIn K (.ref f_L_great) = true)
    (a_L_side : PySem.W.nsIn K mainGlobals "_law_side" = some (some (.ref f_L_side)))
    (l_L_side : K.lookup f_L_side = some ⟨oc_L_side, od_L_side, .func (PySem.W.fnOf "_law_side" "_law_side" (defArgs s_L_side) (defBody s_L_side) (defScope s_L_side) .none kV_L_side dc_L_side pm_L_side an_L_side cd_L_side ct_L_side), sl_L_side⟩)
    (c_L_side : PySem.W.codeIn K cd_L_side "_law_side" = true) (k_L_side : PySem.W.keepIn K (.ref f_L_side) = true)
    (a_L_asked : PySem.W.nsIn K mainGlobals "_law_asked" = some (some (.ref f_L_asked)))
    (l_L_asked : K.lookup f_L_asked = some ⟨oc_L_asked, od_L_asked, .func (PySem.W.fnOf "_law_asked" "_law_asked" (defArgs s_L_asked) (defBody s_L_asked) (defScope s_L_asked) .none kV_L_asked dc_L_asked pm_L_asked an_L_asked cd_L_asked ct_L_asked), sl_L_asked⟩)
    (c_L_asked : PySem.W.codeIn K cd_L_asked "_law_asked" = true) (k_L_asked : PySem.W.keepIn K (.ref f_L_asked) = true)
    (a_L_word : PySem.W.nsIn K mainGlobals "_law_word" = some (some (.ref f_L_word)))
    (l_L_word : K.lookup f_L_word = some ⟨oc_L_word, od_L_word, .func (PySem.W.fnOf "_law_word" "_law_word" (defArgs s_L_word) (defBody s_L_word) (defScope s_L_word) .none kV_L_word dc_L_word pm_L_word an_L_word cd_L_word ct_L_word), sl_L_word⟩)
    (c_L_word : PySem.W.codeIn K cd_L_word "_law_word" = true) (k_L_word : PySem.W.keepIn K (.ref f_L_word) = true)
    (a_L_is_side : PySem.W.nsIn K mainGlobals "_law_is_side" = some (some (.ref f_L_is_side)))
    (l_L_is_side : K.lookup f_L_is_side = some ⟨oc_L_is_side, od_L_is_side, .func (PySem.W.fnOf "_law_is_side" "_law_is_side" (defArgs s_L_is_side) (defBody s_L_is_side) (defScope s_L_is_side) .none kV_L_is_side dc_L_is_side pm_L_is_side an_L_is_side cd_L_is_side ct_L_is_side), sl_L_is_side⟩)
    (c_L_is_side : PySem.W.codeIn K cd_L_is_side "_law_is_side" = true) (k_L_is_side : PySem.W.keepIn K (.ref f_L_is_side) = true)
    (a_L_bent : PySem.W.nsIn K mainGlobals "_law_bent" = some (some (.ref f_L_bent)))
    (l_L_bent : K.lookup f_L_bent = some ⟨oc_L_bent, od_L_bent, .func (PySem.W.fnOf "_law_bent" "_law_bent" (defArgs s_L_bent) (defBody s_L_bent) (defScope s_L_bent) .none kV_L_bent dc_L_bent pm_L_bent an_L_bent cd_L_bent ct_L_bent), sl_L_bent⟩)
    (c_L_bent : PySem.W.codeIn K cd_L_bent "_law_bent" = true) (k_L_bent : PySem.W.keepIn K (.ref f_L_bent) = true)
    (a_L_two_fit : PySem.W.nsIn K mainGlobals "_law_two_fit" = some (some (.ref f_L_two_fit)))
    (l_L_two_fit : K.lookup f_L_two_fit = some ⟨oc_L_two_fit, od_L_two_fit, .func (PySem.W.fnOf "_law_two_fit" "_law_two_fit" (defArgs s_L_two_fit) (defBody s_L_two_fit) (defScope s_L_two_fit) .none kV_L_two_fit dc_L_two_fit pm_L_two_fit an_L_two_fit cd_L_two_fit ct_L_two_fit), sl_L_two_fit⟩)
    (c_L_two_fit : PySem.W.codeIn K cd_L_two_fit "_law_two_fit" = true) (k_L_two_fit : PySem.W.keepIn K (.ref f_L_two_fit) = true)
    (a_L_lists_fit : PySem.W.nsIn K mainGlobals "_law_lists_fit" = some (some (.ref f_L_lists_fit)))
    (l_L_lists_fit : K.lookup f_L_lists_fit = some ⟨oc_L_lists_fit, od_L_lists_fit, .func (PySem.W.fnOf "_law_lists_fit" "_law_lists_fit" (defArgs s_L_lists_fit) (defBody s_L_lists_fit) (defScope s_L_lists_fit) .none kV_L_lists_fit dc_L_lists_fit pm_L_lists_fit an_L_lists_fit cd_L_lists_fit ct_L_lists_fit), sl_L_lists_fit⟩)
    (c_L_lists_fit : PySem.W.codeIn K cd_L_lists_fit "_law_lists_fit" = true) (k_L_lists_fit : PySem.W.keepIn K (.ref f_L_lists_fit) = true)
    (a_law : PySem.W.nsIn K mainGlobals "law" = some (some (.ref f_law)))
    (l_law : K.lookup f_law = some ⟨oc_law, od_law, .func (PySem.W.fnOf "law" "law" (defArgs s_law) (defBody s_law) (defScope s_law) .none kV_law dc_law pm_law an_law cd_law ct_law), sl_law⟩)
    (c_law : PySem.W.codeIn K cd_law "law" = true) (k_law : PySem.W.keepIn K (.ref f_law) = true)
    (z_len : PySem.W.nsIn K mainGlobals "len" = some none)
    (z_abs : PySem.W.nsIn K mainGlobals "abs" = some none)
    (z_int : PySem.W.nsIn K mainGlobals "int" = some none)
    (z_range : PySem.W.nsIn K mainGlobals "range" = some none)
    (z_isinstance : PySem.W.nsIn K mainGlobals "isinstance" = some none)
    (z_bool : PySem.W.nsIn K mainGlobals "bool" = some none)
    (z_tuple : PySem.W.nsIn K mainGlobals "tuple" = some none)
    (z_divmod : PySem.W.nsIn K mainGlobals "divmod" = some none)
    (z_max : PySem.W.nsIn K mainGlobals "max" = some none)
    (z_min : PySem.W.nsIn K mainGlobals "min" = some none)
    (z_list : PySem.W.nsIn K mainGlobals "list" = some none)
    (z_sorted : PySem.W.nsIn K mainGlobals "sorted" = some none)
    (z_enumerate : PySem.W.nsIn K mainGlobals "enumerate" = some none)
    (z_ValueError : PySem.W.nsIn K mainGlobals "ValueError" = some none)
    (g_0 : PySem.W.nsIn K mainGlobals "InvalidSide" = some (some (.ref c0)))
    (g_1 : PySem.W.nsIn K mainGlobals "InvalidSides" = some (some (.ref c1)))
    (g_2 : PySem.W.nsIn K mainGlobals "TooMany" = some (some (.ref c2)))
    (g_3 : PySem.W.nsIn K mainGlobals "InvalidValue" = some (some (.ref c3)))
    (g_4 : PySem.W.nsIn K mainGlobals "InvalidNumber" = some (some (.ref c4)))
    (g_B : PySem.W.nsIn K mainGlobals "HandedError" = some (some (.ref cB)))
    (et_0 : erT K (cAt [c0, c1, c2, c3, c4]) cB 0 = true)
    (et_1 : erT K (cAt [c0, c1, c2, c3, c4]) cB 1 = true)
    (et_2 : erT K (cAt [c0, c1, c2, c3, c4]) cB 2 = true)
    (et_3 : erT K (cAt [c0, c1, c2, c3, c4]) cB 3 = true)
    (et_4 : erT K (cAt [c0, c1, c2, c3, c4]) cB 4 = true)
    (em_0 : PySem.W.exmOne K (.ref c0) (.ref c0) = some true)
    (gsp : PySem.W.specialIn K (.builtin "object.__class__") "__get__" = some (some (.builtin "getset_descriptor.__get__")))
    (gtk : PySem.W.takesIn K (.builtin "object.__class__") = some true)
    (a_MS : PySem.W.nsIn K mainGlobals "MOST_SIDES" = some (some (.int 4 tMS)))
    (a_MN : PySem.W.nsIn K mainGlobals "MOST_NUMBER" = some (some (.int (10 ^ 40) tMN)))
    (a_MR : PySem.W.nsIn K mainGlobals "MOST_ROWS" = some (some (.int 10000 tMR)))
    (l_U : K.lookup aU = some ⟨.type "tuple", odU, .seq itsU nU, slU⟩)
    (v_U : Vals [V.int 1] itsU.toList)
    (a_MP : PySem.W.nsIn K mainGlobals "MOST_PERIOD_OF_ALL" = some (some (.int 20000 tMP)))
    (a_MA : PySem.W.nsIn K mainGlobals "MOST_SIDES_AHEAD" = some (some (.int 3 tMA)))
    (a_MM : PySem.W.nsIn K mainGlobals "MOST_PERIOD_TO_MEET" = some (some (.int 120 tMM)))
    (a_MD : PySem.W.nsIn K mainGlobals "MOST_DIFFERENCE" = some (some (.int 240 tMD)))
    (em_2 : PySem.W.exmOne K (.ref c2) (.ref c2) = some true)
    (a_lcm : PySem.W.nsIn K mainGlobals "lcm" = some (some (.builtin "math.lcm")))
    (a_MODES : PySem.W.nsIn K mainGlobals "MODES" = some (some (.ref aM)))
    (l_MODES : K.lookup aM = some ⟨.type "tuple", odM, .seq itsM nM, slM⟩)
    (v_MODES : itsM.size ≤ sizeLine ∧ Vals modesV itsM.toList)
    (a_MIR : PySem.W.nsIn K mainGlobals "MIRRORED" = some (some (.ref aR)))
    (l_MIR : K.lookup aR = some ⟨.type "dict", none, .dict esR nR, #[]⟩)
    (h_MIR : PySem.W.KeysLit w.params esR.toList)
    (d_down : PySem.W.nsIn K aR "down" = some (some u_down)) (r_down : RelV (.str "up") u_down)
    (d_up : PySem.W.nsIn K aR "up" = some (some u_up)) (r_up : RelV (.str "down") u_up)
    (d_half_down : PySem.W.nsIn K aR "half_down" = some (some u_half_down)) (r_half_down : RelV (.str "half_up") u_half_down)
    (d_half_up : PySem.W.nsIn K aR "half_up" = some (some u_half_up)) (r_half_up : RelV (.str "half_down") u_half_up)
    (d_half_even : PySem.W.nsIn K aR "half_even" = some (some u_half_even)) (r_half_even : RelV (.str "half_even") u_half_even) :
    ∃ fd : FuncData, (∀ (s : Shared) (v : Value), BindsTo s fd ⟨[v], []⟩ [("_law_script", v)]) ∧ ∀ base : Heap, K.In base → base.Ns mainGlobals mg → FnOk l.prog w K mg base CX0 112 fa fd ["_law_script"] (spLaw K) := by
  have e := hfa.symm.trans (PySem.W.mg_of X G a_law)
  cases e
  have F_is_int := fun_mk (st := s_is_int) l_is_int c_is_int k_is_int
  have b_is_int := F_is_int.binds (ps := ["thing"]) fun _ _ _ _ _ _ us hl => match us, hl with | [_], _ => rfl
  have m_is_int := PySem.W.mg_of X G a_is_int
  have F_is_int_between := fun_mk (st := s_is_int_between) l_is_int_between c_is_int_between k_is_int_between
  have b_is_int_between := F_is_int_between.binds (ps := ["thing", "least", "most"]) fun _ _ _ _ _ _ us hl => match us, hl with | [_, _, _], _ => rfl
  have m_is_int_between := PySem.W.mg_of X G a_is_int_between
  have F_check_value := fun_mk (st := s_check_value) l_check_value c_check_value k_check_value
  have b_check_value := F_check_value.binds (ps := ["value"]) fun _ _ _ _ _ _ us hl => match us, hl with | [_], _ => rfl
  have m_check_value := PySem.W.mg_of X G a_check_value
  have F_check_side := fun_mk (st := s_check_side) l_check_side c_check_side k_check_side
  have b_check_side := F_check_side.binds (ps := ["side"]) fun _ _ _ _ _ _ us hl => match us, hl with | [_], _ => rfl
  have m_check_side := PySem.W.mg_of X G a_check_side
  have F_is_side := fun_mk (st := s_is_side) l_is_side c_is_side k_is_side
  have b_is_side := F_is_side.binds (ps := ["thing"]) fun _ _ _ _ _ _ us hl => match us, hl with | [_], _ => rfl
  have m_is_side := PySem.W.mg_of X G a_is_side
  have F_figure := fun_mk (st := s_figure) l_figure c_figure k_figure
  have b_figure := F_figure.binds (ps := ["side", "value"]) fun _ _ _ _ _ _ us hl => match us, hl with | [_, _], _ => rfl
  have m_figure := PySem.W.mg_of X G a_figure
  have F_goes_up := fun_mk (st := s_goes_up) l_goes_up c_goes_up k_goes_up
  have b_goes_up := F_goes_up.binds (ps := ["mode", "step", "figure", "rest"]) fun _ _ _ _ _ _ us hl => match us, hl with | [_, _, _, _], _ => rfl
  have m_goes_up := PySem.W.mg_of X G a_goes_up
  have F_written := fun_mk (st := s_written) l_written c_written k_written
  have b_written := F_written.binds (ps := ["side", "value"]) fun _ _ _ _ _ _ us hl => match us, hl with | [_, _], _ => rfl
  have m_written := PySem.W.mg_of X G a_written
  have F_span := fun_mk (st := s_span) l_span c_span k_span
  have b_span := F_span.binds (ps := ["side", "figure"]) fun _ _ _ _ _ _ us hl => match us, hl with | [_, _], _ => rfl
  have m_span := PySem.W.mg_of X G a_span
  have F_uspan := fun_mk (st := s_uspan) l_uspan c_uspan k_uspan
  have b_uspan := F_uspan.binds (ps := ["side", "figure"]) fun _ _ _ _ _ _ us hl => match us, hl with | [_, _], _ => rfl
  have m_uspan := PySem.W.mg_of X G a_uspan
  have F_below := fun_mk (st := s_below) l_below c_below k_below
  have b_below := F_below.binds (ps := ["mode", "step", "figure"]) fun _ _ _ _ _ _ us hl => match us, hl with | [_, _, _], _ => rfl
  have m_below := PySem.W.mg_of X G a_below
  have F_threshold := fun_mk (st := s_threshold) l_threshold c_threshold k_threshold
  have b_threshold := F_threshold.binds (ps := ["side", "value"]) fun _ _ _ _ _ _ us hl => match us, hl with | [_, _], _ => rfl
  have m_threshold := PySem.W.mg_of X G a_threshold
  have F_mirror := fun_mk (st := s_mirror) l_mirror c_mirror k_mirror
  have b_mirror := F_mirror.binds (ps := ["side"]) fun _ _ _ _ _ _ us hl => match us, hl with | [_], _ => rfl
  have m_mirror := PySem.W.mg_of X G a_mirror
  have F_check_sides := fun_mk (st := s_check_sides) l_check_sides c_check_sides k_check_sides
  have b_check_sides := F_check_sides.binds (ps := ["sides"]) fun _ _ _ _ _ _ us hl => match us, hl with | [_], _ => rfl
  have m_check_sides := PySem.W.mg_of X G a_check_sides
  have F_period_of := fun_mk (st := s_period_of) l_period_of c_period_of k_period_of
  have b_period_of := F_period_of.binds (ps := ["side"]) fun _ _ _ _ _ _ us hl => match us, hl with | [_], _ => rfl
  have m_period_of := PySem.W.mg_of X G a_period_of
  have F_common_period := fun_mk (st := s_common_period) l_common_period c_common_period k_common_period
  have b_common_period := F_common_period.binds (ps := ["sides"]) fun _ _ _ _ _ _ us hl => match us, hl with | [_], _ => rfl
  have m_common_period := PySem.W.mg_of X G a_common_period
  have F_highest := fun_mk (st := s_highest) l_highest c_highest k_highest
  have b_highest := F_highest.binds (ps := ["sides", "value"]) fun _ _ _ _ _ _ us hl => match us, hl with | [_, _], _ => rfl
  have m_highest := PySem.W.mg_of X G a_highest
  have F_mirrors := fun_mk (st := s_mirrors) l_mirrors c_mirrors k_mirrors
  have b_mirrors := F_mirrors.binds (ps := ["sides"]) fun _ _ _ _ _ _ us hl => match us, hl with | [_], _ => rfl
  have m_mirrors := PySem.W.mg_of X G a_mirrors
  have F_first_hit := fun_mk (st := s_first_hit) l_first_hit c_first_hit k_first_hit
  have b_first_hit := F_first_hit.binds (ps := ["start", "step", "most", "modulus"]) fun _ _ _ _ _ _ us hl => match us, hl with | [_, _, _, _], _ => rfl
  have m_first_hit := PySem.W.mg_of X G a_first_hit
  have F_first_between := fun_mk (st := s_first_between) l_first_between c_first_between k_first_between
  have b_first_between := F_first_between.binds (ps := ["step", "least", "greatest", "modulus"]) fun _ _ _ _ _ _ us hl => match us, hl with | [_, _, _, _], _ => rfl
  have m_first_between := PySem.W.mg_of X G a_first_between
  have m_unraised := PySem.W.mg_of X G a_unraised
  have F_settled := fun_mk (st := s_settled) l_settled c_settled k_settled
  have b_settled := F_settled.binds (ps := ["first", "second", "value"]) fun _ _ _ _ _ _ us hl => match us, hl with | [_, _, _], _ => rfl
  have m_settled := PySem.W.mg_of X G a_settled
  have F_pace := fun_mk (st := s_pace) l_pace c_pace k_pace
  have b_pace := F_pace.binds (ps := ["first", "second"]) fun _ _ _ _ _ _ us hl => match us, hl with | [_, _], _ => rfl
  have m_pace := PySem.W.mg_of X G a_pace
  have F_creep := fun_mk (st := s_creep) l_creep c_creep k_creep
  have b_creep := F_creep.binds (ps := ["first", "second"]) fun _ _ _ _ _ _ us hl => match us, hl with | [_, _], _ => rfl
  have m_creep := PySem.W.mg_of X G a_creep
  have F_wide_and_narrow := fun_mk (st := s_wide_and_narrow) l_wide_and_narrow c_wide_and_narrow k_wide_and_narrow
  have b_wide_and_narrow := F_wide_and_narrow.binds (ps := ["first", "second"]) fun _ _ _ _ _ _ us hl => match us, hl with | [_, _], _ => rfl
  have m_wide_and_narrow := PySem.W.mg_of X G a_wide_and_narrow
  have F_rounds_up := fun_mk (st := s_rounds_up) l_rounds_up c_rounds_up k_rounds_up
  have b_rounds_up := F_rounds_up.binds (ps := ["wide", "narrow", "value"]) fun _ _ _ _ _ _ us hl => match us, hl with | [_, _, _], _ => rfl
  have m_rounds_up := PySem.W.mg_of X G a_rounds_up
  have F_settled_on_wide := fun_mk (st := s_settled_on_wide) l_settled_on_wide c_settled_on_wide k_settled_on_wide
  have b_settled_on_wide := F_settled_on_wide.binds (ps := ["wide", "narrow", "value"]) fun _ _ _ _ _ _ us hl => match us, hl with | [_, _, _], _ => rfl
  have m_settled_on_wide := PySem.W.mg_of X G a_settled_on_wide
  have F_settled_on_narrow := fun_mk (st := s_settled_on_narrow) l_settled_on_narrow c_settled_on_narrow k_settled_on_narrow
  have b_settled_on_narrow := F_settled_on_narrow.binds (ps := ["narrow", "wide", "value"]) fun _ _ _ _ _ _ us hl => match us, hl with | [_, _, _], _ => rfl
  have m_settled_on_narrow := PySem.W.mg_of X G a_settled_on_narrow
  have F_unneeded := fun_mk (st := s_unneeded) l_unneeded c_unneeded k_unneeded
  have b_unneeded := F_unneeded.binds (ps := ["sides"]) fun _ _ _ _ _ _ us hl => match us, hl with | [_], _ => rfl
  have m_unneeded := PySem.W.mg_of X G a_unneeded
  have F_within := fun_mk (st := s_within) l_within c_within k_within
  have b_within := F_within.binds (ps := ["sides", "value", "many"]) fun _ _ _ _ _ _ us hl => match us, hl with | [_, _, _], _ => rfl
  have m_within := PySem.W.mg_of X G a_within
  have F_highest_within := fun_mk (st := s_highest_within) l_highest_within c_highest_within k_highest_within
  have b_highest_within := F_highest_within.binds (ps := ["sides", "value", "many"]) fun _ _ _ _ _ _ us hl => match us, hl with | [_, _, _], _ => rfl
  have m_highest_within := PySem.W.mg_of X G a_highest_within
  have F_continued := fun_mk (st := s_continued) l_continued c_continued k_continued
  have b_continued := F_continued.binds (ps := ["values", "following", "many"]) fun _ _ _ _ _ _ us hl => match us, hl with | [_, _, _], _ => rfl
  have m_continued := PySem.W.mg_of X G a_continued
  have F_meeting := fun_mk (st := s_meeting) l_meeting c_meeting k_meeting
  have b_meeting := F_meeting.binds (ps := ["sides", "one", "other"]) fun _ _ _ _ _ _ us hl => match us, hl with | [_, _, _], _ => rfl
  have m_meeting := PySem.W.mg_of X G a_meeting
  have F_way_to := fun_mk (st := s_way_to) l_way_to c_way_to k_way_to
  have b_way_to := F_way_to.binds (ps := ["ways", "pair"]) fun _ _ _ _ _ _ us hl => match us, hl with | [_, _], _ => rfl
  have m_way_to := PySem.W.mg_of X G a_way_to
  have F_fewest_places := fun_mk (st := s_fewest_places) l_fewest_places c_fewest_places k_fewest_places
  have b_fewest_places := F_fewest_places.binds (ps := ["sides", "side"]) fun _ _ _ _ _ _ us hl => match us, hl with | [_, _], _ => rfl
  have m_fewest_places := PySem.W.mg_of X G a_fewest_places
  have F_L_source := fun_mk (st := s_L_source) l_L_source c_L_source k_L_source
  have b_L_source := F_L_source.binds (ps := ["_law_script"]) fun _ _ _ _ _ _ us hl => match us, hl with | [_], _ => rfl
  have m_L_source := PySem.W.mg_of X G a_L_source
  have F_L_draw := fun_mk (st := s_L_draw) l_L_draw c_L_draw k_L_draw
  have b_L_draw := F_L_draw.binds (ps := ["_law_source_here", "_law_limit"]) fun _ _ _ _ _ _ us hl => match us, hl with | [_, _], _ => rfl
  have m_L_draw := PySem.W.mg_of X G a_L_draw
  have F_L_pick := fun_mk (st := s_L_pick) l_L_pick c_L_pick k_L_pick
  have b_L_pick := F_L_pick.binds (ps := ["_law_source_here", "_law_values"]) fun _ _ _ _ _ _ us hl => match us, hl with | [_, _], _ => rfl
  have m_L_pick := PySem.W.mg_of X G a_L_pick
  have F_L_great := fun_mk (st := s_L_great) l_L_great c_L_great k_L_great
  have b_L_great := F_L_great.binds (ps := ["_law_source_here", "_law_digits"]) fun _ _ _ _ _ _ us hl => match us, hl with | [_, _], _ => rfl
  have m_L_great := PySem.W.mg_of X G a_L_great
  have F_L_side := fun_mk (st := s_L_side) l_L_side c_L_side k_L_side
  have b_L_side := F_L_side.binds (ps := ["_law_source_here", "_law_digits"]) fun _ _ _ _ _ _ us hl => match us, hl with | [_, _], _ => rfl
  have m_L_side := PySem.W.mg_of X G a_L_side
  have F_L_asked := fun_mk (st := s_L_asked) l_L_asked c_L_asked k_L_asked
  have b_L_asked := F_L_asked.binds (ps := ["_law_way", "_law_parts"]) fun _ _ _ _ _ _ us hl => match us, hl with | [_, _], _ => rfl
  have m_L_asked := PySem.W.mg_of X G a_L_asked
  have F_L_word := fun_mk (st := s_L_word) l_L_word c_L_word k_L_word
  have b_L_word := F_L_word.binds (ps := ["_law_way", "_law_parts"]) fun _ _ _ _ _ _ us hl => match us, hl with | [_, _], _ => rfl
  have m_L_word := PySem.W.mg_of X G a_L_word
  have F_L_is_side := fun_mk (st := s_L_is_side) l_L_is_side c_L_is_side k_L_is_side
  have b_L_is_side := F_L_is_side.binds (ps := ["_law_value"]) fun _ _ _ _ _ _ us hl => match us, hl with | [_], _ => rfl
  have m_L_is_side := PySem.W.mg_of X G a_L_is_side
  have F_L_bent := fun_mk (st := s_L_bent) l_L_bent c_L_bent k_L_bent
  have b_L_bent := F_L_bent.binds (ps := ["_law_source_here", "_law_one"]) fun _ _ _ _ _ _ us hl => match us, hl with | [_, _], _ => rfl
  have m_L_bent := PySem.W.mg_of X G a_L_bent
  have F_L_two_fit := fun_mk (st := s_L_two_fit) l_L_two_fit c_L_two_fit k_L_two_fit
  have b_L_two_fit := F_L_two_fit.binds (ps := ["_law_source_here", "_law_one", "_law_other", "_law_bent_here"]) fun _ _ _ _ _ _ us hl => match us, hl with | [_, _, _, _], _ => rfl
  have m_L_two_fit := PySem.W.mg_of X G a_L_two_fit
  have F_L_lists_fit := fun_mk (st := s_L_lists_fit) l_L_lists_fit c_L_lists_fit k_L_lists_fit
  have b_L_lists_fit := F_L_lists_fit.binds (ps := ["_law_source_here", "_law_one", "_law_bent_here"]) fun _ _ _ _ _ _ us hl => match us, hl with | [_, _, _], _ => rfl
  have m_L_lists_fit := PySem.W.mg_of X G a_L_lists_fit
  have F_law := fun_mk (st := s_law) l_law c_law k_law
  have b_law := F_law.binds (ps := ["_law_script"]) fun _ _ _ _ _ _ us hl => match us, hl with | [_], _ => rfl
  have m_law := PySem.W.mg_of X G a_law
  have n_len := PySem.W.mg_none_of X G z_len
  have n_abs := PySem.W.mg_none_of X G z_abs
  have n_int := PySem.W.mg_none_of X G z_int
  have n_range := PySem.W.mg_none_of X G z_range
  have n_isinstance := PySem.W.mg_none_of X G z_isinstance
  have n_bool := PySem.W.mg_none_of X G z_bool
  have n_tuple := PySem.W.mg_none_of X G z_tuple
  have n_divmod := PySem.W.mg_none_of X G z_divmod
  have n_max := PySem.W.mg_none_of X G z_max
  have n_min := PySem.W.mg_none_of X G z_min
  have n_list := PySem.W.mg_none_of X G z_list
  have n_sorted := PySem.W.mg_none_of X G z_sorted
  have n_enumerate := PySem.W.mg_none_of X G z_enumerate
  have n_ValueError := PySem.W.mg_none_of X G z_ValueError
  have BL : Blt mg := ⟨n_len, n_abs, n_int, n_range⟩
  have T : SideT K mg aM := ⟨n_isinstance, n_int, n_bool, n_tuple, n_len, n_divmod, PySem.W.mg_of X G a_MODES, fun _ => .inr ⟨_, _, _, l_MODES, rfl, rfl, v_MODES.1, v_MODES.2⟩⟩
  have RT : MirT K w mg aR := ⟨PySem.W.mg_of X G a_MIR, fun m hm => by
    rcases hm with e | e | e | e | e <;> subst e
    · rw [mir_d]; exact ⟨_, _, _, l_MIR, h_MIR, d_down, r_down⟩
    · rw [mir_u]; exact ⟨_, _, _, l_MIR, h_MIR, d_up, r_up⟩
    · rw [mir_hd]; exact ⟨_, _, _, l_MIR, h_MIR, d_half_down, r_half_down⟩
    · rw [mir_hu]; exact ⟨_, _, _, l_MIR, h_MIR, d_half_up, r_half_up⟩
    · rw [mir_he]; exact ⟨_, _, _, l_MIR, h_MIR, d_half_even, r_half_even⟩⟩
  have TC : ChkT mg := ⟨n_isinstance, n_int, n_bool, n_tuple, n_list, n_len⟩
  have TM : ModT K mg aM := ⟨T.gM, T.tM⟩
  have AT : AmT mg := ⟨⟨_, PySem.W.mg_of X G a_MS⟩⟩
  have tab : ∀ i, i < 5 → erT K (cAt [c0, c1, c2, c3, c4]) cB i = true := fun i hi => by
    rcases (by omega : i = 0 ∨ i = 1 ∨ i = 2 ∨ i = 3 ∨ i = 4) with e | e | e | e | e <;> subst e
    · exact et_0
    · exact et_1
    · exact et_2
    · exact et_3
    · exact et_4
  have tb : ∀ i, i < 5 → errB K (cAt [c0, c1, c2, c3, c4] i) = true ∧ (PySem.W.excIn K (cAt [c0, c1, c2, c3, c4] i) [.type "ValueError", .type "Exception", .type "BaseException", .type "object"] "ValueError.__new__" = true ∧ PySem.W.keepIn K (.ref (cAt [c0, c1, c2, c3, c4] i)) = true) ∧ PySem.W.kitOne K (.ref (cAt [c0, c1, c2, c3, c4] i)) (.type "ValueError") = some true ∧ PySem.W.subIn K (.ref (cAt [c0, c1, c2, c3, c4] i)) (.type "BaseException") = some true ∧ PySem.W.typeIn K (.ref (cAt [c0, c1, c2, c3, c4] i)) = some (.type "type") ∧ PySem.W.exmOne K (.ref (cAt [c0, c1, c2, c3, c4] i)) (.ref cB) = some true ∧ ∀ j, j < 5 → PySem.W.kitOne K (.ref (cAt [c0, c1, c2, c3, c4] i)) (.ref (cAt [c0, c1, c2, c3, c4] j)) = some (decide (i = j)) := fun i hi => by
    have z := tab i hi
    unfold erT exB at z
    simp only [Bool.and_eq_true, decide_eq_true_eq] at z
    obtain ⟨a, b, c, d, e, f, g⟩ := z
    exact ⟨a, b, c, d, e, f, fun j hj => of_decide_eq_true (all_of g hj)⟩
  have R : Er K mg (cAt [c0, c1, c2, c3, c4]) cB := { isi := n_isinstance, ve := n_ValueError, gB := PySem.W.mg_of X G g_B, g0 := PySem.W.mg_of X G g_0, g1 := PySem.W.mg_of X G g_1, g2 := PySem.W.mg_of X G g_2, g3 := PySem.W.mg_of X G g_3, g4 := PySem.W.mg_of X G g_4, kit := fun i j hi hj => (tb i hi).2.2.2.2.2.2 j hj, kitV := fun i hi => (tb i hi).2.2.1, ec := fun i hi => errB_ok (tb i hi).1, eg := ⟨gsp, gtk⟩, ex := fun i hi => (tb i hi).2.1.1, kp := fun i hi => (tb i hi).2.1.2, sb := fun i hi => (tb i hi).2.2.2.1, ty := fun i hi => (tb i hi).2.2.2.2.1, emB := fun i hi => (tb i hi).2.2.2.2.2.1, em0 := em_0 }
  have MX : MaxT mg := ⟨n_max, n_min⟩
  have AM : AmG mg := ⟨n_isinstance, n_list, n_len, ⟨_, PySem.W.mg_of X G a_MS⟩, PySem.W.mg_of X G a_lcm, n_sorted⟩
  have D_unraised : FunD K "unraised" "unraised" (defArgs s_unraised) (defBody s_unraised) (defScope s_unraised) [.int 1] [] f_unraised _ := ⟨⟨_, _, _, _, _, _, _, _, _, _, rfl, l_unraised, c_unraised, .inr ⟨(fun z => nomatch z), aU, _, itsU.toList, nU, rfl, l_U, rfl, v_U⟩, .inl rfl⟩, k_unraised⟩
  have bd_unraised := D_unraised.binds1 (ps := ["side", "least"]) 2 1 (fun z => nomatch z) rfl (fun T kV doc pm an cdv ct us its h1 h2 => match us, its, h1, h2 with | [_, _], [_], _, _ => ⟨_, rfl, rfl⟩)
  obtain ⟨ds_u, vz_u, b_unraised⟩ := bd_unraised
  have ez_u : ds_u = [] := by cases (show Vals [] ds_u from vz_u); rfl
  subst ez_u
  refine ⟨PySem.W.fnOf "law" "law" (defArgs s_law) (defBody s_law) (defScope s_law) .none kV_law dc_law pm_law an_law cd_law ct_law, fun s v => .of_eq rfl, fun base _ _ => ?_⟩
  have LG : LimG mg := ⟨n_divmod, ⟨_, PySem.W.mg_of X G a_MN⟩, ⟨_, PySem.W.mg_of X G a_MR⟩⟩
  have C_is_int : Cal l.prog w K mg base "is_int" 1 ["thing"] spIsInt f_is_int _ := ⟨ok_is_int F_is_int T, m_is_int, k_is_int, b_is_int⟩
  have C_is_int_between : Cal l.prog w K mg base "is_int_between" 2 ["thing", "least", "most"] spBetween f_is_int_between _ := ⟨ok_between F_is_int_between C_is_int, m_is_int_between, k_is_int_between, b_is_int_between⟩
  have C_check_value : Cal l.prog w K mg base "check_value" 2 ["value"] spCheckValue f_check_value _ := ⟨ok_check_value F_check_value C_is_int, m_check_value, k_check_value, b_check_value⟩
  have C_check_side : Cal l.prog w K mg base "check_side" 3 ["side"] spCheckSide f_check_side _ := ⟨ok_check_side F_check_side T C_is_int_between, m_check_side, k_check_side, b_check_side⟩
  have C_goes_up : Cal l.prog w K mg base "_goes_up" 1 ["mode", "step", "figure", "rest"] spGo f_goes_up _ := ⟨ok_goes_up F_goes_up, m_goes_up, k_goes_up, b_goes_up⟩
  have C_figure : Cal l.prog w K mg base "_figure" 2 ["side", "value"] spFig f_figure _ := ⟨ok_figure F_figure T C_goes_up, m_figure, k_figure, b_figure⟩
  have C_written : Cal l.prog w K mg base "written" 3 ["side", "value"] spDue f_written _ := ⟨ok_written F_written C_figure, m_written, k_written, b_written⟩
  have C_below : Cal l.prog w K mg base "_below" 1 ["mode", "step", "figure"] spBelow f_below _ := ⟨ok_below F_below, m_below, k_below, b_below⟩
  have C_uspan : Cal l.prog w K mg base "_span" 2 ["side", "figure"] spSpan f_uspan _ := ⟨ok_uspan F_uspan RT C_below, m_uspan, k_uspan, b_uspan⟩
  have C_span : Cal l.prog w K mg base "span" 4 ["side", "figure"] spSpan f_span _ := ⟨ok_span F_span C_check_side C_check_value C_uspan, m_span, k_span, b_span⟩
  have C_threshold : Cal l.prog w K mg base "threshold" 3 ["side", "value"] spBack f_threshold _ := ⟨ok_threshold F_threshold C_below, m_threshold, k_threshold, b_threshold⟩
  have UG : UnG mg := ⟨n_len, n_range, n_enumerate, ⟨_, PySem.W.mg_of X G a_MP⟩⟩
  have C_mirror : Cal l.prog w K mg base "mirror" 4 ["side"] spMirror f_mirror _ := ⟨ok_mirror F_mirror RT C_check_side, m_mirror, k_mirror, b_mirror⟩
  have C_is_side : Cal l.prog w K mg base "is_side" 4 ["thing"] spIsSide f_is_side _ := ⟨ok_is_side F_is_side (PySem.W.mg_of X G g_0) C_check_side, m_is_side, k_is_side, b_is_side⟩
  have C_check_sides : Cal l.prog w K mg base "check_sides" 5 ["sides"] spSides f_check_sides _ := ⟨ok_sides F_check_sides AM C_is_side, m_check_sides, k_check_sides, b_check_sides⟩
  have C_period_of : Cal l.prog w K mg base "period_of" 1 ["side"] spPerOf f_period_of _ := ⟨ok_per F_period_of, m_period_of, k_period_of, b_period_of⟩
  have C_common_period : Cal l.prog w K mg base "common_period" 2 ["sides"] spPerL f_common_period _ := ⟨ok_commonL F_common_period AM C_period_of, m_common_period, k_common_period, b_common_period⟩
  have C_mirrors : Cal l.prog w K mg base "mirrors" 5 ["sides"] spMirs f_mirrors _ := ⟨ok_mirs F_mirrors C_mirror, m_mirrors, k_mirrors, b_mirrors⟩
  have C_highest : Cal l.prog w K mg base "highest" 4 ["sides", "value"] spHi f_highest _ := ⟨ok_hi F_highest MX C_written, m_highest, k_highest, b_highest⟩
  have C_continued : Cal l.prog w K mg base "_continued" 1 ["values", "following", "many"] spCont f_continued _ := ⟨ok_cont F_continued AM LG, m_continued, k_continued, b_continued⟩
  have X_highest_within : CalX l.prog w K mg base "_highest_within" 5 ["sides", "value", "many"] (spHWX (cAt [c0, c1, c2, c3, c4])) f_highest_within _ := ⟨ok_hw F_highest_within BL MX LG R C_common_period C_highest C_continued, m_highest_within, k_highest_within, b_highest_within⟩
  have X_within : CalX l.prog w K mg base "within" 6 ["sides", "value", "many"] (spWiX (cAt [c0, c1, c2, c3, c4])) f_within _ := ⟨ok_within F_within LG C_check_sides C_check_value C_is_int_between C_mirrors X_highest_within, m_within, k_within, b_within⟩
  have C_first_between : ∀ n, n ≤ 200 → Cal l.prog w K mg base "_first_between" (n + 1) ["step", "least", "greatest", "modulus"] (spFB n) f_first_between _ := fun n hn => ⟨ok_fb F_first_between m_first_between k_first_between b_first_between n hn, m_first_between, k_first_between, b_first_between⟩
  have C_first_hit : Cal l.prog w K mg base "first_hit" 104 ["start", "step", "most", "modulus"] spFH f_first_hit _ := ⟨ok_hit F_first_hit (C_first_between 102 (by decide)), m_first_hit, k_first_hit, b_first_hit⟩
  have C_unraised : Cal l.prog w K mg base "unraised" 5 ["side", "least"] spUnrL f_unraised _ := ⟨ok_unrL D_unraised BL MX C_period_of C_span, m_unraised, k_unraised, b_unraised⟩
  have C_wide_and_narrow : Cal l.prog w K mg base "wide_and_narrow" 1 ["first", "second"] spWN f_wide_and_narrow _ := ⟨ok_wn F_wide_and_narrow, m_wide_and_narrow, k_wide_and_narrow, b_wide_and_narrow⟩
  have C_rounds_up : Cal l.prog w K mg base "rounds_up" 105 ["wide", "narrow", "value"] spRU f_rounds_up _ := ⟨ok_ru F_rounds_up BL MX C_period_of C_threshold C_unraised C_first_hit, m_rounds_up, k_rounds_up, b_rounds_up⟩
  have C_creep : Cal l.prog w K mg base "_creep" 106 ["first", "second"] spCreep f_creep _ := ⟨ok_creep F_creep C_wide_and_narrow C_rounds_up C_mirror, m_creep, k_creep, b_creep⟩
  have C_settled_on_wide : Cal l.prog w K mg base "_settled_on_wide" 106 ["wide", "narrow", "value"] spSW f_settled_on_wide _ := ⟨ok_sw F_settled_on_wide C_rounds_up C_mirror C_written, m_settled_on_wide, k_settled_on_wide, b_settled_on_wide⟩
  have C_settled_on_narrow : Cal l.prog w K mg base "_settled_on_narrow" 107 ["narrow", "wide", "value"] spSN f_settled_on_narrow _ := ⟨ok_sn F_settled_on_narrow C_settled_on_wide C_written, m_settled_on_narrow, k_settled_on_narrow, b_settled_on_narrow⟩
  have C_settled : Cal l.prog w K mg base "settled" 108 ["first", "second", "value"] spSettled f_settled _ := ⟨ok_settled F_settled C_check_side C_check_value C_creep C_settled_on_wide C_settled_on_narrow C_written, m_settled, k_settled, b_settled⟩
  have C_pace : Cal l.prog w K mg base "pace" 107 ["first", "second"] spCreep f_pace _ := ⟨ok_pace F_pace C_check_side C_creep, m_pace, k_pace, b_pace⟩
  have C_way_to : Cal l.prog w K mg base "_way_to" 1 ["ways", "pair"] spWT f_way_to _ := ⟨ok_way_to F_way_to, m_way_to, k_way_to, b_way_to⟩
  have C_unneeded : Cal l.prog w K mg base "unneeded" 6 ["sides"] spUnn f_unneeded _ := ⟨ok_unneeded F_unneeded UG C_check_sides ⟨ok_common F_common_period AM C_period_of, m_common_period, k_common_period, b_common_period⟩ C_written, m_unneeded, k_unneeded, b_unneeded⟩
  have C_fewest_places : Cal l.prog w K mg base "fewest_places" 7 ["sides", "side"] spFew f_fewest_places _ := ⟨ok_few F_fewest_places UG ⟨_, PySem.W.mg_of X G a_MA⟩ C_check_sides C_check_side C_unneeded, m_fewest_places, k_fewest_places, b_fewest_places⟩
  have X_is_int : Cal l.prog w K mg base "is_int" 1 ["thing"] spIsAny f_is_int _ := ⟨ok_is_any F_is_int TC, m_is_int, k_is_int, b_is_int⟩
  have X_is_int_between : Cal l.prog w K mg base "is_int_between" 2 ["thing", "least", "most"] spBetAny f_is_int_between _ := ⟨ok_bet_any F_is_int_between X_is_int, m_is_int_between, k_is_int_between, b_is_int_between⟩
  have X_check_value : CalX l.prog w K mg base "check_value" 2 ["value"] (spValX (cAt [c0, c1, c2, c3, c4])) f_check_value _ := ⟨ok_val_x F_check_value R X_is_int, m_check_value, k_check_value, b_check_value⟩
  have X_check_side : CalX l.prog w K mg base "check_side" 3 ["side"] (spSideX K (cAt [c0, c1, c2, c3, c4])) f_check_side _ := ⟨ok_side_x F_check_side TC TM R X_is_int_between, m_check_side, k_check_side, b_check_side⟩
  have X_is_side : Cal l.prog w K mg base "is_side" 4 ["thing"] (spIsSideX K) f_is_side _ := ⟨ok_is_side_x F_is_side R X_check_side, m_is_side, k_is_side, b_is_side⟩
  have X_check_sides : CalX l.prog w K mg base "check_sides" 5 ["sides"] (spSidesX K (cAt [c0, c1, c2, c3, c4])) f_check_sides _ := ⟨ok_sides_x F_check_sides TC AT R X_is_side, m_check_sides, k_check_sides, b_check_sides⟩
  have U_pace : CalX l.prog w K mg base "pace" 107 ["first", "second"] (spPacU K (cAt [c0, c1, c2, c3, c4])) f_pace _ := ⟨or_ok (to_x C_pace.ok) (ok_pac_b F_pace X_check_side), m_pace, k_pace, b_pace⟩
  have U_settled : CalX l.prog w K mg base "settled" 108 ["first", "second", "value"] (spSetU K (cAt [c0, c1, c2, c3, c4])) f_settled _ := ⟨or_ok (to_x C_settled.ok) (ok_set_b F_settled X_check_side X_check_value), m_settled, k_settled, b_settled⟩
  have U_within : CalX l.prog w K mg base "within" 6 ["sides", "value", "many"] (spWiU K (cAt [c0, c1, c2, c3, c4])) f_within _ := ⟨or_ok X_within.ok (ok_wi_b F_within LG R X_check_sides X_check_value X_is_int_between), m_within, k_within, b_within⟩
  have X_meeting : CalX l.prog w K mg base "meeting" 6 ["sides", "one", "other"] (spMeetX K (cAt [c0, c1, c2, c3, c4])) f_meeting _ := ⟨ok_meeting F_meeting UG BL MX n_enumerate ⟨_, PySem.W.mg_of X G a_MM⟩ ⟨_, PySem.W.mg_of X G a_MD⟩ R X_check_sides X_check_value C_common_period C_written C_way_to, m_meeting, k_meeting, b_meeting⟩
  have X_unneeded : CalX l.prog w K mg base "unneeded" 6 ["sides"] (spUnnM (cAt [c0, c1, c2, c3, c4])) f_unneeded _ := ⟨ok_unn_m F_unneeded UG R C_check_sides C_common_period, m_unneeded, k_unneeded, b_unneeded⟩
  have U_fewest_places : CalX l.prog w K mg base "fewest_places" 7 ["sides", "side"] (spFewU K (cAt [c0, c1, c2, c3, c4])) f_fewest_places _ := ⟨or_ok (to_x C_fewest_places.ok) (ok_few_b F_fewest_places UG R ⟨_, PySem.W.mg_of X G a_MA⟩ X_check_sides X_check_side X_unneeded), m_fewest_places, k_fewest_places, b_fewest_places⟩
  have C_L_source : Cal l.prog w K mg base "_law_source" 1 ["_law_script"] (spSource K) f_L_source _ := ⟨ok_source F_L_source BL, m_L_source, k_L_source, b_L_source⟩
  have C_L_draw : Cal l.prog w K mg base "_law_draw" 1 ["_law_source_here", "_law_limit"] spDraw f_L_draw _ := ⟨ok_draw F_L_draw BL, m_L_draw, k_L_draw, b_L_draw⟩
  have C_L_pick : Cal l.prog w K mg base "_law_pick" 2 ["_law_source_here", "_law_values"] spPick f_L_pick _ := ⟨ok_pick F_L_pick BL C_L_draw, m_L_pick, k_L_pick, b_L_pick⟩
  have C_L_great : Cal l.prog w K mg base "_law_great" 2 ["_law_source_here", "_law_digits"] spGreat f_L_great _ := ⟨ok_great F_L_great BL C_L_draw, m_L_great, k_L_great, b_L_great⟩
  have C_L_side : Cal l.prog w K mg base "_law_side" 3 ["_law_source_here", "_law_digits"] spSideB f_L_side _ := ⟨ok_side F_L_side BL C_L_draw C_L_pick C_L_great, m_L_side, k_L_side, b_L_side⟩
  have X_L_asked : CalX l.prog w K mg base "_law_asked" 109 ["_law_way", "_law_parts"] (spAsked K (cAt [c0, c1, c2, c3, c4])) f_L_asked _ := ⟨ok_asked F_L_asked U_pace U_settled U_within X_meeting U_fewest_places, m_L_asked, k_L_asked, b_L_asked⟩
  have C_L_word : Cal l.prog w K mg base "_law_word" 110 ["_law_way", "_law_parts"] (spWord52 K) f_L_word _ := ⟨ok_L_word F_L_word R X_L_asked, m_L_word, k_L_word, b_L_word⟩
  have C_L_is_side : Cal l.prog w K mg base "_law_is_side" 4 ["_law_value"] (spIsS K) f_L_is_side _ := ⟨ok_is_s F_L_is_side R X_check_side, m_L_is_side, k_L_is_side, b_L_is_side⟩
  have C_L_bent : Cal l.prog w K mg base "_law_bent" 3 ["_law_source_here", "_law_one"] (spBent K) f_L_bent _ := ⟨ok_bent F_L_bent n_list C_L_draw C_L_pick, m_L_bent, k_L_bent, b_L_bent⟩
  have C_L_two_fit : Cal l.prog w K mg base "_law_two_fit" 111 ["_law_source_here", "_law_one", "_law_other", "_law_bent_here"] (spTwoF K) f_L_two_fit _ := ⟨ok_two F_L_two_fit BL C_L_word C_L_is_side C_L_pick, m_L_two_fit, k_L_two_fit, b_L_two_fit⟩
  have C_L_lists_fit : Cal l.prog w K mg base "_law_lists_fit" 111 ["_law_source_here", "_law_one", "_law_bent_here"] (spLists K) f_L_lists_fit _ := ⟨ok_lists F_L_lists_fit BL C_L_word C_L_is_side, m_L_lists_fit, k_L_lists_fit, b_L_lists_fit⟩
  exact ok_law F_law BL C_L_source C_L_side C_L_bent C_L_two_fit C_L_lists_fit C_L_word
theorem walk {l : PySem.W.OpenLaw} {q : Program} {loose : List Str} {XP : (Str → Option Value) → Heap → Prop} {YP : World → Heap → Prop} {d : DefRec} {K : Params → PySem.W.Frag} (hn : l.most = some 63) (hdf : d.params.defaults = [])
    (hY : ∀ (w : World) (h : Heap), YP w h → (K w.params).In h)
    (F : ∀ (w : World) (mg : Str → Option Value) (fa : Addr) (h : Heap), (K w.params).In h → h.Ns mainGlobals mg → mg d.name = some (.ref fa) →
      ∃ fd : FuncData, (∀ (s : Shared) (u : Value), BindsTo s fd ⟨[u], []⟩ [("_law_script", u)]) ∧ ∀ base : Heap, (K w.params).In base → base.Ns mainGlobals mg → FnOk l.prog w (K w.params) mg base CX0 112 fa fd ["_law_script"] (spLaw (K w.params))) :
    PySem.W.WalkO q loose XP YP l.row.toRowW d [] (fun f vs => PySem.call f vs) :=
  L2.walk_of (n := 63) (k := 112) (x := "_law_script") (CX := fun _ => CX0) (sp := fun w => spLaw (K w.params)) hn (by decide) hdf ⟨rfl, by decide, by decide⟩ hY F (fun _ _ a ns hl _ hS => ⟨a, ns, rfl, hS, hl, fun _ => rfl⟩) fun _ _ _ _ _ z => z
end HT
open PySem PySem.W PyProof.Rows
set_option maxRecDepth 100000 in
set_option maxHeartbeats 0 in
theorem PySem.Challenge.cw_handedtext_k52_doors_of_limits_holds : PySem.Challenge.rw_handedtext_k52_doors_of_limits.Holds := by
  w_on; o_law; k_head; (case hw => w_witness2)
  k_fill
  refine HT.walk (l := PySem.Challenge.rw_handedtext_k52_doors_of_limits) rfl rfl (fun w h Y => PySem.W.kIn_of Y) ?F
  case F =>
    intro w mg fa h KX G hmg
    refine' HT.all_mk KX G hmg ?a_is_int ?l_is_int ?c_is_int ?k_is_int ?a_is_int_between ?l_is_int_between ?c_is_int_between ?k_is_int_between ?a_check_value ?l_check_value ?c_check_value ?k_check_value ?a_check_side ?l_check_side ?c_check_side ?k_check_side ?a_is_side ?l_is_side ?c_is_side ?k_is_side ?a_figure ?l_figure ?c_figure ?k_figure ?a_goes_up ?l_goes_up ?c_goes_up ?k_goes_up ?a_written ?l_written ?c_written ?k_written ?a_span ?l_span ?c_span ?k_span ?a_uspan ?l_uspan ?c_uspan ?k_uspan ?a_below ?l_below ?c_below ?k_below ?a_threshold ?l_threshold ?c_threshold ?k_threshold ?a_mirror ?l_mirror ?c_mirror ?k_mirror ?a_check_sides ?l_check_sides ?c_check_sides ?k_check_sides ?a_period_of ?l_period_of ?c_period_of ?k_period_of ?a_common_period ?l_common_period ?c_common_period ?k_common_period ?a_highest ?l_highest ?c_highest ?k_highest ?a_mirrors ?l_mirrors ?c_mirrors ?k_mirrors ?a_first_hit ?l_first_hit ?c_first_hit ?k_first_hit ?a_first_between ?l_first_between ?c_first_between ?k_first_between ?a_unraised ?l_unraised ?c_unraised ?k_unraised ?a_settled ?l_settled ?c_settled ?k_settled ?a_pace ?l_pace ?c_pace ?k_pace ?a_creep ?l_creep ?c_creep ?k_creep ?a_wide_and_narrow ?l_wide_and_narrow ?c_wide_and_narrow ?k_wide_and_narrow ?a_rounds_up ?l_rounds_up ?c_rounds_up ?k_rounds_up ?a_settled_on_wide ?l_settled_on_wide ?c_settled_on_wide ?k_settled_on_wide ?a_settled_on_narrow ?l_settled_on_narrow ?c_settled_on_narrow ?k_settled_on_narrow ?a_unneeded ?l_unneeded ?c_unneeded ?k_unneeded ?a_within ?l_within ?c_within ?k_within ?a_highest_within ?l_highest_within ?c_highest_within ?k_highest_within ?a_continued ?l_continued ?c_continued ?k_continued ?a_meeting ?l_meeting ?c_meeting ?k_meeting ?a_way_to ?l_way_to ?c_way_to ?k_way_to ?a_fewest_places ?l_fewest_places ?c_fewest_places ?k_fewest_places ?a_L_source ?l_L_source ?c_L_source ?k_L_source ?a_L_draw ?l_L_draw ?c_L_draw ?k_L_draw ?a_L_pick ?l_L_pick ?c_L_pick ?k_L_pick ?a_L_great ?l_L_great ?c_L_great ?k_L_great ?a_L_side ?l_L_side ?c_L_side ?k_L_side ?a_L_asked ?l_L_asked ?c_L_asked ?k_L_asked ?a_L_word ?l_L_word ?c_L_word ?k_L_word ?a_L_is_side ?l_L_is_side ?c_L_is_side ?k_L_is_side ?a_L_bent ?l_L_bent ?c_L_bent ?k_L_bent ?a_L_two_fit ?l_L_two_fit ?c_L_two_fit ?k_L_two_fit ?a_L_lists_fit ?l_L_lists_fit ?c_L_lists_fit ?k_L_lists_fit ?a_law ?l_law ?c_law ?k_law ?z_len ?z_abs ?z_int ?z_range ?z_isinstance ?z_bool ?z_tuple ?z_divmod ?z_max ?z_min ?z_list ?z_sorted ?z_enumerate ?z_ValueError ?g_0 ?g_1 ?g_2 ?g_3 ?g_4 ?g_B ?et_0 ?et_1 ?et_2 ?et_3 ?et_4 ?em_0 ?gsp ?gtk ?a_MS ?a_MN ?a_MR ?l_U ?v_U ?a_MP ?a_MA ?a_MM ?a_MD ?em_2 ?a_lcm ?a_MODES ?l_MODES ?v_MODES ?a_MIR ?l_MIR ?h_MIR ?d_down ?r_down ?d_up ?r_up ?d_half_down ?r_half_down ?d_half_up ?r_half_up ?d_half_even ?r_half_even
    (case a_is_int => k_is)
    (case l_is_int => k_is)
    (case c_is_int => k_is)
    (case k_is_int => k_is)
    (case a_is_int_between => k_is)
    (case l_is_int_between => k_is)
    (case c_is_int_between => k_is)
    (case k_is_int_between => k_is)
    (case a_check_value => k_is)
    (case l_check_value => k_is)
    (case c_check_value => k_is)
    (case k_check_value => k_is)
    (case a_check_side => k_is)
    (case l_check_side => k_is)
    (case c_check_side => k_is)
    (case k_check_side => k_is)
    (case a_is_side => k_is)
    (case l_is_side => k_is)
    (case c_is_side => k_is)
    (case k_is_side => k_is)
    (case a_figure => k_is)
    (case l_figure => k_is)
    (case c_figure => k_is)
    (case k_figure => k_is)
    (case a_goes_up => k_is)
    (case l_goes_up => k_is)
    (case c_goes_up => k_is)
    (case k_goes_up => k_is)
    (case a_written => k_is)
    (case l_written => k_is)
    (case c_written => k_is)
    (case k_written => k_is)
    (case a_span => k_is)
    (case l_span => k_is)
    (case c_span => k_is)
    (case k_span => k_is)
    (case a_uspan => k_is)
    (case l_uspan => k_is)
    (case c_uspan => k_is)
    (case k_uspan => k_is)
    (case a_below => k_is)
    (case l_below => k_is)
    (case c_below => k_is)
    (case k_below => k_is)
    (case a_threshold => k_is)
    (case l_threshold => k_is)
    (case c_threshold => k_is)
    (case k_threshold => k_is)
    (case a_mirror => k_is)
    (case l_mirror => k_is)
    (case c_mirror => k_is)
    (case k_mirror => k_is)
    (case a_check_sides => k_is)
    (case l_check_sides => k_is)
    (case c_check_sides => k_is)
    (case k_check_sides => k_is)
    (case a_period_of => k_is)
    (case l_period_of => k_is)
    (case c_period_of => k_is)
    (case k_period_of => k_is)
    (case a_common_period => k_is)
    (case l_common_period => k_is)
    (case c_common_period => k_is)
    (case k_common_period => k_is)
    (case a_highest => k_is)
    (case l_highest => k_is)
    (case c_highest => k_is)
    (case k_highest => k_is)
    (case a_mirrors => k_is)
    (case l_mirrors => k_is)
    (case c_mirrors => k_is)
    (case k_mirrors => k_is)
    (case a_first_hit => k_is)
    (case l_first_hit => k_is)
    (case c_first_hit => k_is)
    (case k_first_hit => k_is)
    (case a_first_between => k_is)
    (case l_first_between => k_is)
    (case c_first_between => k_is)
    (case k_first_between => k_is)
    (case a_unraised => k_is)
    (case l_unraised => k_is)
    (case c_unraised => k_is)
    (case k_unraised => k_is)
    (case a_settled => k_is)
    (case l_settled => k_is)
    (case c_settled => k_is)
    (case k_settled => k_is)
    (case a_pace => k_is)
    (case l_pace => k_is)
    (case c_pace => k_is)
    (case k_pace => k_is)
    (case a_creep => k_is)
    (case l_creep => k_is)
    (case c_creep => k_is)
    (case k_creep => k_is)
    (case a_wide_and_narrow => k_is)
    (case l_wide_and_narrow => k_is)
    (case c_wide_and_narrow => k_is)
    (case k_wide_and_narrow => k_is)
    (case a_rounds_up => k_is)
    (case l_rounds_up => k_is)
    (case c_rounds_up => k_is)
    (case k_rounds_up => k_is)
    (case a_settled_on_wide => k_is)
    (case l_settled_on_wide => k_is)
    (case c_settled_on_wide => k_is)
    (case k_settled_on_wide => k_is)
    (case a_settled_on_narrow => k_is)
    (case l_settled_on_narrow => k_is)
    (case c_settled_on_narrow => k_is)
    (case k_settled_on_narrow => k_is)
    (case a_unneeded => k_is)
    (case l_unneeded => k_is)
    (case c_unneeded => k_is)
    (case k_unneeded => k_is)
    (case a_within => k_is)
    (case l_within => k_is)
    (case c_within => k_is)
    (case k_within => k_is)
    (case a_highest_within => k_is)
    (case l_highest_within => k_is)
    (case c_highest_within => k_is)
    (case k_highest_within => k_is)
    (case a_continued => k_is)
    (case l_continued => k_is)
    (case c_continued => k_is)
    (case k_continued => k_is)
    (case a_meeting => k_is)
    (case l_meeting => k_is)
    (case c_meeting => k_is)
    (case k_meeting => k_is)
    (case a_way_to => k_is)
    (case l_way_to => k_is)
    (case c_way_to => k_is)
    (case k_way_to => k_is)
    (case a_fewest_places => k_is)
    (case l_fewest_places => k_is)
    (case c_fewest_places => k_is)
    (case k_fewest_places => k_is)
    (case a_L_source => k_is)
    (case l_L_source => k_is)
    (case c_L_source => k_is)
    (case k_L_source => k_is)
    (case a_L_draw => k_is)
    (case l_L_draw => k_is)
    (case c_L_draw => k_is)
    (case k_L_draw => k_is)
    (case a_L_pick => k_is)
    (case l_L_pick => k_is)
    (case c_L_pick => k_is)
    (case k_L_pick => k_is)
    (case a_L_great => k_is)
    (case l_L_great => k_is)
    (case c_L_great => k_is)
    (case k_L_great => k_is)
    (case a_L_side => k_is)
    (case l_L_side => k_is)
    (case c_L_side => k_is)
    (case k_L_side => k_is)
    (case a_L_asked => k_is)
    (case l_L_asked => k_is)
    (case c_L_asked => k_is)
    (case k_L_asked => k_is)
    (case a_L_word => k_is)
    (case l_L_word => k_is)
    (case c_L_word => k_is)
    (case k_L_word => k_is)
    (case a_L_is_side => k_is)
    (case l_L_is_side => k_is)
    (case c_L_is_side => k_is)
    (case k_L_is_side => k_is)
    (case a_L_bent => k_is)
    (case l_L_bent => k_is)
    (case c_L_bent => k_is)
    (case k_L_bent => k_is)
    (case a_L_two_fit => k_is)
    (case l_L_two_fit => k_is)
    (case c_L_two_fit => k_is)
    (case k_L_two_fit => k_is)
    (case a_L_lists_fit => k_is)
    (case l_L_lists_fit => k_is)
    (case c_L_lists_fit => k_is)
    (case k_L_lists_fit => k_is)
    (case a_law => k_is)
    (case l_law => k_is)
    (case c_law => k_is)
    (case k_law => k_is)
    (case z_len => k_is)
    (case z_abs => k_is)
    (case z_int => k_is)
    (case z_range => k_is)
    (case z_isinstance => k_is)
    (case z_bool => k_is)
    (case z_tuple => k_is)
    (case z_divmod => k_is)
    (case z_max => k_is)
    (case z_min => k_is)
    (case z_list => k_is)
    (case z_sorted => k_is)
    (case z_enumerate => k_is)
    (case z_ValueError => k_is)
    (case g_0 => k_is)
    (case g_1 => k_is)
    (case g_2 => k_is)
    (case g_3 => k_is)
    (case g_4 => k_is)
    (case g_B => k_is)
    (case et_0 => kernel_rfl)
    (case et_1 => kernel_rfl)
    (case et_2 => kernel_rfl)
    (case et_3 => kernel_rfl)
    (case et_4 => kernel_rfl)
    (case em_0 => kernel_rfl)
    (case gsp => k_is)
    (case gtk => k_is)
    (case a_MS => k_is)
    (case a_MN => k_is)
    (case a_MR => k_is)
    (case l_U => k_is)
    (case v_U => exact .cons ⟨_, rfl⟩ .nil)
    (case a_MP => k_is)
    (case a_MA => k_is)
    (case a_MM => k_is)
    (case a_MD => k_is)
    (case em_2 => kernel_rfl)
    (case a_lcm => k_is)
    (case a_MODES => k_is)
    (case l_MODES => k_is)
    (case v_MODES => exact ⟨by decide, .cons ⟨_, rfl⟩ (.cons ⟨_, rfl⟩ (.cons ⟨_, rfl⟩ (.cons ⟨_, rfl⟩ (.cons ⟨_, rfl⟩ .nil))))⟩)
    (case a_MIR => k_is)
    (case l_MIR => k_is)
    (case h_MIR => k_keys)
    (case d_down => k_is)
    (case r_down => exact ⟨_, rfl⟩)
    (case d_up => k_is)
    (case r_up => exact ⟨_, rfl⟩)
    (case d_half_down => k_is)
    (case r_half_down => exact ⟨_, rfl⟩)
    (case d_half_up => k_is)
    (case r_half_up => exact ⟨_, rfl⟩)
    (case d_half_even => k_is)
    (case r_half_even => exact ⟨_, rfl⟩)
#print axioms PySem.Challenge.cw_handedtext_k52_doors_of_limits_holds
