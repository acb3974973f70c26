import PyProof.Rows.All
import Wide.All
import OpenK.AllK
import Wide.FinOn
import HandS.CallSlots
import HandS.Deep
import HandS.Defaults
import HandS.Exc
import HandS.ExcField
import HandS.ExcInit
import HandS.ExcIs
import HandS.ExcValue
import HandS.ForMost
import HandS.HotCalls
import HandS.IsInst
import HandS.MakeKwOnly
import HandS.More
import HandS.NoneIn
import HandS.RaiseFrom
import HandS.ReplaceLit
import HandS.StrMore
import HandS.Style
import HandS.SuiteRaise
import HandS.TryOnly
import HandS.Wide
import HandS.WideBits
import HandS.WordsExc
import KE.KEqDeep
import KE.KEqSeq
import KE.KExcIs
import HandS.Gcd
import HandS.SortInts
import HandS.Walk
import PySem.Challenge.RW_handedtext_k14_exchange
set_option Elab.async false
set_option linter.all false
set_option maxRecDepth 100000
set_option maxHeartbeats 4000000
set_option exponentiation.threshold 9000
open PySem L2
local macro_rules | `(tactic| walk_at "rd") => `(tactic| repeat (first | refine ⟨_, rfl, ?_⟩ | refine ⟨_, _, rfl, rfl, ?_⟩ | refine .inl ⟨_, rfl, ?_⟩))
namespace L2
open PySem PySem.Spec PyProof.Rows
/-- an error that was caught and kept, at a -/
def ExK (cls : Value) (a : Addr) : HO := .ext fun hp => ∃ (rec' : Obj) (cells : Array Value), hp.get? a = some rec' ∧ Zc cls none rec' ∧ rec'.data = .fields cells
/-- wKeep: what 'except x as n' wishes, where the error stays tracked behind the suite -/
def wKeep (K : PySem.W.Frag) (c : Value) (i : Nat) (ts : Addr → Value → Option Addr → TS) (Wout : WX) (D : Ends) : WX := fun kl dd st H =>
  ∃ yes, PySem.W.exmOne K kl c = some yes ∧ (yes = true → dd = none ∧ ∀ a, H a = none → ts a kl dd { nx := fun st' H' => D.nx (st'.set i none) (upd H' a (ExK kl a)), rt := D.rt, bk := fun st' H' => D.bk (st'.set i none) H', ct := fun st' H' => D.ct (st'.set i none) H' } (st.set i (some (.ref a))) H) ∧
    (yes = false → Wout kl dd st H)
section
variable {X : Cx} {pins : List (Addr × Obj)} {st : St} {H : Hp} {sh : Shared}
theorem Inv.adopt {a : Addr} {kl : Value} {rc : Obj} {cells : Array Value} (iv : Inv X pins st H sh) (new0 : X.s_0.heap.get? a = none) (free : H a = none) (at0 : sh.heap.get? a = some rc) (zc : Zc kl none rc) (fl : rc.data = .fields cells) (nl : a ≠ X.env.locals)
    (np : ∀ p ∈ X.pn ++ pins, p.1 ≠ a) : Inv X pins st (upd H a (ExK kl a)) sh := by
  have old : ∀ c rr, X.s_0.heap.get? c = some rr → c ≠ a := fun c rr e z => by
    rw [z, new0] at e
    cases e
  have other : ∀ c u, H c = some u → upd H a (ExK kl a) c = some u := fun c u e => (upd_ne (ne_of_none e free)).trans e
  refine ⟨iv.ok, iv.os, iv.bare, ⟨iv.base.keep, iv.base.slot, fun c rr e n0 nx => ?_, iv.base.there, fun c xs e => other _ _ (iv.base.tups c xs e), fun c rr u e => other _ _ (iv.base.frzs c rr u e), fun c ps e => ?_⟩, iv.loc, iv.cell, ?_, fun y c e => ?_, fun p hp => ?_, fun c u e => ?_, iv.len⟩
  · exact (upd_ne (old c rr e)).trans (iv.base.free c rr e n0 nx)
  · obtain ⟨more, e2⟩ := iv.base.tbls c ps e
    exact ⟨more, other _ _ e2⟩
  · exact (upd_ne nl.symm).trans iv.free
  · obtain ⟨w, rr, e2, e3⟩ := iv.cell y c e
    refine (upd_ne fun z => ?_).trans (iv.freeC y c e)
    subst z
    rw [at0] at e2
    cases e2
    simp [fl] at e3
  · obtain ⟨e1, e2, e3, e4, e5⟩ := iv.pin p hp
    exact ⟨e1, (upd_ne (np p hp)).trans e2, e3, e4, e5⟩
  · by_cases ca : c = a
    · subst ca
      rw [upd_same] at e
      cases e
      exact ⟨⟨rc, cells, at0, zc, fl⟩, ⟨rc, at0⟩, fun _ _ ⟨r2, c2, e2, e3⟩ same => ⟨r2, c2, same _ e2, e3⟩⟩
    · rw [upd_ne ca] at e
      exact (iv.hok c u e).stay (fun _ _ _ e2 => e2) (fun c2 e2 => other _ _ e2) fun c2 xs e2 => other _ _ e2
end
end L2
namespace L2
open PySem PySem.Spec PyProof.Rows
section
variable {X : Cx} {x n : Str} {c : Value} {i : Nat} {body suite : List Stmt} {first : Stmt} {np pos pos' : Pos} {tb : WX → TS} {ts : Addr → Value → Option Addr → TS} {Wout : WX}
/-- try: .. except x as n: suite; the caught error stays tracked behind it -/
theorem ps_try_keep (stk : X.stack = X.env :: X.outer) (frm : X.env.frame = some X.env.locals) (noex : X.ex = []) (dist : X.N.Nodup) (slot : X.N[i]? = some n) (loc : X.env.kindOf n = some .local) (nam : Names X x c) (tk : Takes X Wout)
    (inner : ∀ (W : WX) (pn : List (Addr × Obj)) (xe : Value → Shared → Prop), Takes (X.tr pn xe) W → PassesOwn (model X.prog X.w) X.A X.env xe → PSs (X.tr pn xe) body (tb W))
    (caught : ∀ (a : Addr) (rc : Obj) (kl : Value) (dd : Option Addr) (pn : List (Addr × Obj)), Zc kl dd rc → (∃ cells, rc.data = .fields cells) → PSs (X.suite a ((a, rc) :: pn)) (first :: suite) (ts a kl dd)) :
    PS X (.Try body [.ExceptHandler (some (.Name x np)) (some n) (first :: suite) pos'] [] [] pos) (fun D st H => tb (wKeep X.K c i ts Wout D) D st H) where
  run := fun pins sh st H D iv want => by
    have fine := iv.ok
    have frames : X.A.frames = some (X.env :: X.outer) := by rw [fine.frames, stk]
    refine wpAny_Try_except (wpAny_mono ((inner (wKeep X.K c i ts Wout D) (X.pn ++ pins) _ (fun u sh' air => ?_) PassesOwn.looking).run [] sh st H D (iv.toTry _) want) ?_ fun _ _ e => e)
    · obtain ⟨a, B, shI, pins', st1, H1, kl, dd, rfl, ivT, inB, upTo, sky, freeA, sameOs, bareG, yes, dec, onYes, onNo⟩ := air
      have iv1 : Inv X pins st1 H1 shI := ivT.ofTry fine
      rw [stk] at sky
      refine Sky.land Zc.steady frames frm sky fun hp3 fly3 up3 => ?_
      have bNone : B.get? a = none := fly3.2.1
      have iv3 : Inv X pins st1 H1 { sh' with heap := hp3 } := iv1.landed inB fly3.1 (upTo.trans up3) sameOs bareG
      obtain ⟨rc3, cells3, at3, zc3, dt3⟩ := fly3.there
      have offFrames : a ∉ frs (X.env :: X.outer) := fun mem => by
        obtain ⟨_, r2, e2, bad⟩ := fly3.2.2.1.mem mem
        rw [at3] at e2
        cases e2
        exact bad _ dt3
      have offL : a ≠ X.env.locals := fun z => offFrames (List.mem_filterMap.mpr ⟨X.env, List.mem_cons_self, by rw [frm, z]⟩)
      have offF : a ∉ X.fs := fun mem => by
        obtain ⟨ee, inn, ef⟩ := List.mem_filterMap.mp mem
        exact offFrames (List.mem_filterMap.mpr ⟨ee, List.mem_cons_of_mem _ inn, ef⟩)
      have notThere : shI.heap.get? a = none := by
        cases e : shI.heap.get? a with
        | none => rfl
        | some rr =>
          have z := inB a rr e (by rw [stk]; exact offFrames)
          rw [bNone] at z
          cases z
      have new0 : X.s_0.heap.get? a = none := by
        cases e : X.s_0.heap.get? a with
        | none => rfl
        | some rr =>
          obtain ⟨r2, e2⟩ := iv1.base.there a rr e (by rw [noex]; exact List.not_mem_nil)
          rw [notThere] at e2
          cases e2
      have pinsOff : ∀ p ∈ X.pn ++ pins, p.1 ≠ a := fun p hp z => by
        have e2 := (iv1.pin p hp).1
        rw [z, notThere] at e2
        cases e2
      have inSuite := iv3.suite at3 dt3 freeA offL offF
      refine wpAny_handleBy_cons (codeAny_handlers_test ?_) (by intro q; cases q)
      have theClass : PySem.W.Looks (model X.prog X.w) hp3 (typeOf (.ref a)) kl := fun A' Q' E' s' kk qq => wpAny_typeOf_ref (kk _ _ at3) (by rw [zc3.1]; exact qq)
      have theTest := PySem.W.exm_one (M := model X.prog X.w) iv3.kIn theClass dec
      have clause : ∀ {Q' : Value → Shared → Prop} {E' : Value → Shared → Prop}, Q' c { sh' with heap := hp3 } → wpAny (model X.prog X.w) (X.A.mark (some (.ref a))) (eval (.Name x np) X.env) Q' E' { sh' with heap := hp3 } := fun {Q' E'} qq => by
        obtain ⟨g1, g2, g3 | ⟨g3, g4, g5⟩⟩ := nam
        · exact ld_glob (X := X.suite a ((a, rc3) :: (X.pn ++ pins))) inSuite g1 g3 qq g2
        · exact ld_blt (X := X.suite a ((a, rc3) :: (X.pn ++ pins))) inSuite g1 g3 g4 qq g5 g2
      refine clause (theTest.here ?_)
      cases yes with
      | true =>
        obtain ⟨rfl, go⟩ := onYes rfl
        refine codeAny_handlers_suite_as (HandSPX.lands_againZ fly3 fun hp4 fly4 up4 => ?_)
        have iv4 : Inv X pins st1 H1 { sh' with heap := hp4 } := iv1.landed inB fly4.1 ((upTo.trans up3).trans up4) sameOs bareG
        obtain ⟨rc4, cells4, at4, zc4, dt4⟩ := fly4.there
        refine store_ok (X := X.suite a ((a, rc4) :: (X.pn ++ pins))) (v := .ref a) (iv4.suite at4 dt4 freeA offL offF) dist slot (.inl loc) rfl (fun sh5 iv5 => ?_) (.inr loc)
        refine wpAny_mono ((caught a rc4 kl none (X.pn ++ pins) zc4 ⟨_, dt4⟩).run [] sh5 _ H1 _ iv5 (go a freeA)) (fun flow sh6 came => ?_) fun _ _ z => z.elim
        cases flow with
        | next =>
          obtain ⟨st6, H6, iv6, q6⟩ := came
          have more : Inv X ((a, rc4) :: pins) st6 H6 sh6 := ⟨fine, iv6.os, iv6.bare, iv6.base, iv6.loc, iv6.cell, iv6.free, iv6.freeC, fun p hp => iv6.pin p (List.mem_append_left _ ?_), iv6.hok, iv6.len⟩
          refine gone_ok more dist slot loc fun sh7 iv7 => ?_
          have there : (a, rc4) ∈ X.pn ++ (a, rc4) :: pins := List.mem_append_right _ List.mem_cons_self
          obtain ⟨e1, e2, e3, _⟩ := iv7.pin (a, rc4) there
          have less : Inv X pins (st6.set i none) H6 sh7 := ⟨fine, iv7.os, iv7.bare, iv7.base, iv7.loc, iv7.cell, iv7.free, iv7.freeC, fun p hp => iv7.pin p ?_, iv7.hok, iv7.len⟩
          · exact ⟨_, _, less.adopt new0 e2 e1 zc4 dt4 e3 pinsOff, q6⟩
          · rcases List.mem_append.mp hp with hq | hq
            · exact List.mem_append_left _ hq
            · exact List.mem_append_right _ (List.mem_cons_of_mem _ hq)
          · rcases List.mem_append.mp hp with hq | hq
            · exact List.mem_cons_of_mem _ (List.mem_append_left _ hq)
            · rcases List.mem_cons.mp hq with hr | hr
              · rw [hr]; exact List.mem_cons_self
              · exact List.mem_cons_of_mem _ (List.mem_append_right _ hr)
        | brk =>
          obtain ⟨st6, H6, iv6, q6⟩ := came
          exact gone_ok (iv6.unsuite fine) dist slot loc fun sh7 iv7 => ⟨_, _, iv7, q6⟩
        | cont =>
          obtain ⟨st6, H6, iv6, q6⟩ := came
          exact gone_ok (iv6.unsuite fine) dist slot loc fun sh7 iv7 => ⟨_, _, iv7, q6⟩
        | ret u =>
          obtain ⟨v6, st6, H6, iv6, r6, q6⟩ := came
          exact gone_ok (iv6.unsuite fine) dist slot loc fun sh7 iv7 => ⟨_, _, _, iv7, r6, q6⟩
      | false =>
        show wpAny _ X.A (handleBy (.ref a) X.env []) _ _ _
        refine wpAny_handleBy_nil ?_
        obtain ⟨_, _, _, rc5, cells5, tr5, _, _, at5, _, dt5, at1, _⟩ := id fly3
        unfold PySem.passOn
        refine wpAny_bind (wpAny_field at5 dt5 at1 ?_)
        rw [if_neg (by simp : ¬ (Value.ref tr5 == Value.none) = true)]
        have out : wpAny (model X.prog X.w) X.A (setFlight (.ref a) X.env.frame) (fun _ sh8 => wpAny (model X.prog X.w) X.A (throw (.ref a) : Sem Flow) (SP X pins D) X.xe sh8) X.xe { sh' with heap := hp3 } := by
          rw [frm]
          refine HandSPX.setFlight_upZ fly3 fun hp8 held up8 => wpAny_throw (tk _ _ ?_)
          exact ⟨a, B, shI, pins, st1, H1, kl, dd, rfl, iv1, inB, (upTo.trans up3).trans up8, .inr (.inr (by rw [stk]; exact held)), freeA, sameOs, bareG, onNo rfl⟩
        first
          | exact wpAny_bind out
          | exact wpAny_bind (wpAny_pure (wpAny_bind out))
    · intro flow sh1 came
      cases flow with
      | next =>
        obtain ⟨st1, H1, iv1, q1⟩ := came
        exact wpAny_execs_nil ⟨st1, H1, iv1.ofTry fine, q1⟩
      | brk =>
        obtain ⟨st1, H1, iv1, q1⟩ := came
        exact ⟨st1, H1, iv1.ofTry fine, q1⟩
      | cont =>
        obtain ⟨st1, H1, iv1, q1⟩ := came
        exact ⟨st1, H1, iv1.ofTry fine, q1⟩
      | ret u =>
        obtain ⟨v1, st1, H1, iv1, r1, q1⟩ := came
        exact ⟨v1, st1, H1, iv1.ofTry fine, r1, q1⟩
end
end L2
namespace L2
open PySem PySem.Spec PyProof.Rows
/-- what the written part says of an error class, for isinstance -/
structure ErrC (K : PySem.W.Frag) (C : Addr) : Prop where
  cl : (PySem.W.clsIn K C).isSome = true
  ga : PySem.W.findIn K (.ref C) "__getattribute__" = some (some (.builtin "BaseException.__getattribute__"))
  gg : PySem.W.findIn K (.ref C) "__getattr__" = some none
  sb : PySem.W.subIn K (.ref C) (.type "BaseException") = some true
  cn : PySem.W.findIn K (.ref C) "__class__" = some (some (.builtin "object.__class__"))
  mo : PySem.W.mroIn K C (.type "object") = some true
/-- .. of the attribute __class__ of all objects -/
structure ErrG (K : PySem.W.Frag) : Prop where
  sp : PySem.W.specialIn K (.builtin "object.__class__") "__get__" = some (some (.builtin "getset_descriptor.__get__"))
  tk : PySem.W.takesIn K (.builtin "object.__class__") = some true
def rIsKept (K : PySem.W.Frag) : List V → Hp → VK → Prop := fun xs H Q => ∃ (a C : Addr) (c : V) (cv : Value) (b : Bool), xs = [.ref a, c] ∧ ClsV c cv ∧ H a = some (ExK (.ref C) a) ∧ ErrC K C ∧ ErrG K ∧ PySem.W.kitOne K (.ref C) cv = some b ∧ Q (.bl b) H
theorem call_isKept {X : Cx} : CallR X (.builtin "isinstance") (rIsKept X.K) := by
  intro pins sh st H xs us Q iv r h
  obtain ⟨a, C, c, cv, b, rfl, k, at', T, G, e, q⟩ := h
  obtain ⟨u1, u2, rfl, r1, r2⟩ := vals2 r
  have e2 := k.eq r2
  subst e2
  obtain rfl : u1 = Value.ref a := r1
  obtain ⟨⟨oe, vs, ho, hz, hd⟩, _, _⟩ := iv.hok a _ at'
  have J : PySem.W.InstAt sh.heap a oe C none := by
    obtain ⟨oc, od, oda, osl⟩ := oe
    obtain ⟨h1, h2⟩ := hz
    dsimp only at h1 h2 hd
    subst h1 h2 hd
    exact ⟨ho, rfl, rfl, trivial⟩
  exact PySem.W.kia_one (PySem.W.kitx_exc T.cl T.ga T.gg T.sb T.cn G.sp G.tk T.mo) iv.kIn J e (fun z => nomatch z) fun tk => ⟨.bl b, H, iv.tok tk, rfl, q⟩
end L2
namespace L2
open PySem PySem.Spec PyProof.Rows
/-- a def of which any kind of error may come -/
theorem Fun.okAny {CX' : CXT} {P : Program} {w : World} {K : PySem.W.Frag} {mg : Str → Option Value} {base : Heap} {nm qu : Str} {row : Stmt} {at0 : Addr} {fd : FuncData} {names pars : List Str} {lev : Nat} {want : Sp} (F : Fun K nm qu row at0 fd) (S : FnScope names pars (defScope row)) (len : ∀ vs H Q E, want vs H Q E → vs.length = pars.length)
    (body : ∀ (code : Value) (A : Around) (outer : List Env) (sh : Shared) (H : Hp) (vs : List V) (Q : VK) (E : XK), Room lev (A.deeper (envOfC qu (defScope row) sh.heap.objs.size at0 code)) → want vs H Q E →
      ∃ t, PSs (cxOf CX' P w K mg base names qu (defScope row) at0 code A outer sh H E) (defBody row) t ∧ t { nx := fun _ H' => Q .non H', rt := Q } (start names vs) H) : FnOk P w K mg base CX' (lev + 1) at0 fd pars want := by
  obtain ⟨_, _, _, _, _, _, code, _, _, rfl, there, isCode⟩ := F.ex
  exact fn_of there isCode S len (body code)
/-- X('..') of an own class, for a raise .. from None -/
theorem pmk5_own {X : Cx} {C : Addr} {bmB : List Value} {B newId initId : String} {x m : Str} {j : Nat} {p p2 pos : Pos} (F : ExcBaseFacts B newId initId bmB) (q : PySem.W.excIn X.K C bmB newId = true) (gC : X.mg x = some (.ref C)) (kC : PySem.W.keepIn X.K (.ref C) = true) (r : Raises X (.ref C)) (hg : Gl X x)
    (plain : (x == ("__debug__" : Str)) = false := by decide) : L2H.PMk5 X (.Call (.Name x p) [.Constant (.str m) j p2] [] pos) (fun _ H Q => Q (.ref C) none H) := by
  intro pins sh st H Q iv want
  have arg : PA X [.Constant (.str m) j p2] (tCons (tC (.str m)) tNil) := pa_cons pe_str pa_nil
  refine wpAny_Call_Name_kw (ld_glob iv hg gC (PySem.W.callWith_K (h₀ := X.base) iv.ok.mod.kin kC (thn (arg.run pos pins sh st H (fun vs H1 => vs = [V.str m] ∧ H = H1) iv ⟨rfl, rfl⟩) ?_)) plain)
  rintro us sh1 ⟨vs, H1, iv1, rel, rfl, rfl⟩
  refine ⟨iv1.kIn, ?_⟩
  match us, rel with
  | [u], .cons _ .nil =>
    show wpAny _ _ (call (.ref C) [u]) _ _ _
    obtain ⟨_, _, _, _, _, _, _, _, _, _, _, _, _, _, _, _, _, hC, hN, hni, T⟩ := exc_obj iv1.kIn q
    exact wpAny_call_exc_subT F T hC hN hni (fun h' e made => L2H.mk_of5 iv1 made r want (iv1.hok.gone made.new)) (by show 1 ≤ sizeLine; decide)
/-- try: .. except x: suite, the suite raising: ps_try_onlyX with its reading under a name, for a loop around it -/
def tTryX (K : PySem.W.Frag) (c : Value) (ts : Addr → Value → Option Addr → TS) (Wout : WX) (tb : WX → TS) : TS := fun D st H => tb (wOnly K c ts Wout D) D st H
theorem ps_tryX {X : Cx} {x : Str} {c : Value} {body suite : List Stmt} {first : Stmt} {np pos pos' : Pos} {tb : WX → TS} {ts : Addr → Value → Option Addr → TS} {Wout : WX} (h1 : X.stack = X.env :: X.outer) (h2 : X.env.frame = some X.env.locals) (h3 : Names X x c)
    (h4 : ∀ hd : Option Value, PassesOwnAt (model X.prog X.w) (X.A.mark hd) X.A X.env X.xe) (h5 : L2.Takes X Wout)
    (h6 : ∀ (W : WX) (pn : List (Addr × Obj)) (xe : Value → Shared → Prop), L2N.Takes (X.tr pn xe) W → L2.Takes (X.tr pn xe) (L2H.wPass X.K c Wout) → PassesOwn (model X.prog X.w) X.A X.env xe → PSs (X.tr pn xe) body (tb W))
    (h7 : ∀ (a : Addr) (oe : Obj) (cls : Value) (d : Option Addr) (pn : List (Addr × Obj)), L2N.Zn cls d oe → (∃ vs, oe.data = .fields vs) → L2.Takes (L2H.suiteX X a ((a, oe) :: pn)) Wout → L2H.HotC (L2H.suiteX X a ((a, oe) :: pn)) → PSs (L2H.suiteX X a ((a, oe) :: pn)) (first :: suite) (ts a cls d)) :
    PS X (.Try body [.ExceptHandler (some (.Name x np)) none (first :: suite) pos'] [] [] pos) (tTryX X.K c ts Wout tb) := L2H.ps_try_onlyX h1 h2 h3 h4 h5 h6 h7
end L2
namespace HT
open PySem L2
/-- a test whose ways are joined by a statement of the heap -/
def tMidT (t : TT) : TT := fun σ H Q => ∃ M : Bool → Hp → Prop, t σ H M ∧ ∀ b H', M b H' → Q b H'
def tMidE (t : TE) : TE := fun σ H Q => ∃ M : V → Hp → Prop, t σ H M ∧ ∀ v H', M v H' → Q v H'
def tMidS (t : TS) : TS := fun D σ H => ∃ M : St → Hp → Prop, t { D with nx := M } σ H ∧ ∀ σ' H', M σ' H' → D.nx σ' H'
theorem pt_mid {X : Cx} {e : Expr} {t : TT} (h : PT X e t) : PT X e (tMidT t) :=
  ⟨fun pins s σ H _ I ⟨M, a, b⟩ => thn (h.run pins s σ H M I a) fun c _ ⟨H1, I1, q1⟩ => ⟨H1, I1, b c H1 q1⟩⟩
theorem pe_mid {X : Cx} {e : Expr} {t : TE} (h : PE X e t) : PE X e (tMidE t) :=
  ⟨fun pins s σ H _ I ⟨M, a, b⟩ => thn (h.run pins s σ H M I a) fun _ _ ⟨v, H1, I1, r, q1⟩ => ⟨v, H1, I1, r, b v H1 q1⟩⟩
theorem ps_mid {X : Cx} {st : Stmt} {t : TS} (h : PS X st t) : PS X st (tMidS t) :=
  ⟨fun pins s σ H D I ⟨M, a, b⟩ => thn (h.run pins s σ H { D with nx := M } I a) fun f _ q => by
    cases f with
    | next => obtain ⟨σ', H', I', q⟩ := q; exact ⟨σ', H', I', b σ' H' q⟩
    | brk => exact q
    | cont => exact q
    | ret v => exact q⟩
end HT
def top (i : Nat) : Stmt := PySem.Challenge.pw_handedtext_k14_exchange.main.body.getD i (.Pass ⟨0, 0, 0, 0⟩)
abbrev s_is_int : Stmt := top 6
abbrev s_is_int_between : Stmt := top 7
abbrev s_check_value : Stmt := top 8
abbrev s_check_side : Stmt := top 12
abbrev s_figure_of : Stmt := top 13
abbrev s_figure : Stmt := top 14
abbrev s_goes_up : Stmt := top 15
abbrev s_stands : Stmt := top 16
abbrev s_span : Stmt := top 17
abbrev s_uspan : Stmt := top 18
abbrev s_below : Stmt := top 19
abbrev s_threshold : Stmt := top 20
abbrev s_exchange : Stmt := top 22
abbrev s_first_at : Stmt := top 23
abbrev s_L_source : Stmt := top 25
abbrev s_L_draw : Stmt := top 26
abbrev s_L_pick : Stmt := top 27
abbrev s_L_great : Stmt := top 28
abbrev s_L_ten : Stmt := top 29
abbrev s_L_step : Stmt := top 30
abbrev s_L_side : Stmt := top 31
abbrev s_L_written : Stmt := top 32
abbrev s_L_two : Stmt := top 33
abbrev s_L_differs : Stmt := top 34
abbrev s_L_word : Stmt := top 35
abbrev s_L_doors_right : Stmt := top 36
abbrev s_law : Stmt := top 37
/- is_int: 0:thing -/
theorem sc_is_int : FnScope ["thing"] ["thing"] (defScope s_is_int) := ⟨rfl, rfl, rfl, by decide +kernel, rfl, by decide +kernel, by decide +kernel⟩
/- is_int_between: 0:thing 1:least 2:most -/
theorem sc_is_int_between : FnScope ["thing", "least", "most"] ["thing", "least", "most"] (defScope s_is_int_between) := ⟨rfl, rfl, rfl, by decide +kernel, rfl, by decide +kernel, by decide +kernel⟩
/- check_value: 0:value -/
theorem sc_check_value : FnScope ["value"] ["value"] (defScope s_check_value) := ⟨rfl, rfl, rfl, by decide +kernel, rfl, by decide +kernel, by decide +kernel⟩
/- check_side: 0:side 1:offset 2:step 3:mode -/
theorem sc_check_side : FnScope ["side", "offset", "step", "mode"] ["side"] (defScope s_check_side) := ⟨rfl, rfl, rfl, by decide +kernel, rfl, by decide +kernel, by decide +kernel⟩
/- figure_of: 0:side 1:value -/
theorem sc_figure_of : FnScope ["side", "value"] ["side", "value"] (defScope s_figure_of) := ⟨rfl, rfl, rfl, by decide +kernel, rfl, by decide +kernel, by decide +kernel⟩
/- _figure: 0:side 1:value 2:offset 3:step 4:mode 5:figure 6:rest -/
theorem sc_figure : FnScope ["side", "value", "offset", "step", "mode", "figure", "rest"] ["side", "value"] (defScope s_figure) := ⟨rfl, rfl, rfl, by decide +kernel, rfl, by decide +kernel, by decide +kernel⟩
/- _goes_up: 0:mode 1:step 2:figure 3:rest -/
theorem sc_goes_up : FnScope ["mode", "step", "figure", "rest"] ["mode", "step", "figure", "rest"] (defScope s_goes_up) := ⟨rfl, rfl, rfl, by decide +kernel, rfl, by decide +kernel, by decide +kernel⟩
/- stands: 0:side 1:value 2:offset 3:step 4:_ -/
theorem sc_stands : FnScope ["side", "value", "offset", "step", "_"] ["side", "value"] (defScope s_stands) := ⟨rfl, rfl, rfl, by decide +kernel, rfl, by decide +kernel, by decide +kernel⟩
/- span: 0:side 1:figure -/
theorem sc_span : FnScope ["side", "figure"] ["side", "figure"] (defScope s_span) := ⟨rfl, rfl, rfl, by decide +kernel, rfl, by decide +kernel, by decide +kernel⟩
/- _span: 0:side 1:figure 2:offset 3:step 4:mode 5:value -/
theorem sc_uspan : FnScope ["side", "figure", "offset", "step", "mode", "value"] ["side", "figure"] (defScope s_uspan) := ⟨rfl, rfl, rfl, by decide +kernel, rfl, by decide +kernel, by decide +kernel⟩
/- _below: 0:mode 1:step 2:figure -/
theorem sc_below : FnScope ["mode", "step", "figure"] ["mode", "step", "figure"] (defScope s_below) := ⟨rfl, rfl, rfl, by decide +kernel, rfl, by decide +kernel, by decide +kernel⟩
/- threshold: 0:side 1:value 2:offset 3:step 4:mode 5:figure -/
theorem sc_threshold : FnScope ["side", "value", "offset", "step", "mode", "figure"] ["side", "value"] (defScope s_threshold) := ⟨rfl, rfl, rfl, by decide +kernel, rfl, by decide +kernel, by decide +kernel⟩
/- exchange: 0:first 1:second 2:value 3:wide 4:narrow 5:figure 6:near 7:found -/
theorem sc_exchange : FnScope ["first", "second", "value", "wide", "narrow", "figure", "near", "found"] ["first", "second", "value"] (defScope s_exchange) := ⟨rfl, rfl, rfl, by decide +kernel, rfl, by decide +kernel, by decide +kernel⟩
/- _first_at: 0:wide 1:narrow 2:figure 3:value 4:least 5:greatest 6:start 7:offset 8:step 9:_ -/
theorem sc_first_at : FnScope ["wide", "narrow", "figure", "value", "least", "greatest", "start", "offset", "step", "_"] ["wide", "narrow", "figure", "value"] (defScope s_first_at) := ⟨rfl, rfl, rfl, by decide +kernel, rfl, by decide +kernel, by decide +kernel⟩
/- _law_source: 0:_law_script 1:_law_cells 2:_law_k -/
theorem sc_L_source : FnScope ["_law_script", "_law_cells", "_law_k"] ["_law_script"] (defScope s_L_source) := ⟨rfl, rfl, rfl, by decide +kernel, rfl, by decide +kernel, by decide +kernel⟩
/- _law_draw: 0:_law_source_here 1:_law_limit 2:_law_cells 3:_law_turn 4:_law_place 5:_law_cell 6:_law_number -/
theorem sc_L_draw : FnScope ["_law_source_here", "_law_limit", "_law_cells", "_law_turn", "_law_place", "_law_cell", "_law_number"] ["_law_source_here", "_law_limit"] (defScope s_L_draw) := ⟨rfl, rfl, rfl, by decide +kernel, rfl, by decide +kernel, by decide +kernel⟩
/- _law_pick: 0:_law_source_here 1:_law_values -/
theorem sc_L_pick : FnScope ["_law_source_here", "_law_values"] ["_law_source_here", "_law_values"] (defScope s_L_pick) := ⟨rfl, rfl, rfl, by decide +kernel, rfl, by decide +kernel, by decide +kernel⟩
/- _law_great: 0:_law_source_here 1:_law_limit 2:_law_total 3:_law_k -/
theorem sc_L_great : FnScope ["_law_source_here", "_law_limit", "_law_total", "_law_k"] ["_law_source_here", "_law_limit"] (defScope s_L_great) := ⟨rfl, rfl, rfl, by decide +kernel, rfl, by decide +kernel, by decide +kernel⟩
/- _law_ten: 0:_law_many 1:_law_found 2:_law_k -/
theorem sc_L_ten : FnScope ["_law_many", "_law_found", "_law_k"] ["_law_many"] (defScope s_L_ten) := ⟨rfl, rfl, rfl, by decide +kernel, rfl, by decide +kernel, by decide +kernel⟩
/- _law_step: 0:_law_source_here 1:_law_most 2:_law_joint -/
theorem sc_L_step : FnScope ["_law_source_here", "_law_most", "_law_joint"] ["_law_source_here", "_law_most"] (defScope s_L_step) := ⟨rfl, rfl, rfl, by decide +kernel, rfl, by decide +kernel, by decide +kernel⟩
/- _law_side: 0:_law_source_here 1:_law_most 2:_law_steps 3:_law_offset -/
theorem sc_L_side : FnScope ["_law_source_here", "_law_most", "_law_steps", "_law_offset"] ["_law_source_here", "_law_most"] (defScope s_L_side) := ⟨rfl, rfl, rfl, by decide +kernel, rfl, by decide +kernel, by decide +kernel⟩
/- _law_written: 0:_law_side_here 1:_law_value 2:_law_offset 3:_law_steps 4:_law_mode 5:_law_figure 6:_law_rest 7:_law_more -/
theorem sc_L_written : FnScope ["_law_side_here", "_law_value", "_law_offset", "_law_steps", "_law_mode", "_law_figure", "_law_rest", "_law_more"] ["_law_side_here", "_law_value"] (defScope s_L_written) := ⟨rfl, rfl, rfl, by decide +kernel, rfl, by decide +kernel, by decide +kernel⟩
/- _law_two: 0:_law_source_here 1:_law_one 2:_law_other 3:_law_way 4:_law_mode -/
theorem sc_L_two : FnScope ["_law_source_here", "_law_one", "_law_other", "_law_way", "_law_mode"] ["_law_source_here"] (defScope s_L_two) := ⟨rfl, rfl, rfl, by decide +kernel, rfl, by decide +kernel, by decide +kernel⟩
/- _law_differs: 0:_law_one 1:_law_other 2:_law_value -/
theorem sc_L_differs : FnScope ["_law_one", "_law_other", "_law_value"] ["_law_one", "_law_other", "_law_value"] (defScope s_L_differs) := ⟨rfl, rfl, rfl, by decide +kernel, rfl, by decide +kernel, by decide +kernel⟩
/- _law_word: 0:_law_one 1:_law_other 2:_law_value 3:_law_caught 4:e 5:_law_found -/
theorem sc_L_word : FnScope ["_law_one", "_law_other", "_law_value", "_law_caught", "e", "_law_found"] ["_law_one", "_law_other", "_law_value"] (defScope s_L_word) := ⟨rfl, rfl, rfl, by decide +kernel, rfl, by decide +kernel, by decide +kernel⟩
/- _law_doors_right: 0:_law_good 1:_law_bad 2:_law_value -/
theorem sc_L_doors_right : FnScope ["_law_good", "_law_bad", "_law_value"] ["_law_good"] (defScope s_L_doors_right) := ⟨rfl, rfl, rfl, by decide +kernel, rfl, by decide +kernel, by decide +kernel⟩
/- law: 0:_law_script 1:_law_source_here 2:_law_turn 3:_law_one 4:_law_other 5:_law_period 6:_law_value 7:_law_marks 8:_law_mark 9:_law_later 10:_law_due -/
theorem sc_law : FnScope ["_law_script", "_law_source_here", "_law_turn", "_law_one", "_law_other", "_law_period", "_law_value", "_law_marks", "_law_mark", "_law_later", "_law_due"] ["_law_script"] (defScope s_law) := ⟨rfl, rfl, rfl, by decide +kernel, rfl, by decide +kernel, by decide +kernel⟩

namespace L2
open PySem PySem.Spec PyProof.Rows
/-- powers of great numbers -/
def CPowW (i j : Int) : Prop := 0 ≤ j ∧ (Builtin.Int.intBits i : Int) * j ≤ 2 ^ 27
theorem op_powW {X : Cx} : OpR X (binaryOp .Pow) (rI CPowW fun i j => .int (i ^ j.toNat)) := opI fun _ _ _ _ _ _ _ hc q => pow_int hc.1 hc.2 q
end L2
namespace HT
open PySem L2
/-- the law's source of draws: a list of its cells' list and the turn -/
structure Src (H : Hp) (a c : Addr) (t : Nat) : Prop where
  ne : a ≠ c
  ob : H a = some (.lst [.ref c, .int (t : Int)])
  cl : ∃ cs : List Int, H c = some (.lst (cs.map V.int)) ∧ 0 < cs.length ∧ cs.length ≤ 63
/-- nothing else is touched -/
def Oth (a c : Addr) (H H' : Hp) : Prop := ∀ b o, H b = some o → b ≠ a → b ≠ c → H' b = some o
theorem Oth.refl (a c : Addr) (H : Hp) : Oth a c H H := fun _ _ h _ _ => h
theorem Oth.trans {a c : Addr} {H H1 H2 : Hp} (x : Oth a c H H1) (y : Oth a c H1 H2) : Oth a c H H2 := fun b o h n m => y b o (x b o h n m) n m
theorem Oth.new {a c p : Addr} {H H1 : Hp} {o : HO} (x : Oth a c H H1) (n : H1 p = none) : Oth a c H (upd H1 p o) := fun b u h na nc => by
  rw [upd_ne (ne_of_none (x b u h na nc) n)]
  exact x b u h na nc
theorem Src.new {a c p : Addr} {H : Hp} {t : Nat} {o : HO} (S : Src H a c t) (n : H p = none) : Src (upd H p o) a c t := by
  obtain ⟨cs, h, l⟩ := S.cl
  exact ⟨S.ne, by rw [upd_ne (ne_of_none S.ob n)]; exact S.ob, cs, by rw [upd_ne (ne_of_none h n)]; exact h, l⟩
theorem Src.of_same {a c : Addr} {H H' : Hp} {t : Nat} (S : Src H a c t) (e : Same H H') : Src H' a c t := by
  obtain ⟨cs, h, l⟩ := S.cl
  exact ⟨S.ne, e _ _ S.ob, cs, e _ _ h, l⟩
theorem Src.na {a c p : Addr} {H : Hp} {t : Nat} (S : Src H a c t) (n : H p = none) : p ≠ a ∧ p ≠ c := by
  obtain ⟨cs, h, l⟩ := S.cl
  exact ⟨(ne_of_none S.ob n).symm, (ne_of_none h n).symm⟩
theorem Src.nt {a c p : Addr} {H : Hp} {t : Nat} {xs : List V} (S : Src H a c t) (n : H p = some (.tup xs)) : p ≠ a ∧ p ≠ c := by
  obtain ⟨cs, h, l⟩ := S.cl
  exact ⟨ne_of n S.ob (by intro z; cases z), ne_of n h (by intro z; cases z)⟩
def spSource (K : PySem.W.Frag) : Sp := fun vs H Q _ => ∃ (l : Addr) (ns : List Int), vs = [.ref l] ∧ SqL K H l (ns.map V.int) ∧ ns.length ≤ 63 ∧
  ∀ a c H', Same H H' → H a = none → H c = none → Src H' a c 0 → Q (.ref a) H'
def spDraw : Sp := fun vs H Q _ => ∃ (a c : Addr) (t : Nat) (lim : Int), vs = [.ref a, .int lim] ∧ Src H a c t ∧ t < 2 ^ 30 ∧ 0 < lim ∧ lim.natAbs.log2 < 9000 ∧
  ∀ k H', 0 ≤ k → k < lim → Src H' a c (t + 1) → Oth a c H H' → Q (.int k) H'
/-- what the walk asks of the names that the text does not bind -/
structure Blt (mg : Str → Option Value) : Prop where
  len : mg "len" = none
  abs : mg "abs" = none
  int : mg "int" = none
  range : mg "range" = none
section
variable {P : Program} {w : World} {K : PySem.W.Frag} {mg : Str → Option Value} {base : Heap}
theorem fdiv_ok (i : Int) {j : Int} (h : 0 < j) (h9 : j.natAbs.log2 < 9000) : CDivW i j := ⟨h, h9⟩
theorem atI_in {xs : List Int} {i : Int} (h0 : 0 ≤ i) (h : i < (xs.length : Int)) : atI (xs.map V.int) i = some (.int (xs.getD i.toNat 0)) := by
  have e : ixN (xs.map V.int).length i = some i.toNat := by
    unfold ixN
    rw [List.length_map, if_pos h0, if_pos h]
  unfold atI
  rw [e]
  show (xs.map V.int)[i.toNat]? = _
  have hl : i.toNat < xs.length := by omega
  rw [List.getElem?_map, List.getElem?_eq_getElem hl, List.getD_eq_getElem?_getD, List.getElem?_eq_getElem hl]
  rfl
theorem ixN_in {n : Nat} {i : Int} (h0 : 0 ≤ i) (h : i < (n : Int)) : ixN n i = some i.toNat := by
  unfold ixN
  rw [if_pos h0, if_pos h]
theorem b_mod (x : Int) : -(2 ^ 64) < x % 2147483629 ∧ x % 2147483629 < 2 ^ 64 := by omega
theorem b_mod1 (x : Int) : -(2 ^ 64) < x % 2147483647 ∧ x % 2147483647 < 2 ^ 64 := by omega
theorem b_t {t : Nat} (h : t < 2 ^ 30) : -(2 ^ 64) < (t : Int) ∧ (t : Int) < 2 ^ 64 := by omega
theorem b_tt {t : Nat} (h : t < 2 ^ 30) : -(2 ^ 64) < (t : Int) * t ∧ (t : Int) * t < 2 ^ 64 := by
  have h1 : t * t < 2 ^ 30 * 2 ^ 30 := Nat.mul_lt_mul'' h h
  have h2 : ((t * t : Nat) : Int) = (t : Int) * t := Int.natCast_mul t t
  omega
theorem set_ints (xs : List Int) (j : Nat) (y : Int) : (xs.map V.int).set j (.int y) = (xs.set j y).map V.int := by
  rw [List.map_set]
theorem ok_draw {f : Addr} {fd : FuncData} (F : Fun K "_law_draw" "_law_draw" s_L_draw f fd) (B : Blt mg) : FnOk P w K mg base CX0 1 f fd ["_law_source_here", "_law_limit"] spDraw := by
  refine F.ok sc_L_draw (fun vs H Q E h => ?_) (fun cdv A outer s H vs Q E hr h => ?_)
  · obtain ⟨a, c, t, lim, rfl, _⟩ := h
    rfl
  · obtain ⟨a, c, t, lim, rfl, S, ht, hl0, hl9, q⟩ := h
    obtain ⟨cs, hc, hn0, hn⟩ := S.cl
    have nd := sc_L_draw.nd
    refine ⟨_, pss_cons (ps_asg (pv 0) (pg_unl (n := 2) (by rfl) (pgs_cons (pg_name (i := 2) nd rfl (Or.inl rfl)) (pgs_cons (pg_name (i := 3) nd rfl (Or.inl rfl)) pgs_nil))))
      (pss_cons (ps_set (i := 4) nd rfl (Or.inl rfl) (pe_op op_mod (pe_callTy call_int1 (by rfl) B.int (by decide +kernel) (pa_cons (pv 3) pa_nil)) (pe_callB call_len_seq (by rfl) B.len PySem.boot_len (pa_cons (pv 2) pa_nil))))
      (pss_cons (ps_set (i := 5) nd rfl (Or.inl rfl) (pe_ix ix_list (pv 2) (pv 4) (fun _ _ => rfl)))
      (pss_cons (ps_asg (pe_op op_add (pv 3) pe_int) (pg_sub (pv 0) pe_int set_list))
      (pss_cons (ps_if (pt_cmpR op_ge (pv 5) (pe_op op_pow pe_int pe_int) (nomark _))
        (pss_cons (ps_asg (pe_op op_fdivW (pv 5) (pv 1)) (pg_sub (pv 2) (pv 4) set_list))
          (pss_one (ps_ret (pe_op op_mod (pe_callTy call_int1 (by rfl) B.int (by decide +kernel) (pa_cons (pv 5) pa_nil)) (pv 1))))) pss_nil)
      (pss_cons (ps_set (i := 6) nd rfl (Or.inl rfl) (pe_op op_mod (pe_callTy call_int1 (by rfl) B.int (by decide +kernel) (pa_cons
          (pe_op op_add (pe_op op_add (pe_op op_mul (pe_op op_mod (pe_callTy call_int1 (by rfl) B.int (by decide +kernel) (pa_cons (pv 5) pa_nil)) pe_int) pe_int) (pe_op op_mul (pe_op op_mul (pv 3) (pv 3)) pe_int)) pe_int) pa_nil)) pe_int))
      (pss_cons (ps_set (i := 6) nd rfl (Or.inl rfl) (pe_op op_mod (pe_callTy call_int1 (by rfl) B.int (by decide +kernel) (pa_cons (pe_op op_mul (pv 6) (pv 6)) pa_nil)) pe_int))
      (pss_cons (ps_set (i := 6) nd rfl (Or.inl rfl) (pe_op op_mod (pe_callTy call_int1 (by rfl) B.int (by decide +kernel) (pa_cons (pe_op op_mul (pv 6) (pv 6)) pa_nil)) pe_int))
      (pss_one (ps_ret (pe_op op_mod (pe_callTy call_int1 (by rfl) B.int (by decide +kernel) (pa_cons (pv 6) pa_nil)) (pv 1))))))))))), ?_⟩
    -- _law_cells, _law_turn = _law_source_here
    walk_at "rd"
    refine ⟨a, _, rfl, SqL.of S.ob, rfl, _, _, rfl, _, _, rfl, rfl, ?_⟩
    -- _law_place
    walk_at "rd"
    have hn0' : (0 : Int) < ((cs.map V.int).length : Nat) := by rw [List.length_map]; omega
    refine ⟨c, _, rfl, .inl (SqL.of hc), _, _, rfl, rfl, hn0', ?_⟩
    have hp0 : 0 ≤ (t : Int) % ((cs.map V.int).length : Nat) := Int.emod_nonneg _ (by omega)
    have hp1 : (t : Int) % ((cs.map V.int).length : Nat) < ((cs.map V.int).length : Nat) := Int.emod_lt_of_pos _ hn0'
    have hp1' : (t : Int) % ((cs.map V.int).length : Nat) < (cs.length : Int) := by rw [List.length_map] at hp1 ⊢; exact hp1
    -- _law_cell
    walk_at "rd"
    refine ⟨c, _, _, _, rfl, rfl, SqL.of hc, atI_in hp0 hp1', ?_⟩
    -- _law_source_here[1] = _law_turn + 1
    walk_at "rd"
    refine ⟨a, _, 1, 1, rfl, rfl, S.ob, rfl, ?_⟩
    have S1 : Src (upd H a (.lst ([V.ref c, V.int t].set 1 (.int ((t : Int) + 1))))) a c (t + 1) := ⟨S.ne, by rw [upd_same]; rfl, cs, by rw [upd_ne S.ne.symm]; exact hc, hn0, hn⟩
    have O1 : Oth a c H (upd H a (.lst ([V.ref c, V.int t].set 1 (.int ((t : Int) + 1))))) := fun b o h na _ => by rw [upd_ne na]; exact h
    have hc1 : upd H a (.lst ([V.ref c, V.int t].set 1 (.int ((t : Int) + 1)))) c = some (.lst (cs.map V.int)) := by rw [upd_ne S.ne.symm]; exact hc
    generalize upd H a (.lst ([V.ref c, V.int t].set 1 (.int ((t : Int) + 1)))) = H1 at S1 O1 hc1 ⊢
    -- if _law_cell >= 10 ** 18
    walk_at "rd"
    refine ⟨⟨by decide, by decide, by decide⟩, ?_⟩
    walk_at "rd"
    refine ite2 (fun _ => ?_) (fun _ => ?_)
    · walk_at "rd"
      refine ⟨fdiv_ok _ hl0 hl9, ?_⟩
      walk_at "rd"
      refine ⟨c, _, _, _, rfl, rfl, hc1, ixN_in hp0 hp1, ?_⟩
      walk_at "rd"
      refine ⟨hl0, ?_⟩
      rw [set_ints]
      refine q _ _ (Int.emod_nonneg _ (by omega)) (Int.emod_lt_of_pos _ hl0) ⟨S1.ne, by rw [upd_ne S1.ne]; exact S1.ob, _, upd_same, by rw [List.length_set]; exact hn0, by rw [List.length_set]; exact hn⟩ fun b o h na nc => ?_
      rw [upd_ne nc]
      exact O1 b o h na nc
    · walk_at "rd"
      refine ⟨(by show (0 : Int) < 2147483629; decide), ?_⟩
      walk_at "rd"
      refine ⟨.inl (b_mod _), ?_⟩
      walk_at "rd"
      refine ⟨.inl (b_t ht), ?_⟩
      walk_at "rd"
      refine ⟨.inl (b_tt ht), ?_⟩
      walk_at "rd"
      refine ⟨(by show (0 : Int) < 2147483647; decide), ?_⟩
      walk_at "rd"
      refine ⟨.inl (b_mod1 _), ?_⟩
      walk_at "rd"
      refine ⟨(by show (0 : Int) < 2147483629; decide), ?_⟩
      walk_at "rd"
      refine ⟨.inl (b_mod _), ?_⟩
      walk_at "rd"
      refine ⟨(by show (0 : Int) < 2147483587; decide), ?_⟩
      walk_at "rd"
      refine ⟨hl0, ?_⟩
      exact q _ _ (Int.emod_nonneg _ (by omega)) (Int.emod_lt_of_pos _ hl0) S1 O1
end
end HT
namespace HT
open PySem L2
/-- a def of the text that may be called by its name, and what it promises -/
structure Cal (P : Program) (w : World) (K : PySem.W.Frag) (mg : Str → Option Value) (base : Heap) (x : Str) (k : Nat) (ps : List Str) (sp : Sp) (f : Addr) (fd : FuncData) : Prop where
  ok : FnOk P w K mg base CX0 k f fd ps sp
  gl : mg x = some (.ref f)
  kp : PySem.W.keepIn K (.ref f) = true
  bd : Binds K fd ps []
theorem pcl {X : Cx} {x : Str} {k j : Nat} {ps : List Str} {sp : Sp} {f : Addr} {fd : FuncData} {e : Expr} {es : List Expr} {t : TA} {p pos : Pos} (C : Cal X.prog X.w X.K X.mg X.base x k ps sp f fd) (hr : Room j X.A) (hj : k ≤ j) (hg : Gl X x) (ha : PA X (e :: es) t)
    (hdb : (x == ("__debug__" : Str)) = false := by decide) (he : starEach (e :: es) X.env = (false, eval e X.env) :: starEach es X.env := by rfl) (hpl : (backTo pos (starEach es X.env)).any (·.1) = false := by rfl) : PE X (.Call (.Name x p) (e :: es) [] pos) (tCall sp [] E0 t) :=
  pe_call C.ok (hr.mono hj) hg C.gl C.kp C.bd .nil pass0 ha hdb he hpl
section
variable {P : Program} {w : World} {K : PySem.W.Frag} {mg : Str → Option Value} {base : Heap}
theorem cut63 {ns : List Int} (h : ns.length ≤ 63) : cutV (ns.map V.int) none (some 63) = ns.map V.int := by
  have e1 : HT.sIx (ns.map V.int).length 0 none = 0 := rfl
  have e2 : HT.sIx (ns.map V.int).length (ns.map V.int).length (some 63) = (ns.map V.int).length := by
    have := HT.sIx_nat (ns.map V.int).length (ns.map V.int).length 63
    rw [show ((63 : Nat) : Int) = 63 from rfl] at this
    rw [this, List.length_map]
    omega
  unfold cutV
  rw [e1, e2, List.drop_zero, Nat.sub_zero, List.take_length]
theorem dpInts (H : Hp) : ∀ ns : List Int, DpAll K H (ns.map V.int) (ns.map PyData.int)
  | [] => .nil
  | n :: r => .cons (.int n) (dpInts H r)
theorem pow_ok : CPowW ((10 : Int) ^ (60 : Int).toNat) 20 := ⟨by decide, by decide +kernel⟩
theorem pow_pos' : (0 : Int) < ((10 : Int) ^ (60 : Int).toNat) ^ (20 : Int).toNat := by decide +kernel
theorem ok_source {f : Addr} {fd : FuncData} (F : Fun K "_law_source" "_law_source" s_L_source f fd) (B : Blt mg) : FnOk P w K mg base CX0 1 f fd ["_law_script"] (spSource K) := by
  refine F.ok sc_L_source (fun vs H Q E h => ?_) (fun cdv A outer s H vs Q E hr h => ?_)
  · obtain ⟨l, ns, rfl, _⟩ := h
    rfl
  · obtain ⟨l, ns, rfl, hL, hn, q⟩ := h
    have nd := sc_L_source.nd
    refine ⟨_, pss_cons (ps_set (i := 1) nd rfl (Or.inl rfl) (pe_slice sl_list (pv 0) po_none (po_some pe_int)))
      (pss_cons (ps_for PassesOwn.never rfl (pi_range1 (by rfl) B.range (pa_cons (pe_callB call_len_seq (by rfl) B.len PySem.boot_len (pa_cons (pv 1) pa_nil)) pa_nil)) (pg_name (i := 2) nd rfl (Or.inl rfl))
        (pss_one (ps_if (pt_cmpR op_ge (pe_callB call_abs (by rfl) B.abs (by decide +kernel) (pa_cons (pe_ix ix_list (pv 1) (pv 2) (fun _ _ => rfl)) pa_nil)) (pe_op op_pow pe_int pe_int) (nomark _))
          (pss_one (ps_asg (pe_op op_mod (pe_callTy call_int1 (by rfl) B.int (by decide +kernel) (pa_cons (pe_ix ix_list (pv 1) (pv 2) (fun _ _ => rfl)) pa_nil)) (pe_op op_powW (pe_op op_pow pe_int pe_int) pe_int)) (pg_sub (pv 1) (pv 2) set_list))) pss_nil)))
      (pss_cons (ps_if (pt_cmpR (op_eqD hr.units) (pv 1) (pe_lst pa_nil) (nomark _)) (pss_one (ps_set (i := 1) nd rfl (Or.inl rfl) (pe_lst (pa_cons pe_int pa_nil)))) pss_nil)
      (pss_one (ps_ret (pe_lst (pa_cons (pv 1) (pa_cons pe_int pa_nil))))))), ?_⟩
    walk_at "rd"
    refine ⟨l, _, rfl, hL, fun p np => ?_⟩
    rw [cut63 hn]
    walk_at "rd"
    refine ⟨p, _, rfl, .inl (SqL.of upd_same), _, rfl, by omega, ?_, ?_⟩
    · show ((ns.map V.int).length : Int) < 2 ^ 62
      rw [List.length_map]
      omega
    have en : ((ns.map V.int).length : Int).toNat = ns.length := by rw [List.length_map]; omega
    rw [en]
    refine for_range (fun i σ H' => ∃ (cs : List Int) (kv : Option V), σ = [some (.ref l), some (.ref p), kv] ∧ H' p = some (.lst (cs.map V.int)) ∧ cs.length = ns.length ∧ Same H H') ⟨ns, none, rfl, upd_same, rfl, fun b o e => by rw [upd_ne (ne_of_none e np)]; exact e⟩ ?_ ?_
    · rintro i σ H' hi ⟨cs, kv, rfl, hp, hl, sm⟩
      have h0 : (0 : Int) ≤ 0 + (i : Int) := by omega
      have h1 : (0 : Int) + (i : Int) < (cs.length : Int) := by omega
      walk_at "rd"
      refine ⟨p, _, _, _, rfl, rfl, SqL.of hp, atI_in h0 h1, ?_⟩
      walk_at "rd"
      refine ⟨⟨by decide, by decide, by decide⟩, ?_⟩
      walk_at "rd"
      refine ite2 (fun _ => ?_) (fun _ => ?_)
      · walk_at "rd"
        refine ⟨p, _, _, _, rfl, rfl, SqL.of hp, atI_in h0 h1, ?_⟩
        walk_at "rd"
        refine ⟨⟨by decide, by decide, by decide⟩, ?_⟩
        walk_at "rd"
        refine ⟨pow_ok, ?_⟩
        walk_at "rd"
        refine ⟨pow_pos', ?_⟩
        walk_at "rd"
        refine ⟨p, _, _, _, rfl, rfl, hp, ixN_in h0 (by rw [List.length_map]; exact h1), ?_⟩
        rw [set_ints]
        exact ⟨_, _, rfl, upd_same, by rw [List.length_set]; exact hl, fun b o e => by rw [upd_ne (ne_of_none e np)]; exact sm b o e⟩
      · exact ⟨cs, _, rfl, hp, hl, sm⟩
    · rintro σ H' ⟨cs, kv, rfl, hp, hl, sm⟩
      walk_at "rd"
      refine ⟨by decide, fun e ne => ?_⟩
      have hpe : upd H' e (.lst []) p = some (.lst (cs.map V.int)) := by rw [upd_ne (ne_of_none hp ne)]; exact hp
      have sm1 : Same H (upd H' e (.lst [])) := fun b o z => by rw [upd_ne (ne_of_none (sm b o z) ne)]; exact sm b o z
      refine ⟨_, _, .lst (SqL.of hpe) (dpInts _ cs), .lst (SqL.of upd_same) .nil, PySem.W.ke_shaped_ints cs, by decide +kernel, ?_⟩
      walk_at "rd"
      have hb : PyData.eqv (.list (cs.map PyData.int)) (.list []) = decide (cs = []) := by
        have z := PySem.W.ked_eqvAll cs []
        rw [← z]
        rfl
      rw [hb]
      refine ite2 (fun _ => ?_) (fun hne => ?_)
      · walk_at "rd"
        refine ⟨by decide, fun c nc => ?_⟩
        walk_at "rd"
        refine ⟨(by show 2 ≤ sizeLine; decide), fun a na => ?_⟩
        have sm2 : Same H (upd (upd H' e (.lst [])) c (.lst [.int 0])) := fun b o z => by rw [upd_ne (ne_of_none (sm1 b o z) nc)]; exact sm1 b o z
        have nac : a ≠ c := (ne_of_none upd_same na).symm
        refine q a c _ (fun b o z => by rw [upd_ne (ne_of_none (sm2 b o z) na)]; exact sm2 b o z) (sm2.free na) (sm1.free nc) ⟨nac, upd_same, [0], by rw [upd_ne nac.symm]; exact upd_same, by decide, by decide⟩
      · walk_at "rd"
        refine ⟨(by show 2 ≤ sizeLine; decide), fun a na => ?_⟩
        have nap : a ≠ p := (ne_of_none hpe na).symm
        refine q a p _ (fun b o z => by rw [upd_ne (ne_of_none (sm1 b o z) na)]; exact sm1 b o z) (sm1.free na) np ⟨nap, upd_same, cs, by rw [upd_ne nap.symm]; exact hpe, ?_, by omega⟩
        have : cs ≠ [] := fun z => hne (decide_eq_true z)
        exact List.length_pos_iff.mpr this
end
end HT
namespace HT
open PySem L2
/-- a def of which errors may come, and its call -/
structure CalX (P : Program) (w : World) (K : PySem.W.Frag) (mg : Str → Option Value) (base : Heap) (x : Str) (k : Nat) (ps : List Str) (sp : Sp) (f : Addr) (fd : FuncData) : Prop where
  ok : FnOk P w K mg base (L2.CX P w) k f fd ps sp
  mgf : mg x = some (.ref f)
  kp : PySem.W.keepIn K (.ref f) = true
  b : Binds K fd ps []
theorem pcx {X : Cx} {x : Str} {k j : Nat} {ps : List Str} {sp : Sp} {f : Addr} {fd : FuncData} {e : Expr} {es : List Expr} {t : TA} {p pos : Pos} {W : WX} (C : CalX X.prog X.w X.K X.mg X.base x k ps sp f fd) (hr : Room j X.A) (hj : k ≤ j) (hg : Gl X x) (tk : L2.Takes X W) (ha : PA X (e :: es) t)
    (hdb : (x == ("__debug__" : Str)) = false := by decide) (he : starEach (e :: es) X.env = (false, eval e X.env) :: starEach es X.env := by rfl) (hpl : (backTo pos (starEach es X.env)).any (·.1) = false := by rfl) : PE X (.Call (.Name x p) (e :: es) [] pos) (tCallS sp (WE W) t) :=
  pe_callS C.ok (hr.mono hj) hg C.mgf C.kp C.b (fun σ => L2.passAt tk σ) ha hdb he hpl
end HT
namespace HT
open PySem L2
/-! ### pick, great, ten, step, side -/
def spPick : Sp := fun vs H Q _ => ∃ (a c : Addr) (t : Nat) (l : Addr) (xs : List V), vs = [.ref a, .ref l] ∧ Src H a c t ∧ t < 2 ^ 30 ∧ H l = some (.lst xs) ∧ l ≠ a ∧ l ≠ c ∧ 0 < xs.length ∧ xs.length < 2 ^ 60 ∧
  ∀ x H', x ∈ xs → Src H' a c (t + 1) → Oth a c H H' → Q x H'
def spGreat : Sp := fun vs H Q _ => ∃ (a c : Addr) (t : Nat) (lim : Int), vs = [.ref a, .int lim] ∧ Src H a c t ∧ 0 < lim ∧ t + 5 < 2 ^ 30 ∧
  ∀ k H', 0 ≤ k → k < lim → Src H' a c (t + 5) → Oth a c H H' → Q (.int k) H'
def spTen : Sp := fun vs H Q _ => ∃ (n : Nat), vs = [.int (n : Int)] ∧ n ≤ 1000 ∧ Q (.int (10 ^ n)) H
def spStep : Sp := fun vs H Q _ => ∃ (a c : Addr) (t : Nat) (mo : Int), vs = [.ref a, .int mo] ∧ Src H a c t ∧ 1 ≤ mo ∧ mo ≤ 10 ^ 30 ∧ t + 20 < 2 ^ 30 ∧
  ∀ s H' t', 1 ≤ s → s ≤ mo → t' ≤ t + 20 → Src H' a c t' → Oth a c H H' → Q (.int s) H'
/-- the modes -/
def Mode (m : Str) : Prop := m = "down" ∨ m = "up" ∨ m = "half_down" ∨ m = "half_up" ∨ m = "half_even"
/-- a side's parts -/
structure SideP (o s : Int) (m : Str) : Prop where
  o0 : -10 ^ 40 ≤ o
  o1 : o ≤ 10 ^ 40
  s0 : 1 ≤ s
  s1 : s ≤ 10 ^ 30
  md : Mode m
def sideV (o s : Int) (m : Str) : HO := .tup [.int o, .int s, .str m]
def spSide : Sp := fun vs H Q _ => ∃ (a c : Addr) (t : Nat) (mo : Int), vs = [.ref a, .int mo] ∧ Src H a c t ∧ 1 ≤ mo ∧ mo ≤ 10 ^ 30 ∧ t + 40 < 2 ^ 30 ∧
  ∀ p o s m H' t', H p = none → H' p = some (sideV o s m) → (1 ≤ s ∧ s ≤ mo ∧ -s ≤ o ∧ o < 2 * s ∧ Mode m) → t' ≤ t + 40 → Src H' a c t' → Oth a c H H' → Q (.ref p) H'
theorem lg_nat {n : Nat} (h : n < 2 ^ 200) : ((n : Int)).natAbs.log2 < 9000 := by
  rw [Int.natAbs_natCast]
  by_cases e : n = 0
  · rw [e]; decide
  · have := (Nat.log2_lt e).mpr h
    omega
theorem lg_small {n : Int} (h0 : 0 ≤ n) (h : n < 2 ^ 64) : n.natAbs.log2 < 9000 := by
  obtain ⟨m, rfl⟩ := Int.eq_ofNat_of_zero_le h0
  exact lg_nat (Nat.lt_of_lt_of_le (by omega : m < 2 ^ 64) (Nat.pow_le_pow_right (by decide) (by decide)))
section
variable {P : Program} {w : World} {K : PySem.W.Frag} {mg : Str → Option Value} {base : Heap} {fD fP fG fT fS : Addr} {dD dP dG dT dS : FuncData}
theorem ok_pick {f : Addr} {fd : FuncData} (F : Fun K "_law_pick" "_law_pick" s_L_pick f fd) (B : Blt mg) (D : Cal P w K mg base "_law_draw" 1 ["_law_source_here", "_law_limit"] spDraw fD dD) :
    FnOk P w K mg base CX0 2 f fd ["_law_source_here", "_law_values"] spPick := by
  refine F.ok sc_L_pick (fun vs H Q E h => ?_) (fun cdv A outer s H vs Q E hr h => ?_)
  · obtain ⟨a, c, t, l, xs, rfl, _⟩ := h
    rfl
  · obtain ⟨a, c, t, l, xs, rfl, S, ht, hl, na, nc, h0, h1, q⟩ := h
    refine ⟨_, pss_one (ps_ret (pe_ix ix_list (pv 1) (pcl D hr (by decide) (by rfl) (pa_cons (pv 0) (pa_cons (pe_callB call_len_seq (by rfl) B.len PySem.boot_len (pa_cons (pv 1) pa_nil)) pa_nil))) (fun _ _ => rfl))), ?_⟩
    walk_at "rd"
    refine ⟨l, _, rfl, .inl (SqL.of hl), ?_⟩
    have p1 : (0 : Int) < (xs.length : Int) := by omega
    refine ⟨a, c, t, _, rfl, S, ht, p1, lg_nat (Nat.lt_of_lt_of_le h1 (Nat.pow_le_pow_right (by decide) (by decide))), fun k H' k0 k1 S' O => ?_⟩
    have hl' : k.toNat < xs.length := by omega
    have e : atI xs k = some xs[k.toNat] := by
      unfold atI
      rw [ixN_in k0 k1]
      exact List.getElem?_eq_getElem hl'
    refine ⟨l, _, _, _, rfl, rfl, SqL.of (O _ _ hl na nc), e, ?_⟩
    exact q _ _ (List.getElem_mem hl') S' O
theorem ok_great {f : Addr} {fd : FuncData} (F : Fun K "_law_great" "_law_great" s_L_great f fd) (B : Blt mg) (D : Cal P w K mg base "_law_draw" 1 ["_law_source_here", "_law_limit"] spDraw fD dD) :
    FnOk P w K mg base CX0 2 f fd ["_law_source_here", "_law_limit"] spGreat := by
  refine F.ok sc_L_great (fun vs H Q E h => ?_) (fun cdv A outer s H vs Q E hr h => ?_)
  · obtain ⟨a, c, t, lim, rfl, _⟩ := h
    rfl
  · obtain ⟨a, c, t, lim, rfl, S, hl, ht, q⟩ := h
    have nd := sc_L_great.nd
    refine ⟨_, pss_cons (ps_set (i := 2) nd rfl (Or.inl rfl) pe_int)
      (pss_cons (ps_for PassesOwn.never rfl (pi_range1 (by rfl) B.range (pa_cons pe_int pa_nil)) (pg_name (i := 3) nd rfl (Or.inl rfl))
        (pss_one (ps_set (i := 2) nd rfl (Or.inl rfl) (pe_op op_add (pe_op op_mul (pv 2) (pe_op op_pow pe_int pe_int)) (pcl D hr (by decide) (by rfl) (pa_cons (pv 0) (pa_cons (pe_op op_pow pe_int pe_int) pa_nil)))))))
      (pss_one (ps_ret (pe_op op_mod (pe_callTy call_int1 (by rfl) B.int (by decide +kernel) (pa_cons (pv 2) pa_nil)) (pv 1))))), ?_⟩
    walk_at "rd"
    refine ⟨by decide, by decide, ?_⟩
    refine for_range (n := 5) (fun i σ H' => ∃ (k : Int) (kv : Option V), σ = [some (.ref a), some (.int lim), some (.int k), kv] ∧ Src H' a c (t + i) ∧ Oth a c H H') ⟨0, none, rfl, S, Oth.refl _ _ _⟩ ?_ ?_
    · rintro i σ H' hi ⟨k, kv, rfl, S', O⟩
      walk_at "rd"
      refine ⟨⟨by decide, by decide, by decide⟩, ?_⟩
      walk_at "rd"
      refine ⟨.inr ⟨by decide, by decide⟩, ?_⟩
      walk_at "rd"
      refine ⟨⟨by decide, by decide, by decide⟩, ?_⟩
      refine ⟨a, c, t + i, _, rfl, S', by omega, (by decide), lg_small (by decide) (by decide), fun y H2 y0 y1 S2 O2 => ?_⟩
      walk_at "rd"
      exact ⟨_, _, rfl, S2, O.trans O2⟩
    · rintro σ H' ⟨k, kv, rfl, S', O⟩
      walk_at "rd"
      refine ⟨hl, ?_⟩
      exact q _ _ (Int.emod_nonneg _ (by omega)) (Int.emod_lt_of_pos _ hl) S' O
theorem ok_ten {f : Addr} {fd : FuncData} (F : Fun K "_law_ten" "_law_ten" s_L_ten f fd) (B : Blt mg) : FnOk P w K mg base CX0 1 f fd ["_law_many"] spTen := by
  refine F.ok sc_L_ten (fun vs H Q E h => ?_) (fun cdv A outer s H vs Q E hr h => ?_)
  · obtain ⟨n, rfl, _⟩ := h
    rfl
  · obtain ⟨n, rfl, hn, q⟩ := h
    have nd := sc_L_ten.nd
    refine ⟨_, pss_cons (ps_set (i := 1) nd rfl (Or.inl rfl) pe_int)
      (pss_cons (ps_for PassesOwn.never rfl (pi_range1 (by rfl) B.range (pa_cons (pv 0) pa_nil)) (pg_name (i := 2) nd rfl (Or.inl rfl))
        (pss_one (ps_set (i := 1) nd rfl (Or.inl rfl) (pe_op op_mul (pv 1) pe_int))))
      (pss_one (ps_ret (pv 1)))), ?_⟩
    walk_at "rd"
    refine ⟨by omega, by omega, ?_⟩
    rw [Int.toNat_natCast]
    refine for_range (fun i σ H' => ∃ (kv : Option V), σ = [some (.int (n : Int)), some (.int (10 ^ i)), kv] ∧ H' = H) ⟨none, rfl, rfl⟩ ?_ ?_
    · rintro i σ H' hi ⟨kv, rfl, rfl⟩
      walk_at "rd"
      refine ⟨.inr ⟨by decide, by decide⟩, ?_⟩
      exact ⟨_, rfl, rfl⟩
    · rintro σ H' ⟨kv, rfl, rfl⟩
      walk_at "rd"
      exact q
theorem mode_of {x : V} (h : x ∈ [V.str "down", .str "up", .str "half_down", .str "half_up", .str "half_even"]) : ∃ m : Str, x = .str m ∧ Mode m := by
  simp only [List.mem_cons, List.not_mem_nil, or_false] at h
  rcases h with h | h | h | h | h
  · exact ⟨_, h, .inl rfl⟩
  · exact ⟨_, h, .inr (.inl rfl)⟩
  · exact ⟨_, h, .inr (.inr (.inl rfl))⟩
  · exact ⟨_, h, .inr (.inr (.inr (.inl rfl)))⟩
  · exact ⟨_, h, .inr (.inr (.inr (.inr rfl)))⟩
end
end HT
namespace HT
open PySem L2
/-! ### the mathematics of a side -/
def goesUp (m : Str) (s q r : Int) : Bool := if m = "down" then false else if m = "up" then decide (0 < r) else if 2 * r = s then (if m = "half_even" then decide (q % 2 = 1) else decide (m = "half_up")) else decide (s < 2 * r)
/-- the figure to which v comes -/
def figM (o s : Int) (m : Str) (v : Int) : Int := if goesUp m s ((v - o) / s) ((v - o) % s) = true then (v - o) / s + 1 else (v - o) / s
def dueM (o s : Int) (m : Str) (v : Int) : Int := o + s * figM o s m v
theorem d_u : ¬ (("up" : Str) = "down") := by decide +kernel
theorem hd_d : ¬ (("half_down" : Str) = "down") := by decide +kernel
theorem hd_u : ¬ (("half_down" : Str) = "up") := by decide +kernel
theorem hu_d : ¬ (("half_up" : Str) = "down") := by decide +kernel
theorem hu_u : ¬ (("half_up" : Str) = "up") := by decide +kernel
theorem he_d : ¬ (("half_even" : Str) = "down") := by decide +kernel
theorem he_u : ¬ (("half_even" : Str) = "up") := by decide +kernel
theorem hd_e : ¬ (("half_down" : Str) = "half_even") := by decide +kernel
theorem hu_e : ¬ (("half_up" : Str) = "half_even") := by decide +kernel
theorem hd_hu : ¬ (("half_down" : Str) = "half_up") := by decide +kernel
theorem he_hu : ¬ (("half_even" : Str) = "half_up") := by decide +kernel
theorem u_hd : ¬ (("up" : Str) = "half_down") := by decide +kernel
theorem hu_hd : ¬ (("half_up" : Str) = "half_down") := by decide +kernel
theorem he_hd : ¬ (("half_even" : Str) = "half_down") := by decide +kernel
theorem go_down (s q r : Int) : goesUp "down" s q r = false := by unfold goesUp; rw [if_pos rfl]
theorem go_up (s q r : Int) : goesUp "up" s q r = decide (0 < r) := by unfold goesUp; rw [if_neg d_u, if_pos rfl]
theorem go_hd (s q r : Int) : goesUp "half_down" s q r = decide (s < 2 * r) := by
  unfold goesUp
  rw [if_neg hd_d, if_neg hd_u, if_neg hd_e, decide_eq_false hd_hu]
  by_cases h : 2 * r = s
  · rw [if_pos h, decide_eq_false (by omega)]
  · rw [if_neg h]
theorem go_hu (s q r : Int) : goesUp "half_up" s q r = decide (s ≤ 2 * r) := by
  unfold goesUp
  rw [if_neg hu_d, if_neg hu_u, if_neg hu_e, decide_eq_true rfl]
  by_cases h : 2 * r = s
  · rw [if_pos h, decide_eq_true (by omega)]
  · rw [if_neg h]
    by_cases g : s < 2 * r
    · rw [decide_eq_true g, decide_eq_true (by omega)]
    · rw [decide_eq_false g, decide_eq_false (by omega)]
theorem go_he (s q r : Int) : goesUp "half_even" s q r = (decide (s < 2 * r) || (decide (2 * r = s) && decide (q % 2 = 1))) := by
  unfold goesUp
  rw [if_neg he_d, if_neg he_u, if_pos rfl]
  by_cases h : 2 * r = s
  · rw [if_pos h, decide_eq_false (show ¬ s < 2 * r by omega), decide_eq_true h]
    rfl
  · rw [if_neg h, decide_eq_false h]
    simp
/-- what is known of a figure -/
structure Fig (o s : Int) (m : Str) (v q r k : Int) : Prop where
  eq : v - o = s * q + r
  r0 : 0 ≤ r
  r1 : r < s
  wh : (goesUp m s q r = true ∧ k = q + 1) ∨ (goesUp m s q r = false ∧ k = q)
theorem fig_of {o s : Int} {m : Str} {v : Int} (hs : 1 ≤ s) : Fig o s m v ((v - o) / s) ((v - o) % s) (figM o s m v) := by
  refine ⟨?_, Int.emod_nonneg _ (by omega), Int.emod_lt_of_pos _ (by omega), ?_⟩
  · have := Int.mul_ediv_add_emod (v - o) s
    omega
  · unfold figM
    cases h : goesUp m s ((v - o) / s) ((v - o) % s)
    · exact .inr ⟨rfl, by simp⟩
    · exact .inl ⟨rfl, by simp⟩
theorem divmod_eq {s q r x : Int} (hs : 1 ≤ s) (h : x = s * q + r) (r0 : 0 ≤ r) (r1 : r < s) : x / s = q ∧ x % s = r := by
  subst h
  constructor
  · rw [Int.add_comm, Int.add_mul_ediv_left _ _ (by omega), Int.ediv_eq_zero_of_lt r0 r1]
    omega
  · rw [Int.add_comm, Int.add_mul_emod_self_left]
    exact Int.emod_eq_of_lt r0 r1
theorem fig_uniq {o s : Int} {m : Str} {v q r k : Int} (hs : 1 ≤ s) (F : Fig o s m v q r k) : figM o s m v = k := by
  obtain ⟨e1, e2⟩ := divmod_eq hs F.eq F.r0 F.r1
  unfold figM
  rw [e1, e2]
  rcases F.wh with ⟨h, e⟩ | ⟨h, e⟩
  · rw [h, if_pos rfl, e]
  · rw [h, if_neg (by decide), e]
/-- going up wants a rest, and not going up a small one -/
theorem go_pos {m : Str} {s q r : Int} (hm : Mode m) (hs : 1 ≤ s) (r0 : 0 ≤ r) (h : goesUp m s q r = true) : 0 < r := by
  rcases hm with e | e | e | e | e <;> subst e
  · rw [go_down] at h; cases h
  · rw [go_up] at h; exact of_decide_eq_true h
  · rw [go_hd] at h; have := of_decide_eq_true h; omega
  · rw [go_hu] at h; have := of_decide_eq_true h; omega
  · rw [go_he, Bool.or_eq_true, Bool.and_eq_true] at h
    rcases h with h | ⟨h, _⟩ <;> have := of_decide_eq_true h <;> omega
theorem due_near {o s : Int} {m : Str} {v : Int} (hm : Mode m) (hs : 1 ≤ s) : dueM o s m v - v < s ∧ v - dueM o s m v < s := by
  have F := fig_of (o := o) (m := m) (v := v) hs
  unfold dueM
  generalize (v - o) / s = q at F
  generalize (v - o) % s = r at F
  obtain ⟨eq, r0, r1, wh⟩ := F
  rcases wh with ⟨h, e⟩ | ⟨h, e⟩
  · have := go_pos hm hs r0 h
    rw [e, Int.mul_add, Int.mul_one]
    generalize s * q = z at eq ⊢
    omega
  · rw [e]
    generalize s * q = z at eq ⊢
    omega
def half (m : Str) : Prop := m = "half_down" ∨ m = "half_up" ∨ m = "half_even"
theorem due_half {o s : Int} {m : Str} {v : Int} (hm : half m) (hs : 1 ≤ s) : 2 * (dueM o s m v - v) ≤ s ∧ 2 * (v - dueM o s m v) ≤ s := by
  have F := fig_of (o := o) (m := m) (v := v) hs
  unfold dueM
  generalize (v - o) / s = q at F
  generalize (v - o) % s = r at F
  obtain ⟨eq, r0, r1, wh⟩ := F
  have hb : (goesUp m s q r = true → s ≤ 2 * r) ∧ (goesUp m s q r = false → 2 * r ≤ s) := by
    rcases hm with e | e | e <;> subst e
    · rw [go_hd]; exact ⟨fun h => by have := of_decide_eq_true h; omega, fun h => by have := of_decide_eq_false h; omega⟩
    · rw [go_hu]; exact ⟨fun h => by have := of_decide_eq_true h; omega, fun h => by have := of_decide_eq_false h; omega⟩
    · rw [go_he]
      refine ⟨fun h => ?_, fun h => ?_⟩
      · rw [Bool.or_eq_true, Bool.and_eq_true] at h
        rcases h with h | ⟨h, _⟩ <;> have := of_decide_eq_true h <;> omega
      · rw [Bool.or_eq_false_iff] at h
        have := of_decide_eq_false h.1
        omega
  rcases wh with ⟨h, e⟩ | ⟨h, e⟩
  · have := hb.1 h
    rw [e, Int.mul_add, Int.mul_one]
    generalize s * q = z at eq ⊢
    omega
  · have := hb.2 h
    rw [e]
    generalize s * q = z at eq ⊢
    omega
theorem go_zero {m : Str} {s q : Int} (hm : Mode m) (hs : 1 ≤ s) : goesUp m s q 0 = false := by
  cases h : goesUp m s q 0 with
  | false => rfl
  | true => exact absurd (go_pos hm hs (Int.le_refl _) h) (by omega)
/-- what is written stands and is written as it is -/
theorem fig_at {o s k : Int} {m : Str} (hm : Mode m) (hs : 1 ≤ s) : figM o s m (o + s * k) = k :=
  fig_uniq (q := k) (r := 0) hs ⟨by omega, Int.le_refl _, by omega, .inr ⟨go_zero hm hs, rfl⟩⟩
theorem stands_at {o s k : Int} : (o + s * k - o) % s = 0 := by
  rw [show o + s * k - o = s * k by omega]
  exact Int.mul_emod_right s k
theorem due_eq {o s : Int} {m : Str} {v : Int} (hm : Mode m) (hs : 1 ≤ s) : (v - o) % s = 0 ↔ dueM o s m v = v := by
  have F := fig_of (o := o) (m := m) (v := v) hs
  unfold dueM
  generalize (v - o) / s = q at F
  generalize (v - o) % s = r at F ⊢
  obtain ⟨eq, r0, r1, wh⟩ := F
  rcases wh with ⟨h, e⟩ | ⟨h, e⟩
  · have := go_pos hm hs r0 h
    rw [e, Int.mul_add, Int.mul_one]
    generalize s * q = z at eq ⊢
    omega
  · rw [e]
    generalize s * q = z at eq ⊢
    omega
theorem go_mono {m : Str} {s q r : Int} (hm : Mode m) (h : goesUp m s q r = true) : goesUp m s q (r + 1) = true := by
  rcases hm with e | e | e | e | e <;> subst e
  · rw [go_down] at h; cases h
  · rw [go_up] at h ⊢; have := of_decide_eq_true h; exact decide_eq_true (by omega)
  · rw [go_hd] at h ⊢; have := of_decide_eq_true h; exact decide_eq_true (by omega)
  · rw [go_hu] at h ⊢; have := of_decide_eq_true h; exact decide_eq_true (by omega)
  · rw [go_he] at h ⊢
    have : s ≤ 2 * r := by
      rw [Bool.or_eq_true, Bool.and_eq_true] at h
      rcases h with h | ⟨h, _⟩ <;> have := of_decide_eq_true h <;> omega
    rw [decide_eq_true (show s < 2 * (r + 1) by omega)]
    rfl
theorem fig_mono {o s : Int} {m : Str} {v : Int} (hm : Mode m) (hs : 1 ≤ s) : figM o s m v ≤ figM o s m (v + 1) := by
  have F := fig_of (o := o) (m := m) (v := v) hs
  generalize (v - o) / s = q at F
  generalize (v - o) % s = r at F
  obtain ⟨eq, r0, r1, wh⟩ := F
  by_cases hr : r + 1 < s
  · cases g : goesUp m s q (r + 1) with
    | true =>
      rw [fig_uniq (v := v + 1) (q := q) (r := r + 1) (k := q + 1) hs ⟨by omega, by omega, hr, .inl ⟨g, rfl⟩⟩]
      rcases wh with ⟨_, e⟩ | ⟨_, e⟩ <;> omega
    | false =>
      rw [fig_uniq (v := v + 1) (q := q) (r := r + 1) (k := q) hs ⟨by omega, by omega, hr, .inr ⟨g, rfl⟩⟩]
      rcases wh with ⟨h, e⟩ | ⟨_, e⟩
      · rw [go_mono hm h] at g
        cases g
      · omega
  · rw [fig_uniq (v := v + 1) (q := q + 1) (r := 0) (k := q + 1) hs ⟨by rw [Int.mul_add, Int.mul_one]; omega, by omega, by omega, .inr ⟨go_zero hm hs, rfl⟩⟩]
    rcases wh with ⟨_, e⟩ | ⟨_, e⟩ <;> omega
theorem due_mono {o s : Int} {m : Str} {v : Int} (hm : Mode m) (hs : 1 ≤ s) : dueM o s m v ≤ dueM o s m (v + 1) := by
  unfold dueM
  have := Int.mul_le_mul_of_nonneg_left (fig_mono (o := o) (v := v) hm hs) (show 0 ≤ s by omega)
  omega
theorem go_two {m : Str} {s q r : Int} (hm : Mode m) : goesUp m s (q + 2) r = goesUp m s q r := by
  rcases hm with e | e | e | e | e <;> subst e
  · rw [go_down, go_down]
  · rw [go_up, go_up]
  · rw [go_hd, go_hd]
  · rw [go_hu, go_hu]
  · rw [go_he, go_he, show (q + 2) % 2 = q % 2 by omega]
theorem due_two {o s : Int} {m : Str} {v : Int} (hm : Mode m) (hs : 1 ≤ s) : dueM o s m (v + s * 2) = dueM o s m v + s * 2 := by
  have F := fig_of (o := o) (m := m) (v := v) hs
  unfold dueM
  generalize (v - o) / s = q at F
  generalize (v - o) % s = r at F
  obtain ⟨eq, r0, r1, wh⟩ := F
  rw [fig_uniq (v := v + s * 2) (q := q + 2) (r := r) (k := figM o s m v + 2) hs ⟨by rw [Int.mul_add]; omega, r0, r1, ?_⟩, Int.mul_add]
  · omega
  · rw [go_two hm]
    rcases wh with ⟨h, e⟩ | ⟨h, e⟩
    · exact .inl ⟨h, by omega⟩
    · exact .inr ⟨h, by omega⟩
/-! ### bounds -/
def Bd (x : Int) : Prop := -2 ^ 1000 < x ∧ x < 2 ^ 1000
theorem div_bd {x s b : Int} (hs : 1 ≤ s) (h0 : -b < x) (h1 : x < b) : -b < x / s ∧ x / s < b := by
  by_cases hx : 0 ≤ x
  · have a := Int.ediv_nonneg hx (show 0 ≤ s by omega)
    have c := Int.ediv_le_self s hx
    omega
  · have a : x ≤ x / s := by
      rw [Int.le_ediv_iff_mul_le (by omega)]
      have := Int.mul_le_mul_of_nonpos_left (show x ≤ 0 by omega) hs
      omega
    have c : x / s < 0 := Int.ediv_neg_of_neg_of_pos (by omega) (by omega)
    omega
end HT
namespace HT
open PySem L2
/-! ### spans -/
def below (m : Str) (s k : Int) : Int := if m = "down" then 0 else if m = "up" then s - 1 else if m = "half_up" ∨ (m = "half_even" ∧ k % 2 = 0) then s / 2 else (s - 1) / 2
def mir (m : Str) : Str := if m = "down" then "up" else if m = "up" then "down" else if m = "half_down" then "half_up" else if m = "half_up" then "half_down" else "half_even"
def lowM (o s : Int) (m : Str) (k : Int) : Int := o + s * k - below m s k
def highM (o s : Int) (m : Str) (k : Int) : Int := o + s * k + below (mir m) s k
theorem mir_d : mir "down" = "up" := by unfold mir; rw [if_pos rfl]
theorem mir_u : mir "up" = "down" := by unfold mir; rw [if_neg d_u, if_pos rfl]
theorem mir_hd : mir "half_down" = "half_up" := by unfold mir; rw [if_neg hd_d, if_neg hd_u, if_pos rfl]
theorem mir_hu : mir "half_up" = "half_down" := by unfold mir; rw [if_neg hu_d, if_neg hu_u, if_neg hu_hd, if_pos rfl]
theorem mir_he : mir "half_even" = "half_even" := by unfold mir; rw [if_neg he_d, if_neg he_u, if_neg he_hd, if_neg he_hu]
theorem be_d (s k : Int) : below "down" s k = 0 := by unfold below; rw [if_pos rfl]
theorem be_u (s k : Int) : below "up" s k = s - 1 := by unfold below; rw [if_neg d_u, if_pos rfl]
theorem be_hd (s k : Int) : below "half_down" s k = (s - 1) / 2 := by
  unfold below
  rw [if_neg hd_d, if_neg hd_u, if_neg]
  rintro (z | ⟨z, _⟩)
  · exact hd_hu z
  · exact hd_e z
theorem be_hu (s k : Int) : below "half_up" s k = s / 2 := by unfold below; rw [if_neg hu_d, if_neg hu_u, if_pos (.inl rfl)]
theorem be_he (s k : Int) : below "half_even" s k = if k % 2 = 0 then s / 2 else (s - 1) / 2 := by
  unfold below
  rw [if_neg he_d, if_neg he_u]
  by_cases h : k % 2 = 0
  · rw [if_pos (.inr ⟨rfl, h⟩), if_pos h]
  · rw [if_neg h, if_neg]
    rintro (z | ⟨_, z⟩)
    · exact he_hu z
    · exact h z
theorem mir_mode {m : Str} (h : Mode m) : Mode (mir m) := by
  rcases h with e | e | e | e | e <;> subst e
  · rw [mir_d]; exact .inr (.inl rfl)
  · rw [mir_u]; exact .inl rfl
  · rw [mir_hd]; exact .inr (.inr (.inr (.inl rfl)))
  · rw [mir_hu]; exact .inr (.inr (.inl rfl))
  · rw [mir_he]; exact .inr (.inr (.inr (.inr rfl)))
theorem below_bd {m : Str} {s k : Int} (h : Mode m) (hs : 1 ≤ s) : 0 ≤ below m s k ∧ below m s k < s := by
  rcases h with e | e | e | e | e <;> subst e
  · rw [be_d]; omega
  · rw [be_u]; omega
  · rw [be_hd]; omega
  · rw [be_hu]; omega
  · rw [be_he]; split <;> omega
theorem up_iff {m : Str} {s q r : Int} (h : Mode m) (r0 : 0 ≤ r) (r1 : r < s) : goesUp m s q r = true ↔ below (mir m) s q < r := by
  rcases h with e | e | e | e | e <;> subst e
  · rw [go_down, mir_d, be_u]
    exact ⟨fun z => (Bool.false_ne_true z).elim, fun z => absurd z (by omega)⟩
  · rw [go_up, mir_u, be_d, decide_eq_true_eq]
  · rw [go_hd, mir_hd, be_hu, decide_eq_true_eq]; omega
  · rw [go_hu, mir_hu, be_hd, decide_eq_true_eq]; omega
  · rw [go_he, mir_he, be_he, Bool.or_eq_true, Bool.and_eq_true, decide_eq_true_eq, decide_eq_true_eq, decide_eq_true_eq]
    split <;> omega
theorem touch {m : Str} {s : Int} (q : Int) (h : Mode m) (hs : 1 ≤ s) : below m s (q + 1) + below (mir m) s q = s - 1 := by
  rcases h with e | e | e | e | e <;> subst e
  · rw [be_d, mir_d, be_u]; omega
  · rw [be_u, mir_u, be_d]; omega
  · rw [be_hd, mir_hd, be_hu]; omega
  · rw [be_hu, mir_hu, be_hd]; omega
  · rw [be_he, mir_he, be_he]; split <;> split <;> omega
theorem mul_lt_step {s q k : Int} (hs : 1 ≤ s) (h : q < k) : s * q + s ≤ s * k := by
  have := Int.mul_le_mul_of_nonneg_left (show q + 1 ≤ k by omega) (show 0 ≤ s by omega)
  rw [Int.mul_add, Int.mul_one] at this
  exact this
/-- a value comes to k just between the ends -/
theorem fig_iff {o s : Int} {m : Str} {v k : Int} (h : Mode m) (hs : 1 ≤ s) : figM o s m v = k ↔ lowM o s m k ≤ v ∧ v ≤ highM o s m k := by
  have F := fig_of (o := o) (m := m) (v := v) hs
  generalize (v - o) / s = q at F
  generalize (v - o) % s = r at F
  generalize figM o s m v = f at F ⊢
  obtain ⟨eq, r0, r1, wh⟩ := F
  have ui := up_iff (q := q) h r0 r1
  have t1 := touch (k - 1) h hs
  rw [show k - 1 + 1 = k by omega] at t1
  have bk := below_bd (k := k) (mir_mode h) hs
  have bk1 := below_bd (k := k - 1) (mir_mode h) hs
  have bq := below_bd (k := q) (mir_mode h) hs
  unfold lowM highM
  have hf : (f = q + 1 ∧ below (mir m) s q < r) ∨ (f = q ∧ r ≤ below (mir m) s q) := by
    rcases wh with ⟨g, e⟩ | ⟨g, e⟩
    · exact .inl ⟨e, ui.mp g⟩
    · refine .inr ⟨e, ?_⟩
      have : ¬ below (mir m) s q < r := fun z => by rw [ui.mpr z] at g; cases g
      omega
  rcases Int.lt_trichotomy q k with hq | hq | hq
  · rcases Int.lt_trichotomy (q + 1) k with hq1 | hq1 | hq1
    · have := mul_lt_step hs (show q + 1 < k from hq1)
      rw [Int.mul_add, Int.mul_one] at this
      generalize s * q = a at *
      generalize s * k = b at *
      constructor
      · intro z; omega
      · intro z; omega
    · have e : q = k - 1 := by omega
      subst e
      have : s * (k - 1) = s * k - s := by rw [Int.mul_sub, Int.mul_one]
      generalize s * (k - 1) = a at *
      generalize s * k = b at *
      constructor
      · intro z; omega
      · intro z; omega
    · omega
  · subst hq
    generalize s * q = a at *
    constructor
    · intro z; omega
    · intro z; omega
  · have := mul_lt_step hs hq
    generalize s * q = a at *
    generalize s * k = b at *
    constructor
    · intro z; omega
    · intro z; omega
theorem low_high {o s : Int} {m : Str} {k : Int} (h : Mode m) (hs : 1 ≤ s) : lowM o s m k ≤ o + s * k ∧ o + s * k ≤ highM o s m k := by
  have a := below_bd (k := k) h hs
  have b := below_bd (k := k) (mir_mode h) hs
  unfold lowM highM
  omega
theorem low_next {o s : Int} {m : Str} (k : Int) (h : Mode m) (hs : 1 ≤ s) : lowM o s m (k + 1) = highM o s m k + 1 := by
  have := touch k h hs
  unfold lowM highM
  rw [Int.mul_add, Int.mul_one]
  omega
theorem high_prev {o s : Int} {m : Str} (k : Int) (h : Mode m) (hs : 1 ≤ s) : highM o s m (k - 1) = lowM o s m k - 1 := by
  have := low_next (o := o) (k - 1) h hs
  rw [show k - 1 + 1 = k by omega] at this
  omega
theorem fig_low {o s : Int} {m : Str} (k : Int) (h : Mode m) (hs : 1 ≤ s) : figM o s m (lowM o s m k) = k := by
  have a := low_high (o := o) (k := k) h hs
  exact (fig_iff h hs).mpr ⟨by omega, by omega⟩
theorem fig_high {o s : Int} {m : Str} (k : Int) (h : Mode m) (hs : 1 ≤ s) : figM o s m (highM o s m k) = k := by
  have a := low_high (o := o) (k := k) h hs
  exact (fig_iff h hs).mpr ⟨by omega, by omega⟩
theorem fig_low1 {o s : Int} {m : Str} (k : Int) (h : Mode m) (hs : 1 ≤ s) : figM o s m (lowM o s m k - 1) = k - 1 := by
  rw [← high_prev k h hs]
  exact fig_high _ h hs
theorem fig_high1 {o s : Int} {m : Str} (k : Int) (h : Mode m) (hs : 1 ≤ s) : figM o s m (highM o s m k + 1) = k + 1 := by
  rw [← low_next k h hs]
  exact fig_low _ h hs
/-- the figure of the least standing value that is not less -/
def ceilM (o s v : Int) : Int := -((o - v) / s)
theorem ceil_eq {o s v : Int} (hs : 1 ≤ s) : v ≤ o + s * ceilM o s v ∧ o + s * (ceilM o s v - 1) < v := by
  have a := Int.mul_ediv_add_emod (o - v) s
  have b := Int.emod_nonneg (o - v) (show s ≠ 0 by omega)
  have c := Int.emod_lt_of_pos (o - v) (show 0 < s by omega)
  unfold ceilM
  rw [Int.mul_sub, Int.mul_one, Int.mul_neg]
  omega
def backM (o s : Int) (m : Str) (v : Int) : Int := lowM o s m (ceilM o s v)
theorem back_ge {o s : Int} {m : Str} {v : Int} (h : Mode m) (hs : 1 ≤ s) : v ≤ dueM o s m (backM o s m v) := by
  unfold dueM backM
  rw [fig_low _ h hs]
  exact (ceil_eq hs).1
theorem back_lt {o s : Int} {m : Str} {v : Int} (h : Mode m) (hs : 1 ≤ s) : dueM o s m (backM o s m v - 1) < v := by
  unfold dueM backM
  rw [fig_low1 _ h hs]
  exact (ceil_eq hs).2
theorem mul_b {s k : Int} (s0 : 1 ≤ s) (s1 : s ≤ 10 ^ 30) (h : -2 ^ 720 < k ∧ k < 2 ^ 720) : -2 ^ 820 < s * k ∧ s * k < 2 ^ 820 := by
  have h1 : (s * k).natAbs < 2 ^ (100 + 720) := wide_lt (a := 100) (b := 720) (by omega) (by omega)
  omega
end HT
namespace HT
open PySem L2
theorem due_le {o s : Int} {m : Str} {x y : Int} (hm : Mode m) (hs : 1 ≤ s) (h : x ≤ y) : dueM o s m x ≤ dueM o s m y := by
  obtain ⟨n, rfl⟩ : ∃ n : Nat, y = x + n := ⟨(y - x).toNat, by omega⟩
  clear h
  induction n with
  | zero => rw [show x + ((0 : Nat) : Int) = x by omega]; exact Int.le_refl _
  | succ n ih =>
    refine Int.le_trans ih ?_
    rw [show x + ((n + 1 : Nat) : Int) = x + (n : Int) + 1 by omega]
    exact due_mono hm hs
theorem due_lt {o s : Int} {m : Str} {x v : Int} (hm : Mode m) (hs : 1 ≤ s) : dueM o s m x < v ↔ x < backM o s m v := by
  constructor
  · intro h
    by_cases g : x < backM o s m v
    · exact g
    · have h1 := due_le (o := o) (s := s) hm hs (Int.not_lt.mp g)
      have h2 := back_ge (o := o) (v := v) hm hs
      omega
  · intro h
    have h1 := due_le (o := o) (s := s) hm hs (show x ≤ backM o s m v - 1 by omega)
    have h2 := back_lt (o := o) (v := v) hm hs
    omega
theorem due_more {o s : Int} {m : Str} {v : Int} (hm : Mode m) (hs : 1 ≤ s) (n : Nat) : dueM o s m (v + s * 2 * (n : Int)) = dueM o s m v + s * 2 * (n : Int) := by
  induction n with
  | zero => rw [show v + s * 2 * ((0 : Nat) : Int) = v by simp]; simp
  | succ n ih =>
    have e : s * 2 * ((n + 1 : Nat) : Int) = s * 2 * (n : Int) + s * 2 := by
      rw [show ((n + 1 : Nat) : Int) = (n : Int) + 1 by omega, Int.mul_add, Int.mul_one]
    rw [e, show v + (s * 2 * (n : Int) + s * 2) = v + s * 2 * (n : Int) + s * 2 by omega, due_two hm hs, ih]
    omega
theorem due_per {o s : Int} {m : Str} {v : Int} (hm : Mode m) (hs : 1 ≤ s) (t : Int) : dueM o s m (v + s * 2 * t) = dueM o s m v + s * 2 * t := by
  rcases Int.le_total 0 t with h | h
  · obtain ⟨n, rfl⟩ := Int.eq_ofNat_of_zero_le h
    exact due_more hm hs n
  · obtain ⟨n, hn⟩ := Int.eq_ofNat_of_zero_le (show 0 ≤ -t by omega)
    have := due_more (o := o) (v := v + s * 2 * t) hm hs n
    have e : s * 2 * (n : Int) = -(s * 2 * t) := by rw [← hn, Int.mul_neg]
    rw [e, show v + s * 2 * t + -(s * 2 * t) = v by omega] at this
    omega
/-- the order of the sides (o, s, m) and (p, u, q) matters for x -/
def diffX (o s : Int) (m : Str) (p u : Int) (q : Str) (x : Int) : Prop := dueM p u q (dueM o s m x) ≠ dueM o s m (dueM p u q x)
theorem diff_comm {o s : Int} {m : Str} {p u : Int} {q : Str} {x : Int} : diffX o s m p u q x ↔ diffX p u q o s m x := ⟨fun h e => h e.symm, fun h e => h e.symm⟩
def mx (i j : Int) : Int := if j > i then j else i
theorem mx_or (i j : Int) : (mx i j = i ∧ j ≤ i) ∨ (mx i j = j ∧ i < j) := by
  unfold mx
  split <;> omega
def firstM (o s : Int) (m : Str) (p u : Int) (q : Str) (k v : Int) : Option Int :=
  if ¬ (o + s * k - p) % u = 0 then some (mx (lowM o s m k) v)
  else if mx (lowM o s m k) v < backM p u q (lowM o s m k) then some (mx (lowM o s m k) v)
  else if mx (mx (lowM o s m k) v) (backM p u q (highM o s m k + 1)) ≤ highM o s m k then some (mx (mx (lowM o s m k) v) (backM p u q (highM o s m k + 1)))
  else none
section
variable {o s : Int} {m : Str} {p u : Int} {q : Str}
/-- x is the least one from v on with the property; none: there is none -/
def Fst (Pr : Int → Prop) (v : Int) : Option Int → Prop
  | some x => v ≤ x ∧ Pr x ∧ ∀ y, v ≤ y → y < x → ¬ Pr y
  | none => ∀ y, v ≤ y → ¬ Pr y
theorem off_lattice (hm : Mode m) (hq : Mode q) (hs : 1 ≤ s) (hu : 1 ≤ u) (hle : u ≤ s) {k x : Int} (hk : figM o s m x = k) (h : ¬ (o + s * k - p) % u = 0) : diffX o s m p u q x := by
  intro e
  have e1 : dueM o s m x = o + s * k := by unfold dueM; rw [hk]
  rw [e1] at e
  have n := due_near (o := p) (v := o + s * k) hq hu
  have ne : ¬ dueM p u q (o + s * k) = o + s * k := fun z => h ((due_eq hq hu).mpr z)
  obtain ⟨j, hj⟩ : ∃ j, dueM o s m (dueM p u q x) = o + s * j := ⟨_, rfl⟩
  rw [hj] at e
  rw [e] at n ne
  rcases Int.lt_trichotomy j k with z | z | z
  · have := mul_lt_step hs z
    omega
  · rw [z] at ne
    exact ne rfl
  · have := mul_lt_step hs z
    omega
theorem on_lattice (hm : Mode m) (hq : Mode q) (hs : 1 ≤ s) (hu : 1 ≤ u) {k x : Int} (hk : figM o s m x = k) (h : (o + s * k - p) % u = 0) : diffX o s m p u q x ↔ (x < backM p u q (lowM o s m k) ∨ backM p u q (highM o s m k + 1) ≤ x) := by
  have e1 : dueM o s m x = o + s * k := by unfold dueM; rw [hk]
  have e2 : dueM p u q (o + s * k) = o + s * k := (due_eq hq hu).mp h
  have e3 : dueM o s m (dueM p u q x) = o + s * k ↔ figM o s m (dueM p u q x) = k := by
    unfold dueM
    constructor
    · intro e
      rcases Int.lt_trichotomy (figM o s m (p + u * figM p u q x)) k with z | z | z
      · have := mul_lt_step hs z
        omega
      · exact z
      · have := mul_lt_step hs z
        omega
    · intro e
      rw [e]
  have e4 := fig_iff (o := o) (v := dueM p u q x) (k := k) hm hs
  have e5 := due_lt (o := p) (x := x) (v := lowM o s m k) hq hu
  have e6 := due_lt (o := p) (x := x) (v := highM o s m k + 1) hq hu
  unfold diffX
  rw [e1, e2]
  constructor
  · intro d
    have : ¬ figM o s m (dueM p u q x) = k := fun z => d (e3.mpr z).symm
    rw [e4] at this
    by_cases g : dueM p u q x < lowM o s m k
    · exact .inl (e5.mp g)
    · refine .inr (Int.not_lt.mp fun z => this ⟨by omega, ?_⟩)
      have := e6.mpr z
      omega
  · intro d e
    have g := e4.mp (e3.mp e.symm)
    rcases d with d | d
    · have := e5.mpr d
      omega
    · have : ¬ dueM p u q x < highM o s m k + 1 := fun z => by
        have := e6.mp z
        omega
      omega
theorem first_spec (hm : Mode m) (hq : Mode q) (hs : 1 ≤ s) (hu : 1 ≤ u) (hle : u ≤ s) {k v : Int} (hv : v ≤ highM o s m k) :
    Fst (fun y => figM o s m y = k ∧ diffX o s m p u q y) v (firstM o s m p u q k v) := by
  have lh := low_high (o := o) (k := k) hm hs
  have fi := fun y => fig_iff (o := o) (v := y) (k := k) hm hs
  unfold firstM
  rcases mx_or (lowM o s m k) v with ⟨e, c⟩ | ⟨e, c⟩
  all_goals
    rw [e]
    split
    · rename_i h
      refine ⟨by omega, ⟨(fi _).mpr ⟨by omega, by omega⟩, off_lattice hm hq hs hu hle ((fi _).mpr ⟨by omega, by omega⟩) h⟩, fun y y0 y1 z => ?_⟩
      have := (fi y).mp z.1
      omega
    · rename_i h
      have h := Decidable.not_not.mp h
      have on := fun y hy => on_lattice (x := y) hm hq hs hu hy h
      split
      · rename_i g
        refine ⟨by omega, ⟨(fi _).mpr ⟨by omega, by omega⟩, (on _ ((fi _).mpr ⟨by omega, by omega⟩)).mpr (.inl g)⟩, fun y y0 y1 z => ?_⟩
        have := (fi y).mp z.1
        omega
      · rename_i g
        split
        · rename_i w
          rcases mx_or (lowM o s m k) (backM p u q (highM o s m k + 1)) with ⟨e2, c2⟩ | ⟨e2, c2⟩ <;> rcases mx_or v (backM p u q (highM o s m k + 1)) with ⟨e3, c3⟩ | ⟨e3, c3⟩ <;>
          · first
              | rw [e2] at w ⊢
              | rw [e3] at w ⊢
            refine ⟨by omega, ⟨(fi _).mpr ⟨by omega, by omega⟩, (on _ ((fi _).mpr ⟨by omega, by omega⟩)).mpr (.inr (by omega))⟩, fun y y0 y1 z => ?_⟩
            have z1 := (fi y).mp z.1
            rcases (on y z.1).mp z.2 with z2 | z2 <;> omega
        · rename_i w
          intro y y0 z
          have z1 := (fi y).mp z.1
          rcases mx_or (lowM o s m k) (backM p u q (highM o s m k + 1)) with ⟨e2, c2⟩ | ⟨e2, c2⟩ <;> rcases mx_or v (backM p u q (highM o s m k + 1)) with ⟨e3, c3⟩ | ⟨e3, c3⟩ <;>
          · first
              | rw [e2] at w
              | rw [e3] at w
            rcases (on y z.1).mp z.2 with z2 | z2 <;> omega
/-- what the search in three neighbouring figures gives -/
def exchM (o s : Int) (m : Str) (p u : Int) (q : Str) (v : Int) : Option Int :=
  match firstM o s m p u q (figM o s m v) v with
  | some x => some x
  | none => match firstM o s m p u q (figM o s m v + 1) v with
    | some x => some x
    | none => firstM o s m p u q (figM o s m v + 2) v
theorem first_stands {k v : Int} (h : firstM o s m p u q k v = none) : (o + s * k - p) % u = 0 := by
  unfold firstM at h
  split at h
  · cases h
  · rename_i g
    exact Decidable.not_not.mp g
theorem step_mod (hu : 1 ≤ u) {k : Int} (h1 : (o + s * k - p) % u = 0) (h2 : (o + s * (k + 1) - p) % u = 0) : s % u = 0 := by
  rw [Int.mul_add, Int.mul_one] at h2
  have e : s = (o + (s * k + s) - p) - (o + s * k - p) := by omega
  rw [e, Int.sub_emod, h1, h2]
  simp
theorem diff_shift (hm : Mode m) (hq : Mode q) (hs : 1 ≤ s) (hu : 1 ≤ u) (hd : s % u = 0) (t x : Int) : diffX o s m p u q (x + s * 2 * t) ↔ diffX o s m p u q x := by
  obtain ⟨c, hc⟩ : ∃ c, s = u * c := ⟨s / u, by have := Int.mul_ediv_add_emod s u; omega⟩
  have es : ∀ y, dueM p u q (y + s * 2 * t) = dueM p u q y + s * 2 * t := fun y => by
    have e : s * 2 * t = u * 2 * (c * t) := by rw [hc, Int.mul_assoc, Int.mul_assoc, Int.mul_assoc, Int.mul_left_comm c 2 t]
    rw [e]
    exact due_per hq hu _
  have ew : ∀ y, dueM o s m (y + s * 2 * t) = dueM o s m y + s * 2 * t := fun y => due_per hm hs t
  unfold diffX
  rw [ew, es, es, ew]
  constructor <;> intro h e <;> exact h (by omega)
theorem fig_shift (hm : Mode m) (hs : 1 ≤ s) (t x : Int) : figM o s m (x + s * 2 * t) = figM o s m x + 2 * t := by
  have e := due_per (o := o) (v := x) hm hs t
  unfold dueM at e
  have e2 : s * 2 * t = s * (2 * t) := Int.mul_assoc _ _ _
  rw [e2] at e ⊢
  have e3 : s * figM o s m (x + s * (2 * t)) = s * (figM o s m x + 2 * t) := by rw [Int.mul_add]; omega
  exact Int.eq_of_mul_eq_mul_left (by omega) e3
/-- two neighbouring cells without a difference: none anywhere -/
theorem clean_all (hm : Mode m) (hq : Mode q) (hs : 1 ≤ s) (hu : 1 ≤ u) (hd : s % u = 0) {k : Int} (h1 : ∀ y, figM o s m y = k → ¬ diffX o s m p u q y) (h2 : ∀ y, figM o s m y = k + 1 → ¬ diffX o s m p u q y) : ∀ y, ¬ diffX o s m p u q y := by
  intro y z
  obtain ⟨j, hj⟩ : ∃ j, figM o s m y = j := ⟨_, rfl⟩
  obtain ⟨t, ht⟩ : ∃ t : Int, j + 2 * t = k ∨ j + 2 * t = k + 1 := ⟨(k + 1 - j) / 2, by omega⟩
  have f := fig_shift (o := o) hm hs t y
  rw [hj] at f
  have d := (diff_shift (o := o) (p := p) hm hq hs hu hd t y).mpr z
  rcases ht with e | e
  · exact h1 _ (f.trans e) d
  · exact h2 _ (f.trans e) d
/-- the search's answer -/
def ExchP (Pr : Int → Prop) (v : Int) : Option Int → Prop
  | some x => v ≤ x ∧ Pr x ∧ ∀ y, v ≤ y → y < x → ¬ Pr y
  | none => ∀ y, ¬ Pr y
theorem exch_uniq {Pr : Int → Prop} {v : Int} {a b : Option Int} (ha : ExchP Pr v a) (hb : ExchP Pr v b) : a = b := by
  cases a with
  | none =>
    cases b with
    | none => rfl
    | some y => exact absurd hb.2.1 (ha y)
  | some x =>
    cases b with
    | none => exact absurd ha.2.1 (hb x)
    | some y =>
      rcases Int.lt_trichotomy x y with z | z | z
      · exact absurd ha.2.1 (hb.2.2 x ha.1 z)
      · rw [z]
      · exact absurd hb.2.1 (ha.2.2 y hb.1 z)
theorem fig_le (hm : Mode m) (hs : 1 ≤ s) {x y : Int} (h : x ≤ y) : figM o s m x ≤ figM o s m y := by
  have := due_le (o := o) hm hs h
  unfold dueM at this
  by_cases g : figM o s m x ≤ figM o s m y
  · exact g
  · have := mul_lt_step hs (Int.not_le.mp g)
    omega
theorem exch_spec (hm : Mode m) (hq : Mode q) (hs : 1 ≤ s) (hu : 1 ≤ u) (hle : u ≤ s) {v : Int} : ExchP (diffX o s m p u q) v (exchM o s m p u q v) ∧ ∀ x, exchM o s m p u q v = some x → x ≤ v + 4 * s := by
  obtain ⟨k, hk⟩ : ∃ k, figM o s m v = k := ⟨_, rfl⟩
  have v0 := (fig_iff hm hs).mp hk
  have lh0 := low_high (o := o) (k := k) hm hs
  have lh1 := low_high (o := o) (k := k + 1) hm hs
  have lh2 := low_high (o := o) (k := k + 1 + 1) hm hs
  have n0 := low_next (o := o) k hm hs
  have n1 := low_next (o := o) (k + 1) hm hs
  have bb := below_bd (k := k) hm hs
  have b0 := below_bd (k := k) (mir_mode hm) hs
  have b2 := below_bd (k := k + 1 + 1) (mir_mode hm) hs
  have hb : highM o s m (k + 1 + 1) ≤ v + 4 * s := by
    have e : s * (k + 1 + 1) = s * k + s + s := by rw [Int.mul_add, Int.mul_add, Int.mul_one]
    unfold highM lowM at *
    omega
  have s0 := first_spec (o := o) (p := p) (v := v) (k := k) hm hq hs hu hle (by omega)
  have s1 := first_spec (o := o) (p := p) (v := v) (k := k + 1) hm hq hs hu hle (by omega)
  have s2 := first_spec (o := o) (p := p) (v := v) (k := k + 1 + 1) hm hq hs hu hle (by omega)
  unfold exchM
  rw [hk, show k + 2 = k + 1 + 1 by omega]
  cases f0 : firstM o s m p u q k v with
  | some x =>
    rw [f0] at s0
    have := (fig_iff hm hs).mp s0.2.1.1
    refine ⟨⟨s0.1, s0.2.1.2, fun y y0 y1 d => s0.2.2 y y0 y1 ⟨?_, d⟩⟩, fun x' e => by cases e; omega⟩
    exact (fig_iff hm hs).mpr ⟨by omega, by omega⟩
  | none =>
    rw [f0] at s0
    have c0 : ∀ y, v ≤ y → figM o s m y = k → ¬ diffX o s m p u q y := fun y y0 e d => s0 y y0 ⟨e, d⟩
    cases f1 : firstM o s m p u q (k + 1) v with
    | some x =>
      rw [f1] at s1
      have := (fig_iff hm hs).mp s1.2.1.1
      refine ⟨⟨s1.1, s1.2.1.2, fun y y0 y1 d => ?_⟩, fun x' e => by cases e; omega⟩
      by_cases z : y ≤ highM o s m k
      · exact c0 y y0 ((fig_iff hm hs).mpr ⟨by omega, by omega⟩) d
      · exact s1.2.2 y y0 y1 ⟨(fig_iff hm hs).mpr ⟨by omega, by omega⟩, d⟩
    | none =>
      rw [f1] at s1
      have c1 : ∀ y, v ≤ y → figM o s m y = k + 1 → ¬ diffX o s m p u q y := fun y y0 e d => s1 y y0 ⟨e, d⟩
      cases f2 : firstM o s m p u q (k + 1 + 1) v with
      | some x =>
        rw [f2] at s2
        have := (fig_iff hm hs).mp s2.2.1.1
        refine ⟨⟨s2.1, s2.2.1.2, fun y y0 y1 d => ?_⟩, fun x' e => by cases e; omega⟩
        by_cases z : y ≤ highM o s m k
        · exact c0 y y0 ((fig_iff hm hs).mpr ⟨by omega, by omega⟩) d
        by_cases z2 : y ≤ highM o s m (k + 1)
        · exact c1 y y0 ((fig_iff hm hs).mpr ⟨by omega, by omega⟩) d
        · exact s2.2.2 y y0 y1 ⟨(fig_iff hm hs).mpr ⟨by omega, by omega⟩, d⟩
      | none =>
        rw [f2] at s2
        refine ⟨?_, fun x' e => by cases e⟩
        refine clean_all hm hq hs hu (step_mod hu (first_stands f0) (first_stands f1)) (k := k + 1) (fun y e d => s1 y ?_ ⟨e, d⟩) (fun y e d => s2 y ?_ ⟨e, d⟩)
        · have := (fig_iff hm hs).mp e
          omega
        · have := (fig_iff hm hs).mp e
          omega
end
end HT
namespace HT
open PySem L2
def EdgeP (p u : Int) (q : Str) (e : Int) : Prop := e = lowM p u q ((e - p) / u) ∨ e = lowM p u q ((e - p) / u + 1)
section
variable {o s : Int} {m : Str} {p u : Int} {q : Str}
theorem back_low (hq : Mode q) (hu : 1 ≤ u) (j : Int) : backM p u q (lowM p u q j) = lowM p u q j := by
  have f0 := fig_low (o := p) (s := u) j hq hu
  have f1 := fig_low1 (o := p) (s := u) j hq hu
  have bb := below_bd (k := j) hq hu
  have a := due_lt (o := p) (s := u) (x := lowM p u q j) (v := lowM p u q j) hq hu
  have b := due_lt (o := p) (s := u) (x := lowM p u q j - 1) (v := lowM p u q j) hq hu
  have e0 : dueM p u q (lowM p u q j) = p + u * j := by unfold dueM; rw [f0]
  have e1 : dueM p u q (lowM p u q j - 1) = p + u * j - u := by unfold dueM; rw [f1, Int.mul_sub, Int.mul_one]; omega
  rw [e0] at a
  rw [e1] at b
  have hl : lowM p u q j = p + u * j - below q u j := rfl
  omega
theorem edge_iff (hq : Mode q) (hu : 1 ≤ u) {e : Int} : EdgeP p u q e ↔ backM p u q e = e := by
  constructor
  · rintro (h | h)
    · rw [h]; exact back_low hq hu _
    · rw [h]; exact back_low hq hu _
  · intro h
    have hc : lowM p u q (ceilM p u e) = e := h
    have ce := ceil_eq (o := p) (v := e) hu
    have d0 := Int.mul_ediv_add_emod (e - p) u
    have d1 := Int.emod_nonneg (e - p) (show u ≠ 0 by omega)
    have d2 := Int.emod_lt_of_pos (e - p) (show 0 < u by omega)
    unfold EdgeP
    generalize ceilM p u e = c at *
    generalize (e - p) / u = f at *
    rcases Int.lt_trichotomy c f with z | z | z
    · have := mul_lt_step hu z
      omega
    · rw [← z]; exact .inl hc.symm
    · rcases Int.lt_trichotomy c (f + 1) with y | y | y
      · omega
      · rw [← y]; exact .inr hc.symm
      · have := mul_lt_step hu (show f + 1 < c by omega)
        have e2 : u * (f + 1) = u * f + u := by rw [Int.mul_add, Int.mul_one]
        have e3 : u * (c - 1) = u * c - u := by rw [Int.mul_sub, Int.mul_one]
        omega
theorem on_all (hu : 1 ≤ u) (h1 : s % u = 0) (h2 : (o - p) % u = 0) (k : Int) : (o + s * k - p) % u = 0 := by
  rw [show o + s * k - p = (o - p) + s * k by omega, Int.add_emod, h2, Int.mul_emod, h1]
  simp
/-- the order never matters just so -/
theorem never_iff (hm : Mode m) (hq : Mode q) (hs : 1 ≤ s) (hu : 1 ≤ u) (hle : u ≤ s) : (s % u = 0 ∧ (o - p) % u = 0 ∧ ∀ i : Nat, i < 6 → EdgeP p u q (lowM o s m (i : Int))) ↔ ∀ x, ¬ diffX o s m p u q x := by
  constructor
  · rintro ⟨h1, h2, h3⟩
    have cell : ∀ k : Int, backM p u q (lowM o s m k) = lowM o s m k → backM p u q (lowM o s m (k + 1)) = lowM o s m (k + 1) → ∀ y, figM o s m y = k → ¬ diffX o s m p u q y := fun k b0 b1 y hy d => by
      have n0 := low_next (o := o) k hm hs
      have := (fig_iff hm hs).mp hy
      rcases (on_lattice hm hq hs hu hy (on_all hu h1 h2 k)).mp d with z | z
      · omega
      · rw [← n0] at z
        omega
    have b0 := (edge_iff hq hu).mp (h3 0 (by decide))
    have b1 := (edge_iff hq hu).mp (h3 1 (by decide))
    have b2 := (edge_iff hq hu).mp (h3 2 (by decide))
    exact clean_all hm hq hs hu h1 (k := 0) (cell 0 b0 b1) (cell 1 b1 b2)
  · intro h
    have st : ∀ k : Int, (o + s * k - p) % u = 0 := fun k => by
      by_cases z : (o + s * k - p) % u = 0
      · exact z
      · exact absurd (off_lattice hm hq hs hu hle (fig_at hm hs) z) (h _)
    refine ⟨step_mod hu (st 0) (st (0 + 1)), ?_, fun i _ => (edge_iff hq hu).mpr ?_⟩
    · have := st 0
      rw [Int.mul_zero, Int.add_zero] at this
      exact this
    · generalize (i : Int) = k
      have f0 := fig_low (o := o) k hm hs
      have f1 := fig_low1 (o := o) k hm hs
      have a := fun z => h _ ((on_lattice hm hq hs hu f0 (st k)).mpr z)
      have b := fun z => h _ ((on_lattice hm hq hs hu f1 (st (k - 1))).mpr z)
      have hp := high_prev (o := o) k hm hs
      rw [show highM o s m (k - 1) + 1 = lowM o s m k by omega] at b
      have a1 : ¬ lowM o s m k < backM p u q (lowM o s m k) := fun z => a (.inl z)
      have b1 : ¬ backM p u q (lowM o s m k) ≤ lowM o s m k - 1 := fun z => b (.inr z)
      omega
/-- a period on -/
theorem diff_per (hm : Mode m) (hq : Mode q) (hs : 1 ≤ s) (hu : 1 ≤ u) (t x : Int) : diffX o s m p u q (x + 2 * s * u * t) ↔ diffX o s m p u q x := by
  have ew : ∀ y, dueM o s m (y + 2 * s * u * t) = dueM o s m y + 2 * s * u * t := fun y => by
    rw [show 2 * s * u * t = s * 2 * (u * t) by rw [Int.mul_comm 2 s, Int.mul_assoc (s * 2)]]
    exact due_per hm hs _
  have es : ∀ y, dueM p u q (y + 2 * s * u * t) = dueM p u q y + 2 * s * u * t := fun y => by
    rw [show 2 * s * u * t = u * 2 * (s * t) by rw [Int.mul_comm 2 s, Int.mul_right_comm s 2 u, Int.mul_comm s u, Int.mul_assoc u s 2, Int.mul_comm s 2, Int.mul_assoc, Int.mul_assoc, Int.mul_assoc]]
    exact due_per hq hu _
  unfold diffX
  rw [ew, es, es, ew]
  constructor <;> intro h e <;> exact h (by omega)
end
end HT
namespace L2
open PySem PySem.Spec PyProof.Rows
/-- the turns of a long range's own iterator -/
theorem long_turn {P : Program} {w : World} {K : PySem.W.Frag} {tg : Expr} (at0 : Addr) (fro : Int) (many : Nat) : Turn P w K tg (Itr fro many) [at0] at0 (fun k hp => IsLongIter hp at0 (fro + (k : Nat) * 1) ((many : Int) - (k : Nat)) 1) where
  mem := List.mem_cons_self
  obj := fun k hp there c hc => by
    cases List.mem_singleton.mp hc
    refine ⟨_, there, fun v z => ?_⟩
    have y : Data.fields _ = Data.cell v := z
    cases y
  keep := fun k hp hp2 there same => same at0 List.mem_cons_self _ there
  item := by
    intro X eP ew eK calm k pins sh st H E inv fits there goes
    subst eP ew eK
    obtain ⟨g0, g1, g2, g3, g4, g5⟩ := fits at0 List.mem_cons_self
    have way := Walks.longrange (prog := X.prog) (w := X.w) (inv.ok.hd calm) at0 fro 1 many
    refine way.item k sh _ _ goes there fun u heap2 tok2 same there2 kept => ?_
    obtain ⟨tt, rfl⟩ := same
    have inv2 : Inv X pins st H { sh with heap := heap2, toks := tok2 } := inv.turned (fun c oo hc e => kept c oo (by simpa using hc) e) g0 g1 g3 g4 g5
    refine ⟨_, rfl, go_of (s := { sh with heap := heap2, toks := tok2 }) (n := "longrange_iterator") there2 rfl rfl (by decide) ?_⟩
    exact ⟨.int (fro + k), H, inv2, ⟨tt, by rw [Int.mul_one]⟩, ⟨rfl, rfl⟩, there2, fun c hc => (fits c hc).1⟩
  done := by
    intro X eP ew eK calm k pins sh st H E inv fits there goes
    subst eP ew eK
    obtain ⟨g0, g1, g2, g3, g4, g5⟩ := fits at0 List.mem_cons_self
    have le : many ≤ k := goes
    exact wpAny_pyNext_long_end (inv.ok.hd calm) there (by omega) fun heap2 bare => ⟨rfl, inv.turned (t' := sh.toks) (fun c oo hc e => bare c oo hc e) g0 g1 g3 g4 g5⟩
  self := fun _ _ _ _ _ there hq => wpAny_pyIter_longiter there hq
section
variable {X : Cx} {tg : Expr}
/-- a range of any ends, just made, walked -/
theorem any_range_it {pins : List (Addr × Obj)} {st : St} {H : Hp} {sh : Shared} {R : It → Hp → Prop} {E : Value → Shared → Prop} {fro til : Int} {t u v : Tok} {tk : Nat} (inv : Inv X pins st H sh) (q : R (Itr fro (til - fro).toNat) H) :
    wpAny (model X.prog X.w) X.A (pyIter (.ref sh.heap.objs.size)) (PIE X pins st tg R) E { sh with heap := sh.heap.push { cls := .type "range", data := .fields #[.int fro t, .int til u, .int 1 v] }, toks := tk } := by
  obtain ⟨hp1, eh⟩ : ∃ hp1, hp1 = sh.heap.push { cls := .type "range", data := .fields #[.int fro t, .int til u, .int 1 v] } := ⟨_, rfl⟩
  have inv1 : Inv X pins st H { sh with heap := hp1, toks := tk } := eh ▸ inv.kept fun c oo e => Heap.get?_push_of_some _ e
  have isr : IsRange hp1 sh.heap.objs.size fro til 1 t u v := eh ▸ IsRange.new ..
  rw [← eh]
  have size : Builtin.Range.rangeSize fro til 1 = (((til - fro).toNat : Nat) : Int) - ((0 : Nat) : Int) := by
    rw [rangeSize_one]
    split <;> omega
  have zero : fro = fro + ((0 : Nat) : Int) * 1 := by omega
  cases sm : Builtin.Range.small fro til 1 with
  | true =>
    refine wpAny_pyIter_range isr sm ⟨hp1.objs.size, [hp1.objs.size], _, _, H, rfl, inv1.kept (t' := tk) fun c oo e => Heap.get?_push_of_some _ e, turn_range _ fro (til - fro).toNat, ?_, fun c hc => ?_, q⟩
    · show IsRangeIter _ hp1.objs.size (fro + ((0 : Nat) : Int) * 1) _ 1
      rw [size, ← zero]
      exact Heap.get?_push_size _ rfl
    · cases List.mem_singleton.mp hc
      exact inv1.fpOk (Nat.le_refl _) (inv1.hok.fresh (Nat.le_refl _))
  | false =>
    refine wpAny_pyIter_longrange isr sm ⟨hp1.objs.size, [hp1.objs.size], _, _, H, rfl, inv1.kept (t' := tk) fun c oo e => Heap.get?_push_of_some _ e, long_turn _ fro (til - fro).toNat, ?_, fun c hc => ?_, q⟩
    · show IsLongIter _ hp1.objs.size (fro + ((0 : Nat) : Int) * 1) _ 1
      rw [size, ← zero]
      exact Heap.get?_push_size _ rfl
    · cases List.mem_singleton.mp hc
      exact inv1.fpOk (Nat.le_refl _) (inv1.hok.fresh (Nat.le_refl _))
def iRngW (ta : TA) : TI := fun st H R => ta st H fun vs H1 => ∃ fro til : Int, vs = [.int fro, .int til] ∧ R (Itr fro (til - fro).toNat) H1
/-- range(a, b) of numbers of any size -/
theorem pi_rangeW {a b : Expr} {ta : TA} {p pos : Pos} (hg : Gl X "range") (hm : X.mg "range" = none) (ha : PA X [a, b] ta) (e1 : starEach [a, b] X.env = [(false, eval a X.env), (false, eval b X.env)] := by rfl) (e2 : starEach [b] X.env = [(false, eval b X.env)] := by rfl) : PI X tg (.Call (.Name "range" p) [a, b] [] pos) (iRngW ta) where
  run := fun pins sh st H R inv want => by
    refine Call_ (ld_blt inv hg hm boot_range (PyProof.Rows.callWith_type1 (thn (ha.run pos pins sh st H _ inv want) ?_) (by rw [e1, e2]) (by rw [e2]; rfl)))
    rintro us sh1 ⟨vs, H1, inv1, rel, fro, til, rfl, q⟩
    match us, rel with
    | [_, _], .cons ⟨_, rfl⟩ (.cons ⟨_, rfl⟩ .nil) => exact call_range_2 (any_range_it inv1 q)
end
end L2
namespace HT
open PySem L2
theorem lg_big {n : Int} (h0 : 0 ≤ n) (h : n < 2 ^ 200) : n.natAbs.log2 < 9000 := by
  obtain ⟨m, rfl⟩ := Int.eq_ofNat_of_zero_le h0
  exact lg_nat (by omega)
def modesV : List V := [.str "down", .str "up", .str "half_down", .str "half_up", .str "half_even"]
/-- the further names that the text of sides does not bind, and its table of modes -/
structure SideT (K : PySem.W.Frag) (mg : Str → Option Value) (aM : Addr) : Prop where
  isi : mg "isinstance" = none
  int : mg "int" = none
  bool : mg "bool" = none
  tuple : mg "tuple" = none
  len : mg "len" = none
  dm : mg "divmod" = none
  gM : mg "MODES" = some (.ref aM)
  tM : ∀ H, SqT K H aM modesV
def spIsInt : Sp := fun vs H Q _ => ∃ i : Int, vs = [.int i] ∧ Q (.bl true) H
def spBetween : Sp := fun vs H Q _ => ∃ i a b : Int, vs = [.int i, .int a, .int b] ∧ Q (.bl (decide (a ≤ i) && decide (i ≤ b))) H
def spCheckValue : Sp := fun vs H Q _ => ∃ i : Int, vs = [.int i] ∧ Q .non H
def spCheckSide : Sp := fun vs H Q _ => ∃ (p : Addr) (o s : Int) (m : Str), vs = [.ref p] ∧ H p = some (sideV o s m) ∧ SideP o s m ∧ Q .non H
def spGo : Sp := fun vs H Q _ => ∃ (m : Str) (s q r : Int), vs = [.str m, .int s, .int q, .int r] ∧ Q (.bl (goesUp m s q r)) H
def spSV (f : Int → Int → Str → Int → V) : Sp := fun vs H Q _ => ∃ (p : Addr) (o s : Int) (m : Str) (v : Int), vs = [.ref p, .int v] ∧ H p = some (sideV o s m) ∧ SideP o s m ∧ Bd v ∧ ∀ H', Same H H' → Q (f o s m v) H'
def spFig : Sp := spSV fun o s m v => .int (figM o s m v)
def spDue : Sp := spSV fun o s m v => .int (dueM o s m v)
def spStands : Sp := spSV fun o s m v => .bl (decide ((v - o) % s = 0))
theorem dec_int (a b : Int) : decide (V.int a = V.int b) = decide (a = b) := by
  by_cases h : a = b
  · rw [decide_eq_true h, h, decide_eq_true rfl]
  · rw [decide_eq_false h, decide_eq_false (fun z => h (V.int.inj z))]
theorem dec_str (a b : Str) : decide (V.str a = V.str b) = decide (a = b) := by
  by_cases h : a = b
  · rw [decide_eq_true h, h, decide_eq_true rfl]
  · rw [decide_eq_false h, decide_eq_false (fun z => h (V.str.inj z))]
theorem dec_bl (a b : Bool) : decide (V.bl a = V.bl b) = decide (a = b) := by
  by_cases h : a = b
  · rw [decide_eq_true h, h, decide_eq_true rfl]
  · rw [decide_eq_false h, decide_eq_false (fun z => h (V.bl.inj z))]
theorem str_t {a b : Str} (h : decide (V.str a = V.str b) = true) : a = b := V.str.inj (of_decide_eq_true h)
theorem str_f {a b : Str} (h : ¬ decide (V.str a = V.str b) = true) : ¬ a = b := fun z => h (decide_eq_true (congrArg V.str z))
theorem int_t {a b : Int} (h : decide (V.int a = V.int b) = true) : a = b := V.int.inj (of_decide_eq_true h)
theorem int_f {a b : Int} (h : ¬ decide (V.int a = V.int b) = true) : ¬ a = b := fun z => h (decide_eq_true (congrArg V.int z))
theorem not_t {b : Bool} (h : (!b) = true) : ¬ b = true := by cases b <;> simp_all
theorem not_f {b : Bool} (h : ¬ (!b) = true) : b = true := by cases b <;> simp_all
theorem mode_in {m : Str} (h : Mode m) : inV (.str m) modesV = true := by
  rcases h with e | e | e | e | e <;> subst e <;> decide +kernel
theorem divp {o v s : Int} (hs : 1 ≤ s) (ho : -10 ^ 40 ≤ o ∧ o ≤ 10 ^ 40) (hv : Bd v) : CDivP (v - o) s := by
  refine divp_ok (by omega) ?_
  have h : (v - o).natAbs < 2 ^ 1010 := by
    have h1 := hv.1
    have h2 := hv.2
    omega
  have h2 : Builtin.Int.intBits (v - o) ≤ 1011 := by
    unfold Builtin.Int.intBits
    split
    · omega
    · have := PySem.Flt.log2_lt_of (by decide) h
      omega
  omega
theorem mulW {i j : Int} (hi : -2 ^ 1010 < i ∧ i < 2 ^ 1010) (hj : -2 ^ 1010 < j ∧ j < 2 ^ 1010) : CMulW i j := wide_mul (a := 1010) (b := 1010) (by omega) (by omega) (by decide) (by decide) (by decide)
theorem fig_bd {o s : Int} {m : Str} {v : Int} (S : SideP o s m) (hv : Bd v) : -2 ^ 1001 < figM o s m v ∧ figM o s m v < 2 ^ 1001 := by
  obtain ⟨h1, h2⟩ := hv
  obtain ⟨o0, o1, s0, s1, _⟩ := S
  have := div_bd (x := v - o) (b := 2 ^ 1000 + 10 ^ 40) s0 (by omega) (by omega)
  unfold figM
  split <;> omega
section
variable {P : Program} {w : World} {K : PySem.W.Frag} {mg : Str → Option Value} {base : Heap} {aM fI fB fV fC fG fF : Addr} {dI dB dV dC dG dF : FuncData}
theorem ok_is_int {f : Addr} {fd : FuncData} (F : Fun K "is_int" "is_int" s_is_int f fd) (T : SideT K mg aM) : FnOk P w K mg base CX0 1 f fd ["thing"] spIsInt := by
  refine F.ok sc_is_int (fun vs H Q E h => ?_) (fun cdv A outer s H vs Q E hr h => ?_)
  · obtain ⟨i, rfl, _⟩ := h
    rfl
  · obtain ⟨i, rfl, q⟩ := h
    refine ⟨_, pss_one (ps_ret (pe_and (pe_callB call_isi (by rfl) T.isi (by decide +kernel) (pa_cons (pv 0) (pa_cons (pe_bltn (v := .ty "int") (by rfl) T.int (by decide +kernel) rfl) pa_nil)))
      (pe_one (pe_not (pe_callB call_isi (by rfl) T.isi (by decide +kernel) (pa_cons (pv 0) (pa_cons (pe_bltn (v := .ty "bool") (by rfl) T.bool (by decide +kernel) rfl) pa_nil))))))), ?_⟩
    walk_at "rd"
    refine ⟨_, _, _, _, _, rfl, .ty "int", .base (.int _), kit_ty (r := true) (by decide +kernel), ?_⟩
    walk_at "rd"
    refine ⟨_, _, _, _, _, rfl, .ty "bool", .base (.int _), kit_ty (r := false) (by decide +kernel), ?_⟩
    walk_at "rd"
    exact q
theorem ok_between {f : Addr} {fd : FuncData} (F : Fun K "is_int_between" "is_int_between" s_is_int_between f fd) (I : Cal P w K mg base "is_int" 1 ["thing"] spIsInt fI dI) : FnOk P w K mg base CX0 2 f fd ["thing", "least", "most"] spBetween := by
  refine F.ok sc_is_int_between (fun vs H Q E h => ?_) (fun cdv A outer s H vs Q E hr h => ?_)
  · obtain ⟨i, a, b, rfl, _⟩ := h
    rfl
  · obtain ⟨i, a, b, rfl, q⟩ := h
    refine ⟨_, pss_one (ps_ret (pe_and (pcl I hr (by decide) (by rfl) (pa_cons (pv 0) pa_nil)) (pe_one (pe_chain op_le op_le (pv 1) (pv 0) (pv 2))))), ?_⟩
    walk_at "rd"
    refine ite2 (fun h => ?_) (fun h => ?_)
    · walk_at "rd"
      rw [decide_eq_true (of_decide_eq_true h)] at q
      exact q
    · rw [decide_eq_false (of_decide_eq_false (by simpa using h))] at q
      exact q
theorem ok_check_value {f : Addr} {fd : FuncData} (F : Fun K "check_value" "check_value" s_check_value f fd) (I : Cal P w K mg base "is_int" 1 ["thing"] spIsInt fI dI) : FnOk P w K mg base CX0 2 f fd ["value"] spCheckValue := by
  refine F.ok sc_check_value (fun vs H Q E h => ?_) (fun cdv A outer s H vs Q E hr h => ?_)
  · obtain ⟨i, rfl, _⟩ := h
    rfl
  · obtain ⟨i, rfl, q⟩ := h
    refine ⟨_, pss_one (ps_if (pt_not (pt_val (pcl I hr (by decide) (by rfl) (pa_cons (pv 0) pa_nil)))) (pss_one ps_never) pss_nil), ?_⟩
    walk_at "rd"
    exact q
theorem ok_check_side {f : Addr} {fd : FuncData} (F : Fun K "check_side" "check_side" s_check_side f fd) (T : SideT K mg aM) (B : Cal P w K mg base "is_int_between" 2 ["thing", "least", "most"] spBetween fB dB) : FnOk P w K mg base CX0 3 f fd ["side"] spCheckSide := by
  refine F.ok sc_check_side (fun vs H Q E h => ?_) (fun cdv A outer s H vs Q E hr h => ?_)
  · obtain ⟨p, o, s, m, rfl, _⟩ := h
    rfl
  · obtain ⟨p, o, s, m, rfl, hp, S, q⟩ := h
    have nd := sc_check_side.nd
    refine ⟨_, pss_cons (ps_if (PW.pt (pw_or (pt_not (pt_val (pe_callB call_isi (by rfl) T.isi (by decide +kernel) (pa_cons (pv 0) (pa_cons (pe_bltn (v := .ty "tuple") (by rfl) T.tuple (by decide +kernel) rfl) pa_nil)))))
        (pw_or1 (pt_cmpR op_ne (pe_callB call_len_seq (by rfl) T.len PySem.boot_len (pa_cons (pv 0) pa_nil)) pe_int (nomark _))))) (pss_one ps_never) pss_nil)
      (pss_cons (ps_asg (pv 0) (pg_tup (by rfl) (pgs_cons (pg_name (i := 1) nd rfl (Or.inl rfl)) (pgs_cons (pg_name (i := 2) nd rfl (Or.inl rfl)) (pgs_cons (pg_name (i := 3) nd rfl (Or.inl rfl)) pgs_nil)))))
      (pss_cons (ps_if (pt_not (pt_val (pcl B hr (by decide) (by rfl) (pa_cons (pv 1) (pa_cons (pe_un un_neg (pe_op op_pow pe_int pe_int)) (pa_cons (pe_op op_pow pe_int pe_int) pa_nil)))))) (pss_one ps_never) pss_nil)
      (pss_cons (ps_if (pt_not (pt_val (pcl B hr (by decide) (by rfl) (pa_cons (pv 2) (pa_cons pe_int (pa_cons (pe_op op_pow pe_int pe_int) pa_nil)))))) (pss_one ps_never) pss_nil)
      (pss_one (ps_if (pt_cmpR op_notIn_seq (pv 3) (pe_glob (v := .ref aM) (by rfl) T.gM rfl) (by rfl)) (pss_one ps_never) pss_nil))))), ?_⟩
    walk_at "rd"
    refine ⟨_, _, _, _, _, rfl, .ty "tuple", .base (.tup hp), kit_ty (r := true) (by decide +kernel), ?_⟩
    walk_at "rd"
    refine ⟨p, _, rfl, .inr (SqT.of hp), rfl, ?_⟩
    walk_at "rd"
    refine ⟨p, _, rfl, SqT.of hp, rfl, _, _, rfl, _, _, rfl, _, _, rfl, rfl, ?_⟩
    walk_at "rd"
    refine ⟨⟨by decide, by decide, by decide⟩, ?_⟩
    walk_at "rd"
    refine ⟨⟨by decide, by decide, by decide⟩, _, _, _, rfl, ?_⟩
    have e1 : (decide (-(10 : Int) ^ (40 : Int).toNat ≤ o) && decide (o ≤ (10 : Int) ^ (40 : Int).toNat)) = true := by
      rw [decide_eq_true (show -(10 : Int) ^ (40 : Int).toNat ≤ o from S.o0), decide_eq_true (show o ≤ (10 : Int) ^ (40 : Int).toNat from S.o1)]
      rfl
    refine ⟨_, rfl, ?_⟩
    refine ite2 (fun h => (not_t h e1).elim) (fun _ => ?_)
    walk_at "rd"
    refine ⟨⟨by decide, by decide, by decide⟩, _, _, _, rfl, ?_⟩
    have e2 : (decide ((1 : Int) ≤ s) && decide (s ≤ (10 : Int) ^ (30 : Int).toNat)) = true := by
      rw [decide_eq_true S.s0, decide_eq_true (show s ≤ (10 : Int) ^ (30 : Int).toNat from S.s1)]
      rfl
    refine ⟨_, rfl, ?_⟩
    refine ite2 (fun h => (not_t h e2).elim) (fun _ => ?_)
    walk_at "rd"
    refine ⟨aM, _, rfl, .inr (T.tM H), rfl, by decide, ?_⟩
    walk_at "rd"
    refine ite2 (fun h => (not_t h (mode_in S.md)).elim) (fun _ => ?_)
    exact q
end
end HT
namespace HT
open PySem L2
section
variable {P : Program} {w : World} {K : PySem.W.Frag} {mg : Str → Option Value} {base : Heap} {aM fI fB fV fC fG fF : Addr} {dI dB dV dC dG dF : FuncData}
theorem ok_goes_up {f : Addr} {fd : FuncData} (F : Fun K "_goes_up" "_goes_up" s_goes_up f fd) : FnOk P w K mg base CX0 1 f fd ["mode", "step", "figure", "rest"] spGo := by
  refine F.ok sc_goes_up (fun vs H Q E h => ?_) (fun cdv A outer s H vs Q E hr h => ?_)
  · obtain ⟨m, s, q, r, rfl, _⟩ := h
    rfl
  · obtain ⟨m, s, fg, r, rfl, q⟩ := h
    refine ⟨_, pss_cons (ps_if (pt_cmpR op_eq (pv 0) pe_str (nomark _)) (pss_one (ps_ret pe_bl)) pss_nil)
      (pss_cons (ps_if (pt_cmpR op_eq (pv 0) pe_str (nomark _)) (pss_one (ps_ret (pe_cmpR op_gt (pv 3) pe_int (nomark _)))) pss_nil)
      (pss_cons (ps_if (pt_cmpR op_ne (pe_op op_mul pe_int (pv 3)) (pv 1) (nomark _)) (pss_one (ps_ret (pe_cmpR op_gt (pe_op op_mul pe_int (pv 3)) (pv 1) (nomark _)))) pss_nil)
      (pss_cons (ps_if (pt_cmpR op_eq (pv 0) pe_str (nomark _)) (pss_one (ps_ret (pe_cmpR op_eq (pe_op op_mod (pv 2) pe_int) pe_int (nomark _)))) pss_nil)
      (pss_one (ps_ret (pe_cmpR op_eq (pv 0) pe_str (nomark _))))))), ?_⟩
    unfold goesUp at q
    walk_at "rd"
    refine ⟨rfl, ?_⟩
    walk_at "rd"
    refine ite2 (fun h => ?_) (fun h1 => ?_)
    · rw [if_pos (str_t h)] at q
      exact q
    rw [if_neg (str_f h1)] at q
    walk_at "rd"
    refine ⟨rfl, ?_⟩
    walk_at "rd"
    refine ite2 (fun h => ?_) (fun h2 => ?_)
    · rw [if_pos (str_t h)] at q
      walk_at "rd"
      exact q
    rw [if_neg (str_f h2)] at q
    walk_at "rd"
    refine ⟨.inl ⟨by decide, by decide⟩, ?_⟩
    walk_at "rd"
    refine ⟨rfl, ?_⟩
    walk_at "rd"
    refine ite2 (fun h => ?_) (fun h3 => ?_)
    · rw [if_neg (int_f (not_t h))] at q
      walk_at "rd"
      refine ⟨.inl ⟨by decide, by decide⟩, ?_⟩
      walk_at "rd"
      exact q
    rw [if_pos (int_t (not_f h3))] at q
    walk_at "rd"
    refine ⟨rfl, ?_⟩
    walk_at "rd"
    refine ite2 (fun h => ?_) (fun h4 => ?_)
    · rw [if_pos (str_t h), ← dec_int] at q
      walk_at "rd"
      refine ⟨(by show (0 : Int) < 2; decide), ?_⟩
      walk_at "rd"
      exact ⟨rfl, q⟩
    · rw [if_neg (str_f h4), ← dec_str] at q
      walk_at "rd"
      exact ⟨rfl, q⟩
theorem ok_figure {f : Addr} {fd : FuncData} (F : Fun K "_figure" "_figure" s_figure f fd) (T : SideT K mg aM)
    (G : Cal P w K mg base "_goes_up" 1 ["mode", "step", "figure", "rest"] spGo fG dG) : FnOk P w K mg base CX0 2 f fd ["side", "value"] spFig := by
  refine F.ok sc_figure (fun vs H Q E h => ?_) (fun cdv A outer s H vs Q E hr h => ?_)
  · obtain ⟨p, o, s, m, v, rfl, _⟩ := h
    rfl
  · obtain ⟨p, o, s, m, v, rfl, hp, S, hv, q⟩ := h
    have nd := sc_figure.nd
    refine ⟨_, pss_cons (ps_asg (pv 0) (pg_tup (by rfl) (pgs_cons (pg_name (i := 2) nd rfl (Or.inl rfl)) (pgs_cons (pg_name (i := 3) nd rfl (Or.inl rfl)) (pgs_cons (pg_name (i := 4) nd rfl (Or.inl rfl)) pgs_nil)))))
      (pss_cons (ps_asg (pe_callB call_divmodW (by rfl) T.dm (by decide +kernel) (pa_cons (pe_op op_sub (pv 1) (pv 2)) (pa_cons (pv 3) pa_nil))) (pg_tup (by rfl) (pgs_cons (pg_name (i := 5) nd rfl (Or.inl rfl)) (pgs_cons (pg_name (i := 6) nd rfl (Or.inl rfl)) pgs_nil))))
      (pss_cons (ps_if (pt_val (pcl G hr (by decide) (by rfl) (pa_cons (pv 4) (pa_cons (pv 3) (pa_cons (pv 5) (pa_cons (pv 6) pa_nil)))))) (pss_one (ps_ret (pe_op op_add (pv 5) pe_int))) pss_nil)
      (pss_one (ps_ret (pv 5))))), ?_⟩
    walk_at "rd"
    refine ⟨p, _, rfl, SqT.of hp, rfl, _, _, rfl, _, _, rfl, _, _, rfl, rfl, ?_⟩
    walk_at "rd"
    refine ⟨_, _, rfl, divp S.s0 ⟨S.o0, S.o1⟩ hv, fun d nd' => ?_⟩
    refine ⟨d, _, rfl, SqT.of upd_same, rfl, _, _, rfl, _, _, rfl, rfl, ?_⟩
    have sm : Same H (upd H d (.tup [.int ((v - o) / s), .int ((v - o) % s)])) := fun b u z => by rw [upd_ne (ne_of_none z nd')]; exact z
    have q' : Q (.int (figM o s m v)) (upd H d (.tup [.int ((v - o) / s), .int ((v - o) % s)])) := q _ sm
    unfold figM at q'
    walk_at "rd"
    refine ⟨_, _, _, _, rfl, ?_⟩
    walk_at "rd"
    refine ite2 (fun h => ?_) (fun h => ?_)
    · rw [if_pos h] at q'
      walk_at "rd"
      exact q'
    · rw [if_neg h] at q'
      walk_at "rd"
      exact q'
theorem ok_figure_of {f : Addr} {fd : FuncData} (F : Fun K "figure_of" "figure_of" s_figure_of f fd) (C : Cal P w K mg base "check_side" 3 ["side"] spCheckSide fC dC) (V' : Cal P w K mg base "check_value" 2 ["value"] spCheckValue fV dV)
    (G : Cal P w K mg base "_figure" 2 ["side", "value"] spFig fF dF) : FnOk P w K mg base CX0 4 f fd ["side", "value"] spFig := by
  refine F.ok sc_figure_of (fun vs H Q E h => ?_) (fun cdv A outer s H vs Q E hr h => ?_)
  · obtain ⟨p, o, s, m, v, rfl, _⟩ := h
    rfl
  · obtain ⟨p, o, s, m, v, rfl, hp, S, hv, q⟩ := h
    refine ⟨_, pss_cons (ps_expr (pcl C hr (by decide) (by rfl) (pa_cons (pv 0) pa_nil)))
      (pss_cons (ps_expr (pcl V' hr (by decide) (by rfl) (pa_cons (pv 1) pa_nil)))
      (pss_one (ps_ret (pcl G hr (by decide) (by rfl) (pa_cons (pv 0) (pa_cons (pv 1) pa_nil)))))), ?_⟩
    walk_at "rd"
    refine ⟨p, o, s, m, rfl, hp, S, ?_⟩
    walk_at "rd"
    exact ⟨p, o, s, m, v, rfl, hp, S, hv, q⟩
end
end HT
namespace HT
open PySem L2
structure MirT (K : PySem.W.Frag) (w : World) (mg : Str → Option Value) (aR : Addr) : Prop where
  gR : mg "MIRRORED" = some (.ref aR)
  dR : ∀ m, Mode m → KDct K w aR m (.str (mir m))
def BdK (x : Int) : Prop := -2 ^ 720 < x ∧ x < 2 ^ 720
def spBelow : Sp := fun vs H Q _ => ∃ (m : Str) (s k : Int), vs = [.str m, .int s, .int k] ∧ Mode m ∧ Q (.int (below m s k)) H
def spSpan : Sp := fun vs H Q _ => ∃ (p : Addr) (o s : Int) (m : Str) (k : Int), vs = [.ref p, .int k] ∧ H p = some (sideV o s m) ∧ SideP o s m ∧ BdK k ∧
  ∀ (d : Addr) (H' : Hp), Same H H' → H d = none → H' d = some (.tup [.int (lowM o s m k), .int (highM o s m k)]) → Q (.ref d) H'
def spBack : Sp := fun vs H Q _ => ∃ (p : Addr) (o s : Int) (m : Str) (v : Int), vs = [.ref p, .int v] ∧ H p = some (sideV o s m) ∧ SideP o s m ∧ -2 ^ 700 < v ∧ v < 2 ^ 700 ∧
  ∀ H' : Hp, Same H H' → Q (.int (backM o s m v)) H'
theorem bdK_bd {x : Int} (h : BdK x) : Bd x := by
  unfold BdK at h
  unfold Bd
  omega
section
variable {P : Program} {w : World} {K : PySem.W.Frag} {mg : Str → Option Value} {base : Heap} {aM aR fV fC fB fS : Addr} {dV dC dB dS : FuncData}
theorem ok_below {f : Addr} {fd : FuncData} (F : Fun K "_below" "_below" s_below f fd) : FnOk P w K mg base CX0 1 f fd ["mode", "step", "figure"] spBelow := by
  refine F.ok sc_below (fun vs H Q E h => ?_) (fun cdv A outer s H vs Q E hr h => ?_)
  · obtain ⟨m, s, k, rfl, _⟩ := h
    rfl
  · obtain ⟨m, s, k, rfl, hm, q⟩ := h
    refine ⟨_, pss_cons (ps_if (pt_cmpR op_eq (pv 0) pe_str (nomark _)) (pss_one (ps_ret pe_int)) pss_nil)
      (pss_cons (ps_if (pt_cmpR op_eq (pv 0) pe_str (nomark _)) (pss_one (ps_ret (pe_op op_sub (pv 1) pe_int))) pss_nil)
      (pss_cons (ps_if (PW.pt (pw_or (pt_cmpR op_eq (pv 0) pe_str (nomark _)) (pw_or1 (PW.pt (pw_and (pt_cmpR op_eq (pv 0) pe_str (nomark _)) (pw_and1 (pt_cmpR op_eq (pe_op op_mod (pv 2) pe_int) pe_int (nomark _)))))))) (pss_one (ps_ret (pe_op op_fdiv (pv 1) pe_int))) pss_nil)
      (pss_one (ps_ret (pe_op op_fdiv (pe_op op_sub (pv 1) pe_int) pe_int))))), ?_⟩
    have d2 : ∀ (i : Int), CDiv i 2 := fun _ => ⟨by decide, by decide⟩
    unfold below at q
    walk_at "rd"
    refine ⟨rfl, ?_⟩
    walk_at "rd"
    refine ite2 (fun h => ?_) (fun h1 => ?_)
    · rw [if_pos (str_t h)] at q
      walk_at "rd"
      exact q
    rw [if_neg (str_f h1)] at q
    walk_at "rd"
    refine ⟨rfl, ?_⟩
    walk_at "rd"
    refine ite2 (fun h => ?_) (fun h2 => ?_)
    · rw [if_pos (str_t h)] at q
      walk_at "rd"
      exact q
    rw [if_neg (str_f h2)] at q
    walk_at "rd"
    refine ⟨rfl, ?_⟩
    walk_at "rd"
    refine ite2 (fun h => ?_) (fun h3 => ?_)
    · rw [if_pos (.inl (str_t h))] at q
      walk_at "rd"
      refine ⟨d2 _, ?_⟩
      walk_at "rd"
      exact q
    walk_at "rd"
    refine ⟨rfl, ?_⟩
    walk_at "rd"
    refine ite2 (fun h => ?_) (fun h4 => ?_)
    · walk_at "rd"
      refine ⟨(by show (0 : Int) < 2; decide), ?_⟩
      walk_at "rd"
      refine ⟨rfl, ?_⟩
      walk_at "rd"
      refine ite2 (fun g => ?_) (fun g => ?_)
      · rw [if_pos (.inr ⟨str_t h, int_t g⟩)] at q
        walk_at "rd"
        refine ⟨d2 _, ?_⟩
        walk_at "rd"
        exact q
      · rw [if_neg (by rintro (z | ⟨_, z⟩); exact str_f h3 z; exact int_f g z)] at q
        walk_at "rd"
        refine ⟨d2 _, ?_⟩
        walk_at "rd"
        exact q
    · rw [if_neg (by rintro (z | ⟨z, _⟩); exact str_f h3 z; exact str_f h4 z)] at q
      walk_at "rd"
      refine ⟨d2 _, ?_⟩
      walk_at "rd"
      exact q
theorem ok_uspan {f : Addr} {fd : FuncData} (F : Fun K "_span" "_span" s_uspan f fd) (R : MirT K w mg aR)
    (B : Cal P w K mg base "_below" 1 ["mode", "step", "figure"] spBelow fB dB) : FnOk P w K mg base CX0 2 f fd ["side", "figure"] spSpan := by
  refine F.ok sc_uspan (fun vs H Q E h => ?_) (fun cdv A outer s H vs Q E hr h => ?_)
  · obtain ⟨p, o, s, m, k, rfl, _⟩ := h
    rfl
  · obtain ⟨p, o, s, m, k, rfl, hp, S, hk, q⟩ := h
    have nd := sc_uspan.nd
    refine ⟨_, pss_cons (ps_asg (pv 0) (pg_tup (by rfl) (pgs_cons (pg_name (i := 2) nd rfl (Or.inl rfl)) (pgs_cons (pg_name (i := 3) nd rfl (Or.inl rfl)) (pgs_cons (pg_name (i := 4) nd rfl (Or.inl rfl)) pgs_nil)))))
      (pss_cons (ps_set (i := 5) nd rfl (Or.inl rfl) (pe_op op_add (pv 2) (pe_op op_mulW (pv 3) (pv 1))))
      (pss_one (ps_ret (pe_tup (pa_cons (pe_op op_sub (pv 5) (pcl B hr (by decide) (by rfl) (pa_cons (pv 4) (pa_cons (pv 3) (pa_cons (pv 1) pa_nil)))))
        (pa_cons (pe_op op_add (pv 5) (pcl B hr (by decide) (by rfl) (pa_cons (pe_ix ix_kdict (pe_glob (v := .ref aR) (by rfl) R.gR rfl) (pv 4) (fun _ _ => rfl)) (pa_cons (pv 3) (pa_cons (pv 1) pa_nil))))) pa_nil)))))), ?_⟩
    walk_at "rd"
    refine ⟨p, _, rfl, SqT.of hp, rfl, _, _, rfl, _, _, rfl, _, _, rfl, rfl, ?_⟩
    have s0 := S.s0
    have s1 := S.s1
    have hk' := hk
    unfold BdK at hk'
    walk_at "rd"
    refine ⟨mulW (by omega) (by omega), ?_⟩
    walk_at "rd"
    refine ⟨m, s, k, rfl, S.md, ?_⟩
    walk_at "rd"
    refine ⟨aR, m, _, rfl, rfl, R.dR m S.md, ?_⟩
    walk_at "rd"
    refine ⟨mir m, s, k, rfl, mir_mode S.md, ?_⟩
    walk_at "rd"
    refine ⟨(by show 2 ≤ sizeLine; decide), fun d nd' => ?_⟩
    exact q d _ (fun b u z => (upd_ne (ne_of_none z nd')).trans z) nd' upd_same
theorem ok_span {f : Addr} {fd : FuncData} (F : Fun K "span" "span" s_span f fd) (C : Cal P w K mg base "check_side" 3 ["side"] spCheckSide fC dC) (V' : Cal P w K mg base "check_value" 2 ["value"] spCheckValue fV dV)
    (G : Cal P w K mg base "_span" 2 ["side", "figure"] spSpan fS dS) : FnOk P w K mg base CX0 4 f fd ["side", "figure"] spSpan := by
  refine F.ok sc_span (fun vs H Q E h => ?_) (fun cdv A outer s H vs Q E hr h => ?_)
  · obtain ⟨p, o, s, m, v, rfl, _⟩ := h
    rfl
  · obtain ⟨p, o, s, m, v, rfl, hp, S, q⟩ := h
    refine ⟨_, pss_cons (ps_expr (pcl C hr (by decide) (by rfl) (pa_cons (pv 0) pa_nil)))
      (pss_cons (ps_expr (pcl V' hr (by decide) (by rfl) (pa_cons (pv 1) pa_nil)))
      (pss_one (ps_ret (pcl G hr (by decide) (by rfl) (pa_cons (pv 0) (pa_cons (pv 1) pa_nil)))))), ?_⟩
    walk_at "rd"
    refine ⟨p, o, s, m, rfl, hp, S, ?_⟩
    walk_at "rd"
    exact ⟨p, o, s, m, v, rfl, hp, S, q⟩
theorem ok_threshold {f : Addr} {fd : FuncData} (F : Fun K "threshold" "threshold" s_threshold f fd) (B : Cal P w K mg base "_below" 1 ["mode", "step", "figure"] spBelow fB dB) : FnOk P w K mg base CX0 3 f fd ["side", "value"] spBack := by
  refine F.ok sc_threshold (fun vs H Q E h => ?_) (fun cdv A outer s H vs Q E hr h => ?_)
  · obtain ⟨p, o, s, m, v, rfl, _⟩ := h
    rfl
  · obtain ⟨p, o, s, m, v, rfl, hp, S, hv0, hv1, q⟩ := h
    have nd := sc_threshold.nd
    refine ⟨_, pss_cons (ps_asg (pv 0) (pg_tup (by rfl) (pgs_cons (pg_name (i := 2) nd rfl (Or.inl rfl)) (pgs_cons (pg_name (i := 3) nd rfl (Or.inl rfl)) (pgs_cons (pg_name (i := 4) nd rfl (Or.inl rfl)) pgs_nil)))))
      (pss_cons (ps_set (i := 5) nd rfl (Or.inl rfl) (pe_un un_neg (pe_op op_fdivW (pe_op op_sub (pv 2) (pv 1)) (pv 3))))
      (pss_one (ps_ret (pe_op op_sub (pe_op op_add (pv 2) (pe_op op_mulW (pv 3) (pv 5))) (pcl B hr (by decide) (by rfl) (pa_cons (pv 4) (pa_cons (pv 3) (pa_cons (pv 5) pa_nil)))))))), ?_⟩
    walk_at "rd"
    refine ⟨p, _, rfl, SqT.of hp, rfl, _, _, rfl, _, _, rfl, _, _, rfl, rfl, ?_⟩
    have s0 := S.s0
    have s1 := S.s1
    have o0 := S.o0
    have o1 := S.o1
    walk_at "rd"
    refine ⟨fdiv_ok _ (by omega) (lg_big (by omega) (by omega)), ?_⟩
    walk_at "rd"
    have db := div_bd (x := o - v) (b := 2 ^ 701) s0 (by omega) (by omega)
    refine ⟨mulW (by omega) (by omega), ?_⟩
    walk_at "rd"
    refine ⟨m, s, ceilM o s v, rfl, S.md, ?_⟩
    walk_at "rd"
    exact q H (fun _ _ z => z)
end
end HT
namespace HT
open PySem L2
def oV : Option Int → V
  | some x => .int x
  | none => .non
structure MaxT (mg : Str → Option Value) : Prop where
  max : mg "max" = none
  min : mg "min" = none
def spFirstAt : Sp := fun vs H Q _ => ∃ (pw pn : Addr) (o s : Int) (m : Str) (o2 s2 : Int) (m2 : Str) (k v : Int), vs = [.ref pw, .ref pn, .int k, .int v] ∧ H pw = some (sideV o s m) ∧ SideP o s m ∧ H pn = some (sideV o2 s2 m2) ∧ SideP o2 s2 m2 ∧ (-2 ^ 590 < k ∧ k < 2 ^ 590) ∧ (-2 ^ 590 < v ∧ v < 2 ^ 590) ∧
  ∀ H', Same H H' → Q (oV (firstM o s m o2 s2 m2 k v)) H'
def spExch : Sp := fun vs H Q _ => ∃ (p1 p2 : Addr) (o s : Int) (m : Str) (o2 s2 : Int) (m2 : Str) (v : Int), vs = [.ref p1, .ref p2, .int v] ∧ H p1 = some (sideV o s m) ∧ SideP o s m ∧ H p2 = some (sideV o2 s2 m2) ∧ SideP o2 s2 m2 ∧ (-2 ^ 560 < v ∧ v < 2 ^ 560) ∧
  ∀ r H', ExchP (diffX o s m o2 s2 m2) v r → (∀ x, r = some x → x ≤ v + 4 * 10 ^ 30) → Same H H' → Q (oV r) H'
theorem exch_congr {A B : Int → Prop} {v : Int} {r : Option Int} (h : ∀ x, A x ↔ B x) (e : ExchP A v r) : ExchP B v r := by
  cases r with
  | none => exact fun y z => e y ((h y).mpr z)
  | some x => exact ⟨e.1, (h x).mp e.2.1, fun y y0 y1 z => e.2.2 y y0 y1 ((h y).mpr z)⟩
theorem mul_b2 {s k : Int} (s0 : 1 ≤ s) (s1 : s ≤ 10 ^ 30) (h : -2 ^ 590 < k ∧ k < 2 ^ 590) : -2 ^ 690 < s * k ∧ s * k < 2 ^ 690 := by
  have h1 : (s * k).natAbs < 2 ^ (100 + 590) := wide_lt (a := 100) (b := 590) (by omega) (by omega)
  omega
section
variable {P : Program} {w : World} {K : PySem.W.Frag} {mg : Str → Option Value} {base : Heap} {aM aR fV fC fB fS fP fF fT fA : Addr} {dV dC dB dS dP dF dT dA : FuncData}
theorem ok_stands {f : Addr} {fd : FuncData} (F : Fun K "stands" "stands" s_stands f fd) (C : Cal P w K mg base "check_side" 3 ["side"] spCheckSide fC dC) (V' : Cal P w K mg base "check_value" 2 ["value"] spCheckValue fV dV) : FnOk P w K mg base CX0 4 f fd ["side", "value"] spStands := by
  refine F.ok sc_stands (fun vs H Q E h => ?_) (fun cdv A outer s H vs Q E hr h => ?_)
  · obtain ⟨p, o, s, m, v, rfl, _⟩ := h
    rfl
  · obtain ⟨p, o, s, m, v, rfl, hp, S, hv, q⟩ := h
    have nd := sc_stands.nd
    refine ⟨_, pss_cons (ps_expr (pcl C hr (by decide) (by rfl) (pa_cons (pv 0) pa_nil)))
      (pss_cons (ps_expr (pcl V' hr (by decide) (by rfl) (pa_cons (pv 1) pa_nil)))
      (pss_cons (ps_asg (pv 0) (pg_tup (by rfl) (pgs_cons (pg_name (i := 2) nd rfl (Or.inl rfl)) (pgs_cons (pg_name (i := 3) nd rfl (Or.inl rfl)) (pgs_cons (pg_name (i := 4) nd rfl (Or.inl rfl)) pgs_nil)))))
      (pss_one (ps_ret (pe_cmpR op_eq (pe_op op_mod (pe_op op_sub (pv 1) (pv 2)) (pv 3)) pe_int (nomark _)))))), ?_⟩
    walk_at "rd"
    refine ⟨p, o, s, m, rfl, hp, S, ?_⟩
    walk_at "rd"
    refine ⟨p, _, rfl, SqT.of hp, rfl, _, _, rfl, _, _, rfl, _, _, rfl, rfl, ?_⟩
    walk_at "rd"
    have b2 := S.s0
    refine ⟨(by omega), ?_⟩
    walk_at "rd"
    have q' : Q (.bl (decide ((v - o) % s = 0))) H := q H (Same.refl H)
    rw [← dec_int] at q'
    exact ⟨rfl, q'⟩
theorem ok_first_at {f : Addr} {fd : FuncData} (F : Fun K "_first_at" "_first_at" s_first_at f fd) (T : SideT K mg aM) (MT : MaxT mg) (Sp' : Cal P w K mg base "span" 4 ["side", "figure"] spSpan fP dP) (St : Cal P w K mg base "stands" 4 ["side", "value"] spStands fS dS)
    (Th : Cal P w K mg base "threshold" 3 ["side", "value"] spBack fT dT) : FnOk P w K mg base CX0 5 f fd ["wide", "narrow", "figure", "value"] spFirstAt := by
  refine F.ok sc_first_at (fun vs H Q E h => ?_) (fun cdv A outer s H vs Q E hr h => ?_)
  · obtain ⟨pw, pn, o, s, m, o2, s2, m2, k, v, rfl, _⟩ := h
    rfl
  · obtain ⟨pw, pn, o, s, m, o2, s2, m2, k, v, rfl, hw, SW, hn, SN, hk, hv, q⟩ := h
    have nd := sc_first_at.nd
    refine ⟨_, pss_cons (ps_asg (pcl Sp' hr (by decide) (by rfl) (pa_cons (pv 0) (pa_cons (pv 2) pa_nil))) (pg_tup (by rfl) (pgs_cons (pg_name (i := 4) nd rfl (Or.inl rfl)) (pgs_cons (pg_name (i := 5) nd rfl (Or.inl rfl)) pgs_nil))))
      (pss_cons (ps_set (i := 6) nd rfl (Or.inl rfl) (pe_callB (call_max2 rfl) (by rfl) MT.max (by decide +kernel) (pa_cons (pv 4) (pa_cons (pv 3) pa_nil))))
      (pss_cons (ps_asg (pv 0) (pg_tup (by rfl) (pgs_cons (pg_name (i := 7) nd rfl (Or.inl rfl)) (pgs_cons (pg_name (i := 8) nd rfl (Or.inl rfl)) (pgs_cons (pg_name (i := 9) nd rfl (Or.inl rfl)) pgs_nil)))))
      (pss_cons (ps_if (pt_not (pt_val (pcl St hr (by decide) (by rfl) (pa_cons (pv 1) (pa_cons (pe_op op_add (pv 7) (pe_op op_mulW (pv 8) (pv 2))) pa_nil))))) (pss_one (ps_ret (pv 6))) pss_nil)
      (pss_cons (ps_if (pt_cmpR op_lt (pv 6) (pcl Th hr (by decide) (by rfl) (pa_cons (pv 1) (pa_cons (pv 4) pa_nil))) (nomark _)) (pss_one (ps_ret (pv 6))) pss_nil)
      (pss_cons (ps_set (i := 6) nd rfl (Or.inl rfl) (pe_callB (call_max2 rfl) (by rfl) MT.max (by decide +kernel) (pa_cons (pv 6) (pa_cons (pcl Th hr (by decide) (by rfl) (pa_cons (pv 1) (pa_cons (pe_op op_add (pv 5) pe_int) pa_nil))) pa_nil))))
      (pss_cons (ps_if (pt_cmpR op_le (pv 6) (pv 5) (nomark _)) (pss_one (ps_ret (pv 6))) pss_nil)
      (pss_one (ps_ret pe_non)))))))), ?_⟩
    have mb := mul_b2 SW.s0 SW.s1 hk
    have b1 := below_bd (k := k) SW.md SW.s0
    have b2 := below_bd (k := k) (mir_mode SW.md) SW.s0
    have o0 := SW.o0
    have o1 := SW.o1
    have s1 := SW.s1
    have lowB : -2 ^ 695 < lowM o s m k ∧ lowM o s m k < 2 ^ 695 := by unfold lowM; omega
    have highB : -2 ^ 695 < highM o s m k ∧ highM o s m k < 2 ^ 695 := by unfold highM; omega
    walk_at "rd"
    refine ⟨pw, o, s, m, k, rfl, hw, SW, (by unfold BdK; omega), fun d H1 sm1 nd1 hd1 => ?_⟩
    refine ⟨d, _, rfl, SqT.of hd1, rfl, _, _, rfl, _, _, rfl, rfl, ?_⟩
    walk_at "rd"
    refine ⟨_, _, rfl, ?_⟩
    walk_at "rd"
    refine ⟨pw, _, rfl, SqT.of (sm1 _ _ hw), rfl, _, _, rfl, _, _, rfl, _, _, rfl, rfl, ?_⟩
    walk_at "rd"
    refine ⟨mulW (by omega) (by omega), ?_⟩
    walk_at "rd"
    refine ⟨pn, o2, s2, m2, _, rfl, sm1 _ _ hn, SN, (by unfold Bd; omega), fun H2 sm2 => ?_⟩
    have smA := sm1.trans sm2
    walk_at "rd"
    refine ite2 (fun h => ?_) (fun h => ?_)
    · have h' : ¬ (o + s * k - o2) % s2 = 0 := fun z => by simp [z] at h
      walk_at "rd"
      have g := q H2 smA
      unfold firstM at g
      rw [if_pos h'] at g
      exact g
    have h' : (o + s * k - o2) % s2 = 0 := by
      have := not_f h
      exact of_decide_eq_true this
    walk_at "rd"
    refine ⟨pn, o2, s2, m2, _, rfl, smA _ _ hn, SN, (by omega), (by omega), fun H3 sm3 => ?_⟩
    have smB := smA.trans sm3
    walk_at "rd"
    refine ite2 (fun g => ?_) (fun g => ?_)
    · have g' := of_decide_eq_true g
      walk_at "rd"
      have z := q H3 smB
      unfold firstM at z
      rw [if_neg (not_not_intro h'), if_pos (show mx (lowM o s m k) v < _ from g')] at z
      exact z
    have g' : ¬ mx (lowM o s m k) v < backM o2 s2 m2 (lowM o s m k) := fun z => g (decide_eq_true z)
    walk_at "rd"
    refine ⟨pn, o2, s2, m2, _, rfl, smB _ _ hn, SN, (by omega), (by omega), fun H4 sm4 => ?_⟩
    have smC := smB.trans sm4
    refine ⟨_, _, rfl, ?_⟩
    walk_at "rd"
    refine ite2 (fun c => ?_) (fun c => ?_)
    · have c' := of_decide_eq_true c
      walk_at "rd"
      have z := q H4 smC
      unfold firstM at z
      rw [if_neg (not_not_intro h'), if_neg g', if_pos (show mx (mx (lowM o s m k) v) (backM o2 s2 m2 (highM o s m k + 1)) ≤ highM o s m k from c')] at z
      exact z
    · walk_at "rd"
      have z := q H4 smC
      unfold firstM at z
      rw [if_neg (not_not_intro h'), if_neg g', if_neg (fun y : mx (mx (lowM o s m k) v) (backM o2 s2 m2 (highM o s m k + 1)) ≤ highM o s m k => c (decide_eq_true y))] at z
      exact z
theorem ok_exchange {f : Addr} {fd : FuncData} (F : Fun K "exchange" "exchange" s_exchange f fd) (hrg : mg "range" = none) (C : Cal P w K mg base "check_side" 3 ["side"] spCheckSide fC dC) (V' : Cal P w K mg base "check_value" 2 ["value"] spCheckValue fV dV)
    (Fi : Cal P w K mg base "figure_of" 4 ["side", "value"] spFig fF dF) (FA : Cal P w K mg base "_first_at" 5 ["wide", "narrow", "figure", "value"] spFirstAt fA dA) : FnOk P w K mg base CX0 6 f fd ["first", "second", "value"] spExch := by
  refine F.ok sc_exchange (fun vs H Q E h => ?_) (fun cdv A outer s H vs Q E hr h => ?_)
  · obtain ⟨p1, p2, o, s, m, o2, s2, m2, v, rfl, _⟩ := h
    rfl
  · obtain ⟨p1, p2, o, s, m, o2, s2, m2, v, rfl, h1, G1, h2, G2, hv, q⟩ := h
    have nd := sc_exchange.nd
    have figb : ∀ o s m, SideP o s m → -2 ^ 561 < figM o s m v ∧ figM o s m v < 2 ^ 561 := fun o s m S => by
      have o0 := S.o0
      have o1 := S.o1
      have := div_bd (x := v - o) (b := 2 ^ 560 + 10 ^ 40) S.s0 (by omega) (by omega)
      unfold figM
      split <;> omega
    refine ⟨_, pss_cons (ps_expr (pcl C hr (by decide) (by rfl) (pa_cons (pv 0) pa_nil)))
      (pss_cons (ps_expr (pcl C hr (by decide) (by rfl) (pa_cons (pv 1) pa_nil)))
      (pss_cons (ps_expr (pcl V' hr (by decide) (by rfl) (pa_cons (pv 2) pa_nil)))
      (pss_cons (ps_par (i := 3) (j := 4) (by rfl) nd rfl rfl (by decide) rfl rfl (pa_cons (pv 0) (pa_cons (pv 1) pa_nil)) (by rfl))
      (pss_cons (ps_if (pt_cmpR op_lt (pe_ix ix_tup (pv 0) pe_int (fun _ _ => rfl)) (pe_ix ix_tup (pv 1) pe_int (fun _ _ => rfl)) (nomark _)) (pss_one (ps_par (i := 3) (j := 4) (by rfl) nd rfl rfl (by decide) rfl rfl (pa_cons (pv 1) (pa_cons (pv 0) pa_nil)) (by rfl))) pss_nil)
      (pss_cons (ps_set (i := 5) nd rfl (Or.inl rfl) (pcl Fi hr (by decide) (by rfl) (pa_cons (pv 3) (pa_cons (pv 2) pa_nil))))
      (pss_cons (ps_for PassesOwn.never rfl (pi_rangeW (by rfl) hrg (pa_cons (pv 5) (pa_cons (pe_op op_add (pv 5) pe_int) pa_nil))) (pg_name (i := 6) nd rfl (Or.inl rfl))
        (pss_cons (ps_set (i := 7) nd rfl (Or.inl rfl) (pcl FA hr (by decide) (by rfl) (pa_cons (pv 3) (pa_cons (pv 4) (pa_cons (pv 6) (pa_cons (pv 2) pa_nil))))))
        (pss_one (ps_if (pt_cmpR op_notN (pv 7) pe_non (nomark _)) (pss_one (ps_ret (pv 7))) pss_nil))))
      (pss_one (ps_ret pe_non)))))))), ?_⟩
    walk_at "rd"
    refine ⟨p1, o, s, m, rfl, h1, G1, ?_⟩
    walk_at "rd"
    refine ⟨p2, o2, s2, m2, rfl, h2, G2, ?_⟩
    walk_at "rd"
    refine ⟨_, _, rfl, ?_⟩
    walk_at "rd"
    refine ⟨p1, _, 1, _, rfl, rfl, SqT.of h1, rfl, ?_⟩
    walk_at "rd"
    refine ⟨p2, _, 1, _, rfl, rfl, SqT.of h2, rfl, ?_⟩
    walk_at "rd"
    refine ite2 (fun h => ?_) (fun h => ?_)
    · have le2 : s ≤ s2 := by have := of_decide_eq_true h; omega
      walk_at "rd"
      refine ⟨_, _, rfl, ?_⟩
      walk_at "rd"
      refine ⟨p2, o2, s2, m2, v, rfl, h2, G2, (by unfold Bd; omega), fun H1 sm1 => ?_⟩
      walk_at "rd"
      refine ⟨_, _, rfl, ?_⟩
      have fb : -2 ^ 561 < figM o2 s2 m2 v ∧ figM o2 s2 m2 v < 2 ^ 561 := figb o2 s2 m2 G2
      have ex := exch_spec (o := o2) (p := o) (v := v) G2.md G1.md G2.s0 G1.s0 le2
      rw [show ((figM o2 s2 m2 v) + 3 - (figM o2 s2 m2 v)).toNat = 3 by omega]
      refine for_range (n := 3) (fun i st H' => ∃ (a b : Option V), st = [some (.ref p1), some (.ref p2), some (.int v), some (.ref p2), some (.ref p1), some (.int (figM o2 s2 m2 v)), a, b] ∧ Same H H' ∧ (0 < i → firstM o2 s2 m2 o s m (figM o2 s2 m2 v) v = none) ∧ (1 < i → firstM o2 s2 m2 o s m ((figM o2 s2 m2 v) + 1) v = none) ∧ (2 < i → firstM o2 s2 m2 o s m ((figM o2 s2 m2 v) + 2) v = none)) ⟨none, none, rfl, sm1, fun z => absurd z (by decide), fun z => absurd z (by decide), fun z => absurd z (by decide)⟩ ?_ ?_
      · rintro i st H2 hi ⟨a, b, rfl, sm2, n0, n1, n2⟩
        walk_at "rd"
        refine ⟨p2, p1, o2, s2, m2, o, s, m, (figM o2 s2 m2 v) + (i : Int), v, rfl, sm2 _ _ h2, G2, sm2 _ _ h1, G1, (by omega), (by omega), fun H3 sm3 => ?_⟩
        have smx := sm2.trans sm3
        walk_at "rd"
        refine ⟨rfl, ?_⟩
        walk_at "rd"
        cases fm : firstM o2 s2 m2 o s m ((figM o2 s2 m2 v) + (i : Int)) v with
        | none =>
          refine ite2 (fun y => absurd y (by simp [oV])) (fun _ => ?_)
          refine ⟨_, _, rfl, smx, fun z => ?_, fun z => ?_, fun z => ?_⟩
          · by_cases y : i = 0
            · subst y; rw [show (figM o2 s2 m2 v) + ((0 : Nat) : Int) = (figM o2 s2 m2 v) by omega] at fm; exact fm
            · exact n0 (by omega)
          · by_cases y : i = 1
            · subst y; exact fm
            · exact n1 (by omega)
          · by_cases y : i = 2
            · subst y; exact fm
            · exact n2 (by omega)
        | some x =>
          refine ite2 (fun _ => ?_) (fun y => absurd (by simp [oV]) y)
          walk_at "rd"
          have e : exchM o2 s2 m2 o s m v = some x := by
            unfold exchM
            rcases (by omega : i = 0 ∨ i = 1 ∨ i = 2) with y | y | y
            · subst y; rw [show (figM o2 s2 m2 v) + ((0 : Nat) : Int) = (figM o2 s2 m2 v) by omega] at fm; rw [fm]
            · subst y; rw [n0 (by decide), show (figM o2 s2 m2 v) + 1 = (figM o2 s2 m2 v) + ((1 : Nat) : Int) by omega, fm]
            · subst y; rw [n0 (by decide), n1 (by decide), show (figM o2 s2 m2 v) + 2 = (figM o2 s2 m2 v) + ((2 : Nat) : Int) by omega, fm]
          rw [e] at ex
          refine q (some x) _ ((exch_congr fun _ => diff_comm) ex.1) (fun y hy => ?_) smx
          have := ex.2 y hy
          have := G2.s1
          omega
      · rintro st H2 ⟨a, b, rfl, sm2, n0, n1, n2⟩
        walk_at "rd"
        have e : exchM o2 s2 m2 o s m v = none := by
          unfold exchM
          rw [n0 (by decide), n1 (by decide), n2 (by decide)]
        rw [e] at ex
        exact q none _ ((exch_congr fun _ => diff_comm) ex.1) (fun y hy => nomatch hy) sm2
    · have le1 : s2 ≤ s := by have : ¬ s < s2 := fun z => h (decide_eq_true z); omega
      walk_at "rd"
      refine ⟨p1, o, s, m, v, rfl, h1, G1, (by unfold Bd; omega), fun H1 sm1 => ?_⟩
      walk_at "rd"
      refine ⟨_, _, rfl, ?_⟩
      have fb : -2 ^ 561 < figM o s m v ∧ figM o s m v < 2 ^ 561 := figb o s m G1
      have ex := exch_spec (o := o) (p := o2) (v := v) G1.md G2.md G1.s0 G2.s0 le1
      rw [show ((figM o s m v) + 3 - (figM o s m v)).toNat = 3 by omega]
      refine for_range (n := 3) (fun i st H' => ∃ (a b : Option V), st = [some (.ref p1), some (.ref p2), some (.int v), some (.ref p1), some (.ref p2), some (.int (figM o s m v)), a, b] ∧ Same H H' ∧ (0 < i → firstM o s m o2 s2 m2 (figM o s m v) v = none) ∧ (1 < i → firstM o s m o2 s2 m2 ((figM o s m v) + 1) v = none) ∧ (2 < i → firstM o s m o2 s2 m2 ((figM o s m v) + 2) v = none)) ⟨none, none, rfl, sm1, fun z => absurd z (by decide), fun z => absurd z (by decide), fun z => absurd z (by decide)⟩ ?_ ?_
      · rintro i st H2 hi ⟨a, b, rfl, sm2, n0, n1, n2⟩
        walk_at "rd"
        refine ⟨p1, p2, o, s, m, o2, s2, m2, (figM o s m v) + (i : Int), v, rfl, sm2 _ _ h1, G1, sm2 _ _ h2, G2, (by omega), (by omega), fun H3 sm3 => ?_⟩
        have smx := sm2.trans sm3
        walk_at "rd"
        refine ⟨rfl, ?_⟩
        walk_at "rd"
        cases fm : firstM o s m o2 s2 m2 ((figM o s m v) + (i : Int)) v with
        | none =>
          refine ite2 (fun y => absurd y (by simp [oV])) (fun _ => ?_)
          refine ⟨_, _, rfl, smx, fun z => ?_, fun z => ?_, fun z => ?_⟩
          · by_cases y : i = 0
            · subst y; rw [show (figM o s m v) + ((0 : Nat) : Int) = (figM o s m v) by omega] at fm; exact fm
            · exact n0 (by omega)
          · by_cases y : i = 1
            · subst y; exact fm
            · exact n1 (by omega)
          · by_cases y : i = 2
            · subst y; exact fm
            · exact n2 (by omega)
        | some x =>
          refine ite2 (fun _ => ?_) (fun y => absurd (by simp [oV]) y)
          walk_at "rd"
          have e : exchM o s m o2 s2 m2 v = some x := by
            unfold exchM
            rcases (by omega : i = 0 ∨ i = 1 ∨ i = 2) with y | y | y
            · subst y; rw [show (figM o s m v) + ((0 : Nat) : Int) = (figM o s m v) by omega] at fm; rw [fm]
            · subst y; rw [n0 (by decide), show (figM o s m v) + 1 = (figM o s m v) + ((1 : Nat) : Int) by omega, fm]
            · subst y; rw [n0 (by decide), n1 (by decide), show (figM o s m v) + 2 = (figM o s m v) + ((2 : Nat) : Int) by omega, fm]
          rw [e] at ex
          refine q (some x) _ (id ex.1) (fun y hy => ?_) smx
          have := ex.2 y hy
          have := G1.s1
          omega
      · rintro st H2 ⟨a, b, rfl, sm2, n0, n1, n2⟩
        walk_at "rd"
        have e : exchM o s m o2 s2 m2 v = none := by
          unfold exchM
          rw [n0 (by decide), n1 (by decide), n2 (by decide)]
        rw [e] at ex
        exact q none _ (id ex.1) (fun y hy => nomatch hy) sm2
end
end HT
namespace HT
open PySem L2
section
variable {P : Program} {w : World} {K : PySem.W.Frag} {mg : Str → Option Value} {base : Heap}
/-- both promises of a def -/
theorem or_ok {CX : CXT} {k : Nat} {f : Addr} {fd : FuncData} {ps : List Str} {sp sp' : Sp} (F : FnOk P w K mg base CX k f fd ps sp) (G : FnOk P w K mg base CX k f fd ps sp') : FnOk P w K mg base CX k f fd ps (fun vs H Q E => sp vs H Q E ∨ sp' vs H Q E) :=
  ⟨fun vs H Q E h => h.elim (F.len vs H Q E) (G.len vs H Q E), fun A outer s H args us vs Q E hr he hb hv hs => hs.elim (F.run A outer s H args us vs Q E hr he hb hv) (G.run A outer s H args us vs Q E hr he hb hv)⟩
end
end HT
namespace HT
open PySem L2
section
variable {P : Program} {w : World} {K : PySem.W.Frag} {mg : Str → Option Value} {base : Heap}
/-- a def that lets nothing out keeps its promise among errors too -/
theorem to_x {k : Nat} {f : Addr} {fd : FuncData} {ps : List Str} {sp : Sp} (F : FnOk P w K mg base CX0 k f fd ps sp) : FnOk P w K mg base (L2.CX P w) k f fd ps sp :=
  ⟨F.len, fun A outer s H args us vs Q E hr he hb hv hs => codeAny_mono (F.run A outer s H args us vs Q E hr he hb hv hs) fun r s' h => by
    unfold CR at h ⊢
    split at h
    · exact h
    · exact h
    · exact h.elim⟩
def spNo : Sp := fun _ _ _ _ => False
end
end HT
namespace HT
open PySem L2
/-- a thing of any kind, with its type's name -/
inductive Th (H : Hp) : V → String → Prop where
  | int (i : Int) : Th H (.int i) "int"
  | bl (b : Bool) : Th H (.bl b) "bool"
  | non : Th H .non "NoneType"
  | str (s : Str) : Th H (.str s) "str"
  | tup {p : Addr} {xs : List V} (h : H p = some (.tup xs)) : Th H (.ref p) "tuple"
  | lst {p : Addr} {xs : List V} (h : H p = some (.lst xs)) : Th H (.ref p) "list"
  | dk {p : Addr} {kvs : List (Key × V)} (h : H p = some (.dK kvs)) : Th H (.ref p) "dict"
theorem Th.ty {K : PySem.W.Frag} {H : Hp} {x : V} {n : String} (t : Th H x n) : TyX K H x (.type n) := by
  cases t with
  | int i => exact .base (.int i)
  | bl b => exact .base (.bl b)
  | non => exact .base .non
  | str s => exact .base (.str s)
  | tup h => exact .base (.tup h)
  | lst h => exact .base (.lst h)
  | dk h => exact .base (.dK h)
theorem Th.kint {K : PySem.W.Frag} {H : Hp} {x : V} {n : String} (t : Th H x n) : PySem.W.kitOne K (.type n) (.type "int") = some (n == "int" || n == "bool") := by
  cases t <;> exact kit_ty (by decide +kernel)
theorem Th.kbool {K : PySem.W.Frag} {H : Hp} {x : V} {n : String} (t : Th H x n) : PySem.W.kitOne K (.type n) (.type "bool") = some (n == "bool") := by
  cases t <;> exact kit_ty (by decide +kernel)
theorem Th.ktup {K : PySem.W.Frag} {H : Hp} {x : V} {n : String} (t : Th H x n) : PySem.W.kitOne K (.type n) (.type "tuple") = some (n == "tuple") := by
  cases t <;> exact kit_ty (by decide +kernel)
theorem Th.klst {K : PySem.W.Frag} {H : Hp} {x : V} {n : String} (t : Th H x n) : PySem.W.kitOne K (.type n) (.type "list") = some (n == "list") := by
  cases t <;> exact kit_ty (by decide +kernel)
theorem Th.same {H H' : Hp} {x : V} {n : String} (t : Th H x n) (s : Same H H') : Th H' x n := by
  cases t with
  | int i => exact .int i
  | bl b => exact .bl b
  | non => exact .non
  | str x => exact .str x
  | tup h => exact .tup (s _ _ h)
  | lst h => exact .lst (s _ _ h)
  | dk h => exact .dk (s _ _ h)
def isI (n : String) : Bool := n == "int"
def spIsAny : Sp := fun vs H Q _ => ∃ (x : V) (n : String), vs = [x] ∧ Th H x n ∧ Q (.bl (isI n)) H
/-- an int between the ends -/
def inB (x : V) (a b : Int) : Bool := match x with
  | .int i => decide (a ≤ i) && decide (i ≤ b)
  | _ => false
def spBetAny : Sp := fun vs H Q _ => ∃ (x : V) (n : String) (a b : Int), vs = [x, .int a, .int b] ∧ Th H x n ∧ Q (.bl (inB x a b)) H
/-- the names that the text of checks does not bind -/
structure ChkT (mg : Str → Option Value) : Prop where
  isi : mg "isinstance" = none
  int : mg "int" = none
  bool : mg "bool" = none
  tuple : mg "tuple" = none
  list : mg "list" = none
  len : mg "len" = none
section
variable {P : Program} {w : World} {K : PySem.W.Frag} {mg : Str → Option Value} {base : Heap} {fI : Addr} {dI : FuncData}
theorem ok_is_any {f : Addr} {fd : FuncData} (F : Fun K "is_int" "is_int" s_is_int f fd) (T : ChkT mg) : FnOk P w K mg base CX0 1 f fd ["thing"] spIsAny := by
  refine F.ok sc_is_int (fun vs H Q E h => ?_) (fun cdv A outer s H vs Q E hr h => ?_)
  · obtain ⟨x, n, rfl, _⟩ := h
    rfl
  · obtain ⟨x, n, rfl, t, q⟩ := h
    refine ⟨_, pss_one (ps_ret (pe_and (pe_callB call_isi (by rfl) T.isi (by decide +kernel) (pa_cons (pv 0) (pa_cons (pe_bltn (v := .ty "int") (by rfl) T.int (by decide +kernel) rfl) pa_nil)))
      (pe_one (pe_not (pe_callB call_isi (by rfl) T.isi (by decide +kernel) (pa_cons (pv 0) (pa_cons (pe_bltn (v := .ty "bool") (by rfl) T.bool (by decide +kernel) rfl) pa_nil))))))), ?_⟩
    walk_at "rd"
    refine ⟨_, _, _, _, _, rfl, .ty "int", t.ty, t.kint, ?_⟩
    walk_at "rd"
    refine ite2 (fun h => ?_) (fun h => ?_)
    · walk_at "rd"
      refine ⟨_, _, _, _, _, rfl, .ty "bool", t.ty, t.kbool, ?_⟩
      walk_at "rd"
      have e : (!(n == "bool")) = isI n := by
        cases t <;> first | rfl | exact absurd h (by decide)
      rw [e]
      exact q
    · have e : isI n = false := by
        cases t <;> first | rfl | exact absurd (by decide) h
      rw [e] at q
      exact q
theorem ok_bet_any {f : Addr} {fd : FuncData} (F : Fun K "is_int_between" "is_int_between" s_is_int_between f fd) (I : Cal P w K mg base "is_int" 1 ["thing"] spIsAny fI dI) : FnOk P w K mg base CX0 2 f fd ["thing", "least", "most"] spBetAny := by
  refine F.ok sc_is_int_between (fun vs H Q E h => ?_) (fun cdv A outer s H vs Q E hr h => ?_)
  · obtain ⟨x, n, a, b, rfl, _⟩ := h
    rfl
  · obtain ⟨x, n, a, b, rfl, t, q⟩ := h
    refine ⟨_, pss_one (ps_ret (pe_and (pcl I hr (by decide) (by rfl) (pa_cons (pv 0) pa_nil)) (pe_one (pe_chain op_le op_le (pv 1) (pv 0) (pv 2))))), ?_⟩
    walk_at "rd"
    refine ⟨x, n, rfl, t, ?_⟩
    cases t with
    | int i =>
      walk_at "rd"
      refine ite2 (fun h => ?_) (fun h => ?_)
      · walk_at "rd"
        change Q (.bl (decide (a ≤ i) && decide (i ≤ b))) H at q
        rw [decide_eq_true (of_decide_eq_true h)] at q
        exact q
      · change Q (.bl (decide (a ≤ i) && decide (i ≤ b))) H at q
        rw [decide_eq_false (of_decide_eq_false (by simpa using h))] at q
        exact q
    | _ => exact ⟨_, rfl, q⟩
end
end HT
namespace HT
open PySem L2
def modesD : List PyData := [.str "down", .str "up", .str "half_down", .str "half_up", .str "half_even"]
/-- a mode's place is taken by something else -/
def NoMode (d : PyData) : Prop := SeqAt.shaped d = true ∧ (modesD.any fun z => PyData.eqv z d) = false
/-- the four classes by number, and their base class at B -/
structure Er (K : PySem.W.Frag) (mg : Str → Option Value) (C : Nat → Addr) (B : Addr) : Prop where
  isi : mg "isinstance" = none
  ve : mg "ValueError" = none
  gB : mg "HandedError" = some (.ref B)
  g0 : mg "InvalidSide" = some (.ref (C 0))
  g1 : mg "InvalidSides" = some (.ref (C 1))
  g3 : mg "InvalidValue" = some (.ref (C 3))
  kit : ∀ i j, (i ≠ 2 ∧ i < 4) → (j ≠ 2 ∧ j < 4) → PySem.W.kitOne K (.ref (C i)) (.ref (C j)) = some (decide (i = j))
  kitV : ∀ i, (i ≠ 2 ∧ i < 4) → PySem.W.kitOne K (.ref (C i)) (.type "ValueError") = some true
  ec : ∀ i, (i ≠ 2 ∧ i < 4) → ErrC K (C i)
  eg : ErrG K
  ex : ∀ i, (i ≠ 2 ∧ i < 4) → PySem.W.excIn K (C i) [.type "ValueError", .type "Exception", .type "BaseException", .type "object"] "ValueError.__new__" = true
  kp : ∀ i, (i ≠ 2 ∧ i < 4) → PySem.W.keepIn K (.ref (C i)) = true
  sb : ∀ i, (i ≠ 2 ∧ i < 4) → PySem.W.subIn K (.ref (C i)) (.type "BaseException") = some true
  ty : ∀ i, (i ≠ 2 ∧ i < 4) → PySem.W.typeIn K (.ref (C i)) = some (.type "type")
  emB : ∀ i, (i ≠ 2 ∧ i < 4) → PySem.W.exmOne K (.ref (C i)) (.ref B) = some true
  em0 : PySem.W.exmOne K (.ref (C 0)) (.ref (C 0)) = some true
/-- flat data, and a list of one text -/
inductive Fl (H : Hp) : V → PyData → Prop where
  | non : Fl H .non .none
  | bl (b : Bool) : Fl H (.bl b) (.bool b)
  | int (i : Int) : Fl H (.int i) (.int i)
  | str (s : Str) : Fl H (.str s) (.str s)
  | one {l : Addr} {s : Str} (h : H l = some (.lst [.str s])) : Fl H (.ref l) (.list [.str s])
theorem Fl.dp {K : PySem.W.Frag} {H : Hp} {c : V} {d : PyData} (f : Fl H c d) : Dp K H c d := by
  cases f with
  | non => exact .non
  | bl b => exact .bl b
  | int i => exact .int i
  | str s => exact .str s
  | one h => exact .lst (SqL.of h) (.cons (.str _) .nil)
theorem Fl.same {H H' : Hp} {c : V} {d : PyData} (f : Fl H c d) (s : Same H H') : Fl H' c d := by
  cases f with
  | non => exact .non
  | bl b => exact .bl b
  | int i => exact .int i
  | str x => exact .str x
  | one h => exact .one (s _ _ h)
/-- no side -/
inductive BadS (K : PySem.W.Frag) (H : Hp) : V → Prop where
  | kind {x : V} {n : String} (t : Th H x n) (h : (n == "tuple") = false) : BadS K H x
  | len {p : Addr} {xs : List V} (hp : H p = some (.tup xs)) (h : ¬ xs.length = 3) : BadS K H (.ref p)
  | off {p : Addr} {a b c : V} {n : String} (hp : H p = some (.tup [a, b, c])) (t : Th H a n) (h : inB a (-10 ^ 40) (10 ^ 40) = false) : BadS K H (.ref p)
  | stp {p : Addr} {a b c : V} {n m : String} (hp : H p = some (.tup [a, b, c])) (t : Th H a n) (h : inB a (-10 ^ 40) (10 ^ 40) = true) (u : Th H b m) (g : inB b 1 (10 ^ 30) = false) : BadS K H (.ref p)
  | mod {p : Addr} {a b c : V} {n m : String} {d : PyData} (hp : H p = some (.tup [a, b, c])) (t : Th H a n) (h : inB a (-10 ^ 40) (10 ^ 40) = true) (u : Th H b m) (g : inB b 1 (10 ^ 30) = true) (dp : Fl H c d) (hd : NoMode d) : BadS K H (.ref p)
theorem BadS.same {K : PySem.W.Frag} {H H' : Hp} {x : V} (b : BadS K H x) (e : Same H H') : BadS K H' x := by
  cases b with
  | kind t h => exact .kind (t.same e) h
  | len hp h => exact .len (e _ _ hp) h
  | off hp t h => exact .off (e _ _ hp) (t.same e) h
  | stp hp t h u g => exact .stp (e _ _ hp) (t.same e) h (u.same e) g
  | mod hp t h u g dp hd => exact .mod (e _ _ hp) (t.same e) h (u.same e) g (dp.same e) hd
def GoodS (H : Hp) (x : V) : Prop := ∃ (p : Addr) (o s : Int) (m : Str), x = .ref p ∧ H p = some (sideV o s m) ∧ SideP o s m
def spValX (C : Nat → Addr) : Sp := fun vs H Q E => ∃ (x : V) (n : String), vs = [x] ∧ Th H x n ∧ (isI n = true → Q .non H) ∧ (isI n = false → E (.ref (C 3)) none H)
def spSideX (K : PySem.W.Frag) (C : Nat → Addr) : Sp := fun vs H Q E => ∃ x : V, vs = [x] ∧ ((GoodS H x ∧ Q .non H) ∨ (BadS K H x ∧ E (.ref (C 0)) none H))
def rNotInT (K : PySem.W.Frag) : R2 := fun x y H Q => ∃ d ds, Dp K H x d ∧ Dp K H y (.tuple ds) ∧ SeqAt.shaped d = true ∧ PyData.canLayAll0 ds = true ∧ PyData.depthAll ds ≤ 60 ∧ Q (.bl (!ds.any fun z => PyData.eqv z d)) H
theorem op_notInT {X : Cx} (hu : X.A.units + 64 < cLine) : OpR X (compareOp .NotIn) (rNotInT X.K) := by
  intro pins sh st H x y v u Q iv rx ry h
  obtain ⟨d, ds, hd, he, sd, se, sz, q⟩ := h
  obtain ⟨as, r1⟩ := Dp.reads iv d x v hd rx
  obtain ⟨bs, r2⟩ := Dp.reads iv (.tuple ds) y u he ry
  refine SeqAt.notIn_tuple_reads r2 r1 se (SeqAt.canLay_of_shaped sd) ?_ ⟨.bl _, H, iv, rfl, q⟩
  have : min (PyData.depthAll ds) d.depth ≤ PyData.depthAll ds := Nat.min_le_left _ _
  omega
/-- the table of modes -/
structure ModT (K : PySem.W.Frag) (mg : Str → Option Value) (aM : Addr) : Prop where
  gM : mg "MODES" = some (.ref aM)
  tM : ∀ H, SqT K H aM modesV
theorem dpModes {K : PySem.W.Frag} {H : Hp} {aM : Addr} (t : SqT K H aM modesV) : Dp K H (.ref aM) (.tuple modesD) := .tup t (.cons (.str _) (.cons (.str _) (.cons (.str _) (.cons (.str _) (.cons (.str _) .nil)))))
theorem mode_inX {m : Str} (h : Mode m) : SeqAt.shaped (.str m) = true ∧ (modesD.any fun z => PyData.eqv z (.str m)) = true := by
  rcases h with e | e | e | e | e <;> subst e <;> decide +kernel
section
variable {P : Program} {w : World} {K : PySem.W.Frag} {mg : Str → Option Value} {base : Heap} {aM fI fB fV fC fL fN fW B : Addr} {dI dB dV dC dL dN dW : FuncData} {C : Nat → Addr}
theorem ok_val_x {f : Addr} {fd : FuncData} (F : Fun K "check_value" "check_value" s_check_value f fd) (R : Er K mg C B) (I : Cal P w K mg base "is_int" 1 ["thing"] spIsAny fI dI) : FnOk P w K mg base (L2.CX P w) 2 f fd ["value"] (spValX C) := by
  refine F.okX sc_check_value (fun vs H Q E h => ?_) (fun cdv A outer s H vs Q E hr h => ?_)
  · obtain ⟨x, n, rfl, _⟩ := h
    rfl
  · obtain ⟨x, n, rfl, t, q1, q2⟩ := h
    refine ⟨_, pss_one (ps_if (pt_not (pt_val (pcl I hr (by decide) (by rfl) (pa_cons (pv 0) pa_nil)))) (pss_one (ps_raise rfl (takes_of rfl rfl rfl rfl) (pmk_own PySem.F.excBase_ValueError (R.ex 3 (by decide)) R.g3 (R.kp 3 (by decide)) (raises_own (R.sb 3 (by decide)) (R.ty 3 (by decide))) (by rfl)))) pss_nil), ?_⟩
    walk_at "rd"
    refine ⟨x, n, rfl, t, ?_⟩
    walk_at "rd"
    refine ite2 (fun h => ?_) (fun h => ?_)
    · exact q2 (by simpa using h)
    · exact q1 (not_f h)
end
end HT
namespace HT
open PySem L2
section
variable {P : Program} {w : World} {K : PySem.W.Frag} {mg : Str → Option Value} {base : Heap} {aM fI fB fV fC fL fN fW B : Addr} {dI dB dV dC dL dN dW : FuncData} {C : Nat → Addr}
theorem ok_side_x {f : Addr} {fd : FuncData} (F : Fun K "check_side" "check_side" s_check_side f fd) (T : ChkT mg) (M : ModT K mg aM) (R : Er K mg C B) (Bt : Cal P w K mg base "is_int_between" 2 ["thing", "least", "most"] spBetAny fB dB) : FnOk P w K mg base (L2.CX P w) 3 f fd ["side"] (spSideX K C) := by
  refine F.okAny sc_check_side (fun vs H Q E h => ?_) (fun cdv A outer s0 H vs Q E hr h => ?_)
  · obtain ⟨x, rfl, _⟩ := h
    rfl
  · obtain ⟨x, rfl, h⟩ := h
    have nd := sc_check_side.nd
    refine ⟨_, pss_cons (ps_if (PW.pt (pw_or (pt_not (pt_val (pe_callB call_isi (by rfl) T.isi (by decide +kernel) (pa_cons (pv 0) (pa_cons (pe_bltn (v := .ty "tuple") (by rfl) T.tuple (by decide +kernel) rfl) pa_nil)))))
        (pw_or1 (pt_cmpR op_ne (pe_callB call_len_seq (by rfl) T.len PySem.boot_len (pa_cons (pv 0) pa_nil)) pe_int (nomark _))))) (pss_one (ps_raise rfl (takes_of rfl rfl rfl rfl) (pmk_own PySem.F.excBase_ValueError (R.ex 0 (by decide)) R.g0 (R.kp 0 (by decide)) (raises_own (R.sb 0 (by decide)) (R.ty 0 (by decide))) (by rfl)))) pss_nil)
      (pss_cons (ps_asg (pv 0) (pg_tup (by rfl) (pgs_cons (pg_name (i := 1) nd rfl (Or.inl rfl)) (pgs_cons (pg_name (i := 2) nd rfl (Or.inl rfl)) (pgs_cons (pg_name (i := 3) nd rfl (Or.inl rfl)) pgs_nil)))))
      (pss_cons (ps_if (pt_not (pt_val (pcl Bt hr (by decide) (by rfl) (pa_cons (pv 1) (pa_cons (pe_un un_neg (pe_op op_pow pe_int pe_int)) (pa_cons (pe_op op_pow pe_int pe_int) pa_nil)))))) (pss_one (ps_raise rfl (takes_of rfl rfl rfl rfl) (pmk_own PySem.F.excBase_ValueError (R.ex 0 (by decide)) R.g0 (R.kp 0 (by decide)) (raises_own (R.sb 0 (by decide)) (R.ty 0 (by decide))) (by rfl)))) pss_nil)
      (pss_cons (ps_if (pt_not (pt_val (pcl Bt hr (by decide) (by rfl) (pa_cons (pv 2) (pa_cons pe_int (pa_cons (pe_op op_pow pe_int pe_int) pa_nil)))))) (pss_one (ps_raise rfl (takes_of rfl rfl rfl rfl) (pmk_own PySem.F.excBase_ValueError (R.ex 0 (by decide)) R.g0 (R.kp 0 (by decide)) (raises_own (R.sb 0 (by decide)) (R.ty 0 (by decide))) (by rfl)))) pss_nil)
      (pss_one (ps_if (pt_cmpR (op_notInT hr.units) (pv 3) (pe_glob (v := .ref aM) (by rfl) M.gM rfl) (by rfl)) (pss_one (ps_raise rfl (takes_of rfl rfl rfl rfl) (pmk_own PySem.F.excBase_ValueError (R.ex 0 (by decide)) R.g0 (R.kp 0 (by decide)) (raises_own (R.sb 0 (by decide)) (R.ty 0 (by decide))) (by rfl)))) pss_nil))))), ?_⟩
    walk_at "rd"
    rcases h with ⟨⟨p, o, s, m, rfl, hp, S⟩, q⟩ | ⟨bad, q⟩
    · refine ⟨_, _, _, _, _, rfl, .ty "tuple", .base (.tup hp), kit_ty (r := true) (by decide +kernel), ?_⟩
      walk_at "rd"
      refine ⟨p, _, rfl, .inr (SqT.of hp), rfl, ?_⟩
      walk_at "rd"
      refine ⟨p, _, rfl, SqT.of hp, rfl, _, _, rfl, _, _, rfl, _, _, rfl, rfl, ?_⟩
      walk_at "rd"
      refine ⟨⟨by decide, by decide, by decide⟩, ?_⟩
      walk_at "rd"
      refine ⟨⟨by decide, by decide, by decide⟩, _, _, _, _, rfl, .int o, ?_⟩
      have e1 : inB (.int o) (-(10 : Int) ^ (40 : Int).toNat) ((10 : Int) ^ (40 : Int).toNat) = true := by
        show (decide (-(10 : Int) ^ (40 : Int).toNat ≤ o) && decide (o ≤ (10 : Int) ^ (40 : Int).toNat)) = true
        rw [decide_eq_true (show -(10 : Int) ^ (40 : Int).toNat ≤ o from S.o0), decide_eq_true (show o ≤ (10 : Int) ^ (40 : Int).toNat from S.o1)]
        rfl
      refine ⟨_, rfl, ?_⟩
      refine ite2 (fun h => (not_t h e1).elim) (fun _ => ?_)
      walk_at "rd"
      refine ⟨⟨by decide, by decide, by decide⟩, _, _, _, _, rfl, .int s, ?_⟩
      have e2 : inB (.int s) 1 ((10 : Int) ^ (30 : Int).toNat) = true := by
        show (decide ((1 : Int) ≤ s) && decide (s ≤ (10 : Int) ^ (30 : Int).toNat)) = true
        rw [decide_eq_true S.s0, decide_eq_true (show s ≤ (10 : Int) ^ (30 : Int).toNat from S.s1)]
        rfl
      refine ⟨_, rfl, ?_⟩
      refine ite2 (fun h => (not_t h e2).elim) (fun _ => ?_)
      walk_at "rd"
      refine ⟨_, _, .str m, dpModes (M.tM H), (mode_inX S.md).1, by decide +kernel, by decide +kernel, ?_⟩
      walk_at "rd"
      refine ite2 (fun h => (not_t h (mode_inX S.md).2).elim) (fun _ => ?_)
      exact q
    · cases bad with
      | kind t h =>
        refine ⟨_, _, _, _, _, rfl, .ty "tuple", t.ty, t.ktup, ?_⟩
        walk_at "rd"
        refine ite2 (fun _ => ?_) (fun z => absurd (by rw [h]; rfl) z)
        exact q
      | len hp h =>
        refine ⟨_, _, _, _, _, rfl, .ty "tuple", .base (.tup hp), kit_ty (r := true) (by decide +kernel), ?_⟩
        walk_at "rd"
        refine ⟨_, _, rfl, .inr (SqT.of hp), ?_⟩
        walk_at "rd"
        refine ⟨rfl, ?_⟩
        walk_at "rd"
        refine ite2 (fun _ => q) (fun z => absurd ?_ z)
        rw [dec_int, decide_eq_false (fun y => h (by omega))]
        rfl
      | off hp t h =>
        refine ⟨_, _, _, _, _, rfl, .ty "tuple", .base (.tup hp), kit_ty (r := true) (by decide +kernel), ?_⟩
        walk_at "rd"
        refine ⟨_, _, rfl, .inr (SqT.of hp), rfl, ?_⟩
        walk_at "rd"
        refine ⟨_, _, rfl, SqT.of hp, rfl, _, _, rfl, _, _, rfl, _, _, rfl, rfl, ?_⟩
        walk_at "rd"
        refine ⟨⟨by decide, by decide, by decide⟩, ?_⟩
        walk_at "rd"
        refine ⟨⟨by decide, by decide, by decide⟩, _, _, _, _, rfl, t, ?_⟩
        refine ⟨_, rfl, ?_⟩
        exact ite2 (fun _ => q) (fun z => absurd (by rw [show inB _ (-(10 : Int) ^ (40 : Int).toNat) ((10 : Int) ^ (40 : Int).toNat) = false from h]; rfl) z)
      | stp hp t h u g =>
        refine ⟨_, _, _, _, _, rfl, .ty "tuple", .base (.tup hp), kit_ty (r := true) (by decide +kernel), ?_⟩
        walk_at "rd"
        refine ⟨_, _, rfl, .inr (SqT.of hp), rfl, ?_⟩
        walk_at "rd"
        refine ⟨_, _, rfl, SqT.of hp, rfl, _, _, rfl, _, _, rfl, _, _, rfl, rfl, ?_⟩
        walk_at "rd"
        refine ⟨⟨by decide, by decide, by decide⟩, ?_⟩
        walk_at "rd"
        refine ⟨⟨by decide, by decide, by decide⟩, _, _, _, _, rfl, t, ?_⟩
        refine ⟨_, rfl, ?_⟩
        refine ite2 (fun z => (not_t z (show inB _ (-(10 : Int) ^ (40 : Int).toNat) ((10 : Int) ^ (40 : Int).toNat) = true from h)).elim) (fun _ => ?_)
        walk_at "rd"
        refine ⟨⟨by decide, by decide, by decide⟩, _, _, _, _, rfl, u, ?_⟩
        refine ⟨_, rfl, ?_⟩
        exact ite2 (fun _ => q) (fun z => absurd (by rw [show inB _ 1 ((10 : Int) ^ (30 : Int).toNat) = false from g]; rfl) z)
      | mod hp t h u g dp hd =>
        refine ⟨_, _, _, _, _, rfl, .ty "tuple", .base (.tup hp), kit_ty (r := true) (by decide +kernel), ?_⟩
        walk_at "rd"
        refine ⟨_, _, rfl, .inr (SqT.of hp), rfl, ?_⟩
        walk_at "rd"
        refine ⟨_, _, rfl, SqT.of hp, rfl, _, _, rfl, _, _, rfl, _, _, rfl, rfl, ?_⟩
        walk_at "rd"
        refine ⟨⟨by decide, by decide, by decide⟩, ?_⟩
        walk_at "rd"
        refine ⟨⟨by decide, by decide, by decide⟩, _, _, _, _, rfl, t, ?_⟩
        refine ⟨_, rfl, ?_⟩
        refine ite2 (fun z => (not_t z (show inB _ (-(10 : Int) ^ (40 : Int).toNat) ((10 : Int) ^ (40 : Int).toNat) = true from h)).elim) (fun _ => ?_)
        walk_at "rd"
        refine ⟨⟨by decide, by decide, by decide⟩, _, _, _, _, rfl, u, ?_⟩
        refine ⟨_, rfl, ?_⟩
        refine ite2 (fun z => (not_t z (show inB _ 1 ((10 : Int) ^ (30 : Int).toNat) = true from g)).elim) (fun _ => ?_)
        walk_at "rd"
        refine ⟨_, _, dp.dp, dpModes (M.tM H), hd.1, by decide +kernel, by decide +kernel, ?_⟩
        walk_at "rd"
        refine ite2 (fun _ => q) (fun z => absurd (by rw [hd.2]; rfl) z)
end
end HT
namespace HT
open PySem L2
def GoodL (H : Hp) (l : Addr) (xs : List V) : Prop := H l = some (.lst xs) ∧ 1 ≤ xs.length ∧ xs.length ≤ 4 ∧ ∀ y ∈ xs, GoodS H y
/-- no list of sides -/
inductive BadL (K : PySem.W.Frag) (H : Hp) : V → Prop where
  | kind {x : V} {n : String} (t : Th H x n) (h : (n == "list") = false) : BadL K H x
  | len {l : Addr} {xs : List V} (hl : H l = some (.lst xs)) (h : ¬ (1 ≤ xs.length ∧ xs.length ≤ 4)) : BadL K H (.ref l)
  | item {l : Addr} {xs : List V} {i : Nat} {y : V} (hl : H l = some (.lst xs)) (h1 : 1 ≤ xs.length) (h2 : xs.length ≤ 4) (hi : xs[i]? = some y) (bad : BadS K H y) (good : ∀ j z, j < i → xs[j]? = some z → GoodS H z) : BadL K H (.ref l)
def spIsSideX (K : PySem.W.Frag) : Sp := fun vs H Q _ => ∃ x : V, vs = [x] ∧ ((GoodS H x ∧ Q (.bl true) H) ∨ (BadS K H x ∧ Q (.bl false) H))
def spSidesX (K : PySem.W.Frag) (C : Nat → Addr) : Sp := fun vs H Q E => ∃ x : V, vs = [x] ∧ ((∃ l xs, x = .ref l ∧ GoodL H l xs ∧ Q .non H) ∨ (BadL K H x ∧ E (.ref (C 1)) none H))
/-- the numbers of among's top -/
structure AmT (mg : Str → Option Value) : Prop where
  ms : ∃ t, mg "MOST_SIDES" = some (.int 4 t)
section
variable {P : Program} {w : World} {K : PySem.W.Frag} {mg : Str → Option Value} {base : Heap} {aM fI fB fV fC fL fN fW B : Addr} {dI dB dV dC dL dN dW : FuncData} {C : Nat → Addr}
end
end HT
namespace L2
open PySem PySem.Spec PyProof.Rows
/-- xs.count(y) of flat things -/
def rCntV (K : PySem.W.Frag) : V → List V → Hp → VK → Prop := fun x xs H Q => ∃ (p : Addr) (ys : List V) (y : V), x = .ref p ∧ xs = [y] ∧ SqL K H p ys ∧ flatV y = true ∧ ys.all flatV = true ∧ Q (.int (ys.countP (fun z => eqV z y) : Nat)) H
theorem count_eqU {x : V} : ∀ {xs : List V} {us : List Value}, Vals xs us → xs.all flatV = true → us.countP (eqU x) = xs.countP fun y => eqV y x
  | _, _, .nil, _ => rfl
  | y :: xs, u :: us, .cons r t, f => by
    obtain ⟨f1, f2⟩ := Bool.and_eq_true_iff.mp (List.all_cons ▸ f)
    rw [List.countP_cons, List.countP_cons, eqU_of r f1, count_eqU t f2]
theorem mt_cntV {X : Cx} : MtR X "list.count" (rCntV X.K) := by
  intro pins sh st H x xs v us Q iv rx rxs h
  obtain ⟨p, ys, y, rfl, rfl, hs, fy, fys, q⟩ := h
  cases rx
  obtain ⟨u, rfl, ru⟩ := rxs.one
  obtain ⟨its, rv, ⟨⟨cls, dd, data, sl⟩, n, ho, hc, hdn, hd⟩, hlen⟩ := iv.list hs
  dsimp only at hc hd
  subst hc hd
  refine call_meets PySem.F.slot_list_count ⟨_, ho, rfl⟩ PySem.F.entry_list_count (PySem.F.args_list_count_2 _ _) (SeqAt.list_countAt p its.toArray n dd sl u (eqU y)) ⟨ho, fun w hw => mem_eqAt ru fy rv fys w (by simpa using hw), ?_⟩
  refine ⟨.int (ys.countP (fun z => eqV z y) : Nat), H, iv.tok _, ⟨sh.toks, ?_⟩, q⟩
  rw [show its.toArray.toList.countP (eqU y) = ys.countP (fun z => eqV z y) from count_eqU rv fys]
end L2
namespace HT
open PySem L2
theorem same_upd {H : Hp} {a : Addr} {o : HO} (h : H a = none) : Same H (upd H a o) := fun b u z => (upd_ne (ne_of_none z h)).trans z
def spExchX (K : PySem.W.Frag) (C : Nat → Addr) : Sp := fun vs H _ E => ∃ x y z : V, vs = [x, y, z] ∧ ((BadS K H x ∧ E (.ref (C 0)) none H) ∨ (GoodS H x ∧ BadS K H y ∧ E (.ref (C 0)) none H) ∨ (∃ n, GoodS H x ∧ GoodS H y ∧ Th H z n ∧ isI n = false ∧ E (.ref (C 3)) none H))
def spWord14 (K : PySem.W.Frag) : Sp := fun vs H Q _ => ∃ x y z : V, vs = [x, y, z] ∧ ((BadS K H x ∧ ∀ H', Same H H' → Q (.str "side") H') ∨ (GoodS H x ∧ BadS K H y ∧ ∀ H', Same H H' → Q (.str "side") H') ∨ (∃ n, GoodS H x ∧ GoodS H y ∧ Th H z n ∧ isI n = false ∧ ∀ H', Same H H' → Q (.str "value") H'))
section
variable {P : Program} {w : World} {K : PySem.W.Frag} {mg : Str → Option Value} {base : Heap} {fA fB B : Addr} {dA dB : FuncData} {C : Nat → Addr}
theorem ok_exch_x {f : Addr} {fd : FuncData} (F : Fun K "exchange" "exchange" s_exchange f fd) (Ck : CalX P w K mg base "check_side" 3 ["side"] (spSideX K C) fA dA) (Vl : CalX P w K mg base "check_value" 2 ["value"] (spValX C) fB dB) : FnOk P w K mg base (L2.CX P w) 4 f fd ["first", "second", "value"] (spExchX K C) := by
  refine F.okAny sc_exchange (fun vs H Q E h => ?_) (fun cdv A outer s0 H vs Q E hr h => ?_)
  · obtain ⟨x, y, z, rfl, _⟩ := h
    rfl
  · obtain ⟨x, y, z, rfl, h⟩ := h
    refine ⟨_, pss_cons (ps_expr (pcx Ck hr (by decide) (by rfl) (takes_of rfl rfl rfl rfl) (pa_cons (pv 0) pa_nil))) (pss_cons (ps_expr (pcx Ck hr (by decide) (by rfl) (takes_of rfl rfl rfl rfl) (pa_cons (pv 1) pa_nil))) (pss_cons (ps_expr (pcx Vl hr (by decide) (by rfl) (takes_of rfl rfl rfl rfl) (pa_cons (pv 2) pa_nil))) (pss_cons ps_never (pss_cons ps_never (pss_cons ps_never (pss_cons ps_never (pss_one ps_never))))))), ?_⟩
    walk_at "rd"
    rcases h with ⟨bad, q⟩ | ⟨gl, bad, q⟩ | ⟨n, gx, gy, ty, ni, q⟩
    · exact .inr ⟨bad, q⟩
    · refine .inl ⟨gl, ?_⟩
      walk_at "rd"
      exact .inr ⟨bad, q⟩
    · refine .inl ⟨gx, ?_⟩
      walk_at "rd"
      refine .inl ⟨gy, ?_⟩
      walk_at "rd"
      exact ⟨_, n, rfl, ty, fun z => absurd z (by rw [ni]; decide), fun _ => q⟩
theorem ok_L_word {f : Addr} {fd : FuncData} (F : Fun K "_law_word" "_law_word" s_L_word f fd) (R : Er K mg C B) (Ex : CalX P w K mg base "exchange" 4 ["first", "second", "value"] (spExchX K C) fA dA) : FnOk P w K mg base CX0 5 f fd ["_law_one", "_law_other", "_law_value"] (spWord14 K) := by
  refine F.ok sc_L_word (fun vs H Q E h => ?_) (fun cdv A outer s0 H vs Q E hr h => ?_)
  · obtain ⟨x, y, z, rfl, _⟩ := h
    rfl
  · obtain ⟨x, y, z, rfl, h⟩ := h
    have nd := sc_L_word.nd
    refine ⟨_, pss_cons (ps_set (i := 3) nd rfl (Or.inl rfl) pe_non)
      (pss_cons (ps_mid (ps_try_keep (i := 4) rfl rfl rfl nd rfl rfl ⟨rfl, by decide, .inl R.gB⟩ takes0 (fun W pn xe tk _ => pss_one (ps_expr (pcx Ex hr (by decide) (by rfl) tk (pa_cons (pv 0) (pa_cons (pv 1) (pa_cons (pv 2) pa_nil))))))
        (fun a rc kl dd pn hz hf => pss_one (ps_set (i := 3) nd rfl (Or.inl rfl) (pv 4)))))
      (pss_cons (ps_if (pt_cmpR op_isN (pv 3) pe_non (nomark _)) (pss_one (ps_ret pe_str)) pss_nil)
      (pss_cons (ps_set (i := 5) nd rfl (Or.inl rfl) (pe_lst (pa_cons (pe_callB call_isKept (by rfl) R.isi (by decide +kernel) (pa_cons (pv 3) (pa_cons (pe_glob (v := .ref (C 0)) (by rfl) R.g0 rfl) pa_nil))) (pa_cons (pe_callB call_isKept (by rfl) R.isi (by decide +kernel) (pa_cons (pv 3) (pa_cons (pe_glob (v := .ref (C 3)) (by rfl) R.g3 rfl) pa_nil))) (pa_cons (pe_callB call_isKept (by rfl) R.isi (by decide +kernel) (pa_cons (pv 3) (pa_cons (pe_glob (v := .ref (C 1)) (by rfl) R.g1 rfl) pa_nil))) pa_nil)))))
      (pss_cons (ps_if (PW.pt (pw_or (pt_cmpR op_ne (pe_bm PySem.F.plainAttrs_list PySem.F.slot_list_count PySem.F.type_list_count mt_cntV (pv 5) (pa_cons pe_bl pa_nil)) pe_int (nomark _)) (pw_or1 (pt_not (pt_val (pe_callB call_isKept (by rfl) R.isi (by decide +kernel) (pa_cons (pv 3) (pa_cons (pe_bltn (v := .ty "ValueError") (by rfl) R.ve (by decide +kernel) rfl) pa_nil)))))))) (pss_one (ps_ret pe_str)) pss_nil)
      (pss_one (ps_ret (pe_ix ix_list (pe_lst (pa_cons pe_str (pa_cons pe_str (pa_cons pe_str pa_nil)))) (pe_bm PySem.F.plainAttrs_list PySem.F.slot_list_index PySem.F.type_list_index mt_index (pv 5) (pa_cons pe_bl pa_nil)) (fun _ _ => rfl)))))))), ?_⟩
    walk_at "rd"
    refine ⟨fun st H1 => ∃ (a : Addr) (n : Nat) (x5 : Option V), st = [some x, some y, some z, some (.ref a), x5, none] ∧ Same H H1 ∧ H1 a = some (ExK (.ref (C n)) a) ∧
      ((n = 0 ∧ ∀ H', Same H H' → Q (.str "side") H') ∨ (n = 3 ∧ ∀ H', Same H H' → Q (.str "value") H')), ?_, ?_⟩
    · walk_at "rd"
      rcases h with ⟨bad, q⟩ | ⟨gl, bad, q⟩ | ⟨n, gx, gy, ty, ni, q⟩
      · refine ⟨_, _, _, rfl, .inl ⟨bad, ?_⟩⟩
        refine ⟨true, R.emB 0 (by decide), fun _ => ⟨rfl, fun a ha => ?_⟩, fun z => Bool.noConfusion z⟩
        walk_at "rd"
        exact ⟨a, 0, _, rfl, same_upd ha, upd_same, .inl ⟨rfl, q⟩⟩
      · refine ⟨_, _, _, rfl, .inr (.inl ⟨gl, bad, ?_⟩)⟩
        refine ⟨true, R.emB 0 (by decide), fun _ => ⟨rfl, fun a ha => ?_⟩, fun z => Bool.noConfusion z⟩
        walk_at "rd"
        exact ⟨a, 0, _, rfl, same_upd ha, upd_same, .inl ⟨rfl, q⟩⟩
      · refine ⟨_, _, _, rfl, .inr (.inr ⟨n, gx, gy, ty, ni, ?_⟩)⟩
        refine ⟨true, R.emB 3 (by decide), fun _ => ⟨rfl, fun a ha => ?_⟩, fun z => Bool.noConfusion z⟩
        walk_at "rd"
        exact ⟨a, 3, _, rfl, same_upd ha, upd_same, .inr ⟨rfl, q⟩⟩
    rintro st H1 ⟨a, n, x5, rfl, s1, ga, hn⟩
    clear h
    walk_at "rd"
    rcases hn with ⟨rfl, qq⟩ | ⟨rfl, qq⟩
    · skip
      refine ⟨rfl, ?_⟩
      walk_at "rd"
      refine ⟨a, C 0, _, .ref (C 0), decide (0 = 0), rfl, .own _, ga, R.ec 0 (by decide), R.eg, R.kit 0 0 (by decide) (by decide), ?_⟩
      walk_at "rd"
      refine ⟨a, C 0, _, .ref (C 3), decide (0 = 3), rfl, .own _, ga, R.ec 0 (by decide), R.eg, R.kit 0 3 (by decide) (by decide), ?_⟩
      walk_at "rd"
      refine ⟨a, C 0, _, .ref (C 1), decide (0 = 1), rfl, .own _, ga, R.ec 0 (by decide), R.eg, R.kit 0 1 (by decide) (by decide), ?_⟩
      walk_at "rd"
      refine ⟨(by show 3 ≤ sizeLine; decide), fun l1 nl1 => ?_⟩
      have hl1 : upd H1 l1 (.lst [V.bl (decide (0 = 0)), .bl (decide (0 = 3)), .bl (decide (0 = 1))]) l1 = some (.lst [V.bl (decide (0 = 0)), .bl (decide (0 = 3)), .bl (decide (0 = 1))]) := upd_same
      have eb1 : Same H1 (upd H1 l1 (.lst [V.bl (decide (0 = 0)), .bl (decide (0 = 3)), .bl (decide (0 = 1))])) := same_upd nl1
      generalize upd H1 l1 (.lst [V.bl (decide (0 = 0)), .bl (decide (0 = 3)), .bl (decide (0 = 1))]) = HX at eb1 hl1 ⊢
      walk_at "rd"
      refine ⟨.inl ⟨rfl, _, SqL.of hl1⟩, ?_⟩
      walk_at "rd"
      refine ⟨l1, _, .bl true, rfl, rfl, SqL.of hl1, rfl, rfl, ?_⟩
      walk_at "rd"
      refine ⟨rfl, ?_⟩
      walk_at "rd"
      refine ⟨a, C 0, _, .type "ValueError", true, rfl, .ty _, eb1 _ _ ga, R.ec 0 (by decide), R.eg, R.kitV 0 (by decide), ?_⟩
      walk_at "rd"
      refine ⟨(by show 3 ≤ sizeLine; decide), fun l4 nl4 => ?_⟩
      have hl4 : upd HX l4 (.lst [V.str "side", .str "value", .str "sides"]) l4 = some (.lst [V.str "side", .str "value", .str "sides"]) := upd_same
      have eb4 : Same HX (upd HX l4 (.lst [V.str "side", .str "value", .str "sides"])) := same_upd nl4
      generalize upd HX l4 (.lst [V.str "side", .str "value", .str "sides"]) = HY at eb4 hl4 ⊢
      walk_at "rd"
      refine ⟨.inl ⟨rfl, _, SqL.of (eb4 _ _ hl1)⟩, ?_⟩
      walk_at "rd"
      refine ⟨l1, _, .bl true, 0, .bl true, rfl, rfl, SqL.of (eb4 _ _ hl1), rfl, rfl, rfl, rfl, fun m z' hm hz => ?_, ?_⟩
      · exact absurd hm (Nat.not_lt_zero _)
      refine ⟨l4, _, _, _, rfl, rfl, SqL.of hl4, rfl, ?_⟩
      exact qq _ (s1.trans (eb1.trans eb4))
    · skip
      refine ⟨rfl, ?_⟩
      walk_at "rd"
      refine ⟨a, C 3, _, .ref (C 0), decide (3 = 0), rfl, .own _, ga, R.ec 3 (by decide), R.eg, R.kit 3 0 (by decide) (by decide), ?_⟩
      walk_at "rd"
      refine ⟨a, C 3, _, .ref (C 3), decide (3 = 3), rfl, .own _, ga, R.ec 3 (by decide), R.eg, R.kit 3 3 (by decide) (by decide), ?_⟩
      walk_at "rd"
      refine ⟨a, C 3, _, .ref (C 1), decide (3 = 1), rfl, .own _, ga, R.ec 3 (by decide), R.eg, R.kit 3 1 (by decide) (by decide), ?_⟩
      walk_at "rd"
      refine ⟨(by show 3 ≤ sizeLine; decide), fun l1 nl1 => ?_⟩
      have hl1 : upd H1 l1 (.lst [V.bl (decide (3 = 0)), .bl (decide (3 = 3)), .bl (decide (3 = 1))]) l1 = some (.lst [V.bl (decide (3 = 0)), .bl (decide (3 = 3)), .bl (decide (3 = 1))]) := upd_same
      have eb1 : Same H1 (upd H1 l1 (.lst [V.bl (decide (3 = 0)), .bl (decide (3 = 3)), .bl (decide (3 = 1))])) := same_upd nl1
      generalize upd H1 l1 (.lst [V.bl (decide (3 = 0)), .bl (decide (3 = 3)), .bl (decide (3 = 1))]) = HX at eb1 hl1 ⊢
      walk_at "rd"
      refine ⟨.inl ⟨rfl, _, SqL.of hl1⟩, ?_⟩
      walk_at "rd"
      refine ⟨l1, _, .bl true, rfl, rfl, SqL.of hl1, rfl, rfl, ?_⟩
      walk_at "rd"
      refine ⟨rfl, ?_⟩
      walk_at "rd"
      refine ⟨a, C 3, _, .type "ValueError", true, rfl, .ty _, eb1 _ _ ga, R.ec 3 (by decide), R.eg, R.kitV 3 (by decide), ?_⟩
      walk_at "rd"
      refine ⟨(by show 3 ≤ sizeLine; decide), fun l4 nl4 => ?_⟩
      have hl4 : upd HX l4 (.lst [V.str "side", .str "value", .str "sides"]) l4 = some (.lst [V.str "side", .str "value", .str "sides"]) := upd_same
      have eb4 : Same HX (upd HX l4 (.lst [V.str "side", .str "value", .str "sides"])) := same_upd nl4
      generalize upd HX l4 (.lst [V.str "side", .str "value", .str "sides"]) = HY at eb4 hl4 ⊢
      walk_at "rd"
      refine ⟨.inl ⟨rfl, _, SqL.of (eb4 _ _ hl1)⟩, ?_⟩
      walk_at "rd"
      refine ⟨l1, _, .bl true, 1, .bl true, rfl, rfl, SqL.of (eb4 _ _ hl1), rfl, rfl, rfl, rfl, fun m z' hm hz => ?_, ?_⟩
      · obtain rfl : m = 0 := by omega
        cases hz
        rfl
      refine ⟨l4, _, _, _, rfl, rfl, SqL.of hl4, rfl, ?_⟩
      exact qq _ (s1.trans (eb1.trans eb4))
end
end HT
namespace HT
open PySem L2
def kS (x : Str) : Key := Sum.inr x
def five (a b c d e : V) : List (Key × V) := putK (mergeK [] [(kS "down", a), (kS "up", b), (kS "half_down", c), (kS "half_up", d)]) (kS "half_even") e
theorem five_d {a b c d e : V} : valV (five a b c d e) (kS "down") = some a := by rfl
theorem five_u {a b c d e : V} : valV (five a b c d e) (kS "up") = some b := by rfl
theorem five_hd {a b c d e : V} : valV (five a b c d e) (kS "half_down") = some c := by rfl
theorem five_hu {a b c d e : V} : valV (five a b c d e) (kS "half_up") = some d := by rfl
theorem five_he {a b c d e : V} : valV (five a b c d e) (kS "half_even") = some e := by rfl
theorem five_at {f : Str → V} {m : Str} (hm : Mode m) : valV (five (f "down") (f "up") (f "half_down") (f "half_up") (f "half_even")) (kS m) = some (f m) := by
  rcases hm with e | e | e | e | e <;> subst e
  · exact five_d
  · exact five_u
  · exact five_hd
  · exact five_hu
  · exact five_he
theorem cgt (a b : Int) : decide (a > b) = decide (b < a) := rfl
theorem cge (a b : Int) : decide (a ≥ b) = decide (b ≤ a) := rfl
def spEdge : Sp := fun vs H Q _ => ∃ (p : Addr) (o s : Int) (m : Str) (k : Int), vs = [.ref p, .int k] ∧ H p = some (sideV o s m) ∧ SideP o s m ∧ BdK k ∧ ∀ H', Same H H' → Q (.int (lowM o s m k)) H'
def spLeast : Sp := fun vs H Q _ => ∃ (p : Addr) (o s : Int) (m : Str) (v : Int), vs = [.ref p, .int v] ∧ H p = some (sideV o s m) ∧ SideP o s m ∧ (-2 ^ 700 < v ∧ v < 2 ^ 700) ∧ ∀ H', Same H H' → Q (.int (backM o s m v)) H'
theorem due_fig {o s v : Int} {m : Str} : dueM o s m v = o + s * ((v - o) / s + if goesUp m s ((v - o) / s) ((v - o) % s) = true then 1 else 0) := by
  unfold dueM figM
  split
  · rfl
  · rw [Int.add_zero]
section
variable {P : Program} {w : World} {K : PySem.W.Frag} {mg : Str → Option Value} {base : Heap} {fD fP fG fT fS fE : Addr} {dD dP dG dT dS dE : FuncData}
theorem ok_written {f : Addr} {fd : FuncData} (F : Fun K "_law_written" "_law_written" s_L_written f fd) (B : Blt mg) : FnOk P w K mg base CX0 1 f fd ["_law_side_here", "_law_value"] spDue := by
  refine F.ok sc_L_written (fun vs H Q E h => ?_) (fun cdv A outer s H vs Q E hr h => ?_)
  · obtain ⟨p, o, s, m, v, rfl, _⟩ := h
    rfl
  · obtain ⟨p, o, s, m, v, rfl, hp, S, hv, q⟩ := h
    have nd := sc_L_written.nd
    have hu := hu_of hr
    refine ⟨_, (pss_cons (ps_asg (pv 0) (pg_tup (by rfl) (pgs_cons (pg_name (i := 2) nd rfl (Or.inl rfl)) (pgs_cons (pg_name (i := 3) nd rfl (Or.inl rfl)) (pgs_cons (pg_name (i := 4) nd rfl (Or.inl rfl)) pgs_nil)))))
      (pss_cons (ps_set (i := 5) nd rfl (Or.inl rfl) (pe_op op_fdivW (pe_op op_sub (pv 1) (pv 2)) (pv 3)))
      (pss_cons (ps_set (i := 6) nd rfl (Or.inl rfl) (pe_op op_mod (pe_callTy call_int1 (by rfl) B.int (by decide +kernel) (pa_cons (pe_op op_sub (pv 1) (pv 2)) pa_nil)) (pv 3)))
      (pss_cons (ps_set (i := 7) nd rfl (Or.inl rfl) (pe_disp (pps_cons pe_str pe_bl (pps_cons pe_str (pe_cmpR op_gt (pv 6) pe_int (nomark _)) (pps_cons pe_str (pe_cmpR op_gt (pe_op op_mul pe_int (pv 6)) (pv 3) (nomark _)) (pps_cons pe_str (pe_cmpR op_ge (pe_op op_mul pe_int (pv 6)) (pv 3) (nomark _)) pps_nil)))) (by rfl) (by rfl) (fun z => by cases z) (by decide)))
      (pss_cons (ps_dput hu (pv 7) pe_str (pe_or (pe_cmpR op_gt (pe_op op_mul pe_int (pv 6)) (pv 3) (nomark _)) (pe_one (pe_and (pe_cmpR op_eq (pe_op op_mul pe_int (pv 6)) (pv 3) (nomark _)) (pe_one (pe_cmpR op_eq (pe_op op_mod (pe_callTy call_int1 (by rfl) B.int (by decide +kernel) (pa_cons (pv 5) pa_nil)) pe_int) pe_int (nomark _)))))) rfl)
      (pss_one (ps_ret (pe_op op_add (pv 2) (pe_op op_mulW (pv 3) (pe_op op_add (pv 5) (pe_callTy call_int1 (by rfl) B.int (by decide +kernel) (pa_cons (pe_dget hu (pv 7) (pv 4) (fun _ _ => rfl)) pa_nil)))))))))))), ?_⟩
    have b0 := S.s0
    have b1 := S.s1
    have b2 := S.o0
    have b3 := S.o1
    have b4 := hv.1
    have b5 := hv.2
    have fb := fig_bd S hv
    have d5 := div_bd (x := v - o) (b := 2 ^ 1001) S.s0 (by omega) (by omega)
    have r0 := Int.emod_nonneg (v - o) (show s ≠ 0 by omega)
    have r1 := Int.emod_lt_of_pos (v - o) (show 0 < s by omega)
    walk_at "rd"
    refine ⟨p, _, rfl, SqT.of hp, rfl, _, _, rfl, _, _, rfl, _, _, rfl, rfl, ?_⟩
    walk_at "rd"
    refine ⟨fdiv_ok _ (by omega) (lg_big (by omega) (by omega)), ?_⟩
    walk_at "rd"
    refine ⟨by omega, ?_⟩
    intro d nd'
    walk_at "rd"
    refine ⟨.inl ⟨by decide, by decide⟩, ?_⟩
    walk_at "rd"
    refine ⟨.inl ⟨by decide, by decide⟩, ?_⟩
    walk_at "rd"
    refine ⟨upd_same, [(kS "down", .bl false), (kS "up", .bl (decide ((v - o) % s > 0))), (kS "half_down", .bl (decide (2 * ((v - o) % s) > s))), (kS "half_up", .bl (decide (2 * ((v - o) % s) ≥ s)))], rfl, (by show 4 ≤ 15; decide), ?_⟩
    have lk : ∀ b : Bool, b = goesUp "half_even" s ((v - o) / s) ((v - o) % s) → valV (five (.bl false) (.bl (decide ((v - o) % s > 0))) (.bl (decide (2 * ((v - o) % s) > s))) (.bl (decide (2 * ((v - o) % s) ≥ s))) (.bl b)) (kS m) = some (V.bl (goesUp m s ((v - o) / s) ((v - o) % s))) := fun b hb => by
      have := five_at (f := fun m => V.bl (goesUp m s ((v - o) / s) ((v - o) % s))) S.md
      simp only [go_down, go_up, go_hd, go_hu] at this
      rw [hb]
      exact this
    have q' : ∀ H', Same H H' → Q (.int (o + s * ((v - o) / s + if goesUp m s ((v - o) / s) ((v - o) % s) = true then 1 else 0))) H' := fun H' sm => by rw [← due_fig]; exact q H' sm
    have ge := go_he s ((v - o) / s) ((v - o) % s)
    walk_at "rd"
    refine ⟨.inl ⟨by decide, by decide⟩, ?_⟩
    walk_at "rd"
    refine ite2 (fun h => ?_) (fun h => ?_)
    · have h' := of_decide_eq_true h
      walk_at "rd"
      refine ⟨d, _, rfl, DPut.k (k := kS "half_even") upd_same (by show 4 < sizeLine; decide), ?_⟩
      walk_at "rd"
      refine ⟨d, _, rfl, (lk _ (by rw [ge, decide_eq_true (by omega : s < 2 * ((v - o) % s)), Bool.true_or])) ▸ DGet.k (k := kS m) upd_same, .inr ⟨_, rfl, ?_⟩⟩
      walk_at "rd"
      refine ⟨mulW (by omega) (by split <;> omega), ?_⟩
      walk_at "rd"
      exact q' _ fun b u z => by rw [upd_ne (ne_of_none z nd'), upd_ne (ne_of_none z nd'), upd_ne (ne_of_none z nd')]; exact z
    have h' : ¬ s < 2 * ((v - o) % s) := fun z => h (decide_eq_true z)
    walk_at "rd"
    refine ⟨.inl ⟨by decide, by decide⟩, ?_⟩
    walk_at "rd"
    refine ⟨rfl, ?_⟩
    walk_at "rd"
    refine ite2 (fun c => ?_) (fun c => ?_)
    · have c' := int_t c
      walk_at "rd"
      refine ⟨(by show (0 : Int) < 2; decide), ?_⟩
      walk_at "rd"
      refine ⟨rfl, ?_⟩
      walk_at "rd"
      refine ⟨d, _, rfl, DPut.k (k := kS "half_even") upd_same (by show 4 < sizeLine; decide), ?_⟩
      walk_at "rd"
      refine ⟨d, _, rfl, (lk (decide (V.int ((v - o) / s % 2) = V.int 1)) (by rw [ge, decide_eq_false h', decide_eq_true c', dec_int, Bool.true_and, Bool.false_or])) ▸ DGet.k (k := kS m) upd_same, .inr ⟨_, rfl, ?_⟩⟩
      walk_at "rd"
      refine ⟨mulW (by omega) (by split <;> omega), ?_⟩
      walk_at "rd"
      exact q' _ fun b u z => by rw [upd_ne (ne_of_none z nd'), upd_ne (ne_of_none z nd'), upd_ne (ne_of_none z nd')]; exact z
    · have c' := int_f c
      walk_at "rd"
      refine ⟨d, _, rfl, DPut.k (k := kS "half_even") upd_same (by show 4 < sizeLine; decide), ?_⟩
      walk_at "rd"
      refine ⟨d, _, rfl, (lk _ (by rw [ge, decide_eq_false h', decide_eq_false c', Bool.false_and, Bool.or_false])) ▸ DGet.k (k := kS m) upd_same, .inr ⟨_, rfl, ?_⟩⟩
      walk_at "rd"
      refine ⟨mulW (by omega) (by split <;> omega), ?_⟩
      walk_at "rd"
      exact q' _ fun b u z => by rw [upd_ne (ne_of_none z nd'), upd_ne (ne_of_none z nd'), upd_ne (ne_of_none z nd')]; exact z
end
end HT
namespace HT
open PySem L2
theorem in_two (e a b : Int) : inV (.int e) [.int a, .int b] = (decide (e = a) || decide (e = b)) := by
  show ((a == e) || ((b == e) || false)) = _
  rw [Bool.or_false]
  have f : ∀ x : Int, (x == e) = decide (e = x) := fun x => by
    by_cases h : e = x
    · rw [decide_eq_true h, h]; exact beq_self_eq_true x
    · rw [decide_eq_false h]; exact beq_eq_false_iff_ne.mpr fun z => h z.symm
  rw [f, f]
theorem even_at (a b k : Int) : atI [V.int a, V.int b] (k % 2) = some (.int (if k % 2 = 0 then a else b)) := by
  rcases (by omega : k % 2 = 0 ∨ k % 2 = 1) with h | h
  · rw [h]; rfl
  · rw [h]; rfl
theorem zero_back {o s v : Int} {m : Str} : lowM o s m (0 - (o - v) / s) = backM o s m v := by
  unfold backM ceilM
  rw [Int.zero_sub]
def spIsEdge : Sp := fun vs H Q _ => ∃ (p : Addr) (o s : Int) (m : Str) (v : Int), vs = [.ref p, .int v] ∧ H p = some (sideV o s m) ∧ SideP o s m ∧ (-2 ^ 700 < v ∧ v < 2 ^ 700) ∧ ∀ b H', (b = true ↔ EdgeP o s m v) → Same H H' → Q (.bl b) H'
section
variable {P : Program} {w : World} {K : PySem.W.Frag} {mg : Str → Option Value} {base : Heap} {fD fP fG fT fS fE : Addr} {dD dP dG dT dS dE : FuncData}
end
end HT
namespace HT
open PySem L2
theorem eqv_nil (acc : List Int) : PyData.eqv (.list (acc.map PyData.int)) (.list []) = decide (acc = []) := by
  have z := PySem.W.ked_eqvAll acc []
  rw [List.map_nil] at z
  exact z
theorem map_snoc (acc : List Int) (v : Int) : acc.map V.int ++ [V.int v] = (acc ++ [v]).map V.int := by rw [List.map_append]; rfl
def spDiff : Sp := fun vs H Q _ => ∃ (p1 p2 : Addr) (o s : Int) (m : Str) (o2 s2 : Int) (m2 : Str) (v : Int), vs = [.ref p1, .ref p2, .int v] ∧ H p1 = some (sideV o s m) ∧ SideP o s m ∧ H p2 = some (sideV o2 s2 m2) ∧ SideP o2 s2 m2 ∧ (-2 ^ 900 < v ∧ v < 2 ^ 900) ∧
  ∀ b H', (b = true ↔ diffX o s m o2 s2 m2 v) → Same H H' → Q (.bl b) H'
def spNever : Sp := fun vs H Q _ => ∃ (p1 p2 : Addr) (o s : Int) (m : Str) (o2 s2 : Int) (m2 : Str), vs = [.ref p1, .ref p2] ∧ H p1 = some (sideV o s m) ∧ SideP o s m ∧ H p2 = some (sideV o2 s2 m2) ∧ SideP o2 s2 m2 ∧
  ∀ b H', (b = true ↔ ∀ x, ¬ diffX o s m o2 s2 m2 x) → Same H H' → Q (.bl b) H'
theorem due_bd {o s v : Int} {m : Str} (S : SideP o s m) (h : -2 ^ 900 < v ∧ v < 2 ^ 900) : Bd (dueM o s m v) := by
  have := due_near (o := o) (v := v) S.md S.s0
  have := S.s1
  unfold Bd
  omega
theorem none_back {H H' : Hp} {D : Addr} (S : Same H H') (n : H' D = none) : H D = none := by
  cases e : H D with
  | none => rfl
  | some u => rw [S _ _ e] at n; cases n
theorem joint_of {x : V} (h : x ∈ [V.int 1, .int 2, .int 6, .int ((10 : Int) ^ (9 : Int).toNat), .int 360, .int ((2 : Int) ^ (40 : Int).toNat), .int ((10 : Int) ^ (9 : Int).toNat + 7), .int ((10 : Int) ^ (15 : Int).toNat), .int ((3 : Int) ^ (20 : Int).toNat)]) : ∃ j : Int, x = .int j ∧ 1 ≤ j ∧ j ≤ 10 ^ 15 := by
  simp only [List.mem_cons, List.not_mem_nil, or_false] at h
  rcases h with h | h | h | h | h | h | h | h | h <;> exact ⟨_, h, by decide, by decide⟩
section
variable {P : Program} {w : World} {K : PySem.W.Frag} {mg : Str → Option Value} {base : Heap} {fD fP fG fT fS fE fI fW : Addr} {dD dP dG dT dS dE dI dW : FuncData}
theorem ok_differs {f : Addr} {fd : FuncData} (F : Fun K "_law_differs" "_law_differs" s_L_differs f fd) (W : Cal P w K mg base "_law_written" 1 ["_law_side_here", "_law_value"] spDue fW dW) : FnOk P w K mg base CX0 2 f fd ["_law_one", "_law_other", "_law_value"] spDiff := by
  refine F.ok sc_L_differs (fun vs H Q E h => ?_) (fun cdv A outer s H vs Q E hr h => ?_)
  · obtain ⟨p1, p2, o, s, m, o2, s2, m2, v, rfl, _⟩ := h
    rfl
  · obtain ⟨p1, p2, o, s, m, o2, s2, m2, v, rfl, h1, S1, h2, S2, hv, q⟩ := h
    refine ⟨_, (pss_one (ps_ret (pe_cmpR op_ne (pcl W hr (by decide) (by rfl) (pa_cons (pv 1) (pa_cons (pcl W hr (by decide) (by rfl) (pa_cons (pv 0) (pa_cons (pv 2) pa_nil))) pa_nil))) (pcl W hr (by decide) (by rfl) (pa_cons (pv 0) (pa_cons (pcl W hr (by decide) (by rfl) (pa_cons (pv 1) (pa_cons (pv 2) pa_nil))) pa_nil))) (nomark _)))), ?_⟩
    have hb : Bd v := by unfold Bd; omega
    walk_at "rd"
    refine ⟨p1, o, s, m, v, rfl, h1, S1, hb, fun Ha sa => ?_⟩
    walk_at "rd"
    refine ⟨p2, o2, s2, m2, _, rfl, sa _ _ h2, S2, due_bd S1 hv, fun Hb sb => ?_⟩
    have sab := sa.trans sb
    walk_at "rd"
    refine ⟨p2, o2, s2, m2, v, rfl, sab _ _ h2, S2, hb, fun Hc sc => ?_⟩
    have sac := sab.trans sc
    walk_at "rd"
    refine ⟨p1, o, s, m, _, rfl, sac _ _ h1, S1, due_bd S2 hv, fun Hd sd => ?_⟩
    refine ⟨rfl, q _ _ ?_ (sac.trans sd)⟩
    rw [dec_int]
    unfold diffX
    by_cases z : dueM o2 s2 m2 (dueM o s m v) = dueM o s m (dueM o2 s2 m2 v)
    · rw [decide_eq_true z]
      exact ⟨fun y => by simp at y, fun y => absurd z y⟩
    · rw [decide_eq_false z]
      exact ⟨fun _ => z, fun _ => rfl⟩
end
end HT
namespace HT
open PySem L2
theorem pow10_le {n k : Nat} (h : n ≤ k) : (10 : Int) ^ n ≤ 10 ^ k := by
  have z := Nat.pow_le_pow_right (show 0 < 10 by decide) h
  have e : ∀ j : Nat, ((10 ^ j : Nat) : Int) = (10 : Int) ^ j := fun j => Int.natCast_pow 10 j
  rw [← e, ← e]
  omega
theorem sq_bound {a b : Int} (a0 : 1 ≤ a) (b0 : 1 ≤ b) : 1 ≤ a * b := Int.mul_pos a0 b0
section
variable {P : Program} {w : World} {K : PySem.W.Frag} {mg : Str → Option Value} {base : Heap} {fD fP fG fT fS fE fI fW : Addr} {dD dP dG dT dS dE dI dW : FuncData}
theorem ok_step {f : Addr} {fd : FuncData} (F : Fun K "_law_step" "_law_step" s_L_step f fd) (B : Blt mg) (MT : MaxT mg) (D : Cal P w K mg base "_law_draw" 1 ["_law_source_here", "_law_limit"] spDraw fD dD)
    (Pk : Cal P w K mg base "_law_pick" 2 ["_law_source_here", "_law_values"] spPick fP dP) (G : Cal P w K mg base "_law_great" 2 ["_law_source_here", "_law_limit"] spGreat fG dG) (Tn : Cal P w K mg base "_law_ten" 1 ["_law_many"] spTen fT dT) : FnOk P w K mg base CX0 3 f fd ["_law_source_here", "_law_most"] spStep := by
  refine F.ok sc_L_step (fun vs H Q E h => ?_) (fun cdv A outer s H vs Q E hr h => ?_)
  · obtain ⟨a, c, t, mo, rfl, _⟩ := h
    rfl
  · obtain ⟨a, c, t, mo, rfl, S, m0, m1, ht, q⟩ := h
    have nd := sc_L_step.nd
    refine ⟨_, (pss_cons (ps_if (pt_cmpR op_lt (pv 1) pe_int (nomark _)) (pss_one (ps_ret (pe_op op_add pe_int (pcl D hr (by decide) (by rfl) (pa_cons (pv 0) (pa_cons (pv 1) pa_nil)))))) pss_nil)
      (pss_cons (ps_set (i := 2) nd rfl (Or.inl rfl) (pcl Pk hr (by decide) (by rfl) (pa_cons (pv 0) (pa_cons (pe_lst (pa_cons pe_int (pa_cons pe_int (pa_cons pe_int (pa_cons (pe_op op_pow pe_int pe_int) (pa_cons pe_int (pa_cons (pe_op op_pow pe_int pe_int) (pa_cons (pe_op op_add (pe_op op_pow pe_int pe_int) pe_int) (pa_cons (pe_op op_pow pe_int pe_int) (pa_cons (pe_op op_pow pe_int pe_int) pa_nil)))))))))) pa_nil))))
      (pss_one (ps_ret (pe_callB (call_min2 rfl) (by rfl) MT.min (by decide +kernel) (pa_cons (pv 1) (pa_cons (pe_op op_mulW (pv 2) (pe_op op_add pe_int (pcl G hr (by decide) (by rfl) (pa_cons (pv 0) (pa_cons (pcl Tn hr (by decide) (by rfl) (pa_cons (pe_op op_add pe_int (pcl D hr (by decide) (by rfl) (pa_cons (pv 0) (pa_cons pe_int pa_nil)))) pa_nil)) pa_nil))))) pa_nil))))))), ?_⟩
    walk_at "rd"
    refine ite2 (fun h => ?_) (fun h => ?_)
    · have h' := of_decide_eq_true h
      walk_at "rd"
      refine ⟨a, c, t, mo, rfl, S, by omega, by omega, lg_small (by omega) (by omega), fun k H1 k0 k1 S1 O1 => ?_⟩
      walk_at "rd"
      exact q _ _ _ (by omega) (by omega) (by omega) S1 O1
    walk_at "rd"
    refine ⟨⟨by decide, by decide, by decide⟩, ?_⟩
    walk_at "rd"
    refine ⟨⟨by decide, by decide, by decide⟩, ?_⟩
    walk_at "rd"
    refine ⟨⟨by decide, by decide, by decide⟩, ?_⟩
    walk_at "rd"
    refine ⟨⟨by decide, by decide, by decide⟩, ?_⟩
    walk_at "rd"
    refine ⟨⟨by decide, by decide, by decide⟩, ?_⟩
    refine ⟨(by show 9 ≤ sizeLine; decide), fun l nl => ?_⟩
    obtain ⟨la, lc⟩ := S.na nl
    refine ⟨a, c, t, l, _, rfl, S.new nl, by omega, upd_same, la, lc, by decide, by decide, fun x H1 hx S1 O1 => ?_⟩
    obtain ⟨j, rfl, j0, j1⟩ := joint_of hx
    have O1' : Oth a c H H1 := ((Oth.refl a c H).new nl).trans O1
    walk_at "rd"
    refine ⟨a, c, _, 22, rfl, S1, by omega, by decide, lg_small (by decide) (by decide), fun k H2 k0 k1 S2 O2 => ?_⟩
    walk_at "rd"
    refine ⟨(1 + k).toNat, (by show [V.int (1 + k)] = [V.int _]; rw [Int.toNat_of_nonneg (by omega)]), by omega, ?_⟩
    have tp : (1 : Int) ≤ 10 ^ (1 + k).toNat := Int.pow_pos (by decide)
    have tb : (10 : Int) ^ (1 + k).toNat ≤ 10 ^ 22 := pow10_le (by omega)
    refine ⟨a, c, _, _, rfl, S2, by omega, by omega, fun g H3 g0 g1 S3 O3 => ?_⟩
    walk_at "rd"
    refine ⟨mulW (by omega) (by omega), ?_⟩
    refine ⟨_, _, rfl, ?_⟩
    have p1 := sq_bound (a := j) (b := 1 + g) j0 (by omega)
    have fin : ∀ z : Int, 1 ≤ z → z ≤ mo → Q (.int z) H3 := fun z z0 z1 => q z H3 _ z0 z1 (by omega) S3 ((O1'.trans O2).trans O3)
    refine fin _ ?_ ?_
    · split <;> omega
    · split <;> omega
theorem ok_side {f : Addr} {fd : FuncData} (F : Fun K "_law_side" "_law_side" s_L_side f fd) (B : Blt mg) (St : Cal P w K mg base "_law_step" 3 ["_law_source_here", "_law_most"] spStep fS dS)
    (Pk : Cal P w K mg base "_law_pick" 2 ["_law_source_here", "_law_values"] spPick fP dP) (G : Cal P w K mg base "_law_great" 2 ["_law_source_here", "_law_limit"] spGreat fG dG) : FnOk P w K mg base CX0 4 f fd ["_law_source_here", "_law_most"] spSide := by
  refine F.ok sc_L_side (fun vs H Q E h => ?_) (fun cdv A outer s H vs Q E hr h => ?_)
  · obtain ⟨a, c, t, mo, rfl, _⟩ := h
    rfl
  · obtain ⟨a, c, t, mo, rfl, S, m0, m1, ht, q⟩ := h
    have nd := sc_L_side.nd
    refine ⟨_, (pss_cons (ps_set (i := 2) nd rfl (Or.inl rfl) (pcl St hr (by decide) (by rfl) (pa_cons (pv 0) (pa_cons (pv 1) pa_nil))))
      (pss_cons (ps_set (i := 3) nd rfl (Or.inl rfl) (pe_op op_sub (pcl G hr (by decide) (by rfl) (pa_cons (pv 0) (pa_cons (pe_op op_mul pe_int (pv 2)) pa_nil))) (pv 2)))
      (pss_one (ps_ret (pe_tup (pa_cons (pv 3) (pa_cons (pv 2) (pa_cons (pcl Pk hr (by decide) (by rfl) (pa_cons (pv 0) (pa_cons (pe_lst (pa_cons pe_str (pa_cons pe_str (pa_cons pe_str (pa_cons pe_str (pa_cons pe_str pa_nil)))))) pa_nil))) pa_nil)))))))), ?_⟩
    walk_at "rd"
    refine ⟨a, c, t, mo, rfl, S, m0, m1, by omega, fun s H1 t1 s0 s1 ht1 S1 O1 => ?_⟩
    walk_at "rd"
    refine ⟨.inl ⟨by decide, by decide⟩, ?_⟩
    refine ⟨a, c, t1, 3 * s, rfl, S1, by omega, by omega, fun g H2 g0 g1 S2 O2 => ?_⟩
    walk_at "rd"
    refine ⟨(by show 5 ≤ sizeLine; decide), fun l nl => ?_⟩
    obtain ⟨la, lc⟩ := S2.na nl
    refine ⟨a, c, _, l, _, rfl, S2.new nl, by omega, upd_same, la, lc, by decide, by decide, fun x H3 hx S3 O3 => ?_⟩
    obtain ⟨m, rfl, hm⟩ := mode_of hx
    refine ⟨(by show 3 ≤ sizeLine; decide), fun d nd' => ?_⟩
    have O4 : Oth a c H H3 := (O1.trans O2).trans (((Oth.refl a c H2).new nl).trans O3)
    have hdn : H d = none := by
      cases e : H d with
      | none => rfl
      | some u =>
        by_cases da : d = a
        · subst da; rw [S3.ob] at nd'; cases nd'
        · by_cases dc : d = c
          · obtain ⟨cs, hcs, _⟩ := S3.cl
            subst dc; rw [hcs] at nd'; cases nd'
          · rw [O4 _ _ e da dc] at nd'; cases nd'
    exact q d _ s m _ _ hdn upd_same ⟨s0, s1, by omega, by omega, hm⟩ (by omega) (S3.new nd') (O4.new nd')
end
end HT
namespace HT
open PySem L2
/-- a small side at p -/
def SdA (H : Hp) (p : Addr) (k b : Int) : Prop := ∃ o s m, H p = some (sideV o s m) ∧ 1 ≤ s ∧ s ≤ k ∧ -b ≤ o ∧ o ≤ b ∧ Mode m
theorem SdA.oth {H H' : Hp} {p a c : Addr} {k b : Int} {t : Nat} (h : SdA H p k b) (S : Src H a c t) (O : Oth a c H H') : SdA H' p k b := let ⟨o, s, m, e, r⟩ := h; ⟨o, s, m, O _ _ e (S.nt e).1 (S.nt e).2, r⟩
theorem SdA.le {H : Hp} {p : Addr} {k b k' b' : Int} (h : SdA H p k b) (hk : k ≤ k') (hb : b ≤ b') : SdA H p k' b' := let ⟨o, s, m, e, r1, r2, r3, r4, r5⟩ := h; ⟨o, s, m, e, r1, by omega, by omega, by omega, r5⟩
theorem SdA.same {H H' : Hp} {p : Addr} {k b : Int} (h : SdA H p k b) (e : Same H H') : SdA H' p k b := let ⟨o, s, m, z, r⟩ := h; ⟨o, s, m, e _ _ z, r⟩
theorem mode3_of {x : V} {m n : Str} (hm : Mode m) (hn : Mode n) (h : x ∈ [V.str m, .str m, .str n]) : ∃ j : Str, x = .str j ∧ Mode j := by
  simp only [List.mem_cons, List.not_mem_nil, or_false] at h
  rcases h with h | h | h
  · exact ⟨_, h, hm⟩
  · exact ⟨_, h, hm⟩
  · exact ⟨_, h, hn⟩
theorem small_of {x : V} {s : Int} (s0 : 1 ≤ s ∧ s ≤ 12) (h : x ∈ [V.int 0, .int 1, .int (s / 2)]) : ∃ j : Int, x = .int j ∧ 0 ≤ j ∧ j ≤ 12 := by
  simp only [List.mem_cons, List.not_mem_nil, or_false] at h
  rcases h with h | h | h <;> exact ⟨_, h, by omega, by omega⟩
theorem mul_le2 {a b A B : Int} (a0 : 0 ≤ a) (b0 : 0 ≤ b) (ha : a ≤ A) (hb : b ≤ B) : 0 ≤ a * b ∧ a * b ≤ A * B :=
  ⟨Int.mul_nonneg a0 b0, Int.le_trans (Int.mul_le_mul_of_nonneg_right ha b0) (Int.mul_le_mul_of_nonneg_left hb (Int.le_trans a0 ha))⟩
def spTwo : Sp := fun vs H Q _ => ∃ (a c : Addr) (t : Nat), vs = [.ref a] ∧ Src H a c t ∧ t + 200 < 2 ^ 30 ∧
  ∀ (d p1 p2 : Addr) (H' : Hp) (t' : Nat), H' d = some (.tup [.ref p1, .ref p2]) → SdA H' p1 60 100 → SdA H' p2 60 100 → t' ≤ t + 200 → Src H' a c t' → Oth a c H H' → Q (.ref d) H'
section
variable {P : Program} {w : World} {K : PySem.W.Frag} {mg : Str → Option Value} {base : Heap} {fD fP fG fT fS fE fI fW : Addr} {dD dP dG dT dS dE dI dW : FuncData}
theorem ok_two {f : Addr} {fd : FuncData} (F : Fun K "_law_two" "_law_two" s_L_two f fd) (B : Blt mg) (D : Cal P w K mg base "_law_draw" 1 ["_law_source_here", "_law_limit"] spDraw fD dD)
    (Pk : Cal P w K mg base "_law_pick" 2 ["_law_source_here", "_law_values"] spPick fP dP) (Sd : Cal P w K mg base "_law_side" 4 ["_law_source_here", "_law_most"] spSide fS dS) : FnOk P w K mg base CX0 5 f fd ["_law_source_here"] spTwo := by
  refine F.ok sc_L_two (fun vs H Q E h => ?_) (fun cdv A outer s H vs Q E hr h => ?_)
  · obtain ⟨a, c, t, rfl, _⟩ := h
    rfl
  · obtain ⟨a, c, t, rfl, S, ht, q⟩ := h
    have nd := sc_L_two.nd
    refine ⟨_, (pss_cons (ps_mid (ps_par (i := 1) (j := 2) (by rfl) nd rfl rfl (by decide) rfl rfl (pa_cons (pcl Sd hr (by decide) (by rfl) (pa_cons (pv 0) (pa_cons pe_int pa_nil))) (pa_cons (pcl Sd hr (by decide) (by rfl) (pa_cons (pv 0) (pa_cons pe_int pa_nil))) pa_nil)) (by rfl)))
      (pss_cons (ps_mid (ps_set (i := 3) nd rfl (Or.inl rfl) (pcl D hr (by decide) (by rfl) (pa_cons (pv 0) (pa_cons pe_int pa_nil)))))
      (pss_cons (ps_mid (ps_if (pt_cmpR op_gt (pv 3) pe_int (nomark _)) (pss_cons (ps_mid (ps_set (i := 4) nd rfl (Or.inl rfl) (pcl Pk hr (by decide) (by rfl) (pa_cons (pv 0) (pa_cons (pe_lst (pa_cons (pe_ix ix_tup (pv 1) pe_int (fun _ _ => rfl)) (pa_cons (pe_ix ix_tup (pv 1) pe_int (fun _ _ => rfl)) (pa_cons (pe_ix ix_tup (pv 2) pe_int (fun _ _ => rfl)) pa_nil)))) pa_nil)))))
      (pss_one (ps_mid (ps_set (i := 2) nd rfl (Or.inl rfl) (pe_tup (pa_cons (pe_op op_add (pe_ix ix_tup (pv 1) pe_int (fun _ _ => rfl)) (pe_op op_mulW (pe_ix ix_tup (pv 1) pe_int (fun _ _ => rfl)) (pe_op op_sub (pcl D hr (by decide) (by rfl) (pa_cons (pv 0) (pa_cons pe_int pa_nil))) pe_int))) (pa_cons (pe_op op_mulW (pe_ix ix_tup (pv 1) pe_int (fun _ _ => rfl)) (pe_op op_add pe_int (pcl D hr (by decide) (by rfl) (pa_cons (pv 0) (pa_cons pe_int pa_nil))))) (pa_cons (pv 4) pa_nil)))))))) pss_nil))
      (pss_cons (ps_mid (ps_if (pt_cmpR op_eq (pv 3) pe_int (nomark _)) (pss_one (ps_mid (ps_set (i := 2) nd rfl (Or.inl rfl) (pe_tup (pa_cons (pe_op op_add (pe_ix ix_tup (pv 2) pe_int (fun _ _ => rfl)) (pcl Pk hr (by decide) (by rfl) (pa_cons (pv 0) (pa_cons (pe_lst (pa_cons pe_int (pa_cons pe_int (pa_cons (pe_op op_fdiv (pe_ix ix_tup (pv 1) pe_int (fun _ _ => rfl)) pe_int) pa_nil)))) pa_nil)))) (pa_cons (pe_ix ix_tup (pv 2) pe_int (fun _ _ => rfl)) (pa_cons (pe_ix ix_tup (pv 2) pe_int (fun _ _ => rfl)) pa_nil))))))) pss_nil))
      (pss_cons (ps_mid (ps_if (pt_cmpR op_eq (pcl D hr (by decide) (by rfl) (pa_cons (pv 0) (pa_cons pe_int pa_nil))) pe_int (nomark _)) (pss_one (ps_mid (ps_par (i := 1) (j := 2) (by rfl) nd rfl rfl (by decide) rfl rfl (pa_cons (pv 2) (pa_cons (pv 1) pa_nil)) (by rfl)))) pss_nil))
      (pss_one (ps_ret (pe_tup (pa_cons (pv 1) (pa_cons (pv 2) pa_nil)))))))))), ?_⟩
    refine ⟨fun st Hz => ∃ (p1 p2 : Addr) (t' : Nat), st = [some (.ref a), some (.ref p1), some (.ref p2), none, none] ∧ SdA Hz p1 12 24 ∧ SdA Hz p2 12 24 ∧ t' ≤ t + 80 ∧ Src Hz a c t' ∧ Oth a c H Hz, ?_, ?_⟩
    · walk_at "rd"
      refine ⟨a, c, t, 12, rfl, S, by decide, by decide, by omega, fun p1 o s m H1 t1 hn1 hp1 P1 ht1 S1 O1 => ?_⟩
      walk_at "rd"
      refine ⟨a, c, t1, 12, rfl, S1, by decide, by decide, by omega, fun p2 o2 s2 m2 H2 t2 hn2 hp2 P2 ht2 S2 O2 => ?_⟩
      obtain ⟨b1, b2, b3, b4, bm⟩ := P1
      obtain ⟨c1, c2, c3, c4, cm⟩ := P2
      have A1 : SdA H1 p1 12 24 := ⟨o, s, m, hp1, b1, b2, by omega, by omega, bm⟩
      exact ⟨_, _, rfl, p1, p2, t2, rfl, A1.oth S1 O2, ⟨o2, s2, m2, hp2, c1, c2, by omega, by omega, cm⟩, by omega, S2, O1.trans O2⟩
    rintro st H1 ⟨p1, p2, t1, rfl, A1, A2, t1b, S1, O1⟩
    refine ⟨fun st Hz => ∃ y : Int, st = [some (.ref a), some (.ref p1), some (.ref p2), some (.int y), none] ∧ Src Hz a c (t1 + 1) ∧ Oth a c H1 Hz, ?_, ?_⟩
    · walk_at "rd"
      refine ⟨a, c, t1, 4, rfl, S1, by omega, by decide, lg_small (by decide) (by decide), fun y H2 y0 y1 S2 O2 => ?_⟩
      exact ⟨y, rfl, S2, O2⟩
    rintro st H2 ⟨y, rfl, S2, O2⟩
    replace A1 := A1.oth S1 O2
    replace A2 := A2.oth S1 O2
    replace O1 := O1.trans O2
    clear O2 S1
    refine ⟨fun st Hz => ∃ (p2 : Addr) (x4 : Option V) (t' : Nat), st = [some (.ref a), some (.ref p1), some (.ref p2), some (.int y), x4] ∧ SdA Hz p1 12 24 ∧ SdA Hz p2 60 48 ∧ t' ≤ t + 90 ∧ Src Hz a c t' ∧ Oth a c H Hz, ?_, ?_⟩
    · walk_at "rd"
      refine ite2 (fun _ => ?_) (fun _ => ⟨p2, _, t1 + 1, rfl, A1, A2.le (by decide) (by decide), by omega, S2, O1⟩)
      refine ⟨fun st Hz => ∃ m : Str, st = [some (.ref a), some (.ref p1), some (.ref p2), some (.int y), some (.str m)] ∧ Mode m ∧ Src Hz a c (t1 + 2) ∧ Oth a c H2 Hz, ?_, ?_⟩
      · obtain ⟨o, s, m, hp1, b1, b2, b3, b4, bm⟩ := A1
        obtain ⟨o2, s2, m2, hp2, c1, c2, c3, c4, cm⟩ := A2
        walk_at "rd"
        refine ⟨p1, _, 2, _, rfl, rfl, SqT.of hp1, rfl, ?_⟩
        walk_at "rd"
        refine ⟨p1, _, 2, _, rfl, rfl, SqT.of hp1, rfl, ?_⟩
        walk_at "rd"
        refine ⟨p2, _, 2, _, rfl, rfl, SqT.of hp2, rfl, ?_⟩
        refine ⟨(by show 3 ≤ sizeLine; decide), fun l2 nl2 => ?_⟩
        obtain ⟨l2a, l2c⟩ := S2.na nl2
        refine ⟨a, c, _, l2, _, rfl, S2.new nl2, by omega, upd_same, l2a, l2c, (by show 0 < 3; decide), (by show 3 < 2 ^ 60; decide), fun x2 H6 hx2 S6 O6 => ?_⟩
        obtain ⟨m3, rfl, hm3⟩ := mode3_of bm cm hx2
        exact ⟨m3, rfl, hm3, S6, ((Oth.refl a c H2).new nl2).trans O6⟩
      rintro st H3 ⟨m3, rfl, hm3, S3, O3⟩
      replace A1 := A1.oth S2 O3
      replace O1 := O1.trans O3
      clear A2 S2 O3
      obtain ⟨o, s, m, hp1, b1, b2, b3, b4, bm⟩ := A1
      walk_at "rd"
      refine ⟨_, ?_, fun _ _ z => z⟩
      walk_at "rd"
      refine ⟨p1, _, 0, _, rfl, rfl, SqT.of hp1, rfl, ?_⟩
      walk_at "rd"
      refine ⟨p1, _, 1, _, rfl, rfl, SqT.of hp1, rfl, ?_⟩
      walk_at "rd"
      refine ⟨a, c, _, 5, rfl, S3, by omega, by decide, lg_small (by decide) (by decide), fun g H4 g0 g1 S4 O4 => ?_⟩
      have hu1 := O4 _ _ hp1 (S3.nt hp1).1 (S3.nt hp1).2
      walk_at "rd"
      refine ⟨mulW (by omega) (by omega), ?_⟩
      walk_at "rd"
      refine ⟨p1, _, 1, _, rfl, rfl, SqT.of hu1, rfl, ?_⟩
      walk_at "rd"
      refine ⟨a, c, _, 5, rfl, S4, by omega, by decide, lg_small (by decide) (by decide), fun g2 H5 g20 g21 S5 O5 => ?_⟩
      have hv1 := O5 _ _ hu1 (S4.nt hu1).1 (S4.nt hu1).2
      walk_at "rd"
      refine ⟨mulW (by omega) (by omega), ?_⟩
      walk_at "rd"
      refine ⟨(by show 3 ≤ sizeLine; decide), fun d nd' => ?_⟩
      have w2 := mul_le2 (a := s) (b := 1 + g2) (A := 12) (B := 5) (by omega) (by omega) b2 (by omega)
      have w3 : 1 * 1 ≤ s * (1 + g2) := Int.mul_le_mul b1 (by omega) (by decide) (by omega)
      have w4 : -24 ≤ s * (g - 2) ∧ s * (g - 2) ≤ 24 := by
        rcases (by omega : g = 0 ∨ g = 1 ∨ g = 2 ∨ g = 3 ∨ g = 4) with rfl | rfl | rfl | rfl | rfl <;> omega
      refine ⟨d, _, t1 + 2 + 1 + 1, rfl, ⟨o, s, m, (upd_ne (ne_of_none hv1 nd')).trans hv1, b1, b2, b3, b4, bm⟩, ⟨_, _, _, upd_same, by omega, by omega, by omega, by omega, hm3⟩, by omega, S5.new nd', ((O1.trans O4).trans O5).new nd'⟩
    rintro st H3 ⟨p2', x4, t3, rfl, A1, A2, t3b, S3, O3⟩
    clear S2 O1
    refine ⟨fun st Hz => ∃ (p2 : Addr) (t' : Nat), st = [some (.ref a), some (.ref p1), some (.ref p2), some (.int y), x4] ∧ SdA Hz p1 12 24 ∧ SdA Hz p2 60 60 ∧ t' ≤ t + 100 ∧ Src Hz a c t' ∧ Oth a c H Hz, ?_, ?_⟩
    · walk_at "rd"
      refine ⟨rfl, ?_⟩
      walk_at "rd"
      refine ite2 (fun _ => ?_) (fun _ => ⟨_, t3, rfl, A1, A2.le (by decide) (by decide), by omega, S3, O3⟩)
      obtain ⟨o, s, m, hp1, b1, b2, b3, b4, bm⟩ := A1
      obtain ⟨o2, s2, m2, hp2, c1, c2, c3, c4, cm⟩ := A2
      walk_at "rd"
      refine ⟨_, ?_, fun _ _ z => z⟩
      walk_at "rd"
      refine ⟨p2', _, 0, _, rfl, rfl, SqT.of hp2, rfl, ?_⟩
      walk_at "rd"
      refine ⟨p1, _, 1, _, rfl, rfl, SqT.of hp1, rfl, ?_⟩
      walk_at "rd"
      refine ⟨⟨by decide, by decide⟩, (by show 3 ≤ sizeLine; decide), fun l3 nl3 => ?_⟩
      obtain ⟨l3a, l3c⟩ := S3.na nl3
      refine ⟨a, c, _, l3, _, rfl, S3.new nl3, by omega, upd_same, l3a, l3c, (by show 0 < 3; decide), (by show 3 < 2 ^ 60; decide), fun x H4 hx S4 O4 => ?_⟩
      obtain ⟨j, rfl, j0, j1⟩ := small_of ⟨b1, b2⟩ hx
      have O4' : Oth a c H3 H4 := ((Oth.refl a c H3).new nl3).trans O4
      have hq1 := O4' _ _ hp1 (S3.nt hp1).1 (S3.nt hp1).2
      have hq2 := O4' _ _ hp2 (S3.nt hp2).1 (S3.nt hp2).2
      walk_at "rd"
      refine ⟨p2', _, 1, _, rfl, rfl, SqT.of hq2, rfl, ?_⟩
      walk_at "rd"
      refine ⟨p2', _, 2, _, rfl, rfl, SqT.of hq2, rfl, ?_⟩
      refine ⟨(by show 3 ≤ sizeLine; decide), fun d nd' => ?_⟩
      exact ⟨d, t3 + 1, rfl, ⟨o, s, m, (upd_ne (ne_of_none hq1 nd')).trans hq1, b1, b2, b3, b4, bm⟩, ⟨_, _, _, upd_same, c1, c2, by omega, by omega, cm⟩, by omega, S4.new nd', (O3.trans O4').new nd'⟩
    rintro st H4 ⟨p3, t4, rfl, A1, A2, t4b, S4, O4⟩
    clear S3 O3
    refine ⟨fun st Hz => ∃ (q1 q2 : Addr) (t' : Nat), st = [some (.ref a), some (.ref q1), some (.ref q2), some (.int y), x4] ∧ SdA Hz q1 60 100 ∧ SdA Hz q2 60 100 ∧ t' ≤ t + 101 ∧ Src Hz a c t' ∧ Oth a c H Hz, ?_, ?_⟩
    · walk_at "rd"
      refine ⟨a, c, _, 2, rfl, S4, by omega, by decide, lg_small (by decide) (by decide), fun g H5 g0 g1 S5 O5 => ?_⟩
      replace A1 := (A1.oth S4 O5).le (k' := 60) (b' := 100) (by decide) (by decide)
      replace A2 := (A2.oth S4 O5).le (k' := 60) (b' := 100) (by decide) (by decide)
      walk_at "rd"
      refine ⟨rfl, ?_⟩
      walk_at "rd"
      refine ite2 (fun _ => ?_) (fun _ => ⟨p1, p3, t4 + 1, rfl, A1, A2, by omega, S5, O4.trans O5⟩)
      walk_at "rd"
      refine ⟨_, ?_, fun _ _ z => z⟩
      walk_at "rd"
      exact ⟨_, _, rfl, p3, p1, t4 + 1, rfl, A2, A1, by omega, S5, O4.trans O5⟩
    rintro st H5 ⟨q1, q2, t5, rfl, A1, A2, t5b, S5, O5⟩
    walk_at "rd"
    refine ⟨(by show 2 ≤ sizeLine; decide), fun d nd' => ?_⟩
    exact q d q1 q2 _ t5 upd_same (A1.same (same_upd nd')) (A2.same (same_upd nd')) (by omega) (S5.new nd') (O5.new nd')
end
end HT
namespace HT
open PySem L2
def mkL (p : Int → Bool) (n : Nat) : List Int := ((List.range n).map fun i : Nat => (i : Int)).filter p
theorem mkL_succ (p : Int → Bool) (n : Nat) : mkL p (n + 1) = mkL p n ++ if p (n : Int) = true then [(n : Int)] else [] := by
  unfold mkL
  rw [List.range_succ, List.map_append, List.filter_append]
  congr 1
  by_cases h : p (n : Int) = true <;> simp [h]
theorem mkL_mem {p : Int → Bool} {n : Nat} {x : Int} : x ∈ mkL p n ↔ 0 ≤ x ∧ x < (n : Int) ∧ p x = true := by
  unfold mkL
  rw [List.mem_filter, List.mem_map]
  constructor
  · rintro ⟨⟨i, hi, rfl⟩, h⟩
    have := List.mem_range.mp hi
    exact ⟨by omega, by omega, h⟩
  · rintro ⟨a, b, h⟩
    exact ⟨⟨x.toNat, List.mem_range.mpr (by omega), by omega⟩, h⟩
theorem mkL_len {p : Int → Bool} {n : Nat} : (mkL p n).length ≤ n := by
  unfold mkL
  exact Nat.le_trans (List.length_filter_le _ _) (by rw [List.length_map, List.length_range]; exact Nat.le_refl _)
theorem map_at {L : List Int} {k : Nat} {y : V} (h : (L.map V.int)[k]? = some y) : ∃ x, L[k]? = some x ∧ y = V.int x := by
  rw [List.getElem?_map] at h
  cases e : L[k]? with
  | none => rw [e] at h; cases h
  | some x => rw [e] at h; cases h; exact ⟨x, rfl, rfl⟩
theorem mkL_none {p : Int → Bool} {n : Nat} (h : (mkL p n).head? = none) : ∀ y, 0 ≤ y → y < (n : Int) → ¬ p y = true := fun y y0 y1 e => by
  have m : y ∈ mkL p n := mkL_mem.mpr ⟨y0, y1, e⟩
  rw [List.head?_eq_none_iff.mp h] at m
  cases m
theorem mkL_some {p : Int → Bool} {x : Int} : ∀ {n : Nat}, (mkL p n).head? = some x → 0 ≤ x ∧ x < (n : Int) ∧ p x = true ∧ ∀ y, 0 ≤ y → y < x → ¬ p y = true
  | 0, h => by cases h
  | n + 1, h => by
    rw [mkL_succ, List.head?_append] at h
    cases e : (mkL p n).head? with
    | some z =>
      rw [e] at h
      cases h
      obtain ⟨a, b, c, d⟩ := mkL_some e
      exact ⟨a, by omega, c, d⟩
    | none =>
      rw [e] at h
      by_cases g : p (n : Int) = true
      · rw [if_pos g] at h
        cases h
        exact ⟨by omega, by omega, g, mkL_none e⟩
      · rw [if_neg g] at h
        cases h
theorem mkL_filter (p q : Int → Bool) (n : Nat) : (mkL p n).filter q = mkL (fun y => q y && p y) n := by
  unfold mkL
  rw [List.filter_filter]
theorem due_ok {Pr : Int → Prop} {p : Int → Bool} (hp : ∀ x, p x = true ↔ Pr x) {N : Nat} (hN : 0 < N) (per : ∀ t x : Int, Pr (x + (N : Int) * t) ↔ Pr x) {v : Int} (v0 : 0 ≤ v) (v1 : v < (N : Int)) : ExchP Pr v (((mkL p N).filter fun m => decide (v ≤ m)) ++ (mkL p N).map fun m => m + (N : Int)).head? := by
  rw [List.head?_append, mkL_filter, List.head?_map]
  cases e : (mkL (fun y => decide (v ≤ y) && p y) N).head? with
  | some x =>
    obtain ⟨a, b, c, d⟩ := mkL_some e
    rw [Bool.and_eq_true, decide_eq_true_eq] at c
    refine ⟨c.1, (hp x).mp c.2, fun y y0 y1 h => d y (by omega) y1 ?_⟩
    rw [Bool.and_eq_true, decide_eq_true_eq]
    exact ⟨y0, (hp y).mpr h⟩
  | none =>
    have no := mkL_none e
    have no2 : ∀ y, v ≤ y → y < (N : Int) → ¬ Pr y := fun y y0 y1 h => no y (by omega) y1 (by
      rw [Bool.and_eq_true, decide_eq_true_eq]
      exact ⟨y0, (hp y).mpr h⟩)
    cases e2 : (mkL p N).head? with
    | some x =>
      obtain ⟨a, b, c, d⟩ := mkL_some e2
      have pn : ∀ x, Pr (x + (N : Int)) ↔ Pr x := fun x => by
        have := per 1 x
        rw [Int.mul_one] at this
        exact this
      refine ⟨(by show v ≤ x + (N : Int); omega), (pn x).mpr ((hp x).mp c), fun y y0 y1 h => ?_⟩
      replace y1 : y < x + (N : Int) := y1
      by_cases z : y < (N : Int)
      · exact no2 y y0 z h
      · have h2 : Pr (y - (N : Int) + (N : Int)) := by rw [show y - (N : Int) + (N : Int) = y by omega]; exact h
        exact d (y - (N : Int)) (by omega) (by omega) ((hp _).mpr ((pn _).mp h2))
    | none =>
      intro y h
      have nn := mkL_none e2
      have q := Int.emod_add_mul_ediv y (N : Int)
      have q0 := Int.emod_nonneg y (show (N : Int) ≠ 0 by omega)
      have q1 := Int.emod_lt_of_pos y (show (0 : Int) < (N : Int) by omega)
      refine nn (y % (N : Int)) q0 q1 ((hp _).mpr ((per (y / (N : Int)) _).mp ?_))
      rw [q]
      exact h
theorem exch_shift {Pr : Int → Prop} {c : Int} (per : ∀ x, Pr (x - c) ↔ Pr x) {v : Int} {r : Option Int} (h : ExchP Pr v r) : ExchP Pr (v - c) (r.map fun x => x - c) := by
  have un : ∀ y, Pr y → Pr (y + c) := fun y h => by
    have := per (y + c)
    rw [show y + c - c = y by omega] at this
    exact this.mp h
  cases r with
  | none => exact fun y q => h (y + c) (un y q)
  | some x =>
    obtain ⟨a, b, d⟩ := h
    exact ⟨(by show v - c ≤ x - c; omega), (per x).mpr b, fun y y0 y1 q => d (y + c) (by omega) (by have y2 : y < x - c := y1; omega) (un y q)⟩
def diffB (o s : Int) (m : Str) (p u : Int) (q : Str) (x : Int) : Bool := !decide (dueM p u q (dueM o s m x) = dueM o s m (dueM p u q x))
theorem diffB_ok {o s : Int} {m : Str} {p u : Int} {q : Str} (x : Int) : diffB o s m p u q x = true ↔ diffX o s m p u q x := by
  unfold diffB diffX
  rw [Bool.not_eq_true', decide_eq_false_iff_not]
theorem bool_is {a b : Bool} {Pr : Prop} (h : a = true ↔ Pr) (g : b = true ↔ Pr) : a = b := by
  cases a <;> cases b <;> simp_all
def oD : Option Int → PyData
  | none => .none
  | some x => .int x
theorem dp_oV {K : PySem.W.Frag} {H : Hp} (o : Option Int) : Dp K H (oV o) (oD o) := by
  cases o with
  | none => exact .non
  | some x => exact .int x
theorem shaped_oD (o : Option Int) : SeqAt.shaped (oD o) = true := by
  cases o <;> rfl
theorem eqv_oD (o : Option Int) : PyData.eqv (oD o) (oD o) = true := SeqAt.eqv_refl _ (SeqAt.canLay_of_shaped (shaped_oD o))
def headD (o s : Int) (m : Str) (p u : Int) (q : Str) (N : Nat) (v : Int) : Option Int := (((mkL (diffB o s m p u q) N).filter fun m => decide (v ≤ m)) ++ (mkL (diffB o s m p u q) N).map fun m => m + (N : Int)).head?
theorem head_ok {o s p u v : Int} {m q : Str} (hm : Mode m) (hq : Mode q) (hs : 1 ≤ s) (hu : 1 ≤ u) {N : Nat} (hN : (N : Int) = 2 * s * u) (v0 : 0 ≤ v) (v1 : v < (N : Int)) : ExchP (diffX o s m p u q) v (headD o s m p u q N v) := by
  refine due_ok (p := diffB o s m p u q) diffB_ok (by omega) (fun t x => ?_) v0 v1
  rw [hN]
  exact diff_per hm hq hs hu t x
theorem first_a {r : Option Int} (h : ExchP (diffX 0 4 "down" 0 6 "down") 0 r) : r = some 6 := exch_uniq h ((by decide +kernel : headD 0 4 "down" 0 6 "down" 48 0 = some 6) ▸ head_ok (N := 48) (.inl rfl) (.inl rfl) (by decide) (by decide) (by decide) (by decide) (by decide))
theorem first_b {r : Option Int} (h : ExchP (diffX 0 3 "half_up" 0 9 "half_up") 0 r) : r = none := exch_uniq h ((by decide +kernel : headD 0 3 "half_up" 0 9 "half_up" 54 0 = none) ▸ head_ok (N := 54) (.inr (.inr (.inr (.inl rfl)))) (.inr (.inr (.inr (.inl rfl)))) (by decide) (by decide) (by decide) (by decide) (by decide))
theorem first_c {r : Option Int} (h : ExchP (diffX 0 10 "half_up" 0 100 "half_up") 0 r) : r = some 45 := exch_uniq h ((by decide +kernel : headD 0 10 "half_up" 0 100 "half_up" 2000 0 = some 45) ▸ head_ok (N := 2000) (.inr (.inr (.inr (.inl rfl)))) (.inr (.inr (.inr (.inl rfl)))) (by decide) (by decide) (by decide) (by decide) (by decide))
theorem head_at (M : List Int) : atI (M.map V.int ++ [V.non]) 0 = some (oV M.head?) := by
  cases M with
  | nil => rfl
  | cons x t =>
    unfold atI ixN
    rw [if_pos (by decide : (0 : Int) ≤ 0), if_pos (by rw [List.length_append]; show (0 : Int) < ((_ + 1 : Nat) : Int); omega)]
    rfl
theorem shaped_ints (A : List Int) : SeqAt.shaped (.list (A.map PyData.int)) = true := by
  have key : ∀ A : List Int, PyData.canLayAll0 (A.map PyData.int) = true ∧ PyData.depthAll (A.map PyData.int) ≤ 1 := fun A => by
    induction A with
    | nil => exact ⟨rfl, Nat.zero_le _⟩
    | cons a A ih => exact ⟨by simp [PyData.canLayAll0, PyData.canLay0, ih.1], by show max (PyData.depth (.int a)) (PyData.depthAll (A.map PyData.int)) ≤ 1; exact Nat.max_le.mpr ⟨by simp [PyData.depth], ih.2⟩⟩
  obtain ⟨a, b⟩ := key A
  unfold SeqAt.shaped
  rw [Bool.and_eq_true]
  refine ⟨a, decide_eq_true ?_⟩
  show PyData.depthAll (A.map PyData.int) + 1 ≤ 64
  omega
theorem dp_ints {K : PySem.W.Frag} {H : Hp} {p : Addr} {A : List Int} (h : H p = some (.lst (A.map V.int))) : Dp K H (.ref p) (.list (A.map PyData.int)) := by
  have key : ∀ A : List Int, DpAll K H (A.map V.int) (A.map PyData.int) := fun A => by
    induction A with
    | nil => exact .nil
    | cons a A ih => exact .cons (.int _) ih
  exact .lst (SqL.of h) (key A)
end HT
namespace HT
open PySem L2
theorem GoodS.same14 {H H' : Hp} {x : V} (g : GoodS H x) (e : Same H H') : GoodS H' x := let ⟨p, o, s, m, a, b, c⟩ := g; ⟨p, o, s, m, a, e _ _ b, c⟩
def spDoors : Sp := fun vs H Q _ => ∃ x : V, vs = [x] ∧ GoodS H x ∧ ∀ H', Same H H' → Q (.bl true) H'
section
variable {P : Program} {w : World} {K : PySem.W.Frag} {mg : Str → Option Value} {base : Heap} {fA : Addr} {dA : FuncData}
theorem ok_doors {f : Addr} {fd : FuncData} (F : Fun K "_law_doors_right" "_law_doors_right" s_L_doors_right f fd) (Wo : Cal P w K mg base "_law_word" 5 ["_law_one", "_law_other", "_law_value"] (spWord14 K) fA dA) : FnOk P w K mg base CX0 6 f fd ["_law_good"] spDoors := by
  refine F.ok sc_L_doors_right (fun vs H Q E h => ?_) (fun cdv A outer s0 H vs Q E hr h => ?_)
  · obtain ⟨x, rfl, _⟩ := h
    rfl
  · obtain ⟨x, rfl, gx, q⟩ := h
    have nd := sc_L_doors_right.nd
    refine ⟨_, (pss_cons (ps_mid (ps_for PassesOwn.never rfl (pi_list (pe_lst (pa_cons pe_non (pa_cons pe_int (pa_cons (pe_tup (pa_cons pe_int (pa_cons pe_int (pa_cons pe_str pa_nil)))) (pa_cons (pe_tup (pa_cons pe_int (pa_cons pe_int (pa_cons pe_str pa_nil)))) (pa_cons (pe_lst (pa_cons pe_int (pa_cons pe_int (pa_cons pe_str pa_nil)))) (pa_cons (pe_tup (pa_cons pe_bl (pa_cons pe_int (pa_cons pe_str pa_nil)))) (pa_cons (pe_tup (pa_cons pe_int (pa_cons pe_int pa_nil))) (pa_cons pe_str (pa_cons (pe_lst (pa_cons (pv 0) pa_nil)) pa_nil))))))))))) (pg_name (i := 1) nd rfl (Or.inl rfl)) (pss_one (ps_if (pt_mid (PW.pt (pw_or (pt_cmpR op_ne (pcl Wo hr (by decide) (by rfl) (pa_cons (pv 1) (pa_cons (pv 0) (pa_cons pe_non pa_nil)))) pe_str (nomark _)) (pw_or1 (pt_cmpR op_ne (pcl Wo hr (by decide) (by rfl) (pa_cons (pv 0) (pa_cons (pv 1) (pa_cons pe_non pa_nil)))) pe_str (nomark _)))))) (pss_one (ps_ret pe_bl)) pss_nil))))
      (pss_one (ps_ret (pe_cmpR (op_eqD hr.units) (pe_lc (own := [("_law_value", 2)]) (g := gName 2) (tt := tYes) rfl nd (pi_list (pe_lst (pa_cons pe_non (pa_cons pe_bl (pa_cons pe_bl (pa_cons pe_str (pa_cons (pe_lst pa_nil) (pa_cons (pe_tup (pa_cons pe_int pa_nil)) pa_nil)))))))) (blkOk_by (N := ["_law_good", "_law_bad", "_law_value"]) (sc := defScope s_L_doors_right) (by decide +kernel)) (fun _ _ _ _ _ => pg_name (i := 2) nd rfl (Or.inl rfl)) (fun _ _ _ _ _ => pts_nil) (fun _ _ _ _ _ => (pcl Wo hr (by decide) (by rfl) (pa_cons (pv 0) (pa_cons (pv 0) (pa_cons (pv 2) pa_nil)))))) (pe_op op_rep (pe_lst (pa_cons pe_str pa_nil)) pe_int) (nomark _))))), ?_⟩
    refine ⟨fun st Hz => ∃ x1 : Option V, st = [some x, x1, none] ∧ Same H Hz, ?_, ?_⟩
    · walk_at "rd"
      refine ⟨(by show 3 ≤ sizeLine; decide), fun b1 nb1 => ?_⟩
      have gb1 : upd H b1 (.tup ([.int 0, .int 0, .str "up"])) b1 = some (.tup ([.int 0, .int 0, .str "up"])) := upd_same
      have sb1 : Same H (upd H b1 (.tup ([.int 0, .int 0, .str "up"]))) := same_upd nb1
      generalize upd H b1 (.tup ([.int 0, .int 0, .str "up"])) = B1 at gb1 sb1 ⊢
      walk_at "rd"
      refine ⟨(by show 3 ≤ sizeLine; decide), fun b2 nb2 => ?_⟩
      have gb2 : upd B1 b2 (.tup ([.int 0, .int 5, .str "near"])) b2 = some (.tup ([.int 0, .int 5, .str "near"])) := upd_same
      have sb2 : Same B1 (upd B1 b2 (.tup ([.int 0, .int 5, .str "near"]))) := same_upd nb2
      generalize upd B1 b2 (.tup ([.int 0, .int 5, .str "near"])) = B2 at gb2 sb2 ⊢
      replace gb1 := sb2 _ _ gb1
      walk_at "rd"
      refine ⟨(by show 3 ≤ sizeLine; decide), fun b3 nb3 => ?_⟩
      have gb3 : upd B2 b3 (.lst ([.int 0, .int 5, .str "up"])) b3 = some (.lst ([.int 0, .int 5, .str "up"])) := upd_same
      have sb3 : Same B2 (upd B2 b3 (.lst ([.int 0, .int 5, .str "up"]))) := same_upd nb3
      generalize upd B2 b3 (.lst ([.int 0, .int 5, .str "up"])) = B3 at gb3 sb3 ⊢
      replace gb1 := sb3 _ _ gb1
      replace gb2 := sb3 _ _ gb2
      walk_at "rd"
      refine ⟨(by show 3 ≤ sizeLine; decide), fun b4 nb4 => ?_⟩
      have gb4 : upd B3 b4 (.tup ([.bl true, .int 5, .str "up"])) b4 = some (.tup ([.bl true, .int 5, .str "up"])) := upd_same
      have sb4 : Same B3 (upd B3 b4 (.tup ([.bl true, .int 5, .str "up"]))) := same_upd nb4
      generalize upd B3 b4 (.tup ([.bl true, .int 5, .str "up"])) = B4 at gb4 sb4 ⊢
      replace gb1 := sb4 _ _ gb1
      replace gb2 := sb4 _ _ gb2
      replace gb3 := sb4 _ _ gb3
      walk_at "rd"
      refine ⟨(by show 2 ≤ sizeLine; decide), fun b5 nb5 => ?_⟩
      have gb5 : upd B4 b5 (.tup ([.int 0, .int 5])) b5 = some (.tup ([.int 0, .int 5])) := upd_same
      have sb5 : Same B4 (upd B4 b5 (.tup ([.int 0, .int 5]))) := same_upd nb5
      generalize upd B4 b5 (.tup ([.int 0, .int 5])) = B5 at gb5 sb5 ⊢
      replace gb1 := sb5 _ _ gb1
      replace gb2 := sb5 _ _ gb2
      replace gb3 := sb5 _ _ gb3
      replace gb4 := sb5 _ _ gb4
      walk_at "rd"
      refine ⟨(by show 1 ≤ sizeLine; decide), fun b6 nb6 => ?_⟩
      have gb6 : upd B5 b6 (.lst ([x])) b6 = some (.lst ([x])) := upd_same
      have sb6 : Same B5 (upd B5 b6 (.lst ([x]))) := same_upd nb6
      generalize upd B5 b6 (.lst ([x])) = B6 at gb6 sb6 ⊢
      replace gb1 := sb6 _ _ gb1
      replace gb2 := sb6 _ _ gb2
      replace gb3 := sb6 _ _ gb3
      replace gb4 := sb6 _ _ gb4
      replace gb5 := sb6 _ _ gb5
      walk_at "rd"
      refine ⟨(by show 9 ≤ sizeLine; decide), fun b7 nb7 => ?_⟩
      have gb7 : upd B6 b7 (.lst ([.non, .int 7, .ref b1, .ref b2, .ref b3, .ref b4, .ref b5, .str (Str.ofString "up"), .ref b6])) b7 = some (.lst ([.non, .int 7, .ref b1, .ref b2, .ref b3, .ref b4, .ref b5, .str (Str.ofString "up"), .ref b6])) := upd_same
      have sb7 : Same B6 (upd B6 b7 (.lst ([.non, .int 7, .ref b1, .ref b2, .ref b3, .ref b4, .ref b5, .str (Str.ofString "up"), .ref b6]))) := same_upd nb7
      generalize upd B6 b7 (.lst ([.non, .int 7, .ref b1, .ref b2, .ref b3, .ref b4, .ref b5, .str (Str.ofString "up"), .ref b6])) = B7 at gb7 sb7 ⊢
      replace gb1 := sb7 _ _ gb1
      replace gb2 := sb7 _ _ gb2
      replace gb3 := sb7 _ _ gb3
      replace gb4 := sb7 _ _ gb4
      replace gb5 := sb7 _ _ gb5
      replace gb6 := sb7 _ _ gb6
      have sB : Same H B7 := sb1.trans (sb2.trans (sb3.trans (sb4.trans (sb5.trans (sb6.trans sb7)))))
      replace gx := gx.same14 sB
      have bads : ∀ y ∈ ([.non, .int 7, .ref b1, .ref b2, .ref b3, .ref b4, .ref b5, .str (Str.ofString "up"), .ref b6] : List V), BadS K B7 y := fun y m => by
        simp only [List.mem_cons, List.not_mem_nil, or_false] at m
        rcases m with rfl | rfl | rfl | rfl | rfl | rfl | rfl | rfl | rfl
        · exact .kind .non (by decide)
        · exact .kind (.int _) (by decide)
        · exact .stp gb1 (.int 0) (by decide +kernel) (.int 0) (by decide +kernel)
        · exact .mod gb2 (.int 0) (by decide +kernel) (.int 5) (by decide +kernel) (.str _) ⟨by decide +kernel, by decide +kernel⟩
        · exact .kind (.lst gb3) (by decide)
        · exact .off gb4 (.bl true) (by decide +kernel)
        · exact .len gb5 (by show ¬ 2 = 3; decide)
        · exact .kind (.str _) (by decide)
        · exact .kind (.lst gb6) (by decide)
      refine ⟨b7, rfl, ⟨_, SqL.of gb7⟩, ?_⟩
      refine for_list (K := K) (a := b7) (xs := [.non, .int 7, .ref b1, .ref b2, .ref b3, .ref b4, .ref b5, .str (Str.ofString "up"), .ref b6]) (fun i st Hz => ∃ x1 : Option V, st = [some x, x1, none] ∧ Same B7 Hz) ⟨none, rfl, Same.refl _⟩ (fun _ _ _ _ ⟨_, _, s⟩ => SqL.of (s _ _ gb7)) ?_ (fun st Hz ⟨x1, e, s⟩ => ⟨x1, e, sB.trans s⟩)
      rintro i y st H1 hy ⟨x1, rfl, s1⟩
      have bad := bads y (List.mem_of_getElem? hy)
      walk_at "rd"
      refine ⟨fun b Hz => b = false ∧ Same H1 Hz, ?_, ?_⟩
      · walk_at "rd"
        refine ⟨y, x, .non, rfl, .inl ⟨bad.same s1, fun H2 s2 => ?_⟩⟩
        walk_at "rd"
        refine ⟨rfl, ?_⟩
        refine ⟨_, rfl, ?_⟩
        refine ite2 (fun z => absurd z (by decide +kernel)) (fun _ => ?_)
        walk_at "rd"
        refine ⟨x, y, .non, rfl, .inr (.inl ⟨gx.same14 (s1.trans s2), bad.same (s1.trans s2), fun H3 s3 => ?_⟩)⟩
        walk_at "rd"
        refine ⟨rfl, ?_⟩
        exact ⟨_, rfl, by decide +kernel, s2.trans s3⟩
      rintro b H2 ⟨rfl, s2⟩
      refine ite2 (fun z => absurd z (by decide)) (fun _ => ?_)
      exact ⟨_, rfl, s1.trans s2⟩
    rintro st H1 ⟨x1, rfl, s1⟩
    replace gx := gx.same14 s1
    walk_at "rd"
    refine ⟨(by show 0 ≤ sizeLine; decide), fun v1 nv1 => ?_⟩
    have gv1 : upd H1 v1 (.lst ([])) v1 = some (.lst ([])) := upd_same
    have sv1 : Same H1 (upd H1 v1 (.lst ([]))) := same_upd nv1
    generalize upd H1 v1 (.lst ([])) = V1 at gv1 sv1 ⊢
    walk_at "rd"
    refine ⟨(by show 1 ≤ sizeLine; decide), fun v2 nv2 => ?_⟩
    have gv2 : upd V1 v2 (.tup ([.int 1])) v2 = some (.tup ([.int 1])) := upd_same
    have sv2 : Same V1 (upd V1 v2 (.tup ([.int 1]))) := same_upd nv2
    generalize upd V1 v2 (.tup ([.int 1])) = V2 at gv2 sv2 ⊢
    replace gv1 := sv2 _ _ gv1
    walk_at "rd"
    refine ⟨(by show 6 ≤ sizeLine; decide), fun v3 nv3 => ?_⟩
    have gv3 : upd V2 v3 (.lst ([.non, .bl true, .bl false, .str (Str.ofString "0"), .ref v1, .ref v2])) v3 = some (.lst ([.non, .bl true, .bl false, .str (Str.ofString "0"), .ref v1, .ref v2])) := upd_same
    have sv3 : Same V2 (upd V2 v3 (.lst ([.non, .bl true, .bl false, .str (Str.ofString "0"), .ref v1, .ref v2]))) := same_upd nv3
    generalize upd V2 v3 (.lst ([.non, .bl true, .bl false, .str (Str.ofString "0"), .ref v1, .ref v2])) = V3 at gv3 sv3 ⊢
    replace gv1 := sv3 _ _ gv1
    replace gv2 := sv3 _ _ gv2
    have sV := sv1.trans (sv2.trans sv3)
    replace gx := gx.same14 sV
    refine ⟨v3, rfl, ⟨_, SqL.of gv3⟩, fun Dd nD => ?_⟩
    refine lc_list (K := K) (a := v3) (xs := [.non, .bl true, .bl false, .str (Str.ofString "0"), .ref v1, .ref v2]) (fun i H6 => H6 Dd = some (.lst (List.replicate i (V.str "value"))) ∧ i ≤ 6 ∧ Same V3 H6) ⟨upd_same, by decide, same_upd nD⟩ (fun _ _ _ ⟨_, _, s6⟩ => SqL.of (s6 _ _ gv3)) ?_ ?_
    · rintro i y H6 hy ⟨hD, i6, s6⟩
      have i7 : i < 6 := (List.getElem?_eq_some_iff.mp hy).1
      have th : ∃ n, Th V3 y n ∧ isI n = false := by
        have m := List.mem_of_getElem? hy
        simp only [List.mem_cons, List.not_mem_nil, or_false] at m
        rcases m with rfl | rfl | rfl | rfl | rfl | rfl
        · exact ⟨_, .non, rfl⟩
        · exact ⟨_, .bl _, rfl⟩
        · exact ⟨_, .bl _, rfl⟩
        · exact ⟨_, .str _, rfl⟩
        · exact ⟨_, .lst gv1, rfl⟩
        · exact ⟨_, .tup gv2, rfl⟩
      obtain ⟨n, tn, ni⟩ := th
      refine ⟨rfl, ?_⟩
      walk_at "rd"
      refine ⟨x, x, y, rfl, .inr (.inr ⟨n, gx.same14 s6, gx.same14 s6, tn.same s6, ni, fun H7 s7 => ?_⟩)⟩
      refine ⟨_, s7 _ _ hD, (by rw [List.length_replicate]; exact Nat.lt_of_lt_of_le (by omega : i < 100) (by decide)), ?_, i7, fun b u z => (upd_ne (ne_of_none z nD)).trans (s7 _ _ (s6 _ _ z))⟩
      rw [List.replicate_succ']
      exact upd_same
    rintro H6 ⟨hD, _, s6⟩
    walk_at "rd"
    refine ⟨(by show 1 ≤ sizeLine; decide), fun w1 nw1 => ?_⟩
    have gw1 : upd H6 w1 (.lst ([.str (Str.ofString "value")])) w1 = some (.lst ([.str (Str.ofString "value")])) := upd_same
    have sw1 : Same H6 (upd H6 w1 (.lst ([.str (Str.ofString "value")]))) := same_upd nw1
    generalize upd H6 w1 (.lst ([.str (Str.ofString "value")])) = W1 at gw1 sw1 ⊢
    replace hD := sw1 _ _ hD
    walk_at "rd"
    refine ⟨w1, 6, _, rfl, rfl, gw1, by decide, by decide, (by show 1 * 6 ≤ sizeLine; decide), fun w2 nw2 => ?_⟩
    have gw2 : upd W1 w2 (.lst (List.replicate (6 : Int).toNat [V.str (Str.ofString "value")]).flatten) w2 = some (.lst (List.replicate 6 (V.str (Str.ofString "value")))) := upd_same
    have sw2 : Same W1 (upd W1 w2 (.lst (List.replicate (6 : Int).toNat [V.str (Str.ofString "value")]).flatten)) := same_upd nw2
    generalize upd W1 w2 _ = W2 at gw2 sw2 ⊢
    replace hD := sw2 _ _ hD
    have six : ∀ p, W2 p = some (.lst (List.replicate 6 (V.str (Str.ofString "value")))) → Dp K W2 (.ref p) (.list (List.replicate 6 (.str (Str.ofString "value")))) := fun p h => .lst (SqL.of h) (.cons (.str _) (.cons (.str _) (.cons (.str _) (.cons (.str _) (.cons (.str _) (.cons (.str _) .nil))))))
    refine ⟨_, _, six _ hD, six _ gw2, by decide +kernel, by decide +kernel, ?_⟩
    have e : PyData.eqv (.list (List.replicate 6 (.str (Str.ofString "value")))) (.list (List.replicate 6 (.str (Str.ofString "value")))) = true := by decide +kernel
    rw [show PyData.eqv _ _ = true from e]
    exact q _ (s1.trans (sV.trans (s6.trans (sw1.trans sw2))))
end
end HT
namespace HT
open PySem L2
def spLaw (K : PySem.W.Frag) : Sp := fun vs H Q _ => ∃ (l : Addr) (ns : List Int), vs = [.ref l] ∧ SqL K H l (ns.map V.int) ∧ ns.length ≤ 63 ∧ ∀ H', Q (.bl true) H'
section
variable {P : Program} {w : World} {K : PySem.W.Frag} {mg : Str → Option Value} {base : Heap} {f0 f1 f2 f3 f4 f5 : Addr} {d0 d1 d2 d3 d4 d5 : FuncData}
theorem ok_law {f : Addr} {fd : FuncData} (F : Fun K "law" "law" s_law f fd) (B : Blt mg) (So : Cal P w K mg base "_law_source" 1 ["_law_script"] (spSource K) f0 d0) (D : Cal P w K mg base "_law_draw" 1 ["_law_source_here", "_law_limit"] spDraw f1 d1)
    (Tw : Cal P w K mg base "_law_two" 5 ["_law_source_here"] spTwo f2 d2) (Df : Cal P w K mg base "_law_differs" 2 ["_law_one", "_law_other", "_law_value"] spDiff f3 d3) (Ex : Cal P w K mg base "exchange" 6 ["first", "second", "value"] spExch f4 d4) (Dr : Cal P w K mg base "_law_doors_right" 6 ["_law_good"] spDoors f5 d5) : FnOk P w K mg base CX0 7 f fd ["_law_script"] (spLaw K) := by
  refine F.ok sc_law (fun vs H Q E h => ?_) (fun cdv A outer s0 H vs Q E hr h => ?_)
  · obtain ⟨l, ns, rfl, _⟩ := h
    rfl
  · obtain ⟨l, ns, rfl, hl, nl, q⟩ := h
    have nd := sc_law.nd
    refine ⟨_, (pss_cons (ps_mid (ps_set (i := 1) nd rfl (Or.inl rfl) (pcl So hr (by decide) (by rfl) (pa_cons (pv 0) pa_nil))))
      (pss_cons (ps_mid (ps_for PassesOwn.never rfl (pi_range1 (by rfl) B.range (pa_cons pe_int pa_nil)) (pg_name (i := 2) nd rfl (Or.inl rfl)) (pss_cons (ps_mid (ps_asg (pcl Tw hr (by decide) (by rfl) (pa_cons (pv 1) pa_nil)) (pg_tup (by rfl) (pgs_cons (pg_name (i := 3) nd rfl (Or.inr rfl)) (pgs_cons (pg_name (i := 4) nd rfl (Or.inr rfl)) pgs_nil)))))
      (pss_cons (ps_mid (ps_set (i := 5) nd rfl (Or.inr rfl) (pe_op op_mulW (pe_op op_mul pe_int (pe_ix ix_tup (pv 3) pe_int (fun _ _ => rfl))) (pe_ix ix_tup (pv 4) pe_int (fun _ _ => rfl)))))
      (pss_cons (ps_mid (ps_setLc (i := 7) (own := [("_law_value", 6)]) (g := gName 6) rfl nd rfl rfl (sw_true rfl rfl rfl (by decide +kernel)) (pi_range1 (by rfl) B.range (pa_cons (pv 5) pa_nil)) (blkOk_by (N := ["_law_script", "_law_source_here", "_law_turn", "_law_one", "_law_other", "_law_period", "_law_value", "_law_marks", "_law_mark", "_law_later", "_law_due"]) (sc := defScope s_law) (by decide +kernel)) (fun _ _ _ _ _ => pg_name (i := 6) nd rfl (Or.inl rfl)) (fun _ _ _ _ _ => (pts_one (pt_val (pcl Df hr (by decide) (by rfl) (pa_cons (pv 3) (pa_cons (pv 4) (pa_cons (pv 6) pa_nil))))))) (fun _ _ _ _ _ => (pv 6))))
      (pss_one (ps_mid (ps_for PassesOwn.never rfl (pi_list (pe_lst (pa_cons pe_int (pa_cons (pe_op op_sub (pv 5) pe_int) (pa_cons (pcl D hr (by decide) (by rfl) (pa_cons (pv 1) (pa_cons (pv 5) pa_nil))) (pa_cons (pcl D hr (by decide) (by rfl) (pa_cons (pv 1) (pa_cons (pv 5) pa_nil))) pa_nil)))))) (pg_name (i := 6) nd rfl (Or.inr rfl)) (pss_cons (ps_mid (ps_set (i := 9) nd rfl (Or.inl rfl) (pe_op op_cat (pe_lc (own := [("_law_mark", 8)]) (g := gName 8) rfl nd (pi_list (pv 7)) (blkOk_by (N := ["_law_script", "_law_source_here", "_law_turn", "_law_one", "_law_other", "_law_period", "_law_value", "_law_marks", "_law_mark", "_law_later", "_law_due"]) (sc := defScope s_law) (by decide +kernel)) (fun _ _ _ _ _ => pg_name (i := 8) nd rfl (Or.inl rfl)) (fun _ _ _ _ _ => (pts_one (pt_cmpR op_ge (pv 8) (pv 6) (nomark _)))) (fun _ _ _ _ _ => (pv 8))) (pe_lc (own := [("_law_mark", 8)]) (g := gName 8) (tt := tYes) rfl nd (pi_list (pv 7)) (blkOk_by (N := ["_law_script", "_law_source_here", "_law_turn", "_law_one", "_law_other", "_law_period", "_law_value", "_law_marks", "_law_mark", "_law_later", "_law_due"]) (sc := defScope s_law) (by decide +kernel)) (fun _ _ _ _ _ => pg_name (i := 8) nd rfl (Or.inl rfl)) (fun _ _ _ _ _ => pts_nil) (fun _ _ _ _ _ => (pe_op op_add (pv 8) (pv 5)))))))
      (pss_cons (ps_mid (ps_set (i := 10) nd rfl (Or.inl rfl) (pe_ix ix_list (pe_op op_cat (pv 9) (pe_lst (pa_cons pe_non pa_nil))) pe_int (fun _ _ => rfl))))
      (pss_cons (ps_if (pt_mid (PW.pt (pw_or (pt_cmpR (op_neD hr.units) (pcl Ex hr (by decide) (by rfl) (pa_cons (pv 3) (pa_cons (pv 4) (pa_cons (pv 6) pa_nil)))) (pv 10) (nomark _)) (pw_or1 (pt_cmpR (op_neD hr.units) (pcl Ex hr (by decide) (by rfl) (pa_cons (pv 4) (pa_cons (pv 3) (pa_cons (pv 6) pa_nil)))) (pv 10) (nomark _)))))) (pss_one (ps_ret pe_bl)) pss_nil)
      (pss_one (ps_if (pt_mid (PW.pt (pw_and (pt_cmpR (op_neD hr.units) (pv 7) (pe_lst pa_nil) (nomark _)) (pw_and1 (pt_cmpR (op_neD hr.units) (pcl Ex hr (by decide) (by rfl) (pa_cons (pv 3) (pa_cons (pv 4) (pa_cons (pe_op op_sub (pv 6) (pe_op op_mul pe_int (pv 5))) pa_nil)))) (pe_op op_sub (pv 10) (pe_op op_mul pe_int (pv 5))) (nomark _)))))) (pss_one (ps_ret pe_bl)) pss_nil)))))))))))))
      (pss_cons (ps_if (pt_mid (pt_cmpR (op_neD hr.units) (pcl Ex hr (by decide) (by rfl) (pa_cons (pe_tup (pa_cons pe_int (pa_cons pe_int (pa_cons pe_str pa_nil)))) (pa_cons (pe_tup (pa_cons pe_int (pa_cons pe_int (pa_cons pe_str pa_nil)))) (pa_cons pe_int pa_nil)))) pe_int (nomark _))) (pss_one (ps_ret pe_bl)) pss_nil)
      (pss_cons (ps_if (pt_mid (pt_cmpR op_notN (pcl Ex hr (by decide) (by rfl) (pa_cons (pe_tup (pa_cons pe_int (pa_cons pe_int (pa_cons pe_str pa_nil)))) (pa_cons (pe_tup (pa_cons pe_int (pa_cons pe_int (pa_cons pe_str pa_nil)))) (pa_cons pe_int pa_nil)))) pe_non (nomark _))) (pss_one (ps_ret pe_bl)) pss_nil)
      (pss_one (ps_ret (pe_and (pe_cmpR (op_eqD hr.units) (pcl Ex hr (by decide) (by rfl) (pa_cons (pe_tup (pa_cons pe_int (pa_cons pe_int (pa_cons pe_str pa_nil)))) (pa_cons (pe_tup (pa_cons pe_int (pa_cons pe_int (pa_cons pe_str pa_nil)))) (pa_cons pe_int pa_nil)))) pe_int (nomark _)) (pe_one (pcl Dr hr (by decide) (by rfl) (pa_cons (pe_tup (pa_cons pe_int (pa_cons pe_int (pa_cons pe_str pa_nil)))) pa_nil)))))))))), ?_⟩
    refine ⟨fun st Hz => ∃ a c : Addr, st = [some (.ref l), some (.ref a), none, none, none, none, none, none, none, none, none] ∧ Src Hz a c 0, ?_, ?_⟩
    · walk_at "rd"
      refine ⟨l, ns, rfl, hl, nl, fun a c H1 _ _ _ S1 => ?_⟩
      exact ⟨a, c, rfl, S1⟩
    rintro st H1 ⟨a, c, rfl, S1⟩
    refine ⟨fun st Hz => ∃ (x2 x3 x4 x5 x6 x7 x9 x10 : Option V), st = [some (.ref l), some (.ref a), x2, x3, x4, x5, x6, x7, none, x9, x10], ?_, ?_⟩
    · walk_at "rd"
      refine ⟨by decide, by decide, ?_⟩
      refine for_range (n := 60) (fun i st Hz => ∃ (x2 x3 x4 x5 x6 x7 x9 x10 : Option V) (t : Nat), st = [some (.ref l), some (.ref a), x2, x3, x4, x5, x6, x7, none, x9, x10] ∧ Src Hz a c t ∧ t ≤ 1000 * i) ⟨none, none, none, none, none, none, none, none, 0, rfl, S1, by omega⟩ ?_ (fun st Hz ⟨x2, x3, x4, x5, x6, x7, x9, x10, t, e, _⟩ => ⟨x2, x3, x4, x5, x6, x7, x9, x10, e⟩)
      rintro i st Ha hi ⟨x2, x3, x4, x5, x6, x7, x9, x10, t, rfl, Sa, tb⟩
      walk_at "rd"
      refine ⟨fun st Hz => ∃ (p1 p2 : Addr) (t' : Nat), st = [some (.ref l), some (.ref a), some (.int (0 + (i : Int))), some (.ref p1), some (.ref p2), x5, x6, x7, none, x9, x10] ∧ SdA Hz p1 60 100 ∧ SdA Hz p2 60 100 ∧ t' ≤ t + 200 ∧ Src Hz a c t', ?_, ?_⟩
      · walk_at "rd"
        refine ⟨a, c, t, rfl, Sa, by omega, fun d p1 p2 H2 t2 hd A1 A2 t2b S2 O2 => ?_⟩
        refine ⟨d, _, rfl, SqT.of hd, rfl, _, _, rfl, _, _, rfl, rfl, ?_⟩
        exact ⟨p1, p2, t2, rfl, A1, A2, t2b, S2⟩
      rintro st H2 ⟨p1, p2, t2, rfl, ⟨o, s, m, h1, b1, b2, b3, b4, bm⟩, ⟨o2, s2, m2, h2, c1, c2, c3, c4, cm⟩, t2b, S2⟩
      have P1 : SideP o s m := ⟨by omega, by omega, b1, by omega, bm⟩
      have P2 : SideP o2 s2 m2 := ⟨by omega, by omega, c1, by omega, cm⟩
      have n1 := S2.nt h1
      have n2 := S2.nt h2
      have w2 := mul_le2 (a := s) (b := s2) (A := 60) (B := 60) (by omega) (by omega) b2 c2
      have w3 : 1 * 1 ≤ s * s2 := Int.mul_le_mul b1 c1 (by decide) (by omega)
      obtain ⟨N, eN⟩ : ∃ N : Nat, (N : Int) = 2 * s * s2 := ⟨(2 * s * s2).toNat, by rw [Int.toNat_of_nonneg]; rw [Int.mul_assoc]; omega⟩
      have eN2 : (N : Int) = 2 * (s * s2) := by rw [eN, Int.mul_assoc]
      refine ⟨fun st Hz => st = [some (.ref l), some (.ref a), some (.int (0 + (i : Int))), some (.ref p1), some (.ref p2), some (.int (N : Int)), x6, x7, none, x9, x10] ∧ Hz = H2, ?_, ?_⟩
      · walk_at "rd"
        refine ⟨p1, _, 1, _, rfl, rfl, SqT.of h1, rfl, ?_⟩
        walk_at "rd"
        refine ⟨.inl ⟨by decide, by decide⟩, ?_⟩
        walk_at "rd"
        refine ⟨p2, _, 1, _, rfl, rfl, SqT.of h2, rfl, ?_⟩
        walk_at "rd"
        refine ⟨mulW (by omega) (by omega), ?_⟩
        rw [eN]
        exact ⟨rfl, rfl⟩
      rintro st H3 ⟨rfl, rfl⟩
      have N1 : 0 < N ∧ N ≤ 7200 := by omega
      refine ⟨fun st Hz => ∃ pm : Addr, st = [some (.ref l), some (.ref a), some (.int (0 + (i : Int))), some (.ref p1), some (.ref p2), some (.int (N : Int)), x6, some (.ref pm), none, x9, x10] ∧ Same H3 Hz ∧ H3 pm = none ∧ Hz pm = some (.lst ((mkL (diffB o s m o2 s2 m2) N).map V.int)), ?_, ?_⟩
      · walk_at "rd"
        refine ⟨by omega, by omega, fun Dd nD => ?_⟩
        refine lc_range (lo := 0) (n := N) (fun k H5 => H5 Dd = some (.lst ((mkL (diffB o s m o2 s2 m2) k).map V.int)) ∧ (mkL (diffB o s m o2 s2 m2) k).length ≤ k ∧ Same H3 H5) ⟨upd_same, Nat.le_refl _, same_upd nD⟩ ?_ ?_
        · rintro k H5 hk ⟨hD, lk, s5⟩
          refine ⟨rfl, ?_⟩
          walk_at "rd"
          refine ⟨p1, p2, o, s, m, o2, s2, m2, _, rfl, s5 _ _ h1, P1, s5 _ _ h2, P2, by omega, fun b H6 hb s6 => ?_⟩
          have eb : b = diffB o s m o2 s2 m2 (k : Int) := bool_is (by rw [show (0 : Int) + (k : Int) = k by omega] at hb; exact hb) (diffB_ok _)
          have mk := mkL_succ (diffB o s m o2 s2 m2) k
          rw [← eb] at mk
          have hD6 := s6 _ _ hD
          refine ⟨b, rfl, ?_⟩
          refine ite2 (fun tb => ?_) (fun fb => ?_)
          · walk_at "rd"
            rw [if_pos tb] at mk
            refine ⟨_, hD6, (by rw [List.length_map]; exact Nat.lt_of_le_of_lt lk (Nat.lt_of_lt_of_le (by omega : k < 8000) (by decide))), ?_, ?_, fun b u z => (upd_ne (ne_of_none z nD)).trans (s6 _ _ (s5 _ _ z))⟩
            · rw [mk, List.map_append, show (0 : Int) + (k : Int) = k by omega]
              exact upd_same
            · rw [mk, List.length_append]
              exact Nat.succ_le_succ lk
          · rw [if_neg fb, List.append_nil] at mk
            rw [mk]
            exact ⟨hD6, by omega, s5.trans s6⟩
        rintro H5 ⟨hD, lk, s5⟩
        exact ⟨Dd, rfl, s5, nD, hD⟩
      rintro st H4 ⟨pm, rfl, s4, npm, hpm⟩
      replace h1 := s4 _ _ h1
      replace h2 := s4 _ _ h2
      have S4 := S2.of_same s4
      have nm := S2.na npm
      refine ⟨fun st Hz => ∃ (y6 y9 y10 : Option V) (t' : Nat), st = [some (.ref l), some (.ref a), some (.int (0 + (i : Int))), some (.ref p1), some (.ref p2), some (.int (N : Int)), y6, some (.ref pm), none, y9, y10] ∧ t' ≤ t2 + 2 ∧ Src Hz a c t', ?_, ?_⟩
      · walk_at "rd"
        refine ⟨a, c, t2, (N : Int), rfl, S4, by omega, by omega, lg_small (by omega) (by omega), fun g H5 g0 g1 S5 O5 => ?_⟩
        walk_at "rd"
        refine ⟨a, c, t2 + 1, (N : Int), rfl, S5, by omega, by omega, lg_small (by omega) (by omega), fun g' H6 g0' g1' S6 O6 => ?_⟩
        have O46 := O5.trans O6
        replace h1 := O46 _ _ h1 n1.1 n1.2
        replace h2 := O46 _ _ h2 n2.1 n2.2
        replace hpm := O46 _ _ hpm nm.1 nm.2
        refine ⟨(by show 4 ≤ sizeLine; decide), fun v1 nv1 => ?_⟩
        have gv1 : upd H6 v1 (.lst ([.int 0, .int ((N : Int) - 1), .int g, (.int g')])) v1 = some (.lst ([.int 0, .int ((N : Int) - 1), .int g, (.int g')])) := upd_same
        have sv1 : Same H6 (upd H6 v1 (.lst ([.int 0, .int ((N : Int) - 1), .int g, (.int g')]))) := same_upd nv1
        generalize upd H6 v1 (.lst ([.int 0, .int ((N : Int) - 1), .int g, (.int g')])) = V1 at gv1 sv1 ⊢
        replace h1 := sv1 _ _ h1
        replace h2 := sv1 _ _ h2
        replace hpm := sv1 _ _ hpm
        walk_at "rd"
        have S7 := S6.of_same sv1
        refine ⟨⟨_, SqL.of gv1⟩, ?_⟩
        refine for_list (K := K) (a := v1) (xs := [.int 0, .int ((N : Int) - 1), .int g, .int g']) (fun j st Hz => ∃ (y6 y9 y10 : Option V), st = [some (.ref l), some (.ref a), some (.int (0 + (i : Int))), some (.ref p1), some (.ref p2), some (.int (N : Int)), y6, some (.ref pm), none, y9, y10] ∧ Same V1 Hz) ⟨x6, x9, x10, rfl, Same.refl _⟩ (fun _ _ _ _ ⟨_, _, _, _, s⟩ => SqL.of (s _ _ gv1)) ?_ (fun st Hz ⟨y6, y9, y10, e, s⟩ => ⟨y6, y9, y10, t2 + 2, e, by omega, S7.of_same s⟩)
        rintro j y st H8 hy ⟨y6, y9, y10, rfl, s8⟩
        obtain ⟨v, rfl, v0, vN⟩ : ∃ v : Int, y = .int v ∧ 0 ≤ v ∧ v < (N : Int) := by
          have m := List.mem_of_getElem? hy
          simp only [List.mem_cons, List.not_mem_nil, or_false] at m
          rcases m with e | e | e | e <;> exact ⟨_, e, by omega, by omega⟩
        replace h1 := s8 _ _ h1
        replace h2 := s8 _ _ h2
        replace hpm := s8 _ _ hpm
        clear hy gv1 S7 O46 S6 O6 S5 O5
        obtain ⟨L, eL⟩ : ∃ L, L = mkL (diffB o s m o2 s2 m2) N := ⟨_, rfl⟩
        have lL : L.length ≤ 7200 := by rw [eL]; exact Nat.le_trans mkL_len N1.2
        rw [← eL] at hpm
        have hd := head_ok (o := o) (p := o2) P1.md P2.md P1.s0 P2.s0 eN v0 vN
        unfold headD at hd
        rw [← eL] at hd
        walk_at "rd"
        walk_at "rd"
        refine ⟨fun st Hz => ∃ pl : Addr, st = [some (.ref l), some (.ref a), some (.int (0 + (i : Int))), some (.ref p1), some (.ref p2), some (.int (N : Int)), some (.int v), some (.ref pm), none, some (.ref pl), y10] ∧ Same H8 Hz ∧ Hz pl = some (.lst (((L.filter fun m => decide (v ≤ m)) ++ L.map fun m => m + (N : Int)).map V.int)), ?_, ?_⟩
        · walk_at "rd"
          refine ⟨⟨_, SqL.of hpm⟩, fun Dd nD => ?_⟩
          refine lc_list (K := K) (a := pm) (xs := L.map V.int) (fun k Hz => Hz Dd = some (.lst (((L.take k).filter fun m => decide (v ≤ m)).map V.int)) ∧ Same H8 Hz) ⟨(by rw [List.take_zero]; exact upd_same), same_upd nD⟩ (fun _ _ _ ⟨_, s⟩ => SqL.of (s _ _ hpm)) ?_ ?_
          · rintro k y H9 hy ⟨hD, s9⟩
            obtain ⟨x, hx, rfl⟩ := map_at hy
            have kl : k < L.length := (List.getElem?_eq_some_iff.mp hx).1
            have tk : L.take (k + 1) = L.take k ++ [x] := by rw [List.take_succ, hx]; rfl
            have fl : ((L.take k).filter fun m => decide (v ≤ m)).length < sizeLine := Nat.lt_of_le_of_lt (Nat.le_trans (List.length_filter_le _ _) (by rw [List.length_take]; omega : (L.take k).length ≤ 7200)) (by decide)
            walk_at "rd"
            refine ⟨rfl, ?_⟩
            walk_at "rd"
            refine ite2 (fun tb => ?_) (fun fb => ?_)
            · walk_at "rd"
              refine ⟨_, hD, (by rw [List.length_map]; exact fl), ?_, fun b u z => (upd_ne (ne_of_none z nD)).trans (s9 _ _ z)⟩
              rw [tk, List.filter_append, List.filter_cons, if_pos tb, List.filter_nil, List.map_append]
              exact upd_same
            · rw [tk, List.filter_append, List.filter_cons, if_neg fb, List.filter_nil, List.append_nil]
              exact ⟨hD, s9⟩
          rintro H9 ⟨hD, s9⟩
          rw [List.length_map, List.take_length] at hD
          replace hpm := s9 _ _ hpm
          walk_at "rd"
          refine ⟨⟨_, SqL.of hpm⟩, fun De nE => ?_⟩
          refine lc_list (K := K) (a := pm) (xs := L.map V.int) (fun k Hz => Hz De = some (.lst (((L.take k).map fun m => m + (N : Int)).map V.int)) ∧ Same H9 Hz) ⟨(by rw [List.take_zero]; exact upd_same), same_upd nE⟩ (fun _ _ _ ⟨_, s⟩ => SqL.of (s _ _ hpm)) ?_ ?_
          · rintro k y Ha hy ⟨hE, sa⟩
            obtain ⟨x, hx, rfl⟩ := map_at hy
            have kl : k < L.length := (List.getElem?_eq_some_iff.mp hx).1
            have tk : L.take (k + 1) = L.take k ++ [x] := by rw [List.take_succ, hx]; rfl
            walk_at "rd"
            refine ⟨rfl, ?_⟩
            walk_at "rd"
            refine ⟨_, hE, (by rw [List.length_map, List.length_map, List.length_take]; exact Nat.lt_of_le_of_lt (by omega : _ ≤ 7200) (by decide)), ?_, fun b u z => (upd_ne (ne_of_none z nE)).trans (sa _ _ z)⟩
            rw [tk, List.map_append, List.map_append]
            exact upd_same
          rintro Ha ⟨hE, sa⟩
          rw [List.length_map, List.take_length] at hE
          replace hD := sa _ _ hD
          walk_at "rd"
          refine ⟨Dd, De, _, _, rfl, rfl, hD, hE, (by rw [List.length_map, List.length_map, List.length_map]; exact Nat.le_trans (Nat.add_le_add (Nat.le_trans (List.length_filter_le _ _) lL) lL) (by decide)), fun pl npl => ?_⟩
          exact ⟨pl, rfl, (s9.trans sa).trans (same_upd npl), by rw [List.map_append]; exact upd_same⟩
        rintro st H9 ⟨pl, rfl, s9, hpl⟩
        obtain ⟨du, edu⟩ : ∃ du, du = ((L.filter fun m => decide (v ≤ m)) ++ L.map fun m => m + (N : Int)).head? := ⟨_, rfl⟩
        obtain ⟨M, eM⟩ : ∃ M, M = (L.filter fun m => decide (v ≤ m)) ++ L.map fun m => m + (N : Int) := ⟨_, rfl⟩
        have lM : M.length ≤ 14400 := by rw [eM, List.length_append, List.length_map]; exact Nat.le_trans (Nat.add_le_add (Nat.le_trans (List.length_filter_le _ _) lL) lL) (by decide)
        rw [← edu] at hd
        rw [← eM] at hpl edu
        refine ⟨fun st Hz => st = [some (.ref l), some (.ref a), some (.int (0 + (i : Int))), some (.ref p1), some (.ref p2), some (.int (N : Int)), some (.int v), some (.ref pm), none, some (.ref pl), some (oV du)] ∧ Same H9 Hz, ?_, ?_⟩
        · walk_at "rd"
          walk_at "rd"
          refine ⟨(by show 1 ≤ sizeLine; decide), fun q1 nq1 => ?_⟩
          have sq1 : Same H9 (upd H9 q1 (.lst [.non])) := same_upd nq1
          refine ⟨pl, q1, _, _, rfl, rfl, sq1 _ _ hpl, upd_same, (by rw [List.length_map]; exact Nat.le_trans (Nat.add_le_add lM (Nat.le_refl 1)) (by decide)), fun q2 nq2 => ?_⟩
          walk_at "rd"
          refine ⟨q2, _, 0, _, rfl, rfl, SqL.of upd_same, head_at M, ?_⟩
          rw [← edu]
          exact ⟨rfl, sq1.trans (same_upd nq2)⟩
        rintro st Ha ⟨rfl, sa⟩
        replace h1 := sa _ _ (s9 _ _ h1)
        replace h2 := sa _ _ (s9 _ _ h2)
        replace hpm := sa _ _ (s9 _ _ hpm)
        replace s8 := s8.trans (s9.trans sa)
        clear s9 sa hpl
        walk_at "rd"
        refine ⟨fun b Hz => b = false ∧ Same Ha Hz, ?_, ?_⟩
        · walk_at "rd"
          refine ⟨p1, p2, o, s, m, o2, s2, m2, v, rfl, h1, P1, h2, P2, by omega, fun r HC hr _ sC => ?_⟩
          obtain rfl := exch_uniq hr hd
          walk_at "rd"
          refine ⟨_, _, dp_oV _, dp_oV _, shaped_oD _, shaped_oD _, ?_⟩
          rw [eqv_oD]
          refine ⟨_, rfl, ?_⟩
          refine ite2 (fun z => absurd z (by decide)) (fun _ => ?_)
          walk_at "rd"
          refine ⟨p2, p1, o2, s2, m2, o, s, m, v, rfl, sC _ _ h2, P2, sC _ _ h1, P1, by omega, fun r2 HD hr2 _ sD => ?_⟩
          obtain rfl := exch_uniq ((exch_congr fun _ => diff_comm) hr2) hd
          walk_at "rd"
          refine ⟨_, _, dp_oV _, dp_oV _, shaped_oD _, shaped_oD _, ?_⟩
          rw [eqv_oD]
          exact ⟨_, rfl, rfl, sC.trans sD⟩
        rintro b Hb ⟨rfl, sb⟩
        refine ite2 (fun z => absurd z (by decide)) (fun _ => ?_)
        replace h1 := sb _ _ h1
        replace h2 := sb _ _ h2
        replace hpm := sb _ _ hpm
        replace s8 := s8.trans sb
        walk_at "rd"
        walk_at "rd"
        refine ⟨fun b Hz => b = false ∧ Same Hb Hz, ?_, ?_⟩
        · walk_at "rd"
          refine ⟨(by show 0 ≤ sizeLine; decide), fun e0 ne0 => ?_⟩
          have sz0 : Same Hb (upd Hb e0 (.lst [])) := same_upd ne0
          refine ⟨_, _, dp_ints (sz0 _ _ hpm), dp_ints (A := []) upd_same, shaped_ints _, shaped_ints [], ?_⟩
          rw [show PyData.eqv (.list (L.map PyData.int)) (.list (([] : List Int).map PyData.int)) = decide (L = []) from eqv_nil L]
          refine ⟨_, rfl, ?_⟩
          refine ite2 (fun tb => ?_) (fun _ => ⟨rfl, sz0⟩)
          have neL : L ≠ [] := fun z => by rw [decide_eq_true z] at tb; exact absurd tb (by decide)
          obtain ⟨x, rfl⟩ : ∃ x, du = some x := by
            cases e : du with
            | some x => exact ⟨x, rfl⟩
            | none =>
              rw [e, eM] at edu
              have z := List.append_eq_nil_iff.mp (List.head?_eq_none_iff.mp edu.symm)
              exact absurd (List.map_eq_nil_iff.mp z.2) neL
          walk_at "rd"
          refine ⟨.inl ⟨by decide, by decide⟩, ?_⟩
          walk_at "rd"
          refine ⟨p1, p2, o, s, m, o2, s2, m2, _, rfl, sz0 _ _ h1, P1, sz0 _ _ h2, P2, by omega, fun r HC hr _ sC => ?_⟩
          have per : ∀ x, diffX o s m o2 s2 m2 (x - 7 * (N : Int)) ↔ diffX o s m o2 s2 m2 x := fun x => by
            rw [show x - 7 * (N : Int) = x + 2 * s * s2 * (-7) by rw [← eN]; omega]
            exact diff_per P1.md P2.md P1.s0 P2.s0 (-7) x
          obtain rfl := exch_uniq hr (exch_shift per hd)
          walk_at "rd"
          refine ⟨.inl ⟨by decide, by decide⟩, ?_⟩
          refine ⟨_, _, rfl, rfl, ?_⟩
          refine ⟨_, _, dp_oV (some (x - 7 * (N : Int))), .int _, shaped_oD (some (x - 7 * (N : Int))), shaped_oD (some _), ?_⟩
          rw [show PyData.eqv (oD (some (x - 7 * (N : Int)))) (PyData.int (x - 7 * (N : Int))) = true from eqv_oD (some (x - 7 * (N : Int)))]
          exact ⟨_, rfl, rfl, sz0.trans sC⟩
        rintro b Hc ⟨rfl, sc⟩
        refine ite2 (fun z => absurd z (by decide)) (fun _ => ?_)
        walk_at "rd"
        exact ⟨_, _, _, rfl, s8.trans sc⟩
      rintro st H5 ⟨y6, y9, y10, t5, rfl, t5b, S5⟩
      exact ⟨_, _, _, _, _, _, _, _, t5, rfl, S5, by omega⟩
    rintro st H2 ⟨x2, x3, x4, x5, x6, x7, x9, x10, rfl⟩
    clear S1 hl
    walk_at "rd"
    refine ⟨fun b Hz => b = false, ?_, ?_⟩
    · walk_at "rd"
      refine ⟨(by show 3 ≤ sizeLine; decide), fun a1 na1 => ?_⟩
      have ga1 : upd H2 a1 (.tup ([.int 0, .int 4, .str (Str.ofString "down")])) a1 = some (.tup ([.int 0, .int 4, .str (Str.ofString "down")])) := upd_same
      have sa1 : Same H2 (upd H2 a1 (.tup ([.int 0, .int 4, .str (Str.ofString "down")]))) := same_upd na1
      generalize upd H2 a1 (.tup ([.int 0, .int 4, .str (Str.ofString "down")])) = A1 at ga1 sa1 ⊢
      walk_at "rd"
      refine ⟨(by show 3 ≤ sizeLine; decide), fun a2 na2 => ?_⟩
      have ga2 : upd A1 a2 (.tup ([.int 0, .int 6, .str (Str.ofString "down")])) a2 = some (.tup ([.int 0, .int 6, .str (Str.ofString "down")])) := upd_same
      have sa2 : Same A1 (upd A1 a2 (.tup ([.int 0, .int 6, .str (Str.ofString "down")]))) := same_upd na2
      generalize upd A1 a2 (.tup ([.int 0, .int 6, .str (Str.ofString "down")])) = A2 at ga2 sa2 ⊢
      replace ga1 := sa2 _ _ ga1
      walk_at "rd"
      walk_at "rd"
      refine ⟨a1, a2, _, _, _, _, _, _, 0, rfl, ga1, ⟨by decide, by decide, by decide, by decide, .inl rfl⟩, ga2, ⟨by decide, by decide, by decide, by decide, .inl rfl⟩, by omega, fun r HC hr _ sC => ?_⟩
      obtain rfl := first_a hr
      walk_at "rd"
      refine ⟨_, _, .int 6, .int 6, rfl, rfl, ?_⟩
      exact ⟨_, rfl, (by decide +kernel : (!PyData.eqv (.int 6) (.int 6)) = false)⟩
    rintro b Hb rfl
    refine ite2 (fun z => absurd z (by decide)) (fun _ => ?_)
    walk_at "rd"
    walk_at "rd"
    refine ⟨fun b Hz => b = false, ?_, ?_⟩
    · walk_at "rd"
      refine ⟨(by show 3 ≤ sizeLine; decide), fun a1 na1 => ?_⟩
      have ga1 : upd Hb a1 (.tup ([.int 0, .int 3, .str (Str.ofString "half_up")])) a1 = some (.tup ([.int 0, .int 3, .str (Str.ofString "half_up")])) := upd_same
      have sa1 : Same Hb (upd Hb a1 (.tup ([.int 0, .int 3, .str (Str.ofString "half_up")]))) := same_upd na1
      generalize upd Hb a1 (.tup ([.int 0, .int 3, .str (Str.ofString "half_up")])) = A1 at ga1 sa1 ⊢
      walk_at "rd"
      refine ⟨(by show 3 ≤ sizeLine; decide), fun a2 na2 => ?_⟩
      have ga2 : upd A1 a2 (.tup ([.int 0, .int 9, .str (Str.ofString "half_up")])) a2 = some (.tup ([.int 0, .int 9, .str (Str.ofString "half_up")])) := upd_same
      have sa2 : Same A1 (upd A1 a2 (.tup ([.int 0, .int 9, .str (Str.ofString "half_up")]))) := same_upd na2
      generalize upd A1 a2 (.tup ([.int 0, .int 9, .str (Str.ofString "half_up")])) = A2 at ga2 sa2 ⊢
      replace ga1 := sa2 _ _ ga1
      walk_at "rd"
      walk_at "rd"
      refine ⟨a1, a2, _, _, _, _, _, _, 0, rfl, ga1, ⟨by decide, by decide, by decide, by decide, .inr (.inr (.inr (.inl rfl)))⟩, ga2, ⟨by decide, by decide, by decide, by decide, .inr (.inr (.inr (.inl rfl)))⟩, by omega, fun r HC hr _ sC => ?_⟩
      obtain rfl := first_b hr
      walk_at "rd"
      exact ⟨rfl, _, rfl, (by decide : (!decide (oV none = V.non)) = false)⟩
    rintro b Hc rfl
    refine ite2 (fun z => absurd z (by decide)) (fun _ => ?_)
    walk_at "rd"
    walk_at "rd"
    refine ⟨(by show 3 ≤ sizeLine; decide), fun a1 na1 => ?_⟩
    have ga1 : upd Hc a1 (.tup ([.int 0, .int 10, .str (Str.ofString "half_up")])) a1 = some (.tup ([.int 0, .int 10, .str (Str.ofString "half_up")])) := upd_same
    have sa1 : Same Hc (upd Hc a1 (.tup ([.int 0, .int 10, .str (Str.ofString "half_up")]))) := same_upd na1
    generalize upd Hc a1 (.tup ([.int 0, .int 10, .str (Str.ofString "half_up")])) = A1 at ga1 sa1 ⊢
    walk_at "rd"
    refine ⟨(by show 3 ≤ sizeLine; decide), fun a2 na2 => ?_⟩
    have ga2 : upd A1 a2 (.tup ([.int 0, .int 100, .str (Str.ofString "half_up")])) a2 = some (.tup ([.int 0, .int 100, .str (Str.ofString "half_up")])) := upd_same
    have sa2 : Same A1 (upd A1 a2 (.tup ([.int 0, .int 100, .str (Str.ofString "half_up")]))) := same_upd na2
    generalize upd A1 a2 (.tup ([.int 0, .int 100, .str (Str.ofString "half_up")])) = A2 at ga2 sa2 ⊢
    replace ga1 := sa2 _ _ ga1
    walk_at "rd"
    walk_at "rd"
    refine ⟨a1, a2, _, _, _, _, _, _, 0, rfl, ga1, ⟨by decide, by decide, by decide, by decide, .inr (.inr (.inr (.inl rfl)))⟩, ga2, ⟨by decide, by decide, by decide, by decide, .inr (.inr (.inr (.inl rfl)))⟩, by omega, fun r HC hr _ sC => ?_⟩
    obtain rfl := first_c hr
    walk_at "rd"
    refine ⟨_, _, .int 45, .int 45, rfl, rfl, ?_⟩
    refine ⟨_, rfl, ?_⟩
    rw [show PyData.eqv (.int 45) (.int 45) = true by decide +kernel, if_pos rfl]
    refine ⟨(by show 3 ≤ sizeLine; decide), fun b1 nb1 => ?_⟩
    have gb1 : upd HC b1 (.tup ([.int 0, .int 5, .str (Str.ofString "half_even")])) b1 = some (.tup ([.int 0, .int 5, .str (Str.ofString "half_even")])) := upd_same
    have sb1 : Same HC (upd HC b1 (.tup ([.int 0, .int 5, .str (Str.ofString "half_even")]))) := same_upd nb1
    generalize upd HC b1 (.tup ([.int 0, .int 5, .str (Str.ofString "half_even")])) = B1 at gb1 sb1 ⊢
    walk_at "rd"
    exact ⟨⟨b1, 0, 5, "half_even", rfl, gb1, ⟨by decide, by decide, by decide, by decide, .inr (.inr (.inr (.inr rfl)))⟩⟩, fun Hd _ => q Hd⟩
end
end HT
namespace HT
open PySem L2
def errB (K : PySem.W.Frag) (C : Addr) : Bool := (PySem.W.clsIn K C).isSome && (decide (PySem.W.findIn K (.ref C) "__getattribute__" = some (some (.builtin "BaseException.__getattribute__"))) && (decide (PySem.W.findIn K (.ref C) "__getattr__" = some none) && (decide (PySem.W.subIn K (.ref C) (.type "BaseException") = some true) &&
  (decide (PySem.W.findIn K (.ref C) "__class__" = some (some (.builtin "object.__class__"))) && decide (PySem.W.mroIn K C (.type "object") = some true)))))
theorem errB_ok {K : PySem.W.Frag} {C : Addr} (h : errB K C = true) : ErrC K C := by
  unfold errB at h
  simp only [Bool.and_eq_true, decide_eq_true_eq] at h
  obtain ⟨a, b, c, d, e, f⟩ := h
  exact ⟨a, b, c, d, e, f⟩
def exB (K : PySem.W.Frag) (C : Addr) : Bool := PySem.W.excIn K C [.type "ValueError", .type "Exception", .type "BaseException", .type "object"] "ValueError.__new__" && PySem.W.keepIn K (.ref C)
def erT (K : PySem.W.Frag) (C : Nat → Addr) (B : Addr) (i : Nat) : Bool := errB K (C i) && (exB K (C i) && (decide (PySem.W.kitOne K (.ref (C i)) (.type "ValueError") = some true) && (decide (PySem.W.subIn K (.ref (C i)) (.type "BaseException") = some true) && (decide (PySem.W.typeIn K (.ref (C i)) = some (.type "type")) && (decide (PySem.W.exmOne K (.ref (C i)) (.ref B) = some true) &&
  (List.range 4).all fun j => j == 2 || decide (PySem.W.kitOne K (.ref (C i)) (.ref (C j)) = some (decide (i = j))))))))
def cAt (l : List Addr) (i : Nat) : Addr := l.getD i 0
theorem all_of {p : Nat → Bool} {n : Nat} (h : (List.range n).all p = true) {i : Nat} (hi : i < n) : p i = true := List.all_eq_true.mp h i (List.mem_range.mpr hi)
theorem all_mk {l : PySem.W.OpenLaw} {w : World} {K : PySem.W.Frag} {h : Heap} {mg : Str → Option Value} {fa aM aR c0 c1 c3 cB f_is_int f_is_int_between f_check_value f_check_side f_figure_of f_figure f_goes_up f_stands f_span f_uspan f_below f_threshold f_exchange f_first_at f_L_source f_L_draw f_L_pick f_L_great f_L_ten f_L_step f_L_side f_L_written f_L_two f_L_differs f_L_word f_L_doors_right f_law : Addr} (X : K.In h) (G : h.Ns mainGlobals mg) (hfa : mg "law" = some (.ref fa))
    {odM od_is_int an_is_int od_is_int_between an_is_int_between od_check_value an_check_value od_check_side an_check_side od_figure_of an_figure_of od_figure an_figure od_goes_up an_goes_up od_stands an_stands od_span an_span od_uspan an_uspan od_below an_below od_threshold an_threshold od_exchange an_exchange od_first_at an_first_at od_L_source an_L_source od_L_draw an_L_draw od_L_pick an_L_pick od_L_great an_L_great od_L_ten an_L_ten od_L_step an_L_step od_L_side an_L_side od_L_written an_L_written od_L_two an_L_two od_L_differs an_L_differs od_L_word an_L_word od_L_doors_right an_L_doors_right od_law an_law : Option Addr} {slM sl_is_int sl_is_int_between sl_check_value sl_check_side sl_figure_of sl_figure sl_goes_up sl_stands sl_span sl_uspan sl_below sl_threshold sl_exchange sl_first_at sl_L_source sl_L_draw sl_L_pick sl_L_great sl_L_ten sl_L_step sl_L_side sl_L_written sl_L_two sl_L_differs sl_L_word sl_L_doors_right sl_law : Array (Option Value)} {nM nR : Nat} {itsM : Array Value} {esR : Array DictEntry} {u_down u_up u_half_down u_half_up u_half_even oc_is_int kV_is_int dc_is_int pm_is_int cd_is_int ct_is_int oc_is_int_between kV_is_int_between dc_is_int_between pm_is_int_between cd_is_int_between ct_is_int_between oc_check_value kV_check_value dc_check_value pm_check_value cd_check_value ct_check_value oc_check_side kV_check_side dc_check_side pm_check_side cd_check_side ct_check_side oc_figure_of kV_figure_of dc_figure_of pm_figure_of cd_figure_of ct_figure_of oc_figure kV_figure dc_figure pm_figure cd_figure ct_figure oc_goes_up kV_goes_up dc_goes_up pm_goes_up cd_goes_up ct_goes_up oc_stands kV_stands dc_stands pm_stands cd_stands ct_stands oc_span kV_span dc_span pm_span cd_span ct_span oc_uspan kV_uspan dc_uspan pm_uspan cd_uspan ct_uspan oc_below kV_below dc_below pm_below cd_below ct_below oc_threshold kV_threshold dc_threshold pm_threshold cd_threshold ct_threshold oc_exchange kV_exchange dc_exchange pm_exchange cd_exchange ct_exchange oc_first_at kV_first_at dc_first_at pm_first_at cd_first_at ct_first_at oc_L_source kV_L_source dc_L_source pm_L_source cd_L_source ct_L_source oc_L_draw kV_L_draw dc_L_draw pm_L_draw cd_L_draw ct_L_draw oc_L_pick kV_L_pick dc_L_pick pm_L_pick cd_L_pick ct_L_pick oc_L_great kV_L_great dc_L_great pm_L_great cd_L_great ct_L_great oc_L_ten kV_L_ten dc_L_ten pm_L_ten cd_L_ten ct_L_ten oc_L_step kV_L_step dc_L_step pm_L_step cd_L_step ct_L_step oc_L_side kV_L_side dc_L_side pm_L_side cd_L_side ct_L_side oc_L_written kV_L_written dc_L_written pm_L_written cd_L_written ct_L_written oc_L_two kV_L_two dc_L_two pm_L_two cd_L_two ct_L_two oc_L_differs kV_L_differs dc_L_differs pm_L_differs cd_L_differs ct_L_differs oc_L_word kV_L_word dc_L_word pm_L_word cd_L_word ct_L_word oc_L_doors_right kV_L_doors_right dc_L_doors_right pm_L_doors_right cd_L_doors_right ct_L_doors_right oc_law kV_law dc_law pm_law cd_law ct_law : Value}
    (a_is_int : PySem.W.nsIn K mainGlobals "is_int" = some (some (.ref f_is_int)))
    (l_is_int : K.lookup f_is_int = some ⟨oc_is_int, od_is_int, .func (PySem.W.fnOf "is_int" "is_int" (defArgs s_is_int) (defBody s_is_int) (defScope s_is_int) .none kV_is_int dc_is_int pm_is_int an_is_int cd_is_int ct_is_int), sl_is_int⟩)
    (c_is_int : PySem.W.codeIn K cd_is_int "is_int" = true) (k_is_int : PySem.W.keepIn K (.ref f_is_int) = true)
    (a_is_int_between : PySem.W.nsIn K mainGlobals "is_int_between" = some (some (.ref f_is_int_between)))
    (l_is_int_between : K.lookup f_is_int_between = some ⟨oc_is_int_between, od_is_int_between, .func (PySem.W.fnOf "is_int_between" "is_int_between" (defArgs s_is_int_between) (defBody s_is_int_between) (defScope s_is_int_between) .none kV_is_int_between dc_is_int_between pm_is_int_between an_is_int_between cd_is_int_between ct_is_int_between), sl_is_int_between⟩)
    (c_is_int_between : PySem.W.codeIn K cd_is_int_between "is_int_between" = true) (k_is_int_between : PySem.W.keepIn K (.ref f_is_int_between) = true)
    (a_check_value : PySem.W.nsIn K mainGlobals "check_value" = some (some (.ref f_check_value)))
    (l_check_value : K.lookup f_check_value = some ⟨oc_check_value, od_check_value, .func (PySem.W.fnOf "check_value" "check_value" (defArgs s_check_value) (defBody s_check_value) (defScope s_check_value) .none kV_check_value dc_check_value pm_check_value an_check_value cd_check_value ct_check_value), sl_check_value⟩)
    (c_check_value : PySem.W.codeIn K cd_check_value "check_value" = true) (k_check_value : PySem.W.keepIn K (.ref f_check_value) = true)
    (a_check_side : PySem.W.nsIn K mainGlobals "check_side" = some (some (.ref f_check_side)))
    (l_check_side : K.lookup f_check_side = some ⟨oc_check_side, od_check_side, .func (PySem.W.fnOf "check_side" "check_side" (defArgs s_check_side) (defBody s_check_side) (defScope s_check_side) .none kV_check_side dc_check_side pm_check_side an_check_side cd_check_side ct_check_side), sl_check_side⟩)
    (c_check_side : PySem.W.codeIn K cd_check_side "check_side" = true) (k_check_side : PySem.W.keepIn K (.ref f_check_side) = true)
    (a_figure_of : PySem.W.nsIn K mainGlobals "figure_of" = some (some (.ref f_figure_of)))
    (l_figure_of : K.lookup f_figure_of = some ⟨oc_figure_of, od_figure_of, .func (PySem.W.fnOf "figure_of" "figure_of" (defArgs s_figure_of) (defBody s_figure_of) (defScope s_figure_of) .none kV_figure_of dc_figure_of pm_figure_of an_figure_of cd_figure_of ct_figure_of), sl_figure_of⟩)
    (c_figure_of : PySem.W.codeIn K cd_figure_of "figure_of" = true) (k_figure_of : PySem.W.keepIn K (.ref f_figure_of) = true)
    (a_figure : PySem.W.nsIn K mainGlobals "_figure" = some (some (.ref f_figure)))
    (l_figure : K.lookup f_figure = some ⟨oc_figure, od_figure, .func (PySem.W.fnOf "_figure" "_figure" (defArgs s_figure) (defBody s_figure) (defScope s_figure) .none kV_figure dc_figure pm_figure an_figure cd_figure ct_figure), sl_figure⟩)
    (c_figure : PySem.W.codeIn K cd_figure "_figure" = true) (k_figure : PySem.W.keepIn K (.ref f_figure) = true)
    (a_goes_up : PySem.W.nsIn K mainGlobals "_goes_up" = some (some (.ref f_goes_up)))
    (l_goes_up : K.lookup f_goes_up = some ⟨oc_goes_up, od_goes_up, .func (PySem.W.fnOf "_goes_up" "_goes_up" (defArgs s_goes_up) (defBody s_goes_up) (defScope s_goes_up) .none kV_goes_up dc_goes_up pm_goes_up an_goes_up cd_goes_up ct_goes_up), sl_goes_up⟩)
    (c_goes_up : PySem.W.codeIn K cd_goes_up "_goes_up" = true) (k_goes_up : PySem.W.keepIn K (.ref f_goes_up) = true)
    (a_stands : PySem.W.nsIn K mainGlobals "stands" = some (some (.ref f_stands)))
    (l_stands : K.lookup f_stands = some ⟨oc_stands, od_stands, .func (PySem.W.fnOf "stands" "stands" (defArgs s_stands) (defBody s_stands) (defScope s_stands) .none kV_stands dc_stands pm_stands an_stands cd_stands ct_stands), sl_stands⟩)
    (c_stands : PySem.W.codeIn K cd_stands "stands" = true) (k_stands : PySem.W.keepIn K (.ref f_stands) = true)
    (a_span : PySem.W.nsIn K mainGlobals "span" = some (some (.ref f_span)))
    (l_span : K.lookup f_span = some ⟨oc_span, od_span, .func (PySem.W.fnOf "span" "span" (defArgs s_span) (defBody s_span) (defScope s_span) .none kV_span dc_span pm_span an_span cd_span ct_span), sl_span⟩)
    (c_span : PySem.W.codeIn K cd_span "span" = true) (k_span : PySem.W.keepIn K (.ref f_span) = true)
    (a_uspan : PySem.W.nsIn K mainGlobals "_span" = some (some (.ref f_uspan)))
    (l_uspan : K.lookup f_uspan = some ⟨oc_uspan, od_uspan, .func (PySem.W.fnOf "_span" "_span" (defArgs s_uspan) (defBody s_uspan) (defScope s_uspan) .none kV_uspan dc_uspan pm_uspan an_uspan cd_uspan ct_uspan), sl_uspan⟩)
    (c_uspan : PySem.W.codeIn K cd_uspan "_span" = true) (k_uspan : PySem.W.keepIn K (.ref f_uspan) = true)
    (a_below : PySem.W.nsIn K mainGlobals "_below" = some (some (.ref f_below)))
    (l_below : K.lookup f_below = some ⟨oc_below, od_below, .func (PySem.W.fnOf "_below" "_below" (defArgs s_below) (defBody s_below) (defScope s_below) .none kV_below dc_below pm_below an_below cd_below ct_below), sl_below⟩)
    (c_below : PySem.W.codeIn K cd_below "_below" = true) (k_below : PySem.W.keepIn K (.ref f_below) = true)
    (a_threshold : PySem.W.nsIn K mainGlobals "threshold" = some (some (.ref f_threshold)))
    (l_threshold : K.lookup f_threshold = some ⟨oc_threshold, od_threshold, .func (PySem.W.fnOf "threshold" "threshold" (defArgs s_threshold) (defBody s_threshold) (defScope s_threshold) .none kV_threshold dc_threshold pm_threshold an_threshold cd_threshold ct_threshold), sl_threshold⟩)
    (c_threshold : PySem.W.codeIn K cd_threshold "threshold" = true) (k_threshold : PySem.W.keepIn K (.ref f_threshold) = true)
    (a_exchange : PySem.W.nsIn K mainGlobals "exchange" = some (some (.ref f_exchange)))
    (l_exchange : K.lookup f_exchange = some ⟨oc_exchange, od_exchange, .func (PySem.W.fnOf "exchange" "exchange" (defArgs s_exchange) (defBody s_exchange) (defScope s_exchange) .none kV_exchange dc_exchange pm_exchange an_exchange cd_exchange ct_exchange), sl_exchange⟩)
    (c_exchange : PySem.W.codeIn K cd_exchange "exchange" = true) (k_exchange : PySem.W.keepIn K (.ref f_exchange) = true)
    (a_first_at : PySem.W.nsIn K mainGlobals "_first_at" = some (some (.ref f_first_at)))
    (l_first_at : K.lookup f_first_at = some ⟨oc_first_at, od_first_at, .func (PySem.W.fnOf "_first_at" "_first_at" (defArgs s_first_at) (defBody s_first_at) (defScope s_first_at) .none kV_first_at dc_first_at pm_first_at an_first_at cd_first_at ct_first_at), sl_first_at⟩)
    (c_first_at : PySem.W.codeIn K cd_first_at "_first_at" = true) (k_first_at : PySem.W.keepIn K (.ref f_first_at) = true)
    (a_L_source : PySem.W.nsIn K mainGlobals "_law_source" = some (some (.ref f_L_source)))
    (l_L_source : K.lookup f_L_source = some ⟨oc_L_source, od_L_source, .func (PySem.W.fnOf "_law_source" "_law_source" (defArgs s_L_source) (defBody s_L_source) (defScope s_L_source) .none kV_L_source dc_L_source pm_L_source an_L_source cd_L_source ct_L_source), sl_L_source⟩)
    (c_L_source : PySem.W.codeIn K cd_L_source "_law_source" = true) (k_L_source : PySem.W.keepIn K (.ref f_L_source) = true)
    (a_L_draw : PySem.W.nsIn K mainGlobals "_law_draw" = some (some (.ref f_L_draw)))
    (l_L_draw : K.lookup f_L_draw = some ⟨oc_L_draw, od_L_draw, .func (PySem.W.fnOf "_law_draw" "_law_draw" (defArgs s_L_draw) (defBody s_L_draw) (defScope s_L_draw) .none kV_L_draw dc_L_draw pm_L_draw an_L_draw cd_L_draw ct_L_draw), sl_L_draw⟩)
    (c_L_draw : PySem.W.codeIn K cd_L_draw "_law_draw" = true) (k_L_draw : PySem.W.keepIn K (.ref f_L_draw) = true)
    (a_L_pick : PySem.W.nsIn K mainGlobals "_law_pick" = some (some (.ref f_L_pick)))
    (l_L_pick : K.lookup f_L_pick = some ⟨oc_L_pick, od_L_pick, .func (PySem.W.fnOf "_law_pick" "_law_pick" (defArgs s_L_pick) (defBody s_L_pick) (defScope s_L_pick) .none kV_L_pick dc_L_pick pm_L_pick an_L_pick cd_L_pick ct_L_pick), sl_L_pick⟩)
    (c_L_pick : PySem.W.codeIn K cd_L_pick "_law_pick" = true) (k_L_pick : PySem.W.keepIn K (.ref f_L_pick) = true)
    (a_L_great : PySem.W.nsIn K mainGlobals "_law_great" = some (some (.ref f_L_great)))
    (l_L_great : K.lookup f_L_great = some ⟨oc_L_great, od_L_great, .func (PySem.W.fnOf "_law_great" "_law_great" (defArgs s_L_great) (defBody s_L_great) (defScope s_L_great) .none kV_L_great dc_L_great pm_L_great an_L_great cd_L_great ct_L_great), sl_L_great⟩)
    (c_L_great : PySem.W.codeIn K cd_L_great "_law_great" = true) (k_L_great : PySem.W.keepIn K (.ref f_L_great) = true)
    (a_L_ten : PySem.W.nsIn K mainGlobals "_law_ten" = some (some (.ref f_L_ten)))
    (l_L_ten : K.lookup f_L_ten = some ⟨oc_L_ten, od_L_ten, .func (PySem.W.fnOf "_law_ten" "_law_ten" (defArgs s_L_ten) (defBody s_L_ten) (defScope s_L_ten) .none kV_L_ten dc_L_ten pm_L_ten an_L_ten cd_L_ten ct_L_ten), sl_L_ten⟩)
    (c_L_ten : PySem.W.codeIn K cd_L_ten "_law_ten" = true) (k_L_ten : PySem.W.keepIn K (.ref f_L_ten) = true)
    (a_L_step : PySem.W.nsIn K mainGlobals "_law_step" = some (some (.ref f_L_step)))
    (l_L_step : K.lookup f_L_step = some ⟨oc_L_step, od_L_step, .func (PySem.W.fnOf "_law_step" "_law_step" (defArgs s_L_step) (defBody s_L_step) (defScope s_L_step) .none kV_L_step dc_L_step pm_L_step an_L_step cd_L_step ct_L_step), sl_L_step⟩)
    (c_L_step : PySem.W.codeIn K cd_L_step "_law_step" = true) (k_L_step : PySem.W.keepIn K (.ref f_L_step) = true)
    (a_L_side : PySem.W.nsIn K mainGlobals "_law_side" = some (some (.ref f_L_side)))
    (l_L_side : K.lookup f_L_side = some ⟨oc_L_side, od_L_side, .func (PySem.W.fnOf "_law_side" "_law_side" (defArgs s_L_side) (defBody s_L_side) (defScope s_L_side) .none kV_L_side dc_L_side pm_L_side an_L_side cd_L_side ct_L_side), sl_L_side⟩)
    (c_L_side : PySem.W.codeIn K cd_L_side "_law_side" = true) (k_L_side : PySem.W.keepIn K (.ref f_L_side) = true)
    (a_L_written : PySem.W.nsIn K mainGlobals "_law_written" = some (some (.ref f_L_written)))
    (l_L_written : K.lookup f_L_written = some ⟨oc_L_written, od_L_written, .func (PySem.W.fnOf "_law_written" "_law_written" (defArgs s_L_written) (defBody s_L_written) (defScope s_L_written) .none kV_L_written dc_L_written pm_L_written an_L_written cd_L_written ct_L_written), sl_L_written⟩)
    (c_L_written : PySem.W.codeIn K cd_L_written "_law_written" = true) (k_L_written : PySem.W.keepIn K (.ref f_L_written) = true)
    (a_L_two : PySem.W.nsIn K mainGlobals "_law_two" = some (some (.ref f_L_two)))
    (l_L_two : K.lookup f_L_two = some ⟨oc_L_two, od_L_two, .func (PySem.W.fnOf "_law_two" "_law_two" (defArgs s_L_two) (defBody s_L_two) (defScope s_L_two) .none kV_L_two dc_L_two pm_L_two an_L_two cd_L_two ct_L_two), sl_L_two⟩)
    (c_L_two : PySem.W.codeIn K cd_L_two "_law_two" = true) (k_L_two : PySem.W.keepIn K (.ref f_L_two) = true)
    (a_L_differs : PySem.W.nsIn K mainGlobals "_law_differs" = some (some (.ref f_L_differs)))
    (l_L_differs : K.lookup f_L_differs = some ⟨oc_L_differs, od_L_differs, .func (PySem.W.fnOf "_law_differs" "_law_differs" (defArgs s_L_differs) (defBody s_L_differs) (defScope s_L_differs) .none kV_L_differs dc_L_differs pm_L_differs an_L_differs cd_L_differs ct_L_differs), sl_L_differs⟩)
    (c_L_differs : PySem.W.codeIn K cd_L_differs "_law_differs" = true) (k_L_differs : PySem.W.keepIn K (.ref f_L_differs) = true)
    (a_L_word : PySem.W.nsIn K mainGlobals "_law_word" = some (some (.ref f_L_word)))
    (l_L_word : K.lookup f_L_word = some ⟨oc_L_word, od_L_word, .func (PySem.W.fnOf "_law_word" "_law_word" (defArgs s_L_word) (defBody s_L_word) (defScope s_L_word) .none kV_L_word dc_L_word pm_L_word an_L_word cd_L_word ct_L_word), sl_L_word⟩)
    (c_L_word : PySem.W.codeIn K cd_L_word "_law_word" = true) (k_L_word : PySem.W.keepIn K (.ref f_L_word) = true)
    (a_L_doors_right : PySem.W.nsIn K mainGlobals "_law_doors_right" = some (some (.ref f_L_doors_right)))
    (l_L_doors_right : K.lookup f_L_doors_right = some ⟨oc_L_doors_right, od_L_doors_right, .func (PySem.W.fnOf "_law_doors_right" "_law_doors_right" (defArgs s_L_doors_right) (defBody s_L_doors_right) (defScope s_L_doors_right) .none kV_L_doors_right dc_L_doors_right pm_L_doors_right an_L_doors_right cd_L_doors_right ct_L_doors_right), sl_L_doors_right⟩)
    (c_L_doors_right : PySem.W.codeIn K cd_L_doors_right "_law_doors_right" = true) (k_L_doors_right : PySem.W.keepIn K (.ref f_L_doors_right) = true)
    (a_law : PySem.W.nsIn K mainGlobals "law" = some (some (.ref f_law)))
    (l_law : K.lookup f_law = some ⟨oc_law, od_law, .func (PySem.W.fnOf "law" "law" (defArgs s_law) (defBody s_law) (defScope s_law) .none kV_law dc_law pm_law an_law cd_law ct_law), sl_law⟩)
    (c_law : PySem.W.codeIn K cd_law "law" = true) (k_law : PySem.W.keepIn K (.ref f_law) = true)
    (z_len : PySem.W.nsIn K mainGlobals "len" = some none)
    (z_abs : PySem.W.nsIn K mainGlobals "abs" = some none)
    (z_int : PySem.W.nsIn K mainGlobals "int" = some none)
    (z_range : PySem.W.nsIn K mainGlobals "range" = some none)
    (z_isinstance : PySem.W.nsIn K mainGlobals "isinstance" = some none)
    (z_bool : PySem.W.nsIn K mainGlobals "bool" = some none)
    (z_tuple : PySem.W.nsIn K mainGlobals "tuple" = some none)
    (z_divmod : PySem.W.nsIn K mainGlobals "divmod" = some none)
    (z_max : PySem.W.nsIn K mainGlobals "max" = some none)
    (z_min : PySem.W.nsIn K mainGlobals "min" = some none)
    (z_list : PySem.W.nsIn K mainGlobals "list" = some none)
    (z_ValueError : PySem.W.nsIn K mainGlobals "ValueError" = some none)
    (g_0 : PySem.W.nsIn K mainGlobals "InvalidSide" = some (some (.ref c0)))
    (g_1 : PySem.W.nsIn K mainGlobals "InvalidSides" = some (some (.ref c1)))
    (g_3 : PySem.W.nsIn K mainGlobals "InvalidValue" = some (some (.ref c3)))
    (g_B : PySem.W.nsIn K mainGlobals "HandedError" = some (some (.ref cB)))
    (et_0 : erT K (cAt [c0, c1, c0, c3]) cB 0 = true)
    (et_1 : erT K (cAt [c0, c1, c0, c3]) cB 1 = true)
    (et_3 : erT K (cAt [c0, c1, c0, c3]) cB 3 = true)
    (em_0 : PySem.W.exmOne K (.ref c0) (.ref c0) = some true)
    (gsp : PySem.W.specialIn K (.builtin "object.__class__") "__get__" = some (some (.builtin "getset_descriptor.__get__")))
    (gtk : PySem.W.takesIn K (.builtin "object.__class__") = some true)
    (a_MODES : PySem.W.nsIn K mainGlobals "MODES" = some (some (.ref aM)))
    (l_MODES : K.lookup aM = some ⟨.type "tuple", odM, .seq itsM nM, slM⟩)
    (v_MODES : itsM.size ≤ sizeLine ∧ Vals modesV itsM.toList)
    (a_MIR : PySem.W.nsIn K mainGlobals "MIRRORED" = some (some (.ref aR)))
    (l_MIR : K.lookup aR = some ⟨.type "dict", none, .dict esR nR, #[]⟩)
    (h_MIR : PySem.W.KeysLit w.params esR.toList)
    (d_down : PySem.W.nsIn K aR "down" = some (some u_down)) (r_down : RelV (.str "up") u_down)
    (d_up : PySem.W.nsIn K aR "up" = some (some u_up)) (r_up : RelV (.str "down") u_up)
    (d_half_down : PySem.W.nsIn K aR "half_down" = some (some u_half_down)) (r_half_down : RelV (.str "half_up") u_half_down)
    (d_half_up : PySem.W.nsIn K aR "half_up" = some (some u_half_up)) (r_half_up : RelV (.str "half_down") u_half_up)
    (d_half_even : PySem.W.nsIn K aR "half_even" = some (some u_half_even)) (r_half_even : RelV (.str "half_even") u_half_even) :
    ∃ fd : FuncData, (∀ (s : Shared) (v : Value), BindsTo s fd ⟨[v], []⟩ [("_law_script", v)]) ∧ ∀ base : Heap, K.In base → base.Ns mainGlobals mg → FnOk l.prog w K mg base CX0 7 fa fd ["_law_script"] (spLaw K) := by
  have e := hfa.symm.trans (PySem.W.mg_of X G a_law)
  cases e
  have F_is_int := fun_mk (st := s_is_int) l_is_int c_is_int k_is_int
  have b_is_int := F_is_int.binds (ps := ["thing"]) fun _ _ _ _ _ _ us hl => match us, hl with | [_], _ => rfl
  have m_is_int := PySem.W.mg_of X G a_is_int
  have F_is_int_between := fun_mk (st := s_is_int_between) l_is_int_between c_is_int_between k_is_int_between
  have b_is_int_between := F_is_int_between.binds (ps := ["thing", "least", "most"]) fun _ _ _ _ _ _ us hl => match us, hl with | [_, _, _], _ => rfl
  have m_is_int_between := PySem.W.mg_of X G a_is_int_between
  have F_check_value := fun_mk (st := s_check_value) l_check_value c_check_value k_check_value
  have b_check_value := F_check_value.binds (ps := ["value"]) fun _ _ _ _ _ _ us hl => match us, hl with | [_], _ => rfl
  have m_check_value := PySem.W.mg_of X G a_check_value
  have F_check_side := fun_mk (st := s_check_side) l_check_side c_check_side k_check_side
  have b_check_side := F_check_side.binds (ps := ["side"]) fun _ _ _ _ _ _ us hl => match us, hl with | [_], _ => rfl
  have m_check_side := PySem.W.mg_of X G a_check_side
  have F_figure_of := fun_mk (st := s_figure_of) l_figure_of c_figure_of k_figure_of
  have b_figure_of := F_figure_of.binds (ps := ["side", "value"]) fun _ _ _ _ _ _ us hl => match us, hl with | [_, _], _ => rfl
  have m_figure_of := PySem.W.mg_of X G a_figure_of
  have F_figure := fun_mk (st := s_figure) l_figure c_figure k_figure
  have b_figure := F_figure.binds (ps := ["side", "value"]) fun _ _ _ _ _ _ us hl => match us, hl with | [_, _], _ => rfl
  have m_figure := PySem.W.mg_of X G a_figure
  have F_goes_up := fun_mk (st := s_goes_up) l_goes_up c_goes_up k_goes_up
  have b_goes_up := F_goes_up.binds (ps := ["mode", "step", "figure", "rest"]) fun _ _ _ _ _ _ us hl => match us, hl with | [_, _, _, _], _ => rfl
  have m_goes_up := PySem.W.mg_of X G a_goes_up
  have F_stands := fun_mk (st := s_stands) l_stands c_stands k_stands
  have b_stands := F_stands.binds (ps := ["side", "value"]) fun _ _ _ _ _ _ us hl => match us, hl with | [_, _], _ => rfl
  have m_stands := PySem.W.mg_of X G a_stands
  have F_span := fun_mk (st := s_span) l_span c_span k_span
  have b_span := F_span.binds (ps := ["side", "figure"]) fun _ _ _ _ _ _ us hl => match us, hl with | [_, _], _ => rfl
  have m_span := PySem.W.mg_of X G a_span
  have F_uspan := fun_mk (st := s_uspan) l_uspan c_uspan k_uspan
  have b_uspan := F_uspan.binds (ps := ["side", "figure"]) fun _ _ _ _ _ _ us hl => match us, hl with | [_, _], _ => rfl
  have m_uspan := PySem.W.mg_of X G a_uspan
  have F_below := fun_mk (st := s_below) l_below c_below k_below
  have b_below := F_below.binds (ps := ["mode", "step", "figure"]) fun _ _ _ _ _ _ us hl => match us, hl with | [_, _, _], _ => rfl
  have m_below := PySem.W.mg_of X G a_below
  have F_threshold := fun_mk (st := s_threshold) l_threshold c_threshold k_threshold
  have b_threshold := F_threshold.binds (ps := ["side", "value"]) fun _ _ _ _ _ _ us hl => match us, hl with | [_, _], _ => rfl
  have m_threshold := PySem.W.mg_of X G a_threshold
  have F_exchange := fun_mk (st := s_exchange) l_exchange c_exchange k_exchange
  have b_exchange := F_exchange.binds (ps := ["first", "second", "value"]) fun _ _ _ _ _ _ us hl => match us, hl with | [_, _, _], _ => rfl
  have m_exchange := PySem.W.mg_of X G a_exchange
  have F_first_at := fun_mk (st := s_first_at) l_first_at c_first_at k_first_at
  have b_first_at := F_first_at.binds (ps := ["wide", "narrow", "figure", "value"]) fun _ _ _ _ _ _ us hl => match us, hl with | [_, _, _, _], _ => rfl
  have m_first_at := PySem.W.mg_of X G a_first_at
  have F_L_source := fun_mk (st := s_L_source) l_L_source c_L_source k_L_source
  have b_L_source := F_L_source.binds (ps := ["_law_script"]) fun _ _ _ _ _ _ us hl => match us, hl with | [_], _ => rfl
  have m_L_source := PySem.W.mg_of X G a_L_source
  have F_L_draw := fun_mk (st := s_L_draw) l_L_draw c_L_draw k_L_draw
  have b_L_draw := F_L_draw.binds (ps := ["_law_source_here", "_law_limit"]) fun _ _ _ _ _ _ us hl => match us, hl with | [_, _], _ => rfl
  have m_L_draw := PySem.W.mg_of X G a_L_draw
  have F_L_pick := fun_mk (st := s_L_pick) l_L_pick c_L_pick k_L_pick
  have b_L_pick := F_L_pick.binds (ps := ["_law_source_here", "_law_values"]) fun _ _ _ _ _ _ us hl => match us, hl with | [_, _], _ => rfl
  have m_L_pick := PySem.W.mg_of X G a_L_pick
  have F_L_great := fun_mk (st := s_L_great) l_L_great c_L_great k_L_great
  have b_L_great := F_L_great.binds (ps := ["_law_source_here", "_law_limit"]) fun _ _ _ _ _ _ us hl => match us, hl with | [_, _], _ => rfl
  have m_L_great := PySem.W.mg_of X G a_L_great
  have F_L_ten := fun_mk (st := s_L_ten) l_L_ten c_L_ten k_L_ten
  have b_L_ten := F_L_ten.binds (ps := ["_law_many"]) fun _ _ _ _ _ _ us hl => match us, hl with | [_], _ => rfl
  have m_L_ten := PySem.W.mg_of X G a_L_ten
  have F_L_step := fun_mk (st := s_L_step) l_L_step c_L_step k_L_step
  have b_L_step := F_L_step.binds (ps := ["_law_source_here", "_law_most"]) fun _ _ _ _ _ _ us hl => match us, hl with | [_, _], _ => rfl
  have m_L_step := PySem.W.mg_of X G a_L_step
  have F_L_side := fun_mk (st := s_L_side) l_L_side c_L_side k_L_side
  have b_L_side := F_L_side.binds (ps := ["_law_source_here", "_law_most"]) fun _ _ _ _ _ _ us hl => match us, hl with | [_, _], _ => rfl
  have m_L_side := PySem.W.mg_of X G a_L_side
  have F_L_written := fun_mk (st := s_L_written) l_L_written c_L_written k_L_written
  have b_L_written := F_L_written.binds (ps := ["_law_side_here", "_law_value"]) fun _ _ _ _ _ _ us hl => match us, hl with | [_, _], _ => rfl
  have m_L_written := PySem.W.mg_of X G a_L_written
  have F_L_two := fun_mk (st := s_L_two) l_L_two c_L_two k_L_two
  have b_L_two := F_L_two.binds (ps := ["_law_source_here"]) fun _ _ _ _ _ _ us hl => match us, hl with | [_], _ => rfl
  have m_L_two := PySem.W.mg_of X G a_L_two
  have F_L_differs := fun_mk (st := s_L_differs) l_L_differs c_L_differs k_L_differs
  have b_L_differs := F_L_differs.binds (ps := ["_law_one", "_law_other", "_law_value"]) fun _ _ _ _ _ _ us hl => match us, hl with | [_, _, _], _ => rfl
  have m_L_differs := PySem.W.mg_of X G a_L_differs
  have F_L_word := fun_mk (st := s_L_word) l_L_word c_L_word k_L_word
  have b_L_word := F_L_word.binds (ps := ["_law_one", "_law_other", "_law_value"]) fun _ _ _ _ _ _ us hl => match us, hl with | [_, _, _], _ => rfl
  have m_L_word := PySem.W.mg_of X G a_L_word
  have F_L_doors_right := fun_mk (st := s_L_doors_right) l_L_doors_right c_L_doors_right k_L_doors_right
  have b_L_doors_right := F_L_doors_right.binds (ps := ["_law_good"]) fun _ _ _ _ _ _ us hl => match us, hl with | [_], _ => rfl
  have m_L_doors_right := PySem.W.mg_of X G a_L_doors_right
  have F_law := fun_mk (st := s_law) l_law c_law k_law
  have b_law := F_law.binds (ps := ["_law_script"]) fun _ _ _ _ _ _ us hl => match us, hl with | [_], _ => rfl
  have m_law := PySem.W.mg_of X G a_law
  have n_len := PySem.W.mg_none_of X G z_len
  have n_abs := PySem.W.mg_none_of X G z_abs
  have n_int := PySem.W.mg_none_of X G z_int
  have n_range := PySem.W.mg_none_of X G z_range
  have n_isinstance := PySem.W.mg_none_of X G z_isinstance
  have n_bool := PySem.W.mg_none_of X G z_bool
  have n_tuple := PySem.W.mg_none_of X G z_tuple
  have n_divmod := PySem.W.mg_none_of X G z_divmod
  have n_max := PySem.W.mg_none_of X G z_max
  have n_min := PySem.W.mg_none_of X G z_min
  have n_list := PySem.W.mg_none_of X G z_list
  have n_ValueError := PySem.W.mg_none_of X G z_ValueError
  have BL : Blt mg := ⟨n_len, n_abs, n_int, n_range⟩
  have T : SideT K mg aM := ⟨n_isinstance, n_int, n_bool, n_tuple, n_len, n_divmod, PySem.W.mg_of X G a_MODES, fun _ => .inr ⟨_, _, _, l_MODES, rfl, rfl, v_MODES.1, v_MODES.2⟩⟩
  have RT : MirT K w mg aR := ⟨PySem.W.mg_of X G a_MIR, fun m hm => by
    rcases hm with e | e | e | e | e <;> subst e
    · rw [mir_d]; exact ⟨_, _, _, l_MIR, h_MIR, d_down, r_down⟩
    · rw [mir_u]; exact ⟨_, _, _, l_MIR, h_MIR, d_up, r_up⟩
    · rw [mir_hd]; exact ⟨_, _, _, l_MIR, h_MIR, d_half_down, r_half_down⟩
    · rw [mir_hu]; exact ⟨_, _, _, l_MIR, h_MIR, d_half_up, r_half_up⟩
    · rw [mir_he]; exact ⟨_, _, _, l_MIR, h_MIR, d_half_even, r_half_even⟩⟩
  have TC : ChkT mg := ⟨n_isinstance, n_int, n_bool, n_tuple, n_list, n_len⟩
  have TM : ModT K mg aM := ⟨T.gM, T.tM⟩
  have tab : ∀ i, (i ≠ 2 ∧ i < 4) → erT K (cAt [c0, c1, c0, c3]) cB i = true := fun i hi => by
    rcases (by omega : i = 0 ∨ i = 1 ∨ i = 3) with e | e | e <;> subst e
    · exact et_0
    · exact et_1
    · exact et_3
  have tb : ∀ i, (i ≠ 2 ∧ i < 4) → errB K (cAt [c0, c1, c0, c3] i) = true ∧ (PySem.W.excIn K (cAt [c0, c1, c0, c3] i) [.type "ValueError", .type "Exception", .type "BaseException", .type "object"] "ValueError.__new__" = true ∧ PySem.W.keepIn K (.ref (cAt [c0, c1, c0, c3] i)) = true) ∧ PySem.W.kitOne K (.ref (cAt [c0, c1, c0, c3] i)) (.type "ValueError") = some true ∧ PySem.W.subIn K (.ref (cAt [c0, c1, c0, c3] i)) (.type "BaseException") = some true ∧ PySem.W.typeIn K (.ref (cAt [c0, c1, c0, c3] i)) = some (.type "type") ∧ PySem.W.exmOne K (.ref (cAt [c0, c1, c0, c3] i)) (.ref cB) = some true ∧ ∀ j, (j ≠ 2 ∧ j < 4) → PySem.W.kitOne K (.ref (cAt [c0, c1, c0, c3] i)) (.ref (cAt [c0, c1, c0, c3] j)) = some (decide (i = j)) := fun i hi => by
    have z := tab i hi
    unfold erT exB at z
    simp only [Bool.and_eq_true, decide_eq_true_eq] at z
    obtain ⟨a, b, c, d, e, f, g⟩ := z
    exact ⟨a, b, c, d, e, f, fun j hj => by
      have y := all_of g hj.2
      rw [Bool.or_eq_true, decide_eq_true_eq] at y
      exact y.resolve_left (by rw [beq_iff_eq]; exact hj.1)⟩
  have R : Er K mg (cAt [c0, c1, c0, c3]) cB := { isi := n_isinstance, ve := n_ValueError, gB := PySem.W.mg_of X G g_B, g0 := PySem.W.mg_of X G g_0, g1 := PySem.W.mg_of X G g_1, g3 := PySem.W.mg_of X G g_3, kit := fun i j hi hj => (tb i hi).2.2.2.2.2.2 j hj, kitV := fun i hi => (tb i hi).2.2.1, ec := fun i hi => errB_ok (tb i hi).1, eg := ⟨gsp, gtk⟩, ex := fun i hi => (tb i hi).2.1.1, kp := fun i hi => (tb i hi).2.1.2, sb := fun i hi => (tb i hi).2.2.2.1, ty := fun i hi => (tb i hi).2.2.2.2.1, emB := fun i hi => (tb i hi).2.2.2.2.2.1, em0 := em_0 }
  have MX : MaxT mg := ⟨n_max, n_min⟩
  refine ⟨PySem.W.fnOf "law" "law" (defArgs s_law) (defBody s_law) (defScope s_law) .none kV_law dc_law pm_law an_law cd_law ct_law, fun s v => .of_eq rfl, fun base _ _ => ?_⟩
  have C_is_int : Cal l.prog w K mg base "is_int" 1 ["thing"] spIsInt f_is_int _ := ⟨ok_is_int F_is_int T, m_is_int, k_is_int, b_is_int⟩
  have C_is_int_between : Cal l.prog w K mg base "is_int_between" 2 ["thing", "least", "most"] spBetween f_is_int_between _ := ⟨ok_between F_is_int_between C_is_int, m_is_int_between, k_is_int_between, b_is_int_between⟩
  have C_check_value : Cal l.prog w K mg base "check_value" 2 ["value"] spCheckValue f_check_value _ := ⟨ok_check_value F_check_value C_is_int, m_check_value, k_check_value, b_check_value⟩
  have C_check_side : Cal l.prog w K mg base "check_side" 3 ["side"] spCheckSide f_check_side _ := ⟨ok_check_side F_check_side T C_is_int_between, m_check_side, k_check_side, b_check_side⟩
  have C_goes_up : Cal l.prog w K mg base "_goes_up" 1 ["mode", "step", "figure", "rest"] spGo f_goes_up _ := ⟨ok_goes_up F_goes_up, m_goes_up, k_goes_up, b_goes_up⟩
  have C_figure : Cal l.prog w K mg base "_figure" 2 ["side", "value"] spFig f_figure _ := ⟨ok_figure F_figure T C_goes_up, m_figure, k_figure, b_figure⟩
  have C_figure_of : Cal l.prog w K mg base "figure_of" 4 ["side", "value"] spFig f_figure_of _ := ⟨ok_figure_of F_figure_of C_check_side C_check_value C_figure, m_figure_of, k_figure_of, b_figure_of⟩
  have C_below : Cal l.prog w K mg base "_below" 1 ["mode", "step", "figure"] spBelow f_below _ := ⟨ok_below F_below, m_below, k_below, b_below⟩
  have C_uspan : Cal l.prog w K mg base "_span" 2 ["side", "figure"] spSpan f_uspan _ := ⟨ok_uspan F_uspan RT C_below, m_uspan, k_uspan, b_uspan⟩
  have C_span : Cal l.prog w K mg base "span" 4 ["side", "figure"] spSpan f_span _ := ⟨ok_span F_span C_check_side C_check_value C_uspan, m_span, k_span, b_span⟩
  have C_threshold : Cal l.prog w K mg base "threshold" 3 ["side", "value"] spBack f_threshold _ := ⟨ok_threshold F_threshold C_below, m_threshold, k_threshold, b_threshold⟩
  have C_stands : Cal l.prog w K mg base "stands" 4 ["side", "value"] spStands f_stands _ := ⟨ok_stands F_stands C_check_side C_check_value, m_stands, k_stands, b_stands⟩
  have C_first_at : Cal l.prog w K mg base "_first_at" 5 ["wide", "narrow", "figure", "value"] spFirstAt f_first_at _ := ⟨ok_first_at F_first_at T MX C_span C_stands C_threshold, m_first_at, k_first_at, b_first_at⟩
  have C_exchange : Cal l.prog w K mg base "exchange" 6 ["first", "second", "value"] spExch f_exchange _ := ⟨ok_exchange F_exchange n_range C_check_side C_check_value C_figure_of C_first_at, m_exchange, k_exchange, b_exchange⟩
  have X_is_int : Cal l.prog w K mg base "is_int" 1 ["thing"] spIsAny f_is_int _ := ⟨ok_is_any F_is_int TC, m_is_int, k_is_int, b_is_int⟩
  have X_is_int_between : Cal l.prog w K mg base "is_int_between" 2 ["thing", "least", "most"] spBetAny f_is_int_between _ := ⟨ok_bet_any F_is_int_between X_is_int, m_is_int_between, k_is_int_between, b_is_int_between⟩
  have X_check_value : CalX l.prog w K mg base "check_value" 2 ["value"] (spValX (cAt [c0, c1, c0, c3])) f_check_value _ := ⟨ok_val_x F_check_value R X_is_int, m_check_value, k_check_value, b_check_value⟩
  have X_check_side : CalX l.prog w K mg base "check_side" 3 ["side"] (spSideX K (cAt [c0, c1, c0, c3])) f_check_side _ := ⟨ok_side_x F_check_side TC TM R X_is_int_between, m_check_side, k_check_side, b_check_side⟩
  have X_exchange : CalX l.prog w K mg base "exchange" 4 ["first", "second", "value"] (spExchX K (cAt [c0, c1, c0, c3])) f_exchange _ := ⟨ok_exch_x F_exchange X_check_side X_check_value, m_exchange, k_exchange, b_exchange⟩
  have C_L_source : Cal l.prog w K mg base "_law_source" 1 ["_law_script"] (spSource K) f_L_source _ := ⟨ok_source F_L_source BL, m_L_source, k_L_source, b_L_source⟩
  have C_L_draw : Cal l.prog w K mg base "_law_draw" 1 ["_law_source_here", "_law_limit"] spDraw f_L_draw _ := ⟨ok_draw F_L_draw BL, m_L_draw, k_L_draw, b_L_draw⟩
  have C_L_pick : Cal l.prog w K mg base "_law_pick" 2 ["_law_source_here", "_law_values"] spPick f_L_pick _ := ⟨ok_pick F_L_pick BL C_L_draw, m_L_pick, k_L_pick, b_L_pick⟩
  have C_L_great : Cal l.prog w K mg base "_law_great" 2 ["_law_source_here", "_law_limit"] spGreat f_L_great _ := ⟨ok_great F_L_great BL C_L_draw, m_L_great, k_L_great, b_L_great⟩
  have C_L_ten : Cal l.prog w K mg base "_law_ten" 1 ["_law_many"] spTen f_L_ten _ := ⟨ok_ten F_L_ten BL, m_L_ten, k_L_ten, b_L_ten⟩
  have C_L_step : Cal l.prog w K mg base "_law_step" 3 ["_law_source_here", "_law_most"] spStep f_L_step _ := ⟨ok_step F_L_step BL MX C_L_draw C_L_pick C_L_great C_L_ten, m_L_step, k_L_step, b_L_step⟩
  have C_L_side : Cal l.prog w K mg base "_law_side" 4 ["_law_source_here", "_law_most"] spSide f_L_side _ := ⟨ok_side F_L_side BL C_L_step C_L_pick C_L_great, m_L_side, k_L_side, b_L_side⟩
  have C_L_written : Cal l.prog w K mg base "_law_written" 1 ["_law_side_here", "_law_value"] spDue f_L_written _ := ⟨ok_written F_L_written BL, m_L_written, k_L_written, b_L_written⟩
  have C_L_differs : Cal l.prog w K mg base "_law_differs" 2 ["_law_one", "_law_other", "_law_value"] spDiff f_L_differs _ := ⟨ok_differs F_L_differs C_L_written, m_L_differs, k_L_differs, b_L_differs⟩
  have C_L_two : Cal l.prog w K mg base "_law_two" 5 ["_law_source_here"] spTwo f_L_two _ := ⟨ok_two F_L_two BL C_L_draw C_L_pick C_L_side, m_L_two, k_L_two, b_L_two⟩
  have C_L_word : Cal l.prog w K mg base "_law_word" 5 ["_law_one", "_law_other", "_law_value"] (spWord14 K) f_L_word _ := ⟨ok_L_word F_L_word R X_exchange, m_L_word, k_L_word, b_L_word⟩
  have C_L_doors_right : Cal l.prog w K mg base "_law_doors_right" 6 ["_law_good"] spDoors f_L_doors_right _ := ⟨ok_doors F_L_doors_right C_L_word, m_L_doors_right, k_L_doors_right, b_L_doors_right⟩
  exact ok_law F_law BL C_L_source C_L_draw C_L_two C_L_differs C_exchange C_L_doors_right
theorem walk {l : PySem.W.OpenLaw} {q : Program} {loose : List Str} {XP : (Str → Option Value) → Heap → Prop} {YP : World → Heap → Prop} {d : DefRec} {K : Params → PySem.W.Frag} (hn : l.most = some 63) (hdf : d.params.defaults = [])
    (hY : ∀ (w : World) (h : Heap), YP w h → (K w.params).In h)
    (F : ∀ (w : World) (mg : Str → Option Value) (fa : Addr) (h : Heap), (K w.params).In h → h.Ns mainGlobals mg → mg d.name = some (.ref fa) →
      ∃ fd : FuncData, (∀ (s : Shared) (u : Value), BindsTo s fd ⟨[u], []⟩ [("_law_script", u)]) ∧ ∀ base : Heap, (K w.params).In base → base.Ns mainGlobals mg → FnOk l.prog w (K w.params) mg base CX0 7 fa fd ["_law_script"] (spLaw (K w.params))) :
    PySem.W.WalkO q loose XP YP l.row.toRowW d [] (fun f vs => PySem.call f vs) :=
  L2.walk_of (n := 63) (k := 7) (x := "_law_script") (CX := fun _ => CX0) (sp := fun w => spLaw (K w.params)) hn (by decide) hdf ⟨rfl, by decide, by decide⟩ hY F (fun _ _ a ns hl _ hS => ⟨a, ns, rfl, hS, hl, fun _ => rfl⟩) fun _ _ _ _ _ z => z
end HT
open PySem PySem.W PyProof.Rows
set_option maxRecDepth 100000 in
set_option maxHeartbeats 0 in
theorem PySem.Challenge.cw_handedtext_k14_exchange_holds : PySem.Challenge.rw_handedtext_k14_exchange.Holds := by
  w_on; o_law; k_head; (case hw => w_witness2)
  k_fill
  refine HT.walk (l := PySem.Challenge.rw_handedtext_k14_exchange) rfl rfl (fun w h Y => PySem.W.kIn_of Y) ?F
  case F =>
    intro w mg fa h KX G hmg
    refine' HT.all_mk KX G hmg ?a_is_int ?l_is_int ?c_is_int ?k_is_int ?a_is_int_between ?l_is_int_between ?c_is_int_between ?k_is_int_between ?a_check_value ?l_check_value ?c_check_value ?k_check_value ?a_check_side ?l_check_side ?c_check_side ?k_check_side ?a_figure_of ?l_figure_of ?c_figure_of ?k_figure_of ?a_figure ?l_figure ?c_figure ?k_figure ?a_goes_up ?l_goes_up ?c_goes_up ?k_goes_up ?a_stands ?l_stands ?c_stands ?k_stands ?a_span ?l_span ?c_span ?k_span ?a_uspan ?l_uspan ?c_uspan ?k_uspan ?a_below ?l_below ?c_below ?k_below ?a_threshold ?l_threshold ?c_threshold ?k_threshold ?a_exchange ?l_exchange ?c_exchange ?k_exchange ?a_first_at ?l_first_at ?c_first_at ?k_first_at ?a_L_source ?l_L_source ?c_L_source ?k_L_source ?a_L_draw ?l_L_draw ?c_L_draw ?k_L_draw ?a_L_pick ?l_L_pick ?c_L_pick ?k_L_pick ?a_L_great ?l_L_great ?c_L_great ?k_L_great ?a_L_ten ?l_L_ten ?c_L_ten ?k_L_ten ?a_L_step ?l_L_step ?c_L_step ?k_L_step ?a_L_side ?l_L_side ?c_L_side ?k_L_side ?a_L_written ?l_L_written ?c_L_written ?k_L_written ?a_L_two ?l_L_two ?c_L_two ?k_L_two ?a_L_differs ?l_L_differs ?c_L_differs ?k_L_differs ?a_L_word ?l_L_word ?c_L_word ?k_L_word ?a_L_doors_right ?l_L_doors_right ?c_L_doors_right ?k_L_doors_right ?a_law ?l_law ?c_law ?k_law ?z_len ?z_abs ?z_int ?z_range ?z_isinstance ?z_bool ?z_tuple ?z_divmod ?z_max ?z_min ?z_list ?z_ValueError ?g_0 ?g_1 ?g_3 ?g_B ?et_0 ?et_1 ?et_3 ?em_0 ?gsp ?gtk ?a_MODES ?l_MODES ?v_MODES ?a_MIR ?l_MIR ?h_MIR ?d_down ?r_down ?d_up ?r_up ?d_half_down ?r_half_down ?d_half_up ?r_half_up ?d_half_even ?r_half_even
    (case a_is_int => k_is)
    (case l_is_int => k_is)
    (case c_is_int => k_is)
    (case k_is_int => k_is)
    (case a_is_int_between => k_is)
    (case l_is_int_between => k_is)
    (case c_is_int_between => k_is)
    (case k_is_int_between => k_is)
    (case a_check_value => k_is)
    (case l_check_value => k_is)
    (case c_check_value => k_is)
    (case k_check_value => k_is)
    (case a_check_side => k_is)
    (case l_check_side => k_is)
    (case c_check_side => k_is)
    (case k_check_side => k_is)
    (case a_figure_of => k_is)
    (case l_figure_of => k_is)
    (case c_figure_of => k_is)
    (case k_figure_of => k_is)
    (case a_figure => k_is)
    (case l_figure => k_is)
    (case c_figure => k_is)
    (case k_figure => k_is)
    (case a_goes_up => k_is)
    (case l_goes_up => k_is)
    (case c_goes_up => k_is)
    (case k_goes_up => k_is)
    (case a_stands => k_is)
    (case l_stands => k_is)
    (case c_stands => k_is)
    (case k_stands => k_is)
    (case a_span => k_is)
    (case l_span => k_is)
    (case c_span => k_is)
    (case k_span => k_is)
    (case a_uspan => k_is)
    (case l_uspan => k_is)
    (case c_uspan => k_is)
    (case k_uspan => k_is)
    (case a_below => k_is)
    (case l_below => k_is)
    (case c_below => k_is)
    (case k_below => k_is)
    (case a_threshold => k_is)
    (case l_threshold => k_is)
    (case c_threshold => k_is)
    (case k_threshold => k_is)
    (case a_exchange => k_is)
    (case l_exchange => k_is)
    (case c_exchange => k_is)
    (case k_exchange => k_is)
    (case a_first_at => k_is)
    (case l_first_at => k_is)
    (case c_first_at => k_is)
    (case k_first_at => k_is)
    (case a_L_source => k_is)
    (case l_L_source => k_is)
    (case c_L_source => k_is)
    (case k_L_source => k_is)
    (case a_L_draw => k_is)
    (case l_L_draw => k_is)
    (case c_L_draw => k_is)
    (case k_L_draw => k_is)
    (case a_L_pick => k_is)
    (case l_L_pick => k_is)
    (case c_L_pick => k_is)
    (case k_L_pick => k_is)
    (case a_L_great => k_is)
    (case l_L_great => k_is)
    (case c_L_great => k_is)
    (case k_L_great => k_is)
    (case a_L_ten => k_is)
    (case l_L_ten => k_is)
    (case c_L_ten => k_is)
    (case k_L_ten => k_is)
    (case a_L_step => k_is)
    (case l_L_step => k_is)
    (case c_L_step => k_is)
    (case k_L_step => k_is)
    (case a_L_side => k_is)
    (case l_L_side => k_is)
    (case c_L_side => k_is)
    (case k_L_side => k_is)
    (case a_L_written => k_is)
    (case l_L_written => k_is)
    (case c_L_written => k_is)
    (case k_L_written => k_is)
    (case a_L_two => k_is)
    (case l_L_two => k_is)
    (case c_L_two => k_is)
    (case k_L_two => k_is)
    (case a_L_differs => k_is)
    (case l_L_differs => k_is)
    (case c_L_differs => k_is)
    (case k_L_differs => k_is)
    (case a_L_word => k_is)
    (case l_L_word => k_is)
    (case c_L_word => k_is)
    (case k_L_word => k_is)
    (case a_L_doors_right => k_is)
    (case l_L_doors_right => k_is)
    (case c_L_doors_right => k_is)
    (case k_L_doors_right => k_is)
    (case a_law => k_is)
    (case l_law => k_is)
    (case c_law => k_is)
    (case k_law => k_is)
    (case z_len => k_is)
    (case z_abs => k_is)
    (case z_int => k_is)
    (case z_range => k_is)
    (case z_isinstance => k_is)
    (case z_bool => k_is)
    (case z_tuple => k_is)
    (case z_divmod => k_is)
    (case z_max => k_is)
    (case z_min => k_is)
    (case z_list => k_is)
    (case z_ValueError => k_is)
    (case g_0 => k_is)
    (case g_1 => k_is)
    (case g_3 => k_is)
    (case g_B => k_is)
    (case et_0 => kernel_rfl)
    (case et_1 => kernel_rfl)
    (case et_3 => kernel_rfl)
    (case em_0 => kernel_rfl)
    (case gsp => k_is)
    (case gtk => k_is)
    (case a_MODES => k_is)
    (case l_MODES => k_is)
    (case v_MODES => exact ⟨by decide, .cons ⟨_, rfl⟩ (.cons ⟨_, rfl⟩ (.cons ⟨_, rfl⟩ (.cons ⟨_, rfl⟩ (.cons ⟨_, rfl⟩ .nil))))⟩)
    (case a_MIR => k_is)
    (case l_MIR => k_is)
    (case h_MIR => k_keys)
    (case d_down => k_is)
    (case r_down => exact ⟨_, rfl⟩)
    (case d_up => k_is)
    (case r_up => exact ⟨_, rfl⟩)
    (case d_half_down => k_is)
    (case r_half_down => exact ⟨_, rfl⟩)
    (case d_half_up => k_is)
    (case r_half_up => exact ⟨_, rfl⟩)
    (case d_half_even => k_is)
    (case r_half_even => exact ⟨_, rfl⟩)
#print axioms PySem.Challenge.cw_handedtext_k14_exchange_holds
