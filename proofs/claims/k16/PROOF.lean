import PyProof.Rows.All
import Wide.All
import OpenK.AllK
import Wide.FinOn
import HandS.CallSlots
import HandS.Deep
import HandS.Defaults
import HandS.Exc
import HandS.ExcField
import HandS.ExcInit
import HandS.ExcIs
import HandS.ExcValue
import HandS.ForMost
import HandS.HotCalls
import HandS.IsInst
import HandS.MakeKwOnly
import HandS.More
import HandS.NoneIn
import HandS.RaiseFrom
import HandS.ReplaceLit
import HandS.StrMore
import HandS.Style
import HandS.SuiteRaise
import HandS.TryOnly
import HandS.Wide
import HandS.WideBits
import HandS.WordsExc
import KE.KEqDeep
import KE.KEqSeq
import KE.KExcIs
import HandS.Gcd
import HandS.SortInts
import HandS.Walk
import KE.GoesComp
import PySem.Challenge.RW_handedtext_k16_logs
set_option Elab.async false
set_option linter.all false
set_option maxRecDepth 100000
set_option maxHeartbeats 4000000
set_option exponentiation.threshold 9000
open PySem L2
local macro_rules | `(tactic| walk_at "rd") => `(tactic| repeat (first | refine ⟨_, rfl, ?_⟩ | refine ⟨_, _, rfl, rfl, ?_⟩ | refine .inl ⟨_, rfl, ?_⟩))
namespace L2
open PySem PySem.Spec PyProof.Rows
/-- an error that was caught and kept, at a -/
def ExK (cls : Value) (a : Addr) : HO := .ext fun hp => ∃ (rec' : Obj) (cells : Array Value), hp.get? a = some rec' ∧ Zc cls none rec' ∧ rec'.data = .fields cells
/-- wKeep: what 'except x as n' wishes, where the error stays tracked behind the suite -/
def wKeep (K : PySem.W.Frag) (c : Value) (i : Nat) (ts : Addr → Value → Option Addr → TS) (Wout : WX) (D : Ends) : WX := fun kl dd st H =>
  ∃ yes, PySem.W.exmOne K kl c = some yes ∧ (yes = true → dd = none ∧ ∀ a, H a = none → ts a kl dd { nx := fun st' H' => D.nx (st'.set i none) (upd H' a (ExK kl a)), rt := D.rt, bk := fun st' H' => D.bk (st'.set i none) H', ct := fun st' H' => D.ct (st'.set i none) H' } (st.set i (some (.ref a))) H) ∧
    (yes = false → Wout kl dd st H)
section
variable {X : Cx} {pins : List (Addr × Obj)} {st : St} {H : Hp} {sh : Shared}
theorem Inv.adopt {a : Addr} {kl : Value} {rc : Obj} {cells : Array Value} (iv : Inv X pins st H sh) (new0 : X.s_0.heap.get? a = none) (free : H a = none) (at0 : sh.heap.get? a = some rc) (zc : Zc kl none rc) (fl : rc.data = .fields cells) (nl : a ≠ X.env.locals)
    (np : ∀ p ∈ X.pn ++ pins, p.1 ≠ a) : Inv X pins st (upd H a (ExK kl a)) sh := by
  have old : ∀ c rr, X.s_0.heap.get? c = some rr → c ≠ a := fun c rr e z => by
    rw [z, new0] at e
    cases e
  have other : ∀ c u, H c = some u → upd H a (ExK kl a) c = some u := fun c u e => (upd_ne (ne_of_none e free)).trans e
  refine ⟨iv.ok, iv.os, iv.bare, ⟨iv.base.keep, iv.base.slot, fun c rr e n0 nx => ?_, iv.base.there, fun c xs e => other _ _ (iv.base.tups c xs e), fun c rr u e => other _ _ (iv.base.frzs c rr u e), fun c ps e => ?_⟩, iv.loc, iv.cell, ?_, fun y c e => ?_, fun p hp => ?_, fun c u e => ?_, iv.len⟩
  · exact (upd_ne (old c rr e)).trans (iv.base.free c rr e n0 nx)
  · obtain ⟨more, e2⟩ := iv.base.tbls c ps e
    exact ⟨more, other _ _ e2⟩
  · exact (upd_ne nl.symm).trans iv.free
  · obtain ⟨w, rr, e2, e3⟩ := iv.cell y c e
    refine (upd_ne fun z => ?_).trans (iv.freeC y c e)
    subst z
    rw [at0] at e2
    cases e2
    simp [fl] at e3
  · obtain ⟨e1, e2, e3, e4, e5⟩ := iv.pin p hp
    exact ⟨e1, (upd_ne (np p hp)).trans e2, e3, e4, e5⟩
  · by_cases ca : c = a
    · subst ca
      rw [upd_same] at e
      cases e
      exact ⟨⟨rc, cells, at0, zc, fl⟩, ⟨rc, at0⟩, fun _ _ ⟨r2, c2, e2, e3⟩ same => ⟨r2, c2, same _ e2, e3⟩⟩
    · rw [upd_ne ca] at e
      exact (iv.hok c u e).stay (fun _ _ _ e2 => e2) (fun c2 e2 => other _ _ e2) fun c2 xs e2 => other _ _ e2
end
end L2
namespace L2
open PySem PySem.Spec PyProof.Rows
section
variable {X : Cx} {x n : Str} {c : Value} {i : Nat} {body suite : List Stmt} {first : Stmt} {np pos pos' : Pos} {tb : WX → TS} {ts : Addr → Value → Option Addr → TS} {Wout : WX}
/-- try: .. except x as n: suite; the caught error stays tracked behind it -/
theorem ps_try_keep (stk : X.stack = X.env :: X.outer) (frm : X.env.frame = some X.env.locals) (noex : X.ex = []) (dist : X.N.Nodup) (slot : X.N[i]? = some n) (loc : X.env.kindOf n = some .local) (nam : Names X x c) (tk : Takes X Wout)
    (inner : ∀ (W : WX) (pn : List (Addr × Obj)) (xe : Value → Shared → Prop), Takes (X.tr pn xe) W → PassesOwn (model X.prog X.w) X.A X.env xe → PSs (X.tr pn xe) body (tb W))
    (caught : ∀ (a : Addr) (rc : Obj) (kl : Value) (dd : Option Addr) (pn : List (Addr × Obj)), Zc kl dd rc → (∃ cells, rc.data = .fields cells) → PSs (X.suite a ((a, rc) :: pn)) (first :: suite) (ts a kl dd)) :
    PS X (.Try body [.ExceptHandler (some (.Name x np)) (some n) (first :: suite) pos'] [] [] pos) (fun D st H => tb (wKeep X.K c i ts Wout D) D st H) where
  run := fun pins sh st H D iv want => by
    have fine := iv.ok
    have frames : X.A.frames = some (X.env :: X.outer) := by rw [fine.frames, stk]
    refine wpAny_Try_except (wpAny_mono ((inner (wKeep X.K c i ts Wout D) (X.pn ++ pins) _ (fun u sh' air => ?_) PassesOwn.looking).run [] sh st H D (iv.toTry _) want) ?_ fun _ _ e => e)
    · obtain ⟨a, B, shI, pins', st1, H1, kl, dd, rfl, ivT, inB, upTo, sky, freeA, sameOs, bareG, yes, dec, onYes, onNo⟩ := air
      have iv1 : Inv X pins st1 H1 shI := ivT.ofTry fine
      rw [stk] at sky
      refine Sky.land Zc.steady frames frm sky fun hp3 fly3 up3 => ?_
      have bNone : B.get? a = none := fly3.2.1
      have iv3 : Inv X pins st1 H1 { sh' with heap := hp3 } := iv1.landed inB fly3.1 (upTo.trans up3) sameOs bareG
      obtain ⟨rc3, cells3, at3, zc3, dt3⟩ := fly3.there
      have offFrames : a ∉ frs (X.env :: X.outer) := fun mem => by
        obtain ⟨_, r2, e2, bad⟩ := fly3.2.2.1.mem mem
        rw [at3] at e2
        cases e2
        exact bad _ dt3
      have offL : a ≠ X.env.locals := fun z => offFrames (List.mem_filterMap.mpr ⟨X.env, List.mem_cons_self, by rw [frm, z]⟩)
      have offF : a ∉ X.fs := fun mem => by
        obtain ⟨ee, inn, ef⟩ := List.mem_filterMap.mp mem
        exact offFrames (List.mem_filterMap.mpr ⟨ee, List.mem_cons_of_mem _ inn, ef⟩)
      have notThere : shI.heap.get? a = none := by
        cases e : shI.heap.get? a with
        | none => rfl
        | some rr =>
          have z := inB a rr e (by rw [stk]; exact offFrames)
          rw [bNone] at z
          cases z
      have new0 : X.s_0.heap.get? a = none := by
        cases e : X.s_0.heap.get? a with
        | none => rfl
        | some rr =>
          obtain ⟨r2, e2⟩ := iv1.base.there a rr e (by rw [noex]; exact List.not_mem_nil)
          rw [notThere] at e2
          cases e2
      have pinsOff : ∀ p ∈ X.pn ++ pins, p.1 ≠ a := fun p hp z => by
        have e2 := (iv1.pin p hp).1
        rw [z, notThere] at e2
        cases e2
      have inSuite := iv3.suite at3 dt3 freeA offL offF
      refine wpAny_handleBy_cons (codeAny_handlers_test ?_) (by intro q; cases q)
      have theClass : PySem.W.Looks (model X.prog X.w) hp3 (typeOf (.ref a)) kl := fun A' Q' E' s' kk qq => wpAny_typeOf_ref (kk _ _ at3) (by rw [zc3.1]; exact qq)
      have theTest := PySem.W.exm_one (M := model X.prog X.w) iv3.kIn theClass dec
      have clause : ∀ {Q' : Value → Shared → Prop} {E' : Value → Shared → Prop}, Q' c { sh' with heap := hp3 } → wpAny (model X.prog X.w) (X.A.mark (some (.ref a))) (eval (.Name x np) X.env) Q' E' { sh' with heap := hp3 } := fun {Q' E'} qq => by
        obtain ⟨g1, g2, g3 | ⟨g3, g4, g5⟩⟩ := nam
        · exact ld_glob (X := X.suite a ((a, rc3) :: (X.pn ++ pins))) inSuite g1 g3 qq g2
        · exact ld_blt (X := X.suite a ((a, rc3) :: (X.pn ++ pins))) inSuite g1 g3 g4 qq g5 g2
      refine clause (theTest.here ?_)
      cases yes with
      | true =>
        obtain ⟨rfl, go⟩ := onYes rfl
        refine codeAny_handlers_suite_as (HandSPX.lands_againZ fly3 fun hp4 fly4 up4 => ?_)
        have iv4 : Inv X pins st1 H1 { sh' with heap := hp4 } := iv1.landed inB fly4.1 ((upTo.trans up3).trans up4) sameOs bareG
        obtain ⟨rc4, cells4, at4, zc4, dt4⟩ := fly4.there
        refine store_ok (X := X.suite a ((a, rc4) :: (X.pn ++ pins))) (v := .ref a) (iv4.suite at4 dt4 freeA offL offF) dist slot (.inl loc) rfl (fun sh5 iv5 => ?_) (.inr loc)
        refine wpAny_mono ((caught a rc4 kl none (X.pn ++ pins) zc4 ⟨_, dt4⟩).run [] sh5 _ H1 _ iv5 (go a freeA)) (fun flow sh6 came => ?_) fun _ _ z => z.elim
        cases flow with
        | next =>
          obtain ⟨st6, H6, iv6, q6⟩ := came
          have more : Inv X ((a, rc4) :: pins) st6 H6 sh6 := ⟨fine, iv6.os, iv6.bare, iv6.base, iv6.loc, iv6.cell, iv6.free, iv6.freeC, fun p hp => iv6.pin p (List.mem_append_left _ ?_), iv6.hok, iv6.len⟩
          refine gone_ok more dist slot loc fun sh7 iv7 => ?_
          have there : (a, rc4) ∈ X.pn ++ (a, rc4) :: pins := List.mem_append_right _ List.mem_cons_self
          obtain ⟨e1, e2, e3, _⟩ := iv7.pin (a, rc4) there
          have less : Inv X pins (st6.set i none) H6 sh7 := ⟨fine, iv7.os, iv7.bare, iv7.base, iv7.loc, iv7.cell, iv7.free, iv7.freeC, fun p hp => iv7.pin p ?_, iv7.hok, iv7.len⟩
          · exact ⟨_, _, less.adopt new0 e2 e1 zc4 dt4 e3 pinsOff, q6⟩
          · rcases List.mem_append.mp hp with hq | hq
            · exact List.mem_append_left _ hq
            · exact List.mem_append_right _ (List.mem_cons_of_mem _ hq)
          · rcases List.mem_append.mp hp with hq | hq
            · exact List.mem_cons_of_mem _ (List.mem_append_left _ hq)
            · rcases List.mem_cons.mp hq with hr | hr
              · rw [hr]; exact List.mem_cons_self
              · exact List.mem_cons_of_mem _ (List.mem_append_right _ hr)
        | brk =>
          obtain ⟨st6, H6, iv6, q6⟩ := came
          exact gone_ok (iv6.unsuite fine) dist slot loc fun sh7 iv7 => ⟨_, _, iv7, q6⟩
        | cont =>
          obtain ⟨st6, H6, iv6, q6⟩ := came
          exact gone_ok (iv6.unsuite fine) dist slot loc fun sh7 iv7 => ⟨_, _, iv7, q6⟩
        | ret u =>
          obtain ⟨v6, st6, H6, iv6, r6, q6⟩ := came
          exact gone_ok (iv6.unsuite fine) dist slot loc fun sh7 iv7 => ⟨_, _, _, iv7, r6, q6⟩
      | false =>
        show wpAny _ X.A (handleBy (.ref a) X.env []) _ _ _
        refine wpAny_handleBy_nil ?_
        obtain ⟨_, _, _, rc5, cells5, tr5, _, _, at5, _, dt5, at1, _⟩ := id fly3
        unfold PySem.passOn
        refine wpAny_bind (wpAny_field at5 dt5 at1 ?_)
        rw [if_neg (by simp : ¬ (Value.ref tr5 == Value.none) = true)]
        have out : wpAny (model X.prog X.w) X.A (setFlight (.ref a) X.env.frame) (fun _ sh8 => wpAny (model X.prog X.w) X.A (throw (.ref a) : Sem Flow) (SP X pins D) X.xe sh8) X.xe { sh' with heap := hp3 } := by
          rw [frm]
          refine HandSPX.setFlight_upZ fly3 fun hp8 held up8 => wpAny_throw (tk _ _ ?_)
          exact ⟨a, B, shI, pins, st1, H1, kl, dd, rfl, iv1, inB, (upTo.trans up3).trans up8, .inr (.inr (by rw [stk]; exact held)), freeA, sameOs, bareG, onNo rfl⟩
        first
          | exact wpAny_bind out
          | exact wpAny_bind (wpAny_pure (wpAny_bind out))
    · intro flow sh1 came
      cases flow with
      | next =>
        obtain ⟨st1, H1, iv1, q1⟩ := came
        exact wpAny_execs_nil ⟨st1, H1, iv1.ofTry fine, q1⟩
      | brk =>
        obtain ⟨st1, H1, iv1, q1⟩ := came
        exact ⟨st1, H1, iv1.ofTry fine, q1⟩
      | cont =>
        obtain ⟨st1, H1, iv1, q1⟩ := came
        exact ⟨st1, H1, iv1.ofTry fine, q1⟩
      | ret u =>
        obtain ⟨v1, st1, H1, iv1, r1, q1⟩ := came
        exact ⟨v1, st1, H1, iv1.ofTry fine, r1, q1⟩
end
end L2
namespace L2
open PySem PySem.Spec PyProof.Rows
/-- what the written part says of an error class, for isinstance -/
structure ErrC (K : PySem.W.Frag) (C : Addr) : Prop where
  cl : (PySem.W.clsIn K C).isSome = true
  ga : PySem.W.findIn K (.ref C) "__getattribute__" = some (some (.builtin "BaseException.__getattribute__"))
  gg : PySem.W.findIn K (.ref C) "__getattr__" = some none
  sb : PySem.W.subIn K (.ref C) (.type "BaseException") = some true
  cn : PySem.W.findIn K (.ref C) "__class__" = some (some (.builtin "object.__class__"))
  mo : PySem.W.mroIn K C (.type "object") = some true
/-- .. of the attribute __class__ of all objects -/
structure ErrG (K : PySem.W.Frag) : Prop where
  sp : PySem.W.specialIn K (.builtin "object.__class__") "__get__" = some (some (.builtin "getset_descriptor.__get__"))
  tk : PySem.W.takesIn K (.builtin "object.__class__") = some true
def rIsKept (K : PySem.W.Frag) : List V → Hp → VK → Prop := fun xs H Q => ∃ (a C : Addr) (c : V) (cv : Value) (b : Bool), xs = [.ref a, c] ∧ ClsV c cv ∧ H a = some (ExK (.ref C) a) ∧ ErrC K C ∧ ErrG K ∧ PySem.W.kitOne K (.ref C) cv = some b ∧ Q (.bl b) H
theorem call_isKept {X : Cx} : CallR X (.builtin "isinstance") (rIsKept X.K) := by
  intro pins sh st H xs us Q iv r h
  obtain ⟨a, C, c, cv, b, rfl, k, at', T, G, e, q⟩ := h
  obtain ⟨u1, u2, rfl, r1, r2⟩ := vals2 r
  have e2 := k.eq r2
  subst e2
  obtain rfl : u1 = Value.ref a := r1
  obtain ⟨⟨oe, vs, ho, hz, hd⟩, _, _⟩ := iv.hok a _ at'
  have J : PySem.W.InstAt sh.heap a oe C none := by
    obtain ⟨oc, od, oda, osl⟩ := oe
    obtain ⟨h1, h2⟩ := hz
    dsimp only at h1 h2 hd
    subst h1 h2 hd
    exact ⟨ho, rfl, rfl, trivial⟩
  exact PySem.W.kia_one (PySem.W.kitx_exc T.cl T.ga T.gg T.sb T.cn G.sp G.tk T.mo) iv.kIn J e (fun z => nomatch z) fun tk => ⟨.bl b, H, iv.tok tk, rfl, q⟩
end L2
namespace L2
open PySem PySem.Spec PyProof.Rows
/-- a def of which any kind of error may come -/
theorem Fun.okAny {CX' : CXT} {P : Program} {w : World} {K : PySem.W.Frag} {mg : Str → Option Value} {base : Heap} {nm qu : Str} {row : Stmt} {at0 : Addr} {fd : FuncData} {names pars : List Str} {lev : Nat} {want : Sp} (F : Fun K nm qu row at0 fd) (S : FnScope names pars (defScope row)) (len : ∀ vs H Q E, want vs H Q E → vs.length = pars.length)
    (body : ∀ (code : Value) (A : Around) (outer : List Env) (sh : Shared) (H : Hp) (vs : List V) (Q : VK) (E : XK), Room lev (A.deeper (envOfC qu (defScope row) sh.heap.objs.size at0 code)) → want vs H Q E →
      ∃ t, PSs (cxOf CX' P w K mg base names qu (defScope row) at0 code A outer sh H E) (defBody row) t ∧ t { nx := fun _ H' => Q .non H', rt := Q } (start names vs) H) : FnOk P w K mg base CX' (lev + 1) at0 fd pars want := by
  obtain ⟨_, _, _, _, _, _, code, _, _, rfl, there, isCode⟩ := F.ex
  exact fn_of there isCode S len (body code)
/-- X('..') of an own class, for a raise .. from None -/
theorem pmk5_own {X : Cx} {C : Addr} {bmB : List Value} {B newId initId : String} {x m : Str} {j : Nat} {p p2 pos : Pos} (F : ExcBaseFacts B newId initId bmB) (q : PySem.W.excIn X.K C bmB newId = true) (gC : X.mg x = some (.ref C)) (kC : PySem.W.keepIn X.K (.ref C) = true) (r : Raises X (.ref C)) (hg : Gl X x)
    (plain : (x == ("__debug__" : Str)) = false := by decide) : L2H.PMk5 X (.Call (.Name x p) [.Constant (.str m) j p2] [] pos) (fun _ H Q => Q (.ref C) none H) := by
  intro pins sh st H Q iv want
  have arg : PA X [.Constant (.str m) j p2] (tCons (tC (.str m)) tNil) := pa_cons pe_str pa_nil
  refine wpAny_Call_Name_kw (ld_glob iv hg gC (PySem.W.callWith_K (h₀ := X.base) iv.ok.mod.kin kC (thn (arg.run pos pins sh st H (fun vs H1 => vs = [V.str m] ∧ H = H1) iv ⟨rfl, rfl⟩) ?_)) plain)
  rintro us sh1 ⟨vs, H1, iv1, rel, rfl, rfl⟩
  refine ⟨iv1.kIn, ?_⟩
  match us, rel with
  | [u], .cons _ .nil =>
    show wpAny _ _ (call (.ref C) [u]) _ _ _
    obtain ⟨_, _, _, _, _, _, _, _, _, _, _, _, _, _, _, _, _, hC, hN, hni, T⟩ := exc_obj iv1.kIn q
    exact wpAny_call_exc_subT F T hC hN hni (fun h' e made => L2H.mk_of5 iv1 made r want (iv1.hok.gone made.new)) (by show 1 ≤ sizeLine; decide)
/-- try: .. except x: suite, the suite raising: ps_try_onlyX with its reading under a name, for a loop around it -/
def tTryX (K : PySem.W.Frag) (c : Value) (ts : Addr → Value → Option Addr → TS) (Wout : WX) (tb : WX → TS) : TS := fun D st H => tb (wOnly K c ts Wout D) D st H
theorem ps_tryX {X : Cx} {x : Str} {c : Value} {body suite : List Stmt} {first : Stmt} {np pos pos' : Pos} {tb : WX → TS} {ts : Addr → Value → Option Addr → TS} {Wout : WX} (h1 : X.stack = X.env :: X.outer) (h2 : X.env.frame = some X.env.locals) (h3 : Names X x c)
    (h4 : ∀ hd : Option Value, PassesOwnAt (model X.prog X.w) (X.A.mark hd) X.A X.env X.xe) (h5 : L2.Takes X Wout)
    (h6 : ∀ (W : WX) (pn : List (Addr × Obj)) (xe : Value → Shared → Prop), L2N.Takes (X.tr pn xe) W → L2.Takes (X.tr pn xe) (L2H.wPass X.K c Wout) → PassesOwn (model X.prog X.w) X.A X.env xe → PSs (X.tr pn xe) body (tb W))
    (h7 : ∀ (a : Addr) (oe : Obj) (cls : Value) (d : Option Addr) (pn : List (Addr × Obj)), L2N.Zn cls d oe → (∃ vs, oe.data = .fields vs) → L2.Takes (L2H.suiteX X a ((a, oe) :: pn)) Wout → L2H.HotC (L2H.suiteX X a ((a, oe) :: pn)) → PSs (L2H.suiteX X a ((a, oe) :: pn)) (first :: suite) (ts a cls d)) :
    PS X (.Try body [.ExceptHandler (some (.Name x np)) none (first :: suite) pos'] [] [] pos) (tTryX X.K c ts Wout tb) := L2H.ps_try_onlyX h1 h2 h3 h4 h5 h6 h7
end L2
namespace HT
open PySem L2
/-- a test whose ways are joined by a statement of the heap -/
def tMidT (t : TT) : TT := fun σ H Q => ∃ M : Bool → Hp → Prop, t σ H M ∧ ∀ b H', M b H' → Q b H'
def tMidE (t : TE) : TE := fun σ H Q => ∃ M : V → Hp → Prop, t σ H M ∧ ∀ v H', M v H' → Q v H'
def tMidS (t : TS) : TS := fun D σ H => ∃ M : St → Hp → Prop, t { D with nx := M } σ H ∧ ∀ σ' H', M σ' H' → D.nx σ' H'
theorem pt_mid {X : Cx} {e : Expr} {t : TT} (h : PT X e t) : PT X e (tMidT t) :=
  ⟨fun pins s σ H _ I ⟨M, a, b⟩ => thn (h.run pins s σ H M I a) fun c _ ⟨H1, I1, q1⟩ => ⟨H1, I1, b c H1 q1⟩⟩
theorem pe_mid {X : Cx} {e : Expr} {t : TE} (h : PE X e t) : PE X e (tMidE t) :=
  ⟨fun pins s σ H _ I ⟨M, a, b⟩ => thn (h.run pins s σ H M I a) fun _ _ ⟨v, H1, I1, r, q1⟩ => ⟨v, H1, I1, r, b v H1 q1⟩⟩
theorem ps_mid {X : Cx} {st : Stmt} {t : TS} (h : PS X st t) : PS X st (tMidS t) :=
  ⟨fun pins s σ H D I ⟨M, a, b⟩ => thn (h.run pins s σ H { D with nx := M } I a) fun f _ q => by
    cases f with
    | next => obtain ⟨σ', H', I', q⟩ := q; exact ⟨σ', H', I', b σ' H' q⟩
    | brk => exact q
    | cont => exact q
    | ret v => exact q⟩
end HT
namespace HT
open PySem L2
def top (i : Nat) : Stmt := PySem.Challenge.pw_handedtext_k16_logs.main.body.getD i (.Pass ⟨0, 0, 0, 0⟩)
abbrev s_is_int : Stmt := top 10
abbrev s_is_int_between : Stmt := top 11
abbrev s_check_value : Stmt := top 12
abbrev s_check_side : Stmt := top 15
abbrev s_is_side : Stmt := top 16
abbrev s_figure : Stmt := top 17
abbrev s_goes_up : Stmt := top 18
abbrev s_written : Stmt := top 19
abbrev s_below : Stmt := top 20
abbrev s_threshold : Stmt := top 21
abbrev s_check_sides : Stmt := top 25
abbrev s_period_of : Stmt := top 26
abbrev s_moved : Stmt := top 27
abbrev s_common_period : Stmt := top 28
abbrev s_along : Stmt := top 30
abbrev s_check_numbers : Stmt := top 31
abbrev s_before : Stmt := top 32
abbrev s_can_come : Stmt := top 33
abbrev s_fewest_handovers : Stmt := top 34
abbrev s_fewest : Stmt := top 35
abbrev s_runs : Stmt := top 36
abbrev s_widened : Stmt := top 37
abbrev s_ends : Stmt := top 38
abbrev s_within : Stmt := top 39
abbrev s_holds : Stmt := top 40
abbrev s_fault : Stmt := top 43
abbrev s_hops : Stmt := top 44
abbrev s_check_seen : Stmt := top 45
abbrev s_L_source : Stmt := top 47
abbrev s_L_draw : Stmt := top 48
abbrev s_L_pick : Stmt := top 49
abbrev s_L_great : Stmt := top 50
abbrev s_L_ten : Stmt := top 51
abbrev s_L_step : Stmt := top 52
abbrev s_L_side : Stmt := top 53
abbrev s_L_sides : Stmt := top 54
abbrev s_L_seen : Stmt := top 55
abbrev s_L_edge : Stmt := top 56
abbrev s_L_least : Stmt := top 57
abbrev s_L_wider : Stmt := top 58
abbrev s_L_divisor : Stmt := top 59
abbrev s_L_period : Stmt := top 60
abbrev s_L_before : Stmt := top 61
abbrev s_L_holds : Stmt := top 62
abbrev s_L_told : Stmt := top 63
abbrev s_L_count : Stmt := top 64
abbrev s_L_due : Stmt := top 65
abbrev s_L_word : Stmt := top 66
abbrev s_L_doors_right : Stmt := top 67
abbrev s_law : Stmt := top 68
/- is_int: 0:thing -/
theorem sc_is_int : FnScope ["thing"] ["thing"] (defScope s_is_int) := ⟨rfl, rfl, rfl, by decide +kernel, rfl, by decide +kernel, by decide +kernel⟩
/- is_int_between: 0:thing 1:least 2:most -/
theorem sc_is_int_between : FnScope ["thing", "least", "most"] ["thing", "least", "most"] (defScope s_is_int_between) := ⟨rfl, rfl, rfl, by decide +kernel, rfl, by decide +kernel, by decide +kernel⟩
/- check_value: 0:value -/
theorem sc_check_value : FnScope ["value"] ["value"] (defScope s_check_value) := ⟨rfl, rfl, rfl, by decide +kernel, rfl, by decide +kernel, by decide +kernel⟩
/- check_side: 0:side 1:offset 2:step 3:mode -/
theorem sc_check_side : FnScope ["side", "offset", "step", "mode"] ["side"] (defScope s_check_side) := ⟨rfl, rfl, rfl, by decide +kernel, rfl, by decide +kernel, by decide +kernel⟩
/- is_side: 0:thing -/
theorem sc_is_side : FnScope ["thing"] ["thing"] (defScope s_is_side) := ⟨rfl, rfl, rfl, by decide +kernel, rfl, by decide +kernel, by decide +kernel⟩
/- _figure: 0:side 1:value 2:offset 3:step 4:mode 5:figure 6:rest -/
theorem sc_figure : FnScope ["side", "value", "offset", "step", "mode", "figure", "rest"] ["side", "value"] (defScope s_figure) := ⟨rfl, rfl, rfl, by decide +kernel, rfl, by decide +kernel, by decide +kernel⟩
/- _goes_up: 0:mode 1:step 2:figure 3:rest -/
theorem sc_goes_up : FnScope ["mode", "step", "figure", "rest"] ["mode", "step", "figure", "rest"] (defScope s_goes_up) := ⟨rfl, rfl, rfl, by decide +kernel, rfl, by decide +kernel, by decide +kernel⟩
/- written: 0:side 1:value 2:offset 3:step 4:_ -/
theorem sc_written : FnScope ["side", "value", "offset", "step", "_"] ["side", "value"] (defScope s_written) := ⟨rfl, rfl, rfl, by decide +kernel, rfl, by decide +kernel, by decide +kernel⟩
/- _below: 0:mode 1:step 2:figure -/
theorem sc_below : FnScope ["mode", "step", "figure"] ["mode", "step", "figure"] (defScope s_below) := ⟨rfl, rfl, rfl, by decide +kernel, rfl, by decide +kernel, by decide +kernel⟩
/- threshold: 0:side 1:value 2:offset 3:step 4:mode 5:figure -/
theorem sc_threshold : FnScope ["side", "value", "offset", "step", "mode", "figure"] ["side", "value"] (defScope s_threshold) := ⟨rfl, rfl, rfl, by decide +kernel, rfl, by decide +kernel, by decide +kernel⟩
/- check_sides: 0:sides 1:side -/
theorem sc_check_sides : FnScope ["sides", "side"] ["sides"] (defScope s_check_sides) := ⟨rfl, rfl, rfl, by decide +kernel, rfl, by decide +kernel, by decide +kernel⟩
/- period_of: 0:side 1:_ 2:step 3:mode -/
theorem sc_period_of : FnScope ["side", "_", "step", "mode"] ["side"] (defScope s_period_of) := ⟨rfl, rfl, rfl, by decide +kernel, rfl, by decide +kernel, by decide +kernel⟩
/- moved: 0:side 1:by 2:offset 3:step 4:mode -/
theorem sc_moved : FnScope ["side", "by", "offset", "step", "mode"] ["side", "by"] (defScope s_moved) := ⟨rfl, rfl, rfl, by decide +kernel, rfl, by decide +kernel, by decide +kernel⟩
/- common_period: 0:sides 1:many 2:side -/
theorem sc_common_period : FnScope ["sides", "many", "side"] ["sides"] (defScope s_common_period) := ⟨rfl, rfl, rfl, by decide +kernel, rfl, by decide +kernel, by decide +kernel⟩
/- along: 0:sides 1:numbers 2:value 3:values 4:here 5:number -/
theorem sc_along : FnScope ["sides", "numbers", "value", "values", "here", "number"] ["sides", "numbers", "value"] (defScope s_along) := ⟨rfl, rfl, rfl, by decide +kernel, rfl, by decide +kernel, by decide +kernel⟩
/- _check_numbers: 0:numbers 1:many 2:number -/
theorem sc_check_numbers : FnScope ["numbers", "many", "number"] ["numbers", "many"] (defScope s_check_numbers) := ⟨rfl, rfl, rfl, by decide +kernel, rfl, by decide +kernel, by decide +kernel⟩
/- before: 0:sides 1:value -/
theorem sc_before : FnScope ["sides", "value"] ["sides", "value"] (defScope s_before) := ⟨rfl, rfl, rfl, by decide +kernel, rfl, by decide +kernel, by decide +kernel⟩
/- can_come: 0:sides 1:start 2:value -/
theorem sc_can_come : FnScope ["sides", "start", "value"] ["sides", "start", "value"] (defScope s_can_come) := ⟨rfl, rfl, rfl, by decide +kernel, rfl, by decide +kernel, by decide +kernel⟩
/- fewest_handovers: 0:sides 1:start 2:value -/
theorem sc_fewest_handovers : FnScope ["sides", "start", "value"] ["sides", "start", "value"] (defScope s_fewest_handovers) := ⟨rfl, rfl, rfl, by decide +kernel, rfl, by decide +kernel, by decide +kernel⟩
/- _fewest: 0:sides 1:start 2:value 3:runs 4:many 5:run -/
theorem sc_fewest : FnScope ["sides", "start", "value", "runs", "many", "run"] ["sides", "start", "value", "runs"] (defScope s_fewest) := ⟨rfl, rfl, rfl, by decide +kernel, rfl, by decide +kernel, by decide +kernel⟩
/- _runs: 0:sides 1:value 2:side 3:near 4:runs 5:many 6:run 7:least 8:greatest -/
theorem sc_runs : FnScope ["sides", "value", "side", "near", "runs", "many", "run", "least", "greatest"] ["sides", "value"] (defScope s_runs) := ⟨rfl, rfl, rfl, by decide +kernel, rfl, by decide +kernel, by decide +kernel⟩
/- _widened: 0:sides 1:run 2:least 3:greatest 4:low 5:high 6:side 7:first 8:last -/
theorem sc_widened : FnScope ["sides", "run", "least", "greatest", "low", "high", "side", "first", "last"] ["sides", "run"] (defScope s_widened) := ⟨rfl, rfl, rfl, by decide +kernel, rfl, by decide +kernel, by decide +kernel⟩
/- _ends: 0:sides 1:value 2:runs 3:many 4:window 5:least 6:greatest -/
theorem sc_ends : FnScope ["sides", "value", "runs", "many", "window", "least", "greatest"] ["sides", "value", "runs"] (defScope s_ends) := ⟨rfl, rfl, rfl, by decide +kernel, rfl, by decide +kernel, by decide +kernel⟩
/- _within: 0:run 1:window -/
theorem sc_within : FnScope ["run", "window"] ["run", "window"] (defScope s_within) := ⟨rfl, rfl, rfl, by decide +kernel, rfl, by decide +kernel, by decide +kernel⟩
/- _holds: 0:ends 1:value 2:least 3:greatest -/
theorem sc_holds : FnScope ["ends", "value", "least", "greatest"] ["ends", "value"] (defScope s_holds) := ⟨rfl, rfl, rfl, by decide +kernel, rfl, by decide +kernel, by decide +kernel⟩
/- fault: 0:sides 1:seen 2:number -/
theorem sc_fault : FnScope ["sides", "seen", "number"] ["sides", "seen"] (defScope s_fault) := ⟨rfl, rfl, rfl, by decide +kernel, rfl, by decide +kernel, by decide +kernel⟩
/- hops: 0:sides 1:seen 2:number -/
theorem sc_hops : FnScope ["sides", "seen", "number"] ["sides", "seen"] (defScope s_hops) := ⟨rfl, rfl, rfl, by decide +kernel, rfl, by decide +kernel, by decide +kernel⟩
/- _check_seen: 0:seen 1:value -/
theorem sc_check_seen : FnScope ["seen", "value"] ["seen"] (defScope s_check_seen) := ⟨rfl, rfl, rfl, by decide +kernel, rfl, by decide +kernel, by decide +kernel⟩
/- _law_source: 0:_law_script 1:_law_cells 2:_law_k -/
theorem sc_L_source : FnScope ["_law_script", "_law_cells", "_law_k"] ["_law_script"] (defScope s_L_source) := ⟨rfl, rfl, rfl, by decide +kernel, rfl, by decide +kernel, by decide +kernel⟩
/- _law_draw: 0:_law_source_here 1:_law_limit 2:_law_cells 3:_law_turn 4:_law_place 5:_law_cell 6:_law_number -/
theorem sc_L_draw : FnScope ["_law_source_here", "_law_limit", "_law_cells", "_law_turn", "_law_place", "_law_cell", "_law_number"] ["_law_source_here", "_law_limit"] (defScope s_L_draw) := ⟨rfl, rfl, rfl, by decide +kernel, rfl, by decide +kernel, by decide +kernel⟩
/- _law_pick: 0:_law_source_here 1:_law_values -/
theorem sc_L_pick : FnScope ["_law_source_here", "_law_values"] ["_law_source_here", "_law_values"] (defScope s_L_pick) := ⟨rfl, rfl, rfl, by decide +kernel, rfl, by decide +kernel, by decide +kernel⟩
/- _law_great: 0:_law_source_here 1:_law_limit 2:_law_total 3:_law_k -/
theorem sc_L_great : FnScope ["_law_source_here", "_law_limit", "_law_total", "_law_k"] ["_law_source_here", "_law_limit"] (defScope s_L_great) := ⟨rfl, rfl, rfl, by decide +kernel, rfl, by decide +kernel, by decide +kernel⟩
/- _law_ten: 0:_law_many 1:_law_found 2:_law_k -/
theorem sc_L_ten : FnScope ["_law_many", "_law_found", "_law_k"] ["_law_many"] (defScope s_L_ten) := ⟨rfl, rfl, rfl, by decide +kernel, rfl, by decide +kernel, by decide +kernel⟩
/- _law_step: 0:_law_source_here 1:_law_most 2:_law_joint -/
theorem sc_L_step : FnScope ["_law_source_here", "_law_most", "_law_joint"] ["_law_source_here", "_law_most"] (defScope s_L_step) := ⟨rfl, rfl, rfl, by decide +kernel, rfl, by decide +kernel, by decide +kernel⟩
/- _law_side: 0:_law_source_here 1:_law_most 2:_law_steps 3:_law_offset -/
theorem sc_L_side : FnScope ["_law_source_here", "_law_most", "_law_steps", "_law_offset"] ["_law_source_here", "_law_most"] (defScope s_L_side) := ⟨rfl, rfl, rfl, by decide +kernel, rfl, by decide +kernel, by decide +kernel⟩
/- _law_sides: 0:_law_source_here 1:_law_turn 2:_law_many 3:_law_k 4:_law_joint 5:_law_found 6:_law_offset 7:_law_steps 8:_law_mode -/
theorem sc_L_sides : FnScope ["_law_source_here", "_law_turn", "_law_many", "_law_k", "_law_joint", "_law_found", "_law_offset", "_law_steps", "_law_mode"] ["_law_source_here", "_law_turn"] (defScope s_L_sides) := ⟨rfl, rfl, rfl, by decide +kernel, rfl, by decide +kernel, by decide +kernel⟩
/- _law_seen: 0:_law_source_here 1:_law_sides_here 2:_law_now 3:_law_found 4:_law_most 5:_law_k 6:_law_step_here 7:_law_numbers -/
theorem sc_L_seen : FnScope ["_law_source_here", "_law_sides_here", "_law_now", "_law_found", "_law_most", "_law_k", "_law_step_here", "_law_numbers"] ["_law_source_here", "_law_sides_here"] (defScope s_L_seen) := ⟨rfl, rfl, rfl, by decide +kernel, rfl, by decide +kernel, by decide +kernel⟩
/- _law_edge: 0:_law_side_here 1:_law_figure 2:_law_offset 3:_law_steps 4:_law_mode 5:_law_far -/
theorem sc_L_edge : FnScope ["_law_side_here", "_law_figure", "_law_offset", "_law_steps", "_law_mode", "_law_far"] ["_law_side_here", "_law_figure"] (defScope s_L_edge) := ⟨rfl, rfl, rfl, by decide +kernel, rfl, by decide +kernel, by decide +kernel⟩
/- _law_least: 0:_law_side_here 1:_law_value -/
theorem sc_L_least : FnScope ["_law_side_here", "_law_value"] ["_law_side_here", "_law_value"] (defScope s_L_least) := ⟨rfl, rfl, rfl, by decide +kernel, rfl, by decide +kernel, by decide +kernel⟩
/- _law_wider: 0:_law_sides_here 1:_law_run 2:_law_found 3:_law_side_here 4:_law_low 5:_law_high 6:_law_part -/
theorem sc_L_wider : FnScope ["_law_sides_here", "_law_run", "_law_found", "_law_side_here", "_law_low", "_law_high", "_law_part"] ["_law_sides_here", "_law_run"] (defScope s_L_wider) := ⟨rfl, rfl, rfl, by decide +kernel, rfl, by decide +kernel, by decide +kernel⟩
/- _law_divisor: 0:_law_one 1:_law_other -/
theorem sc_L_divisor : FnScope ["_law_one", "_law_other"] ["_law_one", "_law_other"] (defScope s_L_divisor) := ⟨rfl, rfl, rfl, by decide +kernel, rfl, by decide +kernel, by decide +kernel⟩
/- _law_period: 0:_law_sides_here 1:_law_period_here 2:_law_offset 3:_law_steps 4:_law_mode 5:_law_length -/
theorem sc_L_period : FnScope ["_law_sides_here", "_law_period_here", "_law_offset", "_law_steps", "_law_mode", "_law_length"] ["_law_sides_here"] (defScope s_L_period) := ⟨rfl, rfl, rfl, by decide +kernel, rfl, by decide +kernel, by decide +kernel⟩
/- _law_before: 0:_law_sides_here 1:_law_value 2:_law_period_here 3:_law_run 4:_law_wide 5:_law_turn 6:_law_ends_at 7:_law_k -/
theorem sc_L_before : FnScope ["_law_sides_here", "_law_value", "_law_period_here", "_law_run", "_law_wide", "_law_turn", "_law_ends_at", "_law_k"] ["_law_sides_here", "_law_value"] (defScope s_L_before) := ⟨rfl, rfl, rfl, by decide +kernel, rfl, by decide +kernel, by decide +kernel⟩
/- _law_holds: 0:_law_run 1:_law_value -/
theorem sc_L_holds : FnScope ["_law_run", "_law_value"] ["_law_run", "_law_value"] (defScope s_L_holds) := ⟨rfl, rfl, rfl, by decide +kernel, rfl, by decide +kernel, by decide +kernel⟩
/- _law_told: 0:_law_kind 1:_law_sides_here 2:_law_seen_here 3:_law_caught 4:_law_found 5:e -/
theorem sc_L_told : FnScope ["_law_kind", "_law_sides_here", "_law_seen_here", "_law_caught", "_law_found", "e"] ["_law_kind", "_law_sides_here", "_law_seen_here"] (defScope s_L_told) := ⟨rfl, rfl, rfl, by decide +kernel, rfl, by decide +kernel, by decide +kernel⟩
/- _law_count: 0:_law_sides_here 1:_law_start 2:_law_value 3:_law_run 4:_law_many 5:_law_wide 6:_law_ends_at -/
theorem sc_L_count : FnScope ["_law_sides_here", "_law_start", "_law_value", "_law_run", "_law_many", "_law_wide", "_law_ends_at"] ["_law_sides_here", "_law_start", "_law_value"] (defScope s_L_count) := ⟨rfl, rfl, rfl, by decide +kernel, rfl, by decide +kernel, by decide +kernel⟩
/- _law_due: 0:_law_sides_here 1:_law_seen_here 2:_law_first 3:_law_counts 4:_law_number 5:_law_run -/
theorem sc_L_due : FnScope ["_law_sides_here", "_law_seen_here", "_law_first", "_law_counts", "_law_number", "_law_run"] ["_law_sides_here", "_law_seen_here"] (defScope s_L_due) := ⟨rfl, rfl, rfl, by decide +kernel, rfl, by decide +kernel, by decide +kernel⟩
/- _law_word: 0:_law_door 1:_law_sides_here 2:_law_seen_here 3:_law_caught 4:e 5:_law_found -/
theorem sc_L_word : FnScope ["_law_door", "_law_sides_here", "_law_seen_here", "_law_caught", "e", "_law_found"] ["_law_door", "_law_sides_here", "_law_seen_here"] (defScope s_L_word) := ⟨rfl, rfl, rfl, by decide +kernel, rfl, by decide +kernel, by decide +kernel⟩
/- _law_doors_right: 0:_law_sides_here 1:_law_door 2:_law_bad 3:_law_seen_here 4:_law_odd -/
theorem sc_L_doors_right : FnScope ["_law_sides_here", "_law_door", "_law_bad", "_law_seen_here", "_law_odd"] ["_law_sides_here"] (defScope s_L_doors_right) := ⟨rfl, rfl, rfl, by decide +kernel, rfl, by decide +kernel, by decide +kernel⟩
/- law: 0:_law_script 1:_law_source_here 2:_law_turn 3:_law_sides_here 4:_law_seen_here 5:_law_most 6:_law_kept 7:_law_due_here 8:_law_found 9:_law_three 10:_law_low 11:_law_high 12:_law_door 13:_law_great_here 14:_law_five 15:_law_none -/
theorem sc_law : FnScope ["_law_script", "_law_source_here", "_law_turn", "_law_sides_here", "_law_seen_here", "_law_most", "_law_kept", "_law_due_here", "_law_found", "_law_three", "_law_low", "_law_high", "_law_door", "_law_great_here", "_law_five", "_law_none"] ["_law_script"] (defScope s_law) := ⟨rfl, rfl, rfl, by decide +kernel, rfl, by decide +kernel, by decide +kernel⟩

end HT
namespace L2
open PySem PySem.Spec PyProof.Rows
/-- powers of great numbers -/
def CPowW (i j : Int) : Prop := 0 ≤ j ∧ (Builtin.Int.intBits i : Int) * j ≤ 2 ^ 27
theorem op_powW {X : Cx} : OpR X (binaryOp .Pow) (rI CPowW fun i j => .int (i ^ j.toNat)) := opI fun _ _ _ _ _ _ _ hc q => pow_int hc.1 hc.2 q
end L2
namespace HT
open PySem L2
/-- the law's source of draws: a list of its cells' list and the turn -/
structure Src (H : Hp) (a c : Addr) (t : Nat) : Prop where
  ne : a ≠ c
  ob : H a = some (.lst [.ref c, .int (t : Int)])
  cl : ∃ cs : List Int, H c = some (.lst (cs.map V.int)) ∧ 0 < cs.length ∧ cs.length ≤ 63
/-- nothing else is touched -/
def Oth (a c : Addr) (H H' : Hp) : Prop := ∀ b o, H b = some o → b ≠ a → b ≠ c → H' b = some o
theorem Oth.refl (a c : Addr) (H : Hp) : Oth a c H H := fun _ _ h _ _ => h
theorem Oth.trans {a c : Addr} {H H1 H2 : Hp} (x : Oth a c H H1) (y : Oth a c H1 H2) : Oth a c H H2 := fun b o h n m => y b o (x b o h n m) n m
theorem Oth.new {a c p : Addr} {H H1 : Hp} {o : HO} (x : Oth a c H H1) (n : H1 p = none) : Oth a c H (upd H1 p o) := fun b u h na nc => by
  rw [upd_ne (ne_of_none (x b u h na nc) n)]
  exact x b u h na nc
theorem Src.new {a c p : Addr} {H : Hp} {t : Nat} {o : HO} (S : Src H a c t) (n : H p = none) : Src (upd H p o) a c t := by
  obtain ⟨cs, h, l⟩ := S.cl
  exact ⟨S.ne, by rw [upd_ne (ne_of_none S.ob n)]; exact S.ob, cs, by rw [upd_ne (ne_of_none h n)]; exact h, l⟩
theorem Src.of_same {a c : Addr} {H H' : Hp} {t : Nat} (S : Src H a c t) (e : Same H H') : Src H' a c t := by
  obtain ⟨cs, h, l⟩ := S.cl
  exact ⟨S.ne, e _ _ S.ob, cs, e _ _ h, l⟩
theorem Src.na {a c p : Addr} {H : Hp} {t : Nat} (S : Src H a c t) (n : H p = none) : p ≠ a ∧ p ≠ c := by
  obtain ⟨cs, h, l⟩ := S.cl
  exact ⟨(ne_of_none S.ob n).symm, (ne_of_none h n).symm⟩
theorem Src.nt {a c p : Addr} {H : Hp} {t : Nat} {xs : List V} (S : Src H a c t) (n : H p = some (.tup xs)) : p ≠ a ∧ p ≠ c := by
  obtain ⟨cs, h, l⟩ := S.cl
  exact ⟨ne_of n S.ob (by intro z; cases z), ne_of n h (by intro z; cases z)⟩
def spSource (K : PySem.W.Frag) : Sp := fun vs H Q _ => ∃ (l : Addr) (ns : List Int), vs = [.ref l] ∧ SqL K H l (ns.map V.int) ∧ ns.length ≤ 63 ∧
  ∀ a c H', Same H H' → H a = none → H c = none → Src H' a c 0 → Q (.ref a) H'
def spDraw : Sp := fun vs H Q _ => ∃ (a c : Addr) (t : Nat) (lim : Int), vs = [.ref a, .int lim] ∧ Src H a c t ∧ t < 2 ^ 30 ∧ 0 < lim ∧ lim.natAbs.log2 < 9000 ∧
  ∀ k H', 0 ≤ k → k < lim → Src H' a c (t + 1) → Oth a c H H' → Q (.int k) H'
/-- what the walk asks of the names that the text does not bind -/
structure Blt (mg : Str → Option Value) : Prop where
  len : mg "len" = none
  abs : mg "abs" = none
  int : mg "int" = none
  range : mg "range" = none
section
variable {P : Program} {w : World} {K : PySem.W.Frag} {mg : Str → Option Value} {base : Heap}
theorem fdiv_ok (i : Int) {j : Int} (h : 0 < j) (h9 : j.natAbs.log2 < 9000) : CDivW i j := ⟨h, h9⟩
theorem atI_in {xs : List Int} {i : Int} (h0 : 0 ≤ i) (h : i < (xs.length : Int)) : atI (xs.map V.int) i = some (.int (xs.getD i.toNat 0)) := by
  have e : ixN (xs.map V.int).length i = some i.toNat := by
    unfold ixN
    rw [List.length_map, if_pos h0, if_pos h]
  unfold atI
  rw [e]
  show (xs.map V.int)[i.toNat]? = _
  have hl : i.toNat < xs.length := by omega
  rw [List.getElem?_map, List.getElem?_eq_getElem hl, List.getD_eq_getElem?_getD, List.getElem?_eq_getElem hl]
  rfl
theorem ixN_in {n : Nat} {i : Int} (h0 : 0 ≤ i) (h : i < (n : Int)) : ixN n i = some i.toNat := by
  unfold ixN
  rw [if_pos h0, if_pos h]
theorem b_mod (x : Int) : -(2 ^ 64) < x % 2147483629 ∧ x % 2147483629 < 2 ^ 64 := by omega
theorem b_mod1 (x : Int) : -(2 ^ 64) < x % 2147483647 ∧ x % 2147483647 < 2 ^ 64 := by omega
theorem b_t {t : Nat} (h : t < 2 ^ 30) : -(2 ^ 64) < (t : Int) ∧ (t : Int) < 2 ^ 64 := by omega
theorem b_tt {t : Nat} (h : t < 2 ^ 30) : -(2 ^ 64) < (t : Int) * t ∧ (t : Int) * t < 2 ^ 64 := by
  have h1 : t * t < 2 ^ 30 * 2 ^ 30 := Nat.mul_lt_mul'' h h
  have h2 : ((t * t : Nat) : Int) = (t : Int) * t := Int.natCast_mul t t
  omega
theorem set_ints (xs : List Int) (j : Nat) (y : Int) : (xs.map V.int).set j (.int y) = (xs.set j y).map V.int := by
  rw [List.map_set]
theorem ok_draw {f : Addr} {fd : FuncData} (F : Fun K "_law_draw" "_law_draw" s_L_draw f fd) (B : Blt mg) : FnOk P w K mg base CX0 1 f fd ["_law_source_here", "_law_limit"] spDraw := by
  refine F.ok sc_L_draw (fun vs H Q E h => ?_) (fun cdv A outer s H vs Q E hr h => ?_)
  · obtain ⟨a, c, t, lim, rfl, _⟩ := h
    rfl
  · obtain ⟨a, c, t, lim, rfl, S, ht, hl0, hl9, q⟩ := h
    obtain ⟨cs, hc, hn0, hn⟩ := S.cl
    have nd := sc_L_draw.nd
    refine ⟨_, pss_cons (ps_asg (pv 0) (pg_unl (n := 2) (by rfl) (pgs_cons (pg_name (i := 2) nd rfl (Or.inl rfl)) (pgs_cons (pg_name (i := 3) nd rfl (Or.inl rfl)) pgs_nil))))
      (pss_cons (ps_set (i := 4) nd rfl (Or.inl rfl) (pe_op op_mod (pe_callTy call_int1 (by rfl) B.int (by decide +kernel) (pa_cons (pv 3) pa_nil)) (pe_callB call_len_seq (by rfl) B.len PySem.boot_len (pa_cons (pv 2) pa_nil))))
      (pss_cons (ps_set (i := 5) nd rfl (Or.inl rfl) (pe_ix ix_list (pv 2) (pv 4) (fun _ _ => rfl)))
      (pss_cons (ps_asg (pe_op op_add (pv 3) pe_int) (pg_sub (pv 0) pe_int set_list))
      (pss_cons (ps_if (pt_cmpR op_ge (pv 5) (pe_op op_pow pe_int pe_int) (nomark _))
        (pss_cons (ps_asg (pe_op op_fdivW (pv 5) (pv 1)) (pg_sub (pv 2) (pv 4) set_list))
          (pss_one (ps_ret (pe_op op_mod (pe_callTy call_int1 (by rfl) B.int (by decide +kernel) (pa_cons (pv 5) pa_nil)) (pv 1))))) pss_nil)
      (pss_cons (ps_set (i := 6) nd rfl (Or.inl rfl) (pe_op op_mod (pe_callTy call_int1 (by rfl) B.int (by decide +kernel) (pa_cons
          (pe_op op_add (pe_op op_add (pe_op op_mul (pe_op op_mod (pe_callTy call_int1 (by rfl) B.int (by decide +kernel) (pa_cons (pv 5) pa_nil)) pe_int) pe_int) (pe_op op_mul (pe_op op_mul (pv 3) (pv 3)) pe_int)) pe_int) pa_nil)) pe_int))
      (pss_cons (ps_set (i := 6) nd rfl (Or.inl rfl) (pe_op op_mod (pe_callTy call_int1 (by rfl) B.int (by decide +kernel) (pa_cons (pe_op op_mul (pv 6) (pv 6)) pa_nil)) pe_int))
      (pss_cons (ps_set (i := 6) nd rfl (Or.inl rfl) (pe_op op_mod (pe_callTy call_int1 (by rfl) B.int (by decide +kernel) (pa_cons (pe_op op_mul (pv 6) (pv 6)) pa_nil)) pe_int))
      (pss_one (ps_ret (pe_op op_mod (pe_callTy call_int1 (by rfl) B.int (by decide +kernel) (pa_cons (pv 6) pa_nil)) (pv 1))))))))))), ?_⟩
    -- _law_cells, _law_turn = _law_source_here
    walk_at "rd"
    refine ⟨a, _, rfl, SqL.of S.ob, rfl, _, _, rfl, _, _, rfl, rfl, ?_⟩
    -- _law_place
    walk_at "rd"
    have hn0' : (0 : Int) < ((cs.map V.int).length : Nat) := by rw [List.length_map]; omega
    refine ⟨c, _, rfl, .inl (SqL.of hc), _, _, rfl, rfl, hn0', ?_⟩
    have hp0 : 0 ≤ (t : Int) % ((cs.map V.int).length : Nat) := Int.emod_nonneg _ (by omega)
    have hp1 : (t : Int) % ((cs.map V.int).length : Nat) < ((cs.map V.int).length : Nat) := Int.emod_lt_of_pos _ hn0'
    have hp1' : (t : Int) % ((cs.map V.int).length : Nat) < (cs.length : Int) := by rw [List.length_map] at hp1 ⊢; exact hp1
    -- _law_cell
    walk_at "rd"
    refine ⟨c, _, _, _, rfl, rfl, SqL.of hc, atI_in hp0 hp1', ?_⟩
    -- _law_source_here[1] = _law_turn + 1
    walk_at "rd"
    refine ⟨a, _, 1, 1, rfl, rfl, S.ob, rfl, ?_⟩
    have S1 : Src (upd H a (.lst ([V.ref c, V.int t].set 1 (.int ((t : Int) + 1))))) a c (t + 1) := ⟨S.ne, by rw [upd_same]; rfl, cs, by rw [upd_ne S.ne.symm]; exact hc, hn0, hn⟩
    have O1 : Oth a c H (upd H a (.lst ([V.ref c, V.int t].set 1 (.int ((t : Int) + 1))))) := fun b o h na _ => by rw [upd_ne na]; exact h
    have hc1 : upd H a (.lst ([V.ref c, V.int t].set 1 (.int ((t : Int) + 1)))) c = some (.lst (cs.map V.int)) := by rw [upd_ne S.ne.symm]; exact hc
    generalize upd H a (.lst ([V.ref c, V.int t].set 1 (.int ((t : Int) + 1)))) = H1 at S1 O1 hc1 ⊢
    -- if _law_cell >= 10 ** 18
    walk_at "rd"
    refine ⟨⟨by decide, by decide, by decide⟩, ?_⟩
    walk_at "rd"
    refine ite2 (fun _ => ?_) (fun _ => ?_)
    · walk_at "rd"
      refine ⟨fdiv_ok _ hl0 hl9, ?_⟩
      walk_at "rd"
      refine ⟨c, _, _, _, rfl, rfl, hc1, ixN_in hp0 hp1, ?_⟩
      walk_at "rd"
      refine ⟨hl0, ?_⟩
      rw [set_ints]
      refine q _ _ (Int.emod_nonneg _ (by omega)) (Int.emod_lt_of_pos _ hl0) ⟨S1.ne, by rw [upd_ne S1.ne]; exact S1.ob, _, upd_same, by rw [List.length_set]; exact hn0, by rw [List.length_set]; exact hn⟩ fun b o h na nc => ?_
      rw [upd_ne nc]
      exact O1 b o h na nc
    · walk_at "rd"
      refine ⟨(by show (0 : Int) < 2147483629; decide), ?_⟩
      walk_at "rd"
      refine ⟨.inl (b_mod _), ?_⟩
      walk_at "rd"
      refine ⟨.inl (b_t ht), ?_⟩
      walk_at "rd"
      refine ⟨.inl (b_tt ht), ?_⟩
      walk_at "rd"
      refine ⟨(by show (0 : Int) < 2147483647; decide), ?_⟩
      walk_at "rd"
      refine ⟨.inl (b_mod1 _), ?_⟩
      walk_at "rd"
      refine ⟨(by show (0 : Int) < 2147483629; decide), ?_⟩
      walk_at "rd"
      refine ⟨.inl (b_mod _), ?_⟩
      walk_at "rd"
      refine ⟨(by show (0 : Int) < 2147483587; decide), ?_⟩
      walk_at "rd"
      refine ⟨hl0, ?_⟩
      exact q _ _ (Int.emod_nonneg _ (by omega)) (Int.emod_lt_of_pos _ hl0) S1 O1
end
end HT
namespace HT
open PySem L2
/-- a def of the text that may be called by its name, and what it promises -/
structure Cal (P : Program) (w : World) (K : PySem.W.Frag) (mg : Str → Option Value) (base : Heap) (x : Str) (k : Nat) (ps : List Str) (sp : Sp) (f : Addr) (fd : FuncData) : Prop where
  ok : FnOk P w K mg base CX0 k f fd ps sp
  gl : mg x = some (.ref f)
  kp : PySem.W.keepIn K (.ref f) = true
  bd : Binds K fd ps []
theorem pcl {X : Cx} {x : Str} {k j : Nat} {ps : List Str} {sp : Sp} {f : Addr} {fd : FuncData} {e : Expr} {es : List Expr} {t : TA} {p pos : Pos} (C : Cal X.prog X.w X.K X.mg X.base x k ps sp f fd) (hr : Room j X.A) (hj : k ≤ j) (hg : Gl X x) (ha : PA X (e :: es) t)
    (hdb : (x == ("__debug__" : Str)) = false := by decide) (he : starEach (e :: es) X.env = (false, eval e X.env) :: starEach es X.env := by rfl) (hpl : (backTo pos (starEach es X.env)).any (·.1) = false := by rfl) : PE X (.Call (.Name x p) (e :: es) [] pos) (tCall sp [] E0 t) :=
  pe_call C.ok (hr.mono hj) hg C.gl C.kp C.bd .nil pass0 ha hdb he hpl
section
variable {P : Program} {w : World} {K : PySem.W.Frag} {mg : Str → Option Value} {base : Heap}
theorem cut63 {ns : List Int} (h : ns.length ≤ 63) : cutV (ns.map V.int) none (some 63) = ns.map V.int := by
  have e1 : HT.sIx (ns.map V.int).length 0 none = 0 := rfl
  have e2 : HT.sIx (ns.map V.int).length (ns.map V.int).length (some 63) = (ns.map V.int).length := by
    have := HT.sIx_nat (ns.map V.int).length (ns.map V.int).length 63
    rw [show ((63 : Nat) : Int) = 63 from rfl] at this
    rw [this, List.length_map]
    omega
  unfold cutV
  rw [e1, e2, List.drop_zero, Nat.sub_zero, List.take_length]
theorem dpInts (H : Hp) : ∀ ns : List Int, DpAll K H (ns.map V.int) (ns.map PyData.int)
  | [] => .nil
  | n :: r => .cons (.int n) (dpInts H r)
theorem pow_ok : CPowW ((10 : Int) ^ (60 : Int).toNat) 20 := ⟨by decide, by decide +kernel⟩
theorem pow_pos' : (0 : Int) < ((10 : Int) ^ (60 : Int).toNat) ^ (20 : Int).toNat := by decide +kernel
theorem ok_source {f : Addr} {fd : FuncData} (F : Fun K "_law_source" "_law_source" s_L_source f fd) (B : Blt mg) : FnOk P w K mg base CX0 1 f fd ["_law_script"] (spSource K) := by
  refine F.ok sc_L_source (fun vs H Q E h => ?_) (fun cdv A outer s H vs Q E hr h => ?_)
  · obtain ⟨l, ns, rfl, _⟩ := h
    rfl
  · obtain ⟨l, ns, rfl, hL, hn, q⟩ := h
    have nd := sc_L_source.nd
    refine ⟨_, pss_cons (ps_set (i := 1) nd rfl (Or.inl rfl) (pe_slice sl_list (pv 0) po_none (po_some pe_int)))
      (pss_cons (ps_for PassesOwn.never rfl (pi_range1 (by rfl) B.range (pa_cons (pe_callB call_len_seq (by rfl) B.len PySem.boot_len (pa_cons (pv 1) pa_nil)) pa_nil)) (pg_name (i := 2) nd rfl (Or.inl rfl))
        (pss_one (ps_if (pt_cmpR op_ge (pe_callB call_abs (by rfl) B.abs (by decide +kernel) (pa_cons (pe_ix ix_list (pv 1) (pv 2) (fun _ _ => rfl)) pa_nil)) (pe_op op_pow pe_int pe_int) (nomark _))
          (pss_one (ps_asg (pe_op op_mod (pe_callTy call_int1 (by rfl) B.int (by decide +kernel) (pa_cons (pe_ix ix_list (pv 1) (pv 2) (fun _ _ => rfl)) pa_nil)) (pe_op op_powW (pe_op op_pow pe_int pe_int) pe_int)) (pg_sub (pv 1) (pv 2) set_list))) pss_nil)))
      (pss_cons (ps_if (pt_cmpR (op_eqD hr.units) (pv 1) (pe_lst pa_nil) (nomark _)) (pss_one (ps_set (i := 1) nd rfl (Or.inl rfl) (pe_lst (pa_cons pe_int pa_nil)))) pss_nil)
      (pss_one (ps_ret (pe_lst (pa_cons (pv 1) (pa_cons pe_int pa_nil))))))), ?_⟩
    walk_at "rd"
    refine ⟨l, _, rfl, hL, fun p np => ?_⟩
    rw [cut63 hn]
    walk_at "rd"
    refine ⟨p, _, rfl, .inl (SqL.of upd_same), _, rfl, by omega, ?_, ?_⟩
    · show ((ns.map V.int).length : Int) < 2 ^ 62
      rw [List.length_map]
      omega
    have en : ((ns.map V.int).length : Int).toNat = ns.length := by rw [List.length_map]; omega
    rw [en]
    refine for_range (fun i σ H' => ∃ (cs : List Int) (kv : Option V), σ = [some (.ref l), some (.ref p), kv] ∧ H' p = some (.lst (cs.map V.int)) ∧ cs.length = ns.length ∧ Same H H') ⟨ns, none, rfl, upd_same, rfl, fun b o e => by rw [upd_ne (ne_of_none e np)]; exact e⟩ ?_ ?_
    · rintro i σ H' hi ⟨cs, kv, rfl, hp, hl, sm⟩
      have h0 : (0 : Int) ≤ 0 + (i : Int) := by omega
      have h1 : (0 : Int) + (i : Int) < (cs.length : Int) := by omega
      walk_at "rd"
      refine ⟨p, _, _, _, rfl, rfl, SqL.of hp, atI_in h0 h1, ?_⟩
      walk_at "rd"
      refine ⟨⟨by decide, by decide, by decide⟩, ?_⟩
      walk_at "rd"
      refine ite2 (fun _ => ?_) (fun _ => ?_)
      · walk_at "rd"
        refine ⟨p, _, _, _, rfl, rfl, SqL.of hp, atI_in h0 h1, ?_⟩
        walk_at "rd"
        refine ⟨⟨by decide, by decide, by decide⟩, ?_⟩
        walk_at "rd"
        refine ⟨pow_ok, ?_⟩
        walk_at "rd"
        refine ⟨pow_pos', ?_⟩
        walk_at "rd"
        refine ⟨p, _, _, _, rfl, rfl, hp, ixN_in h0 (by rw [List.length_map]; exact h1), ?_⟩
        rw [set_ints]
        exact ⟨_, _, rfl, upd_same, by rw [List.length_set]; exact hl, fun b o e => by rw [upd_ne (ne_of_none e np)]; exact sm b o e⟩
      · exact ⟨cs, _, rfl, hp, hl, sm⟩
    · rintro σ H' ⟨cs, kv, rfl, hp, hl, sm⟩
      walk_at "rd"
      refine ⟨by decide, fun e ne => ?_⟩
      have hpe : upd H' e (.lst []) p = some (.lst (cs.map V.int)) := by rw [upd_ne (ne_of_none hp ne)]; exact hp
      have sm1 : Same H (upd H' e (.lst [])) := fun b o z => by rw [upd_ne (ne_of_none (sm b o z) ne)]; exact sm b o z
      refine ⟨_, _, .lst (SqL.of hpe) (dpInts _ cs), .lst (SqL.of upd_same) .nil, PySem.W.ke_shaped_ints cs, by decide +kernel, ?_⟩
      walk_at "rd"
      have hb : PyData.eqv (.list (cs.map PyData.int)) (.list []) = decide (cs = []) := by
        have z := PySem.W.ked_eqvAll cs []
        rw [← z]
        rfl
      rw [hb]
      refine ite2 (fun _ => ?_) (fun hne => ?_)
      · walk_at "rd"
        refine ⟨by decide, fun c nc => ?_⟩
        walk_at "rd"
        refine ⟨(by show 2 ≤ sizeLine; decide), fun a na => ?_⟩
        have sm2 : Same H (upd (upd H' e (.lst [])) c (.lst [.int 0])) := fun b o z => by rw [upd_ne (ne_of_none (sm1 b o z) nc)]; exact sm1 b o z
        have nac : a ≠ c := (ne_of_none upd_same na).symm
        refine q a c _ (fun b o z => by rw [upd_ne (ne_of_none (sm2 b o z) na)]; exact sm2 b o z) (sm2.free na) (sm1.free nc) ⟨nac, upd_same, [0], by rw [upd_ne nac.symm]; exact upd_same, by decide, by decide⟩
      · walk_at "rd"
        refine ⟨(by show 2 ≤ sizeLine; decide), fun a na => ?_⟩
        have nap : a ≠ p := (ne_of_none hpe na).symm
        refine q a p _ (fun b o z => by rw [upd_ne (ne_of_none (sm1 b o z) na)]; exact sm1 b o z) (sm1.free na) np ⟨nap, upd_same, cs, by rw [upd_ne nap.symm]; exact hpe, ?_, by omega⟩
        have : cs ≠ [] := fun z => hne (decide_eq_true z)
        exact List.length_pos_iff.mpr this
end
end HT
namespace HT
open PySem L2
/-- a def of which errors may come, and its call -/
structure CalX (P : Program) (w : World) (K : PySem.W.Frag) (mg : Str → Option Value) (base : Heap) (x : Str) (k : Nat) (ps : List Str) (sp : Sp) (f : Addr) (fd : FuncData) : Prop where
  ok : FnOk P w K mg base (L2.CX P w) k f fd ps sp
  mgf : mg x = some (.ref f)
  kp : PySem.W.keepIn K (.ref f) = true
  b : Binds K fd ps []
theorem pcx {X : Cx} {x : Str} {k j : Nat} {ps : List Str} {sp : Sp} {f : Addr} {fd : FuncData} {e : Expr} {es : List Expr} {t : TA} {p pos : Pos} {W : WX} (C : CalX X.prog X.w X.K X.mg X.base x k ps sp f fd) (hr : Room j X.A) (hj : k ≤ j) (hg : Gl X x) (tk : L2.Takes X W) (ha : PA X (e :: es) t)
    (hdb : (x == ("__debug__" : Str)) = false := by decide) (he : starEach (e :: es) X.env = (false, eval e X.env) :: starEach es X.env := by rfl) (hpl : (backTo pos (starEach es X.env)).any (·.1) = false := by rfl) : PE X (.Call (.Name x p) (e :: es) [] pos) (tCallS sp (WE W) t) :=
  pe_callS C.ok (hr.mono hj) hg C.mgf C.kp C.b (fun σ => L2.passAt tk σ) ha hdb he hpl
end HT
namespace HT
open PySem L2
/-- the modes -/
def Mode (m : Str) : Prop := m = "down" ∨ m = "up" ∨ m = "half_down" ∨ m = "half_up" ∨ m = "half_even"
/-- a side's parts -/
structure SideP (o s : Int) (m : Str) : Prop where
  o0 : -10 ^ 40 ≤ o
  o1 : o ≤ 10 ^ 40
  s0 : 1 ≤ s
  s1 : s ≤ 10 ^ 30
  md : Mode m
def sideV (o s : Int) (m : Str) : HO := .tup [.int o, .int s, .str m]
theorem mode_of {x : V} (h : x ∈ [V.str "down", .str "up", .str "half_down", .str "half_up", .str "half_even"]) : ∃ m : Str, x = .str m ∧ Mode m := by
  simp only [List.mem_cons, List.not_mem_nil, or_false] at h
  rcases h with h | h | h | h | h
  · exact ⟨_, h, .inl rfl⟩
  · exact ⟨_, h, .inr (.inl rfl)⟩
  · exact ⟨_, h, .inr (.inr (.inl rfl))⟩
  · exact ⟨_, h, .inr (.inr (.inr (.inl rfl)))⟩
  · exact ⟨_, h, .inr (.inr (.inr (.inr rfl)))⟩
structure MaxT (mg : Str → Option Value) : Prop where
  max : mg "max" = none
  min : mg "min" = none
end HT
namespace HT
open PySem L2
def spPick : Sp := fun vs H Q _ => ∃ (a c : Addr) (t : Nat) (l : Addr) (xs : List V), vs = [.ref a, .ref l] ∧ Src H a c t ∧ t < 2 ^ 30 ∧ H l = some (.lst xs) ∧ l ≠ a ∧ l ≠ c ∧ 0 < xs.length ∧ xs.length < 2 ^ 60 ∧
  ∀ x H', x ∈ xs → Src H' a c (t + 1) → Oth a c H H' → Q x H'
theorem lg_nat {n : Nat} (h : n < 2 ^ 200) : ((n : Int)).natAbs.log2 < 9000 := by
  rw [Int.natAbs_natCast]
  by_cases e : n = 0
  · rw [e]; decide
  · have := (Nat.log2_lt e).mpr h
    omega
section
variable {P : Program} {w : World} {K : PySem.W.Frag} {mg : Str → Option Value} {base : Heap} {fD fP fG : Addr} {dD dP dG : FuncData}
theorem ok_pick {f : Addr} {fd : FuncData} (F : Fun K "_law_pick" "_law_pick" s_L_pick f fd) (B : Blt mg) (D : Cal P w K mg base "_law_draw" 1 ["_law_source_here", "_law_limit"] spDraw fD dD) :
    FnOk P w K mg base CX0 2 f fd ["_law_source_here", "_law_values"] spPick := by
  refine F.ok sc_L_pick (fun vs H Q E h => ?_) (fun cdv A outer s H vs Q E hr h => ?_)
  · obtain ⟨a, c, t, l, xs, rfl, _⟩ := h
    rfl
  · obtain ⟨a, c, t, l, xs, rfl, S, ht, hl, na, nc, h0, h1, q⟩ := h
    refine ⟨_, pss_one (ps_ret (pe_ix ix_list (pv 1) (pcl D hr (by decide) (by rfl) (pa_cons (pv 0) (pa_cons (pe_callB call_len_seq (by rfl) B.len PySem.boot_len (pa_cons (pv 1) pa_nil)) pa_nil))) (fun _ _ => rfl))), ?_⟩
    walk_at "rd"
    refine ⟨l, _, rfl, .inl (SqL.of hl), ?_⟩
    have p1 : (0 : Int) < (xs.length : Int) := by omega
    refine ⟨a, c, t, _, rfl, S, ht, p1, lg_nat (Nat.lt_of_lt_of_le h1 (Nat.pow_le_pow_right (by decide) (by decide))), fun k H' k0 k1 S' O => ?_⟩
    have hl' : k.toNat < xs.length := by omega
    have e : atI xs k = some xs[k.toNat] := by
      unfold atI
      rw [ixN_in k0 k1]
      exact List.getElem?_eq_getElem hl'
    refine ⟨l, _, _, _, rfl, rfl, SqL.of (O _ _ hl na nc), e, ?_⟩
    exact q _ _ (List.getElem_mem hl') S' O
end
end HT
namespace HT
open PySem L2
/-! ### the mathematics of a side -/
def goesUp (m : Str) (s q r : Int) : Bool := if m = "down" then false else if m = "up" then decide (0 < r) else if 2 * r = s then (if m = "half_even" then decide (q % 2 = 1) else decide (m = "half_up")) else decide (s < 2 * r)
/-- the figure to which v comes -/
def figM (o s : Int) (m : Str) (v : Int) : Int := if goesUp m s ((v - o) / s) ((v - o) % s) = true then (v - o) / s + 1 else (v - o) / s
def dueM (o s : Int) (m : Str) (v : Int) : Int := o + s * figM o s m v
theorem d_u : ¬ (("up" : Str) = "down") := by decide +kernel
theorem hd_d : ¬ (("half_down" : Str) = "down") := by decide +kernel
theorem hd_u : ¬ (("half_down" : Str) = "up") := by decide +kernel
theorem hu_d : ¬ (("half_up" : Str) = "down") := by decide +kernel
theorem hu_u : ¬ (("half_up" : Str) = "up") := by decide +kernel
theorem he_d : ¬ (("half_even" : Str) = "down") := by decide +kernel
theorem he_u : ¬ (("half_even" : Str) = "up") := by decide +kernel
theorem hd_e : ¬ (("half_down" : Str) = "half_even") := by decide +kernel
theorem hu_e : ¬ (("half_up" : Str) = "half_even") := by decide +kernel
theorem hd_hu : ¬ (("half_down" : Str) = "half_up") := by decide +kernel
theorem he_hu : ¬ (("half_even" : Str) = "half_up") := by decide +kernel
theorem u_hd : ¬ (("up" : Str) = "half_down") := by decide +kernel
theorem hu_hd : ¬ (("half_up" : Str) = "half_down") := by decide +kernel
theorem he_hd : ¬ (("half_even" : Str) = "half_down") := by decide +kernel
theorem go_down (s q r : Int) : goesUp "down" s q r = false := by unfold goesUp; rw [if_pos rfl]
theorem go_up (s q r : Int) : goesUp "up" s q r = decide (0 < r) := by unfold goesUp; rw [if_neg d_u, if_pos rfl]
theorem go_hd (s q r : Int) : goesUp "half_down" s q r = decide (s < 2 * r) := by
  unfold goesUp
  rw [if_neg hd_d, if_neg hd_u, if_neg hd_e, decide_eq_false hd_hu]
  by_cases h : 2 * r = s
  · rw [if_pos h, decide_eq_false (by omega)]
  · rw [if_neg h]
theorem go_hu (s q r : Int) : goesUp "half_up" s q r = decide (s ≤ 2 * r) := by
  unfold goesUp
  rw [if_neg hu_d, if_neg hu_u, if_neg hu_e, decide_eq_true rfl]
  by_cases h : 2 * r = s
  · rw [if_pos h, decide_eq_true (by omega)]
  · rw [if_neg h]
    by_cases g : s < 2 * r
    · rw [decide_eq_true g, decide_eq_true (by omega)]
    · rw [decide_eq_false g, decide_eq_false (by omega)]
theorem go_he (s q r : Int) : goesUp "half_even" s q r = (decide (s < 2 * r) || (decide (2 * r = s) && decide (q % 2 = 1))) := by
  unfold goesUp
  rw [if_neg he_d, if_neg he_u, if_pos rfl]
  by_cases h : 2 * r = s
  · rw [if_pos h, decide_eq_false (show ¬ s < 2 * r by omega), decide_eq_true h]
    rfl
  · rw [if_neg h, decide_eq_false h]
    simp
/-- what is known of a figure -/
structure Fig (o s : Int) (m : Str) (v q r k : Int) : Prop where
  eq : v - o = s * q + r
  r0 : 0 ≤ r
  r1 : r < s
  wh : (goesUp m s q r = true ∧ k = q + 1) ∨ (goesUp m s q r = false ∧ k = q)
theorem fig_of {o s : Int} {m : Str} {v : Int} (hs : 1 ≤ s) : Fig o s m v ((v - o) / s) ((v - o) % s) (figM o s m v) := by
  refine ⟨?_, Int.emod_nonneg _ (by omega), Int.emod_lt_of_pos _ (by omega), ?_⟩
  · have := Int.mul_ediv_add_emod (v - o) s
    omega
  · unfold figM
    cases h : goesUp m s ((v - o) / s) ((v - o) % s)
    · exact .inr ⟨rfl, by simp⟩
    · exact .inl ⟨rfl, by simp⟩
theorem divmod_eq {s q r x : Int} (hs : 1 ≤ s) (h : x = s * q + r) (r0 : 0 ≤ r) (r1 : r < s) : x / s = q ∧ x % s = r := by
  subst h
  constructor
  · rw [Int.add_comm, Int.add_mul_ediv_left _ _ (by omega), Int.ediv_eq_zero_of_lt r0 r1]
    omega
  · rw [Int.add_comm, Int.add_mul_emod_self_left]
    exact Int.emod_eq_of_lt r0 r1
theorem fig_uniq {o s : Int} {m : Str} {v q r k : Int} (hs : 1 ≤ s) (F : Fig o s m v q r k) : figM o s m v = k := by
  obtain ⟨e1, e2⟩ := divmod_eq hs F.eq F.r0 F.r1
  unfold figM
  rw [e1, e2]
  rcases F.wh with ⟨h, e⟩ | ⟨h, e⟩
  · rw [h, if_pos rfl, e]
  · rw [h, if_neg (by decide), e]
/-- going up wants a rest, and not going up a small one -/
theorem go_pos {m : Str} {s q r : Int} (hm : Mode m) (hs : 1 ≤ s) (r0 : 0 ≤ r) (h : goesUp m s q r = true) : 0 < r := by
  rcases hm with e | e | e | e | e <;> subst e
  · rw [go_down] at h; cases h
  · rw [go_up] at h; exact of_decide_eq_true h
  · rw [go_hd] at h; have := of_decide_eq_true h; omega
  · rw [go_hu] at h; have := of_decide_eq_true h; omega
  · rw [go_he, Bool.or_eq_true, Bool.and_eq_true] at h
    rcases h with h | ⟨h, _⟩ <;> have := of_decide_eq_true h <;> omega
theorem due_near {o s : Int} {m : Str} {v : Int} (hm : Mode m) (hs : 1 ≤ s) : dueM o s m v - v < s ∧ v - dueM o s m v < s := by
  have F := fig_of (o := o) (m := m) (v := v) hs
  unfold dueM
  generalize (v - o) / s = q at F
  generalize (v - o) % s = r at F
  obtain ⟨eq, r0, r1, wh⟩ := F
  rcases wh with ⟨h, e⟩ | ⟨h, e⟩
  · have := go_pos hm hs r0 h
    rw [e, Int.mul_add, Int.mul_one]
    generalize s * q = z at eq ⊢
    omega
  · rw [e]
    generalize s * q = z at eq ⊢
    omega
def half (m : Str) : Prop := m = "half_down" ∨ m = "half_up" ∨ m = "half_even"
theorem due_half {o s : Int} {m : Str} {v : Int} (hm : half m) (hs : 1 ≤ s) : 2 * (dueM o s m v - v) ≤ s ∧ 2 * (v - dueM o s m v) ≤ s := by
  have F := fig_of (o := o) (m := m) (v := v) hs
  unfold dueM
  generalize (v - o) / s = q at F
  generalize (v - o) % s = r at F
  obtain ⟨eq, r0, r1, wh⟩ := F
  have hb : (goesUp m s q r = true → s ≤ 2 * r) ∧ (goesUp m s q r = false → 2 * r ≤ s) := by
    rcases hm with e | e | e <;> subst e
    · rw [go_hd]; exact ⟨fun h => by have := of_decide_eq_true h; omega, fun h => by have := of_decide_eq_false h; omega⟩
    · rw [go_hu]; exact ⟨fun h => by have := of_decide_eq_true h; omega, fun h => by have := of_decide_eq_false h; omega⟩
    · rw [go_he]
      refine ⟨fun h => ?_, fun h => ?_⟩
      · rw [Bool.or_eq_true, Bool.and_eq_true] at h
        rcases h with h | ⟨h, _⟩ <;> have := of_decide_eq_true h <;> omega
      · rw [Bool.or_eq_false_iff] at h
        have := of_decide_eq_false h.1
        omega
  rcases wh with ⟨h, e⟩ | ⟨h, e⟩
  · have := hb.1 h
    rw [e, Int.mul_add, Int.mul_one]
    generalize s * q = z at eq ⊢
    omega
  · have := hb.2 h
    rw [e]
    generalize s * q = z at eq ⊢
    omega
theorem go_zero {m : Str} {s q : Int} (hm : Mode m) (hs : 1 ≤ s) : goesUp m s q 0 = false := by
  cases h : goesUp m s q 0 with
  | false => rfl
  | true => exact absurd (go_pos hm hs (Int.le_refl _) h) (by omega)
/-- what is written stands and is written as it is -/
theorem fig_at {o s k : Int} {m : Str} (hm : Mode m) (hs : 1 ≤ s) : figM o s m (o + s * k) = k :=
  fig_uniq (q := k) (r := 0) hs ⟨by omega, Int.le_refl _, by omega, .inr ⟨go_zero hm hs, rfl⟩⟩
theorem stands_at {o s k : Int} : (o + s * k - o) % s = 0 := by
  rw [show o + s * k - o = s * k by omega]
  exact Int.mul_emod_right s k
theorem due_eq {o s : Int} {m : Str} {v : Int} (hm : Mode m) (hs : 1 ≤ s) : (v - o) % s = 0 ↔ dueM o s m v = v := by
  have F := fig_of (o := o) (m := m) (v := v) hs
  unfold dueM
  generalize (v - o) / s = q at F
  generalize (v - o) % s = r at F ⊢
  obtain ⟨eq, r0, r1, wh⟩ := F
  rcases wh with ⟨h, e⟩ | ⟨h, e⟩
  · have := go_pos hm hs r0 h
    rw [e, Int.mul_add, Int.mul_one]
    generalize s * q = z at eq ⊢
    omega
  · rw [e]
    generalize s * q = z at eq ⊢
    omega
theorem go_mono {m : Str} {s q r : Int} (hm : Mode m) (h : goesUp m s q r = true) : goesUp m s q (r + 1) = true := by
  rcases hm with e | e | e | e | e <;> subst e
  · rw [go_down] at h; cases h
  · rw [go_up] at h ⊢; have := of_decide_eq_true h; exact decide_eq_true (by omega)
  · rw [go_hd] at h ⊢; have := of_decide_eq_true h; exact decide_eq_true (by omega)
  · rw [go_hu] at h ⊢; have := of_decide_eq_true h; exact decide_eq_true (by omega)
  · rw [go_he] at h ⊢
    have : s ≤ 2 * r := by
      rw [Bool.or_eq_true, Bool.and_eq_true] at h
      rcases h with h | ⟨h, _⟩ <;> have := of_decide_eq_true h <;> omega
    rw [decide_eq_true (show s < 2 * (r + 1) by omega)]
    rfl
theorem fig_mono {o s : Int} {m : Str} {v : Int} (hm : Mode m) (hs : 1 ≤ s) : figM o s m v ≤ figM o s m (v + 1) := by
  have F := fig_of (o := o) (m := m) (v := v) hs
  generalize (v - o) / s = q at F
  generalize (v - o) % s = r at F
  obtain ⟨eq, r0, r1, wh⟩ := F
  by_cases hr : r + 1 < s
  · cases g : goesUp m s q (r + 1) with
    | true =>
      rw [fig_uniq (v := v + 1) (q := q) (r := r + 1) (k := q + 1) hs ⟨by omega, by omega, hr, .inl ⟨g, rfl⟩⟩]
      rcases wh with ⟨_, e⟩ | ⟨_, e⟩ <;> omega
    | false =>
      rw [fig_uniq (v := v + 1) (q := q) (r := r + 1) (k := q) hs ⟨by omega, by omega, hr, .inr ⟨g, rfl⟩⟩]
      rcases wh with ⟨h, e⟩ | ⟨_, e⟩
      · rw [go_mono hm h] at g
        cases g
      · omega
  · rw [fig_uniq (v := v + 1) (q := q + 1) (r := 0) (k := q + 1) hs ⟨by rw [Int.mul_add, Int.mul_one]; omega, by omega, by omega, .inr ⟨go_zero hm hs, rfl⟩⟩]
    rcases wh with ⟨_, e⟩ | ⟨_, e⟩ <;> omega
theorem due_mono {o s : Int} {m : Str} {v : Int} (hm : Mode m) (hs : 1 ≤ s) : dueM o s m v ≤ dueM o s m (v + 1) := by
  unfold dueM
  have := Int.mul_le_mul_of_nonneg_left (fig_mono (o := o) (v := v) hm hs) (show 0 ≤ s by omega)
  omega
theorem go_two {m : Str} {s q r : Int} (hm : Mode m) : goesUp m s (q + 2) r = goesUp m s q r := by
  rcases hm with e | e | e | e | e <;> subst e
  · rw [go_down, go_down]
  · rw [go_up, go_up]
  · rw [go_hd, go_hd]
  · rw [go_hu, go_hu]
  · rw [go_he, go_he, show (q + 2) % 2 = q % 2 by omega]
theorem due_two {o s : Int} {m : Str} {v : Int} (hm : Mode m) (hs : 1 ≤ s) : dueM o s m (v + s * 2) = dueM o s m v + s * 2 := by
  have F := fig_of (o := o) (m := m) (v := v) hs
  unfold dueM
  generalize (v - o) / s = q at F
  generalize (v - o) % s = r at F
  obtain ⟨eq, r0, r1, wh⟩ := F
  rw [fig_uniq (v := v + s * 2) (q := q + 2) (r := r) (k := figM o s m v + 2) hs ⟨by rw [Int.mul_add]; omega, r0, r1, ?_⟩, Int.mul_add]
  · omega
  · rw [go_two hm]
    rcases wh with ⟨h, e⟩ | ⟨h, e⟩
    · exact .inl ⟨h, by omega⟩
    · exact .inr ⟨h, by omega⟩
/-! ### bounds -/
def Bd (x : Int) : Prop := -2 ^ 1000 < x ∧ x < 2 ^ 1000
theorem div_bd {x s b : Int} (hs : 1 ≤ s) (h0 : -b < x) (h1 : x < b) : -b < x / s ∧ x / s < b := by
  by_cases hx : 0 ≤ x
  · have a := Int.ediv_nonneg hx (show 0 ≤ s by omega)
    have c := Int.ediv_le_self s hx
    omega
  · have a : x ≤ x / s := by
      rw [Int.le_ediv_iff_mul_le (by omega)]
      have := Int.mul_le_mul_of_nonpos_left (show x ≤ 0 by omega) hs
      omega
    have c : x / s < 0 := Int.ediv_neg_of_neg_of_pos (by omega) (by omega)
    omega
end HT
namespace HT
open PySem L2
/-! ### spans -/
def below (m : Str) (s k : Int) : Int := if m = "down" then 0 else if m = "up" then s - 1 else if m = "half_up" ∨ (m = "half_even" ∧ k % 2 = 0) then s / 2 else (s - 1) / 2
def mir (m : Str) : Str := if m = "down" then "up" else if m = "up" then "down" else if m = "half_down" then "half_up" else if m = "half_up" then "half_down" else "half_even"
def lowM (o s : Int) (m : Str) (k : Int) : Int := o + s * k - below m s k
def highM (o s : Int) (m : Str) (k : Int) : Int := o + s * k + below (mir m) s k
theorem mir_d : mir "down" = "up" := by unfold mir; rw [if_pos rfl]
theorem mir_u : mir "up" = "down" := by unfold mir; rw [if_neg d_u, if_pos rfl]
theorem mir_hd : mir "half_down" = "half_up" := by unfold mir; rw [if_neg hd_d, if_neg hd_u, if_pos rfl]
theorem mir_hu : mir "half_up" = "half_down" := by unfold mir; rw [if_neg hu_d, if_neg hu_u, if_neg hu_hd, if_pos rfl]
theorem mir_he : mir "half_even" = "half_even" := by unfold mir; rw [if_neg he_d, if_neg he_u, if_neg he_hd, if_neg he_hu]
theorem be_d (s k : Int) : below "down" s k = 0 := by unfold below; rw [if_pos rfl]
theorem be_u (s k : Int) : below "up" s k = s - 1 := by unfold below; rw [if_neg d_u, if_pos rfl]
theorem be_hd (s k : Int) : below "half_down" s k = (s - 1) / 2 := by
  unfold below
  rw [if_neg hd_d, if_neg hd_u, if_neg]
  rintro (z | ⟨z, _⟩)
  · exact hd_hu z
  · exact hd_e z
theorem be_hu (s k : Int) : below "half_up" s k = s / 2 := by unfold below; rw [if_neg hu_d, if_neg hu_u, if_pos (.inl rfl)]
theorem be_he (s k : Int) : below "half_even" s k = if k % 2 = 0 then s / 2 else (s - 1) / 2 := by
  unfold below
  rw [if_neg he_d, if_neg he_u]
  by_cases h : k % 2 = 0
  · rw [if_pos (.inr ⟨rfl, h⟩), if_pos h]
  · rw [if_neg h, if_neg]
    rintro (z | ⟨_, z⟩)
    · exact he_hu z
    · exact h z
theorem mir_mode {m : Str} (h : Mode m) : Mode (mir m) := by
  rcases h with e | e | e | e | e <;> subst e
  · rw [mir_d]; exact .inr (.inl rfl)
  · rw [mir_u]; exact .inl rfl
  · rw [mir_hd]; exact .inr (.inr (.inr (.inl rfl)))
  · rw [mir_hu]; exact .inr (.inr (.inl rfl))
  · rw [mir_he]; exact .inr (.inr (.inr (.inr rfl)))
theorem below_bd {m : Str} {s k : Int} (h : Mode m) (hs : 1 ≤ s) : 0 ≤ below m s k ∧ below m s k < s := by
  rcases h with e | e | e | e | e <;> subst e
  · rw [be_d]; omega
  · rw [be_u]; omega
  · rw [be_hd]; omega
  · rw [be_hu]; omega
  · rw [be_he]; split <;> omega
theorem up_iff {m : Str} {s q r : Int} (h : Mode m) (r0 : 0 ≤ r) (r1 : r < s) : goesUp m s q r = true ↔ below (mir m) s q < r := by
  rcases h with e | e | e | e | e <;> subst e
  · rw [go_down, mir_d, be_u]
    exact ⟨fun z => (Bool.false_ne_true z).elim, fun z => absurd z (by omega)⟩
  · rw [go_up, mir_u, be_d, decide_eq_true_eq]
  · rw [go_hd, mir_hd, be_hu, decide_eq_true_eq]; omega
  · rw [go_hu, mir_hu, be_hd, decide_eq_true_eq]; omega
  · rw [go_he, mir_he, be_he, Bool.or_eq_true, Bool.and_eq_true, decide_eq_true_eq, decide_eq_true_eq, decide_eq_true_eq]
    split <;> omega
theorem touch {m : Str} {s : Int} (q : Int) (h : Mode m) (hs : 1 ≤ s) : below m s (q + 1) + below (mir m) s q = s - 1 := by
  rcases h with e | e | e | e | e <;> subst e
  · rw [be_d, mir_d, be_u]; omega
  · rw [be_u, mir_u, be_d]; omega
  · rw [be_hd, mir_hd, be_hu]; omega
  · rw [be_hu, mir_hu, be_hd]; omega
  · rw [be_he, mir_he, be_he]; split <;> split <;> omega
theorem mul_lt_step {s q k : Int} (hs : 1 ≤ s) (h : q < k) : s * q + s ≤ s * k := by
  have := Int.mul_le_mul_of_nonneg_left (show q + 1 ≤ k by omega) (show 0 ≤ s by omega)
  rw [Int.mul_add, Int.mul_one] at this
  exact this
/-- a value comes to k just between the ends -/
theorem fig_iff {o s : Int} {m : Str} {v k : Int} (h : Mode m) (hs : 1 ≤ s) : figM o s m v = k ↔ lowM o s m k ≤ v ∧ v ≤ highM o s m k := by
  have F := fig_of (o := o) (m := m) (v := v) hs
  generalize (v - o) / s = q at F
  generalize (v - o) % s = r at F
  generalize figM o s m v = f at F ⊢
  obtain ⟨eq, r0, r1, wh⟩ := F
  have ui := up_iff (q := q) h r0 r1
  have t1 := touch (k - 1) h hs
  rw [show k - 1 + 1 = k by omega] at t1
  have bk := below_bd (k := k) (mir_mode h) hs
  have bk1 := below_bd (k := k - 1) (mir_mode h) hs
  have bq := below_bd (k := q) (mir_mode h) hs
  unfold lowM highM
  have hf : (f = q + 1 ∧ below (mir m) s q < r) ∨ (f = q ∧ r ≤ below (mir m) s q) := by
    rcases wh with ⟨g, e⟩ | ⟨g, e⟩
    · exact .inl ⟨e, ui.mp g⟩
    · refine .inr ⟨e, ?_⟩
      have : ¬ below (mir m) s q < r := fun z => by rw [ui.mpr z] at g; cases g
      omega
  rcases Int.lt_trichotomy q k with hq | hq | hq
  · rcases Int.lt_trichotomy (q + 1) k with hq1 | hq1 | hq1
    · have := mul_lt_step hs (show q + 1 < k from hq1)
      rw [Int.mul_add, Int.mul_one] at this
      generalize s * q = a at *
      generalize s * k = b at *
      constructor
      · intro z; omega
      · intro z; omega
    · have e : q = k - 1 := by omega
      subst e
      have : s * (k - 1) = s * k - s := by rw [Int.mul_sub, Int.mul_one]
      generalize s * (k - 1) = a at *
      generalize s * k = b at *
      constructor
      · intro z; omega
      · intro z; omega
    · omega
  · subst hq
    generalize s * q = a at *
    constructor
    · intro z; omega
    · intro z; omega
  · have := mul_lt_step hs hq
    generalize s * q = a at *
    generalize s * k = b at *
    constructor
    · intro z; omega
    · intro z; omega
theorem low_high {o s : Int} {m : Str} {k : Int} (h : Mode m) (hs : 1 ≤ s) : lowM o s m k ≤ o + s * k ∧ o + s * k ≤ highM o s m k := by
  have a := below_bd (k := k) h hs
  have b := below_bd (k := k) (mir_mode h) hs
  unfold lowM highM
  omega
theorem low_next {o s : Int} {m : Str} (k : Int) (h : Mode m) (hs : 1 ≤ s) : lowM o s m (k + 1) = highM o s m k + 1 := by
  have := touch k h hs
  unfold lowM highM
  rw [Int.mul_add, Int.mul_one]
  omega
theorem high_prev {o s : Int} {m : Str} (k : Int) (h : Mode m) (hs : 1 ≤ s) : highM o s m (k - 1) = lowM o s m k - 1 := by
  have := low_next (o := o) (k - 1) h hs
  rw [show k - 1 + 1 = k by omega] at this
  omega
theorem fig_low {o s : Int} {m : Str} (k : Int) (h : Mode m) (hs : 1 ≤ s) : figM o s m (lowM o s m k) = k := by
  have a := low_high (o := o) (k := k) h hs
  exact (fig_iff h hs).mpr ⟨by omega, by omega⟩
theorem fig_high {o s : Int} {m : Str} (k : Int) (h : Mode m) (hs : 1 ≤ s) : figM o s m (highM o s m k) = k := by
  have a := low_high (o := o) (k := k) h hs
  exact (fig_iff h hs).mpr ⟨by omega, by omega⟩
theorem fig_low1 {o s : Int} {m : Str} (k : Int) (h : Mode m) (hs : 1 ≤ s) : figM o s m (lowM o s m k - 1) = k - 1 := by
  rw [← high_prev k h hs]
  exact fig_high _ h hs
theorem fig_high1 {o s : Int} {m : Str} (k : Int) (h : Mode m) (hs : 1 ≤ s) : figM o s m (highM o s m k + 1) = k + 1 := by
  rw [← low_next k h hs]
  exact fig_low _ h hs
/-- the figure of the least standing value that is not less -/
def ceilM (o s v : Int) : Int := -((o - v) / s)
theorem ceil_eq {o s v : Int} (hs : 1 ≤ s) : v ≤ o + s * ceilM o s v ∧ o + s * (ceilM o s v - 1) < v := by
  have a := Int.mul_ediv_add_emod (o - v) s
  have b := Int.emod_nonneg (o - v) (show s ≠ 0 by omega)
  have c := Int.emod_lt_of_pos (o - v) (show 0 < s by omega)
  unfold ceilM
  rw [Int.mul_sub, Int.mul_one, Int.mul_neg]
  omega
def backM (o s : Int) (m : Str) (v : Int) : Int := lowM o s m (ceilM o s v)
theorem back_ge {o s : Int} {m : Str} {v : Int} (h : Mode m) (hs : 1 ≤ s) : v ≤ dueM o s m (backM o s m v) := by
  unfold dueM backM
  rw [fig_low _ h hs]
  exact (ceil_eq hs).1
theorem back_lt {o s : Int} {m : Str} {v : Int} (h : Mode m) (hs : 1 ≤ s) : dueM o s m (backM o s m v - 1) < v := by
  unfold dueM backM
  rw [fig_low1 _ h hs]
  exact (ceil_eq hs).2
theorem mul_b {s k : Int} (s0 : 1 ≤ s) (s1 : s ≤ 10 ^ 30) (h : -2 ^ 720 < k ∧ k < 2 ^ 720) : -2 ^ 820 < s * k ∧ s * k < 2 ^ 820 := by
  have h1 : (s * k).natAbs < 2 ^ (100 + 720) := wide_lt (a := 100) (b := 720) (by omega) (by omega)
  omega
end HT
namespace HT
open PySem L2
theorem lg_big {n : Int} (h0 : 0 ≤ n) (h : n < 2 ^ 200) : n.natAbs.log2 < 9000 := by
  obtain ⟨m, rfl⟩ := Int.eq_ofNat_of_zero_le h0
  exact lg_nat (by omega)
def modesV : List V := [.str "down", .str "up", .str "half_down", .str "half_up", .str "half_even"]
/-- the further names that the text of sides does not bind, and its table of modes -/
structure SideT (K : PySem.W.Frag) (mg : Str → Option Value) (aM : Addr) : Prop where
  isi : mg "isinstance" = none
  int : mg "int" = none
  bool : mg "bool" = none
  tuple : mg "tuple" = none
  len : mg "len" = none
  dm : mg "divmod" = none
  gM : mg "MODES" = some (.ref aM)
  tM : ∀ H, SqT K H aM modesV
def spIsInt : Sp := fun vs H Q _ => ∃ i : Int, vs = [.int i] ∧ Q (.bl true) H
def spBetween : Sp := fun vs H Q _ => ∃ i a b : Int, vs = [.int i, .int a, .int b] ∧ Q (.bl (decide (a ≤ i) && decide (i ≤ b))) H
def spCheckValue : Sp := fun vs H Q _ => ∃ i : Int, vs = [.int i] ∧ Q .non H
def spCheckSide : Sp := fun vs H Q _ => ∃ (p : Addr) (o s : Int) (m : Str), vs = [.ref p] ∧ H p = some (sideV o s m) ∧ SideP o s m ∧ Q .non H
def spGo : Sp := fun vs H Q _ => ∃ (m : Str) (s q r : Int), vs = [.str m, .int s, .int q, .int r] ∧ Q (.bl (goesUp m s q r)) H
def spSV (f : Int → Int → Str → Int → V) : Sp := fun vs H Q _ => ∃ (p : Addr) (o s : Int) (m : Str) (v : Int), vs = [.ref p, .int v] ∧ H p = some (sideV o s m) ∧ SideP o s m ∧ Bd v ∧ ∀ H', Same H H' → Q (f o s m v) H'
def spFig : Sp := spSV fun o s m v => .int (figM o s m v)
def spDue : Sp := spSV fun o s m v => .int (dueM o s m v)
def spStands : Sp := spSV fun o s m v => .bl (decide ((v - o) % s = 0))
theorem dec_int (a b : Int) : decide (V.int a = V.int b) = decide (a = b) := by
  by_cases h : a = b
  · rw [decide_eq_true h, h, decide_eq_true rfl]
  · rw [decide_eq_false h, decide_eq_false (fun z => h (V.int.inj z))]
theorem dec_str (a b : Str) : decide (V.str a = V.str b) = decide (a = b) := by
  by_cases h : a = b
  · rw [decide_eq_true h, h, decide_eq_true rfl]
  · rw [decide_eq_false h, decide_eq_false (fun z => h (V.str.inj z))]
theorem dec_bl (a b : Bool) : decide (V.bl a = V.bl b) = decide (a = b) := by
  by_cases h : a = b
  · rw [decide_eq_true h, h, decide_eq_true rfl]
  · rw [decide_eq_false h, decide_eq_false (fun z => h (V.bl.inj z))]
theorem str_t {a b : Str} (h : decide (V.str a = V.str b) = true) : a = b := V.str.inj (of_decide_eq_true h)
theorem str_f {a b : Str} (h : ¬ decide (V.str a = V.str b) = true) : ¬ a = b := fun z => h (decide_eq_true (congrArg V.str z))
theorem int_t {a b : Int} (h : decide (V.int a = V.int b) = true) : a = b := V.int.inj (of_decide_eq_true h)
theorem int_f {a b : Int} (h : ¬ decide (V.int a = V.int b) = true) : ¬ a = b := fun z => h (decide_eq_true (congrArg V.int z))
theorem not_t {b : Bool} (h : (!b) = true) : ¬ b = true := by cases b <;> simp_all
theorem not_f {b : Bool} (h : ¬ (!b) = true) : b = true := by cases b <;> simp_all
theorem mode_in {m : Str} (h : Mode m) : inV (.str m) modesV = true := by
  rcases h with e | e | e | e | e <;> subst e <;> decide +kernel
theorem divp {o v s : Int} (hs : 1 ≤ s) (ho : -10 ^ 40 ≤ o ∧ o ≤ 10 ^ 40) (hv : Bd v) : CDivP (v - o) s := by
  refine divp_ok (by omega) ?_
  have h : (v - o).natAbs < 2 ^ 1010 := by
    have h1 := hv.1
    have h2 := hv.2
    omega
  have h2 : Builtin.Int.intBits (v - o) ≤ 1011 := by
    unfold Builtin.Int.intBits
    split
    · omega
    · have := PySem.Flt.log2_lt_of (by decide) h
      omega
  omega
theorem mulW {i j : Int} (hi : -2 ^ 1010 < i ∧ i < 2 ^ 1010) (hj : -2 ^ 1010 < j ∧ j < 2 ^ 1010) : CMulW i j := wide_mul (a := 1010) (b := 1010) (by omega) (by omega) (by decide) (by decide) (by decide)
theorem fig_bd {o s : Int} {m : Str} {v : Int} (S : SideP o s m) (hv : Bd v) : -2 ^ 1001 < figM o s m v ∧ figM o s m v < 2 ^ 1001 := by
  obtain ⟨h1, h2⟩ := hv
  obtain ⟨o0, o1, s0, s1, _⟩ := S
  have := div_bd (x := v - o) (b := 2 ^ 1000 + 10 ^ 40) s0 (by omega) (by omega)
  unfold figM
  split <;> omega
section
variable {P : Program} {w : World} {K : PySem.W.Frag} {mg : Str → Option Value} {base : Heap} {aM fI fB fV fC fG fF : Addr} {dI dB dV dC dG dF : FuncData}
theorem ok_is_int {f : Addr} {fd : FuncData} (F : Fun K "is_int" "is_int" s_is_int f fd) (T : SideT K mg aM) : FnOk P w K mg base CX0 1 f fd ["thing"] spIsInt := by
  refine F.ok sc_is_int (fun vs H Q E h => ?_) (fun cdv A outer s H vs Q E hr h => ?_)
  · obtain ⟨i, rfl, _⟩ := h
    rfl
  · obtain ⟨i, rfl, q⟩ := h
    refine ⟨_, pss_one (ps_ret (pe_and (pe_callB call_isi (by rfl) T.isi (by decide +kernel) (pa_cons (pv 0) (pa_cons (pe_bltn (v := .ty "int") (by rfl) T.int (by decide +kernel) rfl) pa_nil)))
      (pe_one (pe_not (pe_callB call_isi (by rfl) T.isi (by decide +kernel) (pa_cons (pv 0) (pa_cons (pe_bltn (v := .ty "bool") (by rfl) T.bool (by decide +kernel) rfl) pa_nil))))))), ?_⟩
    walk_at "rd"
    refine ⟨_, _, _, _, _, rfl, .ty "int", .base (.int _), kit_ty (r := true) (by decide +kernel), ?_⟩
    walk_at "rd"
    refine ⟨_, _, _, _, _, rfl, .ty "bool", .base (.int _), kit_ty (r := false) (by decide +kernel), ?_⟩
    walk_at "rd"
    exact q
theorem ok_between {f : Addr} {fd : FuncData} (F : Fun K "is_int_between" "is_int_between" s_is_int_between f fd) (I : Cal P w K mg base "is_int" 1 ["thing"] spIsInt fI dI) : FnOk P w K mg base CX0 2 f fd ["thing", "least", "most"] spBetween := by
  refine F.ok sc_is_int_between (fun vs H Q E h => ?_) (fun cdv A outer s H vs Q E hr h => ?_)
  · obtain ⟨i, a, b, rfl, _⟩ := h
    rfl
  · obtain ⟨i, a, b, rfl, q⟩ := h
    refine ⟨_, pss_one (ps_ret (pe_and (pcl I hr (by decide) (by rfl) (pa_cons (pv 0) pa_nil)) (pe_one (pe_chain op_le op_le (pv 1) (pv 0) (pv 2))))), ?_⟩
    walk_at "rd"
    refine ite2 (fun h => ?_) (fun h => ?_)
    · walk_at "rd"
      rw [decide_eq_true (of_decide_eq_true h)] at q
      exact q
    · rw [decide_eq_false (of_decide_eq_false (by simpa using h))] at q
      exact q
theorem ok_check_value {f : Addr} {fd : FuncData} (F : Fun K "check_value" "check_value" s_check_value f fd) (I : Cal P w K mg base "is_int" 1 ["thing"] spIsInt fI dI) : FnOk P w K mg base CX0 2 f fd ["value"] spCheckValue := by
  refine F.ok sc_check_value (fun vs H Q E h => ?_) (fun cdv A outer s H vs Q E hr h => ?_)
  · obtain ⟨i, rfl, _⟩ := h
    rfl
  · obtain ⟨i, rfl, q⟩ := h
    refine ⟨_, pss_one (ps_if (pt_not (pt_val (pcl I hr (by decide) (by rfl) (pa_cons (pv 0) pa_nil)))) (pss_one ps_never) pss_nil), ?_⟩
    walk_at "rd"
    exact q
theorem ok_check_side {f : Addr} {fd : FuncData} (F : Fun K "check_side" "check_side" s_check_side f fd) (T : SideT K mg aM) (B : Cal P w K mg base "is_int_between" 2 ["thing", "least", "most"] spBetween fB dB) : FnOk P w K mg base CX0 3 f fd ["side"] spCheckSide := by
  refine F.ok sc_check_side (fun vs H Q E h => ?_) (fun cdv A outer s H vs Q E hr h => ?_)
  · obtain ⟨p, o, s, m, rfl, _⟩ := h
    rfl
  · obtain ⟨p, o, s, m, rfl, hp, S, q⟩ := h
    have nd := sc_check_side.nd
    refine ⟨_, pss_cons (ps_if (PW.pt (pw_or (pt_not (pt_val (pe_callB call_isi (by rfl) T.isi (by decide +kernel) (pa_cons (pv 0) (pa_cons (pe_bltn (v := .ty "tuple") (by rfl) T.tuple (by decide +kernel) rfl) pa_nil)))))
        (pw_or1 (pt_cmpR op_ne (pe_callB call_len_seq (by rfl) T.len PySem.boot_len (pa_cons (pv 0) pa_nil)) pe_int (nomark _))))) (pss_one ps_never) pss_nil)
      (pss_cons (ps_asg (pv 0) (pg_tup (by rfl) (pgs_cons (pg_name (i := 1) nd rfl (Or.inl rfl)) (pgs_cons (pg_name (i := 2) nd rfl (Or.inl rfl)) (pgs_cons (pg_name (i := 3) nd rfl (Or.inl rfl)) pgs_nil)))))
      (pss_cons (ps_if (pt_not (pt_val (pcl B hr (by decide) (by rfl) (pa_cons (pv 1) (pa_cons (pe_un un_neg (pe_op op_pow pe_int pe_int)) (pa_cons (pe_op op_pow pe_int pe_int) pa_nil)))))) (pss_one ps_never) pss_nil)
      (pss_cons (ps_if (pt_not (pt_val (pcl B hr (by decide) (by rfl) (pa_cons (pv 2) (pa_cons pe_int (pa_cons (pe_op op_pow pe_int pe_int) pa_nil)))))) (pss_one ps_never) pss_nil)
      (pss_one (ps_if (pt_cmpR op_notIn_seq (pv 3) (pe_glob (v := .ref aM) (by rfl) T.gM rfl) (by rfl)) (pss_one ps_never) pss_nil))))), ?_⟩
    walk_at "rd"
    refine ⟨_, _, _, _, _, rfl, .ty "tuple", .base (.tup hp), kit_ty (r := true) (by decide +kernel), ?_⟩
    walk_at "rd"
    refine ⟨p, _, rfl, .inr (SqT.of hp), rfl, ?_⟩
    walk_at "rd"
    refine ⟨p, _, rfl, SqT.of hp, rfl, _, _, rfl, _, _, rfl, _, _, rfl, rfl, ?_⟩
    walk_at "rd"
    refine ⟨⟨by decide, by decide, by decide⟩, ?_⟩
    walk_at "rd"
    refine ⟨⟨by decide, by decide, by decide⟩, _, _, _, rfl, ?_⟩
    have e1 : (decide (-(10 : Int) ^ (40 : Int).toNat ≤ o) && decide (o ≤ (10 : Int) ^ (40 : Int).toNat)) = true := by
      rw [decide_eq_true (show -(10 : Int) ^ (40 : Int).toNat ≤ o from S.o0), decide_eq_true (show o ≤ (10 : Int) ^ (40 : Int).toNat from S.o1)]
      rfl
    refine ⟨_, rfl, ?_⟩
    refine ite2 (fun h => (not_t h e1).elim) (fun _ => ?_)
    walk_at "rd"
    refine ⟨⟨by decide, by decide, by decide⟩, _, _, _, rfl, ?_⟩
    have e2 : (decide ((1 : Int) ≤ s) && decide (s ≤ (10 : Int) ^ (30 : Int).toNat)) = true := by
      rw [decide_eq_true S.s0, decide_eq_true (show s ≤ (10 : Int) ^ (30 : Int).toNat from S.s1)]
      rfl
    refine ⟨_, rfl, ?_⟩
    refine ite2 (fun h => (not_t h e2).elim) (fun _ => ?_)
    walk_at "rd"
    refine ⟨aM, _, rfl, .inr (T.tM H), rfl, by decide, ?_⟩
    walk_at "rd"
    refine ite2 (fun h => (not_t h (mode_in S.md)).elim) (fun _ => ?_)
    exact q
end
end HT
namespace HT
open PySem L2
/-! ### mirrors and forms -/
theorem mir_mir {m : Str} (h : Mode m) : mir (mir m) = m := by
  rcases h with e | e | e | e | e <;> subst e
  · rw [mir_d, mir_u]
  · rw [mir_u, mir_d]
  · rw [mir_hd, mir_hu]
  · rw [mir_hu, mir_hd]
  · rw [mir_he, mir_he]
theorem below_neg {m : Str} {s : Int} (k : Int) (h : Mode m) : below m s (-k) = below m s k := by
  rcases h with e | e | e | e | e <;> subst e
  · rw [be_d, be_d]
  · rw [be_u, be_u]
  · rw [be_hd, be_hd]
  · rw [be_hu, be_hu]
  · rw [be_he, be_he]; split <;> split <;> omega
theorem due_mirror {o s : Int} {m : Str} {v : Int} (h : Mode m) (hs : 1 ≤ s) : dueM (-o) s (mir m) (-v) = -dueM o s m v := by
  have f := (fig_iff (o := o) (v := v) (k := figM o s m v) h hs).mp rfl
  generalize figM o s m v = k at f
  have e : figM o s m v = k := (fig_iff h hs).mpr f
  have e2 : figM (-o) s (mir m) (-v) = -k := by
    refine (fig_iff (mir_mode h) hs).mpr ?_
    unfold lowM highM at f ⊢
    rw [mir_mir h, below_neg k h, below_neg k (mir_mode h), Int.mul_neg]
    omega
  unfold dueM
  rw [e, e2, Int.mul_neg]
  omega
def firstM (s : Int) (m : Str) : Str := if s = 1 then "down" else if s = 2 ∧ m = "half_down" then "down" else if s = 2 ∧ m = "half_up" then "up" else if s % 2 = 1 ∧ (m = "half_up" ∨ m = "half_even") then "half_down" else m
def formO (o s : Int) (f : Str) : Int := if f = "half_even" then o % (2 * s) else o % s
def ordM (m : Str) : Nat := if m = "down" then 0 else if m = "up" then 1 else if m = "half_down" then 2 else if m = "half_up" then 3 else 4
theorem ord_d : ordM "down" = 0 := by unfold ordM; rw [if_pos rfl]
theorem ord_u : ordM "up" = 1 := by unfold ordM; rw [if_neg d_u, if_pos rfl]
theorem ord_hd : ordM "half_down" = 2 := by unfold ordM; rw [if_neg hd_d, if_neg hd_u, if_pos rfl]
theorem ord_hu : ordM "half_up" = 3 := by unfold ordM; rw [if_neg hu_d, if_neg hu_u, if_neg hu_hd, if_pos rfl]
theorem ord_he : ordM "half_even" = 4 := by unfold ordM; rw [if_neg he_d, if_neg he_u, if_neg he_hd, if_neg he_hu]
theorem u_hu : ¬ (("up" : Str) = "half_up") := by decide +kernel
theorem u_he : ¬ (("up" : Str) = "half_even") := by decide +kernel
theorem dn_hd : ¬ (("down" : Str) = "half_down") := by decide +kernel
theorem dn_hu : ¬ (("down" : Str) = "half_up") := by decide +kernel
theorem dn_he : ¬ (("down" : Str) = "half_even") := by decide +kernel
theorem dn_u : ¬ (("down" : Str) = "up") := by decide +kernel
/-- the first modes, mode by mode -/
theorem fi_one (m : Str) : firstM 1 m = "down" := by unfold firstM; rw [if_pos rfl]
theorem fi_d (s : Int) : firstM s "down" = "down" := by
  unfold firstM
  by_cases h : s = 1
  · rw [if_pos h]
  · rw [if_neg h, if_neg (fun z => dn_hd z.2), if_neg (fun z => dn_hu z.2), if_neg (fun z => z.2.elim dn_hu dn_he)]
theorem fi_u {s : Int} (h : s ≠ 1) : firstM s "up" = "up" := by
  unfold firstM
  rw [if_neg h, if_neg (fun z => u_hd z.2), if_neg (fun z => u_hu z.2), if_neg (fun z => z.2.elim u_hu u_he)]
theorem fi_hd2 : firstM 2 "half_down" = "down" := by unfold firstM; rw [if_neg (by decide), if_pos ⟨rfl, rfl⟩]
theorem fi_hd {s : Int} (h : s ≠ 1) (h2 : s ≠ 2) : firstM s "half_down" = "half_down" := by
  unfold firstM
  rw [if_neg h, if_neg (fun z => h2 z.1), if_neg (fun z => h2 z.1), if_neg (fun z => z.2.elim hd_hu hd_e)]
theorem fi_hu2 : firstM 2 "half_up" = "up" := by unfold firstM; rw [if_neg (by decide), if_neg (fun z => hu_hd z.2), if_pos ⟨rfl, rfl⟩]
theorem fi_huO {s : Int} (h : s ≠ 1) (h2 : s % 2 = 1) : firstM s "half_up" = "half_down" := by
  unfold firstM
  rw [if_neg h, if_neg (fun z => hu_hd z.2), if_neg (fun z => by have := z.1; omega), if_pos ⟨h2, .inl rfl⟩]
theorem fi_huE {s : Int} (h : s ≠ 2) (h2 : s % 2 = 0) : firstM s "half_up" = "half_up" := by
  unfold firstM
  rw [if_neg (by omega), if_neg (fun z => hu_hd z.2), if_neg (fun z => h z.1), if_neg (fun z => by have := z.1; omega)]
theorem fi_heO {s : Int} (h : s ≠ 1) (h2 : s % 2 = 1) : firstM s "half_even" = "half_down" := by
  unfold firstM
  rw [if_neg h, if_neg (fun z => he_hd z.2), if_neg (fun z => he_hu z.2), if_pos ⟨h2, .inr rfl⟩]
theorem fi_heE {s : Int} (h2 : s % 2 = 0) : firstM s "half_even" = "half_even" := by
  unfold firstM
  rw [if_neg (by omega), if_neg (fun z => he_hd z.2), if_neg (fun z => he_hu z.2), if_neg (fun z => by have := z.1; omega)]
/-- what is known of the first mode -/
structure FirstP (s : Int) (m : Str) : Prop where
  md : Mode (firstM s m)
  id : firstM s (firstM s m) = firstM s m
  od : ordM (firstM s m) ≤ ordM m
  go : ∀ q r, 0 ≤ r → r < s → goesUp (firstM s m) s q r = goesUp m s q r
  ev : firstM s m = "half_even" → s % 2 = 0
theorem first_ok {s : Int} {m : Str} (h : Mode m) (hs : 1 ≤ s) : FirstP s m := by
  have D : Mode "down" := .inl rfl
  have U : Mode "up" := .inr (.inl rfl)
  have HD : Mode "half_down" := .inr (.inr (.inl rfl))
  by_cases s1 : s = 1
  · subst s1
    refine ⟨by rw [fi_one]; exact D, by rw [fi_one, fi_one], by rw [fi_one, ord_d]; omega, fun q r r0 r1 => ?_, by rw [fi_one]; exact fun z => (dn_he z).elim⟩
    have : r = 0 := by omega
    subst this
    rw [fi_one, go_zero D (by decide), go_zero h (by decide)]
  rcases h with e | e | e | e | e <;> subst e
  · exact ⟨by rw [fi_d]; exact D, by rw [fi_d, fi_d], by rw [fi_d]; omega, fun q r _ _ => by rw [fi_d], by rw [fi_d]; exact fun z => (dn_he z).elim⟩
  · exact ⟨by rw [fi_u s1]; exact U, by rw [fi_u s1, fi_u s1], by rw [fi_u s1]; omega, fun q r _ _ => by rw [fi_u s1], by rw [fi_u s1]; exact fun z => (u_he z).elim⟩
  · by_cases s2 : s = 2
    · subst s2
      refine ⟨by rw [fi_hd2]; exact D, by rw [fi_hd2, fi_d], by rw [fi_hd2, ord_d]; omega, fun q r r0 r1 => ?_, by rw [fi_hd2]; exact fun z => (dn_he z).elim⟩
      rw [fi_hd2, go_down, go_hd, decide_eq_false (by omega)]
    · exact ⟨by rw [fi_hd s1 s2]; exact HD, by rw [fi_hd s1 s2, fi_hd s1 s2], by rw [fi_hd s1 s2]; omega, fun q r _ _ => by rw [fi_hd s1 s2], by rw [fi_hd s1 s2]; exact fun z => (hd_e z).elim⟩
  · by_cases s2 : s = 2
    · subst s2
      refine ⟨by rw [fi_hu2]; exact U, by rw [fi_hu2, fi_u s1], by rw [fi_hu2, ord_u, ord_hu]; omega, fun q r r0 r1 => ?_, by rw [fi_hu2]; exact fun z => (u_he z).elim⟩
      rw [fi_hu2, go_up, go_hu]
      exact decide_eq_decide.mpr (by omega)
    · by_cases od : s % 2 = 1
      · refine ⟨by rw [fi_huO s1 od]; exact HD, by rw [fi_huO s1 od, fi_hd s1 s2], by rw [fi_huO s1 od, ord_hd, ord_hu]; omega, fun q r r0 r1 => ?_, by rw [fi_huO s1 od]; exact fun z => (hd_e z).elim⟩
        rw [fi_huO s1 od, go_hd, go_hu]
        exact decide_eq_decide.mpr (by omega)
      · have ev : s % 2 = 0 := by omega
        exact ⟨by rw [fi_huE s2 ev]; exact .inr (.inr (.inr (.inl rfl))), by rw [fi_huE s2 ev, fi_huE s2 ev], by rw [fi_huE s2 ev]; omega, fun q r _ _ => by rw [fi_huE s2 ev], by rw [fi_huE s2 ev]; exact fun z => (hu_e z).elim⟩
  · by_cases od : s % 2 = 1
    · refine ⟨by rw [fi_heO s1 od]; exact HD, by rw [fi_heO s1 od, fi_hd s1 (by omega)], by rw [fi_heO s1 od, ord_hd, ord_he]; omega, fun q r r0 r1 => ?_, by rw [fi_heO s1 od]; exact fun z => (hd_e z).elim⟩
      rw [fi_heO s1 od, go_hd, go_he, decide_eq_false (show ¬ 2 * r = s by omega), Bool.false_and, Bool.or_false]
    · have ev : s % 2 = 0 := by omega
      exact ⟨by rw [fi_heE ev]; exact .inr (.inr (.inr (.inr rfl))), by rw [fi_heE ev, fi_heE ev], by rw [fi_heE ev]; omega, fun q r _ _ => by rw [fi_heE ev], fun _ => ev⟩
theorem go_shift {m : Str} {s q r j : Int} (h : Mode m) (hj : m ≠ "half_even" ∨ j % 2 = 0) : goesUp m s (q + j) r = goesUp m s q r := by
  rcases h with e | e | e | e | e <;> subst e
  · rw [go_down, go_down]
  · rw [go_up, go_up]
  · rw [go_hd, go_hd]
  · rw [go_hu, go_hu]
  · have z : j % 2 = 0 := hj.resolve_left (fun z => z rfl)
    rw [go_he, go_he, show (q + j) % 2 = q % 2 by omega]
/-- an offset moved by whole steps, by two of them for the even -/
theorem due_shift {o s j : Int} {m : Str} {v : Int} (h : Mode m) (hs : 1 ≤ s) (hj : m ≠ "half_even" ∨ j % 2 = 0) : dueM (o + s * j) s m v = dueM o s m v := by
  have F := fig_of (o := o + s * j) (m := m) (v := v) hs
  generalize (v - (o + s * j)) / s = q at F
  generalize (v - (o + s * j)) % s = r at F
  generalize hk : figM (o + s * j) s m v = k at F
  obtain ⟨eq, r0, r1, wh⟩ := F
  have e : figM o s m v = k + j := by
    refine fig_uniq (q := q + j) (r := r) hs ⟨by rw [Int.mul_add]; omega, r0, r1, ?_⟩
    rw [go_shift h hj]
    rcases wh with ⟨g, e⟩ | ⟨g, e⟩
    · exact .inl ⟨g, by omega⟩
    · exact .inr ⟨g, by omega⟩
  unfold dueM
  rw [e, hk, Int.mul_add]
  omega
theorem due_go {o s : Int} {m m' : Str} {v : Int} (hs : 1 ≤ s) (h : ∀ q r, 0 ≤ r → r < s → goesUp m s q r = goesUp m' s q r) : dueM o s m v = dueM o s m' v := by
  unfold dueM figM
  rw [h _ _ (Int.emod_nonneg _ (by omega)) (Int.emod_lt_of_pos _ (by omega))]
theorem due_form {o s : Int} {m : Str} (v : Int) (h : Mode m) (hs : 1 ≤ s) : dueM (formO o s (firstM s m)) s (firstM s m) v = dueM o s m v := by
  have P := first_ok h hs
  rw [← due_go hs P.go]
  unfold formO
  by_cases e : firstM s m = "half_even"
  · rw [if_pos e]
    have a := Int.mul_ediv_add_emod o (2 * s)
    have b : o % (2 * s) = o + s * (-(2 * (o / (2 * s)))) := by
      rw [Int.mul_neg, ← Int.mul_assoc, Int.mul_comm s 2]
      omega
    rw [b]
    exact due_shift P.md hs (.inr (by omega))
  · rw [if_neg e]
    have a := Int.mul_ediv_add_emod o s
    have b : o % s = o + s * (-(o / s)) := by
      rw [Int.mul_neg]
      omega
    rw [b]
    exact due_shift P.md hs (.inl e)
theorem form_bd {o s : Int} {f : Str} (hs : 1 ≤ s) : 0 ≤ formO o s f ∧ formO o s f < 2 * s ∧ (f ≠ "half_even" → formO o s f < s) := by
  unfold formO
  by_cases e : f = "half_even"
  · rw [if_pos e]
    exact ⟨Int.emod_nonneg _ (by omega), Int.emod_lt_of_pos _ (by omega), fun z => absurd e z⟩
  · rw [if_neg e]
    have := Int.emod_lt_of_pos o (show 0 < s by omega)
    exact ⟨Int.emod_nonneg _ (by omega), by omega, fun _ => this⟩
theorem form_idem {o s : Int} {f : Str} : formO (formO o s f) s f = formO o s f := by
  unfold formO
  by_cases e : f = "half_even"
  · rw [if_pos e, if_pos e, Int.emod_emod_of_dvd _ (Int.dvd_refl _)]
  · rw [if_neg e, if_neg e, Int.emod_emod_of_dvd _ (Int.dvd_refl _)]
/-- a value told by its figure and rest -/
theorem due_at {o s q r : Int} {m : Str} (hs : 1 ≤ s) (r0 : 0 ≤ r) (r1 : r < s) : dueM o s m (o + s * q + r) = o + s * q + (if goesUp m s q r = true then s else 0) := by
  unfold dueM
  by_cases g : goesUp m s q r = true
  · rw [fig_uniq (q := q) (r := r) (k := q + 1) hs ⟨by omega, r0, r1, .inl ⟨g, rfl⟩⟩, if_pos g, Int.mul_add]
    omega
  · have g' : goesUp m s q r = false := by cases h : goesUp m s q r <;> simp_all
    rw [fig_uniq (q := q) (r := r) (k := q) hs ⟨by omega, r0, r1, .inr ⟨g', rfl⟩⟩, if_neg g]
    omega
end HT
namespace HT
open PySem L2
section
variable {P : Program} {w : World} {K : PySem.W.Frag} {mg : Str → Option Value} {base : Heap} {aM fI fB fV fC fG fF : Addr} {dI dB dV dC dG dF : FuncData}
end
end HT
namespace HT
open PySem L2
structure MirT (K : PySem.W.Frag) (w : World) (mg : Str → Option Value) (aR : Addr) : Prop where
  gR : mg "MIRRORED" = some (.ref aR)
  dR : ∀ m, Mode m → KDct K w aR m (.str (mir m))
def BdK (x : Int) : Prop := -2 ^ 720 < x ∧ x < 2 ^ 720
def spBelow : Sp := fun vs H Q _ => ∃ (m : Str) (s k : Int), vs = [.str m, .int s, .int k] ∧ Mode m ∧ Q (.int (below m s k)) H
def spSpan : Sp := fun vs H Q _ => ∃ (p : Addr) (o s : Int) (m : Str) (k : Int), vs = [.ref p, .int k] ∧ H p = some (sideV o s m) ∧ SideP o s m ∧ BdK k ∧
  ∀ (d : Addr) (H' : Hp), Same H H' → H d = none → H' d = some (.tup [.int (lowM o s m k), .int (highM o s m k)]) → Q (.ref d) H'
def spBack : Sp := fun vs H Q _ => ∃ (p : Addr) (o s : Int) (m : Str) (v : Int), vs = [.ref p, .int v] ∧ H p = some (sideV o s m) ∧ SideP o s m ∧ -2 ^ 700 < v ∧ v < 2 ^ 700 ∧
  ∀ H' : Hp, Same H H' → Q (.int (backM o s m v)) H'
theorem bdK_bd {x : Int} (h : BdK x) : Bd x := by
  unfold BdK at h
  unfold Bd
  omega
section
variable {P : Program} {w : World} {K : PySem.W.Frag} {mg : Str → Option Value} {base : Heap} {aM aR fV fC fB fS : Addr} {dV dC dB dS : FuncData}
theorem ok_below {f : Addr} {fd : FuncData} (F : Fun K "_below" "_below" s_below f fd) : FnOk P w K mg base CX0 1 f fd ["mode", "step", "figure"] spBelow := by
  refine F.ok sc_below (fun vs H Q E h => ?_) (fun cdv A outer s H vs Q E hr h => ?_)
  · obtain ⟨m, s, k, rfl, _⟩ := h
    rfl
  · obtain ⟨m, s, k, rfl, hm, q⟩ := h
    refine ⟨_, pss_cons (ps_if (pt_cmpR op_eq (pv 0) pe_str (nomark _)) (pss_one (ps_ret pe_int)) pss_nil)
      (pss_cons (ps_if (pt_cmpR op_eq (pv 0) pe_str (nomark _)) (pss_one (ps_ret (pe_op op_sub (pv 1) pe_int))) pss_nil)
      (pss_cons (ps_if (PW.pt (pw_or (pt_cmpR op_eq (pv 0) pe_str (nomark _)) (pw_or1 (PW.pt (pw_and (pt_cmpR op_eq (pv 0) pe_str (nomark _)) (pw_and1 (pt_cmpR op_eq (pe_op op_mod (pv 2) pe_int) pe_int (nomark _)))))))) (pss_one (ps_ret (pe_op op_fdiv (pv 1) pe_int))) pss_nil)
      (pss_one (ps_ret (pe_op op_fdiv (pe_op op_sub (pv 1) pe_int) pe_int))))), ?_⟩
    have d2 : ∀ (i : Int), CDiv i 2 := fun _ => ⟨by decide, by decide⟩
    unfold below at q
    walk_at "rd"
    refine ⟨rfl, ?_⟩
    walk_at "rd"
    refine ite2 (fun h => ?_) (fun h1 => ?_)
    · rw [if_pos (str_t h)] at q
      walk_at "rd"
      exact q
    rw [if_neg (str_f h1)] at q
    walk_at "rd"
    refine ⟨rfl, ?_⟩
    walk_at "rd"
    refine ite2 (fun h => ?_) (fun h2 => ?_)
    · rw [if_pos (str_t h)] at q
      walk_at "rd"
      exact q
    rw [if_neg (str_f h2)] at q
    walk_at "rd"
    refine ⟨rfl, ?_⟩
    walk_at "rd"
    refine ite2 (fun h => ?_) (fun h3 => ?_)
    · rw [if_pos (.inl (str_t h))] at q
      walk_at "rd"
      refine ⟨d2 _, ?_⟩
      walk_at "rd"
      exact q
    walk_at "rd"
    refine ⟨rfl, ?_⟩
    walk_at "rd"
    refine ite2 (fun h => ?_) (fun h4 => ?_)
    · walk_at "rd"
      refine ⟨(by show (0 : Int) < 2; decide), ?_⟩
      walk_at "rd"
      refine ⟨rfl, ?_⟩
      walk_at "rd"
      refine ite2 (fun g => ?_) (fun g => ?_)
      · rw [if_pos (.inr ⟨str_t h, int_t g⟩)] at q
        walk_at "rd"
        refine ⟨d2 _, ?_⟩
        walk_at "rd"
        exact q
      · rw [if_neg (by rintro (z | ⟨_, z⟩); exact str_f h3 z; exact int_f g z)] at q
        walk_at "rd"
        refine ⟨d2 _, ?_⟩
        walk_at "rd"
        exact q
    · rw [if_neg (by rintro (z | ⟨z, _⟩); exact str_f h3 z; exact str_f h4 z)] at q
      walk_at "rd"
      refine ⟨d2 _, ?_⟩
      walk_at "rd"
      exact q
end
end HT
namespace HT
open PySem L2
section
variable {P : Program} {w : World} {K : PySem.W.Frag} {mg : Str → Option Value} {base : Heap}
/-- both promises of a def -/
theorem or_ok {CX : CXT} {k : Nat} {f : Addr} {fd : FuncData} {ps : List Str} {sp sp' : Sp} (F : FnOk P w K mg base CX k f fd ps sp) (G : FnOk P w K mg base CX k f fd ps sp') : FnOk P w K mg base CX k f fd ps (fun vs H Q E => sp vs H Q E ∨ sp' vs H Q E) :=
  ⟨fun vs H Q E h => h.elim (F.len vs H Q E) (G.len vs H Q E), fun A outer s H args us vs Q E hr he hb hv hs => hs.elim (F.run A outer s H args us vs Q E hr he hb hv) (G.run A outer s H args us vs Q E hr he hb hv)⟩
end
end HT
namespace HT
open PySem L2
section
variable {P : Program} {w : World} {K : PySem.W.Frag} {mg : Str → Option Value} {base : Heap}
/-- a def that lets nothing out keeps its promise among errors too -/
theorem to_x {k : Nat} {f : Addr} {fd : FuncData} {ps : List Str} {sp : Sp} (F : FnOk P w K mg base CX0 k f fd ps sp) : FnOk P w K mg base (L2.CX P w) k f fd ps sp :=
  ⟨F.len, fun A outer s H args us vs Q E hr he hb hv hs => codeAny_mono (F.run A outer s H args us vs Q E hr he hb hv hs) fun r s' h => by
    unfold CR at h ⊢
    split at h
    · exact h
    · exact h
    · exact h.elim⟩
def spNo : Sp := fun _ _ _ _ => False
end
end HT
namespace HT
open PySem L2
/-- a thing of any kind, with its type's name -/
inductive Th (H : Hp) : V → String → Prop where
  | int (i : Int) : Th H (.int i) "int"
  | bl (b : Bool) : Th H (.bl b) "bool"
  | non : Th H .non "NoneType"
  | str (s : Str) : Th H (.str s) "str"
  | tup {p : Addr} {xs : List V} (h : H p = some (.tup xs)) : Th H (.ref p) "tuple"
  | lst {p : Addr} {xs : List V} (h : H p = some (.lst xs)) : Th H (.ref p) "list"
  | dk {p : Addr} {kvs : List (Key × V)} (h : H p = some (.dK kvs)) : Th H (.ref p) "dict"
theorem Th.ty {K : PySem.W.Frag} {H : Hp} {x : V} {n : String} (t : Th H x n) : TyX K H x (.type n) := by
  cases t with
  | int i => exact .base (.int i)
  | bl b => exact .base (.bl b)
  | non => exact .base .non
  | str s => exact .base (.str s)
  | tup h => exact .base (.tup h)
  | lst h => exact .base (.lst h)
  | dk h => exact .base (.dK h)
theorem Th.kint {K : PySem.W.Frag} {H : Hp} {x : V} {n : String} (t : Th H x n) : PySem.W.kitOne K (.type n) (.type "int") = some (n == "int" || n == "bool") := by
  cases t <;> exact kit_ty (by decide +kernel)
theorem Th.kbool {K : PySem.W.Frag} {H : Hp} {x : V} {n : String} (t : Th H x n) : PySem.W.kitOne K (.type n) (.type "bool") = some (n == "bool") := by
  cases t <;> exact kit_ty (by decide +kernel)
theorem Th.ktup {K : PySem.W.Frag} {H : Hp} {x : V} {n : String} (t : Th H x n) : PySem.W.kitOne K (.type n) (.type "tuple") = some (n == "tuple") := by
  cases t <;> exact kit_ty (by decide +kernel)
theorem Th.klst {K : PySem.W.Frag} {H : Hp} {x : V} {n : String} (t : Th H x n) : PySem.W.kitOne K (.type n) (.type "list") = some (n == "list") := by
  cases t <;> exact kit_ty (by decide +kernel)
theorem Th.same {H H' : Hp} {x : V} {n : String} (t : Th H x n) (s : Same H H') : Th H' x n := by
  cases t with
  | int i => exact .int i
  | bl b => exact .bl b
  | non => exact .non
  | str x => exact .str x
  | tup h => exact .tup (s _ _ h)
  | lst h => exact .lst (s _ _ h)
  | dk h => exact .dk (s _ _ h)
def isI (n : String) : Bool := n == "int"
def spIsAny : Sp := fun vs H Q _ => ∃ (x : V) (n : String), vs = [x] ∧ Th H x n ∧ Q (.bl (isI n)) H
/-- an int between the ends -/
def inB (x : V) (a b : Int) : Bool := match x with
  | .int i => decide (a ≤ i) && decide (i ≤ b)
  | _ => false
def spBetAny : Sp := fun vs H Q _ => ∃ (x : V) (n : String) (a b : Int), vs = [x, .int a, .int b] ∧ Th H x n ∧ Q (.bl (inB x a b)) H
/-- the names that the text of checks does not bind -/
structure ChkT (mg : Str → Option Value) : Prop where
  isi : mg "isinstance" = none
  int : mg "int" = none
  bool : mg "bool" = none
  tuple : mg "tuple" = none
  list : mg "list" = none
  len : mg "len" = none
section
variable {P : Program} {w : World} {K : PySem.W.Frag} {mg : Str → Option Value} {base : Heap} {fI : Addr} {dI : FuncData}
theorem ok_is_any {f : Addr} {fd : FuncData} (F : Fun K "is_int" "is_int" s_is_int f fd) (T : ChkT mg) : FnOk P w K mg base CX0 1 f fd ["thing"] spIsAny := by
  refine F.ok sc_is_int (fun vs H Q E h => ?_) (fun cdv A outer s H vs Q E hr h => ?_)
  · obtain ⟨x, n, rfl, _⟩ := h
    rfl
  · obtain ⟨x, n, rfl, t, q⟩ := h
    refine ⟨_, pss_one (ps_ret (pe_and (pe_callB call_isi (by rfl) T.isi (by decide +kernel) (pa_cons (pv 0) (pa_cons (pe_bltn (v := .ty "int") (by rfl) T.int (by decide +kernel) rfl) pa_nil)))
      (pe_one (pe_not (pe_callB call_isi (by rfl) T.isi (by decide +kernel) (pa_cons (pv 0) (pa_cons (pe_bltn (v := .ty "bool") (by rfl) T.bool (by decide +kernel) rfl) pa_nil))))))), ?_⟩
    walk_at "rd"
    refine ⟨_, _, _, _, _, rfl, .ty "int", t.ty, t.kint, ?_⟩
    walk_at "rd"
    refine ite2 (fun h => ?_) (fun h => ?_)
    · walk_at "rd"
      refine ⟨_, _, _, _, _, rfl, .ty "bool", t.ty, t.kbool, ?_⟩
      walk_at "rd"
      have e : (!(n == "bool")) = isI n := by
        cases t <;> first | rfl | exact absurd h (by decide)
      rw [e]
      exact q
    · have e : isI n = false := by
        cases t <;> first | rfl | exact absurd (by decide) h
      rw [e] at q
      exact q
theorem ok_bet_any {f : Addr} {fd : FuncData} (F : Fun K "is_int_between" "is_int_between" s_is_int_between f fd) (I : Cal P w K mg base "is_int" 1 ["thing"] spIsAny fI dI) : FnOk P w K mg base CX0 2 f fd ["thing", "least", "most"] spBetAny := by
  refine F.ok sc_is_int_between (fun vs H Q E h => ?_) (fun cdv A outer s H vs Q E hr h => ?_)
  · obtain ⟨x, n, a, b, rfl, _⟩ := h
    rfl
  · obtain ⟨x, n, a, b, rfl, t, q⟩ := h
    refine ⟨_, pss_one (ps_ret (pe_and (pcl I hr (by decide) (by rfl) (pa_cons (pv 0) pa_nil)) (pe_one (pe_chain op_le op_le (pv 1) (pv 0) (pv 2))))), ?_⟩
    walk_at "rd"
    refine ⟨x, n, rfl, t, ?_⟩
    cases t with
    | int i =>
      walk_at "rd"
      refine ite2 (fun h => ?_) (fun h => ?_)
      · walk_at "rd"
        change Q (.bl (decide (a ≤ i) && decide (i ≤ b))) H at q
        rw [decide_eq_true (of_decide_eq_true h)] at q
        exact q
      · change Q (.bl (decide (a ≤ i) && decide (i ≤ b))) H at q
        rw [decide_eq_false (of_decide_eq_false (by simpa using h))] at q
        exact q
    | _ => exact ⟨_, rfl, q⟩
end
end HT
namespace HT
open PySem L2
def modesD : List PyData := [.str "down", .str "up", .str "half_down", .str "half_up", .str "half_even"]
/-- a mode's place is taken by something else -/
def NoMode (d : PyData) : Prop := SeqAt.shaped d = true ∧ (modesD.any fun z => PyData.eqv z d) = false
/-- the four classes by number, and their base class at B -/
structure Er (K : PySem.W.Frag) (mg : Str → Option Value) (C : Nat → Addr) (B : Addr) : Prop where
  isi : mg "isinstance" = none
  ve : mg "ValueError" = none
  gB : mg "HandedError" = some (.ref B)
  g0 : mg "InvalidSide" = some (.ref (C 0))
  g1 : mg "InvalidSides" = some (.ref (C 1))
  g2 : mg "TooMany" = some (.ref (C 2))
  g3 : mg "InvalidValue" = some (.ref (C 3))
  g4 : mg "InvalidSeen" = some (.ref (C 4))
  kit : ∀ i j, i < 5 → j < 5 → PySem.W.kitOne K (.ref (C i)) (.ref (C j)) = some (decide (i = j))
  kitV : ∀ i, i < 5 → PySem.W.kitOne K (.ref (C i)) (.type "ValueError") = some true
  ec : ∀ i, i < 5 → ErrC K (C i)
  eg : ErrG K
  ex : ∀ i, i < 5 → PySem.W.excIn K (C i) [.type "ValueError", .type "Exception", .type "BaseException", .type "object"] "ValueError.__new__" = true
  kp : ∀ i, i < 5 → PySem.W.keepIn K (.ref (C i)) = true
  sb : ∀ i, i < 5 → PySem.W.subIn K (.ref (C i)) (.type "BaseException") = some true
  ty : ∀ i, i < 5 → PySem.W.typeIn K (.ref (C i)) = some (.type "type")
  emB : ∀ i, i < 5 → PySem.W.exmOne K (.ref (C i)) (.ref B) = some true
  em0 : PySem.W.exmOne K (.ref (C 0)) (.ref (C 0)) = some true
/-- flat data, and a list of one text -/
inductive Fl (H : Hp) : V → PyData → Prop where
  | non : Fl H .non .none
  | bl (b : Bool) : Fl H (.bl b) (.bool b)
  | int (i : Int) : Fl H (.int i) (.int i)
  | str (s : Str) : Fl H (.str s) (.str s)
  | one {l : Addr} {s : Str} (h : H l = some (.lst [.str s])) : Fl H (.ref l) (.list [.str s])
theorem Fl.dp {K : PySem.W.Frag} {H : Hp} {c : V} {d : PyData} (f : Fl H c d) : Dp K H c d := by
  cases f with
  | non => exact .non
  | bl b => exact .bl b
  | int i => exact .int i
  | str s => exact .str s
  | one h => exact .lst (SqL.of h) (.cons (.str _) .nil)
theorem Fl.same {H H' : Hp} {c : V} {d : PyData} (f : Fl H c d) (s : Same H H') : Fl H' c d := by
  cases f with
  | non => exact .non
  | bl b => exact .bl b
  | int i => exact .int i
  | str x => exact .str x
  | one h => exact .one (s _ _ h)
/-- no side -/
inductive BadS (K : PySem.W.Frag) (H : Hp) : V → Prop where
  | kind {x : V} {n : String} (t : Th H x n) (h : (n == "tuple") = false) : BadS K H x
  | len {p : Addr} {xs : List V} (hp : H p = some (.tup xs)) (h : ¬ xs.length = 3) : BadS K H (.ref p)
  | off {p : Addr} {a b c : V} {n : String} (hp : H p = some (.tup [a, b, c])) (t : Th H a n) (h : inB a (-10 ^ 40) (10 ^ 40) = false) : BadS K H (.ref p)
  | stp {p : Addr} {a b c : V} {n m : String} (hp : H p = some (.tup [a, b, c])) (t : Th H a n) (h : inB a (-10 ^ 40) (10 ^ 40) = true) (u : Th H b m) (g : inB b 1 (10 ^ 30) = false) : BadS K H (.ref p)
  | mod {p : Addr} {a b c : V} {n m : String} {d : PyData} (hp : H p = some (.tup [a, b, c])) (t : Th H a n) (h : inB a (-10 ^ 40) (10 ^ 40) = true) (u : Th H b m) (g : inB b 1 (10 ^ 30) = true) (dp : Fl H c d) (hd : NoMode d) : BadS K H (.ref p)
theorem BadS.same {K : PySem.W.Frag} {H H' : Hp} {x : V} (b : BadS K H x) (e : Same H H') : BadS K H' x := by
  cases b with
  | kind t h => exact .kind (t.same e) h
  | len hp h => exact .len (e _ _ hp) h
  | off hp t h => exact .off (e _ _ hp) (t.same e) h
  | stp hp t h u g => exact .stp (e _ _ hp) (t.same e) h (u.same e) g
  | mod hp t h u g dp hd => exact .mod (e _ _ hp) (t.same e) h (u.same e) g (dp.same e) hd
def GoodS (H : Hp) (x : V) : Prop := ∃ (p : Addr) (o s : Int) (m : Str), x = .ref p ∧ H p = some (sideV o s m) ∧ SideP o s m
def spValX (C : Nat → Addr) : Sp := fun vs H Q E => ∃ (x : V) (n : String), vs = [x] ∧ Th H x n ∧ (isI n = true → Q .non H) ∧ (isI n = false → E (.ref (C 3)) none H)
def spSideX (K : PySem.W.Frag) (C : Nat → Addr) : Sp := fun vs H Q E => ∃ x : V, vs = [x] ∧ ((GoodS H x ∧ Q .non H) ∨ (BadS K H x ∧ E (.ref (C 0)) none H))
def rNotInT (K : PySem.W.Frag) : R2 := fun x y H Q => ∃ d ds, Dp K H x d ∧ Dp K H y (.tuple ds) ∧ SeqAt.shaped d = true ∧ PyData.canLayAll0 ds = true ∧ PyData.depthAll ds ≤ 60 ∧ Q (.bl (!ds.any fun z => PyData.eqv z d)) H
theorem op_notInT {X : Cx} (hu : X.A.units + 64 < cLine) : OpR X (compareOp .NotIn) (rNotInT X.K) := by
  intro pins sh st H x y v u Q iv rx ry h
  obtain ⟨d, ds, hd, he, sd, se, sz, q⟩ := h
  obtain ⟨as, r1⟩ := Dp.reads iv d x v hd rx
  obtain ⟨bs, r2⟩ := Dp.reads iv (.tuple ds) y u he ry
  refine SeqAt.notIn_tuple_reads r2 r1 se (SeqAt.canLay_of_shaped sd) ?_ ⟨.bl _, H, iv, rfl, q⟩
  have : min (PyData.depthAll ds) d.depth ≤ PyData.depthAll ds := Nat.min_le_left _ _
  omega
/-- the table of modes -/
structure ModT (K : PySem.W.Frag) (mg : Str → Option Value) (aM : Addr) : Prop where
  gM : mg "MODES" = some (.ref aM)
  tM : ∀ H, SqT K H aM modesV
theorem dpModes {K : PySem.W.Frag} {H : Hp} {aM : Addr} (t : SqT K H aM modesV) : Dp K H (.ref aM) (.tuple modesD) := .tup t (.cons (.str _) (.cons (.str _) (.cons (.str _) (.cons (.str _) (.cons (.str _) .nil)))))
theorem mode_inX {m : Str} (h : Mode m) : SeqAt.shaped (.str m) = true ∧ (modesD.any fun z => PyData.eqv z (.str m)) = true := by
  rcases h with e | e | e | e | e <;> subst e <;> decide +kernel
section
variable {P : Program} {w : World} {K : PySem.W.Frag} {mg : Str → Option Value} {base : Heap} {aM fI fB fV fC fL fN fW B : Addr} {dI dB dV dC dL dN dW : FuncData} {C : Nat → Addr}
theorem ok_val_x {f : Addr} {fd : FuncData} (F : Fun K "check_value" "check_value" s_check_value f fd) (R : Er K mg C B) (I : Cal P w K mg base "is_int" 1 ["thing"] spIsAny fI dI) : FnOk P w K mg base (L2.CX P w) 2 f fd ["value"] (spValX C) := by
  refine F.okX sc_check_value (fun vs H Q E h => ?_) (fun cdv A outer s H vs Q E hr h => ?_)
  · obtain ⟨x, n, rfl, _⟩ := h
    rfl
  · obtain ⟨x, n, rfl, t, q1, q2⟩ := h
    refine ⟨_, pss_one (ps_if (pt_not (pt_val (pcl I hr (by decide) (by rfl) (pa_cons (pv 0) pa_nil)))) (pss_one (ps_raise rfl (takes_of rfl rfl rfl rfl) (pmk_own PySem.F.excBase_ValueError (R.ex 3 (by decide)) R.g3 (R.kp 3 (by decide)) (raises_own (R.sb 3 (by decide)) (R.ty 3 (by decide))) (by rfl)))) pss_nil), ?_⟩
    walk_at "rd"
    refine ⟨x, n, rfl, t, ?_⟩
    walk_at "rd"
    refine ite2 (fun h => ?_) (fun h => ?_)
    · exact q2 (by simpa using h)
    · exact q1 (not_f h)
end
end HT
namespace HT
open PySem L2
section
variable {P : Program} {w : World} {K : PySem.W.Frag} {mg : Str → Option Value} {base : Heap} {aM fI fB fV fC fL fN fW B : Addr} {dI dB dV dC dL dN dW : FuncData} {C : Nat → Addr}
theorem ok_side_x {f : Addr} {fd : FuncData} (F : Fun K "check_side" "check_side" s_check_side f fd) (T : ChkT mg) (M : ModT K mg aM) (R : Er K mg C B) (Bt : Cal P w K mg base "is_int_between" 2 ["thing", "least", "most"] spBetAny fB dB) : FnOk P w K mg base (L2.CX P w) 3 f fd ["side"] (spSideX K C) := by
  refine F.okAny sc_check_side (fun vs H Q E h => ?_) (fun cdv A outer s0 H vs Q E hr h => ?_)
  · obtain ⟨x, rfl, _⟩ := h
    rfl
  · obtain ⟨x, rfl, h⟩ := h
    have nd := sc_check_side.nd
    refine ⟨_, pss_cons (ps_if (PW.pt (pw_or (pt_not (pt_val (pe_callB call_isi (by rfl) T.isi (by decide +kernel) (pa_cons (pv 0) (pa_cons (pe_bltn (v := .ty "tuple") (by rfl) T.tuple (by decide +kernel) rfl) pa_nil)))))
        (pw_or1 (pt_cmpR op_ne (pe_callB call_len_seq (by rfl) T.len PySem.boot_len (pa_cons (pv 0) pa_nil)) pe_int (nomark _))))) (pss_one (ps_raise rfl (takes_of rfl rfl rfl rfl) (pmk_own PySem.F.excBase_ValueError (R.ex 0 (by decide)) R.g0 (R.kp 0 (by decide)) (raises_own (R.sb 0 (by decide)) (R.ty 0 (by decide))) (by rfl)))) pss_nil)
      (pss_cons (ps_asg (pv 0) (pg_tup (by rfl) (pgs_cons (pg_name (i := 1) nd rfl (Or.inl rfl)) (pgs_cons (pg_name (i := 2) nd rfl (Or.inl rfl)) (pgs_cons (pg_name (i := 3) nd rfl (Or.inl rfl)) pgs_nil)))))
      (pss_cons (ps_if (pt_not (pt_val (pcl Bt hr (by decide) (by rfl) (pa_cons (pv 1) (pa_cons (pe_un un_neg (pe_op op_pow pe_int pe_int)) (pa_cons (pe_op op_pow pe_int pe_int) pa_nil)))))) (pss_one (ps_raise rfl (takes_of rfl rfl rfl rfl) (pmk_own PySem.F.excBase_ValueError (R.ex 0 (by decide)) R.g0 (R.kp 0 (by decide)) (raises_own (R.sb 0 (by decide)) (R.ty 0 (by decide))) (by rfl)))) pss_nil)
      (pss_cons (ps_if (pt_not (pt_val (pcl Bt hr (by decide) (by rfl) (pa_cons (pv 2) (pa_cons pe_int (pa_cons (pe_op op_pow pe_int pe_int) pa_nil)))))) (pss_one (ps_raise rfl (takes_of rfl rfl rfl rfl) (pmk_own PySem.F.excBase_ValueError (R.ex 0 (by decide)) R.g0 (R.kp 0 (by decide)) (raises_own (R.sb 0 (by decide)) (R.ty 0 (by decide))) (by rfl)))) pss_nil)
      (pss_one (ps_if (pt_cmpR (op_notInT hr.units) (pv 3) (pe_glob (v := .ref aM) (by rfl) M.gM rfl) (by rfl)) (pss_one (ps_raise rfl (takes_of rfl rfl rfl rfl) (pmk_own PySem.F.excBase_ValueError (R.ex 0 (by decide)) R.g0 (R.kp 0 (by decide)) (raises_own (R.sb 0 (by decide)) (R.ty 0 (by decide))) (by rfl)))) pss_nil))))), ?_⟩
    walk_at "rd"
    rcases h with ⟨⟨p, o, s, m, rfl, hp, S⟩, q⟩ | ⟨bad, q⟩
    · refine ⟨_, _, _, _, _, rfl, .ty "tuple", .base (.tup hp), kit_ty (r := true) (by decide +kernel), ?_⟩
      walk_at "rd"
      refine ⟨p, _, rfl, .inr (SqT.of hp), rfl, ?_⟩
      walk_at "rd"
      refine ⟨p, _, rfl, SqT.of hp, rfl, _, _, rfl, _, _, rfl, _, _, rfl, rfl, ?_⟩
      walk_at "rd"
      refine ⟨⟨by decide, by decide, by decide⟩, ?_⟩
      walk_at "rd"
      refine ⟨⟨by decide, by decide, by decide⟩, _, _, _, _, rfl, .int o, ?_⟩
      have e1 : inB (.int o) (-(10 : Int) ^ (40 : Int).toNat) ((10 : Int) ^ (40 : Int).toNat) = true := by
        show (decide (-(10 : Int) ^ (40 : Int).toNat ≤ o) && decide (o ≤ (10 : Int) ^ (40 : Int).toNat)) = true
        rw [decide_eq_true (show -(10 : Int) ^ (40 : Int).toNat ≤ o from S.o0), decide_eq_true (show o ≤ (10 : Int) ^ (40 : Int).toNat from S.o1)]
        rfl
      refine ⟨_, rfl, ?_⟩
      refine ite2 (fun h => (not_t h e1).elim) (fun _ => ?_)
      walk_at "rd"
      refine ⟨⟨by decide, by decide, by decide⟩, _, _, _, _, rfl, .int s, ?_⟩
      have e2 : inB (.int s) 1 ((10 : Int) ^ (30 : Int).toNat) = true := by
        show (decide ((1 : Int) ≤ s) && decide (s ≤ (10 : Int) ^ (30 : Int).toNat)) = true
        rw [decide_eq_true S.s0, decide_eq_true (show s ≤ (10 : Int) ^ (30 : Int).toNat from S.s1)]
        rfl
      refine ⟨_, rfl, ?_⟩
      refine ite2 (fun h => (not_t h e2).elim) (fun _ => ?_)
      walk_at "rd"
      refine ⟨_, _, .str m, dpModes (M.tM H), (mode_inX S.md).1, by decide +kernel, by decide +kernel, ?_⟩
      walk_at "rd"
      refine ite2 (fun h => (not_t h (mode_inX S.md).2).elim) (fun _ => ?_)
      exact q
    · cases bad with
      | kind t h =>
        refine ⟨_, _, _, _, _, rfl, .ty "tuple", t.ty, t.ktup, ?_⟩
        walk_at "rd"
        refine ite2 (fun _ => ?_) (fun z => absurd (by rw [h]; rfl) z)
        exact q
      | len hp h =>
        refine ⟨_, _, _, _, _, rfl, .ty "tuple", .base (.tup hp), kit_ty (r := true) (by decide +kernel), ?_⟩
        walk_at "rd"
        refine ⟨_, _, rfl, .inr (SqT.of hp), ?_⟩
        walk_at "rd"
        refine ⟨rfl, ?_⟩
        walk_at "rd"
        refine ite2 (fun _ => q) (fun z => absurd ?_ z)
        rw [dec_int, decide_eq_false (fun y => h (by omega))]
        rfl
      | off hp t h =>
        refine ⟨_, _, _, _, _, rfl, .ty "tuple", .base (.tup hp), kit_ty (r := true) (by decide +kernel), ?_⟩
        walk_at "rd"
        refine ⟨_, _, rfl, .inr (SqT.of hp), rfl, ?_⟩
        walk_at "rd"
        refine ⟨_, _, rfl, SqT.of hp, rfl, _, _, rfl, _, _, rfl, _, _, rfl, rfl, ?_⟩
        walk_at "rd"
        refine ⟨⟨by decide, by decide, by decide⟩, ?_⟩
        walk_at "rd"
        refine ⟨⟨by decide, by decide, by decide⟩, _, _, _, _, rfl, t, ?_⟩
        refine ⟨_, rfl, ?_⟩
        exact ite2 (fun _ => q) (fun z => absurd (by rw [show inB _ (-(10 : Int) ^ (40 : Int).toNat) ((10 : Int) ^ (40 : Int).toNat) = false from h]; rfl) z)
      | stp hp t h u g =>
        refine ⟨_, _, _, _, _, rfl, .ty "tuple", .base (.tup hp), kit_ty (r := true) (by decide +kernel), ?_⟩
        walk_at "rd"
        refine ⟨_, _, rfl, .inr (SqT.of hp), rfl, ?_⟩
        walk_at "rd"
        refine ⟨_, _, rfl, SqT.of hp, rfl, _, _, rfl, _, _, rfl, _, _, rfl, rfl, ?_⟩
        walk_at "rd"
        refine ⟨⟨by decide, by decide, by decide⟩, ?_⟩
        walk_at "rd"
        refine ⟨⟨by decide, by decide, by decide⟩, _, _, _, _, rfl, t, ?_⟩
        refine ⟨_, rfl, ?_⟩
        refine ite2 (fun z => (not_t z (show inB _ (-(10 : Int) ^ (40 : Int).toNat) ((10 : Int) ^ (40 : Int).toNat) = true from h)).elim) (fun _ => ?_)
        walk_at "rd"
        refine ⟨⟨by decide, by decide, by decide⟩, _, _, _, _, rfl, u, ?_⟩
        refine ⟨_, rfl, ?_⟩
        exact ite2 (fun _ => q) (fun z => absurd (by rw [show inB _ 1 ((10 : Int) ^ (30 : Int).toNat) = false from g]; rfl) z)
      | mod hp t h u g dp hd =>
        refine ⟨_, _, _, _, _, rfl, .ty "tuple", .base (.tup hp), kit_ty (r := true) (by decide +kernel), ?_⟩
        walk_at "rd"
        refine ⟨_, _, rfl, .inr (SqT.of hp), rfl, ?_⟩
        walk_at "rd"
        refine ⟨_, _, rfl, SqT.of hp, rfl, _, _, rfl, _, _, rfl, _, _, rfl, rfl, ?_⟩
        walk_at "rd"
        refine ⟨⟨by decide, by decide, by decide⟩, ?_⟩
        walk_at "rd"
        refine ⟨⟨by decide, by decide, by decide⟩, _, _, _, _, rfl, t, ?_⟩
        refine ⟨_, rfl, ?_⟩
        refine ite2 (fun z => (not_t z (show inB _ (-(10 : Int) ^ (40 : Int).toNat) ((10 : Int) ^ (40 : Int).toNat) = true from h)).elim) (fun _ => ?_)
        walk_at "rd"
        refine ⟨⟨by decide, by decide, by decide⟩, _, _, _, _, rfl, u, ?_⟩
        refine ⟨_, rfl, ?_⟩
        refine ite2 (fun z => (not_t z (show inB _ 1 ((10 : Int) ^ (30 : Int).toNat) = true from g)).elim) (fun _ => ?_)
        walk_at "rd"
        refine ⟨_, _, dp.dp, dpModes (M.tM H), hd.1, by decide +kernel, by decide +kernel, ?_⟩
        walk_at "rd"
        refine ite2 (fun _ => q) (fun z => absurd (by rw [hd.2]; rfl) z)
end
end HT
namespace HT
open PySem L2
def GoodL (H : Hp) (l : Addr) (xs : List V) : Prop := H l = some (.lst xs) ∧ 1 ≤ xs.length ∧ xs.length ≤ 4 ∧ ∀ y ∈ xs, GoodS H y
/-- no list of sides -/
inductive BadL (K : PySem.W.Frag) (H : Hp) : V → Prop where
  | kind {x : V} {n : String} (t : Th H x n) (h : (n == "list") = false) : BadL K H x
  | len {l : Addr} {xs : List V} (hl : H l = some (.lst xs)) (h : ¬ (1 ≤ xs.length ∧ xs.length ≤ 4)) : BadL K H (.ref l)
  | item {l : Addr} {xs : List V} {i : Nat} {y : V} (hl : H l = some (.lst xs)) (h1 : 1 ≤ xs.length) (h2 : xs.length ≤ 4) (hi : xs[i]? = some y) (bad : BadS K H y) (good : ∀ j z, j < i → xs[j]? = some z → GoodS H z) : BadL K H (.ref l)
def spIsSideX (K : PySem.W.Frag) : Sp := fun vs H Q _ => ∃ x : V, vs = [x] ∧ ((GoodS H x ∧ Q (.bl true) H) ∨ (BadS K H x ∧ Q (.bl false) H))
def spSidesX (K : PySem.W.Frag) (C : Nat → Addr) : Sp := fun vs H Q E => ∃ x : V, vs = [x] ∧ ((∃ l xs, x = .ref l ∧ GoodL H l xs ∧ Q .non H) ∨ (BadL K H x ∧ E (.ref (C 1)) none H))
/-- the numbers of among's top -/
structure AmT (mg : Str → Option Value) : Prop where
  ms : ∃ t, mg "MOST_SIDES" = some (.int 4 t)
section
variable {P : Program} {w : World} {K : PySem.W.Frag} {mg : Str → Option Value} {base : Heap} {aM fI fB fV fC fL fN fW B : Addr} {dI dB dV dC dL dN dW : FuncData} {C : Nat → Addr}
theorem ok_is_side_x {f : Addr} {fd : FuncData} (F : Fun K "is_side" "is_side" s_is_side f fd) (R : Er K mg C B) (Ck : CalX P w K mg base "check_side" 3 ["side"] (spSideX K C) fC dC) : FnOk P w K mg base CX0 4 f fd ["thing"] (spIsSideX K) := by
  refine F.ok sc_is_side (fun vs H Q E h => ?_) (fun cdv A outer s0 H vs Q E hr h => ?_)
  · obtain ⟨x, rfl, _⟩ := h
    rfl
  · obtain ⟨x, rfl, h⟩ := h
    refine ⟨_, pss_cons (ps_try_only rfl rfl ⟨rfl, by decide, .inl R.g0⟩ takes0 (fun W pn xe tk _ => pss_one (ps_expr (pcx Ck hr (by decide) (by rfl) tk (pa_cons (pv 0) pa_nil)))) (fun a oe cls d pn _ _ => pss_one (ps_ret pe_bl))) (pss_one (ps_ret pe_bl)), ?_⟩
    walk_at "rd"
    rcases h with ⟨good, q⟩ | ⟨bad, q⟩
    · refine .inl ⟨good, ?_⟩
      walk_at "rd"
      exact q
    · refine .inr ⟨bad, ?_⟩
      exact ⟨true, R.em0, fun _ a ha => q, fun z => Bool.noConfusion z⟩
theorem ok_sides_x {f : Addr} {fd : FuncData} (F : Fun K "check_sides" "check_sides" s_check_sides f fd) (T : ChkT mg) (A' : AmT mg) (R : Er K mg C B) (Ck : Cal P w K mg base "is_side" 4 ["thing"] (spIsSideX K) fC dC) : FnOk P w K mg base (L2.CX P w) 5 f fd ["sides"] (spSidesX K C) := by
  refine F.okAny sc_check_sides (fun vs H Q E h => ?_) (fun cdv A outer s0 H vs Q E hr h => ?_)
  · obtain ⟨x, rfl, _⟩ := h
    rfl
  · obtain ⟨x, rfl, h⟩ := h
    have nd := sc_check_sides.nd
    obtain ⟨tms, hms⟩ := A'.ms
    refine ⟨_, pss_cons (ps_if (PW.pt (pw_or (pt_not (pt_val (pe_callB call_isi (by rfl) T.isi (by decide +kernel) (pa_cons (pv 0) (pa_cons (pe_bltn (v := .ty "list") (by rfl) T.list (by decide +kernel) rfl) pa_nil)))))
        (pw_or1 (pt_not (pt_chain op_le op_le pe_int (pe_callB call_len_seq (by rfl) T.len PySem.boot_len (pa_cons (pv 0) pa_nil)) (pe_glob (v := .int 4) (by rfl) hms ⟨_, rfl⟩)))))) (pss_one (ps_raise rfl (takes_of rfl rfl rfl rfl) (pmk_own PySem.F.excBase_ValueError (R.ex 1 (by decide)) R.g1 (R.kp 1 (by decide)) (raises_own (R.sb 1 (by decide)) (R.ty 1 (by decide))) (by rfl)))) pss_nil)
      (pss_one (ps_for (passes_of rfl) rfl (pi_list (pv 0)) (pg_name (i := 1) nd rfl (Or.inl rfl))
        (pss_one (ps_if (pt_not (pt_val (pcl Ck hr (by decide) (by rfl) (pa_cons (pv 1) pa_nil)))) (pss_one (ps_raise rfl (takes_of rfl rfl rfl rfl) (pmk_own PySem.F.excBase_ValueError (R.ex 1 (by decide)) R.g1 (R.kp 1 (by decide)) (raises_own (R.sb 1 (by decide)) (R.ty 1 (by decide))) (by rfl)))) pss_nil)))), ?_⟩
    walk_at "rd"
    rcases h with ⟨l, xs, rfl, ⟨hl, l1, l4, good⟩, q⟩ | ⟨bad, q⟩
    · refine ⟨_, _, _, _, _, rfl, .ty "list", .base (.lst hl), kit_ty (r := true) (by decide +kernel), ?_⟩
      walk_at "rd"
      refine ⟨l, _, rfl, .inl (SqL.of hl), ?_⟩
      walk_at "rd"
      refine ite2 (fun _ => ?_) (fun z => absurd (decide_eq_true (by omega)) z)
      walk_at "rd"
      refine ite2 (fun z => ?_) (fun _ => ?_)
      · exfalso
        have e : decide ((xs.length : Int) ≤ 4) = true := decide_eq_true (by omega)
        exact not_t z e
      walk_at "rd"
      refine ⟨⟨_, SqL.of hl⟩, ?_⟩
      refine for_list (K := K) (a := l) (xs := xs) (fun i σ H' => ∃ y : Option V, σ = [some (.ref l), y] ∧ H' = H) ⟨none, rfl, rfl⟩ (fun _ _ _ _ ⟨_, _, e⟩ => e ▸ SqL.of hl) ?_ ?_
      · rintro i y σ H' hy ⟨z, rfl, rfl⟩
        walk_at "rd"
        refine .inl ⟨good y (List.mem_of_getElem? hy), _, rfl, ?_⟩
        refine ite2 (fun z => (not_t z rfl).elim) (fun _ => ?_)
        exact ⟨_, rfl, rfl⟩
      · rintro σ H' ⟨z, rfl, rfl⟩
        exact q
    · cases bad with
      | kind t h =>
        refine ⟨_, _, _, _, _, rfl, .ty "list", t.ty, t.klst, ?_⟩
        walk_at "rd"
        refine ite2 (fun _ => ?_) (fun z => absurd (by rw [h]; rfl) z)
        exact q
      | @len l xs hl h =>
        refine ⟨_, _, _, _, _, rfl, .ty "list", .base (.lst hl), kit_ty (r := true) (by decide +kernel), ?_⟩
        walk_at "rd"
        refine ⟨l, _, rfl, .inl (SqL.of hl), ?_⟩
        walk_at "rd"
        refine ite2 (fun z1 => ?_) (fun z1 => ?_)
        · have z1' := of_decide_eq_true z1
          walk_at "rd"
          refine ite2 (fun _ => q) (fun z => absurd ?_ z)
          have e : decide ((xs.length : Int) ≤ 4) = false := decide_eq_false (by omega)
          rw [e]
          rfl
        · walk_at "rd"
          exact q
      | @item l xs i0 y0 hl l1 l4 hi bad good =>
        refine ⟨_, _, _, _, _, rfl, .ty "list", .base (.lst hl), kit_ty (r := true) (by decide +kernel), ?_⟩
        walk_at "rd"
        refine ⟨l, _, rfl, .inl (SqL.of hl), ?_⟩
        walk_at "rd"
        refine ite2 (fun _ => ?_) (fun z => absurd (decide_eq_true (by omega)) z)
        walk_at "rd"
        refine ite2 (fun z => ?_) (fun _ => ?_)
        · exfalso
          have e : decide ((xs.length : Int) ≤ 4) = true := decide_eq_true (by omega)
          exact not_t z e
        walk_at "rd"
        refine ⟨⟨_, SqL.of hl⟩, ?_⟩
        have i0l : i0 < xs.length := (List.getElem?_eq_some_iff.mp hi).1
        refine for_list (K := K) (a := l) (xs := xs) (fun i σ H' => ∃ y : Option V, σ = [some (.ref l), y] ∧ H' = H ∧ i ≤ i0) ⟨none, rfl, rfl, Nat.zero_le _⟩ (fun _ _ _ _ ⟨_, _, e, _⟩ => e ▸ SqL.of hl) ?_ ?_
        · rintro i y σ H' hy ⟨z, rfl, rfl, le⟩
          walk_at "rd"
          rcases Nat.lt_or_eq_of_le le with lt | eq
          · refine .inl ⟨good i y lt hy, _, rfl, ?_⟩
            refine ite2 (fun z => (not_t z rfl).elim) (fun _ => ?_)
            exact ⟨_, rfl, rfl, lt⟩
          · subst eq
            have ey : y = y0 := by rw [hi] at hy; exact (Option.some.inj hy).symm
            subst ey
            refine .inr ⟨bad, _, rfl, ?_⟩
            refine ite2 (fun _ => ?_) (fun z => absurd rfl z)
            exact q
        · rintro σ H' ⟨z, rfl, rfl, le⟩
          omega
end
end HT
namespace HT
open PySem L2
structure Sd where
  o : Int
  s : Int
  m : Str
/-- the list at l holds sides with these parts -/
structure SidesAt (H : Hp) (l : Addr) (xs : List V) (ss : List Sd) : Prop where
  hl : H l = some (.lst xs)
  len : xs.length = ss.length
  l1 : 1 ≤ ss.length
  l4 : ss.length ≤ 4
  at_ : ∀ (i : Nat) (d : Sd), ss[i]? = some d → ∃ p : Addr, xs[i]? = some (V.ref p) ∧ H p = some (sideV d.o d.s d.m) ∧ SideP d.o d.s d.m
theorem SidesAt.same {H H' : Hp} {l : Addr} {xs : List V} {ss : List Sd} (S : SidesAt H l xs ss) (e : Same H H') : SidesAt H' l xs ss :=
  ⟨e _ _ S.hl, S.len, S.l1, S.l4, fun i d h => let ⟨p, a, b, c⟩ := S.at_ i d h; ⟨p, a, e _ _ b, c⟩⟩
theorem SidesAt.oth {a c : Addr} {t : Nat} {H H' : Hp} {l : Addr} {xs : List V} {ss : List Sd} (S : SidesAt H l xs ss) (R : Src H a c t) (la : l ≠ a) (lc : l ≠ c) (e : Oth a c H H') : SidesAt H' l xs ss :=
  ⟨e _ _ S.hl la lc, S.len, S.l1, S.l4, fun i d h => let ⟨p, x, b, y⟩ := S.at_ i d h; let z := R.nt b; ⟨p, x, e _ _ b z.1 z.2, y⟩⟩
theorem SidesAt.item {H : Hp} {l : Addr} {xs : List V} {ss : List Sd} (S : SidesAt H l xs ss) {i : Nat} {y : V} (h : xs[i]? = some y) : ∃ d p, ss[i]? = some d ∧ y = .ref p ∧ H p = some (sideV d.o d.s d.m) ∧ SideP d.o d.s d.m := by
  have hi : i < ss.length := by have := (List.getElem?_eq_some_iff.mp h).1; rw [S.len] at this; exact this
  obtain ⟨p, e, hp, sp⟩ := S.at_ i ss[i] (List.getElem?_eq_getElem hi)
  rw [h] at e
  exact ⟨ss[i], p, List.getElem?_eq_getElem hi, Option.some.inj e, hp, sp⟩
/-- a side's period -/
def perM (s : Int) (m : Str) : Int := if m = "half_even" then 2 * s else s
theorem perM_bd {o s : Int} {m : Str} (S : SideP o s m) : 1 ≤ perM s m ∧ perM s m ≤ 2 * 10 ^ 30 := by
  have a := S.s0
  have b := S.s1
  unfold perM
  split <;> omega
def perN (d : Sd) : Nat := (perM d.s d.m).toNat
/-- the common period -/
def comN (ss : List Sd) : Nat := ss.foldl (fun n d => n.lcm (perN d)) 1
theorem com_snoc {ss : List Sd} {i : Nat} {d : Sd} (h : ss[i]? = some d) : comN (ss.take (i + 1)) = (comN (ss.take i)).lcm (perN d) := by
  unfold comN
  rw [List.take_succ, h, List.foldl_append]
  rfl
theorem lcm_le {a b : Nat} : a.lcm b ≤ a * b := Nat.div_le_self _ _
theorem com_le : ∀ (ss : List Sd) (n : Nat), (∀ d ∈ ss, SideP d.o d.s d.m) → ss.foldl (fun n d => n.lcm (perN d)) n ≤ n * (2 * 10 ^ 30) ^ ss.length
  | [], n, _ => by simp
  | d :: ss, n, h => by
    have z := com_le ss (n.lcm (perN d)) fun e he => h e (List.mem_cons_of_mem _ he)
    have b := perM_bd (h d List.mem_cons_self)
    have y : perN d ≤ 2 * 10 ^ 30 := by unfold perN; omega
    refine Nat.le_trans z ?_
    generalize (2 * 10 ^ 30 : Nat) = k at y
    rw [List.length_cons, Nat.pow_succ, Nat.mul_comm (k ^ ss.length), ← Nat.mul_assoc]
    exact Nat.mul_le_mul_right _ (Nat.le_trans lcm_le (Nat.mul_le_mul_left _ y))
theorem SidesAt.side {H : Hp} {l : Addr} {xs : List V} {ss : List Sd} (S : SidesAt H l xs ss) : ∀ d ∈ ss, SideP d.o d.s d.m := fun d hd => by
  obtain ⟨i, hi, rfl⟩ := List.mem_iff_getElem.mp hd
  obtain ⟨_, _, _, sp⟩ := S.at_ i _ (List.getElem?_eq_getElem hi)
  exact sp
theorem com_lt {ss : List Sd} (h : ∀ d ∈ ss, SideP d.o d.s d.m) (l4 : ss.length ≤ 4) : comN ss < 2 ^ 420 := by
  have z := com_le ss 1 h
  rw [Nat.one_mul] at z
  refine Nat.lt_of_le_of_lt z (Nat.lt_of_le_of_lt (Nat.pow_le_pow_right (by decide) l4) ?_)
  decide
theorem com_take {ss : List Sd} (h : ∀ d ∈ ss, SideP d.o d.s d.m) (l4 : ss.length ≤ 4) (i : Nat) : comN (ss.take i) < 2 ^ 420 :=
  com_lt (fun d hd => h d (List.mem_of_mem_take hd)) (Nat.le_trans (List.length_take_le' _ _) l4)
theorem com_pos : ∀ (ss : List Sd) (n : Nat), 0 < n → (∀ d ∈ ss, SideP d.o d.s d.m) → 0 < ss.foldl (fun n d => n.lcm (perN d)) n
  | [], n, hn, _ => hn
  | d :: ss, n, hn, h => by
    have b := perM_bd (h d List.mem_cons_self)
    have y : 0 < perN d := by unfold perN; omega
    exact com_pos ss _ (Nat.lcm_pos hn y) fun e he => h e (List.mem_cons_of_mem _ he)
/-- as the law has it -/
theorem lcm_div (a b : Nat) : a / Nat.gcd a b * b = a.lcm b := by
  unfold Nat.lcm
  rw [Nat.mul_comm (a / Nat.gcd a b), ← Nat.mul_div_assoc _ (Nat.gcd_dvd_left a b), Nat.mul_comm]
end HT
namespace HT
open PySem L2
def nV (k : Nat) : V := .int (k : Int)
structure AmG (mg : Str → Option Value) : Prop where
  isi : mg "isinstance" = none
  list : mg "list" = none
  len : mg "len" = none
  ms : ∃ t, mg "MOST_SIDES" = some (.int 4 t)
  lcm : mg "lcm" = some (.builtin "math.lcm")
def spIsSide : Sp := fun vs H Q _ => ∃ (p : Addr) (o s : Int) (m : Str), vs = [.ref p] ∧ H p = some (sideV o s m) ∧ SideP o s m ∧ Q (.bl true) H
def spSides : Sp := fun vs H Q _ => ∃ (l : Addr) (xs : List V) (ss : List Sd), vs = [.ref l] ∧ SidesAt H l xs ss ∧ Q .non H
def spPerOf : Sp := fun vs H Q _ => ∃ (p : Addr) (o s : Int) (m : Str), vs = [.ref p] ∧ H p = some (sideV o s m) ∧ SideP o s m ∧ Q (.int (perM s m)) H
def spNums : Sp := fun vs H Q _ => ∃ (kl : Addr) (ks : List Nat) (n : Nat), vs = [.ref kl, .int (n : Int)] ∧ H kl = some (.lst (ks.map nV)) ∧ ks.length ≤ 1000 ∧ (∀ k ∈ ks, k < n) ∧ Q .non H
/-- one hand-over more -/
def stepW (ss : List Sd) (a : List Int × Int) (k : Nat) : List Int × Int :=
  match ss[k]? with
  | some d => (a.1 ++ [dueM d.o d.s d.m a.2], dueM d.o d.s d.m a.2)
  | none => (a.1 ++ [a.2], a.2)
def walkW (ss : List Sd) (ks : List Nat) (v : Int) : List Int × Int := ks.foldl (stepW ss) ([], v)
theorem walk_snoc {ss : List Sd} {ks : List Nat} {v : Int} {i k : Nat} (h : ks[i]? = some k) : walkW ss (ks.take (i + 1)) v = stepW ss (walkW ss (ks.take i) v) k := by
  unfold walkW
  rw [List.take_succ, h, List.foldl_append]
  rfl
theorem due_far {o s v b : Int} {m : Str} (S : SideP o s m) (h : -b < v ∧ v < b) : -(b + 10 ^ 30) < dueM o s m v ∧ dueM o s m v < b + 10 ^ 30 := by
  have h1 := due_near (o := o) (v := v) S.md S.s0
  have h2 := S.s1
  omega
def spAlong : Sp := fun vs H Q _ => ∃ (l : Addr) (xs : List V) (ss : List Sd) (kl : Addr) (ks : List Nat) (v : Int), vs = [.ref l, .ref kl, .int v] ∧ SidesAt H l xs ss ∧ H kl = some (.lst (ks.map nV)) ∧ ks.length ≤ 1000 ∧ (∀ k ∈ ks, k < ss.length) ∧ (-2 ^ 200 < v ∧ v < 2 ^ 200) ∧
  ∀ (d : Addr) (H' : Hp), H d = none → Same H H' → H' d = some (.lst ((walkW ss ks v).1.map V.int)) → Q (.ref d) H'
section
variable {P : Program} {w : World} {K : PySem.W.Frag} {mg : Str → Option Value} {base : Heap} {aM c0 fC fB fV fN fW fS : Addr} {dC dB dV dN dW dS : FuncData}
theorem ok_is_side {f : Addr} {fd : FuncData} (F : Fun K "is_side" "is_side" s_is_side f fd) (g0 : mg "InvalidSide" = some (.ref c0)) (Ck : Cal P w K mg base "check_side" 3 ["side"] spCheckSide fC dC) : FnOk P w K mg base CX0 4 f fd ["thing"] spIsSide := by
  refine F.ok sc_is_side (fun vs H Q E h => ?_) (fun cdv A outer s0 H vs Q E hr h => ?_)
  · obtain ⟨p, o, s, m, rfl, _⟩ := h
    rfl
  · obtain ⟨p, o, s, m, rfl, hp, S, q⟩ := h
    refine ⟨_, pss_cons (ps_try_only rfl rfl ⟨rfl, by decide, .inl g0⟩ takes0 (fun W pn xe tk _ => pss_one (ps_expr (pcl Ck hr (by decide) (by rfl) (pa_cons (pv 0) pa_nil)))) (fun a oe cls d pn _ _ => pss_one (ps_ret pe_bl))) (pss_one (ps_ret pe_bl)), ?_⟩
    walk_at "rd"
    refine ⟨p, o, s, m, rfl, hp, S, ?_⟩
    walk_at "rd"
    exact q
theorem ok_sides {f : Addr} {fd : FuncData} (F : Fun K "check_sides" "check_sides" s_check_sides f fd) (A' : AmG mg) (Ck : Cal P w K mg base "is_side" 4 ["thing"] spIsSide fC dC) : FnOk P w K mg base CX0 5 f fd ["sides"] spSides := by
  refine F.ok sc_check_sides (fun vs H Q E h => ?_) (fun cdv A outer s0 H vs Q E hr h => ?_)
  · obtain ⟨l, xs, ss, rfl, _⟩ := h
    rfl
  · obtain ⟨l, xs, ss, rfl, SS, q⟩ := h
    have nd := sc_check_sides.nd
    obtain ⟨tms, hms⟩ := A'.ms
    refine ⟨_, pss_cons (ps_if (PW.pt (pw_or (pt_not (pt_val (pe_callB call_isi (by rfl) A'.isi (by decide +kernel) (pa_cons (pv 0) (pa_cons (pe_bltn (v := .ty "list") (by rfl) A'.list (by decide +kernel) rfl) pa_nil)))))
        (pw_or1 (pt_not (pt_chain op_le op_le pe_int (pe_callB call_len_seq (by rfl) A'.len PySem.boot_len (pa_cons (pv 0) pa_nil)) (pe_glob (v := .int 4) (by rfl) hms ⟨_, rfl⟩)))))) (pss_one ps_never) pss_nil)
      (pss_one (ps_for PassesOwn.never rfl (pi_list (pv 0)) (pg_name (i := 1) nd rfl (Or.inl rfl))
        (pss_one (ps_if (pt_not (pt_val (pcl Ck hr (by decide) (by rfl) (pa_cons (pv 1) pa_nil)))) (pss_one ps_never) pss_nil)))), ?_⟩
    walk_at "rd"
    refine ⟨_, _, _, _, _, rfl, .ty "list", .base (.lst SS.hl), kit_ty (r := true) (by decide +kernel), ?_⟩
    walk_at "rd"
    refine ⟨l, _, rfl, .inl (SqL.of SS.hl), ?_⟩
    have l1 := SS.l1
    have l4 := SS.l4
    have ln := SS.len
    walk_at "rd"
    refine ite2 (fun _ => ?_) (fun z => absurd (decide_eq_true (by omega)) z)
    walk_at "rd"
    refine ite2 (fun z => ?_) (fun _ => ?_)
    · exfalso
      have e : decide ((xs.length : Int) ≤ 4) = true := decide_eq_true (by omega)
      exact not_t z e
    walk_at "rd"
    refine ⟨⟨_, SqL.of SS.hl⟩, ?_⟩
    refine for_list (K := K) (a := l) (xs := xs) (fun i σ H' => ∃ y : Option V, σ = [some (.ref l), y] ∧ H' = H) ⟨none, rfl, rfl⟩ (fun _ _ _ _ ⟨_, _, e⟩ => e ▸ SqL.of SS.hl) ?_ ?_
    · rintro i y σ H' hy ⟨z, rfl, rfl⟩
      obtain ⟨d, p, ed, rfl, hp, sp⟩ := SS.item hy
      walk_at "rd"
      refine ⟨p, d.o, d.s, d.m, rfl, hp, sp, _, rfl, ?_⟩
      refine ite2 (fun z => (not_t z rfl).elim) (fun _ => ?_)
      exact ⟨_, rfl, rfl⟩
    · rintro σ H' ⟨z, rfl, rfl⟩
      exact q
theorem ok_per {f : Addr} {fd : FuncData} (F : Fun K "period_of" "period_of" s_period_of f fd) : FnOk P w K mg base CX0 1 f fd ["side"] spPerOf := by
  refine F.ok sc_period_of (fun vs H Q E h => ?_) (fun cdv A outer s0 H vs Q E hr h => ?_)
  · obtain ⟨p, o, s, m, rfl, _⟩ := h
    rfl
  · obtain ⟨p, o, s, m, rfl, hp, S, q⟩ := h
    have nd := sc_period_of.nd
    refine ⟨_, (pss_cons (ps_asg (pv 0) (pg_tup (by rfl) (pgs_cons (pg_name (i := 1) nd rfl (Or.inl rfl)) (pgs_cons (pg_name (i := 2) nd rfl (Or.inl rfl)) (pgs_cons (pg_name (i := 3) nd rfl (Or.inl rfl)) pgs_nil)))))
      (pss_cons (ps_if (pt_cmpR op_eq (pv 3) pe_str (nomark _)) (pss_one (ps_ret (pe_op op_mul pe_int (pv 2)))) pss_nil)
      (pss_one (ps_ret (pv 2))))), ?_⟩
    walk_at "rd"
    refine ⟨p, _, rfl, SqT.of hp, rfl, _, _, rfl, _, _, rfl, _, _, rfl, rfl, ?_⟩
    walk_at "rd"
    refine ⟨rfl, ?_⟩
    walk_at "rd"
    unfold perM at q
    refine ite2 (fun h => ?_) (fun h => ?_)
    · rw [if_pos (str_t h)] at q
      walk_at "rd"
      refine ⟨.inl ⟨by decide, by decide⟩, ?_⟩
      exact q
    · rw [if_neg (str_f h)] at q
      walk_at "rd"
      exact q
end
end HT
namespace HT
open PySem L2
theorem log_lt {n k : Nat} (h : n < 2 ^ (k + 1)) : n.log2 ≤ k := by
  by_cases h0 : n = 0
  · subst h0
    rw [Nat.log2_zero]
    exact Nat.zero_le _
  · exact Nat.le_of_lt_succ ((Nat.log2_lt h0).mpr h)
theorem lcm_lt {a b i j : Nat} (ha : a < 2 ^ i) (hb : b < 2 ^ j) : a.lcm b < 2 ^ (i + j) := by
  rw [Nat.pow_add]
  exact Nat.lt_of_le_of_lt (PySem.W.mc_lcm_le a b) (Nat.mul_lt_mul'' ha hb)
def rLcm2 : List V → Hp → VK → Prop := fun vs H Q => ∃ a b : Int, vs = [.int a, .int b] ∧ a.natAbs < 2 ^ 2000 ∧ b.natAbs < 2 ^ 2000 ∧ Q (.int (((a.natAbs.lcm b.natAbs : Nat) : Int))) H
theorem cr_lcm2 {X : Cx} : CallR X (.builtin "math.lcm") rLcm2 := by
  intro pins s σ H vs us Q I r h
  obtain ⟨a, b, rfl, ha, hb, q⟩ := h
  obtain ⟨u1, u2, rfl, r1, r2⟩ := vals2 r
  obtain ⟨t, rfl⟩ := r1
  obtain ⟨u, rfl⟩ := r2
  have hab := lcm_lt ha hb
  have e1 : Nat.lcm 1 a.natAbs = a.natAbs := PySem.W.mc_lcm_one _
  have two : ∀ {k : Nat}, 1 < 2 ^ (k + 1) := fun {k} => Nat.one_lt_two_pow (by omega)
  have g := PySem.W.mg_run_lcm a t b u
    (by have := log_lt (n := max 1 a.natAbs) (k := 1999) (Nat.max_lt.mpr ⟨two, ha⟩); omega)
    (by have := log_lt (n := max a.natAbs b.natAbs) (k := 1999) (Nat.max_lt.mpr ⟨ha, hb⟩); omega)
    (by rw [e1]; exact PySem.W.mc_size (k := 100) (Nat.le_trans (Nat.le_of_lt hab) (Nat.pow_le_pow_right (by decide) (by decide))) (by decide))
  rw [e1] at g
  exact PySem.call_function_meets PySem.W.MGF.kind_lcm PySem.W.MGF.plain_lcm PySem.W.MGF.entry_lcm (PySem.W.MGF.args_lcm _ _) g.meets ⟨.int _, H, I.tok _, ⟨_, rfl⟩, q⟩
end HT
namespace HT
open PySem L2
def spRs : Sp := fun vs H Q _ => ∃ (p : Addr) (o s : Int) (m : Str), vs = [.ref p] ∧ H p = some (sideV o s m) ∧ SideP o s m ∧ ∀ H', Same H H' → Q (.bl (!decide (firstM s m = "down"))) H'
section
variable {P : Program} {w : World} {K : PySem.W.Frag} {mg : Str → Option Value} {base : Heap} {fH : Addr} {dH : FuncData}
end
end HT
namespace HT
open PySem L2
/-- the list at l holds sides with these parts; it may be empty -/
structure SidL (H : Hp) (l : Addr) (xs : List V) (ss : List Sd) : Prop where
  hl : H l = some (.lst xs)
  len : xs.length = ss.length
  l4 : ss.length ≤ 4
  at_ : ∀ (i : Nat) (d : Sd), ss[i]? = some d → ∃ p : Addr, xs[i]? = some (V.ref p) ∧ H p = some (sideV d.o d.s d.m) ∧ SideP d.o d.s d.m
theorem SidesAt.toL {H : Hp} {l : Addr} {xs : List V} {ss : List Sd} (S : SidesAt H l xs ss) : SidL H l xs ss := ⟨S.hl, S.len, S.l4, S.at_⟩
theorem SidL.same {H H' : Hp} {l : Addr} {xs : List V} {ss : List Sd} (S : SidL H l xs ss) (e : Same H H') : SidL H' l xs ss :=
  ⟨e _ _ S.hl, S.len, S.l4, fun i d h => let ⟨p, a, b, c⟩ := S.at_ i d h; ⟨p, a, e _ _ b, c⟩⟩
theorem SidL.item {H : Hp} {l : Addr} {xs : List V} {ss : List Sd} (S : SidL H l xs ss) {i : Nat} {y : V} (h : xs[i]? = some y) : ∃ d p, ss[i]? = some d ∧ y = .ref p ∧ H p = some (sideV d.o d.s d.m) ∧ SideP d.o d.s d.m := by
  have hi : i < ss.length := by have := (List.getElem?_eq_some_iff.mp h).1; rw [S.len] at this; exact this
  obtain ⟨p, e, hp, sp⟩ := S.at_ i ss[i] (List.getElem?_eq_getElem hi)
  rw [h] at e
  exact ⟨ss[i], p, List.getElem?_eq_getElem hi, Option.some.inj e, hp, sp⟩
theorem SidL.side {H : Hp} {l : Addr} {xs : List V} {ss : List Sd} (S : SidL H l xs ss) : ∀ d ∈ ss, SideP d.o d.s d.m := fun d hd => by
  obtain ⟨i, hi, rfl⟩ := List.mem_iff_getElem.mp hd
  obtain ⟨_, _, _, sp⟩ := S.at_ i _ (List.getElem?_eq_getElem hi)
  exact sp
def upD (d : Sd) : Bool := !decide (firstM d.s d.m = "down")
def mirD (d : Sd) : Sd := ⟨-d.o, d.s, mir d.m⟩
/-- v, or what some side writes for it, and no less -/
def HiP (ss : List Sd) (v h : Int) : Prop := v ≤ h ∧ (∀ d ∈ ss, dueM d.o d.s d.m v ≤ h) ∧ (h = v ∨ ∃ d ∈ ss, h = dueM d.o d.s d.m v)
def spPerL : Sp := fun vs H Q _ => ∃ (l : Addr) (xs : List V) (ss : List Sd), vs = [.ref l] ∧ SidL H l xs ss ∧ Q (.int (comN ss : Int)) H
def spRais : Sp := fun vs H Q _ => ∃ (l : Addr) (xs : List V) (ss : List Sd), vs = [.ref l] ∧ SidL H l xs ss ∧ ∀ (L : Addr) (ys : List V) (H' : Hp), H L = none → Same H H' → SidL H' L ys (ss.filter upD) → Q (.ref L) H'
def spMirs : Sp := fun vs H Q _ => ∃ (l : Addr) (xs : List V) (ss : List Sd), vs = [.ref l] ∧ SidL H l xs ss ∧ ∀ (L : Addr) (ys : List V) (H' : Hp), H L = none → Same H H' → SidL H' L ys (ss.map mirD) → Q (.ref L) H'
def spHi : Sp := fun vs H Q _ => ∃ (l : Addr) (xs : List V) (ss : List Sd) (v : Int), vs = [.ref l, .int v] ∧ SidL H l xs ss ∧ (-2 ^ 900 < v ∧ v < 2 ^ 900) ∧ ∀ (h : Int) (H' : Hp), HiP ss v h → Same H H' → Q (.int h) H'
/-- a list of sides grows -/
theorem grow_side {H H' : Hp} {D : Addr} {ys : List V} {ts : List Sd} {p : Addr} {d : Sd} (A : ∀ (i : Nat) (e : Sd), ts[i]? = some e → ∃ p : Addr, ys[i]? = some (V.ref p) ∧ H p = some (sideV e.o e.s e.m) ∧ SideP e.o e.s e.m) (len : ys.length = ts.length)
    (k : ∀ b u, H b = some u → b ≠ D → H' b = some u) (hD : H D = some (.lst ys)) (hp : H' p = some (sideV d.o d.s d.m)) (sp : SideP d.o d.s d.m) :
    ∀ (i : Nat) (e : Sd), (ts ++ [d])[i]? = some e → ∃ p' : Addr, (ys ++ [V.ref p])[i]? = some (V.ref p') ∧ H' p' = some (sideV e.o e.s e.m) ∧ SideP e.o e.s e.m := by
  intro i e he
  rcases Nat.lt_or_ge i ts.length with z | z
  · rw [List.getElem?_append_left z] at he
    obtain ⟨p2, e1, hp2, sp2⟩ := A i e he
    exact ⟨p2, by rw [List.getElem?_append_left (by omega)]; exact e1, k _ _ hp2 (ne_of hp2 hD (by intro y; cases y)), sp2⟩
  · rw [List.getElem?_append_right z] at he
    have e0 : i - ts.length = 0 := by
      have := (List.getElem?_eq_some_iff.mp he).1
      simp at this
      omega
    rw [e0] at he
    have ee : e = d := by simpa using he.symm
    subst ee
    exact ⟨p, by rw [List.getElem?_append_right (by omega), show i - ys.length = 0 by omega]; rfl, hp, sp⟩
section
variable {P : Program} {w : World} {K : PySem.W.Frag} {mg : Str → Option Value} {base : Heap} {fB fH fI : Addr} {dB dH dI : FuncData}
theorem ok_commonL {f : Addr} {fd : FuncData} (F : Fun K "common_period" "common_period" s_common_period f fd) (A' : AmG mg) (Pe : Cal P w K mg base "period_of" 1 ["side"] spPerOf fB dB) : FnOk P w K mg base CX0 2 f fd ["sides"] spPerL := by
  refine F.ok sc_common_period (fun vs H Q E h => ?_) (fun cdv A outer s0 H vs Q E hr h => ?_)
  · obtain ⟨l, xs, ss, rfl, _⟩ := h
    rfl
  · obtain ⟨l, xs, ss, rfl, SS, q⟩ := h
    have nd := sc_common_period.nd
    refine ⟨_, pss_cons (ps_set (i := 1) nd rfl (Or.inl rfl) pe_int)
      (pss_cons (ps_for PassesOwn.never rfl (pi_list (pv 0)) (pg_name (i := 2) nd rfl (Or.inl rfl)) (pss_one (ps_set (i := 1) nd rfl (Or.inl rfl) (pe_callBfun cr_lcm2 (by rfl) A'.lcm (pa_cons (pv 1) (pa_cons (pcl Pe hr (by decide) (by rfl) (pa_cons (pv 2) pa_nil)) pa_nil))))))
      (pss_one (ps_ret (pv 1)))), ?_⟩
    walk_at "rd"
    refine ⟨⟨_, SqL.of SS.hl⟩, ?_⟩
    refine for_list (K := K) (a := l) (xs := xs) (fun i st H' => ∃ x2 : Option V, st = [some (.ref l), some (.int (comN (ss.take i) : Int)), x2] ∧ H' = H) ⟨none, rfl, rfl⟩ (fun _ _ _ _ ⟨_, _, e⟩ => e ▸ SqL.of SS.hl) ?_ ?_
    · rintro i y st H' hy ⟨x2, rfl, rfl⟩
      obtain ⟨d, p, ed, rfl, hp, sp⟩ := SS.item hy
      walk_at "rd"
      refine ⟨p, d.o, d.s, d.m, rfl, hp, sp, ?_⟩
      have pb := perM_bd sp
      have cl := com_take SS.side SS.l4 i
      have big : (2 : Nat) ^ 420 < 2 ^ 2000 := Nat.pow_lt_pow_right (by decide) (by decide)
      have big2 : (2 : Nat) ^ 120 < 2 ^ 2000 := Nat.pow_lt_pow_right (by decide) (by decide)
      have e2 : (perM d.s d.m).natAbs = perN d := by unfold perN; omega
      refine ⟨_, _, rfl, ?_, ?_, ?_⟩
      · rw [Int.natAbs_natCast]; omega
      · rw [e2]; unfold perN; omega
      · rw [Int.natAbs_natCast, e2, ← com_snoc ed]
        exact ⟨_, rfl, rfl⟩
    · rintro st H' ⟨x2, rfl, rfl⟩
      rw [SS.len, List.take_length]
      walk_at "rd"
      exact q
theorem filter_snoc {ss : List Sd} {i : Nat} {d : Sd} (h : ss[i]? = some d) : (ss.take (i + 1)).filter upD = (ss.take i).filter upD ++ (if upD d = true then [d] else []) := by
  rw [List.take_succ, h, List.filter_append]
  congr 1
  simp only [Option.toList, List.filter_cons, List.filter_nil]
end
end HT
namespace HT
open PySem L2
/-- what a side does to x + b, at x -/
def movD (b : Int) (d : Sd) : Sd := ⟨(d.o + b) % perM d.s d.m, d.s, d.m⟩
theorem side_mov {d : Sd} (b : Int) (S : SideP d.o d.s d.m) : SideP (movD b d).o (movD b d).s (movD b d).m := by
  have p := perM_bd S
  have h0 := Int.emod_nonneg (d.o + b) (show perM d.s d.m ≠ 0 by omega)
  have h1 := Int.emod_lt_of_pos (d.o + b) (show 0 < perM d.s d.m by omega)
  refine ⟨?_, ?_, S.s0, S.s1, S.md⟩
  · show -10 ^ 40 ≤ (d.o + b) % perM d.s d.m
    omega
  · show (d.o + b) % perM d.s d.m ≤ 10 ^ 40
    omega
def spMoved : Sp := fun vs H Q _ => ∃ (p : Addr) (d : Sd) (b : Int), vs = [.ref p, .int b] ∧ H p = some (sideV d.o d.s d.m) ∧ SideP d.o d.s d.m ∧ ∀ (q : Addr) (H' : Hp), H q = none → Same H H' → H' q = some (sideV (movD b d).o (movD b d).s (movD b d).m) → Q (.ref q) H'
/-- the next run -/
def widS (r : Int × Int) (a : Int × Int) (d : Sd) : Int × Int :=
  if backM d.o d.s d.m r.1 ≤ backM d.o d.s d.m (r.2 + 1) - 1 then (if backM d.o d.s d.m r.1 < a.1 then backM d.o d.s d.m r.1 else a.1, if a.2 < backM d.o d.s d.m (r.2 + 1) - 1 then backM d.o d.s d.m (r.2 + 1) - 1 else a.2) else a
def widF (ss : List Sd) (r : Int × Int) : Int × Int := ss.foldl (widS r) r
def runN (ss : List Sd) : Nat → Int × Int
  | 0 => (0, 0)
  | k + 1 => widF ss (runN ss k)
theorem back_bd {o s : Int} {m : Str} {v : Int} (md : Mode m) (s0 : 1 ≤ s) : v - s ≤ backM o s m v ∧ backM o s m v ≤ v + s := by
  have c := ceil_eq (o := o) (v := v) s0
  have b := below_bd (k := ceilM o s v) md s0
  have e : s * (ceilM o s v - 1) = s * ceilM o s v - s := by rw [Int.mul_sub, Int.mul_one]
  have l : backM o s m v = o + s * ceilM o s v - below m s (ceilM o s v) := rfl
  rw [l]
  omega
theorem wid_bd {ss : List Sd} (h : ∀ d ∈ ss, SideP d.o d.s d.m) {r : Int × Int} : r.1 - 10 ^ 31 ≤ (widF ss r).1 ∧ (widF ss r).1 ≤ r.1 ∧ r.2 ≤ (widF ss r).2 ∧ (widF ss r).2 ≤ r.2 + 10 ^ 31 := by
  have key : ∀ (ss : List Sd) (a : Int × Int), (∀ d ∈ ss, SideP d.o d.s d.m) → r.1 - 10 ^ 31 ≤ a.1 ∧ a.1 ≤ r.1 ∧ r.2 ≤ a.2 ∧ a.2 ≤ r.2 + 10 ^ 31 → r.1 - 10 ^ 31 ≤ (ss.foldl (widS r) a).1 ∧ (ss.foldl (widS r) a).1 ≤ r.1 ∧ r.2 ≤ (ss.foldl (widS r) a).2 ∧ (ss.foldl (widS r) a).2 ≤ r.2 + 10 ^ 31 := by
    intro ss
    induction ss with
    | nil => intro a _ z; exact z
    | cons d ss ih =>
      intro a hs z
      have S := hs d List.mem_cons_self
      have s0 := S.s0
      have s1 := S.s1
      have b1 := back_bd (o := d.o) (v := r.1) S.md s0
      have b2 := back_bd (o := d.o) (v := r.2 + 1) S.md s0
      refine ih (widS r a d) (fun e he => hs e (List.mem_cons_of_mem _ he)) ?_
      unfold widS
      split
      · refine ⟨?_, ?_, ?_, ?_⟩ <;> simp only <;> split <;> omega
      · exact z
  exact key ss r h ⟨by omega, by omega, by omega, by omega⟩
theorem run_bd {ss : List Sd} (h : ∀ d ∈ ss, SideP d.o d.s d.m) : ∀ k : Nat, -(k * 10 ^ 31 : Int) ≤ (runN ss k).1 ∧ (runN ss k).1 ≤ 0 ∧ 0 ≤ (runN ss k).2 ∧ (runN ss k).2 ≤ k * 10 ^ 31
  | 0 => by
    show -(((0 : Nat) : Int) * 10 ^ 31) ≤ 0 ∧ (0 : Int) ≤ 0 ∧ (0 : Int) ≤ 0 ∧ (0 : Int) ≤ ((0 : Nat) : Int) * 10 ^ 31
    omega
  | k + 1 => by
    have a := run_bd h k
    have b := wid_bd h (r := runN ss k)
    have e : ((k + 1 : Nat) : Int) * 10 ^ 31 = (k : Int) * 10 ^ 31 + 10 ^ 31 := by rw [Int.natCast_add, Int.add_mul]; rfl
    show -(((k + 1 : Nat) : Int) * 10 ^ 31) ≤ (widF ss (runN ss k)).1 ∧ (widF ss (runN ss k)).1 ≤ 0 ∧ 0 ≤ (widF ss (runN ss k)).2 ∧ (widF ss (runN ss k)).2 ≤ ((k + 1 : Nat) : Int) * 10 ^ 31
    rw [e]
    omega
theorem wid_take {ss : List Sd} {r : Int × Int} {i : Nat} {d : Sd} (h : ss[i]? = some d) : (ss.take (i + 1)).foldl (widS r) r = widS r ((ss.take i).foldl (widS r) r) d := by
  rw [List.take_succ, h, List.foldl_append]
  rfl
/-- the runs up to the last one that is told -/
def pairV (a b : Int) : HO := .tup [.int a, .int b]
def spWid : Sp := fun vs H Q _ => ∃ (l p : Addr) (xs : List V) (ss : List Sd) (r : Int × Int), vs = [.ref l, .ref p] ∧ SidesAt H l xs ss ∧ H p = some (pairV r.1 r.2) ∧ (-2 ^ 600 < r.1 ∧ r.1 < 2 ^ 600) ∧ (-2 ^ 600 < r.2 ∧ r.2 < 2 ^ 600) ∧
  ∀ (q : Addr) (H' : Hp), H q = none → Same H H' → H' q = some (pairV (widF ss r).1 (widF ss r).2) → Q (.ref q) H'
section
variable {P : Program} {w : World} {K : PySem.W.Frag} {mg : Str → Option Value} {base : Heap} {aM c0 fC fB fV fN fW fS : Addr} {dC dB dV dN dW dS : FuncData}
theorem ok_threshold {f : Addr} {fd : FuncData} (F : Fun K "threshold" "threshold" s_threshold f fd) (B : Cal P w K mg base "_below" 1 ["mode", "step", "figure"] spBelow fB dB) : FnOk P w K mg base CX0 3 f fd ["side", "value"] spBack := by
  refine F.ok sc_threshold (fun vs H Q E h => ?_) (fun cdv A outer s H vs Q E hr h => ?_)
  · obtain ⟨p, o, s, m, v, rfl, _⟩ := h
    rfl
  · obtain ⟨p, o, s, m, v, rfl, hp, S, hv0, hv1, q⟩ := h
    have nd := sc_threshold.nd
    refine ⟨_, pss_cons (ps_asg (pv 0) (pg_tup (by rfl) (pgs_cons (pg_name (i := 2) nd rfl (Or.inl rfl)) (pgs_cons (pg_name (i := 3) nd rfl (Or.inl rfl)) (pgs_cons (pg_name (i := 4) nd rfl (Or.inl rfl)) pgs_nil)))))
      (pss_cons (ps_set (i := 5) nd rfl (Or.inl rfl) (pe_un un_neg (pe_op op_fdivW (pe_op op_sub (pv 2) (pv 1)) (pv 3))))
      (pss_one (ps_ret (pe_op op_sub (pe_op op_add (pv 2) (pe_op op_mulW (pv 3) (pv 5))) (pcl B hr (by decide) (by rfl) (pa_cons (pv 4) (pa_cons (pv 3) (pa_cons (pv 5) pa_nil)))))))), ?_⟩
    walk_at "rd"
    refine ⟨p, _, rfl, SqT.of hp, rfl, _, _, rfl, _, _, rfl, _, _, rfl, rfl, ?_⟩
    have s0 := S.s0
    have s1 := S.s1
    have o0 := S.o0
    have o1 := S.o1
    walk_at "rd"
    refine ⟨fdiv_ok _ (by omega) (lg_big (by omega) (by omega)), ?_⟩
    walk_at "rd"
    have db := div_bd (x := o - v) (b := 2 ^ 701) s0 (by omega) (by omega)
    refine ⟨mulW (by omega) (by omega), ?_⟩
    walk_at "rd"
    refine ⟨m, s, ceilM o s v, rfl, S.md, ?_⟩
    walk_at "rd"
    exact q H (fun _ _ z => z)
theorem ok_moved {f : Addr} {fd : FuncData} (F : Fun K "moved" "moved" s_moved f fd) (Pe : Cal P w K mg base "period_of" 1 ["side"] spPerOf fB dB) : FnOk P w K mg base CX0 2 f fd ["side", "by"] spMoved := by
  refine F.ok sc_moved (fun vs H Q E h => ?_) (fun cdv A outer s0 H vs Q E hr h => ?_)
  · obtain ⟨p, d, b, rfl, _⟩ := h
    rfl
  · obtain ⟨p, d, b, rfl, hp, S, q⟩ := h
    have nd := sc_moved.nd
    refine ⟨_, (pss_cons (ps_asg (pv 0) (pg_tup (by rfl) (pgs_cons (pg_name (i := 2) nd rfl (Or.inl rfl)) (pgs_cons (pg_name (i := 3) nd rfl (Or.inl rfl)) (pgs_cons (pg_name (i := 4) nd rfl (Or.inl rfl)) pgs_nil)))))
      (pss_one (ps_ret (pe_tup (pa_cons (pe_op op_mod (pe_op op_add (pv 2) (pv 1)) (pcl Pe hr (by decide) (by rfl) (pa_cons (pv 0) pa_nil))) (pa_cons (pv 3) (pa_cons (pv 4) pa_nil))))))), ?_⟩
    walk_at "rd"
    refine ⟨p, _, rfl, SqT.of hp, rfl, _, _, rfl, _, _, rfl, _, _, rfl, rfl, ?_⟩
    walk_at "rd"
    refine ⟨p, d.o, d.s, d.m, rfl, hp, S, ?_⟩
    have pb := perM_bd S
    refine ⟨_, _, rfl, rfl, (show 0 < perM d.s d.m by omega), ?_⟩
    walk_at "rd"
    refine ⟨(by show 3 ≤ sizeLine; decide), fun n nn => ?_⟩
    exact q n _ nn (fun c u z => (upd_ne (ne_of_none z nn)).trans z) upd_same
theorem ok_wid {f : Addr} {fd : FuncData} (F : Fun K "_widened" "_widened" s_widened f fd) (MT : MaxT mg) (Th : Cal P w K mg base "threshold" 3 ["side", "value"] spBack fB dB) : FnOk P w K mg base CX0 4 f fd ["sides", "run"] spWid := by
  refine F.ok sc_widened (fun vs H Q E h => ?_) (fun cdv A outer s0 H vs Q E hr h => ?_)
  · obtain ⟨l, p, xs, ss, r, rfl, _⟩ := h
    rfl
  · obtain ⟨l, p, xs, ss, r, rfl, SS, hp, r1, r2, q⟩ := h
    have nd := sc_widened.nd
    refine ⟨_, (pss_cons (ps_asg (pv 1) (pg_tup (by rfl) (pgs_cons (pg_name (i := 2) nd rfl (Or.inl rfl)) (pgs_cons (pg_name (i := 3) nd rfl (Or.inl rfl)) pgs_nil))))
      (pss_cons (ps_asg (pv 1) (pg_tup (by rfl) (pgs_cons (pg_name (i := 4) nd rfl (Or.inl rfl)) (pgs_cons (pg_name (i := 5) nd rfl (Or.inl rfl)) pgs_nil))))
      (pss_cons (ps_for PassesOwn.never rfl (pi_list (pv 0)) (pg_name (i := 6) nd rfl (Or.inl rfl)) (pss_cons (ps_set (i := 7) nd rfl (Or.inl rfl) (pcl Th hr (by decide) (by rfl) (pa_cons (pv 6) (pa_cons (pv 2) pa_nil))))
      (pss_cons (ps_set (i := 8) nd rfl (Or.inl rfl) (pe_op op_sub (pcl Th hr (by decide) (by rfl) (pa_cons (pv 6) (pa_cons (pe_op op_add (pv 3) pe_int) pa_nil))) pe_int))
      (pss_one (ps_if (pt_cmpR op_le (pv 7) (pv 8) (nomark _)) (pss_cons (ps_set (i := 4) nd rfl (Or.inl rfl) (pe_callB (call_min2 rfl) (by rfl) MT.min (by decide +kernel) (pa_cons (pv 4) (pa_cons (pv 7) pa_nil))))
      (pss_one (ps_set (i := 5) nd rfl (Or.inl rfl) (pe_callB (call_max2 rfl) (by rfl) MT.max (by decide +kernel) (pa_cons (pv 5) (pa_cons (pv 8) pa_nil)))))) pss_nil)))))
      (pss_one (ps_ret (pe_tup (pa_cons (pv 4) (pa_cons (pv 5) pa_nil)))))))), ?_⟩
    walk_at "rd"
    refine ⟨p, _, rfl, SqT.of hp, rfl, _, _, rfl, _, _, rfl, rfl, ?_⟩
    walk_at "rd"
    refine ⟨p, _, rfl, SqT.of hp, rfl, _, _, rfl, _, _, rfl, rfl, ?_⟩
    walk_at "rd"
    refine ⟨⟨_, SqL.of SS.hl⟩, ?_⟩
    refine for_list (K := K) (a := l) (xs := xs) (fun i st H' => ∃ x6 x7 x8 : Option V, st = [some (.ref l), some (.ref p), some (.int r.1), some (.int r.2), some (.int ((ss.take i).foldl (widS r) r).1), some (.int ((ss.take i).foldl (widS r) r).2), x6, x7, x8] ∧ Same H H')
      ⟨none, none, none, rfl, Same.refl H⟩ (fun _ _ _ _ ⟨_, _, _, _, e⟩ => SqL.of (e _ _ SS.hl)) ?_ ?_
    · rintro i y st H' hy ⟨x6, x7, x8, rfl, sm⟩
      obtain ⟨d, q6, ed, rfl, hq, sp⟩ := SS.item hy
      have wt := wid_take (r := r) ed
      walk_at "rd"
      refine ⟨q6, d.o, d.s, d.m, r.1, rfl, sm _ _ hq, sp, by omega, by omega, fun H2 s2 => ?_⟩
      walk_at "rd"
      refine ⟨q6, d.o, d.s, d.m, r.2 + 1, rfl, s2 _ _ (sm _ _ hq), sp, by omega, by omega, fun H3 s3 => ?_⟩
      walk_at "rd"
      generalize (ss.take i).foldl (widS r) r = a at wt ⊢
      refine ite2 (fun z => ?_) (fun z => ?_)
      · have le := of_decide_eq_true z
        have e : widS r a d = (if backM d.o d.s d.m r.1 < a.1 then backM d.o d.s d.m r.1 else a.1, if a.2 < backM d.o d.s d.m (r.2 + 1) - 1 then backM d.o d.s d.m (r.2 + 1) - 1 else a.2) := by
          unfold widS
          rw [if_pos le]
        rw [e] at wt
        walk_at "rd"
        refine ⟨_, _, rfl, ?_⟩
        walk_at "rd"
        refine ⟨_, _, rfl, ?_⟩
        rw [wt]
        exact ⟨_, _, _, rfl, (sm.trans s2).trans s3⟩
      · have le := of_decide_eq_false (by simpa using z : decide (backM d.o d.s d.m r.1 ≤ backM d.o d.s d.m (r.2 + 1) - 1) = false)
        have e : widS r a d = a := by
          unfold widS
          rw [if_neg le]
        rw [e] at wt
        show ∃ x6 x7 x8 : Option V, _
        rw [wt]
        exact ⟨_, _, _, rfl, (sm.trans s2).trans s3⟩
    · rintro st H' ⟨x6, x7, x8, rfl, sm⟩
      walk_at "rd"
      refine ⟨(by show 2 ≤ sizeLine; decide), fun n nn => ?_⟩
      rw [SS.len, List.take_length]
      exact q n _ (sm.free nn) (fun c u z => (upd_ne (ne_of_none (sm _ _ z) nn)).trans (sm _ _ z)) upd_same
end
end HT
namespace HT
open PySem L2
/-- the runs go on until one does not grow, or to the one of 1,001 hand-overs -/
structure RunsTo (ss : List Sd) (n : Nat) : Prop where
  le : n ≤ 1001
  ne : ∀ j, j < n → runN ss (j + 1) ≠ runN ss j
  stop : n = 1001 ∨ runN ss (n + 1) = runN ss n
def RunsAt (H : Hp) (q : Addr) (v : Int) (ss : List Sd) (n : Nat) : Prop := ∃ ps : List Addr, H q = some (.lst (ps.map V.ref)) ∧ ps.length = n + 1 ∧ ∀ (i : Nat) (p : Addr), ps[i]? = some p → H p = some (pairV (v + (runN ss i).1) (v + (runN ss i).2))
theorem RunsAt.same {H H' : Hp} {q : Addr} {v : Int} {ss : List Sd} {n : Nat} (R : RunsAt H q v ss n) (e : Same H H') : RunsAt H' q v ss n := let ⟨ps, a, b, c⟩ := R; ⟨ps, e _ _ a, b, fun i p h => e _ _ (c i p h)⟩
/-- the runs as seen from the value -/
def Runs0 (H : Hp) (q : Addr) (ss : List Sd) (n : Nat) : Prop := ∃ ps : List Addr, H q = some (.lst (ps.map V.ref)) ∧ ps.length = n + 1 ∧ ∀ (i : Nat) (p : Addr), ps[i]? = some p → H p = some (pairV (runN ss i).1 (runN ss i).2)
theorem Runs0.same {H H' : Hp} {q : Addr} {ss : List Sd} {n : Nat} (R : Runs0 H q ss n) (e : Same H H') : Runs0 H' q ss n := let ⟨ps, a, b, c⟩ := R; ⟨ps, e _ _ a, b, fun i p h => e _ _ (c i p h)⟩
theorem eqv_two (a b c d : Int) : PyData.eqv (.tuple [.int a, .int b]) (.tuple [.int c, .int d]) = decide (a = c ∧ b = d) := by
  simp only [PyData.eqv, PyData.eqvAll, Bool.and_true]
  by_cases x : a = c <;> by_cases y : b = d <;> simp [x, y]
theorem dpPair {K : PySem.W.Frag} {H : Hp} {p : Addr} {a b : Int} (h : H p = some (pairV a b)) : Dp K H (.ref p) (.tuple [.int a, .int b]) := .tup (SqT.of h) (.cons (.int _) (.cons (.int _) .nil))
theorem shaped_two (a b : Int) : SeqAt.shaped (.tuple [.int a, .int b]) = true := rfl
def spRuns : Sp := fun vs H Q _ => ∃ (l : Addr) (xs : List V) (ss : List Sd) (v : Int), vs = [.ref l, .int v] ∧ SidesAt H l xs ss ∧ (-2 ^ 690 < v ∧ v < 2 ^ 690) ∧
  ∀ (q : Addr) (n : Nat) (H' : Hp), H q = none → Same H H' → RunsTo (ss.map (movD (-v))) n → RunsAt H' q v (ss.map (movD (-v))) n → Q (.ref q) H'
section
variable {P : Program} {w : World} {K : PySem.W.Frag} {mg : Str → Option Value} {base : Heap} {aM c0 fC fB fV fN fW fS : Addr} {dC dB dV dN dW dS : FuncData}
theorem ok_runs {f : Addr} {fd : FuncData} (F : Fun K "_runs" "_runs" s_runs f fd) (B : Blt mg) (hMH : ∃ t, mg "MOST_HANDOVERS" = some (.int 1000 t)) (Mo : Cal P w K mg base "moved" 2 ["side", "by"] spMoved fB dB) (Wi : Cal P w K mg base "_widened" 4 ["sides", "run"] spWid fC dC) : FnOk P w K mg base CX0 5 f fd ["sides", "value"] spRuns := by
  refine F.ok sc_runs (fun vs H Q E h => ?_) (fun cdv A outer s0 H vs Q E hr h => ?_)
  · obtain ⟨l, xs, ss, v, rfl, _⟩ := h
    rfl
  · obtain ⟨l, xs, ss, v, rfl, SS, hv, q⟩ := h
    have nd := sc_runs.nd
    obtain ⟨tmh, hmh⟩ := hMH
    refine ⟨_, (pss_cons (ps_setLc (i := 3) (own := [("side", 2)]) (g := gName 2) (tt := tYes) rfl nd rfl rfl (sw_true rfl rfl rfl (by decide +kernel)) (pi_list (pv 0)) (blkOk_by (N := ["sides", "value", "side", "near", "runs", "many", "run", "least", "greatest"]) (sc := defScope s_runs) (by decide +kernel)) (fun _ _ _ _ _ => pg_name (i := 2) nd rfl (Or.inl rfl)) (fun _ _ _ _ _ => pts_nil) (fun _ _ _ _ _ => (pcl Mo hr (by decide) (by rfl) (pa_cons (pv 2) (pa_cons (pe_un un_neg (pv 1)) pa_nil)))))
      (pss_cons (ps_set (i := 4) nd rfl (Or.inl rfl) (pe_lst (pa_cons (pe_tup (pa_cons pe_int (pa_cons pe_int pa_nil))) pa_nil)))
      (pss_cons (ps_mid (ps_for PassesOwn.never rfl (pi_range1 (by rfl) B.range (pa_cons (pe_op op_add (pe_glob (v := .int 1000) (by rfl) hmh ⟨_, rfl⟩) pe_int) pa_nil)) (pg_name (i := 5) nd rfl (Or.inl rfl)) (pss_cons (ps_set (i := 6) nd rfl (Or.inl rfl) (pcl Wi hr (by decide) (by rfl) (pa_cons (pv 3) (pa_cons (pe_ix ix_list (pv 4) (pv 5) (fun _ _ => rfl)) pa_nil))))
      (pss_cons (ps_if (pt_cmpR (op_eqD hr.units) (pv 6) (pe_ix ix_list (pv 4) (pv 5) (fun _ _ => rfl)) (nomark _)) (pss_one ps_break) pss_nil)
      (pss_one (ps_expr (pe_bm PySem.F.plainAttrs_list PySem.F.slot_list_append PySem.F.type_list_append mt_append (pv 4) (pa_cons (pv 6) pa_nil))))))))
      (pss_one (ps_ret (pe_lc (own := [("least", 7), ("greatest", 8)]) (g := (gTup K 2 (gCons (gName 7) (gCons (gName 8) gNil)))) (tt := tYes) rfl nd (pi_list (pv 4)) (blkOk_by (N := ["sides", "value", "side", "near", "runs", "many", "run", "least", "greatest"]) (sc := defScope s_runs) (by decide +kernel)) (fun _ _ _ _ _ => pg_tup (by rfl) (pgs_cons (pg_name (i := 7) nd rfl (Or.inl rfl)) (pgs_cons (pg_name (i := 8) nd rfl (Or.inl rfl)) pgs_nil))) (fun _ _ _ _ _ => pts_nil) (fun _ _ _ _ _ => (pe_tup (pa_cons (pe_op op_add (pv 1) (pv 7)) (pa_cons (pe_op op_add (pv 1) (pv 8)) pa_nil)))))))))), ?_⟩
    walk_at "rd"
    refine ⟨⟨_, SqL.of SS.hl⟩, fun L nL => ?_⟩
    refine lc_list (K := K) (a := l) (xs := xs) (fun i H3 => ∃ ys : List V, H3 L = some (.lst ys) ∧ ys.length = ((ss.take i).map (movD (-v))).length ∧ i ≤ ss.length ∧ Same H H3 ∧ (∀ (j : Nat) (d : Sd), ((ss.take i).map (movD (-v)))[j]? = some d → ∃ p : Addr, ys[j]? = some (V.ref p) ∧ H3 p = some (sideV d.o d.s d.m) ∧ SideP d.o d.s d.m))
      ⟨[], upd_same, rfl, Nat.zero_le _, fun b u z => (upd_ne (ne_of_none z nL)).trans z, fun j d z => by simp at z⟩ (fun _ _ _ ⟨_, _, _, _, sm, _⟩ => SqL.of (sm _ _ SS.hl)) ?_ ?_
    · rintro i y H3 hy ⟨ys, hD, ly, li, sm, at_⟩
      obtain ⟨d, p, ed, rfl, hp, sp⟩ := SS.item hy
      have il : i < ss.length := (List.getElem?_eq_some_iff.mp ed).1
      refine ⟨rfl, ?_⟩
      walk_at "rd"
      refine ⟨p, d, -v, rfl, sm _ _ hp, sp, fun b H4 nb s34 hb => ?_⟩
      have hD4 := s34 _ _ hD
      have es : (ss.take (i + 1)).map (movD (-v)) = (ss.take i).map (movD (-v)) ++ [movD (-v) d] := by
        rw [List.take_succ, ed, List.map_append]
        rfl
      walk_at "rd"
      refine ⟨_, hD4, ?_, ys ++ [.ref b], upd_same, ?_, il, ?_, ?_⟩
      · rw [ly, List.length_map]
        exact Nat.lt_of_le_of_lt (Nat.le_trans (List.length_take_le' _ _) SS.l4) (by decide)
      · rw [es, List.length_append, List.length_append, ly]
        rfl
      · intro c u y
        exact (upd_ne (ne_of_none y nL)).trans (s34 _ _ (sm _ _ y))
      · rw [es]
        exact grow_side (d := movD (-v) d) at_ ly (fun c u y nb => (upd_ne nb).trans (s34 _ _ y)) hD ((upd_ne (ne_of hb hD4 (by intro y; cases y))).trans hb) (side_mov _ sp)
    rintro H3 ⟨ys, hD, ly, li, sm, at_⟩
    rw [SS.len, List.take_length] at ly at_
    have N3 : SidesAt H3 L ys (ss.map (movD (-v))) := ⟨hD, ly, by rw [List.length_map]; exact SS.l1, by rw [List.length_map]; exact SS.l4, at_⟩
    generalize ss.map (movD (-v)) = ns at N3 q
    clear at_ ly hD
    walk_at "rd"
    refine ⟨(by show 2 ≤ sizeLine; decide), fun p0 n0 => ?_⟩
    have w4 : Same H3 (upd H3 p0 (pairV 0 0)) := fun b u z => (upd_ne (ne_of_none z n0)).trans z
    have g4 : upd H3 p0 (pairV 0 0) p0 = some (pairV 0 0) := upd_same
    change (tNil _ (upd H3 p0 (pairV 0 0)) _)
    generalize upd H3 p0 (pairV 0 0) = H4 at w4 g4 ⊢
    walk_at "rd"
    refine ⟨(by show 1 ≤ sizeLine; decide), fun R nR => ?_⟩
    have w5 : Same H4 (upd H4 R (.lst [.ref p0])) := fun b u z => (upd_ne (ne_of_none z nR)).trans z
    have g5 : upd H4 R (.lst [.ref p0]) R = some (.lst [.ref p0]) := upd_same
    generalize upd H4 R (.lst [.ref p0]) = H5 at w5 g5 ⊢
    have t5 : Same H H5 := sm.trans (w4.trans w5)
    have N5 := (N3.same w4).same w5
    have R5 : Runs0 H5 R ns 0 := ⟨[p0], g5, rfl, fun i p e => by
      cases i with
      | zero => cases e; exact w5 _ _ g4
      | succ i => cases e⟩
    have RH : H R = none := by
      cases z : H R with
      | none => rfl
      | some u => rw [w4 _ _ (sm _ _ z)] at nR; cases nR
    walk_at "rd"
    refine ⟨fun st H' => ∃ (x2 x5 x6 x7 x8 : Option V) (n : Nat), st = [some (.ref l), some (.int v), x2, some (.ref L), some (.ref R), x5, x6, x7, x8] ∧ RunsTo ns n ∧ Runs0 H' R ns n ∧ Same H H', ?_, ?_⟩
    · walk_at "rd"
      refine ⟨by decide, by decide, ?_⟩
      refine for_range (n := 1001) (fun i st H' => ∃ x5 x6 : Option V, st = [some (.ref l), some (.int v), none, some (.ref L), some (.ref R), x5, x6, none, none] ∧ (∀ j, j < i → runN ns (j + 1) ≠ runN ns j) ∧ Runs0 H' R ns i ∧ Same H H' ∧ SidesAt H' L ys ns) ⟨none, none, rfl, fun j z => absurd z (Nat.not_lt_zero _), R5, t5, N5⟩ ?_ ?_
      · rintro i st H' hi ⟨x5, x6, rfl, grow, ⟨ps, hR, lp, ap⟩, t6, N6⟩
        obtain ⟨p1, e1⟩ : ∃ p1, ps[i]? = some p1 := ⟨ps[i]'(by omega), List.getElem?_eq_getElem _⟩
        have hp1 := ap i p1 e1
        have bd := run_bd N6.side i
        have e2 : atI (ps.map V.ref) ((0 : Int) + (i : Int)) = some (V.ref p1) := by
          rw [Int.zero_add]
          exact atI_nat (by rw [List.getElem?_map, e1]; rfl)
        walk_at "rd"
        refine ⟨R, _, _, _, rfl, rfl, SqL.of hR, e2, ?_⟩
        walk_at "rd"
        refine ⟨L, p1, ys, ns, runN ns i, rfl, N6, hp1, by omega, by omega, fun p2 H7 n2 s7 h2 => ?_⟩
        walk_at "rd"
        refine ⟨R, _, _, _, rfl, rfl, SqL.of (s7 _ _ hR), e2, ?_⟩
        refine ⟨_, _, dpPair h2, dpPair (s7 _ _ hp1), shaped_two _ _, shaped_two _ _, ?_⟩
        rw [eqv_two]
        walk_at "rd"
        refine ite2 (fun z => ?_) (fun z => ?_)
        · have e := of_decide_eq_true z
          have e3 : runN ns (i + 1) = runN ns i := Prod.ext e.1 e.2
          exact ⟨_, _, _, _, _, i, rfl, ⟨by omega, grow, .inr e3⟩, ⟨ps, s7 _ _ hR, lp, fun i p e => s7 _ _ (ap i p e)⟩, t6.trans s7⟩
        · have ne : runN ns (i + 1) ≠ runN ns i := fun e => by
            have e3 : (widF ns (runN ns i)).1 = (runN ns i).1 ∧ (widF ns (runN ns i)).2 = (runN ns i).2 := ⟨congrArg Prod.fst e, congrArg Prod.snd e⟩
            exact z (decide_eq_true e3)
          walk_at "rd"
          refine ⟨.inl ⟨rfl, _, SqL.of (s7 _ _ hR)⟩, ?_⟩
          walk_at "rd"
          refine ⟨R, _, .ref p2, rfl, rfl, s7 _ _ hR, (by rw [List.length_map, lp]; exact Nat.lt_of_le_of_lt (by omega : i + 1 ≤ 1001) (by decide)), ?_⟩
          have nRp : R ≠ p2 := fun e => by rw [← e, hR] at n2; cases n2
          have keep : ∀ {c : Addr} {u : HO}, c ≠ R → H7 c = some u → upd H7 R (.lst (ps.map V.ref ++ [.ref p2])) c = some u := fun {c u} e z => (upd_ne e).trans z
          refine ⟨_, _, rfl, fun j hj => ?_, ⟨ps ++ [p2], by rw [List.map_append]; exact upd_same, by rw [List.length_append, lp]; rfl, fun j p ej => ?_⟩, fun c u y => ?_, ?_⟩
          · rcases Nat.lt_or_eq_of_le (Nat.le_of_lt_succ hj) with y | y
            · exact grow j y
            · rw [y]; exact ne
          · by_cases y : j < ps.length
            · rw [List.getElem?_append_left y] at ej
              have hj := s7 _ _ (ap j p ej)
              exact keep (fun e => by rw [e, s7 _ _ hR] at hj; cases hj) hj
            · rw [List.getElem?_append_right (by omega)] at ej
              have j0 : j - ps.length = 0 := by
                have := (List.getElem?_eq_some_iff.mp ej).1
                simp at this
                omega
              rw [j0] at ej
              cases ej
              have ej2 : j = i + 1 := by omega
              rw [ej2]
              exact keep nRp.symm h2
          · exact keep (ne_of_none y RH) (s7 _ _ (t6 _ _ y))
          · have N7 := N6.same s7
            have nLR : L ≠ R := fun e => by
              have z := N5.hl
              rw [e, g5] at z
              have z2 : [V.ref p0] = ys := by cases z; rfl
              have z3 := N5.len
              have z4 := N5.at_
              have z5 := N3.hl
              rw [e] at z5
              rw [w4 _ _ z5] at nR
              cases nR
            refine ⟨keep nLR N7.hl, N7.len, N7.l1, N7.l4, fun j d e => ?_⟩
            obtain ⟨p, a, b, c⟩ := N7.at_ j d e
            exact ⟨p, a, keep (fun e => by rw [e, s7 _ _ hR] at b; cases b) b, c⟩
      · rintro st H' ⟨x5, x6, rfl, grow, R6, t6, _⟩
        exact ⟨_, _, _, _, _, 1001, rfl, ⟨Nat.le_refl _, grow, .inl rfl⟩, R6, t6⟩
    · rintro st H' ⟨x2, x5, x6, x7, x8, n, rfl, to, ⟨ps, hR, lp, ap⟩, t6⟩
      have n1 := to.le
      walk_at "rd"
      refine ⟨⟨_, SqL.of hR⟩, fun D nD => ?_⟩
      refine lc_list (K := K) (a := R) (xs := ps.map V.ref) (fun i H3 => ∃ qs : List Addr, H3 D = some (.lst (qs.map V.ref)) ∧ qs.length = i ∧ i ≤ n + 1 ∧ Same H' H3 ∧ ∀ (j : Nat) (q : Addr), qs[j]? = some q → H3 q = some (pairV (v + (runN ns j).1) (v + (runN ns j).2)))
        ⟨[], upd_same, rfl, Nat.zero_le _, fun b u z => (upd_ne (ne_of_none z nD)).trans z, fun j d z => by simp at z⟩ (fun _ _ _ ⟨_, _, _, _, sm, _⟩ => SqL.of (sm _ _ hR)) ?_ ?_
      · rintro i y H3 hy ⟨qs, hD, lq, li, sm3, aq⟩
        rw [List.getElem?_map] at hy
        obtain ⟨p1, e1, rfl⟩ := Option.map_eq_some_iff.mp hy
        have il : i < ps.length := (List.getElem?_eq_some_iff.mp e1).1
        refine ⟨p1, _, rfl, SqT.of (sm3 _ _ (ap i p1 e1)), rfl, _, _, rfl, _, _, rfl, rfl, ?_⟩
        refine ⟨rfl, ?_⟩
        walk_at "rd"
        refine ⟨(by show 2 ≤ sizeLine; decide), fun t nt => ?_⟩
        have wt : ∀ {c : Addr} {u w2 : HO}, H3 c = some u → upd H3 t w2 c = some u := fun {c u w2} z => (upd_ne (ne_of_none z nt)).trans z
        have nDt : D ≠ t := ne_of_none hD nt
        refine ⟨_, wt hD, (by rw [List.length_map, lq]; exact Nat.lt_of_le_of_lt (by omega : i ≤ 1001) (by decide)), qs ++ [t], by rw [List.map_append]; exact upd_same, by rw [List.length_append, lq]; rfl, by omega, fun c u y => (upd_ne (ne_of_none y nD)).trans (wt (sm3 _ _ y)), fun j q2 ej => ?_⟩
        by_cases y : j < qs.length
        · rw [List.getElem?_append_left y] at ej
          have hj := aq j q2 ej
          exact (upd_ne (fun e => by rw [e, hD] at hj; cases hj)).trans (wt hj)
        · rw [List.getElem?_append_right (by omega)] at ej
          have j0 : j - qs.length = 0 := by
            have := (List.getElem?_eq_some_iff.mp ej).1
            simp at this
            omega
          rw [j0] at ej
          cases ej
          have ej2 : j = i := by omega
          rw [ej2]
          exact (upd_ne nDt.symm).trans upd_same
      · rintro H3 ⟨qs, hD, lq, li, sm3, aq⟩
        rw [List.length_map, lp] at lq
        walk_at "rd"
        have DH : H D = none := by
          cases z : H D with
          | none => rfl
          | some u => rw [t6 _ _ z] at nD; cases nD
        exact q D n H3 DH (t6.trans sm3) to ⟨qs, hD, lq, aq⟩
end
end HT
namespace HT
open PySem L2
/-- what lies of a run within N of the value -/
def clipN (N : Int) (r : Int × Int) : Int × Int := (if r.1 < -N then -N else r.1, if N < r.2 then N else r.2)
def oI : Option Int → V
  | none => .non
  | some x => .int x
def loE (v N : Int) (r : Int × Int) : Option Int := if (clipN N r).1 = -N then none else some (v + (clipN N r).1)
def hiE (v N : Int) (r : Int × Int) : Option Int := if (clipN N r).2 = N then none else some (v + (clipN N r).2)
def TooE (N : Int) (ns : List Sd) (n : Nat) : Prop := n = 1001 ∧ clipN N (runN ns 1000) ≠ clipN N (runN ns 1001)
def spWin : Sp := fun vs H Q _ => ∃ (p w : Addr) (a b c d : Int), vs = [.ref p, .ref w] ∧ H p = some (pairV a b) ∧ H w = some (pairV c d) ∧ ∀ (q : Addr) (H' : Hp), H q = none → Same H H' → H' q = some (pairV (if a < c then c else a) (if d < b then d else b)) → Q (.ref q) H'
theorem clip_at (v N a b : Int) : (if v + a < v - N then v - N else v + a) = v + (clipN N (a, b)).1 ∧ (if v + N < v + b then v + N else v + b) = v + (clipN N (a, b)).2 := by
  unfold clipN
  constructor
  · by_cases h : a < -N
    · rw [if_pos h, if_pos (by omega)]; omega
    · rw [if_neg h, if_neg (by omega)]
  · by_cases h : N < b
    · rw [if_pos h, if_pos (by omega)]
    · rw [if_neg h, if_neg (by omega)]
def spEndsX (C : Nat → Addr) : Sp := fun vs H Q E => ∃ (l q : Addr) (xs : List V) (ss ns : List Sd) (v : Int) (n : Nat), vs = [.ref l, .int v, .ref q] ∧ SidesAt H l xs ss ∧ RunsTo ns n ∧ RunsAt H q v ns n ∧
  ((TooE (comN ss) ns n ∧ ∀ H', Same H H' → E (.ref (C 2)) none H') ∨ (¬ TooE (comN ss) ns n ∧ ∀ (p : Addr) (H' : Hp), H p = none → Same H H' → H' p = some (.tup [oI (loE v (comN ss) (runN ns n)), oI (hiE v (comN ss) (runN ns n))]) → Q (.ref p) H'))
section
variable {P : Program} {w : World} {K : PySem.W.Frag} {mg : Str → Option Value} {base : Heap} {aM c0 fC fB fV fN fW fS Bx : Addr} {dC dB dV dN dW dS : FuncData} {C : Nat → Addr}
theorem ok_win {f : Addr} {fd : FuncData} (F : Fun K "_within" "_within" s_within f fd) (MT : MaxT mg) : FnOk P w K mg base CX0 1 f fd ["run", "window"] spWin := by
  refine F.ok sc_within (fun vs H Q E h => ?_) (fun cdv A outer s0 H vs Q E hr h => ?_)
  · obtain ⟨p, x, a, b, c, d, rfl, _⟩ := h
    rfl
  · obtain ⟨p, x, a, b, c, d, rfl, hp, hx, q⟩ := h
    have nd := sc_within.nd
    refine ⟨_, (pss_one (ps_ret (pe_tup (pa_cons (pe_callB (call_max2 rfl) (by rfl) MT.max (by decide +kernel) (pa_cons (pe_ix ix_tup (pv 0) pe_int (fun _ _ => rfl)) (pa_cons (pe_ix ix_tup (pv 1) pe_int (fun _ _ => rfl)) pa_nil))) (pa_cons (pe_callB (call_min2 rfl) (by rfl) MT.min (by decide +kernel) (pa_cons (pe_ix ix_tup (pv 0) pe_int (fun _ _ => rfl)) (pa_cons (pe_ix ix_tup (pv 1) pe_int (fun _ _ => rfl)) pa_nil))) pa_nil))))), ?_⟩
    walk_at "rd"
    refine ⟨p, _, 0, _, rfl, rfl, SqT.of hp, rfl, ?_⟩
    walk_at "rd"
    refine ⟨x, _, 0, _, rfl, rfl, SqT.of hx, rfl, ?_⟩
    refine ⟨_, _, rfl, ?_⟩
    walk_at "rd"
    refine ⟨p, _, 1, _, rfl, rfl, SqT.of hp, rfl, ?_⟩
    walk_at "rd"
    refine ⟨x, _, 1, _, rfl, rfl, SqT.of hx, rfl, ?_⟩
    refine ⟨_, _, rfl, ?_⟩
    walk_at "rd"
    refine ⟨(by show 2 ≤ sizeLine; decide), fun n nn => ?_⟩
    exact q n _ nn (fun c u z => (upd_ne (ne_of_none z nn)).trans z) upd_same
theorem ok_ends_x {f : Addr} {fd : FuncData} (F : Fun K "_ends" "_ends" s_ends f fd) (B : Blt mg) (R : Er K mg C Bx) (hMH : ∃ t, mg "MOST_HANDOVERS" = some (.int 1000 t)) (Cp : Cal P w K mg base "common_period" 2 ["sides"] spPerL fB dB) (Wi : Cal P w K mg base "_within" 1 ["run", "window"] spWin fC dC) : FnOk P w K mg base (L2.CX P w) 3 f fd ["sides", "value", "runs"] (spEndsX C) := by
  refine F.okAny sc_ends (fun vs H Q E h => ?_) (fun cdv A outer s0 H vs Q E hr h => ?_)
  · obtain ⟨l, q, xs, ss, ns, v, n, rfl, _⟩ := h
    rfl
  · obtain ⟨l, q, xs, ss, ns, v, n, rfl, SS, to, ⟨ps, hR, lp, ap⟩, k⟩ := h
    have nd := sc_ends.nd
    obtain ⟨tmh, hmh⟩ := hMH
    refine ⟨_, (pss_cons (ps_set (i := 3) nd rfl (Or.inl rfl) (pcl Cp hr (by decide) (by rfl) (pa_cons (pv 0) pa_nil)))
      (pss_cons (ps_set (i := 4) nd rfl (Or.inl rfl) (pe_tup (pa_cons (pe_op op_sub (pv 1) (pv 3)) (pa_cons (pe_op op_add (pv 1) (pv 3)) pa_nil))))
      (pss_cons (ps_mid (ps_if (pt_cmpR op_gt (pe_callB call_len_seq (by rfl) B.len PySem.boot_len (pa_cons (pv 2) pa_nil)) (pe_op op_add (pe_glob (v := .int 1000) (by rfl) hmh ⟨_, rfl⟩) pe_int) (nomark _)) (pss_one (ps_if (pt_cmpR (op_neD hr.units) (pcl Wi hr (by decide) (by rfl) (pa_cons (pe_ix ix_list (pv 2) (pe_glob (v := .int 1000) (by rfl) hmh ⟨_, rfl⟩) (fun _ _ => rfl)) (pa_cons (pv 4) pa_nil))) (pcl Wi hr (by decide) (by rfl) (pa_cons (pe_ix ix_list (pv 2) (pe_op op_add (pe_glob (v := .int 1000) (by rfl) hmh ⟨_, rfl⟩) pe_int) (fun _ _ => rfl)) (pa_cons (pv 4) pa_nil))) (nomark _)) (pss_one (ps_raise rfl (takes_of rfl rfl rfl rfl) (pmk_own PySem.F.excBase_ValueError (R.ex 2 (by decide)) R.g2 (R.kp 2 (by decide)) (raises_own (R.sb 2 (by decide)) (R.ty 2 (by decide))) (by rfl)))) pss_nil)) pss_nil))
      (pss_cons (ps_asg (pcl Wi hr (by decide) (by rfl) (pa_cons (pe_ix ix_list (pv 2) (pe_op op_sub (pe_callB call_len_seq (by rfl) B.len PySem.boot_len (pa_cons (pv 2) pa_nil)) pe_int) (fun _ _ => rfl)) (pa_cons (pv 4) pa_nil))) (pg_tup (by rfl) (pgs_cons (pg_name (i := 5) nd rfl (Or.inl rfl)) (pgs_cons (pg_name (i := 6) nd rfl (Or.inl rfl)) pgs_nil))))
      (pss_one (ps_ret (pe_tup (pa_cons (pe_ifExp (pt_cmpR op_eq (pv 5) (pe_ix ix_tup (pv 4) pe_int (fun _ _ => rfl)) (nomark _)) pe_non (pv 5)) (pa_cons (pe_ifExp (pt_cmpR op_eq (pv 6) (pe_ix ix_tup (pv 4) pe_int (fun _ _ => rfl)) (nomark _)) pe_non (pv 6)) pa_nil))))))))), ?_⟩
    walk_at "rd"
    refine ⟨l, xs, ss, rfl, SS.toL, ?_⟩
    have N0 : (0 : Int) ≤ (comN ss : Int) := Int.natCast_nonneg _
    generalize (comN ss : Int) = N at N0 k ⊢
    walk_at "rd"
    refine ⟨(by show 2 ≤ sizeLine; decide), fun wi nwi => ?_⟩
    have w1 : Same H (upd H wi (pairV (v - N) (v + N))) := fun b u z => (upd_ne (ne_of_none z nwi)).trans z
    have gw : upd H wi (pairV (v - N) (v + N)) wi = some (pairV (v - N) (v + N)) := upd_same
    change (gName 4 _ _ (upd H wi (pairV (v - N) (v + N))) _)
    generalize upd H wi (pairV (v - N) (v + N)) = H1 at w1 gw ⊢
    have n1 := to.le
    have cl : ∀ a b : Int, pairV (if v + a < v - N then v - N else v + a) (if v + N < v + b then v + N else v + b) = pairV (v + (clipN N (a, b)).1) (v + (clipN N (a, b)).2) := fun a b => by rw [(clip_at v N a b).1, (clip_at v N a b).2]
    refine ⟨fun st H' => st = [some (.ref l), some (.int v), some (.ref q), some (.int N), some (.ref wi), none, none] ∧ Same H H' ∧ H' wi = some (pairV (v - N) (v + N)) ∧ ¬ TooE N ns n, ?_, ?_⟩
    · walk_at "rd"
      refine ⟨q, _, rfl, .inl (SqL.of (w1 _ _ hR)), ?_⟩
      walk_at "rd"
      refine ite2 (fun z => ?_) (fun z => ?_)
      · have big := of_decide_eq_true z
        rw [List.length_map, lp] at big
        have e1 : n = 1001 := by omega
        subst e1
        obtain ⟨pa, ea⟩ : ∃ pa, ps[1000]? = some pa := ⟨ps[1000]'(by omega), List.getElem?_eq_getElem _⟩
        obtain ⟨pb, eb⟩ : ∃ pb, ps[1001]? = some pb := ⟨ps[1001]'(by omega), List.getElem?_eq_getElem _⟩
        have ha := ap _ _ ea
        have hb := ap _ _ eb
        walk_at "rd"
        refine ⟨q, _, 1000, _, rfl, rfl, SqL.of (w1 _ _ hR), atI_nat (j := 1000) (by rw [List.getElem?_map, ea]; rfl), ?_⟩
        walk_at "rd"
        refine ⟨pa, wi, _, _, _, _, rfl, w1 _ _ ha, gw, fun c1 H2 nc1 s2 h2 => ?_⟩
        rw [cl] at h2
        walk_at "rd"
        refine ⟨q, _, 1001, _, rfl, rfl, SqL.of (s2 _ _ (w1 _ _ hR)), atI_nat (j := 1001) (by rw [List.getElem?_map, eb]; rfl), ?_⟩
        walk_at "rd"
        refine ⟨pb, wi, _, _, _, _, rfl, s2 _ _ (w1 _ _ hb), s2 _ _ gw, fun c2 H3 nc2 s3 h3 => ?_⟩
        rw [cl] at h3
        refine ⟨_, _, dpPair (s3 _ _ h2), dpPair h3, shaped_two _ _, shaped_two _ _, ?_⟩
        rw [eqv_two]
        walk_at "rd"
        refine ite2 (fun z => ?_) (fun z => ?_)
        · rcases k with ⟨_, k⟩ | ⟨no, _⟩
          · exact k H3 (w1.trans (s2.trans s3))
          · exfalso
            refine no ⟨rfl, fun e => ?_⟩
            have e2 : (clipN N ((runN ns 1000).fst, (runN ns 1000).snd)).fst = (clipN N ((runN ns 1001).fst, (runN ns 1001).snd)).fst := congrArg Prod.fst e
            have e3 : (clipN N ((runN ns 1000).fst, (runN ns 1000).snd)).snd = (clipN N ((runN ns 1001).fst, (runN ns 1001).snd)).snd := congrArg Prod.snd e
            have t : decide (v + (clipN N ((runN ns 1000).fst, (runN ns 1000).snd)).fst = v + (clipN N ((runN ns 1001).fst, (runN ns 1001).snd)).fst ∧ v + (clipN N ((runN ns 1000).fst, (runN ns 1000).snd)).snd = v + (clipN N ((runN ns 1001).fst, (runN ns 1001).snd)).snd) = true := decide_eq_true ⟨by omega, by omega⟩
            rw [t] at z
            cases z
        · have t := not_f z
          have t2 := of_decide_eq_true t
          refine ⟨rfl, w1.trans (s2.trans s3), s3 _ _ (s2 _ _ gw), fun y => y.2 (Prod.ext ?_ ?_)⟩
          · have := t2.1
            show (clipN N ((runN ns 1000).fst, (runN ns 1000).snd)).fst = (clipN N ((runN ns 1001).fst, (runN ns 1001).snd)).fst
            omega
          · have := t2.2
            show (clipN N ((runN ns 1000).fst, (runN ns 1000).snd)).snd = (clipN N ((runN ns 1001).fst, (runN ns 1001).snd)).snd
            omega
      · have small := of_decide_eq_false (by simpa using z : decide ((1001 : Int) < ((ps.map V.ref).length : Int)) = false)
        rw [List.length_map, lp] at small
        refine ⟨rfl, w1, gw, fun y => ?_⟩
        have := y.1
        omega
    · rintro st H2 ⟨rfl, s2, g2, no⟩
      obtain ⟨pn, en⟩ : ∃ pn, ps[n]? = some pn := ⟨ps[n]'(by omega), List.getElem?_eq_getElem _⟩
      have hn := ap _ _ en
      walk_at "rd"
      refine ⟨q, _, rfl, .inl (SqL.of (s2 _ _ hR)), ?_⟩
      walk_at "rd"
      have ei : atI (ps.map V.ref) (((ps.map V.ref).length : Int) - 1) = some (V.ref pn) := by
        have e : ((ps.map V.ref).length : Int) - 1 = (n : Int) := by rw [List.length_map, lp]; omega
        rw [e]
        exact atI_nat (by rw [List.getElem?_map, en]; rfl)
      refine ⟨q, _, _, _, rfl, rfl, SqL.of (s2 _ _ hR), ei, ?_⟩
      walk_at "rd"
      refine ⟨pn, wi, _, _, _, _, rfl, s2 _ _ hn, g2, fun c H3 nc s3 h3 => ?_⟩
      rw [cl] at h3
      refine ⟨c, _, rfl, SqT.of h3, rfl, _, _, rfl, _, _, rfl, rfl, ?_⟩
      have g3 := s3 _ _ g2
      walk_at "rd"
      rcases k with ⟨y, _⟩ | ⟨_, k⟩
      · exact absurd y no
      have lo1 : v + (clipN N ((runN ns n).fst, (runN ns n).snd)).fst = v - N → oI (loE v N (runN ns n)) = .non := fun e => by
        unfold loE
        rw [if_pos (by show (clipN N ((runN ns n).fst, (runN ns n).snd)).fst = -N; omega)]
        rfl
      have lo2 : ¬ v + (clipN N ((runN ns n).fst, (runN ns n).snd)).fst = v - N → oI (loE v N (runN ns n)) = .int (v + (clipN N ((runN ns n).fst, (runN ns n).snd)).fst) := fun e => by
        unfold loE
        rw [if_neg (by show ¬ (clipN N ((runN ns n).fst, (runN ns n).snd)).fst = -N; omega)]
        rfl
      have hi1 : v + (clipN N ((runN ns n).fst, (runN ns n).snd)).snd = v + N → oI (hiE v N (runN ns n)) = .non := fun e => by
        unfold hiE
        rw [if_pos (by show (clipN N ((runN ns n).fst, (runN ns n).snd)).snd = N; omega)]
        rfl
      have hi2 : ¬ v + (clipN N ((runN ns n).fst, (runN ns n).snd)).snd = v + N → oI (hiE v N (runN ns n)) = .int (v + (clipN N ((runN ns n).fst, (runN ns n).snd)).snd) := fun e => by
        unfold hiE
        rw [if_neg (by show ¬ (clipN N ((runN ns n).fst, (runN ns n).snd)).snd = N; omega)]
        rfl
      generalize oI (loE v N (runN ns n)) = lo at lo1 lo2 k
      generalize oI (hiE v N (runN ns n)) = hi at hi1 hi2 k
      have fin : ∀ (p : Addr), H3 p = none → Q (.ref p) (upd H3 p (.tup [lo, hi])) := fun p np =>
        k p _ (s2.free (s3.free np)) (s2.trans (s3.trans fun c u z => (upd_ne (ne_of_none z np)).trans z)) upd_same
      walk_at "rd"
      refine ⟨wi, _, 0, _, rfl, rfl, SqT.of g3, rfl, ?_⟩
      refine ⟨rfl, ?_⟩
      walk_at "rd"
      refine ite2 (fun z => ?_) (fun z => ?_)
      · have e1 := lo1 (int_t z)
        walk_at "rd"
        refine ⟨wi, _, 1, _, rfl, rfl, SqT.of g3, rfl, ?_⟩
        refine ⟨rfl, ?_⟩
        walk_at "rd"
        refine ite2 (fun z => ?_) (fun z => ?_)
        · have e2 := hi1 (int_t z)
          walk_at "rd"
          refine ⟨(by show 2 ≤ sizeLine; decide), fun p np => ?_⟩
          rw [e1, e2] at fin
          exact fin p np
        · have e2 := hi2 (int_f z)
          walk_at "rd"
          refine ⟨(by show 2 ≤ sizeLine; decide), fun p np => ?_⟩
          rw [e1, e2] at fin
          exact fin p np
      · have e1 := lo2 (int_f z)
        walk_at "rd"
        refine ⟨wi, _, 1, _, rfl, rfl, SqT.of g3, rfl, ?_⟩
        refine ⟨rfl, ?_⟩
        walk_at "rd"
        refine ite2 (fun z => ?_) (fun z => ?_)
        · have e2 := hi1 (int_t z)
          walk_at "rd"
          refine ⟨(by show 2 ≤ sizeLine; decide), fun p np => ?_⟩
          rw [e1, e2] at fin
          exact fin p np
        · have e2 := hi2 (int_f z)
          walk_at "rd"
          refine ⟨(by show 2 ≤ sizeLine; decide), fun p np => ?_⟩
          rw [e1, e2] at fin
          exact fin p np
end
end HT
namespace HT
open PySem L2
/-- over enumerate of a list that the body leaves as it is -/
theorem for_enumL {K : PySem.W.Frag} {a : Addr} {xs : List V} {g : TG} {tb : TS} {D : Ends} {σ : St} {H : Hp} (Pv : Nat → St → Hp → Prop) (h0 : Pv 0 σ H) (hl : ∀ i σ H, i ≤ xs.length → Pv i σ H → SqL K H a xs)
    (hs : ∀ i x σ H, xs[i]? = some x → Pv i σ H → ∀ T, H T = none → g (.ref T) σ (upd H T (.tup [.int (i : Nat), x])) fun σ2 H2 => tb { D with nx := Pv (i + 1), ct := Pv (i + 1), bk := D.nx } σ2 H2) (hd : ∀ σ H, Pv xs.length σ H → D.nx σ H) :
    ∃ W : Nat → Nat → St → Hp → Prop, (∃ m, W 0 m σ H) ∧ ∀ i m σ H, W i m σ H →
      ((Ite K a).stop i H ∧ D.nx σ H) ∨ ((Ite K a).go i H ∧ ∃ N : St → Hp → Prop, (∀ σ' H', N σ' H' → ∃ m', m' < m ∧ W (i + 1) m' σ' H') ∧ ∀ x H', (Ite K a).yld i H x H' → g x σ H' fun σ2 H2 => tb { D with nx := N, ct := N, bk := D.nx } σ2 H2) := by
  refine ⟨fun i m σ H => m = xs.length - i ∧ i ≤ xs.length ∧ Pv i σ H, ⟨xs.length, by simp, Nat.zero_le _, h0⟩, ?_⟩
  rintro i m σ H ⟨rfl, le, p⟩
  have q := hl i σ H le p
  by_cases lt : i < xs.length
  · refine .inr ⟨⟨xs, xs[i], q, by simp [lt]⟩, Pv (i + 1), fun σ' H' p' => ⟨xs.length - (i + 1), by omega, rfl, lt, p'⟩, fun x H' y => ?_⟩
    obtain ⟨T, x', rfl, nT, rfl, e⟩ := y
    exact hs i x' σ H (e xs q) p T nT
  · have e : i = xs.length := by omega
    subst e
    exact .inl ⟨⟨xs, q, Nat.le_refl _⟩, hd σ H p⟩
def lowF : Option Int → Int → Bool
  | none, _ => true
  | some x, s => decide (x ≤ s)
def highF : Option Int → Int → Bool
  | none, _ => true
  | some x, s => decide (s ≤ x)
def holdsF (lo hi : Option Int) (s : Int) : Bool := lowF lo s && highF hi s
def inR (v : Int) (ns : List Sd) (s : Int) (i : Nat) : Prop := v + (runN ns i).1 ≤ s ∧ s ≤ v + (runN ns i).2
instance (v : Int) (ns : List Sd) (s : Int) (i : Nat) : Decidable (inR v ns s i) := by unfold inR; infer_instance
def spHolds : Sp := fun vs H Q _ => ∃ (p : Addr) (lo hi : Option Int) (s : Int), vs = [.ref p, .int s] ∧ H p = some (.tup [oI lo, oI hi]) ∧ Q (.bl (holdsF lo hi s)) H
def spFewX (C : Nat → Addr) : Sp := fun vs H Q E => ∃ (l q : Addr) (xs : List V) (ss ns : List Sd) (s v : Int) (n : Nat), vs = [.ref l, .int s, .int v, .ref q] ∧ SidesAt H l xs ss ∧ RunsTo ns n ∧ RunsAt H q v ns n ∧
  (∀ i, i ≤ n → i ≤ 1000 → inR v ns s i → (∀ j, j < i → ¬ inR v ns s j) → ∀ H', Same H H' → Q (.int (i : Int)) H') ∧
  ((∀ i, i ≤ n → i ≤ 1000 → ¬ inR v ns s i) → ∀ H', Same H H' → (TooE (comN ss) ns n → E (.ref (C 2)) none H') ∧ (¬ TooE (comN ss) ns n → (holdsF (loE v (comN ss) (runN ns n)) (hiE v (comN ss) (runN ns n)) s = true → E (.ref (C 2)) none H') ∧ (holdsF (loE v (comN ss) (runN ns n)) (hiE v (comN ss) (runN ns n)) s = false → Q .non H')))
section
variable {P : Program} {w : World} {K : PySem.W.Frag} {mg : Str → Option Value} {base : Heap} {aM c0 fC fB fV fN fW fS Bx : Addr} {dC dB dV dN dW dS : FuncData} {C : Nat → Addr}
end
end HT
namespace HT
open PySem L2
section
variable {P : Program} {w : World} {K : PySem.W.Frag} {mg : Str → Option Value} {base : Heap} {aM c0 fC fB fV fN fW fS Bx : Addr} {dC dB dV dN dW dS : FuncData} {C : Nat → Addr}
theorem ok_holds {f : Addr} {fd : FuncData} (F : Fun K "_holds" "_holds" s_holds f fd) : FnOk P w K mg base CX0 1 f fd ["ends", "value"] spHolds := by
  refine F.ok sc_holds (fun vs H Q E h => ?_) (fun cdv A outer s0 H vs Q E hr h => ?_)
  · obtain ⟨p, lo, hi, s, rfl, _⟩ := h
    rfl
  · obtain ⟨p, lo, hi, s, rfl, hp, q⟩ := h
    have nd := sc_holds.nd
    refine ⟨_, (pss_cons (ps_asg (pv 0) (pg_tup (by rfl) (pgs_cons (pg_name (i := 2) nd rfl (Or.inl rfl)) (pgs_cons (pg_name (i := 3) nd rfl (Or.inl rfl)) pgs_nil))))
      (pss_one (ps_ret (pe_and (pe_or (pe_cmpR op_isN (pv 2) pe_non (nomark _)) (pe_one (pe_cmpR op_le (pv 2) (pv 1) (nomark _)))) (pe_one (pe_or (pe_cmpR op_isN (pv 3) pe_non (nomark _)) (pe_one (pe_cmpR op_le (pv 1) (pv 3) (nomark _))))))))), ?_⟩
    walk_at "rd"
    refine ⟨p, _, rfl, SqT.of hp, rfl, _, _, rfl, _, _, rfl, rfl, ?_⟩
    unfold holdsF at q
    have dn : ∀ x : Int, decide (oI (some x) = V.non) = false := fun x => decide_eq_false fun z => nomatch (show V.int x = V.non from z)
    have d0 : decide (oI none = V.non) = true := rfl
    have not_f2 : ∀ {b : Bool}, ¬ b = true → b = false := fun {b} z => by cases b <;> simp_all
    have second : ∀ H1 : Hp, Q (.bl (highF hi s)) H1 → tOrV (tOp (fun x y H Q => y = V.non ∧ Q (V.bl (decide (x = V.non))) H) (tVar 3) (tC V.non)) (tOp (rI0 fun i j => V.bl (decide (i ≤ j))) (tVar 1) (tVar 3)) [some (.ref p), some (.int s), some (oI lo), some (oI hi)] H1 Q := fun H1 k => by
      refine ⟨_, rfl, rfl, ?_⟩
      cases hi with
      | none =>
        refine ⟨true, rfl, ?_⟩
        exact k
      | some y =>
        refine ⟨_, rfl, ?_⟩
        rw [dn, if_neg (by decide)]
        walk_at "rd"
        exact k
    walk_at "rd"
    refine ⟨rfl, ?_⟩
    cases lo with
    | none =>
      refine ⟨true, rfl, ?_⟩
      refine ⟨true, rfl, ?_⟩
      exact second H q
    | some x =>
      refine ⟨_, rfl, ?_⟩
      rw [dn, if_neg (by decide)]
      walk_at "rd"
      refine ite2 (fun z => ?_) (fun z => ?_)
      · have e : lowF (some x) s = true := z
        rw [e] at q
        exact second H q
      · have e : lowF (some x) s = false := not_f2 z
        rw [e] at q
        have e2 : decide (x ≤ s) = false := e
        exact q
end
end HT
namespace HT
open PySem L2
theorem good_of {H : Hp} {l : Addr} {xs : List V} {ss : List Sd} (S : SidesAt H l xs ss) : GoodL H l xs := ⟨S.hl, by have := S.l1; have := S.len; omega, by have := S.l4; have := S.len; omega, fun y hy => by
  obtain ⟨i, hi, e⟩ := List.mem_iff_getElem.mp hy
  obtain ⟨d, p, ed, e2, hp, sp⟩ := S.item (i := i) (y := y) (by rw [← e]; exact List.getElem?_eq_getElem hi)
  exact ⟨p, d.o, d.s, d.m, e2, hp, sp⟩⟩
/-- what before tells, and its errors -/
def spBefX (K : PySem.W.Frag) (C : Nat → Addr) : Sp := fun vs H Q E => ∃ x y : V, vs = [x, y] ∧ ((BadL K H x ∧ E (.ref (C 1)) none H) ∨ (∃ l xs n, x = .ref l ∧ GoodL H l xs ∧ Th H y n ∧ isI n = false ∧ E (.ref (C 3)) none H) ∨
  (∃ l xs ss v, x = .ref l ∧ SidesAt H l xs ss ∧ y = .int v ∧ (-2 ^ 690 < v ∧ v < 2 ^ 690) ∧ ∀ n, RunsTo (ss.map (movD (-v))) n →
    (TooE (comN ss) (ss.map (movD (-v))) n → ∀ H', Same H H' → E (.ref (C 2)) none H') ∧
    (¬ TooE (comN ss) (ss.map (movD (-v))) n → ∀ (p : Addr) (H' : Hp), H p = none → Same H H' → H' p = some (.tup [oI (loE v (comN ss) (runN (ss.map (movD (-v))) n)), oI (hiE v (comN ss) (runN (ss.map (movD (-v))) n))]) → Q (.ref p) H')))
/-- route's errors -/
def spRouX (K : PySem.W.Frag) (C : Nat → Addr) : Sp := fun vs H _ E => ∃ x y z : V, vs = [x, y, z] ∧ ((BadL K H x ∧ E (.ref (C 1)) none H) ∨ (∃ l xs n, x = .ref l ∧ GoodL H l xs ∧ Th H y n ∧ isI n = false ∧ E (.ref (C 3)) none H) ∨
  (∃ l xs n s, x = .ref l ∧ GoodL H l xs ∧ y = .int s ∧ Th H z n ∧ isI n = false ∧ E (.ref (C 3)) none H) ∨
  (∃ l xs ss s v, x = .ref l ∧ SidesAt H l xs ss ∧ y = .int s ∧ z = .int v ∧ (-2 ^ 690 < v ∧ v < 2 ^ 690) ∧ (∀ n, RunsTo (ss.map (movD (-v))) n → (∀ i, i ≤ n → i ≤ 1000 → ¬ inR v (ss.map (movD (-v))) s i) ∧
    (TooE (comN ss) (ss.map (movD (-v))) n ∨ holdsF (loE v (comN ss) (runN (ss.map (movD (-v))) n)) (hiE v (comN ss) (runN (ss.map (movD (-v))) n)) s = true)) ∧ ∀ H', Same H H' → E (.ref (C 2)) none H'))
section
variable {P : Program} {w : World} {K : PySem.W.Frag} {mg : Str → Option Value} {base : Heap} {aM c0 fC fB fV fN fW fS Bx : Addr} {dC dB dV dN dW dS : FuncData} {C : Nat → Addr}
theorem ok_before_x {f : Addr} {fd : FuncData} (F : Fun K "before" "before" s_before f fd) (Ls : CalX P w K mg base "check_sides" 5 ["sides"] (spSidesX K C) fB dB) (Vl : CalX P w K mg base "check_value" 2 ["value"] (spValX C) fV dV) (Ru : Cal P w K mg base "_runs" 5 ["sides", "value"] spRuns fN dN) (En : CalX P w K mg base "_ends" 3 ["sides", "value", "runs"] (spEndsX C) fC dC) : FnOk P w K mg base (L2.CX P w) 6 f fd ["sides", "value"] (spBefX K C) := by
  refine F.okAny sc_before (fun vs H Q E h => ?_) (fun cdv A outer s0 H vs Q E hr h => ?_)
  · obtain ⟨x, y, rfl, _⟩ := h
    rfl
  · obtain ⟨x, y, rfl, h⟩ := h
    have nd := sc_before.nd
    refine ⟨_, (pss_cons (ps_expr (pcx Ls hr (by decide) (by rfl) (takes_of rfl rfl rfl rfl) (pa_cons (pv 0) pa_nil)))
      (pss_cons (ps_expr (pcx Vl hr (by decide) (by rfl) (takes_of rfl rfl rfl rfl) (pa_cons (pv 1) pa_nil)))
      (pss_one (ps_ret (pcx En hr (by decide) (by rfl) (takes_of rfl rfl rfl rfl) (pa_cons (pv 0) (pa_cons (pv 1) (pa_cons (pcl Ru hr (by decide) (by rfl) (pa_cons (pv 0) (pa_cons (pv 1) pa_nil))) pa_nil)))))))), ?_⟩
    walk_at "rd"
    rcases h with ⟨bad, q⟩ | ⟨l, xs, n, rfl, gl, ty, ni, q⟩ | ⟨l, xs, ss, v, rfl, SS, rfl, vb, k⟩
    · exact .inr ⟨bad, q⟩
    · refine .inl ⟨l, xs, rfl, gl, ?_⟩
      walk_at "rd"
      exact ⟨_, n, rfl, ty, fun z => absurd z (by rw [ni]; decide), fun _ => q⟩
    refine .inl ⟨l, xs, rfl, good_of SS, ?_⟩
    walk_at "rd"
    refine ⟨_, _, rfl, .int _, fun _ => ?_, fun z => absurd z (by decide)⟩
    walk_at "rd"
    refine ⟨l, xs, ss, v, rfl, SS, vb, fun q n H1 nq s1 to RA => ?_⟩
    walk_at "rd"
    refine ⟨l, q, xs, ss, _, v, n, rfl, SS.same s1, to, RA, ?_⟩
    by_cases many : TooE (comN ss) (ss.map (movD (-v))) n
    · exact .inl ⟨many, fun H2 s2 => (k n to).1 many H2 (s1.trans s2)⟩
    · exact .inr ⟨many, fun p H2 np s2 hp => (k n to).2 many p H2 (s1.free np) (s1.trans s2) hp⟩
end
end HT
namespace HT
open PySem L2
def wD (d : Sd) (x : Int) : Int := dueM d.o d.s d.m x
end HT
namespace HT
open PySem L2
theorem due_leW {o s v w : Int} {m : Str} (hm : Mode m) (hs : 1 ≤ s) (h : v ≤ w) : dueM o s m v ≤ dueM o s m w := by
  have key : ∀ n : Nat, dueM o s m v ≤ dueM o s m (v + n) := fun n => by
    induction n with
    | zero => rw [Int.natCast_zero, Int.add_zero]; exact Int.le_refl _
    | succ n ih =>
      refine Int.le_trans ih ?_
      rw [show v + ((n + 1 : Nat) : Int) = v + n + 1 by omega]
      exact due_mono hm hs
  have := key (w - v).toNat
  rwa [show v + ((w - v).toNat : Int) = w by omega] at this
theorem back_iffW {o s v y : Int} {m : Str} (hm : Mode m) (hs : 1 ≤ s) : backM o s m v ≤ y ↔ v ≤ dueM o s m y := by
  constructor
  · intro h
    exact Int.le_trans (back_ge hm hs) (due_leW hm hs h)
  · intro h
    by_cases z : backM o s m v ≤ y
    · exact z
    · exfalso
      have h1 := due_leW (o := o) (m := m) hm hs (show y ≤ backM o s m v - 1 by omega)
      have h2 := back_lt (o := o) (v := v) hm hs
      omega
theorem due_due {o s v : Int} {m : Str} (hm : Mode m) (hs : 1 ≤ s) : dueM o s m (dueM o s m v) = dueM o s m v :=
  (due_eq hm hs).mp (by unfold dueM; exact stands_at)
theorem due_tr {o s v t : Int} {m : Str} : dueM (o + t) s m (v + t) = dueM o s m v + t := by
  unfold dueM figM
  rw [show v + t - (o + t) = v - o by omega]
  omega
theorem due_mov {d : Sd} (S : SideP d.o d.s d.m) (b x : Int) : dueM (movD b d).o (movD b d).s (movD b d).m x = dueM d.o d.s d.m (x - b) + b := by
  have p := perM_bd S
  have e1 : (d.o + b) % perM d.s d.m = d.o + b - perM d.s d.m * ((d.o + b) / perM d.s d.m) := by
    have := Int.emod_add_mul_ediv (d.o + b) (perM d.s d.m)
    omega
  have key : ∀ j : Int, (d.m ≠ "half_even" ∨ j % 2 = 0) → d.o + b - perM d.s d.m * ((d.o + b) / perM d.s d.m) = d.o + b + d.s * j → dueM ((d.o + b) % perM d.s d.m) d.s d.m x = dueM d.o d.s d.m (x - b) + b := fun j hj e => by
    rw [e1, e, due_shift S.md S.s0 hj]
    have := due_tr (o := d.o) (s := d.s) (m := d.m) (v := x - b) (t := b)
    rwa [show x - b + b = x by omega] at this
  by_cases he : d.m = "half_even"
  · refine key (-(2 * ((d.o + b) / perM d.s d.m))) (.inr (by omega)) ?_
    have : perM d.s d.m = 2 * d.s := by unfold perM; rw [if_pos he]
    rw [this, Int.mul_neg, Int.mul_comm 2 d.s, Int.mul_assoc]
    omega
  · refine key (-((d.o + b) / perM d.s d.m)) (.inl he) ?_
    have : perM d.s d.m = d.s := by unfold perM; rw [if_neg he]
    rw [this, Int.mul_neg]
    omega
/-- whether a side's values before the run are any -/
def NeR (r : Int × Int) (d : Sd) : Prop := backM d.o d.s d.m r.1 ≤ backM d.o d.s d.m (r.2 + 1) - 1
theorem wid_in {ns : List Sd} {r : Int × Int} : ∀ (a : Int × Int), (ns.foldl (widS r) a).1 ≤ a.1 ∧ a.2 ≤ (ns.foldl (widS r) a).2 ∧ ∀ d ∈ ns, NeR r d → (ns.foldl (widS r) a).1 ≤ backM d.o d.s d.m r.1 ∧ backM d.o d.s d.m (r.2 + 1) - 1 ≤ (ns.foldl (widS r) a).2 := by
  induction ns with
  | nil => exact fun a => ⟨Int.le_refl _, Int.le_refl _, fun d hd => by cases hd⟩
  | cons e ns ih =>
    intro a
    have h := ih (widS r a e)
    have b : (widS r a e).1 ≤ a.1 ∧ a.2 ≤ (widS r a e).2 ∧ (NeR r e → (widS r a e).1 ≤ backM e.o e.s e.m r.1 ∧ backM e.o e.s e.m (r.2 + 1) - 1 ≤ (widS r a e).2) := by
      unfold widS NeR
      split
      · refine ⟨?_, ?_, fun _ => ⟨?_, ?_⟩⟩ <;> simp only <;> split <;> omega
      · rename_i n
        exact ⟨Int.le_refl _, Int.le_refl _, fun z => absurd z n⟩
    rw [List.foldl_cons]
    refine ⟨Int.le_trans h.1 b.1, Int.le_trans b.2.1 h.2.1, fun d hd ne => ?_⟩
    rcases List.mem_cons.mp hd with rfl | hd
    · exact ⟨Int.le_trans h.1 (b.2.2 ne).1, Int.le_trans (b.2.2 ne).2 h.2.1⟩
    · exact h.2.2 d hd ne
theorem ne_of_in {r : Int × Int} {d : Sd} (S : SideP d.o d.s d.m) {y : Int} (h1 : r.1 ≤ dueM d.o d.s d.m y) (h2 : dueM d.o d.s d.m y ≤ r.2) : NeR r d ∧ backM d.o d.s d.m r.1 ≤ y ∧ y ≤ backM d.o d.s d.m (r.2 + 1) - 1 := by
  have a := (back_iffW (o := d.o) (v := r.1) (y := y) S.md S.s0).mpr h1
  have b : ¬ backM d.o d.s d.m (r.2 + 1) ≤ y := fun z => by
    have := (back_iffW (o := d.o) (v := r.2 + 1) (y := y) S.md S.s0).mp z
    omega
  exact ⟨by unfold NeR; omega, a, by omega⟩
/-- what a side leads into the run lies in the next one -/
theorem wid_back {ns : List Sd} (hns : ∀ d ∈ ns, SideP d.o d.s d.m) {r : Int × Int} {d : Sd} (hd : d ∈ ns) {y : Int} (h1 : r.1 ≤ dueM d.o d.s d.m y) (h2 : dueM d.o d.s d.m y ≤ r.2) : (widF ns r).1 ≤ y ∧ y ≤ (widF ns r).2 := by
  obtain ⟨ne, a, b⟩ := ne_of_in (hns d hd) h1 h2
  have w := (wid_in (ns := ns) (r := r) r).2.2 d hd ne
  exact ⟨Int.le_trans w.1 a, Int.le_trans b w.2⟩
/-- and what lies in the next one is led into the run, or lies there -/
theorem wid_fro {ns : List Sd} (hns : ∀ d ∈ ns, SideP d.o d.s d.m) {r : Int × Int} {y : Int} (h : (widF ns r).1 ≤ y ∧ y ≤ (widF ns r).2) : (r.1 ≤ y ∧ y ≤ r.2) ∨ ∃ d ∈ ns, r.1 ≤ dueM d.o d.s d.m y ∧ dueM d.o d.s d.m y ≤ r.2 := by
  have key : ∀ (ts : List Sd) (a : Int × Int), (∀ d ∈ ts, d ∈ ns) → a.1 ≤ r.1 → r.2 ≤ a.2 → (∀ y, a.1 ≤ y → y ≤ a.2 → (r.1 ≤ y ∧ y ≤ r.2) ∨ ∃ d ∈ ns, r.1 ≤ dueM d.o d.s d.m y ∧ dueM d.o d.s d.m y ≤ r.2) →
      ∀ y, (ts.foldl (widS r) a).1 ≤ y → y ≤ (ts.foldl (widS r) a).2 → (r.1 ≤ y ∧ y ≤ r.2) ∨ ∃ d ∈ ns, r.1 ≤ dueM d.o d.s d.m y ∧ dueM d.o d.s d.m y ≤ r.2 := by
    intro ts
    induction ts with
    | nil => intro a _ _ _ h; exact h
    | cons d ts ih =>
      intro a hts a1 a2 ha
      have S := hns d (hts d List.mem_cons_self)
      rw [List.foldl_cons]
      by_cases ne : NeR r d
      · have st : r.1 ≤ dueM d.o d.s d.m (backM d.o d.s d.m r.1) ∧ dueM d.o d.s d.m (backM d.o d.s d.m r.1) ≤ r.2 := by
          refine ⟨back_ge S.md S.s0, ?_⟩
          have : ¬ backM d.o d.s d.m (r.2 + 1) ≤ backM d.o d.s d.m r.1 := by unfold NeR at ne; omega
          rw [back_iffW S.md S.s0] at this
          omega
        obtain ⟨_, w1, w2⟩ := ne_of_in (r := r) S (y := dueM d.o d.s d.m (backM d.o d.s d.m r.1)) (by rw [due_due S.md S.s0]; exact st.1) (by rw [due_due S.md S.s0]; exact st.2)
        have pre : ∀ y, backM d.o d.s d.m r.1 ≤ y → y ≤ backM d.o d.s d.m (r.2 + 1) - 1 → r.1 ≤ dueM d.o d.s d.m y ∧ dueM d.o d.s d.m y ≤ r.2 := fun y p1 p2 => by
          refine ⟨(back_iffW S.md S.s0).mp p1, ?_⟩
          have : ¬ backM d.o d.s d.m (r.2 + 1) ≤ y := by omega
          rw [back_iffW S.md S.s0] at this
          omega
        have e : widS r a d = (if backM d.o d.s d.m r.1 < a.1 then backM d.o d.s d.m r.1 else a.1, if a.2 < backM d.o d.s d.m (r.2 + 1) - 1 then backM d.o d.s d.m (r.2 + 1) - 1 else a.2) := by
          unfold widS
          rw [if_pos (show backM d.o d.s d.m r.1 ≤ backM d.o d.s d.m (r.2 + 1) - 1 from ne)]
        refine ih (widS r a d) (fun x hx => hts x (List.mem_cons_of_mem _ hx)) ?_ ?_ ?_
        · rw [e]; simp only; split <;> omega
        · rw [e]; simp only; split <;> omega
        · intro y y1 y2
          rw [e] at y1 y2
          simp only at y1 y2
          by_cases c1 : a.1 ≤ y ∧ y ≤ a.2
          · exact ha y c1.1 c1.2
          · refine .inr ⟨d, hts d List.mem_cons_self, pre y ?_ ?_⟩
            · split at y1 <;> split at y2 <;> omega
            · split at y1 <;> split at y2 <;> omega
      · have e : widS r a d = a := by
          unfold widS
          rw [if_neg (show ¬ backM d.o d.s d.m r.1 ≤ backM d.o d.s d.m (r.2 + 1) - 1 from ne)]
        rw [e]
        exact ih a (fun x hx => hts x (List.mem_cons_of_mem _ hx)) a1 a2 ha
  exact key ns r (fun _ h => h) (Int.le_refl _) (Int.le_refl _) (fun y a b => .inl ⟨a, b⟩) y h.1 h.2
theorem run_mono {ns : List Sd} {j k : Nat} (h : j ≤ k) : (runN ns k).1 ≤ (runN ns j).1 ∧ (runN ns j).2 ≤ (runN ns k).2 := by
  induction k with
  | zero => rw [Nat.le_zero.mp h]; exact ⟨Int.le_refl _, Int.le_refl _⟩
  | succ k ih =>
    have w := wid_in (ns := ns) (r := runN ns k) (runN ns k)
    rcases Nat.lt_or_eq_of_le h with z | z
    · have q := ih (by omega)
      exact ⟨Int.le_trans w.1 q.1, Int.le_trans q.2 w.2.1⟩
    · rw [z]; exact ⟨Int.le_refl _, Int.le_refl _⟩
theorem in_mov {v x : Int} {ss : List Sd} (hss : ∀ d ∈ ss, SideP d.o d.s d.m) {k : Nat} (h : inR v (ss.map (movD (-v))) x (k + 1)) (no : ¬ inR v (ss.map (movD (-v))) x k) : ∃ d ∈ ss, inR v (ss.map (movD (-v))) (wD d x) k := by
  have hns : ∀ d ∈ ss.map (movD (-v)), SideP d.o d.s d.m := fun d hd => by
    obtain ⟨e, he, rfl⟩ := List.mem_map.mp hd
    exact side_mov _ (hss e he)
  unfold inR at h no
  rcases wid_fro hns (r := runN (ss.map (movD (-v))) k) (y := x - v) (by show (runN (ss.map (movD (-v))) (k + 1)).1 ≤ _ ∧ _ ≤ (runN (ss.map (movD (-v))) (k + 1)).2; omega) with z | ⟨d, hd, z1, z2⟩
  · exact absurd (by omega) no
  · obtain ⟨e, he, rfl⟩ := List.mem_map.mp hd
    rw [due_mov (hss e he), show x - v - -v = x by omega] at z1 z2
    refine ⟨e, he, ?_⟩
    unfold inR wD
    omega
theorem mov_in {v x : Int} {ss : List Sd} (hss : ∀ d ∈ ss, SideP d.o d.s d.m) {k : Nat} {d : Sd} (hd : d ∈ ss) (h : inR v (ss.map (movD (-v))) (wD d x) k) : inR v (ss.map (movD (-v))) x (k + 1) := by
  have hns : ∀ d ∈ ss.map (movD (-v)), SideP d.o d.s d.m := fun d hd => by
    obtain ⟨e, he, rfl⟩ := List.mem_map.mp hd
    exact side_mov _ (hss e he)
  unfold inR wD at h
  have z := wid_back hns (r := runN (ss.map (movD (-v))) k) (List.mem_map.mpr ⟨d, hd, rfl⟩) (y := x - v) (by rw [due_mov (hss d hd), show x - v - -v = x by omega]; omega) (by rw [due_mov (hss d hd), show x - v - -v = x by omega]; omega)
  unfold inR
  show v + (widF (ss.map (movD (-v))) (runN (ss.map (movD (-v))) k)).1 ≤ x ∧ x ≤ v + (widF (ss.map (movD (-v))) (runN (ss.map (movD (-v))) k)).2
  omega
end HT
namespace HT
open PySem L2
theorem lt_neW {a b : Int} (h : a ≤ b) (n : a ≠ b) : a < b := by omega
def hiOk (ns : List Sd) (h : Int) : Prop := ∀ e ∈ ns, backM e.o e.s e.m (h + 1) ≤ h + 1
def loOk (ns : List Sd) (l : Int) : Prop := ∀ e ∈ ns, l ≤ backM e.o e.s e.m l
theorem hi_stall {ns : List Sd} {r : Int × Int} (h : hiOk ns r.2) : (widF ns r).2 = r.2 := by
  have key : ∀ (ts : List Sd) (a : Int × Int), (∀ e ∈ ts, e ∈ ns) → a.2 = r.2 → (ts.foldl (widS r) a).2 = r.2 := by
    intro ts
    induction ts with
    | nil => intro a _ e; exact e
    | cons d ts ih =>
      intro a ht e
      rw [List.foldl_cons]
      refine ih _ (fun x hx => ht x (List.mem_cons_of_mem _ hx)) ?_
      have q := h d (ht d List.mem_cons_self)
      unfold widS
      split
      · simp only; split <;> omega
      · exact e
  exact key ns r (fun _ h => h) rfl
theorem lo_stall {ns : List Sd} {r : Int × Int} (h : loOk ns r.1) : (widF ns r).1 = r.1 := by
  have key : ∀ (ts : List Sd) (a : Int × Int), (∀ e ∈ ts, e ∈ ns) → a.1 = r.1 → (ts.foldl (widS r) a).1 = r.1 := by
    intro ts
    induction ts with
    | nil => intro a _ e; exact e
    | cons d ts ih =>
      intro a ht e
      rw [List.foldl_cons]
      refine ih _ (fun x hx => ht x (List.mem_cons_of_mem _ hx)) ?_
      have q := h d (ht d List.mem_cons_self)
      unfold widS
      split
      · simp only; split <;> omega
      · exact e
  exact key ns r (fun _ h => h) rfl
theorem ne_len {r : Int × Int} {d : Sd} (S : SideP d.o d.s d.m) (h : d.s ≤ r.2 - r.1 + 1) : NeR r d := by
  have c := ceil_eq (o := d.o) (v := r.1) S.s0
  have e1 : d.s * (ceilM d.o d.s r.1 - 1) = d.s * ceilM d.o d.s r.1 - d.s := by rw [Int.mul_sub, Int.mul_one]
  have st : dueM d.o d.s d.m (d.o + d.s * ceilM d.o d.s r.1) = d.o + d.s * ceilM d.o d.s r.1 := (due_eq S.md S.s0).mp stands_at
  exact (ne_of_in (r := r) S (y := d.o + d.s * ceilM d.o d.s r.1) (by rw [st]; omega) (by rw [st]; omega)).1
theorem hi_of {ns : List Sd} (hns : ∀ d ∈ ns, SideP d.o d.s d.m) {r : Int × Int} (h : (widF ns r).2 = r.2) (l : ∀ e ∈ ns, e.s ≤ r.2 - r.1 + 1) : hiOk ns r.2 := fun e he => by
  have w := ((wid_in (ns := ns) (r := r) r).2.2 e he (ne_len (hns e he) (l e he))).2
  have h' : (ns.foldl (widS r) r).2 = r.2 := h
  omega
theorem lo_of {ns : List Sd} (hns : ∀ d ∈ ns, SideP d.o d.s d.m) {r : Int × Int} (h : (widF ns r).1 = r.1) (l : ∀ e ∈ ns, e.s ≤ r.2 - r.1 + 1) : loOk ns r.1 := fun e he => by
  have w := ((wid_in (ns := ns) (r := r) r).2.2 e he (ne_len (hns e he) (l e he))).1
  have h' : (ns.foldl (widS r) r).1 = r.1 := h
  omega
theorem run_len {ns : List Sd} {n : Nat} (ne : ∀ j, j < n → runN ns (j + 1) ≠ runN ns j) : ∀ k : Nat, k ≤ n → (k : Int) ≤ (runN ns k).2 - (runN ns k).1
  | 0, _ => by show ((0 : Nat) : Int) ≤ 0 - 0; omega
  | k + 1, h => by
    have a := run_len ne k (by omega)
    have m := run_mono (ns := ns) (Nat.le_succ k)
    have d := ne k (by omega)
    by_cases e1 : (runN ns (k + 1)).1 = (runN ns k).1
    · by_cases e2 : (runN ns (k + 1)).2 = (runN ns k).2
      · exact absurd (Prod.ext e1 e2) d
      · show ((k + 1 : Nat) : Int) ≤ _
        have := m.2
        have : (runN ns k).2 < (runN ns (k + 1)).2 := by show (runN ns k).2 < (runN ns (k + 1)).2; have := m.2; show _; exact lt_neW m.2 (fun z => e2 z.symm)
        have m1 : (runN ns (k + 1)).1 ≤ (runN ns k).1 := m.1
        omega
    · have : (runN ns (k + 1)).1 < (runN ns k).1 := lt_neW m.1 e1
      have m2 : (runN ns k).2 ≤ (runN ns (k + 1)).2 := m.2
      omega
theorem hi_ever {ns : List Sd} {j : Nat} (h : hiOk ns (runN ns j).2) : ∀ k, (runN ns (j + k)).2 = (runN ns j).2
  | 0 => rfl
  | k + 1 => by
    have a := hi_ever h k
    show (widF ns (runN ns (j + k))).2 = _
    rw [hi_stall (by rw [a]; exact h), a]
theorem lo_ever {ns : List Sd} {j : Nat} (h : loOk ns (runN ns j).1) : ∀ k, (runN ns (j + k)).1 = (runN ns j).1
  | 0 => rfl
  | k + 1 => by
    have a := lo_ever h k
    show (widF ns (runN ns (j + k))).1 = _
    rw [lo_stall (by rw [a]; exact h), a]
/-- the high end stands at a turn, or has gone up at each of them -/
theorem hi_or {ns : List Sd} (hns : ∀ d ∈ ns, SideP d.o d.s d.m) {n : Nat} (ne : ∀ j, j < n → runN ns (j + 1) ≠ runN ns j) (c : Nat) (hc : ∀ d ∈ ns, d.s ≤ (c : Int) + 1) : ∀ k : Nat, c + k ≤ n → (∃ j, j < c + k ∧ c ≤ j ∧ hiOk ns (runN ns j).2) ∨ (k : Int) ≤ (runN ns (c + k)).2
  | 0, _ => .inr (by have := run_mono (ns := ns) (Nat.zero_le (c + 0)); show ((0 : Nat) : Int) ≤ _; have z : (runN ns 0).2 = 0 := rfl; omega)
  | k + 1, h => by
    rcases hi_or hns ne c hc k (by omega) with ⟨j, a, b, q⟩ | a
    · exact .inl ⟨j, by omega, b, q⟩
    · by_cases e : (runN ns (c + k + 1)).2 = (runN ns (c + k)).2
      · refine .inl ⟨c + k, by omega, by omega, hi_of hns e fun d hd => ?_⟩
        have := run_len ne (c + k) (by omega)
        have := hc d hd
        omega
      · have m := (run_mono (ns := ns) (Nat.le_succ (c + k))).2
        have : (runN ns (c + k)).2 < (runN ns (c + k + 1)).2 := lt_neW m fun z => e z.symm
        exact .inr (by show ((k + 1 : Nat) : Int) ≤ (runN ns (c + k + 1)).2; omega)
theorem lo_or {ns : List Sd} (hns : ∀ d ∈ ns, SideP d.o d.s d.m) {n : Nat} (ne : ∀ j, j < n → runN ns (j + 1) ≠ runN ns j) (c : Nat) (hc : ∀ d ∈ ns, d.s ≤ (c : Int) + 1) : ∀ k : Nat, c + k ≤ n → (∃ j, j < c + k ∧ c ≤ j ∧ loOk ns (runN ns j).1) ∨ (runN ns (c + k)).1 ≤ -(k : Int)
  | 0, _ => .inr (by have := run_mono (ns := ns) (Nat.zero_le (c + 0)); show _ ≤ -((0 : Nat) : Int); have z : (runN ns 0).1 = 0 := rfl; omega)
  | k + 1, h => by
    rcases lo_or hns ne c hc k (by omega) with ⟨j, a, b, q⟩ | a
    · exact .inl ⟨j, by omega, b, q⟩
    · by_cases e : (runN ns (c + k + 1)).1 = (runN ns (c + k)).1
      · refine .inl ⟨c + k, by omega, by omega, lo_of hns e fun d hd => ?_⟩
        have := run_len ne (c + k) (by omega)
        have := hc d hd
        omega
      · have m := (run_mono (ns := ns) (Nat.le_succ (c + k))).1
        have : (runN ns (c + k + 1)).1 < (runN ns (c + k)).1 := lt_neW m e
        exact .inr (by show (runN ns (c + k + 1)).1 ≤ -((k + 1 : Nat) : Int); omega)
theorem hi_under {ns : List Sd} (hns : ∀ d ∈ ns, SideP d.o d.s d.m) {y : Int} (y1 : 1 ≤ y) (h : ∀ e ∈ ns, y ≤ dueM e.o e.s e.m y) : ∀ k, (runN ns k).2 < y
  | 0 => by show (0 : Int) < y; omega
  | k + 1 => by
    have a := hi_under hns y1 h k
    have key : ∀ (ts : List Sd) (b : Int × Int), (∀ e ∈ ts, e ∈ ns) → b.2 < y → (ts.foldl (widS (runN ns k)) b).2 < y := by
      intro ts
      induction ts with
      | nil => intro b _ e; exact e
      | cons d ts ih =>
        intro b ht e
        rw [List.foldl_cons]
        refine ih _ (fun x hx => ht x (List.mem_cons_of_mem _ hx)) ?_
        have hd := ht d List.mem_cons_self
        have S := hns d hd
        have q := (back_iffW (o := d.o) (v := (runN ns k).2 + 1) (y := y) S.md S.s0).mpr (by have := h d hd; omega)
        unfold widS
        split
        · simp only; split <;> omega
        · exact e
    exact key ns _ (fun _ h => h) a
theorem back_per {o s v : Int} {m : Str} (hm : Mode m) (hs : 1 ≤ s) (t : Int) : dueM o s m (v + perM s m * t) = dueM o s m v + perM s m * t := by
  by_cases he : m = "half_even"
  · have e : perM s m = 2 * s := by unfold perM; rw [if_pos he]
    have h := due_shift (o := o) (s := s) (m := m) (v := v + perM s m * t) (j := 2 * t) hm hs (.inr (by omega))
    have h2 := due_tr (o := o) (s := s) (m := m) (v := v) (t := perM s m * t)
    rw [← h, ← h2, e]
    congr 1
    rw [Int.mul_assoc, Int.mul_left_comm]
  · have e : perM s m = s := by unfold perM; rw [if_neg he]
    have h := due_shift (o := o) (s := s) (m := m) (v := v + perM s m * t) (j := t) hm hs (.inl he)
    have h2 := due_tr (o := o) (s := s) (m := m) (v := v) (t := perM s m * t)
    rw [← h, ← h2, e]
/-- an end that stands lies within a period -/
theorem hi_far {ns : List Sd} (hns : ∀ d ∈ ns, SideP d.o d.s d.m) {N : Int} (hN : ∀ d ∈ ns, ∃ t, N = perM d.s d.m * t) (N1 : 1 ≤ N) {k : Nat} (h : hiOk ns (runN ns k).2) : (runN ns k).2 < N := by
  by_cases z : (runN ns k).2 < N
  · exact z
  · exfalso
    have y := hi_under hns (y := (runN ns k).2 + 1 - N) (by omega) (fun e he => by
      obtain ⟨t, ht⟩ := hN e he
      have S := hns e he
      have a := (back_iffW (o := e.o) (v := (runN ns k).2 + 1) (y := (runN ns k).2 + 1) S.md S.s0).mp (h e he)
      have b := back_per (o := e.o) (v := (runN ns k).2 + 1 - N) S.md S.s0 t
      rw [← ht, show (runN ns k).2 + 1 - N + N = (runN ns k).2 + 1 by omega] at b
      omega) k
    omega
theorem com_dvd (ss : List Sd) : ∀ (n : Nat), n ∣ ss.foldl (fun n d => n.lcm (perN d)) n ∧ ∀ d ∈ ss, perN d ∣ ss.foldl (fun n d => n.lcm (perN d)) n := by
  induction ss with
  | nil => exact fun n => ⟨Nat.dvd_refl _, fun d hd => by cases hd⟩
  | cons e ss ih =>
    intro n
    rw [List.foldl_cons]
    have a := ih (n.lcm (perN e))
    refine ⟨Nat.dvd_trans (Nat.dvd_lcm_left _ _) a.1, fun d hd => ?_⟩
    rcases List.mem_cons.mp hd with rfl | hd
    · exact Nat.dvd_trans (Nat.dvd_lcm_right _ _) a.1
    · exact a.2 d hd
end HT
namespace HT
open PySem L2
theorem perN_eq {d : Sd} (S : SideP d.o d.s d.m) : ((perN d : Nat) : Int) = perM d.s d.m := by
  have := perM_bd S
  unfold perN
  omega
end HT
namespace HT
open PySem L2
def spGreat : Sp := fun vs H Q _ => ∃ (a c : Addr) (t : Nat) (lim : Int), vs = [.ref a, .int lim] ∧ Src H a c t ∧ 0 < lim ∧ t + 5 < 2 ^ 30 ∧
  ∀ k H', 0 ≤ k → k < lim → Src H' a c (t + 5) → Oth a c H H' → Q (.int k) H'
def spTen : Sp := fun vs H Q _ => ∃ (n : Nat), vs = [.int (n : Int)] ∧ n ≤ 1000 ∧ Q (.int (10 ^ n)) H
def spStep : Sp := fun vs H Q _ => ∃ (a c : Addr) (t : Nat) (mo : Int), vs = [.ref a, .int mo] ∧ Src H a c t ∧ 1 ≤ mo ∧ mo ≤ 10 ^ 30 ∧ t + 20 < 2 ^ 30 ∧
  ∀ s H' t', 1 ≤ s → s ≤ mo → t' ≤ t + 20 → Src H' a c t' → Oth a c H H' → Q (.int s) H'
def spSide : Sp := fun vs H Q _ => ∃ (a c : Addr) (t : Nat) (mo : Int), vs = [.ref a, .int mo] ∧ Src H a c t ∧ 1 ≤ mo ∧ mo ≤ 10 ^ 30 ∧ t + 40 < 2 ^ 30 ∧
  ∀ p o s m H' t', H p = none → H' p = some (sideV o s m) → (1 ≤ s ∧ s ≤ mo ∧ -s ≤ o ∧ o < 2 * s ∧ Mode m) → t' ≤ t + 40 → Src H' a c t' → Oth a c H H' → Q (.ref p) H'
theorem lg_small {n : Int} (h0 : 0 ≤ n) (h : n < 2 ^ 64) : n.natAbs.log2 < 9000 := by
  obtain ⟨m, rfl⟩ := Int.eq_ofNat_of_zero_le h0
  exact lg_nat (Nat.lt_of_lt_of_le (by omega : m < 2 ^ 64) (Nat.pow_le_pow_right (by decide) (by decide)))
section
variable {P : Program} {w : World} {K : PySem.W.Frag} {mg : Str → Option Value} {base : Heap} {fD fP fG fT fS : Addr} {dD dP dG dT dS : FuncData}
theorem ok_great {f : Addr} {fd : FuncData} (F : Fun K "_law_great" "_law_great" s_L_great f fd) (B : Blt mg) (D : Cal P w K mg base "_law_draw" 1 ["_law_source_here", "_law_limit"] spDraw fD dD) :
    FnOk P w K mg base CX0 2 f fd ["_law_source_here", "_law_limit"] spGreat := by
  refine F.ok sc_L_great (fun vs H Q E h => ?_) (fun cdv A outer s H vs Q E hr h => ?_)
  · obtain ⟨a, c, t, lim, rfl, _⟩ := h
    rfl
  · obtain ⟨a, c, t, lim, rfl, S, hl, ht, q⟩ := h
    have nd := sc_L_great.nd
    refine ⟨_, pss_cons (ps_set (i := 2) nd rfl (Or.inl rfl) pe_int)
      (pss_cons (ps_for PassesOwn.never rfl (pi_range1 (by rfl) B.range (pa_cons pe_int pa_nil)) (pg_name (i := 3) nd rfl (Or.inl rfl))
        (pss_one (ps_set (i := 2) nd rfl (Or.inl rfl) (pe_op op_add (pe_op op_mul (pv 2) (pe_op op_pow pe_int pe_int)) (pcl D hr (by decide) (by rfl) (pa_cons (pv 0) (pa_cons (pe_op op_pow pe_int pe_int) pa_nil)))))))
      (pss_one (ps_ret (pe_op op_mod (pe_callTy call_int1 (by rfl) B.int (by decide +kernel) (pa_cons (pv 2) pa_nil)) (pv 1))))), ?_⟩
    walk_at "rd"
    refine ⟨by decide, by decide, ?_⟩
    refine for_range (n := 5) (fun i σ H' => ∃ (k : Int) (kv : Option V), σ = [some (.ref a), some (.int lim), some (.int k), kv] ∧ Src H' a c (t + i) ∧ Oth a c H H') ⟨0, none, rfl, S, Oth.refl _ _ _⟩ ?_ ?_
    · rintro i σ H' hi ⟨k, kv, rfl, S', O⟩
      walk_at "rd"
      refine ⟨⟨by decide, by decide, by decide⟩, ?_⟩
      walk_at "rd"
      refine ⟨.inr ⟨by decide, by decide⟩, ?_⟩
      walk_at "rd"
      refine ⟨⟨by decide, by decide, by decide⟩, ?_⟩
      refine ⟨a, c, t + i, _, rfl, S', by omega, (by decide), lg_small (by decide) (by decide), fun y H2 y0 y1 S2 O2 => ?_⟩
      walk_at "rd"
      exact ⟨_, _, rfl, S2, O.trans O2⟩
    · rintro σ H' ⟨k, kv, rfl, S', O⟩
      walk_at "rd"
      refine ⟨hl, ?_⟩
      exact q _ _ (Int.emod_nonneg _ (by omega)) (Int.emod_lt_of_pos _ hl) S' O
theorem ok_ten {f : Addr} {fd : FuncData} (F : Fun K "_law_ten" "_law_ten" s_L_ten f fd) (B : Blt mg) : FnOk P w K mg base CX0 1 f fd ["_law_many"] spTen := by
  refine F.ok sc_L_ten (fun vs H Q E h => ?_) (fun cdv A outer s H vs Q E hr h => ?_)
  · obtain ⟨n, rfl, _⟩ := h
    rfl
  · obtain ⟨n, rfl, hn, q⟩ := h
    have nd := sc_L_ten.nd
    refine ⟨_, pss_cons (ps_set (i := 1) nd rfl (Or.inl rfl) pe_int)
      (pss_cons (ps_for PassesOwn.never rfl (pi_range1 (by rfl) B.range (pa_cons (pv 0) pa_nil)) (pg_name (i := 2) nd rfl (Or.inl rfl))
        (pss_one (ps_set (i := 1) nd rfl (Or.inl rfl) (pe_op op_mul (pv 1) pe_int))))
      (pss_one (ps_ret (pv 1)))), ?_⟩
    walk_at "rd"
    refine ⟨by omega, by omega, ?_⟩
    rw [Int.toNat_natCast]
    refine for_range (fun i σ H' => ∃ (kv : Option V), σ = [some (.int (n : Int)), some (.int (10 ^ i)), kv] ∧ H' = H) ⟨none, rfl, rfl⟩ ?_ ?_
    · rintro i σ H' hi ⟨kv, rfl, rfl⟩
      walk_at "rd"
      refine ⟨.inr ⟨by decide, by decide⟩, ?_⟩
      exact ⟨_, rfl, rfl⟩
    · rintro σ H' ⟨kv, rfl, rfl⟩
      walk_at "rd"
      exact q
end
theorem joint_of {x : V} (h : x ∈ [V.int 1, .int 2, .int 6, .int ((10 : Int) ^ (9 : Int).toNat), .int 360, .int ((2 : Int) ^ (40 : Int).toNat), .int ((10 : Int) ^ (9 : Int).toNat + 7), .int ((10 : Int) ^ (15 : Int).toNat), .int ((3 : Int) ^ (20 : Int).toNat)]) : ∃ j : Int, x = .int j ∧ 1 ≤ j ∧ j ≤ 10 ^ 15 := by
  simp only [List.mem_cons, List.not_mem_nil, or_false] at h
  rcases h with h | h | h | h | h | h | h | h | h <;> exact ⟨_, h, by decide, by decide⟩
theorem pow10_le {n k : Nat} (h : n ≤ k) : (10 : Int) ^ n ≤ 10 ^ k := by
  have z := Nat.pow_le_pow_right (show 0 < 10 by decide) h
  have e : ∀ j : Nat, ((10 ^ j : Nat) : Int) = (10 : Int) ^ j := fun j => Int.natCast_pow 10 j
  rw [← e, ← e]
  omega
theorem sq_bound {a b : Int} (a0 : 1 ≤ a) (b0 : 1 ≤ b) : 1 ≤ a * b := Int.mul_pos a0 b0
section
variable {P : Program} {w : World} {K : PySem.W.Frag} {mg : Str → Option Value} {base : Heap} {fD fP fG fT fS fE fI fW : Addr} {dD dP dG dT dS dE dI dW : FuncData}
theorem ok_step {f : Addr} {fd : FuncData} (F : Fun K "_law_step" "_law_step" s_L_step f fd) (B : Blt mg) (MT : MaxT mg) (D : Cal P w K mg base "_law_draw" 1 ["_law_source_here", "_law_limit"] spDraw fD dD)
    (Pk : Cal P w K mg base "_law_pick" 2 ["_law_source_here", "_law_values"] spPick fP dP) (G : Cal P w K mg base "_law_great" 2 ["_law_source_here", "_law_limit"] spGreat fG dG) (Tn : Cal P w K mg base "_law_ten" 1 ["_law_many"] spTen fT dT) : FnOk P w K mg base CX0 3 f fd ["_law_source_here", "_law_most"] spStep := by
  refine F.ok sc_L_step (fun vs H Q E h => ?_) (fun cdv A outer s H vs Q E hr h => ?_)
  · obtain ⟨a, c, t, mo, rfl, _⟩ := h
    rfl
  · obtain ⟨a, c, t, mo, rfl, S, m0, m1, ht, q⟩ := h
    have nd := sc_L_step.nd
    refine ⟨_, (pss_cons (ps_if (pt_cmpR op_lt (pv 1) pe_int (nomark _)) (pss_one (ps_ret (pe_op op_add pe_int (pcl D hr (by decide) (by rfl) (pa_cons (pv 0) (pa_cons (pv 1) pa_nil)))))) pss_nil)
      (pss_cons (ps_set (i := 2) nd rfl (Or.inl rfl) (pcl Pk hr (by decide) (by rfl) (pa_cons (pv 0) (pa_cons (pe_lst (pa_cons pe_int (pa_cons pe_int (pa_cons pe_int (pa_cons (pe_op op_pow pe_int pe_int) (pa_cons pe_int (pa_cons (pe_op op_pow pe_int pe_int) (pa_cons (pe_op op_add (pe_op op_pow pe_int pe_int) pe_int) (pa_cons (pe_op op_pow pe_int pe_int) (pa_cons (pe_op op_pow pe_int pe_int) pa_nil)))))))))) pa_nil))))
      (pss_one (ps_ret (pe_callB (call_min2 rfl) (by rfl) MT.min (by decide +kernel) (pa_cons (pv 1) (pa_cons (pe_op op_mulW (pv 2) (pe_op op_add pe_int (pcl G hr (by decide) (by rfl) (pa_cons (pv 0) (pa_cons (pcl Tn hr (by decide) (by rfl) (pa_cons (pe_op op_add pe_int (pcl D hr (by decide) (by rfl) (pa_cons (pv 0) (pa_cons pe_int pa_nil)))) pa_nil)) pa_nil))))) pa_nil))))))), ?_⟩
    walk_at "rd"
    refine ite2 (fun h => ?_) (fun h => ?_)
    · have h' := of_decide_eq_true h
      walk_at "rd"
      refine ⟨a, c, t, mo, rfl, S, by omega, by omega, lg_small (by omega) (by omega), fun k H1 k0 k1 S1 O1 => ?_⟩
      walk_at "rd"
      exact q _ _ _ (by omega) (by omega) (by omega) S1 O1
    walk_at "rd"
    refine ⟨⟨by decide, by decide, by decide⟩, ?_⟩
    walk_at "rd"
    refine ⟨⟨by decide, by decide, by decide⟩, ?_⟩
    walk_at "rd"
    refine ⟨⟨by decide, by decide, by decide⟩, ?_⟩
    walk_at "rd"
    refine ⟨⟨by decide, by decide, by decide⟩, ?_⟩
    walk_at "rd"
    refine ⟨⟨by decide, by decide, by decide⟩, ?_⟩
    refine ⟨(by show 9 ≤ sizeLine; decide), fun l nl => ?_⟩
    obtain ⟨la, lc⟩ := S.na nl
    refine ⟨a, c, t, l, _, rfl, S.new nl, by omega, upd_same, la, lc, by decide, by decide, fun x H1 hx S1 O1 => ?_⟩
    obtain ⟨j, rfl, j0, j1⟩ := joint_of hx
    have O1' : Oth a c H H1 := ((Oth.refl a c H).new nl).trans O1
    walk_at "rd"
    refine ⟨a, c, _, 22, rfl, S1, by omega, by decide, lg_small (by decide) (by decide), fun k H2 k0 k1 S2 O2 => ?_⟩
    walk_at "rd"
    refine ⟨(1 + k).toNat, (by show [V.int (1 + k)] = [V.int _]; rw [Int.toNat_of_nonneg (by omega)]), by omega, ?_⟩
    have tp : (1 : Int) ≤ 10 ^ (1 + k).toNat := Int.pow_pos (by decide)
    have tb : (10 : Int) ^ (1 + k).toNat ≤ 10 ^ 22 := pow10_le (by omega)
    refine ⟨a, c, _, _, rfl, S2, by omega, by omega, fun g H3 g0 g1 S3 O3 => ?_⟩
    walk_at "rd"
    refine ⟨mulW (by omega) (by omega), ?_⟩
    refine ⟨_, _, rfl, ?_⟩
    have p1 := sq_bound (a := j) (b := 1 + g) j0 (by omega)
    have fin : ∀ z : Int, 1 ≤ z → z ≤ mo → Q (.int z) H3 := fun z z0 z1 => q z H3 _ z0 z1 (by omega) S3 ((O1'.trans O2).trans O3)
    refine fin _ ?_ ?_
    · split <;> omega
    · split <;> omega
theorem ok_side {f : Addr} {fd : FuncData} (F : Fun K "_law_side" "_law_side" s_L_side f fd) (B : Blt mg) (St : Cal P w K mg base "_law_step" 3 ["_law_source_here", "_law_most"] spStep fS dS)
    (Pk : Cal P w K mg base "_law_pick" 2 ["_law_source_here", "_law_values"] spPick fP dP) (G : Cal P w K mg base "_law_great" 2 ["_law_source_here", "_law_limit"] spGreat fG dG) : FnOk P w K mg base CX0 4 f fd ["_law_source_here", "_law_most"] spSide := by
  refine F.ok sc_L_side (fun vs H Q E h => ?_) (fun cdv A outer s H vs Q E hr h => ?_)
  · obtain ⟨a, c, t, mo, rfl, _⟩ := h
    rfl
  · obtain ⟨a, c, t, mo, rfl, S, m0, m1, ht, q⟩ := h
    have nd := sc_L_side.nd
    refine ⟨_, (pss_cons (ps_set (i := 2) nd rfl (Or.inl rfl) (pcl St hr (by decide) (by rfl) (pa_cons (pv 0) (pa_cons (pv 1) pa_nil))))
      (pss_cons (ps_set (i := 3) nd rfl (Or.inl rfl) (pe_op op_sub (pcl G hr (by decide) (by rfl) (pa_cons (pv 0) (pa_cons (pe_op op_mul pe_int (pv 2)) pa_nil))) (pv 2)))
      (pss_one (ps_ret (pe_tup (pa_cons (pv 3) (pa_cons (pv 2) (pa_cons (pcl Pk hr (by decide) (by rfl) (pa_cons (pv 0) (pa_cons (pe_lst (pa_cons pe_str (pa_cons pe_str (pa_cons pe_str (pa_cons pe_str (pa_cons pe_str pa_nil)))))) pa_nil))) pa_nil)))))))), ?_⟩
    walk_at "rd"
    refine ⟨a, c, t, mo, rfl, S, m0, m1, by omega, fun s H1 t1 s0 s1 ht1 S1 O1 => ?_⟩
    walk_at "rd"
    refine ⟨.inl ⟨by decide, by decide⟩, ?_⟩
    refine ⟨a, c, t1, 3 * s, rfl, S1, by omega, by omega, fun g H2 g0 g1 S2 O2 => ?_⟩
    walk_at "rd"
    refine ⟨(by show 5 ≤ sizeLine; decide), fun l nl => ?_⟩
    obtain ⟨la, lc⟩ := S2.na nl
    refine ⟨a, c, _, l, _, rfl, S2.new nl, by omega, upd_same, la, lc, by decide, by decide, fun x H3 hx S3 O3 => ?_⟩
    obtain ⟨m, rfl, hm⟩ := mode_of hx
    refine ⟨(by show 3 ≤ sizeLine; decide), fun d nd' => ?_⟩
    have O4 : Oth a c H H3 := (O1.trans O2).trans (((Oth.refl a c H2).new nl).trans O3)
    have hdn : H d = none := by
      cases e : H d with
      | none => rfl
      | some u =>
        by_cases da : d = a
        · subst da; rw [S3.ob] at nd'; cases nd'
        · by_cases dc : d = c
          · obtain ⟨cs, hcs, _⟩ := S3.cl
            subst dc; rw [hcs] at nd'; cases nd'
          · rw [O4 _ _ e da dc] at nd'; cases nd'
    exact q d _ s m _ _ hdn upd_same ⟨s0, s1, by omega, by omega, hm⟩ (by omega) (S3.new nd') (O4.new nd')
end
end HT
namespace HT
open PySem L2
def kS (x : Str) : Key := Sum.inr x
def five (a b c d e : V) : List (Key × V) := putK (mergeK [] [(kS "down", a), (kS "up", b), (kS "half_down", c), (kS "half_up", d)]) (kS "half_even") e
theorem five_d {a b c d e : V} : valV (five a b c d e) (kS "down") = some a := by rfl
theorem five_u {a b c d e : V} : valV (five a b c d e) (kS "up") = some b := by rfl
theorem five_hd {a b c d e : V} : valV (five a b c d e) (kS "half_down") = some c := by rfl
theorem five_hu {a b c d e : V} : valV (five a b c d e) (kS "half_up") = some d := by rfl
theorem five_he {a b c d e : V} : valV (five a b c d e) (kS "half_even") = some e := by rfl
theorem five_at {f : Str → V} {m : Str} (hm : Mode m) : valV (five (f "down") (f "up") (f "half_down") (f "half_up") (f "half_even")) (kS m) = some (f m) := by
  rcases hm with e | e | e | e | e <;> subst e
  · exact five_d
  · exact five_u
  · exact five_hd
  · exact five_hu
  · exact five_he
theorem cgt (a b : Int) : decide (a > b) = decide (b < a) := rfl
theorem cge (a b : Int) : decide (a ≥ b) = decide (b ≤ a) := rfl
theorem due_fig {o s v : Int} {m : Str} : dueM o s m v = o + s * ((v - o) / s + if goesUp m s ((v - o) / s) ((v - o) % s) = true then 1 else 0) := by
  unfold dueM figM
  split
  · rfl
  · rw [Int.add_zero]
section
variable {P : Program} {w : World} {K : PySem.W.Frag} {mg : Str → Option Value} {base : Heap} {fD fP fG fT fS fE : Addr} {dD dP dG dT dS dE : FuncData}
end
end HT
namespace HT
open PySem L2
theorem in_two (e a b : Int) : inV (.int e) [.int a, .int b] = (decide (e = a) || decide (e = b)) := by
  show ((a == e) || ((b == e) || false)) = _
  rw [Bool.or_false]
  have f : ∀ x : Int, (x == e) = decide (e = x) := fun x => by
    by_cases h : e = x
    · rw [decide_eq_true h, h]; exact beq_self_eq_true x
    · rw [decide_eq_false h]; exact beq_eq_false_iff_ne.mpr fun z => h z.symm
  rw [f, f]
theorem even_at (a b k : Int) : atI [V.int a, V.int b] (k % 2) = some (.int (if k % 2 = 0 then a else b)) := by
  rcases (by omega : k % 2 = 0 ∨ k % 2 = 1) with h | h
  · rw [h]; rfl
  · rw [h]; rfl
theorem zero_back {o s v : Int} {m : Str} : lowM o s m (0 - (o - v) / s) = backM o s m v := by
  unfold backM ceilM
  rw [Int.zero_sub]
def spEdge : Sp := fun vs H Q _ => ∃ (p : Addr) (o s : Int) (m : Str) (k : Int), vs = [.ref p, .int k] ∧ H p = some (sideV o s m) ∧ SideP o s m ∧ BdK k ∧ ∀ H', Same H H' → Q (.int (lowM o s m k)) H'
def spLeast : Sp := fun vs H Q _ => ∃ (p : Addr) (o s : Int) (m : Str) (v : Int), vs = [.ref p, .int v] ∧ H p = some (sideV o s m) ∧ SideP o s m ∧ (-2 ^ 700 < v ∧ v < 2 ^ 700) ∧ ∀ H', Same H H' → Q (.int (backM o s m v)) H'
section
variable {P : Program} {w : World} {K : PySem.W.Frag} {mg : Str → Option Value} {base : Heap} {fD fP fG fT fS fE : Addr} {dD dP dG dT dS dE : FuncData}
theorem ok_edge {f : Addr} {fd : FuncData} (F : Fun K "_law_edge" "_law_edge" s_L_edge f fd) (B : Blt mg) : FnOk P w K mg base CX0 1 f fd ["_law_side_here", "_law_figure"] spEdge := by
  refine F.ok sc_L_edge (fun vs H Q E h => ?_) (fun cdv A outer s H vs Q E hr h => ?_)
  · obtain ⟨p, o, s, m, k, rfl, _⟩ := h
    rfl
  · obtain ⟨p, o, s, m, k, rfl, hp, S, hk, q⟩ := h
    have nd := sc_L_edge.nd
    have hu := hu_of hr
    refine ⟨_, (pss_cons (ps_asg (pv 0) (pg_tup (by rfl) (pgs_cons (pg_name (i := 2) nd rfl (Or.inl rfl)) (pgs_cons (pg_name (i := 3) nd rfl (Or.inl rfl)) (pgs_cons (pg_name (i := 4) nd rfl (Or.inl rfl)) pgs_nil)))))
      (pss_cons (ps_set (i := 5) nd rfl (Or.inl rfl) (pe_disp (pps_cons pe_str pe_int (pps_cons pe_str (pe_op op_sub (pv 3) pe_int) (pps_cons pe_str (pe_op op_fdiv (pe_op op_sub (pv 3) pe_int) pe_int) (pps_cons pe_str (pe_op op_fdiv (pv 3) pe_int) pps_nil)))) (by rfl) (by rfl) (fun z => by cases z) (by decide)))
      (pss_cons (ps_dput hu (pv 5) pe_str (pe_ix ix_list (pe_lst (pa_cons (pe_op op_fdiv (pv 3) pe_int) (pa_cons (pe_op op_fdiv (pe_op op_sub (pv 3) pe_int) pe_int) pa_nil))) (pe_op op_mod (pe_callTy call_int1 (by rfl) B.int (by decide +kernel) (pa_cons (pv 1) pa_nil)) pe_int) (fun _ _ => rfl)) rfl)
      (pss_one (ps_ret (pe_op op_sub (pe_op op_add (pv 2) (pe_op op_mulW (pv 3) (pv 1))) (pe_dget hu (pv 5) (pv 4) (fun _ _ => rfl)))))))), ?_⟩
    have b0 := S.s0
    have b1 := S.s1
    unfold BdK at hk
    have lk : valV (five (.int 0) (.int (s - 1)) (.int ((s - 1) / 2)) (.int (s / 2)) (.int (if k % 2 = 0 then s / 2 else (s - 1) / 2))) (kS m) = some (V.int (below m s k)) := by
      have := five_at (f := fun m => V.int (below m s k)) S.md
      simp only [be_d, be_u, be_hd, be_hu, be_he] at this
      exact this
    walk_at "rd"
    refine ⟨p, _, rfl, SqT.of hp, rfl, _, _, rfl, _, _, rfl, _, _, rfl, rfl, ?_⟩
    walk_at "rd"
    intro d nd'
    walk_at "rd"
    refine ⟨⟨by decide, by decide⟩, ?_⟩
    walk_at "rd"
    refine ⟨⟨by decide, by decide⟩, ?_⟩
    walk_at "rd"
    refine ⟨upd_same, [(kS "down", .int 0), (kS "up", .int (s - 1)), (kS "half_down", .int ((s - 1) / 2)), (kS "half_up", .int (s / 2))], rfl, (by show 4 ≤ 15; decide), ?_⟩
    walk_at "rd"
    refine ⟨⟨by decide, by decide⟩, ?_⟩
    walk_at "rd"
    refine ⟨⟨by decide, by decide⟩, (by show 2 ≤ sizeLine; decide), fun l hl => ?_⟩
    walk_at "rd"
    refine ⟨(by show (0 : Int) < 2; decide), ?_⟩
    refine ⟨l, _, _, _, rfl, rfl, SqL.of upd_same, even_at _ _ _, ?_⟩
    walk_at "rd"
    refine ⟨d, _, rfl, DPut.k (k := kS "half_even") ((upd_ne (ne_of_none upd_same hl)).trans upd_same) (by show 4 < sizeLine; decide), ?_⟩
    walk_at "rd"
    refine ⟨mulW (by omega) (by omega), ?_⟩
    walk_at "rd"
    refine ⟨d, _, rfl, lk ▸ DGet.k (k := kS m) upd_same, ?_⟩
    walk_at "rd"
    refine q _ fun b u z => ?_
    have nb := ne_of_none z nd'
    have e1 : (upd (upd H d (.dK [])) d (HO.dK (mergeK [] [(kS "down", .int 0), (kS "up", .int (s - 1)), (kS "half_down", .int ((s - 1) / 2)), (kS "half_up", .int (s / 2))]))) b = some u := by rw [upd_ne nb, upd_ne nb]; exact z
    rw [upd_ne nb, upd_ne (ne_of_none e1 hl)]
    exact e1
theorem ok_least {f : Addr} {fd : FuncData} (F : Fun K "_law_least" "_law_least" s_L_least f fd) (Ed : Cal P w K mg base "_law_edge" 1 ["_law_side_here", "_law_figure"] spEdge fE dE) : FnOk P w K mg base CX0 2 f fd ["_law_side_here", "_law_value"] spLeast := by
  refine F.ok sc_L_least (fun vs H Q E h => ?_) (fun cdv A outer s H vs Q E hr h => ?_)
  · obtain ⟨p, o, s, m, v, rfl, _⟩ := h
    rfl
  · obtain ⟨p, o, s, m, v, rfl, hp, S, hv, q⟩ := h
    refine ⟨_, (pss_one (ps_ret (pcl Ed hr (by decide) (by rfl) (pa_cons (pv 0) (pa_cons (pe_op op_sub pe_int (pe_op op_fdivW (pe_op op_sub (pe_ix ix_tup (pv 0) pe_int (fun _ _ => rfl)) (pv 1)) (pe_ix ix_tup (pv 0) pe_int (fun _ _ => rfl)))) pa_nil))))), ?_⟩
    have b0 := S.s0
    have b1 := S.s1
    have b2 := S.o0
    have b3 := S.o1
    have d5 := div_bd (x := o - v) (b := 2 ^ 701) S.s0 (by omega) (by omega)
    walk_at "rd"
    refine ⟨p, _, 0, _, rfl, rfl, SqT.of hp, rfl, ?_⟩
    walk_at "rd"
    refine ⟨p, _, 1, _, rfl, rfl, SqT.of hp, rfl, ?_⟩
    walk_at "rd"
    refine ⟨fdiv_ok _ (by omega) (lg_big (by omega) (by omega)), ?_⟩
    walk_at "rd"
    refine ⟨p, o, s, m, _, rfl, hp, S, (by unfold BdK; omega), fun H1 sm => ?_⟩
    rw [zero_back]
    exact q H1 sm
end
end HT
namespace HT
open PySem L2
def spDiv : Sp := fun vs H Q _ => ∃ a b : Nat, vs = [.int (a : Int), .int (b : Int)] ∧ Q (.int ((Nat.gcd a b : Nat) : Int)) H
section
variable {P : Program} {w : World} {K : PySem.W.Frag} {mg : Str → Option Value} {base : Heap} {fW fF : Addr} {dW dF : FuncData}
theorem ok_div {f : Addr} {fd : FuncData} (F : Fun K "_law_divisor" "_law_divisor" s_L_divisor f fd) (B : Blt mg) : FnOk P w K mg base CX0 1 f fd ["_law_one", "_law_other"] spDiv := by
  refine F.ok sc_L_divisor (fun vs H Q E h => ?_) (fun cdv A outer s0 H vs Q E hr h => ?_)
  · obtain ⟨a, b, rfl, _⟩ := h
    rfl
  · obtain ⟨a, b, rfl, q⟩ := h
    have nd := sc_L_divisor.nd
    refine ⟨_, pss_cons (ps_while PassesOwn.never (pt_cmpR op_ne (pv 1) pe_int (nomark _)) (pss_one (ps_par (i := 0) (j := 1) rfl nd rfl rfl (by decide) rfl rfl (pa_cons (pv 1) (pa_cons (pe_op op_mod (pe_callTy call_int1 (by rfl) B.int (by decide +kernel) (pa_cons (pv 0) pa_nil)) (pv 1)) pa_nil)) (by rfl))))
      (pss_one (ps_ret (pv 0))), ?_⟩
    refine ⟨fun m σ H' => ∃ c d : Nat, m = d ∧ σ = [some (.int (c : Int)), some (.int (d : Int))] ∧ H' = H ∧ Nat.gcd c d = Nat.gcd a b, ⟨b, a, b, rfl, rfl, rfl, rfl⟩, ?_⟩
    rintro d σ H' ⟨c, _, rfl, rfl, rfl, hg⟩
    walk_at "rd"
    refine ⟨rfl, ?_⟩
    rw [dec_int]
    by_cases e : d = 0
    · subst e
      walk_at "rd"
      show Q (.int (c : Int)) H'
      rw [Nat.gcd_zero_right] at hg
      rw [hg]
      exact q
    · have e2 : (!decide ((d : Int) = 0)) = true := by
        rw [decide_eq_false (by omega)]
        rfl
      rw [e2]
      refine ⟨true, rfl, fun σ' H'' => ∃ c' d' : Nat, d' < d ∧ σ' = [some (V.int (c' : Int)), some (V.int (d' : Int))] ∧ H'' = H' ∧ Nat.gcd c' d' = Nat.gcd a b, fun σ' H'' ⟨c', d', l, e1, e2, e3⟩ => ⟨d', l, c', d', rfl, e1, e2, e3⟩, ?_⟩
      walk_at "rd"
      refine ⟨(by show (0 : Int) < (d : Int); omega), ?_⟩
      refine ⟨_, _, rfl, d, c % d, Nat.mod_lt _ (by omega), ?_, rfl, ?_⟩
      · rw [Int.natCast_emod]
        rfl
      · rw [← hg, Nat.gcd_comm c d, Nat.gcd_rec d c, Nat.gcd_comm]
end
end HT
namespace HT
open PySem L2
def spPerS : Sp := fun vs H Q _ => ∃ (l : Addr) (xs : List V) (ss : List Sd), vs = [.ref l] ∧ SidesAt H l xs ss ∧ ∀ H', Same H H' → Q (.int (comN ss : Int)) H'
theorem lg_any {n : Nat} (h : n < 2 ^ 500) : ((n : Int)).natAbs.log2 < 9000 := by
  rw [Int.natAbs_natCast]
  by_cases e : n = 0
  · rw [e]; decide
  · have := (Nat.log2_lt e).mpr h
    omega
section
variable {P : Program} {w : World} {K : PySem.W.Frag} {mg : Str → Option Value} {base : Heap} {Bx fB fH fI fJ fV : Addr} {dB dH dI dJ dV : FuncData} {C : Nat → Addr}
theorem ok_period {f : Addr} {fd : FuncData} (F : Fun K "_law_period" "_law_period" s_L_period f fd) (B : Blt mg) (Dv : Cal P w K mg base "_law_divisor" 1 ["_law_one", "_law_other"] spDiv fV dV) : FnOk P w K mg base CX0 2 f fd ["_law_sides_here"] spPerS := by
  refine F.ok sc_L_period (fun vs H Q E h => ?_) (fun cdv A outer s0 H vs Q E hr h => ?_)
  · obtain ⟨l, xs, ss, rfl, _⟩ := h
    rfl
  · obtain ⟨l, xs, ss, rfl, SS, q⟩ := h
    have nd := sc_L_period.nd
    refine ⟨_, (pss_cons (ps_set (i := 1) nd rfl (Or.inl rfl) pe_int)
      (pss_cons (ps_for PassesOwn.never rfl (pi_list (pv 0)) (pg_tup (by rfl) (pgs_cons (pg_name (i := 2) nd rfl (Or.inl rfl)) (pgs_cons (pg_name (i := 3) nd rfl (Or.inl rfl)) (pgs_cons (pg_name (i := 4) nd rfl (Or.inl rfl)) pgs_nil)))) (pss_cons (ps_set (i := 5) nd rfl (Or.inl rfl) (pe_op op_mulW (pv 3) (pe_ix ix_list (pe_lst (pa_cons pe_int (pa_cons pe_int pa_nil))) (pe_callTy call_int1 (by rfl) B.int (by decide +kernel) (pa_cons (pe_cmpR op_eq (pv 4) pe_str (nomark _)) pa_nil)) (fun _ _ => rfl))))
      (pss_one (ps_set (i := 1) nd rfl (Or.inl rfl) (pe_op op_mulW (pe_op op_fdivW (pv 1) (pcl Dv hr (by decide) (by rfl) (pa_cons (pv 1) (pa_cons (pv 5) pa_nil)))) (pv 5))))))
      (pss_one (ps_ret (pv 1))))), ?_⟩
    walk_at "rd"
    refine ⟨⟨_, SqL.of SS.hl⟩, ?_⟩
    refine for_list (K := K) (a := l) (xs := xs) (fun i st H' => ∃ x2 x3 x4 x5 : Option V, st = [some (.ref l), some (.int (comN (ss.take i) : Int)), x2, x3, x4, x5] ∧ Same H H') ⟨none, none, none, none, rfl, Same.refl _⟩ (fun _ _ _ _ ⟨_, _, _, _, _, e⟩ => SqL.of (e _ _ SS.hl)) ?_ ?_
    · rintro i y st H' hy ⟨x2, x3, x4, x5, rfl, sm⟩
      obtain ⟨d, p, ed, rfl, hp, sp⟩ := SS.item hy
      walk_at "rd"
      refine ⟨p, _, rfl, SqT.of (sm _ _ hp), rfl, _, _, rfl, _, _, rfl, _, _, rfl, rfl, ?_⟩
      walk_at "rd"
      refine ⟨(by show 2 ≤ sizeLine; decide), fun z nz => ?_⟩
      generalize e_z : upd H' z _ = H1
      have gz : H1 z = some (.lst [.int 1, .int 2]) := by rw [← e_z]; exact upd_same
      have wz : Same H' H1 := by rw [← e_z]; exact fun b u z => (upd_ne (ne_of_none z nz)).trans z
      clear e_z
      walk_at "rd"
      refine ⟨rfl, ?_⟩
      walk_at "rd"
      refine .inr ⟨_, rfl, ?_⟩
      have s0 := sp.s0
      have s1 := sp.s1
      have pb := perM_bd sp
      have eN : ((perN d : Nat) : Int) = perM d.s d.m := Int.toNat_of_nonneg (by omega)
      obtain ⟨bI, ebI, eL, bb⟩ : ∃ bI : Int, atI [V.int 1, .int 2] (if decide (V.str d.m = V.str "half_even") = true then 1 else 0) = some (.int bI) ∧ d.s * bI = ((perN d : Nat) : Int) ∧ -2 ^ 1010 < bI ∧ bI < 2 ^ 1010 := by
        rw [eN, dec_str]
        unfold perM
        by_cases h : d.m = "half_even"
        · rw [if_pos (decide_eq_true h), if_pos h]
          exact ⟨2, rfl, by omega, by decide, by decide⟩
        · rw [if_neg (fun z => h (of_decide_eq_true z)), if_neg h]
          exact ⟨1, rfl, by omega, by decide, by decide⟩
      refine ⟨z, _, _, _, rfl, rfl, SqL.of gz, ebI, ?_⟩
      walk_at "rd"
      refine ⟨mulW (by omega) bb, ?_⟩
      walk_at "rd"
      refine ⟨comN (ss.take i), perN d, (by show [V.int _, V.int (d.s * bI)] = _; rw [eL]), ?_⟩
      have cp : 0 < comN (ss.take i) := com_pos _ 1 (by decide) fun e he => SS.side e (List.mem_of_mem_take he)
      have cl := com_take SS.side SS.l4 i
      have gp : 0 < Nat.gcd (comN (ss.take i)) (perN d) := Nat.gcd_pos_of_pos_left _ cp
      have gl : Nat.gcd (comN (ss.take i)) (perN d) ≤ comN (ss.take i) := Nat.gcd_le_left _ cp
      walk_at "rd"
      refine ⟨fdiv_ok _ (by omega) (lg_any (Nat.lt_of_le_of_lt gl (Nat.lt_trans cl (Nat.pow_lt_pow_right (by decide) (by decide))))), ?_⟩
      walk_at "rd"
      have ed2 : (comN (ss.take i) : Int) / ((Nat.gcd (comN (ss.take i)) (perN d) : Nat) : Int) = ((comN (ss.take i) / Nat.gcd (comN (ss.take i)) (perN d) : Nat) : Int) := (Int.natCast_ediv _ _).symm
      have dl : comN (ss.take i) / Nat.gcd (comN (ss.take i)) (perN d) ≤ comN (ss.take i) := Nat.div_le_self _ _
      have big : (2 : Nat) ^ 420 < 2 ^ 1010 := Nat.pow_lt_pow_right (by decide) (by decide)
      have dn : (0 : Int) ≤ ((comN (ss.take i) / Nat.gcd (comN (ss.take i)) (perN d) : Nat) : Int) := Int.natCast_nonneg _
      have ml : CMulW ((comN (ss.take i) : Int) / ((Nat.gcd (comN (ss.take i)) (perN d) : Nat) : Int)) (d.s * bI) := by
        rw [ed2, eL]
        exact mulW (by omega) (by omega)
      refine ⟨ml, ?_⟩
      refine ⟨some (.int d.o), some (.int d.s), some (.str d.m), some (.int (d.s * bI)), ?_, sm.trans wz⟩
      have e9 : (comN (ss.take i) : Int) / ((Nat.gcd (comN (ss.take i)) (perN d) : Nat) : Int) * (d.s * bI) = (comN (ss.take (i + 1)) : Int) := by
        rw [eL, ed2, com_snoc ed, ← lcm_div, Int.natCast_mul]
      rw [← e9]
      rfl
    · rintro st H' ⟨x2, x3, x4, x5, rfl, sm⟩
      rw [SS.len, List.take_length]
      walk_at "rd"
      exact q H' sm
end
end HT
namespace HT
open PySem L2
/-- pairs at these places -/
def PrsAt (H : Hp) (ps : List Addr) (rs : List (Int × Int)) : Prop := ps.length = rs.length ∧ ∀ (i : Nat) (p : Addr) (r : Int × Int), ps[i]? = some p → rs[i]? = some r → H p = some (pairV r.1 r.2)
theorem PrsAt.same {H H' : Hp} {ps : List Addr} {rs : List (Int × Int)} (P : PrsAt H ps rs) (s : Same H H') : PrsAt H' ps rs := ⟨P.1, fun i p r a b => s _ _ (P.2 i p r a b)⟩
theorem PrsAt.snoc {H : Hp} {ps : List Addr} {rs : List (Int × Int)} (P : PrsAt H ps rs) {p : Addr} {r : Int × Int} (h : H p = some (pairV r.1 r.2)) : PrsAt H (ps ++ [p]) (rs ++ [r]) := by
  refine ⟨by rw [List.length_append, List.length_append, P.1]; rfl, fun i q y a b => ?_⟩
  rcases Nat.lt_trichotomy i ps.length with z | z | z
  · rw [List.getElem?_append_left z] at a
    rw [List.getElem?_append_left (by have := P.1; omega)] at b
    exact P.2 i q y a b
  · rw [z, List.getElem?_append_right (Nat.le_refl _), Nat.sub_self] at a
    rw [z, List.getElem?_append_right (by rw [P.1]; exact Nat.le_refl _), P.1, Nat.sub_self] at b
    cases a
    cases b
    exact h
  · rw [List.getElem?_append_right (by omega), List.getElem?_eq_none (by show 1 ≤ _; omega)] at a
    cases a
/-- the ends of some pairs -/
def EndsP (rs : List (Int × Int)) (a : Int × Int) : Prop := (a.1 ∈ rs.map Prod.fst ∧ ∀ y ∈ rs.map Prod.fst, a.1 ≤ y) ∧ (a.2 ∈ rs.map Prod.snd ∧ ∀ y ∈ rs.map Prod.snd, y ≤ a.2)
theorem EndsP.snoc {rs : List (Int × Int)} {a : Int × Int} (h : EndsP rs a) (r : Int × Int) : EndsP (rs ++ [r]) (if r.1 < a.1 then r.1 else a.1, if a.2 < r.2 then r.2 else a.2) := by
  obtain ⟨⟨a1, a2⟩, b1, b2⟩ := h
  unfold EndsP
  simp only [List.map_append, List.mem_append, List.map_cons, List.map_nil, List.mem_singleton]
  refine ⟨⟨?_, ?_⟩, ?_, ?_⟩
  · split
    · exact .inr rfl
    · exact .inl a1
  · rintro y (hy | rfl)
    · have := a2 y hy
      split <;> omega
    · split <;> omega
  · split
    · exact .inr rfl
    · exact .inl b1
  · rintro y (hy | rfl)
    · have := b2 y hy
      split <;> omega
    · split <;> omega
def spWidL : Sp := fun vs H Q _ => ∃ (l p : Addr) (xs : List V) (ss : List Sd) (r : Int × Int), vs = [.ref l, .ref p] ∧ SidesAt H l xs ss ∧ H p = some (pairV r.1 r.2) ∧ (-2 ^ 695 < r.1 ∧ r.1 < 2 ^ 695) ∧ (-2 ^ 695 < r.2 ∧ r.2 < 2 ^ 695) ∧
  ∀ (q : Addr) (H' : Hp), H q = none → Same H H' → H' q = some (pairV (widF ss r).1 (widF ss r).2) → Q (.ref q) H'
section
variable {P : Program} {w : World} {K : PySem.W.Frag} {mg : Str → Option Value} {base : Heap} {fB : Addr} {dB : FuncData}
theorem ok_L_wider {f : Addr} {fd : FuncData} (F : Fun K "_law_wider" "_law_wider" s_L_wider f fd) (MT : MaxT mg) (Le : Cal P w K mg base "_law_least" 2 ["_law_side_here", "_law_value"] spLeast fB dB) : FnOk P w K mg base CX0 3 f fd ["_law_sides_here", "_law_run"] spWidL := by
  refine F.ok sc_L_wider (fun vs H Q E h => ?_) (fun cdv A outer s0 H vs Q E hr h => ?_)
  · obtain ⟨l, p, xs, ss, r, rfl, _⟩ := h
    rfl
  · obtain ⟨l, p, xs, ss, r, rfl, SS, hp, r1, r2, q⟩ := h
    have nd := sc_L_wider.nd
    refine ⟨_, (pss_cons (ps_set (i := 2) nd rfl (Or.inl rfl) (pe_lst (pa_cons (pv 1) pa_nil)))
      (pss_cons (ps_for PassesOwn.never rfl (pi_list (pv 0)) (pg_name (i := 3) nd rfl (Or.inl rfl)) (pss_cons (ps_par (i := 4) (j := 5) (by rfl) nd rfl rfl (by decide) rfl rfl (pa_cons (pcl Le hr (by decide) (by rfl) (pa_cons (pv 3) (pa_cons (pe_ix ix_tup (pv 1) pe_int (fun _ _ => rfl)) pa_nil))) (pa_cons (pe_op op_sub (pcl Le hr (by decide) (by rfl) (pa_cons (pv 3) (pa_cons (pe_op op_add (pe_ix ix_tup (pv 1) pe_int (fun _ _ => rfl)) pe_int) pa_nil))) pe_int) pa_nil)) (by rfl))
      (pss_one (ps_if (pt_cmpR op_le (pv 4) (pv 5) (nomark _)) (pss_one (ps_expr (pe_bm PySem.F.plainAttrs_list PySem.F.slot_list_append PySem.F.type_list_append mt_append (pv 2) (pa_cons (pe_tup (pa_cons (pv 4) (pa_cons (pv 5) pa_nil))) pa_nil)))) pss_nil))))
      (pss_one (ps_ret (pe_tup (pa_cons (pe_callB (cr_min rfl) (by rfl) MT.min (by decide +kernel) (pa_cons (pe_lc (own := [("_law_part", 6)]) (g := gName 6) (tt := tYes) rfl nd (pi_list (pv 2)) (blkOk_by (N := ["_law_sides_here", "_law_run", "_law_found", "_law_side_here", "_law_low", "_law_high", "_law_part"]) (sc := defScope s_L_wider) (by decide +kernel)) (fun _ _ _ _ _ => pg_name (i := 6) nd rfl (Or.inl rfl)) (fun _ _ _ _ _ => pts_nil) (fun _ _ _ _ _ => (pe_ix (r := rIxT K) (by exact ix_tup) (pv 6) pe_int (fun _ _ => rfl)))) pa_nil)) (pa_cons (pe_callB (cr_max rfl) (by rfl) MT.max (by decide +kernel) (pa_cons (pe_lc (own := [("_law_part", 6)]) (g := gName 6) (tt := tYes) rfl nd (pi_list (pv 2)) (blkOk_by (N := ["_law_sides_here", "_law_run", "_law_found", "_law_side_here", "_law_low", "_law_high", "_law_part"]) (sc := defScope s_L_wider) (by decide +kernel)) (fun _ _ _ _ _ => pg_name (i := 6) nd rfl (Or.inl rfl)) (fun _ _ _ _ _ => pts_nil) (fun _ _ _ _ _ => (pe_ix (r := rIxT K) (by exact ix_tup) (pv 6) pe_int (fun _ _ => rfl)))) pa_nil)) pa_nil))))))), ?_⟩
    walk_at "rd"
    refine ⟨(by show 1 ≤ sizeLine; decide), fun nl nnl => ?_⟩
    generalize e1 : upd H nl _ = H1
    have g1 : H1 nl = some (.lst ([p].map V.ref)) := by rw [← e1]; exact upd_same
    have s1 : Same H H1 := by rw [← e1]; exact fun b u z => (upd_ne (ne_of_none z nnl)).trans z
    clear e1
    walk_at "rd"
    refine ⟨⟨_, SqL.of (s1 _ _ SS.hl)⟩, ?_⟩
    refine for_list (K := K) (a := l) (xs := xs) (fun i st H' => ∃ (x3 x4 x5 x6 : Option V) (ps : List Addr) (rs : List (Int × Int)), st = [some (.ref l), some (.ref p), some (.ref nl), x3, x4, x5, x6] ∧ Same H H' ∧ H' nl = some (.lst (ps.map V.ref)) ∧ ps.length ≤ i + 1 ∧ PrsAt H' ps rs ∧ EndsP rs ((ss.take i).foldl (widS r) r))
      ⟨none, none, none, none, [p], [r], rfl, s1, g1, Nat.le_refl _, ⟨rfl, fun i q y a b => by
        rcases Nat.eq_zero_or_pos i with z | z
        · subst z; cases a; cases b; exact s1 _ _ hp
        · rw [List.getElem?_eq_none (by show 1 ≤ _; omega)] at a; cases a⟩, ⟨List.mem_singleton.mpr rfl, fun y hy => by rw [List.mem_singleton.mp hy]; exact Int.le_refl _⟩, List.mem_singleton.mpr rfl, fun y hy => by rw [List.mem_singleton.mp hy]; exact Int.le_refl _⟩ (fun _ _ _ _ ⟨_, _, _, _, _, _, _, e, _⟩ => SqL.of (e _ _ SS.hl)) ?_ ?_
    · rintro i y st H' hy ⟨x3, x4, x5, x6, ps, rs, rfl, sm, hnl, lps, PA, EP⟩
      obtain ⟨d, q6, ed, rfl, hq, sp⟩ := SS.item hy
      have wt := wid_take (r := r) ed
      walk_at "rd"
      refine ⟨p, _, 0, _, rfl, rfl, SqT.of (sm _ _ hp), rfl, ?_⟩
      walk_at "rd"
      refine ⟨q6, d.o, d.s, d.m, r.1, rfl, sm _ _ hq, sp, by omega, fun H2 s2 => ?_⟩
      walk_at "rd"
      refine ⟨p, _, 1, _, rfl, rfl, SqT.of (s2 _ _ (sm _ _ hp)), rfl, ?_⟩
      walk_at "rd"
      refine ⟨q6, d.o, d.s, d.m, r.2 + 1, rfl, s2 _ _ (sm _ _ hq), sp, by omega, fun H3 s3 => ?_⟩
      have s23 := s2.trans s3
      walk_at "rd"
      refine ⟨_, _, rfl, ?_⟩
      walk_at "rd"
      generalize (ss.take i).foldl (widS r) r = a at wt EP
      refine ite2 (fun z : decide (backM d.o d.s d.m r.1 ≤ backM d.o d.s d.m (r.2 + 1) - 1) = true => ?_) (fun z => ?_)
      · have le : backM d.o d.s d.m r.1 ≤ backM d.o d.s d.m (r.2 + 1) - 1 := of_decide_eq_true z
        have e : widS r a d = (if backM d.o d.s d.m r.1 < a.1 then backM d.o d.s d.m r.1 else a.1, if a.2 < backM d.o d.s d.m (r.2 + 1) - 1 then backM d.o d.s d.m (r.2 + 1) - 1 else a.2) := by
          unfold widS
          rw [if_pos le]
        have EP2 := EP.snoc (backM d.o d.s d.m r.1, backM d.o d.s d.m (r.2 + 1) - 1)
        rw [← e, ← wt] at EP2
        walk_at "rd"
        refine ⟨.inl ⟨rfl, _, SqL.of (s23 _ _ hnl)⟩, ?_⟩
        walk_at "rd"
        refine ⟨(by show 2 ≤ sizeLine; decide), fun T nT => ?_⟩
        have sT : Same H3 (upd H3 T (.tup [.int (backM d.o d.s d.m r.1), .int (backM d.o d.s d.m (r.2 + 1) - 1)])) := fun b u z => (upd_ne (ne_of_none z nT)).trans z
        have gT : upd H3 T (.tup [.int (backM d.o d.s d.m r.1), .int (backM d.o d.s d.m (r.2 + 1) - 1)]) T = some (pairV (backM d.o d.s d.m r.1) (backM d.o d.s d.m (r.2 + 1) - 1)) := upd_same
        have nlT : T ≠ nl := (ne_of_none (s23 _ _ hnl) nT).symm
        generalize upd H3 T _ = H4 at sT gT ⊢
        have hnl4 := sT _ _ (s23 _ _ hnl)
        have i4 := SS.l4
        have i5 : i < ss.length := (List.getElem?_eq_some_iff.mp ed).1
        walk_at "rd"
        refine ⟨nl, _, _, rfl, rfl, hnl4, (by rw [List.length_map]; exact Nat.lt_of_le_of_lt (by omega : _ ≤ 5) (by decide)), ?_⟩
        have keep : ∀ b u, H4 b = some u → b ≠ nl → upd H4 nl (.lst (ps.map V.ref ++ [.ref T])) b = some u := fun b u z ne => (upd_ne ne).trans z
        have PA4 : PrsAt (upd H4 nl (.lst (ps.map V.ref ++ [.ref T]))) ps rs := ⟨PA.1, fun i p r a b => by
          have h := (PA.same (s23.trans sT)).2 i p r a b
          exact keep _ _ h (ne_of h hnl4 (by intro z; cases z))⟩
        refine ⟨_, _, _, _, ps ++ [T], rs ++ [_], rfl, fun b u z => keep b u (sT _ _ (s23 _ _ (sm _ _ z))) (ne_of_none z nnl), by rw [upd_same, List.map_append]; rfl, by rw [List.length_append]; show ps.length + 1 ≤ _; omega, PA4.snoc (keep _ _ gT nlT), EP2⟩
      · have le := of_decide_eq_false (by simpa using z : decide (backM d.o d.s d.m r.1 ≤ backM d.o d.s d.m (r.2 + 1) - 1) = false)
        have e : widS r a d = a := by
          unfold widS
          rw [if_neg le]
        rw [e] at wt
        refine ⟨_, _, _, _, ps, rs, rfl, sm.trans s23, s23 _ _ hnl, by omega, PA.same s23, ?_⟩
        rw [wt]
        exact EP
    · rintro st H' ⟨x3, x4, x5, x6, ps, rs, rfl, sm, hnl, lps, PA, EP⟩
      rw [SS.len, List.take_length] at EP
      have i4 := SS.l4
      have lx := SS.len
      have rs0 : 0 < rs.length := by
        cases h : rs with
        | nil => rw [h] at EP; cases EP.1.1
        | cons => simp
      have m1 : ∀ zs : List (Int × Int), zs.map (fun r => V.int r.1) = (zs.map Prod.fst).map V.int := fun zs => by rw [List.map_map]; rfl
      have m2 : ∀ zs : List (Int × Int), zs.map (fun r => V.int r.2) = (zs.map Prod.snd).map V.int := fun zs => by rw [List.map_map]; rfl
      walk_at "rd"
      refine ⟨⟨_, SqL.of hnl⟩, fun D1 nD1 => ?_⟩
      refine lc_list (K := K) (a := nl) (xs := ps.map V.ref) (fun j H3 => H3 D1 = some (.lst ((rs.take j).map fun r => V.int r.1)) ∧ Same H' H3) ⟨upd_same, fun b u z => (upd_ne (ne_of_none z nD1)).trans z⟩ (fun _ _ _ ⟨_, s3⟩ => SqL.of (s3 _ _ hnl)) ?_ ?_
      · rintro j y H3 hy ⟨hD, s3⟩
        rw [List.getElem?_map] at hy
        obtain ⟨pj, ep, rfl⟩ := Option.map_eq_some_iff.mp hy
        have jl : j < ps.length := (List.getElem?_eq_some_iff.mp ep).1
        obtain ⟨rj, er⟩ : ∃ rj, rs[j]? = some rj := ⟨_, List.getElem?_eq_getElem (by rw [← PA.1]; exact jl)⟩
        have hpj := s3 _ _ (PA.2 j pj rj ep er)
        refine ⟨rfl, ?_⟩
        walk_at "rd"
        refine ⟨pj, _, 0, _, rfl, rfl, SqT.of hpj, rfl, ?_⟩
        walk_at "rd"
        refine ⟨_, hD, ?_, ?_, fun b u z => (upd_ne (ne_of_none z nD1)).trans (s3 _ _ z)⟩
        · rw [List.length_map, List.length_take]
          exact Nat.lt_of_le_of_lt (Nat.min_le_left _ _) (Nat.lt_of_le_of_lt (by omega : j ≤ 10) (by decide))
        · rw [List.take_succ, er, List.map_append]
          exact upd_same
      rintro Ha ⟨hD1, sa⟩
      rw [List.length_map, PA.1, List.take_length] at hD1
      walk_at "rd"
      rw [m1] at hD1
      refine ⟨D1, _, rfl, SqL.of hD1, by rw [List.length_map]; exact rs0, fun mn mn1 mn2 => ?_⟩
      have e1 : mn = (widF ss r).1 := Int.le_antisymm (mn2 _ EP.1.1) (EP.1.2 _ mn1)
      walk_at "rd"
      refine ⟨⟨_, SqL.of (sa _ _ hnl)⟩, fun D2 nD2 => ?_⟩
      refine lc_list (K := K) (a := nl) (xs := ps.map V.ref) (fun j H3 => H3 D2 = some (.lst ((rs.take j).map fun r => V.int r.2)) ∧ Same Ha H3) ⟨upd_same, fun b u z => (upd_ne (ne_of_none z nD2)).trans z⟩ (fun _ _ _ ⟨_, s3⟩ => SqL.of (s3 _ _ (sa _ _ hnl))) ?_ ?_
      · rintro j y H3 hy ⟨hD, s3⟩
        rw [List.getElem?_map] at hy
        obtain ⟨pj, ep, rfl⟩ := Option.map_eq_some_iff.mp hy
        have jl : j < ps.length := (List.getElem?_eq_some_iff.mp ep).1
        obtain ⟨rj, er⟩ : ∃ rj, rs[j]? = some rj := ⟨_, List.getElem?_eq_getElem (by rw [← PA.1]; exact jl)⟩
        have hpj := s3 _ _ (sa _ _ (PA.2 j pj rj ep er))
        refine ⟨rfl, ?_⟩
        walk_at "rd"
        refine ⟨pj, _, 1, _, rfl, rfl, SqT.of hpj, rfl, ?_⟩
        walk_at "rd"
        refine ⟨_, hD, ?_, ?_, fun b u z => (upd_ne (ne_of_none z nD2)).trans (s3 _ _ z)⟩
        · rw [List.length_map, List.length_take]
          exact Nat.lt_of_le_of_lt (Nat.min_le_left _ _) (Nat.lt_of_le_of_lt (by omega : j ≤ 10) (by decide))
        · rw [List.take_succ, er, List.map_append]
          exact upd_same
      rintro Hb ⟨hD2, sb⟩
      rw [List.length_map, PA.1, List.take_length] at hD2
      walk_at "rd"
      rw [m2] at hD2
      refine ⟨D2, _, rfl, SqL.of hD2, by rw [List.length_map]; exact rs0, fun mx mx1 mx2 => ?_⟩
      have e2 : mx = (widF ss r).2 := Int.le_antisymm (EP.2.2 _ mx1) (mx2 _ EP.2.1)
      refine ⟨(by show 2 ≤ sizeLine; decide), fun T nT => ?_⟩
      refine q T _ ?_ (fun b u z => (upd_ne (ne_of_none (sb _ _ (sa _ _ (sm _ _ z))) nT)).trans (sb _ _ (sa _ _ (sm _ _ z)))) ?_
      · cases hh : H T with
        | none => rfl
        | some u => rw [sb _ _ (sa _ _ (sm _ _ hh))] at nT; cases nT
      · rw [upd_same, e1, e2]
        rfl
end
end HT
namespace HT
open PySem L2
theorem back_mov {d : Sd} (S : SideP d.o d.s d.m) (b x : Int) : backM (movD b d).o (movD b d).s (movD b d).m x = backM d.o d.s d.m (x - b) + b := by
  have S2 := side_mov b S
  apply Int.le_antisymm
  · rw [back_iffW S2.md S2.s0, due_mov S, show backM d.o d.s d.m (x - b) + b - b = backM d.o d.s d.m (x - b) by omega]
    have := back_ge (o := d.o) (v := x - b) S.md S.s0
    omega
  · have h := back_ge (o := (movD b d).o) (v := x) S2.md S2.s0
    rw [due_mov S] at h
    have := (back_iffW (o := d.o) (v := x - b) (y := backM (movD b d).o (movD b d).s (movD b d).m x - b) S.md S.s0).mpr (by omega)
    omega
def shV (v : Int) (r : Int × Int) : Int × Int := (v + r.1, v + r.2)
theorem wid_sh {v : Int} {ss : List Sd} (hss : ∀ d ∈ ss, SideP d.o d.s d.m) (r : Int × Int) : widF ss (shV v r) = shV v (widF (ss.map (movD (-v))) r) := by
  have key : ∀ (ts : List Sd) (a : Int × Int), (∀ d ∈ ts, d ∈ ss) → ts.foldl (widS (shV v r)) (shV v a) = shV v ((ts.map (movD (-v))).foldl (widS r) a) := by
    intro ts
    induction ts with
    | nil => intro a _; rfl
    | cons d ts ih =>
      intro a h
      rw [List.map_cons, List.foldl_cons, List.foldl_cons, ← ih _ fun e he => h e (List.mem_cons_of_mem _ he)]
      congr 1
      have S := hss d (h d List.mem_cons_self)
      have e1 := back_mov S (-v) r.1
      have e2 := back_mov S (-v) (r.2 + 1)
      rw [show r.1 - -v = v + r.1 by omega] at e1
      rw [show r.2 + 1 - -v = v + r.2 + 1 by omega] at e2
      have main : ∀ (x y a1 a2 : Int), (if x ≤ y - 1 then (if x < v + a1 then x else v + a1, if v + a2 < y - 1 then y - 1 else v + a2) else (v + a1, v + a2)) = shV v (if x + -v ≤ y + -v - 1 then (if x + -v < a1 then x + -v else a1, if a2 < y + -v - 1 then y + -v - 1 else a2) else (a1, a2)) := fun x y a1 a2 => by
        unfold shV
        by_cases c : x ≤ y - 1
        · rw [if_pos c, if_pos (show x + -v ≤ y + -v - 1 by omega)]
          refine Prod.ext ?_ ?_
          · show (if x < v + a1 then x else v + a1) = v + if x + -v < a1 then x + -v else a1
            split <;> split <;> omega
          · show (if v + a2 < y - 1 then y - 1 else v + a2) = v + if a2 < y + -v - 1 then y + -v - 1 else a2
            split <;> split <;> omega
        · rw [if_neg c, if_neg (show ¬ x + -v ≤ y + -v - 1 by omega)]
      unfold widS
      rw [e1, e2]
      exact main _ _ a.1 a.2
  exact key ss r fun d h => h
/-- the runs, as they lie -/
def aR (v : Int) (ss : List Sd) (k : Nat) : Int × Int := shV v (runN (ss.map (movD (-v))) k)
theorem aR_succ {v : Int} {ss : List Sd} (hss : ∀ d ∈ ss, SideP d.o d.s d.m) (k : Nat) : aR v ss (k + 1) = widF ss (aR v ss k) := (wid_sh hss _).symm
theorem mem_wid {ns : List Sd} (hns : ∀ d ∈ ns, SideP d.o d.s d.m) {r : Int × Int} {y : Int} : ((widF ns r).1 ≤ y ∧ y ≤ (widF ns r).2) ↔ ((r.1 ≤ y ∧ y ≤ r.2) ∨ ∃ d ∈ ns, r.1 ≤ dueM d.o d.s d.m y ∧ dueM d.o d.s d.m y ≤ r.2) := by
  refine ⟨wid_fro hns, fun h => ?_⟩
  rcases h with h | ⟨d, hd, h1, h2⟩
  · have w := wid_in (ns := ns) (r := r) r
    exact ⟨Int.le_trans w.1 h.1, Int.le_trans h.2 w.2.1⟩
  · exact wid_back hns hd h1 h2
/-- what lies of a run in the window -/
def clA (v N : Int) (r : Int × Int) : Int × Int := (if r.1 < v - N then v - N else r.1, if v + N < r.2 then v + N else r.2)
theorem clA_mem {v N : Int} {r : Int × Int} (N0 : 0 ≤ N) {y : Int} (h : r.1 ≤ v ∧ v ≤ r.2) : ((clA v N r).1 ≤ y ∧ y ≤ (clA v N r).2) ↔ ((r.1 ≤ y ∧ y ≤ r.2) ∧ (v - N ≤ y ∧ y ≤ v + N)) := by
  unfold clA
  simp only
  split <;> split <;> omega
theorem run_eq {a b : Int × Int} {v : Int} (ha : a.1 ≤ v ∧ v ≤ a.2) (hb : b.1 ≤ v ∧ v ≤ b.2) (h : ∀ y, (a.1 ≤ y ∧ y ≤ a.2) ↔ (b.1 ≤ y ∧ y ≤ b.2)) : a = b := by
  have h1 := (h a.1).mp (by omega)
  have h2 := (h b.1).mpr (by omega)
  have h3 := (h a.2).mp (by omega)
  have h4 := (h b.2).mpr (by omega)
  exact Prod.ext (by omega) (by omega)
theorem near_s {d : Sd} (S : SideP d.o d.s d.m) (y : Int) : y - d.s < dueM d.o d.s d.m y ∧ dueM d.o d.s d.m y < y + d.s := by
  have := due_near (o := d.o) (v := y) S.md S.s0
  omega
/-- what lies beyond the window does not matter -/
theorem cl_wid {ss : List Sd} (hss : ∀ d ∈ ss, SideP d.o d.s d.m) {v N : Int} (hN : ∀ d ∈ ss, d.s ≤ N) (N0 : 0 ≤ N) {u : Int × Int} (hu : u.1 ≤ v ∧ v ≤ u.2) : clA v N (widF ss u) = clA v N (widF ss (clA v N u)) := by
  have hc : (clA v N u).1 ≤ v ∧ v ≤ (clA v N u).2 := (clA_mem N0 hu).mpr ⟨hu, by omega⟩
  have hw : (widF ss u).1 ≤ v ∧ v ≤ (widF ss u).2 := (mem_wid hss).mpr (.inl hu)
  have hwc : (widF ss (clA v N u)).1 ≤ v ∧ v ≤ (widF ss (clA v N u)).2 := (mem_wid hss).mpr (.inl hc)
  refine run_eq ((clA_mem N0 hw).mpr ⟨hw, by omega⟩) ((clA_mem N0 hwc).mpr ⟨hwc, by omega⟩) fun y => ?_
  rw [clA_mem N0 hw, clA_mem N0 hwc, mem_wid hss, mem_wid hss, clA_mem N0 hu]
  refine ⟨fun ⟨h, w⟩ => ⟨?_, w⟩, fun ⟨h, w⟩ => ⟨?_, w⟩⟩
  · rcases h with h | ⟨d, hd, h1, h2⟩
    · exact .inl ⟨h, w⟩
    · have n := near_s (hss d hd) y
      have := hN d hd
      by_cases c : v - N ≤ dueM d.o d.s d.m y ∧ dueM d.o d.s d.m y ≤ v + N
      · exact .inr ⟨d, hd, (clA_mem N0 hu).mpr ⟨⟨h1, h2⟩, c⟩⟩
      · refine .inl ⟨?_, w⟩
        omega
  · rcases h with h | ⟨d, hd, h⟩
    · exact .inl h.1
    · exact .inr ⟨d, hd, ((clA_mem N0 hu).mp h).1⟩
/-- the runs within the window -/
def cR (v N : Int) (ss : List Sd) : Nat → Int × Int
  | 0 => (v, v)
  | k + 1 => clA v N (widF ss (cR v N ss k))
theorem aR_v {v : Int} {ss : List Sd} (k : Nat) : (aR v ss k).1 ≤ v ∧ v ≤ (aR v ss k).2 := by
  have z := run_mono (ns := ss.map (movD (-v))) (Nat.zero_le k)
  have z1 : (runN (ss.map (movD (-v))) 0) = (0, 0) := rfl
  rw [z1] at z
  unfold aR shV
  simp only at z ⊢
  omega
theorem cR_eq {ss : List Sd} (hss : ∀ d ∈ ss, SideP d.o d.s d.m) {v N : Int} (hN : ∀ d ∈ ss, d.s ≤ N) (N0 : 0 ≤ N) : ∀ k, cR v N ss k = clA v N (aR v ss k)
  | 0 => by
    show (v, v) = clA v N (v + 0, v + 0)
    unfold clA
    rw [Int.add_zero, if_neg (by simp only; omega), if_neg (by simp only; omega)]
  | k + 1 => by
    show clA v N (widF ss (cR v N ss k)) = _
    rw [cR_eq hss hN N0 k, ← cl_wid hss hN N0 (aR_v k), aR_succ hss]
theorem cR_v {ss : List Sd} (hss : ∀ d ∈ ss, SideP d.o d.s d.m) {v N : Int} (hN : ∀ d ∈ ss, d.s ≤ N) (N0 : 0 ≤ N) (k : Nat) : ((cR v N ss k).1 ≤ v ∧ v ≤ (cR v N ss k).2) ∧ v - N ≤ (cR v N ss k).1 ∧ (cR v N ss k).2 ≤ v + N := by
  rw [cR_eq hss hN N0 k]
  have h := aR_v (v := v) (ss := ss) k
  refine ⟨(clA_mem N0 h).mpr ⟨h, by omega⟩, ?_⟩
  unfold clA
  simp only
  split <;> split <;> omega
theorem cR_stop {v N : Int} {ss : List Sd} {j : Nat} (h : cR v N ss (j + 1) = cR v N ss j) : ∀ k, cR v N ss (j + k) = cR v N ss j
  | 0 => rfl
  | k + 1 => by
    show clA v N (widF ss (cR v N ss (j + k))) = _
    rw [cR_stop h k]
    exact h
theorem cl_clip {v N : Int} (r : Int × Int) : clA v N (shV v r) = shV v (clipN N r) := by
  refine Prod.ext ?_ ?_
  · show (if v + r.1 < v - N then v - N else v + r.1) = v + if r.1 < -N then -N else r.1
    split <;> split <;> omega
  · show (if v + N < v + r.2 then v + N else v + r.2) = v + if N < r.2 then N else r.2
    split <;> split <;> omega
theorem sh_inj {v : Int} {a b : Int × Int} (h : shV v a = shV v b) : a = b := by
  have h1 := congrArg Prod.fst h
  have h2 := congrArg Prod.snd h
  unfold shV at h1 h2
  simp only at h1 h2
  exact Prod.ext (by omega) (by omega)
/-- where the window's runs come to rest, no error comes, and the ends are those at rest -/
theorem bef_rest {ss : List Sd} (hss : ∀ d ∈ ss, SideP d.o d.s d.m) {v N : Int} (hN : ∀ d ∈ ss, d.s ≤ N) (N0 : 0 ≤ N) {j n : Nat} (j1 : j ≤ 1000) (h : cR v N ss (j + 1) = cR v N ss j) (to : RunsTo (ss.map (movD (-v))) n) :
    ¬ TooE N (ss.map (movD (-v))) n ∧ shV v (clipN N (runN (ss.map (movD (-v))) n)) = cR v N ss j := by
  have st := cR_stop h
  have ec : ∀ k, shV v (clipN N (runN (ss.map (movD (-v))) k)) = cR v N ss k := fun k => by rw [cR_eq hss hN N0 k, ← cl_clip]; rfl
  have far : ∀ k, j ≤ k → cR v N ss k = cR v N ss j := fun k hk => by
    have := st (k - j)
    rwa [show j + (k - j) = k by omega] at this
  refine ⟨fun t => ?_, ?_⟩
  · obtain ⟨e, ne⟩ := t
    refine ne (sh_inj (v := v) ?_)
    rw [ec, ec, far 1000 j1, far 1001 (by omega)]
  · rw [ec]
    by_cases c : j ≤ n
    · exact far n c
    · have ln := to.le
      have s := to.stop.resolve_left (by omega)
      have s2 : cR v N ss (n + 1) = cR v N ss n := by rw [← ec, ← ec, s]
      have := cR_stop s2 (j - n)
      rw [show n + (j - n) = j by omega] at this
      exact this.symm
theorem bef_many {ss : List Sd} (hss : ∀ d ∈ ss, SideP d.o d.s d.m) {v N : Int} (hN : ∀ d ∈ ss, d.s ≤ N) (N0 : 0 ≤ N) {n : Nat} (h : ∀ j, j ≤ 1000 → cR v N ss (j + 1) ≠ cR v N ss j) (to : RunsTo (ss.map (movD (-v))) n) : TooE N (ss.map (movD (-v))) n := by
  have ec : ∀ k, shV v (clipN N (runN (ss.map (movD (-v))) k)) = cR v N ss k := fun k => by rw [cR_eq hss hN N0 k, ← cl_clip]; rfl
  by_cases e : n = 1001
  · refine ⟨e, fun z => h 1000 (Nat.le_refl _) ?_⟩
    rw [← ec, ← ec, z]
  · exfalso
    have ln := to.le
    have s := to.stop.resolve_left e
    exact h n (by omega) (by rw [← ec, ← ec, s])
/-- small windows: the runs come to rest -/
theorem bef_small {ss : List Sd} (hss : ∀ d ∈ ss, SideP d.o d.s d.m) {v N : Int} (hN : ∀ d ∈ ss, d.s ≤ N) (N0 : 0 ≤ N) (N1 : N ≤ 400) : ∃ j, j ≤ 1000 ∧ cR v N ss (j + 1) = cR v N ss j := by
  refine Classical.byContradiction fun no => ?_
  have ne : ∀ j, j ≤ 1000 → cR v N ss (j + 1) ≠ cR v N ss j := fun j a b => no ⟨j, a, b⟩
  have grow : ∀ k : Nat, k ≤ 1001 → (k : Int) ≤ (cR v N ss k).2 - (cR v N ss k).1 := fun k => by
    induction k with
    | zero => intro _; show ((0 : Nat) : Int) ≤ v - v; omega
    | succ k ih =>
      intro hk
      have a := ih (by omega)
      have d := ne k (by omega)
      have e : cR v N ss (k + 1) = clA v N (widF ss (cR v N ss k)) := rfl
      obtain ⟨c1, c2⟩ := cR_v hss hN N0 (v := v) k
      obtain ⟨f1, f2⟩ := cR_v hss hN N0 (v := v) (k + 1)
      have w := wid_in (ns := ss) (r := cR v N ss k) (cR v N ss k)
      have w1 : (widF ss (cR v N ss k)).1 ≤ (cR v N ss k).1 := w.1
      have w2 : (cR v N ss k).2 ≤ (widF ss (cR v N ss k)).2 := w.2.1
      have hw : (widF ss (cR v N ss k)).1 ≤ v ∧ v ≤ (widF ss (cR v N ss k)).2 := by omega
      have m1 := (clA_mem N0 hw (y := (cR v N ss k).1)).mpr (by omega)
      have m2 := (clA_mem N0 hw (y := (cR v N ss k).2)).mpr (by omega)
      rw [← e] at m1 m2
      by_cases p : (cR v N ss (k + 1)).1 = (cR v N ss k).1
      · by_cases q : (cR v N ss (k + 1)).2 = (cR v N ss k).2
        · exact absurd (Prod.ext p q) d
        · omega
      · omega
  have g := grow 1001 (Nat.le_refl _)
  obtain ⟨f1, f2⟩ := cR_v hss hN N0 (v := v) 1001
  omega
theorem com_s {ss : List Sd} (hss : ∀ d ∈ ss, SideP d.o d.s d.m) : ∀ d ∈ ss, d.s ≤ (comN ss : Int) := fun d hd => by
  have S := hss d hd
  have pb := perM_bd S
  have cp : 0 < comN ss := com_pos ss 1 (by decide) hss
  have le := Nat.le_of_dvd cp ((com_dvd ss 1).2 d hd)
  have e := perN_eq S
  have : d.s ≤ perM d.s d.m := by
    have := S.s0
    unfold perM
    split <;> omega
  have e2 : comN ss = ss.foldl (fun n d => n.lcm (perN d)) 1 := rfl
  omega
end HT
namespace HT
open PySem L2
theorem same_upd {H : Hp} {a : Addr} {o : HO} (h : H a = none) : Same H (upd H a o) := fun b u z => (upd_ne (ne_of_none z h)).trans z
/-- the ends that before tells of a run within the window -/
def endT (v N : Int) (c : Int × Int) : HO := .tup [oI (if c.1 = v - N then none else some c.1), oI (if c.2 = v + N then none else some c.2)]
theorem endT_eq {v N : Int} (r : Int × Int) : HO.tup [oI (loE v N r), oI (hiE v N r)] = endT v N (shV v (clipN N r)) := by
  unfold endT loE hiE shV
  simp only
  have e1 : ((clipN N r).1 = -N) ↔ (v + (clipN N r).1 = v - N) := by omega
  have e2 : ((clipN N r).2 = N) ↔ (v + (clipN N r).2 = v + N) := by omega
  congr 1
  by_cases c1 : (clipN N r).1 = -N <;> by_cases c2 : (clipN N r).2 = N
  · rw [if_pos c1, if_pos c2, if_pos (e1.mp c1), if_pos (e2.mp c2)]
  · rw [if_pos c1, if_neg c2, if_pos (e1.mp c1), if_neg (fun z => c2 (e2.mpr z))]
  · rw [if_neg c1, if_pos c2, if_neg (fun z => c1 (e1.mpr z)), if_pos (e2.mp c2)]
  · rw [if_neg c1, if_neg c2, if_neg (fun z => c1 (e1.mpr z)), if_neg (fun z => c2 (e2.mpr z))]
/-- what the law's told and its due for great sides come to -/
def BefP (v : Int) (ss : List Sd) (H : Hp) (Q : VK) : Prop :=
  (∀ j, j ≤ 1000 → cR v (comN ss) ss (j + 1) = cR v (comN ss) ss j → ∀ (p : Addr) (H' : Hp), H p = none → Same H H' → H' p = some (endT v (comN ss) (cR v (comN ss) ss j)) → Q (.ref p) H') ∧
  ((∀ j, j ≤ 1000 → cR v (comN ss) ss (j + 1) ≠ cR v (comN ss) ss j) → ∀ H', Same H H' → Q (.str "many") H')
def spTold13 : Sp := fun vs H Q _ => ∃ (l : Addr) (xs : List V) (ss : List Sd) (v : Int), vs = [.ref l, .int v] ∧ SidesAt H l xs ss ∧ (-2 ^ 690 < v ∧ v < 2 ^ 690) ∧ BefP v ss H Q
section
variable {P : Program} {w : World} {K : PySem.W.Frag} {mg : Str → Option Value} {base : Heap} {Bx fB : Addr} {dB : FuncData} {C : Nat → Addr}
end
end HT
namespace HT
open PySem L2
def spLBef : Sp := fun vs H Q _ => ∃ (l : Addr) (xs : List V) (ss : List Sd) (v : Int), vs = [.ref l, .int v] ∧ SidesAt H l xs ss ∧ (-2 ^ 690 < v ∧ v < 2 ^ 690) ∧ BefP v ss H Q
/-- the two ends, so many of them done -/
def endL (v N : Int) (c : Int × Int) (i : Nat) : List V := [if 1 ≤ i then oI (if c.1 = v - N then none else some c.1) else .int c.1, if 2 ≤ i then oI (if c.2 = v + N then none else some c.2) else .int c.2]
theorem free_of {H H' : Hp} (s : Same H H') {p : Addr} (h : H' p = none) : H p = none := by
  cases hh : H p with
  | none => rfl
  | some u => rw [s _ _ hh] at h; cases h
section
variable {P : Program} {w : World} {K : PySem.W.Frag} {mg : Str → Option Value} {base : Heap} {fB fC : Addr} {dB dC : FuncData}
theorem ok_L_before {f : Addr} {fd : FuncData} (F : Fun K "_law_before" "_law_before" s_L_before f fd) (B : Blt mg) (MT : MaxT mg) (Pe : Cal P w K mg base "_law_period" 2 ["_law_sides_here"] spPerS fB dB) (Wi : Cal P w K mg base "_law_wider" 3 ["_law_sides_here", "_law_run"] spWidL fC dC) : FnOk P w K mg base CX0 4 f fd ["_law_sides_here", "_law_value"] spLBef := by
  refine F.ok sc_L_before (fun vs H Q E h => ?_) (fun cdv A outer s0 H vs Q E hr h => ?_)
  · obtain ⟨l, xs, ss, v, rfl, _⟩ := h
    rfl
  · obtain ⟨l, xs, ss, v, rfl, SS, vb, k1, k2⟩ := h
    have nd := sc_L_before.nd
    have cs := com_s SS.side
    have N0 : (0 : Int) ≤ (comN ss : Int) := Int.natCast_nonneg _
    have Nb := com_lt SS.side SS.l4
    have big : (2 : Nat) ^ 420 < 2 ^ 500 := Nat.pow_lt_pow_right (by decide) (by decide)
    have cv := fun k => cR_v SS.side cs N0 (v := v) k
    refine ⟨_, (pss_cons (ps_set (i := 2) nd rfl (Or.inl rfl) (pcl Pe hr (by decide) (by rfl) (pa_cons (pv 0) pa_nil)))
      (pss_cons (ps_par (i := 3) (j := 4) (by rfl) nd rfl rfl (by decide) rfl rfl (pa_cons pe_non (pa_cons (pe_tup (pa_cons (pv 1) (pa_cons (pv 1) pa_nil))) pa_nil)) (by rfl))
      (pss_cons (ps_for PassesOwn.never rfl (pi_range1 (by rfl) B.range (pa_cons pe_int pa_nil)) (pg_name (i := 5) nd rfl (Or.inl rfl)) (pss_cons (ps_if (pt_cmpR (op_eqD hr.units) (pv 4) (pv 3) (nomark _)) (pss_cons (ps_set (i := 6) nd rfl (Or.inl rfl) (pe_lst (pa_cons (pe_ix ix_tup (pv 3) pe_int (fun _ _ => rfl)) (pa_cons (pe_ix ix_tup (pv 3) pe_int (fun _ _ => rfl)) pa_nil))))
      (pss_cons (ps_for PassesOwn.never rfl (pi_range1 (by rfl) B.range (pa_cons pe_int pa_nil)) (pg_name (i := 7) nd rfl (Or.inl rfl)) (pss_one (ps_if (pt_cmpR op_eq (pe_callB call_abs (by rfl) B.abs (by decide +kernel) (pa_cons (pe_op op_sub (pe_ix ix_list (pv 6) (pv 7) (fun _ _ => rfl)) (pv 1)) pa_nil)) (pv 2) (nomark _)) (pss_one (ps_asg pe_non (pg_sub (pv 6) (pv 7) set_list))) pss_nil)))
      (pss_one (ps_ret (pe_tup (pa_cons (pe_ix ix_list (pv 6) pe_int (fun _ _ => rfl)) (pa_cons (pe_ix ix_list (pv 6) pe_int (fun _ _ => rfl)) pa_nil))))))) pss_nil)
      (pss_cons (ps_set (i := 3) nd rfl (Or.inl rfl) (pv 4))
      (pss_cons (ps_set (i := 4) nd rfl (Or.inl rfl) (pcl Wi hr (by decide) (by rfl) (pa_cons (pv 0) (pa_cons (pv 3) pa_nil))))
      (pss_one (ps_set (i := 4) nd rfl (Or.inl rfl) (pe_tup (pa_cons (pe_callB (call_max2 rfl) (by rfl) MT.max (by decide +kernel) (pa_cons (pe_ix ix_tup (pv 4) pe_int (fun _ _ => rfl)) (pa_cons (pe_op op_sub (pv 1) (pv 2)) pa_nil))) (pa_cons (pe_callB (call_min2 rfl) (by rfl) MT.min (by decide +kernel) (pa_cons (pe_ix ix_tup (pv 4) pe_int (fun _ _ => rfl)) (pa_cons (pe_op op_add (pv 1) (pv 2)) pa_nil))) pa_nil)))))))))
      (pss_one (ps_ret pe_str))))), ?_⟩
    walk_at "rd"
    refine ⟨l, xs, ss, rfl, SS, fun H1 s1 => ?_⟩
    walk_at "rd"
    refine ⟨(by show 2 ≤ sizeLine; decide), fun w0 nw0 => ?_⟩
    have g0 : upd H1 w0 (.tup [.int v, .int v]) w0 = some (pairV (cR v (comN ss) ss 0).1 (cR v (comN ss) ss 0).2) := upd_same
    have s2 := s1.trans (same_upd (o := .tup [.int v, .int v]) nw0)
    generalize upd H1 w0 _ = H2 at g0 s2 ⊢
    refine ⟨_, _, rfl, ?_⟩
    walk_at "rd"
    refine ⟨by decide, by decide, ?_⟩
    refine for_range (n := 1002) (fun i st H' => ∃ (wd : Addr) (x3 x5 x6 x7 : Option V), st = [some (.ref l), some (.int v), some (.int (comN ss : Int)), x3, some (.ref wd), x5, x6, x7] ∧ Same H H' ∧ H' wd = some (pairV (cR v (comN ss) ss i).1 (cR v (comN ss) ss i).2) ∧
        (i = 0 → x3 = some .non) ∧ (∀ i', i = i' + 1 → ∃ rn : Addr, x3 = some (.ref rn) ∧ H' rn = some (pairV (cR v (comN ss) ss i').1 (cR v (comN ss) ss i').2)) ∧ ∀ j, j + 1 < i → cR v (comN ss) ss (j + 1) ≠ cR v (comN ss) ss j)
      ⟨w0, _, _, _, _, rfl, s2, g0, fun _ => rfl, fun i' z => (by cases z), fun j z => absurd z (by omega)⟩ ?_ ?_
    · rintro i st Ha hi ⟨wd, x3, x5, x6, x7, rfl, sa, hwd, z0, z1, ne⟩
      obtain ⟨⟨c1, c2⟩, c3, c4⟩ := cv i
      obtain ⟨y3, d, rfl, dp, sh, yes, no⟩ : ∃ (y3 : V) (d : PyData), x3 = some y3 ∧ Dp K Ha y3 d ∧ SeqAt.shaped d = true ∧ (PyData.eqv (.tuple [.int (cR v (comN ss) ss i).1, .int (cR v (comN ss) ss i).2]) d = true → ∃ i', i = i' + 1 ∧ cR v (comN ss) ss (i' + 1) = cR v (comN ss) ss i' ∧ ∃ rn, y3 = .ref rn ∧ Ha rn = some (pairV (cR v (comN ss) ss i').1 (cR v (comN ss) ss i').2)) ∧
          (¬ PyData.eqv (.tuple [.int (cR v (comN ss) ss i).1, .int (cR v (comN ss) ss i).2]) d = true → ∀ j, j + 1 < i + 1 → cR v (comN ss) ss (j + 1) ≠ cR v (comN ss) ss j) := by
        cases i with
        | zero => exact ⟨.non, .none, z0 rfl, .non, rfl, fun z => Bool.noConfusion z, fun _ j hj => absurd hj (by omega)⟩
        | succ i' =>
          obtain ⟨rn, e, hrn⟩ := z1 i' rfl
          refine ⟨.ref rn, _, e, dpPair hrn, shaped_two _ _, fun z => ?_, fun z j hj => ?_⟩
          · rw [eqv_two] at z
            have z := of_decide_eq_true z
            exact ⟨i', rfl, Prod.ext z.1 z.2, rn, rfl, hrn⟩
          · by_cases c : j + 1 < i' + 1
            · exact ne j c
            · have e : j = i' := by omega
              subst e
              intro q
              rw [eqv_two] at z
              exact z (decide_eq_true ⟨congrArg Prod.fst q, congrArg Prod.snd q⟩)
      walk_at "rd"
      refine ⟨_, _, dpPair hwd, dp, shaped_two _ _, sh, ?_⟩
      refine ⟨_, rfl, ?_⟩
      refine ite2 (fun z => ?_) (fun z => ?_)
      · obtain ⟨i', rfl, eq, rn, rfl, hrn⟩ := yes z
        obtain ⟨⟨d1, d2⟩, d3, d4⟩ := cv i'
        walk_at "rd"
        refine ⟨rn, _, 0, _, rfl, rfl, SqT.of hrn, rfl, ?_⟩
        walk_at "rd"
        refine ⟨rn, _, 1, _, rfl, rfl, SqT.of hrn, rfl, ?_⟩
        walk_at "rd"
        refine ⟨(by show 2 ≤ sizeLine; decide), fun el nel => ?_⟩
        have gel : upd Ha el (.lst [.int (cR v (comN ss) ss i').1, .int (cR v (comN ss) ss i').2]) el = some (.lst (endL v (comN ss) (cR v (comN ss) ss i') 0)) := upd_same
        have sel := sa.trans (same_upd (o := .lst [.int (cR v (comN ss) ss i').1, .int (cR v (comN ss) ss i').2]) nel)
        have hel := free_of sa nel
        generalize upd Ha el _ = Hb at gel sel ⊢
        walk_at "rd"
        refine ⟨by decide, by decide, ?_⟩
        have k1' := k1 i' (by omega) eq
        generalize cR v (comN ss) ss i' = c at *
        refine for_range (n := 2) (fun k st Hc => ∃ x7 : Option V, st = [some (.ref l), some (.int v), some (.int (comN ss : Int)), some (.ref rn), some (.ref wd), some (.int (0 + ((i' + 1 : Nat) : Int))), some (.ref el), x7] ∧ Same H Hc ∧ Hc el = some (.lst (endL v (comN ss) c k))) ⟨_, rfl, sel, gel⟩ ?_ ?_
        · rintro k st Hc hk ⟨x7, rfl, sc, gc⟩
          rcases (by omega : k = 0 ∨ k = 1) with rfl | rfl
          · walk_at "rd"
            refine ⟨el, _, _, .int c.1, rfl, rfl, SqL.of gc, rfl, ?_⟩
            walk_at "rd"
            refine ⟨rfl, ?_⟩
            rw [dec_int]
            have ab : ((if c.1 - v < 0 then -(c.1 - v) else c.1 - v) = (comN ss : Int)) ↔ c.1 = v - (comN ss : Int) := by split <;> omega
            refine ⟨_, rfl, ?_⟩
            refine ite2 (fun z => ?_) (fun z => ?_)
            · have z := ab.mp (of_decide_eq_true z)
              walk_at "rd"
              refine ⟨el, _, _, 0, rfl, rfl, gc, rfl, ?_⟩
              refine ⟨_, rfl, fun b u y => (upd_ne (ne_of_none y hel)).trans (sc _ _ y), ?_⟩
              rw [upd_same]
              unfold endL
              rw [if_pos z]
              rfl
            · have z : ¬ c.1 = v - (comN ss : Int) := fun y => z (decide_eq_true (ab.mpr y))
              refine ⟨_, rfl, sc, ?_⟩
              rw [gc]
              unfold endL
              rw [if_neg z]
              rfl
          · walk_at "rd"
            refine ⟨el, _, _, .int c.2, rfl, rfl, SqL.of gc, rfl, ?_⟩
            walk_at "rd"
            refine ⟨rfl, ?_⟩
            rw [dec_int]
            have ab : ((if c.2 - v < 0 then -(c.2 - v) else c.2 - v) = (comN ss : Int)) ↔ c.2 = v + (comN ss : Int) := by split <;> omega
            refine ⟨_, rfl, ?_⟩
            refine ite2 (fun z => ?_) (fun z => ?_)
            · have z := ab.mp (of_decide_eq_true z)
              walk_at "rd"
              refine ⟨el, _, _, 1, rfl, rfl, gc, rfl, ?_⟩
              refine ⟨_, rfl, fun b u y => (upd_ne (ne_of_none y hel)).trans (sc _ _ y), ?_⟩
              rw [upd_same]
              unfold endL
              rw [if_pos z]
              rfl
            · have z : ¬ c.2 = v + (comN ss : Int) := fun y => z (decide_eq_true (ab.mpr y))
              refine ⟨_, rfl, sc, ?_⟩
              rw [gc]
              unfold endL
              rw [if_neg z]
              rfl
        · rintro st Hc ⟨x7, rfl, sc, gc⟩
          walk_at "rd"
          refine ⟨el, _, _, _, rfl, rfl, SqL.of gc, rfl, ?_⟩
          walk_at "rd"
          refine ⟨el, _, _, _, rfl, rfl, SqL.of gc, rfl, ?_⟩
          refine ⟨(by show 2 ≤ sizeLine; decide), fun T nT => ?_⟩
          exact k1' T _ (free_of sc nT) (sc.trans (same_upd nT)) upd_same
      · walk_at "rd"
        refine ⟨l, wd, xs, ss, _, rfl, SS.same sa, hwd, by omega, by omega, fun q Hb nq sb hq => ?_⟩
        walk_at "rd"
        refine ⟨q, _, 0, _, rfl, rfl, SqT.of hq, rfl, ?_⟩
        walk_at "rd"
        refine ⟨_, _, rfl, ?_⟩
        walk_at "rd"
        refine ⟨q, _, 1, _, rfl, rfl, SqT.of hq, rfl, ?_⟩
        walk_at "rd"
        refine ⟨_, _, rfl, ?_⟩
        refine ⟨(by show 2 ≤ sizeLine; decide), fun T nT => ?_⟩
        exact ⟨T, _, _, _, _, rfl, sa.trans (sb.trans (same_upd nT)), upd_same, fun z => (by cases z), fun i' e => ⟨wd, rfl, by cases e; exact (upd_ne (ne_of_none (sb _ _ hwd) nT)).trans (sb _ _ hwd)⟩, no z⟩
    · rintro st Ha ⟨wd, x3, x5, x6, x7, rfl, sa, hwd, z0, z1, ne⟩
      walk_at "rd"
      exact k2 (fun j hj => ne j (by omega)) _ sa
end
end HT
namespace HT
open PySem L2
section
variable {P : Program} {w : World} {K : PySem.W.Frag} {mg : Str → Option Value} {base : Heap} {aM c0 fC fB fV fN fW fS Bx : Addr} {dC dB dV dN dW dS : FuncData} {C : Nat → Addr}
theorem holds_run {v : Int} {ns : List Sd} {s : Int} {i : Nat} : holdsF (some (v + (runN ns i).1)) (some (v + (runN ns i).2)) s = decide (inR v ns s i) := by
  show (decide (v + (runN ns i).1 ≤ s) && decide (s ≤ v + (runN ns i).2)) = decide (inR v ns s i)
  unfold inR
  by_cases a : v + (runN ns i).1 ≤ s <;> by_cases b : s ≤ v + (runN ns i).2 <;> simp [a, b]
theorem cut_1001 (xs : List V) : cutV xs none (some 1001) = xs.take 1001 := by
  have e : cutV xs none (some 1001) = xs.take (min 1001 xs.length) := rfl
  rw [e]
  rcases Nat.le_total 1001 xs.length with h | h
  · rw [Nat.min_eq_left h]
  · rw [Nat.min_eq_right h, List.take_of_length_le (Nat.le_refl _), List.take_of_length_le h]
theorem ok_few_x {f : Addr} {fd : FuncData} (F : Fun K "_fewest" "_fewest" s_fewest f fd) (hen : mg "enumerate" = none) (R : Er K mg C Bx) (hMH : ∃ t, mg "MOST_HANDOVERS" = some (.int 1000 t)) (Ho : Cal P w K mg base "_holds" 1 ["ends", "value"] spHolds fB dB) (En : CalX P w K mg base "_ends" 3 ["sides", "value", "runs"] (spEndsX C) fC dC) : FnOk P w K mg base (L2.CX P w) 4 f fd ["sides", "start", "value", "runs"] (spFewX C) := by
  refine F.okAny sc_fewest (fun vs H Q E h => ?_) (fun cdv A outer s0 H vs Q E hr h => ?_)
  · obtain ⟨l, q, xs, ss, ns, s, v, n, rfl, _⟩ := h
    rfl
  · obtain ⟨l, q, xs, ss, ns, s, v, n, rfl, SS, to, RA, k1, k2⟩ := h
    have nd := sc_fewest.nd
    obtain ⟨tmh, hmh⟩ := hMH
    refine ⟨_, (pss_cons (ps_for (passes_of rfl) rfl (pi_enum (by rfl) hen (pa_cons (pe_slice sl_list (pv 3) po_none (po_some (pe_op op_add (pe_glob (v := .int 1000) (by rfl) hmh ⟨_, rfl⟩) pe_int))) pa_nil)) (pg_tup (by rfl) (pgs_cons (pg_name (i := 4) nd rfl (Or.inl rfl)) (pgs_cons (pg_name (i := 5) nd rfl (Or.inl rfl)) pgs_nil))) (pss_one (ps_if (pt_val (pcl Ho hr (by decide) (by rfl) (pa_cons (pv 5) (pa_cons (pv 1) pa_nil)))) (pss_one (ps_ret (pv 4))) pss_nil)))
      (pss_cons (ps_if (pt_val (pcl Ho hr (by decide) (by rfl) (pa_cons (pcx En hr (by decide) (by rfl) (takes_of rfl rfl rfl rfl) (pa_cons (pv 0) (pa_cons (pv 2) (pa_cons (pv 3) pa_nil)))) (pa_cons (pv 1) pa_nil)))) (pss_one (ps_raise rfl (takes_of rfl rfl rfl rfl) (pmk_own PySem.F.excBase_ValueError (R.ex 2 (by decide)) R.g2 (R.kp 2 (by decide)) (raises_own (R.sb 2 (by decide)) (R.ty 2 (by decide))) (by rfl)))) pss_nil)
      (pss_one (ps_ret pe_non)))), ?_⟩
    obtain ⟨ps, hR, lp, ap⟩ := RA
    walk_at "rd"
    refine ⟨q, _, rfl, SqL.of hR, fun cu ncu => ?_⟩
    have w1 : Same H (upd H cu (.lst (cutV (ps.map V.ref) none (some 1001)))) := fun b u z => (upd_ne (ne_of_none z ncu)).trans z
    have g1 : upd H cu (.lst (cutV (ps.map V.ref) none (some 1001))) cu = some (.lst ((ps.take 1001).map V.ref)) := by
      rw [upd_same, cut_1001, List.map_take]
    change tNil _ (upd H cu (.lst (cutV (ps.map V.ref) none (some 1001)))) _
    generalize upd H cu (.lst (cutV (ps.map V.ref) none (some 1001))) = H1 at w1 g1 ⊢
    have n1 := to.le
    walk_at "rd"
    refine ⟨cu, _, rfl, SqL.of g1, ?_⟩
    refine for_enumL (K := K) (a := cu) (xs := (ps.take 1001).map V.ref) (fun i st H' => ∃ x4 x5 : Option V, st = [some (.ref l), some (.int s), some (.int v), some (.ref q), x4, x5] ∧ Same H H' ∧ H' cu = some (.lst ((ps.take 1001).map V.ref)) ∧ ∀ j, j < i → ¬ inR v ns s j)
      ⟨none, none, rfl, w1, g1, fun j z => absurd z (Nat.not_lt_zero _)⟩ (fun _ _ _ _ ⟨_, _, _, _, e, _⟩ => SqL.of e) ?_ ?_
    · rintro i y st H' hy ⟨x4, x5, rfl, sm, gc, no⟩ T nT
      rw [List.getElem?_map] at hy
      obtain ⟨p1, e1, rfl⟩ := Option.map_eq_some_iff.mp hy
      have e2 : ps[i]? = some p1 ∧ i < 1001 := by
        rw [List.getElem?_take] at e1
        split at e1
        · exact ⟨e1, by omega⟩
        · cases e1
      have hp1 := ap i p1 e2.1
      have il : i < ps.length := (List.getElem?_eq_some_iff.mp e2.1).1
      have wT : Same H' (upd H' T (.tup [.int (i : Nat), .ref p1])) := fun b u z => (upd_ne (ne_of_none z nT)).trans z
      refine ⟨T, _, rfl, SqT.of upd_same, rfl, _, _, rfl, _, _, rfl, rfl, ?_⟩
      generalize upd H' T (.tup [.int (i : Nat), .ref p1]) = H2 at wT ⊢
      walk_at "rd"
      refine ⟨p1, some (v + (runN ns i).1), some (v + (runN ns i).2), s, rfl, wT _ _ (sm _ _ hp1), _, rfl, ?_⟩
      rw [holds_run]
      refine ite2 (fun z => ?_) (fun z => ?_)
      · walk_at "rd"
        exact k1 i (by omega) (by omega) (of_decide_eq_true z) no H2 (sm.trans wT)
      · refine ⟨_, _, rfl, sm.trans wT, wT _ _ gc, fun j hj => ?_⟩
        rcases Nat.lt_or_eq_of_le (Nat.le_of_lt_succ hj) with y | y
        · exact no j y
        · rw [y]; exact fun y => z (decide_eq_true y)
    · rintro st H' ⟨x4, x5, rfl, sm, gc, no⟩
      have no2 : ∀ i, i ≤ n → i ≤ 1000 → ¬ inR v ns s i := fun i a b => no i (by rw [List.length_map, List.length_take, lp]; omega)
      walk_at "rd"
      refine ⟨l, q, xs, ss, ns, v, n, rfl, SS.same sm, to, ⟨ps, sm _ _ hR, lp, fun i p e => sm _ _ (ap i p e)⟩, ?_⟩
      by_cases many : TooE (comN ss) ns n
      · exact .inl ⟨many, fun H2 s2 => (k2 no2 H2 (sm.trans s2)).1 many⟩
      · refine .inr ⟨many, fun p H2 np s2 hp => ?_⟩
        have k3 := (k2 no2 H2 (sm.trans s2)).2 many
        walk_at "rd"
        refine ⟨p, _, _, s, rfl, hp, _, rfl, ?_⟩
        refine ite2 (fun z => ?_) (fun z => ?_)
        · exact k3.1 z
        · walk_at "rd"
          exact k3.2 (by simpa using z)
end
end HT
namespace HT
open PySem L2
def spFewG (C : Nat → Addr) : Sp := fun vs H Q E => ∃ (l : Addr) (xs : List V) (ss : List Sd) (s v : Int), vs = [.ref l, .int s, .int v] ∧ SidesAt H l xs ss ∧ (-2 ^ 690 < v ∧ v < 2 ^ 690) ∧
  (∀ (n i : Nat) (H' : Hp), RunsTo (ss.map (movD (-v))) n → i ≤ n → i ≤ 1000 → inR v (ss.map (movD (-v))) s i → (∀ j, j < i → ¬ inR v (ss.map (movD (-v))) s j) → Same H H' → Q (.int (i : Int)) H') ∧
  (∀ n, RunsTo (ss.map (movD (-v))) n → (∀ i, i ≤ n → i ≤ 1000 → ¬ inR v (ss.map (movD (-v))) s i) → ∀ H', Same H H' → (TooE (comN ss) (ss.map (movD (-v))) n → E (.ref (C 2)) none H') ∧ (¬ TooE (comN ss) (ss.map (movD (-v))) n → (holdsF (loE v (comN ss) (runN (ss.map (movD (-v))) n)) (hiE v (comN ss) (runN (ss.map (movD (-v))) n)) s = true → E (.ref (C 2)) none H') ∧ (holdsF (loE v (comN ss) (runN (ss.map (movD (-v))) n)) (hiE v (comN ss) (runN (ss.map (movD (-v))) n)) s = false → Q .non H')))
def spCome (C : Nat → Addr) : Sp := fun vs H Q E => ∃ (l : Addr) (xs : List V) (ss : List Sd) (s v : Int), vs = [.ref l, .int s, .int v] ∧ SidesAt H l xs ss ∧ (-2 ^ 690 < v ∧ v < 2 ^ 690) ∧
  (s = v → Q (.bl true) H) ∧ (s ≠ v → ∀ n, RunsTo (ss.map (movD (-v))) n → (TooE (comN ss) (ss.map (movD (-v))) n → ∀ H', Same H H' → E (.ref (C 2)) none H') ∧
    (¬ TooE (comN ss) (ss.map (movD (-v))) n → ∀ H', Same H H' → Q (.bl (holdsF (loE v (comN ss) (runN (ss.map (movD (-v))) n)) (hiE v (comN ss) (runN (ss.map (movD (-v))) n)) s)) H'))
section
variable {P : Program} {w : World} {K : PySem.W.Frag} {mg : Str → Option Value} {base : Heap} {fB fC fN : Addr} {dB dC dN : FuncData} {C : Nat → Addr}
theorem ok_few_g {f : Addr} {fd : FuncData} (F : Fun K "fewest_handovers" "fewest_handovers" s_fewest_handovers f fd) (Ru : Cal P w K mg base "_runs" 5 ["sides", "value"] spRuns fN dN) (Fw : CalX P w K mg base "_fewest" 4 ["sides", "start", "value", "runs"] (spFewX C) fC dC) : FnOk P w K mg base (L2.CX P w) 6 f fd ["sides", "start", "value"] (spFewG C) := by
  refine F.okAny sc_fewest_handovers (fun vs H Q E h => ?_) (fun cdv A outer s0 H vs Q E hr h => ?_)
  · obtain ⟨l, xs, ss, s, v, rfl, _⟩ := h
    rfl
  · obtain ⟨l, xs, ss, s, v, rfl, SS, vb, k1, k2⟩ := h
    refine ⟨_, pss_one (ps_ret (pcx Fw hr (by decide) (by rfl) (takes_of rfl rfl rfl rfl) (pa_cons (pv 0) (pa_cons (pv 1) (pa_cons (pv 2) (pa_cons (pcl Ru hr (by decide) (by rfl) (pa_cons (pv 0) (pa_cons (pv 2) pa_nil))) pa_nil)))))), ?_⟩
    walk_at "rd"
    refine ⟨l, xs, ss, v, rfl, SS, vb, fun q1 n H1 nq s1 to RA => ?_⟩
    refine ⟨l, q1, xs, ss, _, s, v, n, rfl, SS.same s1, to, RA, fun i a b c no H2 s2 => ?_, fun none_ H2 s2 => ?_⟩
    · exact k1 n i H2 to a b c no (s1.trans s2)
    · obtain ⟨z1, z2⟩ := k2 n to none_ H2 (s1.trans s2)
      exact ⟨z1, fun nt => ⟨(z2 nt).1, fun hf => (z2 nt).2 hf⟩⟩
theorem ok_come {f : Addr} {fd : FuncData} (F : Fun K "can_come" "can_come" s_can_come f fd) (Bf : CalX P w K mg base "before" 6 ["sides", "value"] (spBefX K C) fB dB) (Ho : Cal P w K mg base "_holds" 1 ["ends", "value"] spHolds fC dC) : FnOk P w K mg base (L2.CX P w) 7 f fd ["sides", "start", "value"] (spCome C) := by
  refine F.okAny sc_can_come (fun vs H Q E h => ?_) (fun cdv A outer s0 H vs Q E hr h => ?_)
  · obtain ⟨l, xs, ss, s, v, rfl, _⟩ := h
    rfl
  · obtain ⟨l, xs, ss, s, v, rfl, SS, vb, k1, k2⟩ := h
    refine ⟨_, pss_one (ps_ret (pe_or (pe_cmpR op_eq (pv 1) (pv 2) (nomark _)) (pe_one (pcl Ho hr (by decide) (by rfl) (pa_cons (pcx Bf hr (by decide) (by rfl) (takes_of rfl rfl rfl rfl) (pa_cons (pv 0) (pa_cons (pv 2) pa_nil))) (pa_cons (pv 1) pa_nil)))))), ?_⟩
    walk_at "rd"
    refine ⟨rfl, ?_⟩
    by_cases z : s = v
    · subst z
      walk_at "rd"
      refine ite2 (fun _ => k1 rfl) (fun y => absurd (decide_eq_true rfl) y)
    · walk_at "rd"
      refine ite2 (fun y => absurd (of_decide_eq_true y) (fun e => z (by injection e))) (fun _ => ?_)
      walk_at "rd"
      refine ⟨_, _, rfl, .inr (.inr ⟨l, xs, ss, v, rfl, SS, rfl, vb, fun n to => ⟨fun too H1 s1 => ((k2 z) n to).1 too H1 s1, fun nt p H1 np s1 hp => ?_⟩⟩)⟩
      walk_at "rd"
      exact ⟨p, _, _, s, rfl, hp, ((k2 z) n to).2 nt H1 s1⟩
end
end HT
namespace L2
open PySem PySem.Spec PyProof.Rows
/-- frames, where the object at C is another one, and less is asked of the ground -/
theorem frames_but {B B' h h' : Heap} {C : Addr} (k : ∀ b, b ≠ C → h'.get? b = h.get? b) (kb : ∀ b, B.get? b = none → B'.get? b = none) : ∀ {l : List Env}, h.FunFrames B l → C ∉ frs l → h'.FunFrames B' l
  | [], _, _ => trivial
  | e :: l, ⟨hk, ⟨L, o, hf, nb, ho, hd⟩, hr⟩, nC => ⟨hk, ⟨L, o, hf, kb L nb, (k L fun z => nC (List.mem_filterMap.mpr ⟨e, List.mem_cons_self, by rw [hf, z]⟩)).trans ho, hd⟩, frames_but k kb hr fun hm => nC (by
      obtain ⟨x, hx, q⟩ := List.mem_filterMap.mp hm
      exact List.mem_filterMap.mpr ⟨x, List.mem_cons_of_mem _ hx, q⟩)⟩
/-- noted by a frame, and still in flight there -/
theorem Sky.note {M : Model} {A : Around} {E₁ : Value → Shared → Prop} {env : Env} {outer : List Env} {L a : Addr} {Z : Obj → Prop} {Q : Unit → Shared → Prop} {s : Shared} {B : Heap} (hZ : HandSPX.Steady Z) (fr : A.frames = some (env :: outer)) (ef : env.frame = some L)
    (sky : Sky B (env :: outer) a Z L s.heap) (hQ : ∀ h', HandSPX.HeldZ B (env :: outer) a Z L h' → s.heap.UpToSlots h' → Q () { s with heap := h' }) : wpAny M A (noteFrame (.ref a) env) Q E₁ s := by
  rcases sky with ⟨c1, c2, c3, oe, vs, c4, c5, c6, c7⟩ | fl | hh
  · exact HandSPX.look_newZ hZ fr c3 ef c4 c1 c2 c6 c7 c5 hQ
  · exact HandSPX.looks_onZ hZ fr ef fl hQ
  · exact HandSPX.againZ ef hh.2.2.2 (hQ s.heap hh (Heap.UpToSlots.refl _))
section
variable {X : Cx}
/-- an exception of a comprehension's element leaves the comprehension -/
theorem lc_fail {pins pins' : List (Addr × Obj)} {σ σ' : St} {H3 H' : Hp} {s3 s5 s6 : Shared} {scope : Scope} {ce : Env} {fp : List Addr} {E : XK} {e : Value} (hs : X.stack = X.env :: X.outer) (hf : X.env.frame = some X.env.locals) (tk : Takes X (fun cls d _ H => E cls d H))
    (I3 : Inv X pins σ H3 s3) (f3 : ∀ b ∈ fp, FpOk X pins H3 b ∧ b < s3.heap.objs.size) (cL : ce.locals = s3.heap.objs.size) (cF : ce.frame = X.env.frame) (Ib : Inv (X.blk s3 H3 scope ce fp) pins' σ' H' s5) (c : CX X.prog X.w X.stack H' s5 E e s6) :
    notedBy (model X.prog X.w) X.A ce (fun x s' => CompFails (model X.prog X.w) X.A X.xe ce x s') e s6 := by
  have IX : Inv X pins σ H' s5 := I3.call' (ch := fp) Ib.os Ib.base Ib.hok Ib.bare fun b hb => by
    obtain ⟨⟨_, b1, _, b3, b4, b5⟩, _⟩ := f3 b hb
    exact ⟨b3, b1, b4, b5⟩
  have nC : H' ce.locals = none := Ib.free
  obtain ⟨m, hm, _⟩ := Ib.loc
  have hm : s5.heap.Ns ce.locals m := hm
  obtain ⟨f0, f1, f2, f4, f5, f6⟩ : FpOk X pins H' ce.locals := by
    rw [cL]
    exact I3.fpOk (Nat.le_refl _) (by rw [← cL]; exact nC)
  have nfr : ce.locals ∉ frs X.stack := fun z => by
    rw [hs] at z
    obtain ⟨x, hx, q⟩ := List.mem_filterMap.mp z
    rcases List.mem_cons.mp hx with rfl | hx
    · rw [hf] at q; exact f1 (Option.some.inj q).symm
    · exact f2 (List.mem_filterMap.mpr ⟨x, hx, q⟩)
  obtain ⟨oC, es, ep, hoC, hdC, hkC, hnC⟩ := hm
  obtain ⟨a, B0, H1, cls, d, rfl, fl, hok, ub, na, os, ag, hE⟩ := c
  have n1 : H1 ce.locals = none := ub.free _ _ hoC nC
  have k6 : s6.heap.get? ce.locals = some oC := fl.1 _ _ (ub.keep _ _ hoC nC nfr)
  obtain ⟨a', B, sI, pinsx, σx, H2, cls', d', ea, J, nb, up, sky, na', os', ag', hE', nC2⟩ := XE.of_call (W := fun cls d _ H => E cls d H ∧ H ce.locals = none) (E := fun cls d H => E cls d H ∧ H ce.locals = none) IX (fun _ _ _ h => h) ⟨a, B0, H1, cls, d, rfl, fl, hok, ub, na, os, ag, hE, n1⟩
  cases ea
  have hfr : X.A.frames = some (X.env :: X.outer) := IX.ok.frames.trans (by rw [hs])
  rw [hs] at sky
  show wpAny _ X.A (noteFrame (.ref a) ce) _ _ s6
  rw [show noteFrame (.ref a) ce = noteFrame (.ref a) X.env by unfold noteFrame PySem.frameOf; rw [cF]]
  refine Sky.note Zc.steady hfr hf sky fun h1 hh1 up1 => ?_
  refine ⟨m, up1.ns ⟨oC, es, ep, k6, hdC, hkC, hnC⟩, fun h2 m2 _ sb => ?_⟩
  obtain ⟨slC, e1C⟩ := up1 _ oC k6 (fun vs z => by rw [hdC] at z; cases z)
  obtain ⟨st1, bn1, ff1, oe, vs, T, oT, ts, g1, g2, g3, g4, g5, g6, g7, g8, g9⟩ := hh1
  have aC : a ≠ ce.locals := fun z => by
    rw [z, e1C] at g1
    cases g1
    rw [show ({ oC with slots := slC } : Obj).data = oC.data from rfl, hdC] at g3
    cases g3
  have TC : T ≠ ce.locals := fun z => by
    rw [z, e1C] at g7
    cases g7
    rw [show ({ oC with slots := slC } : Obj).data = oC.data from rfl, hdC] at g8
    cases g8
  have nohid : ∀ {G : Heap} {b : Addr} {o : Obj}, (PySem.W.hideAll G [ce.locals]).get? b = some o → b ≠ ce.locals := fun e z => by
    rw [z, PySem.W.hideAll_none _ (List.mem_singleton.mpr rfl)] at e
    cases e
  have hid0 : ∀ b, B.get? b = none → (PySem.W.hideAll B [ce.locals]).get? b = none := fun b z => by
    cases q : (PySem.W.hideAll B [ce.locals]).get? b with
    | none => rfl
    | some o => rw [PySem.W.of_hideAll _ q] at z; cases z
  have hh2 : HandSPX.HeldZ (PySem.W.hideAll B [ce.locals]) (X.env :: X.outer) a (Zc cls' d') X.env.locals h2 :=
    ⟨fun b o e => (sb.2 b (nohid e)).trans (st1 b o (PySem.W.of_hideAll _ e)), hid0 _ bn1, frames_but sb.2 hid0 ff1 (by rw [← hs]; exact nfr), oe, vs, T, oT, ts, (sb.2 a aC).trans g1, g2, g3, g4, hid0 _ g5, g6, (sb.2 T TC).trans g7, g8, g9⟩
  unfold PySem.passOn
  refine wpAny_bind (wpAny_field ((sb.2 a aC).trans g1) g3 g4 ?_)
  rw [if_neg (show ¬ ((Value.ref T == Value.none) = true) from fun z => by simp at z)]
  have fin : wpAny (model X.prog X.w) X.A (setFlight (.ref a) ce.frame) (fun _ s4 => wpAny (model X.prog X.w) X.A (throw (.ref a) : Sem Value) (fun _ _ => False) X.xe s4) X.xe { s6 with heap := h2 } := by
    rw [cF, hf]
    refine HandSPX.setFlight_onZ hh2 fun h4 hh4 up4 => wpAny_throw (tk _ _ ?_)
    refine ⟨a, PySem.W.hideAll B [ce.locals], { sI with heap := PySem.W.hideAll sI.heap [ce.locals] }, [], σx, H2, cls', d', rfl, ?_, fun b o e hb => ?_, fun b o e hnf => ?_, .inr (.inr (by rw [hs]; exact hh4)), na', os', ag', hE'⟩
    · exact (show Inv X [] σx H2 sI from J.unpinned (pins := [])).turned (t' := sI.toks) (fun b o hb e => PySem.W.hideAll_get _ e fun z => hb (List.mem_singleton.mp z)) nC2 f1 f4 f5 fun p hp => f6 p (List.mem_append_left _ (by rw [List.append_nil] at hp; exact hp))
    · exact PySem.W.hideAll_get _ (nb b o (PySem.W.of_hideAll _ e) hb) fun z => nohid e (List.mem_singleton.mp z)
    · obtain ⟨sl1, e1⟩ := up b o (PySem.W.of_hideAll _ e) hnf
      obtain ⟨sl2, e2⟩ := up1 b _ e1 hnf
      exact up4 b { o with slots := sl2 } ((sb.2 b (nohid e)).trans e2) hnf
  first
    | exact wpAny_bind (wpAny_pure (wpAny_bind fin))
    | exact wpAny_bind fin
/-- [e for target in iter] as a value, where e may raise -/
theorem pe_lcX {E : XK} {elt tg iter : Expr} {scope : Scope} {own : List (Str × Nat)} {pos : Pos} {wi : TI} {g : TG} {te : TE} (hs : X.stack = X.env :: X.outer) (hf : X.env.frame = some X.env.locals) (tk : Takes X (fun cls d _ H => E cls d H)) (hc : X.calm = true) (hN : X.N.Nodup) (hi : PI X tg iter wi) (ok : BlkOk X.N X.env.scope scope own)
    (hg : ∀ (s : Shared) (H : Hp) (C : Addr) (cl : List (Str × Addr)) (fp : List Addr), PG (X.blk s H scope (compEnvC scope cl C X.env) fp) tg g)
    (he : ∀ (s : Shared) (H : Hp) (C : Addr) (cl : List (Str × Addr)) (fp : List Addr) (xe : Value → Shared → Prop), Passes (CX X.prog X.w) ((X.blk s H scope (compEnvC scope cl C X.env) fp).wish xe) E → PE ((X.blk s H scope (compEnvC scope cl C X.env) fp).wish xe) elt te)
    (hfo : ∀ x, foldedSetIterable iter X.env x = pure x := by intro _; rfl) : PE X (.ListComp elt [⟨tg, iter, [], 0⟩] scope pos) (tLc wi g tYes te (own.map (·.2))) := by
  refine ⟨fun pins s σ H Q I h => ?_⟩
  rw [eval_ListComp]
  have clo := closure_ok (scope := scope) (env := X.env) fun y hy e => (ok.free y hy e).elim (fun k => I.ok.has _ (.inl k)) fun k => I.ok.has _ (.inr k)
  refine comprehension_at (use := none) rfl hfo clo ok.kind (fun y hy e => (ok.uniq y hy).trans (by rw [e])) (thn (hi.run pins s σ H _ I h) fun xv s1 hx => thn hx fun itv t0 ht0 => ?_)
  obtain ⟨it, fp, tn, J, G, rfl, I0, T, st0, fp0, q⟩ := ht0
  refine wpAny_newObj_type (newEnv_comp ?_) (by show 0 ≤ sizeLine; decide)
  obtain ⟨D, eD⟩ : ∃ D, t0.heap.objs.size = D := ⟨_, rfl⟩
  obtain ⟨W, ⟨m0, w0⟩, turn⟩ := q D (I0.hok.fresh (Nat.le_of_eq eD))
  rw [eD]
  generalize et1 : ({ t0 with heap := t0.heap.push { cls := .type "list", data := .seq ([] : List Value).toArray } } : Shared) = t1
  have hp1 : t1.heap = t0.heap.push { cls := .type "list", data := .seq ([] : List Value).toArray } := by rw [← et1]
  have I1 : Inv X pins σ (upd G D (.lst [])) t1 := by
    rw [← et1]
    exact I0.laid (t' := t0.toks) (fun b o e => Heap.get?_push_of_some _ e) (Nat.le_of_eq eD) ⟨Nat.zero_le _, [], 0, .nil, by rw [← eD]; exact Heap.get?_push_size _ rfl⟩
  have lt0 : ∀ b ∈ fp, b < t0.heap.objs.size := fun b hb => let ⟨_, e, _⟩ := T.obj _ _ st0 b hb; Heap.lt_size e
  have fp1 : ∀ b ∈ fp, FpOk X pins (upd G D (.lst [])) b ∧ b < t1.heap.objs.size := fun b hb => ⟨⟨(upd_ne (by rw [← eD]; exact Nat.ne_of_lt (lt0 b hb))).trans (fp0 b hb).1, (fp0 b hb).2⟩, by rw [hp1, Heap.size_push]; exact Nat.lt_succ_of_lt (lt0 b hb)⟩
  have st1 : tn 0 t1.heap := T.keep _ _ _ st0 fun b _ o e => by rw [hp1]; exact Heap.get?_push_of_some _ e
  have I2 := block_start I1 ok hN fp1
  have pg := hg t1 (upd G D (.lst [])) t1.heap.objs.size (cellsFrom (t1.heap.objs.size + 1) scope.names (cloFrom X.env.cells scope.names [])) fp
  have pe := he t1 (upd G D (.lst [])) t1.heap.objs.size (cellsFrom (t1.heap.objs.size + 1) scope.names (cloFrom X.env.cells scope.names [])) fp
  show codeAny _ _ (.compStart (.ListComp elt [⟨tg, iter, [], 0⟩] scope pos) 0 (.ref it) (.ref D) (compEnvC scope (cellsFrom (t1.heap.objs.size + 1) scope.names (cloFrom X.env.cells scope.names [])) t1.heap.objs.size X.env)) (compEnds (model X.prog X.w) X.A X.xe none (EP X pins σ Q) (.ref D) (compEnvC scope (cellsFrom (t1.heap.objs.size + 1) scope.names (cloFrom X.env.cells scope.names [])) t1.heap.objs.size X.env)) { t1 with heap := pushCells (t1.heap.push { cls := .type "dict", data := .dict #[] }) scope.names }
  have fr0 : ∀ b ∈ fp, (upd G D (.lst [])) b = none := fun b hb => (fp1 b hb).1.1
  generalize ece : compEnvC scope (cellsFrom (t1.heap.objs.size + 1) scope.names (cloFrom X.env.cells scope.names [])) t1.heap.objs.size X.env = ce at I2 pg pe ⊢
  have cL : ce.locals = t1.heap.objs.size := by subst ece; rfl
  have cF : ce.frame = X.env.frame := by subst ece; rfl
  generalize eG1 : upd G D (.lst []) = G1 at I1 I2 pg pe w0 fr0 fp1
  generalize et2 : ({ t1 with heap := pushCells (t1.heap.push { cls := .type "dict", data := .dict #[] }) scope.names } : Shared) = t2 at I2 ⊢
  have st2 : tn 0 t2.heap := T.keep _ _ _ st1 fun b _ o e => by rw [← et2]; exact pushCells_keeps _ _ _ _ (Heap.get?_push_of_some _ e)
  have still : ∀ {τ : St} {K' : Hp} {u : Shared}, Inv (X.blk t1 G1 scope ce fp) [] τ K' u → (∀ b ∈ fp, K' b = none) → ∀ b ∈ fp, FpOk (X.blk t1 G1 scope ce fp) [] K' b := fun {τ K' u} Iu hn b hb =>
    ⟨hn b hb, (Iu.ok.exf b hb).1, Iu.ok.exfs b hb, .inl hb, fun x c e => (Iu.ok.exf b hb).2 x c e, fun p hp => nomatch (show p ∈ ([] : List (Addr × Obj)) from hp)⟩
  have loop : codeAny (model X.prog X.w) X.A (.compLoop (.ListComp elt [⟨tg, iter, [], 0⟩] scope pos) 0 (.ref it) (.ref D) ce) (compEnds (model X.prog X.w) X.A X.xe none (EP X pins σ Q) (.ref D) ce) t2 := by
    refine compLoop_any (fun n u => ∃ i K', Inv (X.blk t1 G1 scope ce fp) [] (wipe σ (own.map (·.2))) K' u ∧ tn i u.heap ∧ (∀ b ∈ fp, K' b = none) ∧ W i n K') ?_ m0 ⟨0, G1, I2, st2, fr0, w0⟩
    rintro n u5 ⟨i, K5, I5, st5, n5, w5⟩
    rcases turn i n K5 w5 with ⟨stop, qq⟩ | ⟨go, Nx, hNx, step⟩
    · refine thnF (T.done (X.blk t1 G1 scope ce fp) rfl rfl rfl hc i [] u5 _ K5 (fun _ _ => False) I5 (still I5 n5) st5 stop) fun r u6 ⟨hr, I6⟩ => ?_
      subst hr
      have I7 : Inv X pins σ K5 u6 := I1.call' (ch := fp) I6.os I6.base I6.hok I6.bare fun b hb => by
        obtain ⟨⟨_, b1, _, b3, b4, b5⟩, _⟩ := fp1 b hb
        exact ⟨b3, b1, b4, b5⟩
      have nC : K5 t1.heap.objs.size = none := by
        rw [← cL]
        exact I6.free
      obtain ⟨m, hm, _⟩ := I6.loc
      obtain ⟨f0, f1, f2, f3, f4, f5⟩ := I1.fpOk (Nat.le_refl _) nC
      rw [← cL] at f0 f1 f3 f4 f5
      exact ⟨m, hm, fun h'' sb => ⟨.ref D, K5, I7.turned (t' := u6.toks) (fun b o hb e => (sb.2 b hb).trans e) f0 f1 f3 f4 f5, rfl, qq⟩⟩
    · refine thnF (T.item (X.blk t1 G1 scope ce fp) rfl rfl rfl hc i [] u5 _ K5 (fun _ _ => False) I5 (still I5 n5) st5 go) fun r u6 ⟨v, hr, h6⟩ => ?_
      subst hr
      refine thnF h6 fun _ u7 ⟨x, K7, I7, r7, y7, st7, n7⟩ => ?_
      refine thnF (pg.run _ u7 _ K7 x v _ (I7.pinned (still I7 n7) (T.obj _ _ st7)) r7 (step x K7 y7)) fun _ u8 ⟨σ8, K8, I8, hw8, q8⟩ => ?_
      have q8 : te σ8 K8 fun y K9 => ∃ acc, K9 D = some (.lst acc) ∧ acc.length < sizeLine ∧ Nx (upd K9 D (.lst (acc ++ [y]))) := q8
      refine wpAny_tests_nil ?_
      rw [if_pos rfl]
      refine wpAny_mono ((pe _ fun pins' σ' K' w5 e w6 Iw c => lc_fail hs hf tk I1 fp1 cL cF Iw.unwish c).run _ u8 σ8 K8 _ (I8.wish _) q8) (fun z u9 ⟨yv, K9, I9, r9, acc, hD, hz, nx⟩ => ?_) fun _ _ z => z
      refine app_ok (X := X.blk t1 G1 scope ce fp) I9.unwish hD hz r9 fun u10 I10 => ?_
      obtain ⟨m', hm, w'⟩ := hNx _ nx
      have pin' : ∀ b ∈ fp, ∀ o, u7.heap.get? b = some o → u10.heap.get? b = some o ∧ (upd K9 D (.lst (acc ++ [yv]))) b = none := fun b hb o e => by
        have z := I10.pin (b, o) (List.mem_append_right _ (List.mem_append_right _ (mem_pinsAt hb e)))
        exact ⟨z.1, z.2.1⟩
      refine ⟨m', hm, i + 1, _, (I10.unpinned (pins := [])).weak (by rw [← hw8, wipe_length]) (fun j v e => (wipe_some (by rw [← hw8] at e; exact e)).1), T.keep _ _ _ st7 fun b hb o e => (pin' b hb o e).1, fun b hb => ?_, w'⟩
      obtain ⟨o, e, _⟩ := T.obj _ _ st7 b hb
      exact (pin' b hb o e).2
  exact codeAny_compStart_list loop (T.self X.A 0 _ _ _ st2 loop)
end
end L2
namespace HT
open PySem L2
theorem first_of {p : Nat → Prop} : ∀ n, p n → ∃ i, i ≤ n ∧ p i ∧ ∀ j, j < i → ¬ p j := fun n => by
  induction n using Nat.strongRecOn with
  | _ n ih =>
    intro h
    by_cases e : ∃ j, j < n ∧ p j
    · obtain ⟨j, hj, hp⟩ := e
      obtain ⟨i, a, b, c⟩ := ih j hj hp
      exact ⟨i, by omega, b, c⟩
    · exact ⟨n, Nat.le_refl _, h, fun j hj hp => e ⟨j, hj, hp⟩⟩
theorem at_nat {xs : List V} {k : Nat} {y : V} (h : xs[k]? = some y) : atI xs (k : Int) = some y := by
  have hk : k < xs.length := (List.getElem?_eq_some_iff.mp h).1
  unfold atI
  rw [ixN_in (by omega) (by omega), Int.toNat_natCast]
  exact h
def holdsC (v N : Int) (c : Int × Int) (s : Int) : Bool := holdsF (if c.1 = v - N then none else some c.1) (if c.2 = v + N then none else some c.2) s
theorem holdsC_eq (v N : Int) (r : Int × Int) (s : Int) : holdsF (loE v N r) (hiE v N r) s = holdsC v N (shV v (clipN N r)) s := by
  unfold holdsC loE hiE shV
  simp only
  have e1 : ((clipN N r).1 = -N) ↔ (v + (clipN N r).1 = v - N) := by omega
  have e2 : ((clipN N r).2 = N) ↔ (v + (clipN N r).2 = v + N) := by omega
  by_cases c1 : (clipN N r).1 = -N <;> by_cases c2 : (clipN N r).2 = N
  · rw [if_pos c1, if_pos c2, if_pos (e1.mp c1), if_pos (e2.mp c2)]
  · rw [if_pos c1, if_neg c2, if_pos (e1.mp c1), if_neg (fun z => c2 (e2.mpr z))]
  · rw [if_neg c1, if_pos c2, if_neg (fun z => c1 (e1.mpr z)), if_pos (e2.mp c2)]
  · rw [if_neg c1, if_neg c2, if_neg (fun z => c1 (e1.mpr z)), if_neg (fun z => c2 (e2.mpr z))]
abbrev inA (v : Int) (ss : List Sd) (s : Int) (k : Nat) : Prop := inR v (ss.map (movD (-v))) s k
theorem in_aR {v s : Int} {ss : List Sd} {k : Nat} : inA v ss s k ↔ (aR v ss k).1 ≤ s ∧ s ≤ (aR v ss k).2 := Iff.rfl
theorem run_stopK {ns : List Sd} {n : Nat} (h : runN ns (n + 1) = runN ns n) : ∀ k, runN ns (n + k) = runN ns n
  | 0 => rfl
  | k + 1 => by
    show widF ns (runN ns (n + k)) = _
    rw [run_stopK h k]
    exact h
theorem in_zero {v x : Int} {ss : List Sd} (h : inA v ss x 0) : x = v := by
  unfold inA inR at h
  have e : runN (ss.map (movD (-v))) 0 = (0, 0) := rfl
  rw [e] at h
  omega
theorem in_self (v : Int) (ss : List Sd) (k : Nat) : inA v ss v k := by
  have := run_mono (ns := ss.map (movD (-v))) (Nat.zero_le k)
  unfold inA inR
  rw [show runN (ss.map (movD (-v))) 0 = (0, 0) from rfl] at this
  simp only at this
  omega
theorem in_mono {v x : Int} {ss : List Sd} {j k : Nat} (h : inA v ss x j) (jk : j ≤ k) : inA v ss x k := by
  have := run_mono (ns := ss.map (movD (-v))) jk
  unfold inA inR at *
  omega
theorem cR_two {v N : Int} {ss : List Sd} {i j : Nat} (hi : cR v N ss (i + 1) = cR v N ss i) (hj : cR v N ss (j + 1) = cR v N ss j) : cR v N ss i = cR v N ss j := by
  rcases Nat.le_total i j with h | h
  · have := cR_stop hi (j - i)
    rw [show i + (j - i) = j by omega] at this
    exact this.symm
  · have := cR_stop hj (i - j)
    rw [show j + (i - j) = i by omega] at this
    exact this
/-! ### there and there again -/
theorem in_trans {ss : List Sd} (hss : ∀ d ∈ ss, SideP d.o d.s d.m) {v u : Int} {i : Nat} (hi : inA v ss u i) : ∀ (j : Nat) (s : Int), inA u ss s j → inA v ss s (i + j)
  | 0, s, h => by rw [in_zero h]; exact hi
  | j + 1, s, h => by
    by_cases z : inA u ss s j
    · exact in_mono (in_trans hss hi j s z) (Nat.le_succ _)
    · obtain ⟨d, hd, q⟩ := in_mov hss h z
      exact mov_in hss hd (in_trans hss hi j _ q)
theorem due_back {d : Sd} (S : SideP d.o d.s d.m) {N : Int} (hN : perM d.s d.m ∣ N) (x : Int) : wD d (x + N) = wD d x + N := by
  obtain ⟨q, rfl⟩ := hN
  have key : ∀ j : Int, (d.m ≠ "half_even" ∨ j % 2 = 0) → perM d.s d.m * q = -(d.s * j) → wD d (x + perM d.s d.m * q) = wD d x + perM d.s d.m * q := fun j hj e => by
    have t := due_tr (o := d.o + d.s * j) (s := d.s) (m := d.m) (v := x) (t := perM d.s d.m * q)
    rw [due_shift S.md S.s0 hj] at t
    have eo : d.o + d.s * j + perM d.s d.m * q = d.o := by omega
    rw [eo] at t
    exact t
  by_cases he : d.m = "half_even"
  · refine key (-(2 * q)) (.inr (by omega)) ?_
    have : perM d.s d.m = 2 * d.s := by unfold perM; rw [if_pos he]
    rw [this, Int.mul_neg, Int.neg_neg, Int.mul_comm 2 d.s, Int.mul_assoc]
  · refine key (-q) (.inl he) ?_
    have : perM d.s d.m = d.s := by unfold perM; rw [if_neg he]
    rw [this, Int.mul_neg, Int.neg_neg]
theorem per_dvd {ss : List Sd} (hss : ∀ d ∈ ss, SideP d.o d.s d.m) {d : Sd} (hd : d ∈ ss) (k : Int) : perM d.s d.m ∣ (comN ss : Int) * k := by
  have e := perN_eq (hss d hd)
  have h := (com_dvd ss 1).2 d hd
  refine Int.dvd_mul_of_dvd_left ?_
  rw [← e]
  exact Int.natCast_dvd_natCast.mpr h
theorem in_per {ss : List Sd} (hss : ∀ d ∈ ss, SideP d.o d.s d.m) {v : Int} (k : Int) : ∀ (j : Nat) (s : Int), inA v ss s j → inA (v + (comN ss : Int) * k) ss (s + (comN ss : Int) * k) j
  | 0, s, h => by rw [in_zero h]; exact in_self _ _ _
  | j + 1, s, h => by
    by_cases z : inA v ss s j
    · exact in_mono (in_per hss k j s z) (Nat.le_succ _)
    · obtain ⟨d, hd, q⟩ := in_mov hss h z
      have := in_per hss k j _ q
      rw [← due_back (hss d hd) (per_dvd hss hd k)] at this
      exact mov_in hss hd this
/-- a run at rest does not reach a period away -/
theorem rest_near {ss : List Sd} (hss : ∀ d ∈ ss, SideP d.o d.s d.m) {v : Int} {j : Nat} (h : aR v ss (j + 1) = aR v ss j) : v - (comN ss : Int) < (aR v ss j).1 ∧ (aR v ss j).2 < v + (comN ss : Int) := by
  have cp : 0 < comN ss := com_pos ss 1 (by decide) hss
  have hr : runN (ss.map (movD (-v))) (j + 1) = runN (ss.map (movD (-v))) j := sh_inj h
  have still : ∀ s i, inA v ss s (j + i) → inA v ss s j := fun s i q => by
    unfold inA inR at *
    rw [run_stopK hr] at q
    exact q
  have vin := in_self v ss j
  have down : ∀ e : Int, inA v ss (v + (comN ss : Int) * e) j → ∀ k : Nat, inA v ss (v + (comN ss : Int) * (e * (k + 1))) j := fun e h0 k => by
    induction k with
    | zero => rw [Int.natCast_zero, Int.zero_add, Int.mul_one]; exact h0
    | succ k ih =>
      have p := in_per hss e j _ ih
      have t := in_trans hss h0 j _ p
      have := still _ _ t
      rw [show v + (comN ss : Int) * (e * ((k + 1 : Nat) + 1)) = v + (comN ss : Int) * (e * (k + 1)) + (comN ss : Int) * e by
        rw [show (((k + 1 : Nat) : Int) + 1) = ((k : Int) + 1) + 1 by omega, Int.mul_add e ((k : Int) + 1) 1, Int.mul_one, Int.mul_add (comN ss : Int) (e * ((k : Int) + 1)) e, Int.add_assoc]]
      exact this
  have lower : ∀ k : Nat, ((k : Int) + 1) ≤ (comN ss : Int) * ((k : Int) + 1) := fun k => by
    have := Int.mul_le_mul_of_nonneg_right (show (1 : Int) ≤ (comN ss : Int) by omega) (show (0 : Int) ≤ (k : Int) + 1 by omega)
    rwa [Int.one_mul] at this
  refine ⟨?_, ?_⟩
  · refine Int.not_le.mp fun z => ?_
    have h0 : inA v ss (v + (comN ss : Int) * (-1)) j := by
      rw [in_aR] at vin ⊢
      omega
    have q := down (-1) h0 (v - (aR v ss j).1).toNat
    rw [in_aR] at q vin
    have l := lower (v - (aR v ss j).1).toNat
    rw [Int.neg_one_mul, Int.mul_neg] at q
    omega
  · refine Int.not_le.mp fun z => ?_
    have h0 : inA v ss (v + (comN ss : Int) * 1) j := by
      rw [in_aR] at vin ⊢
      omega
    have q := down 1 h0 ((aR v ss j).2 - v).toNat
    rw [in_aR] at q vin
    have l := lower ((aR v ss j).2 - v).toNat
    rw [Int.one_mul] at q
    omega
/-! ### what before comes to, and what is told of it -/
open Classical in
/-- the run at rest within the window; none: 'many' -/
noncomputable def befO (v : Int) (ss : List Sd) : Option (Int × Int) := if h : ∃ j, j ≤ 1000 ∧ cR v (comN ss) ss (j + 1) = cR v (comN ss) ss j then some (cR v (comN ss) ss h.choose) else none
theorem befO_some {v : Int} {ss : List Sd} {j : Nat} (hj : j ≤ 1000) (e : cR v (comN ss) ss (j + 1) = cR v (comN ss) ss j) : befO v ss = some (cR v (comN ss) ss j) := by
  have h : ∃ j, j ≤ 1000 ∧ cR v (comN ss) ss (j + 1) = cR v (comN ss) ss j := ⟨j, hj, e⟩
  unfold befO
  rw [dif_pos h]
  exact congrArg some (cR_two h.choose_spec.2 e)
theorem befO_none {v : Int} {ss : List Sd} (h : ∀ j, j ≤ 1000 → cR v (comN ss) ss (j + 1) ≠ cR v (comN ss) ss j) : befO v ss = none := by
  unfold befO
  exact dif_neg fun ⟨j, a, b⟩ => h j a b
/-- whether a value comes to v; none: 'many' -/
noncomputable def comeO (v s : Int) (ss : List Sd) : Option Bool := if s = v then some true else (befO v ss).map fun c => holdsC v (comN ss) c s
open Classical in
/-- by how few hand-overs; none: 'many' -/
noncomputable def cntO (v s : Int) (ss : List Sd) : Option (Option Nat) := if h : ∃ i, i ≤ 1000 ∧ inA v ss s i ∧ ∀ j, j < i → ¬ inA v ss s j then some (some h.choose) else
  match befO v ss with
  | none => none
  | some c => if holdsC v (comN ss) c s = true then none else some none
theorem cnt_some {v s : Int} {ss : List Sd} {i : Nat} (hi : i ≤ 1000) (hin : inA v ss s i) (no : ∀ j, j < i → ¬ inA v ss s j) : cntO v s ss = some (some i) := by
  have h : ∃ i, i ≤ 1000 ∧ inA v ss s i ∧ ∀ j, j < i → ¬ inA v ss s j := ⟨i, hi, hin, no⟩
  unfold cntO
  rw [dif_pos h]
  obtain ⟨_, b, c⟩ := h.choose_spec
  congr 2
  rcases Nat.lt_trichotomy h.choose i with z | z | z
  · exact absurd b (no _ z)
  · exact z
  · exact absurd hin (c i z)
theorem cnt_else {v s : Int} {ss : List Sd} (no : ∀ i, i ≤ 1000 → ¬ inA v ss s i) : cntO v s ss = match befO v ss with
  | none => none
  | some c => if holdsC v (comN ss) c s = true then none else some none := by
  unfold cntO
  exact dif_neg fun ⟨i, a, b, _⟩ => no i a b
/-- the run has come to rest, and the value is not in it -/
theorem cnt_rest {ss : List Sd} (hss : ∀ d ∈ ss, SideP d.o d.s d.m) {v s : Int} {j : Nat} (hj : j ≤ 1000) (h : aR v ss (j + 1) = aR v ss j) (no : ¬ inA v ss s j) : cntO v s ss = some none := by
  have cs := com_s hss
  have N0 : (0 : Int) ≤ (comN ss : Int) := Int.natCast_nonneg _
  have hr : runN (ss.map (movD (-v))) (j + 1) = runN (ss.map (movD (-v))) j := sh_inj h
  have all : ∀ i, i ≤ 1000 → ¬ inA v ss s i := fun i _ q => by
    rcases Nat.le_total i j with z | z
    · exact no (in_mono q z)
    · refine no ?_
      unfold inA inR at *
      rw [show i = j + (i - j) by omega, run_stopK hr] at q
      exact q
  have ec : cR v (comN ss) ss j = clA v (comN ss) (aR v ss j) := cR_eq hss cs N0 j
  have e2 : cR v (comN ss) ss (j + 1) = cR v (comN ss) ss j := by rw [cR_eq hss cs N0 (j + 1), ec, h]
  rw [cnt_else all, befO_some hj e2]
  have near := rest_near hss h
  have cl : clA v (comN ss) (aR v ss j) = aR v ss j := by
    unfold clA
    rw [if_neg (by omega), if_neg (by omega)]
  have hf : holdsC v (comN ss) (aR v ss j) s = false := by
    unfold holdsC
    rw [if_neg (by omega), if_neg (by omega)]
    show (decide ((aR v ss j).1 ≤ s) && decide (s ≤ (aR v ss j).2)) = false
    by_cases a : (aR v ss j).1 ≤ s
    · rw [decide_eq_true a, decide_eq_false (fun b => no (in_aR.mpr ⟨a, b⟩))]
      rfl
    · rw [decide_eq_false a]
      rfl
  show (if holdsC v (comN ss) (cR v (comN ss) ss j) s = true then none else some none) = some none
  rw [ec, cl, hf]
  rfl
def cntV : Option Nat → V
  | none => .non
  | some i => .int (i : Int)
def cntM : Option (Option Nat) → V
  | none => .str "many"
  | some o => cntV o
end HT
namespace HT
open PySem L2
section
variable {P : Program} {w : World} {K : PySem.W.Frag} {mg : Str → Option Value} {base : Heap}
/-- a promise that follows from another one -/
theorem ok_imp {CX : CXT} {k : Nat} {f : Addr} {fd : FuncData} {ps : List Str} {sp sp' : Sp} (F : FnOk P w K mg base CX k f fd ps sp) (h : ∀ vs H Q E, sp' vs H Q E → sp vs H Q E) : FnOk P w K mg base CX k f fd ps sp' :=
  ⟨fun vs H Q E z => F.len vs H Q E (h _ _ _ _ z), fun A outer s H args us vs Q E hr he hb hv hs => F.run A outer s H args us vs Q E hr he hb hv (h _ _ _ _ hs)⟩
/-- a call within a comprehension's element -/
theorem pcp {X : Cx} {E : XK} {x : Str} {k j : Nat} {ps : List Str} {sp : Sp} {f : Addr} {fd : FuncData} {e : Expr} {es : List Expr} {t : TA} {p pos : Pos} (C : CalX X.prog X.w X.K X.mg X.base x k ps sp f fd) (hr : Room j X.A) (hj : k ≤ j) (hg : Gl X x) (px : Passes (L2.CX X.prog X.w) X E) (ha : PA X (e :: es) t)
    (hdb : (x == ("__debug__" : Str)) = false := by decide) (he : starEach (e :: es) X.env = (false, eval e X.env) :: starEach es X.env := by rfl) (hpl : (backTo pos (starEach es X.env)).any (·.1) = false := by rfl) : PE X (.Call (.Name x p) (e :: es) [] pos) (tCall sp [] E t) :=
  pe_call C.ok (hr.mono hj) hg C.mgf C.kp C.b .nil px ha hdb he hpl
end
def spFewO (C : Nat → Addr) : Sp := fun vs H Q E => ∃ (l : Addr) (xs : List V) (ss : List Sd) (s v : Int), vs = [.ref l, .int s, .int v] ∧ SidesAt H l xs ss ∧ (-2 ^ 690 < v ∧ v < 2 ^ 690) ∧
  ∀ H', Same H H' → (∀ o, cntO v s ss = some o → Q (cntV o) H') ∧ (cntO v s ss = none → E (.ref (C 2)) none H')
def spComeO (C : Nat → Addr) : Sp := fun vs H Q E => ∃ (l : Addr) (xs : List V) (ss : List Sd) (s v : Int), vs = [.ref l, .int s, .int v] ∧ SidesAt H l xs ss ∧ (-2 ^ 690 < v ∧ v < 2 ^ 690) ∧
  ∀ H', Same H H' → (∀ b, comeO v s ss = some b → Q (.bl b) H') ∧ (comeO v s ss = none → E (.ref (C 2)) none H')
theorem too_bef {v : Int} {ss : List Sd} (hss : ∀ d ∈ ss, SideP d.o d.s d.m) {n : Nat} (to : RunsTo (ss.map (movD (-v))) n) : (TooE (comN ss) (ss.map (movD (-v))) n ∧ befO v ss = none) ∨ (¬ TooE (comN ss) (ss.map (movD (-v))) n ∧ ∃ c, befO v ss = some c ∧ ∀ s, holdsF (loE v (comN ss) (runN (ss.map (movD (-v))) n)) (hiE v (comN ss) (runN (ss.map (movD (-v))) n)) s = holdsC v (comN ss) c s) := by
  have cs := com_s hss
  have N0 : (0 : Int) ≤ (comN ss : Int) := Int.natCast_nonneg _
  by_cases h : ∃ j, j ≤ 1000 ∧ cR v (comN ss) ss (j + 1) = cR v (comN ss) ss j
  · obtain ⟨j, hj, e⟩ := h
    obtain ⟨nt, br⟩ := bef_rest hss cs N0 hj e to
    exact .inr ⟨nt, _, befO_some hj e, fun s => by rw [holdsC_eq, br]⟩
  · have no : ∀ j, j ≤ 1000 → cR v (comN ss) ss (j + 1) ≠ cR v (comN ss) ss j := fun j a b => h ⟨j, a, b⟩
    exact .inl ⟨bef_many hss cs N0 no to, befO_none no⟩
theorem few_imp {C : Nat → Addr} (vs : List V) (H : Hp) (Q : VK) (E : XK) (h : spFewO C vs H Q E) : spFewG C vs H Q E := by
  obtain ⟨l, xs, ss, s, v, rfl, SS, vb, k⟩ := h
  refine ⟨l, xs, ss, s, v, rfl, SS, vb, fun n i H' to i1 i2 hin no s' => (k H' s').1 _ (cnt_some i2 hin no), fun n to none_ H' s' => ?_⟩
  have all : ∀ i, i ≤ 1000 → ¬ inA v ss s i := fun i hi => by
    rcases Nat.le_total i n with z | z
    · exact none_ i z hi
    · by_cases e : n = 1001
      · omega
      · have st := to.stop.resolve_left e
        have q := none_ n (Nat.le_refl _) (by omega)
        unfold inA inR at *
        rw [show i = n + (i - n) by omega, run_stopK st]
        exact q
  have ce := cnt_else all
  rcases too_bef SS.side to with ⟨t, b⟩ | ⟨nt, c, b, hc⟩
  · rw [b] at ce
    exact ⟨fun _ => (k H' s').2 ce, fun z => absurd t z⟩
  · rw [b] at ce
    refine ⟨fun z => absurd z nt, fun _ => ?_⟩
    rw [hc s]
    refine ⟨fun ht => (k H' s').2 ?_, fun hf => (k H' s').1 none ?_⟩
    · rw [ce]; show (if holdsC v (comN ss) c s = true then none else some none) = _; rw [if_pos ht]
    · rw [ce]; show (if holdsC v (comN ss) c s = true then none else some none) = _; rw [hf]; rfl
theorem come_imp {C : Nat → Addr} (vs : List V) (H : Hp) (Q : VK) (E : XK) (h : spComeO C vs H Q E) : spCome C vs H Q E := by
  obtain ⟨l, xs, ss, s, v, rfl, SS, vb, k⟩ := h
  refine ⟨l, xs, ss, s, v, rfl, SS, vb, fun e => (k H (Same.refl _)).1 true (by unfold comeO; rw [if_pos e]), fun ne n to => ?_⟩
  have ec : comeO v s ss = (befO v ss).map fun c => holdsC v (comN ss) c s := by unfold comeO; rw [if_neg ne]
  rcases too_bef SS.side to with ⟨t, b⟩ | ⟨nt, c, b, hc⟩
  · rw [b] at ec
    exact ⟨fun _ H' s' => (k H' s').2 ec, fun z => absurd t z⟩
  · rw [b] at ec
    refine ⟨fun z => absurd z nt, fun _ H' s' => ?_⟩
    rw [hc s]
    exact (k H' s').1 _ ec
/-! ### what is no list of at most 50 values -/
inductive BadQ (H : Hp) : V → Prop where
  | kind {x : V} {n : String} (t : Th H x n) (h : (n == "list") = false) : BadQ H x
  | len {l : Addr} {xs : List V} (hl : H l = some (.lst xs)) (h : 50 < xs.length) : BadQ H (.ref l)
  | item {l : Addr} {xs : List V} {i : Nat} {y : V} {n : String} (hl : H l = some (.lst xs)) (h : xs.length ≤ 50) (hi : xs[i]? = some y) (t : Th H y n) (ni : isI n = false) (good : ∀ j z, j < i → xs[j]? = some z → ∃ k : Int, z = .int k) : BadQ H (.ref l)
theorem BadQ.same {H H' : Hp} {x : V} (b : BadQ H x) (e : Same H H') : BadQ H' x := by
  cases b with
  | kind t h => exact .kind (t.same e) h
  | len hl h => exact .len (e _ _ hl) h
  | item hl h hi t ni good => exact .item (e _ _ hl) h hi (t.same e) ni good
def spSeenX (C : Nat → Addr) : Sp := fun vs H Q E => ∃ x : V, vs = [x] ∧ ((∃ q ns, x = .ref q ∧ H q = some (.lst (List.map V.int ns)) ∧ ns.length ≤ 50 ∧ Q .non H) ∨ (BadQ H x ∧ E (.ref (C 4)) none H))
section
variable {P : Program} {w : World} {K : PySem.W.Frag} {mg : Str → Option Value} {base : Heap} {B fB : Addr} {dB : FuncData} {C : Nat → Addr}
theorem ok_seen_x {f : Addr} {fd : FuncData} (F : Fun K "_check_seen" "_check_seen" s_check_seen f fd) (A' : AmG mg) (R : Er K mg C B) (hMS : ∃ t, mg "MOST_SEEN" = some (.int 50 t)) (Ii : Cal P w K mg base "is_int" 1 ["thing"] spIsAny fB dB) : FnOk P w K mg base (L2.CX P w) 2 f fd ["seen"] (spSeenX C) := by
  refine F.okAny sc_check_seen (fun vs H Q E h => ?_) (fun cdv A outer s0 H vs Q E hr h => ?_)
  · obtain ⟨x, rfl, _⟩ := h
    rfl
  · obtain ⟨x, rfl, h⟩ := h
    have nd := sc_check_seen.nd
    obtain ⟨tms, hms⟩ := hMS
    refine ⟨_, pss_cons (ps_if (PW.pt (pw_or (pt_not (pt_val (pe_callB call_isi (by rfl) A'.isi (by decide +kernel) (pa_cons (pv 0) (pa_cons (pe_bltn (v := .ty "list") (by rfl) A'.list (by decide +kernel) rfl) pa_nil)))))
        (pw_or1 (pt_cmpR op_gt (pe_callB call_len_seq (by rfl) A'.len PySem.boot_len (pa_cons (pv 0) pa_nil)) (pe_glob (v := .int 50) (by rfl) hms ⟨_, rfl⟩) (nomark _))))) (pss_one (ps_raise rfl (takes_of rfl rfl rfl rfl) (pmk_own PySem.F.excBase_ValueError (R.ex 4 (by decide)) R.g4 (R.kp 4 (by decide)) (raises_own (R.sb 4 (by decide)) (R.ty 4 (by decide))) (by rfl)))) pss_nil)
      (pss_one (ps_for (passes_of rfl) rfl (pi_list (pv 0)) (pg_name (i := 1) nd rfl (Or.inl rfl))
        (pss_one (ps_if (pt_not (pt_val (pcl Ii hr (by decide) (by rfl) (pa_cons (pv 1) pa_nil)))) (pss_one (ps_raise rfl (takes_of rfl rfl rfl rfl) (pmk_own PySem.F.excBase_ValueError (R.ex 4 (by decide)) R.g4 (R.kp 4 (by decide)) (raises_own (R.sb 4 (by decide)) (R.ty 4 (by decide))) (by rfl)))) pss_nil)))), ?_⟩
    walk_at "rd"
    rcases h with ⟨q, ns, rfl, hq, n50, k⟩ | ⟨bad, ex⟩
    · refine ⟨_, _, _, _, _, rfl, .ty "list", .base (.lst hq), kit_ty (r := true) (by decide +kernel), ?_⟩
      walk_at "rd"
      refine ⟨q, _, rfl, .inl (SqL.of hq), ?_⟩
      rw [List.length_map]
      walk_at "rd"
      refine ite2 (fun z => absurd (of_decide_eq_true z) (by omega)) (fun _ => ?_)
      walk_at "rd"
      refine ⟨⟨_, SqL.of hq⟩, ?_⟩
      refine for_list (K := K) (a := q) (xs := ns.map V.int) (fun j st Hz => ∃ x1 : Option V, st = [some (.ref q), x1] ∧ Hz = H) ⟨none, rfl, rfl⟩ (fun _ _ _ _ ⟨_, _, e⟩ => e ▸ SqL.of hq) ?_ (fun st Hz ⟨x1, e, e2⟩ => by subst e; subst e2; exact k)
      rintro j y st Hz hy ⟨x1, rfl, rfl⟩
      obtain ⟨n, rfl⟩ : ∃ n : Int, y = .int n := by
        rw [List.getElem?_map] at hy
        obtain ⟨c, a, b⟩ := Option.map_eq_some_iff.mp hy
        exact ⟨c, b.symm⟩
      walk_at "rd"
      refine ⟨_, _, rfl, .int n, ?_⟩
      refine ⟨_, rfl, ?_⟩
      refine ite2 (fun z => absurd z (by decide)) (fun _ => ?_)
      exact ⟨_, rfl, rfl⟩
    · cases bad with
      | kind t hk =>
        refine ⟨_, _, _, _, _, rfl, .ty "list", t.ty, t.klst, ?_⟩
        walk_at "rd"
        refine ite2 (fun _ => ?_) (fun z => absurd (by rw [hk]; rfl) z)
        exact ex
      | @len l xs hl hk =>
        refine ⟨_, _, _, _, _, rfl, .ty "list", .base (.lst hl), kit_ty (r := true) (by decide +kernel), ?_⟩
        walk_at "rd"
        refine ⟨l, _, rfl, .inl (SqL.of hl), ?_⟩
        walk_at "rd"
        refine ite2 (fun _ => ex) (fun z => absurd (decide_eq_true (by omega)) z)
      | @item l xs i0 y0 n0 hl hk hi t0 ni0 good =>
        refine ⟨_, _, _, _, _, rfl, .ty "list", .base (.lst hl), kit_ty (r := true) (by decide +kernel), ?_⟩
        walk_at "rd"
        refine ⟨l, _, rfl, .inl (SqL.of hl), ?_⟩
        walk_at "rd"
        refine ite2 (fun z => absurd (of_decide_eq_true z) (by omega)) (fun _ => ?_)
        walk_at "rd"
        refine ⟨⟨_, SqL.of hl⟩, ?_⟩
        have i0l : i0 < xs.length := (List.getElem?_eq_some_iff.mp hi).1
        refine for_list (K := K) (a := l) (xs := xs) (fun j st Hz => ∃ x1 : Option V, st = [some (.ref l), x1] ∧ Hz = H ∧ j ≤ i0) ⟨none, rfl, rfl, Nat.zero_le _⟩ (fun _ _ _ _ ⟨_, _, e, _⟩ => e ▸ SqL.of hl) ?_ (fun st Hz ⟨x1, _, _, e⟩ => absurd i0l (by omega))
        rintro j y st Hz hy ⟨x1, rfl, rfl, ji⟩
        walk_at "rd"
        by_cases e : j = i0
        · subst e
          rw [hi] at hy
          cases hy
          refine ⟨_, _, rfl, t0, ?_⟩
          rw [ni0]
          refine ⟨_, rfl, ?_⟩
          exact ite2 (fun _ => ex) (fun z => absurd rfl z)
        · obtain ⟨k, rfl⟩ := good j y (by omega) hy
          refine ⟨_, _, rfl, .int k, ?_⟩
          refine ⟨_, rfl, ?_⟩
          refine ite2 (fun z => absurd z (by decide)) (fun _ => ?_)
          exact ⟨_, rfl, rfl, by omega⟩
end
end HT
namespace HT
open PySem L2
/-- the number of the first one to which the value ahead cannot come, behind k turns -/
noncomputable def fV (ss : List Sd) (ns : List Int) : Nat → V
  | 0 => .non
  | k + 1 => if fV ss ns k = .non then (match comeO (ns.getD (k + 1) 0) (ns.getD k 0) ss with
    | none => .str "many"
    | some true => .non
    | some false => .int ((k : Int) + 1)) else fV ss ns k
theorem fV_stay {ss : List Sd} {ns : List Int} {k : Nat} (h : fV ss ns k ≠ .non) : ∀ m, k ≤ m → fV ss ns m = fV ss ns k
  | 0, z => by rw [Nat.le_zero.mp z]
  | m + 1, z => by
    rcases Nat.lt_or_eq_of_le z with y | y
    · have e := fV_stay h m (by omega)
      show (if fV ss ns m = .non then _ else fV ss ns m) = _
      rw [if_neg (by rw [e]; exact h)]
      exact e
    · rw [y]
/-- the counts -/
noncomputable def cO (ss : List Sd) (ns : List Int) (k : Nat) : Option (Option Nat) := cntO (ns.getD (k + 1) 0) (ns.getD k 0) ss
noncomputable def cL (ss : List Sd) (ns : List Int) (n : Nat) : List V := (List.range n).map fun k => cntM (cO ss ns k)
/-- the arguments of fault and of hops, good or bad -/
def LogP (K : PySem.W.Frag) (C : Nat → Addr) (vs : List V) (H : Hp) (E : XK) (Good : Addr → List V → List Sd → Addr → List Int → Prop) : Prop := ∃ x y : V, vs = [x, y] ∧ ((BadL K H x ∧ E (.ref (C 1)) none H) ∨ (∃ l xs, x = .ref l ∧ GoodL H l xs ∧ BadQ H y ∧ E (.ref (C 4)) none H) ∨
  (∃ l xs ss q ns, x = .ref l ∧ SidesAt H l xs ss ∧ y = .ref q ∧ H q = some (.lst (List.map V.int ns)) ∧ ns.length ≤ 50 ∧ (∀ v ∈ ns, -2 ^ 690 < v ∧ v < 2 ^ 690) ∧ Good l xs ss q ns))
def spFault (K : PySem.W.Frag) (C : Nat → Addr) : Sp := fun vs H Q E => LogP K C vs H E fun _ _ ss _ ns => ∀ H', Same H H' → (fV ss ns (ns.length - 1) = .str "many" → E (.ref (C 2)) none H') ∧ (fV ss ns (ns.length - 1) ≠ .str "many" → Q (fV ss ns (ns.length - 1)) H')
def spHops (K : PySem.W.Frag) (C : Nat → Addr) : Sp := fun vs H Q E => LogP K C vs H E fun _ _ ss _ ns => ((∃ k, k < ns.length - 1 ∧ cO ss ns k = none) → ∀ H', Same H H' → E (.ref (C 2)) none H') ∧
  ((∀ k, k < ns.length - 1 → cO ss ns k ≠ none) → ∀ (p : Addr) H', H p = none → Same H H' → H' p = some (.lst (cL ss ns (ns.length - 1))) → Q (.ref p) H')
theorem getD_at {ns : List Int} {k : Nat} (h : k < ns.length) : (ns.map V.int)[k]? = some (.int (ns.getD k 0)) := by
  rw [List.getElem?_map, List.getElem?_eq_getElem h, List.getD_eq_getElem?_getD, List.getElem?_eq_getElem h]
  rfl
theorem getD_mem {ns : List Int} {k : Nat} (h : k < ns.length) : ns.getD k 0 ∈ ns := by
  rw [List.getD_eq_getElem?_getD, List.getElem?_eq_getElem h]
  exact List.getElem_mem h
section
variable {P : Program} {w : World} {K : PySem.W.Frag} {mg : Str → Option Value} {base : Heap} {B f1 f2 f3 : Addr} {d1 d2 d3 : FuncData} {C : Nat → Addr}
theorem ok_fault {f : Addr} {fd : FuncData} (F : Fun K "fault" "fault" s_fault f fd) (Bl : Blt mg) (Ls : CalX P w K mg base "check_sides" 5 ["sides"] (spSidesX K C) f1 d1) (Cs : CalX P w K mg base "_check_seen" 2 ["seen"] (spSeenX C) f2 d2) (Co : CalX P w K mg base "can_come" 7 ["sides", "start", "value"] (spComeO C) f3 d3) : FnOk P w K mg base (L2.CX P w) 8 f fd ["sides", "seen"] (spFault K C) := by
  refine F.okAny sc_fault (fun vs H Q E h => ?_) (fun cdv A outer s0 H vs Q E hr h => ?_)
  · obtain ⟨x, y, rfl, _⟩ := h
    rfl
  · obtain ⟨x, y, rfl, h⟩ := h
    have nd := sc_fault.nd
    refine ⟨_, pss_cons (ps_expr (pcx Ls hr (by decide) (by rfl) (takes_of rfl rfl rfl rfl) (pa_cons (pv 0) pa_nil)))
      (pss_cons (ps_expr (pcx Cs hr (by decide) (by rfl) (takes_of rfl rfl rfl rfl) (pa_cons (pv 1) pa_nil)))
      (pss_cons (ps_for (passes_of rfl) rfl (pi_range2 (by rfl) Bl.range (pa_cons pe_int (pa_cons (pe_callB call_len_seq (by rfl) Bl.len PySem.boot_len (pa_cons (pv 1) pa_nil)) pa_nil))) (pg_name (i := 2) nd rfl (Or.inl rfl))
        (pss_one (ps_if (pt_not (pt_val (pcx Co hr (by decide) (by rfl) (takes_of rfl rfl rfl rfl) (pa_cons (pv 0) (pa_cons (pe_ix ix_list (pv 1) (pe_op op_sub (pv 2) pe_int) (fun _ _ => rfl)) (pa_cons (pe_ix ix_list (pv 1) (pv 2) (fun _ _ => rfl)) pa_nil)))))) (pss_one (ps_ret (pv 2))) pss_nil)))
      (pss_one (ps_ret pe_non)))), ?_⟩
    walk_at "rd"
    rcases h with ⟨bad, ex⟩ | ⟨l, xs, rfl, gl, bad, ex⟩ | ⟨l, xs, ss, q, ns, rfl, SS, rfl, hq, n50, nb, k⟩
    · exact .inr ⟨bad, ex⟩
    · refine .inl ⟨l, xs, rfl, gl, ?_⟩
      walk_at "rd"
      exact .inr ⟨bad, ex⟩
    refine .inl ⟨l, xs, rfl, good_of SS, ?_⟩
    walk_at "rd"
    refine .inl ⟨q, ns, rfl, hq, n50, ?_⟩
    walk_at "rd"
    refine ⟨q, _, rfl, .inl (SqL.of hq), ?_⟩
    rw [List.length_map]
    refine ⟨1, (ns.length : Int), rfl, by omega, ?_⟩
    refine for_range (n := ((ns.length : Int) - 1).toNat) (fun i st Hz => ∃ x2 : Option V, st = [some (.ref l), some (.ref q), x2] ∧ Same H Hz ∧ fV ss ns i = .non) ⟨none, rfl, Same.refl _, rfl⟩ ?_ ?_
    · rintro i st Hz hi ⟨x2, rfl, sz, fn⟩
      have i1 : i + 1 < ns.length := by omega
      walk_at "rd"
      refine ⟨q, _, _, _, rfl, rfl, SqL.of (sz _ _ hq), (by rw [show (1 + (i : Int)) - 1 = ((i : Nat) : Int) by omega]; exact at_nat (getD_at (by omega))), ?_⟩
      walk_at "rd"
      refine ⟨q, _, _, _, rfl, rfl, SqL.of (sz _ _ hq), (by rw [show (1 + (i : Int)) = ((i + 1 : Nat) : Int) by omega]; exact at_nat (getD_at i1)), ?_⟩
      refine ⟨l, xs, ss, _, _, rfl, SS.same sz, nb _ (getD_mem i1), fun H1 s1 => ⟨fun b hb => ?_, fun hb => ?_⟩⟩
      · have fs : fV ss ns (i + 1) = match (some b : Option Bool) with | none => .str "many" | some true => .non | some false => .int ((i : Int) + 1) := by
          rw [← hb]
          show (if fV ss ns i = .non then _ else _) = _
          rw [if_pos fn]
        walk_at "rd"
        cases b with
        | true =>
          refine ite2 (fun z => absurd z (by decide)) (fun _ => ?_)
          exact ⟨_, rfl, sz.trans s1, fs⟩
        | false =>
          refine ite2 (fun _ => ?_) (fun z => absurd rfl z)
          walk_at "rd"
          have e := fV_stay (k := i + 1) (by rw [fs]; exact fun z => V.noConfusion z) (ns.length - 1) (by omega)
          rw [fs] at e
          have k2 := (k H1 (sz.trans s1)).2 (by rw [e]; exact fun z => V.noConfusion z)
          rw [e] at k2
          rw [show 1 + (i : Int) = (i : Int) + 1 by omega]
          exact k2
      · have fs : fV ss ns (i + 1) = .str "many" := by
          show (if fV ss ns i = .non then _ else _) = _
          rw [if_pos fn, hb]
        have e := fV_stay (k := i + 1) (by rw [fs]; exact fun z => V.noConfusion z) (ns.length - 1) (by omega)
        rw [fs] at e
        exact (k H1 (sz.trans s1)).1 e
    · rintro st Hz ⟨x2, rfl, sz, fn⟩
      rw [show ((ns.length : Int) - 1).toNat = ns.length - 1 by omega] at fn
      walk_at "rd"
      have k2 := (k Hz sz).2 (by rw [fn]; exact fun z => V.noConfusion z)
      rw [fn] at k2
      exact k2
theorem ok_hops {f : Addr} {fd : FuncData} (F : Fun K "hops" "hops" s_hops f fd) (Bl : Blt mg) (Ls : CalX P w K mg base "check_sides" 5 ["sides"] (spSidesX K C) f1 d1) (Cs : CalX P w K mg base "_check_seen" 2 ["seen"] (spSeenX C) f2 d2) (Fw : CalX P w K mg base "fewest_handovers" 6 ["sides", "start", "value"] (spFewO C) f3 d3) : FnOk P w K mg base (L2.CX P w) 7 f fd ["sides", "seen"] (spHops K C) := by
  refine F.okAny sc_hops (fun vs H Q E h => ?_) (fun cdv A outer s0 H vs Q E hr h => ?_)
  · obtain ⟨x, y, rfl, _⟩ := h
    rfl
  · obtain ⟨x, y, rfl, h⟩ := h
    have nd := sc_hops.nd
    refine ⟨_, pss_cons (ps_expr (pcx Ls hr (by decide) (by rfl) (takes_of rfl rfl rfl rfl) (pa_cons (pv 0) pa_nil)))
      (pss_cons (ps_expr (pcx Cs hr (by decide) (by rfl) (takes_of rfl rfl rfl rfl) (pa_cons (pv 1) pa_nil)))
      (pss_one (ps_ret (pe_lcX (own := [("number", 2)]) (g := gName 2) (E := E) rfl rfl (takes_of rfl rfl rfl rfl) rfl nd (pi_range2 (by rfl) Bl.range (pa_cons pe_int (pa_cons (pe_callB call_len_seq (by rfl) Bl.len PySem.boot_len (pa_cons (pv 1) pa_nil)) pa_nil))) (blkOk_by (N := ["sides", "seen", "number"]) (sc := defScope s_hops) (by decide +kernel)) (fun _ _ _ _ _ => pg_name (i := 2) nd rfl (Or.inl rfl))
        (fun _ _ _ _ _ _ px => pcp Fw hr (by decide) (by rfl) px (pa_cons (pv 0) (pa_cons (pe_ix (r := rIxL K) (by exact ix_list) (pv 1) (pe_op op_sub (pv 2) pe_int) (fun _ _ => rfl)) (pa_cons (pe_ix (r := rIxL K) (by exact ix_list) (pv 1) (pv 2) (fun _ _ => rfl)) pa_nil)))))))), ?_⟩
    walk_at "rd"
    rcases h with ⟨bad, ex⟩ | ⟨l, xs, rfl, gl, bad, ex⟩ | ⟨l, xs, ss, q, ns, rfl, SS, rfl, hq, n50, nb, k1, k2⟩
    · exact .inr ⟨bad, ex⟩
    · refine .inl ⟨l, xs, rfl, gl, ?_⟩
      walk_at "rd"
      exact .inr ⟨bad, ex⟩
    refine .inl ⟨l, xs, rfl, good_of SS, ?_⟩
    walk_at "rd"
    refine .inl ⟨q, ns, rfl, hq, n50, ?_⟩
    walk_at "rd"
    refine ⟨q, _, rfl, .inl (SqL.of hq), ?_⟩
    rw [List.length_map]
    refine ⟨1, (ns.length : Int), rfl, by omega, fun D nD => ?_⟩
    refine lc_range (lo := 1) (n := ((ns.length : Int) - 1).toNat) (fun i Hz => Same H Hz ∧ Hz D = some (.lst (cL ss ns i)) ∧ ∀ j, j < i → cO ss ns j ≠ none) ⟨fun b u z => (upd_ne (ne_of_none z nD)).trans z, upd_same, fun j z => absurd z (Nat.not_lt_zero _)⟩ ?_ ?_
    · rintro i Hz hi ⟨sz, hD, no⟩
      have i1 : i + 1 < ns.length := by omega
      refine ⟨rfl, ?_⟩
      walk_at "rd"
      refine ⟨q, _, _, _, rfl, rfl, SqL.of (sz _ _ hq), (by rw [show (1 + (i : Int)) - 1 = ((i : Nat) : Int) by omega]; exact at_nat (getD_at (by omega))), ?_⟩
      walk_at "rd"
      refine ⟨q, _, _, _, rfl, rfl, SqL.of (sz _ _ hq), (by rw [show (1 + (i : Int)) = ((i + 1 : Nat) : Int) by omega]; exact at_nat (getD_at i1)), ?_⟩
      refine ⟨l, xs, ss, _, _, rfl, SS.same sz, nb _ (getD_mem i1), fun H1 s1 => ⟨fun o ho => ?_, fun hb => ?_⟩⟩
      · have hD1 := s1 _ _ hD
        refine ⟨_, hD1, (by unfold cL; rw [List.length_map, List.length_range]; exact Nat.lt_of_lt_of_le (by omega : i < 100) (by decide)), fun b u z => (upd_ne (ne_of_none z nD)).trans (s1 _ _ (sz _ _ z)), ?_, fun j hj => ?_⟩
        · rw [upd_same]
          unfold cL
          rw [List.range_succ, List.map_append]
          show _ = some (HO.lst (_ ++ [cntM (cO ss ns i)]))
          unfold cO
          rw [ho]
          rfl
        · rcases Nat.lt_or_eq_of_le (Nat.le_of_lt_succ hj) with z | z
          · exact no j z
          · rw [z]
            unfold cO
            rw [ho]
            exact fun y => nomatch y
      · exact k1 ⟨i, by omega, hb⟩ H1 (sz.trans s1)
    · rintro Hz ⟨sz, hD, no⟩
      rw [show ((ns.length : Int) - 1).toNat = ns.length - 1 by omega] at hD no
      exact k2 no D Hz nD sz hD
end
end HT
namespace HT
open PySem L2
def oDN : Option Int → PyData
  | none => .none
  | some x => .int x
theorem dp_oI {K : PySem.W.Frag} {H : Hp} (r : Option Int) : Dp K H (oI r) (oDN r) := by
  cases r with
  | none => exact .non
  | some n => exact .int _
def twoD (a b : Option Int) : PyData := .tuple [oDN a, oDN b]
theorem two_dp {K : PySem.W.Frag} {H : Hp} {p : Addr} {a b : Option Int} (h : H p = some (.tup [oI a, oI b])) : Dp K H (.ref p) (twoD a b) := .tup (SqT.of h) (.cons (dp_oI a) (.cons (dp_oI b) .nil))
theorem two_sh (a b : Option Int) : SeqAt.shaped (twoD a b) = true := by
  cases a <;> cases b <;> simp [twoD, oDN, SeqAt.shaped, PyData.canLayAll0, PyData.canLay0, PyData.depth, PyData.depthAll]
theorem two_str (a b : Option Int) (z : Str) : PyData.eqv (twoD a b) (.str z) = false := by
  show PyData.eqv (.tuple _) (.str _) = false
  rw [PyData.eqv]
theorem many_sh : SeqAt.shaped (.str "many") = true := by decide +kernel
theorem many_refl : PyData.eqv (.str "many") (.str "many") = true := by decide +kernel
theorem aR_bd {v : Int} {ss : List Sd} (hss : ∀ d ∈ ss, SideP d.o d.s d.m) (k : Nat) : v - 10 ^ 31 * (k : Int) ≤ (aR v ss k).1 ∧ (aR v ss k).2 ≤ v + 10 ^ 31 * (k : Int) ∧ (aR v ss k).1 ≤ v ∧ v ≤ (aR v ss k).2 := by
  have hns : ∀ d ∈ ss.map (movD (-v)), SideP d.o d.s d.m := fun d hd => by
    obtain ⟨e, he, rfl⟩ := List.mem_map.mp hd
    exact side_mov _ (hss e he)
  have := run_bd hns k
  unfold aR shV
  show v - 10 ^ 31 * (k : Int) ≤ v + (runN _ k).1 ∧ v + (runN _ k).2 ≤ v + 10 ^ 31 * (k : Int) ∧ v + (runN _ k).1 ≤ v ∧ v ≤ v + (runN _ k).2
  omega
def spLH : Sp := fun vs H Q _ => ∃ (p : Addr) (lo hi : Option Int) (s : Int), vs = [.ref p, .int s] ∧ H p = some (.tup [oI lo, oI hi]) ∧ Q (.bl (holdsF lo hi s)) H
def spCnt : Sp := fun vs H Q _ => ∃ (l : Addr) (xs : List V) (ss : List Sd) (s v : Int), vs = [.ref l, .int s, .int v] ∧ SidesAt H l xs ss ∧ (-2 ^ 690 < v ∧ v < 2 ^ 690) ∧ ∀ H', Same H H' → Q (cntM (cntO v s ss)) H'
theorem holdsC_end {v N : Int} {c : Int × Int} : endT v N c = .tup [oI (if c.1 = v - N then none else some c.1), oI (if c.2 = v + N then none else some c.2)] := rfl
section
variable {P : Program} {w : World} {K : PySem.W.Frag} {mg : Str → Option Value} {base : Heap} {f1 f2 f3 : Addr} {d1 d2 d3 : FuncData}
theorem ok_L_holds {f : Addr} {fd : FuncData} (F : Fun K "_law_holds" "_law_holds" s_L_holds f fd) : FnOk P w K mg base CX0 1 f fd ["_law_run", "_law_value"] spLH := by
  refine F.ok sc_L_holds (fun vs H Q E h => ?_) (fun cdv A outer s0 H vs Q E hr h => ?_)
  · obtain ⟨p, lo, hi, s, rfl, _⟩ := h
    rfl
  · obtain ⟨p, lo, hi, s, rfl, hp, q⟩ := h
    have nd := sc_L_holds.nd
    refine ⟨_, (pss_cons (ps_mid (ps_if (PW.pt (pw_and (pt_cmpR op_notN (pe_ix ix_tup (pv 0) pe_int (fun _ _ => rfl)) pe_non (nomark _)) (pw_and1 (pt_cmpR op_lt (pv 1) (pe_ix ix_tup (pv 0) pe_int (fun _ _ => rfl)) (nomark _))))) (pss_one (ps_ret pe_bl)) pss_nil))
      (pss_one (ps_ret (pe_or (pe_cmpR op_isN (pe_ix ix_tup (pv 0) pe_int (fun _ _ => rfl)) pe_non (nomark _)) (pe_one (pe_cmpR op_le (pv 1) (pe_ix ix_tup (pv 0) pe_int (fun _ _ => rfl)) (nomark _))))))), ?_⟩
    have dn : ∀ x : Int, decide (oI (some x) = V.non) = false := fun x => decide_eq_false fun z => nomatch (show V.int x = V.non from z)
    refine ⟨fun st Hz => st = [some (.ref p), some (.int s)] ∧ Hz = H ∧ lowF lo s = true, ?_, ?_⟩
    · walk_at "rd"
      refine ⟨p, _, 0, _, rfl, rfl, SqT.of hp, rfl, ?_⟩
      refine ⟨rfl, ?_⟩
      refine ⟨_, rfl, ?_⟩
      cases lo with
      | none => exact ⟨rfl, rfl, rfl⟩
      | some x =>
        refine ite2 (fun _ => ?_) (fun z => absurd (by rw [dn]; rfl) z)
        walk_at "rd"
        refine ⟨p, _, 0, _, rfl, rfl, SqT.of hp, rfl, ?_⟩
        walk_at "rd"
        refine ite2 (fun z => ?_) (fun z => ?_)
        · have e : holdsF (some x) hi s = false := by
            show (decide (x ≤ s) && _) = false
            rw [decide_eq_false (by have := of_decide_eq_true z; omega)]
            rfl
          rw [e] at q
          exact q
        · exact ⟨rfl, rfl, decide_eq_true (Int.not_lt.mp fun y => z (decide_eq_true y))⟩
    rintro st Hz ⟨rfl, rfl, lt⟩
    have e : holdsF lo hi s = highF hi s := by unfold holdsF; rw [lt]; rfl
    rw [e] at q
    walk_at "rd"
    refine ⟨p, _, 1, _, rfl, rfl, SqT.of hp, rfl, ?_⟩
    refine ⟨rfl, ?_⟩
    refine ⟨_, rfl, ?_⟩
    cases hi with
    | none => exact q
    | some y =>
      refine ite2 (fun z => absurd z (by rw [dn]; decide)) (fun _ => ?_)
      walk_at "rd"
      refine ⟨p, _, 1, _, rfl, rfl, SqT.of hp, rfl, ?_⟩
      walk_at "rd"
      exact q
theorem ok_L_count {f : Addr} {fd : FuncData} (F : Fun K "_law_count" "_law_count" s_L_count f fd) (B : Blt mg) (Wi : Cal P w K mg base "_law_wider" 3 ["_law_sides_here", "_law_run"] spWidL f1 d1) (Be : Cal P w K mg base "_law_before" 4 ["_law_sides_here", "_law_value"] spLBef f2 d2) (Ho : Cal P w K mg base "_law_holds" 1 ["_law_run", "_law_value"] spLH f3 d3) : FnOk P w K mg base CX0 5 f fd ["_law_sides_here", "_law_start", "_law_value"] spCnt := by
  refine F.ok sc_L_count (fun vs H Q E h => ?_) (fun cdv A outer s0 H vs Q E hr h => ?_)
  · obtain ⟨l, xs, ss, s, v, rfl, _⟩ := h
    rfl
  · obtain ⟨l, xs, ss, s, v, rfl, SS, vb, q⟩ := h
    have nd := sc_L_count.nd
    refine ⟨_, (pss_cons (ps_set (i := 3) nd rfl (Or.inl rfl) (pe_tup (pa_cons (pv 2) (pa_cons (pv 2) pa_nil))))
      (pss_cons (ps_for PassesOwn.never rfl (pi_range1 (by rfl) B.range (pa_cons pe_int pa_nil)) (pg_name (i := 4) nd rfl (Or.inl rfl)) (pss_cons (ps_if (pt_mid (PW.pt (pw_and (pt_cmpR op_le (pe_ix ix_tup (pv 3) pe_int (fun _ _ => rfl)) (pv 1) (nomark _)) (pw_and1 (pt_cmpR op_le (pv 1) (pe_ix ix_tup (pv 3) pe_int (fun _ _ => rfl)) (nomark _)))))) (pss_one (ps_ret (pv 4))) pss_nil)
      (pss_cons (ps_set (i := 5) nd rfl (Or.inl rfl) (pcl Wi hr (by decide) (by rfl) (pa_cons (pv 0) (pa_cons (pv 3) pa_nil))))
      (pss_cons (ps_if (pt_cmpR (op_eqD hr.units) (pv 5) (pv 3) (nomark _)) (pss_one (ps_ret pe_non)) pss_nil)
      (pss_one (ps_set (i := 3) nd rfl (Or.inl rfl) (pv 5)))))))
      (pss_cons (ps_set (i := 6) nd rfl (Or.inl rfl) (pcl Be hr (by decide) (by rfl) (pa_cons (pv 0) (pa_cons (pv 2) pa_nil))))
      (pss_cons (ps_if (PW.pt (pw_or (pt_cmpR (op_eqD hr.units) (pv 6) pe_str (nomark _)) (pw_or1 (pt_val (pcl Ho hr (by decide) (by rfl) (pa_cons (pv 6) (pa_cons (pv 1) pa_nil))))))) (pss_one (ps_ret pe_str)) pss_nil)
      (pss_one (ps_ret pe_non)))))), ?_⟩
    walk_at "rd"
    refine ⟨(by show 2 ≤ sizeLine; decide), fun p np => ?_⟩
    have gp : upd H p (.tup [V.int v, .int v]) p = some (.tup [V.int v, .int v]) := upd_same
    have sp : Same H (upd H p (.tup [V.int v, .int v])) := same_upd np
    generalize upd H p (.tup [V.int v, .int v]) = H1 at gp sp ⊢
    have e0 : aR v ss 0 = (v, v) := by
      unfold aR shV
      show (v + 0, v + 0) = (v, v)
      rw [Int.add_zero]
    walk_at "rd"
    refine ⟨by decide, by decide, ?_⟩
    refine for_range (n := 1001) (fun k st Hz => ∃ (x4 x5 x6 : Option V) (p : Addr), st = [some (.ref l), some (.int s), some (.int v), some (.ref p), x4, x5, x6] ∧ Hz p = some (pairV (aR v ss k).1 (aR v ss k).2) ∧ Same H Hz ∧ ∀ j, j < k → ¬ inA v ss s j) ⟨none, none, none, p, rfl, by rw [e0]; exact gp, sp, fun j z => absurd z (Nat.not_lt_zero _)⟩ ?_ ?_
    · rintro k st Hz hk ⟨x4, x5, x6, p, rfl, hp, sz, no⟩
      obtain ⟨b1, b2, b3, b4⟩ := aR_bd (v := v) SS.side k
      walk_at "rd"
      refine ⟨fun b Hy => b = decide (inA v ss s k) ∧ Hy = Hz, ?_, ?_⟩
      · walk_at "rd"
        refine ⟨p, _, 0, _, rfl, rfl, SqT.of hp, rfl, ?_⟩
        walk_at "rd"
        refine ite2 (fun z => ?_) (fun z => ?_)
        · have z1 := of_decide_eq_true z
          walk_at "rd"
          refine ⟨p, _, 1, _, rfl, rfl, SqT.of hp, rfl, ?_⟩
          walk_at "rd"
          refine ⟨?_, rfl⟩
          rw [decide_eq_decide]
          exact ⟨fun y => ⟨z1, y⟩, fun y => y.2⟩
        · exact ⟨(decide_eq_false fun y => z (decide_eq_true y.1)).symm, rfl⟩
      rintro b Hy ⟨rfl, rfl⟩
      refine ite2 (fun z => ?_) (fun z => ?_)
      · walk_at "rd"
        have e := cnt_some (by omega) (of_decide_eq_true z) no
        have := q Hy sz
        rw [e] at this
        rw [Int.zero_add]
        exact this
      have nk : ¬ inA v ss s k := fun y => z (decide_eq_true y)
      walk_at "rd"
      refine ⟨l, p, xs, ss, aR v ss k, rfl, SS.same sz, hp, by omega, by omega, fun q' H' nq s' hq => ?_⟩
      rw [← aR_succ SS.side] at hq
      walk_at "rd"
      refine ⟨_, _, dpPair hq, dpPair (s' _ _ hp), shaped_two _ _, shaped_two _ _, ?_⟩
      rw [eqv_two]
      refine ⟨_, rfl, ?_⟩
      refine ite2 (fun z => ?_) (fun z => ?_)
      · have z1 := of_decide_eq_true z
        walk_at "rd"
        have := q H' (sz.trans s')
        rw [cnt_rest SS.side (by omega) (Prod.ext z1.1 z1.2) nk] at this
        exact this
      · walk_at "rd"
        exact ⟨_, _, _, q', rfl, hq, sz.trans s', fun j hj => by
          rcases Nat.lt_or_eq_of_le (Nat.le_of_lt_succ hj) with y | y
          · exact no j y
          · rw [y]; exact nk⟩
    · rintro st Hz ⟨x4, x5, x6, p, rfl, hp, sz, no⟩
      have ce := cnt_else (v := v) (s := s) (ss := ss) fun i hi => no i (by omega)
      walk_at "rd"
      refine ⟨l, xs, ss, v, rfl, SS.same sz, vb, fun j hj e p' H' np' s' hp' => ?_, fun none_ H' s' => ?_⟩
      · rw [befO_some hj e] at ce
        have hp2 : H' p' = some (.tup [oI (if (cR v (comN ss) ss j).1 = v - (comN ss : Int) then none else some (cR v (comN ss) ss j).1), oI (if (cR v (comN ss) ss j).2 = v + (comN ss : Int) then none else some (cR v (comN ss) ss j).2)]) := hp'
        walk_at "rd"
        refine ⟨_, _, two_dp hp2, .str _, two_sh _ _, many_sh, ?_⟩
        rw [two_str]
        refine ⟨_, rfl, ?_⟩
        refine ite2 (fun z => absurd z (by decide)) (fun _ => ?_)
        walk_at "rd"
        refine ⟨p', _, _, s, rfl, hp2, ?_⟩
        have qq := q H' (sz.trans s')
        rw [ce] at qq
        change Q (cntM (if holdsC v (comN ss) (cR v (comN ss) ss j) s = true then none else some none)) H' at qq
        refine ⟨_, rfl, ?_⟩
        refine ite2 (fun z => ?_) (fun z => ?_)
        · rw [if_pos (show holdsC v (comN ss) (cR v (comN ss) ss j) s = true from z)] at qq
          exact qq
        · rw [if_neg (show ¬ holdsC v (comN ss) (cR v (comN ss) ss j) s = true from z)] at qq
          exact qq
      · rw [befO_none none_] at ce
        have qq := q H' (sz.trans s')
        rw [ce] at qq
        walk_at "rd"
        refine ⟨_, _, .str _, .str _, many_sh, many_sh, ?_⟩
        rw [many_refl]
        refine ⟨_, rfl, ?_⟩
        refine ite2 (fun _ => ?_) (fun z => absurd rfl z)
        exact qq
end
end HT
namespace HT
open PySem L2
/-- what is told of the counts -/
def CntA (H : Hp) (cv : V) (ss : List Sd) (ns : List Int) (m : Nat) : Prop := (cv = .str "many" ∧ ∃ k, k < m ∧ cO ss ns k = none) ∨ ∃ p, cv = .ref p ∧ H p = some (.lst (cL ss ns m)) ∧ ∀ k, k < m → cO ss ns k ≠ none
theorem CntA.same {H H' : Hp} {cv : V} {ss : List Sd} {ns : List Int} {m : Nat} (h : CntA H cv ss ns m) (s : Same H H') : CntA H' cv ss ns m := by
  rcases h with h | ⟨p, a, b, c⟩
  · exact .inl h
  · exact .inr ⟨p, a, s _ _ b, c⟩
/-- good arguments -/
structure LogA (H : Hp) (l : Addr) (xs : List V) (ss : List Sd) (q : Addr) (ns : List Int) : Prop where
  S : SidesAt H l xs ss
  hq : H q = some (.lst (ns.map V.int))
  n50 : ns.length ≤ 50
  nb : ∀ v ∈ ns, -2 ^ 690 < v ∧ v < 2 ^ 690
theorem LogA.same {H H' : Hp} {l : Addr} {xs : List V} {ss : List Sd} {q : Addr} {ns : List Int} (L : LogA H l xs ss q ns) (s : Same H H') : LogA H' l xs ss q ns := ⟨L.S.same s, s _ _ L.hq, L.n50, L.nb⟩
def spTold16 : Sp := fun vs H Q _ => ∃ (k : Str) (l : Addr) (xs : List V) (ss : List Sd) (q : Addr) (ns : List Int), vs = [.str k, .ref l, .ref q] ∧ LogA H l xs ss q ns ∧ ((k = "fault" ∧ ∀ H', Same H H' → Q (fV ss ns (ns.length - 1)) H') ∨
  (k = "hops" ∧ ∀ cv H', Same H H' → CntA H' cv ss ns (ns.length - 1) → (∀ p, cv = .ref p → H p = none) → Q cv H'))
def spDue16 : Sp := fun vs H Q _ => ∃ (l : Addr) (xs : List V) (ss : List Sd) (q : Addr) (ns : List Int), vs = [.ref l, .ref q] ∧ LogA H l xs ss q ns ∧ ∀ (r : Addr) (cv : V) H', H r = none → Same H H' → H' r = some (.lst [fV ss ns (ns.length - 1), cv]) → CntA H' cv ss ns (ns.length - 1) → Q (.ref r) H'
section
variable {P : Program} {w : World} {K : PySem.W.Frag} {mg : Str → Option Value} {base : Heap} {Bx f1 f2 f3 : Addr} {d1 d2 d3 : FuncData} {C : Nat → Addr}
theorem ok_L_told {f : Addr} {fd : FuncData} (F : Fun K "_law_told" "_law_told" s_L_told f fd) (R : Er K mg C Bx) (em2 : PySem.W.exmOne K (.ref (C 2)) (.ref (C 2)) = some true) (Fa : CalX P w K mg base "fault" 8 ["sides", "seen"] (spFault K C) f1 d1) (Hp' : CalX P w K mg base "hops" 7 ["sides", "seen"] (spHops K C) f2 d2) : FnOk P w K mg base CX0 9 f fd ["_law_kind", "_law_sides_here", "_law_seen_here"] spTold16 := by
  refine F.ok sc_L_told (fun vs H Q E h => ?_) (fun cdv A outer s0 H vs Q E hr h => ?_)
  · obtain ⟨k, l, xs, ss, q, ns, rfl, _⟩ := h
    rfl
  · obtain ⟨k, l, xs, ss, q, ns, rfl, L, h⟩ := h
    have nd := sc_L_told.nd
    refine ⟨_, pss_cons (ps_set (i := 3) nd rfl (Or.inl rfl) pe_non)
      (pss_cons (ps_set (i := 4) nd rfl (Or.inl rfl) pe_non)
      (pss_cons (ps_try_keep (i := 5) rfl rfl rfl nd rfl rfl ⟨rfl, by decide, .inl R.g2⟩ takes0 (fun W pn xe tk _ => pss_one (ps_if (pt_cmpR op_eq (pv 0) pe_str (nomark _)) (pss_one (ps_set (i := 4) nd rfl (Or.inl rfl) (pcx Fa hr (by decide) (by rfl) tk (pa_cons (pv 1) (pa_cons (pv 2) pa_nil)))))
          (pss_one (ps_set (i := 4) nd rfl (Or.inl rfl) (pcx Hp' hr (by decide) (by rfl) tk (pa_cons (pv 1) (pa_cons (pv 2) pa_nil)))))))
        (fun a rc kl dd pn hz hf => pss_one (ps_set (i := 3) nd rfl (Or.inl rfl) (pv 5))))
      (pss_cons (ps_if (pt_cmpR op_notN (pv 3) pe_non (nomark _)) (pss_one (ps_ret pe_str)) pss_nil)
      (pss_one (ps_ret (pv 4)))))), ?_⟩
    walk_at "rd"
    refine ⟨rfl, ?_⟩
    rcases h with ⟨rfl, k1⟩ | ⟨rfl, k1⟩
    · refine ⟨_, rfl, ?_⟩
      refine ite2 (fun _ => ?_) (fun z => absurd (decide_eq_true rfl) z)
      walk_at "rd"
      refine ⟨_, _, rfl, .inr (.inr ⟨l, xs, ss, q, ns, rfl, L.S, rfl, L.hq, L.n50, L.nb, fun H' s1 => ⟨fun e => ?_, fun e => ?_⟩⟩)⟩
      · have k2 := fun H2 s2 => k1 H2 s2
        rw [e] at k2
        refine ⟨true, em2, fun _ => ⟨rfl, fun pe hpe => ?_⟩, fun z => Bool.noConfusion z⟩
        walk_at "rd"
        refine ⟨rfl, ?_⟩
        walk_at "rd"
        exact k2 _ (fun b u y => (upd_ne (ne_of_none (s1 _ _ y) hpe)).trans (s1 _ _ y))
      · walk_at "rd"
        refine ⟨rfl, ?_⟩
        walk_at "rd"
        exact k1 H' s1
    · refine ⟨_, rfl, ?_⟩
      refine ite2 (fun z => absurd z (by decide)) (fun _ => ?_)
      walk_at "rd"
      refine ⟨_, _, rfl, .inr (.inr ⟨l, xs, ss, q, ns, rfl, L.S, rfl, L.hq, L.n50, L.nb, fun hn H' s1 => ?_, fun no p H' np s1 hp => ?_⟩)⟩
      · refine ⟨true, em2, fun _ => ⟨rfl, fun pe hpe => ?_⟩, fun z => Bool.noConfusion z⟩
        walk_at "rd"
        refine ⟨rfl, ?_⟩
        walk_at "rd"
        exact k1 _ _ (fun b u y => (upd_ne (ne_of_none (s1 _ _ y) hpe)).trans (s1 _ _ y)) (.inl ⟨rfl, hn⟩) (fun p z => nomatch z)
      · walk_at "rd"
        refine ⟨rfl, ?_⟩
        walk_at "rd"
        exact k1 _ _ s1 (.inr ⟨p, rfl, hp, no⟩) (fun p' z => by cases z; exact np)
theorem ok_L_due {f : Addr} {fd : FuncData} (F : Fun K "_law_due" "_law_due" s_L_due f fd) (B : Blt mg) (Be : Cal P w K mg base "_law_before" 4 ["_law_sides_here", "_law_value"] spLBef f1 d1) (Ho : Cal P w K mg base "_law_holds" 1 ["_law_run", "_law_value"] spLH f2 d2) (Co : Cal P w K mg base "_law_count" 5 ["_law_sides_here", "_law_start", "_law_value"] spCnt f3 d3) : FnOk P w K mg base CX0 6 f fd ["_law_sides_here", "_law_seen_here"] spDue16 := by
  refine F.ok sc_L_due (fun vs H Q E h => ?_) (fun cdv A outer s0 H vs Q E hr h => ?_)
  · obtain ⟨l, xs, ss, q, ns, rfl, _⟩ := h
    rfl
  · obtain ⟨l, xs, ss, q, ns, rfl, L, k⟩ := h
    have nd := sc_L_due.nd
    refine ⟨_, (pss_cons (ps_par (i := 2) (j := 3) (by rfl) nd rfl rfl (by decide) rfl rfl (pa_cons pe_non (pa_cons (pe_lst pa_nil) pa_nil)) (by rfl))
      (pss_cons (ps_for PassesOwn.never rfl (pi_range2 (by rfl) B.range (pa_cons pe_int (pa_cons (pe_callB call_len_seq (by rfl) B.len PySem.boot_len (pa_cons (pv 1) pa_nil)) pa_nil))) (pg_name (i := 4) nd rfl (Or.inl rfl)) (pss_cons (ps_mid (ps_if (PW.pt (pw_and (pt_cmpR op_isN (pv 2) pe_non (nomark _)) (pw_and1 (pt_cmpR op_ne (pe_ix ix_list (pv 1) (pe_op op_sub (pv 4) pe_int) (fun _ _ => rfl)) (pe_ix ix_list (pv 1) (pv 4) (fun _ _ => rfl)) (nomark _))))) (pss_cons (ps_set (i := 5) nd rfl (Or.inl rfl) (pcl Be hr (by decide) (by rfl) (pa_cons (pv 0) (pa_cons (pe_ix ix_list (pv 1) (pv 4) (fun _ _ => rfl)) pa_nil))))
      (pss_one (ps_if (pt_cmpR (op_eqD hr.units) (pv 5) pe_str (nomark _)) (pss_one (ps_set (i := 2) nd rfl (Or.inl rfl) pe_str)) (pss_one (ps_if (pt_not (pt_val (pcl Ho hr (by decide) (by rfl) (pa_cons (pv 5) (pa_cons (pe_ix ix_list (pv 1) (pe_op op_sub (pv 4) pe_int) (fun _ _ => rfl)) pa_nil))))) (pss_one (ps_set (i := 2) nd rfl (Or.inl rfl) (pv 4))) pss_nil))))) pss_nil))
      (pss_one (ps_expr (pe_bm PySem.F.plainAttrs_list PySem.F.slot_list_append PySem.F.type_list_append mt_append (pv 3) (pa_cons (pcl Co hr (by decide) (by rfl) (pa_cons (pv 0) (pa_cons (pe_ix ix_list (pv 1) (pe_op op_sub (pv 4) pe_int) (fun _ _ => rfl)) (pa_cons (pe_ix ix_list (pv 1) (pv 4) (fun _ _ => rfl)) pa_nil)))) pa_nil))))))
      (pss_cons (ps_mid (ps_if (pt_cmpR op_in_seq pe_str (pv 3) (by rfl)) (pss_one (ps_set (i := 3) nd rfl (Or.inl rfl) pe_str)) pss_nil))
      (pss_one (ps_ret (pe_lst (pa_cons (pv 2) (pa_cons (pv 3) pa_nil)))))))), ?_⟩
    refine ⟨(by show 0 ≤ sizeLine; decide), fun cl ncl => ?_⟩
    refine ⟨_, _, rfl, ?_⟩
    walk_at "rd"
    have s0' : Same H (upd H cl (.lst [])) := same_upd ncl
    have gcl : upd H cl (.lst []) cl = some (.lst []) := upd_same
    generalize upd H cl (.lst []) = H1 at s0' gcl ⊢
    refine ⟨q, _, rfl, .inl (SqL.of (s0' _ _ L.hq)), ?_⟩
    rw [List.length_map]
    refine ⟨1, (ns.length : Int), rfl, by have := L.n50; omega, ?_⟩
    refine for_range (lo := 1) (n := ((ns.length : Int) - 1).toNat) (fun i st Hz => ∃ (x4 x5 : Option V), st = [some (.ref l), some (.ref q), some (fV ss ns i), some (.ref cl), x4, x5] ∧ Same H Hz ∧ Hz cl = some (.lst (cL ss ns i))) ⟨none, none, rfl, s0', gcl⟩ ?_ ?_
    · rintro i st Hz hi ⟨x4, x5, rfl, sz, hc⟩
      have i1 : i + 1 < ns.length := by omega
      have L2 := L.same sz
      have at0 : atI (ns.map V.int) (1 + (i : Int) - 1) = some (.int (ns.getD i 0)) := by rw [show (1 + (i : Int)) - 1 = ((i : Nat) : Int) by omega]; exact at_nat (getD_at (by omega))
      have at1 : atI (ns.map V.int) (1 + (i : Int)) = some (.int (ns.getD (i + 1) 0)) := by rw [show (1 + (i : Int)) = ((i + 1 : Nat) : Int) by omega]; exact at_nat (getD_at i1)
      have v1 := L.nb _ (getD_mem i1)
      walk_at "rd"
      refine ⟨fun st Hy => ∃ x5 : Option V, st = [some (.ref l), some (.ref q), some (fV ss ns (i + 1)), some (.ref cl), some (.int (1 + (i : Int))), x5] ∧ Same Hz Hy, ?_, ?_⟩
      · have fs : fV ss ns (i + 1) = if fV ss ns i = .non then (match comeO (ns.getD (i + 1) 0) (ns.getD i 0) ss with | none => .str "many" | some true => .non | some false => .int ((i : Int) + 1)) else fV ss ns i := rfl
        walk_at "rd"
        refine ⟨rfl, ?_⟩
        walk_at "rd"
        refine ite2 (fun z => ?_) (fun z => ?_)
        · have z := of_decide_eq_true z
          rw [if_pos z] at fs
          walk_at "rd"
          refine ⟨q, _, _, _, rfl, rfl, SqL.of L2.hq, at0, ?_⟩
          walk_at "rd"
          refine ⟨q, _, _, _, rfl, rfl, SqL.of L2.hq, at1, ?_⟩
          refine ⟨rfl, ?_⟩
          refine ⟨_, rfl, ?_⟩
          refine ite2 (fun y => ?_) (fun y => ?_)
          · have ne : ns.getD i 0 ≠ ns.getD (i + 1) 0 := fun e => by
              rw [e, decide_eq_true rfl] at y
              exact absurd y (by decide)
            have ec : comeO (ns.getD (i + 1) 0) (ns.getD i 0) ss = (befO (ns.getD (i + 1) 0) ss).map fun c => holdsC (ns.getD (i + 1) 0) (comN ss) c (ns.getD i 0) := by unfold comeO; rw [if_neg ne]
            walk_at "rd"
            refine ⟨q, _, _, _, rfl, rfl, SqL.of L2.hq, at1, ?_⟩
            refine ⟨l, xs, ss, _, rfl, L2.S, v1, fun j hj e p' H' np' s' hp' => ?_, fun none_ H' s' => ?_⟩
            · rw [befO_some hj e] at ec
              have ec : comeO (ns.getD (i + 1) 0) (ns.getD i 0) ss = some (holdsC (ns.getD (i + 1) 0) (comN ss) (cR (ns.getD (i + 1) 0) (comN ss) ss j) (ns.getD i 0)) := ec
              rw [ec] at fs
              rw [holdsC_end] at hp'
              walk_at "rd"
              refine ⟨_, _, two_dp hp', .str _, two_sh _ _, many_sh, ?_⟩
              rw [two_str]
              refine ⟨_, rfl, ?_⟩
              refine ite2 (fun z => absurd z (by decide)) (fun _ => ?_)
              walk_at "rd"
              refine ⟨q, _, _, _, rfl, rfl, SqL.of (s' _ _ L2.hq), at0, ?_⟩
              refine ⟨p', _, _, _, rfl, hp', ?_⟩
              refine ⟨_, rfl, ?_⟩
              refine ite2 (fun y2 => ?_) (fun y2 => ?_)
              · have hf : holdsC (ns.getD (i + 1) 0) (comN ss) (cR (ns.getD (i + 1) 0) (comN ss) ss j) (ns.getD i 0) = false := by
                  have y3 : (!holdsC (ns.getD (i + 1) 0) (comN ss) (cR (ns.getD (i + 1) 0) (comN ss) ss j) (ns.getD i 0)) = true := y2
                  simpa using y3
                rw [hf] at fs
                walk_at "rd"
                refine ⟨some (.ref p'), ?_, s'⟩
                rw [fs, show (1 + (i : Int)) = (i : Int) + 1 by omega]
                rfl
              · have hf : holdsC (ns.getD (i + 1) 0) (comN ss) (cR (ns.getD (i + 1) 0) (comN ss) ss j) (ns.getD i 0) = true := by
                  have y3 : ¬ (!holdsC (ns.getD (i + 1) 0) (comN ss) (cR (ns.getD (i + 1) 0) (comN ss) ss j) (ns.getD i 0)) = true := y2
                  simpa using y3
                rw [hf] at fs
                walk_at "rd"
                refine ⟨some (.ref p'), ?_, s'⟩
                rw [fs, z]
                rfl
            · rw [befO_none none_] at ec
              rw [ec] at fs
              walk_at "rd"
              refine ⟨_, _, .str _, .str _, many_sh, many_sh, ?_⟩
              rw [many_refl]
              refine ⟨_, rfl, ?_⟩
              refine ite2 (fun _ => ?_) (fun z => absurd rfl z)
              walk_at "rd"
              refine ⟨some (.str "many"), ?_, s'⟩
              rw [fs]
              rfl
          · have e : ns.getD i 0 = ns.getD (i + 1) 0 := Classical.byContradiction fun ne => y (by rw [dec_int, decide_eq_false ne]; rfl)
            have ec : comeO (ns.getD (i + 1) 0) (ns.getD i 0) ss = some true := by unfold comeO; rw [if_pos e]
            rw [ec] at fs
            walk_at "rd"
            refine ⟨x5, ?_, Same.refl _⟩
            rw [fs, z]
            rfl
        · have z : ¬ fV ss ns i = .non := fun y => z (decide_eq_true y)
          rw [if_neg z] at fs
          rw [fs]
          exact ⟨_, rfl, Same.refl _⟩
      rintro st Hy ⟨y5, rfl, sy⟩
      have L3 := L2.same sy
      walk_at "rd"
      refine ⟨.inl ⟨rfl, _, SqL.of (sy _ _ hc)⟩, ?_⟩
      walk_at "rd"
      refine ⟨q, _, _, _, rfl, rfl, SqL.of L3.hq, at0, ?_⟩
      walk_at "rd"
      refine ⟨q, _, _, _, rfl, rfl, SqL.of L3.hq, at1, ?_⟩
      refine ⟨l, xs, ss, _, _, rfl, L3.S, v1, fun H' s' => ?_⟩
      have hc' := s' _ _ (sy _ _ hc)
      walk_at "rd"
      have n50 := L.n50
      refine ⟨cl, _, _, rfl, rfl, hc', (by unfold cL; rw [List.length_map, List.length_range]; exact Nat.lt_of_lt_of_le (by omega : i < 100) (by decide)), ?_⟩
      refine ⟨_, _, rfl, fun b u z => (upd_ne (ne_of_none z ncl)).trans (s' _ _ (sy _ _ (sz _ _ z))), ?_⟩
      rw [upd_same]
      unfold cL
      rw [List.range_succ, List.map_append]
      rfl
    · rintro st Hz ⟨x4, x5, rfl, sz, hc⟩
      rw [show ((ns.length : Int) - 1).toNat = ns.length - 1 by omega] at hc ⊢
      refine ⟨fun st Hy => ∃ cv : V, st = [some (.ref l), some (.ref q), some (fV ss ns (ns.length - 1)), some cv, x4, x5] ∧ Hy = Hz ∧ CntA Hz cv ss ns (ns.length - 1), ?_, ?_⟩
      · have fl : ∀ o, flatV (cntM o) = true := fun o => by
          match o with
          | none => rfl
          | some none => rfl
          | some (some i) => rfl
        have iv : ∀ o, eqV (cntM o) (.str "many") = decide (o = none) := fun o => by
          match o with
          | none => rfl
          | some none => rfl
          | some (some i) => rfl
        have inv : inV (.str "many") (cL ss ns (ns.length - 1)) = decide (∃ k, k < ns.length - 1 ∧ cO ss ns k = none) := by
          rw [Bool.eq_iff_iff, decide_eq_true_iff]
          unfold inV cL
          rw [List.any_eq_true]
          constructor
          · rintro ⟨x, hx, e⟩
            obtain ⟨k, hk, rfl⟩ := List.mem_map.mp hx
            rw [iv] at e
            exact ⟨k, List.mem_range.mp hk, of_decide_eq_true e⟩
          · rintro ⟨k, hk, e⟩
            exact ⟨_, List.mem_map.mpr ⟨k, List.mem_range.mpr hk, rfl⟩, by rw [iv, e]; rfl⟩
        walk_at "rd"
        refine ⟨cl, _, rfl, .inl (SqL.of hc), rfl, (by unfold cL; rw [List.all_map]; exact List.all_eq_true.mpr fun k _ => fl _), ?_⟩
        rw [if_neg (by decide), inv]
        refine ⟨_, rfl, ?_⟩
        refine ite2 (fun z => ?_) (fun z => ?_)
        · walk_at "rd"
          exact ⟨rfl, .inl ⟨rfl, of_decide_eq_true z⟩⟩
        · exact ⟨_, rfl, rfl, .inr ⟨cl, rfl, hc, fun k hk e => z (decide_eq_true ⟨k, hk, e⟩)⟩⟩
      rintro st Hy ⟨cv, rfl, rfl, ca⟩
      walk_at "rd"
      refine ⟨(by show 2 ≤ sizeLine; decide), fun r nr => ?_⟩
      exact k r cv _ (free_of sz nr) (sz.trans (same_upd nr)) upd_same (ca.same (same_upd nr))
end
end HT
namespace L2
open PySem PySem.Spec PyProof.Rows
/-- xs.count(y) of flat things -/
def rCntV (K : PySem.W.Frag) : V → List V → Hp → VK → Prop := fun x xs H Q => ∃ (p : Addr) (ys : List V) (y : V), x = .ref p ∧ xs = [y] ∧ SqL K H p ys ∧ flatV y = true ∧ ys.all flatV = true ∧ Q (.int (ys.countP (fun z => eqV z y) : Nat)) H
theorem count_eqU {x : V} : ∀ {xs : List V} {us : List Value}, Vals xs us → xs.all flatV = true → us.countP (eqU x) = xs.countP fun y => eqV y x
  | _, _, .nil, _ => rfl
  | y :: xs, u :: us, .cons r t, f => by
    obtain ⟨f1, f2⟩ := Bool.and_eq_true_iff.mp (List.all_cons ▸ f)
    rw [List.countP_cons, List.countP_cons, eqU_of r f1, count_eqU t f2]
theorem mt_cntV {X : Cx} : MtR X "list.count" (rCntV X.K) := by
  intro pins sh st H x xs v us Q iv rx rxs h
  obtain ⟨p, ys, y, rfl, rfl, hs, fy, fys, q⟩ := h
  cases rx
  obtain ⟨u, rfl, ru⟩ := rxs.one
  obtain ⟨its, rv, ⟨⟨cls, dd, data, sl⟩, n, ho, hc, hdn, hd⟩, hlen⟩ := iv.list hs
  dsimp only at hc hd
  subst hc hd
  refine call_meets PySem.F.slot_list_count ⟨_, ho, rfl⟩ PySem.F.entry_list_count (PySem.F.args_list_count_2 _ _) (SeqAt.list_countAt p its.toArray n dd sl u (eqU y)) ⟨ho, fun w hw => mem_eqAt ru fy rv fys w (by simpa using hw), ?_⟩
  refine ⟨.int (ys.countP (fun z => eqV z y) : Nat), H, iv.tok _, ⟨sh.toks, ?_⟩, q⟩
  rw [show its.toArray.toList.countP (eqU y) = ys.countP (fun z => eqV z y) from count_eqU rv fys]
end L2
namespace HT
open PySem L2
theorem BadL.same {K : PySem.W.Frag} {H H' : Hp} {x : V} (b : BadL K H x) (e : Same H H') : BadL K H' x := by
  cases b with
  | kind t h => exact .kind (t.same e) h
  | len hl h => exact .len (e _ _ hl) h
  | item hl h1 h2 hi bad good => exact .item (e _ _ hl) h1 h2 hi (bad.same e) fun j z a b => let ⟨p, o, s, m, a2, b2, c2⟩ := good j z a b; ⟨p, o, s, m, a2, e _ _ b2, c2⟩
def spWord16 (K : PySem.W.Frag) : Sp := fun vs H Q _ => ∃ (d : Int) (x y : V), vs = [.int d, x, y] ∧ ((BadL K H x ∧ ∀ H', Same H H' → Q (.str "sides") H') ∨ (∃ l xs, x = .ref l ∧ GoodL H l xs ∧ BadQ H y ∧ ∀ H', Same H H' → Q (.str "seen") H'))
section
variable {P : Program} {w : World} {K : PySem.W.Frag} {mg : Str → Option Value} {base : Heap} {B f1 f2 : Addr} {d1 d2 : FuncData} {C : Nat → Addr}
theorem ok_L_word {f : Addr} {fd : FuncData} (F : Fun K "_law_word" "_law_word" s_L_word f fd) (R : Er K mg C B) (Fa : CalX P w K mg base "fault" 8 ["sides", "seen"] (spFault K C) f1 d1) (Hp' : CalX P w K mg base "hops" 7 ["sides", "seen"] (spHops K C) f2 d2) : FnOk P w K mg base CX0 9 f fd ["_law_door", "_law_sides_here", "_law_seen_here"] (spWord16 K) := by
  refine F.ok sc_L_word (fun vs H Q E h => ?_) (fun cdv A outer s0 H vs Q E hr h => ?_)
  · obtain ⟨d, x, y, rfl, _⟩ := h
    rfl
  · obtain ⟨d, x, y, rfl, h⟩ := h
    have nd := sc_L_word.nd
    refine ⟨_, pss_cons (ps_set (i := 3) nd rfl (Or.inl rfl) pe_non)
      (pss_cons (ps_try_keep (i := 4) rfl rfl rfl nd rfl rfl ⟨rfl, by decide, .inl R.gB⟩ takes0 (fun W pn xe tk _ => pss_one (ps_if (pt_cmpR op_eq (pv 0) pe_int (nomark _)) (pss_one (ps_expr (pcx Fa hr (by decide) (by rfl) tk (pa_cons (pv 1) (pa_cons (pv 2) pa_nil))))) (pss_one (ps_expr (pcx Hp' hr (by decide) (by rfl) tk (pa_cons (pv 1) (pa_cons (pv 2) pa_nil)))))))
        (fun a rc kl dd pn hz hf => pss_one (ps_set (i := 3) nd rfl (Or.inl rfl) (pv 4))))
      (pss_cons (ps_if (pt_cmpR op_isN (pv 3) pe_non (nomark _)) (pss_one (ps_ret pe_str)) pss_nil)
      (pss_cons (ps_set (i := 5) nd rfl (Or.inl rfl) (pe_lst (pa_cons (pe_callB call_isKept (by rfl) R.isi (by decide +kernel) (pa_cons (pv 3) (pa_cons (pe_glob (v := .ref (C 1)) (by rfl) R.g1 rfl) pa_nil))) (pa_cons (pe_callB call_isKept (by rfl) R.isi (by decide +kernel) (pa_cons (pv 3) (pa_cons (pe_glob (v := .ref (C 4)) (by rfl) R.g4 rfl) pa_nil))) (pa_cons (pe_callB call_isKept (by rfl) R.isi (by decide +kernel) (pa_cons (pv 3) (pa_cons (pe_glob (v := .ref (C 3)) (by rfl) R.g3 rfl) pa_nil))) pa_nil)))))
      (pss_cons (ps_expr (pe_bm PySem.F.plainAttrs_list PySem.F.slot_list_append PySem.F.type_list_append mt_append (pv 5) (pa_cons (pe_callB call_isKept (by rfl) R.isi (by decide +kernel) (pa_cons (pv 3) (pa_cons (pe_glob (v := .ref (C 0)) (by rfl) R.g0 rfl) pa_nil))) pa_nil)))
      (pss_cons (ps_if (PW.pt (pw_or (pt_cmpR op_ne (pe_bm PySem.F.plainAttrs_list PySem.F.slot_list_count PySem.F.type_list_count mt_cntV (pv 5) (pa_cons pe_bl pa_nil)) pe_int (nomark _)) (pw_or1 (pt_not (pt_val (pe_callB call_isKept (by rfl) R.isi (by decide +kernel) (pa_cons (pv 3) (pa_cons (pe_bltn (v := .ty "ValueError") (by rfl) R.ve (by decide +kernel) rfl) pa_nil)))))))) (pss_one (ps_ret pe_str)) pss_nil)
      (pss_one (ps_ret (pe_ix ix_list (pe_lst (pa_cons pe_str (pa_cons pe_str (pa_cons pe_str (pa_cons pe_str pa_nil))))) (pe_bm PySem.F.plainAttrs_list PySem.F.slot_list_index PySem.F.type_list_index mt_index (pv 5) (pa_cons pe_bl pa_nil)) (fun _ _ => rfl))))))))), ?_⟩
    walk_at "rd"
    refine ⟨rfl, ?_⟩
    refine ⟨_, rfl, ?_⟩
    rcases h with ⟨bad, q⟩ | ⟨l, xs, rfl, gl, bad, q⟩
    · refine ite2 (fun _ => ?_) (fun _ => ?_)
      · walk_at "rd"
        refine ⟨_, _, rfl, .inl ⟨bad, ?_⟩⟩
        refine ⟨true, R.emB 1 (by decide), fun _ => ⟨rfl, fun a ha => ?_⟩, fun z => Bool.noConfusion z⟩
        walk_at "rd"
        refine ⟨rfl, ?_⟩
        walk_at "rd"
        refine ⟨a, C 1, _, .ref (C 1), decide (1 = 1), rfl, .own _, upd_same, R.ec 1 (by decide), R.eg, R.kit 1 1 (by decide) (by decide), ?_⟩
        walk_at "rd"
        refine ⟨a, C 1, _, .ref (C 4), decide (1 = 4), rfl, .own _, upd_same, R.ec 1 (by decide), R.eg, R.kit 1 4 (by decide) (by decide), ?_⟩
        walk_at "rd"
        refine ⟨a, C 1, _, .ref (C 3), decide (1 = 3), rfl, .own _, upd_same, R.ec 1 (by decide), R.eg, R.kit 1 3 (by decide) (by decide), ?_⟩
        walk_at "rd"
        refine ⟨(by show 3 ≤ sizeLine; decide), fun l1 nl1 => ?_⟩
        have ea1 := (upd_ne (o := .lst [V.bl (decide (1 = 1)), .bl (decide (1 = 4)), .bl (decide (1 = 3))]) (ne_of_none upd_same nl1)).trans (upd_same (H := H) (a := a) (o := ExK (.ref (C 1)) a))
        have hl1 : upd (upd H a (ExK (.ref (C 1)) a)) l1 (.lst [V.bl (decide (1 = 1)), .bl (decide (1 = 4)), .bl (decide (1 = 3))]) l1 = some (.lst [V.bl (decide (1 = 1)), .bl (decide (1 = 4)), .bl (decide (1 = 3))]) := upd_same
        have eb1 : Same H (upd (upd H a (ExK (.ref (C 1)) a)) l1 (.lst [V.bl (decide (1 = 1)), .bl (decide (1 = 4)), .bl (decide (1 = 3))])) := fun b u e0 => by
          have e1 := (upd_ne (o := ExK (.ref (C 1)) a) (ne_of_none e0 ha)).trans e0
          exact (upd_ne (ne_of_none e1 nl1)).trans e1
        have nl1H : H l1 = none := by
          cases e : H l1 with
          | none => rfl
          | some u =>
            have e1 := (upd_ne (o := ExK (.ref (C 1)) a) (ne_of_none e ha)).trans e
            rw [e1] at nl1
            cases nl1
        generalize upd (upd H a (ExK (.ref (C 1)) a)) l1 (.lst [V.bl (decide (1 = 1)), .bl (decide (1 = 4)), .bl (decide (1 = 3))]) = HW at ea1 eb1 hl1 ⊢
        walk_at "rd"
        refine ⟨.inl ⟨rfl, _, SqL.of hl1⟩, ?_⟩
        walk_at "rd"
        refine ⟨a, C 1, _, .ref (C 0), decide (1 = 0), rfl, .own _, ea1, R.ec 1 (by decide), R.eg, R.kit 1 0 (by decide) (by decide), ?_⟩
        walk_at "rd"
        refine ⟨l1, _, _, rfl, rfl, hl1, (by decide), ?_⟩
        have ea2 := (upd_ne (o := .lst [V.bl (decide (1 = 1)), .bl (decide (1 = 4)), .bl (decide (1 = 3)), .bl (decide (1 = 0))]) (ne_of ea1 hl1 (by intro z; cases z))).trans ea1
        have hl2 : upd HW l1 (.lst [V.bl (decide (1 = 1)), .bl (decide (1 = 4)), .bl (decide (1 = 3)), .bl (decide (1 = 0))]) l1 = some (.lst [V.bl (decide (1 = 1)), .bl (decide (1 = 4)), .bl (decide (1 = 3)), .bl (decide (1 = 0))]) := upd_same
        have eb2 : Same H (upd HW l1 (.lst [V.bl (decide (1 = 1)), .bl (decide (1 = 4)), .bl (decide (1 = 3)), .bl (decide (1 = 0))])) := fun b u e0 => (upd_ne (ne_of_none e0 nl1H)).trans (eb1 _ _ e0)
        replace ea1 := ea2
        replace hl1 := hl2
        replace eb1 := eb2
        clear ea2 hl2 eb2
        have eqH : upd HW l1 (.lst ([V.bl (decide (1 = 1)), .bl (decide (1 = 4)), .bl (decide (1 = 3))] ++ [V.bl (decide (1 = 0))])) = upd HW l1 (.lst [V.bl (decide (1 = 1)), .bl (decide (1 = 4)), .bl (decide (1 = 3)), .bl (decide (1 = 0))]) := rfl
        rw [eqH]
        generalize upd HW l1 (.lst [V.bl (decide (1 = 1)), .bl (decide (1 = 4)), .bl (decide (1 = 3)), .bl (decide (1 = 0))]) = HX at ea1 eb1 hl1 ⊢
        walk_at "rd"
        refine ⟨.inl ⟨rfl, _, SqL.of hl1⟩, ?_⟩
        walk_at "rd"
        refine ⟨l1, _, .bl true, rfl, rfl, SqL.of hl1, rfl, rfl, ?_⟩
        walk_at "rd"
        refine ⟨rfl, ?_⟩
        walk_at "rd"
        refine ⟨a, C 1, _, .type "ValueError", true, rfl, .ty _, ea1, R.ec 1 (by decide), R.eg, R.kitV 1 (by decide), ?_⟩
        walk_at "rd"
        refine ⟨(by show 4 ≤ sizeLine; decide), fun l4 nl4 => ?_⟩
        have hl4 : upd HX l4 (.lst [V.str "sides", .str "seen", .str "value", .str "side"]) l4 = some (.lst [V.str "sides", .str "seen", .str "value", .str "side"]) := upd_same
        have eb4 : Same HX (upd HX l4 (.lst [V.str "sides", .str "seen", .str "value", .str "side"])) := fun b u e0 => (upd_ne (ne_of_none e0 nl4)).trans e0
        generalize upd HX l4 (.lst [V.str "sides", .str "seen", .str "value", .str "side"]) = HY at eb4 hl4 ⊢
        walk_at "rd"
        refine ⟨.inl ⟨rfl, _, SqL.of (eb4 _ _ hl1)⟩, ?_⟩
        walk_at "rd"
        refine ⟨l1, _, .bl true, 0, .bl true, rfl, rfl, SqL.of (eb4 _ _ hl1), rfl, rfl, rfl, rfl, fun m z' hm hz => ?_, ?_⟩
        · exact absurd hm (Nat.not_lt_zero _)
        refine ⟨l4, _, _, _, rfl, rfl, SqL.of hl4, rfl, ?_⟩
        exact q _ (eb1.trans eb4)
      · walk_at "rd"
        refine ⟨_, _, rfl, .inl ⟨bad, ?_⟩⟩
        refine ⟨true, R.emB 1 (by decide), fun _ => ⟨rfl, fun a ha => ?_⟩, fun z => Bool.noConfusion z⟩
        walk_at "rd"
        refine ⟨rfl, ?_⟩
        walk_at "rd"
        refine ⟨a, C 1, _, .ref (C 1), decide (1 = 1), rfl, .own _, upd_same, R.ec 1 (by decide), R.eg, R.kit 1 1 (by decide) (by decide), ?_⟩
        walk_at "rd"
        refine ⟨a, C 1, _, .ref (C 4), decide (1 = 4), rfl, .own _, upd_same, R.ec 1 (by decide), R.eg, R.kit 1 4 (by decide) (by decide), ?_⟩
        walk_at "rd"
        refine ⟨a, C 1, _, .ref (C 3), decide (1 = 3), rfl, .own _, upd_same, R.ec 1 (by decide), R.eg, R.kit 1 3 (by decide) (by decide), ?_⟩
        walk_at "rd"
        refine ⟨(by show 3 ≤ sizeLine; decide), fun l1 nl1 => ?_⟩
        have ea1 := (upd_ne (o := .lst [V.bl (decide (1 = 1)), .bl (decide (1 = 4)), .bl (decide (1 = 3))]) (ne_of_none upd_same nl1)).trans (upd_same (H := H) (a := a) (o := ExK (.ref (C 1)) a))
        have hl1 : upd (upd H a (ExK (.ref (C 1)) a)) l1 (.lst [V.bl (decide (1 = 1)), .bl (decide (1 = 4)), .bl (decide (1 = 3))]) l1 = some (.lst [V.bl (decide (1 = 1)), .bl (decide (1 = 4)), .bl (decide (1 = 3))]) := upd_same
        have eb1 : Same H (upd (upd H a (ExK (.ref (C 1)) a)) l1 (.lst [V.bl (decide (1 = 1)), .bl (decide (1 = 4)), .bl (decide (1 = 3))])) := fun b u e0 => by
          have e1 := (upd_ne (o := ExK (.ref (C 1)) a) (ne_of_none e0 ha)).trans e0
          exact (upd_ne (ne_of_none e1 nl1)).trans e1
        have nl1H : H l1 = none := by
          cases e : H l1 with
          | none => rfl
          | some u =>
            have e1 := (upd_ne (o := ExK (.ref (C 1)) a) (ne_of_none e ha)).trans e
            rw [e1] at nl1
            cases nl1
        generalize upd (upd H a (ExK (.ref (C 1)) a)) l1 (.lst [V.bl (decide (1 = 1)), .bl (decide (1 = 4)), .bl (decide (1 = 3))]) = HW at ea1 eb1 hl1 ⊢
        walk_at "rd"
        refine ⟨.inl ⟨rfl, _, SqL.of hl1⟩, ?_⟩
        walk_at "rd"
        refine ⟨a, C 1, _, .ref (C 0), decide (1 = 0), rfl, .own _, ea1, R.ec 1 (by decide), R.eg, R.kit 1 0 (by decide) (by decide), ?_⟩
        walk_at "rd"
        refine ⟨l1, _, _, rfl, rfl, hl1, (by decide), ?_⟩
        have ea2 := (upd_ne (o := .lst [V.bl (decide (1 = 1)), .bl (decide (1 = 4)), .bl (decide (1 = 3)), .bl (decide (1 = 0))]) (ne_of ea1 hl1 (by intro z; cases z))).trans ea1
        have hl2 : upd HW l1 (.lst [V.bl (decide (1 = 1)), .bl (decide (1 = 4)), .bl (decide (1 = 3)), .bl (decide (1 = 0))]) l1 = some (.lst [V.bl (decide (1 = 1)), .bl (decide (1 = 4)), .bl (decide (1 = 3)), .bl (decide (1 = 0))]) := upd_same
        have eb2 : Same H (upd HW l1 (.lst [V.bl (decide (1 = 1)), .bl (decide (1 = 4)), .bl (decide (1 = 3)), .bl (decide (1 = 0))])) := fun b u e0 => (upd_ne (ne_of_none e0 nl1H)).trans (eb1 _ _ e0)
        replace ea1 := ea2
        replace hl1 := hl2
        replace eb1 := eb2
        clear ea2 hl2 eb2
        have eqH : upd HW l1 (.lst ([V.bl (decide (1 = 1)), .bl (decide (1 = 4)), .bl (decide (1 = 3))] ++ [V.bl (decide (1 = 0))])) = upd HW l1 (.lst [V.bl (decide (1 = 1)), .bl (decide (1 = 4)), .bl (decide (1 = 3)), .bl (decide (1 = 0))]) := rfl
        rw [eqH]
        generalize upd HW l1 (.lst [V.bl (decide (1 = 1)), .bl (decide (1 = 4)), .bl (decide (1 = 3)), .bl (decide (1 = 0))]) = HX at ea1 eb1 hl1 ⊢
        walk_at "rd"
        refine ⟨.inl ⟨rfl, _, SqL.of hl1⟩, ?_⟩
        walk_at "rd"
        refine ⟨l1, _, .bl true, rfl, rfl, SqL.of hl1, rfl, rfl, ?_⟩
        walk_at "rd"
        refine ⟨rfl, ?_⟩
        walk_at "rd"
        refine ⟨a, C 1, _, .type "ValueError", true, rfl, .ty _, ea1, R.ec 1 (by decide), R.eg, R.kitV 1 (by decide), ?_⟩
        walk_at "rd"
        refine ⟨(by show 4 ≤ sizeLine; decide), fun l4 nl4 => ?_⟩
        have hl4 : upd HX l4 (.lst [V.str "sides", .str "seen", .str "value", .str "side"]) l4 = some (.lst [V.str "sides", .str "seen", .str "value", .str "side"]) := upd_same
        have eb4 : Same HX (upd HX l4 (.lst [V.str "sides", .str "seen", .str "value", .str "side"])) := fun b u e0 => (upd_ne (ne_of_none e0 nl4)).trans e0
        generalize upd HX l4 (.lst [V.str "sides", .str "seen", .str "value", .str "side"]) = HY at eb4 hl4 ⊢
        walk_at "rd"
        refine ⟨.inl ⟨rfl, _, SqL.of (eb4 _ _ hl1)⟩, ?_⟩
        walk_at "rd"
        refine ⟨l1, _, .bl true, 0, .bl true, rfl, rfl, SqL.of (eb4 _ _ hl1), rfl, rfl, rfl, rfl, fun m z' hm hz => ?_, ?_⟩
        · exact absurd hm (Nat.not_lt_zero _)
        refine ⟨l4, _, _, _, rfl, rfl, SqL.of hl4, rfl, ?_⟩
        exact q _ (eb1.trans eb4)
    · refine ite2 (fun _ => ?_) (fun _ => ?_)
      · walk_at "rd"
        refine ⟨_, _, rfl, .inr (.inl ⟨l, xs, rfl, gl, bad, ?_⟩)⟩
        refine ⟨true, R.emB 4 (by decide), fun _ => ⟨rfl, fun a ha => ?_⟩, fun z => Bool.noConfusion z⟩
        walk_at "rd"
        refine ⟨rfl, ?_⟩
        walk_at "rd"
        refine ⟨a, C 4, _, .ref (C 1), decide (4 = 1), rfl, .own _, upd_same, R.ec 4 (by decide), R.eg, R.kit 4 1 (by decide) (by decide), ?_⟩
        walk_at "rd"
        refine ⟨a, C 4, _, .ref (C 4), decide (4 = 4), rfl, .own _, upd_same, R.ec 4 (by decide), R.eg, R.kit 4 4 (by decide) (by decide), ?_⟩
        walk_at "rd"
        refine ⟨a, C 4, _, .ref (C 3), decide (4 = 3), rfl, .own _, upd_same, R.ec 4 (by decide), R.eg, R.kit 4 3 (by decide) (by decide), ?_⟩
        walk_at "rd"
        refine ⟨(by show 3 ≤ sizeLine; decide), fun l1 nl1 => ?_⟩
        have ea1 := (upd_ne (o := .lst [V.bl (decide (4 = 1)), .bl (decide (4 = 4)), .bl (decide (4 = 3))]) (ne_of_none upd_same nl1)).trans (upd_same (H := H) (a := a) (o := ExK (.ref (C 4)) a))
        have hl1 : upd (upd H a (ExK (.ref (C 4)) a)) l1 (.lst [V.bl (decide (4 = 1)), .bl (decide (4 = 4)), .bl (decide (4 = 3))]) l1 = some (.lst [V.bl (decide (4 = 1)), .bl (decide (4 = 4)), .bl (decide (4 = 3))]) := upd_same
        have eb1 : Same H (upd (upd H a (ExK (.ref (C 4)) a)) l1 (.lst [V.bl (decide (4 = 1)), .bl (decide (4 = 4)), .bl (decide (4 = 3))])) := fun b u e0 => by
          have e1 := (upd_ne (o := ExK (.ref (C 4)) a) (ne_of_none e0 ha)).trans e0
          exact (upd_ne (ne_of_none e1 nl1)).trans e1
        have nl1H : H l1 = none := by
          cases e : H l1 with
          | none => rfl
          | some u =>
            have e1 := (upd_ne (o := ExK (.ref (C 4)) a) (ne_of_none e ha)).trans e
            rw [e1] at nl1
            cases nl1
        generalize upd (upd H a (ExK (.ref (C 4)) a)) l1 (.lst [V.bl (decide (4 = 1)), .bl (decide (4 = 4)), .bl (decide (4 = 3))]) = HW at ea1 eb1 hl1 ⊢
        walk_at "rd"
        refine ⟨.inl ⟨rfl, _, SqL.of hl1⟩, ?_⟩
        walk_at "rd"
        refine ⟨a, C 4, _, .ref (C 0), decide (4 = 0), rfl, .own _, ea1, R.ec 4 (by decide), R.eg, R.kit 4 0 (by decide) (by decide), ?_⟩
        walk_at "rd"
        refine ⟨l1, _, _, rfl, rfl, hl1, (by decide), ?_⟩
        have ea2 := (upd_ne (o := .lst [V.bl (decide (4 = 1)), .bl (decide (4 = 4)), .bl (decide (4 = 3)), .bl (decide (4 = 0))]) (ne_of ea1 hl1 (by intro z; cases z))).trans ea1
        have hl2 : upd HW l1 (.lst [V.bl (decide (4 = 1)), .bl (decide (4 = 4)), .bl (decide (4 = 3)), .bl (decide (4 = 0))]) l1 = some (.lst [V.bl (decide (4 = 1)), .bl (decide (4 = 4)), .bl (decide (4 = 3)), .bl (decide (4 = 0))]) := upd_same
        have eb2 : Same H (upd HW l1 (.lst [V.bl (decide (4 = 1)), .bl (decide (4 = 4)), .bl (decide (4 = 3)), .bl (decide (4 = 0))])) := fun b u e0 => (upd_ne (ne_of_none e0 nl1H)).trans (eb1 _ _ e0)
        replace ea1 := ea2
        replace hl1 := hl2
        replace eb1 := eb2
        clear ea2 hl2 eb2
        have eqH : upd HW l1 (.lst ([V.bl (decide (4 = 1)), .bl (decide (4 = 4)), .bl (decide (4 = 3))] ++ [V.bl (decide (4 = 0))])) = upd HW l1 (.lst [V.bl (decide (4 = 1)), .bl (decide (4 = 4)), .bl (decide (4 = 3)), .bl (decide (4 = 0))]) := rfl
        rw [eqH]
        generalize upd HW l1 (.lst [V.bl (decide (4 = 1)), .bl (decide (4 = 4)), .bl (decide (4 = 3)), .bl (decide (4 = 0))]) = HX at ea1 eb1 hl1 ⊢
        walk_at "rd"
        refine ⟨.inl ⟨rfl, _, SqL.of hl1⟩, ?_⟩
        walk_at "rd"
        refine ⟨l1, _, .bl true, rfl, rfl, SqL.of hl1, rfl, rfl, ?_⟩
        walk_at "rd"
        refine ⟨rfl, ?_⟩
        walk_at "rd"
        refine ⟨a, C 4, _, .type "ValueError", true, rfl, .ty _, ea1, R.ec 4 (by decide), R.eg, R.kitV 4 (by decide), ?_⟩
        walk_at "rd"
        refine ⟨(by show 4 ≤ sizeLine; decide), fun l4 nl4 => ?_⟩
        have hl4 : upd HX l4 (.lst [V.str "sides", .str "seen", .str "value", .str "side"]) l4 = some (.lst [V.str "sides", .str "seen", .str "value", .str "side"]) := upd_same
        have eb4 : Same HX (upd HX l4 (.lst [V.str "sides", .str "seen", .str "value", .str "side"])) := fun b u e0 => (upd_ne (ne_of_none e0 nl4)).trans e0
        generalize upd HX l4 (.lst [V.str "sides", .str "seen", .str "value", .str "side"]) = HY at eb4 hl4 ⊢
        walk_at "rd"
        refine ⟨.inl ⟨rfl, _, SqL.of (eb4 _ _ hl1)⟩, ?_⟩
        walk_at "rd"
        refine ⟨l1, _, .bl true, 1, .bl true, rfl, rfl, SqL.of (eb4 _ _ hl1), rfl, rfl, rfl, rfl, fun m z' hm hz => ?_, ?_⟩
        · obtain rfl : m = 0 := by omega
          cases hz
          rfl
        refine ⟨l4, _, _, _, rfl, rfl, SqL.of hl4, rfl, ?_⟩
        exact q _ (eb1.trans eb4)
      · walk_at "rd"
        refine ⟨_, _, rfl, .inr (.inl ⟨l, xs, rfl, gl, bad, ?_⟩)⟩
        refine ⟨true, R.emB 4 (by decide), fun _ => ⟨rfl, fun a ha => ?_⟩, fun z => Bool.noConfusion z⟩
        walk_at "rd"
        refine ⟨rfl, ?_⟩
        walk_at "rd"
        refine ⟨a, C 4, _, .ref (C 1), decide (4 = 1), rfl, .own _, upd_same, R.ec 4 (by decide), R.eg, R.kit 4 1 (by decide) (by decide), ?_⟩
        walk_at "rd"
        refine ⟨a, C 4, _, .ref (C 4), decide (4 = 4), rfl, .own _, upd_same, R.ec 4 (by decide), R.eg, R.kit 4 4 (by decide) (by decide), ?_⟩
        walk_at "rd"
        refine ⟨a, C 4, _, .ref (C 3), decide (4 = 3), rfl, .own _, upd_same, R.ec 4 (by decide), R.eg, R.kit 4 3 (by decide) (by decide), ?_⟩
        walk_at "rd"
        refine ⟨(by show 3 ≤ sizeLine; decide), fun l1 nl1 => ?_⟩
        have ea1 := (upd_ne (o := .lst [V.bl (decide (4 = 1)), .bl (decide (4 = 4)), .bl (decide (4 = 3))]) (ne_of_none upd_same nl1)).trans (upd_same (H := H) (a := a) (o := ExK (.ref (C 4)) a))
        have hl1 : upd (upd H a (ExK (.ref (C 4)) a)) l1 (.lst [V.bl (decide (4 = 1)), .bl (decide (4 = 4)), .bl (decide (4 = 3))]) l1 = some (.lst [V.bl (decide (4 = 1)), .bl (decide (4 = 4)), .bl (decide (4 = 3))]) := upd_same
        have eb1 : Same H (upd (upd H a (ExK (.ref (C 4)) a)) l1 (.lst [V.bl (decide (4 = 1)), .bl (decide (4 = 4)), .bl (decide (4 = 3))])) := fun b u e0 => by
          have e1 := (upd_ne (o := ExK (.ref (C 4)) a) (ne_of_none e0 ha)).trans e0
          exact (upd_ne (ne_of_none e1 nl1)).trans e1
        have nl1H : H l1 = none := by
          cases e : H l1 with
          | none => rfl
          | some u =>
            have e1 := (upd_ne (o := ExK (.ref (C 4)) a) (ne_of_none e ha)).trans e
            rw [e1] at nl1
            cases nl1
        generalize upd (upd H a (ExK (.ref (C 4)) a)) l1 (.lst [V.bl (decide (4 = 1)), .bl (decide (4 = 4)), .bl (decide (4 = 3))]) = HW at ea1 eb1 hl1 ⊢
        walk_at "rd"
        refine ⟨.inl ⟨rfl, _, SqL.of hl1⟩, ?_⟩
        walk_at "rd"
        refine ⟨a, C 4, _, .ref (C 0), decide (4 = 0), rfl, .own _, ea1, R.ec 4 (by decide), R.eg, R.kit 4 0 (by decide) (by decide), ?_⟩
        walk_at "rd"
        refine ⟨l1, _, _, rfl, rfl, hl1, (by decide), ?_⟩
        have ea2 := (upd_ne (o := .lst [V.bl (decide (4 = 1)), .bl (decide (4 = 4)), .bl (decide (4 = 3)), .bl (decide (4 = 0))]) (ne_of ea1 hl1 (by intro z; cases z))).trans ea1
        have hl2 : upd HW l1 (.lst [V.bl (decide (4 = 1)), .bl (decide (4 = 4)), .bl (decide (4 = 3)), .bl (decide (4 = 0))]) l1 = some (.lst [V.bl (decide (4 = 1)), .bl (decide (4 = 4)), .bl (decide (4 = 3)), .bl (decide (4 = 0))]) := upd_same
        have eb2 : Same H (upd HW l1 (.lst [V.bl (decide (4 = 1)), .bl (decide (4 = 4)), .bl (decide (4 = 3)), .bl (decide (4 = 0))])) := fun b u e0 => (upd_ne (ne_of_none e0 nl1H)).trans (eb1 _ _ e0)
        replace ea1 := ea2
        replace hl1 := hl2
        replace eb1 := eb2
        clear ea2 hl2 eb2
        have eqH : upd HW l1 (.lst ([V.bl (decide (4 = 1)), .bl (decide (4 = 4)), .bl (decide (4 = 3))] ++ [V.bl (decide (4 = 0))])) = upd HW l1 (.lst [V.bl (decide (4 = 1)), .bl (decide (4 = 4)), .bl (decide (4 = 3)), .bl (decide (4 = 0))]) := rfl
        rw [eqH]
        generalize upd HW l1 (.lst [V.bl (decide (4 = 1)), .bl (decide (4 = 4)), .bl (decide (4 = 3)), .bl (decide (4 = 0))]) = HX at ea1 eb1 hl1 ⊢
        walk_at "rd"
        refine ⟨.inl ⟨rfl, _, SqL.of hl1⟩, ?_⟩
        walk_at "rd"
        refine ⟨l1, _, .bl true, rfl, rfl, SqL.of hl1, rfl, rfl, ?_⟩
        walk_at "rd"
        refine ⟨rfl, ?_⟩
        walk_at "rd"
        refine ⟨a, C 4, _, .type "ValueError", true, rfl, .ty _, ea1, R.ec 4 (by decide), R.eg, R.kitV 4 (by decide), ?_⟩
        walk_at "rd"
        refine ⟨(by show 4 ≤ sizeLine; decide), fun l4 nl4 => ?_⟩
        have hl4 : upd HX l4 (.lst [V.str "sides", .str "seen", .str "value", .str "side"]) l4 = some (.lst [V.str "sides", .str "seen", .str "value", .str "side"]) := upd_same
        have eb4 : Same HX (upd HX l4 (.lst [V.str "sides", .str "seen", .str "value", .str "side"])) := fun b u e0 => (upd_ne (ne_of_none e0 nl4)).trans e0
        generalize upd HX l4 (.lst [V.str "sides", .str "seen", .str "value", .str "side"]) = HY at eb4 hl4 ⊢
        walk_at "rd"
        refine ⟨.inl ⟨rfl, _, SqL.of (eb4 _ _ hl1)⟩, ?_⟩
        walk_at "rd"
        refine ⟨l1, _, .bl true, 1, .bl true, rfl, rfl, SqL.of (eb4 _ _ hl1), rfl, rfl, rfl, rfl, fun m z' hm hz => ?_, ?_⟩
        · obtain rfl : m = 0 := by omega
          cases hz
          rfl
        refine ⟨l4, _, _, _, rfl, rfl, SqL.of hl4, rfl, ?_⟩
        exact q _ (eb1.trans eb4)
end
end HT
namespace HT
open PySem L2
theorem dp_intsL {K : PySem.W.Frag} {H : Hp} {p : Addr} {A : List Int} (h : H p = some (.lst (A.map V.int))) : Dp K H (.ref p) (.list (A.map PyData.int)) := by
  refine .lst (SqL.of h) ?_
  clear h
  induction A with
  | nil => exact .nil
  | cons x A ih => exact .cons (.int _) ih
theorem rep_sp {n : Nat} {k : Nat} {v : Int} (h : k < n) : (List.replicate n v).getD k 0 = v := by
  rw [List.getD_eq_getElem?_getD, List.getElem?_replicate_of_lt h]
  rfl
theorem fV_rep {ss : List Sd} {v : Int} : ∀ k, k < 50 → fV ss (List.replicate 50 v) k = .non
  | 0, _ => rfl
  | k + 1, h => by
    show (if fV ss (List.replicate 50 v) k = .non then _ else _) = _
    rw [if_pos (fV_rep k (by omega)), rep_sp h, rep_sp (by omega)]
    have : comeO v v ss = some true := by unfold comeO; rw [if_pos rfl]
    rw [this]
theorem cO_rep {ss : List Sd} {v : Int} {k : Nat} (h : k < 49) : cO ss (List.replicate 50 v) k = some (some 0) := by
  unfold cO
  rw [rep_sp (by omega), rep_sp (by omega)]
  exact cnt_some (Nat.zero_le _) (in_self _ _ _) fun j z => absurd z (Nat.not_lt_zero _)
theorem cL_rep {ss : List Sd} {v : Int} : cL ss (List.replicate 50 v) 49 = (List.replicate 49 (0 : Int)).map V.int := by
  unfold cL
  have : (List.range 49).map (fun k => cntM (cO ss (List.replicate 50 v) k)) = (List.range 49).map (fun _ => V.int 0) := List.map_congr_left fun k hk => by
    rw [cO_rep (List.mem_range.mp hk)]
    rfl
  rw [this]
  rfl
def spDoors16 : Sp := fun vs H Q _ => ∃ (l : Addr) (xs : List V) (ss : List Sd), vs = [.ref l] ∧ SidesAt H l xs ss ∧ ∀ H', Same H H' → Q (.bl true) H'
section
variable {P : Program} {w : World} {K : PySem.W.Frag} {mg : Str → Option Value} {base : Heap} {B f1 f2 f3 : Addr} {d1 d2 d3 : FuncData} {C : Nat → Addr}
theorem ok_L_doors {f : Addr} {fd : FuncData} (F : Fun K "_law_doors_right" "_law_doors_right" s_L_doors_right f fd) (B : Blt mg) (Wo : Cal P w K mg base "_law_word" 9 ["_law_door", "_law_sides_here", "_law_seen_here"] (spWord16 K) f1 d1) (Fa : Cal P w K mg base "fault" 8 ["sides", "seen"] (fun vs H Q _ => spFault K C vs H Q fun _ _ _ => False) f2 d2) (Hp' : Cal P w K mg base "hops" 7 ["sides", "seen"] (fun vs H Q _ => spHops K C vs H Q fun _ _ _ => False) f3 d3) : FnOk P w K mg base CX0 10 f fd ["_law_sides_here"] spDoors16 := by
  refine F.ok sc_L_doors_right (fun vs H Q E h => ?_) (fun cdv A outer s0 H vs Q E hr h => ?_)
  · obtain ⟨l, xs, ss, rfl, _⟩ := h
    rfl
  · obtain ⟨l, xs, ss, rfl, SS, q⟩ := h
    have nd := sc_L_doors_right.nd
    refine ⟨_, (pss_cons (ps_mid (ps_for PassesOwn.never rfl (pi_range1 (by rfl) B.range (pa_cons pe_int pa_nil)) (pg_name (i := 1) nd rfl (Or.inr rfl)) (pss_cons (ps_mid (ps_for PassesOwn.never rfl (pi_list (pe_lst (pa_cons pe_non (pa_cons (pe_lst pa_nil) (pa_cons (pe_tup pa_nil) (pa_cons (pe_lst (pa_cons pe_non pa_nil)) (pa_cons (pe_lst (pa_cons (pe_tup (pa_cons pe_int (pa_cons pe_int (pa_cons pe_str pa_nil)))) pa_nil)) (pa_cons (pe_tup (pa_cons (pe_tup (pa_cons pe_int (pa_cons pe_int (pa_cons pe_str pa_nil)))) pa_nil)) (pa_cons (pe_op op_rep (pe_lst (pa_cons (pe_tup (pa_cons pe_int (pa_cons pe_int (pa_cons pe_str pa_nil)))) pa_nil)) pe_int) pa_nil))))))))) (pg_name (i := 2) nd rfl (Or.inr rfl)) (pss_one (ps_if (pt_cmpR (op_neD hr.units) (pe_lc (own := [("_law_seen_here", 3)]) (g := gName 3) rfl nd (pi_list (pe_lst (pa_cons pe_non (pa_cons (pe_lst pa_nil) (pa_cons (pe_lst (pa_cons pe_int pa_nil)) (pa_cons (pe_lst (pa_cons pe_int (pa_cons pe_int pa_nil))) pa_nil)))))) (blkOk_by (N := ["_law_sides_here", "_law_door", "_law_bad", "_law_seen_here", "_law_odd"]) (sc := defScope s_L_doors_right) (by decide +kernel)) (fun _ _ _ _ _ => pg_name (i := 3) nd rfl (Or.inl rfl)) (fun _ _ _ _ _ => (pts_one (pt_cmpR op_ne (pcl Wo hr (by decide) (by rfl) (pa_cons (pv 1) (pa_cons (pv 2) (pa_cons (pv 3) pa_nil)))) pe_str (nomark _)))) (fun _ _ _ _ _ => (pv 3))) (pe_lst pa_nil) (nomark _)) (pss_one (ps_ret pe_bl)) pss_nil))))
      (pss_cons (ps_mid (ps_set (i := 4) nd rfl (Or.inl rfl) (pe_lst (pa_cons pe_non (pa_cons (pe_tup pa_nil) (pa_cons (pe_tup (pa_cons pe_int pa_nil)) (pa_cons pe_dnewK (pa_cons pe_str (pa_cons pe_int (pa_cons (pe_lst (pa_cons pe_non pa_nil)) (pa_cons (pe_lst (pa_cons pe_bl pa_nil)) (pa_cons (pe_lst (pa_cons pe_int (pa_cons pe_bl pa_nil))) (pa_cons (pe_lst (pa_cons pe_str pa_nil)) (pa_cons (pe_lst (pa_cons pe_int (pa_cons (pe_lst (pa_cons pe_int pa_nil)) pa_nil))) (pa_cons (pe_op op_rep (pe_lst (pa_cons pe_int pa_nil)) pe_int) pa_nil)))))))))))))))
      (pss_one (ps_mid (ps_for PassesOwn.never rfl (pi_list (pe_op op_cat (pv 4) (pe_lst (pa_cons (pe_lst (pa_cons pe_non (pa_cons pe_int pa_nil))) (pa_cons (pe_lst (pa_cons pe_bl (pa_cons pe_int pa_nil))) (pa_cons (pe_lst (pa_cons pe_int (pa_cons pe_str (pa_cons pe_int pa_nil)))) (pa_cons (pe_lst (pa_cons (pe_lst (pa_cons pe_int pa_nil)) (pa_cons pe_int pa_nil))) (pa_cons (pe_lst (pa_cons pe_bl (pa_cons pe_int (pa_cons pe_int pa_nil)))) pa_nil)))))))) (pg_name (i := 2) nd rfl (Or.inr rfl)) (pss_one (ps_if (pt_cmpR op_ne (pcl Wo hr (by decide) (by rfl) (pa_cons (pv 1) (pa_cons (pv 0) (pa_cons (pv 2) pa_nil)))) pe_str (nomark _)) (pss_one (ps_ret pe_bl)) pss_nil)))))))))
      (pss_one (ps_ret (pe_and (pe_cmpR op_isN (pcl Fa hr (by decide) (by rfl) (pa_cons (pv 0) (pa_cons (pe_op op_rep (pe_lst (pa_cons pe_int pa_nil)) pe_int) pa_nil))) pe_non (nomark _)) (pe_one (pe_cmpR (op_eqD hr.units) (pcl Hp' hr (by decide) (by rfl) (pa_cons (pv 0) (pa_cons (pe_op op_rep (pe_lst (pa_cons pe_int pa_nil)) pe_int) pa_nil))) (pe_op op_rep (pe_lst (pa_cons pe_int pa_nil)) pe_int) (nomark _))))))), ?_⟩
    refine ⟨fun st Hz => ∃ x1 x2 x3 x4 : Option V, st = [some (.ref l), x1, x2, x3, x4] ∧ Same H Hz, ?_, ?_⟩
    · walk_at "rd"
      refine ⟨by decide, by decide, ?_⟩
      refine for_range (n := 2) (fun i st Hz => ∃ x1 x2 x3 x4 : Option V, st = [some (.ref l), x1, x2, x3, x4] ∧ Same H Hz) ⟨none, none, none, none, rfl, Same.refl _⟩ ?_ (fun _ _ z => z)
      rintro i st H1 hi ⟨x1, x2, x3, x4, rfl, s1⟩
      walk_at "rd"
      refine ⟨fun st Hz => ∃ x2 x3 : Option V, st = [some (.ref l), some (.int (0 + (i : Int))), x2, x3, x4] ∧ Same H1 Hz, ?_, ?_⟩
      · skip
        walk_at "rd"
        refine ⟨(by show 0 ≤ sizeLine; decide), fun b1 nb1 => ?_⟩
        have gb1 : upd H1 b1 (.lst []) b1 = some (.lst []) := upd_same
        have sb1 : Same H1 (upd H1 b1 (.lst [])) := same_upd nb1
        generalize upd H1 b1 (.lst []) = Hb1 at gb1 sb1 ⊢
        walk_at "rd"
        refine ⟨(by show 0 ≤ sizeLine; decide), fun b2 nb2 => ?_⟩
        have gb2 : upd Hb1 b2 (.tup []) b2 = some (.tup []) := upd_same
        have sb2 : Same Hb1 (upd Hb1 b2 (.tup [])) := same_upd nb2
        generalize upd Hb1 b2 (.tup []) = Hb2 at gb2 sb2 ⊢
        walk_at "rd"
        refine ⟨(by show 1 ≤ sizeLine; decide), fun b3 nb3 => ?_⟩
        have gb3 : upd Hb2 b3 (.lst [V.non]) b3 = some (.lst [V.non]) := upd_same
        have sb3 : Same Hb2 (upd Hb2 b3 (.lst [V.non])) := same_upd nb3
        generalize upd Hb2 b3 (.lst [V.non]) = Hb3 at gb3 sb3 ⊢
        walk_at "rd"
        refine ⟨(by show 3 ≤ sizeLine; decide), fun b4 nb4 => ?_⟩
        have gb4 : upd Hb3 b4 (.tup [V.int 0, .int 0, .str "up"]) b4 = some (.tup [V.int 0, .int 0, .str "up"]) := upd_same
        have sb4 : Same Hb3 (upd Hb3 b4 (.tup [V.int 0, .int 0, .str "up"])) := same_upd nb4
        generalize upd Hb3 b4 (.tup [V.int 0, .int 0, .str "up"]) = Hb4 at gb4 sb4 ⊢
        walk_at "rd"
        refine ⟨(by show 1 ≤ sizeLine; decide), fun b5 nb5 => ?_⟩
        have gb5 : upd Hb4 b5 (.lst [V.ref b4]) b5 = some (.lst [V.ref b4]) := upd_same
        have sb5 : Same Hb4 (upd Hb4 b5 (.lst [V.ref b4])) := same_upd nb5
        generalize upd Hb4 b5 (.lst [V.ref b4]) = Hb5 at gb5 sb5 ⊢
        walk_at "rd"
        refine ⟨(by show 3 ≤ sizeLine; decide), fun b6 nb6 => ?_⟩
        have gb6 : upd Hb5 b6 (.tup [V.int 0, .int 5, .str "up"]) b6 = some (.tup [V.int 0, .int 5, .str "up"]) := upd_same
        have sb6 : Same Hb5 (upd Hb5 b6 (.tup [V.int 0, .int 5, .str "up"])) := same_upd nb6
        generalize upd Hb5 b6 (.tup [V.int 0, .int 5, .str "up"]) = Hb6 at gb6 sb6 ⊢
        walk_at "rd"
        refine ⟨(by show 1 ≤ sizeLine; decide), fun b7 nb7 => ?_⟩
        have gb7 : upd Hb6 b7 (.tup [V.ref b6]) b7 = some (.tup [V.ref b6]) := upd_same
        have sb7 : Same Hb6 (upd Hb6 b7 (.tup [V.ref b6])) := same_upd nb7
        generalize upd Hb6 b7 (.tup [V.ref b6]) = Hb7 at gb7 sb7 ⊢
        walk_at "rd"
        refine ⟨(by show 3 ≤ sizeLine; decide), fun b8 nb8 => ?_⟩
        have gb8 : upd Hb7 b8 (.tup [V.int 0, .int 5, .str "up"]) b8 = some (.tup [V.int 0, .int 5, .str "up"]) := upd_same
        have sb8 : Same Hb7 (upd Hb7 b8 (.tup [V.int 0, .int 5, .str "up"])) := same_upd nb8
        generalize upd Hb7 b8 (.tup [V.int 0, .int 5, .str "up"]) = Hb8 at gb8 sb8 ⊢
        walk_at "rd"
        refine ⟨(by show 1 ≤ sizeLine; decide), fun b9 nb9 => ?_⟩
        have gb9 : upd Hb8 b9 (.lst [V.ref b8]) b9 = some (.lst [V.ref b8]) := upd_same
        have sb9 : Same Hb8 (upd Hb8 b9 (.lst [V.ref b8])) := same_upd nb9
        generalize upd Hb8 b9 (.lst [V.ref b8]) = Hb9 at gb9 sb9 ⊢
        walk_at "rd"
        refine ⟨b9, 5, _, rfl, rfl, gb9, by decide, by decide, (by show 5 ≤ sizeLine; decide), fun b10 nb10 => ?_⟩
        have gb10 : upd Hb9 b10 (.lst (List.replicate (Int.toNat 5) [V.ref b8]).flatten) b10 = some (.lst (List.replicate 5 (V.ref b8))) := upd_same
        have sb10 : Same Hb9 (upd Hb9 b10 (.lst (List.replicate (Int.toNat 5) [V.ref b8]).flatten)) := same_upd nb10
        generalize upd Hb9 b10 (.lst (List.replicate (Int.toNat 5) [V.ref b8]).flatten) = Hb10 at gb10 sb10 ⊢
        walk_at "rd"
        refine ⟨(by show 7 ≤ sizeLine; decide), fun b11 nb11 => ?_⟩
        have gb11 : upd Hb10 b11 (.lst [V.non, .ref b1, .ref b2, .ref b3, .ref b5, .ref b7, .ref b10]) b11 = some (.lst [V.non, .ref b1, .ref b2, .ref b3, .ref b5, .ref b7, .ref b10]) := upd_same
        have sb11 : Same Hb10 (upd Hb10 b11 (.lst [V.non, .ref b1, .ref b2, .ref b3, .ref b5, .ref b7, .ref b10])) := same_upd nb11
        generalize upd Hb10 b11 (.lst [V.non, .ref b1, .ref b2, .ref b3, .ref b5, .ref b7, .ref b10]) = Hb11 at gb11 sb11 ⊢
        have tb11 : Same Hb11 Hb11 := Same.refl _
        have tb10 : Same Hb10 Hb11 := sb11.trans tb11
        have tb9 : Same Hb9 Hb11 := sb10.trans tb10
        have tb8 : Same Hb8 Hb11 := sb9.trans tb9
        have tb7 : Same Hb7 Hb11 := sb8.trans tb8
        have tb6 : Same Hb6 Hb11 := sb7.trans tb7
        have tb5 : Same Hb5 Hb11 := sb6.trans tb6
        have tb4 : Same Hb4 Hb11 := sb5.trans tb5
        have tb3 : Same Hb3 Hb11 := sb4.trans tb4
        have tb2 : Same Hb2 Hb11 := sb3.trans tb3
        have tb1 : Same Hb1 Hb11 := sb2.trans tb2
        have tb0 : Same H1 Hb11 := sb1.trans tb1
        replace gb1 := tb1 _ _ gb1
        replace gb2 := tb2 _ _ gb2
        replace gb3 := tb3 _ _ gb3
        replace gb4 := tb4 _ _ gb4
        replace gb5 := tb5 _ _ gb5
        replace gb6 := tb6 _ _ gb6
        replace gb7 := tb7 _ _ gb7
        replace gb8 := tb8 _ _ gb8
        replace gb9 := tb9 _ _ gb9
        replace gb10 := tb10 _ _ gb10
        refine ⟨b11, rfl, ⟨_, SqL.of gb11⟩, ?_⟩
        refine for_list (K := K) (a := b11) (xs := [V.non, .ref b1, .ref b2, .ref b3, .ref b5, .ref b7, .ref b10]) (fun j st Hz => ∃ x2 x3 : Option V, st = [some (.ref l), some (.int (0 + (i : Int))), x2, x3, x4] ∧ Same Hb11 Hz) ⟨_, _, rfl, Same.refl _⟩ (fun _ _ _ _ ⟨_, _, _, s⟩ => SqL.of (s _ _ gb11)) ?_ (fun st Hz ⟨y2, y3, e, s⟩ => ⟨y2, y3, e, tb0.trans s⟩)
        rintro j y st H2 hy ⟨y2, y3, rfl, s2⟩
        have bad : BadL K Hb11 y := by
          have m := List.mem_of_getElem? hy
          simp only [List.mem_cons, List.not_mem_nil, or_false] at m
          rcases m with rfl | rfl | rfl | rfl | rfl | rfl | rfl
          · exact .kind .non (by decide)
          · exact .len gb1 (by show ¬ (1 ≤ 0 ∧ 0 ≤ 4); decide)
          · exact .kind (.tup gb2) (by decide)
          · exact .item (i := 0) gb3 (by show 1 ≤ 1; decide) (by show 1 ≤ 4; decide) rfl (.kind .non (by decide)) (fun j z hj _ => absurd hj (Nat.not_lt_zero _))
          · exact .item (i := 0) gb5 (by show 1 ≤ 1; decide) (by show 1 ≤ 4; decide) rfl (.stp gb4 (.int _) (by decide +kernel) (.int _) (by decide +kernel)) (fun j z hj _ => absurd hj (Nat.not_lt_zero _))
          · exact .kind (.tup gb7) (by decide)
          · exact .len gb10 (by show ¬ (1 ≤ 5 ∧ 5 ≤ 4); decide)
        replace bad := bad.same s2
        clear gb1 gb2 gb3 gb4 gb5 gb6 gb7 gb8 gb9 gb10
        walk_at "rd"
        refine ⟨(by show 0 ≤ sizeLine; decide), fun e1 ne1 => ?_⟩
        have ge1 : upd H2 e1 (.lst []) e1 = some (.lst []) := upd_same
        have se1 : Same H2 (upd H2 e1 (.lst [])) := same_upd ne1
        generalize upd H2 e1 (.lst []) = He1 at ge1 se1 ⊢
        walk_at "rd"
        refine ⟨(by show 1 ≤ sizeLine; decide), fun e2 ne2 => ?_⟩
        have ge2 : upd He1 e2 (.lst [V.int 5]) e2 = some (.lst [V.int 5]) := upd_same
        have se2 : Same He1 (upd He1 e2 (.lst [V.int 5])) := same_upd ne2
        generalize upd He1 e2 (.lst [V.int 5]) = He2 at ge2 se2 ⊢
        walk_at "rd"
        refine ⟨(by show 2 ≤ sizeLine; decide), fun e3 ne3 => ?_⟩
        have ge3 : upd He2 e3 (.lst [V.int 5, .int 5]) e3 = some (.lst [V.int 5, .int 5]) := upd_same
        have se3 : Same He2 (upd He2 e3 (.lst [V.int 5, .int 5])) := same_upd ne3
        generalize upd He2 e3 (.lst [V.int 5, .int 5]) = He3 at ge3 se3 ⊢
        walk_at "rd"
        refine ⟨(by show 4 ≤ sizeLine; decide), fun e4 ne4 => ?_⟩
        have ge4 : upd He3 e4 (.lst [V.non, .ref e1, .ref e2, .ref e3]) e4 = some (.lst [V.non, .ref e1, .ref e2, .ref e3]) := upd_same
        have se4 : Same He3 (upd He3 e4 (.lst [V.non, .ref e1, .ref e2, .ref e3])) := same_upd ne4
        generalize upd He3 e4 (.lst [V.non, .ref e1, .ref e2, .ref e3]) = He4 at ge4 se4 ⊢
        have te4 : Same He4 He4 := Same.refl _
        have te3 : Same He3 He4 := se4.trans te4
        have te2 : Same He2 He4 := se3.trans te3
        have te1 : Same He1 He4 := se2.trans te2
        have te0 : Same H2 He4 := se1.trans te1
        replace ge1 := te1 _ _ ge1
        replace ge2 := te2 _ _ ge2
        replace ge3 := te3 _ _ ge3
        refine ⟨e4, rfl, ⟨_, SqL.of ge4⟩, fun D nD => ?_⟩
        refine lc_list (K := K) (a := e4) (xs := [V.non, .ref e1, .ref e2, .ref e3]) (fun k Hz => Hz D = some (.lst []) ∧ Same He4 Hz) ⟨upd_same, same_upd nD⟩ (fun _ _ _ ⟨_, s⟩ => SqL.of (s _ _ ge4)) ?_ ?_
        · rintro k z Hz hz ⟨hD, sz⟩
          refine ⟨rfl, ?_⟩
          walk_at "rd"
          refine ⟨_, y, z, rfl, .inl ⟨bad.same (te0.trans sz), fun H' s' => ?_⟩⟩
          walk_at "rd"
          refine ⟨rfl, ?_⟩
          refine ⟨_, rfl, ?_⟩
          refine ite2 (fun z => absurd z (by decide +kernel)) (fun _ => ?_)
          exact ⟨s' _ _ hD, sz.trans s'⟩
        rintro H3 ⟨hD, s3⟩
        walk_at "rd"
        refine ⟨(by show 0 ≤ sizeLine; decide), fun c1 nc1 => ?_⟩
        have gc1 : upd H3 c1 (.lst []) c1 = some (.lst []) := upd_same
        have sc1 : Same H3 (upd H3 c1 (.lst [])) := same_upd nc1
        generalize upd H3 c1 (.lst []) = Hc1 at gc1 sc1 ⊢
        have tc1 : Same Hc1 Hc1 := Same.refl _
        have tc0 : Same H3 Hc1 := sc1.trans tc1
        refine ⟨_, _, dp_intsL (A := []) (sc1 _ _ hD), dp_intsL (A := []) gc1, by decide +kernel, by decide +kernel, ?_⟩
        refine ⟨_, rfl, ?_⟩
        refine ite2 (fun z => absurd z (by decide +kernel)) (fun _ => ?_)
        exact ⟨_, _, rfl, s2.trans (te0.trans (s3.trans sc1))⟩
      rintro st H2 ⟨x2, x3, rfl, s2⟩
      refine ⟨fun st Hz => ∃ od : Addr, st = [some (.ref l), some (.int (0 + (i : Int))), x2, x3, some (.ref od)] ∧ Same H2 Hz ∧ ∃ os : List V, Hz od = some (.lst os) ∧ os.length = 12 ∧ ∀ y ∈ os, BadQ Hz y, ?_, ?_⟩
      · skip
        walk_at "rd"
        refine ⟨(by show 0 ≤ sizeLine; decide), fun b1 nb1 => ?_⟩
        have gb1 : upd H2 b1 (.tup []) b1 = some (.tup []) := upd_same
        have sb1 : Same H2 (upd H2 b1 (.tup [])) := same_upd nb1
        generalize upd H2 b1 (.tup []) = Hb1 at gb1 sb1 ⊢
        walk_at "rd"
        refine ⟨(by show 1 ≤ sizeLine; decide), fun b2 nb2 => ?_⟩
        have gb2 : upd Hb1 b2 (.tup [V.int 5]) b2 = some (.tup [V.int 5]) := upd_same
        have sb2 : Same Hb1 (upd Hb1 b2 (.tup [V.int 5])) := same_upd nb2
        generalize upd Hb1 b2 (.tup [V.int 5]) = Hb2 at gb2 sb2 ⊢
        walk_at "rd"
        refine fun b3 nb3 => ?_
        have gb3 : upd Hb2 b3 (.dK []) b3 = some (.dK []) := upd_same
        have sb3 : Same Hb2 (upd Hb2 b3 (.dK [])) := same_upd nb3
        generalize upd Hb2 b3 (.dK []) = Hb3 at gb3 sb3 ⊢
        walk_at "rd"
        refine ⟨(by show 1 ≤ sizeLine; decide), fun b4 nb4 => ?_⟩
        have gb4 : upd Hb3 b4 (.lst [V.non]) b4 = some (.lst [V.non]) := upd_same
        have sb4 : Same Hb3 (upd Hb3 b4 (.lst [V.non])) := same_upd nb4
        generalize upd Hb3 b4 (.lst [V.non]) = Hb4 at gb4 sb4 ⊢
        walk_at "rd"
        refine ⟨(by show 1 ≤ sizeLine; decide), fun b5 nb5 => ?_⟩
        have gb5 : upd Hb4 b5 (.lst [V.bl true]) b5 = some (.lst [V.bl true]) := upd_same
        have sb5 : Same Hb4 (upd Hb4 b5 (.lst [V.bl true])) := same_upd nb5
        generalize upd Hb4 b5 (.lst [V.bl true]) = Hb5 at gb5 sb5 ⊢
        walk_at "rd"
        refine ⟨(by show 2 ≤ sizeLine; decide), fun b6 nb6 => ?_⟩
        have gb6 : upd Hb5 b6 (.lst [V.int 5, .bl false]) b6 = some (.lst [V.int 5, .bl false]) := upd_same
        have sb6 : Same Hb5 (upd Hb5 b6 (.lst [V.int 5, .bl false])) := same_upd nb6
        generalize upd Hb5 b6 (.lst [V.int 5, .bl false]) = Hb6 at gb6 sb6 ⊢
        walk_at "rd"
        refine ⟨(by show 1 ≤ sizeLine; decide), fun b7 nb7 => ?_⟩
        have gb7 : upd Hb6 b7 (.lst [V.str "5"]) b7 = some (.lst [V.str "5"]) := upd_same
        have sb7 : Same Hb6 (upd Hb6 b7 (.lst [V.str "5"])) := same_upd nb7
        generalize upd Hb6 b7 (.lst [V.str "5"]) = Hb7 at gb7 sb7 ⊢
        walk_at "rd"
        refine ⟨(by show 1 ≤ sizeLine; decide), fun b8 nb8 => ?_⟩
        have gb8 : upd Hb7 b8 (.lst [V.int 5]) b8 = some (.lst [V.int 5]) := upd_same
        have sb8 : Same Hb7 (upd Hb7 b8 (.lst [V.int 5])) := same_upd nb8
        generalize upd Hb7 b8 (.lst [V.int 5]) = Hb8 at gb8 sb8 ⊢
        walk_at "rd"
        refine ⟨(by show 2 ≤ sizeLine; decide), fun b9 nb9 => ?_⟩
        have gb9 : upd Hb8 b9 (.lst [V.int 5, .ref b8]) b9 = some (.lst [V.int 5, .ref b8]) := upd_same
        have sb9 : Same Hb8 (upd Hb8 b9 (.lst [V.int 5, .ref b8])) := same_upd nb9
        generalize upd Hb8 b9 (.lst [V.int 5, .ref b8]) = Hb9 at gb9 sb9 ⊢
        walk_at "rd"
        refine ⟨(by show 1 ≤ sizeLine; decide), fun b10 nb10 => ?_⟩
        have gb10 : upd Hb9 b10 (.lst [V.int 5]) b10 = some (.lst [V.int 5]) := upd_same
        have sb10 : Same Hb9 (upd Hb9 b10 (.lst [V.int 5])) := same_upd nb10
        generalize upd Hb9 b10 (.lst [V.int 5]) = Hb10 at gb10 sb10 ⊢
        walk_at "rd"
        refine ⟨b10, 51, _, rfl, rfl, gb10, by decide, by decide, (by show 51 ≤ sizeLine; decide), fun b11 nb11 => ?_⟩
        have gb11 : upd Hb10 b11 (.lst (List.replicate (Int.toNat 51) [V.int 5]).flatten) b11 = some (.lst (List.replicate 51 (V.int 5))) := upd_same
        have sb11 : Same Hb10 (upd Hb10 b11 (.lst (List.replicate (Int.toNat 51) [V.int 5]).flatten)) := same_upd nb11
        generalize upd Hb10 b11 (.lst (List.replicate (Int.toNat 51) [V.int 5]).flatten) = Hb11 at gb11 sb11 ⊢
        walk_at "rd"
        refine ⟨(by show 12 ≤ sizeLine; decide), fun b12 nb12 => ?_⟩
        have gb12 : upd Hb11 b12 (.lst [V.non, .ref b1, .ref b2, .ref b3, .str "5", .int 5, .ref b4, .ref b5, .ref b6, .ref b7, .ref b9, .ref b11]) b12 = some (.lst [V.non, .ref b1, .ref b2, .ref b3, .str "5", .int 5, .ref b4, .ref b5, .ref b6, .ref b7, .ref b9, .ref b11]) := upd_same
        have sb12 : Same Hb11 (upd Hb11 b12 (.lst [V.non, .ref b1, .ref b2, .ref b3, .str "5", .int 5, .ref b4, .ref b5, .ref b6, .ref b7, .ref b9, .ref b11])) := same_upd nb12
        generalize upd Hb11 b12 (.lst [V.non, .ref b1, .ref b2, .ref b3, .str "5", .int 5, .ref b4, .ref b5, .ref b6, .ref b7, .ref b9, .ref b11]) = Hb12 at gb12 sb12 ⊢
        have tb12 : Same Hb12 Hb12 := Same.refl _
        have tb11 : Same Hb11 Hb12 := sb12.trans tb12
        have tb10 : Same Hb10 Hb12 := sb11.trans tb11
        have tb9 : Same Hb9 Hb12 := sb10.trans tb10
        have tb8 : Same Hb8 Hb12 := sb9.trans tb9
        have tb7 : Same Hb7 Hb12 := sb8.trans tb8
        have tb6 : Same Hb6 Hb12 := sb7.trans tb7
        have tb5 : Same Hb5 Hb12 := sb6.trans tb6
        have tb4 : Same Hb4 Hb12 := sb5.trans tb5
        have tb3 : Same Hb3 Hb12 := sb4.trans tb4
        have tb2 : Same Hb2 Hb12 := sb3.trans tb3
        have tb1 : Same Hb1 Hb12 := sb2.trans tb2
        have tb0 : Same H2 Hb12 := sb1.trans tb1
        replace gb1 := tb1 _ _ gb1
        replace gb2 := tb2 _ _ gb2
        replace gb3 := tb3 _ _ gb3
        replace gb4 := tb4 _ _ gb4
        replace gb5 := tb5 _ _ gb5
        replace gb6 := tb6 _ _ gb6
        replace gb7 := tb7 _ _ gb7
        replace gb8 := tb8 _ _ gb8
        replace gb9 := tb9 _ _ gb9
        replace gb10 := tb10 _ _ gb10
        replace gb11 := tb11 _ _ gb11
        refine ⟨b12, rfl, tb0, _, gb12, rfl, fun y m => ?_⟩
        have at0 : ∀ (xs : List V) (b : Addr) (u : V) (n : String), Hb12 b = some (.lst (u :: xs)) → xs.length ≤ 49 → Th Hb12 u n → isI n = false → BadQ Hb12 (.ref b) := fun xs b u n h1 h2 h3 h4 => .item (i := 0) h1 (by rw [List.length_cons]; omega) rfl h3 h4 fun j z hj _ => absurd hj (Nat.not_lt_zero _)
        have at1 : ∀ (b : Addr) (k : Int) (u : V) (n : String), Hb12 b = some (.lst [.int k, u]) → Th Hb12 u n → isI n = false → BadQ Hb12 (.ref b) := fun b k u n h1 h3 h4 => .item (i := 1) h1 (by show 2 ≤ 50; decide) rfl h3 h4 fun j z hj hz => by
          obtain rfl : j = 0 := by omega
          exact ⟨k, (Option.some.inj hz).symm⟩
        simp only [List.mem_cons, List.not_mem_nil, or_false] at m
        rcases m with rfl | rfl | rfl | rfl | rfl | rfl | rfl | rfl | rfl | rfl | rfl | rfl
        · exact .kind .non (by decide)
        · exact .kind (.tup gb1) (by decide)
        · exact .kind (.tup gb2) (by decide)
        · exact .kind (.dk gb3) (by decide)
        · exact .kind (.str _) (by decide)
        · exact .kind (.int _) (by decide)
        · exact at0 _ _ _ _ gb4 (by decide) .non rfl
        · exact at0 _ _ _ _ gb5 (by decide) (.bl _) rfl
        · exact at1 _ _ _ _ gb6 (.bl _) rfl
        · exact at0 _ _ _ _ gb7 (by decide) (.str _) rfl
        · exact at1 _ _ _ _ gb9 (.lst gb8) rfl
        · exact .len gb11 (by rw [List.length_replicate]; decide)
      rintro st H3 ⟨od, rfl, s3, os, hod, lod, bod⟩
      refine ⟨fun st Hz => ∃ x2 : Option V, st = [some (.ref l), some (.int (0 + (i : Int))), x2, x3, some (.ref od)] ∧ Same H3 Hz, ?_, fun st Hz ⟨y2, e, s⟩ => ⟨_, y2, x3, _, e, s1.trans (s2.trans (s3.trans s))⟩⟩
      walk_at "rd"
      refine ⟨(by show 2 ≤ sizeLine; decide), fun b1 nb1 => ?_⟩
      have gb1 : upd H3 b1 (.lst [V.non, .int 5]) b1 = some (.lst [V.non, .int 5]) := upd_same
      have sb1 : Same H3 (upd H3 b1 (.lst [V.non, .int 5])) := same_upd nb1
      generalize upd H3 b1 (.lst [V.non, .int 5]) = Hb1 at gb1 sb1 ⊢
      walk_at "rd"
      refine ⟨(by show 2 ≤ sizeLine; decide), fun b2 nb2 => ?_⟩
      have gb2 : upd Hb1 b2 (.lst [V.bl true, .int 1]) b2 = some (.lst [V.bl true, .int 1]) := upd_same
      have sb2 : Same Hb1 (upd Hb1 b2 (.lst [V.bl true, .int 1])) := same_upd nb2
      generalize upd Hb1 b2 (.lst [V.bl true, .int 1]) = Hb2 at gb2 sb2 ⊢
      walk_at "rd"
      refine ⟨(by show 3 ≤ sizeLine; decide), fun b3 nb3 => ?_⟩
      have gb3 : upd Hb2 b3 (.lst [V.int 5, .str "5", .int 5]) b3 = some (.lst [V.int 5, .str "5", .int 5]) := upd_same
      have sb3 : Same Hb2 (upd Hb2 b3 (.lst [V.int 5, .str "5", .int 5])) := same_upd nb3
      generalize upd Hb2 b3 (.lst [V.int 5, .str "5", .int 5]) = Hb3 at gb3 sb3 ⊢
      walk_at "rd"
      refine ⟨(by show 1 ≤ sizeLine; decide), fun b4 nb4 => ?_⟩
      have gb4 : upd Hb3 b4 (.lst [V.int 5]) b4 = some (.lst [V.int 5]) := upd_same
      have sb4 : Same Hb3 (upd Hb3 b4 (.lst [V.int 5])) := same_upd nb4
      generalize upd Hb3 b4 (.lst [V.int 5]) = Hb4 at gb4 sb4 ⊢
      walk_at "rd"
      refine ⟨(by show 2 ≤ sizeLine; decide), fun b5 nb5 => ?_⟩
      have gb5 : upd Hb4 b5 (.lst [V.ref b4, .int 5]) b5 = some (.lst [V.ref b4, .int 5]) := upd_same
      have sb5 : Same Hb4 (upd Hb4 b5 (.lst [V.ref b4, .int 5])) := same_upd nb5
      generalize upd Hb4 b5 (.lst [V.ref b4, .int 5]) = Hb5 at gb5 sb5 ⊢
      walk_at "rd"
      refine ⟨(by show 3 ≤ sizeLine; decide), fun b6 nb6 => ?_⟩
      have gb6 : upd Hb5 b6 (.lst [V.bl false, .int 0, .int 0]) b6 = some (.lst [V.bl false, .int 0, .int 0]) := upd_same
      have sb6 : Same Hb5 (upd Hb5 b6 (.lst [V.bl false, .int 0, .int 0])) := same_upd nb6
      generalize upd Hb5 b6 (.lst [V.bl false, .int 0, .int 0]) = Hb6 at gb6 sb6 ⊢
      walk_at "rd"
      refine ⟨(by show 5 ≤ sizeLine; decide), fun b7 nb7 => ?_⟩
      have gb7 : upd Hb6 b7 (.lst [V.ref b1, .ref b2, .ref b3, .ref b5, .ref b6]) b7 = some (.lst [V.ref b1, .ref b2, .ref b3, .ref b5, .ref b6]) := upd_same
      have sb7 : Same Hb6 (upd Hb6 b7 (.lst [V.ref b1, .ref b2, .ref b3, .ref b5, .ref b6])) := same_upd nb7
      generalize upd Hb6 b7 (.lst [V.ref b1, .ref b2, .ref b3, .ref b5, .ref b6]) = Hb7 at gb7 sb7 ⊢
      have tb7 : Same Hb7 Hb7 := Same.refl _
      have tb6 : Same Hb6 Hb7 := sb7.trans tb7
      have tb5 : Same Hb5 Hb7 := sb6.trans tb6
      have tb4 : Same Hb4 Hb7 := sb5.trans tb5
      have tb3 : Same Hb3 Hb7 := sb4.trans tb4
      have tb2 : Same Hb2 Hb7 := sb3.trans tb3
      have tb1 : Same Hb1 Hb7 := sb2.trans tb2
      have tb0 : Same H3 Hb7 := sb1.trans tb1
      replace gb1 := tb1 _ _ gb1
      replace gb2 := tb2 _ _ gb2
      replace gb3 := tb3 _ _ gb3
      replace gb4 := tb4 _ _ gb4
      replace gb5 := tb5 _ _ gb5
      replace gb6 := tb6 _ _ gb6
      refine ⟨od, b7, _, _, rfl, rfl, tb0 _ _ hod, gb7, (by rw [lod]; show 17 ≤ sizeLine; decide), fun L nL => ?_⟩
      have gL : upd Hb7 L (.lst (os ++ [V.ref b1, .ref b2, .ref b3, .ref b5, .ref b6])) L = some (.lst (os ++ [V.ref b1, .ref b2, .ref b3, .ref b5, .ref b6])) := upd_same
      have sL : Same Hb7 (upd Hb7 L (.lst (os ++ [V.ref b1, .ref b2, .ref b3, .ref b5, .ref b6]))) := same_upd nL
      generalize upd Hb7 L (.lst (os ++ [V.ref b1, .ref b2, .ref b3, .ref b5, .ref b6])) = HL at gL sL ⊢
      have all : ∀ y ∈ os ++ [V.ref b1, .ref b2, .ref b3, .ref b5, .ref b6], BadQ Hb7 y := fun y hy => by
        have at0 : ∀ (xs : List V) (b : Addr) (u : V) (n : String), Hb7 b = some (.lst (u :: xs)) → xs.length ≤ 49 → Th Hb7 u n → isI n = false → BadQ Hb7 (.ref b) := fun xs b u n h1 h2 h3 h4 => .item (i := 0) h1 (by rw [List.length_cons]; omega) rfl h3 h4 fun j z hj _ => absurd hj (Nat.not_lt_zero _)
        rcases List.mem_append.mp hy with m | m
        · exact (bod y m).same tb0
        simp only [List.mem_cons, List.not_mem_nil, or_false] at m
        rcases m with rfl | rfl | rfl | rfl | rfl
        · exact at0 _ _ _ _ gb1 (by decide) .non rfl
        · exact at0 _ _ _ _ gb2 (by decide) (.bl _) rfl
        · exact .item (i := 1) gb3 (by show 3 ≤ 50; decide) rfl (.str _) rfl fun j z hj hz => by
            obtain rfl : j = 0 := by omega
            exact ⟨5, (Option.some.inj hz).symm⟩
        · exact at0 _ _ _ _ gb5 (by decide) (.lst gb4) rfl
        · exact at0 _ _ _ _ gb6 (by decide) (.bl _) rfl
      have SSL := SS.same (s1.trans (s2.trans (s3.trans (tb0.trans sL))))
      refine ⟨L, rfl, ⟨_, SqL.of gL⟩, ?_⟩
      refine for_list (K := K) (a := L) (xs := os ++ [V.ref b1, .ref b2, .ref b3, .ref b5, .ref b6]) (fun j st Hz => ∃ x2 : Option V, st = [some (.ref l), some (.int (0 + (i : Int))), x2, x3, some (.ref od)] ∧ Same HL Hz) ⟨_, rfl, Same.refl _⟩ (fun _ _ _ _ ⟨_, _, s⟩ => SqL.of (s _ _ gL)) ?_ (fun st Hz ⟨y2, e, s⟩ => ⟨y2, e, tb0.trans (sL.trans s)⟩)
      rintro j y st Hz hy ⟨y2, rfl, sz⟩
      walk_at "rd"
      refine ⟨_, _, y, rfl, .inr ⟨l, xs, rfl, good_of (SSL.same sz), (all y (List.mem_of_getElem? hy)).same (sL.trans sz), fun H' s' => ?_⟩⟩
      walk_at "rd"
      refine ⟨rfl, ?_⟩
      refine ⟨_, rfl, ?_⟩
      refine ite2 (fun z => absurd z (by decide +kernel)) (fun _ => ?_)
      exact ⟨_, rfl, sz.trans s'⟩
    rintro st H1 ⟨x1, x2, x3, x4, rfl, s1⟩
    walk_at "rd"
    refine ⟨(by show 1 ≤ sizeLine; decide), fun b1 nb1 => ?_⟩
    have gb1 : upd H1 b1 (.lst [V.int 5]) b1 = some (.lst [V.int 5]) := upd_same
    have sb1 : Same H1 (upd H1 b1 (.lst [V.int 5])) := same_upd nb1
    generalize upd H1 b1 (.lst [V.int 5]) = Hb1 at gb1 sb1 ⊢
    walk_at "rd"
    refine ⟨b1, 50, _, rfl, rfl, gb1, by decide, by decide, (by show 50 ≤ sizeLine; decide), fun b2 nb2 => ?_⟩
    have gb2 : upd Hb1 b2 (.lst (List.replicate (Int.toNat 50) [V.int 5]).flatten) b2 = some (.lst (List.replicate 50 (V.int 5))) := upd_same
    have sb2 : Same Hb1 (upd Hb1 b2 (.lst (List.replicate (Int.toNat 50) [V.int 5]).flatten)) := same_upd nb2
    generalize upd Hb1 b2 (.lst (List.replicate (Int.toNat 50) [V.int 5]).flatten) = Hb2 at gb2 sb2 ⊢
    have tb2 : Same Hb2 Hb2 := Same.refl _
    have tb1 : Same Hb1 Hb2 := sb2.trans tb2
    have tb0 : Same H1 Hb2 := sb1.trans tb1
    replace gb1 := tb1 _ _ gb1
    have SS2 := SS.same (s1.trans tb0)
    have fb : ∀ v ∈ List.replicate 50 (5 : Int), -2 ^ 690 < v ∧ v < 2 ^ 690 := fun v hv => by
      rw [(List.mem_replicate.mp hv).2]
      decide
    have rv : List.replicate 50 (V.int 5) = (List.replicate 50 (5 : Int)).map V.int := by rw [List.map_replicate]
    rw [rv] at gb2
    refine ⟨_, _, rfl, .inr (.inr ⟨l, xs, ss, b2, List.replicate 50 5, rfl, SS2, rfl, gb2, by decide, fb, fun H2 s2 => ?_⟩)⟩
    rw [show fV ss (List.replicate 50 5) ((List.replicate 50 (5 : Int)).length - 1) = .non by rw [List.length_replicate]; exact fV_rep 49 (by decide)]
    refine ⟨fun z => V.noConfusion z, fun _ => ?_⟩
    refine ⟨rfl, ?_⟩
    refine ⟨_, rfl, ?_⟩
    refine ite2 (fun _ => ?_) (fun z => absurd (decide_eq_true rfl) z)
    walk_at "rd"
    refine ⟨(by show 1 ≤ sizeLine; decide), fun c1 nc1 => ?_⟩
    have gc1 : upd H2 c1 (.lst [V.int 5]) c1 = some (.lst [V.int 5]) := upd_same
    have sc1 : Same H2 (upd H2 c1 (.lst [V.int 5])) := same_upd nc1
    generalize upd H2 c1 (.lst [V.int 5]) = Hc1 at gc1 sc1 ⊢
    walk_at "rd"
    refine ⟨c1, 50, _, rfl, rfl, gc1, by decide, by decide, (by show 50 ≤ sizeLine; decide), fun c2 nc2 => ?_⟩
    have gc2 : upd Hc1 c2 (.lst (List.replicate (Int.toNat 50) [V.int 5]).flatten) c2 = some (.lst (List.replicate 50 (V.int 5))) := upd_same
    have sc2 : Same Hc1 (upd Hc1 c2 (.lst (List.replicate (Int.toNat 50) [V.int 5]).flatten)) := same_upd nc2
    generalize upd Hc1 c2 (.lst (List.replicate (Int.toNat 50) [V.int 5]).flatten) = Hc2 at gc2 sc2 ⊢
    have tc2 : Same Hc2 Hc2 := Same.refl _
    have tc1 : Same Hc1 Hc2 := sc2.trans tc2
    have tc0 : Same H2 Hc2 := sc1.trans tc1
    replace gc1 := tc1 _ _ gc1
    rw [rv] at gc2
    refine ⟨_, _, rfl, .inr (.inr ⟨l, xs, ss, c2, List.replicate 50 5, rfl, SS2.same (s2.trans tc0), rfl, gc2, by decide, fb, fun ⟨k, hk, e⟩ => ?_, fun _ p H3 np s3 hp => ?_⟩)⟩
    · rw [cO_rep (by rw [List.length_replicate] at hk; omega)] at e
      cases e
    rw [List.length_replicate, show 50 - 1 = 49 by rfl, cL_rep] at hp
    walk_at "rd"
    refine ⟨(by show 1 ≤ sizeLine; decide), fun e1 ne1 => ?_⟩
    have ge1 : upd H3 e1 (.lst [V.int 0]) e1 = some (.lst [V.int 0]) := upd_same
    have se1 : Same H3 (upd H3 e1 (.lst [V.int 0])) := same_upd ne1
    generalize upd H3 e1 (.lst [V.int 0]) = He1 at ge1 se1 ⊢
    walk_at "rd"
    refine ⟨e1, 49, _, rfl, rfl, ge1, by decide, by decide, (by show 49 ≤ sizeLine; decide), fun e2 ne2 => ?_⟩
    have ge2 : upd He1 e2 (.lst (List.replicate (Int.toNat 49) [V.int 0]).flatten) e2 = some (.lst (List.replicate 49 (V.int 0))) := upd_same
    have se2 : Same He1 (upd He1 e2 (.lst (List.replicate (Int.toNat 49) [V.int 0]).flatten)) := same_upd ne2
    generalize upd He1 e2 (.lst (List.replicate (Int.toNat 49) [V.int 0]).flatten) = He2 at ge2 se2 ⊢
    have te2 : Same He2 He2 := Same.refl _
    have te1 : Same He1 He2 := se2.trans te2
    have te0 : Same H3 He2 := se1.trans te1
    replace ge1 := te1 _ _ ge1
    have rv2 : List.replicate 49 (V.int 0) = (List.replicate 49 (0 : Int)).map V.int := by rw [List.map_replicate]
    rw [rv2] at ge2
    refine ⟨_, _, dp_intsL (te0 _ _ hp), dp_intsL ge2, by decide +kernel, by decide +kernel, ?_⟩
    rw [show PyData.eqv (.list ((List.replicate 49 (0 : Int)).map PyData.int)) (.list ((List.replicate 49 (0 : Int)).map PyData.int)) = true by decide +kernel]
    exact q _ (s1.trans (tb0.trans (s2.trans (tc0.trans (s3.trans te0)))))
end
end HT
namespace HT
open PySem L2
/-- sides of at most so great steps -/
structure SdQ (mo : Int) (H : Hp) (xs : List V) (ss : List Sd) : Prop where
  len : xs.length = ss.length
  at_ : ∀ (i : Nat) (d : Sd), ss[i]? = some d → ∃ p : Addr, xs[i]? = some (V.ref p) ∧ H p = some (sideV d.o d.s d.m) ∧ (SideP d.o d.s d.m ∧ d.s ≤ mo)
theorem SdQ.oth {mo : Int} {H H' : Hp} {xs : List V} {ss : List Sd} {a c : Addr} {t : Nat} (S : SdQ mo H xs ss) (s : Src H a c t) (o : Oth a c H H') : SdQ mo H' xs ss :=
  ⟨S.len, fun i d h => let ⟨p, e, hp, r⟩ := S.at_ i d h; ⟨p, e, o _ _ hp (s.nt hp).1 (s.nt hp).2, r⟩⟩
theorem SdQ.put {mo : Int} {H : Hp} {xs : List V} {ss : List Sd} {l : Addr} {ys zs : List V} (S : SdQ mo H xs ss) (hl : H l = some (.lst ys)) : SdQ mo (upd H l (.lst zs)) xs ss :=
  ⟨S.len, fun i d h => let ⟨p, e1, hp, r⟩ := S.at_ i d h; ⟨p, e1, (upd_ne (ne_of hp hl (by intro z; cases z))).trans hp, r⟩⟩
theorem SdQ.same {mo : Int} {H H' : Hp} {xs : List V} {ss : List Sd} (S : SdQ mo H xs ss) (e : Same H H') : SdQ mo H' xs ss :=
  ⟨S.len, fun i d h => let ⟨p, e1, hp, r⟩ := S.at_ i d h; ⟨p, e1, e _ _ hp, r⟩⟩
theorem SdQ.snoc {mo : Int} {H : Hp} {xs : List V} {ss : List Sd} {p : Addr} {d : Sd} (S : SdQ mo H xs ss) (hp : H p = some (sideV d.o d.s d.m)) (r : SideP d.o d.s d.m ∧ d.s ≤ mo) : SdQ mo H (xs ++ [V.ref p]) (ss ++ [d]) := by
  refine ⟨by rw [List.length_append, List.length_append, S.len]; rfl, fun i e h => ?_⟩
  have hi : i < ss.length + 1 := by
    have := (List.getElem?_eq_some_iff.mp h).1
    rw [List.length_append] at this
    exact this
  rcases Nat.lt_or_eq_of_le (Nat.le_of_lt_succ hi) with lt | eq
  · rw [List.getElem?_append_left lt] at h
    obtain ⟨q, e1, e2⟩ := S.at_ i e h
    exact ⟨q, by rw [List.getElem?_append_left (by rw [S.len]; exact lt)]; exact e1, e2⟩
  · subst eq
    rw [List.getElem?_append_right (Nat.le_refl _), Nat.sub_self] at h
    cases h
    exact ⟨p, by rw [← S.len, List.getElem?_append_right (Nat.le_refl _), Nat.sub_self]; rfl, hp, r⟩
theorem SdQ.sides {mo : Int} {H : Hp} {l : Addr} {xs : List V} {ss : List Sd} (S : SdQ mo H xs ss) (hl : H l = some (.lst xs)) (h1 : 1 ≤ ss.length) (h4 : ss.length ≤ 4) : SidesAt H l xs ss :=
  ⟨hl, S.len, h1, h4, fun i d h => let ⟨p, e, hp, a, _⟩ := S.at_ i d h; ⟨p, e, hp, a⟩⟩
theorem SdQ.le {mo : Int} {H : Hp} {xs : List V} {ss : List Sd} (S : SdQ mo H xs ss) : ∀ d ∈ ss, d.s ≤ mo := fun d hd => by
  obtain ⟨i, hi, rfl⟩ := List.mem_iff_getElem.mp hd
  obtain ⟨_, _, _, _, r⟩ := S.at_ i _ (List.getElem?_eq_getElem hi)
  exact r
theorem SdQ.app {mo : Int} {H : Hp} {xs ys : List V} {ss ts : List Sd} (S : SdQ mo H xs ss) (T : SdQ mo H ys ts) : SdQ mo H (xs ++ ys) (ss ++ ts) := by
  refine ⟨by rw [List.length_append, List.length_append, S.len, T.len], fun i d h => ?_⟩
  rcases Nat.lt_or_ge i ss.length with lt | ge
  · rw [List.getElem?_append_left lt] at h
    obtain ⟨q, e1, e2⟩ := S.at_ i d h
    exact ⟨q, by rw [List.getElem?_append_left (by rw [S.len]; exact lt)]; exact e1, e2⟩
  · rw [List.getElem?_append_right ge] at h
    obtain ⟨q, e1, e2⟩ := T.at_ _ d h
    exact ⟨q, by rw [List.getElem?_append_right (by rw [S.len]; exact ge), S.len]; exact e1, e2⟩
theorem SdQ.take {mo : Int} {H : Hp} {xs : List V} {ss : List Sd} (S : SdQ mo H xs ss) (n : Nat) : SdQ mo H (xs.take n) (ss.take n) := by
  refine ⟨by rw [List.length_take, List.length_take, S.len], fun i d h => ?_⟩
  rw [List.getElem?_take] at h ⊢
  split at h
  · rw [if_pos (by assumption)]
    exact S.at_ i d h
  · cases h
theorem SdQ.drop {mo : Int} {H : Hp} {xs : List V} {ss : List Sd} (S : SdQ mo H xs ss) (n : Nat) : SdQ mo H (xs.drop n) (ss.drop n) := by
  refine ⟨by rw [List.length_drop, List.length_drop, S.len], fun i d h => ?_⟩
  rw [List.getElem?_drop] at h ⊢
  exact S.at_ _ d h
theorem SdQ.up {mo mo' : Int} {H : Hp} {xs : List V} {ss : List Sd} (S : SdQ mo H xs ss) (h : mo ≤ mo') : SdQ mo' H xs ss :=
  ⟨S.len, fun i d e => let ⟨p, e1, hp, a, b⟩ := S.at_ i d e; ⟨p, e1, hp, a, by omega⟩⟩
theorem SdQ.ofL {H : Hp} {l : Addr} {xs : List V} {ss : List Sd} (S : SidL H l xs ss) : SdQ (10 ^ 30) H xs ss := ⟨S.len, fun i d e => let ⟨p, e1, hp, a⟩ := S.at_ i d e; ⟨p, e1, hp, a, a.s1⟩⟩
theorem SdQ.toL {mo : Int} {H : Hp} {l : Addr} {xs : List V} {ss : List Sd} (S : SdQ mo H xs ss) (hl : H l = some (.lst xs)) (h4 : ss.length ≤ 4) : SidL H l xs ss :=
  ⟨hl, S.len, h4, fun i d h => let ⟨p, e, hp, a, _⟩ := S.at_ i d h; ⟨p, e, hp, a⟩⟩
theorem Src.chg {a c p : Addr} {H : Hp} {t : Nat} {o : HO} (S : Src H a c t) (na : p ≠ a) (nc : p ≠ c) : Src (upd H p o) a c t := by
  obtain ⟨cs, h, l⟩ := S.cl
  exact ⟨S.ne, (upd_ne na.symm).trans S.ob, cs, (upd_ne nc.symm).trans h, l⟩
theorem sdq_nil {mo : Int} {H : Hp} : SdQ mo H [] [] := ⟨rfl, fun i d h => by simp at h⟩
end HT
namespace HT
open PySem L2
section
variable {P : Program} {w : World} {K : PySem.W.Frag} {mg : Str → Option Value} {base : Heap} {aM c0 fC fB fV fN fW fS : Addr} {dC dB dV dN dW dS : FuncData}
theorem ok_nums {f : Addr} {fd : FuncData} (F : Fun K "_check_numbers" "_check_numbers" s_check_numbers f fd) (A' : AmG mg) (hMH : ∃ t, mg "MOST_HANDOVERS" = some (.int 1000 t)) (Bt : Cal P w K mg base "is_int_between" 2 ["thing", "least", "most"] spBetween fB dB) : FnOk P w K mg base CX0 3 f fd ["numbers", "many"] spNums := by
  refine F.ok sc_check_numbers (fun vs H Q E h => ?_) (fun cdv A outer s0 H vs Q E hr h => ?_)
  · obtain ⟨kl, ks, n, rfl, _⟩ := h
    rfl
  · obtain ⟨kl, ks, n, rfl, hk, kn, kb, q⟩ := h
    have nd := sc_check_numbers.nd
    obtain ⟨tmh, hmh⟩ := hMH
    refine ⟨_, pss_cons (ps_if (PW.pt (pw_or (pt_not (pt_val (pe_callB call_isi (by rfl) A'.isi (by decide +kernel) (pa_cons (pv 0) (pa_cons (pe_bltn (v := .ty "list") (by rfl) A'.list (by decide +kernel) rfl) pa_nil)))))
        (pw_or1 (pt_cmpR op_gt (pe_callB call_len_seq (by rfl) A'.len PySem.boot_len (pa_cons (pv 0) pa_nil)) (pe_glob (v := .int 1000) (by rfl) hmh ⟨_, rfl⟩) (nomark _))))) (pss_one ps_never) pss_nil)
      (pss_one (ps_for PassesOwn.never rfl (pi_list (pv 0)) (pg_name (i := 2) nd rfl (Or.inl rfl))
        (pss_one (ps_if (pt_not (pt_val (pcl Bt hr (by decide) (by rfl) (pa_cons (pv 2) (pa_cons pe_int (pa_cons (pe_op op_sub (pv 1) pe_int) pa_nil)))))) (pss_one ps_never) pss_nil)))), ?_⟩
    walk_at "rd"
    refine ⟨_, _, _, _, _, rfl, .ty "list", .base (.lst hk), kit_ty (r := true) (by decide +kernel), ?_⟩
    walk_at "rd"
    refine ⟨kl, _, rfl, .inl (SqL.of hk), ?_⟩
    walk_at "rd"
    refine ite2 (fun z => ?_) (fun _ => ?_)
    · exfalso
      have := of_decide_eq_true z
      rw [List.length_map] at this
      omega
    walk_at "rd"
    refine ⟨⟨_, SqL.of hk⟩, ?_⟩
    refine for_list (K := K) (a := kl) (xs := ks.map nV) (fun i σ H' => ∃ y : Option V, σ = [some (.ref kl), some (.int (n : Int)), y] ∧ H' = H) ⟨none, rfl, rfl⟩ (fun _ _ _ _ ⟨_, _, e⟩ => e ▸ SqL.of hk) ?_ ?_
    · rintro i y σ H' hy ⟨z, rfl, rfl⟩
      obtain ⟨k, hkk, rfl⟩ : ∃ k, ks[i]? = some k ∧ y = nV k := by
        rw [List.getElem?_map] at hy
        cases e : ks[i]? with
        | none => rw [e] at hy; cases hy
        | some k => rw [e] at hy; exact ⟨k, rfl, (Option.some.inj hy).symm⟩
      have kl' := kb k (List.mem_of_getElem? hkk)
      walk_at "rd"
      refine ⟨_, _, _, rfl, _, rfl, ?_⟩
      refine ite2 (fun z => ?_) (fun _ => ?_)
      · exfalso
        refine not_t z ?_
        rw [decide_eq_true (by omega), decide_eq_true (by omega)]
        rfl
      exact ⟨_, rfl, rfl⟩
    · rintro σ H' ⟨z, rfl, rfl⟩
      exact q
end
end HT
namespace HT
open PySem L2
theorem walk_len {ss : List Sd} {v : Int} : ∀ (o : List Nat) (a : List Int × Int), (o.foldl (stepW ss) a).1.length = a.1.length + o.length
  | [], a => rfl
  | k :: o, a => by
    have e : (stepW ss a k).1.length = a.1.length + 1 := by
      unfold stepW
      split <;> simp
    rw [List.foldl_cons, walk_len (v := v) o (stepW ss a k), e, List.length_cons]
    omega
section
variable {P : Program} {w : World} {K : PySem.W.Frag} {mg : Str → Option Value} {base : Heap} {fL fV fN fW : Addr} {dL dV dN dW : FuncData}
theorem ok_along {f : Addr} {fd : FuncData} (F : Fun K "along" "along" s_along f fd) (A' : AmG mg) (Ls : Cal P w K mg base "check_sides" 5 ["sides"] spSides fL dL) (Nm : Cal P w K mg base "_check_numbers" 3 ["numbers", "many"] spNums fN dN)
    (Vl : Cal P w K mg base "check_value" 2 ["value"] spCheckValue fV dV) (Wr : Cal P w K mg base "written" 3 ["side", "value"] spDue fW dW) : FnOk P w K mg base CX0 6 f fd ["sides", "numbers", "value"] spAlong := by
  refine F.ok sc_along (fun vs H Q E h => ?_) (fun cdv A outer s0 H vs Q E hr h => ?_)
  · obtain ⟨l, xs, ss, kl, ks, v, rfl, _⟩ := h
    rfl
  · obtain ⟨l, xs, ss, kl, ks, v, rfl, SS, hk, kn, kb, vb, q⟩ := h
    have nd := sc_along.nd
    refine ⟨_, pss_cons (ps_expr (pcl Ls hr (by decide) (by rfl) (pa_cons (pv 0) pa_nil)))
      (pss_cons (ps_expr (pcl Nm hr (by decide) (by rfl) (pa_cons (pv 1) (pa_cons (pe_callB call_len_seq (by rfl) A'.len PySem.boot_len (pa_cons (pv 0) pa_nil)) pa_nil))))
      (pss_cons (ps_expr (pcl Vl hr (by decide) (by rfl) (pa_cons (pv 2) pa_nil)))
      (pss_cons (ps_set (i := 3) nd rfl (Or.inl rfl) (pe_lst pa_nil))
      (pss_cons (ps_set (i := 4) nd rfl (Or.inl rfl) (pv 2))
      (pss_cons (ps_for PassesOwn.never rfl (pi_list (pv 1)) (pg_name (i := 5) nd rfl (Or.inl rfl))
        (pss_cons (ps_set (i := 4) nd rfl (Or.inl rfl) (pcl Wr hr (by decide) (by rfl) (pa_cons (pe_ix ix_list (pv 0) (pv 5) (fun _ _ => rfl)) (pa_cons (pv 4) pa_nil))))
        (pss_one (ps_expr (pe_bm PySem.F.plainAttrs_list PySem.F.slot_list_append PySem.F.type_list_append mt_append (pv 3) (pa_cons (pv 4) pa_nil))))))
      (pss_one (ps_ret (pv 3)))))))), ?_⟩
    walk_at "rd"
    refine ⟨l, xs, ss, rfl, SS, ?_⟩
    walk_at "rd"
    refine ⟨l, _, rfl, .inl (SqL.of SS.hl), ?_⟩
    refine ⟨kl, ks, ss.length, (by show [V.ref kl, V.int (xs.length : Int)] = _; rw [SS.len]), hk, kn, kb, ?_⟩
    walk_at "rd"
    refine ⟨(by show 0 ≤ sizeLine; decide), fun d nd1 => ?_⟩
    have hd : upd H d (.lst []) d = some (.lst []) := upd_same
    have s1 : Same H (upd H d (.lst [])) := fun b u z => (upd_ne (ne_of_none z nd1)).trans z
    walk_at "rd"
    refine ⟨⟨_, SqL.of (s1 _ _ hk)⟩, ?_⟩
    refine for_list (K := K) (a := kl) (xs := ks.map nV) (fun j st H' => ∃ x5 : Option V, st = [some (.ref l), some (.ref kl), some (.int v), some (.ref d), some (.int (walkW ss (ks.take j) v).2), x5] ∧ H' d = some (.lst ((walkW ss (ks.take j) v).1.map V.int)) ∧ Same H H' ∧ (-(2 ^ 200 + 10 ^ 30 * (j : Int)) < (walkW ss (ks.take j) v).2 ∧ (walkW ss (ks.take j) v).2 < 2 ^ 200 + 10 ^ 30 * (j : Int)) ∧ j ≤ ks.length)
      ⟨none, rfl, hd, s1, (by show -(2 ^ 200 + 10 ^ 30 * ((0 : Nat) : Int)) < v ∧ v < 2 ^ 200 + 10 ^ 30 * ((0 : Nat) : Int); omega), Nat.zero_le _⟩ (fun _ _ _ _ ⟨_, _, _, s, _⟩ => SqL.of (s _ _ hk)) ?_ ?_
    · rintro j y st H' hy ⟨x5, rfl, hdj, sm, bd, hj⟩
      obtain ⟨k, hkk, rfl⟩ : ∃ k, ks[j]? = some k ∧ y = nV k := by
        rw [List.getElem?_map] at hy
        cases e : ks[j]? with
        | none => rw [e] at hy; cases hy
        | some k => rw [e] at hy; exact ⟨k, rfl, (Option.some.inj hy).symm⟩
      have jl : j < ks.length := (List.getElem?_eq_some_iff.mp hkk).1
      have kl' := kb k (List.mem_of_getElem? hkk)
      have S2 := SS.same sm
      obtain ⟨p, ep, hp, sp⟩ := S2.at_ k ss[k] (List.getElem?_eq_getElem kl')
      have en : atI xs ((k : Nat) : Int) = some (.ref p) := by
        unfold atI
        rw [ixN_in (by omega) (by rw [SS.len]; omega)]
        exact ep
      walk_at "rd"
      refine ⟨l, _, _, _, rfl, rfl, SqL.of S2.hl, en, ?_⟩
      walk_at "rd"
      refine ⟨p, ss[k].o, ss[k].s, ss[k].m, _, rfl, hp, sp, (by unfold Bd; omega), fun H3 s3 => ?_⟩
      walk_at "rd"
      have hd2 := s3 _ _ hdj
      refine ⟨.inl ⟨rfl, _, SqL.of hd2⟩, ?_⟩
      walk_at "rd"
      have wl : (walkW ss (ks.take j) v).1.length = j := by
        unfold walkW
        rw [walk_len (v := v), List.length_take]
        show 0 + min j ks.length = j
        omega
      refine ⟨d, _, _, rfl, rfl, hd2, (by rw [List.length_map, wl]; exact Nat.lt_of_lt_of_le (by omega : j < 1000) (by decide)), ?_⟩
      have far := due_far (v := (walkW ss (ks.take j) v).2) sp bd
      have ws : walkW ss (ks.take (j + 1)) v = ((walkW ss (ks.take j) v).1 ++ [dueM ss[k].o ss[k].s ss[k].m (walkW ss (ks.take j) v).2], dueM ss[k].o ss[k].s ss[k].m (walkW ss (ks.take j) v).2) := by
        rw [walk_snoc hkk]
        unfold stepW
        rw [List.getElem?_eq_getElem kl']
      rw [ws]
      refine ⟨_, rfl, ?_, fun b u z => (upd_ne (ne_of_none z nd1)).trans (s3 _ _ (sm _ _ z)), ?_, jl⟩
      · rw [List.map_append]; exact upd_same
      · show -(2 ^ 200 + 10 ^ 30 * ((j + 1 : Nat) : Int)) < dueM ss[k].o ss[k].s ss[k].m (walkW ss (ks.take j) v).2 ∧ _ < 2 ^ 200 + 10 ^ 30 * ((j + 1 : Nat) : Int)
        omega
    · rintro st H' ⟨x5, rfl, hdj, sm, bd, hj⟩
      rw [List.length_map, List.take_length] at hdj
      walk_at "rd"
      exact q d H' nd1 sm hdj
end
end HT
namespace HT
open PySem L2
def spSides16 : Sp := fun vs H Q _ => ∃ (a c : Addr) (t : Nat) (tu : Int), vs = [.ref a, .int tu] ∧ Src H a c t ∧ t + 1000 < 2 ^ 30 ∧
  ∀ (l : Addr) (xs : List V) (ss : List Sd) (H' : Hp) (t' : Nat), SidesAt H' l xs ss → l ≠ a → l ≠ c → t' ≤ t + 300 → Src H' a c t' → Oth a c H H' → Q (.ref l) H'
theorem p10_le {n k : Nat} (h : n ≤ k) : (10 : Int) ^ n ≤ 10 ^ k := by
  have z := Nat.pow_le_pow_right (show 0 < 10 by decide) h
  have e : ∀ j : Nat, ((10 ^ j : Nat) : Int) = (10 : Int) ^ j := fun j => Int.natCast_pow 10 j
  rw [← e, ← e]
  omega
section
variable {P : Program} {w : World} {K : PySem.W.Frag} {mg : Str → Option Value} {base : Heap} {fD fS fG fT : Addr} {dD dS dG dT : FuncData}
theorem ok_L_sides {f : Addr} {fd : FuncData} (F : Fun K "_law_sides" "_law_sides" s_L_sides f fd) (B : Blt mg) (D : Cal P w K mg base "_law_draw" 1 ["_law_source_here", "_law_limit"] spDraw fD dD)
    (Si : Cal P w K mg base "_law_side" 4 ["_law_source_here", "_law_most"] spSide fS dS) (G : Cal P w K mg base "_law_great" 2 ["_law_source_here", "_law_limit"] spGreat fG dG) (Tn : Cal P w K mg base "_law_ten" 1 ["_law_many"] spTen fT dT) : FnOk P w K mg base CX0 5 f fd ["_law_source_here", "_law_turn"] spSides16 := by
  refine F.ok sc_L_sides (fun vs H Q E h => ?_) (fun cdv A outer s0 H vs Q E hr h => ?_)
  · obtain ⟨a, c, t, tu, rfl, _⟩ := h
    rfl
  · obtain ⟨a, c, t, tu, rfl, S, ht, q⟩ := h
    have nd := sc_L_sides.nd
    refine ⟨_, (pss_cons (ps_set (i := 2) nd rfl (Or.inl rfl) (pe_op op_add pe_int (pcl D hr (by decide) (by rfl) (pa_cons (pv 0) (pa_cons pe_int pa_nil)))))
      (pss_cons (ps_if (pt_cmpR op_eq (pe_op op_mod (pv 1) pe_int) pe_int (nomark _)) (pss_one (ps_ret (pe_lc (own := [("_law_k", 3)]) (g := gName 3) (tt := tYes) rfl nd (pi_range1 (by rfl) B.range (pa_cons (pv 2) pa_nil)) (blkOk_by (N := ["_law_source_here", "_law_turn", "_law_many", "_law_k", "_law_joint", "_law_found", "_law_offset", "_law_steps", "_law_mode"]) (sc := defScope s_L_sides) (by decide +kernel)) (fun _ _ _ _ _ => pg_name (i := 3) nd rfl (Or.inl rfl)) (fun _ _ _ _ _ => pts_nil) (fun _ _ _ _ _ => (pcl Si hr (by decide) (by rfl) (pa_cons (pv 0) (pa_cons pe_int pa_nil))))))) pss_nil)
      (pss_cons (ps_set (i := 4) nd rfl (Or.inl rfl) (pe_op op_add pe_int (pcl G hr (by decide) (by rfl) (pa_cons (pv 0) (pa_cons (pcl Tn hr (by decide) (by rfl) (pa_cons (pe_op op_add pe_int (pcl D hr (by decide) (by rfl) (pa_cons (pv 0) (pa_cons pe_int pa_nil)))) pa_nil)) pa_nil)))))
      (pss_cons (ps_set (i := 5) nd rfl (Or.inl rfl) (pe_lst pa_nil))
      (pss_cons (ps_for PassesOwn.never rfl (pi_range1 (by rfl) B.range (pa_cons (pv 2) pa_nil)) (pg_name (i := 3) nd rfl (Or.inl rfl)) (pss_cons (ps_asg (pcl Si hr (by decide) (by rfl) (pa_cons (pv 0) (pa_cons pe_int pa_nil))) (pg_tup (by rfl) (pgs_cons (pg_name (i := 6) nd rfl (Or.inl rfl)) (pgs_cons (pg_name (i := 7) nd rfl (Or.inl rfl)) (pgs_cons (pg_name (i := 8) nd rfl (Or.inl rfl)) pgs_nil)))))
      (pss_one (ps_expr (pe_bm PySem.F.plainAttrs_list PySem.F.slot_list_append PySem.F.type_list_append mt_append (pv 5) (pa_cons (pe_tup (pa_cons (pe_op op_add (pe_op op_mulW (pv 4) (pv 6)) (pcl D hr (by decide) (by rfl) (pa_cons (pv 0) (pa_cons pe_int pa_nil)))) (pa_cons (pe_op op_add (pe_op op_mulW (pv 4) (pv 7)) (pcl D hr (by decide) (by rfl) (pa_cons (pv 0) (pa_cons pe_int pa_nil)))) (pa_cons (pv 8) pa_nil)))) pa_nil))))))
      (pss_one (ps_ret (pv 5)))))))), ?_⟩
    walk_at "rd"
    refine ⟨a, c, t, 4, rfl, S, by omega, by decide, lg_small (by decide) (by decide), fun k H1 k0 k1 S1 O1 => ?_⟩
    walk_at "rd"
    refine ⟨(by show (0 : Int) < 2; decide), ?_⟩
    have O12 : Oth a c H H1 := O1
    have S2 := S1
    clear O1 S S1
    walk_at "rd"
    refine ⟨rfl, ?_⟩
    refine ⟨_, rfl, ?_⟩
    refine ite2 (fun _ => ?_) (fun _ => ?_)
    · walk_at "rd"
      refine ⟨by omega, by omega, fun L nL => ?_⟩
      obtain ⟨La, Lc⟩ := S2.na nL
      refine lc_range (fun j H3 => ∃ (t' : Nat) (ys : List V) (ts : List Sd), H3 L = some (.lst ys) ∧ SdQ (10 ^ 30) H3 ys ts ∧ ts.length = j ∧ t' ≤ t + 2 + 40 * j ∧ Src H3 a c t' ∧ Oth a c H H3) ⟨t + 1, [], [], upd_same, sdq_nil, rfl, by omega, S2.new nL, O12.new nL⟩ ?_ ?_
      · rintro j H3 hj ⟨t3, ys, ts, hL, SQ, lj, t3b, S3, O3⟩
        have lt := SQ.len
        refine ⟨rfl, ?_⟩
        walk_at "rd"
        refine ⟨a, c, t3, 7, rfl, S3, by decide, by decide, by omega, fun z o s m H5 t5 nz hz ⟨s0, s1, o0, o1, hm⟩ t5b S5 O5 => ?_⟩
        have hL5 := O5 _ _ hL La Lc
        refine ⟨_, hL5, Nat.lt_of_lt_of_le (by omega : ys.length < 100) (by decide), t5, ys ++ [.ref z], ts ++ [⟨o, s, m⟩], upd_same, ((SQ.oth S3 O5).snoc (d := ⟨o, s, m⟩) hz ⟨⟨by show _ ≤ o; omega, by show o ≤ _; omega, s0, by show s ≤ _; omega, hm⟩, by show s ≤ _; omega⟩).put hL5, by rw [List.length_append, lj]; rfl, by omega, S5.chg La Lc, ?_⟩
        intro b u hb ba bc
        exact (upd_ne (ne_of_none (O12 _ _ hb ba bc) nL)).trans (O5 _ _ (O3 _ _ hb ba bc) ba bc)
      rintro H3 ⟨t3, ys, ts, hL, SQ, lj, t3b, S3, O3⟩
      walk_at "rd"
      exact q L ys ts H3 t3 (SQ.sides hL (by omega) (by omega)) La Lc (by omega) S3 O3
    walk_at "rd"
    refine ⟨a, c, _, 27, rfl, S2, by omega, by decide, lg_small (by decide) (by decide), fun k3 H3 k30 k31 S3 O3 => ?_⟩
    walk_at "rd"
    refine ⟨(1 + k3).toNat, (by show [V.int (1 + k3)] = [V.int _]; rw [Int.toNat_of_nonneg (by omega)]), by omega, ?_⟩
    have tp : (1 : Int) ≤ 10 ^ (1 + k3).toNat := Int.pow_pos (by decide)
    have tb : (10 : Int) ^ (1 + k3).toNat ≤ 10 ^ 28 := p10_le (by omega)
    refine ⟨a, c, _, _, rfl, S3, by omega, by omega, fun g H4 g0 g1 S4 O4 => ?_⟩
    have O14 : Oth a c H H4 := (O12.trans O3).trans O4
    clear O12 O3 O4 S2 S3
    obtain ⟨jo, ejo⟩ : ∃ jo, jo = 1 + g := ⟨_, rfl⟩
    have jb : 1 ≤ jo ∧ jo ≤ 10 ^ 28 := by omega
    walk_at "rd"
    refine ⟨(by show 0 ≤ sizeLine; decide), fun L nL => ?_⟩
    obtain ⟨La, Lc⟩ := S4.na nL
    walk_at "rd"
    refine ⟨by omega, by omega, ?_⟩
    refine for_range (fun j st H5 => ∃ (x2 x5 x6 x7 : Option V) (t' : Nat) (ys : List V) (ts : List Sd), st = [some (.ref a), some (.int tu), some (.int (1 + k)), x2, some (.int jo), some (.ref L), x5, x6, x7] ∧ H5 L = some (.lst ys) ∧ SdQ (10 ^ 30) H5 ys ts ∧ ts.length = j ∧ t' ≤ t + 8 + 42 * j ∧ Src H5 a c t' ∧ Oth a c H H5) ⟨none, none, none, none, _, [], [], by rw [ejo]; rfl, upd_same, sdq_nil, rfl, by omega, S4.new nL, O14.new nL⟩ ?_ ?_
    · rintro j st H5 hj ⟨x2, x5, x6, x7, t5, ys, ts, rfl, hL, SQ, lj, t5b, S5, O5⟩
      have lt := SQ.len
      walk_at "rd"
      refine ⟨a, c, t5, 12, rfl, S5, by decide, by decide, by omega, fun z o s m H6 t6 nz hz ⟨s0, s1, o0, o1, hm⟩ t6b S6 O6 => ?_⟩
      refine ⟨z, _, rfl, SqT.of hz, rfl, _, _, rfl, _, _, rfl, _, _, rfl, rfl, ?_⟩
      have hL6 := O6 _ _ hL La Lc
      walk_at "rd"
      refine ⟨.inl ⟨rfl, _, SqL.of hL6⟩, ?_⟩
      walk_at "rd"
      refine ⟨mulW (by omega) (by omega), ?_⟩
      walk_at "rd"
      refine ⟨a, c, _, 3, rfl, S6, by omega, by decide, lg_small (by decide) (by decide), fun r1 H7 r10 r11 S7 O7 => ?_⟩
      walk_at "rd"
      refine ⟨mulW (by omega) (by omega), ?_⟩
      walk_at "rd"
      refine ⟨a, c, _, 3, rfl, S7, by omega, by decide, lg_small (by decide) (by decide), fun r2 H8 r20 r21 S8 O8 => ?_⟩
      walk_at "rd"
      refine ⟨(by show 3 ≤ sizeLine; decide), fun n nn => ?_⟩
      have X1 : jo * o ≤ jo * 24 := Int.mul_le_mul_of_nonneg_left (by omega) (by omega)
      have X2 : jo * (-12) ≤ jo * o := Int.mul_le_mul_of_nonneg_left (by omega) (by omega)
      have Y1 : jo * s ≤ jo * 12 := Int.mul_le_mul_of_nonneg_left (by omega) (by omega)
      have Y2 : jo * 1 ≤ jo * s := Int.mul_le_mul_of_nonneg_left (by omega) (by omega)
      have gn : upd H8 n (.tup [V.int (jo * o + r1), .int (jo * s + r2), .str m]) n = some (.tup [V.int (jo * o + r1), .int (jo * s + r2), .str m]) := upd_same
      have sn : Same H8 (upd H8 n (.tup [V.int (jo * o + r1), .int (jo * s + r2), .str m])) := same_upd nn
      generalize upd H8 n (.tup [V.int (jo * o + r1), .int (jo * s + r2), .str m]) = H9 at gn sn ⊢
      have hL9 := sn _ _ (O8 _ _ (O7 _ _ hL6 La Lc) La Lc)
      have SQ9 := ((((SQ.oth S5 O6).oth S6 O7).oth S7 O8).same sn)
      refine ⟨L, _, _, rfl, rfl, hL9, Nat.lt_of_lt_of_le (by omega : ys.length < 100) (by decide), ?_⟩
      refine ⟨_, _, _, _, _, ys ++ [.ref n], ts ++ [⟨jo * o + r1, jo * s + r2, m⟩], rfl, upd_same, (SQ9.snoc (d := ⟨jo * o + r1, jo * s + r2, m⟩) gn ⟨⟨by show _ ≤ jo * o + r1; omega, by show jo * o + r1 ≤ _; omega, by show 1 ≤ jo * s + r2; omega, by show jo * s + r2 ≤ _; omega, hm⟩, by show jo * s + r2 ≤ _; omega⟩).put hL9, by rw [List.length_append, lj]; rfl, ?_, (S8.of_same sn).chg La Lc, ?_⟩
      · omega
      · intro b u hb ba bc
        exact (upd_ne (ne_of_none (O14 _ _ hb ba bc) nL)).trans (sn _ _ (O8 _ _ (O7 _ _ (O6 _ _ (O5 _ _ hb ba bc) ba bc) ba bc) ba bc))
    rintro st H5 ⟨x2, x5, x6, x7, t5, ys, ts, rfl, hL, SQ, lj, t5b, S5, O5⟩
    walk_at "rd"
    exact q L ys ts H5 t5 (SQ.sides hL (by omega) (by omega)) La Lc (by omega) S5 O5
end
end HT
namespace HT
open PySem L2
theorem walk_in {ss : List Sd} (hss : ∀ d ∈ ss, SideP d.o d.s d.m) : ∀ (ks : List Nat) (a : List Int) (x : Int), (∀ k ∈ ks, k < ss.length) → inA (ks.foldl (stepW ss) (a, x)).2 ss x ks.length
  | [], a, x, _ => in_self x ss 0
  | k :: ks, a, x, h => by
    have hk := h k List.mem_cons_self
    have e : stepW ss (a, x) k = (a ++ [dueM ss[k].o ss[k].s ss[k].m x], dueM ss[k].o ss[k].s ss[k].m x) := by
      unfold stepW
      rw [List.getElem?_eq_getElem hk]
    rw [List.foldl_cons, e, List.length_cons]
    exact mov_in hss (d := ss[k]) (List.getElem_mem hk) (walk_in hss ks _ _ fun j hj => h j (List.mem_cons_of_mem _ hj))
theorem walk_last {ss : List Sd} : ∀ (ks : List Nat) (a : List Int) (x : Int), (∀ k ∈ ks, k < ss.length) → ks ≠ [] → ∃ T : List Int, (ks.foldl (stepW ss) (a, x)).1 = T ++ [(ks.foldl (stepW ss) (a, x)).2] ∧ T.length + 1 = a.length + ks.length
  | [], _, _, _, n => absurd rfl n
  | k :: ks, a, x, h, _ => by
    have hk := h k List.mem_cons_self
    have e : stepW ss (a, x) k = (a ++ [dueM ss[k].o ss[k].s ss[k].m x], dueM ss[k].o ss[k].s ss[k].m x) := by
      unfold stepW
      rw [List.getElem?_eq_getElem hk]
    rw [List.foldl_cons, e, List.length_cons]
    by_cases z : ks = []
    · subst z
      exact ⟨a, rfl, by rw [List.length_nil]⟩
    · obtain ⟨T, e1, e2⟩ := walk_last ks (a ++ [dueM ss[k].o ss[k].s ss[k].m x]) (dueM ss[k].o ss[k].s ss[k].m x) (fun j hj => h j (List.mem_cons_of_mem _ hj)) z
      refine ⟨T, e1, ?_⟩
      rw [List.length_append] at e2
      have : [dueM ss[k].o ss[k].s ss[k].m x].length = 1 := rfl
      omega
theorem walk_bd {ss : List Sd} (hss : ∀ d ∈ ss, SideP d.o d.s d.m) : ∀ (ks : List Nat) (a : List Int) (x : Int), (∀ k ∈ ks, k < ss.length) → x - 10 ^ 30 * (ks.length : Int) ≤ (ks.foldl (stepW ss) (a, x)).2 ∧ (ks.foldl (stepW ss) (a, x)).2 ≤ x + 10 ^ 30 * (ks.length : Int)
  | [], a, x, _ => by show x - _ ≤ x ∧ x ≤ x + _; rw [List.length_nil]; omega
  | k :: ks, a, x, h => by
    have hk := h k List.mem_cons_self
    have e : stepW ss (a, x) k = (a ++ [dueM ss[k].o ss[k].s ss[k].m x], dueM ss[k].o ss[k].s ss[k].m x) := by
      unfold stepW
      rw [List.getElem?_eq_getElem hk]
    have n := due_near (o := ss[k].o) (v := x) (hss _ (List.getElem_mem hk)).md (hss _ (List.getElem_mem hk)).s0
    have s1 := (hss _ (List.getElem_mem hk)).s1
    have ih := walk_bd hss ks (a ++ [dueM ss[k].o ss[k].s ss[k].m x]) (dueM ss[k].o ss[k].s ss[k].m x) fun j hj => h j (List.mem_cons_of_mem _ hj)
    rw [List.foldl_cons, e, List.length_cons]
    omega
theorem at_lastR (xs : List V) (y : V) : atI (xs ++ [y]) (-1) = some y := by
  have hn : ixN (xs ++ [y]).length (-1) = some xs.length := by
    rw [List.length_append, List.length_singleton]
    unfold ixN
    rw [if_neg (by decide), if_pos (by omega)]
    congr 1
    omega
  unfold atI
  rw [hn]
  show (xs ++ [y])[xs.length]? = some y
  rw [List.getElem?_append_right (Nat.le_refl _), Nat.sub_self]
  rfl
end HT
namespace HT
open PySem L2
def rLenK (K : PySem.W.Frag) : List V → Hp → VK → Prop := fun xs H Q => ∃ p ys, xs = [V.ref p] ∧ (SqL K H p ys ∨ SqT K H p ys) ∧ Q (V.int (ys.length : Nat)) H
def spSeenL : Sp := fun vs H Q _ => ∃ (a c : Addr) (t : Nat) (l : Addr) (xs : List V) (ss : List Sd), vs = [.ref a, .ref l] ∧ Src H a c t ∧ t + 1000 < 2 ^ 30 ∧ SidesAt H l xs ss ∧ l ≠ a ∧ l ≠ c ∧
  ∀ (p q m : Addr) (ns : List Int) (H' : Hp) (t' : Nat), H' p = some (.tup [.ref q, .ref m]) → H' q = some (.lst (ns.map V.int)) → q ≠ a → q ≠ c → ns.length ≤ 8 → (∀ v ∈ ns, -2 ^ 150 < v ∧ v < 2 ^ 150) → t' ≤ t + 200 → Src H' a c t' → Oth a c H H' → Q (.ref p) H'
section
variable {P : Program} {w : World} {K : PySem.W.Frag} {mg : Str → Option Value} {base : Heap} {f1 f2 f3 f4 : Addr} {d1 d2 d3 d4 : FuncData}
theorem ok_L_seen {f : Addr} {fd : FuncData} (F : Fun K "_law_seen" "_law_seen" s_L_seen f fd) (B : Blt mg) (D : Cal P w K mg base "_law_draw" 1 ["_law_source_here", "_law_limit"] spDraw f1 d1) (Pk : Cal P w K mg base "_law_pick" 2 ["_law_source_here", "_law_values"] spPick f2 d2) (G : Cal P w K mg base "_law_great" 2 ["_law_source_here", "_law_limit"] spGreat f3 d3) (Al : Cal P w K mg base "along" 6 ["sides", "numbers", "value"] spAlong f4 d4) : FnOk P w K mg base CX0 7 f fd ["_law_source_here", "_law_sides_here"] spSeenL := by
  refine F.ok sc_L_seen (fun vs H Q E h => ?_) (fun cdv A outer s0 H vs Q E hr h => ?_)
  · obtain ⟨a, c, t, l, xs, ss, rfl, _⟩ := h
    rfl
  · obtain ⟨a, c, t, l, xs, ss, rfl, S, ht, SS, la, lc, q⟩ := h
    have nd := sc_L_seen.nd
    refine ⟨_, (pss_cons (ps_mid (ps_set (i := 2) nd rfl (Or.inl rfl) (pcl Pk hr (by decide) (by rfl) (pa_cons (pv 0) (pa_cons (pe_lst (pa_cons pe_int (pa_cons pe_int (pa_cons (pe_un un_neg pe_int) (pa_cons (pe_op op_sub (pcl D hr (by decide) (by rfl) (pa_cons (pv 0) (pa_cons pe_int pa_nil))) pe_int) (pa_cons (pe_op op_sub (pcl G hr (by decide) (by rfl) (pa_cons (pv 0) (pa_cons (pe_op op_pow pe_int pe_int) pa_nil))) (pe_op op_mul pe_int (pe_op op_pow pe_int pe_int))) pa_nil)))))) pa_nil)))))
      (pss_cons (ps_mid (ps_par (i := 3) (j := 4) (by rfl) nd rfl rfl (by decide) rfl rfl (pa_cons (pe_lst pa_nil) (pa_cons (pe_lst pa_nil) pa_nil)) (by rfl)))
      (pss_cons (ps_for PassesOwn.never rfl (pi_range1 (by rfl) B.range (pa_cons (pcl D hr (by decide) (by rfl) (pa_cons (pv 0) (pa_cons pe_int pa_nil))) pa_nil)) (pg_name (i := 5) nd rfl (Or.inl rfl)) (pss_cons (ps_mid (ps_setLc (i := 7) (own := [("_law_step_here", 6)]) (g := gName 6) (tt := tYes) rfl nd rfl rfl (sw_true rfl rfl rfl (by decide +kernel)) (pi_range1 (by rfl) B.range (pa_cons (pcl D hr (by decide) (by rfl) (pa_cons (pv 0) (pa_cons pe_int pa_nil))) pa_nil)) (blkOk_by (N := ["_law_source_here", "_law_sides_here", "_law_now", "_law_found", "_law_most", "_law_k", "_law_step_here", "_law_numbers"]) (sc := defScope s_L_seen) (by decide +kernel)) (fun _ _ _ _ _ => pg_name (i := 6) nd rfl (Or.inl rfl)) (fun _ _ _ _ _ => pts_nil) (fun _ _ _ _ _ => (pcl D hr (by decide) (by rfl) (pa_cons (pv 0) (pa_cons (pe_callB (show CallR _ _ (rLenK K) from call_len_seq) (by rfl) B.len PySem.boot_len (pa_cons (pv 1) pa_nil)) pa_nil))))))
      (pss_cons (ps_mid (ps_set (i := 2) nd rfl (Or.inl rfl) (pe_ix ix_list (pe_op op_cat (pcl Al hr (by decide) (by rfl) (pa_cons (pv 1) (pa_cons (pv 7) (pa_cons (pv 2) pa_nil)))) (pe_lst (pa_cons (pv 2) pa_nil))) (pe_op op_sub (pe_callB call_len_seq (by rfl) B.len PySem.boot_len (pa_cons (pv 7) pa_nil)) pe_int) (fun _ _ => rfl))))
      (pss_cons (ps_mid (ps_if (pt_cmpR op_eq (pcl D hr (by decide) (by rfl) (pa_cons (pv 0) (pa_cons pe_int pa_nil))) pe_int (nomark _)) (pss_one (ps_mid (ps_set (i := 2) nd rfl (Or.inl rfl) (pe_op op_add (pv 2) (pcl Pk hr (by decide) (by rfl) (pa_cons (pv 0) (pa_cons (pe_lst (pa_cons pe_int (pa_cons (pe_un un_neg pe_int) (pa_cons (pe_ix ix_tup (pe_ix ix_list (pv 1) pe_int (fun _ _ => rfl)) pe_int (fun _ _ => rfl)) (pa_cons (pe_op op_sub pe_int (pe_op op_mul pe_int (pe_ix ix_tup (pe_ix ix_list (pv 1) pe_int (fun _ _ => rfl)) pe_int (fun _ _ => rfl)))) pa_nil))))) pa_nil))))))) pss_nil))
      (pss_cons (ps_expr (pe_bm PySem.F.plainAttrs_list PySem.F.slot_list_append PySem.F.type_list_append mt_append (pv 3) (pa_cons (pv 2) pa_nil)))
      (pss_one (ps_expr (pe_bm PySem.F.plainAttrs_list PySem.F.slot_list_append PySem.F.type_list_append mt_append (pv 4) (pa_cons (pe_callB call_len_seq (by rfl) B.len PySem.boot_len (pa_cons (pv 7) pa_nil)) pa_nil)))))))))
      (pss_one (ps_ret (pe_tup (pa_cons (pv 3) (pa_cons (pv 4) pa_nil)))))))), ?_⟩
    refine ⟨fun st Hz => ∃ (v : Int), st = [some (.ref a), some (.ref l), some (.int v), none, none, none, none, none] ∧ (-10 ^ 31 ≤ v ∧ v ≤ 10 ^ 31) ∧ Src Hz a c (t + 7) ∧ Oth a c H Hz, ?_, ?_⟩
    · walk_at "rd"
      refine ⟨a, c, t, 90, rfl, S, by omega, by decide, lg_small (by decide) (by decide), fun k1 H1 k10 k11 S1 O1 => ?_⟩
      walk_at "rd"
      refine ⟨⟨by decide, by decide, by decide⟩, ?_⟩
      have e31 : (10 : Int) ^ (31 : Int).toNat = 10 ^ 31 := by decide
      refine ⟨a, c, _, 10 ^ 31, (by show [V.ref a, V.int ((10 : Int) ^ (31 : Int).toNat)] = _; rw [e31]), S1, by decide, by omega, fun g H2 g0 g1 S2 O2 => ?_⟩
      walk_at "rd"
      refine ⟨⟨by decide, by decide, by decide⟩, ?_⟩
      walk_at "rd"
      refine ⟨.inl ⟨by decide, by decide⟩, ?_⟩
      walk_at "rd"
      have e30 : (5 : Int) * 10 ^ (30 : Int).toNat = 5 * 10 ^ 30 := by decide
      rw [e30]
      refine ⟨(by show 5 ≤ sizeLine; decide), fun p np => ?_⟩
      obtain ⟨pa, pc⟩ := S2.na np
      refine ⟨a, c, _, p, _, rfl, S2.new np, by omega, upd_same, pa, pc, (by show 0 < 5; decide), (by show 5 < 2 ^ 60; decide), fun x H3 hx S3 O3 => ?_⟩
      have g2 : g < 10 ^ 31 := g1
      obtain ⟨v, rfl, vb⟩ : ∃ v : Int, x = .int v ∧ (-10 ^ 31 ≤ v ∧ v ≤ 10 ^ 31) := by
        simp only [List.mem_cons, List.not_mem_nil, or_false] at hx
        rcases hx with rfl | rfl | rfl | rfl | rfl <;> exact ⟨_, rfl, by omega⟩
      exact ⟨v, rfl, vb, S3, (O1.trans O2).trans (((Oth.refl a c H2).new np).trans O3)⟩
    rintro st H1 ⟨v, rfl, vb, S1, O1⟩
    walk_at "rd"
    refine ⟨fun st Hz => ∃ fl ml : Addr, st = [some (.ref a), some (.ref l), some (.int v), some (.ref fl), some (.ref ml), none, none, none] ∧ Hz fl = some (.lst []) ∧ Hz ml = some (.lst []) ∧ fl ≠ a ∧ fl ≠ c ∧ ml ≠ a ∧ ml ≠ c ∧ fl ≠ ml ∧ H fl = none ∧ H ml = none ∧ Src Hz a c (t + 7) ∧ Oth a c H Hz, ?_, ?_⟩
    · refine ⟨(by show 0 ≤ sizeLine; decide), fun fl nfl => ?_⟩
      have gfl : upd H1 fl (.lst []) fl = some (.lst []) := upd_same
      obtain ⟨fa, fc⟩ := S1.na nfl
      have S2 := S1.new (o := .lst []) nfl
      have O2 := O1.new (o := .lst []) nfl
      have hfl : H fl = none := by
        cases e : H fl with
        | none => rfl
        | some u => rw [O1 _ _ e fa fc] at nfl; cases nfl
      generalize upd H1 fl (.lst []) = H2 at gfl S2 O2 ⊢
      refine ⟨(by show 0 ≤ sizeLine; decide), fun ml nml => ?_⟩
      obtain ⟨ma, mc⟩ := S2.na nml
      have hml : H ml = none := by
        cases e : H ml with
        | none => rfl
        | some u => rw [O2 _ _ e ma mc] at nml; cases nml
      refine ⟨_, _, rfl, ?_⟩
      exact ⟨fl, ml, rfl, (same_upd nml) _ _ gfl, upd_same, fa, fc, ma, mc, ne_of_none gfl nml, hfl, hml, S2.new nml, O2.new nml⟩
    rintro st H2 ⟨fl, ml, rfl, gfl, gml, fa, fc, ma, mc, fm, hfl, hml, S2, O2⟩
    clear S1 O1
    walk_at "rd"
    refine ⟨a, c, _, 9, rfl, S2, by omega, by decide, lg_small (by decide) (by decide), fun n H3 n0 n1 S3 O3 => ?_⟩
    walk_at "rd"
    refine ⟨by omega, by omega, ?_⟩
    have put : ∀ {Hy : Hp} {p : Addr} {o : HO}, Oth a c H Hy → H p = none → Oth a c H (upd Hy p o) := fun o hp b u hb ba bc => (upd_ne (ne_of_none hb hp)).trans (o _ _ hb ba bc)
    refine for_range (n := n.toNat) (fun k st Hz => ∃ (v : Int) (x5 x6 x7 : Option V) (t' : Nat) (ns : List Int) (ms : List V), st = [some (.ref a), some (.ref l), some (.int v), some (.ref fl), some (.ref ml), x5, x6, x7] ∧ (-10 ^ 31 * (1 + 2 * (k : Int)) ≤ v ∧ v ≤ 10 ^ 31 * (1 + 2 * (k : Int))) ∧ Hz fl = some (.lst (ns.map V.int)) ∧ ns.length = k ∧ (∀ u ∈ ns, -2 ^ 150 < u ∧ u < 2 ^ 150) ∧ Hz ml = some (.lst ms) ∧ ms.length = k ∧ t' ≤ t + 8 + 12 * k ∧ Src Hz a c t' ∧ Oth a c H Hz)
      ⟨v, none, none, none, _, [], [], rfl, by omega, O3 _ _ gfl fa fc, rfl, (fun u hu => nomatch hu), O3 _ _ gml ma mc, rfl, by omega, S3, O2.trans O3⟩ ?_ ?_
    · rintro k st Hz hk ⟨v, x5, x6, x7, t', ns, ms, rfl, vb, hf, ln, nb, hm, lm, tb, Sz, Oz⟩
      have k8 : k < 8 := by omega
      have SSz := SS.oth S la lc Oz
      have l1 := SSz.l1
      have l4 := SSz.l4
      have lx := SSz.len
      walk_at "rd"
      refine ⟨fun st Hy => ∃ (nl : Addr) (ks : List Nat) (t2 : Nat), st = [some (.ref a), some (.ref l), some (.int v), some (.ref fl), some (.ref ml), some (.int (0 + (k : Int))), x6, some (.ref nl)] ∧ Hy nl = some (.lst (ks.map nV)) ∧ ks.length ≤ 6 ∧ (∀ j ∈ ks, j < ss.length) ∧ t2 ≤ t' + 7 ∧ Src Hy a c t2 ∧ Oth a c Hz Hy ∧ nl ≠ a ∧ nl ≠ c, ?_, ?_⟩
      · walk_at "rd"
        refine ⟨a, c, _, 7, rfl, Sz, by omega, by decide, lg_small (by decide) (by decide), fun m H4 m0 m1 S4 O4 => ?_⟩
        have SS4 := SSz.oth Sz la lc O4
        walk_at "rd"
        refine ⟨by omega, by omega, fun Dd nD => ?_⟩
        obtain ⟨Da, Dc⟩ := S4.na nD
        refine lc_range (fun j H5 => ∃ (ks : List Nat) (t'' : Nat), H5 Dd = some (.lst (ks.map nV)) ∧ ks.length = j ∧ (∀ k ∈ ks, k < ss.length) ∧ t'' ≤ t' + 1 + j ∧ Src H5 a c t'' ∧ Oth a c H4 H5) ⟨[], _, upd_same, rfl, (fun k hk => nomatch hk), by omega, S4.new nD, (Oth.refl a c H4).new nD⟩ ?_ ?_
        · rintro j H5 hj ⟨ks, t'', hD, lk, kb, tb', S5, O5⟩
          have SS5 := SS4.oth S4 la lc O5
          refine ⟨rfl, ?_⟩
          walk_at "rd"
          refine ⟨l, _, rfl, .inl (SqL.of SS5.hl), ?_⟩
          refine ⟨a, c, t'', (xs.length : Int), rfl, S5, by omega, by omega, lg_small (by omega) (by omega), fun k H6 k0 k1 S6 O6 => ?_⟩
          have hD6 := O6 _ _ hD Da Dc
          refine ⟨_, hD6, (by rw [List.length_map, lk]; exact Nat.lt_of_lt_of_le (by omega : j < 100) (by decide)), ks ++ [k.toNat], t'' + 1, ?_, by rw [List.length_append, lk]; rfl, fun k' hk' => ?_, by omega, S6.chg Da Dc, fun b u hb ba bc => (upd_ne (ne_of_none hb nD)).trans (O6 _ _ (O5 _ _ hb ba bc) ba bc)⟩
          · rw [List.map_append, show ([k.toNat].map nV) = [V.int k] by show [V.int ((k.toNat : Nat) : Int)] = _; rw [Int.toNat_of_nonneg k0]]
            exact upd_same
          · rcases List.mem_append.mp hk' with e | e
            · exact kb _ e
            · rw [List.mem_singleton.mp e]
              omega
        rintro H5 ⟨ks, t'', hD, lk, kb, tb', S5, O5⟩
        exact ⟨Dd, ks, t'', rfl, hD, by omega, kb, by omega, S5, O4.trans O5, Da, Dc⟩
      rintro st H4 ⟨nl, ks, t2, rfl, hn, kl6, kb, tb2, S4, O4, nla, nlc⟩
      have SS4 := SSz.oth Sz la lc O4
      have hf4 := O4 _ _ hf fa fc
      have hm4 := O4 _ _ hm ma mc
      obtain ⟨v2, ev⟩ : ∃ v2, v2 = (walkW ss ks v).2 := ⟨_, rfl⟩
      have vb2 := walk_bd SS4.side ks [] v kb
      rw [show (ks.foldl (stepW ss) ([], v)).2 = v2 from ev.symm] at vb2
      refine ⟨fun st Hy => st = [some (.ref a), some (.ref l), some (.int v2), some (.ref fl), some (.ref ml), some (.int (0 + (k : Int))), x6, some (.ref nl)] ∧ Same H4 Hy, ?_, ?_⟩
      · walk_at "rd"
        refine ⟨l, xs, ss, nl, ks, v, rfl, SS4, hn, by omega, kb, by omega, fun d H5 nd5 s5 hd => ?_⟩
        walk_at "rd"
        refine ⟨(by show 1 ≤ sizeLine; decide), fun e1 ne1 => ?_⟩
        have ge1 : upd H5 e1 (.lst [V.int v]) e1 = some (.lst [V.int v]) := upd_same
        have se1 : Same H5 (upd H5 e1 (.lst [V.int v])) := same_upd ne1
        generalize upd H5 e1 (.lst [V.int v]) = H6 at ge1 se1 ⊢
        have wl : (walkW ss ks v).1.length = ks.length := by
          unfold walkW
          rw [walk_len (v := v)]
          exact Nat.zero_add _
        refine ⟨d, e1, _, _, rfl, rfl, se1 _ _ hd, ge1, ?_, fun p np => ?_⟩
        · rw [List.length_map, wl]
          exact Nat.le_trans (by show ks.length + 1 ≤ 100; omega) (by decide)
        have gp : upd H6 p (.lst ((walkW ss ks v).1.map V.int ++ [V.int v])) p = some (.lst ((walkW ss ks v).1.map V.int ++ [V.int v])) := upd_same
        have sp : Same H6 (upd H6 p (.lst ((walkW ss ks v).1.map V.int ++ [V.int v]))) := same_upd np
        generalize upd H6 p (.lst ((walkW ss ks v).1.map V.int ++ [V.int v])) = H7 at gp sp ⊢
        walk_at "rd"
        have sA := s5.trans (se1.trans sp)
        refine ⟨nl, _, rfl, .inl (SqL.of (sA _ _ hn)), ?_⟩
        rw [List.length_map]
        walk_at "rd"
        have hix : atI ((walkW ss ks v).1.map V.int ++ [V.int v]) ((ks.length : Int) - 1) = some (.int v2) := by
          by_cases z : ks = []
          · subst z
            rw [ev]
            exact at_lastR _ _
          · obtain ⟨T, e2, e3⟩ := walk_last ks [] v kb z
            have e2' : (walkW ss ks v).1 = T ++ [v2] := by rw [ev]; exact e2
            rw [e2']
            have kp := List.length_pos_iff.mpr z
            have e4 : T.length + 1 = ks.length := by
              rw [List.length_nil] at e3
              omega
            rw [show (ks.length : Int) - 1 = ((T.length : Nat) : Int) by omega]
            refine at_nat ?_
            rw [List.map_append, List.append_assoc, List.getElem?_append_right (by rw [List.length_map]; exact Nat.le_refl _), List.length_map, Nat.sub_self]
            rfl
        refine ⟨p, _, _, _, rfl, rfl, SqL.of gp, hix, ?_⟩
        exact ⟨rfl, sA⟩
      rintro st H5 ⟨rfl, s5⟩
      replace SS4 := SS4.same s5
      replace hf4 := s5 _ _ hf4
      replace hm4 := s5 _ _ hm4
      replace hn := s5 _ _ hn
      have S5 := S4.of_same s5
      have O5 : Oth a c H H5 := fun b u hb ba bc => s5 _ _ (O4 _ _ (Oz _ _ hb ba bc) ba bc)
      clear S4 O4 s5
      refine ⟨fun st Hy => ∃ (v3 : Int) (t3 : Nat), st = [some (.ref a), some (.ref l), some (.int v3), some (.ref fl), some (.ref ml), some (.int (0 + (k : Int))), x6, some (.ref nl)] ∧ (v2 - 4 * 10 ^ 30 ≤ v3 ∧ v3 ≤ v2 + 4 * 10 ^ 30) ∧ t3 ≤ t2 + 2 ∧ Src Hy a c t3 ∧ Oth a c H5 Hy, ?_, ?_⟩
      · walk_at "rd"
        refine ⟨a, c, _, 6, rfl, S5, by omega, by decide, lg_small (by decide) (by decide), fun m H6 m0 m1 S6 O6 => ?_⟩
        walk_at "rd"
        refine ⟨rfl, ?_⟩
        refine ⟨_, rfl, ?_⟩
        refine ite2 (fun _ => ?_) (fun _ => ⟨v2, _, rfl, by omega, by omega, S6, O6⟩)
        have SS6 := SS4.oth S5 la lc O6
        obtain ⟨p0, hp0, gp0, sp0⟩ := SS6.at_ 0 ss[0] (List.getElem?_eq_getElem (by omega))
        have s0 := sp0.s0
        have s1 := sp0.s1
        walk_at "rd"
        refine ⟨fun st Hy => ∃ (v3 : Int) (t3 : Nat), st = [some (.ref a), some (.ref l), some (.int v3), some (.ref fl), some (.ref ml), some (.int (0 + (k : Int))), x6, some (.ref nl)] ∧ (v2 - 4 * 10 ^ 30 ≤ v3 ∧ v3 ≤ v2 + 4 * 10 ^ 30) ∧ t3 ≤ t2 + 2 ∧ Src Hy a c t3 ∧ Oth a c H5 Hy, ?_, fun _ _ z => z⟩
        walk_at "rd"
        refine ⟨l, _, _, _, rfl, rfl, SqL.of SS6.hl, at_nat (k := 0) hp0, ?_⟩
        walk_at "rd"
        refine ⟨p0, _, 1, _, rfl, rfl, SqT.of gp0, rfl, ?_⟩
        walk_at "rd"
        refine ⟨l, _, _, _, rfl, rfl, SqL.of SS6.hl, at_nat (k := 0) hp0, ?_⟩
        walk_at "rd"
        refine ⟨p0, _, 1, _, rfl, rfl, SqT.of gp0, rfl, ?_⟩
        walk_at "rd"
        refine ⟨.inl ⟨by decide, by decide⟩, ?_⟩
        walk_at "rd"
        refine ⟨(by show 4 ≤ sizeLine; decide), fun p np => ?_⟩
        obtain ⟨pa, pc⟩ := S6.na np
        refine ⟨a, c, _, p, _, rfl, S6.new np, by omega, upd_same, pa, pc, (by show 0 < 4; decide), (by show 4 < 2 ^ 60; decide), fun x H7 hx S7 O7 => ?_⟩
        obtain ⟨u, rfl, ub⟩ : ∃ u : Int, x = .int u ∧ (-4 * 10 ^ 30 ≤ u ∧ u ≤ 4 * 10 ^ 30) := by
          simp only [List.mem_cons, List.not_mem_nil, or_false] at hx
          rcases hx with rfl | rfl | rfl | rfl <;> exact ⟨_, rfl, by omega⟩
        walk_at "rd"
        exact ⟨v2 + u, _, rfl, by omega, by omega, S7, O6.trans (((Oth.refl a c H6).new np).trans O7)⟩
      rintro st H6 ⟨v3, t3, rfl, vb3, tb3, S6, O6⟩
      replace hf4 := O6 _ _ hf4 fa fc
      replace hm4 := O6 _ _ hm4 ma mc
      replace hn := O6 _ _ hn nla nlc
      have O7 := O5.trans O6
      clear O5 O6 S5 SS4
      walk_at "rd"
      refine ⟨.inl ⟨rfl, _, SqL.of hf4⟩, ?_⟩
      walk_at "rd"
      refine ⟨fl, _, _, rfl, rfl, hf4, (by rw [List.length_map, ln]; exact Nat.lt_of_lt_of_le (by omega : k < 100) (by decide)), ?_⟩
      have gf : upd H6 fl (.lst (ns.map V.int ++ [.int v3])) fl = some (.lst ((ns ++ [v3]).map V.int)) := by rw [upd_same, List.map_append]; rfl
      have gm : upd H6 fl (.lst (ns.map V.int ++ [.int v3])) ml = some (.lst ms) := (upd_ne fm.symm).trans hm4
      have S8 : Src (upd H6 fl (.lst (ns.map V.int ++ [.int v3]))) a c t3 := S6.chg fa fc
      have O8 : Oth a c H (upd H6 fl (.lst (ns.map V.int ++ [.int v3]))) := put O7 hfl
      have nfn : nl ≠ fl ∨ nl = fl := by by_cases e : nl = fl <;> simp [e]
      have hn8 : ∃ zs : List V, upd H6 fl (.lst (ns.map V.int ++ [.int v3])) nl = some (.lst zs) ∧ zs.length ≤ 100 := by
        rcases nfn with e | e
        · exact ⟨_, (upd_ne e).trans hn, by rw [List.length_map]; omega⟩
        · rw [e]; exact ⟨_, upd_same, by rw [List.length_append, List.length_map, ln]; show k + 1 ≤ 100; omega⟩
      obtain ⟨zs, hz8, _⟩ := hn8
      generalize upd H6 fl (.lst (ns.map V.int ++ [.int v3])) = H8 at gf gm S8 O8 hz8 ⊢
      walk_at "rd"
      refine ⟨.inl ⟨rfl, _, SqL.of gm⟩, ?_⟩
      walk_at "rd"
      refine ⟨nl, _, rfl, .inl (SqL.of hz8), ?_⟩
      walk_at "rd"
      refine ⟨ml, _, _, rfl, rfl, gm, (by rw [lm]; exact Nat.lt_of_lt_of_le (by omega : k < 100) (by decide)), ?_⟩
      refine ⟨v3, _, _, _, t3, ns ++ [v3], _, rfl, by omega, (upd_ne fm).trans gf, by rw [List.length_append, ln]; rfl, fun u hu => ?_, upd_same, by rw [List.length_append, lm]; rfl, by omega, S8.chg ma mc, put O8 hml⟩
      rcases List.mem_append.mp hu with e | e
      · exact nb u e
      · rw [List.mem_singleton.mp e]; omega
    rintro st Hz ⟨v, x5, x6, x7, t', ns, ms, rfl, vb, hf, ln, nb, hm, lm, tb, Sz, Oz⟩
    walk_at "rd"
    refine ⟨(by show 2 ≤ sizeLine; decide), fun p np => ?_⟩
    exact q p fl ml ns _ t' upd_same ((same_upd np) _ _ hf) fa fc (by omega) nb (by omega) (Sz.new np) (Oz.new np)
end
end HT
namespace HT
open PySem L2
def sdD (d : Sd) : PyData := .tuple [.int d.o, .int d.s, .str d.m]
theorem strOk_mode {m : Str} (h : Mode m) : PyData.canLay0 (.str m) = true := by
  rcases h with e | e | e | e | e <;> subst e <;> decide +kernel
theorem can_sides : ∀ {ss : List Sd}, (∀ d ∈ ss, Mode d.m) → PyData.canLayAll0 (ss.map sdD) = true ∧ PyData.depthAll (ss.map sdD) ≤ 1
  | [], _ => ⟨rfl, Nat.zero_le _⟩
  | d :: r, h => by
    have ⟨a, b⟩ := can_sides (ss := r) fun e he => h e (List.mem_cons_of_mem _ he)
    have c := strOk_mode (h d List.mem_cons_self)
    constructor
    · show ((true && (true && (PyData.canLay0 (.str d.m) && true))) && PyData.canLayAll0 (r.map sdD)) = true
      rw [c, a]
      rfl
    · show max 1 (PyData.depthAll (r.map sdD)) ≤ 1
      omega
theorem dpSides {K : PySem.W.Frag} {H : Hp} : ∀ {xs : List V} {ss : List Sd}, xs.length = ss.length → (∀ (i : Nat) (d : Sd), ss[i]? = some d → ∃ p : Addr, xs[i]? = some (V.ref p) ∧ H p = some (sideV d.o d.s d.m)) → DpAll K H xs (ss.map sdD)
  | [], [], _, _ => .nil
  | [], _ :: _, S, _ => nomatch S
  | _ :: _, [], S, _ => nomatch S
  | x :: xs, d :: ss, S, h => by
    obtain ⟨p, e, hp⟩ := h 0 d rfl
    cases e
    exact .cons (.tup (SqT.of hp) (.cons (.int _) (.cons (.int _) (.cons (.str _) .nil)))) (dpSides (Nat.succ.inj S) fun i e z => h (i + 1) e z)
theorem SidesAt.dp {K : PySem.W.Frag} {H : Hp} {l k : Addr} {xs : List V} {ss : List Sd} (S : SidesAt H l xs ss) (hk : H k = some (.lst xs)) : Dp K H (.ref k) (.list (ss.map sdD)) := .lst (SqL.of hk) (dpSides S.len fun i d h => let ⟨p, a, b, _⟩ := S.at_ i d h; ⟨p, a, b⟩)
theorem shaped_sides {ss : List Sd} (h : ∀ d ∈ ss, Mode d.m) : SeqAt.shaped (.list (ss.map sdD)) = true := by
  have ⟨a, b⟩ := can_sides h
  unfold SeqAt.shaped
  show (PyData.canLayAll0 (ss.map sdD) && decide (PyData.depthAll (ss.map sdD) + 1 ≤ 64)) = true
  rw [a, decide_eq_true (by omega)]
  rfl
theorem eqv_self {d : PyData} (h : SeqAt.shaped d = true) : (!PyData.eqv d d) = false := by rw [SeqAt.eqv_refl _ (SeqAt.canLay_of_shaped h)]; rfl
end HT
namespace HT
open PySem L2
/-- data that can be laid, so deep -/
def Lay (d : PyData) (n : Nat) : Prop := PyData.canLay0 d = true ∧ PyData.depth d ≤ n
theorem Lay.sh {d : PyData} {n : Nat} (h : Lay d n) (h64 : n ≤ 64 := by decide) : SeqAt.shaped d = true := by
  unfold SeqAt.shaped
  rw [h.1, decide_eq_true (Nat.le_trans h.2 h64)]
  rfl
theorem lay_all {n : Nat} : ∀ {ds : List PyData}, (∀ d ∈ ds, Lay d n) → PyData.canLayAll0 ds = true ∧ PyData.depthAll ds ≤ n
  | [], _ => ⟨rfl, Nat.zero_le _⟩
  | d :: ds, h => by
    obtain ⟨a, b⟩ := h d List.mem_cons_self
    obtain ⟨c, e⟩ := lay_all (ds := ds) fun x hx => h x (List.mem_cons_of_mem _ hx)
    refine ⟨?_, ?_⟩
    · show (PyData.canLay0 d && PyData.canLayAll0 ds) = true
      rw [a, c]
      rfl
    · show max (PyData.depth d) (PyData.depthAll ds) ≤ n
      omega
theorem lay_list {n : Nat} {ds : List PyData} (h : ∀ d ∈ ds, Lay d n) : Lay (.list ds) (n + 1) := ⟨(lay_all h).1, by show PyData.depthAll ds + 1 ≤ n + 1; have := (lay_all h).2; omega⟩
theorem lay_tup {n : Nat} {ds : List PyData} (h : ∀ d ∈ ds, Lay d n) : Lay (.tuple ds) (n + 1) := ⟨(lay_all h).1, by show PyData.depthAll ds + 1 ≤ n + 1; have := (lay_all h).2; omega⟩
theorem lay_int (i : Int) (n : Nat) : Lay (.int i) n := ⟨rfl, Nat.zero_le _⟩
theorem lay_non (n : Nat) : Lay .none n := ⟨rfl, Nat.zero_le _⟩
theorem lay_bool (b : Bool) (n : Nat) : Lay (.bool b) n := ⟨rfl, Nat.zero_le _⟩
theorem lay_many (n : Nat) : Lay (.str "many") n := ⟨by decide +kernel, Nat.zero_le _⟩
theorem Lay.up {d : PyData} {n m : Nat} (h : Lay d n) (l : n ≤ m) : Lay d m := ⟨h.1, Nat.le_trans h.2 l⟩
theorem lay_side {d : Sd} (h : Mode d.m) : Lay (sdD d) 1 := lay_tup fun x hx => by
  simp only [List.mem_cons, List.not_mem_nil, or_false] at hx
  rcases hx with rfl | rfl | rfl
  · exact lay_int _ _
  · exact lay_int _ _
  · exact ⟨strOk_mode h, Nat.zero_le _⟩
theorem lay_sides {ss : List Sd} (h : ∀ d ∈ ss, Mode d.m) : Lay (.list (ss.map sdD)) 2 := lay_list fun x hx => by
  obtain ⟨d, hd, rfl⟩ := List.mem_map.mp hx
  exact lay_side (h d hd)
theorem lay_ints (A : List Int) : Lay (.list (A.map PyData.int)) 1 := lay_list fun x hx => by
  obtain ⟨d, _, rfl⟩ := List.mem_map.mp hx
  exact lay_int _ _
/-- an atom's data -/
def atomD : V → PyData
  | .int i => .int i
  | .str z => .str z
  | _ => .none
theorem eqv_sh {d : PyData} (h : SeqAt.shaped d = true) : PyData.eqv d d = true := SeqAt.eqv_refl d (SeqAt.canLay_of_shaped h)
theorem dp_cnt {K : PySem.W.Frag} {H : Hp} (o : Option (Option Nat)) : Dp K H (cntM o) (atomD (cntM o)) := by
  match o with
  | none => exact .str _
  | some none => exact .non
  | some (some i) => exact .int _
theorem lay_cnt (o : Option (Option Nat)) (n : Nat) : Lay (atomD (cntM o)) n := by
  match o with
  | none => exact lay_many _
  | some none => exact lay_non _
  | some (some i) => exact lay_int _ _
theorem fV_kind (ss : List Sd) (ns : List Int) : ∀ k, fV ss ns k = .non ∨ fV ss ns k = .str "many" ∨ ∃ i : Int, fV ss ns k = .int i
  | 0 => .inl rfl
  | k + 1 => by
    show (if fV ss ns k = .non then _ else fV ss ns k) = _ ∨ (if fV ss ns k = .non then _ else fV ss ns k) = _ ∨ ∃ i : Int, (if fV ss ns k = .non then _ else fV ss ns k) = _
    by_cases h : fV ss ns k = .non
    · rw [if_pos h]
      match comeO (ns.getD (k + 1) 0) (ns.getD k 0) ss with
      | none => exact .inr (.inl rfl)
      | some true => exact .inl rfl
      | some false => exact .inr (.inr ⟨_, rfl⟩)
    · rw [if_neg h]
      exact fV_kind ss ns k
theorem dp_fV {K : PySem.W.Frag} {H : Hp} (ss : List Sd) (ns : List Int) (k : Nat) : Dp K H (fV ss ns k) (atomD (fV ss ns k)) := by
  rcases fV_kind ss ns k with h | h | ⟨i, h⟩ <;> rw [h]
  · exact .non
  · exact .str _
  · exact .int _
theorem lay_fV (ss : List Sd) (ns : List Int) (k n : Nat) : Lay (atomD (fV ss ns k)) n := by
  rcases fV_kind ss ns k with h | h | ⟨i, h⟩ <;> rw [h]
  · exact lay_non _
  · exact lay_many _
  · exact lay_int _ _
open Classical in
/-- the data of what is told of the counts -/
noncomputable def cntD (ss : List Sd) (ns : List Int) (m : Nat) : PyData := if ∃ k, k < m ∧ cO ss ns k = none then .str "many" else .list ((cL ss ns m).map atomD)
theorem dp_cL {K : PySem.W.Frag} {H : Hp} {p : Addr} {ss : List Sd} {ns : List Int} {m : Nat} (h : H p = some (.lst (cL ss ns m))) : Dp K H (.ref p) (.list ((cL ss ns m).map atomD)) := by
  have key : ∀ ks : List Nat, DpAll K H (ks.map fun k => cntM (cO ss ns k)) ((ks.map fun k => cntM (cO ss ns k)).map atomD) := fun ks => by
    induction ks with
    | nil => exact .nil
    | cons a r ih => exact .cons (dp_cnt _) ih
  exact .lst (SqL.of h) (key _)
theorem lay_cL (ss : List Sd) (ns : List Int) (m : Nat) : Lay (.list ((cL ss ns m).map atomD)) 1 := lay_list fun x hx => by
  obtain ⟨y, hy, rfl⟩ := List.mem_map.mp hx
  unfold cL at hy
  obtain ⟨k, _, rfl⟩ := List.mem_map.mp hy
  exact lay_cnt _ _
theorem CntA.dp {K : PySem.W.Frag} {H : Hp} {cv : V} {ss : List Sd} {ns : List Int} {m : Nat} (h : CntA H cv ss ns m) : Dp K H cv (cntD ss ns m) := by
  unfold cntD
  rcases h with ⟨rfl, e⟩ | ⟨p, rfl, hp, no⟩
  · rw [if_pos e]
    exact .str _
  · rw [if_neg fun ⟨k, a, b⟩ => no k a b]
    exact dp_cL hp
theorem lay_cntD (ss : List Sd) (ns : List Int) (m : Nat) : Lay (cntD ss ns m) 1 := by
  unfold cntD
  split
  · exact lay_many _
  · exact lay_cL _ _ _
theorem dp_two {K : PySem.W.Frag} {H : Hp} {p : Addr} {x y : V} {a b : PyData} (h : H p = some (.lst [x, y])) (hx : Dp K H x a) (hy : Dp K H y b) : Dp K H (.ref p) (.list [a, b]) := .lst (SqL.of h) (.cons hx (.cons hy .nil))
theorem lay_two {a b : PyData} {n : Nat} (ha : Lay a n) (hb : Lay b n) : Lay (.list [a, b]) (n + 1) := lay_list fun x hx => by
  simp only [List.mem_cons, List.not_mem_nil, or_false] at hx
  rcases hx with rfl | rfl
  · exact ha
  · exact hb
end HT
namespace HT
open PySem L2
theorem come_at {v s : Int} {ss : List Sd} {b : Bool} (j : Nat) (hj : j ≤ 1000) (e : cR v (comN ss) ss (j + 1) = cR v (comN ss) ss j) (hb : (if s = v then true else holdsC v (comN ss) (cR v (comN ss) ss j) s) = b) : comeO v s ss = some b := by
  unfold comeO
  rw [← hb]
  by_cases z : s = v
  · rw [if_pos z, if_pos z]
  · rw [if_neg z, if_neg z, befO_some hj e]
    rfl
theorem fV_step {ss : List Sd} {ns : List Int} {k : Nat} {b : Bool} (h : fV ss ns k = .non) (c : comeO (ns.getD (k + 1) 0) (ns.getD k 0) ss = some b) : fV ss ns (k + 1) = if b = true then .non else .int ((k : Int) + 1) := by
  show (if fV ss ns k = .non then _ else _) = _
  rw [if_pos h, c]
  cases b <;> rfl
theorem fV_next {ss : List Sd} {ns : List Int} {k : Nat} {i : Int} (h : fV ss ns k = .int i) : fV ss ns (k + 1) = .int i := by
  show (if fV ss ns k = .non then _ else _) = _
  rw [h, if_neg (fun z => V.noConfusion z)]
theorem cnt_one {v s : Int} {ss : List Sd} (ne : s ≠ v) (h : (aR v ss 1).1 ≤ s ∧ s ≤ (aR v ss 1).2) : cntO v s ss = some (some 1) := cnt_some (by decide) (in_aR.mpr h) fun j hj => by
  obtain rfl : j = 0 := by omega
  exact fun z => ne (in_zero z)
abbrev ss3 : List Sd := [⟨0, 3, "half_up"⟩, ⟨1, 3, "half_up"⟩, ⟨2, 3, "half_up"⟩]
abbrev ssL : List Sd := [⟨0, 7, "down"⟩]
abbrev ssH : List Sd := [⟨0, 7, "up"⟩]
abbrev ss5 : List Sd := [⟨0, 5, "up"⟩]
abbrev ssT : List Sd := [⟨0, 10, "up"⟩, ⟨3, 10, "down"⟩]
theorem three_fault : fV ss3 [0, 3000] 1 = .non := fV_step (b := true) rfl (come_at 4 (by decide) (by decide +kernel) (by decide +kernel))
theorem low_a : fV ssL [-1, 0] 1 = .int 1 := fV_step (b := false) rfl (come_at 4 (by decide) (by decide +kernel) (by decide +kernel))
theorem low_b : fV ssL [6, 0, 1] 2 = .int 2 := fV_step (b := false) (fV_step (b := true) rfl (come_at 4 (by decide) (by decide +kernel) (by decide +kernel))) (come_at 4 (by decide) (by decide +kernel) (by decide +kernel))
theorem high_a : fV ssH [1, 0] 1 = .int 1 := fV_step (b := false) rfl (come_at 4 (by decide) (by decide +kernel) (by decide +kernel))
theorem high_b : fV ssH [-6, 0, -1] 2 = .int 2 := fV_step (b := false) (fV_step (b := true) rfl (come_at 4 (by decide) (by decide +kernel) (by decide +kernel))) (come_at 4 (by decide) (by decide +kernel) (by decide +kernel))
theorem five_a : fV ss5 [10 ^ 195 - 4, 10 ^ 195, 10 ^ 195 + 1] 2 = .int 2 := fV_step (b := false) (fV_step (b := true) rfl (come_at 4 (by decide) (by decide +kernel) (by decide +kernel))) (come_at 4 (by decide) (by decide +kernel) (by decide +kernel))
theorem ten_a : fV ssT [7, 10, 3, 10, 13, 20] 5 = .int 4 := by
  have h0 : fV ssT [7, 10, 3, 10, 13, 20] 1 = .non := fV_step (b := true) rfl (come_at 9 (by decide) (by decide +kernel) (by decide +kernel))
  have h1 : fV ssT [7, 10, 3, 10, 13, 20] 2 = .non := fV_step (b := true) h0 (come_at 9 (by decide) (by decide +kernel) (by decide +kernel))
  have h2 : fV ssT [7, 10, 3, 10, 13, 20] 3 = .non := fV_step (b := true) h1 (come_at 9 (by decide) (by decide +kernel) (by decide +kernel))
  have h3 : fV ssT [7, 10, 3, 10, 13, 20] 4 = .int 4 := fV_step (b := false) h2 (come_at 9 (by decide) (by decide +kernel) (by decide +kernel))
  exact fV_next h3
theorem five_c : cL ss5 [10 ^ 195 - 4, 10 ^ 195] 1 = [V.int 1] := by
  show [cntM (cntO (10 ^ 195) (10 ^ 195 - 4) ss5)] = _
  rw [cnt_one (by decide +kernel) (by decide +kernel)]
  rfl
theorem five_n : ∀ k, k < 1 → cO ss5 [10 ^ 195 - 4, 10 ^ 195] k ≠ none := fun k hk => by
  obtain rfl : k = 0 := by omega
  show cntO (10 ^ 195) (10 ^ 195 - 4) ss5 ≠ none
  rw [cnt_one (by decide +kernel) (by decide +kernel)]
  exact fun z => nomatch z
theorem ten_o : ∀ k, k < 3 → cO ssT [7, 10, 3, 10] k = some (some 1) := fun k hk => by
  rcases (by omega : k = 0 ∨ k = 1 ∨ k = 2) with rfl | rfl | rfl
  · exact cnt_one (v := 10) (s := 7) (by decide) (by decide +kernel)
  · exact cnt_one (v := 3) (s := 10) (by decide) (by decide +kernel)
  · exact cnt_one (v := 10) (s := 3) (by decide) (by decide +kernel)
theorem ten_c : cL ssT [7, 10, 3, 10] 3 = [V.int 1, .int 1, .int 1] := by
  show [cntM (cO ssT [7, 10, 3, 10] 0), cntM (cO ssT [7, 10, 3, 10] 1), cntM (cO ssT [7, 10, 3, 10] 2)] = _
  rw [ten_o 0 (by decide), ten_o 1 (by decide), ten_o 2 (by decide)]
  rfl
/-- sides that move little lead not far -/
theorem in_slow {ss : List Sd} (hss : ∀ d ∈ ss, SideP d.o d.s d.m) (hw : ∀ d ∈ ss, ∀ x, -1 ≤ wD d x - x ∧ wD d x - x ≤ 1) {v : Int} : ∀ (k : Nat) (s : Int), inA v ss s k → -(k : Int) ≤ v - s ∧ v - s ≤ (k : Int)
  | 0, s, h => by rw [in_zero h]; omega
  | k + 1, s, h => by
    by_cases z : inA v ss s k
    · have := in_slow hss hw k s z
      omega
    · obtain ⟨d, hd, q⟩ := in_mov hss h z
      have a := in_slow hss hw k _ q
      have b := hw d hd s
      omega
theorem side3 : ∀ d ∈ ss3, SideP d.o d.s d.m := fun d hd => by
  simp only [List.mem_cons, List.not_mem_nil, or_false] at hd
  rcases hd with rfl | rfl | rfl <;> exact ⟨by decide, by decide, by decide, by decide, .inr (.inr (.inr (.inl rfl)))⟩
theorem slow3 : ∀ d ∈ ss3, ∀ x, -1 ≤ wD d x - x ∧ wD d x - x ≤ 1 := fun d hd x => by
  have key : ∀ o : Int, -1 ≤ dueM o 3 "half_up" x - x ∧ dueM o 3 "half_up" x - x ≤ 1 := fun o => by
    have e := Int.emod_add_mul_ediv (x - o) 3
    have r0 := Int.emod_nonneg (x - o) (show (3 : Int) ≠ 0 by decide)
    have r1 := Int.emod_lt_of_pos (x - o) (show (0 : Int) < 3 by decide)
    have h : dueM o 3 "half_up" x = o + 3 * (if 3 < 2 * ((x - o) % 3) then (x - o) / 3 + 1 else (x - o) / 3) := by
      unfold dueM figM goesUp
      rw [if_neg hu_d, if_neg hu_u, if_neg (show ¬ 2 * ((x - o) % 3) = 3 by omega)]
      by_cases z : 3 < 2 * ((x - o) % 3)
      · rw [if_pos (decide_eq_true z), if_pos z]
      · rw [if_neg (fun y => z (of_decide_eq_true y)), if_neg z]
    rw [h]
    split <;> omega
  simp only [List.mem_cons, List.not_mem_nil, or_false] at hd
  rcases hd with rfl | rfl | rfl <;> exact key _
theorem three_hops : cO ss3 [0, 3000] 0 = none := by
  show cntO 3000 0 ss3 = none
  have no : ∀ i, i ≤ 1000 → ¬ inA 3000 ss3 0 i := fun i hi z => by
    have := in_slow side3 slow3 i 0 z
    omega
  rw [cnt_else no, befO_some (v := 3000) (ss := ss3) (j := 4) (by decide) (by decide +kernel)]
  show (if holdsC 3000 (comN ss3) (cR 3000 (comN ss3) ss3 4) 0 = true then none else some none) = none
  rw [if_pos (by decide +kernel)]
end HT
namespace HT
open PySem L2
def spLaw (K : PySem.W.Frag) : Sp := fun vs H Q _ => ∃ (l : Addr) (ns : List Int), vs = [.ref l] ∧ SqL K H l (ns.map V.int) ∧ ns.length ≤ 63 ∧ ∀ H', Q (.bl true) H'
theorem LogA.good {K : PySem.W.Frag} {C : Nat → Addr} {H : Hp} {l : Addr} {xs : List V} {ss : List Sd} {q : Addr} {ns : List Int} (L : LogA H l xs ss q ns) {E : XK} {G : Addr → List V → List Sd → Addr → List Int → Prop} (g : G l xs ss q ns) : LogP K C [.ref l, .ref q] H E G := ⟨_, _, rfl, .inr (.inr ⟨l, xs, ss, q, ns, rfl, L.S, rfl, L.hq, L.n50, L.nb, g⟩)⟩
theorem sidesAt1 {H : Hp} {l p : Addr} {d : Sd} (hl : H l = some (.lst [V.ref p])) (hp : H p = some (sideV d.o d.s d.m)) (S : SideP d.o d.s d.m) : SidesAt H l [V.ref p] [d] :=
  ⟨hl, rfl, (by show 1 ≤ 1; decide), (by show 1 ≤ 4; decide), fun i e h => by
    match i, h with
    | 0, h => cases h; exact ⟨p, rfl, hp, S⟩⟩
section
variable {P : Program} {w : World} {K : PySem.W.Frag} {mg : Str → Option Value} {base : Heap} {f0 f1 f2 f3 f4 f5 f6 f7 f8 : Addr} {d0 d1 d2 d3 d4 d5 d6 d7 d8 : FuncData} {C : Nat → Addr}
theorem ok_law {f : Addr} {fd : FuncData} (F : Fun K "law" "law" s_law f fd) (B : Blt mg) (hli : mg "list" = none) (So : Cal P w K mg base "_law_source" 1 ["_law_script"] (spSource K) f0 d0) (Si : Cal P w K mg base "_law_sides" 5 ["_law_source_here", "_law_turn"] spSides16 f1 d1) (Se : Cal P w K mg base "_law_seen" 7 ["_law_source_here", "_law_sides_here"] spSeenL f2 d2)
    (Du : Cal P w K mg base "_law_due" 6 ["_law_sides_here", "_law_seen_here"] spDue16 f3 d3) (To : Cal P w K mg base "_law_told" 9 ["_law_kind", "_law_sides_here", "_law_seen_here"] spTold16 f4 d4) (Wo : Cal P w K mg base "_law_word" 9 ["_law_door", "_law_sides_here", "_law_seen_here"] (spWord16 K) f5 d5) (Do : Cal P w K mg base "_law_doors_right" 10 ["_law_sides_here"] spDoors16 f6 d6)
    (Fa : Cal P w K mg base "fault" 8 ["sides", "seen"] (fun vs H Q _ => spFault K C vs H Q fun _ _ _ => False) f7 d7) (Hp' : Cal P w K mg base "hops" 7 ["sides", "seen"] (fun vs H Q _ => spHops K C vs H Q fun _ _ _ => False) f8 d8) : FnOk P w K mg base CX0 11 f fd ["_law_script"] (spLaw K) := by
  refine F.ok sc_law (fun vs H Q E h => ?_) (fun cdv A outer s0 H vs Q E hr h => ?_)
  · obtain ⟨l, ns, rfl, _⟩ := h
    rfl
  · obtain ⟨l, ns, rfl, hl, nl, q⟩ := h
    have nd := sc_law.nd
    refine ⟨_, (pss_cons (ps_mid (ps_set (i := 1) nd rfl (Or.inl rfl) (pcl So hr (by decide) (by rfl) (pa_cons (pv 0) pa_nil))))
      (pss_cons (ps_mid (ps_for PassesOwn.never rfl (pi_range1 (by rfl) B.range (pa_cons pe_int pa_nil)) (pg_name (i := 2) nd rfl (Or.inl rfl)) (pss_cons (ps_mid (ps_set (i := 3) nd rfl (Or.inl rfl) (pcl Si hr (by decide) (by rfl) (pa_cons (pv 1) (pa_cons (pv 2) pa_nil)))))
      (pss_cons (ps_mid (ps_asg (pcl Se hr (by decide) (by rfl) (pa_cons (pv 1) (pa_cons (pv 3) pa_nil))) (pg_tup (by rfl) (pgs_cons (pg_name (i := 4) nd rfl (Or.inl rfl)) (pgs_cons (pg_name (i := 5) nd rfl (Or.inl rfl)) pgs_nil)))))
      (pss_cons (ps_mid (ps_set (i := 6) nd rfl (Or.inl rfl) (pe_lst (pa_cons (pe_callTy call_list_of (by rfl) hli (by decide +kernel) (pa_cons (pv 3) pa_nil)) (pa_cons (pe_callTy call_list_of (by rfl) hli (by decide +kernel) (pa_cons (pv 4) pa_nil)) pa_nil)))))
      (pss_cons (ps_mid (ps_set (i := 7) nd rfl (Or.inl rfl) (pcl Du hr (by decide) (by rfl) (pa_cons (pv 3) (pa_cons (pv 4) pa_nil)))))
      (pss_cons (ps_mid (ps_set (i := 8) nd rfl (Or.inl rfl) (pe_lst (pa_cons (pcl To hr (by decide) (by rfl) (pa_cons pe_str (pa_cons (pv 3) (pa_cons (pv 4) pa_nil)))) (pa_cons (pcl To hr (by decide) (by rfl) (pa_cons pe_str (pa_cons (pv 3) (pa_cons (pv 4) pa_nil)))) pa_nil)))))
      (pss_cons (ps_mid (ps_if (PW.pt (pw_or (pt_cmpR (op_neD hr.units) (pv 8) (pv 7) (nomark _)) (pw_or1 (pt_cmpR (op_neD hr.units) (pe_lst (pa_cons (pv 3) (pa_cons (pv 4) pa_nil))) (pv 6) (nomark _))))) (pss_one (ps_ret pe_bl)) pss_nil))
      (pss_cons (ps_mid (ps_if (pt_cmpR (op_neD hr.units) (pe_ix ix_list (pv 8) pe_int (fun _ _ => rfl)) pe_str (nomark _)) (pss_cons (ps_expr (pe_bm PySem.F.plainAttrs_list PySem.F.slot_list_append PySem.F.type_list_append mt_append (pe_ix ix_list (pv 8) pe_int (fun _ _ => rfl)) (pa_cons pe_int pa_nil)))
      (pss_one (ps_if (pt_mid (PW.pt (pw_or (pt_cmpR (op_neD hr.units) (pe_lst (pa_cons (pv 3) (pa_cons (pv 4) pa_nil))) (pv 6) (nomark _)) (pw_or1 (pt_cmpR (op_neD hr.units) (pcl Hp' hr (by decide) (by rfl) (pa_cons (pv 3) (pa_cons (pv 4) pa_nil))) (pe_ix ix_list (pv 7) pe_int (fun _ _ => rfl)) (nomark _)))))) (pss_one (ps_ret pe_bl)) pss_nil))) pss_nil))
      (pss_one (ps_mid (ps_if (PW.pt (pw_and (pt_cmpR op_eq (pe_op op_mod (pv 2) pe_int) pe_int (nomark _)) (pw_and1 (pt_not (pt_val (pcl Do hr (by decide) (by rfl) (pa_cons (pv 3) pa_nil))))))) (pss_one (ps_ret pe_bl)) pss_nil))))))))))))
      (pss_cons (ps_mid (ps_set (i := 9) nd rfl (Or.inl rfl) (pe_lst (pa_cons (pe_tup (pa_cons pe_int (pa_cons pe_int (pa_cons pe_str pa_nil)))) (pa_cons (pe_tup (pa_cons pe_int (pa_cons pe_int (pa_cons pe_str pa_nil)))) (pa_cons (pe_tup (pa_cons pe_int (pa_cons pe_int (pa_cons pe_str pa_nil)))) pa_nil))))))
      (pss_cons (ps_mid (ps_if (PW.pt (pw_or (pt_cmpR op_notN (pcl Fa hr (by decide) (by rfl) (pa_cons (pv 9) (pa_cons (pe_lst (pa_cons pe_int (pa_cons pe_int pa_nil))) pa_nil))) pe_non (nomark _)) (pw_or1 (pt_cmpR (op_neD hr.units) (pcl To hr (by decide) (by rfl) (pa_cons pe_str (pa_cons (pv 9) (pa_cons (pe_lst (pa_cons pe_int (pa_cons pe_int pa_nil))) pa_nil)))) pe_str (nomark _))))) (pss_one (ps_ret pe_bl)) pss_nil))
      (pss_cons (ps_mid (ps_asg (pe_tup (pa_cons (pe_lst (pa_cons (pe_tup (pa_cons pe_int (pa_cons pe_int (pa_cons pe_str pa_nil)))) pa_nil)) (pa_cons (pe_lst (pa_cons (pe_tup (pa_cons pe_int (pa_cons pe_int (pa_cons pe_str pa_nil)))) pa_nil)) pa_nil))) (pg_tup (by rfl) (pgs_cons (pg_name (i := 10) nd rfl (Or.inr rfl)) (pgs_cons (pg_name (i := 11) nd rfl (Or.inl rfl)) pgs_nil)))))
      (pss_cons (ps_mid (ps_if (pt_cmpR (op_neD hr.units) (pe_lst (pa_cons (pcl Fa hr (by decide) (by rfl) (pa_cons (pv 10) (pa_cons (pe_lst (pa_cons (pe_un un_neg pe_int) (pa_cons pe_int pa_nil))) pa_nil))) (pa_cons (pcl Fa hr (by decide) (by rfl) (pa_cons (pv 10) (pa_cons (pe_lst (pa_cons pe_int (pa_cons pe_int (pa_cons pe_int pa_nil)))) pa_nil))) (pa_cons (pcl Fa hr (by decide) (by rfl) (pa_cons (pv 11) (pa_cons (pe_lst (pa_cons pe_int (pa_cons pe_int pa_nil))) pa_nil))) (pa_cons (pcl Fa hr (by decide) (by rfl) (pa_cons (pv 11) (pa_cons (pe_lst (pa_cons (pe_un un_neg pe_int) (pa_cons pe_int (pa_cons (pe_un un_neg pe_int) pa_nil)))) pa_nil))) pa_nil))))) (pe_lst (pa_cons pe_int (pa_cons pe_int (pa_cons pe_int (pa_cons pe_int pa_nil))))) (nomark _)) (pss_one (ps_ret pe_bl)) pss_nil))
      (pss_cons (ps_mid (ps_if (pt_cmpR (op_neD hr.units) (pe_lc (own := [("_law_door", 12)]) (g := gName 12) (tt := tYes) rfl nd (pi_range1 (by rfl) B.range (pa_cons pe_int pa_nil)) (blkOk_by (N := ["_law_script", "_law_source_here", "_law_turn", "_law_sides_here", "_law_seen_here", "_law_most", "_law_kept", "_law_due_here", "_law_found", "_law_three", "_law_low", "_law_high", "_law_door", "_law_great_here", "_law_five", "_law_none"]) (sc := defScope s_law) (by decide +kernel)) (fun _ _ _ _ _ => pg_name (i := 12) nd rfl (Or.inl rfl)) (fun _ _ _ _ _ => pts_nil) (fun _ _ _ _ _ => (pcl Wo hr (by decide) (by rfl) (pa_cons (pv 12) (pa_cons (pv 10) (pa_cons (pe_lst (pa_cons pe_int (pa_cons pe_int (pa_cons pe_non pa_nil)))) pa_nil)))))) (pe_op op_rep (pe_lst (pa_cons pe_str pa_nil)) pe_int) (nomark _)) (pss_one (ps_ret pe_bl)) pss_nil))
      (pss_cons (ps_mid (ps_par (i := 13) (j := 14) (by rfl) nd rfl rfl (by decide) rfl rfl (pa_cons (pe_op op_mulW (pe_op op_powW (pe_op op_pow pe_int pe_int) pe_int) (pe_op op_pow pe_int pe_int)) (pa_cons (pe_lst (pa_cons (pe_tup (pa_cons pe_int (pa_cons pe_int (pa_cons pe_str pa_nil)))) pa_nil)) pa_nil)) (by rfl)))
      (pss_cons (ps_mid (ps_if (PW.pt (pw_or (pt_cmpR (op_neD hr.units) (pcl Fa hr (by decide) (by rfl) (pa_cons (pv 14) (pa_cons (pe_lst (pa_cons (pe_op op_sub (pv 13) pe_int) (pa_cons (pv 13) (pa_cons (pe_op op_add (pv 13) pe_int) pa_nil)))) pa_nil))) pe_int (nomark _)) (pw_or1 (pt_cmpR (op_neD hr.units) (pcl Hp' hr (by decide) (by rfl) (pa_cons (pv 14) (pa_cons (pe_lst (pa_cons (pe_op op_sub (pv 13) pe_int) (pa_cons (pv 13) pa_nil))) pa_nil))) (pe_lst (pa_cons pe_int pa_nil)) (nomark _))))) (pss_one (ps_ret pe_bl)) pss_nil))
      (pss_cons (ps_mid (ps_set (i := 15) nd rfl (Or.inl rfl) (pe_lst pa_nil)))
      (pss_cons (ps_expr (pe_bm PySem.F.plainAttrs_list PySem.F.slot_list_append PySem.F.type_list_append mt_append (pcl Hp' hr (by decide) (by rfl) (pa_cons (pv 14) (pa_cons (pv 15) pa_nil))) (pa_cons pe_non pa_nil)))
      (pss_cons (ps_mid (ps_if (pt_cmpR (op_neD hr.units) (pv 15) (pe_lst pa_nil) (nomark _)) (pss_one (ps_ret pe_bl)) pss_nil))
      (pss_cons (ps_mid (ps_set (i := 3) nd rfl (Or.inl rfl) (pe_lst (pa_cons (pe_tup (pa_cons pe_int (pa_cons pe_int (pa_cons pe_str pa_nil)))) (pa_cons (pe_tup (pa_cons pe_int (pa_cons pe_int (pa_cons pe_str pa_nil)))) pa_nil)))))
      (pss_cons (ps_mid (ps_if (PW.pt (pw_or (pt_cmpR op_notN (pcl Fa hr (by decide) (by rfl) (pa_cons (pv 3) (pa_cons (pe_lst pa_nil) pa_nil))) pe_non (nomark _)) (pw_or (pt_cmpR (op_neD hr.units) (pcl Hp' hr (by decide) (by rfl) (pa_cons (pv 3) (pa_cons (pe_lst pa_nil) pa_nil))) (pe_lst pa_nil) (nomark _)) (pw_or (pt_cmpR op_notN (pcl Fa hr (by decide) (by rfl) (pa_cons (pv 3) (pa_cons (pe_lst (pa_cons pe_int pa_nil)) pa_nil))) pe_non (nomark _)) (pw_or1 (pt_cmpR (op_neD hr.units) (pcl Hp' hr (by decide) (by rfl) (pa_cons (pv 3) (pa_cons (pe_lst (pa_cons pe_int pa_nil)) pa_nil))) (pe_lst pa_nil) (nomark _))))))) (pss_one (ps_ret pe_bl)) pss_nil))
      (pss_one (ps_ret (pe_and (pe_cmpR (op_eqD hr.units) (pcl Fa hr (by decide) (by rfl) (pa_cons (pv 3) (pa_cons (pe_lst (pa_cons pe_int (pa_cons pe_int (pa_cons pe_int (pa_cons pe_int (pa_cons pe_int (pa_cons pe_int pa_nil))))))) pa_nil))) pe_int (nomark _)) (pe_one (pe_cmpR (op_eqD hr.units) (pcl Hp' hr (by decide) (by rfl) (pa_cons (pv 3) (pa_cons (pe_lst (pa_cons pe_int (pa_cons pe_int (pa_cons pe_int (pa_cons pe_int pa_nil))))) pa_nil))) (pe_lst (pa_cons pe_int (pa_cons pe_int (pa_cons pe_int pa_nil)))) (nomark _)))))))))))))))))))), ?_⟩
    refine ⟨fun st Hz => ∃ a c : Addr, st = [some (.ref l), some (.ref a), none, none, none, none, none, none, none, none, none, none, none, none, none, none] ∧ Src Hz a c 0, ?_, ?_⟩
    · walk_at "rd"
      refine ⟨l, ns, rfl, hl, nl, fun a c H1 _ _ _ S1 => ?_⟩
      exact ⟨a, c, rfl, S1⟩
    rintro st H1 ⟨a, c, rfl, S1⟩
    refine ⟨fun st Hz => ∃ (x2 x3 x4 x5 x6 x7 x8 : Option V), st = [some (.ref l), some (.ref a), x2, x3, x4, x5, x6, x7, x8, none, none, none, none, none, none, none], ?_, ?_⟩
    · walk_at "rd"
      refine ⟨by decide, by decide, ?_⟩
      refine for_range (n := 30) (fun i st Hz => ∃ (x2 x3 x4 x5 x6 x7 x8 : Option V) (t : Nat), st = [some (.ref l), some (.ref a), x2, x3, x4, x5, x6, x7, x8, none, none, none, none, none, none, none] ∧ Src Hz a c t ∧ t ≤ 1000 * i) ⟨none, none, none, none, none, none, none, 0, rfl, S1, by omega⟩ ?_ (fun st Hz ⟨x2, x3, x4, x5, x6, x7, x8, t, e, S, tb⟩ => ⟨x2, x3, x4, x5, x6, x7, x8, e⟩)
      rintro i st Ha hi ⟨x2, x3, x4, x5, x6, x7, x8, t, rfl, Sa, tb⟩
      walk_at "rd"
      refine ⟨fun st Hz => ∃ (sl : Addr) (xs : List V) (ss : List Sd) (t1 : Nat), st = [some (.ref l), some (.ref a), some (.int (0 + (i : Int))), some (.ref sl), x4, x5, x6, x7, x8, none, none, none, none, none, none, none] ∧ SidesAt Hz sl xs ss ∧ sl ≠ a ∧ sl ≠ c ∧ t1 ≤ t + 300 ∧ Src Hz a c t1, ?_, ?_⟩
      · walk_at "rd"
        refine ⟨a, c, t, _, rfl, Sa, by omega, fun sl xs ss H1 t1 SS na nc tb1 S1 _ => ?_⟩
        exact ⟨sl, xs, ss, t1, rfl, SS, na, nc, tb1, S1⟩
      rintro st H1 ⟨sl, xs, ss, t1, rfl, SS, na, nc, tb1, S1⟩
      clear Sa
      refine ⟨fun st Hz => ∃ (q mo : Addr) (ns : List Int) (t2 : Nat), st = [some (.ref l), some (.ref a), some (.int (0 + (i : Int))), some (.ref sl), some (.ref q), some (.ref mo), x6, x7, x8, none, none, none, none, none, none, none] ∧ LogA Hz sl xs ss q ns ∧ t2 ≤ t1 + 200 ∧ Src Hz a c t2, ?_, ?_⟩
      · walk_at "rd"
        refine ⟨a, c, t1, sl, xs, ss, rfl, S1, by omega, SS, na, nc, fun p q m ns H2 t2 hp hq qa qc n8 nb tb2 S2 O2 => ?_⟩
        refine ⟨p, _, rfl, SqT.of hp, rfl, _, _, rfl, _, _, rfl, rfl, ?_⟩
        exact ⟨q, m, ns, t2, rfl, ⟨SS.oth S1 na nc O2, hq, by omega, fun v hv => by have := nb v hv; omega⟩, tb2, S2⟩
      rintro st H2 ⟨q', mo, ns, t2, rfl, LL, tb2, S2⟩
      clear SS S1
      have md : ∀ d ∈ ss, Mode d.m := fun d hd => (LL.S.side d hd).md
      refine ⟨fun st Hz => ∃ kp k1 k2 : Addr, st = [some (.ref l), some (.ref a), some (.int (0 + (i : Int))), some (.ref sl), some (.ref q'), some (.ref mo), some (.ref kp), x7, x8, none, none, none, none, none, none, none] ∧ Same H2 Hz ∧ Hz kp = some (.lst [.ref k1, .ref k2]) ∧ Hz k1 = some (.lst xs) ∧ Hz k2 = some (.lst (ns.map V.int)), ?_, ?_⟩
      · walk_at "rd"
        refine ⟨sl, xs, rfl, .inl (SqL.of LL.S.hl), fun k1 nk1 => ?_⟩
        have g1 : upd H2 k1 (.lst xs) k1 = some (.lst xs) := upd_same
        have s1 : Same H2 (upd H2 k1 (.lst xs)) := same_upd nk1
        generalize upd H2 k1 (.lst xs) = H3 at g1 s1 ⊢
        walk_at "rd"
        refine ⟨q', _, rfl, .inl (SqL.of (s1 _ _ LL.hq)), fun k2 nk2 => ?_⟩
        have g2 : upd H3 k2 (.lst (ns.map V.int)) k2 = some (.lst (ns.map V.int)) := upd_same
        have s2 : Same H3 (upd H3 k2 (.lst (ns.map V.int))) := same_upd nk2
        generalize upd H3 k2 (.lst (ns.map V.int)) = H4 at g2 s2 ⊢
        refine ⟨(by show 2 ≤ sizeLine; decide), fun kp nkp => ?_⟩
        have s3 := same_upd (o := .lst [V.ref k1, .ref k2]) nkp
        exact ⟨kp, k1, k2, rfl, s1.trans (s2.trans s3), upd_same, s3 _ _ (s2 _ _ g1), s3 _ _ g2⟩
      rintro st H3 ⟨kp, k1, k2, rfl, s3, hkp, hk1, hk2⟩
      replace LL := LL.same s3
      have S3 := S2.of_same s3
      clear S2 s3
      have kd : ∀ {Hz : Hp}, Same H3 Hz → Dp K Hz (.ref kp) (.list [.list (ss.map sdD), .list (ns.map PyData.int)]) := fun s => dp_two (s _ _ hkp) ((LL.S.same s).dp (s _ _ hk1)) (dp_intsL (s _ _ hk2))
      have ksh : SeqAt.shaped (.list [.list (ss.map sdD), .list (ns.map PyData.int)]) = true := (lay_two (lay_sides md) ((lay_ints ns).up (by decide))).sh
      refine ⟨fun st Hz => ∃ (du : Addr) (cv : V), st = [some (.ref l), some (.ref a), some (.int (0 + (i : Int))), some (.ref sl), some (.ref q'), some (.ref mo), some (.ref kp), some (.ref du), x8, none, none, none, none, none, none, none] ∧ Same H3 Hz ∧ Hz du = some (.lst [fV ss ns (ns.length - 1), cv]) ∧ CntA Hz cv ss ns (ns.length - 1), ?_, ?_⟩
      · walk_at "rd"
        refine ⟨sl, xs, ss, q', ns, rfl, LL, fun r cv H4 _ s4 hr' ca => ?_⟩
        exact ⟨r, cv, rfl, s4, hr', ca⟩
      rintro st H4 ⟨du, cd, rfl, s4, hdu, cda⟩
      refine ⟨fun st Hz => ∃ (fo : Addr) (cv : V), st = [some (.ref l), some (.ref a), some (.int (0 + (i : Int))), some (.ref sl), some (.ref q'), some (.ref mo), some (.ref kp), some (.ref du), some (.ref fo), none, none, none, none, none, none, none] ∧ Same H4 Hz ∧ Hz fo = some (.lst [fV ss ns (ns.length - 1), cv]) ∧ CntA Hz cv ss ns (ns.length - 1) ∧ ∀ p, cv = .ref p → H4 p = none, ?_, ?_⟩
      · walk_at "rd"
        refine ⟨"fault", sl, xs, ss, q', ns, rfl, LL.same s4, .inl ⟨rfl, fun H5 s5 => ?_⟩⟩
        walk_at "rd"
        refine ⟨"hops", sl, xs, ss, q', ns, rfl, LL.same (s4.trans s5), .inr ⟨rfl, fun cv H6 s6 ca new => ?_⟩⟩
        refine ⟨(by show 2 ≤ sizeLine; decide), fun fo nfo => ?_⟩
        have s7 := same_upd (o := .lst [fV ss ns (ns.length - 1), cv]) nfo
        exact ⟨fo, cv, rfl, s5.trans (s6.trans s7), upd_same, ca.same s7, fun p e => free_of s5 (new p e)⟩
      rintro st H5 ⟨fo, cf, rfl, s5, hfo, cfa, cfn⟩
      have s35 := s4.trans s5
      have two : ∀ {Hz : Hp}, Same H5 Hz → Same H3 Hz → SeqAt.shaped (.list [.list (ss.map sdD), .list (ns.map PyData.int)]) = true := fun _ _ => ksh
      refine ⟨fun st Hz => st = [some (.ref l), some (.ref a), some (.int (0 + (i : Int))), some (.ref sl), some (.ref q'), some (.ref mo), some (.ref kp), some (.ref du), some (.ref fo), none, none, none, none, none, none, none] ∧ Same H5 Hz, ?_, ?_⟩
      · walk_at "rd"
        refine ⟨_, _, dp_two hfo (dp_fV _ _ _) cfa.dp, dp_two (s5 _ _ hdu) (dp_fV _ _ _) (cda.same s5).dp, (lay_two (lay_fV _ _ _ _) (lay_cntD _ _ _)).sh, (lay_two (lay_fV _ _ _ _) (lay_cntD _ _ _)).sh, ?_⟩
        rw [eqv_self (lay_two (lay_fV _ _ _ _) (lay_cntD _ _ _)).sh]
        refine ⟨_, rfl, ?_⟩
        refine ite2 (fun z => absurd z (by decide)) (fun _ => ?_)
        walk_at "rd"
        refine ⟨(by show 2 ≤ sizeLine; decide), fun p np => ?_⟩
        have sp := same_upd (o := .lst [V.ref sl, .ref q']) np
        have gp : upd H5 p (.lst [V.ref sl, .ref q']) p = some (.lst [V.ref sl, .ref q']) := upd_same
        generalize upd H5 p (.lst [V.ref sl, .ref q']) = H6 at sp gp ⊢
        have s36 := s35.trans sp
        walk_at "rd"
        refine ⟨_, _, dp_two gp ((LL.S.same s36).dp (LL.S.same s36).hl) (dp_intsL (s36 _ _ LL.hq)), kd s36, ksh, ksh, ?_⟩
        rw [eqv_self ksh]
        refine ⟨_, rfl, ?_⟩
        refine ite2 (fun z => absurd z (by decide)) (fun _ => ?_)
        exact ⟨rfl, sp⟩
      rintro st H6 ⟨rfl, s6⟩
      refine ⟨fun st Hz => st = [some (.ref l), some (.ref a), some (.int (0 + (i : Int))), some (.ref sl), some (.ref q'), some (.ref mo), some (.ref kp), some (.ref du), some (.ref fo), none, none, none, none, none, none, none] ∧ Src Hz a c t2 ∧ SidesAt Hz sl xs ss, ?_, ?_⟩
      · walk_at "rd"
        refine ⟨fo, _, 1, _, rfl, rfl, SqL.of (s6 _ _ hfo), rfl, ?_⟩
        have s36 := s35.trans s6
        rcases cfa with ⟨rfl, hn⟩ | ⟨cp, rfl, hcp, no⟩
        · walk_at "rd"
          refine ⟨_, _, .str _, .str _, many_sh, many_sh, ?_⟩
          rw [many_refl]
          refine ⟨_, rfl, ?_⟩
          refine ite2 (fun z => absurd z (by decide)) (fun _ => ?_)
          exact ⟨rfl, S3.of_same s36, LL.S.same s36⟩
        · walk_at "rd"
          refine ⟨_, _, dp_cL (s6 _ _ hcp), .str _, (lay_cL _ _ _).sh, many_sh, ?_⟩
          rw [show PyData.eqv (.list ((cL ss ns (ns.length - 1)).map atomD)) (.str "many") = false by rw [PyData.eqv]]
          refine ⟨_, rfl, ?_⟩
          refine ite2 (fun _ => ?_) (fun z => absurd rfl z)
          have cpn : H3 cp = none := free_of s4 (cfn cp rfl)
          have cp4 : H4 cp = none := cfn cp rfl
          walk_at "rd"
          refine ⟨fo, _, 1, _, rfl, rfl, SqL.of (s6 _ _ hfo), rfl, ?_⟩
          refine ⟨.inl ⟨rfl, _, SqL.of (s6 _ _ hcp)⟩, ?_⟩
          walk_at "rd"
          have n50 := LL.n50
          refine ⟨cp, _, _, rfl, rfl, s6 _ _ hcp, (by unfold cL; rw [List.length_map, List.length_range]; exact Nat.lt_of_lt_of_le (by omega : ns.length - 1 < 100) (by decide)), ?_⟩
          have sA : Same H3 (upd H6 cp (.lst (cL ss ns (ns.length - 1) ++ [.int 7]))) := fun b u z => (upd_ne (ne_of_none z cpn)).trans (s36 _ _ z)
          have sB : Same H4 (upd H6 cp (.lst (cL ss ns (ns.length - 1) ++ [.int 7]))) := fun b u z => (upd_ne (ne_of_none z cp4)).trans (s6 _ _ (s5 _ _ z))
          generalize upd H6 cp (.lst (cL ss ns (ns.length - 1) ++ [.int 7])) = H7 at sA sB ⊢
          walk_at "rd"
          refine ⟨fun b Hz => b = false ∧ Same H7 Hz, ?_, ?_⟩
          · walk_at "rd"
            refine ⟨(by show 2 ≤ sizeLine; decide), fun p np => ?_⟩
            have sp := same_upd (o := .lst [V.ref sl, .ref q']) np
            have gp : upd H7 p (.lst [V.ref sl, .ref q']) p = some (.lst [V.ref sl, .ref q']) := upd_same
            generalize upd H7 p (.lst [V.ref sl, .ref q']) = H8 at sp gp ⊢
            have s38 := sA.trans sp
            walk_at "rd"
            refine ⟨_, _, dp_two gp ((LL.S.same s38).dp (LL.S.same s38).hl) (dp_intsL (s38 _ _ LL.hq)), kd s38, ksh, ksh, ?_⟩
            rw [eqv_self ksh]
            refine ⟨_, rfl, ?_⟩
            refine ite2 (fun z => absurd z (by decide)) (fun _ => ?_)
            walk_at "rd"
            refine ⟨_, _, rfl, .inr (.inr ⟨sl, xs, ss, q', ns, rfl, (LL.same s38).S, rfl, (LL.same s38).hq, LL.n50, LL.nb, fun ⟨k, a1, a2⟩ => absurd a2 (no k a1), fun _ r H9 nr s9 hr' => ?_⟩)⟩
            have s49 := sB.trans (sp.trans s9)
            walk_at "rd"
            refine ⟨du, _, 1, _, rfl, rfl, SqL.of (s49 _ _ hdu), rfl, ?_⟩
            have ca9 := cda.same s49
            have e9 : cntD ss ns (ns.length - 1) = .list ((cL ss ns (ns.length - 1)).map atomD) := by unfold cntD; rw [if_neg fun ⟨k, a1, a2⟩ => no k a1 a2]
            have dp9 := ca9.dp (K := K)
            rw [e9] at dp9
            refine ⟨_, _, dp_cL hr', dp9, (lay_cL _ _ _).sh, (lay_cL _ _ _).sh, ?_⟩
            rw [eqv_self (lay_cL _ _ _).sh]
            exact ⟨_, rfl, rfl, sp.trans s9⟩
          rintro b H8 ⟨rfl, s8⟩
          refine ite2 (fun z => absurd z (by decide)) (fun _ => ?_)
          exact ⟨rfl, S3.of_same (sA.trans s8), LL.S.same (sA.trans s8)⟩
      rintro st H7 ⟨rfl, S7, SS7⟩
      refine ⟨fun st Hz => st = [some (.ref l), some (.ref a), some (.int (0 + (i : Int))), some (.ref sl), some (.ref q'), some (.ref mo), some (.ref kp), some (.ref du), some (.ref fo), none, none, none, none, none, none, none] ∧ Src Hz a c t2, ?_, fun st Hz ⟨e, S⟩ => ⟨_, _, _, _, _, _, _, t2, e, S, by omega⟩⟩
      walk_at "rd"
      refine ⟨(by show (0 : Int) < 6; decide), ?_⟩
      walk_at "rd"
      refine ⟨rfl, ?_⟩
      refine ⟨_, rfl, ?_⟩
      refine ite2 (fun _ => ?_) (fun _ => ⟨rfl, S7⟩)
      walk_at "rd"
      refine ⟨sl, xs, ss, rfl, SS7, fun H8 s8 => ?_⟩
      refine ⟨_, rfl, ?_⟩
      refine ite2 (fun z => absurd z (by decide)) (fun _ => ?_)
      exact ⟨rfl, S7.of_same s8⟩
    rintro st H2 ⟨x2, x3, x4, x5, x6, x7, x8, rfl⟩
    refine ⟨fun st Hz => ∃ (li : Addr) (ys : List V), st = [some (.ref l), some (.ref a), x2, x3, x4, x5, x6, x7, x8, some (.ref li), none, none, none, none, none, none] ∧ SidesAt Hz li ys ss3, ?_, ?_⟩
    · skip
      walk_at "rd"
      refine ⟨(by show 3 ≤ sizeLine; decide), fun z1_1 nz1_1 => ?_⟩
      have gz1_1 : upd H2 z1_1 (.tup [V.int 0, .int 3, .str "half_up"]) z1_1 = some (.tup [V.int 0, .int 3, .str "half_up"]) := upd_same
      have sz1_1 : Same H2 (upd H2 z1_1 (.tup [V.int 0, .int 3, .str "half_up"])) := same_upd nz1_1
      generalize upd H2 z1_1 (.tup [V.int 0, .int 3, .str "half_up"]) = Hz1_1 at gz1_1 sz1_1 ⊢
      walk_at "rd"
      refine ⟨(by show 3 ≤ sizeLine; decide), fun z1_2 nz1_2 => ?_⟩
      have gz1_2 : upd Hz1_1 z1_2 (.tup [V.int 1, .int 3, .str "half_up"]) z1_2 = some (.tup [V.int 1, .int 3, .str "half_up"]) := upd_same
      have sz1_2 : Same Hz1_1 (upd Hz1_1 z1_2 (.tup [V.int 1, .int 3, .str "half_up"])) := same_upd nz1_2
      generalize upd Hz1_1 z1_2 (.tup [V.int 1, .int 3, .str "half_up"]) = Hz1_2 at gz1_2 sz1_2 ⊢
      walk_at "rd"
      refine ⟨(by show 3 ≤ sizeLine; decide), fun z1_3 nz1_3 => ?_⟩
      have gz1_3 : upd Hz1_2 z1_3 (.tup [V.int 2, .int 3, .str "half_up"]) z1_3 = some (.tup [V.int 2, .int 3, .str "half_up"]) := upd_same
      have sz1_3 : Same Hz1_2 (upd Hz1_2 z1_3 (.tup [V.int 2, .int 3, .str "half_up"])) := same_upd nz1_3
      generalize upd Hz1_2 z1_3 (.tup [V.int 2, .int 3, .str "half_up"]) = Hz1_3 at gz1_3 sz1_3 ⊢
      walk_at "rd"
      refine ⟨(by show 3 ≤ sizeLine; decide), fun z1_4 nz1_4 => ?_⟩
      have gz1_4 : upd Hz1_3 z1_4 (.lst [V.ref z1_1, .ref z1_2, .ref z1_3]) z1_4 = some (.lst [V.ref z1_1, .ref z1_2, .ref z1_3]) := upd_same
      have sz1_4 : Same Hz1_3 (upd Hz1_3 z1_4 (.lst [V.ref z1_1, .ref z1_2, .ref z1_3])) := same_upd nz1_4
      generalize upd Hz1_3 z1_4 (.lst [V.ref z1_1, .ref z1_2, .ref z1_3]) = Hz1_4 at gz1_4 sz1_4 ⊢
      have tz1_4 : Same Hz1_4 Hz1_4 := Same.refl _
      have tz1_3 : Same Hz1_3 Hz1_4 := sz1_4.trans tz1_4
      have tz1_2 : Same Hz1_2 Hz1_4 := sz1_3.trans tz1_3
      have tz1_1 : Same Hz1_1 Hz1_4 := sz1_2.trans tz1_2
      have tz1_0 : Same H2 Hz1_4 := sz1_1.trans tz1_1
      replace gz1_1 := tz1_1 _ _ gz1_1
      replace gz1_2 := tz1_2 _ _ gz1_2
      replace gz1_3 := tz1_3 _ _ gz1_3
      have SZ : SidesAt Hz1_4 z1_4 [V.ref z1_1, V.ref z1_2, V.ref z1_3] ss3 := (show SdQ (10 ^ 30) _ _ _ from (((sdq_nil.snoc (d := ⟨0, 3, "half_up"⟩) gz1_1 ⟨⟨by decide, by decide, by decide, by decide, .inr (.inr (.inr (.inl rfl)))⟩, by decide⟩).snoc (d := ⟨1, 3, "half_up"⟩) gz1_2 ⟨⟨by decide, by decide, by decide, by decide, .inr (.inr (.inr (.inl rfl)))⟩, by decide⟩).snoc (d := ⟨2, 3, "half_up"⟩) gz1_3 ⟨⟨by decide, by decide, by decide, by decide, .inr (.inr (.inr (.inl rfl)))⟩, by decide⟩)).sides gz1_4 (by decide) (by decide)
      exact ⟨z1_4, _, rfl, SZ⟩
    rintro st H3 ⟨li, ys, rfl, S3⟩
    refine ⟨fun st Hz => st = [some (.ref l), some (.ref a), x2, x3, x4, x5, x6, x7, x8, some (.ref li), none, none, none, none, none, none], ?_, ?_⟩
    · walk_at "rd"
      walk_at "rd"
      refine ⟨(by show 2 ≤ sizeLine; decide), fun z2_1 nz2_1 => ?_⟩
      have gz2_1 : upd H3 z2_1 (.lst [V.int 0, .int 3000]) z2_1 = some (.lst [V.int 0, .int 3000]) := upd_same
      have sz2_1 : Same H3 (upd H3 z2_1 (.lst [V.int 0, .int 3000])) := same_upd nz2_1
      generalize upd H3 z2_1 (.lst [V.int 0, .int 3000]) = Hz2_1 at gz2_1 sz2_1 ⊢
      have tz2_1 : Same Hz2_1 Hz2_1 := Same.refl _
      have tz2_0 : Same H3 Hz2_1 := sz2_1.trans tz2_1
      refine ⟨_, _, rfl, .inr (.inr ⟨li, ys, ss3, z2_1, [0, 3000], rfl, S3.same tz2_0, rfl, gz2_1, by decide, by decide +kernel, fun Hc1 sc1 => ?_⟩)⟩
      rw [show fV ss3 [0, 3000] (List.length ([0, 3000] : List Int) - 1) = _ from three_fault]
      refine ⟨fun z => V.noConfusion z, fun _ => ?_⟩
      refine ⟨rfl, ?_⟩
      refine ⟨_, rfl, ?_⟩
      refine ite2 (fun z => absurd z (by decide +kernel)) (fun _ => ?_)
      walk_at "rd"
      refine ⟨(by show 2 ≤ sizeLine; decide), fun z3_1 nz3_1 => ?_⟩
      have gz3_1 : upd Hc1 z3_1 (.lst [V.int 0, .int 3000]) z3_1 = some (.lst [V.int 0, .int 3000]) := upd_same
      have sz3_1 : Same Hc1 (upd Hc1 z3_1 (.lst [V.int 0, .int 3000])) := same_upd nz3_1
      generalize upd Hc1 z3_1 (.lst [V.int 0, .int 3000]) = Hz3_1 at gz3_1 sz3_1 ⊢
      have tz3_1 : Same Hz3_1 Hz3_1 := Same.refl _
      have tz3_0 : Same Hc1 Hz3_1 := sz3_1.trans tz3_1
      refine ⟨"hops", li, ys, ss3, z3_1, [0, 3000], rfl, ⟨S3.same (tz2_0.trans (sc1.trans tz3_0)), gz3_1, by decide, by decide +kernel⟩, .inr ⟨rfl, fun cv H9 s9 ca _ => ?_⟩⟩
      rcases ca with ⟨rfl, _⟩ | ⟨p, _, _, no⟩
      · walk_at "rd"
        refine ⟨_, _, .str _, .str _, many_sh, many_sh, ?_⟩
        rw [many_refl]
        refine ⟨_, rfl, ?_⟩
        refine ite2 (fun z => absurd z (by decide)) (fun _ => ?_)
        exact rfl
      · exact absurd three_hops (no 0 (by decide))
    rintro st H4 rfl
    refine ⟨fun st Hz => ∃ lo hi lp hp : Addr, st = [some (.ref l), some (.ref a), x2, x3, x4, x5, x6, x7, x8, some (.ref li), some (.ref lo), some (.ref hi), none, none, none, none] ∧ SidesAt Hz lo [.ref lp] ssL ∧ SidesAt Hz hi [.ref hp] ssH, ?_, ?_⟩
    · skip
      walk_at "rd"
      refine ⟨(by show 3 ≤ sizeLine; decide), fun z4_1 nz4_1 => ?_⟩
      have gz4_1 : upd H4 z4_1 (.tup [V.int 0, .int 7, .str "down"]) z4_1 = some (.tup [V.int 0, .int 7, .str "down"]) := upd_same
      have sz4_1 : Same H4 (upd H4 z4_1 (.tup [V.int 0, .int 7, .str "down"])) := same_upd nz4_1
      generalize upd H4 z4_1 (.tup [V.int 0, .int 7, .str "down"]) = Hz4_1 at gz4_1 sz4_1 ⊢
      walk_at "rd"
      refine ⟨(by show 1 ≤ sizeLine; decide), fun z4_2 nz4_2 => ?_⟩
      have gz4_2 : upd Hz4_1 z4_2 (.lst [V.ref z4_1]) z4_2 = some (.lst [V.ref z4_1]) := upd_same
      have sz4_2 : Same Hz4_1 (upd Hz4_1 z4_2 (.lst [V.ref z4_1])) := same_upd nz4_2
      generalize upd Hz4_1 z4_2 (.lst [V.ref z4_1]) = Hz4_2 at gz4_2 sz4_2 ⊢
      walk_at "rd"
      refine ⟨(by show 3 ≤ sizeLine; decide), fun z4_3 nz4_3 => ?_⟩
      have gz4_3 : upd Hz4_2 z4_3 (.tup [V.int 0, .int 7, .str "up"]) z4_3 = some (.tup [V.int 0, .int 7, .str "up"]) := upd_same
      have sz4_3 : Same Hz4_2 (upd Hz4_2 z4_3 (.tup [V.int 0, .int 7, .str "up"])) := same_upd nz4_3
      generalize upd Hz4_2 z4_3 (.tup [V.int 0, .int 7, .str "up"]) = Hz4_3 at gz4_3 sz4_3 ⊢
      walk_at "rd"
      refine ⟨(by show 1 ≤ sizeLine; decide), fun z4_4 nz4_4 => ?_⟩
      have gz4_4 : upd Hz4_3 z4_4 (.lst [V.ref z4_3]) z4_4 = some (.lst [V.ref z4_3]) := upd_same
      have sz4_4 : Same Hz4_3 (upd Hz4_3 z4_4 (.lst [V.ref z4_3])) := same_upd nz4_4
      generalize upd Hz4_3 z4_4 (.lst [V.ref z4_3]) = Hz4_4 at gz4_4 sz4_4 ⊢
      walk_at "rd"
      refine ⟨(by show 2 ≤ sizeLine; decide), fun z4_5 nz4_5 => ?_⟩
      have gz4_5 : upd Hz4_4 z4_5 (.tup [V.ref z4_2, .ref z4_4]) z4_5 = some (.tup [V.ref z4_2, .ref z4_4]) := upd_same
      have sz4_5 : Same Hz4_4 (upd Hz4_4 z4_5 (.tup [V.ref z4_2, .ref z4_4])) := same_upd nz4_5
      generalize upd Hz4_4 z4_5 (.tup [V.ref z4_2, .ref z4_4]) = Hz4_5 at gz4_5 sz4_5 ⊢
      have tz4_5 : Same Hz4_5 Hz4_5 := Same.refl _
      have tz4_4 : Same Hz4_4 Hz4_5 := sz4_5.trans tz4_5
      have tz4_3 : Same Hz4_3 Hz4_5 := sz4_4.trans tz4_4
      have tz4_2 : Same Hz4_2 Hz4_5 := sz4_3.trans tz4_3
      have tz4_1 : Same Hz4_1 Hz4_5 := sz4_2.trans tz4_2
      have tz4_0 : Same H4 Hz4_5 := sz4_1.trans tz4_1
      replace gz4_1 := tz4_1 _ _ gz4_1
      replace gz4_2 := tz4_2 _ _ gz4_2
      replace gz4_3 := tz4_3 _ _ gz4_3
      replace gz4_4 := tz4_4 _ _ gz4_4
      refine ⟨z4_5, _, rfl, SqT.of gz4_5, rfl, _, _, rfl, _, _, rfl, rfl, ?_⟩
      exact ⟨z4_2, z4_4, z4_1, z4_3, rfl, sidesAt1 (d := ⟨0, 7, "down"⟩) gz4_2 gz4_1 ⟨by decide, by decide, by decide, by decide, .inl rfl⟩, sidesAt1 (d := ⟨0, 7, "up"⟩) gz4_4 gz4_3 ⟨by decide, by decide, by decide, by decide, .inr (.inl rfl)⟩⟩
    rintro st H5 ⟨lo, hi, lp, hp, rfl, SL, SH⟩
    refine ⟨fun st Hz => st = [some (.ref l), some (.ref a), x2, x3, x4, x5, x6, x7, x8, some (.ref li), some (.ref lo), some (.ref hi), none, none, none, none] ∧ Same H5 Hz, ?_, ?_⟩
    · skip
      walk_at "rd"
      refine ⟨(by show 2 ≤ sizeLine; decide), fun z5_1 nz5_1 => ?_⟩
      have gz5_1 : upd H5 z5_1 (.lst [V.int (-1), .int 0]) z5_1 = some (.lst [V.int (-1), .int 0]) := upd_same
      have sz5_1 : Same H5 (upd H5 z5_1 (.lst [V.int (-1), .int 0])) := same_upd nz5_1
      generalize upd H5 z5_1 (.lst [V.int (-1), .int 0]) = Hz5_1 at gz5_1 sz5_1 ⊢
      have tz5_1 : Same Hz5_1 Hz5_1 := Same.refl _
      have tz5_0 : Same H5 Hz5_1 := sz5_1.trans tz5_1
      refine ⟨_, _, rfl, .inr (.inr ⟨lo, _, ssL, z5_1, [-1, 0], rfl, SL.same tz5_0, rfl, gz5_1, by decide, by decide +kernel, fun Hc2 sc2 => ?_⟩)⟩
      rw [show fV ssL [-1, 0] (List.length ([-1, 0] : List Int) - 1) = _ from low_a]
      refine ⟨fun z => V.noConfusion z, fun _ => ?_⟩
      walk_at "rd"
      refine ⟨(by show 3 ≤ sizeLine; decide), fun z6_1 nz6_1 => ?_⟩
      have gz6_1 : upd Hc2 z6_1 (.lst [V.int 6, .int 0, .int 1]) z6_1 = some (.lst [V.int 6, .int 0, .int 1]) := upd_same
      have sz6_1 : Same Hc2 (upd Hc2 z6_1 (.lst [V.int 6, .int 0, .int 1])) := same_upd nz6_1
      generalize upd Hc2 z6_1 (.lst [V.int 6, .int 0, .int 1]) = Hz6_1 at gz6_1 sz6_1 ⊢
      have tz6_1 : Same Hz6_1 Hz6_1 := Same.refl _
      have tz6_0 : Same Hc2 Hz6_1 := sz6_1.trans tz6_1
      refine ⟨_, _, rfl, .inr (.inr ⟨lo, _, ssL, z6_1, [6, 0, 1], rfl, SL.same (tz5_0.trans (sc2.trans tz6_0)), rfl, gz6_1, by decide, by decide +kernel, fun Hc3 sc3 => ?_⟩)⟩
      rw [show fV ssL [6, 0, 1] (List.length ([6, 0, 1] : List Int) - 1) = _ from low_b]
      refine ⟨fun z => V.noConfusion z, fun _ => ?_⟩
      walk_at "rd"
      refine ⟨(by show 2 ≤ sizeLine; decide), fun z7_1 nz7_1 => ?_⟩
      have gz7_1 : upd Hc3 z7_1 (.lst [V.int 1, .int 0]) z7_1 = some (.lst [V.int 1, .int 0]) := upd_same
      have sz7_1 : Same Hc3 (upd Hc3 z7_1 (.lst [V.int 1, .int 0])) := same_upd nz7_1
      generalize upd Hc3 z7_1 (.lst [V.int 1, .int 0]) = Hz7_1 at gz7_1 sz7_1 ⊢
      have tz7_1 : Same Hz7_1 Hz7_1 := Same.refl _
      have tz7_0 : Same Hc3 Hz7_1 := sz7_1.trans tz7_1
      refine ⟨_, _, rfl, .inr (.inr ⟨hi, _, ssH, z7_1, [1, 0], rfl, SH.same (tz5_0.trans (sc2.trans (tz6_0.trans (sc3.trans tz7_0)))), rfl, gz7_1, by decide, by decide +kernel, fun Hc4 sc4 => ?_⟩)⟩
      rw [show fV ssH [1, 0] (List.length ([1, 0] : List Int) - 1) = _ from high_a]
      refine ⟨fun z => V.noConfusion z, fun _ => ?_⟩
      walk_at "rd"
      refine ⟨(by show 3 ≤ sizeLine; decide), fun z8_1 nz8_1 => ?_⟩
      have gz8_1 : upd Hc4 z8_1 (.lst [V.int (-6), .int 0, .int (-1)]) z8_1 = some (.lst [V.int (-6), .int 0, .int (-1)]) := upd_same
      have sz8_1 : Same Hc4 (upd Hc4 z8_1 (.lst [V.int (-6), .int 0, .int (-1)])) := same_upd nz8_1
      generalize upd Hc4 z8_1 (.lst [V.int (-6), .int 0, .int (-1)]) = Hz8_1 at gz8_1 sz8_1 ⊢
      have tz8_1 : Same Hz8_1 Hz8_1 := Same.refl _
      have tz8_0 : Same Hc4 Hz8_1 := sz8_1.trans tz8_1
      refine ⟨_, _, rfl, .inr (.inr ⟨hi, _, ssH, z8_1, [-6, 0, -1], rfl, SH.same (tz5_0.trans (sc2.trans (tz6_0.trans (sc3.trans (tz7_0.trans (sc4.trans tz8_0)))))), rfl, gz8_1, by decide, by decide +kernel, fun Hc5 sc5 => ?_⟩)⟩
      rw [show fV ssH [-6, 0, -1] (List.length ([-6, 0, -1] : List Int) - 1) = _ from high_b]
      refine ⟨fun z => V.noConfusion z, fun _ => ?_⟩
      walk_at "rd"
      refine ⟨(by show 4 ≤ sizeLine; decide), fun z9_1 nz9_1 => ?_⟩
      have gz9_1 : upd Hc5 z9_1 (.lst [V.int 1, .int 2, .int 1, .int 2]) z9_1 = some (.lst [V.int 1, .int 2, .int 1, .int 2]) := upd_same
      have sz9_1 : Same Hc5 (upd Hc5 z9_1 (.lst [V.int 1, .int 2, .int 1, .int 2])) := same_upd nz9_1
      generalize upd Hc5 z9_1 (.lst [V.int 1, .int 2, .int 1, .int 2]) = Hz9_1 at gz9_1 sz9_1 ⊢
      have tz9_1 : Same Hz9_1 Hz9_1 := Same.refl _
      have tz9_0 : Same Hc5 Hz9_1 := sz9_1.trans tz9_1
      walk_at "rd"
      refine ⟨(by show 4 ≤ sizeLine; decide), fun z10_1 nz10_1 => ?_⟩
      have gz10_1 : upd Hz9_1 z10_1 (.lst [V.int 1, .int 2, .int 1, .int 2]) z10_1 = some (.lst [V.int 1, .int 2, .int 1, .int 2]) := upd_same
      have sz10_1 : Same Hz9_1 (upd Hz9_1 z10_1 (.lst [V.int 1, .int 2, .int 1, .int 2])) := same_upd nz10_1
      generalize upd Hz9_1 z10_1 (.lst [V.int 1, .int 2, .int 1, .int 2]) = Hz10_1 at gz10_1 sz10_1 ⊢
      have tz10_1 : Same Hz10_1 Hz10_1 := Same.refl _
      have tz10_0 : Same Hz9_1 Hz10_1 := sz10_1.trans tz10_1
      refine ⟨_, _, dp_intsL (A := [1, 2, 1, 2]) (tz10_0 _ _ gz9_1), dp_intsL (A := [1, 2, 1, 2]) gz10_1, by decide +kernel, by decide +kernel, ?_⟩
      refine ⟨_, rfl, ?_⟩
      refine ite2 (fun z => absurd z (by decide +kernel)) (fun _ => ?_)
      exact ⟨rfl, (tz5_0.trans (sc2.trans (tz6_0.trans (sc3.trans (tz7_0.trans (sc4.trans (tz8_0.trans (sc5.trans (tz9_0.trans tz10_0)))))))))⟩
    rintro st H6 ⟨rfl, s6⟩
    replace SL := SL.same s6
    clear SH s6
    refine ⟨fun st Hz => st = [some (.ref l), some (.ref a), x2, x3, x4, x5, x6, x7, x8, some (.ref li), some (.ref lo), some (.ref hi), none, none, none, none], ?_, ?_⟩
    · walk_at "rd"
      refine ⟨by decide, by decide, fun D nD => ?_⟩
      refine lc_range (n := 2) (fun i Hz => Same H6 Hz ∧ Hz D = some (.lst (List.replicate i (V.str "seen")))) ⟨same_upd nD, upd_same⟩ ?_ ?_
      · rintro i Hz hi2 ⟨sz, hD⟩
        refine ⟨rfl, ?_⟩
        walk_at "rd"
        refine ⟨(by show 3 ≤ sizeLine; decide), fun z11_1 nz11_1 => ?_⟩
        have gz11_1 : upd Hz z11_1 (.lst [V.int 5, .int 3, .non]) z11_1 = some (.lst [V.int 5, .int 3, .non]) := upd_same
        have sz11_1 : Same Hz (upd Hz z11_1 (.lst [V.int 5, .int 3, .non])) := same_upd nz11_1
        generalize upd Hz z11_1 (.lst [V.int 5, .int 3, .non]) = Hz11_1 at gz11_1 sz11_1 ⊢
        have tz11_1 : Same Hz11_1 Hz11_1 := Same.refl _
        have tz11_0 : Same Hz Hz11_1 := sz11_1.trans tz11_1
        refine ⟨_, .ref lo, .ref z11_1, rfl, .inr ⟨lo, _, rfl, good_of (SL.same (sz.trans tz11_0)), .item (i := 2) gz11_1 (by show 3 ≤ 50; decide) rfl .non rfl fun j z hj hz => ?_, fun H' s' => ?_⟩⟩
        · rcases (by omega : j = 0 ∨ j = 1) with rfl | rfl
          · exact ⟨5, (Option.some.inj hz).symm⟩
          · exact ⟨3, (Option.some.inj hz).symm⟩
        have sA := sz.trans (tz11_0.trans s')
        refine ⟨_, s' _ _ (tz11_0 _ _ hD), (by rw [List.length_replicate]; exact Nat.lt_of_lt_of_le (by omega : i < 100) (by decide)), fun b u z => (upd_ne (ne_of_none z nD)).trans (sA _ _ z), ?_⟩
        rw [upd_same, List.replicate_succ']
      rintro H7 ⟨s7, hD⟩
      walk_at "rd"
      refine ⟨(by show 1 ≤ sizeLine; decide), fun z12_1 nz12_1 => ?_⟩
      have gz12_1 : upd H7 z12_1 (.lst [V.str "seen"]) z12_1 = some (.lst [V.str "seen"]) := upd_same
      have sz12_1 : Same H7 (upd H7 z12_1 (.lst [V.str "seen"])) := same_upd nz12_1
      generalize upd H7 z12_1 (.lst [V.str "seen"]) = Hz12_1 at gz12_1 sz12_1 ⊢
      walk_at "rd"
      refine ⟨z12_1, 2, _, rfl, rfl, gz12_1, by decide, by decide, (by show 2 ≤ sizeLine; decide), fun z12_2 nz12_2 => ?_⟩
      have gz12_2 : upd Hz12_1 z12_2 (.lst (List.replicate (Int.toNat 2) [V.str "seen"]).flatten) z12_2 = some (.lst (List.replicate 2 (V.str "seen"))) := upd_same
      have sz12_2 : Same Hz12_1 (upd Hz12_1 z12_2 (.lst (List.replicate (Int.toNat 2) [V.str "seen"]).flatten)) := same_upd nz12_2
      generalize upd Hz12_1 z12_2 (.lst (List.replicate (Int.toNat 2) [V.str "seen"]).flatten) = Hz12_2 at gz12_2 sz12_2 ⊢
      have tz12_2 : Same Hz12_2 Hz12_2 := Same.refl _
      have tz12_1 : Same Hz12_1 Hz12_2 := sz12_2.trans tz12_2
      have tz12_0 : Same H7 Hz12_2 := sz12_1.trans tz12_1
      replace gz12_1 := tz12_1 _ _ gz12_1
      have dpS : ∀ {Hz : Hp} {p : Addr}, Hz p = some (.lst [V.str "seen", .str "seen"]) → Dp K Hz (.ref p) (.list [.str "seen", .str "seen"]) := fun h => .lst (SqL.of h) (.cons (.str _) (.cons (.str _) .nil))
      refine ⟨_, _, dpS (tz12_0 _ _ hD), dpS gz12_2, by decide +kernel, by decide +kernel, ?_⟩
      refine ⟨_, rfl, ?_⟩
      refine ite2 (fun z => absurd z (by decide +kernel)) (fun _ => ?_)
      exact rfl
    rintro st H7 rfl
    clear SL S3
    refine ⟨fun st Hz => ∃ fv fp : Addr, st = [some (.ref l), some (.ref a), x2, x3, x4, x5, x6, x7, x8, some (.ref li), some (.ref lo), some (.ref hi), none, some (.int (10 ^ 195)), some (.ref fv), none] ∧ SidesAt Hz fv [.ref fp] ss5, ?_, ?_⟩
    · walk_at "rd"
      refine ⟨⟨by decide, by decide, by decide⟩, ?_⟩
      walk_at "rd"
      refine ⟨⟨by decide, by decide +kernel⟩, ?_⟩
      walk_at "rd"
      refine ⟨⟨by decide, by decide, by decide⟩, ?_⟩
      walk_at "rd"
      refine ⟨mulW ⟨by decide +kernel, by decide +kernel⟩ ⟨by decide +kernel, by decide +kernel⟩, ?_⟩
      walk_at "rd"
      refine ⟨(by show 3 ≤ sizeLine; decide), fun z13_1 nz13_1 => ?_⟩
      have gz13_1 : upd H7 z13_1 (.tup [V.int 0, .int 5, .str "up"]) z13_1 = some (.tup [V.int 0, .int 5, .str "up"]) := upd_same
      have sz13_1 : Same H7 (upd H7 z13_1 (.tup [V.int 0, .int 5, .str "up"])) := same_upd nz13_1
      generalize upd H7 z13_1 (.tup [V.int 0, .int 5, .str "up"]) = Hz13_1 at gz13_1 sz13_1 ⊢
      walk_at "rd"
      refine ⟨(by show 1 ≤ sizeLine; decide), fun z13_2 nz13_2 => ?_⟩
      have gz13_2 : upd Hz13_1 z13_2 (.lst [V.ref z13_1]) z13_2 = some (.lst [V.ref z13_1]) := upd_same
      have sz13_2 : Same Hz13_1 (upd Hz13_1 z13_2 (.lst [V.ref z13_1])) := same_upd nz13_2
      generalize upd Hz13_1 z13_2 (.lst [V.ref z13_1]) = Hz13_2 at gz13_2 sz13_2 ⊢
      have tz13_2 : Same Hz13_2 Hz13_2 := Same.refl _
      have tz13_1 : Same Hz13_1 Hz13_2 := sz13_2.trans tz13_2
      have tz13_0 : Same H7 Hz13_2 := sz13_1.trans tz13_1
      replace gz13_1 := tz13_1 _ _ gz13_1
      have eG : ((10 : Int) ^ (50 : Int).toNat) ^ (3 : Int).toNat * (10 : Int) ^ (45 : Int).toNat = 10 ^ 195 := by decide +kernel
      refine ⟨_, _, rfl, ?_⟩
      exact ⟨z13_2, z13_1, by rw [← eG]; rfl, sidesAt1 (d := ⟨0, 5, "up"⟩) gz13_2 gz13_1 ⟨by decide, by decide, by decide, by decide, .inr (.inl rfl)⟩⟩
    rintro st H8 ⟨fv, fp, rfl, S5⟩
    refine ⟨fun st Hz => st = [some (.ref l), some (.ref a), x2, x3, x4, x5, x6, x7, x8, some (.ref li), some (.ref lo), some (.ref hi), none, some (.int (10 ^ 195)), some (.ref fv), none] ∧ Same H8 Hz, ?_, ?_⟩
    · skip
      walk_at "rd"
      refine ⟨(by show 3 ≤ sizeLine; decide), fun z14_1 nz14_1 => ?_⟩
      have gz14_1 : upd H8 z14_1 (.lst [V.int (10 ^ 195 - 4), .int (10 ^ 195), .int (10 ^ 195 + 1)]) z14_1 = some (.lst [V.int (10 ^ 195 - 4), .int (10 ^ 195), .int (10 ^ 195 + 1)]) := upd_same
      have sz14_1 : Same H8 (upd H8 z14_1 (.lst [V.int (10 ^ 195 - 4), .int (10 ^ 195), .int (10 ^ 195 + 1)])) := same_upd nz14_1
      generalize upd H8 z14_1 (.lst [V.int (10 ^ 195 - 4), .int (10 ^ 195), .int (10 ^ 195 + 1)]) = Hz14_1 at gz14_1 sz14_1 ⊢
      have tz14_1 : Same Hz14_1 Hz14_1 := Same.refl _
      have tz14_0 : Same H8 Hz14_1 := sz14_1.trans tz14_1
      refine ⟨_, _, rfl, .inr (.inr ⟨fv, _, ss5, z14_1, [10 ^ 195 - 4, 10 ^ 195, 10 ^ 195 + 1], rfl, S5.same tz14_0, rfl, gz14_1, by decide, by decide +kernel, fun Hc6 sc6 => ?_⟩)⟩
      rw [show fV ss5 [10 ^ 195 - 4, 10 ^ 195, 10 ^ 195 + 1] (List.length ([10 ^ 195 - 4, 10 ^ 195, 10 ^ 195 + 1] : List Int) - 1) = _ from five_a]
      refine ⟨fun z => V.noConfusion z, fun _ => ?_⟩
      walk_at "rd"
      refine ⟨_, _, .int _, .int _, by decide +kernel, by decide +kernel, ?_⟩
      refine ⟨_, rfl, ?_⟩
      refine ite2 (fun z => absurd z (by decide +kernel)) (fun _ => ?_)
      walk_at "rd"
      refine ⟨(by show 2 ≤ sizeLine; decide), fun z15_1 nz15_1 => ?_⟩
      have gz15_1 : upd Hc6 z15_1 (.lst [V.int (10 ^ 195 - 4), .int (10 ^ 195)]) z15_1 = some (.lst [V.int (10 ^ 195 - 4), .int (10 ^ 195)]) := upd_same
      have sz15_1 : Same Hc6 (upd Hc6 z15_1 (.lst [V.int (10 ^ 195 - 4), .int (10 ^ 195)])) := same_upd nz15_1
      generalize upd Hc6 z15_1 (.lst [V.int (10 ^ 195 - 4), .int (10 ^ 195)]) = Hz15_1 at gz15_1 sz15_1 ⊢
      have tz15_1 : Same Hz15_1 Hz15_1 := Same.refl _
      have tz15_0 : Same Hc6 Hz15_1 := sz15_1.trans tz15_1
      refine ⟨_, _, rfl, .inr (.inr ⟨fv, _, ss5, z15_1, [10 ^ 195 - 4, 10 ^ 195], rfl, S5.same (tz14_0.trans (sc6.trans tz15_0)), rfl, gz15_1, by decide, by decide +kernel, fun ⟨k, a1, a2⟩ => absurd a2 (five_n k a1), fun _ r7 Hc7 nr7 sc7 hr7 => ?_⟩)⟩
      have hq7 : Hc7 r7 = some (.lst [V.int 1]) := hr7.trans (by rw [show cL ss5 [10 ^ 195 - 4, 10 ^ 195] (List.length ([10 ^ 195 - 4, 10 ^ 195] : List Int) - 1) = [V.int 1] from five_c])
      walk_at "rd"
      refine ⟨(by show 1 ≤ sizeLine; decide), fun z16_1 nz16_1 => ?_⟩
      have gz16_1 : upd Hc7 z16_1 (.lst [V.int 1]) z16_1 = some (.lst [V.int 1]) := upd_same
      have sz16_1 : Same Hc7 (upd Hc7 z16_1 (.lst [V.int 1])) := same_upd nz16_1
      generalize upd Hc7 z16_1 (.lst [V.int 1]) = Hz16_1 at gz16_1 sz16_1 ⊢
      have tz16_1 : Same Hz16_1 Hz16_1 := Same.refl _
      have tz16_0 : Same Hc7 Hz16_1 := sz16_1.trans tz16_1
      refine ⟨_, _, dp_intsL (A := [1]) (tz16_0 _ _ hq7), dp_intsL (A := [1]) gz16_1, by decide +kernel, by decide +kernel, ?_⟩
      refine ⟨_, rfl, ?_⟩
      refine ite2 (fun z => absurd z (by decide +kernel)) (fun _ => ?_)
      exact ⟨rfl, (tz14_0.trans (sc6.trans (tz15_0.trans (sc7.trans tz16_0))))⟩
    rintro st H9 ⟨rfl, s9⟩
    replace S5 := S5.same s9
    clear s9
    refine ⟨fun st Hz => ∃ nn : Addr, st = [some (.ref l), some (.ref a), x2, x3, x4, x5, x6, x7, x8, some (.ref li), some (.ref lo), some (.ref hi), none, some (.int (10 ^ 195)), some (.ref fv), some (.ref nn)] ∧ Hz nn = some (.lst []) ∧ SidesAt Hz fv [.ref fp] ss5, ?_, ?_⟩
    · refine ⟨(by show 0 ≤ sizeLine; decide), fun nn nnn => ?_⟩
      exact ⟨nn, rfl, upd_same, S5.same (same_upd nnn)⟩
    rintro st H10 ⟨nn, rfl, hnn, S10⟩
    walk_at "rd"
    refine ⟨_, _, rfl, .inr (.inr ⟨fv, _, ss5, nn, [], rfl, S10, rfl, hnn, by decide, (fun v hv => nomatch hv), fun ⟨k, a1, a2⟩ => absurd a1 (Nat.not_lt_zero _), fun _ r H11 nr s11 hr11 => ?_⟩)⟩
    refine ⟨.inl ⟨rfl, _, SqL.of hr11⟩, ?_⟩
    walk_at "rd"
    refine ⟨r, _, _, rfl, rfl, hr11, (by decide), ?_⟩
    have hn11 : upd H11 r (.lst (cL ss5 [] (List.length ([] : List Int) - 1) ++ [V.non])) nn = some (.lst []) := (upd_ne (ne_of_none hnn nr)).trans (s11 _ _ hnn)
    generalize upd H11 r (.lst (cL ss5 [] (List.length ([] : List Int) - 1) ++ [V.non])) = H12 at hn11 ⊢
    clear S10 hnn hr11 s11 S5
    refine ⟨fun st Hz => st = [some (.ref l), some (.ref a), x2, x3, x4, x5, x6, x7, x8, some (.ref li), some (.ref lo), some (.ref hi), none, some (.int (10 ^ 195)), some (.ref fv), some (.ref nn)], ?_, ?_⟩
    · skip
      walk_at "rd"
      refine ⟨(by show 0 ≤ sizeLine; decide), fun z17_1 nz17_1 => ?_⟩
      have gz17_1 : upd H12 z17_1 (.lst []) z17_1 = some (.lst []) := upd_same
      have sz17_1 : Same H12 (upd H12 z17_1 (.lst [])) := same_upd nz17_1
      generalize upd H12 z17_1 (.lst []) = Hz17_1 at gz17_1 sz17_1 ⊢
      have tz17_1 : Same Hz17_1 Hz17_1 := Same.refl _
      have tz17_0 : Same H12 Hz17_1 := sz17_1.trans tz17_1
      refine ⟨_, _, dp_intsL (A := []) (tz17_0 _ _ hn11), dp_intsL (A := []) gz17_1, by decide +kernel, by decide +kernel, ?_⟩
      refine ⟨_, rfl, ?_⟩
      refine ite2 (fun z => absurd z (by decide +kernel)) (fun _ => ?_)
      exact rfl
    rintro st H13 rfl
    clear hn11
    refine ⟨fun st Hz => ∃ (tl : Addr) (ys : List V), st = [some (.ref l), some (.ref a), x2, some (.ref tl), x4, x5, x6, x7, x8, some (.ref li), some (.ref lo), some (.ref hi), none, some (.int (10 ^ 195)), some (.ref fv), some (.ref nn)] ∧ SidesAt Hz tl ys ssT, ?_, ?_⟩
    · skip
      walk_at "rd"
      refine ⟨(by show 3 ≤ sizeLine; decide), fun z18_1 nz18_1 => ?_⟩
      have gz18_1 : upd H13 z18_1 (.tup [V.int 0, .int 10, .str "up"]) z18_1 = some (.tup [V.int 0, .int 10, .str "up"]) := upd_same
      have sz18_1 : Same H13 (upd H13 z18_1 (.tup [V.int 0, .int 10, .str "up"])) := same_upd nz18_1
      generalize upd H13 z18_1 (.tup [V.int 0, .int 10, .str "up"]) = Hz18_1 at gz18_1 sz18_1 ⊢
      walk_at "rd"
      refine ⟨(by show 3 ≤ sizeLine; decide), fun z18_2 nz18_2 => ?_⟩
      have gz18_2 : upd Hz18_1 z18_2 (.tup [V.int 3, .int 10, .str "down"]) z18_2 = some (.tup [V.int 3, .int 10, .str "down"]) := upd_same
      have sz18_2 : Same Hz18_1 (upd Hz18_1 z18_2 (.tup [V.int 3, .int 10, .str "down"])) := same_upd nz18_2
      generalize upd Hz18_1 z18_2 (.tup [V.int 3, .int 10, .str "down"]) = Hz18_2 at gz18_2 sz18_2 ⊢
      walk_at "rd"
      refine ⟨(by show 2 ≤ sizeLine; decide), fun z18_3 nz18_3 => ?_⟩
      have gz18_3 : upd Hz18_2 z18_3 (.lst [V.ref z18_1, .ref z18_2]) z18_3 = some (.lst [V.ref z18_1, .ref z18_2]) := upd_same
      have sz18_3 : Same Hz18_2 (upd Hz18_2 z18_3 (.lst [V.ref z18_1, .ref z18_2])) := same_upd nz18_3
      generalize upd Hz18_2 z18_3 (.lst [V.ref z18_1, .ref z18_2]) = Hz18_3 at gz18_3 sz18_3 ⊢
      have tz18_3 : Same Hz18_3 Hz18_3 := Same.refl _
      have tz18_2 : Same Hz18_2 Hz18_3 := sz18_3.trans tz18_3
      have tz18_1 : Same Hz18_1 Hz18_3 := sz18_2.trans tz18_2
      have tz18_0 : Same H13 Hz18_3 := sz18_1.trans tz18_1
      replace gz18_1 := tz18_1 _ _ gz18_1
      replace gz18_2 := tz18_2 _ _ gz18_2
      have SZ : SidesAt Hz18_3 z18_3 [V.ref z18_1, V.ref z18_2] ssT := (show SdQ (10 ^ 30) _ _ _ from ((sdq_nil.snoc (d := ⟨0, 10, "up"⟩) gz18_1 ⟨⟨by decide, by decide, by decide, by decide, .inr (.inl rfl)⟩, by decide⟩).snoc (d := ⟨3, 10, "down"⟩) gz18_2 ⟨⟨by decide, by decide, by decide, by decide, .inl rfl⟩, by decide⟩)).sides gz18_3 (by decide) (by decide)
      exact ⟨z18_3, _, rfl, SZ⟩
    rintro st H14 ⟨tl, zs, rfl, ST⟩
    refine ⟨fun st Hz => st = [some (.ref l), some (.ref a), x2, some (.ref tl), x4, x5, x6, x7, x8, some (.ref li), some (.ref lo), some (.ref hi), none, some (.int (10 ^ 195)), some (.ref fv), some (.ref nn)] ∧ Same H14 Hz, ?_, ?_⟩
    · skip
      walk_at "rd"
      refine ⟨(by show 0 ≤ sizeLine; decide), fun z19_1 nz19_1 => ?_⟩
      have gz19_1 : upd H14 z19_1 (.lst []) z19_1 = some (.lst []) := upd_same
      have sz19_1 : Same H14 (upd H14 z19_1 (.lst [])) := same_upd nz19_1
      generalize upd H14 z19_1 (.lst []) = Hz19_1 at gz19_1 sz19_1 ⊢
      have tz19_1 : Same Hz19_1 Hz19_1 := Same.refl _
      have tz19_0 : Same H14 Hz19_1 := sz19_1.trans tz19_1
      refine ⟨_, _, rfl, .inr (.inr ⟨tl, _, ssT, z19_1, ([] : List Int), rfl, ST.same tz19_0, rfl, gz19_1, by decide, by decide +kernel, fun Hc8 sc8 => ?_⟩)⟩
      rw [show fV ssT ([] : List Int) (List.length (([] : List Int) : List Int) - 1) = _ from (rfl : fV ssT [] 0 = .non)]
      refine ⟨fun z => V.noConfusion z, fun _ => ?_⟩
      refine ⟨rfl, ?_⟩
      refine ⟨_, rfl, ?_⟩
      refine ite2 (fun z => absurd z (by decide +kernel)) (fun _ => ?_)
      walk_at "rd"
      refine ⟨(by show 0 ≤ sizeLine; decide), fun z20_1 nz20_1 => ?_⟩
      have gz20_1 : upd Hc8 z20_1 (.lst []) z20_1 = some (.lst []) := upd_same
      have sz20_1 : Same Hc8 (upd Hc8 z20_1 (.lst [])) := same_upd nz20_1
      generalize upd Hc8 z20_1 (.lst []) = Hz20_1 at gz20_1 sz20_1 ⊢
      have tz20_1 : Same Hz20_1 Hz20_1 := Same.refl _
      have tz20_0 : Same Hc8 Hz20_1 := sz20_1.trans tz20_1
      refine ⟨_, _, rfl, .inr (.inr ⟨tl, _, ssT, z20_1, ([] : List Int), rfl, ST.same (tz19_0.trans (sc8.trans tz20_0)), rfl, gz20_1, by decide, by decide +kernel, fun ⟨k, a1, a2⟩ => absurd a2 ((fun k (a1 : k < 0) => absurd a1 (Nat.not_lt_zero _)) k a1), fun _ r9 Hc9 nr9 sc9 hr9 => ?_⟩)⟩
      have hq9 : Hc9 r9 = some (.lst []) := hr9.trans (by rw [show cL ssT ([] : List Int) (List.length (([] : List Int) : List Int) - 1) = [] from (rfl : cL ssT [] 0 = [])])
      walk_at "rd"
      refine ⟨(by show 0 ≤ sizeLine; decide), fun z21_1 nz21_1 => ?_⟩
      have gz21_1 : upd Hc9 z21_1 (.lst []) z21_1 = some (.lst []) := upd_same
      have sz21_1 : Same Hc9 (upd Hc9 z21_1 (.lst [])) := same_upd nz21_1
      generalize upd Hc9 z21_1 (.lst []) = Hz21_1 at gz21_1 sz21_1 ⊢
      have tz21_1 : Same Hz21_1 Hz21_1 := Same.refl _
      have tz21_0 : Same Hc9 Hz21_1 := sz21_1.trans tz21_1
      refine ⟨_, _, dp_intsL (A := []) (tz21_0 _ _ hq9), dp_intsL (A := []) gz21_1, by decide +kernel, by decide +kernel, ?_⟩
      refine ⟨_, rfl, ?_⟩
      refine ite2 (fun z => absurd z (by decide +kernel)) (fun _ => ?_)
      walk_at "rd"
      refine ⟨(by show 1 ≤ sizeLine; decide), fun z22_1 nz22_1 => ?_⟩
      have gz22_1 : upd Hz21_1 z22_1 (.lst [V.int 5]) z22_1 = some (.lst [V.int 5]) := upd_same
      have sz22_1 : Same Hz21_1 (upd Hz21_1 z22_1 (.lst [V.int 5])) := same_upd nz22_1
      generalize upd Hz21_1 z22_1 (.lst [V.int 5]) = Hz22_1 at gz22_1 sz22_1 ⊢
      have tz22_1 : Same Hz22_1 Hz22_1 := Same.refl _
      have tz22_0 : Same Hz21_1 Hz22_1 := sz22_1.trans tz22_1
      refine ⟨_, _, rfl, .inr (.inr ⟨tl, _, ssT, z22_1, ([5] : List Int), rfl, ST.same (tz19_0.trans (sc8.trans (tz20_0.trans (sc9.trans (tz21_0.trans tz22_0))))), rfl, gz22_1, by decide, by decide +kernel, fun Hc10 sc10 => ?_⟩)⟩
      rw [show fV ssT ([5] : List Int) (List.length (([5] : List Int) : List Int) - 1) = _ from (rfl : fV ssT [5] 0 = .non)]
      refine ⟨fun z => V.noConfusion z, fun _ => ?_⟩
      refine ⟨rfl, ?_⟩
      refine ⟨_, rfl, ?_⟩
      refine ite2 (fun z => absurd z (by decide +kernel)) (fun _ => ?_)
      walk_at "rd"
      refine ⟨(by show 1 ≤ sizeLine; decide), fun z23_1 nz23_1 => ?_⟩
      have gz23_1 : upd Hc10 z23_1 (.lst [V.int 5]) z23_1 = some (.lst [V.int 5]) := upd_same
      have sz23_1 : Same Hc10 (upd Hc10 z23_1 (.lst [V.int 5])) := same_upd nz23_1
      generalize upd Hc10 z23_1 (.lst [V.int 5]) = Hz23_1 at gz23_1 sz23_1 ⊢
      have tz23_1 : Same Hz23_1 Hz23_1 := Same.refl _
      have tz23_0 : Same Hc10 Hz23_1 := sz23_1.trans tz23_1
      refine ⟨_, _, rfl, .inr (.inr ⟨tl, _, ssT, z23_1, ([5] : List Int), rfl, ST.same (tz19_0.trans (sc8.trans (tz20_0.trans (sc9.trans (tz21_0.trans (tz22_0.trans (sc10.trans tz23_0))))))), rfl, gz23_1, by decide, by decide +kernel, fun ⟨k, a1, a2⟩ => absurd a2 ((fun k (a1 : k < 0) => absurd a1 (Nat.not_lt_zero _)) k a1), fun _ r11 Hc11 nr11 sc11 hr11 => ?_⟩)⟩
      have hq11 : Hc11 r11 = some (.lst []) := hr11.trans (by rw [show cL ssT ([5] : List Int) (List.length (([5] : List Int) : List Int) - 1) = [] from (rfl : cL ssT [5] 0 = [])])
      walk_at "rd"
      refine ⟨(by show 0 ≤ sizeLine; decide), fun z24_1 nz24_1 => ?_⟩
      have gz24_1 : upd Hc11 z24_1 (.lst []) z24_1 = some (.lst []) := upd_same
      have sz24_1 : Same Hc11 (upd Hc11 z24_1 (.lst [])) := same_upd nz24_1
      generalize upd Hc11 z24_1 (.lst []) = Hz24_1 at gz24_1 sz24_1 ⊢
      have tz24_1 : Same Hz24_1 Hz24_1 := Same.refl _
      have tz24_0 : Same Hc11 Hz24_1 := sz24_1.trans tz24_1
      refine ⟨_, _, dp_intsL (A := []) (tz24_0 _ _ hq11), dp_intsL (A := []) gz24_1, by decide +kernel, by decide +kernel, ?_⟩
      refine ⟨_, rfl, ?_⟩
      refine ite2 (fun z => absurd z (by decide +kernel)) (fun _ => ?_)
      exact ⟨rfl, (tz19_0.trans (sc8.trans (tz20_0.trans (sc9.trans (tz21_0.trans (tz22_0.trans (sc10.trans (tz23_0.trans (sc11.trans tz24_0)))))))))⟩
    rintro st H15 ⟨rfl, s15⟩
    replace ST := ST.same s15
    clear s15
    walk_at "rd"
    refine ⟨(by show 6 ≤ sizeLine; decide), fun z25_1 nz25_1 => ?_⟩
    have gz25_1 : upd H15 z25_1 (.lst [V.int 7, .int 10, .int 3, .int 10, .int 13, .int 20]) z25_1 = some (.lst [V.int 7, .int 10, .int 3, .int 10, .int 13, .int 20]) := upd_same
    have sz25_1 : Same H15 (upd H15 z25_1 (.lst [V.int 7, .int 10, .int 3, .int 10, .int 13, .int 20])) := same_upd nz25_1
    generalize upd H15 z25_1 (.lst [V.int 7, .int 10, .int 3, .int 10, .int 13, .int 20]) = Hz25_1 at gz25_1 sz25_1 ⊢
    have tz25_1 : Same Hz25_1 Hz25_1 := Same.refl _
    have tz25_0 : Same H15 Hz25_1 := sz25_1.trans tz25_1
    refine ⟨_, _, rfl, .inr (.inr ⟨tl, _, ssT, z25_1, [7, 10, 3, 10, 13, 20], rfl, ST.same tz25_0, rfl, gz25_1, by decide, by decide +kernel, fun Hc12 sc12 => ?_⟩)⟩
    rw [show fV ssT [7, 10, 3, 10, 13, 20] (List.length ([7, 10, 3, 10, 13, 20] : List Int) - 1) = _ from ten_a]
    refine ⟨fun z => V.noConfusion z, fun _ => ?_⟩
    walk_at "rd"
    refine ⟨_, _, .int _, .int _, by decide +kernel, by decide +kernel, ?_⟩
    refine ⟨_, rfl, ?_⟩
    refine ite2 (fun _ => ?_) (fun z => absurd (by decide +kernel) z)
    walk_at "rd"
    refine ⟨(by show 4 ≤ sizeLine; decide), fun z26_1 nz26_1 => ?_⟩
    have gz26_1 : upd Hc12 z26_1 (.lst [V.int 7, .int 10, .int 3, .int 10]) z26_1 = some (.lst [V.int 7, .int 10, .int 3, .int 10]) := upd_same
    have sz26_1 : Same Hc12 (upd Hc12 z26_1 (.lst [V.int 7, .int 10, .int 3, .int 10])) := same_upd nz26_1
    generalize upd Hc12 z26_1 (.lst [V.int 7, .int 10, .int 3, .int 10]) = Hz26_1 at gz26_1 sz26_1 ⊢
    have tz26_1 : Same Hz26_1 Hz26_1 := Same.refl _
    have tz26_0 : Same Hc12 Hz26_1 := sz26_1.trans tz26_1
    have ten_n : ∀ k, k < 3 → cO ssT [7, 10, 3, 10] k ≠ none := fun k hk => by rw [ten_o k hk]; exact fun z => nomatch z
    refine ⟨_, _, rfl, .inr (.inr ⟨tl, _, ssT, z26_1, [7, 10, 3, 10], rfl, ST.same (tz25_0.trans (sc12.trans tz26_0)), rfl, gz26_1, by decide, by decide +kernel, fun ⟨k, a1, a2⟩ => absurd a2 (ten_n k a1), fun _ r13 Hc13 nr13 sc13 hr13 => ?_⟩)⟩
    have hq13 : Hc13 r13 = some (.lst [V.int 1, .int 1, .int 1]) := hr13.trans (by rw [show cL ssT [7, 10, 3, 10] (List.length ([7, 10, 3, 10] : List Int) - 1) = [V.int 1, .int 1, .int 1] from ten_c])
    walk_at "rd"
    refine ⟨(by show 3 ≤ sizeLine; decide), fun z27_1 nz27_1 => ?_⟩
    have gz27_1 : upd Hc13 z27_1 (.lst [V.int 1, .int 1, .int 1]) z27_1 = some (.lst [V.int 1, .int 1, .int 1]) := upd_same
    have sz27_1 : Same Hc13 (upd Hc13 z27_1 (.lst [V.int 1, .int 1, .int 1])) := same_upd nz27_1
    generalize upd Hc13 z27_1 (.lst [V.int 1, .int 1, .int 1]) = Hz27_1 at gz27_1 sz27_1 ⊢
    have tz27_1 : Same Hz27_1 Hz27_1 := Same.refl _
    have tz27_0 : Same Hc13 Hz27_1 := sz27_1.trans tz27_1
    refine ⟨_, _, dp_intsL (A := [1, 1, 1]) (tz27_0 _ _ hq13), dp_intsL (A := [1, 1, 1]) gz27_1, by decide +kernel, by decide +kernel, ?_⟩
    rw [show PyData.eqv (.list (([1, 1, 1] : List Int).map PyData.int)) (.list (([1, 1, 1] : List Int).map PyData.int)) = true by decide +kernel]
    exact q _
end
end HT
namespace HT
open PySem L2
section
variable {P : Program} {w : World} {K : PySem.W.Frag} {mg : Str → Option Value} {base : Heap}
/-- a def's promise among errors where none comes -/
theorem of_x {k : Nat} {f : Addr} {fd : FuncData} {ps : List Str} {sp : Sp} (F : FnOk P w K mg base (L2.CX P w) k f fd ps sp) : FnOk P w K mg base CX0 k f fd ps (fun vs H Q _ => sp vs H Q fun _ _ _ => False) :=
  ⟨fun vs H Q E h => F.len vs H Q _ h, fun A outer s0 H args us vs Q E hr he hb hv hs => codeAny_mono (F.run A outer s0 H args us vs Q _ hr he hb hv hs) fun r s' h => by
    unfold CR at h ⊢
    split at h
    · exact h
    · exact h
    · obtain ⟨_, _, _, _, _, _, _, _, _, _, _, _, z⟩ := h
      exact z.elim⟩
end
end HT
namespace HT
open PySem L2
section
variable {P : Program} {w : World} {K : PySem.W.Frag} {mg : Str → Option Value} {base : Heap} {aM fI fB fV fC fG fF : Addr} {dI dB dV dC dG dF : FuncData}
theorem ok_goes_up {f : Addr} {fd : FuncData} (F : Fun K "_goes_up" "_goes_up" s_goes_up f fd) : FnOk P w K mg base CX0 1 f fd ["mode", "step", "figure", "rest"] spGo := by
  refine F.ok sc_goes_up (fun vs H Q E h => ?_) (fun cdv A outer s H vs Q E hr h => ?_)
  · obtain ⟨m, s, q, r, rfl, _⟩ := h
    rfl
  · obtain ⟨m, s, fg, r, rfl, q⟩ := h
    refine ⟨_, pss_cons (ps_if (pt_cmpR op_eq (pv 0) pe_str (nomark _)) (pss_one (ps_ret pe_bl)) pss_nil)
      (pss_cons (ps_if (pt_cmpR op_eq (pv 0) pe_str (nomark _)) (pss_one (ps_ret (pe_cmpR op_gt (pv 3) pe_int (nomark _)))) pss_nil)
      (pss_cons (ps_if (pt_cmpR op_ne (pe_op op_mul pe_int (pv 3)) (pv 1) (nomark _)) (pss_one (ps_ret (pe_cmpR op_gt (pe_op op_mul pe_int (pv 3)) (pv 1) (nomark _)))) pss_nil)
      (pss_cons (ps_if (pt_cmpR op_eq (pv 0) pe_str (nomark _)) (pss_one (ps_ret (pe_cmpR op_eq (pe_op op_mod (pv 2) pe_int) pe_int (nomark _)))) pss_nil)
      (pss_one (ps_ret (pe_cmpR op_eq (pv 0) pe_str (nomark _))))))), ?_⟩
    unfold goesUp at q
    walk_at "rd"
    refine ⟨rfl, ?_⟩
    walk_at "rd"
    refine ite2 (fun h => ?_) (fun h1 => ?_)
    · rw [if_pos (str_t h)] at q
      exact q
    rw [if_neg (str_f h1)] at q
    walk_at "rd"
    refine ⟨rfl, ?_⟩
    walk_at "rd"
    refine ite2 (fun h => ?_) (fun h2 => ?_)
    · rw [if_pos (str_t h)] at q
      walk_at "rd"
      exact q
    rw [if_neg (str_f h2)] at q
    walk_at "rd"
    refine ⟨.inl ⟨by decide, by decide⟩, ?_⟩
    walk_at "rd"
    refine ⟨rfl, ?_⟩
    walk_at "rd"
    refine ite2 (fun h => ?_) (fun h3 => ?_)
    · rw [if_neg (int_f (not_t h))] at q
      walk_at "rd"
      refine ⟨.inl ⟨by decide, by decide⟩, ?_⟩
      walk_at "rd"
      exact q
    rw [if_pos (int_t (not_f h3))] at q
    walk_at "rd"
    refine ⟨rfl, ?_⟩
    walk_at "rd"
    refine ite2 (fun h => ?_) (fun h4 => ?_)
    · rw [if_pos (str_t h), ← dec_int] at q
      walk_at "rd"
      refine ⟨(by show (0 : Int) < 2; decide), ?_⟩
      walk_at "rd"
      exact ⟨rfl, q⟩
    · rw [if_neg (str_f h4), ← dec_str] at q
      walk_at "rd"
      exact ⟨rfl, q⟩
theorem ok_figure {f : Addr} {fd : FuncData} (F : Fun K "_figure" "_figure" s_figure f fd) (T : SideT K mg aM)
    (G : Cal P w K mg base "_goes_up" 1 ["mode", "step", "figure", "rest"] spGo fG dG) : FnOk P w K mg base CX0 2 f fd ["side", "value"] spFig := by
  refine F.ok sc_figure (fun vs H Q E h => ?_) (fun cdv A outer s H vs Q E hr h => ?_)
  · obtain ⟨p, o, s, m, v, rfl, _⟩ := h
    rfl
  · obtain ⟨p, o, s, m, v, rfl, hp, S, hv, q⟩ := h
    have nd := sc_figure.nd
    refine ⟨_, pss_cons (ps_asg (pv 0) (pg_tup (by rfl) (pgs_cons (pg_name (i := 2) nd rfl (Or.inl rfl)) (pgs_cons (pg_name (i := 3) nd rfl (Or.inl rfl)) (pgs_cons (pg_name (i := 4) nd rfl (Or.inl rfl)) pgs_nil)))))
      (pss_cons (ps_asg (pe_callB call_divmodW (by rfl) T.dm (by decide +kernel) (pa_cons (pe_op op_sub (pv 1) (pv 2)) (pa_cons (pv 3) pa_nil))) (pg_tup (by rfl) (pgs_cons (pg_name (i := 5) nd rfl (Or.inl rfl)) (pgs_cons (pg_name (i := 6) nd rfl (Or.inl rfl)) pgs_nil))))
      (pss_cons (ps_if (pt_val (pcl G hr (by decide) (by rfl) (pa_cons (pv 4) (pa_cons (pv 3) (pa_cons (pv 5) (pa_cons (pv 6) pa_nil)))))) (pss_one (ps_ret (pe_op op_add (pv 5) pe_int))) pss_nil)
      (pss_one (ps_ret (pv 5))))), ?_⟩
    walk_at "rd"
    refine ⟨p, _, rfl, SqT.of hp, rfl, _, _, rfl, _, _, rfl, _, _, rfl, rfl, ?_⟩
    walk_at "rd"
    refine ⟨_, _, rfl, divp S.s0 ⟨S.o0, S.o1⟩ hv, fun d nd' => ?_⟩
    refine ⟨d, _, rfl, SqT.of upd_same, rfl, _, _, rfl, _, _, rfl, rfl, ?_⟩
    have sm : Same H (upd H d (.tup [.int ((v - o) / s), .int ((v - o) % s)])) := fun b u z => by rw [upd_ne (ne_of_none z nd')]; exact z
    have q' : Q (.int (figM o s m v)) (upd H d (.tup [.int ((v - o) / s), .int ((v - o) % s)])) := q _ sm
    unfold figM at q'
    walk_at "rd"
    refine ⟨_, _, _, _, rfl, ?_⟩
    walk_at "rd"
    refine ite2 (fun h => ?_) (fun h => ?_)
    · rw [if_pos h] at q'
      walk_at "rd"
      exact q'
    · rw [if_neg h] at q'
      walk_at "rd"
      exact q'
end
end HT
namespace HT
open PySem L2
section
variable {P : Program} {w : World} {K : PySem.W.Frag} {mg : Str → Option Value} {base : Heap} {fF : Addr} {dF : FuncData}
theorem ok_written {f : Addr} {fd : FuncData} (F : Fun K "written" "written" s_written f fd) (G : Cal P w K mg base "_figure" 2 ["side", "value"] spFig fF dF) : FnOk P w K mg base CX0 3 f fd ["side", "value"] spDue := by
  refine F.ok sc_written (fun vs H Q E h => ?_) (fun cdv A outer s H vs Q E hr h => ?_)
  · obtain ⟨p, o, s, m, v, rfl, _⟩ := h
    rfl
  · obtain ⟨p, o, s, m, v, rfl, hp, S, hv, q⟩ := h
    have nd := sc_written.nd
    refine ⟨_, pss_cons (ps_asg (pv 0) (pg_tup (by rfl) (pgs_cons (pg_name (i := 2) nd rfl (Or.inl rfl)) (pgs_cons (pg_name (i := 3) nd rfl (Or.inl rfl)) (pgs_cons (pg_name (i := 4) nd rfl (Or.inl rfl)) pgs_nil)))))
      (pss_one (ps_ret (pe_op op_add (pv 2) (pe_op op_mulW (pv 3) (pcl G hr (by decide) (by rfl) (pa_cons (pv 0) (pa_cons (pv 1) pa_nil))))))), ?_⟩
    walk_at "rd"
    refine ⟨p, _, rfl, SqT.of hp, rfl, _, _, rfl, _, _, rfl, _, _, rfl, rfl, ?_⟩
    walk_at "rd"
    refine ⟨p, o, s, m, v, rfl, hp, S, hv, fun H' sm => ?_⟩
    walk_at "rd"
    have b1 := fig_bd S hv
    have b2 := S.s0
    have b3 := S.s1
    refine ⟨mulW (by omega) (by omega), ?_⟩
    walk_at "rd"
    exact q H' sm
end
end HT
namespace HT
open PySem L2
def errB (K : PySem.W.Frag) (C : Addr) : Bool := (PySem.W.clsIn K C).isSome && (decide (PySem.W.findIn K (.ref C) "__getattribute__" = some (some (.builtin "BaseException.__getattribute__"))) && (decide (PySem.W.findIn K (.ref C) "__getattr__" = some none) && (decide (PySem.W.subIn K (.ref C) (.type "BaseException") = some true) &&
  (decide (PySem.W.findIn K (.ref C) "__class__" = some (some (.builtin "object.__class__"))) && decide (PySem.W.mroIn K C (.type "object") = some true)))))
theorem errB_ok {K : PySem.W.Frag} {C : Addr} (h : errB K C = true) : ErrC K C := by
  unfold errB at h
  simp only [Bool.and_eq_true, decide_eq_true_eq] at h
  obtain ⟨a, b, c, d, e, f⟩ := h
  exact ⟨a, b, c, d, e, f⟩
def exB (K : PySem.W.Frag) (C : Addr) : Bool := PySem.W.excIn K C [.type "ValueError", .type "Exception", .type "BaseException", .type "object"] "ValueError.__new__" && PySem.W.keepIn K (.ref C)
def erT (K : PySem.W.Frag) (C : Nat → Addr) (B : Addr) (i : Nat) : Bool := errB K (C i) && (exB K (C i) && (decide (PySem.W.kitOne K (.ref (C i)) (.type "ValueError") = some true) && (decide (PySem.W.subIn K (.ref (C i)) (.type "BaseException") = some true) && (decide (PySem.W.typeIn K (.ref (C i)) = some (.type "type")) && (decide (PySem.W.exmOne K (.ref (C i)) (.ref B) = some true) &&
  (List.range 5).all fun j => decide (PySem.W.kitOne K (.ref (C i)) (.ref (C j)) = some (decide (i = j))))))))
def cAt (l : List Addr) (i : Nat) : Addr := l.getD i 0
theorem all_of {p : Nat → Bool} {n : Nat} (h : (List.range n).all p = true) {i : Nat} (hi : i < n) : p i = true := List.all_eq_true.mp h i (List.mem_range.mpr hi)
theorem all_mk {l : PySem.W.OpenLaw} {w : World} {K : PySem.W.Frag} {h : Heap} {mg : Str → Option Value} {fa aM c0 c1 c2 c3 c4 cB f_is_int f_is_int_between f_check_value f_check_side f_is_side f_figure f_goes_up f_written f_below f_threshold f_check_sides f_period_of f_moved f_common_period f_along f_check_numbers f_before f_can_come f_fewest_handovers f_fewest f_runs f_widened f_ends f_within f_holds f_fault f_hops f_check_seen f_L_source f_L_draw f_L_pick f_L_great f_L_ten f_L_step f_L_side f_L_sides f_L_seen f_L_edge f_L_least f_L_wider f_L_divisor f_L_period f_L_before f_L_holds f_L_told f_L_count f_L_due f_L_word f_L_doors_right f_law : Addr} (X : K.In h) (G : h.Ns mainGlobals mg) (hfa : mg "law" = some (.ref fa))
    {odM od_is_int an_is_int od_is_int_between an_is_int_between od_check_value an_check_value od_check_side an_check_side od_is_side an_is_side od_figure an_figure od_goes_up an_goes_up od_written an_written od_below an_below od_threshold an_threshold od_check_sides an_check_sides od_period_of an_period_of od_moved an_moved od_common_period an_common_period od_along an_along od_check_numbers an_check_numbers od_before an_before od_can_come an_can_come od_fewest_handovers an_fewest_handovers od_fewest an_fewest od_runs an_runs od_widened an_widened od_ends an_ends od_within an_within od_holds an_holds od_fault an_fault od_hops an_hops od_check_seen an_check_seen od_L_source an_L_source od_L_draw an_L_draw od_L_pick an_L_pick od_L_great an_L_great od_L_ten an_L_ten od_L_step an_L_step od_L_side an_L_side od_L_sides an_L_sides od_L_seen an_L_seen od_L_edge an_L_edge od_L_least an_L_least od_L_wider an_L_wider od_L_divisor an_L_divisor od_L_period an_L_period od_L_before an_L_before od_L_holds an_L_holds od_L_told an_L_told od_L_count an_L_count od_L_due an_L_due od_L_word an_L_word od_L_doors_right an_L_doors_right od_law an_law : Option Addr} {slM sl_is_int sl_is_int_between sl_check_value sl_check_side sl_is_side sl_figure sl_goes_up sl_written sl_below sl_threshold sl_check_sides sl_period_of sl_moved sl_common_period sl_along sl_check_numbers sl_before sl_can_come sl_fewest_handovers sl_fewest sl_runs sl_widened sl_ends sl_within sl_holds sl_fault sl_hops sl_check_seen sl_L_source sl_L_draw sl_L_pick sl_L_great sl_L_ten sl_L_step sl_L_side sl_L_sides sl_L_seen sl_L_edge sl_L_least sl_L_wider sl_L_divisor sl_L_period sl_L_before sl_L_holds sl_L_told sl_L_count sl_L_due sl_L_word sl_L_doors_right sl_law : Array (Option Value)} {nM : Nat} {itsM : Array Value} {tMS tMH tMN : Tok} {oc_is_int kV_is_int dc_is_int pm_is_int cd_is_int ct_is_int oc_is_int_between kV_is_int_between dc_is_int_between pm_is_int_between cd_is_int_between ct_is_int_between oc_check_value kV_check_value dc_check_value pm_check_value cd_check_value ct_check_value oc_check_side kV_check_side dc_check_side pm_check_side cd_check_side ct_check_side oc_is_side kV_is_side dc_is_side pm_is_side cd_is_side ct_is_side oc_figure kV_figure dc_figure pm_figure cd_figure ct_figure oc_goes_up kV_goes_up dc_goes_up pm_goes_up cd_goes_up ct_goes_up oc_written kV_written dc_written pm_written cd_written ct_written oc_below kV_below dc_below pm_below cd_below ct_below oc_threshold kV_threshold dc_threshold pm_threshold cd_threshold ct_threshold oc_check_sides kV_check_sides dc_check_sides pm_check_sides cd_check_sides ct_check_sides oc_period_of kV_period_of dc_period_of pm_period_of cd_period_of ct_period_of oc_moved kV_moved dc_moved pm_moved cd_moved ct_moved oc_common_period kV_common_period dc_common_period pm_common_period cd_common_period ct_common_period oc_along kV_along dc_along pm_along cd_along ct_along oc_check_numbers kV_check_numbers dc_check_numbers pm_check_numbers cd_check_numbers ct_check_numbers oc_before kV_before dc_before pm_before cd_before ct_before oc_can_come kV_can_come dc_can_come pm_can_come cd_can_come ct_can_come oc_fewest_handovers kV_fewest_handovers dc_fewest_handovers pm_fewest_handovers cd_fewest_handovers ct_fewest_handovers oc_fewest kV_fewest dc_fewest pm_fewest cd_fewest ct_fewest oc_runs kV_runs dc_runs pm_runs cd_runs ct_runs oc_widened kV_widened dc_widened pm_widened cd_widened ct_widened oc_ends kV_ends dc_ends pm_ends cd_ends ct_ends oc_within kV_within dc_within pm_within cd_within ct_within oc_holds kV_holds dc_holds pm_holds cd_holds ct_holds oc_fault kV_fault dc_fault pm_fault cd_fault ct_fault oc_hops kV_hops dc_hops pm_hops cd_hops ct_hops oc_check_seen kV_check_seen dc_check_seen pm_check_seen cd_check_seen ct_check_seen oc_L_source kV_L_source dc_L_source pm_L_source cd_L_source ct_L_source oc_L_draw kV_L_draw dc_L_draw pm_L_draw cd_L_draw ct_L_draw oc_L_pick kV_L_pick dc_L_pick pm_L_pick cd_L_pick ct_L_pick oc_L_great kV_L_great dc_L_great pm_L_great cd_L_great ct_L_great oc_L_ten kV_L_ten dc_L_ten pm_L_ten cd_L_ten ct_L_ten oc_L_step kV_L_step dc_L_step pm_L_step cd_L_step ct_L_step oc_L_side kV_L_side dc_L_side pm_L_side cd_L_side ct_L_side oc_L_sides kV_L_sides dc_L_sides pm_L_sides cd_L_sides ct_L_sides oc_L_seen kV_L_seen dc_L_seen pm_L_seen cd_L_seen ct_L_seen oc_L_edge kV_L_edge dc_L_edge pm_L_edge cd_L_edge ct_L_edge oc_L_least kV_L_least dc_L_least pm_L_least cd_L_least ct_L_least oc_L_wider kV_L_wider dc_L_wider pm_L_wider cd_L_wider ct_L_wider oc_L_divisor kV_L_divisor dc_L_divisor pm_L_divisor cd_L_divisor ct_L_divisor oc_L_period kV_L_period dc_L_period pm_L_period cd_L_period ct_L_period oc_L_before kV_L_before dc_L_before pm_L_before cd_L_before ct_L_before oc_L_holds kV_L_holds dc_L_holds pm_L_holds cd_L_holds ct_L_holds oc_L_told kV_L_told dc_L_told pm_L_told cd_L_told ct_L_told oc_L_count kV_L_count dc_L_count pm_L_count cd_L_count ct_L_count oc_L_due kV_L_due dc_L_due pm_L_due cd_L_due ct_L_due oc_L_word kV_L_word dc_L_word pm_L_word cd_L_word ct_L_word oc_L_doors_right kV_L_doors_right dc_L_doors_right pm_L_doors_right cd_L_doors_right ct_L_doors_right oc_law kV_law dc_law pm_law cd_law ct_law : Value}
    (a_is_int : PySem.W.nsIn K mainGlobals "is_int" = some (some (.ref f_is_int)))
    (l_is_int : K.lookup f_is_int = some ⟨oc_is_int, od_is_int, .func (PySem.W.fnOf "is_int" "is_int" (defArgs s_is_int) (defBody s_is_int) (defScope s_is_int) .none kV_is_int dc_is_int pm_is_int an_is_int cd_is_int ct_is_int), sl_is_int⟩)
    (c_is_int : PySem.W.codeIn K cd_is_int "is_int" = true) (k_is_int : PySem.W.keepIn K (.ref f_is_int) = true)
    (a_is_int_between : PySem.W.nsIn K mainGlobals "is_int_between" = some (some (.ref f_is_int_between)))
    (l_is_int_between : K.lookup f_is_int_between = some ⟨oc_is_int_between, od_is_int_between, .func (PySem.W.fnOf "is_int_between" "is_int_between" (defArgs s_is_int_between) (defBody s_is_int_between) (defScope s_is_int_between) .none kV_is_int_between dc_is_int_between pm_is_int_between an_is_int_between cd_is_int_between ct_is_int_between), sl_is_int_between⟩)
    (c_is_int_between : PySem.W.codeIn K cd_is_int_between "is_int_between" = true) (k_is_int_between : PySem.W.keepIn K (.ref f_is_int_between) = true)
    (a_check_value : PySem.W.nsIn K mainGlobals "check_value" = some (some (.ref f_check_value)))
    (l_check_value : K.lookup f_check_value = some ⟨oc_check_value, od_check_value, .func (PySem.W.fnOf "check_value" "check_value" (defArgs s_check_value) (defBody s_check_value) (defScope s_check_value) .none kV_check_value dc_check_value pm_check_value an_check_value cd_check_value ct_check_value), sl_check_value⟩)
    (c_check_value : PySem.W.codeIn K cd_check_value "check_value" = true) (k_check_value : PySem.W.keepIn K (.ref f_check_value) = true)
    (a_check_side : PySem.W.nsIn K mainGlobals "check_side" = some (some (.ref f_check_side)))
    (l_check_side : K.lookup f_check_side = some ⟨oc_check_side, od_check_side, .func (PySem.W.fnOf "check_side" "check_side" (defArgs s_check_side) (defBody s_check_side) (defScope s_check_side) .none kV_check_side dc_check_side pm_check_side an_check_side cd_check_side ct_check_side), sl_check_side⟩)
    (c_check_side : PySem.W.codeIn K cd_check_side "check_side" = true) (k_check_side : PySem.W.keepIn K (.ref f_check_side) = true)
    (a_is_side : PySem.W.nsIn K mainGlobals "is_side" = some (some (.ref f_is_side)))
    (l_is_side : K.lookup f_is_side = some ⟨oc_is_side, od_is_side, .func (PySem.W.fnOf "is_side" "is_side" (defArgs s_is_side) (defBody s_is_side) (defScope s_is_side) .none kV_is_side dc_is_side pm_is_side an_is_side cd_is_side ct_is_side), sl_is_side⟩)
    (c_is_side : PySem.W.codeIn K cd_is_side "is_side" = true) (k_is_side : PySem.W.keepIn K (.ref f_is_side) = true)
    (a_figure : PySem.W.nsIn K mainGlobals "_figure" = some (some (.ref f_figure)))
    (l_figure : K.lookup f_figure = some ⟨oc_figure, od_figure, .func (PySem.W.fnOf "_figure" "_figure" (defArgs s_figure) (defBody s_figure) (defScope s_figure) .none kV_figure dc_figure pm_figure an_figure cd_figure ct_figure), sl_figure⟩)
    (c_figure : PySem.W.codeIn K cd_figure "_figure" = true) (k_figure : PySem.W.keepIn K (.ref f_figure) = true)
    (a_goes_up : PySem.W.nsIn K mainGlobals "_goes_up" = some (some (.ref f_goes_up)))
    (l_goes_up : K.lookup f_goes_up = some ⟨oc_goes_up, od_goes_up, .func (PySem.W.fnOf "_goes_up" "_goes_up" (defArgs s_goes_up) (defBody s_goes_up) (defScope s_goes_up) .none kV_goes_up dc_goes_up pm_goes_up an_goes_up cd_goes_up ct_goes_up), sl_goes_up⟩)
    (c_goes_up : PySem.W.codeIn K cd_goes_up "_goes_up" = true) (k_goes_up : PySem.W.keepIn K (.ref f_goes_up) = true)
    (a_written : PySem.W.nsIn K mainGlobals "written" = some (some (.ref f_written)))
    (l_written : K.lookup f_written = some ⟨oc_written, od_written, .func (PySem.W.fnOf "written" "written" (defArgs s_written) (defBody s_written) (defScope s_written) .none kV_written dc_written pm_written an_written cd_written ct_written), sl_written⟩)
    (c_written : PySem.W.codeIn K cd_written "written" = true) (k_written : PySem.W.keepIn K (.ref f_written) = true)
    (a_below : PySem.W.nsIn K mainGlobals "_below" = some (some (.ref f_below)))
    (l_below : K.lookup f_below = some ⟨oc_below, od_below, .func (PySem.W.fnOf "_below" "_below" (defArgs s_below) (defBody s_below) (defScope s_below) .none kV_below dc_below pm_below an_below cd_below ct_below), sl_below⟩)
    (c_below : PySem.W.codeIn K cd_below "_below" = true) (k_below : PySem.W.keepIn K (.ref f_below) = true)
    (a_threshold : PySem.W.nsIn K mainGlobals "threshold" = some (some (.ref f_threshold)))
    (l_threshold : K.lookup f_threshold = some ⟨oc_threshold, od_threshold, .func (PySem.W.fnOf "threshold" "threshold" (defArgs s_threshold) (defBody s_threshold) (defScope s_threshold) .none kV_threshold dc_threshold pm_threshold an_threshold cd_threshold ct_threshold), sl_threshold⟩)
    (c_threshold : PySem.W.codeIn K cd_threshold "threshold" = true) (k_threshold : PySem.W.keepIn K (.ref f_threshold) = true)
    (a_check_sides : PySem.W.nsIn K mainGlobals "check_sides" = some (some (.ref f_check_sides)))
    (l_check_sides : K.lookup f_check_sides = some ⟨oc_check_sides, od_check_sides, .func (PySem.W.fnOf "check_sides" "check_sides" (defArgs s_check_sides) (defBody s_check_sides) (defScope s_check_sides) .none kV_check_sides dc_check_sides pm_check_sides an_check_sides cd_check_sides ct_check_sides), sl_check_sides⟩)
    (c_check_sides : PySem.W.codeIn K cd_check_sides "check_sides" = true) (k_check_sides : PySem.W.keepIn K (.ref f_check_sides) = true)
    (a_period_of : PySem.W.nsIn K mainGlobals "period_of" = some (some (.ref f_period_of)))
    (l_period_of : K.lookup f_period_of = some ⟨oc_period_of, od_period_of, .func (PySem.W.fnOf "period_of" "period_of" (defArgs s_period_of) (defBody s_period_of) (defScope s_period_of) .none kV_period_of dc_period_of pm_period_of an_period_of cd_period_of ct_period_of), sl_period_of⟩)
    (c_period_of : PySem.W.codeIn K cd_period_of "period_of" = true) (k_period_of : PySem.W.keepIn K (.ref f_period_of) = true)
    (a_moved : PySem.W.nsIn K mainGlobals "moved" = some (some (.ref f_moved)))
    (l_moved : K.lookup f_moved = some ⟨oc_moved, od_moved, .func (PySem.W.fnOf "moved" "moved" (defArgs s_moved) (defBody s_moved) (defScope s_moved) .none kV_moved dc_moved pm_moved an_moved cd_moved ct_moved), sl_moved⟩)
    (c_moved : PySem.W.codeIn K cd_moved "moved" = true) (k_moved : PySem.W.keepIn K (.ref f_moved) = true)
    (a_common_period : PySem.W.nsIn K mainGlobals "common_period" = some (some (.ref f_common_period)))
    (l_common_period : K.lookup f_common_period = some ⟨oc_common_period, od_common_period, .func (PySem.W.fnOf "common_period" "common_period" (defArgs s_common_period) (defBody s_common_period) (defScope s_common_period) .none kV_common_period dc_common_period pm_common_period an_common_period cd_common_period ct_common_period), sl_common_period⟩)
    (c_common_period : PySem.W.codeIn K cd_common_period "common_period" = true) (k_common_period : PySem.W.keepIn K (.ref f_common_period) = true)
    (a_along : PySem.W.nsIn K mainGlobals "along" = some (some (.ref f_along)))
    (l_along : K.lookup f_along = some ⟨oc_along, od_along, .func (PySem.W.fnOf "along" "along" (defArgs s_along) (defBody s_along) (defScope s_along) .none kV_along dc_along pm_along an_along cd_along ct_along), sl_along⟩)
    (c_along : PySem.W.codeIn K cd_along "along" = true) (k_along : PySem.W.keepIn K (.ref f_along) = true)
    (a_check_numbers : PySem.W.nsIn K mainGlobals "_check_numbers" = some (some (.ref f_check_numbers)))
    (l_check_numbers : K.lookup f_check_numbers = some ⟨oc_check_numbers, od_check_numbers, .func (PySem.W.fnOf "_check_numbers" "_check_numbers" (defArgs s_check_numbers) (defBody s_check_numbers) (defScope s_check_numbers) .none kV_check_numbers dc_check_numbers pm_check_numbers an_check_numbers cd_check_numbers ct_check_numbers), sl_check_numbers⟩)
    (c_check_numbers : PySem.W.codeIn K cd_check_numbers "_check_numbers" = true) (k_check_numbers : PySem.W.keepIn K (.ref f_check_numbers) = true)
    (a_before : PySem.W.nsIn K mainGlobals "before" = some (some (.ref f_before)))
    (l_before : K.lookup f_before = some ⟨oc_before, od_before, .func (PySem.W.fnOf "before" "before" (defArgs s_before) (defBody s_before) (defScope s_before) .none kV_before dc_before pm_before an_before cd_before ct_before), sl_before⟩)
    (c_before : PySem.W.codeIn K cd_before "before" = true) (k_before : PySem.W.keepIn K (.ref f_before) = true)
    (a_can_come : PySem.W.nsIn K mainGlobals "can_come" = some (some (.ref f_can_come)))
    (l_can_come : K.lookup f_can_come = some ⟨oc_can_come, od_can_come, .func (PySem.W.fnOf "can_come" "can_come" (defArgs s_can_come) (defBody s_can_come) (defScope s_can_come) .none kV_can_come dc_can_come pm_can_come an_can_come cd_can_come ct_can_come), sl_can_come⟩)
    (c_can_come : PySem.W.codeIn K cd_can_come "can_come" = true) (k_can_come : PySem.W.keepIn K (.ref f_can_come) = true)
    (a_fewest_handovers : PySem.W.nsIn K mainGlobals "fewest_handovers" = some (some (.ref f_fewest_handovers)))
    (l_fewest_handovers : K.lookup f_fewest_handovers = some ⟨oc_fewest_handovers, od_fewest_handovers, .func (PySem.W.fnOf "fewest_handovers" "fewest_handovers" (defArgs s_fewest_handovers) (defBody s_fewest_handovers) (defScope s_fewest_handovers) .none kV_fewest_handovers dc_fewest_handovers pm_fewest_handovers an_fewest_handovers cd_fewest_handovers ct_fewest_handovers), sl_fewest_handovers⟩)
    (c_fewest_handovers : PySem.W.codeIn K cd_fewest_handovers "fewest_handovers" = true) (k_fewest_handovers : PySem.W.keepIn K (.ref f_fewest_handovers) = true)
    (a_fewest : PySem.W.nsIn K mainGlobals "_fewest" = some (some (.ref f_fewest)))
    (l_fewest : K.lookup f_fewest = some ⟨oc_fewest, od_fewest, .func (PySem.W.fnOf "_fewest" "_fewest" (defArgs s_fewest) (defBody s_fewest) (defScope s_fewest) .none kV_fewest dc_fewest pm_fewest an_fewest cd_fewest ct_fewest), sl_fewest⟩)
    (c_fewest : PySem.W.codeIn K cd_fewest "_fewest" = true) (k_fewest : PySem.W.keepIn K (.ref f_fewest) = true)
    (a_runs : PySem.W.nsIn K mainGlobals "_runs" = some (some (.ref f_runs)))
    (l_runs : K.lookup f_runs = some ⟨oc_runs, od_runs, .func (PySem.W.fnOf "_runs" "_runs" (defArgs s_runs) (defBody s_runs) (defScope s_runs) .none kV_runs dc_runs pm_runs an_runs cd_runs ct_runs), sl_runs⟩)
    (c_runs : PySem.W.codeIn K cd_runs "_runs" = true) (k_runs : PySem.W.keepIn K (.ref f_runs) = true)
    (a_widened : PySem.W.nsIn K mainGlobals "_widened" = some (some (.ref f_widened)))
    (l_widened : K.lookup f_widened = some ⟨oc_widened, od_widened, .func (PySem.W.fnOf "_widened" "_widened" (defArgs s_widened) (defBody s_widened) (defScope s_widened) .none kV_widened dc_widened pm_widened an_widened cd_widened ct_widened), sl_widened⟩)
    (c_widened : PySem.W.codeIn K cd_widened "_widened" = true) (k_widened : PySem.W.keepIn K (.ref f_widened) = true)
    (a_ends : PySem.W.nsIn K mainGlobals "_ends" = some (some (.ref f_ends)))
    (l_ends : K.lookup f_ends = some ⟨oc_ends, od_ends, .func (PySem.W.fnOf "_ends" "_ends" (defArgs s_ends) (defBody s_ends) (defScope s_ends) .none kV_ends dc_ends pm_ends an_ends cd_ends ct_ends), sl_ends⟩)
    (c_ends : PySem.W.codeIn K cd_ends "_ends" = true) (k_ends : PySem.W.keepIn K (.ref f_ends) = true)
    (a_within : PySem.W.nsIn K mainGlobals "_within" = some (some (.ref f_within)))
    (l_within : K.lookup f_within = some ⟨oc_within, od_within, .func (PySem.W.fnOf "_within" "_within" (defArgs s_within) (defBody s_within) (defScope s_within) .none kV_within dc_within pm_within an_within cd_within ct_within), sl_within⟩)
    (c_within : PySem.W.codeIn K cd_within "_within" = true) (k_within : PySem.W.keepIn K (.ref f_within) = true)
    (a_holds : PySem.W.nsIn K mainGlobals "_holds" = some (some (.ref f_holds)))
    (l_holds : K.lookup f_holds = some ⟨oc_holds, od_holds, .func (PySem.W.fnOf "_holds" "_holds" (defArgs s_holds) (defBody s_holds) (defScope s_holds) .none kV_holds dc_holds pm_holds an_holds cd_holds ct_holds), sl_holds⟩)
    (c_holds : PySem.W.codeIn K cd_holds "_holds" = true) (k_holds : PySem.W.keepIn K (.ref f_holds) = true)
    (a_fault : PySem.W.nsIn K mainGlobals "fault" = some (some (.ref f_fault)))
    (l_fault : K.lookup f_fault = some ⟨oc_fault, od_fault, .func (PySem.W.fnOf "fault" "fault" (defArgs s_fault) (defBody s_fault) (defScope s_fault) .none kV_fault dc_fault pm_fault an_fault cd_fault ct_fault), sl_fault⟩)
    (c_fault : PySem.W.codeIn K cd_fault "fault" = true) (k_fault : PySem.W.keepIn K (.ref f_fault) = true)
    (a_hops : PySem.W.nsIn K mainGlobals "hops" = some (some (.ref f_hops)))
    (l_hops : K.lookup f_hops = some ⟨oc_hops, od_hops, .func (PySem.W.fnOf "hops" "hops" (defArgs s_hops) (defBody s_hops) (defScope s_hops) .none kV_hops dc_hops pm_hops an_hops cd_hops ct_hops), sl_hops⟩)
    (c_hops : PySem.W.codeIn K cd_hops "hops" = true) (k_hops : PySem.W.keepIn K (.ref f_hops) = true)
    (a_check_seen : PySem.W.nsIn K mainGlobals "_check_seen" = some (some (.ref f_check_seen)))
    (l_check_seen : K.lookup f_check_seen = some ⟨oc_check_seen, od_check_seen, .func (PySem.W.fnOf "_check_seen" "_check_seen" (defArgs s_check_seen) (defBody s_check_seen) (defScope s_check_seen) .none kV_check_seen dc_check_seen pm_check_seen an_check_seen cd_check_seen ct_check_seen), sl_check_seen⟩)
    (c_check_seen : PySem.W.codeIn K cd_check_seen "_check_seen" = true) (k_check_seen : PySem.W.keepIn K (.ref f_check_seen) = true)
    (a_L_source : PySem.W.nsIn K mainGlobals "_law_source" = some (some (.ref f_L_source)))
    (l_L_source : K.lookup f_L_source = some ⟨oc_L_source, od_L_source, .func (PySem.W.fnOf "_law_source" "_law_source" (defArgs s_L_source) (defBody s_L_source) (defScope s_L_source) .none kV_L_source dc_L_source pm_L_source an_L_source cd_L_source ct_L_source), sl_L_source⟩)
    (c_L_source : PySem.W.codeIn K cd_L_source "_law_source" = true) (k_L_source : PySem.W.keepIn K (.ref f_L_source) = true)
    (a_L_draw : PySem.W.nsIn K mainGlobals "_law_draw" = some (some (.ref f_L_draw)))
    (l_L_draw : K.lookup f_L_draw = some ⟨oc_L_draw, od_L_draw, .func (PySem.W.fnOf "_law_draw" "_law_draw" (defArgs s_L_draw) (defBody s_L_draw) (defScope s_L_draw) .none kV_L_draw dc_L_draw pm_L_draw an_L_draw cd_L_draw ct_L_draw), sl_L_draw⟩)
    (c_L_draw : PySem.W.codeIn K cd_L_draw "_law_draw" = true) (k_L_draw : PySem.W.keepIn K (.ref f_L_draw) = true)
    (a_L_pick : PySem.W.nsIn K mainGlobals "_law_pick" = some (some (.ref f_L_pick)))
    (l_L_pick : K.lookup f_L_pick = some ⟨oc_L_pick, od_L_pick, .func (PySem.W.fnOf "_law_pick" "_law_pick" (defArgs s_L_pick) (defBody s_L_pick) (defScope s_L_pick) .none kV_L_pick dc_L_pick pm_L_pick an_L_pick cd_L_pick ct_L_pick), sl_L_pick⟩)
    (c_L_pick : PySem.W.codeIn K cd_L_pick "_law_pick" = true) (k_L_pick : PySem.W.keepIn K (.ref f_L_pick) = true)
    (a_L_great : PySem.W.nsIn K mainGlobals "_law_great" = some (some (.ref f_L_great)))
    (l_L_great : K.lookup f_L_great = some ⟨oc_L_great, od_L_great, .func (PySem.W.fnOf "_law_great" "_law_great" (defArgs s_L_great) (defBody s_L_great) (defScope s_L_great) .none kV_L_great dc_L_great pm_L_great an_L_great cd_L_great ct_L_great), sl_L_great⟩)
    (c_L_great : PySem.W.codeIn K cd_L_great "_law_great" = true) (k_L_great : PySem.W.keepIn K (.ref f_L_great) = true)
    (a_L_ten : PySem.W.nsIn K mainGlobals "_law_ten" = some (some (.ref f_L_ten)))
    (l_L_ten : K.lookup f_L_ten = some ⟨oc_L_ten, od_L_ten, .func (PySem.W.fnOf "_law_ten" "_law_ten" (defArgs s_L_ten) (defBody s_L_ten) (defScope s_L_ten) .none kV_L_ten dc_L_ten pm_L_ten an_L_ten cd_L_ten ct_L_ten), sl_L_ten⟩)
    (c_L_ten : PySem.W.codeIn K cd_L_ten "_law_ten" = true) (k_L_ten : PySem.W.keepIn K (.ref f_L_ten) = true)
    (a_L_step : PySem.W.nsIn K mainGlobals "_law_step" = some (some (.ref f_L_step)))
    (l_L_step : K.lookup f_L_step = some ⟨oc_L_step, od_L_step, .func (PySem.W.fnOf "_law_step" "_law_step" (defArgs s_L_step) (defBody s_L_step) (defScope s_L_step) .none kV_L_step dc_L_step pm_L_step an_L_step cd_L_step ct_L_step), sl_L_step⟩)
    (c_L_step : PySem.W.codeIn K cd_L_step "_law_step" = true) (k_L_step : PySem.W.keepIn K (.ref f_L_step) = true)
    (a_L_side : PySem.W.nsIn K mainGlobals "_law_side" = some (some (.ref f_L_side)))
    (l_L_side : K.lookup f_L_side = some ⟨oc_L_side, od_L_side, .func (PySem.W.fnOf "_law_side" "_law_side" (defArgs s_L_side) (defBody s_L_side) (defScope s_L_side) .none kV_L_side dc_L_side pm_L_side an_L_side cd_L_side ct_L_side), sl_L_side⟩)
    (c_L_side : PySem.W.codeIn K cd_L_side "_law_side" = true) (k_L_side : PySem.W.keepIn K (.ref f_L_side) = true)
    (a_L_sides : PySem.W.nsIn K mainGlobals "_law_sides" = some (some (.ref f_L_sides)))
    (l_L_sides : K.lookup f_L_sides = some ⟨oc_L_sides, od_L_sides, .func (PySem.W.fnOf "_law_sides" "_law_sides" (defArgs s_L_sides) (defBody s_L_sides) (defScope s_L_sides) .none kV_L_sides dc_L_sides pm_L_sides an_L_sides cd_L_sides ct_L_sides), sl_L_sides⟩)
    (c_L_sides : PySem.W.codeIn K cd_L_sides "_law_sides" = true) (k_L_sides : PySem.W.keepIn K (.ref f_L_sides) = true)
    (a_L_seen : PySem.W.nsIn K mainGlobals "_law_seen" = some (some (.ref f_L_seen)))
    (l_L_seen : K.lookup f_L_seen = some ⟨oc_L_seen, od_L_seen, .func (PySem.W.fnOf "_law_seen" "_law_seen" (defArgs s_L_seen) (defBody s_L_seen) (defScope s_L_seen) .none kV_L_seen dc_L_seen pm_L_seen an_L_seen cd_L_seen ct_L_seen), sl_L_seen⟩)
    (c_L_seen : PySem.W.codeIn K cd_L_seen "_law_seen" = true) (k_L_seen : PySem.W.keepIn K (.ref f_L_seen) = true)
    (a_L_edge : PySem.W.nsIn K mainGlobals "_law_edge" = some (some (.ref f_L_edge)))
    (l_L_edge : K.lookup f_L_edge = some ⟨oc_L_edge, od_L_edge, .func (PySem.W.fnOf "_law_edge" "_law_edge" (defArgs s_L_edge) (defBody s_L_edge) (defScope s_L_edge) .none kV_L_edge dc_L_edge pm_L_edge an_L_edge cd_L_edge ct_L_edge), sl_L_edge⟩)
    (c_L_edge : PySem.W.codeIn K cd_L_edge "_law_edge" = true) (k_L_edge : PySem.W.keepIn K (.ref f_L_edge) = true)
    (a_L_least : PySem.W.nsIn K mainGlobals "_law_least" = some (some (.ref f_L_least)))
    (l_L_least : K.lookup f_L_least = some ⟨oc_L_least, od_L_least, .func (PySem.W.fnOf "_law_least" "_law_least" (defArgs s_L_least) (defBody s_L_least) (defScope s_L_least) .none kV_L_least dc_L_least pm_L_least an_L_least cd_L_least ct_L_least), sl_L_least⟩)
    (c_L_least : PySem.W.codeIn K cd_L_least "_law_least" = true) (k_L_least : PySem.W.keepIn K (.ref f_L_least) = true)
    (a_L_wider : PySem.W.nsIn K mainGlobals "_law_wider" = some (some (.ref f_L_wider)))
    (l_L_wider : K.lookup f_L_wider = some ⟨oc_L_wider, od_L_wider, .func (PySem.W.fnOf "_law_wider" "_law_wider" (defArgs s_L_wider) (defBody s_L_wider) (defScope s_L_wider) .none kV_L_wider dc_L_wider pm_L_wider an_L_wider cd_L_wider ct_L_wider), sl_L_wider⟩)
    (c_L_wider : PySem.W.codeIn K cd_L_wider "_law_wider" = true) (k_L_wider : PySem.W.keepIn K (.ref f_L_wider) = true)
    (a_L_divisor : PySem.W.nsIn K mainGlobals "_law_divisor" = some (some (.ref f_L_divisor)))
    (l_L_divisor : K.lookup f_L_divisor = some ⟨oc_L_divisor, od_L_divisor, .func (PySem.W.fnOf "_law_divisor" "_law_divisor" (defArgs s_L_divisor) (defBody s_L_divisor) (defScope s_L_divisor) .none kV_L_divisor dc_L_divisor pm_L_divisor an_L_divisor cd_L_divisor ct_L_divisor), sl_L_divisor⟩)
    (c_L_divisor : PySem.W.codeIn K cd_L_divisor "_law_divisor" = true) (k_L_divisor : PySem.W.keepIn K (.ref f_L_divisor) = true)
    (a_L_period : PySem.W.nsIn K mainGlobals "_law_period" = some (some (.ref f_L_period)))
    (l_L_period : K.lookup f_L_period = some ⟨oc_L_period, od_L_period, .func (PySem.W.fnOf "_law_period" "_law_period" (defArgs s_L_period) (defBody s_L_period) (defScope s_L_period) .none kV_L_period dc_L_period pm_L_period an_L_period cd_L_period ct_L_period), sl_L_period⟩)
    (c_L_period : PySem.W.codeIn K cd_L_period "_law_period" = true) (k_L_period : PySem.W.keepIn K (.ref f_L_period) = true)
    (a_L_before : PySem.W.nsIn K mainGlobals "_law_before" = some (some (.ref f_L_before)))
    (l_L_before : K.lookup f_L_before = some ⟨oc_L_before, od_L_before, .func (PySem.W.fnOf "_law_before" "_law_before" (defArgs s_L_before) (defBody s_L_before) (defScope s_L_before) .none kV_L_before dc_L_before pm_L_before an_L_before cd_L_before ct_L_before), sl_L_before⟩)
    (c_L_before : PySem.W.codeIn K cd_L_before "_law_before" = true) (k_L_before : PySem.W.keepIn K (.ref f_L_before) = true)
    (a_L_holds : PySem.W.nsIn K mainGlobals "_law_holds" = some (some (.ref f_L_holds)))
    (l_L_holds : K.lookup f_L_holds = some ⟨oc_L_holds, od_L_holds, .func (PySem.W.fnOf "_law_holds" "_law_holds" (defArgs s_L_holds) (defBody s_L_holds) (defScope s_L_holds) .none kV_L_holds dc_L_holds pm_L_holds an_L_holds cd_L_holds ct_L_holds), sl_L_holds⟩)
    (c_L_holds : PySem.W.codeIn K cd_L_holds "_law_holds" = true) (k_L_holds : PySem.W.keepIn K (.ref f_L_holds) = true)
    (a_L_told : PySem.W.nsIn K mainGlobals "_law_told" = some (some (.ref f_L_told)))
    (l_L_told : K.lookup f_L_told = some ⟨oc_L_told, od_L_told, .func (PySem.W.fnOf "_law_told" "_law_told" (defArgs s_L_told) (defBody s_L_told) (defScope s_L_told) .none kV_L_told dc_L_told pm_L_told an_L_told cd_L_told ct_L_told), sl_L_told⟩)
    (c_L_told : PySem.W.codeIn K cd_L_told "_law_told" = true) (k_L_told : PySem.W.keepIn K (.ref f_L_told) = true)
    (a_L_count : PySem.W.nsIn K mainGlobals "_law_count" = some (some (.ref f_L_count)))
    (l_L_count : K.lookup f_L_count = some ⟨oc_L_count, od_L_count, .func (PySem.W.fnOf "_law_count" "_law_count" (defArgs s_L_count) (defBody s_L_count) (defScope s_L_count) .none kV_L_count dc_L_count pm_L_count an_L_count cd_L_count ct_L_count), sl_L_count⟩)
    (c_L_count : PySem.W.codeIn K cd_L_count "_law_count" = true) (k_L_count : PySem.W.keepIn K (.ref f_L_count) = true)
    (a_L_due : PySem.W.nsIn K mainGlobals "_law_due" = some (some (.ref f_L_due)))
    (l_L_due : K.lookup f_L_due = some ⟨oc_L_due, od_L_due, .func (PySem.W.fnOf "_law_due" "_law_due" (defArgs s_L_due) (defBody s_L_due) (defScope s_L_due) .none kV_L_due dc_L_due pm_L_due an_L_due cd_L_due ct_L_due), sl_L_due⟩)
    (c_L_due : PySem.W.codeIn K cd_L_due "_law_due" = true) (k_L_due : PySem.W.keepIn K (.ref f_L_due) = true)
    (a_L_word : PySem.W.nsIn K mainGlobals "_law_word" = some (some (.ref f_L_word)))
    (l_L_word : K.lookup f_L_word = some ⟨oc_L_word, od_L_word, .func (PySem.W.fnOf "_law_word" "_law_word" (defArgs s_L_word) (defBody s_L_word) (defScope s_L_word) .none kV_L_word dc_L_word pm_L_word an_L_word cd_L_word ct_L_word), sl_L_word⟩)
    (c_L_word : PySem.W.codeIn K cd_L_word "_law_word" = true) (k_L_word : PySem.W.keepIn K (.ref f_L_word) = true)
    (a_L_doors_right : PySem.W.nsIn K mainGlobals "_law_doors_right" = some (some (.ref f_L_doors_right)))
    (l_L_doors_right : K.lookup f_L_doors_right = some ⟨oc_L_doors_right, od_L_doors_right, .func (PySem.W.fnOf "_law_doors_right" "_law_doors_right" (defArgs s_L_doors_right) (defBody s_L_doors_right) (defScope s_L_doors_right) .none kV_L_doors_right dc_L_doors_right pm_L_doors_right an_L_doors_right cd_L_doors_right ct_L_doors_right), sl_L_doors_right⟩)
    (c_L_doors_right : PySem.W.codeIn K cd_L_doors_right "_law_doors_right" = true) (k_L_doors_right : PySem.W.keepIn K (.ref f_L_doors_right) = true)
    (a_law : PySem.W.nsIn K mainGlobals "law" = some (some (.ref f_law)))
    (l_law : K.lookup f_law = some ⟨oc_law, od_law, .func (PySem.W.fnOf "law" "law" (defArgs s_law) (defBody s_law) (defScope s_law) .none kV_law dc_law pm_law an_law cd_law ct_law), sl_law⟩)
    (c_law : PySem.W.codeIn K cd_law "law" = true) (k_law : PySem.W.keepIn K (.ref f_law) = true)
    (z_len : PySem.W.nsIn K mainGlobals "len" = some none)
    (z_abs : PySem.W.nsIn K mainGlobals "abs" = some none)
    (z_int : PySem.W.nsIn K mainGlobals "int" = some none)
    (z_range : PySem.W.nsIn K mainGlobals "range" = some none)
    (z_isinstance : PySem.W.nsIn K mainGlobals "isinstance" = some none)
    (z_bool : PySem.W.nsIn K mainGlobals "bool" = some none)
    (z_tuple : PySem.W.nsIn K mainGlobals "tuple" = some none)
    (z_divmod : PySem.W.nsIn K mainGlobals "divmod" = some none)
    (z_max : PySem.W.nsIn K mainGlobals "max" = some none)
    (z_min : PySem.W.nsIn K mainGlobals "min" = some none)
    (z_list : PySem.W.nsIn K mainGlobals "list" = some none)
    (z_sorted : PySem.W.nsIn K mainGlobals "sorted" = some none)
    (z_enumerate : PySem.W.nsIn K mainGlobals "enumerate" = some none)
    (z_ValueError : PySem.W.nsIn K mainGlobals "ValueError" = some none)
    (g_0 : PySem.W.nsIn K mainGlobals "InvalidSide" = some (some (.ref c0)))
    (g_1 : PySem.W.nsIn K mainGlobals "InvalidSides" = some (some (.ref c1)))
    (g_2 : PySem.W.nsIn K mainGlobals "TooMany" = some (some (.ref c2)))
    (g_3 : PySem.W.nsIn K mainGlobals "InvalidValue" = some (some (.ref c3)))
    (g_4 : PySem.W.nsIn K mainGlobals "InvalidSeen" = some (some (.ref c4)))
    (g_B : PySem.W.nsIn K mainGlobals "HandedError" = some (some (.ref cB)))
    (et_0 : erT K (cAt [c0, c1, c2, c3, c4]) cB 0 = true)
    (et_1 : erT K (cAt [c0, c1, c2, c3, c4]) cB 1 = true)
    (et_2 : erT K (cAt [c0, c1, c2, c3, c4]) cB 2 = true)
    (et_3 : erT K (cAt [c0, c1, c2, c3, c4]) cB 3 = true)
    (et_4 : erT K (cAt [c0, c1, c2, c3, c4]) cB 4 = true)
    (em_0 : PySem.W.exmOne K (.ref c0) (.ref c0) = some true)
    (gsp : PySem.W.specialIn K (.builtin "object.__class__") "__get__" = some (some (.builtin "getset_descriptor.__get__")))
    (gtk : PySem.W.takesIn K (.builtin "object.__class__") = some true)
    (a_MS : PySem.W.nsIn K mainGlobals "MOST_SIDES" = some (some (.int 4 tMS)))
    (a_MH : PySem.W.nsIn K mainGlobals "MOST_HANDOVERS" = some (some (.int 1000 tMH)))
    (a_MN : PySem.W.nsIn K mainGlobals "MOST_SEEN" = some (some (.int 50 tMN)))
    (em_2 : PySem.W.exmOne K (.ref c2) (.ref c2) = some true)
    (a_lcm : PySem.W.nsIn K mainGlobals "lcm" = some (some (.builtin "math.lcm")))
    (a_MODES : PySem.W.nsIn K mainGlobals "MODES" = some (some (.ref aM)))
    (l_MODES : K.lookup aM = some ⟨.type "tuple", odM, .seq itsM nM, slM⟩)
    (v_MODES : itsM.size ≤ sizeLine ∧ Vals modesV itsM.toList) :
    ∃ fd : FuncData, (∀ (s : Shared) (v : Value), BindsTo s fd ⟨[v], []⟩ [("_law_script", v)]) ∧ ∀ base : Heap, K.In base → base.Ns mainGlobals mg → FnOk l.prog w K mg base CX0 11 fa fd ["_law_script"] (spLaw K) := by
  have e := hfa.symm.trans (PySem.W.mg_of X G a_law)
  cases e
  have F_is_int := fun_mk (st := s_is_int) l_is_int c_is_int k_is_int
  have b_is_int := F_is_int.binds (ps := ["thing"]) fun _ _ _ _ _ _ us hl => match us, hl with | [_], _ => rfl
  have m_is_int := PySem.W.mg_of X G a_is_int
  have F_is_int_between := fun_mk (st := s_is_int_between) l_is_int_between c_is_int_between k_is_int_between
  have b_is_int_between := F_is_int_between.binds (ps := ["thing", "least", "most"]) fun _ _ _ _ _ _ us hl => match us, hl with | [_, _, _], _ => rfl
  have m_is_int_between := PySem.W.mg_of X G a_is_int_between
  have F_check_value := fun_mk (st := s_check_value) l_check_value c_check_value k_check_value
  have b_check_value := F_check_value.binds (ps := ["value"]) fun _ _ _ _ _ _ us hl => match us, hl with | [_], _ => rfl
  have m_check_value := PySem.W.mg_of X G a_check_value
  have F_check_side := fun_mk (st := s_check_side) l_check_side c_check_side k_check_side
  have b_check_side := F_check_side.binds (ps := ["side"]) fun _ _ _ _ _ _ us hl => match us, hl with | [_], _ => rfl
  have m_check_side := PySem.W.mg_of X G a_check_side
  have F_is_side := fun_mk (st := s_is_side) l_is_side c_is_side k_is_side
  have b_is_side := F_is_side.binds (ps := ["thing"]) fun _ _ _ _ _ _ us hl => match us, hl with | [_], _ => rfl
  have m_is_side := PySem.W.mg_of X G a_is_side
  have F_figure := fun_mk (st := s_figure) l_figure c_figure k_figure
  have b_figure := F_figure.binds (ps := ["side", "value"]) fun _ _ _ _ _ _ us hl => match us, hl with | [_, _], _ => rfl
  have m_figure := PySem.W.mg_of X G a_figure
  have F_goes_up := fun_mk (st := s_goes_up) l_goes_up c_goes_up k_goes_up
  have b_goes_up := F_goes_up.binds (ps := ["mode", "step", "figure", "rest"]) fun _ _ _ _ _ _ us hl => match us, hl with | [_, _, _, _], _ => rfl
  have m_goes_up := PySem.W.mg_of X G a_goes_up
  have F_written := fun_mk (st := s_written) l_written c_written k_written
  have b_written := F_written.binds (ps := ["side", "value"]) fun _ _ _ _ _ _ us hl => match us, hl with | [_, _], _ => rfl
  have m_written := PySem.W.mg_of X G a_written
  have F_below := fun_mk (st := s_below) l_below c_below k_below
  have b_below := F_below.binds (ps := ["mode", "step", "figure"]) fun _ _ _ _ _ _ us hl => match us, hl with | [_, _, _], _ => rfl
  have m_below := PySem.W.mg_of X G a_below
  have F_threshold := fun_mk (st := s_threshold) l_threshold c_threshold k_threshold
  have b_threshold := F_threshold.binds (ps := ["side", "value"]) fun _ _ _ _ _ _ us hl => match us, hl with | [_, _], _ => rfl
  have m_threshold := PySem.W.mg_of X G a_threshold
  have F_check_sides := fun_mk (st := s_check_sides) l_check_sides c_check_sides k_check_sides
  have b_check_sides := F_check_sides.binds (ps := ["sides"]) fun _ _ _ _ _ _ us hl => match us, hl with | [_], _ => rfl
  have m_check_sides := PySem.W.mg_of X G a_check_sides
  have F_period_of := fun_mk (st := s_period_of) l_period_of c_period_of k_period_of
  have b_period_of := F_period_of.binds (ps := ["side"]) fun _ _ _ _ _ _ us hl => match us, hl with | [_], _ => rfl
  have m_period_of := PySem.W.mg_of X G a_period_of
  have F_moved := fun_mk (st := s_moved) l_moved c_moved k_moved
  have b_moved := F_moved.binds (ps := ["side", "by"]) fun _ _ _ _ _ _ us hl => match us, hl with | [_, _], _ => rfl
  have m_moved := PySem.W.mg_of X G a_moved
  have F_common_period := fun_mk (st := s_common_period) l_common_period c_common_period k_common_period
  have b_common_period := F_common_period.binds (ps := ["sides"]) fun _ _ _ _ _ _ us hl => match us, hl with | [_], _ => rfl
  have m_common_period := PySem.W.mg_of X G a_common_period
  have F_along := fun_mk (st := s_along) l_along c_along k_along
  have b_along := F_along.binds (ps := ["sides", "numbers", "value"]) fun _ _ _ _ _ _ us hl => match us, hl with | [_, _, _], _ => rfl
  have m_along := PySem.W.mg_of X G a_along
  have F_check_numbers := fun_mk (st := s_check_numbers) l_check_numbers c_check_numbers k_check_numbers
  have b_check_numbers := F_check_numbers.binds (ps := ["numbers", "many"]) fun _ _ _ _ _ _ us hl => match us, hl with | [_, _], _ => rfl
  have m_check_numbers := PySem.W.mg_of X G a_check_numbers
  have F_before := fun_mk (st := s_before) l_before c_before k_before
  have b_before := F_before.binds (ps := ["sides", "value"]) fun _ _ _ _ _ _ us hl => match us, hl with | [_, _], _ => rfl
  have m_before := PySem.W.mg_of X G a_before
  have F_can_come := fun_mk (st := s_can_come) l_can_come c_can_come k_can_come
  have b_can_come := F_can_come.binds (ps := ["sides", "start", "value"]) fun _ _ _ _ _ _ us hl => match us, hl with | [_, _, _], _ => rfl
  have m_can_come := PySem.W.mg_of X G a_can_come
  have F_fewest_handovers := fun_mk (st := s_fewest_handovers) l_fewest_handovers c_fewest_handovers k_fewest_handovers
  have b_fewest_handovers := F_fewest_handovers.binds (ps := ["sides", "start", "value"]) fun _ _ _ _ _ _ us hl => match us, hl with | [_, _, _], _ => rfl
  have m_fewest_handovers := PySem.W.mg_of X G a_fewest_handovers
  have F_fewest := fun_mk (st := s_fewest) l_fewest c_fewest k_fewest
  have b_fewest := F_fewest.binds (ps := ["sides", "start", "value", "runs"]) fun _ _ _ _ _ _ us hl => match us, hl with | [_, _, _, _], _ => rfl
  have m_fewest := PySem.W.mg_of X G a_fewest
  have F_runs := fun_mk (st := s_runs) l_runs c_runs k_runs
  have b_runs := F_runs.binds (ps := ["sides", "value"]) fun _ _ _ _ _ _ us hl => match us, hl with | [_, _], _ => rfl
  have m_runs := PySem.W.mg_of X G a_runs
  have F_widened := fun_mk (st := s_widened) l_widened c_widened k_widened
  have b_widened := F_widened.binds (ps := ["sides", "run"]) fun _ _ _ _ _ _ us hl => match us, hl with | [_, _], _ => rfl
  have m_widened := PySem.W.mg_of X G a_widened
  have F_ends := fun_mk (st := s_ends) l_ends c_ends k_ends
  have b_ends := F_ends.binds (ps := ["sides", "value", "runs"]) fun _ _ _ _ _ _ us hl => match us, hl with | [_, _, _], _ => rfl
  have m_ends := PySem.W.mg_of X G a_ends
  have F_within := fun_mk (st := s_within) l_within c_within k_within
  have b_within := F_within.binds (ps := ["run", "window"]) fun _ _ _ _ _ _ us hl => match us, hl with | [_, _], _ => rfl
  have m_within := PySem.W.mg_of X G a_within
  have F_holds := fun_mk (st := s_holds) l_holds c_holds k_holds
  have b_holds := F_holds.binds (ps := ["ends", "value"]) fun _ _ _ _ _ _ us hl => match us, hl with | [_, _], _ => rfl
  have m_holds := PySem.W.mg_of X G a_holds
  have F_fault := fun_mk (st := s_fault) l_fault c_fault k_fault
  have b_fault := F_fault.binds (ps := ["sides", "seen"]) fun _ _ _ _ _ _ us hl => match us, hl with | [_, _], _ => rfl
  have m_fault := PySem.W.mg_of X G a_fault
  have F_hops := fun_mk (st := s_hops) l_hops c_hops k_hops
  have b_hops := F_hops.binds (ps := ["sides", "seen"]) fun _ _ _ _ _ _ us hl => match us, hl with | [_, _], _ => rfl
  have m_hops := PySem.W.mg_of X G a_hops
  have F_check_seen := fun_mk (st := s_check_seen) l_check_seen c_check_seen k_check_seen
  have b_check_seen := F_check_seen.binds (ps := ["seen"]) fun _ _ _ _ _ _ us hl => match us, hl with | [_], _ => rfl
  have m_check_seen := PySem.W.mg_of X G a_check_seen
  have F_L_source := fun_mk (st := s_L_source) l_L_source c_L_source k_L_source
  have b_L_source := F_L_source.binds (ps := ["_law_script"]) fun _ _ _ _ _ _ us hl => match us, hl with | [_], _ => rfl
  have m_L_source := PySem.W.mg_of X G a_L_source
  have F_L_draw := fun_mk (st := s_L_draw) l_L_draw c_L_draw k_L_draw
  have b_L_draw := F_L_draw.binds (ps := ["_law_source_here", "_law_limit"]) fun _ _ _ _ _ _ us hl => match us, hl with | [_, _], _ => rfl
  have m_L_draw := PySem.W.mg_of X G a_L_draw
  have F_L_pick := fun_mk (st := s_L_pick) l_L_pick c_L_pick k_L_pick
  have b_L_pick := F_L_pick.binds (ps := ["_law_source_here", "_law_values"]) fun _ _ _ _ _ _ us hl => match us, hl with | [_, _], _ => rfl
  have m_L_pick := PySem.W.mg_of X G a_L_pick
  have F_L_great := fun_mk (st := s_L_great) l_L_great c_L_great k_L_great
  have b_L_great := F_L_great.binds (ps := ["_law_source_here", "_law_limit"]) fun _ _ _ _ _ _ us hl => match us, hl with | [_, _], _ => rfl
  have m_L_great := PySem.W.mg_of X G a_L_great
  have F_L_ten := fun_mk (st := s_L_ten) l_L_ten c_L_ten k_L_ten
  have b_L_ten := F_L_ten.binds (ps := ["_law_many"]) fun _ _ _ _ _ _ us hl => match us, hl with | [_], _ => rfl
  have m_L_ten := PySem.W.mg_of X G a_L_ten
  have F_L_step := fun_mk (st := s_L_step) l_L_step c_L_step k_L_step
  have b_L_step := F_L_step.binds (ps := ["_law_source_here", "_law_most"]) fun _ _ _ _ _ _ us hl => match us, hl with | [_, _], _ => rfl
  have m_L_step := PySem.W.mg_of X G a_L_step
  have F_L_side := fun_mk (st := s_L_side) l_L_side c_L_side k_L_side
  have b_L_side := F_L_side.binds (ps := ["_law_source_here", "_law_most"]) fun _ _ _ _ _ _ us hl => match us, hl with | [_, _], _ => rfl
  have m_L_side := PySem.W.mg_of X G a_L_side
  have F_L_sides := fun_mk (st := s_L_sides) l_L_sides c_L_sides k_L_sides
  have b_L_sides := F_L_sides.binds (ps := ["_law_source_here", "_law_turn"]) fun _ _ _ _ _ _ us hl => match us, hl with | [_, _], _ => rfl
  have m_L_sides := PySem.W.mg_of X G a_L_sides
  have F_L_seen := fun_mk (st := s_L_seen) l_L_seen c_L_seen k_L_seen
  have b_L_seen := F_L_seen.binds (ps := ["_law_source_here", "_law_sides_here"]) fun _ _ _ _ _ _ us hl => match us, hl with | [_, _], _ => rfl
  have m_L_seen := PySem.W.mg_of X G a_L_seen
  have F_L_edge := fun_mk (st := s_L_edge) l_L_edge c_L_edge k_L_edge
  have b_L_edge := F_L_edge.binds (ps := ["_law_side_here", "_law_figure"]) fun _ _ _ _ _ _ us hl => match us, hl with | [_, _], _ => rfl
  have m_L_edge := PySem.W.mg_of X G a_L_edge
  have F_L_least := fun_mk (st := s_L_least) l_L_least c_L_least k_L_least
  have b_L_least := F_L_least.binds (ps := ["_law_side_here", "_law_value"]) fun _ _ _ _ _ _ us hl => match us, hl with | [_, _], _ => rfl
  have m_L_least := PySem.W.mg_of X G a_L_least
  have F_L_wider := fun_mk (st := s_L_wider) l_L_wider c_L_wider k_L_wider
  have b_L_wider := F_L_wider.binds (ps := ["_law_sides_here", "_law_run"]) fun _ _ _ _ _ _ us hl => match us, hl with | [_, _], _ => rfl
  have m_L_wider := PySem.W.mg_of X G a_L_wider
  have F_L_divisor := fun_mk (st := s_L_divisor) l_L_divisor c_L_divisor k_L_divisor
  have b_L_divisor := F_L_divisor.binds (ps := ["_law_one", "_law_other"]) fun _ _ _ _ _ _ us hl => match us, hl with | [_, _], _ => rfl
  have m_L_divisor := PySem.W.mg_of X G a_L_divisor
  have F_L_period := fun_mk (st := s_L_period) l_L_period c_L_period k_L_period
  have b_L_period := F_L_period.binds (ps := ["_law_sides_here"]) fun _ _ _ _ _ _ us hl => match us, hl with | [_], _ => rfl
  have m_L_period := PySem.W.mg_of X G a_L_period
  have F_L_before := fun_mk (st := s_L_before) l_L_before c_L_before k_L_before
  have b_L_before := F_L_before.binds (ps := ["_law_sides_here", "_law_value"]) fun _ _ _ _ _ _ us hl => match us, hl with | [_, _], _ => rfl
  have m_L_before := PySem.W.mg_of X G a_L_before
  have F_L_holds := fun_mk (st := s_L_holds) l_L_holds c_L_holds k_L_holds
  have b_L_holds := F_L_holds.binds (ps := ["_law_run", "_law_value"]) fun _ _ _ _ _ _ us hl => match us, hl with | [_, _], _ => rfl
  have m_L_holds := PySem.W.mg_of X G a_L_holds
  have F_L_told := fun_mk (st := s_L_told) l_L_told c_L_told k_L_told
  have b_L_told := F_L_told.binds (ps := ["_law_kind", "_law_sides_here", "_law_seen_here"]) fun _ _ _ _ _ _ us hl => match us, hl with | [_, _, _], _ => rfl
  have m_L_told := PySem.W.mg_of X G a_L_told
  have F_L_count := fun_mk (st := s_L_count) l_L_count c_L_count k_L_count
  have b_L_count := F_L_count.binds (ps := ["_law_sides_here", "_law_start", "_law_value"]) fun _ _ _ _ _ _ us hl => match us, hl with | [_, _, _], _ => rfl
  have m_L_count := PySem.W.mg_of X G a_L_count
  have F_L_due := fun_mk (st := s_L_due) l_L_due c_L_due k_L_due
  have b_L_due := F_L_due.binds (ps := ["_law_sides_here", "_law_seen_here"]) fun _ _ _ _ _ _ us hl => match us, hl with | [_, _], _ => rfl
  have m_L_due := PySem.W.mg_of X G a_L_due
  have F_L_word := fun_mk (st := s_L_word) l_L_word c_L_word k_L_word
  have b_L_word := F_L_word.binds (ps := ["_law_door", "_law_sides_here", "_law_seen_here"]) fun _ _ _ _ _ _ us hl => match us, hl with | [_, _, _], _ => rfl
  have m_L_word := PySem.W.mg_of X G a_L_word
  have F_L_doors_right := fun_mk (st := s_L_doors_right) l_L_doors_right c_L_doors_right k_L_doors_right
  have b_L_doors_right := F_L_doors_right.binds (ps := ["_law_sides_here"]) fun _ _ _ _ _ _ us hl => match us, hl with | [_], _ => rfl
  have m_L_doors_right := PySem.W.mg_of X G a_L_doors_right
  have F_law := fun_mk (st := s_law) l_law c_law k_law
  have b_law := F_law.binds (ps := ["_law_script"]) fun _ _ _ _ _ _ us hl => match us, hl with | [_], _ => rfl
  have m_law := PySem.W.mg_of X G a_law
  have n_len := PySem.W.mg_none_of X G z_len
  have n_abs := PySem.W.mg_none_of X G z_abs
  have n_int := PySem.W.mg_none_of X G z_int
  have n_range := PySem.W.mg_none_of X G z_range
  have n_isinstance := PySem.W.mg_none_of X G z_isinstance
  have n_bool := PySem.W.mg_none_of X G z_bool
  have n_tuple := PySem.W.mg_none_of X G z_tuple
  have n_divmod := PySem.W.mg_none_of X G z_divmod
  have n_max := PySem.W.mg_none_of X G z_max
  have n_min := PySem.W.mg_none_of X G z_min
  have n_list := PySem.W.mg_none_of X G z_list
  have n_sorted := PySem.W.mg_none_of X G z_sorted
  have n_enumerate := PySem.W.mg_none_of X G z_enumerate
  have n_ValueError := PySem.W.mg_none_of X G z_ValueError
  have BL : Blt mg := ⟨n_len, n_abs, n_int, n_range⟩
  have T : SideT K mg aM := ⟨n_isinstance, n_int, n_bool, n_tuple, n_len, n_divmod, PySem.W.mg_of X G a_MODES, fun _ => .inr ⟨_, _, _, l_MODES, rfl, rfl, v_MODES.1, v_MODES.2⟩⟩
  have TC : ChkT mg := ⟨n_isinstance, n_int, n_bool, n_tuple, n_list, n_len⟩
  have TM : ModT K mg aM := ⟨PySem.W.mg_of X G a_MODES, fun _ => .inr ⟨_, _, _, l_MODES, rfl, rfl, v_MODES.1, v_MODES.2⟩⟩
  have AT : AmT mg := ⟨⟨_, PySem.W.mg_of X G a_MS⟩⟩
  have tab : ∀ i, i < 5 → erT K (cAt [c0, c1, c2, c3, c4]) cB i = true := fun i hi => by
    rcases (by omega : i = 0 ∨ i = 1 ∨ i = 2 ∨ i = 3 ∨ i = 4) with e | e | e | e | e <;> subst e
    · exact et_0
    · exact et_1
    · exact et_2
    · exact et_3
    · exact et_4
  have tb : ∀ i, i < 5 → errB K (cAt [c0, c1, c2, c3, c4] i) = true ∧ (PySem.W.excIn K (cAt [c0, c1, c2, c3, c4] i) [.type "ValueError", .type "Exception", .type "BaseException", .type "object"] "ValueError.__new__" = true ∧ PySem.W.keepIn K (.ref (cAt [c0, c1, c2, c3, c4] i)) = true) ∧ PySem.W.kitOne K (.ref (cAt [c0, c1, c2, c3, c4] i)) (.type "ValueError") = some true ∧ PySem.W.subIn K (.ref (cAt [c0, c1, c2, c3, c4] i)) (.type "BaseException") = some true ∧ PySem.W.typeIn K (.ref (cAt [c0, c1, c2, c3, c4] i)) = some (.type "type") ∧ PySem.W.exmOne K (.ref (cAt [c0, c1, c2, c3, c4] i)) (.ref cB) = some true ∧ ∀ j, j < 5 → PySem.W.kitOne K (.ref (cAt [c0, c1, c2, c3, c4] i)) (.ref (cAt [c0, c1, c2, c3, c4] j)) = some (decide (i = j)) := fun i hi => by
    have z := tab i hi
    unfold erT exB at z
    simp only [Bool.and_eq_true, decide_eq_true_eq] at z
    obtain ⟨a, b, c, d, e, f, g⟩ := z
    exact ⟨a, b, c, d, e, f, fun j hj => of_decide_eq_true (all_of g hj)⟩
  have R : Er K mg (cAt [c0, c1, c2, c3, c4]) cB := { isi := n_isinstance, ve := n_ValueError, gB := PySem.W.mg_of X G g_B, g0 := PySem.W.mg_of X G g_0, g1 := PySem.W.mg_of X G g_1, g2 := PySem.W.mg_of X G g_2, g3 := PySem.W.mg_of X G g_3, g4 := PySem.W.mg_of X G g_4, kit := fun i j hi hj => (tb i hi).2.2.2.2.2.2 j hj, kitV := fun i hi => (tb i hi).2.2.1, ec := fun i hi => errB_ok (tb i hi).1, eg := ⟨gsp, gtk⟩, ex := fun i hi => (tb i hi).2.1.1, kp := fun i hi => (tb i hi).2.1.2, sb := fun i hi => (tb i hi).2.2.2.1, ty := fun i hi => (tb i hi).2.2.2.2.1, emB := fun i hi => (tb i hi).2.2.2.2.2.1, em0 := em_0 }
  have MX : MaxT mg := ⟨n_max, n_min⟩
  have AM : AmG mg := ⟨n_isinstance, n_list, n_len, ⟨_, PySem.W.mg_of X G a_MS⟩, PySem.W.mg_of X G a_lcm⟩
  refine ⟨PySem.W.fnOf "law" "law" (defArgs s_law) (defBody s_law) (defScope s_law) .none kV_law dc_law pm_law an_law cd_law ct_law, fun s v => .of_eq rfl, fun base _ _ => ?_⟩
  have C_is_int : Cal l.prog w K mg base "is_int" 1 ["thing"] spIsInt f_is_int _ := ⟨ok_is_int F_is_int T, m_is_int, k_is_int, b_is_int⟩
  have C_is_int_between : Cal l.prog w K mg base "is_int_between" 2 ["thing", "least", "most"] spBetween f_is_int_between _ := ⟨ok_between F_is_int_between C_is_int, m_is_int_between, k_is_int_between, b_is_int_between⟩
  have C_check_value : Cal l.prog w K mg base "check_value" 2 ["value"] spCheckValue f_check_value _ := ⟨ok_check_value F_check_value C_is_int, m_check_value, k_check_value, b_check_value⟩
  have C_check_side : Cal l.prog w K mg base "check_side" 3 ["side"] spCheckSide f_check_side _ := ⟨ok_check_side F_check_side T C_is_int_between, m_check_side, k_check_side, b_check_side⟩
  have C_goes_up : Cal l.prog w K mg base "_goes_up" 1 ["mode", "step", "figure", "rest"] spGo f_goes_up _ := ⟨ok_goes_up F_goes_up, m_goes_up, k_goes_up, b_goes_up⟩
  have C_figure : Cal l.prog w K mg base "_figure" 2 ["side", "value"] spFig f_figure _ := ⟨ok_figure F_figure T C_goes_up, m_figure, k_figure, b_figure⟩
  have C_written : Cal l.prog w K mg base "written" 3 ["side", "value"] spDue f_written _ := ⟨ok_written F_written C_figure, m_written, k_written, b_written⟩
  have C_is_side : Cal l.prog w K mg base "is_side" 4 ["thing"] spIsSide f_is_side _ := ⟨ok_is_side F_is_side (PySem.W.mg_of X G g_0) C_check_side, m_is_side, k_is_side, b_is_side⟩
  have C_check_sides : Cal l.prog w K mg base "check_sides" 5 ["sides"] spSides f_check_sides _ := ⟨ok_sides F_check_sides AM C_is_side, m_check_sides, k_check_sides, b_check_sides⟩
  have C_below : Cal l.prog w K mg base "_below" 1 ["mode", "step", "figure"] spBelow f_below _ := ⟨ok_below F_below, m_below, k_below, b_below⟩
  have C_threshold : Cal l.prog w K mg base "threshold" 3 ["side", "value"] spBack f_threshold _ := ⟨ok_threshold F_threshold C_below, m_threshold, k_threshold, b_threshold⟩
  have C_period_of : Cal l.prog w K mg base "period_of" 1 ["side"] spPerOf f_period_of _ := ⟨ok_per F_period_of, m_period_of, k_period_of, b_period_of⟩
  have C_moved : Cal l.prog w K mg base "moved" 2 ["side", "by"] spMoved f_moved _ := ⟨ok_moved F_moved C_period_of, m_moved, k_moved, b_moved⟩
  have C_common_period : Cal l.prog w K mg base "common_period" 2 ["sides"] spPerL f_common_period _ := ⟨ok_commonL F_common_period AM C_period_of, m_common_period, k_common_period, b_common_period⟩
  have C_widened : Cal l.prog w K mg base "_widened" 4 ["sides", "run"] spWid f_widened _ := ⟨ok_wid F_widened MX C_threshold, m_widened, k_widened, b_widened⟩
  have C_runs : Cal l.prog w K mg base "_runs" 5 ["sides", "value"] spRuns f_runs _ := ⟨ok_runs F_runs BL ⟨_, PySem.W.mg_of X G a_MH⟩ C_moved C_widened, m_runs, k_runs, b_runs⟩
  have C_within : Cal l.prog w K mg base "_within" 1 ["run", "window"] spWin f_within _ := ⟨ok_win F_within MX, m_within, k_within, b_within⟩
  have X_ends : CalX l.prog w K mg base "_ends" 3 ["sides", "value", "runs"] (spEndsX (cAt [c0, c1, c2, c3, c4])) f_ends _ := ⟨ok_ends_x F_ends BL R ⟨_, PySem.W.mg_of X G a_MH⟩ C_common_period C_within, m_ends, k_ends, b_ends⟩
  have C_holds : Cal l.prog w K mg base "_holds" 1 ["ends", "value"] spHolds f_holds _ := ⟨ok_holds F_holds, m_holds, k_holds, b_holds⟩
  have X_fewest : CalX l.prog w K mg base "_fewest" 4 ["sides", "start", "value", "runs"] (spFewX (cAt [c0, c1, c2, c3, c4])) f_fewest _ := ⟨ok_few_x F_fewest n_enumerate R ⟨_, PySem.W.mg_of X G a_MH⟩ C_holds X_ends, m_fewest, k_fewest, b_fewest⟩
  have X_is_int : Cal l.prog w K mg base "is_int" 1 ["thing"] spIsAny f_is_int _ := ⟨ok_is_any F_is_int TC, m_is_int, k_is_int, b_is_int⟩
  have X_is_int_between : Cal l.prog w K mg base "is_int_between" 2 ["thing", "least", "most"] spBetAny f_is_int_between _ := ⟨ok_bet_any F_is_int_between X_is_int, m_is_int_between, k_is_int_between, b_is_int_between⟩
  have X_check_value : CalX l.prog w K mg base "check_value" 2 ["value"] (spValX (cAt [c0, c1, c2, c3, c4])) f_check_value _ := ⟨ok_val_x F_check_value R X_is_int, m_check_value, k_check_value, b_check_value⟩
  have X_check_side : CalX l.prog w K mg base "check_side" 3 ["side"] (spSideX K (cAt [c0, c1, c2, c3, c4])) f_check_side _ := ⟨ok_side_x F_check_side TC TM R X_is_int_between, m_check_side, k_check_side, b_check_side⟩
  have X_is_side : Cal l.prog w K mg base "is_side" 4 ["thing"] (spIsSideX K) f_is_side _ := ⟨ok_is_side_x F_is_side R X_check_side, m_is_side, k_is_side, b_is_side⟩
  have X_check_sides : CalX l.prog w K mg base "check_sides" 5 ["sides"] (spSidesX K (cAt [c0, c1, c2, c3, c4])) f_check_sides _ := ⟨ok_sides_x F_check_sides TC AT R X_is_side, m_check_sides, k_check_sides, b_check_sides⟩
  have X_before : CalX l.prog w K mg base "before" 6 ["sides", "value"] (spBefX K (cAt [c0, c1, c2, c3, c4])) f_before _ := ⟨ok_before_x F_before X_check_sides X_check_value C_runs X_ends, m_before, k_before, b_before⟩
  have X_can_come : CalX l.prog w K mg base "can_come" 7 ["sides", "start", "value"] (spComeO (cAt [c0, c1, c2, c3, c4])) f_can_come _ := ⟨ok_imp (ok_come F_can_come X_before C_holds) come_imp, m_can_come, k_can_come, b_can_come⟩
  have X_fewest_handovers : CalX l.prog w K mg base "fewest_handovers" 6 ["sides", "start", "value"] (spFewO (cAt [c0, c1, c2, c3, c4])) f_fewest_handovers _ := ⟨ok_imp (ok_few_g F_fewest_handovers C_runs X_fewest) few_imp, m_fewest_handovers, k_fewest_handovers, b_fewest_handovers⟩
  have X_check_seen : CalX l.prog w K mg base "_check_seen" 2 ["seen"] (spSeenX (cAt [c0, c1, c2, c3, c4])) f_check_seen _ := ⟨ok_seen_x F_check_seen AM R ⟨_, PySem.W.mg_of X G a_MN⟩ X_is_int, m_check_seen, k_check_seen, b_check_seen⟩
  have X_fault : CalX l.prog w K mg base "fault" 8 ["sides", "seen"] (spFault K (cAt [c0, c1, c2, c3, c4])) f_fault _ := ⟨ok_fault F_fault BL X_check_sides X_check_seen X_can_come, m_fault, k_fault, b_fault⟩
  have X_hops : CalX l.prog w K mg base "hops" 7 ["sides", "seen"] (spHops K (cAt [c0, c1, c2, c3, c4])) f_hops _ := ⟨ok_hops F_hops BL X_check_sides X_check_seen X_fewest_handovers, m_hops, k_hops, b_hops⟩
  have C_fault : Cal l.prog w K mg base "fault" 8 ["sides", "seen"] (fun vs H Q _ => spFault K (cAt [c0, c1, c2, c3, c4]) vs H Q fun _ _ _ => False) f_fault _ := ⟨of_x X_fault.ok, m_fault, k_fault, b_fault⟩
  have C_hops : Cal l.prog w K mg base "hops" 7 ["sides", "seen"] (fun vs H Q _ => spHops K (cAt [c0, c1, c2, c3, c4]) vs H Q fun _ _ _ => False) f_hops _ := ⟨of_x X_hops.ok, m_hops, k_hops, b_hops⟩
  have C_check_numbers : Cal l.prog w K mg base "_check_numbers" 3 ["numbers", "many"] spNums f_check_numbers _ := ⟨ok_nums F_check_numbers AM ⟨_, PySem.W.mg_of X G a_MH⟩ C_is_int_between, m_check_numbers, k_check_numbers, b_check_numbers⟩
  have C_along : Cal l.prog w K mg base "along" 6 ["sides", "numbers", "value"] spAlong f_along _ := ⟨ok_along F_along AM C_check_sides C_check_numbers C_check_value C_written, m_along, k_along, b_along⟩
  have C_L_source : Cal l.prog w K mg base "_law_source" 1 ["_law_script"] (spSource K) f_L_source _ := ⟨ok_source F_L_source BL, m_L_source, k_L_source, b_L_source⟩
  have C_L_draw : Cal l.prog w K mg base "_law_draw" 1 ["_law_source_here", "_law_limit"] spDraw f_L_draw _ := ⟨ok_draw F_L_draw BL, m_L_draw, k_L_draw, b_L_draw⟩
  have C_L_pick : Cal l.prog w K mg base "_law_pick" 2 ["_law_source_here", "_law_values"] spPick f_L_pick _ := ⟨ok_pick F_L_pick BL C_L_draw, m_L_pick, k_L_pick, b_L_pick⟩
  have C_L_great : Cal l.prog w K mg base "_law_great" 2 ["_law_source_here", "_law_limit"] spGreat f_L_great _ := ⟨ok_great F_L_great BL C_L_draw, m_L_great, k_L_great, b_L_great⟩
  have C_L_ten : Cal l.prog w K mg base "_law_ten" 1 ["_law_many"] spTen f_L_ten _ := ⟨ok_ten F_L_ten BL, m_L_ten, k_L_ten, b_L_ten⟩
  have C_L_step : Cal l.prog w K mg base "_law_step" 3 ["_law_source_here", "_law_most"] spStep f_L_step _ := ⟨ok_step F_L_step BL MX C_L_draw C_L_pick C_L_great C_L_ten, m_L_step, k_L_step, b_L_step⟩
  have C_L_side : Cal l.prog w K mg base "_law_side" 4 ["_law_source_here", "_law_most"] spSide f_L_side _ := ⟨ok_side F_L_side BL C_L_step C_L_pick C_L_great, m_L_side, k_L_side, b_L_side⟩
  have C_L_edge : Cal l.prog w K mg base "_law_edge" 1 ["_law_side_here", "_law_figure"] spEdge f_L_edge _ := ⟨ok_edge F_L_edge BL, m_L_edge, k_L_edge, b_L_edge⟩
  have C_L_least : Cal l.prog w K mg base "_law_least" 2 ["_law_side_here", "_law_value"] spLeast f_L_least _ := ⟨ok_least F_L_least C_L_edge, m_L_least, k_L_least, b_L_least⟩
  have C_L_wider : Cal l.prog w K mg base "_law_wider" 3 ["_law_sides_here", "_law_run"] spWidL f_L_wider _ := ⟨ok_L_wider F_L_wider MX C_L_least, m_L_wider, k_L_wider, b_L_wider⟩
  have C_L_divisor : Cal l.prog w K mg base "_law_divisor" 1 ["_law_one", "_law_other"] spDiv f_L_divisor _ := ⟨ok_div F_L_divisor BL, m_L_divisor, k_L_divisor, b_L_divisor⟩
  have C_L_period : Cal l.prog w K mg base "_law_period" 2 ["_law_sides_here"] spPerS f_L_period _ := ⟨ok_period F_L_period BL C_L_divisor, m_L_period, k_L_period, b_L_period⟩
  have C_L_before : Cal l.prog w K mg base "_law_before" 4 ["_law_sides_here", "_law_value"] spLBef f_L_before _ := ⟨ok_L_before F_L_before BL MX C_L_period C_L_wider, m_L_before, k_L_before, b_L_before⟩
  have C_L_holds : Cal l.prog w K mg base "_law_holds" 1 ["_law_run", "_law_value"] spLH f_L_holds _ := ⟨ok_L_holds F_L_holds, m_L_holds, k_L_holds, b_L_holds⟩
  have C_L_count : Cal l.prog w K mg base "_law_count" 5 ["_law_sides_here", "_law_start", "_law_value"] spCnt f_L_count _ := ⟨ok_L_count F_L_count BL C_L_wider C_L_before C_L_holds, m_L_count, k_L_count, b_L_count⟩
  have C_L_due : Cal l.prog w K mg base "_law_due" 6 ["_law_sides_here", "_law_seen_here"] spDue16 f_L_due _ := ⟨ok_L_due F_L_due BL C_L_before C_L_holds C_L_count, m_L_due, k_L_due, b_L_due⟩
  have C_L_told : Cal l.prog w K mg base "_law_told" 9 ["_law_kind", "_law_sides_here", "_law_seen_here"] spTold16 f_L_told _ := ⟨ok_L_told F_L_told R em_2 X_fault X_hops, m_L_told, k_L_told, b_L_told⟩
  have C_L_word : Cal l.prog w K mg base "_law_word" 9 ["_law_door", "_law_sides_here", "_law_seen_here"] (spWord16 K) f_L_word _ := ⟨ok_L_word F_L_word R X_fault X_hops, m_L_word, k_L_word, b_L_word⟩
  have C_L_doors_right : Cal l.prog w K mg base "_law_doors_right" 10 ["_law_sides_here"] spDoors16 f_L_doors_right _ := ⟨ok_L_doors F_L_doors_right BL C_L_word C_fault C_hops, m_L_doors_right, k_L_doors_right, b_L_doors_right⟩
  have C_L_sides : Cal l.prog w K mg base "_law_sides" 5 ["_law_source_here", "_law_turn"] spSides16 f_L_sides _ := ⟨ok_L_sides F_L_sides BL C_L_draw C_L_side C_L_great C_L_ten, m_L_sides, k_L_sides, b_L_sides⟩
  have C_L_seen : Cal l.prog w K mg base "_law_seen" 7 ["_law_source_here", "_law_sides_here"] spSeenL f_L_seen _ := ⟨ok_L_seen F_L_seen BL C_L_draw C_L_pick C_L_great C_along, m_L_seen, k_L_seen, b_L_seen⟩
  exact ok_law F_law BL n_list C_L_source C_L_sides C_L_seen C_L_due C_L_told C_L_word C_L_doors_right C_fault C_hops
theorem walk {l : PySem.W.OpenLaw} {q : Program} {loose : List Str} {XP : (Str → Option Value) → Heap → Prop} {YP : World → Heap → Prop} {d : DefRec} {K : Params → PySem.W.Frag} (hn : l.most = some 63) (hdf : d.params.defaults = [])
    (hY : ∀ (w : World) (h : Heap), YP w h → (K w.params).In h)
    (F : ∀ (w : World) (mg : Str → Option Value) (fa : Addr) (h : Heap), (K w.params).In h → h.Ns mainGlobals mg → mg d.name = some (.ref fa) →
      ∃ fd : FuncData, (∀ (s : Shared) (u : Value), BindsTo s fd ⟨[u], []⟩ [("_law_script", u)]) ∧ ∀ base : Heap, (K w.params).In base → base.Ns mainGlobals mg → FnOk l.prog w (K w.params) mg base CX0 11 fa fd ["_law_script"] (spLaw (K w.params))) :
    PySem.W.WalkO q loose XP YP l.row.toRowW d [] (fun f vs => PySem.call f vs) :=
  L2.walk_of (n := 63) (k := 11) (x := "_law_script") (CX := fun _ => CX0) (sp := fun w => spLaw (K w.params)) hn (by decide) hdf ⟨rfl, by decide, by decide⟩ hY F (fun _ _ a ns hl _ hS => ⟨a, ns, rfl, hS, hl, fun _ => rfl⟩) fun _ _ _ _ _ z => z
end HT
open PySem PySem.W PyProof.Rows
set_option maxRecDepth 100000 in
set_option maxHeartbeats 0 in
theorem PySem.Challenge.cw_handedtext_k16_logs_holds : PySem.Challenge.rw_handedtext_k16_logs.Holds := by
  w_on; o_law; k_head; (case hw => w_witness2)
  k_fill
  refine HT.walk (l := PySem.Challenge.rw_handedtext_k16_logs) rfl rfl (fun w h Y => PySem.W.kIn_of Y) ?F
  case F =>
    intro w mg fa h KX G hmg
    refine' HT.all_mk KX G hmg ?a_is_int ?l_is_int ?c_is_int ?k_is_int ?a_is_int_between ?l_is_int_between ?c_is_int_between ?k_is_int_between ?a_check_value ?l_check_value ?c_check_value ?k_check_value ?a_check_side ?l_check_side ?c_check_side ?k_check_side ?a_is_side ?l_is_side ?c_is_side ?k_is_side ?a_figure ?l_figure ?c_figure ?k_figure ?a_goes_up ?l_goes_up ?c_goes_up ?k_goes_up ?a_written ?l_written ?c_written ?k_written ?a_below ?l_below ?c_below ?k_below ?a_threshold ?l_threshold ?c_threshold ?k_threshold ?a_check_sides ?l_check_sides ?c_check_sides ?k_check_sides ?a_period_of ?l_period_of ?c_period_of ?k_period_of ?a_moved ?l_moved ?c_moved ?k_moved ?a_common_period ?l_common_period ?c_common_period ?k_common_period ?a_along ?l_along ?c_along ?k_along ?a_check_numbers ?l_check_numbers ?c_check_numbers ?k_check_numbers ?a_before ?l_before ?c_before ?k_before ?a_can_come ?l_can_come ?c_can_come ?k_can_come ?a_fewest_handovers ?l_fewest_handovers ?c_fewest_handovers ?k_fewest_handovers ?a_fewest ?l_fewest ?c_fewest ?k_fewest ?a_runs ?l_runs ?c_runs ?k_runs ?a_widened ?l_widened ?c_widened ?k_widened ?a_ends ?l_ends ?c_ends ?k_ends ?a_within ?l_within ?c_within ?k_within ?a_holds ?l_holds ?c_holds ?k_holds ?a_fault ?l_fault ?c_fault ?k_fault ?a_hops ?l_hops ?c_hops ?k_hops ?a_check_seen ?l_check_seen ?c_check_seen ?k_check_seen ?a_L_source ?l_L_source ?c_L_source ?k_L_source ?a_L_draw ?l_L_draw ?c_L_draw ?k_L_draw ?a_L_pick ?l_L_pick ?c_L_pick ?k_L_pick ?a_L_great ?l_L_great ?c_L_great ?k_L_great ?a_L_ten ?l_L_ten ?c_L_ten ?k_L_ten ?a_L_step ?l_L_step ?c_L_step ?k_L_step ?a_L_side ?l_L_side ?c_L_side ?k_L_side ?a_L_sides ?l_L_sides ?c_L_sides ?k_L_sides ?a_L_seen ?l_L_seen ?c_L_seen ?k_L_seen ?a_L_edge ?l_L_edge ?c_L_edge ?k_L_edge ?a_L_least ?l_L_least ?c_L_least ?k_L_least ?a_L_wider ?l_L_wider ?c_L_wider ?k_L_wider ?a_L_divisor ?l_L_divisor ?c_L_divisor ?k_L_divisor ?a_L_period ?l_L_period ?c_L_period ?k_L_period ?a_L_before ?l_L_before ?c_L_before ?k_L_before ?a_L_holds ?l_L_holds ?c_L_holds ?k_L_holds ?a_L_told ?l_L_told ?c_L_told ?k_L_told ?a_L_count ?l_L_count ?c_L_count ?k_L_count ?a_L_due ?l_L_due ?c_L_due ?k_L_due ?a_L_word ?l_L_word ?c_L_word ?k_L_word ?a_L_doors_right ?l_L_doors_right ?c_L_doors_right ?k_L_doors_right ?a_law ?l_law ?c_law ?k_law ?z_len ?z_abs ?z_int ?z_range ?z_isinstance ?z_bool ?z_tuple ?z_divmod ?z_max ?z_min ?z_list ?z_sorted ?z_enumerate ?z_ValueError ?g_0 ?g_1 ?g_2 ?g_3 ?g_4 ?g_B ?et_0 ?et_1 ?et_2 ?et_3 ?et_4 ?em_0 ?gsp ?gtk ?a_MS ?a_MH ?a_MN ?em_2 ?a_lcm ?a_MODES ?l_MODES ?v_MODES
    (case a_is_int => k_is)
    (case l_is_int => k_is)
    (case c_is_int => k_is)
    (case k_is_int => k_is)
    (case a_is_int_between => k_is)
    (case l_is_int_between => k_is)
    (case c_is_int_between => k_is)
    (case k_is_int_between => k_is)
    (case a_check_value => k_is)
    (case l_check_value => k_is)
    (case c_check_value => k_is)
    (case k_check_value => k_is)
    (case a_check_side => k_is)
    (case l_check_side => k_is)
    (case c_check_side => k_is)
    (case k_check_side => k_is)
    (case a_is_side => k_is)
    (case l_is_side => k_is)
    (case c_is_side => k_is)
    (case k_is_side => k_is)
    (case a_figure => k_is)
    (case l_figure => k_is)
    (case c_figure => k_is)
    (case k_figure => k_is)
    (case a_goes_up => k_is)
    (case l_goes_up => k_is)
    (case c_goes_up => k_is)
    (case k_goes_up => k_is)
    (case a_written => k_is)
    (case l_written => k_is)
    (case c_written => k_is)
    (case k_written => k_is)
    (case a_below => k_is)
    (case l_below => k_is)
    (case c_below => k_is)
    (case k_below => k_is)
    (case a_threshold => k_is)
    (case l_threshold => k_is)
    (case c_threshold => k_is)
    (case k_threshold => k_is)
    (case a_check_sides => k_is)
    (case l_check_sides => k_is)
    (case c_check_sides => k_is)
    (case k_check_sides => k_is)
    (case a_period_of => k_is)
    (case l_period_of => k_is)
    (case c_period_of => k_is)
    (case k_period_of => k_is)
    (case a_moved => k_is)
    (case l_moved => k_is)
    (case c_moved => k_is)
    (case k_moved => k_is)
    (case a_common_period => k_is)
    (case l_common_period => k_is)
    (case c_common_period => k_is)
    (case k_common_period => k_is)
    (case a_along => k_is)
    (case l_along => k_is)
    (case c_along => k_is)
    (case k_along => k_is)
    (case a_check_numbers => k_is)
    (case l_check_numbers => k_is)
    (case c_check_numbers => k_is)
    (case k_check_numbers => k_is)
    (case a_before => k_is)
    (case l_before => k_is)
    (case c_before => k_is)
    (case k_before => k_is)
    (case a_can_come => k_is)
    (case l_can_come => k_is)
    (case c_can_come => k_is)
    (case k_can_come => k_is)
    (case a_fewest_handovers => k_is)
    (case l_fewest_handovers => k_is)
    (case c_fewest_handovers => k_is)
    (case k_fewest_handovers => k_is)
    (case a_fewest => k_is)
    (case l_fewest => k_is)
    (case c_fewest => k_is)
    (case k_fewest => k_is)
    (case a_runs => k_is)
    (case l_runs => k_is)
    (case c_runs => k_is)
    (case k_runs => k_is)
    (case a_widened => k_is)
    (case l_widened => k_is)
    (case c_widened => k_is)
    (case k_widened => k_is)
    (case a_ends => k_is)
    (case l_ends => k_is)
    (case c_ends => k_is)
    (case k_ends => k_is)
    (case a_within => k_is)
    (case l_within => k_is)
    (case c_within => k_is)
    (case k_within => k_is)
    (case a_holds => k_is)
    (case l_holds => k_is)
    (case c_holds => k_is)
    (case k_holds => k_is)
    (case a_fault => k_is)
    (case l_fault => k_is)
    (case c_fault => k_is)
    (case k_fault => k_is)
    (case a_hops => k_is)
    (case l_hops => k_is)
    (case c_hops => k_is)
    (case k_hops => k_is)
    (case a_check_seen => k_is)
    (case l_check_seen => k_is)
    (case c_check_seen => k_is)
    (case k_check_seen => k_is)
    (case a_L_source => k_is)
    (case l_L_source => k_is)
    (case c_L_source => k_is)
    (case k_L_source => k_is)
    (case a_L_draw => k_is)
    (case l_L_draw => k_is)
    (case c_L_draw => k_is)
    (case k_L_draw => k_is)
    (case a_L_pick => k_is)
    (case l_L_pick => k_is)
    (case c_L_pick => k_is)
    (case k_L_pick => k_is)
    (case a_L_great => k_is)
    (case l_L_great => k_is)
    (case c_L_great => k_is)
    (case k_L_great => k_is)
    (case a_L_ten => k_is)
    (case l_L_ten => k_is)
    (case c_L_ten => k_is)
    (case k_L_ten => k_is)
    (case a_L_step => k_is)
    (case l_L_step => k_is)
    (case c_L_step => k_is)
    (case k_L_step => k_is)
    (case a_L_side => k_is)
    (case l_L_side => k_is)
    (case c_L_side => k_is)
    (case k_L_side => k_is)
    (case a_L_sides => k_is)
    (case l_L_sides => k_is)
    (case c_L_sides => k_is)
    (case k_L_sides => k_is)
    (case a_L_seen => k_is)
    (case l_L_seen => k_is)
    (case c_L_seen => k_is)
    (case k_L_seen => k_is)
    (case a_L_edge => k_is)
    (case l_L_edge => k_is)
    (case c_L_edge => k_is)
    (case k_L_edge => k_is)
    (case a_L_least => k_is)
    (case l_L_least => k_is)
    (case c_L_least => k_is)
    (case k_L_least => k_is)
    (case a_L_wider => k_is)
    (case l_L_wider => k_is)
    (case c_L_wider => k_is)
    (case k_L_wider => k_is)
    (case a_L_divisor => k_is)
    (case l_L_divisor => k_is)
    (case c_L_divisor => k_is)
    (case k_L_divisor => k_is)
    (case a_L_period => k_is)
    (case l_L_period => k_is)
    (case c_L_period => k_is)
    (case k_L_period => k_is)
    (case a_L_before => k_is)
    (case l_L_before => k_is)
    (case c_L_before => k_is)
    (case k_L_before => k_is)
    (case a_L_holds => k_is)
    (case l_L_holds => k_is)
    (case c_L_holds => k_is)
    (case k_L_holds => k_is)
    (case a_L_told => k_is)
    (case l_L_told => k_is)
    (case c_L_told => k_is)
    (case k_L_told => k_is)
    (case a_L_count => k_is)
    (case l_L_count => k_is)
    (case c_L_count => k_is)
    (case k_L_count => k_is)
    (case a_L_due => k_is)
    (case l_L_due => k_is)
    (case c_L_due => k_is)
    (case k_L_due => k_is)
    (case a_L_word => k_is)
    (case l_L_word => k_is)
    (case c_L_word => k_is)
    (case k_L_word => k_is)
    (case a_L_doors_right => k_is)
    (case l_L_doors_right => k_is)
    (case c_L_doors_right => k_is)
    (case k_L_doors_right => k_is)
    (case a_law => k_is)
    (case l_law => k_is)
    (case c_law => k_is)
    (case k_law => k_is)
    (case z_len => k_is)
    (case z_abs => k_is)
    (case z_int => k_is)
    (case z_range => k_is)
    (case z_isinstance => k_is)
    (case z_bool => k_is)
    (case z_tuple => k_is)
    (case z_divmod => k_is)
    (case z_max => k_is)
    (case z_min => k_is)
    (case z_list => k_is)
    (case z_sorted => k_is)
    (case z_enumerate => k_is)
    (case z_ValueError => k_is)
    (case g_0 => k_is)
    (case g_1 => k_is)
    (case g_2 => k_is)
    (case g_3 => k_is)
    (case g_4 => k_is)
    (case g_B => k_is)
    (case et_0 => kernel_rfl)
    (case et_1 => kernel_rfl)
    (case et_2 => kernel_rfl)
    (case et_3 => kernel_rfl)
    (case et_4 => kernel_rfl)
    (case em_0 => kernel_rfl)
    (case gsp => k_is)
    (case gtk => k_is)
    (case a_MS => k_is)
    (case a_MH => k_is)
    (case a_MN => k_is)
    (case em_2 => kernel_rfl)
    (case a_lcm => k_is)
    (case a_MODES => k_is)
    (case l_MODES => k_is)
    (case v_MODES => exact ⟨by decide, .cons ⟨_, rfl⟩ (.cons ⟨_, rfl⟩ (.cons ⟨_, rfl⟩ (.cons ⟨_, rfl⟩ (.cons ⟨_, rfl⟩ .nil))))⟩)
#print axioms PySem.Challenge.cw_handedtext_k16_logs_holds
