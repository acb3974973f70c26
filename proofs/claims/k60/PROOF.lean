import PyProof.Rows.All
import Wide.All
import OpenK.AllK
import Wide.FinOn
import HandS.CallSlots
import HandS.Deep
import HandS.Defaults
import HandS.Exc
import HandS.ExcField
import HandS.ExcInit
import HandS.ExcIs
import HandS.ExcValue
import HandS.ForMost
import HandS.HotCalls
import HandS.IsInst
import HandS.MakeKwOnly
import HandS.More
import HandS.NoneIn
import HandS.RaiseFrom
import HandS.ReplaceLit
import HandS.StrMore
import HandS.Style
import HandS.SuiteRaise
import HandS.TryOnly
import HandS.Wide
import HandS.WideBits
import HandS.WordsExc
import KE.KEqDeep
import KE.KEqSeq
import KE.KExcIs
import HandS.Gcd
import HandS.SortKw
import KE.DataMinMax
import HandS.SortInts
import HandS.SetFor
import HandS.Strs
import KE.SortData
import HandS.Walk
import PySem.Challenge.RW_handedtext_k60_whole_outcomes
set_option Elab.async false
set_option linter.all false
set_option maxRecDepth 100000
set_option maxHeartbeats 4000000
set_option exponentiation.threshold 9000
open PySem L2
local macro_rules | `(tactic| walk_at "rd") => `(tactic| repeat (first | refine ⟨_, rfl, ?_⟩ | refine ⟨_, _, rfl, rfl, ?_⟩ | refine .inl ⟨_, rfl, ?_⟩))
namespace L2
open PySem PySem.Spec PyProof.Rows
/-- an error that was caught and kept, at a -/
def ExK (cls : Value) (a : Addr) : HO := .ext fun hp => ∃ (rec' : Obj) (cells : Array Value), hp.get? a = some rec' ∧ Zc cls none rec' ∧ rec'.data = .fields cells
/-- wKeep: what 'except x as n' wishes, where the error stays tracked behind the suite -/
def wKeep (K : PySem.W.Frag) (c : Value) (i : Nat) (ts : Addr → Value → Option Addr → TS) (Wout : WX) (D : Ends) : WX := fun kl dd st H =>
  ∃ yes, PySem.W.exmOne K kl c = some yes ∧ (yes = true → dd = none ∧ ∀ a, H a = none → ts a kl dd { nx := fun st' H' => D.nx (st'.set i none) (upd H' a (ExK kl a)), rt := D.rt, bk := fun st' H' => D.bk (st'.set i none) H', ct := fun st' H' => D.ct (st'.set i none) H' } (st.set i (some (.ref a))) H) ∧
    (yes = false → Wout kl dd st H)
section
variable {X : Cx} {pins : List (Addr × Obj)} {st : St} {H : Hp} {sh : Shared}
theorem Inv.adopt {a : Addr} {kl : Value} {rc : Obj} {cells : Array Value} (iv : Inv X pins st H sh) (new0 : X.s_0.heap.get? a = none) (free : H a = none) (at0 : sh.heap.get? a = some rc) (zc : Zc kl none rc) (fl : rc.data = .fields cells) (nl : a ≠ X.env.locals)
    (np : ∀ p ∈ X.pn ++ pins, p.1 ≠ a) : Inv X pins st (upd H a (ExK kl a)) sh := by
  have old : ∀ c rr, X.s_0.heap.get? c = some rr → c ≠ a := fun c rr e z => by
    rw [z, new0] at e
    cases e
  have other : ∀ c u, H c = some u → upd H a (ExK kl a) c = some u := fun c u e => (upd_ne (ne_of_none e free)).trans e
  refine ⟨iv.ok, iv.os, iv.bare, ⟨iv.base.keep, iv.base.slot, fun c rr e n0 nx => ?_, iv.base.there, fun c xs e => other _ _ (iv.base.tups c xs e), fun c rr u e => other _ _ (iv.base.frzs c rr u e), fun c ps e => ?_⟩, iv.loc, iv.cell, ?_, fun y c e => ?_, fun p hp => ?_, fun c u e => ?_, iv.len⟩
  · exact (upd_ne (old c rr e)).trans (iv.base.free c rr e n0 nx)
  · obtain ⟨more, e2⟩ := iv.base.tbls c ps e
    exact ⟨more, other _ _ e2⟩
  · exact (upd_ne nl.symm).trans iv.free
  · obtain ⟨w, rr, e2, e3⟩ := iv.cell y c e
    refine (upd_ne fun z => ?_).trans (iv.freeC y c e)
    subst z
    rw [at0] at e2
    cases e2
    simp [fl] at e3
  · obtain ⟨e1, e2, e3, e4, e5⟩ := iv.pin p hp
    exact ⟨e1, (upd_ne (np p hp)).trans e2, e3, e4, e5⟩
  · by_cases ca : c = a
    · subst ca
      rw [upd_same] at e
      cases e
      exact ⟨⟨rc, cells, at0, zc, fl⟩, ⟨rc, at0⟩, fun _ _ ⟨r2, c2, e2, e3⟩ same => ⟨r2, c2, same _ e2, e3⟩⟩
    · rw [upd_ne ca] at e
      exact (iv.hok c u e).stay (fun _ _ _ e2 => e2) (fun c2 e2 => other _ _ e2) fun c2 xs e2 => other _ _ e2
end
end L2
namespace L2
open PySem PySem.Spec PyProof.Rows
section
variable {X : Cx} {x n : Str} {c : Value} {i : Nat} {body suite : List Stmt} {first : Stmt} {np pos pos' : Pos} {tb : WX → TS} {ts : Addr → Value → Option Addr → TS} {Wout : WX}
/-- try: .. except x as n: suite; the caught error stays tracked behind it -/
theorem ps_try_keep (stk : X.stack = X.env :: X.outer) (frm : X.env.frame = some X.env.locals) (noex : X.ex = []) (dist : X.N.Nodup) (slot : X.N[i]? = some n) (loc : X.env.kindOf n = some .local) (nam : Names X x c) (tk : Takes X Wout)
    (inner : ∀ (W : WX) (pn : List (Addr × Obj)) (xe : Value → Shared → Prop), Takes (X.tr pn xe) W → PassesOwn (model X.prog X.w) X.A X.env xe → PSs (X.tr pn xe) body (tb W))
    (caught : ∀ (a : Addr) (rc : Obj) (kl : Value) (dd : Option Addr) (pn : List (Addr × Obj)), Zc kl dd rc → (∃ cells, rc.data = .fields cells) → PSs (X.suite a ((a, rc) :: pn)) (first :: suite) (ts a kl dd)) :
    PS X (.Try body [.ExceptHandler (some (.Name x np)) (some n) (first :: suite) pos'] [] [] pos) (fun D st H => tb (wKeep X.K c i ts Wout D) D st H) where
  run := fun pins sh st H D iv want => by
    have fine := iv.ok
    have frames : X.A.frames = some (X.env :: X.outer) := by rw [fine.frames, stk]
    refine wpAny_Try_except (wpAny_mono ((inner (wKeep X.K c i ts Wout D) (X.pn ++ pins) _ (fun u sh' air => ?_) PassesOwn.looking).run [] sh st H D (iv.toTry _) want) ?_ fun _ _ e => e)
    · obtain ⟨a, B, shI, pins', st1, H1, kl, dd, rfl, ivT, inB, upTo, sky, freeA, sameOs, bareG, yes, dec, onYes, onNo⟩ := air
      have iv1 : Inv X pins st1 H1 shI := ivT.ofTry fine
      rw [stk] at sky
      refine Sky.land Zc.steady frames frm sky fun hp3 fly3 up3 => ?_
      have bNone : B.get? a = none := fly3.2.1
      have iv3 : Inv X pins st1 H1 { sh' with heap := hp3 } := iv1.landed inB fly3.1 (upTo.trans up3) sameOs bareG
      obtain ⟨rc3, cells3, at3, zc3, dt3⟩ := fly3.there
      have offFrames : a ∉ frs (X.env :: X.outer) := fun mem => by
        obtain ⟨_, r2, e2, bad⟩ := fly3.2.2.1.mem mem
        rw [at3] at e2
        cases e2
        exact bad _ dt3
      have offL : a ≠ X.env.locals := fun z => offFrames (List.mem_filterMap.mpr ⟨X.env, List.mem_cons_self, by rw [frm, z]⟩)
      have offF : a ∉ X.fs := fun mem => by
        obtain ⟨ee, inn, ef⟩ := List.mem_filterMap.mp mem
        exact offFrames (List.mem_filterMap.mpr ⟨ee, List.mem_cons_of_mem _ inn, ef⟩)
      have notThere : shI.heap.get? a = none := by
        cases e : shI.heap.get? a with
        | none => rfl
        | some rr =>
          have z := inB a rr e (by rw [stk]; exact offFrames)
          rw [bNone] at z
          cases z
      have new0 : X.s_0.heap.get? a = none := by
        cases e : X.s_0.heap.get? a with
        | none => rfl
        | some rr =>
          obtain ⟨r2, e2⟩ := iv1.base.there a rr e (by rw [noex]; exact List.not_mem_nil)
          rw [notThere] at e2
          cases e2
      have pinsOff : ∀ p ∈ X.pn ++ pins, p.1 ≠ a := fun p hp z => by
        have e2 := (iv1.pin p hp).1
        rw [z, notThere] at e2
        cases e2
      have inSuite := iv3.suite at3 dt3 freeA offL offF
      refine wpAny_handleBy_cons (codeAny_handlers_test ?_) (by intro q; cases q)
      have theClass : PySem.W.Looks (model X.prog X.w) hp3 (typeOf (.ref a)) kl := fun A' Q' E' s' kk qq => wpAny_typeOf_ref (kk _ _ at3) (by rw [zc3.1]; exact qq)
      have theTest := PySem.W.exm_one (M := model X.prog X.w) iv3.kIn theClass dec
      have clause : ∀ {Q' : Value → Shared → Prop} {E' : Value → Shared → Prop}, Q' c { sh' with heap := hp3 } → wpAny (model X.prog X.w) (X.A.mark (some (.ref a))) (eval (.Name x np) X.env) Q' E' { sh' with heap := hp3 } := fun {Q' E'} qq => by
        obtain ⟨g1, g2, g3 | ⟨g3, g4, g5⟩⟩ := nam
        · exact ld_glob (X := X.suite a ((a, rc3) :: (X.pn ++ pins))) inSuite g1 g3 qq g2
        · exact ld_blt (X := X.suite a ((a, rc3) :: (X.pn ++ pins))) inSuite g1 g3 g4 qq g5 g2
      refine clause (theTest.here ?_)
      cases yes with
      | true =>
        obtain ⟨rfl, go⟩ := onYes rfl
        refine codeAny_handlers_suite_as (HandSPX.lands_againZ fly3 fun hp4 fly4 up4 => ?_)
        have iv4 : Inv X pins st1 H1 { sh' with heap := hp4 } := iv1.landed inB fly4.1 ((upTo.trans up3).trans up4) sameOs bareG
        obtain ⟨rc4, cells4, at4, zc4, dt4⟩ := fly4.there
        refine store_ok (X := X.suite a ((a, rc4) :: (X.pn ++ pins))) (v := .ref a) (iv4.suite at4 dt4 freeA offL offF) dist slot (.inl loc) rfl (fun sh5 iv5 => ?_) (.inr loc)
        refine wpAny_mono ((caught a rc4 kl none (X.pn ++ pins) zc4 ⟨_, dt4⟩).run [] sh5 _ H1 _ iv5 (go a freeA)) (fun flow sh6 came => ?_) fun _ _ z => z.elim
        cases flow with
        | next =>
          obtain ⟨st6, H6, iv6, q6⟩ := came
          have more : Inv X ((a, rc4) :: pins) st6 H6 sh6 := ⟨fine, iv6.os, iv6.bare, iv6.base, iv6.loc, iv6.cell, iv6.free, iv6.freeC, fun p hp => iv6.pin p (List.mem_append_left _ ?_), iv6.hok, iv6.len⟩
          refine gone_ok more dist slot loc fun sh7 iv7 => ?_
          have there : (a, rc4) ∈ X.pn ++ (a, rc4) :: pins := List.mem_append_right _ List.mem_cons_self
          obtain ⟨e1, e2, e3, _⟩ := iv7.pin (a, rc4) there
          have less : Inv X pins (st6.set i none) H6 sh7 := ⟨fine, iv7.os, iv7.bare, iv7.base, iv7.loc, iv7.cell, iv7.free, iv7.freeC, fun p hp => iv7.pin p ?_, iv7.hok, iv7.len⟩
          · exact ⟨_, _, less.adopt new0 e2 e1 zc4 dt4 e3 pinsOff, q6⟩
          · rcases List.mem_append.mp hp with hq | hq
            · exact List.mem_append_left _ hq
            · exact List.mem_append_right _ (List.mem_cons_of_mem _ hq)
          · rcases List.mem_append.mp hp with hq | hq
            · exact List.mem_cons_of_mem _ (List.mem_append_left _ hq)
            · rcases List.mem_cons.mp hq with hr | hr
              · rw [hr]; exact List.mem_cons_self
              · exact List.mem_cons_of_mem _ (List.mem_append_right _ hr)
        | brk =>
          obtain ⟨st6, H6, iv6, q6⟩ := came
          exact gone_ok (iv6.unsuite fine) dist slot loc fun sh7 iv7 => ⟨_, _, iv7, q6⟩
        | cont =>
          obtain ⟨st6, H6, iv6, q6⟩ := came
          exact gone_ok (iv6.unsuite fine) dist slot loc fun sh7 iv7 => ⟨_, _, iv7, q6⟩
        | ret u =>
          obtain ⟨v6, st6, H6, iv6, r6, q6⟩ := came
          exact gone_ok (iv6.unsuite fine) dist slot loc fun sh7 iv7 => ⟨_, _, _, iv7, r6, q6⟩
      | false =>
        show wpAny _ X.A (handleBy (.ref a) X.env []) _ _ _
        refine wpAny_handleBy_nil ?_
        obtain ⟨_, _, _, rc5, cells5, tr5, _, _, at5, _, dt5, at1, _⟩ := id fly3
        unfold PySem.passOn
        refine wpAny_bind (wpAny_field at5 dt5 at1 ?_)
        rw [if_neg (by simp : ¬ (Value.ref tr5 == Value.none) = true)]
        have out : wpAny (model X.prog X.w) X.A (setFlight (.ref a) X.env.frame) (fun _ sh8 => wpAny (model X.prog X.w) X.A (throw (.ref a) : Sem Flow) (SP X pins D) X.xe sh8) X.xe { sh' with heap := hp3 } := by
          rw [frm]
          refine HandSPX.setFlight_upZ fly3 fun hp8 held up8 => wpAny_throw (tk _ _ ?_)
          exact ⟨a, B, shI, pins, st1, H1, kl, dd, rfl, iv1, inB, (upTo.trans up3).trans up8, .inr (.inr (by rw [stk]; exact held)), freeA, sameOs, bareG, onNo rfl⟩
        first
          | exact wpAny_bind out
          | exact wpAny_bind (wpAny_pure (wpAny_bind out))
    · intro flow sh1 came
      cases flow with
      | next =>
        obtain ⟨st1, H1, iv1, q1⟩ := came
        exact wpAny_execs_nil ⟨st1, H1, iv1.ofTry fine, q1⟩
      | brk =>
        obtain ⟨st1, H1, iv1, q1⟩ := came
        exact ⟨st1, H1, iv1.ofTry fine, q1⟩
      | cont =>
        obtain ⟨st1, H1, iv1, q1⟩ := came
        exact ⟨st1, H1, iv1.ofTry fine, q1⟩
      | ret u =>
        obtain ⟨v1, st1, H1, iv1, r1, q1⟩ := came
        exact ⟨v1, st1, H1, iv1.ofTry fine, r1, q1⟩
end
end L2
namespace L2
open PySem PySem.Spec PyProof.Rows
/-- what the written part says of an error class, for isinstance -/
structure ErrC (K : PySem.W.Frag) (C : Addr) : Prop where
  cl : (PySem.W.clsIn K C).isSome = true
  ga : PySem.W.findIn K (.ref C) "__getattribute__" = some (some (.builtin "BaseException.__getattribute__"))
  gg : PySem.W.findIn K (.ref C) "__getattr__" = some none
  sb : PySem.W.subIn K (.ref C) (.type "BaseException") = some true
  cn : PySem.W.findIn K (.ref C) "__class__" = some (some (.builtin "object.__class__"))
  mo : PySem.W.mroIn K C (.type "object") = some true
/-- .. of the attribute __class__ of all objects -/
structure ErrG (K : PySem.W.Frag) : Prop where
  sp : PySem.W.specialIn K (.builtin "object.__class__") "__get__" = some (some (.builtin "getset_descriptor.__get__"))
  tk : PySem.W.takesIn K (.builtin "object.__class__") = some true
def rIsKept (K : PySem.W.Frag) : List V → Hp → VK → Prop := fun xs H Q => ∃ (a C : Addr) (c : V) (cv : Value) (b : Bool), xs = [.ref a, c] ∧ ClsV c cv ∧ H a = some (ExK (.ref C) a) ∧ ErrC K C ∧ ErrG K ∧ PySem.W.kitOne K (.ref C) cv = some b ∧ Q (.bl b) H
theorem call_isKept {X : Cx} : CallR X (.builtin "isinstance") (rIsKept X.K) := by
  intro pins sh st H xs us Q iv r h
  obtain ⟨a, C, c, cv, b, rfl, k, at', T, G, e, q⟩ := h
  obtain ⟨u1, u2, rfl, r1, r2⟩ := vals2 r
  have e2 := k.eq r2
  subst e2
  obtain rfl : u1 = Value.ref a := r1
  obtain ⟨⟨oe, vs, ho, hz, hd⟩, _, _⟩ := iv.hok a _ at'
  have J : PySem.W.InstAt sh.heap a oe C none := by
    obtain ⟨oc, od, oda, osl⟩ := oe
    obtain ⟨h1, h2⟩ := hz
    dsimp only at h1 h2 hd
    subst h1 h2 hd
    exact ⟨ho, rfl, rfl, trivial⟩
  exact PySem.W.kia_one (PySem.W.kitx_exc T.cl T.ga T.gg T.sb T.cn G.sp G.tk T.mo) iv.kIn J e (fun z => nomatch z) fun tk => ⟨.bl b, H, iv.tok tk, rfl, q⟩
end L2
namespace L2
open PySem PySem.Spec PyProof.Rows
/-- a def of which any kind of error may come -/
theorem Fun.okAny {CX' : CXT} {P : Program} {w : World} {K : PySem.W.Frag} {mg : Str → Option Value} {base : Heap} {nm qu : Str} {row : Stmt} {at0 : Addr} {fd : FuncData} {names pars : List Str} {lev : Nat} {want : Sp} (F : Fun K nm qu row at0 fd) (S : FnScope names pars (defScope row)) (len : ∀ vs H Q E, want vs H Q E → vs.length = pars.length)
    (body : ∀ (code : Value) (A : Around) (outer : List Env) (sh : Shared) (H : Hp) (vs : List V) (Q : VK) (E : XK), Room lev (A.deeper (envOfC qu (defScope row) sh.heap.objs.size at0 code)) → want vs H Q E →
      ∃ t, PSs (cxOf CX' P w K mg base names qu (defScope row) at0 code A outer sh H E) (defBody row) t ∧ t { nx := fun _ H' => Q .non H', rt := Q } (start names vs) H) : FnOk P w K mg base CX' (lev + 1) at0 fd pars want := by
  obtain ⟨_, _, _, _, _, _, code, _, _, rfl, there, isCode⟩ := F.ex
  exact fn_of there isCode S len (body code)
/-- X('..') of an own class, for a raise .. from None -/
theorem pmk5_own {X : Cx} {C : Addr} {bmB : List Value} {B newId initId : String} {x m : Str} {j : Nat} {p p2 pos : Pos} (F : ExcBaseFacts B newId initId bmB) (q : PySem.W.excIn X.K C bmB newId = true) (gC : X.mg x = some (.ref C)) (kC : PySem.W.keepIn X.K (.ref C) = true) (r : Raises X (.ref C)) (hg : Gl X x)
    (plain : (x == ("__debug__" : Str)) = false := by decide) : L2H.PMk5 X (.Call (.Name x p) [.Constant (.str m) j p2] [] pos) (fun _ H Q => Q (.ref C) none H) := by
  intro pins sh st H Q iv want
  have arg : PA X [.Constant (.str m) j p2] (tCons (tC (.str m)) tNil) := pa_cons pe_str pa_nil
  refine wpAny_Call_Name_kw (ld_glob iv hg gC (PySem.W.callWith_K (h₀ := X.base) iv.ok.mod.kin kC (thn (arg.run pos pins sh st H (fun vs H1 => vs = [V.str m] ∧ H = H1) iv ⟨rfl, rfl⟩) ?_)) plain)
  rintro us sh1 ⟨vs, H1, iv1, rel, rfl, rfl⟩
  refine ⟨iv1.kIn, ?_⟩
  match us, rel with
  | [u], .cons _ .nil =>
    show wpAny _ _ (call (.ref C) [u]) _ _ _
    obtain ⟨_, _, _, _, _, _, _, _, _, _, _, _, _, _, _, _, _, hC, hN, hni, T⟩ := exc_obj iv1.kIn q
    exact wpAny_call_exc_subT F T hC hN hni (fun h' e made => L2H.mk_of5 iv1 made r want (iv1.hok.gone made.new)) (by show 1 ≤ sizeLine; decide)
/-- try: .. except x: suite, the suite raising: ps_try_onlyX with its reading under a name, for a loop around it -/
def tTryX (K : PySem.W.Frag) (c : Value) (ts : Addr → Value → Option Addr → TS) (Wout : WX) (tb : WX → TS) : TS := fun D st H => tb (wOnly K c ts Wout D) D st H
theorem ps_tryX {X : Cx} {x : Str} {c : Value} {body suite : List Stmt} {first : Stmt} {np pos pos' : Pos} {tb : WX → TS} {ts : Addr → Value → Option Addr → TS} {Wout : WX} (h1 : X.stack = X.env :: X.outer) (h2 : X.env.frame = some X.env.locals) (h3 : Names X x c)
    (h4 : ∀ hd : Option Value, PassesOwnAt (model X.prog X.w) (X.A.mark hd) X.A X.env X.xe) (h5 : L2.Takes X Wout)
    (h6 : ∀ (W : WX) (pn : List (Addr × Obj)) (xe : Value → Shared → Prop), L2N.Takes (X.tr pn xe) W → L2.Takes (X.tr pn xe) (L2H.wPass X.K c Wout) → PassesOwn (model X.prog X.w) X.A X.env xe → PSs (X.tr pn xe) body (tb W))
    (h7 : ∀ (a : Addr) (oe : Obj) (cls : Value) (d : Option Addr) (pn : List (Addr × Obj)), L2N.Zn cls d oe → (∃ vs, oe.data = .fields vs) → L2.Takes (L2H.suiteX X a ((a, oe) :: pn)) Wout → L2H.HotC (L2H.suiteX X a ((a, oe) :: pn)) → PSs (L2H.suiteX X a ((a, oe) :: pn)) (first :: suite) (ts a cls d)) :
    PS X (.Try body [.ExceptHandler (some (.Name x np)) none (first :: suite) pos'] [] [] pos) (tTryX X.K c ts Wout tb) := L2H.ps_try_onlyX h1 h2 h3 h4 h5 h6 h7
end L2
namespace HT
open PySem L2
/-- a test whose ways are joined by a statement of the heap -/
def tMidT (t : TT) : TT := fun σ H Q => ∃ M : Bool → Hp → Prop, t σ H M ∧ ∀ b H', M b H' → Q b H'
def tMidE (t : TE) : TE := fun σ H Q => ∃ M : V → Hp → Prop, t σ H M ∧ ∀ v H', M v H' → Q v H'
def tMidS (t : TS) : TS := fun D σ H => ∃ M : St → Hp → Prop, t { D with nx := M } σ H ∧ ∀ σ' H', M σ' H' → D.nx σ' H'
theorem pt_mid {X : Cx} {e : Expr} {t : TT} (h : PT X e t) : PT X e (tMidT t) :=
  ⟨fun pins s σ H _ I ⟨M, a, b⟩ => thn (h.run pins s σ H M I a) fun c _ ⟨H1, I1, q1⟩ => ⟨H1, I1, b c H1 q1⟩⟩
theorem pe_mid {X : Cx} {e : Expr} {t : TE} (h : PE X e t) : PE X e (tMidE t) :=
  ⟨fun pins s σ H _ I ⟨M, a, b⟩ => thn (h.run pins s σ H M I a) fun _ _ ⟨v, H1, I1, r, q1⟩ => ⟨v, H1, I1, r, b v H1 q1⟩⟩
theorem ps_mid {X : Cx} {st : Stmt} {t : TS} (h : PS X st t) : PS X st (tMidS t) :=
  ⟨fun pins s σ H D I ⟨M, a, b⟩ => thn (h.run pins s σ H { D with nx := M } I a) fun f _ q => by
    cases f with
    | next => obtain ⟨σ', H', I', q⟩ := q; exact ⟨σ', H', I', b σ' H' q⟩
    | brk => exact q
    | cont => exact q
    | ret v => exact q⟩
end HT
def top (i : Nat) : Stmt := PySem.Challenge.pw_handedtext_k60_whole_outcomes.main.body.getD i (.Pass ⟨0, 0, 0, 0⟩)
abbrev s_is_int : Stmt := top 8
abbrev s_is_int_between : Stmt := top 9
abbrev s_check_value : Stmt := top 10
abbrev s_check_side : Stmt := top 14
abbrev s_is_side : Stmt := top 15
abbrev s_figure : Stmt := top 16
abbrev s_goes_up : Stmt := top 17
abbrev s_written : Stmt := top 18
abbrev s_span : Stmt := top 19
abbrev s_uspan : Stmt := top 20
abbrev s_below : Stmt := top 21
abbrev s_threshold : Stmt := top 22
abbrev s_mirror : Stmt := top 23
abbrev s_form : Stmt := top 24
abbrev s_first_mode : Stmt := top 25
abbrev s_check_sides : Stmt := top 29
abbrev s_period_of : Stmt := top 30
abbrev s_moved : Stmt := top 31
abbrev s_common_period : Stmt := top 32
abbrev s_raisers : Stmt := top 33
abbrev s_raises_some : Stmt := top 34
abbrev s_highest : Stmt := top 35
abbrev s_mirrors : Stmt := top 36
abbrev s_outcomes : Stmt := top 39
abbrev s_rests : Stmt := top 40
abbrev s_rest_of : Stmt := top 41
abbrev s_first_hit : Stmt := top 43
abbrev s_first_between : Stmt := top 44
abbrev s_unraised : Stmt := top 46
abbrev s_first_in_block : Stmt := top 47
abbrev s_first_in_both : Stmt := top 48
abbrev s_reach : Stmt := top 51
abbrev s_check_few : Stmt := top 52
abbrev s_first_unraised : Stmt := top 53
abbrev s_first_unraised_by_two : Stmt := top 54
abbrev s_route : Stmt := top 56
abbrev s_fewest : Stmt := top 57
abbrev s_runs : Stmt := top 58
abbrev s_widened : Stmt := top 59
abbrev s_ends : Stmt := top 60
abbrev s_within : Stmt := top 61
abbrev s_holds : Stmt := top 62
abbrev s_way : Stmt := top 63
abbrev s_L_source : Stmt := top 65
abbrev s_L_draw : Stmt := top 66
abbrev s_L_pick : Stmt := top 67
abbrev s_L_great : Stmt := top 68
abbrev s_L_small_side : Stmt := top 69
abbrev s_L_figure : Stmt := top 70
abbrev s_L_handed : Stmt := top 71
abbrev s_L_divisor : Stmt := top 72
abbrev s_L_period : Stmt := top 73
abbrev s_L_set : Stmt := top 74
abbrev s_L_written : Stmt := top 75
abbrev s_L_all : Stmt := top 76
abbrev s_L_word : Stmt := top 77
abbrev s_L_routes_fit : Stmt := top 78
abbrev s_L_fits : Stmt := top 79
abbrev s_law : Stmt := top 80
/- is_int: 0:thing -/
theorem sc_is_int : FnScope ["thing"] ["thing"] (defScope s_is_int) := ⟨rfl, rfl, rfl, by decide +kernel, rfl, by decide +kernel, by decide +kernel⟩
/- is_int_between: 0:thing 1:least 2:most -/
theorem sc_is_int_between : FnScope ["thing", "least", "most"] ["thing", "least", "most"] (defScope s_is_int_between) := ⟨rfl, rfl, rfl, by decide +kernel, rfl, by decide +kernel, by decide +kernel⟩
/- check_value: 0:value -/
theorem sc_check_value : FnScope ["value"] ["value"] (defScope s_check_value) := ⟨rfl, rfl, rfl, by decide +kernel, rfl, by decide +kernel, by decide +kernel⟩
/- check_side: 0:side 1:offset 2:step 3:mode -/
theorem sc_check_side : FnScope ["side", "offset", "step", "mode"] ["side"] (defScope s_check_side) := ⟨rfl, rfl, rfl, by decide +kernel, rfl, by decide +kernel, by decide +kernel⟩
/- is_side: 0:thing -/
theorem sc_is_side : FnScope ["thing"] ["thing"] (defScope s_is_side) := ⟨rfl, rfl, rfl, by decide +kernel, rfl, by decide +kernel, by decide +kernel⟩
/- _figure: 0:side 1:value 2:offset 3:step 4:mode 5:figure 6:rest -/
theorem sc_figure : FnScope ["side", "value", "offset", "step", "mode", "figure", "rest"] ["side", "value"] (defScope s_figure) := ⟨rfl, rfl, rfl, by decide +kernel, rfl, by decide +kernel, by decide +kernel⟩
/- _goes_up: 0:mode 1:step 2:figure 3:rest -/
theorem sc_goes_up : FnScope ["mode", "step", "figure", "rest"] ["mode", "step", "figure", "rest"] (defScope s_goes_up) := ⟨rfl, rfl, rfl, by decide +kernel, rfl, by decide +kernel, by decide +kernel⟩
/- written: 0:side 1:value 2:offset 3:step 4:_ -/
theorem sc_written : FnScope ["side", "value", "offset", "step", "_"] ["side", "value"] (defScope s_written) := ⟨rfl, rfl, rfl, by decide +kernel, rfl, by decide +kernel, by decide +kernel⟩
/- span: 0:side 1:figure -/
theorem sc_span : FnScope ["side", "figure"] ["side", "figure"] (defScope s_span) := ⟨rfl, rfl, rfl, by decide +kernel, rfl, by decide +kernel, by decide +kernel⟩
/- _span: 0:side 1:figure 2:offset 3:step 4:mode 5:value -/
theorem sc_uspan : FnScope ["side", "figure", "offset", "step", "mode", "value"] ["side", "figure"] (defScope s_uspan) := ⟨rfl, rfl, rfl, by decide +kernel, rfl, by decide +kernel, by decide +kernel⟩
/- _below: 0:mode 1:step 2:figure -/
theorem sc_below : FnScope ["mode", "step", "figure"] ["mode", "step", "figure"] (defScope s_below) := ⟨rfl, rfl, rfl, by decide +kernel, rfl, by decide +kernel, by decide +kernel⟩
/- threshold: 0:side 1:value 2:offset 3:step 4:mode 5:figure -/
theorem sc_threshold : FnScope ["side", "value", "offset", "step", "mode", "figure"] ["side", "value"] (defScope s_threshold) := ⟨rfl, rfl, rfl, by decide +kernel, rfl, by decide +kernel, by decide +kernel⟩
/- mirror: 0:side 1:offset 2:step 3:mode -/
theorem sc_mirror : FnScope ["side", "offset", "step", "mode"] ["side"] (defScope s_mirror) := ⟨rfl, rfl, rfl, by decide +kernel, rfl, by decide +kernel, by decide +kernel⟩
/- form: 0:side 1:offset 2:step 3:mode 4:first -/
theorem sc_form : FnScope ["side", "offset", "step", "mode", "first"] ["side"] (defScope s_form) := ⟨rfl, rfl, rfl, by decide +kernel, rfl, by decide +kernel, by decide +kernel⟩
/- _first_mode: 0:step 1:mode -/
theorem sc_first_mode : FnScope ["step", "mode"] ["step", "mode"] (defScope s_first_mode) := ⟨rfl, rfl, rfl, by decide +kernel, rfl, by decide +kernel, by decide +kernel⟩
/- check_sides: 0:sides 1:side -/
theorem sc_check_sides : FnScope ["sides", "side"] ["sides"] (defScope s_check_sides) := ⟨rfl, rfl, rfl, by decide +kernel, rfl, by decide +kernel, by decide +kernel⟩
/- period_of: 0:side 1:_ 2:step 3:mode -/
theorem sc_period_of : FnScope ["side", "_", "step", "mode"] ["side"] (defScope s_period_of) := ⟨rfl, rfl, rfl, by decide +kernel, rfl, by decide +kernel, by decide +kernel⟩
/- moved: 0:side 1:by 2:offset 3:step 4:mode -/
theorem sc_moved : FnScope ["side", "by", "offset", "step", "mode"] ["side", "by"] (defScope s_moved) := ⟨rfl, rfl, rfl, by decide +kernel, rfl, by decide +kernel, by decide +kernel⟩
/- common_period: 0:sides 1:many 2:side -/
theorem sc_common_period : FnScope ["sides", "many", "side"] ["sides"] (defScope s_common_period) := ⟨rfl, rfl, rfl, by decide +kernel, rfl, by decide +kernel, by decide +kernel⟩
/- raisers: 0:sides 1:side -/
theorem sc_raisers : FnScope ["sides", "side"] ["sides"] (defScope s_raisers) := ⟨rfl, rfl, rfl, by decide +kernel, rfl, by decide +kernel, by decide +kernel⟩
/- _raises_some: 0:side 1:_ 2:mode -/
theorem sc_raises_some : FnScope ["side", "_", "mode"] ["side"] (defScope s_raises_some) := ⟨rfl, rfl, rfl, by decide +kernel, rfl, by decide +kernel, by decide +kernel⟩
/- highest: 0:sides 1:value 2:side -/
theorem sc_highest : FnScope ["sides", "value", "side"] ["sides", "value"] (defScope s_highest) := ⟨rfl, rfl, rfl, by decide +kernel, rfl, by decide +kernel, by decide +kernel⟩
/- mirrors: 0:sides 1:side -/
theorem sc_mirrors : FnScope ["sides", "side"] ["sides"] (defScope s_mirrors) := ⟨rfl, rfl, rfl, by decide +kernel, rfl, by decide +kernel, by decide +kernel⟩
/- outcomes: 0:sides 1:value 2:found 3:known 4:at 5:side 6:there -/
theorem sc_outcomes : FnScope ["sides", "value", "found", "known", "at", "side", "there"] ["sides", "value"] (defScope s_outcomes) := ⟨rfl, rfl, rfl, by decide +kernel, rfl, by decide +kernel, by decide +kernel⟩
/- rests: 0:sides 1:value 2:values 3:lower 4:upper -/
theorem sc_rests : FnScope ["sides", "value", "values", "lower", "upper"] ["sides", "value"] (defScope s_rests) := ⟨rfl, rfl, rfl, by decide +kernel, rfl, by decide +kernel, by decide +kernel⟩
/- _rest_of: 0:sides 1:value 2:top 3:bottom -/
theorem sc_rest_of : FnScope ["sides", "value", "top", "bottom"] ["sides", "value"] (defScope s_rest_of) := ⟨rfl, rfl, rfl, by decide +kernel, rfl, by decide +kernel, by decide +kernel⟩
/- first_hit: 0:start 1:step 2:most 3:modulus 4:least 5:greatest -/
theorem sc_first_hit : FnScope ["start", "step", "most", "modulus", "least", "greatest"] ["start", "step", "most", "modulus"] (defScope s_first_hit) := ⟨rfl, rfl, rfl, by decide +kernel, rfl, by decide +kernel, by decide +kernel⟩
/- _first_between: 0:step 1:least 2:greatest 3:modulus 4:many 5:rounds -/
theorem sc_first_between : FnScope ["step", "least", "greatest", "modulus", "many", "rounds"] ["step", "least", "greatest", "modulus"] (defScope s_first_between) := ⟨rfl, rfl, rfl, by decide +kernel, rfl, by decide +kernel, by decide +kernel⟩
/- unraised: 0:side 1:least 2:offset 3:step 4:_ 5:period 6:blocks 7:figure 8:low 9:high 10:start -/
theorem sc_unraised : FnScope ["side", "least", "offset", "step", "_", "period", "blocks", "figure", "low", "high", "start"] ["side", "least"] (defScope s_unraised) := ⟨rfl, rfl, rfl, by decide +kernel, rfl, by decide +kernel, by decide +kernel⟩
/- first_in_block: 0:block 1:value 2:start 3:most 4:period 5:past -/
theorem sc_first_in_block : FnScope ["block", "value", "start", "most", "period", "past"] ["block", "value"] (defScope s_first_in_block) := ⟨rfl, rfl, rfl, by decide +kernel, rfl, by decide +kernel, by decide +kernel⟩
/- first_in_both: 0:one 1:other 2:value 3:start 4:most 5:period 6:begin 7:found 8:other_start 9:other_most 10:other_period 11:many -/
theorem sc_first_in_both : FnScope ["one", "other", "value", "start", "most", "period", "begin", "found", "other_start", "other_most", "other_period", "many"] ["one", "other", "value"] (defScope s_first_in_both) := ⟨rfl, rfl, rfl, by decide +kernel, rfl, by decide +kernel, by decide +kernel⟩
/- reach: 0:sides 1:value 2:raising 3:lowering 4:least -/
theorem sc_reach : FnScope ["sides", "value", "raising", "lowering", "least"] ["sides", "value"] (defScope s_reach) := ⟨rfl, rfl, rfl, by decide +kernel, rfl, by decide +kernel, by decide +kernel⟩
/- _check_few: 0:raising -/
theorem sc_check_few : FnScope ["raising"] ["raising"] (defScope s_check_few) := ⟨rfl, rfl, rfl, by decide +kernel, rfl, by decide +kernel, by decide +kernel⟩
/- _first_unraised: 0:raising 1:value 2:end 3:worth -/
theorem sc_first_unraised : FnScope ["raising", "value", "end", "worth"] ["raising", "value"] (defScope s_first_unraised) := ⟨rfl, rfl, rfl, by decide +kernel, rfl, by decide +kernel, by decide +kernel⟩
/- _first_unraised_by_two: 0:first 1:second 2:value 3:found 4:one 5:other 6:near -/
theorem sc_first_unraised_by_two : FnScope ["first", "second", "value", "found", "one", "other", "near"] ["first", "second", "value"] (defScope s_first_unraised_by_two) := ⟨rfl, rfl, rfl, by decide +kernel, rfl, by decide +kernel, by decide +kernel⟩
/- route: 0:sides 1:start 2:value 3:runs 4:many -/
theorem sc_route : FnScope ["sides", "start", "value", "runs", "many"] ["sides", "start", "value"] (defScope s_route) := ⟨rfl, rfl, rfl, by decide +kernel, rfl, by decide +kernel, by decide +kernel⟩
/- _fewest: 0:sides 1:start 2:value 3:runs 4:many 5:run -/
theorem sc_fewest : FnScope ["sides", "start", "value", "runs", "many", "run"] ["sides", "start", "value", "runs"] (defScope s_fewest) := ⟨rfl, rfl, rfl, by decide +kernel, rfl, by decide +kernel, by decide +kernel⟩
/- _runs: 0:sides 1:value 2:side 3:near 4:runs 5:many 6:run 7:least 8:greatest -/
theorem sc_runs : FnScope ["sides", "value", "side", "near", "runs", "many", "run", "least", "greatest"] ["sides", "value"] (defScope s_runs) := ⟨rfl, rfl, rfl, by decide +kernel, rfl, by decide +kernel, by decide +kernel⟩
/- _widened: 0:sides 1:run 2:least 3:greatest 4:low 5:high 6:side 7:first 8:last -/
theorem sc_widened : FnScope ["sides", "run", "least", "greatest", "low", "high", "side", "first", "last"] ["sides", "run"] (defScope s_widened) := ⟨rfl, rfl, rfl, by decide +kernel, rfl, by decide +kernel, by decide +kernel⟩
/- _ends: 0:sides 1:value 2:runs 3:many 4:window 5:least 6:greatest -/
theorem sc_ends : FnScope ["sides", "value", "runs", "many", "window", "least", "greatest"] ["sides", "value", "runs"] (defScope s_ends) := ⟨rfl, rfl, rfl, by decide +kernel, rfl, by decide +kernel, by decide +kernel⟩
/- _within: 0:run 1:window -/
theorem sc_within : FnScope ["run", "window"] ["run", "window"] (defScope s_within) := ⟨rfl, rfl, rfl, by decide +kernel, rfl, by decide +kernel, by decide +kernel⟩
/- _holds: 0:ends 1:value 2:least 3:greatest -/
theorem sc_holds : FnScope ["ends", "value", "least", "greatest"] ["ends", "value"] (defScope s_holds) := ⟨rfl, rfl, rfl, by decide +kernel, rfl, by decide +kernel, by decide +kernel⟩
/- _way: 0:sides 1:start 2:runs 3:numbers 4:here 5:many 6:run 7:side 8:places 9:number 10:place 11:fitting -/
theorem sc_way : FnScope ["sides", "start", "runs", "numbers", "here", "many", "run", "side", "places", "number", "place", "fitting"] ["sides", "start", "runs"] (defScope s_way) := ⟨rfl, rfl, rfl, by decide +kernel, rfl, by decide +kernel, by decide +kernel⟩
/- _law_source: 0:_law_script 1:_law_cells 2:_law_k -/
theorem sc_L_source : FnScope ["_law_script", "_law_cells", "_law_k"] ["_law_script"] (defScope s_L_source) := ⟨rfl, rfl, rfl, by decide +kernel, rfl, by decide +kernel, by decide +kernel⟩
/- _law_draw: 0:_law_source_here 1:_law_limit 2:_law_cells 3:_law_turn 4:_law_place 5:_law_cell 6:_law_number -/
theorem sc_L_draw : FnScope ["_law_source_here", "_law_limit", "_law_cells", "_law_turn", "_law_place", "_law_cell", "_law_number"] ["_law_source_here", "_law_limit"] (defScope s_L_draw) := ⟨rfl, rfl, rfl, by decide +kernel, rfl, by decide +kernel, by decide +kernel⟩
/- _law_pick: 0:_law_source_here 1:_law_values -/
theorem sc_L_pick : FnScope ["_law_source_here", "_law_values"] ["_law_source_here", "_law_values"] (defScope s_L_pick) := ⟨rfl, rfl, rfl, by decide +kernel, rfl, by decide +kernel, by decide +kernel⟩
/- _law_great: 0:_law_source_here 1:_law_digits 2:_law_number 3:_law_k -/
theorem sc_L_great : FnScope ["_law_source_here", "_law_digits", "_law_number", "_law_k"] ["_law_source_here", "_law_digits"] (defScope s_L_great) := ⟨rfl, rfl, rfl, by decide +kernel, rfl, by decide +kernel, by decide +kernel⟩
/- _law_small_side: 0:_law_source_here 1:_law_most 2:_law_offset -/
theorem sc_L_small_side : FnScope ["_law_source_here", "_law_most", "_law_offset"] ["_law_source_here", "_law_most"] (defScope s_L_small_side) := ⟨rfl, rfl, rfl, by decide +kernel, rfl, by decide +kernel, by decide +kernel⟩
/- _law_figure: 0:_law_side 1:_law_value 2:_law_offset 3:_law_step 4:_law_mode 5:_law_low 6:_law_rest -/
theorem sc_L_figure : FnScope ["_law_side", "_law_value", "_law_offset", "_law_step", "_law_mode", "_law_low", "_law_rest"] ["_law_side", "_law_value"] (defScope s_L_figure) := ⟨rfl, rfl, rfl, by decide +kernel, rfl, by decide +kernel, by decide +kernel⟩
/- _law_handed: 0:_law_side 1:_law_value -/
theorem sc_L_handed : FnScope ["_law_side", "_law_value"] ["_law_side", "_law_value"] (defScope s_L_handed) := ⟨rfl, rfl, rfl, by decide +kernel, rfl, by decide +kernel, by decide +kernel⟩
/- _law_divisor: 0:_law_one 1:_law_other -/
theorem sc_L_divisor : FnScope ["_law_one", "_law_other"] ["_law_one", "_law_other"] (defScope s_L_divisor) := ⟨rfl, rfl, rfl, by decide +kernel, rfl, by decide +kernel, by decide +kernel⟩
/- _law_period: 0:_law_sides 1:_law_period_here 2:_law_offset 3:_law_step 4:_law_mode 5:_law_length -/
theorem sc_L_period : FnScope ["_law_sides", "_law_period_here", "_law_offset", "_law_step", "_law_mode", "_law_length"] ["_law_sides"] (defScope s_L_period) := ⟨rfl, rfl, rfl, by decide +kernel, rfl, by decide +kernel, by decide +kernel⟩
/- _law_set: 0:_law_source_here 1:_law_most 2:_law_many 3:_law_k -/
theorem sc_L_set : FnScope ["_law_source_here", "_law_most", "_law_many", "_law_k"] ["_law_source_here", "_law_most", "_law_many"] (defScope s_L_set) := ⟨rfl, rfl, rfl, by decide +kernel, rfl, by decide +kernel, by decide +kernel⟩
/- _law_written: 0:_law_sides 1:_law_value 2:_law_one -/
theorem sc_L_written : FnScope ["_law_sides", "_law_value", "_law_one"] ["_law_sides", "_law_value"] (defScope s_L_written) := ⟨rfl, rfl, rfl, by decide +kernel, rfl, by decide +kernel, by decide +kernel⟩
/- _law_all: 0:_law_sides 1:_law_value 2:_law_found 3:_law_at 4:_law_after -/
theorem sc_L_all : FnScope ["_law_sides", "_law_value", "_law_found", "_law_at", "_law_after"] ["_law_sides", "_law_value"] (defScope s_L_all) := ⟨rfl, rfl, rfl, by decide +kernel, rfl, by decide +kernel, by decide +kernel⟩
/- _law_word: 0:_law_kind 1:_law_sides 2:_law_value 3:_law_caught 4:_law_found 5:e 6:_law_hits -/
theorem sc_L_word : FnScope ["_law_kind", "_law_sides", "_law_value", "_law_caught", "_law_found", "e", "_law_hits"] ["_law_kind", "_law_sides", "_law_value"] (defScope s_L_word) := ⟨rfl, rfl, rfl, by decide +kernel, rfl, by decide +kernel, by decide +kernel⟩
/- _law_routes_fit: 0:_law_sides 1:_law_value 2:_law_due 3:_law_k 4:_law_goal -/
theorem sc_L_routes_fit : FnScope ["_law_sides", "_law_value", "_law_due", "_law_k", "_law_goal"] ["_law_sides", "_law_value", "_law_due"] (defScope s_L_routes_fit) := ⟨rfl, rfl, rfl, by decide +kernel, rfl, by decide +kernel, by decide +kernel⟩
/- _law_fits: 0:_law_sides 1:_law_value 2:_law_factor 3:_law_due 4:_law_one 5:_law_lifted 6:_law_kept 7:_law_found 8:_law_ends -/
theorem sc_L_fits : FnScope ["_law_sides", "_law_value", "_law_factor", "_law_due", "_law_one", "_law_lifted", "_law_kept", "_law_found", "_law_ends"] ["_law_sides", "_law_value", "_law_factor"] (defScope s_L_fits) := ⟨rfl, rfl, rfl, by decide +kernel, rfl, by decide +kernel, by decide +kernel⟩
/- law: 0:_law_script 1:_law_source_here 2:_law_turn 3:_law_sides 4:_law_value 5:_law_bad 6:_law_kind 7:_law_pair 8:_law_end 9:_law_found -/
theorem sc_law : FnScope ["_law_script", "_law_source_here", "_law_turn", "_law_sides", "_law_value", "_law_bad", "_law_kind", "_law_pair", "_law_end", "_law_found"] ["_law_script"] (defScope s_law) := ⟨rfl, rfl, rfl, by decide +kernel, rfl, by decide +kernel, by decide +kernel⟩
namespace L2
open PySem PySem.Spec PyProof.Rows
/-- powers of great numbers -/
def CPowW (i j : Int) : Prop := 0 ≤ j ∧ (Builtin.Int.intBits i : Int) * j ≤ 2 ^ 27
theorem op_powW {X : Cx} : OpR X (binaryOp .Pow) (rI CPowW fun i j => .int (i ^ j.toNat)) := opI fun _ _ _ _ _ _ _ hc q => pow_int hc.1 hc.2 q
end L2
namespace HT
open PySem L2
/-- the law's source of draws: a list of its cells' list and the turn -/
structure Src (H : Hp) (a c : Addr) (t : Nat) : Prop where
  ne : a ≠ c
  ob : H a = some (.lst [.ref c, .int (t : Int)])
  cl : ∃ cs : List Int, H c = some (.lst (cs.map V.int)) ∧ 0 < cs.length ∧ cs.length ≤ 63
/-- nothing else is touched -/
def Oth (a c : Addr) (H H' : Hp) : Prop := ∀ b o, H b = some o → b ≠ a → b ≠ c → H' b = some o
theorem Oth.refl (a c : Addr) (H : Hp) : Oth a c H H := fun _ _ h _ _ => h
theorem Oth.trans {a c : Addr} {H H1 H2 : Hp} (x : Oth a c H H1) (y : Oth a c H1 H2) : Oth a c H H2 := fun b o h n m => y b o (x b o h n m) n m
theorem Oth.new {a c p : Addr} {H H1 : Hp} {o : HO} (x : Oth a c H H1) (n : H1 p = none) : Oth a c H (upd H1 p o) := fun b u h na nc => by
  rw [upd_ne (ne_of_none (x b u h na nc) n)]
  exact x b u h na nc
theorem Src.new {a c p : Addr} {H : Hp} {t : Nat} {o : HO} (S : Src H a c t) (n : H p = none) : Src (upd H p o) a c t := by
  obtain ⟨cs, h, l⟩ := S.cl
  exact ⟨S.ne, by rw [upd_ne (ne_of_none S.ob n)]; exact S.ob, cs, by rw [upd_ne (ne_of_none h n)]; exact h, l⟩
theorem Src.of_same {a c : Addr} {H H' : Hp} {t : Nat} (S : Src H a c t) (e : Same H H') : Src H' a c t := by
  obtain ⟨cs, h, l⟩ := S.cl
  exact ⟨S.ne, e _ _ S.ob, cs, e _ _ h, l⟩
theorem Src.na {a c p : Addr} {H : Hp} {t : Nat} (S : Src H a c t) (n : H p = none) : p ≠ a ∧ p ≠ c := by
  obtain ⟨cs, h, l⟩ := S.cl
  exact ⟨(ne_of_none S.ob n).symm, (ne_of_none h n).symm⟩
theorem Src.nt {a c p : Addr} {H : Hp} {t : Nat} {xs : List V} (S : Src H a c t) (n : H p = some (.tup xs)) : p ≠ a ∧ p ≠ c := by
  obtain ⟨cs, h, l⟩ := S.cl
  exact ⟨ne_of n S.ob (by intro z; cases z), ne_of n h (by intro z; cases z)⟩
def spSource (K : PySem.W.Frag) : Sp := fun vs H Q _ => ∃ (l : Addr) (ns : List Int), vs = [.ref l] ∧ SqL K H l (ns.map V.int) ∧ ns.length ≤ 63 ∧
  ∀ a c H', Same H H' → H a = none → H c = none → Src H' a c 0 → Q (.ref a) H'
def spDraw : Sp := fun vs H Q _ => ∃ (a c : Addr) (t : Nat) (lim : Int), vs = [.ref a, .int lim] ∧ Src H a c t ∧ t < 2 ^ 30 ∧ 0 < lim ∧ lim.natAbs.log2 < 9000 ∧
  ∀ k H', 0 ≤ k → k < lim → Src H' a c (t + 1) → Oth a c H H' → Q (.int k) H'
/-- what the walk asks of the names that the text does not bind -/
structure Blt (mg : Str → Option Value) : Prop where
  len : mg "len" = none
  abs : mg "abs" = none
  int : mg "int" = none
  range : mg "range" = none
section
variable {P : Program} {w : World} {K : PySem.W.Frag} {mg : Str → Option Value} {base : Heap}
theorem fdiv_ok (i : Int) {j : Int} (h : 0 < j) (h9 : j.natAbs.log2 < 9000) : CDivW i j := ⟨h, h9⟩
theorem atI_in {xs : List Int} {i : Int} (h0 : 0 ≤ i) (h : i < (xs.length : Int)) : atI (xs.map V.int) i = some (.int (xs.getD i.toNat 0)) := by
  have e : ixN (xs.map V.int).length i = some i.toNat := by
    unfold ixN
    rw [List.length_map, if_pos h0, if_pos h]
  unfold atI
  rw [e]
  show (xs.map V.int)[i.toNat]? = _
  have hl : i.toNat < xs.length := by omega
  rw [List.getElem?_map, List.getElem?_eq_getElem hl, List.getD_eq_getElem?_getD, List.getElem?_eq_getElem hl]
  rfl
theorem ixN_in {n : Nat} {i : Int} (h0 : 0 ≤ i) (h : i < (n : Int)) : ixN n i = some i.toNat := by
  unfold ixN
  rw [if_pos h0, if_pos h]
theorem b_mod (x : Int) : -(2 ^ 64) < x % 2147483629 ∧ x % 2147483629 < 2 ^ 64 := by omega
theorem b_mod1 (x : Int) : -(2 ^ 64) < x % 2147483647 ∧ x % 2147483647 < 2 ^ 64 := by omega
theorem b_t {t : Nat} (h : t < 2 ^ 30) : -(2 ^ 64) < (t : Int) ∧ (t : Int) < 2 ^ 64 := by omega
theorem b_tt {t : Nat} (h : t < 2 ^ 30) : -(2 ^ 64) < (t : Int) * t ∧ (t : Int) * t < 2 ^ 64 := by
  have h1 : t * t < 2 ^ 30 * 2 ^ 30 := Nat.mul_lt_mul'' h h
  have h2 : ((t * t : Nat) : Int) = (t : Int) * t := Int.natCast_mul t t
  omega
theorem set_ints (xs : List Int) (j : Nat) (y : Int) : (xs.map V.int).set j (.int y) = (xs.set j y).map V.int := by
  rw [List.map_set]
theorem ok_draw {f : Addr} {fd : FuncData} (F : Fun K "_law_draw" "_law_draw" s_L_draw f fd) (B : Blt mg) : FnOk P w K mg base CX0 1 f fd ["_law_source_here", "_law_limit"] spDraw := by
  refine F.ok sc_L_draw (fun vs H Q E h => ?_) (fun cdv A outer s H vs Q E hr h => ?_)
  · obtain ⟨a, c, t, lim, rfl, _⟩ := h
    rfl
  · obtain ⟨a, c, t, lim, rfl, S, ht, hl0, hl9, q⟩ := h
    obtain ⟨cs, hc, hn0, hn⟩ := S.cl
    have nd := sc_L_draw.nd
    refine ⟨_, pss_cons (ps_asg (pv 0) (pg_unl (n := 2) (by rfl) (pgs_cons (pg_name (i := 2) nd rfl (Or.inl rfl)) (pgs_cons (pg_name (i := 3) nd rfl (Or.inl rfl)) pgs_nil))))
      (pss_cons (ps_set (i := 4) nd rfl (Or.inl rfl) (pe_op op_mod (pe_callTy call_int1 (by rfl) B.int (by decide +kernel) (pa_cons (pv 3) pa_nil)) (pe_callB call_len_seq (by rfl) B.len PySem.boot_len (pa_cons (pv 2) pa_nil))))
      (pss_cons (ps_set (i := 5) nd rfl (Or.inl rfl) (pe_ix ix_list (pv 2) (pv 4) (fun _ _ => rfl)))
      (pss_cons (ps_asg (pe_op op_add (pv 3) pe_int) (pg_sub (pv 0) pe_int set_list))
      (pss_cons (ps_if (pt_cmpR op_ge (pv 5) (pe_op op_pow pe_int pe_int) (nomark _))
        (pss_cons (ps_asg (pe_op op_fdivW (pv 5) (pv 1)) (pg_sub (pv 2) (pv 4) set_list))
          (pss_one (ps_ret (pe_op op_mod (pe_callTy call_int1 (by rfl) B.int (by decide +kernel) (pa_cons (pv 5) pa_nil)) (pv 1))))) pss_nil)
      (pss_cons (ps_set (i := 6) nd rfl (Or.inl rfl) (pe_op op_mod (pe_callTy call_int1 (by rfl) B.int (by decide +kernel) (pa_cons
          (pe_op op_add (pe_op op_add (pe_op op_mul (pe_op op_mod (pe_callTy call_int1 (by rfl) B.int (by decide +kernel) (pa_cons (pv 5) pa_nil)) pe_int) pe_int) (pe_op op_mul (pe_op op_mul (pv 3) (pv 3)) pe_int)) pe_int) pa_nil)) pe_int))
      (pss_cons (ps_set (i := 6) nd rfl (Or.inl rfl) (pe_op op_mod (pe_callTy call_int1 (by rfl) B.int (by decide +kernel) (pa_cons (pe_op op_mul (pv 6) (pv 6)) pa_nil)) pe_int))
      (pss_cons (ps_set (i := 6) nd rfl (Or.inl rfl) (pe_op op_mod (pe_callTy call_int1 (by rfl) B.int (by decide +kernel) (pa_cons (pe_op op_mul (pv 6) (pv 6)) pa_nil)) pe_int))
      (pss_one (ps_ret (pe_op op_mod (pe_callTy call_int1 (by rfl) B.int (by decide +kernel) (pa_cons (pv 6) pa_nil)) (pv 1))))))))))), ?_⟩
    -- _law_cells, _law_turn = _law_source_here
    walk_at "rd"
    refine ⟨a, _, rfl, SqL.of S.ob, rfl, _, _, rfl, _, _, rfl, rfl, ?_⟩
    -- _law_place
    walk_at "rd"
    have hn0' : (0 : Int) < ((cs.map V.int).length : Nat) := by rw [List.length_map]; omega
    refine ⟨c, _, rfl, .inl (SqL.of hc), _, _, rfl, rfl, hn0', ?_⟩
    have hp0 : 0 ≤ (t : Int) % ((cs.map V.int).length : Nat) := Int.emod_nonneg _ (by omega)
    have hp1 : (t : Int) % ((cs.map V.int).length : Nat) < ((cs.map V.int).length : Nat) := Int.emod_lt_of_pos _ hn0'
    have hp1' : (t : Int) % ((cs.map V.int).length : Nat) < (cs.length : Int) := by rw [List.length_map] at hp1 ⊢; exact hp1
    -- _law_cell
    walk_at "rd"
    refine ⟨c, _, _, _, rfl, rfl, SqL.of hc, atI_in hp0 hp1', ?_⟩
    -- _law_source_here[1] = _law_turn + 1
    walk_at "rd"
    refine ⟨a, _, 1, 1, rfl, rfl, S.ob, rfl, ?_⟩
    have S1 : Src (upd H a (.lst ([V.ref c, V.int t].set 1 (.int ((t : Int) + 1))))) a c (t + 1) := ⟨S.ne, by rw [upd_same]; rfl, cs, by rw [upd_ne S.ne.symm]; exact hc, hn0, hn⟩
    have O1 : Oth a c H (upd H a (.lst ([V.ref c, V.int t].set 1 (.int ((t : Int) + 1))))) := fun b o h na _ => by rw [upd_ne na]; exact h
    have hc1 : upd H a (.lst ([V.ref c, V.int t].set 1 (.int ((t : Int) + 1)))) c = some (.lst (cs.map V.int)) := by rw [upd_ne S.ne.symm]; exact hc
    generalize upd H a (.lst ([V.ref c, V.int t].set 1 (.int ((t : Int) + 1)))) = H1 at S1 O1 hc1 ⊢
    -- if _law_cell >= 10 ** 18
    walk_at "rd"
    refine ⟨⟨by decide, by decide, by decide⟩, ?_⟩
    walk_at "rd"
    refine ite2 (fun _ => ?_) (fun _ => ?_)
    · walk_at "rd"
      refine ⟨fdiv_ok _ hl0 hl9, ?_⟩
      walk_at "rd"
      refine ⟨c, _, _, _, rfl, rfl, hc1, ixN_in hp0 hp1, ?_⟩
      walk_at "rd"
      refine ⟨hl0, ?_⟩
      rw [set_ints]
      refine q _ _ (Int.emod_nonneg _ (by omega)) (Int.emod_lt_of_pos _ hl0) ⟨S1.ne, by rw [upd_ne S1.ne]; exact S1.ob, _, upd_same, by rw [List.length_set]; exact hn0, by rw [List.length_set]; exact hn⟩ fun b o h na nc => ?_
      rw [upd_ne nc]
      exact O1 b o h na nc
    · walk_at "rd"
      refine ⟨(by show (0 : Int) < 2147483629; decide), ?_⟩
      walk_at "rd"
      refine ⟨.inl (b_mod _), ?_⟩
      walk_at "rd"
      refine ⟨.inl (b_t ht), ?_⟩
      walk_at "rd"
      refine ⟨.inl (b_tt ht), ?_⟩
      walk_at "rd"
      refine ⟨(by show (0 : Int) < 2147483647; decide), ?_⟩
      walk_at "rd"
      refine ⟨.inl (b_mod1 _), ?_⟩
      walk_at "rd"
      refine ⟨(by show (0 : Int) < 2147483629; decide), ?_⟩
      walk_at "rd"
      refine ⟨.inl (b_mod _), ?_⟩
      walk_at "rd"
      refine ⟨(by show (0 : Int) < 2147483587; decide), ?_⟩
      walk_at "rd"
      refine ⟨hl0, ?_⟩
      exact q _ _ (Int.emod_nonneg _ (by omega)) (Int.emod_lt_of_pos _ hl0) S1 O1
end
end HT
namespace HT
open PySem L2
/-- a def of the text that may be called by its name, and what it promises -/
structure Cal (P : Program) (w : World) (K : PySem.W.Frag) (mg : Str → Option Value) (base : Heap) (x : Str) (k : Nat) (ps : List Str) (sp : Sp) (f : Addr) (fd : FuncData) : Prop where
  ok : FnOk P w K mg base CX0 k f fd ps sp
  gl : mg x = some (.ref f)
  kp : PySem.W.keepIn K (.ref f) = true
  bd : Binds K fd ps []
theorem pcl {X : Cx} {x : Str} {k j : Nat} {ps : List Str} {sp : Sp} {f : Addr} {fd : FuncData} {e : Expr} {es : List Expr} {t : TA} {p pos : Pos} (C : Cal X.prog X.w X.K X.mg X.base x k ps sp f fd) (hr : Room j X.A) (hj : k ≤ j) (hg : Gl X x) (ha : PA X (e :: es) t)
    (hdb : (x == ("__debug__" : Str)) = false := by decide) (he : starEach (e :: es) X.env = (false, eval e X.env) :: starEach es X.env := by rfl) (hpl : (backTo pos (starEach es X.env)).any (·.1) = false := by rfl) : PE X (.Call (.Name x p) (e :: es) [] pos) (tCall sp [] E0 t) :=
  pe_call C.ok (hr.mono hj) hg C.gl C.kp C.bd .nil pass0 ha hdb he hpl
section
variable {P : Program} {w : World} {K : PySem.W.Frag} {mg : Str → Option Value} {base : Heap}
theorem cut63 {ns : List Int} (h : ns.length ≤ 63) : cutV (ns.map V.int) none (some 63) = ns.map V.int := by
  have e1 : HT.sIx (ns.map V.int).length 0 none = 0 := rfl
  have e2 : HT.sIx (ns.map V.int).length (ns.map V.int).length (some 63) = (ns.map V.int).length := by
    have := HT.sIx_nat (ns.map V.int).length (ns.map V.int).length 63
    rw [show ((63 : Nat) : Int) = 63 from rfl] at this
    rw [this, List.length_map]
    omega
  unfold cutV
  rw [e1, e2, List.drop_zero, Nat.sub_zero, List.take_length]
theorem dpInts (H : Hp) : ∀ ns : List Int, DpAll K H (ns.map V.int) (ns.map PyData.int)
  | [] => .nil
  | n :: r => .cons (.int n) (dpInts H r)
theorem pow_ok : CPowW ((10 : Int) ^ (60 : Int).toNat) 20 := ⟨by decide, by decide +kernel⟩
theorem pow_pos' : (0 : Int) < ((10 : Int) ^ (60 : Int).toNat) ^ (20 : Int).toNat := by decide +kernel
theorem ok_source {f : Addr} {fd : FuncData} (F : Fun K "_law_source" "_law_source" s_L_source f fd) (B : Blt mg) : FnOk P w K mg base CX0 1 f fd ["_law_script"] (spSource K) := by
  refine F.ok sc_L_source (fun vs H Q E h => ?_) (fun cdv A outer s H vs Q E hr h => ?_)
  · obtain ⟨l, ns, rfl, _⟩ := h
    rfl
  · obtain ⟨l, ns, rfl, hL, hn, q⟩ := h
    have nd := sc_L_source.nd
    refine ⟨_, pss_cons (ps_set (i := 1) nd rfl (Or.inl rfl) (pe_slice sl_list (pv 0) po_none (po_some pe_int)))
      (pss_cons (ps_for PassesOwn.never rfl (pi_range1 (by rfl) B.range (pa_cons (pe_callB call_len_seq (by rfl) B.len PySem.boot_len (pa_cons (pv 1) pa_nil)) pa_nil)) (pg_name (i := 2) nd rfl (Or.inl rfl))
        (pss_one (ps_if (pt_cmpR op_ge (pe_callB call_abs (by rfl) B.abs (by decide +kernel) (pa_cons (pe_ix ix_list (pv 1) (pv 2) (fun _ _ => rfl)) pa_nil)) (pe_op op_pow pe_int pe_int) (nomark _))
          (pss_one (ps_asg (pe_op op_mod (pe_callTy call_int1 (by rfl) B.int (by decide +kernel) (pa_cons (pe_ix ix_list (pv 1) (pv 2) (fun _ _ => rfl)) pa_nil)) (pe_op op_powW (pe_op op_pow pe_int pe_int) pe_int)) (pg_sub (pv 1) (pv 2) set_list))) pss_nil)))
      (pss_cons (ps_if (pt_cmpR (op_eqD hr.units) (pv 1) (pe_lst pa_nil) (nomark _)) (pss_one (ps_set (i := 1) nd rfl (Or.inl rfl) (pe_lst (pa_cons pe_int pa_nil)))) pss_nil)
      (pss_one (ps_ret (pe_lst (pa_cons (pv 1) (pa_cons pe_int pa_nil))))))), ?_⟩
    walk_at "rd"
    refine ⟨l, _, rfl, hL, fun p np => ?_⟩
    rw [cut63 hn]
    walk_at "rd"
    refine ⟨p, _, rfl, .inl (SqL.of upd_same), _, rfl, by omega, ?_, ?_⟩
    · show ((ns.map V.int).length : Int) < 2 ^ 62
      rw [List.length_map]
      omega
    have en : ((ns.map V.int).length : Int).toNat = ns.length := by rw [List.length_map]; omega
    rw [en]
    refine for_range (fun i σ H' => ∃ (cs : List Int) (kv : Option V), σ = [some (.ref l), some (.ref p), kv] ∧ H' p = some (.lst (cs.map V.int)) ∧ cs.length = ns.length ∧ Same H H') ⟨ns, none, rfl, upd_same, rfl, fun b o e => by rw [upd_ne (ne_of_none e np)]; exact e⟩ ?_ ?_
    · rintro i σ H' hi ⟨cs, kv, rfl, hp, hl, sm⟩
      have h0 : (0 : Int) ≤ 0 + (i : Int) := by omega
      have h1 : (0 : Int) + (i : Int) < (cs.length : Int) := by omega
      walk_at "rd"
      refine ⟨p, _, _, _, rfl, rfl, SqL.of hp, atI_in h0 h1, ?_⟩
      walk_at "rd"
      refine ⟨⟨by decide, by decide, by decide⟩, ?_⟩
      walk_at "rd"
      refine ite2 (fun _ => ?_) (fun _ => ?_)
      · walk_at "rd"
        refine ⟨p, _, _, _, rfl, rfl, SqL.of hp, atI_in h0 h1, ?_⟩
        walk_at "rd"
        refine ⟨⟨by decide, by decide, by decide⟩, ?_⟩
        walk_at "rd"
        refine ⟨pow_ok, ?_⟩
        walk_at "rd"
        refine ⟨pow_pos', ?_⟩
        walk_at "rd"
        refine ⟨p, _, _, _, rfl, rfl, hp, ixN_in h0 (by rw [List.length_map]; exact h1), ?_⟩
        rw [set_ints]
        exact ⟨_, _, rfl, upd_same, by rw [List.length_set]; exact hl, fun b o e => by rw [upd_ne (ne_of_none e np)]; exact sm b o e⟩
      · exact ⟨cs, _, rfl, hp, hl, sm⟩
    · rintro σ H' ⟨cs, kv, rfl, hp, hl, sm⟩
      walk_at "rd"
      refine ⟨by decide, fun e ne => ?_⟩
      have hpe : upd H' e (.lst []) p = some (.lst (cs.map V.int)) := by rw [upd_ne (ne_of_none hp ne)]; exact hp
      have sm1 : Same H (upd H' e (.lst [])) := fun b o z => by rw [upd_ne (ne_of_none (sm b o z) ne)]; exact sm b o z
      refine ⟨_, _, .lst (SqL.of hpe) (dpInts _ cs), .lst (SqL.of upd_same) .nil, PySem.W.ke_shaped_ints cs, by decide +kernel, ?_⟩
      walk_at "rd"
      have hb : PyData.eqv (.list (cs.map PyData.int)) (.list []) = decide (cs = []) := by
        have z := PySem.W.ked_eqvAll cs []
        rw [← z]
        rfl
      rw [hb]
      refine ite2 (fun _ => ?_) (fun hne => ?_)
      · walk_at "rd"
        refine ⟨by decide, fun c nc => ?_⟩
        walk_at "rd"
        refine ⟨(by show 2 ≤ sizeLine; decide), fun a na => ?_⟩
        have sm2 : Same H (upd (upd H' e (.lst [])) c (.lst [.int 0])) := fun b o z => by rw [upd_ne (ne_of_none (sm1 b o z) nc)]; exact sm1 b o z
        have nac : a ≠ c := (ne_of_none upd_same na).symm
        refine q a c _ (fun b o z => by rw [upd_ne (ne_of_none (sm2 b o z) na)]; exact sm2 b o z) (sm2.free na) (sm1.free nc) ⟨nac, upd_same, [0], by rw [upd_ne nac.symm]; exact upd_same, by decide, by decide⟩
      · walk_at "rd"
        refine ⟨(by show 2 ≤ sizeLine; decide), fun a na => ?_⟩
        have nap : a ≠ p := (ne_of_none hpe na).symm
        refine q a p _ (fun b o z => by rw [upd_ne (ne_of_none (sm1 b o z) na)]; exact sm1 b o z) (sm1.free na) np ⟨nap, upd_same, cs, by rw [upd_ne nap.symm]; exact hpe, ?_, by omega⟩
        have : cs ≠ [] := fun z => hne (decide_eq_true z)
        exact List.length_pos_iff.mpr this
end
end HT
namespace HT
open PySem L2
/-- a def of which errors may come, and its call -/
structure CalX (P : Program) (w : World) (K : PySem.W.Frag) (mg : Str → Option Value) (base : Heap) (x : Str) (k : Nat) (ps : List Str) (sp : Sp) (f : Addr) (fd : FuncData) : Prop where
  ok : FnOk P w K mg base (L2.CX P w) k f fd ps sp
  mgf : mg x = some (.ref f)
  kp : PySem.W.keepIn K (.ref f) = true
  b : Binds K fd ps []
theorem pcx {X : Cx} {x : Str} {k j : Nat} {ps : List Str} {sp : Sp} {f : Addr} {fd : FuncData} {e : Expr} {es : List Expr} {t : TA} {p pos : Pos} {W : WX} (C : CalX X.prog X.w X.K X.mg X.base x k ps sp f fd) (hr : Room j X.A) (hj : k ≤ j) (hg : Gl X x) (tk : L2.Takes X W) (ha : PA X (e :: es) t)
    (hdb : (x == ("__debug__" : Str)) = false := by decide) (he : starEach (e :: es) X.env = (false, eval e X.env) :: starEach es X.env := by rfl) (hpl : (backTo pos (starEach es X.env)).any (·.1) = false := by rfl) : PE X (.Call (.Name x p) (e :: es) [] pos) (tCallS sp (WE W) t) :=
  pe_callS C.ok (hr.mono hj) hg C.mgf C.kp C.b (fun σ => L2.passAt tk σ) ha hdb he hpl
end HT
namespace PySem.W
open PySem PySem.Calls
theorem args_lcm3 (a b c : Value) : argsOk "math.lcm" ⟨[a, b, c], []⟩ := by unfold argsOk; kernel_rfl
theorem run_lcm3 (a : Int) (t : Tok) (b : Int) (u : Tok) (c : Int) (v : Tok) (hc0 : ¬(max 1 a.natAbs).log2 / 30 + 1 > 450) (hc1 : ¬(max a.natAbs b.natAbs).log2 / 30 + 1 > 450)
    (hc2 : ¬(max ((Nat.lcm 1 a.natAbs).lcm b.natAbs) c.natAbs).log2 / 30 + 1 > 450)
    (hsz : (((((Nat.lcm 1 a.natAbs).lcm b.natAbs).lcm c.natAbs : Nat) : Int)).natAbs.log2 < bitsLine) :
    Gives (Builtin.«math.lcm» ⟨[.int a t, .int b u, .int c v], []⟩) (.int (((((Nat.lcm 1 a.natAbs).lcm b.natAbs).lcm c.natAbs : Nat) : Int))) :=
  .of_wp fun M A E s Q h => by obtain ⟨hp, g, d, tk, os⟩ := s; wp_walk; refine wpAny_ite_false (decide_eq_false hc2) ?_; wp_walk; (try (refine wpAny_ite_false (decide_eq_false (Nat.not_le.mpr hsz)) ?_; wp_walk)); exact ⟨_, rfl, h⟩
end PySem.W
namespace L2
open PySem PySem.Spec PyProof.Rows
/-- xs.count(y) of flat things -/
def rCntV (K : PySem.W.Frag) : V → List V → Hp → VK → Prop := fun x xs H Q => ∃ (p : Addr) (ys : List V) (y : V), x = .ref p ∧ xs = [y] ∧ SqL K H p ys ∧ flatV y = true ∧ ys.all flatV = true ∧ Q (.int (ys.countP (fun z => eqV z y) : Nat)) H
theorem count_eqU {x : V} : ∀ {xs : List V} {us : List Value}, Vals xs us → xs.all flatV = true → us.countP (eqU x) = xs.countP fun y => eqV y x
  | _, _, .nil, _ => rfl
  | y :: xs, u :: us, .cons r t, f => by
    obtain ⟨f1, f2⟩ := Bool.and_eq_true_iff.mp (List.all_cons ▸ f)
    rw [List.countP_cons, List.countP_cons, eqU_of r f1, count_eqU t f2]
theorem mt_cntV {X : Cx} : MtR X "list.count" (rCntV X.K) := by
  intro pins sh st H x xs v us Q iv rx rxs h
  obtain ⟨p, ys, y, rfl, rfl, hs, fy, fys, q⟩ := h
  cases rx
  obtain ⟨u, rfl, ru⟩ := rxs.one
  obtain ⟨its, rv, ⟨⟨cls, dd, data, sl⟩, n, ho, hc, hdn, hd⟩, hlen⟩ := iv.list hs
  dsimp only at hc hd
  subst hc hd
  refine call_meets PySem.F.slot_list_count ⟨_, ho, rfl⟩ PySem.F.entry_list_count (PySem.F.args_list_count_2 _ _) (SeqAt.list_countAt p its.toArray n dd sl u (eqU y)) ⟨ho, fun w hw => mem_eqAt ru fy rv fys w (by simpa using hw), ?_⟩
  refine ⟨.int (ys.countP (fun z => eqV z y) : Nat), H, iv.tok _, ⟨sh.toks, ?_⟩, q⟩
  rw [show its.toArray.toList.countP (eqU y) = ys.countP (fun z => eqV z y) from count_eqU rv fys]
end L2
namespace HT
open PySem L2
/-! ### pick, great, side -/
def spPick : Sp := fun vs H Q _ => ∃ (a c : Addr) (t : Nat) (l : Addr) (xs : List V), vs = [.ref a, .ref l] ∧ Src H a c t ∧ t < 2 ^ 30 ∧ H l = some (.lst xs) ∧ l ≠ a ∧ l ≠ c ∧ 0 < xs.length ∧ xs.length < 2 ^ 60 ∧
  ∀ x H', x ∈ xs → Src H' a c (t + 1) → Oth a c H H' → Q x H'
def spGreat : Sp := fun vs H Q _ => ∃ (a c : Addr) (t n : Nat), vs = [.ref a, .int (n : Int)] ∧ Src H a c t ∧ n ≤ 1000 ∧ t + n < 2 ^ 30 ∧
  ∀ k H', 0 ≤ k → k < 10 ^ n → Src H' a c (t + n) → Oth a c H H' → Q (.int k) H'
/-- the modes -/
def Mode (m : Str) : Prop := m = "down" ∨ m = "up" ∨ m = "half_down" ∨ m = "half_up" ∨ m = "half_even"
/-- a side's parts -/
structure SideP (o s : Int) (m : Str) : Prop where
  o0 : -10 ^ 40 ≤ o
  o1 : o ≤ 10 ^ 40
  s0 : 1 ≤ s
  s1 : s ≤ 10 ^ 30
  md : Mode m
def sideV (o s : Int) (m : Str) : HO := .tup [.int o, .int s, .str m]
def spSide : Sp := fun vs H Q _ => ∃ (a c : Addr) (t n : Nat), vs = [.ref a, .int (n : Int)] ∧ Src H a c t ∧ 1 ≤ n ∧ n ≤ 40 ∧ t + 200 < 2 ^ 30 ∧
  ∀ p o s m H' t', H p = none → H' p = some (sideV o s m) → SideP o s m → t' ≤ t + 200 → Src H' a c t' → Oth a c H H' → Q (.ref p) H'
theorem lg_nat {n : Nat} (h : n < 2 ^ 200) : ((n : Int)).natAbs.log2 < 9000 := by
  rw [Int.natAbs_natCast]
  by_cases e : n = 0
  · rw [e]; decide
  · have := (Nat.log2_lt e).mpr h
    omega
theorem lg_small {n : Int} (h0 : 0 ≤ n) (h : n < 2 ^ 64) : n.natAbs.log2 < 9000 := by
  obtain ⟨m, rfl⟩ := Int.eq_ofNat_of_zero_le h0
  exact lg_nat (Nat.lt_of_lt_of_le (by omega : m < 2 ^ 64) (Nat.pow_le_pow_right (by decide) (by decide)))
section
variable {P : Program} {w : World} {K : PySem.W.Frag} {mg : Str → Option Value} {base : Heap} {fD fP fG : Addr} {dD dP dG : FuncData}
theorem ok_pick {f : Addr} {fd : FuncData} (F : Fun K "_law_pick" "_law_pick" s_L_pick f fd) (B : Blt mg) (D : Cal P w K mg base "_law_draw" 1 ["_law_source_here", "_law_limit"] spDraw fD dD) :
    FnOk P w K mg base CX0 2 f fd ["_law_source_here", "_law_values"] spPick := by
  refine F.ok sc_L_pick (fun vs H Q E h => ?_) (fun cdv A outer s H vs Q E hr h => ?_)
  · obtain ⟨a, c, t, l, xs, rfl, _⟩ := h
    rfl
  · obtain ⟨a, c, t, l, xs, rfl, S, ht, hl, na, nc, h0, h1, q⟩ := h
    refine ⟨_, pss_one (ps_ret (pe_ix ix_list (pv 1) (pcl D hr (by decide) (by rfl) (pa_cons (pv 0) (pa_cons (pe_callB call_len_seq (by rfl) B.len PySem.boot_len (pa_cons (pv 1) pa_nil)) pa_nil))) (fun _ _ => rfl))), ?_⟩
    walk_at "rd"
    refine ⟨l, _, rfl, .inl (SqL.of hl), ?_⟩
    have p1 : (0 : Int) < (xs.length : Int) := by omega
    refine ⟨a, c, t, _, rfl, S, ht, p1, lg_nat (Nat.lt_of_lt_of_le h1 (Nat.pow_le_pow_right (by decide) (by decide))), fun k H' k0 k1 S' O => ?_⟩
    have hl' : k.toNat < xs.length := by omega
    have e : atI xs k = some xs[k.toNat] := by
      unfold atI
      rw [ixN_in k0 k1]
      exact List.getElem?_eq_getElem hl'
    refine ⟨l, _, _, _, rfl, rfl, SqL.of (O _ _ hl na nc), e, ?_⟩
    exact q _ _ (List.getElem_mem hl') S' O
theorem ok_great {f : Addr} {fd : FuncData} (F : Fun K "_law_great" "_law_great" s_L_great f fd) (B : Blt mg) (D : Cal P w K mg base "_law_draw" 1 ["_law_source_here", "_law_limit"] spDraw fD dD) :
    FnOk P w K mg base CX0 2 f fd ["_law_source_here", "_law_digits"] spGreat := by
  refine F.ok sc_L_great (fun vs H Q E h => ?_) (fun cdv A outer s H vs Q E hr h => ?_)
  · obtain ⟨a, c, t, n, rfl, _⟩ := h
    rfl
  · obtain ⟨a, c, t, n, rfl, S, hn, ht, q⟩ := h
    have nd := sc_L_great.nd
    refine ⟨_, pss_cons (ps_set (i := 2) nd rfl (Or.inl rfl) pe_int)
      (pss_cons (ps_for PassesOwn.never rfl (pi_range1 (by rfl) B.range (pa_cons (pv 1) pa_nil)) (pg_name (i := 3) nd rfl (Or.inl rfl))
        (pss_one (ps_set (i := 2) nd rfl (Or.inl rfl) (pe_op op_add (pe_op op_mul (pv 2) pe_int) (pcl D hr (by decide) (by rfl) (pa_cons (pv 0) (pa_cons pe_int pa_nil)))))))
      (pss_one (ps_ret (pv 2)))), ?_⟩
    walk_at "rd"
    refine ⟨by omega, by omega, ?_⟩
    rw [Int.toNat_natCast]
    refine for_range (fun i σ H' => ∃ (k : Int) (kv : Option V), σ = [some (.ref a), some (.int (n : Int)), some (.int k), kv] ∧ 0 ≤ k ∧ k < 10 ^ i ∧ Src H' a c (t + i) ∧ Oth a c H H') ⟨0, none, rfl, by decide, by decide, S, Oth.refl _ _ _⟩ ?_ ?_
    · rintro i σ H' hi ⟨k, kv, rfl, k0, k1, S', O⟩
      walk_at "rd"
      refine ⟨.inr ⟨by decide, by decide⟩, ?_⟩
      walk_at "rd"
      refine ⟨a, c, t + i, _, rfl, S', by omega, (by show (0 : Int) < 10; decide), (by show (10 : Int).natAbs.log2 < 9000; decide), fun y H2 y0 y1 S2 O2 => ?_⟩
      walk_at "rd"
      have y1' : y < 10 := y1
      refine ⟨_, _, rfl, (by show 0 ≤ k * 10 + y; omega), (by show k * 10 + y < 10 ^ (i + 1); rw [Int.pow_succ]; omega), S2, O.trans O2⟩
    · rintro σ H' ⟨k, kv, rfl, k0, k1, S', O⟩
      walk_at "rd"
      exact q _ _ k0 k1 S' O
theorem mode_of {x : V} (h : x ∈ [V.str "down", .str "up", .str "half_down", .str "half_up", .str "half_even"]) : ∃ m : Str, x = .str m ∧ Mode m := by
  simp only [List.mem_cons, List.not_mem_nil, or_false] at h
  rcases h with h | h | h | h | h
  · exact ⟨_, h, .inl rfl⟩
  · exact ⟨_, h, .inr (.inl rfl)⟩
  · exact ⟨_, h, .inr (.inr (.inl rfl))⟩
  · exact ⟨_, h, .inr (.inr (.inr (.inl rfl)))⟩
  · exact ⟨_, h, .inr (.inr (.inr (.inr rfl)))⟩
end
end HT
namespace HT
open PySem L2
/-! ### the mathematics of a side -/
def goesUp (m : Str) (s q r : Int) : Bool := if m = "down" then false else if m = "up" then decide (0 < r) else if 2 * r = s then (if m = "half_even" then decide (q % 2 = 1) else decide (m = "half_up")) else decide (s < 2 * r)
/-- the figure to which v comes -/
def figM (o s : Int) (m : Str) (v : Int) : Int := if goesUp m s ((v - o) / s) ((v - o) % s) = true then (v - o) / s + 1 else (v - o) / s
def dueM (o s : Int) (m : Str) (v : Int) : Int := o + s * figM o s m v
theorem d_u : ¬ (("up" : Str) = "down") := by decide +kernel
theorem hd_d : ¬ (("half_down" : Str) = "down") := by decide +kernel
theorem hd_u : ¬ (("half_down" : Str) = "up") := by decide +kernel
theorem hu_d : ¬ (("half_up" : Str) = "down") := by decide +kernel
theorem hu_u : ¬ (("half_up" : Str) = "up") := by decide +kernel
theorem he_d : ¬ (("half_even" : Str) = "down") := by decide +kernel
theorem he_u : ¬ (("half_even" : Str) = "up") := by decide +kernel
theorem hd_e : ¬ (("half_down" : Str) = "half_even") := by decide +kernel
theorem hu_e : ¬ (("half_up" : Str) = "half_even") := by decide +kernel
theorem hd_hu : ¬ (("half_down" : Str) = "half_up") := by decide +kernel
theorem he_hu : ¬ (("half_even" : Str) = "half_up") := by decide +kernel
theorem u_hd : ¬ (("up" : Str) = "half_down") := by decide +kernel
theorem hu_hd : ¬ (("half_up" : Str) = "half_down") := by decide +kernel
theorem he_hd : ¬ (("half_even" : Str) = "half_down") := by decide +kernel
theorem go_down (s q r : Int) : goesUp "down" s q r = false := by unfold goesUp; rw [if_pos rfl]
theorem go_up (s q r : Int) : goesUp "up" s q r = decide (0 < r) := by unfold goesUp; rw [if_neg d_u, if_pos rfl]
theorem go_hd (s q r : Int) : goesUp "half_down" s q r = decide (s < 2 * r) := by
  unfold goesUp
  rw [if_neg hd_d, if_neg hd_u, if_neg hd_e, decide_eq_false hd_hu]
  by_cases h : 2 * r = s
  · rw [if_pos h, decide_eq_false (by omega)]
  · rw [if_neg h]
theorem go_hu (s q r : Int) : goesUp "half_up" s q r = decide (s ≤ 2 * r) := by
  unfold goesUp
  rw [if_neg hu_d, if_neg hu_u, if_neg hu_e, decide_eq_true rfl]
  by_cases h : 2 * r = s
  · rw [if_pos h, decide_eq_true (by omega)]
  · rw [if_neg h]
    by_cases g : s < 2 * r
    · rw [decide_eq_true g, decide_eq_true (by omega)]
    · rw [decide_eq_false g, decide_eq_false (by omega)]
theorem go_he (s q r : Int) : goesUp "half_even" s q r = (decide (s < 2 * r) || (decide (2 * r = s) && decide (q % 2 = 1))) := by
  unfold goesUp
  rw [if_neg he_d, if_neg he_u, if_pos rfl]
  by_cases h : 2 * r = s
  · rw [if_pos h, decide_eq_false (show ¬ s < 2 * r by omega), decide_eq_true h]
    rfl
  · rw [if_neg h, decide_eq_false h]
    simp
/-- what is known of a figure -/
structure Fig (o s : Int) (m : Str) (v q r k : Int) : Prop where
  eq : v - o = s * q + r
  r0 : 0 ≤ r
  r1 : r < s
  wh : (goesUp m s q r = true ∧ k = q + 1) ∨ (goesUp m s q r = false ∧ k = q)
theorem fig_of {o s : Int} {m : Str} {v : Int} (hs : 1 ≤ s) : Fig o s m v ((v - o) / s) ((v - o) % s) (figM o s m v) := by
  refine ⟨?_, Int.emod_nonneg _ (by omega), Int.emod_lt_of_pos _ (by omega), ?_⟩
  · have := Int.mul_ediv_add_emod (v - o) s
    omega
  · unfold figM
    cases h : goesUp m s ((v - o) / s) ((v - o) % s)
    · exact .inr ⟨rfl, by simp⟩
    · exact .inl ⟨rfl, by simp⟩
theorem divmod_eq {s q r x : Int} (hs : 1 ≤ s) (h : x = s * q + r) (r0 : 0 ≤ r) (r1 : r < s) : x / s = q ∧ x % s = r := by
  subst h
  constructor
  · rw [Int.add_comm, Int.add_mul_ediv_left _ _ (by omega), Int.ediv_eq_zero_of_lt r0 r1]
    omega
  · rw [Int.add_comm, Int.add_mul_emod_self_left]
    exact Int.emod_eq_of_lt r0 r1
theorem fig_uniq {o s : Int} {m : Str} {v q r k : Int} (hs : 1 ≤ s) (F : Fig o s m v q r k) : figM o s m v = k := by
  obtain ⟨e1, e2⟩ := divmod_eq hs F.eq F.r0 F.r1
  unfold figM
  rw [e1, e2]
  rcases F.wh with ⟨h, e⟩ | ⟨h, e⟩
  · rw [h, if_pos rfl, e]
  · rw [h, if_neg (by decide), e]
/-- going up wants a rest, and not going up a small one -/
theorem go_pos {m : Str} {s q r : Int} (hm : Mode m) (hs : 1 ≤ s) (r0 : 0 ≤ r) (h : goesUp m s q r = true) : 0 < r := by
  rcases hm with e | e | e | e | e <;> subst e
  · rw [go_down] at h; cases h
  · rw [go_up] at h; exact of_decide_eq_true h
  · rw [go_hd] at h; have := of_decide_eq_true h; omega
  · rw [go_hu] at h; have := of_decide_eq_true h; omega
  · rw [go_he, Bool.or_eq_true, Bool.and_eq_true] at h
    rcases h with h | ⟨h, _⟩ <;> have := of_decide_eq_true h <;> omega
theorem due_near {o s : Int} {m : Str} {v : Int} (hm : Mode m) (hs : 1 ≤ s) : dueM o s m v - v < s ∧ v - dueM o s m v < s := by
  have F := fig_of (o := o) (m := m) (v := v) hs
  unfold dueM
  generalize (v - o) / s = q at F
  generalize (v - o) % s = r at F
  obtain ⟨eq, r0, r1, wh⟩ := F
  rcases wh with ⟨h, e⟩ | ⟨h, e⟩
  · have := go_pos hm hs r0 h
    rw [e, Int.mul_add, Int.mul_one]
    generalize s * q = z at eq ⊢
    omega
  · rw [e]
    generalize s * q = z at eq ⊢
    omega
def half (m : Str) : Prop := m = "half_down" ∨ m = "half_up" ∨ m = "half_even"
theorem due_half {o s : Int} {m : Str} {v : Int} (hm : half m) (hs : 1 ≤ s) : 2 * (dueM o s m v - v) ≤ s ∧ 2 * (v - dueM o s m v) ≤ s := by
  have F := fig_of (o := o) (m := m) (v := v) hs
  unfold dueM
  generalize (v - o) / s = q at F
  generalize (v - o) % s = r at F
  obtain ⟨eq, r0, r1, wh⟩ := F
  have hb : (goesUp m s q r = true → s ≤ 2 * r) ∧ (goesUp m s q r = false → 2 * r ≤ s) := by
    rcases hm with e | e | e <;> subst e
    · rw [go_hd]; exact ⟨fun h => by have := of_decide_eq_true h; omega, fun h => by have := of_decide_eq_false h; omega⟩
    · rw [go_hu]; exact ⟨fun h => by have := of_decide_eq_true h; omega, fun h => by have := of_decide_eq_false h; omega⟩
    · rw [go_he]
      refine ⟨fun h => ?_, fun h => ?_⟩
      · rw [Bool.or_eq_true, Bool.and_eq_true] at h
        rcases h with h | ⟨h, _⟩ <;> have := of_decide_eq_true h <;> omega
      · rw [Bool.or_eq_false_iff] at h
        have := of_decide_eq_false h.1
        omega
  rcases wh with ⟨h, e⟩ | ⟨h, e⟩
  · have := hb.1 h
    rw [e, Int.mul_add, Int.mul_one]
    generalize s * q = z at eq ⊢
    omega
  · have := hb.2 h
    rw [e]
    generalize s * q = z at eq ⊢
    omega
theorem go_zero {m : Str} {s q : Int} (hm : Mode m) (hs : 1 ≤ s) : goesUp m s q 0 = false := by
  cases h : goesUp m s q 0 with
  | false => rfl
  | true => exact absurd (go_pos hm hs (Int.le_refl _) h) (by omega)
/-- what is written stands and is written as it is -/
theorem fig_at {o s k : Int} {m : Str} (hm : Mode m) (hs : 1 ≤ s) : figM o s m (o + s * k) = k :=
  fig_uniq (q := k) (r := 0) hs ⟨by omega, Int.le_refl _, by omega, .inr ⟨go_zero hm hs, rfl⟩⟩
theorem stands_at {o s k : Int} : (o + s * k - o) % s = 0 := by
  rw [show o + s * k - o = s * k by omega]
  exact Int.mul_emod_right s k
theorem due_eq {o s : Int} {m : Str} {v : Int} (hm : Mode m) (hs : 1 ≤ s) : (v - o) % s = 0 ↔ dueM o s m v = v := by
  have F := fig_of (o := o) (m := m) (v := v) hs
  unfold dueM
  generalize (v - o) / s = q at F
  generalize (v - o) % s = r at F ⊢
  obtain ⟨eq, r0, r1, wh⟩ := F
  rcases wh with ⟨h, e⟩ | ⟨h, e⟩
  · have := go_pos hm hs r0 h
    rw [e, Int.mul_add, Int.mul_one]
    generalize s * q = z at eq ⊢
    omega
  · rw [e]
    generalize s * q = z at eq ⊢
    omega
theorem go_mono {m : Str} {s q r : Int} (hm : Mode m) (h : goesUp m s q r = true) : goesUp m s q (r + 1) = true := by
  rcases hm with e | e | e | e | e <;> subst e
  · rw [go_down] at h; cases h
  · rw [go_up] at h ⊢; have := of_decide_eq_true h; exact decide_eq_true (by omega)
  · rw [go_hd] at h ⊢; have := of_decide_eq_true h; exact decide_eq_true (by omega)
  · rw [go_hu] at h ⊢; have := of_decide_eq_true h; exact decide_eq_true (by omega)
  · rw [go_he] at h ⊢
    have : s ≤ 2 * r := by
      rw [Bool.or_eq_true, Bool.and_eq_true] at h
      rcases h with h | ⟨h, _⟩ <;> have := of_decide_eq_true h <;> omega
    rw [decide_eq_true (show s < 2 * (r + 1) by omega)]
    rfl
theorem fig_mono {o s : Int} {m : Str} {v : Int} (hm : Mode m) (hs : 1 ≤ s) : figM o s m v ≤ figM o s m (v + 1) := by
  have F := fig_of (o := o) (m := m) (v := v) hs
  generalize (v - o) / s = q at F
  generalize (v - o) % s = r at F
  obtain ⟨eq, r0, r1, wh⟩ := F
  by_cases hr : r + 1 < s
  · cases g : goesUp m s q (r + 1) with
    | true =>
      rw [fig_uniq (v := v + 1) (q := q) (r := r + 1) (k := q + 1) hs ⟨by omega, by omega, hr, .inl ⟨g, rfl⟩⟩]
      rcases wh with ⟨_, e⟩ | ⟨_, e⟩ <;> omega
    | false =>
      rw [fig_uniq (v := v + 1) (q := q) (r := r + 1) (k := q) hs ⟨by omega, by omega, hr, .inr ⟨g, rfl⟩⟩]
      rcases wh with ⟨h, e⟩ | ⟨_, e⟩
      · rw [go_mono hm h] at g
        cases g
      · omega
  · rw [fig_uniq (v := v + 1) (q := q + 1) (r := 0) (k := q + 1) hs ⟨by rw [Int.mul_add, Int.mul_one]; omega, by omega, by omega, .inr ⟨go_zero hm hs, rfl⟩⟩]
    rcases wh with ⟨_, e⟩ | ⟨_, e⟩ <;> omega
theorem due_mono {o s : Int} {m : Str} {v : Int} (hm : Mode m) (hs : 1 ≤ s) : dueM o s m v ≤ dueM o s m (v + 1) := by
  unfold dueM
  have := Int.mul_le_mul_of_nonneg_left (fig_mono (o := o) (v := v) hm hs) (show 0 ≤ s by omega)
  omega
theorem go_two {m : Str} {s q r : Int} (hm : Mode m) : goesUp m s (q + 2) r = goesUp m s q r := by
  rcases hm with e | e | e | e | e <;> subst e
  · rw [go_down, go_down]
  · rw [go_up, go_up]
  · rw [go_hd, go_hd]
  · rw [go_hu, go_hu]
  · rw [go_he, go_he, show (q + 2) % 2 = q % 2 by omega]
theorem due_two {o s : Int} {m : Str} {v : Int} (hm : Mode m) (hs : 1 ≤ s) : dueM o s m (v + s * 2) = dueM o s m v + s * 2 := by
  have F := fig_of (o := o) (m := m) (v := v) hs
  unfold dueM
  generalize (v - o) / s = q at F
  generalize (v - o) % s = r at F
  obtain ⟨eq, r0, r1, wh⟩ := F
  rw [fig_uniq (v := v + s * 2) (q := q + 2) (r := r) (k := figM o s m v + 2) hs ⟨by rw [Int.mul_add]; omega, r0, r1, ?_⟩, Int.mul_add]
  · omega
  · rw [go_two hm]
    rcases wh with ⟨h, e⟩ | ⟨h, e⟩
    · exact .inl ⟨h, by omega⟩
    · exact .inr ⟨h, by omega⟩
/-! ### bounds -/
def Bd (x : Int) : Prop := -2 ^ 1000 < x ∧ x < 2 ^ 1000
theorem div_bd {x s b : Int} (hs : 1 ≤ s) (h0 : -b < x) (h1 : x < b) : -b < x / s ∧ x / s < b := by
  by_cases hx : 0 ≤ x
  · have a := Int.ediv_nonneg hx (show 0 ≤ s by omega)
    have c := Int.ediv_le_self s hx
    omega
  · have a : x ≤ x / s := by
      rw [Int.le_ediv_iff_mul_le (by omega)]
      have := Int.mul_le_mul_of_nonpos_left (show x ≤ 0 by omega) hs
      omega
    have c : x / s < 0 := Int.ediv_neg_of_neg_of_pos (by omega) (by omega)
    omega
end HT
namespace HT
open PySem L2
/-! ### spans -/
def below (m : Str) (s k : Int) : Int := if m = "down" then 0 else if m = "up" then s - 1 else if m = "half_up" ∨ (m = "half_even" ∧ k % 2 = 0) then s / 2 else (s - 1) / 2
def mir (m : Str) : Str := if m = "down" then "up" else if m = "up" then "down" else if m = "half_down" then "half_up" else if m = "half_up" then "half_down" else "half_even"
def lowM (o s : Int) (m : Str) (k : Int) : Int := o + s * k - below m s k
def highM (o s : Int) (m : Str) (k : Int) : Int := o + s * k + below (mir m) s k
theorem mir_d : mir "down" = "up" := by unfold mir; rw [if_pos rfl]
theorem mir_u : mir "up" = "down" := by unfold mir; rw [if_neg d_u, if_pos rfl]
theorem mir_hd : mir "half_down" = "half_up" := by unfold mir; rw [if_neg hd_d, if_neg hd_u, if_pos rfl]
theorem mir_hu : mir "half_up" = "half_down" := by unfold mir; rw [if_neg hu_d, if_neg hu_u, if_neg hu_hd, if_pos rfl]
theorem mir_he : mir "half_even" = "half_even" := by unfold mir; rw [if_neg he_d, if_neg he_u, if_neg he_hd, if_neg he_hu]
theorem be_d (s k : Int) : below "down" s k = 0 := by unfold below; rw [if_pos rfl]
theorem be_u (s k : Int) : below "up" s k = s - 1 := by unfold below; rw [if_neg d_u, if_pos rfl]
theorem be_hd (s k : Int) : below "half_down" s k = (s - 1) / 2 := by
  unfold below
  rw [if_neg hd_d, if_neg hd_u, if_neg]
  rintro (z | ⟨z, _⟩)
  · exact hd_hu z
  · exact hd_e z
theorem be_hu (s k : Int) : below "half_up" s k = s / 2 := by unfold below; rw [if_neg hu_d, if_neg hu_u, if_pos (.inl rfl)]
theorem be_he (s k : Int) : below "half_even" s k = if k % 2 = 0 then s / 2 else (s - 1) / 2 := by
  unfold below
  rw [if_neg he_d, if_neg he_u]
  by_cases h : k % 2 = 0
  · rw [if_pos (.inr ⟨rfl, h⟩), if_pos h]
  · rw [if_neg h, if_neg]
    rintro (z | ⟨_, z⟩)
    · exact he_hu z
    · exact h z
theorem mir_mode {m : Str} (h : Mode m) : Mode (mir m) := by
  rcases h with e | e | e | e | e <;> subst e
  · rw [mir_d]; exact .inr (.inl rfl)
  · rw [mir_u]; exact .inl rfl
  · rw [mir_hd]; exact .inr (.inr (.inr (.inl rfl)))
  · rw [mir_hu]; exact .inr (.inr (.inl rfl))
  · rw [mir_he]; exact .inr (.inr (.inr (.inr rfl)))
theorem below_bd {m : Str} {s k : Int} (h : Mode m) (hs : 1 ≤ s) : 0 ≤ below m s k ∧ below m s k < s := by
  rcases h with e | e | e | e | e <;> subst e
  · rw [be_d]; omega
  · rw [be_u]; omega
  · rw [be_hd]; omega
  · rw [be_hu]; omega
  · rw [be_he]; split <;> omega
theorem up_iff {m : Str} {s q r : Int} (h : Mode m) (r0 : 0 ≤ r) (r1 : r < s) : goesUp m s q r = true ↔ below (mir m) s q < r := by
  rcases h with e | e | e | e | e <;> subst e
  · rw [go_down, mir_d, be_u]
    exact ⟨fun z => (Bool.false_ne_true z).elim, fun z => absurd z (by omega)⟩
  · rw [go_up, mir_u, be_d, decide_eq_true_eq]
  · rw [go_hd, mir_hd, be_hu, decide_eq_true_eq]; omega
  · rw [go_hu, mir_hu, be_hd, decide_eq_true_eq]; omega
  · rw [go_he, mir_he, be_he, Bool.or_eq_true, Bool.and_eq_true, decide_eq_true_eq, decide_eq_true_eq, decide_eq_true_eq]
    split <;> omega
theorem touch {m : Str} {s : Int} (q : Int) (h : Mode m) (hs : 1 ≤ s) : below m s (q + 1) + below (mir m) s q = s - 1 := by
  rcases h with e | e | e | e | e <;> subst e
  · rw [be_d, mir_d, be_u]; omega
  · rw [be_u, mir_u, be_d]; omega
  · rw [be_hd, mir_hd, be_hu]; omega
  · rw [be_hu, mir_hu, be_hd]; omega
  · rw [be_he, mir_he, be_he]; split <;> split <;> omega
theorem mul_lt_step {s q k : Int} (hs : 1 ≤ s) (h : q < k) : s * q + s ≤ s * k := by
  have := Int.mul_le_mul_of_nonneg_left (show q + 1 ≤ k by omega) (show 0 ≤ s by omega)
  rw [Int.mul_add, Int.mul_one] at this
  exact this
/-- a value comes to k just between the ends -/
theorem fig_iff {o s : Int} {m : Str} {v k : Int} (h : Mode m) (hs : 1 ≤ s) : figM o s m v = k ↔ lowM o s m k ≤ v ∧ v ≤ highM o s m k := by
  have F := fig_of (o := o) (m := m) (v := v) hs
  generalize (v - o) / s = q at F
  generalize (v - o) % s = r at F
  generalize figM o s m v = f at F ⊢
  obtain ⟨eq, r0, r1, wh⟩ := F
  have ui := up_iff (q := q) h r0 r1
  have t1 := touch (k - 1) h hs
  rw [show k - 1 + 1 = k by omega] at t1
  have bk := below_bd (k := k) (mir_mode h) hs
  have bk1 := below_bd (k := k - 1) (mir_mode h) hs
  have bq := below_bd (k := q) (mir_mode h) hs
  unfold lowM highM
  have hf : (f = q + 1 ∧ below (mir m) s q < r) ∨ (f = q ∧ r ≤ below (mir m) s q) := by
    rcases wh with ⟨g, e⟩ | ⟨g, e⟩
    · exact .inl ⟨e, ui.mp g⟩
    · refine .inr ⟨e, ?_⟩
      have : ¬ below (mir m) s q < r := fun z => by rw [ui.mpr z] at g; cases g
      omega
  rcases Int.lt_trichotomy q k with hq | hq | hq
  · rcases Int.lt_trichotomy (q + 1) k with hq1 | hq1 | hq1
    · have := mul_lt_step hs (show q + 1 < k from hq1)
      rw [Int.mul_add, Int.mul_one] at this
      generalize s * q = a at *
      generalize s * k = b at *
      constructor
      · intro z; omega
      · intro z; omega
    · have e : q = k - 1 := by omega
      subst e
      have : s * (k - 1) = s * k - s := by rw [Int.mul_sub, Int.mul_one]
      generalize s * (k - 1) = a at *
      generalize s * k = b at *
      constructor
      · intro z; omega
      · intro z; omega
    · omega
  · subst hq
    generalize s * q = a at *
    constructor
    · intro z; omega
    · intro z; omega
  · have := mul_lt_step hs hq
    generalize s * q = a at *
    generalize s * k = b at *
    constructor
    · intro z; omega
    · intro z; omega
theorem low_high {o s : Int} {m : Str} {k : Int} (h : Mode m) (hs : 1 ≤ s) : lowM o s m k ≤ o + s * k ∧ o + s * k ≤ highM o s m k := by
  have a := below_bd (k := k) h hs
  have b := below_bd (k := k) (mir_mode h) hs
  unfold lowM highM
  omega
theorem low_next {o s : Int} {m : Str} (k : Int) (h : Mode m) (hs : 1 ≤ s) : lowM o s m (k + 1) = highM o s m k + 1 := by
  have := touch k h hs
  unfold lowM highM
  rw [Int.mul_add, Int.mul_one]
  omega
theorem high_prev {o s : Int} {m : Str} (k : Int) (h : Mode m) (hs : 1 ≤ s) : highM o s m (k - 1) = lowM o s m k - 1 := by
  have := low_next (o := o) (k - 1) h hs
  rw [show k - 1 + 1 = k by omega] at this
  omega
theorem fig_low {o s : Int} {m : Str} (k : Int) (h : Mode m) (hs : 1 ≤ s) : figM o s m (lowM o s m k) = k := by
  have a := low_high (o := o) (k := k) h hs
  exact (fig_iff h hs).mpr ⟨by omega, by omega⟩
theorem fig_high {o s : Int} {m : Str} (k : Int) (h : Mode m) (hs : 1 ≤ s) : figM o s m (highM o s m k) = k := by
  have a := low_high (o := o) (k := k) h hs
  exact (fig_iff h hs).mpr ⟨by omega, by omega⟩
theorem fig_low1 {o s : Int} {m : Str} (k : Int) (h : Mode m) (hs : 1 ≤ s) : figM o s m (lowM o s m k - 1) = k - 1 := by
  rw [← high_prev k h hs]
  exact fig_high _ h hs
theorem fig_high1 {o s : Int} {m : Str} (k : Int) (h : Mode m) (hs : 1 ≤ s) : figM o s m (highM o s m k + 1) = k + 1 := by
  rw [← low_next k h hs]
  exact fig_low _ h hs
/-- the figure of the least standing value that is not less -/
def ceilM (o s v : Int) : Int := -((o - v) / s)
theorem ceil_eq {o s v : Int} (hs : 1 ≤ s) : v ≤ o + s * ceilM o s v ∧ o + s * (ceilM o s v - 1) < v := by
  have a := Int.mul_ediv_add_emod (o - v) s
  have b := Int.emod_nonneg (o - v) (show s ≠ 0 by omega)
  have c := Int.emod_lt_of_pos (o - v) (show 0 < s by omega)
  unfold ceilM
  rw [Int.mul_sub, Int.mul_one, Int.mul_neg]
  omega
def backM (o s : Int) (m : Str) (v : Int) : Int := lowM o s m (ceilM o s v)
theorem back_ge {o s : Int} {m : Str} {v : Int} (h : Mode m) (hs : 1 ≤ s) : v ≤ dueM o s m (backM o s m v) := by
  unfold dueM backM
  rw [fig_low _ h hs]
  exact (ceil_eq hs).1
theorem back_lt {o s : Int} {m : Str} {v : Int} (h : Mode m) (hs : 1 ≤ s) : dueM o s m (backM o s m v - 1) < v := by
  unfold dueM backM
  rw [fig_low1 _ h hs]
  exact (ceil_eq hs).2
theorem mul_b {s k : Int} (s0 : 1 ≤ s) (s1 : s ≤ 10 ^ 30) (h : -2 ^ 720 < k ∧ k < 2 ^ 720) : -2 ^ 820 < s * k ∧ s * k < 2 ^ 820 := by
  have h1 : (s * k).natAbs < 2 ^ (100 + 720) := wide_lt (a := 100) (b := 720) (by omega) (by omega)
  omega
end HT
namespace HT
open PySem L2
theorem lg_big {n : Int} (h0 : 0 ≤ n) (h : n < 2 ^ 200) : n.natAbs.log2 < 9000 := by
  obtain ⟨m, rfl⟩ := Int.eq_ofNat_of_zero_le h0
  exact lg_nat (by omega)
def modesV : List V := [.str "down", .str "up", .str "half_down", .str "half_up", .str "half_even"]
/-- the further names that the text of sides does not bind, and its table of modes -/
structure SideT (K : PySem.W.Frag) (mg : Str → Option Value) (aM : Addr) : Prop where
  isi : mg "isinstance" = none
  int : mg "int" = none
  bool : mg "bool" = none
  tuple : mg "tuple" = none
  len : mg "len" = none
  dm : mg "divmod" = none
  gM : mg "MODES" = some (.ref aM)
  tM : ∀ H, SqT K H aM modesV
def spIsInt : Sp := fun vs H Q _ => ∃ i : Int, vs = [.int i] ∧ Q (.bl true) H
def spBetween : Sp := fun vs H Q _ => ∃ i a b : Int, vs = [.int i, .int a, .int b] ∧ Q (.bl (decide (a ≤ i) && decide (i ≤ b))) H
def spCheckValue : Sp := fun vs H Q _ => ∃ i : Int, vs = [.int i] ∧ Q .non H
def spCheckSide : Sp := fun vs H Q _ => ∃ (p : Addr) (o s : Int) (m : Str), vs = [.ref p] ∧ H p = some (sideV o s m) ∧ SideP o s m ∧ Q .non H
def spGo : Sp := fun vs H Q _ => ∃ (m : Str) (s q r : Int), vs = [.str m, .int s, .int q, .int r] ∧ Q (.bl (goesUp m s q r)) H
def spSV (f : Int → Int → Str → Int → V) : Sp := fun vs H Q _ => ∃ (p : Addr) (o s : Int) (m : Str) (v : Int), vs = [.ref p, .int v] ∧ H p = some (sideV o s m) ∧ SideP o s m ∧ Bd v ∧ ∀ H', Same H H' → Q (f o s m v) H'
def spFig : Sp := spSV fun o s m v => .int (figM o s m v)
def spDue : Sp := spSV fun o s m v => .int (dueM o s m v)
def spStands : Sp := spSV fun o s m v => .bl (decide ((v - o) % s = 0))
theorem dec_int (a b : Int) : decide (V.int a = V.int b) = decide (a = b) := by
  by_cases h : a = b
  · rw [decide_eq_true h, h, decide_eq_true rfl]
  · rw [decide_eq_false h, decide_eq_false (fun z => h (V.int.inj z))]
theorem dec_str (a b : Str) : decide (V.str a = V.str b) = decide (a = b) := by
  by_cases h : a = b
  · rw [decide_eq_true h, h, decide_eq_true rfl]
  · rw [decide_eq_false h, decide_eq_false (fun z => h (V.str.inj z))]
theorem dec_bl (a b : Bool) : decide (V.bl a = V.bl b) = decide (a = b) := by
  by_cases h : a = b
  · rw [decide_eq_true h, h, decide_eq_true rfl]
  · rw [decide_eq_false h, decide_eq_false (fun z => h (V.bl.inj z))]
theorem str_t {a b : Str} (h : decide (V.str a = V.str b) = true) : a = b := V.str.inj (of_decide_eq_true h)
theorem str_f {a b : Str} (h : ¬ decide (V.str a = V.str b) = true) : ¬ a = b := fun z => h (decide_eq_true (congrArg V.str z))
theorem int_t {a b : Int} (h : decide (V.int a = V.int b) = true) : a = b := V.int.inj (of_decide_eq_true h)
theorem int_f {a b : Int} (h : ¬ decide (V.int a = V.int b) = true) : ¬ a = b := fun z => h (decide_eq_true (congrArg V.int z))
theorem not_t {b : Bool} (h : (!b) = true) : ¬ b = true := by cases b <;> simp_all
theorem not_f {b : Bool} (h : ¬ (!b) = true) : b = true := by cases b <;> simp_all
theorem mode_in {m : Str} (h : Mode m) : inV (.str m) modesV = true := by
  rcases h with e | e | e | e | e <;> subst e <;> decide +kernel
theorem divp {o v s : Int} (hs : 1 ≤ s) (ho : -10 ^ 40 ≤ o ∧ o ≤ 10 ^ 40) (hv : Bd v) : CDivP (v - o) s := by
  refine divp_ok (by omega) ?_
  have h : (v - o).natAbs < 2 ^ 1010 := by
    have h1 := hv.1
    have h2 := hv.2
    omega
  have h2 : Builtin.Int.intBits (v - o) ≤ 1011 := by
    unfold Builtin.Int.intBits
    split
    · omega
    · have := PySem.Flt.log2_lt_of (by decide) h
      omega
  omega
theorem mulW {i j : Int} (hi : -2 ^ 1010 < i ∧ i < 2 ^ 1010) (hj : -2 ^ 1010 < j ∧ j < 2 ^ 1010) : CMulW i j := wide_mul (a := 1010) (b := 1010) (by omega) (by omega) (by decide) (by decide) (by decide)
theorem fig_bd {o s : Int} {m : Str} {v : Int} (S : SideP o s m) (hv : Bd v) : -2 ^ 1001 < figM o s m v ∧ figM o s m v < 2 ^ 1001 := by
  obtain ⟨h1, h2⟩ := hv
  obtain ⟨o0, o1, s0, s1, _⟩ := S
  have := div_bd (x := v - o) (b := 2 ^ 1000 + 10 ^ 40) s0 (by omega) (by omega)
  unfold figM
  split <;> omega
section
variable {P : Program} {w : World} {K : PySem.W.Frag} {mg : Str → Option Value} {base : Heap} {aM fI fB fV fC fG fF : Addr} {dI dB dV dC dG dF : FuncData}
theorem ok_is_int {f : Addr} {fd : FuncData} (F : Fun K "is_int" "is_int" s_is_int f fd) (T : SideT K mg aM) : FnOk P w K mg base CX0 1 f fd ["thing"] spIsInt := by
  refine F.ok sc_is_int (fun vs H Q E h => ?_) (fun cdv A outer s H vs Q E hr h => ?_)
  · obtain ⟨i, rfl, _⟩ := h
    rfl
  · obtain ⟨i, rfl, q⟩ := h
    refine ⟨_, pss_one (ps_ret (pe_and (pe_callB call_isi (by rfl) T.isi (by decide +kernel) (pa_cons (pv 0) (pa_cons (pe_bltn (v := .ty "int") (by rfl) T.int (by decide +kernel) rfl) pa_nil)))
      (pe_one (pe_not (pe_callB call_isi (by rfl) T.isi (by decide +kernel) (pa_cons (pv 0) (pa_cons (pe_bltn (v := .ty "bool") (by rfl) T.bool (by decide +kernel) rfl) pa_nil))))))), ?_⟩
    walk_at "rd"
    refine ⟨_, _, _, _, _, rfl, .ty "int", .base (.int _), kit_ty (r := true) (by decide +kernel), ?_⟩
    walk_at "rd"
    refine ⟨_, _, _, _, _, rfl, .ty "bool", .base (.int _), kit_ty (r := false) (by decide +kernel), ?_⟩
    walk_at "rd"
    exact q
theorem ok_between {f : Addr} {fd : FuncData} (F : Fun K "is_int_between" "is_int_between" s_is_int_between f fd) (I : Cal P w K mg base "is_int" 1 ["thing"] spIsInt fI dI) : FnOk P w K mg base CX0 2 f fd ["thing", "least", "most"] spBetween := by
  refine F.ok sc_is_int_between (fun vs H Q E h => ?_) (fun cdv A outer s H vs Q E hr h => ?_)
  · obtain ⟨i, a, b, rfl, _⟩ := h
    rfl
  · obtain ⟨i, a, b, rfl, q⟩ := h
    refine ⟨_, pss_one (ps_ret (pe_and (pcl I hr (by decide) (by rfl) (pa_cons (pv 0) pa_nil)) (pe_one (pe_chain op_le op_le (pv 1) (pv 0) (pv 2))))), ?_⟩
    walk_at "rd"
    refine ite2 (fun h => ?_) (fun h => ?_)
    · walk_at "rd"
      rw [decide_eq_true (of_decide_eq_true h)] at q
      exact q
    · rw [decide_eq_false (of_decide_eq_false (by simpa using h))] at q
      exact q
theorem ok_check_value {f : Addr} {fd : FuncData} (F : Fun K "check_value" "check_value" s_check_value f fd) (I : Cal P w K mg base "is_int" 1 ["thing"] spIsInt fI dI) : FnOk P w K mg base CX0 2 f fd ["value"] spCheckValue := by
  refine F.ok sc_check_value (fun vs H Q E h => ?_) (fun cdv A outer s H vs Q E hr h => ?_)
  · obtain ⟨i, rfl, _⟩ := h
    rfl
  · obtain ⟨i, rfl, q⟩ := h
    refine ⟨_, pss_one (ps_if (pt_not (pt_val (pcl I hr (by decide) (by rfl) (pa_cons (pv 0) pa_nil)))) (pss_one ps_never) pss_nil), ?_⟩
    walk_at "rd"
    exact q
theorem ok_check_side {f : Addr} {fd : FuncData} (F : Fun K "check_side" "check_side" s_check_side f fd) (T : SideT K mg aM) (B : Cal P w K mg base "is_int_between" 2 ["thing", "least", "most"] spBetween fB dB) : FnOk P w K mg base CX0 3 f fd ["side"] spCheckSide := by
  refine F.ok sc_check_side (fun vs H Q E h => ?_) (fun cdv A outer s H vs Q E hr h => ?_)
  · obtain ⟨p, o, s, m, rfl, _⟩ := h
    rfl
  · obtain ⟨p, o, s, m, rfl, hp, S, q⟩ := h
    have nd := sc_check_side.nd
    refine ⟨_, pss_cons (ps_if (PW.pt (pw_or (pt_not (pt_val (pe_callB call_isi (by rfl) T.isi (by decide +kernel) (pa_cons (pv 0) (pa_cons (pe_bltn (v := .ty "tuple") (by rfl) T.tuple (by decide +kernel) rfl) pa_nil)))))
        (pw_or1 (pt_cmpR op_ne (pe_callB call_len_seq (by rfl) T.len PySem.boot_len (pa_cons (pv 0) pa_nil)) pe_int (nomark _))))) (pss_one ps_never) pss_nil)
      (pss_cons (ps_asg (pv 0) (pg_tup (by rfl) (pgs_cons (pg_name (i := 1) nd rfl (Or.inl rfl)) (pgs_cons (pg_name (i := 2) nd rfl (Or.inl rfl)) (pgs_cons (pg_name (i := 3) nd rfl (Or.inl rfl)) pgs_nil)))))
      (pss_cons (ps_if (pt_not (pt_val (pcl B hr (by decide) (by rfl) (pa_cons (pv 1) (pa_cons (pe_un un_neg (pe_op op_pow pe_int pe_int)) (pa_cons (pe_op op_pow pe_int pe_int) pa_nil)))))) (pss_one ps_never) pss_nil)
      (pss_cons (ps_if (pt_not (pt_val (pcl B hr (by decide) (by rfl) (pa_cons (pv 2) (pa_cons pe_int (pa_cons (pe_op op_pow pe_int pe_int) pa_nil)))))) (pss_one ps_never) pss_nil)
      (pss_one (ps_if (pt_cmpR op_notIn_seq (pv 3) (pe_glob (v := .ref aM) (by rfl) T.gM rfl) (by rfl)) (pss_one ps_never) pss_nil))))), ?_⟩
    walk_at "rd"
    refine ⟨_, _, _, _, _, rfl, .ty "tuple", .base (.tup hp), kit_ty (r := true) (by decide +kernel), ?_⟩
    walk_at "rd"
    refine ⟨p, _, rfl, .inr (SqT.of hp), rfl, ?_⟩
    walk_at "rd"
    refine ⟨p, _, rfl, SqT.of hp, rfl, _, _, rfl, _, _, rfl, _, _, rfl, rfl, ?_⟩
    walk_at "rd"
    refine ⟨⟨by decide, by decide, by decide⟩, ?_⟩
    walk_at "rd"
    refine ⟨⟨by decide, by decide, by decide⟩, _, _, _, rfl, ?_⟩
    have e1 : (decide (-(10 : Int) ^ (40 : Int).toNat ≤ o) && decide (o ≤ (10 : Int) ^ (40 : Int).toNat)) = true := by
      rw [decide_eq_true (show -(10 : Int) ^ (40 : Int).toNat ≤ o from S.o0), decide_eq_true (show o ≤ (10 : Int) ^ (40 : Int).toNat from S.o1)]
      rfl
    refine ⟨_, rfl, ?_⟩
    refine ite2 (fun h => (not_t h e1).elim) (fun _ => ?_)
    walk_at "rd"
    refine ⟨⟨by decide, by decide, by decide⟩, _, _, _, rfl, ?_⟩
    have e2 : (decide ((1 : Int) ≤ s) && decide (s ≤ (10 : Int) ^ (30 : Int).toNat)) = true := by
      rw [decide_eq_true S.s0, decide_eq_true (show s ≤ (10 : Int) ^ (30 : Int).toNat from S.s1)]
      rfl
    refine ⟨_, rfl, ?_⟩
    refine ite2 (fun h => (not_t h e2).elim) (fun _ => ?_)
    walk_at "rd"
    refine ⟨aM, _, rfl, .inr (T.tM H), rfl, by decide, ?_⟩
    walk_at "rd"
    refine ite2 (fun h => (not_t h (mode_in S.md)).elim) (fun _ => ?_)
    exact q
end
end HT
namespace HT
open PySem L2
section
variable {P : Program} {w : World} {K : PySem.W.Frag} {mg : Str → Option Value} {base : Heap} {aM fI fB fV fC fG fF : Addr} {dI dB dV dC dG dF : FuncData}
theorem ok_goes_up {f : Addr} {fd : FuncData} (F : Fun K "_goes_up" "_goes_up" s_goes_up f fd) : FnOk P w K mg base CX0 1 f fd ["mode", "step", "figure", "rest"] spGo := by
  refine F.ok sc_goes_up (fun vs H Q E h => ?_) (fun cdv A outer s H vs Q E hr h => ?_)
  · obtain ⟨m, s, q, r, rfl, _⟩ := h
    rfl
  · obtain ⟨m, s, fg, r, rfl, q⟩ := h
    refine ⟨_, pss_cons (ps_if (pt_cmpR op_eq (pv 0) pe_str (nomark _)) (pss_one (ps_ret pe_bl)) pss_nil)
      (pss_cons (ps_if (pt_cmpR op_eq (pv 0) pe_str (nomark _)) (pss_one (ps_ret (pe_cmpR op_gt (pv 3) pe_int (nomark _)))) pss_nil)
      (pss_cons (ps_if (pt_cmpR op_ne (pe_op op_mul pe_int (pv 3)) (pv 1) (nomark _)) (pss_one (ps_ret (pe_cmpR op_gt (pe_op op_mul pe_int (pv 3)) (pv 1) (nomark _)))) pss_nil)
      (pss_cons (ps_if (pt_cmpR op_eq (pv 0) pe_str (nomark _)) (pss_one (ps_ret (pe_cmpR op_eq (pe_op op_mod (pv 2) pe_int) pe_int (nomark _)))) pss_nil)
      (pss_one (ps_ret (pe_cmpR op_eq (pv 0) pe_str (nomark _))))))), ?_⟩
    unfold goesUp at q
    walk_at "rd"
    refine ⟨rfl, ?_⟩
    walk_at "rd"
    refine ite2 (fun h => ?_) (fun h1 => ?_)
    · rw [if_pos (str_t h)] at q
      exact q
    rw [if_neg (str_f h1)] at q
    walk_at "rd"
    refine ⟨rfl, ?_⟩
    walk_at "rd"
    refine ite2 (fun h => ?_) (fun h2 => ?_)
    · rw [if_pos (str_t h)] at q
      walk_at "rd"
      exact q
    rw [if_neg (str_f h2)] at q
    walk_at "rd"
    refine ⟨.inl ⟨by decide, by decide⟩, ?_⟩
    walk_at "rd"
    refine ⟨rfl, ?_⟩
    walk_at "rd"
    refine ite2 (fun h => ?_) (fun h3 => ?_)
    · rw [if_neg (int_f (not_t h))] at q
      walk_at "rd"
      refine ⟨.inl ⟨by decide, by decide⟩, ?_⟩
      walk_at "rd"
      exact q
    rw [if_pos (int_t (not_f h3))] at q
    walk_at "rd"
    refine ⟨rfl, ?_⟩
    walk_at "rd"
    refine ite2 (fun h => ?_) (fun h4 => ?_)
    · rw [if_pos (str_t h), ← dec_int] at q
      walk_at "rd"
      refine ⟨(by show (0 : Int) < 2; decide), ?_⟩
      walk_at "rd"
      exact ⟨rfl, q⟩
    · rw [if_neg (str_f h4), ← dec_str] at q
      walk_at "rd"
      exact ⟨rfl, q⟩
theorem ok_figure {f : Addr} {fd : FuncData} (F : Fun K "_figure" "_figure" s_figure f fd) (T : SideT K mg aM)
    (G : Cal P w K mg base "_goes_up" 1 ["mode", "step", "figure", "rest"] spGo fG dG) : FnOk P w K mg base CX0 2 f fd ["side", "value"] spFig := by
  refine F.ok sc_figure (fun vs H Q E h => ?_) (fun cdv A outer s H vs Q E hr h => ?_)
  · obtain ⟨p, o, s, m, v, rfl, _⟩ := h
    rfl
  · obtain ⟨p, o, s, m, v, rfl, hp, S, hv, q⟩ := h
    have nd := sc_figure.nd
    refine ⟨_, pss_cons (ps_asg (pv 0) (pg_tup (by rfl) (pgs_cons (pg_name (i := 2) nd rfl (Or.inl rfl)) (pgs_cons (pg_name (i := 3) nd rfl (Or.inl rfl)) (pgs_cons (pg_name (i := 4) nd rfl (Or.inl rfl)) pgs_nil)))))
      (pss_cons (ps_asg (pe_callB call_divmodW (by rfl) T.dm (by decide +kernel) (pa_cons (pe_op op_sub (pv 1) (pv 2)) (pa_cons (pv 3) pa_nil))) (pg_tup (by rfl) (pgs_cons (pg_name (i := 5) nd rfl (Or.inl rfl)) (pgs_cons (pg_name (i := 6) nd rfl (Or.inl rfl)) pgs_nil))))
      (pss_cons (ps_if (pt_val (pcl G hr (by decide) (by rfl) (pa_cons (pv 4) (pa_cons (pv 3) (pa_cons (pv 5) (pa_cons (pv 6) pa_nil)))))) (pss_one (ps_ret (pe_op op_add (pv 5) pe_int))) pss_nil)
      (pss_one (ps_ret (pv 5))))), ?_⟩
    walk_at "rd"
    refine ⟨p, _, rfl, SqT.of hp, rfl, _, _, rfl, _, _, rfl, _, _, rfl, rfl, ?_⟩
    walk_at "rd"
    refine ⟨_, _, rfl, divp S.s0 ⟨S.o0, S.o1⟩ hv, fun d nd' => ?_⟩
    refine ⟨d, _, rfl, SqT.of upd_same, rfl, _, _, rfl, _, _, rfl, rfl, ?_⟩
    have sm : Same H (upd H d (.tup [.int ((v - o) / s), .int ((v - o) % s)])) := fun b u z => by rw [upd_ne (ne_of_none z nd')]; exact z
    have q' : Q (.int (figM o s m v)) (upd H d (.tup [.int ((v - o) / s), .int ((v - o) % s)])) := q _ sm
    unfold figM at q'
    walk_at "rd"
    refine ⟨_, _, _, _, rfl, ?_⟩
    walk_at "rd"
    refine ite2 (fun h => ?_) (fun h => ?_)
    · rw [if_pos h] at q'
      walk_at "rd"
      exact q'
    · rw [if_neg h] at q'
      walk_at "rd"
      exact q'
end
end HT
namespace HT
open PySem L2
section
variable {P : Program} {w : World} {K : PySem.W.Frag} {mg : Str → Option Value} {base : Heap} {fF : Addr} {dF : FuncData}
theorem ok_written {f : Addr} {fd : FuncData} (F : Fun K "written" "written" s_written f fd) (G : Cal P w K mg base "_figure" 2 ["side", "value"] spFig fF dF) : FnOk P w K mg base CX0 3 f fd ["side", "value"] spDue := by
  refine F.ok sc_written (fun vs H Q E h => ?_) (fun cdv A outer s H vs Q E hr h => ?_)
  · obtain ⟨p, o, s, m, v, rfl, _⟩ := h
    rfl
  · obtain ⟨p, o, s, m, v, rfl, hp, S, hv, q⟩ := h
    have nd := sc_written.nd
    refine ⟨_, pss_cons (ps_asg (pv 0) (pg_tup (by rfl) (pgs_cons (pg_name (i := 2) nd rfl (Or.inl rfl)) (pgs_cons (pg_name (i := 3) nd rfl (Or.inl rfl)) (pgs_cons (pg_name (i := 4) nd rfl (Or.inl rfl)) pgs_nil)))))
      (pss_one (ps_ret (pe_op op_add (pv 2) (pe_op op_mulW (pv 3) (pcl G hr (by decide) (by rfl) (pa_cons (pv 0) (pa_cons (pv 1) pa_nil))))))), ?_⟩
    walk_at "rd"
    refine ⟨p, _, rfl, SqT.of hp, rfl, _, _, rfl, _, _, rfl, _, _, rfl, rfl, ?_⟩
    walk_at "rd"
    refine ⟨p, o, s, m, v, rfl, hp, S, hv, fun H' sm => ?_⟩
    walk_at "rd"
    have b1 := fig_bd S hv
    have b2 := S.s0
    have b3 := S.s1
    refine ⟨mulW (by omega) (by omega), ?_⟩
    walk_at "rd"
    exact q H' sm
end
end HT
namespace HT
open PySem L2
structure MirT (K : PySem.W.Frag) (w : World) (mg : Str → Option Value) (aR : Addr) : Prop where
  gR : mg "MIRRORED" = some (.ref aR)
  dR : ∀ m, Mode m → KDct K w aR m (.str (mir m))
def BdK (x : Int) : Prop := -2 ^ 720 < x ∧ x < 2 ^ 720
def spBelow : Sp := fun vs H Q _ => ∃ (m : Str) (s k : Int), vs = [.str m, .int s, .int k] ∧ Mode m ∧ Q (.int (below m s k)) H
def spSpan : Sp := fun vs H Q _ => ∃ (p : Addr) (o s : Int) (m : Str) (k : Int), vs = [.ref p, .int k] ∧ H p = some (sideV o s m) ∧ SideP o s m ∧ BdK k ∧
  ∀ (d : Addr) (H' : Hp), Same H H' → H d = none → H' d = some (.tup [.int (lowM o s m k), .int (highM o s m k)]) → Q (.ref d) H'
def spBack : Sp := fun vs H Q _ => ∃ (p : Addr) (o s : Int) (m : Str) (v : Int), vs = [.ref p, .int v] ∧ H p = some (sideV o s m) ∧ SideP o s m ∧ -2 ^ 700 < v ∧ v < 2 ^ 700 ∧
  ∀ H' : Hp, Same H H' → Q (.int (backM o s m v)) H'
theorem bdK_bd {x : Int} (h : BdK x) : Bd x := by
  unfold BdK at h
  unfold Bd
  omega
section
variable {P : Program} {w : World} {K : PySem.W.Frag} {mg : Str → Option Value} {base : Heap} {aM aR fV fC fB fS : Addr} {dV dC dB dS : FuncData}
theorem ok_below {f : Addr} {fd : FuncData} (F : Fun K "_below" "_below" s_below f fd) : FnOk P w K mg base CX0 1 f fd ["mode", "step", "figure"] spBelow := by
  refine F.ok sc_below (fun vs H Q E h => ?_) (fun cdv A outer s H vs Q E hr h => ?_)
  · obtain ⟨m, s, k, rfl, _⟩ := h
    rfl
  · obtain ⟨m, s, k, rfl, hm, q⟩ := h
    refine ⟨_, pss_cons (ps_if (pt_cmpR op_eq (pv 0) pe_str (nomark _)) (pss_one (ps_ret pe_int)) pss_nil)
      (pss_cons (ps_if (pt_cmpR op_eq (pv 0) pe_str (nomark _)) (pss_one (ps_ret (pe_op op_sub (pv 1) pe_int))) pss_nil)
      (pss_cons (ps_if (PW.pt (pw_or (pt_cmpR op_eq (pv 0) pe_str (nomark _)) (pw_or1 (PW.pt (pw_and (pt_cmpR op_eq (pv 0) pe_str (nomark _)) (pw_and1 (pt_cmpR op_eq (pe_op op_mod (pv 2) pe_int) pe_int (nomark _)))))))) (pss_one (ps_ret (pe_op op_fdiv (pv 1) pe_int))) pss_nil)
      (pss_one (ps_ret (pe_op op_fdiv (pe_op op_sub (pv 1) pe_int) pe_int))))), ?_⟩
    have d2 : ∀ (i : Int), CDiv i 2 := fun _ => ⟨by decide, by decide⟩
    unfold below at q
    walk_at "rd"
    refine ⟨rfl, ?_⟩
    walk_at "rd"
    refine ite2 (fun h => ?_) (fun h1 => ?_)
    · rw [if_pos (str_t h)] at q
      walk_at "rd"
      exact q
    rw [if_neg (str_f h1)] at q
    walk_at "rd"
    refine ⟨rfl, ?_⟩
    walk_at "rd"
    refine ite2 (fun h => ?_) (fun h2 => ?_)
    · rw [if_pos (str_t h)] at q
      walk_at "rd"
      exact q
    rw [if_neg (str_f h2)] at q
    walk_at "rd"
    refine ⟨rfl, ?_⟩
    walk_at "rd"
    refine ite2 (fun h => ?_) (fun h3 => ?_)
    · rw [if_pos (.inl (str_t h))] at q
      walk_at "rd"
      refine ⟨d2 _, ?_⟩
      walk_at "rd"
      exact q
    walk_at "rd"
    refine ⟨rfl, ?_⟩
    walk_at "rd"
    refine ite2 (fun h => ?_) (fun h4 => ?_)
    · walk_at "rd"
      refine ⟨(by show (0 : Int) < 2; decide), ?_⟩
      walk_at "rd"
      refine ⟨rfl, ?_⟩
      walk_at "rd"
      refine ite2 (fun g => ?_) (fun g => ?_)
      · rw [if_pos (.inr ⟨str_t h, int_t g⟩)] at q
        walk_at "rd"
        refine ⟨d2 _, ?_⟩
        walk_at "rd"
        exact q
      · rw [if_neg (by rintro (z | ⟨_, z⟩); exact str_f h3 z; exact int_f g z)] at q
        walk_at "rd"
        refine ⟨d2 _, ?_⟩
        walk_at "rd"
        exact q
    · rw [if_neg (by rintro (z | ⟨z, _⟩); exact str_f h3 z; exact str_f h4 z)] at q
      walk_at "rd"
      refine ⟨d2 _, ?_⟩
      walk_at "rd"
      exact q
theorem ok_uspan {f : Addr} {fd : FuncData} (F : Fun K "_span" "_span" s_uspan f fd) (R : MirT K w mg aR)
    (B : Cal P w K mg base "_below" 1 ["mode", "step", "figure"] spBelow fB dB) : FnOk P w K mg base CX0 2 f fd ["side", "figure"] spSpan := by
  refine F.ok sc_uspan (fun vs H Q E h => ?_) (fun cdv A outer s H vs Q E hr h => ?_)
  · obtain ⟨p, o, s, m, k, rfl, _⟩ := h
    rfl
  · obtain ⟨p, o, s, m, k, rfl, hp, S, hk, q⟩ := h
    have nd := sc_uspan.nd
    refine ⟨_, pss_cons (ps_asg (pv 0) (pg_tup (by rfl) (pgs_cons (pg_name (i := 2) nd rfl (Or.inl rfl)) (pgs_cons (pg_name (i := 3) nd rfl (Or.inl rfl)) (pgs_cons (pg_name (i := 4) nd rfl (Or.inl rfl)) pgs_nil)))))
      (pss_cons (ps_set (i := 5) nd rfl (Or.inl rfl) (pe_op op_add (pv 2) (pe_op op_mulW (pv 3) (pv 1))))
      (pss_one (ps_ret (pe_tup (pa_cons (pe_op op_sub (pv 5) (pcl B hr (by decide) (by rfl) (pa_cons (pv 4) (pa_cons (pv 3) (pa_cons (pv 1) pa_nil)))))
        (pa_cons (pe_op op_add (pv 5) (pcl B hr (by decide) (by rfl) (pa_cons (pe_ix ix_kdict (pe_glob (v := .ref aR) (by rfl) R.gR rfl) (pv 4) (fun _ _ => rfl)) (pa_cons (pv 3) (pa_cons (pv 1) pa_nil))))) pa_nil)))))), ?_⟩
    walk_at "rd"
    refine ⟨p, _, rfl, SqT.of hp, rfl, _, _, rfl, _, _, rfl, _, _, rfl, rfl, ?_⟩
    have s0 := S.s0
    have s1 := S.s1
    have hk' := hk
    unfold BdK at hk'
    walk_at "rd"
    refine ⟨mulW (by omega) (by omega), ?_⟩
    walk_at "rd"
    refine ⟨m, s, k, rfl, S.md, ?_⟩
    walk_at "rd"
    refine ⟨aR, m, _, rfl, rfl, R.dR m S.md, ?_⟩
    walk_at "rd"
    refine ⟨mir m, s, k, rfl, mir_mode S.md, ?_⟩
    walk_at "rd"
    refine ⟨(by show 2 ≤ sizeLine; decide), fun d nd' => ?_⟩
    exact q d _ (fun b u z => (upd_ne (ne_of_none z nd')).trans z) nd' upd_same
theorem ok_span {f : Addr} {fd : FuncData} (F : Fun K "span" "span" s_span f fd) (C : Cal P w K mg base "check_side" 3 ["side"] spCheckSide fC dC) (V' : Cal P w K mg base "check_value" 2 ["value"] spCheckValue fV dV)
    (G : Cal P w K mg base "_span" 2 ["side", "figure"] spSpan fS dS) : FnOk P w K mg base CX0 4 f fd ["side", "figure"] spSpan := by
  refine F.ok sc_span (fun vs H Q E h => ?_) (fun cdv A outer s H vs Q E hr h => ?_)
  · obtain ⟨p, o, s, m, v, rfl, _⟩ := h
    rfl
  · obtain ⟨p, o, s, m, v, rfl, hp, S, q⟩ := h
    refine ⟨_, pss_cons (ps_expr (pcl C hr (by decide) (by rfl) (pa_cons (pv 0) pa_nil)))
      (pss_cons (ps_expr (pcl V' hr (by decide) (by rfl) (pa_cons (pv 1) pa_nil)))
      (pss_one (ps_ret (pcl G hr (by decide) (by rfl) (pa_cons (pv 0) (pa_cons (pv 1) pa_nil)))))), ?_⟩
    walk_at "rd"
    refine ⟨p, o, s, m, rfl, hp, S, ?_⟩
    walk_at "rd"
    exact ⟨p, o, s, m, v, rfl, hp, S, q⟩
end
end HT
namespace HT
open PySem L2
/-! ### mirrors and forms -/
theorem mir_mir {m : Str} (h : Mode m) : mir (mir m) = m := by
  rcases h with e | e | e | e | e <;> subst e
  · rw [mir_d, mir_u]
  · rw [mir_u, mir_d]
  · rw [mir_hd, mir_hu]
  · rw [mir_hu, mir_hd]
  · rw [mir_he, mir_he]
theorem below_neg {m : Str} {s : Int} (k : Int) (h : Mode m) : below m s (-k) = below m s k := by
  rcases h with e | e | e | e | e <;> subst e
  · rw [be_d, be_d]
  · rw [be_u, be_u]
  · rw [be_hd, be_hd]
  · rw [be_hu, be_hu]
  · rw [be_he, be_he]; split <;> split <;> omega
theorem due_mirror {o s : Int} {m : Str} {v : Int} (h : Mode m) (hs : 1 ≤ s) : dueM (-o) s (mir m) (-v) = -dueM o s m v := by
  have f := (fig_iff (o := o) (v := v) (k := figM o s m v) h hs).mp rfl
  generalize figM o s m v = k at f
  have e : figM o s m v = k := (fig_iff h hs).mpr f
  have e2 : figM (-o) s (mir m) (-v) = -k := by
    refine (fig_iff (mir_mode h) hs).mpr ?_
    unfold lowM highM at f ⊢
    rw [mir_mir h, below_neg k h, below_neg k (mir_mode h), Int.mul_neg]
    omega
  unfold dueM
  rw [e, e2, Int.mul_neg]
  omega
def firstM (s : Int) (m : Str) : Str := if s = 1 then "down" else if s = 2 ∧ m = "half_down" then "down" else if s = 2 ∧ m = "half_up" then "up" else if s % 2 = 1 ∧ (m = "half_up" ∨ m = "half_even") then "half_down" else m
def formO (o s : Int) (f : Str) : Int := if f = "half_even" then o % (2 * s) else o % s
def ordM (m : Str) : Nat := if m = "down" then 0 else if m = "up" then 1 else if m = "half_down" then 2 else if m = "half_up" then 3 else 4
theorem ord_d : ordM "down" = 0 := by unfold ordM; rw [if_pos rfl]
theorem ord_u : ordM "up" = 1 := by unfold ordM; rw [if_neg d_u, if_pos rfl]
theorem ord_hd : ordM "half_down" = 2 := by unfold ordM; rw [if_neg hd_d, if_neg hd_u, if_pos rfl]
theorem ord_hu : ordM "half_up" = 3 := by unfold ordM; rw [if_neg hu_d, if_neg hu_u, if_neg hu_hd, if_pos rfl]
theorem ord_he : ordM "half_even" = 4 := by unfold ordM; rw [if_neg he_d, if_neg he_u, if_neg he_hd, if_neg he_hu]
theorem u_hu : ¬ (("up" : Str) = "half_up") := by decide +kernel
theorem u_he : ¬ (("up" : Str) = "half_even") := by decide +kernel
theorem dn_hd : ¬ (("down" : Str) = "half_down") := by decide +kernel
theorem dn_hu : ¬ (("down" : Str) = "half_up") := by decide +kernel
theorem dn_he : ¬ (("down" : Str) = "half_even") := by decide +kernel
theorem dn_u : ¬ (("down" : Str) = "up") := by decide +kernel
/-- the first modes, mode by mode -/
theorem fi_one (m : Str) : firstM 1 m = "down" := by unfold firstM; rw [if_pos rfl]
theorem fi_d (s : Int) : firstM s "down" = "down" := by
  unfold firstM
  by_cases h : s = 1
  · rw [if_pos h]
  · rw [if_neg h, if_neg (fun z => dn_hd z.2), if_neg (fun z => dn_hu z.2), if_neg (fun z => z.2.elim dn_hu dn_he)]
theorem fi_u {s : Int} (h : s ≠ 1) : firstM s "up" = "up" := by
  unfold firstM
  rw [if_neg h, if_neg (fun z => u_hd z.2), if_neg (fun z => u_hu z.2), if_neg (fun z => z.2.elim u_hu u_he)]
theorem fi_hd2 : firstM 2 "half_down" = "down" := by unfold firstM; rw [if_neg (by decide), if_pos ⟨rfl, rfl⟩]
theorem fi_hd {s : Int} (h : s ≠ 1) (h2 : s ≠ 2) : firstM s "half_down" = "half_down" := by
  unfold firstM
  rw [if_neg h, if_neg (fun z => h2 z.1), if_neg (fun z => h2 z.1), if_neg (fun z => z.2.elim hd_hu hd_e)]
theorem fi_hu2 : firstM 2 "half_up" = "up" := by unfold firstM; rw [if_neg (by decide), if_neg (fun z => hu_hd z.2), if_pos ⟨rfl, rfl⟩]
theorem fi_huO {s : Int} (h : s ≠ 1) (h2 : s % 2 = 1) : firstM s "half_up" = "half_down" := by
  unfold firstM
  rw [if_neg h, if_neg (fun z => hu_hd z.2), if_neg (fun z => by have := z.1; omega), if_pos ⟨h2, .inl rfl⟩]
theorem fi_huE {s : Int} (h : s ≠ 2) (h2 : s % 2 = 0) : firstM s "half_up" = "half_up" := by
  unfold firstM
  rw [if_neg (by omega), if_neg (fun z => hu_hd z.2), if_neg (fun z => h z.1), if_neg (fun z => by have := z.1; omega)]
theorem fi_heO {s : Int} (h : s ≠ 1) (h2 : s % 2 = 1) : firstM s "half_even" = "half_down" := by
  unfold firstM
  rw [if_neg h, if_neg (fun z => he_hd z.2), if_neg (fun z => he_hu z.2), if_pos ⟨h2, .inr rfl⟩]
theorem fi_heE {s : Int} (h2 : s % 2 = 0) : firstM s "half_even" = "half_even" := by
  unfold firstM
  rw [if_neg (by omega), if_neg (fun z => he_hd z.2), if_neg (fun z => he_hu z.2), if_neg (fun z => by have := z.1; omega)]
/-- what is known of the first mode -/
structure FirstP (s : Int) (m : Str) : Prop where
  md : Mode (firstM s m)
  id : firstM s (firstM s m) = firstM s m
  od : ordM (firstM s m) ≤ ordM m
  go : ∀ q r, 0 ≤ r → r < s → goesUp (firstM s m) s q r = goesUp m s q r
  ev : firstM s m = "half_even" → s % 2 = 0
theorem first_ok {s : Int} {m : Str} (h : Mode m) (hs : 1 ≤ s) : FirstP s m := by
  have D : Mode "down" := .inl rfl
  have U : Mode "up" := .inr (.inl rfl)
  have HD : Mode "half_down" := .inr (.inr (.inl rfl))
  by_cases s1 : s = 1
  · subst s1
    refine ⟨by rw [fi_one]; exact D, by rw [fi_one, fi_one], by rw [fi_one, ord_d]; omega, fun q r r0 r1 => ?_, by rw [fi_one]; exact fun z => (dn_he z).elim⟩
    have : r = 0 := by omega
    subst this
    rw [fi_one, go_zero D (by decide), go_zero h (by decide)]
  rcases h with e | e | e | e | e <;> subst e
  · exact ⟨by rw [fi_d]; exact D, by rw [fi_d, fi_d], by rw [fi_d]; omega, fun q r _ _ => by rw [fi_d], by rw [fi_d]; exact fun z => (dn_he z).elim⟩
  · exact ⟨by rw [fi_u s1]; exact U, by rw [fi_u s1, fi_u s1], by rw [fi_u s1]; omega, fun q r _ _ => by rw [fi_u s1], by rw [fi_u s1]; exact fun z => (u_he z).elim⟩
  · by_cases s2 : s = 2
    · subst s2
      refine ⟨by rw [fi_hd2]; exact D, by rw [fi_hd2, fi_d], by rw [fi_hd2, ord_d]; omega, fun q r r0 r1 => ?_, by rw [fi_hd2]; exact fun z => (dn_he z).elim⟩
      rw [fi_hd2, go_down, go_hd, decide_eq_false (by omega)]
    · exact ⟨by rw [fi_hd s1 s2]; exact HD, by rw [fi_hd s1 s2, fi_hd s1 s2], by rw [fi_hd s1 s2]; omega, fun q r _ _ => by rw [fi_hd s1 s2], by rw [fi_hd s1 s2]; exact fun z => (hd_e z).elim⟩
  · by_cases s2 : s = 2
    · subst s2
      refine ⟨by rw [fi_hu2]; exact U, by rw [fi_hu2, fi_u s1], by rw [fi_hu2, ord_u, ord_hu]; omega, fun q r r0 r1 => ?_, by rw [fi_hu2]; exact fun z => (u_he z).elim⟩
      rw [fi_hu2, go_up, go_hu]
      exact decide_eq_decide.mpr (by omega)
    · by_cases od : s % 2 = 1
      · refine ⟨by rw [fi_huO s1 od]; exact HD, by rw [fi_huO s1 od, fi_hd s1 s2], by rw [fi_huO s1 od, ord_hd, ord_hu]; omega, fun q r r0 r1 => ?_, by rw [fi_huO s1 od]; exact fun z => (hd_e z).elim⟩
        rw [fi_huO s1 od, go_hd, go_hu]
        exact decide_eq_decide.mpr (by omega)
      · have ev : s % 2 = 0 := by omega
        exact ⟨by rw [fi_huE s2 ev]; exact .inr (.inr (.inr (.inl rfl))), by rw [fi_huE s2 ev, fi_huE s2 ev], by rw [fi_huE s2 ev]; omega, fun q r _ _ => by rw [fi_huE s2 ev], by rw [fi_huE s2 ev]; exact fun z => (hu_e z).elim⟩
  · by_cases od : s % 2 = 1
    · refine ⟨by rw [fi_heO s1 od]; exact HD, by rw [fi_heO s1 od, fi_hd s1 (by omega)], by rw [fi_heO s1 od, ord_hd, ord_he]; omega, fun q r r0 r1 => ?_, by rw [fi_heO s1 od]; exact fun z => (hd_e z).elim⟩
      rw [fi_heO s1 od, go_hd, go_he, decide_eq_false (show ¬ 2 * r = s by omega), Bool.false_and, Bool.or_false]
    · have ev : s % 2 = 0 := by omega
      exact ⟨by rw [fi_heE ev]; exact .inr (.inr (.inr (.inr rfl))), by rw [fi_heE ev, fi_heE ev], by rw [fi_heE ev]; omega, fun q r _ _ => by rw [fi_heE ev], fun _ => ev⟩
theorem go_shift {m : Str} {s q r j : Int} (h : Mode m) (hj : m ≠ "half_even" ∨ j % 2 = 0) : goesUp m s (q + j) r = goesUp m s q r := by
  rcases h with e | e | e | e | e <;> subst e
  · rw [go_down, go_down]
  · rw [go_up, go_up]
  · rw [go_hd, go_hd]
  · rw [go_hu, go_hu]
  · have z : j % 2 = 0 := hj.resolve_left (fun z => z rfl)
    rw [go_he, go_he, show (q + j) % 2 = q % 2 by omega]
/-- an offset moved by whole steps, by two of them for the even -/
theorem due_shift {o s j : Int} {m : Str} {v : Int} (h : Mode m) (hs : 1 ≤ s) (hj : m ≠ "half_even" ∨ j % 2 = 0) : dueM (o + s * j) s m v = dueM o s m v := by
  have F := fig_of (o := o + s * j) (m := m) (v := v) hs
  generalize (v - (o + s * j)) / s = q at F
  generalize (v - (o + s * j)) % s = r at F
  generalize hk : figM (o + s * j) s m v = k at F
  obtain ⟨eq, r0, r1, wh⟩ := F
  have e : figM o s m v = k + j := by
    refine fig_uniq (q := q + j) (r := r) hs ⟨by rw [Int.mul_add]; omega, r0, r1, ?_⟩
    rw [go_shift h hj]
    rcases wh with ⟨g, e⟩ | ⟨g, e⟩
    · exact .inl ⟨g, by omega⟩
    · exact .inr ⟨g, by omega⟩
  unfold dueM
  rw [e, hk, Int.mul_add]
  omega
theorem due_go {o s : Int} {m m' : Str} {v : Int} (hs : 1 ≤ s) (h : ∀ q r, 0 ≤ r → r < s → goesUp m s q r = goesUp m' s q r) : dueM o s m v = dueM o s m' v := by
  unfold dueM figM
  rw [h _ _ (Int.emod_nonneg _ (by omega)) (Int.emod_lt_of_pos _ (by omega))]
theorem due_form {o s : Int} {m : Str} (v : Int) (h : Mode m) (hs : 1 ≤ s) : dueM (formO o s (firstM s m)) s (firstM s m) v = dueM o s m v := by
  have P := first_ok h hs
  rw [← due_go hs P.go]
  unfold formO
  by_cases e : firstM s m = "half_even"
  · rw [if_pos e]
    have a := Int.mul_ediv_add_emod o (2 * s)
    have b : o % (2 * s) = o + s * (-(2 * (o / (2 * s)))) := by
      rw [Int.mul_neg, ← Int.mul_assoc, Int.mul_comm s 2]
      omega
    rw [b]
    exact due_shift P.md hs (.inr (by omega))
  · rw [if_neg e]
    have a := Int.mul_ediv_add_emod o s
    have b : o % s = o + s * (-(o / s)) := by
      rw [Int.mul_neg]
      omega
    rw [b]
    exact due_shift P.md hs (.inl e)
theorem form_bd {o s : Int} {f : Str} (hs : 1 ≤ s) : 0 ≤ formO o s f ∧ formO o s f < 2 * s ∧ (f ≠ "half_even" → formO o s f < s) := by
  unfold formO
  by_cases e : f = "half_even"
  · rw [if_pos e]
    exact ⟨Int.emod_nonneg _ (by omega), Int.emod_lt_of_pos _ (by omega), fun z => absurd e z⟩
  · rw [if_neg e]
    have := Int.emod_lt_of_pos o (show 0 < s by omega)
    exact ⟨Int.emod_nonneg _ (by omega), by omega, fun _ => this⟩
theorem form_idem {o s : Int} {f : Str} : formO (formO o s f) s f = formO o s f := by
  unfold formO
  by_cases e : f = "half_even"
  · rw [if_pos e, if_pos e, Int.emod_emod_of_dvd _ (Int.dvd_refl _)]
  · rw [if_neg e, if_neg e, Int.emod_emod_of_dvd _ (Int.dvd_refl _)]
/-- a value told by its figure and rest -/
theorem due_at {o s q r : Int} {m : Str} (hs : 1 ≤ s) (r0 : 0 ≤ r) (r1 : r < s) : dueM o s m (o + s * q + r) = o + s * q + (if goesUp m s q r = true then s else 0) := by
  unfold dueM
  by_cases g : goesUp m s q r = true
  · rw [fig_uniq (q := q) (r := r) (k := q + 1) hs ⟨by omega, r0, r1, .inl ⟨g, rfl⟩⟩, if_pos g, Int.mul_add]
    omega
  · have g' : goesUp m s q r = false := by cases h : goesUp m s q r <;> simp_all
    rw [fig_uniq (q := q) (r := r) (k := q) hs ⟨by omega, r0, r1, .inr ⟨g', rfl⟩⟩, if_neg g]
    omega
end HT
namespace HT
open PySem L2
def spMirror : Sp := fun vs H Q _ => ∃ (p : Addr) (o s : Int) (m : Str), vs = [.ref p] ∧ H p = some (sideV o s m) ∧ SideP o s m ∧
  ∀ (d : Addr) (H' : Hp), Same H H' → H d = none → H' d = some (sideV (-o) s (mir m)) → Q (.ref d) H'
def spFirst : Sp := fun vs H Q _ => ∃ (s : Int) (m : Str), vs = [.int s, .str m] ∧ 1 ≤ s ∧ Mode m ∧ ∀ H' : Hp, Same H H' → Q (.str (firstM s m)) H'
def spForm : Sp := fun vs H Q _ => ∃ (p : Addr) (o s : Int) (m : Str), vs = [.ref p] ∧ H p = some (sideV o s m) ∧ SideP o s m ∧
  ∀ (d : Addr) (H' : Hp), Same H H' → H d = none → H' d = some (sideV (formO o s (firstM s m)) s (firstM s m)) → Q (.ref d) H'
theorem side_mir {o s : Int} {m : Str} (S : SideP o s m) : SideP (-o) s (mir m) := by
  obtain ⟨o0, o1, s0, s1, md⟩ := S
  exact ⟨by omega, by omega, s0, s1, mir_mode md⟩
theorem side_form {o s : Int} {m : Str} (S : SideP o s m) : SideP (formO o s (firstM s m)) s (firstM s m) := by
  obtain ⟨o0, o1, s0, s1, md⟩ := S
  obtain ⟨a, b, _⟩ := form_bd (o := o) (f := firstM s m) s0
  exact ⟨by omega, by omega, s0, s1, (first_ok md s0).md⟩
theorem in_two (m : Str) : inV (.str m) [V.str "half_up", .str "half_even"] = decide (m = "half_up" ∨ m = "half_even") := by
  show (eqV (V.str "half_up") (V.str m) || (eqV (V.str "half_even") (V.str m) || false)) = _
  have e : ∀ a b : Str, eqV (V.str a) (V.str b) = decide (a = b) := fun a b => by
    show (a == b) = decide (a = b)
    by_cases h : a = b
    · rw [decide_eq_true h, h, beq_self_eq_true]
    · rw [decide_eq_false h]
      exact beq_eq_false_iff_ne.mpr h
  rw [e, e, Bool.or_false]
  by_cases a : m = "half_up"
  · rw [decide_eq_true a.symm, decide_eq_true (Or.inl a)]
    rfl
  · by_cases b : m = "half_even"
    · rw [decide_eq_true b.symm, decide_eq_true (Or.inr b), Bool.or_true]
    · rw [decide_eq_false (fun z => a z.symm), decide_eq_false (fun z => b z.symm), decide_eq_false (fun z => z.elim a b)]
      rfl
section
variable {P : Program} {w : World} {K : PySem.W.Frag} {mg : Str → Option Value} {base : Heap} {aM aR fV fC fB fS : Addr} {dV dC dB dS : FuncData}
theorem ok_mirror {f : Addr} {fd : FuncData} (F : Fun K "mirror" "mirror" s_mirror f fd) (R : MirT K w mg aR) (C : Cal P w K mg base "check_side" 3 ["side"] spCheckSide fC dC) : FnOk P w K mg base CX0 4 f fd ["side"] spMirror := by
  refine F.ok sc_mirror (fun vs H Q E h => ?_) (fun cdv A outer s H vs Q E hr h => ?_)
  · obtain ⟨p, o, s, m, rfl, _⟩ := h
    rfl
  · obtain ⟨p, o, s, m, rfl, hp, S, q⟩ := h
    have nd := sc_mirror.nd
    refine ⟨_, pss_cons (ps_expr (pcl C hr (by decide) (by rfl) (pa_cons (pv 0) pa_nil)))
      (pss_cons (ps_asg (pv 0) (pg_tup (by rfl) (pgs_cons (pg_name (i := 1) nd rfl (Or.inl rfl)) (pgs_cons (pg_name (i := 2) nd rfl (Or.inl rfl)) (pgs_cons (pg_name (i := 3) nd rfl (Or.inl rfl)) pgs_nil)))))
      (pss_one (ps_ret (pe_tup (pa_cons (pe_un un_neg (pv 1)) (pa_cons (pv 2) (pa_cons (pe_ix ix_kdict (pe_glob (v := .ref aR) (by rfl) R.gR rfl) (pv 3) (fun _ _ => rfl)) pa_nil))))))), ?_⟩
    walk_at "rd"
    refine ⟨p, o, s, m, rfl, hp, S, ?_⟩
    walk_at "rd"
    refine ⟨p, _, rfl, SqT.of hp, rfl, _, _, rfl, _, _, rfl, _, _, rfl, rfl, ?_⟩
    walk_at "rd"
    refine ⟨aR, m, _, rfl, rfl, R.dR m S.md, ?_⟩
    refine ⟨(by show 3 ≤ sizeLine; decide), fun d nd' => ?_⟩
    exact q d _ (fun b u z => (upd_ne (ne_of_none z nd')).trans z) nd' upd_same
theorem ok_first {f : Addr} {fd : FuncData} (F : Fun K "_first_mode" "_first_mode" s_first_mode f fd) : FnOk P w K mg base CX0 1 f fd ["step", "mode"] spFirst := by
  refine F.ok sc_first_mode (fun vs H Q E h => ?_) (fun cdv A outer s H vs Q E hr h => ?_)
  · obtain ⟨s, m, rfl, _⟩ := h
    rfl
  · obtain ⟨s, m, rfl, s0, md, q⟩ := h
    refine ⟨_, pss_cons (ps_if (pt_cmpR op_eq (pv 0) pe_int (nomark _)) (pss_one (ps_ret pe_str)) pss_nil)
      (pss_cons (ps_if (PW.pt (pw_and (pt_cmpR op_eq (pv 0) pe_int (nomark _)) (pw_and1 (pt_cmpR op_eq (pv 1) pe_str (nomark _))))) (pss_one (ps_ret pe_str)) pss_nil)
      (pss_cons (ps_if (PW.pt (pw_and (pt_cmpR op_eq (pv 0) pe_int (nomark _)) (pw_and1 (pt_cmpR op_eq (pv 1) pe_str (nomark _))))) (pss_one (ps_ret pe_str)) pss_nil)
      (pss_cons (ps_if (PW.pt (pw_and (pt_cmpR op_eq (pe_op op_mod (pv 0) pe_int) pe_int (nomark _)) (pw_and1 (pt_cmpR op_in_seq (pv 1) (pe_tup (pa_cons pe_str (pa_cons pe_str pa_nil))) (by rfl))))) (pss_one (ps_ret pe_str)) pss_nil)
      (pss_one (ps_ret (pv 1)))))), ?_⟩
    have fin : ∀ (x : Str) (H' : Hp), firstM s m = x → Same H H' → Q (.str x) H' := fun x H' e sm => by
      rw [← e]
      exact q H' sm
    walk_at "rd"
    refine ⟨rfl, ?_⟩
    walk_at "rd"
    refine ite2 (fun h => ?_) (fun h1 => ?_)
    · walk_at "rd"
      exact fin "down" H (by rw [int_t h]; exact fi_one m) (Same.refl H)
    have n1 := int_f h1
    walk_at "rd"
    refine ⟨rfl, ?_⟩
    walk_at "rd"
    refine ite2 (fun h => ?_) (fun h2 => ?_)
    · have e2 := int_t h
      walk_at "rd"
      refine ⟨rfl, ?_⟩
      walk_at "rd"
      refine ite2 (fun g => ?_) (fun g1 => ?_)
      · walk_at "rd"
        exact fin "down" H (by rw [str_t g, e2]; exact fi_hd2) (Same.refl H)
      walk_at "rd"
      refine ⟨rfl, ?_⟩
      walk_at "rd"
      refine ite2 (fun _ => ?_) (fun z => absurd h z)
      walk_at "rd"
      refine ⟨rfl, ?_⟩
      walk_at "rd"
      refine ite2 (fun g => ?_) (fun g2 => ?_)
      · walk_at "rd"
        exact fin "up" H (by rw [str_t g, e2]; exact fi_hu2) (Same.refl H)
      walk_at "rd"
      refine ⟨(by show (0 : Int) < 2; decide), ?_⟩
      walk_at "rd"
      refine ⟨rfl, ?_⟩
      walk_at "rd"
      refine ite2 (fun g => absurd (int_t g) (by omega)) (fun _ => ?_)
      walk_at "rd"
      refine fin m H ?_ (Same.refl H)
      unfold firstM
      rw [if_neg n1, if_neg (fun z => str_f g1 z.2), if_neg (fun z => str_f g2 z.2), if_neg (fun z => by have := z.1; omega)]
    · have n2 := int_f h2
      walk_at "rd"
      refine ⟨rfl, ?_⟩
      walk_at "rd"
      refine ite2 (fun z => absurd z h2) (fun _ => ?_)
      walk_at "rd"
      refine ⟨(by show (0 : Int) < 2; decide), ?_⟩
      walk_at "rd"
      refine ⟨rfl, ?_⟩
      walk_at "rd"
      refine ite2 (fun g => ?_) (fun g => ?_)
      · have od := int_t g
        walk_at "rd"
        refine ⟨(by show 2 ≤ sizeLine; decide), fun d nd' => ?_⟩
        refine ⟨d, _, rfl, .inr (SqT.of upd_same), rfl, by decide, ?_⟩
        walk_at "rd"
        have sm : ∀ o, Same H (upd H d o) := fun o b u z => (upd_ne (ne_of_none z nd')).trans z
        refine ite2 (fun k => ?_) (fun k => ?_)
        · walk_at "rd"
          have k' : inV (.str m) [V.str "half_up", .str "half_even"] = true := k
          rw [in_two] at k'
          refine fin "half_down" _ ?_ (sm _)
          unfold firstM
          rw [if_neg n1, if_neg (fun z => n2 z.1), if_neg (fun z => n2 z.1), if_pos ⟨od, of_decide_eq_true k'⟩]
        · walk_at "rd"
          have k' : ¬ inV (.str m) [V.str "half_up", .str "half_even"] = true := k
          rw [in_two] at k'
          refine fin m _ ?_ (sm _)
          unfold firstM
          rw [if_neg n1, if_neg (fun z => n2 z.1), if_neg (fun z => n2 z.1), if_neg (fun z => k' (decide_eq_true z.2))]
      · have od := int_f g
        walk_at "rd"
        refine fin m H ?_ (Same.refl H)
        unfold firstM
        rw [if_neg n1, if_neg (fun z => n2 z.1), if_neg (fun z => n2 z.1), if_neg (fun z => od z.1)]
theorem ok_form {f : Addr} {fd : FuncData} (F : Fun K "form" "form" s_form f fd) (C : Cal P w K mg base "check_side" 3 ["side"] spCheckSide fC dC) (M : Cal P w K mg base "_first_mode" 1 ["step", "mode"] spFirst fB dB) : FnOk P w K mg base CX0 4 f fd ["side"] spForm := by
  refine F.ok sc_form (fun vs H Q E h => ?_) (fun cdv A outer s H vs Q E hr h => ?_)
  · obtain ⟨p, o, s, m, rfl, _⟩ := h
    rfl
  · obtain ⟨p, o, s, m, rfl, hp, S, q⟩ := h
    have nd := sc_form.nd
    refine ⟨_, pss_cons (ps_expr (pcl C hr (by decide) (by rfl) (pa_cons (pv 0) pa_nil)))
      (pss_cons (ps_asg (pv 0) (pg_tup (by rfl) (pgs_cons (pg_name (i := 1) nd rfl (Or.inl rfl)) (pgs_cons (pg_name (i := 2) nd rfl (Or.inl rfl)) (pgs_cons (pg_name (i := 3) nd rfl (Or.inl rfl)) pgs_nil)))))
      (pss_cons (ps_set (i := 4) nd rfl (Or.inl rfl) (pcl M hr (by decide) (by rfl) (pa_cons (pv 2) (pa_cons (pv 3) pa_nil))))
      (pss_cons (ps_if (pt_cmpR op_eq (pv 4) pe_str (nomark _)) (pss_one (ps_ret (pe_tup (pa_cons (pe_op op_mod (pv 1) (pe_op op_mul pe_int (pv 2))) (pa_cons (pv 2) (pa_cons (pv 4) pa_nil)))))) pss_nil)
      (pss_one (ps_ret (pe_tup (pa_cons (pe_op op_mod (pv 1) (pv 2)) (pa_cons (pv 2) (pa_cons (pv 4) pa_nil))))))))), ?_⟩
    have s0 := S.s0
    walk_at "rd"
    refine ⟨p, o, s, m, rfl, hp, S, ?_⟩
    walk_at "rd"
    refine ⟨p, _, rfl, SqT.of hp, rfl, _, _, rfl, _, _, rfl, _, _, rfl, rfl, ?_⟩
    walk_at "rd"
    refine ⟨s, m, rfl, s0, S.md, fun H1 m1 => ?_⟩
    walk_at "rd"
    refine ⟨rfl, ?_⟩
    walk_at "rd"
    refine ite2 (fun h => ?_) (fun h => ?_)
    · have e := str_t h
      walk_at "rd"
      refine ⟨.inl ⟨by decide, by decide⟩, ?_⟩
      walk_at "rd"
      refine ⟨(by show (0 : Int) < 2 * s; omega), ?_⟩
      walk_at "rd"
      refine ⟨(by show 3 ≤ sizeLine; decide), fun d nd' => ?_⟩
      have e2 : formO o s (firstM s m) = o % (2 * s) := by unfold formO; rw [if_pos e]
      refine q d _ (fun b u z => (upd_ne (ne_of_none (m1 _ _ z) nd')).trans (m1 _ _ z)) (m1.free nd') ?_
      rw [e2]
      exact upd_same
    · have e := str_f h
      walk_at "rd"
      refine ⟨(by omega), ?_⟩
      walk_at "rd"
      refine ⟨(by show 3 ≤ sizeLine; decide), fun d nd' => ?_⟩
      have e2 : formO o s (firstM s m) = o % s := by unfold formO; rw [if_neg e]
      refine q d _ (fun b u z => (upd_ne (ne_of_none (m1 _ _ z) nd')).trans (m1 _ _ z)) (m1.free nd') ?_
      rw [e2]
      exact upd_same
end
end HT
namespace HT
open PySem L2
section
variable {P : Program} {w : World} {K : PySem.W.Frag} {mg : Str → Option Value} {base : Heap} {aM fD fP fG fL fA fF fH fS : Addr} {dD dP dG dL dA dF dH dS : FuncData}
theorem ok_L_figure {f : Addr} {fd : FuncData} (F : Fun K "_law_figure" "_law_figure" s_L_figure f fd) (B : Blt mg) : FnOk P w K mg base CX0 1 f fd ["_law_side", "_law_value"] spFig := by
  refine F.ok sc_L_figure (fun vs H Q E h => ?_) (fun cdv A outer s H vs Q E hr h => ?_)
  · obtain ⟨p, o, s, m, v, rfl, _⟩ := h
    rfl
  · obtain ⟨p, o, s, m, v, rfl, hp, S, hv, q⟩ := h
    have nd := sc_L_figure.nd
    have q' : Q (.int (figM o s m v)) H := q H (Same.refl H)
    have Fg := fig_of (o := o) (m := m) (v := v) S.s0
    refine ⟨_, pss_cons (ps_asg (pv 0) (pg_tup (by rfl) (pgs_cons (pg_name (i := 2) nd rfl (Or.inl rfl)) (pgs_cons (pg_name (i := 3) nd rfl (Or.inl rfl)) (pgs_cons (pg_name (i := 4) nd rfl (Or.inl rfl)) pgs_nil)))))
      (pss_cons (ps_set (i := 5) nd rfl (Or.inl rfl) (pe_op op_fdivW (pe_callTy call_int1 (by rfl) B.int (by decide +kernel) (pa_cons (pe_op op_sub (pv 1) (pv 2)) pa_nil)) (pv 3)))
      (pss_cons (ps_set (i := 6) nd rfl (Or.inl rfl) (pe_op op_sub (pe_op op_sub (pv 1) (pv 2)) (pe_op op_mulW (pv 3) (pv 5))))
      (pss_cons (ps_if (PW.pt (pw_or (pt_cmpR op_eq (pv 4) pe_str (nomark _)) (pw_or1 (pt_cmpR op_eq (pv 6) pe_int (nomark _))))) (pss_one (ps_ret (pv 5))) pss_nil)
      (pss_cons (ps_if (PW.pt (pw_or (pt_cmpR op_eq (pv 4) pe_str (nomark _)) (pw_or1 (pt_cmpR op_gt (pe_op op_mul pe_int (pv 6)) (pv 3) (nomark _))))) (pss_one (ps_ret (pe_op op_add (pv 5) pe_int))) pss_nil)
      (pss_cons (ps_if (PW.pt (pw_or (pt_cmpR op_lt (pe_op op_mul pe_int (pv 6)) (pv 3) (nomark _)) (pw_or1 (pt_cmpR op_eq (pv 4) pe_str (nomark _))))) (pss_one (ps_ret (pv 5))) pss_nil)
      (pss_one (ps_ret (pe_op op_add (pv 5) (pe_callTy call_int1 (by rfl) B.int (by decide +kernel) (pa_cons (pe_or (pe_cmpR op_eq (pv 4) pe_str (nomark _)) (pe_one (pe_cmpR op_eq (pe_op op_mod (pv 5) pe_int) pe_int (nomark _)))) pa_nil)))))))))), ?_⟩
    have b0 := S.s0
    have b1 := S.s1
    have b2 := S.o0
    have b3 := S.o1
    have b4 := hv.1
    have b5 := hv.2
    have b6 := div_bd (x := v - o) (b := 2 ^ 1001) S.s0 (by omega) (by omega)
    have rr : v - o - s * ((v - o) / s) = (v - o) % s := by
      have := Fg.eq
      omega
    walk_at "rd"
    refine ⟨p, _, rfl, SqT.of hp, rfl, _, _, rfl, _, _, rfl, _, _, rfl, rfl, ?_⟩
    walk_at "rd"
    refine ⟨fdiv_ok _ (by omega) (lg_big (by omega) (by omega)), ?_⟩
    walk_at "rd"
    refine ⟨mulW (by omega) (by omega), ?_⟩
    walk_at "rd"
    refine ⟨rfl, ?_⟩
    walk_at "rd"
    obtain ⟨_, r0, r1, wh⟩ := Fg
    generalize figM o s m v = k at q' wh
    -- the three ways of a mode
    have fin0 : k = ((v - o) / s) → Q (.int ((v - o) / s)) H := fun e => by rw [← e]; exact q'
    have fin1 : k = ((v - o) / s) + 1 → Q (.int (((v - o) / s) + 1)) H := fun e => by rw [← e]; exact q'
    have low : goesUp m s ((v - o) / s) ((v - o) % s) = false → k = ((v - o) / s) := fun h => by
      rcases wh with ⟨g, _⟩ | ⟨_, e⟩
      · rw [h] at g; cases g
      · exact e
    have up : goesUp m s ((v - o) / s) ((v - o) % s) = true → k = ((v - o) / s) + 1 := fun h => by
      rcases wh with ⟨_, e⟩ | ⟨g, _⟩
      · exact e
      · rw [h] at g; cases g
    refine ite2 (fun h => ?_) (fun h1 => ?_)
    · walk_at "rd"
      refine fin0 (low ?_)
      rw [str_t h, go_down]
    walk_at "rd"
    refine ⟨rfl, ?_⟩
    walk_at "rd"
    refine ite2 (fun h => ?_) (fun h2 => ?_)
    · walk_at "rd"
      refine fin0 (low ?_)
      have e : ((v - o) % s) = 0 := by have := int_t h; omega
      rw [e]
      exact go_zero S.md S.s0
    have n1 := str_f h1
    have n2 : ¬ ((v - o) % s) = 0 := fun z => int_f h2 (by omega)
    walk_at "rd"
    refine ⟨rfl, ?_⟩
    walk_at "rd"
    refine ite2 (fun h => ?_) (fun h3 => ?_)
    · walk_at "rd"
      refine fin1 (up ?_)
      rw [str_t h, go_up]
      exact decide_eq_true (by omega)
    have n3 := str_f h3
    walk_at "rd"
    refine ⟨.inl ⟨by decide, by decide⟩, ?_⟩
    walk_at "rd"
    have hh : half m := by
      rcases S.md with e | e | e
      · exact absurd e n1
      · exact absurd e n3
      · exact e
    refine ite2 (fun h => ?_) (fun h4 => ?_)
    · walk_at "rd"
      have g : s < 2 * ((v - o) % s) := by have := of_decide_eq_true h; omega
      refine fin1 (up ?_)
      unfold goesUp
      rw [if_neg n1, if_neg n3, if_neg (by omega)]
      exact decide_eq_true g
    have n4 : ¬ s < 2 * ((v - o) % s) := fun z => h4 (decide_eq_true (by omega))
    walk_at "rd"
    refine ⟨.inl ⟨by decide, by decide⟩, ?_⟩
    walk_at "rd"
    refine ite2 (fun h => ?_) (fun h5 => ?_)
    · walk_at "rd"
      have g : 2 * ((v - o) % s) < s := by have := of_decide_eq_true h; omega
      refine fin0 (low ?_)
      unfold goesUp
      rw [if_neg n1, if_neg n3, if_neg (by omega)]
      exact decide_eq_false n4
    have n5 : 2 * ((v - o) % s) = s := by
      have : ¬ 2 * ((v - o) % s) < s := fun z => h5 (decide_eq_true (by omega))
      omega
    walk_at "rd"
    refine ⟨rfl, ?_⟩
    walk_at "rd"
    refine ite2 (fun h => ?_) (fun h6 => ?_)
    · walk_at "rd"
      refine fin0 (low ?_)
      rw [str_t h, go_hd]
      exact decide_eq_false n4
    have n6 := str_f h6
    have kk : k = ((v - o) / s) + (if m = "half_up" then 1 else if ((v - o) / s) % 2 = 1 then 1 else 0) := by
      rcases hh with e | e | e
      · exact absurd e n6
      · rw [if_pos e]
        refine up ?_
        rw [e, go_hu]
        exact decide_eq_true (by omega)
      · have e2 : goesUp m s ((v - o) / s) ((v - o) % s) = decide (((v - o) / s) % 2 = 1) := by
          rw [e, go_he, decide_eq_false n4, decide_eq_true n5]
          rfl
        rw [if_neg (by rw [e]; exact he_hu)]
        by_cases z : ((v - o) / s) % 2 = 1
        · rw [if_pos z]
          exact up (by rw [e2]; exact decide_eq_true z)
        · rw [if_neg z, Int.add_zero]
          exact low (by rw [e2]; exact decide_eq_false z)
    walk_at "rd"
    refine ⟨rfl, ?_⟩
    walk_at "rd"
    refine ite2 (fun h => ?_) (fun h7 => ?_)
    · refine .inr ⟨true, rfl, ?_⟩
      walk_at "rd"
      rw [if_pos (str_t h)] at kk
      exact fin1 kk
    · rw [if_neg (str_f h7)] at kk
      walk_at "rd"
      refine ⟨(by show (0 : Int) < 2; decide), ?_⟩
      walk_at "rd"
      refine ⟨rfl, .inr ⟨_, rfl, ?_⟩⟩
      walk_at "rd"
      show Q (.int (((v - o) / s) + if decide (V.int (((v - o) / s) % 2) = V.int 1) = true then 1 else 0)) H
      rw [dec_int]
      by_cases z : ((v - o) / s) % 2 = 1
      · rw [if_pos z] at kk
        rw [if_pos (decide_eq_true z)]
        exact fin1 kk
      · rw [if_neg z, Int.add_zero] at kk
        rw [if_neg (by rw [decide_eq_false z]; decide), Int.add_zero]
        exact fin0 kk
theorem ok_L_handed {f : Addr} {fd : FuncData} (F : Fun K "_law_handed" "_law_handed" s_L_handed f fd) (L : Cal P w K mg base "_law_figure" 1 ["_law_side", "_law_value"] spFig fL dL) : FnOk P w K mg base CX0 2 f fd ["_law_side", "_law_value"] spDue := by
  refine F.ok sc_L_handed (fun vs H Q E h => ?_) (fun cdv A outer s H vs Q E hr h => ?_)
  · obtain ⟨p, o, s, m, v, rfl, _⟩ := h
    rfl
  · obtain ⟨p, o, s, m, v, rfl, hp, S, hv, q⟩ := h
    refine ⟨_, pss_one (ps_ret (pe_op op_add (pe_ix ix_tup (pv 0) pe_int (fun _ _ => rfl)) (pe_op op_mulW (pe_ix ix_tup (pv 0) pe_int (fun _ _ => rfl)) (pcl L hr (by decide) (by rfl) (pa_cons (pv 0) (pa_cons (pv 1) pa_nil)))))), ?_⟩
    walk_at "rd"
    refine ⟨p, _, 0, _, rfl, rfl, SqT.of hp, rfl, ?_⟩
    walk_at "rd"
    refine ⟨p, _, 1, _, rfl, rfl, SqT.of hp, rfl, ?_⟩
    walk_at "rd"
    refine ⟨p, o, s, m, v, rfl, hp, S, hv, fun H' sm => ?_⟩
    walk_at "rd"
    have b1 := fig_bd S hv
    have b2 := S.s0
    have b3 := S.s1
    refine ⟨mulW (by omega) (by omega), ?_⟩
    walk_at "rd"
    exact q H' sm
end
end HT
namespace HT
open PySem L2
def spDiv : Sp := fun vs H Q _ => ∃ a b : Nat, vs = [.int (a : Int), .int (b : Int)] ∧ Q (.int ((Nat.gcd a b : Nat) : Int)) H
section
variable {P : Program} {w : World} {K : PySem.W.Frag} {mg : Str → Option Value} {base : Heap} {fW fF : Addr} {dW dF : FuncData}
theorem ok_div {f : Addr} {fd : FuncData} (F : Fun K "_law_divisor" "_law_divisor" s_L_divisor f fd) (B : Blt mg) : FnOk P w K mg base CX0 1 f fd ["_law_one", "_law_other"] spDiv := by
  refine F.ok sc_L_divisor (fun vs H Q E h => ?_) (fun cdv A outer s0 H vs Q E hr h => ?_)
  · obtain ⟨a, b, rfl, _⟩ := h
    rfl
  · obtain ⟨a, b, rfl, q⟩ := h
    have nd := sc_L_divisor.nd
    refine ⟨_, pss_cons (ps_while PassesOwn.never (pt_cmpR op_ne (pv 1) pe_int (nomark _)) (pss_one (ps_par (i := 0) (j := 1) rfl nd rfl rfl (by decide) rfl rfl (pa_cons (pv 1) (pa_cons (pe_op op_mod (pe_callTy call_int1 (by rfl) B.int (by decide +kernel) (pa_cons (pv 0) pa_nil)) (pv 1)) pa_nil)) (by rfl))))
      (pss_one (ps_ret (pv 0))), ?_⟩
    refine ⟨fun m σ H' => ∃ c d : Nat, m = d ∧ σ = [some (.int (c : Int)), some (.int (d : Int))] ∧ H' = H ∧ Nat.gcd c d = Nat.gcd a b, ⟨b, a, b, rfl, rfl, rfl, rfl⟩, ?_⟩
    rintro d σ H' ⟨c, _, rfl, rfl, rfl, hg⟩
    walk_at "rd"
    refine ⟨rfl, ?_⟩
    rw [dec_int]
    by_cases e : d = 0
    · subst e
      walk_at "rd"
      show Q (.int (c : Int)) H'
      rw [Nat.gcd_zero_right] at hg
      rw [hg]
      exact q
    · have e2 : (!decide ((d : Int) = 0)) = true := by
        rw [decide_eq_false (by omega)]
        rfl
      rw [e2]
      refine ⟨true, rfl, fun σ' H'' => ∃ c' d' : Nat, d' < d ∧ σ' = [some (V.int (c' : Int)), some (V.int (d' : Int))] ∧ H'' = H' ∧ Nat.gcd c' d' = Nat.gcd a b, fun σ' H'' ⟨c', d', l, e1, e2, e3⟩ => ⟨d', l, c', d', rfl, e1, e2, e3⟩, ?_⟩
      walk_at "rd"
      refine ⟨(by show (0 : Int) < (d : Int); omega), ?_⟩
      refine ⟨_, _, rfl, d, c % d, Nat.mod_lt _ (by omega), ?_, rfl, ?_⟩
      · rw [Int.natCast_emod]
        rfl
      · rw [← hg, Nat.gcd_comm c d, Nat.gcd_rec d c, Nat.gcd_comm]
end
end HT
namespace HT
open PySem L2
structure Sd where
  o : Int
  s : Int
  m : Str
/-- the list at l holds sides with these parts -/
structure SidesAt (H : Hp) (l : Addr) (xs : List V) (ss : List Sd) : Prop where
  hl : H l = some (.lst xs)
  len : xs.length = ss.length
  l1 : 1 ≤ ss.length
  l4 : ss.length ≤ 4
  at_ : ∀ (i : Nat) (d : Sd), ss[i]? = some d → ∃ p : Addr, xs[i]? = some (V.ref p) ∧ H p = some (sideV d.o d.s d.m) ∧ SideP d.o d.s d.m
theorem SidesAt.same {H H' : Hp} {l : Addr} {xs : List V} {ss : List Sd} (S : SidesAt H l xs ss) (e : Same H H') : SidesAt H' l xs ss :=
  ⟨e _ _ S.hl, S.len, S.l1, S.l4, fun i d h => let ⟨p, a, b, c⟩ := S.at_ i d h; ⟨p, a, e _ _ b, c⟩⟩
theorem SidesAt.oth {a c : Addr} {t : Nat} {H H' : Hp} {l : Addr} {xs : List V} {ss : List Sd} (S : SidesAt H l xs ss) (R : Src H a c t) (la : l ≠ a) (lc : l ≠ c) (e : Oth a c H H') : SidesAt H' l xs ss :=
  ⟨e _ _ S.hl la lc, S.len, S.l1, S.l4, fun i d h => let ⟨p, x, b, y⟩ := S.at_ i d h; let z := R.nt b; ⟨p, x, e _ _ b z.1 z.2, y⟩⟩
theorem SidesAt.item {H : Hp} {l : Addr} {xs : List V} {ss : List Sd} (S : SidesAt H l xs ss) {i : Nat} {y : V} (h : xs[i]? = some y) : ∃ d p, ss[i]? = some d ∧ y = .ref p ∧ H p = some (sideV d.o d.s d.m) ∧ SideP d.o d.s d.m := by
  have hi : i < ss.length := by have := (List.getElem?_eq_some_iff.mp h).1; rw [S.len] at this; exact this
  obtain ⟨p, e, hp, sp⟩ := S.at_ i ss[i] (List.getElem?_eq_getElem hi)
  rw [h] at e
  exact ⟨ss[i], p, List.getElem?_eq_getElem hi, Option.some.inj e, hp, sp⟩
/-- a side's period -/
def perM (s : Int) (m : Str) : Int := if m = "half_even" then 2 * s else s
theorem perM_bd {o s : Int} {m : Str} (S : SideP o s m) : 1 ≤ perM s m ∧ perM s m ≤ 2 * 10 ^ 30 := by
  have a := S.s0
  have b := S.s1
  unfold perM
  split <;> omega
def perN (d : Sd) : Nat := (perM d.s d.m).toNat
/-- the common period -/
def comN (ss : List Sd) : Nat := ss.foldl (fun n d => n.lcm (perN d)) 1
theorem com_snoc {ss : List Sd} {i : Nat} {d : Sd} (h : ss[i]? = some d) : comN (ss.take (i + 1)) = (comN (ss.take i)).lcm (perN d) := by
  unfold comN
  rw [List.take_succ, h, List.foldl_append]
  rfl
theorem lcm_le {a b : Nat} : a.lcm b ≤ a * b := Nat.div_le_self _ _
theorem com_le : ∀ (ss : List Sd) (n : Nat), (∀ d ∈ ss, SideP d.o d.s d.m) → ss.foldl (fun n d => n.lcm (perN d)) n ≤ n * (2 * 10 ^ 30) ^ ss.length
  | [], n, _ => by simp
  | d :: ss, n, h => by
    have z := com_le ss (n.lcm (perN d)) fun e he => h e (List.mem_cons_of_mem _ he)
    have b := perM_bd (h d List.mem_cons_self)
    have y : perN d ≤ 2 * 10 ^ 30 := by unfold perN; omega
    refine Nat.le_trans z ?_
    generalize (2 * 10 ^ 30 : Nat) = k at y
    rw [List.length_cons, Nat.pow_succ, Nat.mul_comm (k ^ ss.length), ← Nat.mul_assoc]
    exact Nat.mul_le_mul_right _ (Nat.le_trans lcm_le (Nat.mul_le_mul_left _ y))
theorem SidesAt.side {H : Hp} {l : Addr} {xs : List V} {ss : List Sd} (S : SidesAt H l xs ss) : ∀ d ∈ ss, SideP d.o d.s d.m := fun d hd => by
  obtain ⟨i, hi, rfl⟩ := List.mem_iff_getElem.mp hd
  obtain ⟨_, _, _, sp⟩ := S.at_ i _ (List.getElem?_eq_getElem hi)
  exact sp
theorem com_lt {ss : List Sd} (h : ∀ d ∈ ss, SideP d.o d.s d.m) (l4 : ss.length ≤ 4) : comN ss < 2 ^ 420 := by
  have z := com_le ss 1 h
  rw [Nat.one_mul] at z
  refine Nat.lt_of_le_of_lt z (Nat.lt_of_le_of_lt (Nat.pow_le_pow_right (by decide) l4) ?_)
  decide
theorem com_take {ss : List Sd} (h : ∀ d ∈ ss, SideP d.o d.s d.m) (l4 : ss.length ≤ 4) (i : Nat) : comN (ss.take i) < 2 ^ 420 :=
  com_lt (fun d hd => h d (List.mem_of_mem_take hd)) (Nat.le_trans (List.length_take_le' _ _) l4)
theorem com_pos : ∀ (ss : List Sd) (n : Nat), 0 < n → (∀ d ∈ ss, SideP d.o d.s d.m) → 0 < ss.foldl (fun n d => n.lcm (perN d)) n
  | [], n, hn, _ => hn
  | d :: ss, n, hn, h => by
    have b := perM_bd (h d List.mem_cons_self)
    have y : 0 < perN d := by unfold perN; omega
    exact com_pos ss _ (Nat.lcm_pos hn y) fun e he => h e (List.mem_cons_of_mem _ he)
/-- as the law has it -/
theorem lcm_div (a b : Nat) : a / Nat.gcd a b * b = a.lcm b := by
  unfold Nat.lcm
  rw [Nat.mul_comm (a / Nat.gcd a b), ← Nat.mul_div_assoc _ (Nat.gcd_dvd_left a b), Nat.mul_comm]
end HT
namespace HT
open PySem L2
theorem lg_any {n : Nat} (h : n < 2 ^ 500) : ((n : Int)).natAbs.log2 < 9000 := by
  rw [Int.natAbs_natCast]
  by_cases e : n = 0
  · rw [e]; decide
  · have := (Nat.log2_lt e).mpr h
    omega
def spSmall : Sp := fun vs H Q _ => ∃ (a c : Addr) (t most : Nat), vs = [.ref a, .int (most : Int)] ∧ Src H a c t ∧ 1 ≤ most ∧ most ≤ 1000 ∧ t + 5 < 2 ^ 30 ∧
  ∀ (p : Addr) (o s : Int) (m : Str) (H' : Hp) (t' : Nat), H' p = some (sideV o s m) → -30 ≤ o → o ≤ 29 → 1 ≤ s → s ≤ (most : Int) → Mode m → t' ≤ t + 3 → Src H' a c t' → Oth a c H H' → Q (.ref p) H'
def spPer : Sp := fun vs H Q _ => ∃ (l : Addr) (xs : List V) (ss : List Sd), vs = [.ref l] ∧ SidesAt H l xs ss ∧ Q (.int (comN ss : Int)) H
def spSet : Sp := fun vs H Q _ => ∃ (a c : Addr) (t most many : Nat), vs = [.ref a, .int (most : Int), .int (many : Int)] ∧ Src H a c t ∧ 1 ≤ most ∧ most ≤ 1000 ∧ 1 ≤ many ∧ many ≤ 4 ∧ t + 50 < 2 ^ 30 ∧
  ∀ (l : Addr) (xs : List V) (ss : List Sd) (H' : Hp) (t' : Nat), SidesAt H' l xs ss → (∀ d ∈ ss, -30 ≤ d.o ∧ d.o ≤ 29 ∧ d.s ≤ (most : Int)) → l ≠ a → l ≠ c → t' ≤ t + 20 → Src H' a c t' → Oth a c H H' → Q (.ref l) H'
section
variable {P : Program} {w : World} {K : PySem.W.Frag} {mg : Str → Option Value} {base : Heap} {fD fP fS fV : Addr} {dD dP dS dV : FuncData}
theorem ok_small {f : Addr} {fd : FuncData} (F : Fun K "_law_small_side" "_law_small_side" s_L_small_side f fd) (D : Cal P w K mg base "_law_draw" 1 ["_law_source_here", "_law_limit"] spDraw fD dD)
    (Pk : Cal P w K mg base "_law_pick" 2 ["_law_source_here", "_law_values"] spPick fP dP) : FnOk P w K mg base CX0 3 f fd ["_law_source_here", "_law_most"] spSmall := by
  refine F.ok sc_L_small_side (fun vs H Q E h => ?_) (fun cdv A outer s0 H vs Q E hr h => ?_)
  · obtain ⟨a, c, t, most, rfl, _⟩ := h
    rfl
  · obtain ⟨a, c, t, most, rfl, S, m1, m2, ht, q⟩ := h
    have nd := sc_L_small_side.nd
    refine ⟨_, (pss_cons (ps_set (i := 2) nd rfl (Or.inl rfl) (pe_op op_sub (pcl D hr (by decide) (by rfl) (pa_cons (pv 0) (pa_cons pe_int pa_nil))) pe_int))
      (pss_one (ps_ret (pe_tup (pa_cons (pv 2) (pa_cons (pe_op op_add pe_int (pcl D hr (by decide) (by rfl) (pa_cons (pv 0) (pa_cons (pv 1) pa_nil)))) (pa_cons (pcl Pk hr (by decide) (by rfl) (pa_cons (pv 0) (pa_cons (pe_lst (pa_cons pe_str (pa_cons pe_str (pa_cons pe_str (pa_cons pe_str (pa_cons pe_str pa_nil)))))) pa_nil))) pa_nil))))))), ?_⟩
    walk_at "rd"
    refine ⟨a, c, t, 60, rfl, S, by omega, by decide, by decide, fun k1 H1 k10 k11 S1 O1 => ?_⟩
    walk_at "rd"
    refine ⟨a, c, t + 1, (most : Int), rfl, S1, by omega, by omega, lg_small (by omega) (by omega), fun k2 H2 k20 k21 S2 O2 => ?_⟩
    walk_at "rd"
    refine ⟨(by show 5 ≤ sizeLine; decide), fun l nl => ?_⟩
    obtain ⟨la, lc⟩ := S2.na nl
    refine ⟨a, c, _, l, _, rfl, S2.new nl, by omega, upd_same, la, lc, by decide, by decide, fun x H3 hx S3 O3 => ?_⟩
    obtain ⟨md, rfl, hmd⟩ := mode_of hx
    refine ⟨(by show 3 ≤ sizeLine; decide), fun p np => ?_⟩
    exact q p _ _ md _ (t + 1 + 1 + 1) upd_same (by omega) (by omega) (by omega) (by omega) hmd (by omega) (S3.new np) ((((O1.trans O2).new nl).trans O3).new np)
theorem ok_period {f : Addr} {fd : FuncData} (F : Fun K "_law_period" "_law_period" s_L_period f fd) (B : Blt mg) (Dv : Cal P w K mg base "_law_divisor" 1 ["_law_one", "_law_other"] spDiv fV dV) : FnOk P w K mg base CX0 2 f fd ["_law_sides"] spPer := by
  refine F.ok sc_L_period (fun vs H Q E h => ?_) (fun cdv A outer s0 H vs Q E hr h => ?_)
  · obtain ⟨l, xs, ss, rfl, _⟩ := h
    rfl
  · obtain ⟨l, xs, ss, rfl, SS, q⟩ := h
    have nd := sc_L_period.nd
    refine ⟨_, (pss_cons (ps_set (i := 1) nd rfl (Or.inl rfl) pe_int)
      (pss_cons (ps_for PassesOwn.never rfl (pi_list (pv 0)) (pg_tup (by rfl) (pgs_cons (pg_name (i := 2) nd rfl (Or.inl rfl)) (pgs_cons (pg_name (i := 3) nd rfl (Or.inl rfl)) (pgs_cons (pg_name (i := 4) nd rfl (Or.inl rfl)) pgs_nil)))) (pss_cons (ps_set (i := 5) nd rfl (Or.inl rfl) (pe_op op_mulW (pv 3) (pe_op op_add pe_int (pe_callTy call_int1 (by rfl) B.int (by decide +kernel) (pa_cons (pe_cmpR op_eq (pv 4) pe_str (nomark _)) pa_nil)))))
      (pss_one (ps_set (i := 1) nd rfl (Or.inl rfl) (pe_op op_mulW (pe_op op_fdivW (pv 1) (pcl Dv hr (by decide) (by rfl) (pa_cons (pv 1) (pa_cons (pv 5) pa_nil)))) (pv 5))))))
      (pss_one (ps_ret (pv 1))))), ?_⟩
    walk_at "rd"
    refine ⟨⟨_, SqL.of SS.hl⟩, ?_⟩
    refine for_list (K := K) (a := l) (xs := xs) (fun i st H' => ∃ x2 x3 x4 x5 : Option V, st = [some (.ref l), some (.int (comN (ss.take i) : Int)), x2, x3, x4, x5] ∧ H' = H) ⟨none, none, none, none, rfl, rfl⟩ (fun _ _ _ _ ⟨_, _, _, _, _, e⟩ => e ▸ SqL.of SS.hl) ?_ ?_
    · rintro i y st H' hy ⟨x2, x3, x4, x5, rfl, rfl⟩
      obtain ⟨d, p, ed, rfl, hp, sp⟩ := SS.item hy
      walk_at "rd"
      refine ⟨p, _, rfl, SqT.of hp, rfl, _, _, rfl, _, _, rfl, _, _, rfl, rfl, ?_⟩
      walk_at "rd"
      refine ⟨rfl, ?_⟩
      walk_at "rd"
      refine .inr ⟨_, rfl, ?_⟩
      have s0 := sp.s0
      have s1 := sp.s1
      have pb := perM_bd sp
      have eN : ((perN d : Nat) : Int) = perM d.s d.m := Int.toNat_of_nonneg (by omega)
      have eL : d.s * (1 + if decide (V.str d.m = V.str "half_even") = true then 1 else 0) = ((perN d : Nat) : Int) := by
        rw [eN, dec_str]
        unfold perM
        by_cases h : d.m = "half_even"
        · rw [if_pos (decide_eq_true h), if_pos h]; omega
        · rw [if_neg (fun z => h (of_decide_eq_true z)), if_neg h]; omega
      have bb : ∀ b : Bool, -2 ^ 1010 < (1 + if b = true then (1 : Int) else 0) ∧ (1 + if b = true then (1 : Int) else 0) < 2 ^ 1010 := by
        intro b
        cases b <;> decide +kernel
      replace bb := bb (decide (V.str d.m = V.str "half_even"))
      generalize (if decide (V.str d.m = V.str "half_even") = true then (1 : Int) else 0) = bI at eL bb
      walk_at "rd"
      refine ⟨mulW (by omega) bb, ?_⟩
      walk_at "rd"
      refine ⟨comN (ss.take i), perN d, (by show [V.int _, V.int (d.s * (1 + bI))] = _; rw [eL]), ?_⟩
      have cp : 0 < comN (ss.take i) := com_pos _ 1 (by decide) fun e he => SS.side e (List.mem_of_mem_take he)
      have cl := com_take SS.side SS.l4 i
      have gp : 0 < Nat.gcd (comN (ss.take i)) (perN d) := Nat.gcd_pos_of_pos_left _ cp
      have gl : Nat.gcd (comN (ss.take i)) (perN d) ≤ comN (ss.take i) := Nat.gcd_le_left _ cp
      walk_at "rd"
      refine ⟨fdiv_ok _ (by omega) (lg_any (Nat.lt_of_le_of_lt gl (Nat.lt_trans cl (Nat.pow_lt_pow_right (by decide) (by decide))))), ?_⟩
      walk_at "rd"
      have ed2 : (comN (ss.take i) : Int) / ((Nat.gcd (comN (ss.take i)) (perN d) : Nat) : Int) = ((comN (ss.take i) / Nat.gcd (comN (ss.take i)) (perN d) : Nat) : Int) := (Int.natCast_ediv _ _).symm
      have dl : comN (ss.take i) / Nat.gcd (comN (ss.take i)) (perN d) ≤ comN (ss.take i) := Nat.div_le_self _ _
      have big : (2 : Nat) ^ 420 < 2 ^ 1010 := Nat.pow_lt_pow_right (by decide) (by decide)
      have dn : (0 : Int) ≤ ((comN (ss.take i) / Nat.gcd (comN (ss.take i)) (perN d) : Nat) : Int) := Int.natCast_nonneg _
      have ml : CMulW ((comN (ss.take i) : Int) / ((Nat.gcd (comN (ss.take i)) (perN d) : Nat) : Int)) (d.s * (1 + bI)) := by
        rw [ed2, eL]
        exact mulW (by omega) (by omega)
      refine ⟨ml, ?_⟩
      refine ⟨some (.int d.o), some (.int d.s), some (.str d.m), some (.int (d.s * (1 + bI))), ?_, rfl⟩
      have e9 : (comN (ss.take i) : Int) / ((Nat.gcd (comN (ss.take i)) (perN d) : Nat) : Int) * (d.s * (1 + bI)) = (comN (ss.take (i + 1)) : Int) := by
        rw [eL, ed2, com_snoc ed, ← lcm_div, Int.natCast_mul]
      rw [← e9]
      rfl
    · rintro st H' ⟨x2, x3, x4, x5, rfl, rfl⟩
      rw [SS.len, List.take_length]
      walk_at "rd"
      exact q
theorem ok_set {f : Addr} {fd : FuncData} (F : Fun K "_law_set" "_law_set" s_L_set f fd) (B : Blt mg) (D : Cal P w K mg base "_law_draw" 1 ["_law_source_here", "_law_limit"] spDraw fD dD)
    (Sm : Cal P w K mg base "_law_small_side" 3 ["_law_source_here", "_law_most"] spSmall fS dS) : FnOk P w K mg base CX0 4 f fd ["_law_source_here", "_law_most", "_law_many"] spSet := by
  refine F.ok sc_L_set (fun vs H Q E h => ?_) (fun cdv A outer s0 H vs Q E hr h => ?_)
  · obtain ⟨a, c, t, most, many, rfl, _⟩ := h
    rfl
  · obtain ⟨a, c, t, most, many, rfl, S, m1, m2, n1, n2, ht, q⟩ := h
    have nd := sc_L_set.nd
    refine ⟨_, (pss_one (ps_ret (pe_lc (own := [("_law_k", 3)]) (g := gName 3) (tt := tYes) rfl nd (pi_range1 (by rfl) B.range (pa_cons (pe_op op_add pe_int (pcl D hr (by decide) (by rfl) (pa_cons (pv 0) (pa_cons (pv 2) pa_nil)))) pa_nil)) (blkOk_by (N := ["_law_source_here", "_law_most", "_law_many", "_law_k"]) (sc := defScope s_L_set) (by decide +kernel)) (fun _ _ _ _ _ => pg_name (i := 3) nd rfl (Or.inl rfl)) (fun _ _ _ _ _ => pts_nil) (fun _ _ _ _ _ => (pcl Sm hr (by decide) (by rfl) (pa_cons (pv 0) (pa_cons (pv 1) pa_nil))))))), ?_⟩
    walk_at "rd"
    refine ⟨a, c, t, (many : Int), rfl, S, by omega, by omega, lg_small (by omega) (by omega), fun y H1 y0 y1 S1 O1 => ?_⟩
    walk_at "rd"
    refine ⟨by omega, by omega, fun L nL => ?_⟩
    obtain ⟨La, Lc⟩ := S1.na nL
    refine lc_range (lo := 0) (n := (1 + y).toNat) (fun j H5 => ∃ (xs : List V) (ss : List Sd) (t' : Nat), H5 L = some (.lst xs) ∧ xs.length = j ∧ ss.length = j ∧ (∀ (i : Nat) (d : Sd), ss[i]? = some d → ∃ p : Addr, xs[i]? = some (V.ref p) ∧ H5 p = some (sideV d.o d.s d.m) ∧ SideP d.o d.s d.m) ∧ (∀ d ∈ ss, -30 ≤ d.o ∧ d.o ≤ 29 ∧ d.s ≤ (most : Int)) ∧ t' ≤ t + 1 + 3 * j ∧ Src H5 a c t' ∧ Oth a c H H5)
      ⟨[], [], t + 1, upd_same, rfl, rfl, (fun i d h => nomatch h), (fun d hd => absurd hd List.not_mem_nil), by omega, S1.new nL, O1.new nL⟩ ?_ ?_
    · rintro j H5 hj ⟨xs, ss, t', hL, lx, ls, at_, small, ht', S5, O5⟩
      refine ⟨rfl, ?_⟩
      walk_at "rd"
      refine ⟨a, c, t', most, rfl, S5, m1, m2, by omega, fun p o s m H6 t6 hp b1 b2 b3 b4 md ht6 S6 O6 => ?_⟩
      have hL6 := O6 _ _ hL La Lc
      refine ⟨_, hL6, (by rw [lx]; exact Nat.lt_of_lt_of_le (by omega : j < 100) (by decide)), xs ++ [.ref p], ss ++ [⟨o, s, m⟩], t6, upd_same, by rw [List.length_append, lx]; rfl, by rw [List.length_append, ls]; rfl, ?_, ?_, by omega, ?_, ?_⟩
      · intro i d hd
        rcases Nat.lt_or_ge i ss.length with z | z
        · rw [List.getElem?_append_left z] at hd
          obtain ⟨p2, e1, hp2, sp⟩ := at_ i d hd
          obtain ⟨z1, z2⟩ := S5.nt hp2
          have hp6 := O6 _ _ hp2 z1 z2
          exact ⟨p2, by rw [List.getElem?_append_left (by omega)]; exact e1, (upd_ne (ne_of hp6 hL6 (by intro y; cases y))).trans hp6, sp⟩
        · rw [List.getElem?_append_right z] at hd
          have e0 : i - ss.length = 0 := by
            have := (List.getElem?_eq_some_iff.mp hd).1
            simp at this
            omega
          rw [e0] at hd
          have ed : d = ⟨o, s, m⟩ := by simpa using hd.symm
          subst ed
          exact ⟨p, by rw [List.getElem?_append_right (by omega), show i - xs.length = 0 by omega]; rfl, (upd_ne (ne_of hp hL6 (by intro y; cases y))).trans hp, ⟨by show -(10 : Int) ^ 40 ≤ o; omega, by show o ≤ (10 : Int) ^ 40; omega, b3, by show s ≤ (10 : Int) ^ 30; omega, md⟩⟩
      · intro d hd
        rcases List.mem_append.mp hd with h | h
        · exact small d h
        · rw [List.mem_singleton.mp h]; exact ⟨b1, b2, b4⟩
      · obtain ⟨cs, hcs, hl2⟩ := S6.cl
        exact ⟨S6.ne, (upd_ne La.symm).trans S6.ob, cs, (upd_ne Lc.symm).trans hcs, hl2⟩
      · intro b u z na nc
        have z5 := O5 b u z na nc
        have z6 := O6 b u z5 na nc
        exact (upd_ne (ne_of_none (O1 b u z na nc) nL)).trans z6
    · rintro H5 ⟨xs, ss, t', hL, lx, ls, at_, small, ht', S5, O5⟩
      exact q L xs ss H5 t' ⟨hL, by omega, by omega, by omega, at_⟩ small La Lc (by omega) S5 O5
end
end HT
namespace HT
open PySem L2
def nV (k : Nat) : V := .int (k : Int)
structure AmG (mg : Str → Option Value) : Prop where
  isi : mg "isinstance" = none
  list : mg "list" = none
  len : mg "len" = none
  ms : ∃ t, mg "MOST_SIDES" = some (.int 4 t)
  mp : ∃ t, mg "MOST_PERIOD" = some (.int 100000 t)
  lcm : mg "lcm" = some (.builtin "math.lcm")
  sorted : mg "sorted" = none
def spIsSide : Sp := fun vs H Q _ => ∃ (p : Addr) (o s : Int) (m : Str), vs = [.ref p] ∧ H p = some (sideV o s m) ∧ SideP o s m ∧ Q (.bl true) H
def spSides : Sp := fun vs H Q _ => ∃ (l : Addr) (xs : List V) (ss : List Sd), vs = [.ref l] ∧ SidesAt H l xs ss ∧ Q .non H
def spPerOf : Sp := fun vs H Q _ => ∃ (p : Addr) (o s : Int) (m : Str), vs = [.ref p] ∧ H p = some (sideV o s m) ∧ SideP o s m ∧ Q (.int (perM s m)) H
def spNums : Sp := fun vs H Q _ => ∃ (kl : Addr) (ks : List Nat) (n : Nat), vs = [.ref kl, .int (n : Int)] ∧ H kl = some (.lst (ks.map nV)) ∧ ks.length ≤ 1000 ∧ (∀ k ∈ ks, k < n) ∧ Q .non H
/-- one hand-over more -/
def stepW (ss : List Sd) (a : List Int × Int) (k : Nat) : List Int × Int :=
  match ss[k]? with
  | some d => (a.1 ++ [dueM d.o d.s d.m a.2], dueM d.o d.s d.m a.2)
  | none => (a.1 ++ [a.2], a.2)
def walkW (ss : List Sd) (ks : List Nat) (v : Int) : List Int × Int := ks.foldl (stepW ss) ([], v)
theorem walk_snoc {ss : List Sd} {ks : List Nat} {v : Int} {i k : Nat} (h : ks[i]? = some k) : walkW ss (ks.take (i + 1)) v = stepW ss (walkW ss (ks.take i) v) k := by
  unfold walkW
  rw [List.take_succ, h, List.foldl_append]
  rfl
theorem due_far {o s v b : Int} {m : Str} (S : SideP o s m) (h : -b < v ∧ v < b) : -(b + 10 ^ 30) < dueM o s m v ∧ dueM o s m v < b + 10 ^ 30 := by
  have h1 := due_near (o := o) (v := v) S.md S.s0
  have h2 := S.s1
  omega
def spAlong : Sp := fun vs H Q _ => ∃ (l : Addr) (xs : List V) (ss : List Sd) (kl : Addr) (ks : List Nat) (v : Int), vs = [.ref l, .ref kl, .int v] ∧ SidesAt H l xs ss ∧ H kl = some (.lst (ks.map nV)) ∧ ks.length ≤ 1000 ∧ (∀ k ∈ ks, k < ss.length) ∧ (-2 ^ 200 < v ∧ v < 2 ^ 200) ∧
  ∀ (d : Addr) (H' : Hp), H d = none → Same H H' → H' d = some (.lst ((walkW ss ks v).1.map V.int)) → Q (.ref d) H'
section
variable {P : Program} {w : World} {K : PySem.W.Frag} {mg : Str → Option Value} {base : Heap} {aM c0 fC fB fV fN fW fS : Addr} {dC dB dV dN dW dS : FuncData}
theorem ok_is_side {f : Addr} {fd : FuncData} (F : Fun K "is_side" "is_side" s_is_side f fd) (g0 : mg "InvalidSide" = some (.ref c0)) (Ck : Cal P w K mg base "check_side" 3 ["side"] spCheckSide fC dC) : FnOk P w K mg base CX0 4 f fd ["thing"] spIsSide := by
  refine F.ok sc_is_side (fun vs H Q E h => ?_) (fun cdv A outer s0 H vs Q E hr h => ?_)
  · obtain ⟨p, o, s, m, rfl, _⟩ := h
    rfl
  · obtain ⟨p, o, s, m, rfl, hp, S, q⟩ := h
    refine ⟨_, pss_cons (ps_try_only rfl rfl ⟨rfl, by decide, .inl g0⟩ takes0 (fun W pn xe tk _ => pss_one (ps_expr (pcl Ck hr (by decide) (by rfl) (pa_cons (pv 0) pa_nil)))) (fun a oe cls d pn _ _ => pss_one (ps_ret pe_bl))) (pss_one (ps_ret pe_bl)), ?_⟩
    walk_at "rd"
    refine ⟨p, o, s, m, rfl, hp, S, ?_⟩
    walk_at "rd"
    exact q
theorem ok_sides {f : Addr} {fd : FuncData} (F : Fun K "check_sides" "check_sides" s_check_sides f fd) (A' : AmG mg) (Ck : Cal P w K mg base "is_side" 4 ["thing"] spIsSide fC dC) : FnOk P w K mg base CX0 5 f fd ["sides"] spSides := by
  refine F.ok sc_check_sides (fun vs H Q E h => ?_) (fun cdv A outer s0 H vs Q E hr h => ?_)
  · obtain ⟨l, xs, ss, rfl, _⟩ := h
    rfl
  · obtain ⟨l, xs, ss, rfl, SS, q⟩ := h
    have nd := sc_check_sides.nd
    obtain ⟨tms, hms⟩ := A'.ms
    refine ⟨_, pss_cons (ps_if (PW.pt (pw_or (pt_not (pt_val (pe_callB call_isi (by rfl) A'.isi (by decide +kernel) (pa_cons (pv 0) (pa_cons (pe_bltn (v := .ty "list") (by rfl) A'.list (by decide +kernel) rfl) pa_nil)))))
        (pw_or1 (pt_not (pt_chain op_le op_le pe_int (pe_callB call_len_seq (by rfl) A'.len PySem.boot_len (pa_cons (pv 0) pa_nil)) (pe_glob (v := .int 4) (by rfl) hms ⟨_, rfl⟩)))))) (pss_one ps_never) pss_nil)
      (pss_one (ps_for PassesOwn.never rfl (pi_list (pv 0)) (pg_name (i := 1) nd rfl (Or.inl rfl))
        (pss_one (ps_if (pt_not (pt_val (pcl Ck hr (by decide) (by rfl) (pa_cons (pv 1) pa_nil)))) (pss_one ps_never) pss_nil)))), ?_⟩
    walk_at "rd"
    refine ⟨_, _, _, _, _, rfl, .ty "list", .base (.lst SS.hl), kit_ty (r := true) (by decide +kernel), ?_⟩
    walk_at "rd"
    refine ⟨l, _, rfl, .inl (SqL.of SS.hl), ?_⟩
    have l1 := SS.l1
    have l4 := SS.l4
    have ln := SS.len
    walk_at "rd"
    refine ite2 (fun _ => ?_) (fun z => absurd (decide_eq_true (by omega)) z)
    walk_at "rd"
    refine ite2 (fun z => ?_) (fun _ => ?_)
    · exfalso
      have e : decide ((xs.length : Int) ≤ 4) = true := decide_eq_true (by omega)
      exact not_t z e
    walk_at "rd"
    refine ⟨⟨_, SqL.of SS.hl⟩, ?_⟩
    refine for_list (K := K) (a := l) (xs := xs) (fun i σ H' => ∃ y : Option V, σ = [some (.ref l), y] ∧ H' = H) ⟨none, rfl, rfl⟩ (fun _ _ _ _ ⟨_, _, e⟩ => e ▸ SqL.of SS.hl) ?_ ?_
    · rintro i y σ H' hy ⟨z, rfl, rfl⟩
      obtain ⟨d, p, ed, rfl, hp, sp⟩ := SS.item hy
      walk_at "rd"
      refine ⟨p, d.o, d.s, d.m, rfl, hp, sp, _, rfl, ?_⟩
      refine ite2 (fun z => (not_t z rfl).elim) (fun _ => ?_)
      exact ⟨_, rfl, rfl⟩
    · rintro σ H' ⟨z, rfl, rfl⟩
      exact q
theorem ok_per {f : Addr} {fd : FuncData} (F : Fun K "period_of" "period_of" s_period_of f fd) : FnOk P w K mg base CX0 1 f fd ["side"] spPerOf := by
  refine F.ok sc_period_of (fun vs H Q E h => ?_) (fun cdv A outer s0 H vs Q E hr h => ?_)
  · obtain ⟨p, o, s, m, rfl, _⟩ := h
    rfl
  · obtain ⟨p, o, s, m, rfl, hp, S, q⟩ := h
    have nd := sc_period_of.nd
    refine ⟨_, (pss_cons (ps_asg (pv 0) (pg_tup (by rfl) (pgs_cons (pg_name (i := 1) nd rfl (Or.inl rfl)) (pgs_cons (pg_name (i := 2) nd rfl (Or.inl rfl)) (pgs_cons (pg_name (i := 3) nd rfl (Or.inl rfl)) pgs_nil)))))
      (pss_cons (ps_if (pt_cmpR op_eq (pv 3) pe_str (nomark _)) (pss_one (ps_ret (pe_op op_mul pe_int (pv 2)))) pss_nil)
      (pss_one (ps_ret (pv 2))))), ?_⟩
    walk_at "rd"
    refine ⟨p, _, rfl, SqT.of hp, rfl, _, _, rfl, _, _, rfl, _, _, rfl, rfl, ?_⟩
    walk_at "rd"
    refine ⟨rfl, ?_⟩
    walk_at "rd"
    unfold perM at q
    refine ite2 (fun h => ?_) (fun h => ?_)
    · rw [if_pos (str_t h)] at q
      walk_at "rd"
      refine ⟨.inl ⟨by decide, by decide⟩, ?_⟩
      exact q
    · rw [if_neg (str_f h)] at q
      walk_at "rd"
      exact q
end
end HT
namespace HT
open PySem L2
theorem log_lt {n k : Nat} (h : n < 2 ^ (k + 1)) : n.log2 ≤ k := by
  by_cases h0 : n = 0
  · subst h0
    rw [Nat.log2_zero]
    exact Nat.zero_le _
  · exact Nat.le_of_lt_succ ((Nat.log2_lt h0).mpr h)
theorem lcm_lt {a b i j : Nat} (ha : a < 2 ^ i) (hb : b < 2 ^ j) : a.lcm b < 2 ^ (i + j) := by
  rw [Nat.pow_add]
  exact Nat.lt_of_le_of_lt (PySem.W.mc_lcm_le a b) (Nat.mul_lt_mul'' ha hb)
def rLcm2 : List V → Hp → VK → Prop := fun vs H Q => ∃ a b : Int, vs = [.int a, .int b] ∧ a.natAbs < 2 ^ 2000 ∧ b.natAbs < 2 ^ 2000 ∧ Q (.int (((a.natAbs.lcm b.natAbs : Nat) : Int))) H
theorem cr_lcm2 {X : Cx} : CallR X (.builtin "math.lcm") rLcm2 := by
  intro pins s σ H vs us Q I r h
  obtain ⟨a, b, rfl, ha, hb, q⟩ := h
  obtain ⟨u1, u2, rfl, r1, r2⟩ := vals2 r
  obtain ⟨t, rfl⟩ := r1
  obtain ⟨u, rfl⟩ := r2
  have hab := lcm_lt ha hb
  have e1 : Nat.lcm 1 a.natAbs = a.natAbs := PySem.W.mc_lcm_one _
  have two : ∀ {k : Nat}, 1 < 2 ^ (k + 1) := fun {k} => Nat.one_lt_two_pow (by omega)
  have g := PySem.W.mg_run_lcm a t b u
    (by have := log_lt (n := max 1 a.natAbs) (k := 1999) (Nat.max_lt.mpr ⟨two, ha⟩); omega)
    (by have := log_lt (n := max a.natAbs b.natAbs) (k := 1999) (Nat.max_lt.mpr ⟨ha, hb⟩); omega)
    (by rw [e1]; exact PySem.W.mc_size (k := 100) (Nat.le_trans (Nat.le_of_lt hab) (Nat.pow_le_pow_right (by decide) (by decide))) (by decide))
  rw [e1] at g
  exact PySem.call_function_meets PySem.W.MGF.kind_lcm PySem.W.MGF.plain_lcm PySem.W.MGF.entry_lcm (PySem.W.MGF.args_lcm _ _) g.meets ⟨.int _, H, I.tok _, ⟨_, rfl⟩, q⟩
section
variable {P : Program} {w : World} {K : PySem.W.Frag} {mg : Str → Option Value} {base : Heap} {aM c0 fC fB fV fN fW fS : Addr} {dC dB dV dN dW dS : FuncData}
theorem ok_common {f : Addr} {fd : FuncData} (F : Fun K "common_period" "common_period" s_common_period f fd) (A' : AmG mg) (Pe : Cal P w K mg base "period_of" 1 ["side"] spPerOf fC dC) : FnOk P w K mg base CX0 2 f fd ["sides"] spPer := by
  refine F.ok sc_common_period (fun vs H Q E h => ?_) (fun cdv A outer s0 H vs Q E hr h => ?_)
  · obtain ⟨l, xs, ss, rfl, _⟩ := h
    rfl
  · obtain ⟨l, xs, ss, rfl, SS, q⟩ := h
    have nd := sc_common_period.nd
    refine ⟨_, pss_cons (ps_set (i := 1) nd rfl (Or.inl rfl) pe_int)
      (pss_cons (ps_for PassesOwn.never rfl (pi_list (pv 0)) (pg_name (i := 2) nd rfl (Or.inl rfl)) (pss_one (ps_set (i := 1) nd rfl (Or.inl rfl) (pe_callBfun cr_lcm2 (by rfl) A'.lcm (pa_cons (pv 1) (pa_cons (pcl Pe hr (by decide) (by rfl) (pa_cons (pv 2) pa_nil)) pa_nil))))))
      (pss_one (ps_ret (pv 1)))), ?_⟩
    walk_at "rd"
    refine ⟨⟨_, SqL.of SS.hl⟩, ?_⟩
    refine for_list (K := K) (a := l) (xs := xs) (fun i st H' => ∃ x2 : Option V, st = [some (.ref l), some (.int (comN (ss.take i) : Int)), x2] ∧ H' = H) ⟨none, rfl, rfl⟩ (fun _ _ _ _ ⟨_, _, e⟩ => e ▸ SqL.of SS.hl) ?_ ?_
    · rintro i y st H' hy ⟨x2, rfl, rfl⟩
      obtain ⟨d, p, ed, rfl, hp, sp⟩ := SS.item hy
      walk_at "rd"
      refine ⟨p, d.o, d.s, d.m, rfl, hp, sp, ?_⟩
      have pb := perM_bd sp
      have cl := com_take SS.side SS.l4 i
      have big : (2 : Nat) ^ 420 < 2 ^ 2000 := Nat.pow_lt_pow_right (by decide) (by decide)
      have big2 : (2 : Nat) ^ 120 < 2 ^ 2000 := Nat.pow_lt_pow_right (by decide) (by decide)
      have e2 : (perM d.s d.m).natAbs = perN d := by unfold perN; omega
      refine ⟨_, _, rfl, ?_, ?_, ?_⟩
      · rw [Int.natAbs_natCast]; omega
      · rw [e2]; unfold perN; omega
      · rw [Int.natAbs_natCast, e2, ← com_snoc ed]
        exact ⟨_, rfl, rfl⟩
    · rintro st H' ⟨x2, rfl, rfl⟩
      rw [SS.len, List.take_length]
      walk_at "rd"
      exact q
end
end HT
namespace HT
/-- k steps come to a place between two -/
def Hit (step least greatest M : Int) (k : Nat) : Prop := least ≤ (step * (k : Int)) % M ∧ (step * (k : Int)) % M ≤ greatest
/-- the least number with a property, or none -/
def Least (Pr : Nat → Prop) : Option Nat → Prop
  | some k => Pr k ∧ ∀ j, j < k → ¬ Pr j
  | none => ∀ k, ¬ Pr k
theorem least_uniq {Pr : Nat → Prop} {a b : Option Nat} (ha : Least Pr a) (hb : Least Pr b) : a = b := by
  cases a with
  | none =>
    cases b with
    | none => rfl
    | some k => exact absurd hb.1 (ha k)
  | some j =>
    cases b with
    | none => exact absurd ha.1 (hb j)
    | some k =>
      rcases Nat.lt_trichotomy j k with h | h | h
      · exact absurd ha.1 (hb.2 j h)
      · rw [h]
      · exact absurd hb.1 (ha.2 k h)
theorem least_congr {A B : Nat → Prop} (h : ∀ k, A k ↔ B k) {r : Option Nat} (l : Least A r) : Least B r := by
  cases r with
  | none => exact fun k z => l k ((h k).mpr z)
  | some k => exact ⟨(h k).mp l.1, fun j hj z => l.2 j hj ((h j).mpr z)⟩
/-- seen from the other side -/
theorem hit_flip {step least greatest M : Int} (hM : 0 < M) (h0 : 0 < least) (h1 : greatest < M) (k : Nat) : Hit (M - step) (M - greatest) (M - least) M k ↔ Hit step least greatest M k := by
  have e : ((M - step) * (k : Int)) % M = (-(step * (k : Int))) % M := by
    rw [Int.sub_mul, show M * (k : Int) - step * (k : Int) = -(step * (k : Int)) + M * (k : Int) by omega, Int.add_mul_emod_self_left]
  unfold Hit
  rw [e]
  generalize step * (k : Int) = x
  have a := Int.emod_nonneg x (by omega : M ≠ 0)
  have b := Int.emod_lt_of_pos x hM
  have c := Int.emod_nonneg (-x) (by omega : M ≠ 0)
  have d := Int.emod_lt_of_pos (-x) hM
  have e1 := Int.emod_add_mul_ediv x M
  have e2 := Int.emod_add_mul_ediv (-x) M
  -- x % M + (-x) % M is 0 or M
  have s : (x % M + (-x) % M) % M = 0 := by
    rw [← Int.add_emod]
    rw [show x + -x = 0 by omega]
    exact Int.zero_emod M
  have s2 : x % M + (-x) % M = 0 ∨ x % M + (-x) % M = M := by
    have f := Int.emod_add_mul_ediv (x % M + (-x) % M) M
    rw [s] at f
    have g1 : (x % M + (-x) % M) / M = 0 ∨ (x % M + (-x) % M) / M = 1 := by
      have h1 : 0 ≤ (x % M + (-x) % M) / M := Int.ediv_nonneg (by omega) (by omega)
      have h2 : (x % M + (-x) % M) / M < 2 := Int.ediv_lt_of_lt_mul hM (by omega)
      omega
    rcases g1 with g | g
    · rw [g] at f; left; omega
    · rw [g] at f; right; omega
  constructor
  · rintro ⟨p, q⟩
    omega
  · rintro ⟨p, q⟩
    omega
def ceilD (a s : Int) : Int := -((-a) / s)
theorem ceilD_spec {a s : Int} (hs : 0 < s) : a ≤ s * ceilD a s ∧ s * (ceilD a s - 1) < a := by
  unfold ceilD
  have e := Int.emod_add_mul_ediv (-a) s
  have a0 := Int.emod_nonneg (-a) (by omega : s ≠ 0)
  have a1 := Int.emod_lt_of_pos (-a) hs
  generalize (-a) / s = t at e
  have m1 : s * (-t) = -(s * t) := Int.mul_neg s t
  have m2 : s * (-t - 1) = -(s * t) - s := by rw [Int.mul_sub, m1, Int.mul_one]
  rw [m1, m2]
  omega
end HT
namespace HT
theorem mod_small {x M : Int} (h0 : 0 ≤ x) (h1 : x < M) : x % M = x := Int.emod_eq_of_lt h0 h1
theorem divmod_eq' {s q r x : Int} (hs : 0 < s) (h : x = s * q + r) (r0 : 0 ≤ r) (r1 : r < s) : x / s = q ∧ x % s = r := by
  subst h
  constructor
  · rw [Int.add_comm, Int.add_mul_ediv_left _ _ (by omega : s ≠ 0), Int.ediv_eq_zero_of_lt r0 r1, Int.zero_add]
  · rw [Int.add_comm, Int.add_mul_emod_self_left, Int.emod_eq_of_lt r0 r1]
theorem hit_zero {least greatest M : Int} (h0 : 0 < least) (k : Nat) : ¬ Hit 0 least greatest M k := by
  rintro ⟨a, _⟩
  rw [Int.zero_mul, Int.zero_emod] at a
  omega
theorem ceil_le {a s k : Int} (hs : 0 < s) (h : a ≤ s * k) : ceilD a s ≤ k := by
  have c := (ceilD_spec (a := a) hs).2
  refine Decidable.byContradiction fun z => ?_
  have h2 : s * k ≤ s * (ceilD a s - 1) := Int.mul_le_mul_of_nonneg_left (by omega) (by omega)
  omega
theorem ceil_pos {a s : Int} (hs : 0 < s) (ha : 0 < a) : 0 < ceilD a s := by
  have c := (ceilD_spec (a := a) hs).1
  refine Decidable.byContradiction fun z => ?_
  have h2 : s * ceilD a s ≤ s * 0 := Int.mul_le_mul_of_nonneg_left (by omega) (by omega)
  omega
/-- the first round reaches a place -/
theorem hit_direct {s l g M : Int} (hs : 0 < s) (h0 : 0 < l) (h1 : g < M) (h : s * ceilD l s ≤ g) : Least (Hit s l g M) (some (ceilD l s).toNat) := by
  have c := ceilD_spec (a := l) hs
  have cp := ceil_pos hs h0
  have e : (((ceilD l s).toNat : Nat) : Int) = ceilD l s := Int.toNat_of_nonneg (by omega)
  refine ⟨?_, fun j hj => ?_⟩
  · unfold Hit
    rw [e, mod_small (by omega) (by omega)]
    exact ⟨c.1, h⟩
  · rintro ⟨a, b⟩
    have hj' : (j : Int) ≤ ceilD l s - 1 := by omega
    have h2 : s * (j : Int) ≤ s * (ceilD l s - 1) := Int.mul_le_mul_of_nonneg_left hj' (by omega)
    have h3 : 0 ≤ s * (j : Int) := Int.mul_nonneg (by omega) (by omega)
    rw [mod_small h3 (by omega)] at a
    omega
/-- both ends lie in one cell -/
theorem one_cell {s l g : Int} (hs : 0 < s) (h : g < s * ceilD l s) (hl : l ≤ g) : l / s = g / s ∧ 0 < l % s ∧ l % s ≤ g % s := by
  have c := ceilD_spec (a := l) hs
  generalize ceilD l s = t at c h
  have e1 : s * (t - 1) = s * t - s := by rw [Int.mul_sub, Int.mul_one]
  have q1 : l / s = t - 1 := by
    refine (divmod_eq' hs (q := t - 1) (r := l - s * (t - 1)) (by omega) (by omega) (by omega)).1
  have q2 : g / s = t - 1 := by
    refine (divmod_eq' hs (q := t - 1) (r := g - s * (t - 1)) (by omega) (by omega) (by omega)).1
  have m1 := Int.emod_add_mul_ediv l s
  have m2 := Int.emod_add_mul_ediv g s
  rw [q1] at m1
  rw [q2] at m2
  exact ⟨by rw [q1, q2], by omega, by omega⟩
end HT
namespace HT
theorem hit_round {s l g M : Int} (hM : 0 < M) (hs : 0 ≤ s) (h0 : 0 < l) (h1 : g < M) (k : Nat) : Hit s l g M k ↔ ∃ n : Nat, l + M * (n : Int) ≤ s * (k : Int) ∧ s * (k : Int) ≤ g + M * (n : Int) := by
  have p : 0 ≤ s * (k : Int) := Int.mul_nonneg hs (by omega)
  unfold Hit
  generalize s * (k : Int) = x at p
  have e := Int.emod_add_mul_ediv x M
  have q0 : 0 ≤ x / M := Int.ediv_nonneg p (by omega)
  constructor
  · rintro ⟨a, b⟩
    refine ⟨(x / M).toNat, ?_, ?_⟩ <;> rw [Int.toNat_of_nonneg q0] <;> omega
  · rintro ⟨n, a, b⟩
    have d := (divmod_eq' hM (q := (n : Int)) (r := x - M * (n : Int)) (x := x) (by omega) (by omega) (by omega)).2
    rw [d]
    omega
theorem hit_cell {s l g M : Int} (hs : 0 < s) (hl : l ≤ g) (h : g < s * ceilD l s) (n : Nat) : Hit ((-M) % s) (l % s) (g % s) s n ↔ ∃ k : Int, l + M * (n : Int) ≤ s * k ∧ s * k ≤ g + M * (n : Int) := by
  obtain ⟨c1, c2, c3⟩ := one_cell hs h hl
  have el := Int.emod_add_mul_ediv l s
  have eg := Int.emod_add_mul_ediv g s
  rw [← c1] at eg
  have e : (((-M) % s) * (n : Int)) % s = (-(M * (n : Int))) % s := by
    rw [Int.mul_emod, Int.emod_emod, ← Int.mul_emod, Int.neg_mul]
  unfold Hit
  rw [e]
  generalize M * (n : Int) = y
  have ew := Int.emod_add_mul_ediv (-y) s
  have w0 := Int.emod_nonneg (-y) (by omega : s ≠ 0)
  have w1 := Int.emod_lt_of_pos (-y) hs
  have lm := Int.emod_lt_of_pos g hs
  have ll := Int.emod_nonneg l (by omega : s ≠ 0)
  constructor
  · rintro ⟨a, b⟩
    refine ⟨l / s - (-y) / s, ?_, ?_⟩ <;> rw [Int.mul_sub] <;> omega
  · rintro ⟨k, a, b⟩
    -- s k - y lies in the cell of l
    have d := divmod_eq' hs (q := l / s) (r := s * k - y - s * (l / s)) (x := s * k - y) (by omega) (by omega) (by omega)
    have f : (s * k - y) % s = (-y) % s := by
      rw [show s * k - y = -y + s * k by omega, Int.add_mul_emod_self_left]
    rw [f] at d
    omega
theorem mono_mul {M : Int} (hM : 0 < M) {a b : Nat} (h : a ≤ b) : M * (a : Int) ≤ M * (b : Int) := Int.mul_le_mul_of_nonneg_left (by omega) (by omega)
/-- behind the rounds that leap over the places -/
theorem hit_rec {s l g M : Int} (hs : 0 < s) (hM : 0 < M) (h0 : 0 < l) (hl : l ≤ g) (h1 : g < M) (h : g < s * ceilD l s) {r : Option Nat} (L : Least (Hit ((-M) % s) (l % s) (g % s) s) r) :
    Least (Hit s l g M) (r.map fun n => (ceilD (l + M * (n : Int)) s).toNat) := by
  cases r with
  | none =>
    intro k hk
    obtain ⟨n, a, b⟩ := (hit_round hM (by omega) h0 h1 k).mp hk
    exact L n ((hit_cell hs hl h n).mpr ⟨k, a, b⟩)
  | some n =>
    obtain ⟨L1, L2⟩ := L
    obtain ⟨k, a, b⟩ := (hit_cell hs hl h n).mp L1
    have nn : 0 ≤ M * (n : Int) := Int.mul_nonneg (by omega) (by omega)
    have cs := ceilD_spec (a := l + M * (n : Int)) hs
    have cp := ceil_pos hs (show 0 < l + M * (n : Int) by omega)
    have ck := ceil_le hs a
    have e : ((((ceilD (l + M * (n : Int)) s).toNat) : Nat) : Int) = ceilD (l + M * (n : Int)) s := Int.toNat_of_nonneg (by omega)
    refine ⟨?_, fun j hj hit => ?_⟩
    · refine (hit_round hM (by omega) h0 h1 _).mpr ⟨n, ?_, ?_⟩
      · rw [e]; exact cs.1
      · rw [e]
        have : s * ceilD (l + M * (n : Int)) s ≤ s * k := Int.mul_le_mul_of_nonneg_left ck (by omega)
        omega
    · obtain ⟨n2, a2, b2⟩ := (hit_round hM (by omega) h0 h1 j).mp hit
      have nle : n ≤ n2 := Decidable.byContradiction fun z => L2 n2 (by omega) ((hit_cell hs hl h n2).mpr ⟨j, a2, b2⟩)
      have m := mono_mul hM nle
      have := ceil_le hs (show l + M * (n : Int) ≤ s * (j : Int) by omega)
      have hj' : j < (ceilD (l + M * (n : Int)) s).toNat := hj
      omega
/-- the places from start on by their remainder -/
def HitS (start step most M : Int) (k : Nat) : Prop := (start + step * (k : Int)) % M ≤ most
theorem hits_iff {start step most M : Int} (hM : 0 < M) (h0 : 0 ≤ most) (hl : 0 < (-start) % M) (h1 : (-start) % M + most < M) (k : Nat) : HitS start step most M k ↔ Hit (step % M) ((-start) % M) ((-start) % M + most) M k := by
  have e : ((step % M) * (k : Int)) % M = (step * (k : Int)) % M := by
    rw [Int.mul_emod, Int.emod_emod, ← Int.mul_emod]
  unfold HitS Hit
  rw [e]
  generalize step * (k : Int) = x
  have l1 := Int.emod_lt_of_pos (-start) hM
  generalize el : (-start) % M = l at hl h1 l1
  have es : ∃ t, start = -l + M * t := by
    have := Int.emod_add_mul_ediv (-start) M
    rw [el] at this
    exact ⟨-((-start) / M), by rw [Int.mul_neg]; omega⟩
  obtain ⟨t, rfl⟩ := es
  have e2 : (-l + M * t + x) % M = (x - l) % M := by
    rw [show -l + M * t + x = x - l + M * t by omega, Int.add_mul_emod_self_left]
  rw [e2]
  have ex := Int.emod_add_mul_ediv x M
  have x0 := Int.emod_nonneg x (by omega : M ≠ 0)
  have x1 := Int.emod_lt_of_pos x hM
  generalize x % M = r at ex x0 x1
  generalize x / M = qq at ex
  by_cases c : l ≤ r
  · have d := (divmod_eq' hM (q := qq) (r := r - l) (x := x - l) (by omega) (by omega) (by omega)).2
    rw [d]
    omega
  · have d := (divmod_eq' hM (q := qq - 1) (r := r - l + M) (x := x - l) (by rw [Int.mul_sub, Int.mul_one]; omega) (by omega) (by omega)).2
    rw [d]
    omega
theorem hits_zero {start step most M : Int} (hM : 0 < M) (h0 : 0 ≤ most) (h : (-start) % M = 0 ∨ M ≤ (-start) % M + most) : Least (HitS start step most M) (some 0) := by
  refine ⟨?_, fun j hj => absurd hj (Nat.not_lt_zero _)⟩
  unfold HitS
  rw [show start + step * ((0 : Nat) : Int) = start by omega]
  have e := Int.emod_add_mul_ediv (-start) M
  have l0 := Int.emod_nonneg (-start) (by omega : M ≠ 0)
  have l1 := Int.emod_lt_of_pos (-start) hM
  generalize (-start) / M = t at e
  generalize (-start) % M = l at e l0 l1 h
  by_cases c : l = 0
  · have d := (divmod_eq' hM (q := -t) (r := 0) (x := start) (by rw [Int.mul_neg]; omega) (by omega) (by omega)).2
    rw [d]
    exact h0
  · have d := (divmod_eq' hM (q := -t - 1) (r := M - l) (x := start) (by rw [Int.mul_sub, Int.mul_neg, Int.mul_one]; omega) (by omega) (by omega)).2
    rw [d]
    omega
end HT
namespace HT
open PySem L2
def oN : Option Nat → V
  | none => .non
  | some k => .int (k : Int)
def spFB (n : Nat) : Sp := fun vs H Q _ => ∃ s l g M : Int, vs = [.int s, .int l, .int g, .int M] ∧ 0 ≤ s ∧ s < M ∧ 0 < l ∧ l ≤ g ∧ g < M ∧ M < 2 ^ n ∧ ∀ r, Least (Hit s l g M) r → Q (oN r) H
theorem hit_lt {s l g M : Int} (hM : 0 < M) {k : Nat} (h : Least (Hit s l g M) (some k)) : (k : Int) < M := by
  by_cases e : (k : Int) < M
  · exact e
  · exfalso
    obtain ⟨⟨a, b⟩, c⟩ := h
    refine c (k - M.toNat) (by omega) ?_
    have e2 : s * ((k - M.toNat : Nat) : Int) = s * (k : Int) - M * s := by
      rw [show ((k - M.toNat : Nat) : Int) = (k : Int) - M by omega, Int.mul_sub, Int.mul_comm M s]
    unfold Hit
    rw [e2, Int.sub_mul_emod_self_left]
    exact ⟨a, b⟩
section
variable {P : Program} {w : World} {K : PySem.W.Frag} {mg : Str → Option Value} {base : Heap} {fC : Addr} {dC : FuncData}
theorem ok_fb0 {f : Addr} {fd : FuncData} (F : Fun K "_first_between" "_first_between" s_first_between f fd) : FnOk P w K mg base CX0 1 f fd ["step", "least", "greatest", "modulus"] (spFB 0) := by
  refine F.ok sc_first_between (fun vs H Q E h => ?_) (fun cdv A outer s0 H vs Q E hr h => ?_)
  · obtain ⟨s, l, g, M, rfl, _⟩ := h
    rfl
  · exfalso
    obtain ⟨s, l, g, M, rfl, s0, s1, l0, lg, g1, M1, q⟩ := h
    rw [Int.pow_zero] at M1
    omega
theorem ok_fbS {f : Addr} {fd : FuncData} {n : Nat} (F : Fun K "_first_between" "_first_between" s_first_between f fd) (hn : n ≤ 200) (Se : Cal P w K mg base "_first_between" (n + 1) ["step", "least", "greatest", "modulus"] (spFB n) f fd) : FnOk P w K mg base CX0 (n + 2) f fd ["step", "least", "greatest", "modulus"] (spFB (n + 1)) := by
  refine F.ok sc_first_between (fun vs H Q E h => ?_) (fun cdv A outer s0 H vs Q E hr h => ?_)
  · obtain ⟨s, l, g, M, rfl, _⟩ := h
    rfl
  · obtain ⟨s, l, g, M, rfl, s0, s1, l0, lg, g1, M1, q⟩ := h
    have nd := sc_first_between.nd
    refine ⟨_, (pss_cons (ps_if (pt_cmpR op_eq (pv 0) pe_int (nomark _)) (pss_one (ps_ret pe_non)) pss_nil)
      (pss_cons (ps_if (pt_cmpR op_gt (pe_op op_mul pe_int (pv 0)) (pv 3) (nomark _)) (pss_one (ps_par3 (i := 0) (j := 1) (l := 2) (by rfl) nd rfl rfl rfl (by decide) (by decide) (by decide) rfl rfl rfl (pa_cons (pe_op op_sub (pv 3) (pv 0)) (pa_cons (pe_op op_sub (pv 3) (pv 2)) (pa_cons (pe_op op_sub (pv 3) (pv 1)) pa_nil))) (by rfl))) pss_nil)
      (pss_cons (ps_set (i := 4) nd rfl (Or.inl rfl) (pe_un un_neg (pe_op op_fdivW (pe_un un_neg (pv 1)) (pv 0))))
      (pss_cons (ps_if (pt_cmpR op_le (pe_op op_mulW (pv 0) (pv 4)) (pv 2) (nomark _)) (pss_one (ps_ret (pv 4))) pss_nil)
      (pss_cons (ps_set (i := 5) nd rfl (Or.inl rfl) (pcl Se hr (Nat.le_refl _) (by rfl) (pa_cons (pe_op op_mod (pe_un un_neg (pv 3)) (pv 0)) (pa_cons (pe_op op_mod (pv 1) (pv 0)) (pa_cons (pe_op op_mod (pv 2) (pv 0)) (pa_cons (pv 0) pa_nil))))))
      (pss_cons (ps_if (pt_cmpR op_isN (pv 5) pe_non (nomark _)) (pss_one (ps_ret pe_non)) pss_nil)
      (pss_one (ps_ret (pe_un un_neg (pe_op op_fdivW (pe_un un_neg (pe_op op_add (pv 1) (pe_op op_mulW (pv 3) (pv 5)))) (pv 0))))))))))), ?_⟩
    have pw : (2 : Int) ^ (n + 1) = 2 * 2 ^ n := by rw [Int.pow_succ]; omega
    have bigN : (2 : Nat) ^ (n + 1) ≤ 2 ^ 201 := Nat.pow_le_pow_right (by decide) (by omega)
    have big : (2 : Int) ^ (n + 1) ≤ 2 ^ 201 := by exact_mod_cast bigN
    have hM : 0 < M := by omega
    walk_at "rd"
    refine ⟨rfl, ?_⟩
    walk_at "rd"
    refine ite2 (fun z => ?_) (fun z => ?_)
    · have e := int_t z
      subst e
      walk_at "rd"
      exact q none fun k hk => hit_zero l0 k hk
    have sp : 0 < s := by have := int_f z; omega
    walk_at "rd"
    refine ⟨.inl ⟨by decide, by decide⟩, ?_⟩
    walk_at "rd"
    refine ite2 (fun z => ?a) (fun z => ?b)
    case' a =>
      have fl : M < 2 * s := by have := of_decide_eq_true z; omega
      walk_at "rd"
      refine ⟨_, _, _, rfl, ?_⟩
      dsimp only
      have q2 : ∀ r, Least (Hit (M - s) (M - g) (M - l) M) r → Q (oN r) H := fun r L => q r (least_congr (fun k => hit_flip hM l0 g1 k) L)
      have t1 : 0 < M - s := by omega
      have t2 : 2 * (M - s) ≤ M := by omega
      have t3 : 0 < M - g := by omega
      have t4 : M - g ≤ M - l := by omega
      have t5 : M - l < M := by omega
      generalize M - s = s' at q2 t1 t2 ⊢
      generalize M - g = l' at q2 t3 t4 ⊢
      generalize M - l = g' at q2 t4 t5 ⊢
    case' b =>
      have q2 := q
      have t1 := sp
      have t2 : 2 * s ≤ M := by
        have : ¬ M < 2 * s := fun y => z (decide_eq_true (by omega))
        omega
      have t3 := l0
      have t4 := lg
      have t5 := g1
      generalize s = s' at q2 t1 t2 ⊢
      generalize l = l' at q2 t3 t4 ⊢
      generalize g = g' at q2 t4 t5 ⊢
    all_goals
      walk_at "rd"
      refine ⟨fdiv_ok _ t1 (lg_big (by omega) (by omega)), ?_⟩
      walk_at "rd"
      have cp := ceil_pos t1 t3
      have cl : ceilD l' s' ≤ l' := ceil_le t1 (by
        have : 1 * l' ≤ s' * l' := Int.mul_le_mul_of_nonneg_right (by omega) (by omega)
        omega)
      have ec : -((-l') / s') = ceilD l' s' := rfl
      rw [ec]
      refine ⟨mulW (by omega) (by omega), ?_⟩
      walk_at "rd"
      refine ite2 (fun z => ?_) (fun z => ?_)
      · walk_at "rd"
        have y : Q (.int (((ceilD l' s').toNat : Nat) : Int)) H := q2 _ (hit_direct t1 t3 t5 (of_decide_eq_true z))
        have e2 : (((ceilD l' s').toNat : Nat) : Int) = ceilD l' s' := Int.toNat_of_nonneg (by omega)
        rw [e2] at y
        exact y
      · have hh : g' < s' * ceilD l' s' := by
          have : ¬ s' * ceilD l' s' ≤ g' := fun y => z (decide_eq_true y)
          omega
        obtain ⟨o1, o2, o3⟩ := one_cell t1 hh t4
        walk_at "rd"
        refine ⟨t1, ?_⟩
        walk_at "rd"
        refine ⟨t1, ?_⟩
        walk_at "rd"
        refine ⟨t1, ?_⟩
        walk_at "rd"
        refine ⟨(-M) % s', l' % s', g' % s', s', rfl, Int.emod_nonneg _ (by omega), Int.emod_lt_of_pos _ t1, o2, o3, Int.emod_lt_of_pos _ t1, by omega, fun r L => ?_⟩
        have L2 := hit_rec t1 hM t3 t4 t5 hh L
        walk_at "rd"
        cases r with
        | none =>
          refine ⟨rfl, ?_⟩
          walk_at "rd"
          exact q2 none L2
        | some n =>
          have nl := hit_lt t1 L
          refine ⟨rfl, ?_⟩
          walk_at "rd"
          refine ⟨mulW (by omega) (by omega), ?_⟩
          walk_at "rd"
          refine ⟨fdiv_ok _ t1 (lg_big (by omega) (by omega)), ?_⟩
          walk_at "rd"
          have y : Q (.int (((ceilD (l' + M * (n : Int)) s').toNat : Nat) : Int)) H := q2 _ L2
          have mn : 0 ≤ M * (n : Int) := Int.mul_nonneg (by omega) (by omega)
          have c2 := ceil_pos t1 (show 0 < l' + M * (n : Int) by omega)
          have e2 : (((ceilD (l' + M * (n : Int)) s').toNat : Nat) : Int) = ceilD (l' + M * (n : Int)) s' := Int.toNat_of_nonneg (by omega)
          rw [e2] at y
          exact y
theorem ok_fb {f : Addr} {fd : FuncData} (F : Fun K "_first_between" "_first_between" s_first_between f fd) (m : mg "_first_between" = some (.ref f)) (k : PySem.W.keepIn K (.ref f) = true) (b : Binds K fd ["step", "least", "greatest", "modulus"] []) : ∀ n, n ≤ 200 → FnOk P w K mg base CX0 (n + 1) f fd ["step", "least", "greatest", "modulus"] (spFB n)
  | 0, _ => ok_fb0 F
  | n + 1, h => ok_fbS F (by omega) ⟨ok_fb F m k b n (by omega), m, k, b⟩
end
end HT
namespace HT
open PySem L2
theorem due_more {o s : Int} {m : Str} {v : Int} (hm : Mode m) (hs : 1 ≤ s) (n : Nat) : dueM o s m (v + s * 2 * (n : Int)) = dueM o s m v + s * 2 * (n : Int) := by
  induction n with
  | zero => rw [show v + s * 2 * ((0 : Nat) : Int) = v by simp]; simp
  | succ n ih =>
    have e : s * 2 * ((n + 1 : Nat) : Int) = s * 2 * (n : Int) + s * 2 := by
      rw [show ((n + 1 : Nat) : Int) = (n : Int) + 1 by omega, Int.mul_add, Int.mul_one]
    rw [e, show v + (s * 2 * (n : Int) + s * 2) = v + s * 2 * (n : Int) + s * 2 by omega, due_two hm hs, ih]
    omega
theorem due_per {o s : Int} {m : Str} {v : Int} (hm : Mode m) (hs : 1 ≤ s) (t : Int) : dueM o s m (v + s * 2 * t) = dueM o s m v + s * 2 * t := by
  rcases Int.le_total 0 t with h | h
  · obtain ⟨n, rfl⟩ := Int.eq_ofNat_of_zero_le h
    exact due_more hm hs n
  · obtain ⟨n, hn⟩ := Int.eq_ofNat_of_zero_le (show 0 ≤ -t by omega)
    have := due_more (o := o) (v := v + s * 2 * t) hm hs n
    have e : s * 2 * (n : Int) = -(s * 2 * t) := by rw [← hn, Int.mul_neg]
    rw [e, show v + s * 2 * t + -(s * 2 * t) = v by omega] at this
    omega
/-- the order of the sides (o, s, m) and (p, u, q) matters for x -/
def diffX (o s : Int) (m : Str) (p u : Int) (q : Str) (x : Int) : Prop := dueM p u q (dueM o s m x) ≠ dueM o s m (dueM p u q x)
theorem due_com {o s : Int} {m : Str} {v : Int} (hm : Mode m) (hs : 1 ≤ s) (t : Int) : dueM o s m (v + perM s m * t) = dueM o s m v + perM s m * t := by
  unfold perM
  by_cases e : m = "half_even"
  · rw [if_pos e, Int.mul_comm 2 s]
    exact due_per hm hs t
  · rw [if_neg e]
    obtain ⟨eq, r0, r1, wh⟩ := fig_of (o := o) (m := m) (v := v) hs
    generalize (v - o) / s = q at eq wh
    generalize (v - o) % s = r at eq r0 r1 wh
    have g : goesUp m s (q + t) r = goesUp m s q r := by
      unfold goesUp
      rw [if_neg e, if_neg e]
    have F2 : Fig o s m (v + s * t) (q + t) r (figM o s m v + t) := by
      refine ⟨?_, r0, r1, ?_⟩
      · rw [Int.mul_add]; omega
      · rw [g]
        rcases wh with ⟨a, b⟩ | ⟨a, b⟩
        · exact .inl ⟨a, by omega⟩
        · exact .inr ⟨a, by omega⟩
    have z := fig_uniq hs F2
    unfold dueM
    rw [z, Int.mul_add]
    omega
theorem due_dvd {o s : Int} {m : Str} {v L : Int} (hm : Mode m) (hs : 1 ≤ s) (h : perM s m ∣ L) : dueM o s m (v + L) = dueM o s m v + L := by
  obtain ⟨t, rfl⟩ := h
  exact due_com hm hs t
theorem due_monoN {o s : Int} {m : Str} {v : Int} (hm : Mode m) (hs : 1 ≤ s) : ∀ n : Nat, dueM o s m v ≤ dueM o s m (v + (n : Int))
  | 0 => by rw [show v + ((0 : Nat) : Int) = v by omega]; exact Int.le_refl _
  | n + 1 => by
    have a := due_monoN hm hs n (o := o) (v := v)
    have b := due_mono hm hs (o := o) (v := v + (n : Int))
    rw [show v + ((n + 1 : Nat) : Int) = v + (n : Int) + 1 by omega]
    omega
theorem due_le {o s : Int} {m : Str} {v y : Int} (hm : Mode m) (hs : 1 ≤ s) (h : v ≤ y) : dueM o s m v ≤ dueM o s m y := by
  have := due_monoN hm hs (y - v).toNat (o := o) (v := v)
  rw [show v + (((y - v).toNat : Nat) : Int) = y by omega] at this
  exact this
/-- the values of a block -/
def InB (st mo pe v : Int) : Prop := (v - st) % pe ≤ mo
instance (st mo pe v : Int) : Decidable (InB st mo pe v) := by unfold InB; exact inferInstance
def fibM (st mo pe v : Int) : Int := if (v - st) % pe ≤ mo then v else v + pe - (v - st) % pe
theorem inb_add {st mo pe v t : Int} : InB st mo pe (v + pe * t) ↔ InB st mo pe v := by
  unfold InB
  rw [show v + pe * t - st = v - st + pe * t by omega, Int.add_mul_emod_self_left]
theorem inb_of {st mo pe v r t : Int} (h : v = st + pe * t + r) (r0 : 0 ≤ r) (r1 : r < pe) (rm : r ≤ mo) : InB st mo pe v := by
  unfold InB
  rw [show v - st = r + pe * t by omega, Int.add_mul_emod_self_left, Int.emod_eq_of_lt r0 r1]
  exact rm
theorem inb_at {st mo pe v : Int} (hp : 0 < pe) (h : InB st mo pe v) : ∃ t r : Int, v = st + pe * t + r ∧ 0 ≤ r ∧ r ≤ mo ∧ r < pe := by
  refine ⟨(v - st) / pe, (v - st) % pe, ?_, Int.emod_nonneg _ (by omega), h, Int.emod_lt_of_pos _ hp⟩
  have := Int.emod_add_mul_ediv (v - st) pe
  omega
theorem mul_pos_le {pe a b : Int} (hp : 0 < pe) (h : a < b) : pe * a + pe ≤ pe * b := by
  have : pe * (a + 1) ≤ pe * b := Int.mul_le_mul_of_nonneg_left (by omega) (by omega)
  rw [Int.mul_add, Int.mul_one] at this
  exact this
theorem fib_spec {st mo pe v : Int} (hp : 0 < pe) (hm : 0 ≤ mo) : v ≤ fibM st mo pe v ∧ fibM st mo pe v < v + pe ∧ InB st mo pe (fibM st mo pe v) ∧ ∀ y, v ≤ y → y < fibM st mo pe v → ¬ InB st mo pe y := by
  have r0 := Int.emod_nonneg (v - st) (show pe ≠ 0 by omega)
  have r1 := Int.emod_lt_of_pos (v - st) hp
  have ee := Int.emod_add_mul_ediv (v - st) pe
  unfold fibM
  by_cases h : (v - st) % pe ≤ mo
  · rw [if_pos h]
    exact ⟨by omega, by omega, h, fun y a b => by omega⟩
  · rw [if_neg h]
    refine ⟨by omega, by omega, ?_, fun y a b c => ?_⟩
    · refine inb_of (t := (v - st) / pe + 1) (r := 0) ?_ (by omega) hp hm
      rw [Int.mul_add]
      omega
    · obtain ⟨t, r, e1, e2, e3, e4⟩ := inb_at hp c
      rcases Int.lt_trichotomy t ((v - st) / pe) with z | z | z
      · have := mul_pos_le hp z
        omega
      · rw [z] at e1
        omega
      · have := mul_pos_le hp z
        omega
/-- the least value from v on with a property -/
def LeastI (Pr : Int → Prop) (v : Int) : Option Int → Prop
  | some x => v ≤ x ∧ Pr x ∧ ∀ y, v ≤ y → y < x → ¬ Pr y
  | none => ∀ y, v ≤ y → ¬ Pr y
theorem leastI_congr {A B : Int → Prop} {v : Int} {r : Option Int} (h : ∀ x, A x ↔ B x) (e : LeastI A v r) : LeastI B v r := by
  cases r with
  | none => exact fun y z w => e y z ((h y).mpr w)
  | some x => exact ⟨e.1, (h x).mp e.2.1, fun y y0 y1 z => e.2.2 y y0 y1 ((h y).mpr z)⟩
/-- a place of one block holds a value of the other -/
theorem place_iff {b mo os om op : Int} (hp : 0 < op) (hm : 0 ≤ mo) (ho : 0 ≤ om) : (∃ y, b ≤ y ∧ y ≤ b + mo ∧ InB os om op y) ↔ (b + mo - os) % op ≤ mo + om := by
  have r0 := Int.emod_nonneg (b + mo - os) (show op ≠ 0 by omega)
  have r1 := Int.emod_lt_of_pos (b + mo - os) hp
  have ee := Int.emod_add_mul_ediv (b + mo - os) op
  constructor
  · rintro ⟨y, h1, h2, h3⟩
    obtain ⟨t, r, e1, e2, e3, e4⟩ := inb_at hp h3
    have e5 : b + mo - os = (r + (b + mo - y)) + op * t := by omega
    rw [e5, Int.add_mul_emod_self_left]
    have := Int.emod_add_mul_ediv (r + (b + mo - y)) op
    have q0 : 0 ≤ (r + (b + mo - y)) / op := Int.ediv_nonneg (by omega) (by omega)
    have q1 : 0 ≤ op * ((r + (b + mo - y)) / op) := Int.mul_nonneg (by omega) q0
    omega
  · intro h
    by_cases e : (b + mo - os) % op ≤ om
    · exact ⟨b + mo, by omega, by omega, e⟩
    · refine ⟨b + mo - ((b + mo - os) % op - om), by omega, by omega, ?_⟩
      refine inb_of (t := (b + mo - os) / op) (r := om) ?_ ho (by omega) (by omega)
      omega
/-- first_in_both, as the program finds it -/
theorem both_near {st mo pe os om op v : Int} (hp : 0 < pe) (hm : 0 ≤ mo) (hq : 0 < op) (ho : 0 ≤ om) (hmp : mo < pe)
    (h : fibM os om op (fibM st mo pe v) ≤ fibM st mo pe v - (fibM st mo pe v - st) % pe + mo) : LeastI (fun x => InB st mo pe x ∧ InB os om op x) v (some (fibM os om op (fibM st mo pe v))) := by
  obtain ⟨a1, a2, a3, a4⟩ := fib_spec (v := v) (st := st) hp hm
  generalize fibM st mo pe v = x at *
  obtain ⟨b1, b2, b3, b4⟩ := fib_spec (v := x) (st := os) hq ho
  generalize fibM os om op x = z at *
  have r0 := Int.emod_nonneg (x - st) (show pe ≠ 0 by omega)
  have ee := Int.emod_add_mul_ediv (x - st) pe
  refine ⟨by omega, ⟨?_, b3⟩, fun y y0 y1 c => ?_⟩
  · exact inb_of (t := (x - st) / pe) (r := z - (x - (x - st) % pe)) (by omega) (by omega) (by omega) (by omega)
  · by_cases g : y < x
    · exact a4 y y0 g c.1
    · exact b4 y (by omega) y1 c.2
theorem both_far {st mo pe os om op v : Int} (hp : 0 < pe) (hm : 0 ≤ mo) (hq : 0 < op) (ho : 0 ≤ om) (hmp : mo < pe) {r : Option Nat}
    (h : fibM st mo pe v - (fibM st mo pe v - st) % pe + mo < fibM os om op (fibM st mo pe v)) (L : Least (HitS (fibM st mo pe v - (fibM st mo pe v - st) % pe + pe + mo - os) pe (mo + om) op) r) :
    LeastI (fun x => InB st mo pe x ∧ InB os om op x) v (r.map fun k : Nat => fibM os om op (fibM st mo pe v - (fibM st mo pe v - st) % pe + pe + pe * (k : Int))) := by
  obtain ⟨a1, a2, a3, a4⟩ := fib_spec (v := v) (st := st) hp hm
  generalize fibM st mo pe v = x at *
  obtain ⟨b1, b2, b3, b4⟩ := fib_spec (v := x) (st := os) hq ho
  generalize fibM os om op x = z at *
  have r0 := Int.emod_nonneg (x - st) (show pe ≠ 0 by omega)
  have r1 := Int.emod_lt_of_pos (x - st) hp
  have ee := Int.emod_add_mul_ediv (x - st) pe
  have bx : (x - st) % pe ≤ mo := a3
  -- the places behind
  have key : ∀ y, v ≤ y → InB st mo pe y → InB os om op y → ∃ j : Nat, x - (x - st) % pe + pe + pe * (j : Int) ≤ y ∧ y ≤ x - (x - st) % pe + pe + pe * (j : Int) + mo ∧ HitS (x - (x - st) % pe + pe + mo - os) pe (mo + om) op j := by
    intro y y0 c1 c2
    have yx : x ≤ y := by
      by_cases g : y < x
      · exact absurd c1 (a4 y y0 g)
      · omega
    have yz : z ≤ y := by
      by_cases g : y < z
      · exact absurd c2 (b4 y yx g)
      · omega
    obtain ⟨t, r, e1, e2, e3, e4⟩ := inb_at hp c1
    have tj : (x - st) / pe < t := by
      rcases Int.lt_trichotomy t ((x - st) / pe) with q | q | q
      · have := mul_pos_le hp q
        omega
      · rw [q] at e1
        omega
      · exact q
    refine ⟨(t - (x - st) / pe - 1).toNat, ?_⟩
    have en : (((t - (x - st) / pe - 1).toNat : Nat) : Int) = t - (x - st) / pe - 1 := Int.toNat_of_nonneg (by omega)
    rw [en]
    have ep : pe * (t - (x - st) / pe - 1) = pe * t - pe * ((x - st) / pe) - pe := by rw [Int.mul_sub, Int.mul_sub, Int.mul_one]
    have l1 : x - (x - st) % pe + pe + pe * (t - (x - st) / pe - 1) ≤ y := by omega
    have l2 : y ≤ x - (x - st) % pe + pe + pe * (t - (x - st) / pe - 1) + mo := by omega
    refine ⟨l1, l2, ?_⟩
    unfold HitS
    rw [en]
    have := (place_iff hq hm ho).mp ⟨y, l1, l2, c2⟩
    rw [show x - (x - st) % pe + pe + mo - os + pe * (t - (x - st) / pe - 1) = x - (x - st) % pe + pe + pe * (t - (x - st) / pe - 1) + mo - os by omega]
    exact this
  cases r with
  | none =>
    intro y y0 c
    obtain ⟨j, _, _, hj⟩ := key y y0 c.1 c.2
    exact L j hj
  | some k =>
    obtain ⟨L1, L2⟩ := L
    have kk : (x - (x - st) % pe + pe + pe * (k : Int) + mo - os) % op ≤ mo + om := by
      unfold HitS at L1
      rw [show x - (x - st) % pe + pe + pe * (k : Int) + mo - os = x - (x - st) % pe + pe + mo - os + pe * (k : Int) by omega]
      exact L1
    obtain ⟨y, h1, h2, h3⟩ := (place_iff hq hm ho).mpr kk
    have kp : 0 ≤ pe * (k : Int) := Int.mul_nonneg (by omega) (by omega)
    obtain ⟨d1, d2, d3, d4⟩ := fib_spec (v := x - (x - st) % pe + pe + pe * (k : Int)) (st := os) hq ho
    show LeastI _ v (some (fibM os om op (x - (x - st) % pe + pe + pe * (k : Int))))
    generalize hf : fibM os om op (x - (x - st) % pe + pe + pe * (k : Int)) = f at d1 d2 d3 d4
    have fy : f ≤ y := by
      by_cases g : y < f
      · exact absurd h3 (d4 y h1 g)
      · omega
    refine ⟨by omega, ⟨?_, d3⟩, fun w w0 w1 c => ?_⟩
    · refine inb_of (t := (x - st) / pe + 1 + (k : Int)) (r := f - (x - (x - st) % pe + pe + pe * (k : Int))) ?_ (by omega) (by omega) (by omega)
      rw [Int.mul_add, Int.mul_add, Int.mul_one]
      omega
    · obtain ⟨j, j1, j2, j3⟩ := key w w0 c.1 c.2
      have jk : k ≤ j := by
        by_cases g : j < k
        · exact absurd j3 (L2 j g)
        · omega
      have : pe * (k : Int) ≤ pe * (j : Int) := Int.mul_le_mul_of_nonneg_left (by omega) (by omega)
      exact d4 w (by omega) w1 c.2
/-- the figures of a period -/
def figsN (s : Int) (m : Str) : Int := perM s m / s
theorem figs_eq {s : Int} {m : Str} (hs : 1 ≤ s) : figsN s m = if m = "half_even" then 2 else 1 := by
  unfold figsN perM
  by_cases e : m = "half_even"
  · rw [if_pos e, if_pos e, Int.mul_ediv_cancel _ (by omega)]
  · rw [if_neg e, if_neg e, Int.ediv_self (by omega)]
theorem per_figs {s : Int} {m : Str} (hs : 1 ≤ s) : perM s m = s * figsN s m := by
  rw [figs_eq hs]
  unfold perM
  by_cases e : m = "half_even"
  · rw [if_pos e, if_pos e, Int.mul_comm]
  · rw [if_neg e, if_neg e, Int.mul_one]
theorem figs_bd {s : Int} {m : Str} (hs : 1 ≤ s) : 1 ≤ figsN s m ∧ figsN s m ≤ 2 := by
  rw [figs_eq hs]
  split <;> omega
theorem unr_iff {o s : Int} {m : Str} {v : Int} (hm : Mode m) (hs : 1 ≤ s) : dueM o s m v ≤ v ↔ ∃ k, 0 ≤ k ∧ k < figsN s m ∧ InB (o + s * k) (below (mir m) s k) (perM s m) v := by
  have fb := figs_bd (m := m) hs
  have pf := per_figs (m := m) hs
  have pp : s ≤ perM s m := by
    rw [pf]
    have : s * 1 ≤ s * figsN s m := Int.mul_le_mul_of_nonneg_left (by omega) (by omega)
    omega
  constructor
  · intro h
    have e0 := Int.emod_add_mul_ediv (figM o s m v) (figsN s m)
    refine ⟨figM o s m v % figsN s m, Int.emod_nonneg _ (by omega), Int.emod_lt_of_pos _ (by omega), ?_⟩
    generalize hk : figM o s m v % figsN s m = k at *
    generalize hj : figM o s m v / figsN s m = j at *
    have ev : v = (v - perM s m * j) + perM s m * j := by omega
    have dc := due_com (o := o) (v := v - perM s m * j) hm hs j
    rw [← ev] at dc
    have es : s * figM o s m v = s * k + perM s m * j := by
      rw [← e0, Int.mul_add, pf, Int.mul_assoc]
    have ed : dueM o s m v = o + s * k + perM s m * j := by
      unfold dueM
      omega
    have ed2 : dueM o s m (v - perM s m * j) = o + s * k := by omega
    have ef : figM o s m (v - perM s m * j) = k := by
      unfold dueM at ed2
      exact Int.eq_of_mul_eq_mul_left (show s ≠ 0 by omega) (by omega)
    have hi := ((fig_iff hm hs).mp ef).2
    unfold highM at hi
    have bb := below_bd (k := k) (mir_mode hm) hs
    exact inb_of (t := j) (r := v - perM s m * j - (o + s * k)) (by omega) (by omega) (by omega) (by omega)
  · rintro ⟨k, k0, k1, h⟩
    obtain ⟨t, r, e1, e2, e3, e4⟩ := inb_at (by omega) h
    have lh := low_high (o := o) (k := k) hm hs
    have ef : figM o s m (o + s * k + r) = k := (fig_iff hm hs).mpr ⟨by omega, by unfold highM; omega⟩
    have dc := due_com (o := o) (v := o + s * k + r) hm hs t
    rw [show o + s * k + r + perM s m * t = v by omega] at dc
    have ed : dueM o s m (o + s * k + r) = o + s * k := by
      unfold dueM
      rw [ef]
    omega
end HT
namespace HT
open PySem L2
def oV : Option Int → V
  | none => .non
  | some k => .int k
def spFH : Sp := fun vs H Q _ => ∃ st sp mo M : Int, vs = [.int st, .int sp, .int mo, .int M] ∧ 0 < M ∧ M < 2 ^ 102 ∧ 0 ≤ mo ∧ ∀ r, Least (HitS st sp mo M) r → Q (oN r) H
def blkV (st mo pe : Int) : HO := .tup [.int st, .int mo, .int pe]
structure BlkP (st mo pe : Int) : Prop where
  p0 : 0 < pe
  p1 : pe < 2 ^ 102
  m0 : 0 ≤ mo
  m1 : mo < pe
def spFIB : Sp := fun vs H Q _ => ∃ (b : Addr) (st mo pe v : Int), vs = [.ref b, .int v] ∧ H b = some (blkV st mo pe) ∧ BlkP st mo pe ∧ Q (.int (fibM st mo pe v)) H
def spFI2 : Sp := fun vs H Q _ => ∃ (a b : Addr) (st mo pe os om op v : Int), vs = [.ref a, .ref b, .int v] ∧ H a = some (blkV st mo pe) ∧ BlkP st mo pe ∧ H b = some (blkV os om op) ∧ BlkP os om op ∧ ∀ r, LeastI (fun x => InB st mo pe x ∧ InB os om op x) v r → Q (oV r) H
theorem hitS_lt {st sp mo M : Int} (hM : 0 < M) {k : Nat} (h : Least (HitS st sp mo M) (some k)) : (k : Int) < M := by
  by_cases e : (k : Int) < M
  · exact e
  · exfalso
    obtain ⟨a, c⟩ := h
    refine c (k - M.toNat) (by omega) ?_
    have e2 : st + sp * ((k - M.toNat : Nat) : Int) = st + sp * (k : Int) - M * sp := by
      rw [show ((k - M.toNat : Nat) : Int) = (k : Int) - M by omega, Int.mul_sub, Int.mul_comm M sp]
      omega
    unfold HitS
    rw [e2, Int.sub_mul_emod_self_left]
    exact a
section
variable {P : Program} {w : World} {K : PySem.W.Frag} {mg : Str → Option Value} {base : Heap} {fB fH fI : Addr} {dB dH dI : FuncData}
theorem ok_hit {f : Addr} {fd : FuncData} (F : Fun K "first_hit" "first_hit" s_first_hit f fd) (FB : Cal P w K mg base "_first_between" 103 ["step", "least", "greatest", "modulus"] (spFB 102) fB dB) : FnOk P w K mg base CX0 104 f fd ["start", "step", "most", "modulus"] spFH := by
  refine F.ok sc_first_hit (fun vs H Q E h => ?_) (fun cdv A outer s0 H vs Q E hr h => ?_)
  · obtain ⟨st, sp, mo, M, rfl, _⟩ := h
    rfl
  · obtain ⟨st, sp, mo, M, rfl, M0, M1, m0, q⟩ := h
    have nd := sc_first_hit.nd
    refine ⟨_, (pss_cons (ps_set (i := 4) nd rfl (Or.inl rfl) (pe_op op_mod (pe_un un_neg (pv 0)) (pv 3)))
      (pss_cons (ps_set (i := 5) nd rfl (Or.inl rfl) (pe_op op_add (pv 4) (pv 2)))
      (pss_cons (ps_if (PW.pt (pw_or (pt_cmpR op_eq (pv 4) pe_int (nomark _)) (pw_or1 (pt_cmpR op_ge (pv 5) (pv 3) (nomark _))))) (pss_one (ps_ret pe_int)) pss_nil)
      (pss_one (ps_ret (pcl FB hr (by decide) (by rfl) (pa_cons (pe_op op_mod (pv 1) (pv 3)) (pa_cons (pv 4) (pa_cons (pv 5) (pa_cons (pv 3) pa_nil)))))))))), ?_⟩
    have l0 := Int.emod_nonneg (-st) (show M ≠ 0 by omega)
    have l1 := Int.emod_lt_of_pos (-st) M0
    walk_at "rd"
    refine ⟨M0, ?_⟩
    walk_at "rd"
    refine ⟨rfl, ?_⟩
    walk_at "rd"
    refine ite2 (fun z => ?_) (fun z => ?_)
    · have e := int_t z
      walk_at "rd"
      exact q (some 0) (hits_zero M0 m0 (.inl e))
    have e1 := int_f z
    walk_at "rd"
    refine ite2 (fun z => ?_) (fun z => ?_)
    · have e := of_decide_eq_true z
      walk_at "rd"
      exact q (some 0) (hits_zero M0 m0 (.inr e))
    have e2 : (-st) % M + mo < M := by
      have : ¬ M ≤ (-st) % M + mo := fun y => z (decide_eq_true y)
      omega
    walk_at "rd"
    refine ⟨M0, ?_⟩
    walk_at "rd"
    refine ⟨sp % M, (-st) % M, (-st) % M + mo, M, rfl, Int.emod_nonneg _ (by omega), Int.emod_lt_of_pos _ M0, by omega, by omega, e2, M1, fun r L => ?_⟩
    exact q r (least_congr (fun k => (hits_iff M0 m0 (by omega) e2 k).symm) L)
theorem ok_fib {f : Addr} {fd : FuncData} (F : Fun K "first_in_block" "first_in_block" s_first_in_block f fd) : FnOk P w K mg base CX0 1 f fd ["block", "value"] spFIB := by
  refine F.ok sc_first_in_block (fun vs H Q E h => ?_) (fun cdv A outer s0 H vs Q E hr h => ?_)
  · obtain ⟨b, st, mo, pe, v, rfl, _⟩ := h
    rfl
  · obtain ⟨b, st, mo, pe, v, rfl, hb, BP, q⟩ := h
    have nd := sc_first_in_block.nd
    refine ⟨_, (pss_cons (ps_asg (pv 0) (pg_tup (by rfl) (pgs_cons (pg_name (i := 2) nd rfl (Or.inl rfl)) (pgs_cons (pg_name (i := 3) nd rfl (Or.inl rfl)) (pgs_cons (pg_name (i := 4) nd rfl (Or.inl rfl)) pgs_nil)))))
      (pss_cons (ps_set (i := 5) nd rfl (Or.inl rfl) (pe_op op_mod (pe_op op_sub (pv 1) (pv 2)) (pv 4)))
      (pss_cons (ps_if (pt_cmpR op_le (pv 5) (pv 3) (nomark _)) (pss_one (ps_ret (pv 1))) pss_nil)
      (pss_one (ps_ret (pe_op op_sub (pe_op op_add (pv 1) (pv 4)) (pv 5))))))), ?_⟩
    walk_at "rd"
    refine ⟨b, _, rfl, SqT.of hb, rfl, _, _, rfl, _, _, rfl, _, _, rfl, rfl, ?_⟩
    walk_at "rd"
    refine ⟨BP.p0, ?_⟩
    walk_at "rd"
    unfold fibM at q
    refine ite2 (fun z => ?_) (fun z => ?_)
    · rw [if_pos (of_decide_eq_true z)] at q
      walk_at "rd"
      exact q
    · rw [if_neg (fun y => z (decide_eq_true y))] at q
      walk_at "rd"
      exact q
theorem ok_fi2 {f : Addr} {fd : FuncData} (F : Fun K "first_in_both" "first_in_both" s_first_in_both f fd) (Fh : Cal P w K mg base "first_hit" 104 ["start", "step", "most", "modulus"] spFH fH dH) (Fi : Cal P w K mg base "first_in_block" 1 ["block", "value"] spFIB fI dI) : FnOk P w K mg base CX0 105 f fd ["one", "other", "value"] spFI2 := by
  refine F.ok sc_first_in_both (fun vs H Q E h => ?_) (fun cdv A outer s0 H vs Q E hr h => ?_)
  · obtain ⟨a, b, st, mo, pe, os, om, op, v, rfl, _⟩ := h
    rfl
  · obtain ⟨a, b, st, mo, pe, os, om, op, v, rfl, ha, BP, hb, CP, q⟩ := h
    have nd := sc_first_in_both.nd
    refine ⟨_, (pss_cons (ps_asg (pv 0) (pg_tup (by rfl) (pgs_cons (pg_name (i := 3) nd rfl (Or.inl rfl)) (pgs_cons (pg_name (i := 4) nd rfl (Or.inl rfl)) (pgs_cons (pg_name (i := 5) nd rfl (Or.inl rfl)) pgs_nil)))))
      (pss_cons (ps_set (i := 2) nd rfl (Or.inl rfl) (pcl Fi hr (by decide) (by rfl) (pa_cons (pv 0) (pa_cons (pv 2) pa_nil))))
      (pss_cons (ps_set (i := 6) nd rfl (Or.inl rfl) (pe_op op_sub (pv 2) (pe_op op_mod (pe_op op_sub (pv 2) (pv 3)) (pv 5))))
      (pss_cons (ps_set (i := 7) nd rfl (Or.inl rfl) (pcl Fi hr (by decide) (by rfl) (pa_cons (pv 1) (pa_cons (pv 2) pa_nil))))
      (pss_cons (ps_if (pt_cmpR op_le (pv 7) (pe_op op_add (pv 6) (pv 4)) (nomark _)) (pss_one (ps_ret (pv 7))) pss_nil)
      (pss_cons (ps_set (i := 6) nd rfl (Or.inl rfl) (pe_op op_add (pv 6) (pv 5)))
      (pss_cons (ps_asg (pv 1) (pg_tup (by rfl) (pgs_cons (pg_name (i := 8) nd rfl (Or.inl rfl)) (pgs_cons (pg_name (i := 9) nd rfl (Or.inl rfl)) (pgs_cons (pg_name (i := 10) nd rfl (Or.inl rfl)) pgs_nil)))))
      (pss_cons (ps_set (i := 11) nd rfl (Or.inl rfl) (pcl Fh hr (by decide) (by rfl) (pa_cons (pe_op op_sub (pe_op op_add (pv 6) (pv 4)) (pv 8)) (pa_cons (pv 5) (pa_cons (pe_op op_add (pv 4) (pv 9)) (pa_cons (pv 10) pa_nil))))))
      (pss_cons (ps_if (pt_cmpR op_isN (pv 11) pe_non (nomark _)) (pss_one (ps_ret pe_non)) pss_nil)
      (pss_one (ps_ret (pcl Fi hr (by decide) (by rfl) (pa_cons (pv 1) (pa_cons (pe_op op_add (pv 6) (pe_op op_mulW (pv 5) (pv 11))) pa_nil)))))))))))))), ?_⟩
    have p0 := BP.p0
    have p1 := BP.p1
    have o0 := CP.p0
    have o1 := CP.p1
    walk_at "rd"
    refine ⟨a, _, rfl, SqT.of ha, rfl, _, _, rfl, _, _, rfl, _, _, rfl, rfl, ?_⟩
    walk_at "rd"
    refine ⟨a, st, mo, pe, v, rfl, ha, BP, ?_⟩
    walk_at "rd"
    refine ⟨p0, ?_⟩
    walk_at "rd"
    refine ⟨b, os, om, op, fibM st mo pe v, rfl, hb, CP, ?_⟩
    walk_at "rd"
    refine ite2 (fun z => ?_) (fun z => ?_)
    · have e := of_decide_eq_true z
      walk_at "rd"
      exact q (some _) (both_near p0 BP.m0 o0 CP.m0 BP.m1 e)
    have e : fibM st mo pe v - (fibM st mo pe v - st) % pe + mo < fibM os om op (fibM st mo pe v) := by
      have : ¬ fibM os om op (fibM st mo pe v) ≤ fibM st mo pe v - (fibM st mo pe v - st) % pe + mo := fun y => z (decide_eq_true y)
      omega
    walk_at "rd"
    refine ⟨b, _, rfl, SqT.of hb, rfl, _, _, rfl, _, _, rfl, _, _, rfl, rfl, ?_⟩
    walk_at "rd"
    have m0 := BP.m0
    have n0 := CP.m0
    refine ⟨fibM st mo pe v - (fibM st mo pe v - st) % pe + pe + mo - os, pe, mo + om, op, rfl, o0, o1, by omega, fun r L => ?_⟩
    have L2 := both_far (v := v) p0 m0 o0 n0 BP.m1 e L
    walk_at "rd"
    cases r with
    | none =>
      refine ⟨rfl, ?_⟩
      walk_at "rd"
      exact q none L2
    | some k =>
      refine ⟨rfl, ?_⟩
      walk_at "rd"
      have kl := hitS_lt o0 L
      refine ⟨mulW (by omega) (by omega), ?_⟩
      walk_at "rd"
      exact ⟨b, os, om, op, _, rfl, hb, CP, q _ L2⟩
end
end HT
namespace HT
open PySem L2
/-- a def with defaults that may be called by its name -/
structure CalD (P : Program) (w : World) (K : PySem.W.Frag) (mg : Str → Option Value) (base : Heap) (x : Str) (k : Nat) (ps : List Str) (dvs : List V) (sp : Sp) (f : Addr) (fd : FuncData) : Prop where
  ok : FnOk P w K mg base CX0 k f fd ps sp
  gl : mg x = some (.ref f)
  kp : PySem.W.keepIn K (.ref f) = true
  bd : ∃ ds, Vals dvs ds ∧ Binds K fd ps ds
theorem pcd {X : Cx} {x : Str} {k j : Nat} {ps : List Str} {dvs : List V} {sp : Sp} {f : Addr} {fd : FuncData} {e : Expr} {es : List Expr} {t : TA} {p pos : Pos} (C : CalD X.prog X.w X.K X.mg X.base x k ps dvs sp f fd) (hr : Room j X.A) (hj : k ≤ j) (hg : Gl X x) (ha : PA X (e :: es) t)
    (hdb : (x == ("__debug__" : Str)) = false := by decide) (he : starEach (e :: es) X.env = (false, eval e X.env) :: starEach es X.env := by rfl) (hpl : (backTo pos (starEach es X.env)).any (·.1) = false := by rfl) : PE X (.Call (.Name x p) (e :: es) [] pos) (tCall sp dvs E0 t) := by
  obtain ⟨ds, hv, hb⟩ := C.bd
  exact pe_call C.ok (hr.mono hj) hg C.gl C.kp hb hv pass0 ha hdb he hpl
structure MaxT (mg : Str → Option Value) : Prop where
  max : mg "max" = none
  min : mg "min" = none
def BlksAt (H' : Hp) (L : Addr) (o s : Int) (m : Str) : Prop := ∃ ps : List Addr, H' L = some (.lst (ps.map V.ref)) ∧ ps.length = (figsN s m).toNat ∧ ∀ (i : Nat) (p : Addr), ps[i]? = some p → H' p = some (blkV (o + s * (i : Int)) (below (mir m) s (i : Int)) (perM s m))
def spUnr : Sp := fun vs H Q _ => ∃ (p : Addr) (o s : Int) (m : Str), vs = [.ref p, .int 1] ∧ H p = some (sideV o s m) ∧ SideP o s m ∧ ∀ (L : Addr) (H' : Hp), H L = none → Same H H' → BlksAt H' L o s m → Q (.ref L) H'
def spRs : Sp := fun vs H Q _ => ∃ (p : Addr) (o s : Int) (m : Str), vs = [.ref p] ∧ H p = some (sideV o s m) ∧ SideP o s m ∧ ∀ H', Same H H' → Q (.bl (!decide (firstM s m = "down"))) H'
theorem blkP_of {o s k : Int} {m : Str} (S : SideP o s m) : BlkP (o + s * k) (below (mir m) s k) (perM s m) := by
  have b := below_bd (k := k) (mir_mode S.md) S.s0
  have p := perM_bd S
  have pf := per_figs (m := m) S.s0
  have fb := figs_bd (m := m) S.s0
  have s0 := S.s0
  have : s * 1 ≤ s * figsN s m := Int.mul_le_mul_of_nonneg_left (by omega) (by omega)
  exact ⟨by omega, by omega, b.1, by omega⟩
section
variable {P : Program} {w : World} {K : PySem.W.Frag} {mg : Str → Option Value} {base : Heap} {fB fH fI : Addr} {dB dH dI : FuncData}
theorem ok_unr {f : Addr} {fd : FuncData} (F : FunD K "unraised" "unraised" (defArgs s_unraised) (defBody s_unraised) (defScope s_unraised) [.int 1] [] f fd) (B : Blt mg) (MT : MaxT mg) (Pe : Cal P w K mg base "period_of" 1 ["side"] spPerOf fB dB) (Sp' : Cal P w K mg base "span" 4 ["side", "figure"] spSpan fH dH) : FnOk P w K mg base CX0 5 f fd ["side", "least"] spUnr := by
  refine F.ok sc_unraised (fun vs H Q E h => ?_) (fun cdv A outer s0 H vs Q E hr h => ?_)
  · obtain ⟨p, o, s, m, rfl, _⟩ := h
    rfl
  · obtain ⟨p, o, s, m, rfl, hp, S, q⟩ := h
    have nd := sc_unraised.nd
    refine ⟨_, (pss_cons (ps_asg (pv 0) (pg_tup (by rfl) (pgs_cons (pg_name (i := 2) nd rfl (Or.inl rfl)) (pgs_cons (pg_name (i := 3) nd rfl (Or.inl rfl)) (pgs_cons (pg_name (i := 4) nd rfl (Or.inl rfl)) pgs_nil)))))
      (pss_cons (ps_set (i := 5) nd rfl (Or.inl rfl) (pcl Pe hr (by decide) (by rfl) (pa_cons (pv 0) pa_nil)))
      (pss_cons (ps_set (i := 6) nd rfl (Or.inl rfl) (pe_lst pa_nil))
      (pss_cons (ps_for (passes_of rfl) rfl (pi_range1 (by rfl) B.range (pa_cons (pe_op op_fdivW (pv 5) (pv 3)) pa_nil)) (pg_name (i := 7) nd rfl (Or.inl rfl)) (pss_cons (ps_asg (pcl Sp' hr (by decide) (by rfl) (pa_cons (pv 0) (pa_cons (pv 7) pa_nil))) (pg_tup (by rfl) (pgs_cons (pg_name (i := 8) nd rfl (Or.inl rfl)) (pgs_cons (pg_name (i := 9) nd rfl (Or.inl rfl)) pgs_nil))))
      (pss_cons (ps_set (i := 10) nd rfl (Or.inl rfl) (pe_callB (call_max2 rfl) (by rfl) MT.max (by decide +kernel) (pa_cons (pv 8) (pa_cons (pe_op op_add (pe_op op_sub (pe_op op_add (pv 2) (pe_op op_mulW (pv 3) (pv 7))) (pv 1)) pe_int) pa_nil))))
      (pss_one (ps_expr (pe_bm PySem.F.plainAttrs_list PySem.F.slot_list_append PySem.F.type_list_append mt_append (pv 6) (pa_cons (pe_tup (pa_cons (pv 10) (pa_cons (pe_op op_sub (pv 9) (pv 10)) (pa_cons (pv 5) pa_nil)))) pa_nil)))))))
      (pss_one (ps_ret (pv 6))))))), ?_⟩
    have s1 := S.s0
    have s2 := S.s1
    have o0 := S.o0
    have o1 := S.o1
    have fb := figs_bd (m := m) S.s0
    walk_at "rd"
    refine ⟨p, _, rfl, SqT.of hp, rfl, _, _, rfl, _, _, rfl, _, _, rfl, rfl, ?_⟩
    walk_at "rd"
    refine ⟨p, o, s, m, rfl, hp, S, ?_⟩
    walk_at "rd"
    refine ⟨(by show 0 ≤ sizeLine; decide), fun L nL => ?_⟩
    walk_at "rd"
    refine ⟨fdiv_ok _ (by omega) (lg_big (by omega) (by omega)), ?_⟩
    walk_at "rd"
    have ef : perM s m / s = figsN s m := rfl
    refine ⟨by omega, by omega, ?_⟩
    refine for_range (n := (perM s m / s).toNat) (fun i st H' => ∃ (x7 x8 x9 x10 : Option V) (ps : List Addr), st = [some (.ref p), some (.int 1), some (.int o), some (.int s), some (.str m), some (.int (perM s m)), some (.ref L), x7, x8, x9, x10] ∧ Same H H' ∧ H' L = some (.lst (ps.map V.ref)) ∧ ps.length = i ∧ (∀ (j : Nat) (b : Addr), ps[j]? = some b → H' b = some (blkV (o + s * (j : Int)) (below (mir m) s (j : Int)) (perM s m)))) ⟨none, none, none, none, [], rfl, fun b u z => (upd_ne (ne_of_none z nL)).trans z, upd_same, rfl, fun j b z => nomatch z⟩ ?_ ?_
    · rintro i st H' hi ⟨x7, x8, x9, x10, ps, rfl, sm, hL, lp, at_⟩
      have hi2 : i < 2 := by omega
      have hp' := sm _ _ hp
      walk_at "rd"
      refine ⟨p, o, s, m, 0 + (i : Int), rfl, hp', S, (by unfold BdK; omega), fun d H2 s2' nd2 hd => ?_⟩
      refine ⟨d, _, rfl, SqT.of hd, rfl, _, _, rfl, _, _, rfl, rfl, ?_⟩
      walk_at "rd"
      refine ⟨mulW (by omega) (by omega), ?_⟩
      walk_at "rd"
      refine ⟨_, _, rfl, ?_⟩
      walk_at "rd"
      have hL2 := s2' _ _ hL
      refine ⟨.inl ⟨rfl, _, SqL.of hL2⟩, ?_⟩
      walk_at "rd"
      refine ⟨(by show 3 ≤ sizeLine; decide), fun b nb => ?_⟩
      have nbL : b ≠ L := ne_of_none hL2 nb |>.symm
      have lh := low_high (o := o) (k := (i : Int)) S.md S.s0
      have e0 : (0 : Int) + (i : Int) = (i : Int) := by omega
      have est : (if o + s * (0 + (i : Int)) - 1 + 1 > lowM o s m (0 + (i : Int)) then o + s * (0 + (i : Int)) - 1 + 1 else lowM o s m (0 + (i : Int))) = o + s * (i : Int) := by
        rw [e0]
        split <;> omega
      refine ⟨L, _, _, rfl, rfl, (upd_ne nbL.symm).trans hL2, (by rw [List.length_map, lp]; exact Nat.lt_of_lt_of_le (by omega : i < 8) (by decide)), ?_⟩
      refine ⟨_, _, _, _, ps ++ [b], rfl, ?_, ?_, by rw [List.length_append, lp]; rfl, ?_⟩
      · intro c u z
        have z3 := s2' _ _ (sm _ _ z)
        exact (upd_ne (ne_of_none z nL)).trans ((upd_ne (ne_of_none z3 nb)).trans z3)
      · rw [List.map_append]; exact upd_same
      · intro j c hc
        rcases Nat.lt_or_ge j ps.length with y | y
        · rw [List.getElem?_append_left y] at hc
          have g := s2' _ _ (at_ j c hc)
          exact (upd_ne (ne_of g hL2 (by intro y; cases y))).trans ((upd_ne (ne_of_none g nb)).trans g)
        · rw [List.getElem?_append_right y] at hc
          have ej : j - ps.length = 0 := by
            have := (List.getElem?_eq_some_iff.mp hc).1
            simp at this
            omega
          rw [ej] at hc
          cases hc
          rw [show j = i by omega]
          refine (upd_ne nbL).trans (upd_same.trans ?_)
          have hst : highM o s m (0 + (i : Int)) - (o + s * (i : Int)) = below (mir m) s (i : Int) := by
            rw [e0]
            unfold highM
            omega
          show some (HO.tup [V.int _, V.int (highM o s m (0 + (i : Int)) - _), V.int _]) = _
          rw [est, hst]
          rfl
    · rintro st H' ⟨x7, x8, x9, x10, ps, rfl, sm, hL, lp, at_⟩
      walk_at "rd"
      exact q L H' nL sm ⟨ps, hL, by rw [lp, ef], at_⟩
theorem ok_rs {f : Addr} {fd : FuncData} (F : Fun K "_raises_some" "_raises_some" s_raises_some f fd) (Fm : Cal P w K mg base "form" 4 ["side"] spForm fH dH) : FnOk P w K mg base CX0 5 f fd ["side"] spRs := by
  refine F.ok sc_raises_some (fun vs H Q E h => ?_) (fun cdv A outer s0 H vs Q E hr h => ?_)
  · obtain ⟨p, o, s, m, rfl, _⟩ := h
    rfl
  · obtain ⟨p, o, s, m, rfl, hp, S, q⟩ := h
    have nd := sc_raises_some.nd
    refine ⟨_, (pss_cons (ps_asg (pcl Fm hr (by decide) (by rfl) (pa_cons (pv 0) pa_nil)) (pg_tup (by rfl) (pgs_cons (pg_name (i := 1) nd rfl (Or.inl rfl)) (pgs_cons (pg_name (i := 1) nd rfl (Or.inl rfl)) (pgs_cons (pg_name (i := 2) nd rfl (Or.inl rfl)) pgs_nil)))))
      (pss_one (ps_ret (pe_cmpR op_ne (pv 2) pe_str (nomark _))))), ?_⟩
    walk_at "rd"
    refine ⟨p, o, s, m, rfl, hp, S, fun d H2 s2 nd2 hd => ?_⟩
    refine ⟨d, _, rfl, SqT.of hd, rfl, _, _, rfl, _, _, rfl, _, _, rfl, rfl, ?_⟩
    walk_at "rd"
    refine ⟨rfl, ?_⟩
    have y := q H2 s2
    rw [← show decide (V.str (firstM s m) = V.str "down") = decide (firstM s m = "down") by rw [dec_str]] at y
    exact y
end
end HT
namespace HT
open PySem L2
/-- the list at l holds sides with these parts; it may be empty -/
structure SidL (H : Hp) (l : Addr) (xs : List V) (ss : List Sd) : Prop where
  hl : H l = some (.lst xs)
  len : xs.length = ss.length
  l4 : ss.length ≤ 4
  at_ : ∀ (i : Nat) (d : Sd), ss[i]? = some d → ∃ p : Addr, xs[i]? = some (V.ref p) ∧ H p = some (sideV d.o d.s d.m) ∧ SideP d.o d.s d.m
theorem SidesAt.toL {H : Hp} {l : Addr} {xs : List V} {ss : List Sd} (S : SidesAt H l xs ss) : SidL H l xs ss := ⟨S.hl, S.len, S.l4, S.at_⟩
theorem SidL.same {H H' : Hp} {l : Addr} {xs : List V} {ss : List Sd} (S : SidL H l xs ss) (e : Same H H') : SidL H' l xs ss :=
  ⟨e _ _ S.hl, S.len, S.l4, fun i d h => let ⟨p, a, b, c⟩ := S.at_ i d h; ⟨p, a, e _ _ b, c⟩⟩
theorem SidL.item {H : Hp} {l : Addr} {xs : List V} {ss : List Sd} (S : SidL H l xs ss) {i : Nat} {y : V} (h : xs[i]? = some y) : ∃ d p, ss[i]? = some d ∧ y = .ref p ∧ H p = some (sideV d.o d.s d.m) ∧ SideP d.o d.s d.m := by
  have hi : i < ss.length := by have := (List.getElem?_eq_some_iff.mp h).1; rw [S.len] at this; exact this
  obtain ⟨p, e, hp, sp⟩ := S.at_ i ss[i] (List.getElem?_eq_getElem hi)
  rw [h] at e
  exact ⟨ss[i], p, List.getElem?_eq_getElem hi, Option.some.inj e, hp, sp⟩
theorem SidL.side {H : Hp} {l : Addr} {xs : List V} {ss : List Sd} (S : SidL H l xs ss) : ∀ d ∈ ss, SideP d.o d.s d.m := fun d hd => by
  obtain ⟨i, hi, rfl⟩ := List.mem_iff_getElem.mp hd
  obtain ⟨_, _, _, sp⟩ := S.at_ i _ (List.getElem?_eq_getElem hi)
  exact sp
def upD (d : Sd) : Bool := !decide (firstM d.s d.m = "down")
def mirD (d : Sd) : Sd := ⟨-d.o, d.s, mir d.m⟩
/-- v, or what some side writes for it, and no less -/
def HiP (ss : List Sd) (v h : Int) : Prop := v ≤ h ∧ (∀ d ∈ ss, dueM d.o d.s d.m v ≤ h) ∧ (h = v ∨ ∃ d ∈ ss, h = dueM d.o d.s d.m v)
def spPerL : Sp := fun vs H Q _ => ∃ (l : Addr) (xs : List V) (ss : List Sd), vs = [.ref l] ∧ SidL H l xs ss ∧ Q (.int (comN ss : Int)) H
def spRais : Sp := fun vs H Q _ => ∃ (l : Addr) (xs : List V) (ss : List Sd), vs = [.ref l] ∧ SidL H l xs ss ∧ ∀ (L : Addr) (ys : List V) (H' : Hp), H L = none → Same H H' → SidL H' L ys (ss.filter upD) → Q (.ref L) H'
def spMirs : Sp := fun vs H Q _ => ∃ (l : Addr) (xs : List V) (ss : List Sd), vs = [.ref l] ∧ SidL H l xs ss ∧ ∀ (L : Addr) (ys : List V) (H' : Hp), H L = none → Same H H' → SidL H' L ys (ss.map mirD) → Q (.ref L) H'
def spHi : Sp := fun vs H Q _ => ∃ (l : Addr) (xs : List V) (ss : List Sd) (v : Int), vs = [.ref l, .int v] ∧ SidL H l xs ss ∧ (-2 ^ 900 < v ∧ v < 2 ^ 900) ∧ ∀ (h : Int) (H' : Hp), HiP ss v h → Same H H' → Q (.int h) H'
/-- a list of sides grows -/
theorem grow_side {H H' : Hp} {D : Addr} {ys : List V} {ts : List Sd} {p : Addr} {d : Sd} (A : ∀ (i : Nat) (e : Sd), ts[i]? = some e → ∃ p : Addr, ys[i]? = some (V.ref p) ∧ H p = some (sideV e.o e.s e.m) ∧ SideP e.o e.s e.m) (len : ys.length = ts.length)
    (k : ∀ b u, H b = some u → b ≠ D → H' b = some u) (hD : H D = some (.lst ys)) (hp : H' p = some (sideV d.o d.s d.m)) (sp : SideP d.o d.s d.m) :
    ∀ (i : Nat) (e : Sd), (ts ++ [d])[i]? = some e → ∃ p' : Addr, (ys ++ [V.ref p])[i]? = some (V.ref p') ∧ H' p' = some (sideV e.o e.s e.m) ∧ SideP e.o e.s e.m := by
  intro i e he
  rcases Nat.lt_or_ge i ts.length with z | z
  · rw [List.getElem?_append_left z] at he
    obtain ⟨p2, e1, hp2, sp2⟩ := A i e he
    exact ⟨p2, by rw [List.getElem?_append_left (by omega)]; exact e1, k _ _ hp2 (ne_of hp2 hD (by intro y; cases y)), sp2⟩
  · rw [List.getElem?_append_right z] at he
    have e0 : i - ts.length = 0 := by
      have := (List.getElem?_eq_some_iff.mp he).1
      simp at this
      omega
    rw [e0] at he
    have ee : e = d := by simpa using he.symm
    subst ee
    exact ⟨p, by rw [List.getElem?_append_right (by omega), show i - ys.length = 0 by omega]; rfl, hp, sp⟩
section
variable {P : Program} {w : World} {K : PySem.W.Frag} {mg : Str → Option Value} {base : Heap} {fB fH fI : Addr} {dB dH dI : FuncData}
theorem ok_commonL {f : Addr} {fd : FuncData} (F : Fun K "common_period" "common_period" s_common_period f fd) (A' : AmG mg) (Pe : Cal P w K mg base "period_of" 1 ["side"] spPerOf fB dB) : FnOk P w K mg base CX0 2 f fd ["sides"] spPerL := by
  refine F.ok sc_common_period (fun vs H Q E h => ?_) (fun cdv A outer s0 H vs Q E hr h => ?_)
  · obtain ⟨l, xs, ss, rfl, _⟩ := h
    rfl
  · obtain ⟨l, xs, ss, rfl, SS, q⟩ := h
    have nd := sc_common_period.nd
    refine ⟨_, pss_cons (ps_set (i := 1) nd rfl (Or.inl rfl) pe_int)
      (pss_cons (ps_for PassesOwn.never rfl (pi_list (pv 0)) (pg_name (i := 2) nd rfl (Or.inl rfl)) (pss_one (ps_set (i := 1) nd rfl (Or.inl rfl) (pe_callBfun cr_lcm2 (by rfl) A'.lcm (pa_cons (pv 1) (pa_cons (pcl Pe hr (by decide) (by rfl) (pa_cons (pv 2) pa_nil)) pa_nil))))))
      (pss_one (ps_ret (pv 1)))), ?_⟩
    walk_at "rd"
    refine ⟨⟨_, SqL.of SS.hl⟩, ?_⟩
    refine for_list (K := K) (a := l) (xs := xs) (fun i st H' => ∃ x2 : Option V, st = [some (.ref l), some (.int (comN (ss.take i) : Int)), x2] ∧ H' = H) ⟨none, rfl, rfl⟩ (fun _ _ _ _ ⟨_, _, e⟩ => e ▸ SqL.of SS.hl) ?_ ?_
    · rintro i y st H' hy ⟨x2, rfl, rfl⟩
      obtain ⟨d, p, ed, rfl, hp, sp⟩ := SS.item hy
      walk_at "rd"
      refine ⟨p, d.o, d.s, d.m, rfl, hp, sp, ?_⟩
      have pb := perM_bd sp
      have cl := com_take SS.side SS.l4 i
      have big : (2 : Nat) ^ 420 < 2 ^ 2000 := Nat.pow_lt_pow_right (by decide) (by decide)
      have big2 : (2 : Nat) ^ 120 < 2 ^ 2000 := Nat.pow_lt_pow_right (by decide) (by decide)
      have e2 : (perM d.s d.m).natAbs = perN d := by unfold perN; omega
      refine ⟨_, _, rfl, ?_, ?_, ?_⟩
      · rw [Int.natAbs_natCast]; omega
      · rw [e2]; unfold perN; omega
      · rw [Int.natAbs_natCast, e2, ← com_snoc ed]
        exact ⟨_, rfl, rfl⟩
    · rintro st H' ⟨x2, rfl, rfl⟩
      rw [SS.len, List.take_length]
      walk_at "rd"
      exact q
theorem filter_snoc {ss : List Sd} {i : Nat} {d : Sd} (h : ss[i]? = some d) : (ss.take (i + 1)).filter upD = (ss.take i).filter upD ++ (if upD d = true then [d] else []) := by
  rw [List.take_succ, h, List.filter_append]
  congr 1
  simp only [Option.toList, List.filter_cons, List.filter_nil]
theorem ok_rais {f : Addr} {fd : FuncData} (F : Fun K "raisers" "raisers" s_raisers f fd) (Rs : Cal P w K mg base "_raises_some" 5 ["side"] spRs fB dB) : FnOk P w K mg base CX0 6 f fd ["sides"] spRais := by
  refine F.ok sc_raisers (fun vs H Q E h => ?_) (fun cdv A outer s0 H vs Q E hr h => ?_)
  · obtain ⟨l, xs, ss, rfl, _⟩ := h
    rfl
  · obtain ⟨l, xs, ss, rfl, SS, q⟩ := h
    have nd := sc_raisers.nd
    refine ⟨_, (pss_one (ps_ret (pe_lc (own := [("side", 1)]) (g := gName 1) rfl nd (pi_list (pv 0)) (blkOk_by (N := ["sides", "side"]) (sc := defScope s_raisers) (by decide +kernel)) (fun _ _ _ _ _ => pg_name (i := 1) nd rfl (Or.inl rfl)) (fun _ _ _ _ _ => (pts_one (pt_val (pcl Rs hr (by decide) (by rfl) (pa_cons (pv 1) pa_nil))))) (fun _ _ _ _ _ => (pv 1))))), ?_⟩
    walk_at "rd"
    refine ⟨⟨_, SqL.of SS.hl⟩, fun L nL => ?_⟩
    refine lc_list (K := K) (a := l) (xs := xs) (fun i H3 => ∃ ys : List V, H3 L = some (.lst ys) ∧ ys.length = ((ss.take i).filter upD).length ∧ i ≤ ss.length ∧ Same H H3 ∧ (∀ (j : Nat) (d : Sd), ((ss.take i).filter upD)[j]? = some d → ∃ p : Addr, ys[j]? = some (V.ref p) ∧ H3 p = some (sideV d.o d.s d.m) ∧ SideP d.o d.s d.m))
      ⟨[], upd_same, rfl, Nat.zero_le _, fun b u z => (upd_ne (ne_of_none z nL)).trans z, fun j d z => by simp at z⟩ (fun _ _ _ ⟨_, _, _, _, sm, _⟩ => SqL.of (sm _ _ SS.hl)) ?_ ?_
    · rintro i y H3 hy ⟨ys, hD, ly, li, sm, at_⟩
      obtain ⟨d, p, ed, rfl, hp, sp⟩ := SS.item hy
      have il : i < ss.length := (List.getElem?_eq_some_iff.mp ed).1
      refine ⟨rfl, ?_⟩
      walk_at "rd"
      refine ⟨p, d.o, d.s, d.m, rfl, sm _ _ hp, sp, fun H4 s34 => ?_⟩
      refine ⟨_, rfl, ?_⟩
      have hD4 := s34 _ _ hD
      refine ite2 (fun z => ?_) (fun z => ?_)
      · have up : upD d = true := z
        walk_at "rd"
        refine ⟨_, hD4, ?_, ys ++ [.ref p], upd_same, ?_, il, ?_, ?_⟩
        · rw [ly]
          exact Nat.lt_of_le_of_lt (Nat.le_trans (List.length_filter_le _ _) (Nat.le_trans (List.length_take_le' _ _) SS.l4)) (by decide)
        · rw [filter_snoc ed, if_pos up, List.length_append, List.length_append, ly]
          rfl
        · intro b u y
          exact (upd_ne (ne_of_none y nL)).trans (s34 _ _ (sm _ _ y))
        · rw [filter_snoc ed, if_pos up]
          exact grow_side at_ ly (fun b u y nb => (upd_ne nb).trans (s34 _ _ y)) hD ((upd_ne (ne_of (s34 _ _ (sm _ _ hp)) hD4 (by intro y; cases y))).trans (s34 _ _ (sm _ _ hp))) sp
      · have up : ¬ upD d = true := z
        refine ⟨ys, hD4, ?_, il, fun b u y => s34 _ _ (sm _ _ y), ?_⟩
        · rw [filter_snoc ed, if_neg up, List.append_nil]
          exact ly
        · rw [filter_snoc ed, if_neg up, List.append_nil]
          intro j e he
          obtain ⟨p2, g1, g2, g3⟩ := at_ j e he
          exact ⟨p2, g1, s34 _ _ g2, g3⟩
    · rintro H3 ⟨ys, hD, ly, li, sm, at_⟩
      rw [SS.len, List.take_length] at ly at_
      walk_at "rd"
      exact q L ys H3 nL sm ⟨hD, ly, Nat.le_trans (List.length_filter_le _ _) SS.l4, at_⟩
theorem ok_mirs {f : Addr} {fd : FuncData} (F : Fun K "mirrors" "mirrors" s_mirrors f fd) (Mi : Cal P w K mg base "mirror" 4 ["side"] spMirror fB dB) : FnOk P w K mg base CX0 5 f fd ["sides"] spMirs := by
  refine F.ok sc_mirrors (fun vs H Q E h => ?_) (fun cdv A outer s0 H vs Q E hr h => ?_)
  · obtain ⟨l, xs, ss, rfl, _⟩ := h
    rfl
  · obtain ⟨l, xs, ss, rfl, SS, q⟩ := h
    have nd := sc_mirrors.nd
    refine ⟨_, (pss_one (ps_ret (pe_lc (own := [("side", 1)]) (g := gName 1) (tt := tYes) rfl nd (pi_list (pv 0)) (blkOk_by (N := ["sides", "side"]) (sc := defScope s_mirrors) (by decide +kernel)) (fun _ _ _ _ _ => pg_name (i := 1) nd rfl (Or.inl rfl)) (fun _ _ _ _ _ => pts_nil) (fun _ _ _ _ _ => (pcl Mi hr (by decide) (by rfl) (pa_cons (pv 1) pa_nil)))))), ?_⟩
    walk_at "rd"
    refine ⟨⟨_, SqL.of SS.hl⟩, fun L nL => ?_⟩
    refine lc_list (K := K) (a := l) (xs := xs) (fun i H3 => ∃ ys : List V, H3 L = some (.lst ys) ∧ ys.length = ((ss.take i).map mirD).length ∧ i ≤ ss.length ∧ Same H H3 ∧ (∀ (j : Nat) (d : Sd), ((ss.take i).map mirD)[j]? = some d → ∃ p : Addr, ys[j]? = some (V.ref p) ∧ H3 p = some (sideV d.o d.s d.m) ∧ SideP d.o d.s d.m))
      ⟨[], upd_same, rfl, Nat.zero_le _, fun b u z => (upd_ne (ne_of_none z nL)).trans z, fun j d z => by simp at z⟩ (fun _ _ _ ⟨_, _, _, _, sm, _⟩ => SqL.of (sm _ _ SS.hl)) ?_ ?_
    · rintro i y H3 hy ⟨ys, hD, ly, li, sm, at_⟩
      obtain ⟨d, p, ed, rfl, hp, sp⟩ := SS.item hy
      have il : i < ss.length := (List.getElem?_eq_some_iff.mp ed).1
      refine ⟨rfl, ?_⟩
      walk_at "rd"
      refine ⟨p, d.o, d.s, d.m, rfl, sm _ _ hp, sp, fun b H4 s34 nb hb => ?_⟩
      have hD4 := s34 _ _ hD
      have es : (ss.take (i + 1)).map mirD = (ss.take i).map mirD ++ [mirD d] := by
        rw [List.take_succ, ed, List.map_append]
        rfl
      walk_at "rd"
      refine ⟨_, hD4, ?_, ys ++ [.ref b], upd_same, ?_, il, ?_, ?_⟩
      · rw [ly, List.length_map]
        exact Nat.lt_of_le_of_lt (Nat.le_trans (List.length_take_le' _ _) SS.l4) (by decide)
      · rw [es, List.length_append, List.length_append, ly]
        rfl
      · intro c u y
        exact (upd_ne (ne_of_none y nL)).trans (s34 _ _ (sm _ _ y))
      · rw [es]
        exact grow_side (d := mirD d) at_ ly (fun c u y nb => (upd_ne nb).trans (s34 _ _ y)) hD ((upd_ne (ne_of hb hD4 (by intro y; cases y))).trans hb) (side_mir sp)
    · rintro H3 ⟨ys, hD, ly, li, sm, at_⟩
      rw [SS.len, List.take_length] at ly at_
      walk_at "rd"
      exact q L ys H3 nL sm ⟨hD, ly, by rw [List.length_map]; exact SS.l4, at_⟩
theorem ok_hi {f : Addr} {fd : FuncData} (F : Fun K "highest" "highest" s_highest f fd) (MT : MaxT mg) (Wr : Cal P w K mg base "written" 3 ["side", "value"] spDue fB dB) : FnOk P w K mg base CX0 4 f fd ["sides", "value"] spHi := by
  refine F.ok sc_highest (fun vs H Q E h => ?_) (fun cdv A outer s0 H vs Q E hr h => ?_)
  · obtain ⟨l, xs, ss, v, rfl, _⟩ := h
    rfl
  · obtain ⟨l, xs, ss, v, rfl, SS, hv, q⟩ := h
    have nd := sc_highest.nd
    refine ⟨_, pss_one (ps_ret (pe_callB (cr_max rfl) (by rfl) MT.max (by decide +kernel) (pa_cons (pe_op op_cat (pe_lst (pa_cons (pv 1) pa_nil)) (pe_lc (own := [("side", 2)]) (g := gName 2) (tt := tYes) rfl nd (pi_list (pv 0)) (blkOk_by (N := ["sides", "value", "side"]) (sc := defScope s_highest) (by decide +kernel)) (fun _ _ _ _ _ => pg_name (i := 2) nd rfl (Or.inl rfl)) (fun _ _ _ _ _ => pts_nil) (fun _ _ _ _ _ => pcl Wr hr (by decide) (by rfl) (pa_cons (pv 2) (pa_cons (pv 1) pa_nil))))) pa_nil))), ?_⟩
    walk_at "rd"
    refine ⟨(by show 1 ≤ sizeLine; decide), fun a na => ?_⟩
    have fa : upd H a (.lst [.int v]) a = some (.lst [.int v]) := upd_same
    have s1 : Same H (upd H a (.lst [.int v])) := fun b u z => (upd_ne (ne_of_none z na)).trans z
    generalize upd H a (.lst [.int v]) = H1 at fa s1 ⊢
    walk_at "rd"
    refine ⟨⟨_, SqL.of (s1 _ _ SS.hl)⟩, fun L nL => ?_⟩
    refine lc_list (K := K) (a := l) (xs := xs) (fun i H3 => H3 L = some (.lst (((ss.take i).map fun d => dueM d.o d.s d.m v).map V.int)) ∧ i ≤ ss.length ∧ Same H1 H3)
      ⟨upd_same, Nat.zero_le _, fun b u z => (upd_ne (ne_of_none z nL)).trans z⟩ (fun _ _ _ ⟨_, _, sm⟩ => SqL.of (sm _ _ (s1 _ _ SS.hl))) ?_ ?_
    · rintro i y H3 hy ⟨hD, li, sm⟩
      obtain ⟨d, p, ed, rfl, hp, sp⟩ := SS.item hy
      have il : i < ss.length := (List.getElem?_eq_some_iff.mp ed).1
      refine ⟨rfl, ?_⟩
      walk_at "rd"
      refine ⟨p, d.o, d.s, d.m, v, rfl, sm _ _ (s1 _ _ hp), sp, (by unfold Bd; omega), fun H4 s34 => ?_⟩
      have hD4 := s34 _ _ hD
      have es : (ss.take (i + 1)).map (fun d => dueM d.o d.s d.m v) = (ss.take i).map (fun d => dueM d.o d.s d.m v) ++ [dueM d.o d.s d.m v] := by
        rw [List.take_succ, ed, List.map_append]
        rfl
      walk_at "rd"
      refine ⟨_, hD4, ?_, ?_, il, fun b u y => (upd_ne (ne_of_none y nL)).trans (s34 _ _ (sm _ _ y))⟩
      · rw [List.length_map, List.length_map]
        exact Nat.lt_of_le_of_lt (Nat.le_trans (List.length_take_le' _ _) SS.l4) (by decide)
      · rw [es, List.map_append]
        exact upd_same
    · rintro H3 ⟨hD, li, sm⟩
      rw [SS.len, List.take_length] at hD
      have l4 := SS.l4
      walk_at "rd"
      refine ⟨a, L, _, _, rfl, rfl, sm _ _ fa, hD, (by show 1 + _ ≤ sizeLine; rw [List.length_map, List.length_map]; exact Nat.le_trans (by omega : 1 + ss.length ≤ 8) (by decide)), fun c nc => ?_⟩
      refine ⟨c, v :: ss.map fun d => dueM d.o d.s d.m v, rfl, SqL.of upd_same, Nat.succ_pos _, fun m mi mm => ?_⟩
      refine q m _ ⟨mm v List.mem_cons_self, fun d hd => mm _ (List.mem_cons_of_mem _ (List.mem_map.mpr ⟨d, hd, rfl⟩)), ?_⟩ (fun b u z => (upd_ne (ne_of_none (sm _ _ (s1 _ _ z)) nc)).trans (sm _ _ (s1 _ _ z)))
      rcases List.mem_cons.mp mi with e | e
      · exact .inl e
      · obtain ⟨d, hd, e2⟩ := List.mem_map.mp e
        exact .inr ⟨d, hd, e2.symm⟩
end
end HT
namespace L2
open PySem PySem.Spec PyProof.Rows PySem.W PySem.SeqAt
theorem reads_ints {h : Heap} : ∀ {ns : List Int} {its : List Value}, Vals (ns.map V.int) its → ∃ as, ReadsAll h its (ns.map PyData.int) as
  | [], its, r => by rw [List.map_nil] at r; cases r; exact ⟨_, .nil⟩
  | n :: ns, its, r => by
    rw [List.map_cons] at r
    cases r with
    | @cons x y xs ys h1 t =>
      obtain ⟨as, ra⟩ := reads_ints (h := h) t
      obtain ⟨tk, rfl⟩ := h1
      exact ⟨_, .cons (.int n tk) ra⟩
theorem depth_ints : ∀ ns : List Int, PyData.depthAll (ns.map PyData.int) = 0
  | [] => rfl
  | n :: ns => by
    show max 0 (PyData.depthAll (ns.map PyData.int)) = 0
    rw [depth_ints ns]; rfl
theorem alike_ints (ns : List Int) : AlikeAll (ns.map PyData.int) := by
  refine ⟨fun x hx y hy => ?_, fun x hx e => ?_⟩
  · obtain ⟨a, _, rfl⟩ := List.mem_map.mp hx
    obtain ⟨b, _, rfl⟩ := List.mem_map.mp hy
    simp [alike]
  · obtain ⟨a, _, rfl⟩ := List.mem_map.mp hx
    cases e
theorem fold_min : ∀ (ns : List Int) (n : Int), ns.foldl min n ∈ n :: ns ∧ ∀ y ∈ n :: ns, ns.foldl min n ≤ y
  | [], n => ⟨List.mem_cons_self, fun y hy => by rw [List.mem_singleton.mp hy]; exact Int.le_refl _⟩
  | k :: r, n => by
    obtain ⟨a, b⟩ := fold_min r (min n k)
    rw [List.foldl_cons]
    have m0 := b (min n k) List.mem_cons_self
    refine ⟨?_, fun y hy => ?_⟩
    · rcases List.mem_cons.mp a with e | e
      · rw [e]
        by_cases h : n ≤ k
        · rw [show min n k = n by omega]; exact List.mem_cons_self
        · rw [show min n k = k by omega]; exact List.mem_cons_of_mem _ List.mem_cons_self
      · exact List.mem_cons_of_mem _ (List.mem_cons_of_mem _ e)
    · rcases List.mem_cons.mp hy with e | e
      · omega
      · rcases List.mem_cons.mp e with e | e
        · omega
        · exact b y (List.mem_cons_of_mem _ e)
theorem fold_max : ∀ (ns : List Int) (n : Int), ns.foldl max n ∈ n :: ns ∧ ∀ y ∈ n :: ns, y ≤ ns.foldl max n
  | [], n => ⟨List.mem_cons_self, fun y hy => by rw [List.mem_singleton.mp hy]; exact Int.le_refl _⟩
  | k :: r, n => by
    obtain ⟨a, b⟩ := fold_max r (max n k)
    rw [List.foldl_cons]
    have m0 := b (max n k) List.mem_cons_self
    refine ⟨?_, fun y hy => ?_⟩
    · rcases List.mem_cons.mp a with e | e
      · rw [e]
        by_cases h : k ≤ n
        · rw [show max n k = n by omega]; exact List.mem_cons_self
        · rw [show max n k = k by omega]; exact List.mem_cons_of_mem _ List.mem_cons_self
      · exact List.mem_cons_of_mem _ (List.mem_cons_of_mem _ e)
    · rcases List.mem_cons.mp hy with e | e
      · omega
      · rcases List.mem_cons.mp e with e | e
        · omega
        · exact b y (List.mem_cons_of_mem _ e)
def rMinDf (K : PySem.W.Frag) : List V → List V → Hp → VK → Prop := fun vs zs H Q => ∃ (a : Addr) (ns : List Int) (d : V), vs = [V.ref a] ∧ zs = [d] ∧ SqL K H a (ns.map V.int) ∧ (ns = [] → Q d H) ∧ ∀ m, m ∈ ns → (∀ y, y ∈ ns → m ≤ y) → Q (.int m) H
def rMaxDf (K : PySem.W.Frag) : List V → List V → Hp → VK → Prop := fun vs zs H Q => ∃ (a : Addr) (ns : List Int) (d : V), vs = [V.ref a] ∧ zs = [d] ∧ SqL K H a (ns.map V.int) ∧ (ns = [] → Q d H) ∧ ∀ m, m ∈ ns → (∀ y, y ∈ ns → y ≤ m) → Q (.int m) H
theorem cr_minDf {X : Cx} (hc : X.calm = true) (hu : X.A.units + 64 < cLine) : CallRK X (.builtin "min") [Str.ofString "default"] (rMinDf X.K) := by
  intro pins s σ H vs zs us ws Q I r rz h
  obtain ⟨a, ns, d, rfl, rfl, hs, q0, q1⟩ := h
  obtain ⟨its, rv, hl, _⟩ := I.list hs
  obtain rfl := Vals.ref1 r
  obtain ⟨w1, rfl, e1⟩ := vals1 rz
  obtain ⟨as, ra⟩ := reads_ints (h := s.heap) rv
  refine min_list_default (I.ok.hd hc) hl.isList (by simpa using ra) (alike_ints ns) (by rw [depth_ints]; omega) (fun e h' tk hk => ?_) (fun y ys i v h' tk bs e hv rd hk => ?_)
  · cases ns with
    | nil => exact ⟨d, H, I.kept hk, e1, q0 rfl⟩
    | cons n r => cases e
  · cases ns with
    | nil => cases e
    | cons n r =>
      rw [List.map_cons] at e
      injection e with ey es
      subst ey es
      rw [minD_ints] at rd
      obtain ⟨f1, f2⟩ := fold_min r n
      cases rd with
      | int _ t => exact ⟨.int _, H, I.kept hk, ⟨t, rfl⟩, q1 _ f1 f2⟩
theorem cr_maxDf {X : Cx} (hc : X.calm = true) (hu : X.A.units + 64 < cLine) : CallRK X (.builtin "max") [Str.ofString "default"] (rMaxDf X.K) := by
  intro pins s σ H vs zs us ws Q I r rz h
  obtain ⟨a, ns, d, rfl, rfl, hs, q0, q1⟩ := h
  obtain ⟨its, rv, hl, _⟩ := I.list hs
  obtain rfl := Vals.ref1 r
  obtain ⟨w1, rfl, e1⟩ := vals1 rz
  obtain ⟨as, ra⟩ := reads_ints (h := s.heap) rv
  refine max_list_default (I.ok.hd hc) hl.isList (by simpa using ra) (alike_ints ns) (by rw [depth_ints]; omega) (fun e h' tk hk => ?_) (fun y ys i v h' tk bs e hv rd hk => ?_)
  · cases ns with
    | nil => exact ⟨d, H, I.kept hk, e1, q0 rfl⟩
    | cons n r => cases e
  · cases ns with
    | nil => cases e
    | cons n r =>
      rw [List.map_cons] at e
      injection e with ey es
      subst ey es
      rw [maxD_ints] at rd
      obtain ⟨f1, f2⟩ := fold_max r n
      cases rd with
      | int _ t => exact ⟨.int _, H, I.kept hk, ⟨t, rfl⟩, q1 _ f1 f2⟩
end L2
namespace HT
open PySem L2
theorem scal_some {x : Int} : V.int x ≠ V.non := fun z => by cases z
/-- a value that two sides do not raise -/
def UnR (d e : Sd) (x : Int) : Prop := dueM d.o d.s d.m x ≤ x ∧ dueM e.o e.s e.m x ≤ x
def BB (d e : Sd) (a b : Nat) (x : Int) : Prop := InB (d.o + d.s * (a : Int)) (below (mir d.m) d.s (a : Int)) (perM d.s d.m) x ∧ InB (e.o + e.s * (b : Int)) (below (mir e.m) e.s (b : Int)) (perM e.s e.m) x
theorem unr_bb {d e : Sd} {x : Int} (hd : SideP d.o d.s d.m) (he : SideP e.o e.s e.m) : UnR d e x ↔ ∃ a b : Nat, a < (figsN d.s d.m).toNat ∧ b < (figsN e.s e.m).toNat ∧ BB d e a b x := by
  unfold UnR BB
  rw [unr_iff hd.md hd.s0, unr_iff he.md he.s0]
  constructor
  · rintro ⟨⟨k, k0, k1, h⟩, j, j0, j1, g⟩
    refine ⟨k.toNat, j.toNat, by omega, by omega, ?_, ?_⟩
    · rw [Int.toNat_of_nonneg k0]; exact h
    · rw [Int.toNat_of_nonneg j0]; exact g
  · rintro ⟨a, b, h1, h2, h, g⟩
    exact ⟨⟨(a : Int), by omega, by omega, h⟩, (b : Int), by omega, by omega, g⟩
/-- the pairs that are looked at -/
def DoneP (n2 i j a b : Nat) : Prop := (a < i ∧ b < n2) ∨ (a = i ∧ b < j)
structure FndP (d e : Sd) (v : Int) (D : Nat → Nat → Prop) (ns : List Int) : Prop where
  from_ : ∀ n ∈ ns, ∃ a b, D a b ∧ LeastI (BB d e a b) v (some n)
  to_ : ∀ a b, D a b → ∃ r, LeastI (BB d e a b) v r ∧ ∀ x, r = some x → x ∈ ns
def spTwo : Sp := fun vs H Q _ => ∃ (p q : Addr) (d e : Sd) (v : Int), vs = [.ref p, .ref q, .int v] ∧ H p = some (sideV d.o d.s d.m) ∧ SideP d.o d.s d.m ∧ H q = some (sideV e.o e.s e.m) ∧ SideP e.o e.s e.m ∧ ∀ r H', LeastI (UnR d e) v r → Same H H' → Q (oV r) H'
theorem fnd_end {d e : Sd} {v : Int} {ns : List Int} {n1 n2 : Nat} (hd : SideP d.o d.s d.m) (he : SideP e.o e.s e.m) (e1 : n1 = (figsN d.s d.m).toNat) (e2 : n2 = (figsN e.s e.m).toNat) (F : FndP d e v (DoneP n2 n1 0) ns) :
    (ns = [] → LeastI (UnR d e) v none) ∧ ∀ m, m ∈ ns → (∀ y, y ∈ ns → m ≤ y) → LeastI (UnR d e) v (some m) := by
  have key : ∀ y, v ≤ y → UnR d e y → ∃ x ∈ ns, x ≤ y := by
    intro y y0 u
    obtain ⟨a, b, h1, h2, h⟩ := (unr_bb hd he).mp u
    obtain ⟨r, L, m⟩ := F.to_ a b (.inl ⟨by omega, by omega⟩)
    cases r with
    | none => exact absurd h (L y y0)
    | some x =>
      refine ⟨x, m x rfl, ?_⟩
      by_cases g : y < x
      · exact absurd h (L.2.2 y y0 g)
      · omega
  refine ⟨fun z y y0 u => ?_, fun m mi mm => ?_⟩
  · obtain ⟨x, hx, _⟩ := key y y0 u
    rw [z] at hx
    exact absurd hx List.not_mem_nil
  · obtain ⟨a, b, D, L⟩ := F.from_ m mi
    have ab : a < (figsN d.s d.m).toNat ∧ b < (figsN e.s e.m).toNat := by
      rcases D with ⟨x, y⟩ | ⟨x, y⟩ <;> omega
    refine ⟨L.1, (unr_bb hd he).mpr ⟨a, b, ab.1, ab.2, L.2.1⟩, fun y y0 y1 u => ?_⟩
    obtain ⟨x, hx, xy⟩ := key y y0 u
    have := mm x hx
    omega
theorem fnd_add {d e : Sd} {v : Int} {ns : List Int} {n2 i j : Nat} {r : Option Int} (F : FndP d e v (DoneP n2 i j) ns) (L : LeastI (BB d e i j) v r) : FndP d e v (DoneP n2 i (j + 1)) (ns ++ r.toList) := by
  refine ⟨fun n hn => ?_, fun a b D => ?_⟩
  · rcases List.mem_append.mp hn with h | h
    · obtain ⟨a, b, D, L'⟩ := F.from_ n h
      refine ⟨a, b, ?_, L'⟩
      rcases D with ⟨x, y⟩ | ⟨x, y⟩
      · exact .inl ⟨x, y⟩
      · exact .inr ⟨x, by omega⟩
    · cases r with
      | none => exact absurd h List.not_mem_nil
      | some x =>
        rw [List.mem_singleton.mp h]
        exact ⟨i, j, .inr ⟨rfl, by omega⟩, L⟩
  · by_cases g : a = i ∧ b = j
    · obtain ⟨rfl, rfl⟩ := g
      refine ⟨r, L, fun x hx => ?_⟩
      subst hx
      exact List.mem_append_right _ List.mem_cons_self
    · have D' : DoneP n2 i j a b := by
        rcases D with ⟨x, y⟩ | ⟨x, y⟩
        · exact .inl ⟨x, y⟩
        · exact .inr ⟨x, by omega⟩
      obtain ⟨r', L', m⟩ := F.to_ a b D'
      exact ⟨r', L', fun x hx => List.mem_append_left _ (m x hx)⟩
theorem fnd_row {d e : Sd} {v : Int} {ns : List Int} {n2 i : Nat} (F : FndP d e v (DoneP n2 i n2) ns) : FndP d e v (DoneP n2 (i + 1) 0) ns := by
  refine ⟨fun n hn => ?_, fun a b D => ?_⟩
  · obtain ⟨a, b, D, L⟩ := F.from_ n hn
    refine ⟨a, b, ?_, L⟩
    rcases D with ⟨x, y⟩ | ⟨x, y⟩
    · exact .inl ⟨by omega, y⟩
    · exact .inl ⟨by omega, y⟩
  · refine F.to_ a b ?_
    rcases D with ⟨x, y⟩ | ⟨x, y⟩
    · by_cases g : a = i
      · exact .inr ⟨g, y⟩
      · exact .inl ⟨by omega, y⟩
    · omega
section
variable {P : Program} {w : World} {K : PySem.W.Frag} {mg : Str → Option Value} {base : Heap} {fB fH fI : Addr} {dB dH dI : FuncData}
theorem ok_two {f : Addr} {fd : FuncData} (F : Fun K "_first_unraised_by_two" "_first_unraised_by_two" s_first_unraised_by_two f fd) (MT : MaxT mg) (Un : CalD P w K mg base "unraised" 5 ["side", "least"] [.int 1] spUnr fB dB) (F2 : Cal P w K mg base "first_in_both" 105 ["one", "other", "value"] spFI2 fH dH) : FnOk P w K mg base CX0 106 f fd ["first", "second", "value"] spTwo := by
  refine F.ok sc_first_unraised_by_two (fun vs H Q E h => ?_) (fun cdv A outer s0 H vs Q E hr h => ?_)
  · obtain ⟨p, q, d, e, v, rfl, _⟩ := h
    rfl
  · obtain ⟨p, q, d, e, v, rfl, hp, S, hq, T, qq⟩ := h
    have nd := sc_first_unraised_by_two.nd
    refine ⟨_, pss_cons (ps_set (i := 3) nd rfl (Or.inl rfl) (pe_lst pa_nil))
      (pss_cons (ps_for PassesOwn.never rfl (pi_list (pcd Un hr (by decide) (by rfl) (pa_cons (pv 0) pa_nil))) (pg_name (i := 4) nd rfl (Or.inl rfl))
        (pss_one (ps_for PassesOwn.never rfl (pi_list (pcd Un hr (by decide) (by rfl) (pa_cons (pv 1) pa_nil))) (pg_name (i := 5) nd rfl (Or.inl rfl))
          (pss_cons (ps_set (i := 6) nd rfl (Or.inl rfl) (pcl F2 hr (by decide) (by rfl) (pa_cons (pv 4) (pa_cons (pv 5) (pa_cons (pv 2) pa_nil)))))
          (pss_one (ps_if (pt_cmpR op_notN (pv 6) pe_non (nomark _)) (pss_one (ps_expr (pe_bm PySem.F.plainAttrs_list PySem.F.slot_list_append PySem.F.type_list_append mt_append (pv 3) (pa_cons (pv 6) pa_nil)))) pss_nil))))))
      (pss_one (ps_ret (pe_callBK (cr_minDf rfl hr.units) (by rfl) MT.min (by decide +kernel) (pa_cons (pv 3) pa_nil) (pk_cons pe_non pk_nil))))), ?_⟩
    have fb1 := figs_bd (m := d.m) S.s0
    have fb2 := figs_bd (m := e.m) T.s0
    walk_at "rd"
    refine ⟨(by show 0 ≤ sizeLine; decide), fun N nN => ?_⟩
    have s01 : Same H (upd H N (.lst [])) := fun b u z => (upd_ne (ne_of_none z nN)).trans z
    have fN : upd H N (.lst []) N = some (.lst []) := upd_same
    generalize upd H N (.lst []) = H1 at s01 fN ⊢
    walk_at "rd"
    refine ⟨p, d.o, d.s, d.m, rfl, s01 _ _ hp, S, fun L1 H2 nL1 s12 B1 => ?_⟩
    obtain ⟨ps1, hL1, lp1, at1⟩ := B1
    walk_at "rd"
    refine ⟨⟨_, SqL.of hL1⟩, ?_⟩
    have hN2 := s12 _ _ fN
    have nL1N : L1 ≠ N := fun z => by rw [z, fN] at nL1; cases nL1
    -- what stands through both loops
    have bel1 : ∀ (j : Nat) (b : Addr), ps1[j]? = some b → b ≠ N := fun j b hb z => by
      have := at1 j b hb
      rw [z, hN2] at this
      cases this
    refine for_list (K := K) (a := L1) (xs := ps1.map V.ref) (fun i st H' => ∃ (x4 x5 x6 : Option V) (ns : List Int), st = [some (.ref p), some (.ref q), some (.int v), some (.ref N), x4, x5, x6] ∧ (∀ b u, H2 b = some u → b ≠ N → H' b = some u) ∧ H' N = some (.lst (ns.map V.int)) ∧ ns.length ≤ 2 * i ∧ FndP d e v (DoneP (figsN e.s e.m).toNat i 0) ns)
      ⟨none, none, none, [], rfl, fun b u z _ => z, hN2, Nat.zero_le _, ⟨fun n h => absurd h List.not_mem_nil, fun a b D => by rcases D with ⟨x, _⟩ | ⟨_, y⟩ <;> omega⟩⟩ (fun _ _ _ _ ⟨_, _, _, _, _, pr, _⟩ => SqL.of (pr _ _ hL1 nL1N)) ?_ ?_
    · rintro i y st H3 hy ⟨x4, x5, x6, ns, rfl, pr, hN, ln, FP⟩
      obtain ⟨b1, hb1, rfl⟩ : ∃ b, ps1[i]? = some b ∧ y = .ref b := by
        rw [List.getElem?_map] at hy
        cases e : ps1[i]? with
        | none => rw [e] at hy; cases hy
        | some b => rw [e] at hy; exact ⟨b, rfl, (Option.some.inj hy).symm⟩
      have il : i < 2 := by
        have := (List.getElem?_eq_some_iff.mp hb1).1
        omega
      have hq3 : H3 q = some (sideV e.o e.s e.m) := pr _ _ (s12 _ _ (s01 _ _ hq)) (ne_of (s01 _ _ hq) fN (by intro z; cases z))
      walk_at "rd"
      refine ⟨q, e.o, e.s, e.m, rfl, hq3, T, fun L2 H4 nL2 s34 B2 => ?_⟩
      obtain ⟨ps2, hL2, lp2, at2⟩ := B2
      have hN4 := s34 _ _ hN
      have nL2N : L2 ≠ N := fun z => by rw [z, hN] at nL2; cases nL2
      walk_at "rd"
      refine ⟨⟨_, SqL.of hL2⟩, ?_⟩
      refine for_list (K := K) (a := L2) (xs := ps2.map V.ref) (fun j st H' => ∃ (x5 x6 : Option V) (ns : List Int), st = [some (.ref p), some (.ref q), some (.int v), some (.ref N), some (.ref b1), x5, x6] ∧ (∀ b u, H4 b = some u → b ≠ N → H' b = some u) ∧ H' N = some (.lst (ns.map V.int)) ∧ ns.length ≤ 2 * i + j ∧ FndP d e v (DoneP (figsN e.s e.m).toNat i j) ns)
        ⟨x5, x6, ns, rfl, fun b u z _ => z, hN4, ln, FP⟩ (fun _ _ _ _ ⟨_, _, _, _, pr, _⟩ => SqL.of (pr _ _ hL2 nL2N)) ?_ ?_
      · rintro j y st H5 hy ⟨y5, y6, ns, rfl, pr4, hN5, ln, FP⟩
        obtain ⟨b2, hb2, rfl⟩ : ∃ b, ps2[j]? = some b ∧ y = .ref b := by
          rw [List.getElem?_map] at hy
          cases e : ps2[j]? with
          | none => rw [e] at hy; cases hy
          | some b => rw [e] at hy; exact ⟨b, rfl, (Option.some.inj hy).symm⟩
        have jl : j < 2 := by
          have := (List.getElem?_eq_some_iff.mp hb2).1
          omega
        have g1 := at1 i b1 hb1
        have g1n := bel1 i b1 hb1
        have g1' := pr4 _ _ (s34 _ _ (pr _ _ g1 g1n)) g1n
        have g2 := at2 j b2 hb2
        have g2n : b2 ≠ N := fun z => by rw [z, hN4] at g2; cases g2
        have g2' := pr4 _ _ g2 g2n
        walk_at "rd"
        refine ⟨b1, b2, _, _, _, _, _, _, v, rfl, g1', blkP_of S, g2', blkP_of T, fun r L => ?_⟩
        have FP2 := fnd_add FP L
        walk_at "rd"
        cases r with
        | none =>
          refine ⟨rfl, ?_⟩
          walk_at "rd"
          rw [Option.toList_none, List.append_nil] at FP2
          exact ⟨_, _, ns, rfl, pr4, hN5, by omega, FP2⟩
        | some x =>
          refine ⟨rfl, ?_⟩
          walk_at "rd"
          refine ⟨.inl ⟨rfl, _, SqL.of hN5⟩, ?_⟩
          walk_at "rd"
          refine ⟨N, _, _, rfl, rfl, hN5, (by rw [List.length_map]; exact Nat.lt_of_le_of_lt ln (Nat.lt_of_lt_of_le (by omega : 2 * i + j < 100) (by decide))), ?_⟩
          refine ⟨_, _, ns ++ [x], rfl, fun b u z nb => (upd_ne nb).trans (pr4 _ _ z nb), ?_, by rw [List.length_append]; show ns.length + 1 ≤ _; omega, FP2⟩
          rw [List.map_append]
          exact upd_same
      · rintro st H5 ⟨y5, y6, ns, rfl, pr4, hN5, ln, FP⟩
        rw [List.length_map, lp2] at FP ln
        refine ⟨_, _, _, ns, rfl, fun b u z nb => pr4 _ _ (s34 _ _ (pr _ _ z nb)) nb, hN5, by omega, fnd_row FP⟩
    · rintro st H3 ⟨x4, x5, x6, ns, rfl, pr, hN, ln, FP⟩
      rw [List.length_map, lp1] at FP
      obtain ⟨en, em⟩ := fnd_end S T rfl rfl FP
      have sH : Same H H3 := fun b u z => pr _ _ (s12 _ _ (s01 _ _ z)) (ne_of_none z nN)
      walk_at "rd"
      refine ⟨N, ns, .non, rfl, rfl, SqL.of hN, fun z => qq none _ (en z) sH, fun m mi mm => qq (some m) _ (em m mi mm) sH⟩
end
end HT
namespace HT
open PySem L2
/-- no side raises the value -/
def UnA (ss : List Sd) (x : Int) : Prop := ∀ d ∈ ss, dueM d.o d.s d.m x ≤ x
theorem com_dvd : ∀ (ss : List Sd) (n : Nat), n ∣ ss.foldl (fun n d => n.lcm (perN d)) n ∧ ∀ d ∈ ss, perN d ∣ ss.foldl (fun n d => n.lcm (perN d)) n
  | [], n => ⟨Nat.dvd_refl _, fun d h => absurd h List.not_mem_nil⟩
  | d :: ss, n => by
    obtain ⟨a, b⟩ := com_dvd ss (n.lcm (perN d))
    rw [List.foldl_cons]
    refine ⟨Nat.dvd_trans (Nat.dvd_lcm_left _ _) a, fun e he => ?_⟩
    rcases List.mem_cons.mp he with z | z
    · rw [z]; exact Nat.dvd_trans (Nat.dvd_lcm_right _ _) a
    · exact b e z
theorem per_com {ss : List Sd} {d : Sd} (h : d ∈ ss) (hd : SideP d.o d.s d.m) : perM d.s d.m ∣ (comN ss : Int) := by
  have pa := perM_bd hd
  have ea : ((perN d : Nat) : Int) = perM d.s d.m := Int.toNat_of_nonneg (by omega)
  rw [← ea]
  exact Int.natCast_dvd_natCast.mpr ((com_dvd ss 1).2 d h)
theorem una_com {ss : List Sd} (hs : ∀ d ∈ ss, SideP d.o d.s d.m) (x t : Int) : UnA ss (x + (comN ss : Int) * t) ↔ UnA ss x := by
  have key : ∀ d ∈ ss, dueM d.o d.s d.m (x + (comN ss : Int) * t) = dueM d.o d.s d.m x + (comN ss : Int) * t := fun d hd =>
    due_dvd (hs d hd).md (hs d hd).s0 (Int.dvd_mul_of_dvd_left (per_com hd (hs d hd)))
  constructor
  · intro h d hd
    have := h d hd
    rw [key d hd] at this
    omega
  · intro h d hd
    rw [key d hd]
    have := h d hd
    omega
theorem una_none {ss : List Sd} (hs : ∀ d ∈ ss, SideP d.o d.s d.m) {v u : Int} (hu : v + (comN ss : Int) ≤ u) (no : ∀ y, v ≤ y → y < u → ¬ UnA ss y) : LeastI (UnA ss) v none := by
  intro y y0 c
  have cp : 0 < (comN ss : Int) := by
    have := com_pos ss 1 (by decide) hs
    show 0 < ((ss.foldl (fun n d => n.lcm (perN d)) 1 : Nat) : Int)
    omega
  have r0 := Int.emod_nonneg (y - v) (show (comN ss : Int) ≠ 0 by omega)
  have r1 := Int.emod_lt_of_pos (y - v) cp
  have ee := Int.emod_add_mul_ediv (y - v) (comN ss : Int)
  refine no (v + (y - v) % (comN ss : Int)) (by omega) (by omega) ?_
  have := una_com hs (v + (y - v) % (comN ss : Int)) ((y - v) / (comN ss : Int))
  rw [show v + (y - v) % (comN ss : Int) + (comN ss : Int) * ((y - v) / (comN ss : Int)) = y by omega] at this
  exact this.mp c
theorem hi_step {ss : List Sd} (hs : ∀ d ∈ ss, SideP d.o d.s d.m) {v u h : Int} (no : ∀ y, v ≤ y → y < u → ¬ UnA ss y) (hp : HiP ss u h) (ne : h ≠ u) : u < h ∧ ∀ y, v ≤ y → y < h → ¬ UnA ss y := by
  obtain ⟨a, b, c⟩ := hp
  refine ⟨by omega, fun y y0 y1 un => ?_⟩
  by_cases g : y < u
  · exact no y y0 g un
  · rcases c with e | ⟨d, hd, e⟩
    · exact ne e
    · have m := due_le (o := d.o) (hs d hd).md (hs d hd).s0 (show u ≤ y by omega)
      have := un d hd
      omega
theorem hi_bd {ss : List Sd} (hs : ∀ d ∈ ss, SideP d.o d.s d.m) {u h : Int} (hp : HiP ss u h) : h < u + 10 ^ 31 := by
  obtain ⟨a, b, c⟩ := hp
  rcases c with e | ⟨d, hd, e⟩
  · omega
  · have := due_near (o := d.o) (v := u) (hs d hd).md (hs d hd).s0
    have := (hs d hd).s1
    omega
theorem una_two {d e : Sd} {x : Int} : UnR d e x ↔ UnA [d, e] x := by
  constructor
  · rintro ⟨a, b⟩ f hf
    rcases List.mem_cons.mp hf with z | z
    · rw [z]; exact a
    · rw [List.mem_singleton.mp z]; exact b
  · intro h
    exact ⟨h d List.mem_cons_self, h e (List.mem_cons_of_mem _ List.mem_cons_self)⟩
theorem down_le {o s v : Int} (hs : 1 ≤ s) : dueM o s "down" v ≤ v := by
  have := Int.emod_add_mul_ediv (v - o) s
  have := Int.emod_nonneg (v - o) (show s ≠ 0 by omega)
  unfold dueM figM
  rw [go_down, if_neg (by decide)]
  omega
theorem una_filter {ss : List Sd} (hs : ∀ d ∈ ss, SideP d.o d.s d.m) (x : Int) : UnA (ss.filter upD) x ↔ UnA ss x := by
  constructor
  · intro h d hd
    by_cases u : upD d = true
    · exact h d (List.mem_filter.mpr ⟨hd, u⟩)
    · have e : firstM d.s d.m = "down" := by
        unfold upD at u
        simpa using u
      have f := due_form (o := d.o) x (hs d hd).md (hs d hd).s0
      rw [e] at f
      rw [← f]
      exact down_le (hs d hd).s0
  · intro h d hd
    exact h d (List.mem_filter.mp hd).1
def FewP (ss : List Sd) : Prop := (ss.filter upD).length ≤ 2 ∨ comN (ss.filter upD) ≤ 100000
def spFU : Sp := fun vs H Q _ => ∃ (l : Addr) (xs : List V) (ss : List Sd) (v : Int), vs = [.ref l, .int v] ∧ SidL H l xs ss ∧ (-2 ^ 800 < v ∧ v < 2 ^ 800) ∧ ∀ r H', LeastI (UnA ss) v r → Same H H' → Q (oV r) H'
def spCF : Sp := fun vs H Q _ => ∃ (l : Addr) (xs : List V) (ss : List Sd), vs = [.ref l] ∧ SidL H l xs ss ∧ (ss.length ≤ 2 ∨ comN ss ≤ 100000) ∧ Q .non H
def spReach : Sp := fun vs H Q _ => ∃ (l : Addr) (xs : List V) (ss : List Sd) (v : Int), vs = [.ref l, .int v] ∧ SidesAt H l xs ss ∧ (-2 ^ 790 < v ∧ v < 2 ^ 790) ∧ FewP ss ∧ FewP (ss.map mirD) ∧
  ∀ (lo hi : Option Int) (p : Addr) (H' : Hp), LeastI (UnA ss) v hi → LeastI (UnA (ss.map mirD)) (-v) lo → Same H H' → H p = none → H' p = some (.tup [oV (lo.map fun x => -x), oV hi]) → Q (.ref p) H'
section
variable {P : Program} {w : World} {K : PySem.W.Frag} {mg : Str → Option Value} {base : Heap} {fB fH fI fJ fL fM fN : Addr} {dB dH dI dJ dL dM dN : FuncData}
theorem ok_fu {f : Addr} {fd : FuncData} (F : Fun K "_first_unraised" "_first_unraised" s_first_unraised f fd) (A' : AmG mg) (Tw : Cal P w K mg base "_first_unraised_by_two" 106 ["first", "second", "value"] spTwo fB dB) (Co : Cal P w K mg base "common_period" 2 ["sides"] spPerL fH dH) (Hi : Cal P w K mg base "highest" 4 ["sides", "value"] spHi fI dI) : FnOk P w K mg base CX0 107 f fd ["raising", "value"] spFU := by
  refine F.ok sc_first_unraised (fun vs H Q E h => ?_) (fun cdv A outer s0 H vs Q E hr h => ?_)
  · obtain ⟨l, xs, ss, v, rfl, _⟩ := h
    rfl
  · obtain ⟨l, xs, ss, v, rfl, SS, hv, q⟩ := h
    have nd := sc_first_unraised.nd
    refine ⟨_, pss_cons (ps_if (pt_cmpR op_eq (pe_callB call_len_seq (by rfl) A'.len PySem.boot_len (pa_cons (pv 0) pa_nil)) pe_int (nomark _)) (pss_one (ps_ret (pcl Tw hr (by decide) (by rfl) (pa_cons (pe_ix ix_list (pv 0) pe_int (fun _ _ => rfl)) (pa_cons (pe_ix ix_list (pv 0) pe_int (fun _ _ => rfl)) (pa_cons (pv 1) pa_nil)))))) pss_nil)
      (pss_cons (ps_set (i := 2) nd rfl (Or.inl rfl) (pe_op op_add (pv 1) (pcl Co hr (by decide) (by rfl) (pa_cons (pv 0) pa_nil))))
      (pss_cons (ps_while PassesOwn.never (pt_cmpR op_lt (pv 1) (pv 2) (nomark _))
        (pss_cons (ps_set (i := 3) nd rfl (Or.inl rfl) (pcl Hi hr (by decide) (by rfl) (pa_cons (pv 0) (pa_cons (pv 1) pa_nil))))
        (pss_cons (ps_if (pt_cmpR op_eq (pv 3) (pv 1) (nomark _)) (pss_one (ps_ret (pv 1))) pss_nil)
        (pss_one (ps_set (i := 1) nd rfl (Or.inl rfl) (pv 3))))))
      (pss_one (ps_ret pe_non)))), ?_⟩
    walk_at "rd"
    refine ⟨l, _, rfl, .inl (SqL.of SS.hl), ?_⟩
    walk_at "rd"
    refine ⟨rfl, ?_⟩
    walk_at "rd"
    refine ite2 (fun z => ?_) (fun z => ?_)
    · have e1 := int_t z
      have e2 : ss.length = 2 := by
        rw [SS.len] at e1
        omega
      clear e1 z
      obtain ⟨d, e, rfl⟩ : ∃ d e, ss = [d, e] := by
        match ss, e2 with
        | [d, e], _ => exact ⟨d, e, rfl⟩
      obtain ⟨p1, x1, h1, s1⟩ := SS.at_ 0 d rfl
      obtain ⟨p2, x2, h2, s2⟩ := SS.at_ 1 e rfl
      obtain ⟨rfl⟩ : xs = [.ref p1, .ref p2] := by
        have := SS.len
        match xs, this, x1, x2 with
        | [a, b], _, x1, x2 => cases x1; cases x2; rfl
      walk_at "rd"
      refine ⟨l, _, _, _, rfl, rfl, SqL.of SS.hl, rfl, ?_⟩
      walk_at "rd"
      refine ⟨l, _, _, _, rfl, rfl, SqL.of SS.hl, rfl, ?_⟩
      walk_at "rd"
      exact ⟨p1, p2, d, e, v, rfl, h1, s1, h2, s2, fun r H' L sm => q r H' (leastI_congr (fun x => una_two) L) sm⟩
    walk_at "rd"
    refine ⟨l, xs, ss, rfl, SS, ?_⟩
    walk_at "rd"
    have cl := com_lt SS.side SS.l4
    refine ⟨fun m σ H' => ∃ (u : Int) (x3 : Option V), m = (v + (comN ss : Int) + 10 ^ 31 - u).toNat ∧ σ = [some (.ref l), some (.int u), some (.int (v + (comN ss : Int))), x3] ∧ Same H H' ∧ v ≤ u ∧ u < v + (comN ss : Int) + 10 ^ 31 ∧ ∀ y, v ≤ y → y < u → ¬ UnA ss y, ⟨_, v, none, rfl, rfl, Same.refl _, Int.le_refl _, by omega, fun y a b => by omega⟩, ?_⟩
    rintro m σ H' ⟨u, x3, rfl, rfl, sm, u0, u1, no⟩
    walk_at "rd"
    refine ite2 (fun z => ?_) (fun z => ?_)
    · have ue := of_decide_eq_true z
      refine ⟨fun σ' H'' => ∃ (u' : Int) (x3 : Option V), σ' = [some (.ref l), some (.int u'), some (.int (v + (comN ss : Int))), x3] ∧ Same H H'' ∧ u < u' ∧ u' < v + (comN ss : Int) + 10 ^ 31 ∧ ∀ y, v ≤ y → y < u' → ¬ UnA ss y, fun σ' H'' ⟨u', y3, e1, e2, e3, e4, e5⟩ => ⟨_, by omega, u', y3, rfl, e1, e2, by omega, e4, e5⟩, ?_⟩
      walk_at "rd"
      refine ⟨l, xs, ss, u, rfl, SS.same sm, by omega, fun h H2 hp s2 => ?_⟩
      walk_at "rd"
      refine ⟨rfl, ?_⟩
      walk_at "rd"
      refine ite2 (fun z => ?_) (fun z => ?_)
      · have e := int_t z
        subst e
        walk_at "rd"
        exact q (some h) _ ⟨u0, fun d hd => hp.2.1 d hd, no⟩ (sm.trans s2)
      · have ne := int_f z
        obtain ⟨n1, n2⟩ := hi_step SS.side no hp ne
        have hb := hi_bd SS.side hp
        walk_at "rd"
        exact ⟨h, _, rfl, sm.trans s2, n1, by omega, n2⟩
    · have ue : v + (comN ss : Int) ≤ u := by
        have : ¬ u < v + (comN ss : Int) := fun y => z (decide_eq_true y)
        omega
      walk_at "rd"
      exact q none _ (una_none SS.side ue no) sm
theorem ok_cf {f : Addr} {fd : FuncData} (F : Fun K "_check_few" "_check_few" s_check_few f fd) (A' : AmG mg) (Co : Cal P w K mg base "common_period" 2 ["sides"] spPerL fH dH) : FnOk P w K mg base CX0 3 f fd ["raising"] spCF := by
  refine F.ok sc_check_few (fun vs H Q E h => ?_) (fun cdv A outer s0 H vs Q E hr h => ?_)
  · obtain ⟨l, xs, ss, rfl, _⟩ := h
    rfl
  · obtain ⟨l, xs, ss, rfl, SS, few, q⟩ := h
    obtain ⟨tmp, hmp⟩ := A'.mp
    refine ⟨_, pss_one (ps_if (PW.pt (pw_and (pt_cmpR op_gt (pe_callB call_len_seq (by rfl) A'.len PySem.boot_len (pa_cons (pv 0) pa_nil)) pe_int (nomark _)) (pw_and1 (pt_cmpR op_gt (pcl Co hr (by decide) (by rfl) (pa_cons (pv 0) pa_nil)) (pe_glob (v := .int 100000) (by rfl) hmp ⟨_, rfl⟩) (nomark _))))) (pss_one ps_never) pss_nil), ?_⟩
    walk_at "rd"
    refine ⟨l, _, rfl, .inl (SqL.of SS.hl), ?_⟩
    walk_at "rd"
    refine ite2 (fun z => ?_) (fun z => ?_)
    · have gt := of_decide_eq_true z
      rw [SS.len] at gt
      walk_at "rd"
      refine ⟨l, xs, ss, rfl, SS, ?_⟩
      walk_at "rd"
      refine ite2 (fun z => ?_) (fun _ => ?_)
      · exfalso
        have := of_decide_eq_true z
        rcases few with y | y <;> omega
      · exact q
    · exact q
theorem ok_reach {f : Addr} {fd : FuncData} (F : Fun K "reach" "reach" s_reach f fd) (Ls : Cal P w K mg base "check_sides" 5 ["sides"] spSides fB dB) (Vl : Cal P w K mg base "check_value" 2 ["value"] spCheckValue fH dH) (Ra : Cal P w K mg base "raisers" 6 ["sides"] spRais fI dI) (Mi : Cal P w K mg base "mirrors" 5 ["sides"] spMirs fJ dJ)
    (Cf : Cal P w K mg base "_check_few" 3 ["raising"] spCF fL dL) (Fu : Cal P w K mg base "_first_unraised" 107 ["raising", "value"] spFU fM dM) : FnOk P w K mg base CX0 108 f fd ["sides", "value"] spReach := by
  refine F.ok sc_reach (fun vs H Q E h => ?_) (fun cdv A outer s0 H vs Q E hr h => ?_)
  · obtain ⟨l, xs, ss, v, rfl, _⟩ := h
    rfl
  · obtain ⟨l, xs, ss, v, rfl, SS, hv, f1, f2, q⟩ := h
    have nd := sc_reach.nd
    refine ⟨_, (pss_cons (ps_expr (pcl Ls hr (by decide) (by rfl) (pa_cons (pv 0) pa_nil)))
      (pss_cons (ps_expr (pcl Vl hr (by decide) (by rfl) (pa_cons (pv 1) pa_nil)))
      (pss_cons (ps_set (i := 2) nd rfl (Or.inl rfl) (pcl Ra hr (by decide) (by rfl) (pa_cons (pv 0) pa_nil)))
      (pss_cons (ps_set (i := 3) nd rfl (Or.inl rfl) (pcl Ra hr (by decide) (by rfl) (pa_cons (pcl Mi hr (by decide) (by rfl) (pa_cons (pv 0) pa_nil)) pa_nil)))
      (pss_cons (ps_expr (pcl Cf hr (by decide) (by rfl) (pa_cons (pv 2) pa_nil)))
      (pss_cons (ps_expr (pcl Cf hr (by decide) (by rfl) (pa_cons (pv 3) pa_nil)))
      (pss_cons (ps_set (i := 4) nd rfl (Or.inl rfl) (pcl Fu hr (by decide) (by rfl) (pa_cons (pv 3) (pa_cons (pe_un un_neg (pv 1)) pa_nil))))
      (pss_cons (ps_if (pt_cmpR op_notN (pv 4) pe_non (nomark _)) (pss_one (ps_set (i := 4) nd rfl (Or.inl rfl) (pe_un un_neg (pv 4)))) pss_nil)
      (pss_one (ps_ret (pe_tup (pa_cons (pv 4) (pa_cons (pcl Fu hr (by decide) (by rfl) (pa_cons (pv 2) (pa_cons (pv 1) pa_nil))) pa_nil))))))))))))), ?_⟩
    have sM : ∀ d ∈ ss.map mirD, SideP d.o d.s d.m := fun d hd => by
      obtain ⟨e, he, rfl⟩ := List.mem_map.mp hd
      exact side_mir (SS.side e he)
    walk_at "rd"
    refine ⟨l, xs, ss, rfl, SS, ?_⟩
    walk_at "rd"
    refine ⟨l, xs, ss, rfl, SS.toL, fun L1 y1 H1 n1 s1 S1 => ?_⟩
    walk_at "rd"
    refine ⟨l, xs, ss, rfl, SS.toL.same s1, fun L2 y2 H2 n2 s2 S2 => ?_⟩
    refine ⟨L2, y2, _, rfl, S2, fun L3 y3 H3 n3 s3 S3 => ?_⟩
    walk_at "rd"
    refine ⟨L1, y1, _, rfl, (S1.same s2).same s3, f1, ?_⟩
    walk_at "rd"
    refine ⟨L3, y3, _, rfl, S3, f2, ?_⟩
    walk_at "rd"
    refine ⟨L3, y3, _, -v, rfl, S3, by omega, fun lo H4 Llo s4 => ?_⟩
    have Llo2 := leastI_congr (una_filter sM) Llo
    walk_at "rd"
    cases lo with
    | none =>
      refine ⟨rfl, ?_⟩
      walk_at "rd"
      refine ⟨L1, y1, _, v, rfl, (((S1.same s2).same s3).same s4), by omega, fun hi H5 Lhi s5 => ?_⟩
      refine ⟨(by show 2 ≤ sizeLine; decide), fun p np => ?_⟩
      have sA := s1.trans (s2.trans (s3.trans (s4.trans s5)))
      exact q none hi p _ (leastI_congr (una_filter SS.side) Lhi) Llo2 (fun b u z => (upd_ne (ne_of_none (sA _ _ z) np)).trans (sA _ _ z)) (sA.free np) upd_same
    | some x =>
      refine ⟨rfl, ?_⟩
      walk_at "rd"
      refine ⟨L1, y1, _, v, rfl, (((S1.same s2).same s3).same s4), by omega, fun hi H5 Lhi s5 => ?_⟩
      refine ⟨(by show 2 ≤ sizeLine; decide), fun p np => ?_⟩
      have sA := s1.trans (s2.trans (s3.trans (s4.trans s5)))
      exact q (some x) hi p _ (leastI_congr (una_filter SS.side) Lhi) Llo2 (fun b u z => (upd_ne (ne_of_none (sA _ _ z) np)).trans (sA _ _ z)) (sA.free np) upd_same
end
end HT
namespace HT
open PySem L2
/-! ### which values come from which -/
def runW (w : List Sd) (x : Int) : Int := w.foldl (fun x d => dueM d.o d.s d.m x) x
def Rc (ss : List Sd) (x y : Int) : Prop := ∃ w : List Sd, (∀ d ∈ w, d ∈ ss) ∧ runW w x = y
theorem Rc.refl {ss : List Sd} (x : Int) : Rc ss x x := ⟨[], ⟨fun _ h => absurd h List.not_mem_nil, rfl⟩⟩
theorem Rc.trans {ss : List Sd} {x y z : Int} : Rc ss x y → Rc ss y z → Rc ss x z
  | ⟨a, ha, ea⟩, ⟨b, hb, eb⟩ => ⟨a ++ b, fun d hd => (List.mem_append.mp hd).elim (ha d) (hb d), by unfold runW at *; rw [List.foldl_append, ea, eb]⟩
theorem Rc.one {ss : List Sd} {d : Sd} (h : d ∈ ss) (x : Int) : Rc ss x (dueM d.o d.s d.m x) := ⟨[d], fun e he => by rw [List.mem_singleton.mp he]; exact h, rfl⟩
theorem runW_mono {w : List Sd} : ∀ {x y : Int}, (∀ d ∈ w, SideP d.o d.s d.m) → x ≤ y → runW w x ≤ runW w y := by
  induction w with
  | nil => exact fun _ h => h
  | cons d w ih => exact fun hs h => ih (fun e he => hs e (List.mem_cons_of_mem _ he)) (due_le (hs d List.mem_cons_self).md (hs d List.mem_cons_self).s0 h)
/-- the ascending list of what comes from v -/
def OutIs (ss : List Sd) (v : Int) (R : List Int) : Prop := R.Pairwise (· < ·) ∧ ∀ y, y ∈ R ↔ Rc ss v y
theorem rc_closed {ss : List Sd} {v : Int} {C : List Int} (h0 : v ∈ C) (hc : ∀ c ∈ C, ∀ d ∈ ss, dueM d.o d.s d.m c ∈ C) {y : Int} (h : Rc ss v y) : y ∈ C := by
  obtain ⟨w, hw, rfl⟩ := h
  induction w generalizing v with
  | nil => exact h0
  | cons d w ih => exact ih (hc v h0 d (hw d List.mem_cons_self)) fun e he => hw e (List.mem_cons_of_mem _ he)
theorem sorted_one : ∀ {a b : List Int}, a.Pairwise (· < ·) → b.Pairwise (· < ·) → (∀ y, y ∈ a ↔ y ∈ b) → a = b
  | [], [], _, _, _ => rfl
  | [], y :: b, _, _, h => nomatch (h y).mpr List.mem_cons_self
  | x :: a, [], _, _, h => nomatch (h x).mp List.mem_cons_self
  | x :: a, y :: b, ha, hb, h => by
    obtain ⟨a1, a2⟩ := List.pairwise_cons.mp ha
    obtain ⟨b1, b2⟩ := List.pairwise_cons.mp hb
    have e : x = y := by
      rcases List.mem_cons.mp ((h x).mp List.mem_cons_self) with z | z
      · exact z
      · rcases List.mem_cons.mp ((h y).mpr List.mem_cons_self) with u | u
        · exact u.symm
        · have := a1 y u
          have := b1 x z
          omega
    subst e
    rw [sorted_one a2 b2 fun z => ⟨fun m => ?_, fun m => ?_⟩]
    · rcases List.mem_cons.mp ((h z).mp (List.mem_cons_of_mem _ m)) with u | u
      · have := a1 z m
        omega
      · exact u
    · rcases List.mem_cons.mp ((h z).mpr (List.mem_cons_of_mem _ m)) with u | u
      · have := b1 z m
        omega
      · exact u
theorem OutIs.uniq {ss : List Sd} {v : Int} {R S : List Int} (a : OutIs ss v R) (b : OutIs ss v S) : R = S := sorted_one a.1 b.1 fun y => (a.2 y).trans (b.2 y).symm
theorem OutIs.self {ss : List Sd} {v : Int} {R : List Int} (a : OutIs ss v R) : v ∈ R := (a.2 v).mpr (Rc.refl v)
theorem OutIs.ne {ss : List Sd} {v : Int} {R : List Int} (a : OutIs ss v R) : 0 < R.length := List.length_pos_of_mem a.self
/-- the first is the least, the last the greatest -/
theorem sorted_first {R : List Int} (h : R.Pairwise (· < ·)) {m : Int} (e : R[0]? = some m) : m ∈ R ∧ ∀ y ∈ R, m ≤ y := by
  cases R with
  | nil => cases e
  | cons a R =>
    cases e
    obtain ⟨a1, a2⟩ := List.pairwise_cons.mp h
    exact ⟨List.mem_cons_self, fun y hy => (List.mem_cons.mp hy).elim (fun z => by omega) fun z => by have := a1 y z; omega⟩
theorem sorted_last {R : List Int} (h : R.Pairwise (· < ·)) {m : Int} (e : R[R.length - 1]? = some m) : m ∈ R ∧ ∀ y ∈ R, y ≤ m := by
  refine ⟨List.mem_of_getElem? e, fun y hy => ?_⟩
  obtain ⟨i, hi, ey⟩ := List.getElem_of_mem hy
  obtain ⟨hj, em⟩ := List.getElem?_eq_some_iff.mp e
  rw [List.pairwise_iff_getElem] at h
  by_cases z : i = R.length - 1
  · subst z
    omega
  · have := h i (R.length - 1) hi hj (by omega)
    omega
/-- a value to which one can come back from wherever one comes -/
def Rec (ss : List Sd) (b : Int) : Prop := ∀ y, Rc ss b y → Rc ss y b
theorem Rec.of {ss : List Sd} {b y : Int} (h : Rec ss b) (r : Rc ss b y) : Rec ss y := fun z hz => (h z (r.trans hz)).trans r
section
variable {ss : List Sd} (hs : ∀ d ∈ ss, SideP d.o d.s d.m)
include hs
/-- the bottom of the top -/
theorem rec_bot {x t b : Int} (ht : Rc ss x t) (mt : ∀ y, Rc ss x y → y ≤ t) (hb : Rc ss t b) (mb : ∀ y, Rc ss t y → b ≤ y) : Rec ss b := by
  intro y hy
  have hy2 := hb.trans hy
  obtain ⟨u, hu, e⟩ := hb
  have a := runW_mono (fun d hd => hs d (hu d hd)) (mt y (ht.trans hy2))
  rw [e] at a
  have b2 := mb (runW u y) (hy2.trans ⟨u, hu, rfl⟩)
  exact ⟨u, hu, by omega⟩
/-- two resting classes of which the one has values on both sides of a value of the other are one -/
theorem rec_meet {b p p1 p2 lo hi : Int} (rb : Rec ss b) (rp : Rec ss p) (h1 : Rc ss p p1) (g1 : b ≤ p1) (h2 : Rc ss p p2) (g2 : p2 ≤ b)
    (hlo : Rc ss p lo) (mlo : ∀ y, Rc ss p y → lo ≤ y) (hhi : Rc ss p hi) (mhi : ∀ y, Rc ss p y → y ≤ hi) : Rc ss p b := by
  obtain ⟨z, hz, ez⟩ : Rc ss p1 lo := (rp p1 h1).trans hlo
  obtain ⟨y, hy, ey⟩ : Rc ss p2 hi := (rp p2 h2).trans hhi
  have a := runW_mono (fun d hd => hs d (hz d hd)) g1
  have c := runW_mono (fun d hd => hs d (hy d hd)) g2
  rw [ez] at a
  rw [ey] at c
  have b1 : Rc ss b (runW z b) := ⟨z, hz, rfl⟩
  have b2 : Rc ss b (runW y b) := ⟨y, hy, rfl⟩
  obtain ⟨q, hq, eq⟩ : Rc ss (runW z b) (runW y b) := (rb _ b1).trans b2
  have f := runW_mono (fun d hd => hs d (hq d hd)) a
  have g : Rc ss p (runW q lo) := hlo.trans ⟨q, hq, rfl⟩
  have i := mhi _ g
  rw [eq] at f
  have e : runW q lo = runW y b := by omega
  rw [e] at g
  exact g.trans (rb _ b2)
/-- what the two resting classes of the program are -/
structure Two (ss : List Sd) (v : Int) (b b' : Int) : Prop where
  rb : Rec ss b
  rb' : Rec ss b'
  vb : Rc ss v b
  vb' : Rc ss v b'
  all : ∀ p, Rc ss v p → Rec ss p → Rc ss b p ∨ Rc ss b' p
  apart : ¬ Rc ss b b' → ∀ x y, Rc ss b x → Rc ss b' y → x < y
theorem two_of {v m M b b' : Int} (fin : ∀ p, Rc ss v p → ∃ lo hi, Rc ss p lo ∧ (∀ y, Rc ss p y → lo ≤ y) ∧ Rc ss p hi ∧ (∀ y, Rc ss p y → y ≤ hi)) (vm : Rc ss v m) (mm : ∀ y, Rc ss v y → m ≤ y) (vM : Rc ss v M) (mM : ∀ y, Rc ss v y → y ≤ M) (mb : Rc ss m b) (rb : Rec ss b) (Mb' : Rc ss M b') (rb' : Rec ss b') : Two ss v b b' := by
  have vb := vm.trans mb
  have vb' := vM.trans Mb'
  refine ⟨rb, rb', vb, vb', fun p vp rp => ?_, fun n x y hx hy => ?_⟩
  · obtain ⟨lo, hi, l1, l2, h1, h2⟩ := fin p vp
    rcases Int.le_total v p with le | le
    · refine .inr (rp _ ?_)
      obtain ⟨u, hu, eu⟩ := vb'
      obtain ⟨w, hw, ew⟩ := Mb'
      have a := runW_mono (fun d hd => hs d (hu d hd)) le
      have c := runW_mono (fun d hd => hs d (hw d hd)) (mM p vp)
      rw [eu] at a
      rw [ew] at c
      exact rec_meet hs rb' rp ⟨u, hu, rfl⟩ a ⟨w, hw, rfl⟩ c l1 l2 h1 h2
    · refine .inl (rp _ ?_)
      obtain ⟨u, hu, eu⟩ := vb
      obtain ⟨w, hw, ew⟩ := mb
      have a := runW_mono (fun d hd => hs d (hu d hd)) le
      have c := runW_mono (fun d hd => hs d (hw d hd)) (mm p vp)
      rw [eu] at a
      rw [ew] at c
      exact rec_meet hs rb rp ⟨w, hw, rfl⟩ c ⟨u, hu, rfl⟩ a l1 l2 h1 h2
  · by_cases z : x < y
    · exact z
    exfalso
    obtain ⟨lo, hi, l1, l2, h1, h2⟩ := fin b' vb'
    obtain ⟨u, hu, eu⟩ := mb
    obtain ⟨w, hw, ew⟩ : Rc ss x b := rb _ hx
    have a := runW_mono (fun d hd => hs d (hu d hd)) (mm b' vb')
    have c := runW_mono (fun d hd => hs d (hw d hd)) (Int.not_lt.mp z)
    rw [eu] at a
    rw [ew] at c
    have k := rec_meet hs rb rb' ⟨u, hu, rfl⟩ a (hy.trans ⟨w, hw, rfl⟩) c l1 l2 h1 h2
    exact n (rb' _ k)
end
theorem rec_iff {ss : List Sd} {p : Int} {R : List Int} {F : Int → List Int} (h : OutIs ss p R) (hF : ∀ y ∈ R, OutIs ss y (F y)) : Rec ss p ↔ ∀ y ∈ R, F y = R := by
  constructor
  · intro r y hy
    have hS := hF y hy
    refine sorted_one hS.1 h.1 fun z => ?_
    rw [hS.2 z, h.2 z]
    have py := (h.2 y).mp hy
    exact ⟨fun q => py.trans q, fun q => (r y py).trans q⟩
  · intro r y hy
    have m := (h.2 y).mpr hy
    have hS := hF y m
    rw [r y m] at hS
    exact (hS.2 p).mp h.self
theorem OutIs.of_rc {ss : List Sd} {p q : Int} {R : List Int} (h : OutIs ss p R) (a : Rc ss p q) (b : Rc ss q p) : OutIs ss q R := ⟨h.1, fun y => (h.2 y).trans ⟨fun z => b.trans z, fun z => a.trans z⟩⟩
end HT
namespace HT
open PySem L2
theorem lt1 {n c : Nat} (h : n + 64 < c) : n + 1 < c := by omega
/-- a list without repetitions is no longer than one that holds it -/
theorem nodup_le : ∀ {C R : List Int}, C.Nodup → (∀ y ∈ C, y ∈ R) → C.length ≤ R.length
  | [], _, _, _ => Nat.zero_le _
  | c :: C, R, h, k => by
    obtain ⟨a, b⟩ := List.nodup_cons.mp h
    have m := k c List.mem_cons_self
    have ih := nodup_le (C := C) (R := R.erase c) b fun y hy => (List.mem_erase_of_ne (fun z => a (by rw [← z]; exact hy))).mpr (k y (List.mem_cons_of_mem _ hy))
    rw [List.length_erase_of_mem m] at ih
    have := List.length_pos_of_mem m
    rw [List.length_cons]
    omega
/-- what a walk from v knows -/
structure Fnd (ss : List Sd) (v : Int) (C : List Int) (k : Nat) : Prop where
  nd : C.Nodup
  kl : k ≤ C.length
  v0 : v ∈ C
  rc : ∀ y ∈ C, Rc ss v y
  cl : ∀ i, i < k → ∀ c, C[i]? = some c → ∀ d ∈ ss, dueM d.o d.s d.m c ∈ C
  bd : ∀ (i : Nat) (c : Int), C[i]? = some c → v - 10 ^ 30 * (i : Int) ≤ c ∧ c ≤ v + 10 ^ 30 * (i : Int)
theorem Fnd.start (ss : List Sd) (v : Int) : Fnd ss v [v] 0 :=
  ⟨by simp, Nat.zero_le _, List.mem_singleton.mpr rfl, fun y h => by rw [List.mem_singleton.mp h]; exact Rc.refl v, fun i h => absurd h (Nat.not_lt_zero _), fun i c h => by
    cases i with
    | zero => cases h; omega
    | succ i => cases h⟩
theorem Fnd.put {ss : List Sd} {v : Int} {C : List Int} {k : Nat} (F : Fnd ss v C k) (hs : ∀ d ∈ ss, SideP d.o d.s d.m) {i : Nat} {c : Int} {d : Sd} (hi : C[i]? = some c) (hd : d ∈ ss) (new : dueM d.o d.s d.m c ∉ C) : Fnd ss v (C ++ [dueM d.o d.s d.m c]) k := by
  have il : i < C.length := (List.getElem?_eq_some_iff.mp hi).1
  refine ⟨?_, (by rw [List.length_append]; exact Nat.le_trans F.kl (Nat.le_add_right _ _)), List.mem_append_left _ F.v0, fun y hy => ?_, fun j hj x hx e he => ?_, fun j x hx => ?_⟩
  · rw [List.nodup_append]
    exact ⟨F.nd, by simp, fun a ha b hb => by rw [List.mem_singleton.mp hb]; exact fun z => new (z ▸ ha)⟩
  · rcases List.mem_append.mp hy with h | h
    · exact F.rc y h
    · rw [List.mem_singleton.mp h]
      exact (F.rc c (List.mem_of_getElem? hi)).trans (Rc.one hd c)
  · by_cases z : j < C.length
    · rw [List.getElem?_append_left z] at hx
      exact List.mem_append_left _ (F.cl j hj x hx e he)
    · have := F.kl
      omega
  · by_cases z : j < C.length
    · rw [List.getElem?_append_left z] at hx
      exact F.bd j x hx
    · rw [List.getElem?_append_right (by omega)] at hx
      have jl : j - C.length < 1 := (List.getElem?_eq_some_iff.mp hx).1
      have e : j - C.length = 0 := by omega
      rw [e] at hx
      cases hx
      have b := F.bd i c hi
      have n := due_near (o := d.o) (v := c) (hs d hd).md (hs d hd).s0
      have s1 := (hs d hd).s1
      omega
/-- where the place is done -/
theorem Fnd.next {ss : List Sd} {v : Int} {C : List Int} {k : Nat} {c : Int} (F : Fnd ss v C k) (hc : C[k]? = some c) (h : ∀ d ∈ ss, dueM d.o d.s d.m c ∈ C) : Fnd ss v C (k + 1) :=
  ⟨F.nd, (List.getElem?_eq_some_iff.mp hc).1, F.v0, F.rc, fun i hi x hx d hd => by
    by_cases z : i < k
    · exact F.cl i z x hx d hd
    · obtain rfl : i = k := by omega
      rw [hc] at hx
      cases hx
      exact h d hd, F.bd⟩
/-- where all places are done -/
theorem Fnd.done {ss : List Sd} {v : Int} {C R : List Int} (F : Fnd ss v C C.length) (pm : R.Perm C) (so : R.Pairwise (· ≤ ·)) : OutIs ss v R := by
  have nd : R.Nodup := pm.nodup_iff.mpr F.nd
  refine ⟨?_, fun y => ?_⟩
  · have : R.Pairwise fun a b => a ≤ b ∧ a ≠ b := so.and nd
    exact this.imp fun h => by omega
  · rw [pm.mem_iff]
    refine ⟨F.rc y, fun h => rc_closed F.v0 (fun c hc d hd => ?_) h⟩
    obtain ⟨i, hi, e⟩ := List.getElem_of_mem hc
    exact F.cl i hi c (by rw [List.getElem?_eq_getElem hi, e]) d hd
theorem Fnd.le {ss : List Sd} {v : Int} {C R : List Int} {k : Nat} (F : Fnd ss v C k) (h : OutIs ss v R) : C.length ≤ R.length := nodup_le F.nd fun y hy => (h.2 y).mpr (F.rc y hy)
theorem Fnd.near {ss : List Sd} {v : Int} {C : List Int} {k n : Nat} (F : Fnd ss v C k) (hn : C.length ≤ n) : ∀ y ∈ C, v - 10 ^ 30 * (n : Int) ≤ y ∧ y ≤ v + 10 ^ 30 * (n : Int) := fun y hy => by
  obtain ⟨i, hi, e⟩ := List.getElem_of_mem hy
  have := F.bd i y (by rw [List.getElem?_eq_getElem hi, e])
  omega
/-- the set beside the list -/
def KnownP (C : List Int) (kvs : List (Key × V)) : Prop := kvs.length ≤ C.length ∧ ∀ y : Int, (valV kvs (.inl y)).isSome = true ↔ y ∈ C
theorem KnownP.put {C : List Int} {kvs : List (Key × V)} (h : KnownP C kvs) (y : Int) (b : V) : KnownP (C ++ [y]) (putK kvs (.inl y) b) := by
  refine ⟨Nat.le_trans (length_putK _ _ _) (by have := h.1; rw [List.length_append]; exact Nat.add_le_add_right this 1), fun z => ?_⟩
  rw [valV_put, List.mem_append, List.mem_singleton]
  by_cases e : z = y
  · rw [if_pos (by rw [e])]
    exact ⟨fun _ => .inr e, fun _ => rfl⟩
  · rw [if_neg (fun q => e (by injection q)), h.2 z]
    exact ⟨.inl, fun q => q.resolve_right e⟩
theorem KnownP.start (v : Int) (b : V) : KnownP [v] [(.inl v, b)] := by
  refine ⟨Nat.le_refl _, fun y => ?_⟩
  by_cases e : v = y
  · rw [valV_pos (by rw [e])]
    exact ⟨fun _ => List.mem_singleton.mpr e.symm, fun _ => rfl⟩
  · rw [valV_neg (fun z => e (by injection z)), valV_nil]
    exact ⟨fun z => absurd z (by decide), fun z => absurd (List.mem_singleton.mp z).symm e⟩
end HT
namespace HT
open PySem L2
section
variable {P : Program} {w : World} {K : PySem.W.Frag} {mg : Str → Option Value} {base : Heap}
/-- both promises of a def -/
theorem or_ok {CX : CXT} {k : Nat} {f : Addr} {fd : FuncData} {ps : List Str} {sp sp' : Sp} (F : FnOk P w K mg base CX k f fd ps sp) (G : FnOk P w K mg base CX k f fd ps sp') : FnOk P w K mg base CX k f fd ps (fun vs H Q E => sp vs H Q E ∨ sp' vs H Q E) :=
  ⟨fun vs H Q E h => h.elim (F.len vs H Q E) (G.len vs H Q E), fun A outer s H args us vs Q E hr he hb hv hs => hs.elim (F.run A outer s H args us vs Q E hr he hb hv) (G.run A outer s H args us vs Q E hr he hb hv)⟩
end
end HT
namespace HT
open PySem L2
section
variable {P : Program} {w : World} {K : PySem.W.Frag} {mg : Str → Option Value} {base : Heap}
/-- a def that lets nothing out keeps its promise among errors too -/
theorem to_x {k : Nat} {f : Addr} {fd : FuncData} {ps : List Str} {sp : Sp} (F : FnOk P w K mg base CX0 k f fd ps sp) : FnOk P w K mg base (L2.CX P w) k f fd ps sp :=
  ⟨F.len, fun A outer s H args us vs Q E hr he hb hv hs => codeAny_mono (F.run A outer s H args us vs Q E hr he hb hv hs) fun r s' h => by
    unfold CR at h ⊢
    split at h
    · exact h
    · exact h
    · exact h.elim⟩
def spNo : Sp := fun _ _ _ _ => False
end
end HT
namespace HT
open PySem L2
/-- a thing of any kind, with its type's name -/
inductive Th (H : Hp) : V → String → Prop where
  | int (i : Int) : Th H (.int i) "int"
  | bl (b : Bool) : Th H (.bl b) "bool"
  | non : Th H .non "NoneType"
  | str (s : Str) : Th H (.str s) "str"
  | tup {p : Addr} {xs : List V} (h : H p = some (.tup xs)) : Th H (.ref p) "tuple"
  | lst {p : Addr} {xs : List V} (h : H p = some (.lst xs)) : Th H (.ref p) "list"
  | dk {p : Addr} {kvs : List (Key × V)} (h : H p = some (.dK kvs)) : Th H (.ref p) "dict"
theorem Th.ty {K : PySem.W.Frag} {H : Hp} {x : V} {n : String} (t : Th H x n) : TyX K H x (.type n) := by
  cases t with
  | int i => exact .base (.int i)
  | bl b => exact .base (.bl b)
  | non => exact .base .non
  | str s => exact .base (.str s)
  | tup h => exact .base (.tup h)
  | lst h => exact .base (.lst h)
  | dk h => exact .base (.dK h)
theorem Th.kint {K : PySem.W.Frag} {H : Hp} {x : V} {n : String} (t : Th H x n) : PySem.W.kitOne K (.type n) (.type "int") = some (n == "int" || n == "bool") := by
  cases t <;> exact kit_ty (by decide +kernel)
theorem Th.kbool {K : PySem.W.Frag} {H : Hp} {x : V} {n : String} (t : Th H x n) : PySem.W.kitOne K (.type n) (.type "bool") = some (n == "bool") := by
  cases t <;> exact kit_ty (by decide +kernel)
theorem Th.ktup {K : PySem.W.Frag} {H : Hp} {x : V} {n : String} (t : Th H x n) : PySem.W.kitOne K (.type n) (.type "tuple") = some (n == "tuple") := by
  cases t <;> exact kit_ty (by decide +kernel)
theorem Th.klst {K : PySem.W.Frag} {H : Hp} {x : V} {n : String} (t : Th H x n) : PySem.W.kitOne K (.type n) (.type "list") = some (n == "list") := by
  cases t <;> exact kit_ty (by decide +kernel)
theorem Th.same {H H' : Hp} {x : V} {n : String} (t : Th H x n) (s : Same H H') : Th H' x n := by
  cases t with
  | int i => exact .int i
  | bl b => exact .bl b
  | non => exact .non
  | str x => exact .str x
  | tup h => exact .tup (s _ _ h)
  | lst h => exact .lst (s _ _ h)
  | dk h => exact .dk (s _ _ h)
def isI (n : String) : Bool := n == "int"
def spIsAny : Sp := fun vs H Q _ => ∃ (x : V) (n : String), vs = [x] ∧ Th H x n ∧ Q (.bl (isI n)) H
/-- an int between the ends -/
def inB (x : V) (a b : Int) : Bool := match x with
  | .int i => decide (a ≤ i) && decide (i ≤ b)
  | _ => false
def spBetAny : Sp := fun vs H Q _ => ∃ (x : V) (n : String) (a b : Int), vs = [x, .int a, .int b] ∧ Th H x n ∧ Q (.bl (inB x a b)) H
/-- the names that the text of checks does not bind -/
structure ChkT (mg : Str → Option Value) : Prop where
  isi : mg "isinstance" = none
  int : mg "int" = none
  bool : mg "bool" = none
  tuple : mg "tuple" = none
  list : mg "list" = none
  len : mg "len" = none
section
variable {P : Program} {w : World} {K : PySem.W.Frag} {mg : Str → Option Value} {base : Heap} {fI : Addr} {dI : FuncData}
theorem ok_is_any {f : Addr} {fd : FuncData} (F : Fun K "is_int" "is_int" s_is_int f fd) (T : ChkT mg) : FnOk P w K mg base CX0 1 f fd ["thing"] spIsAny := by
  refine F.ok sc_is_int (fun vs H Q E h => ?_) (fun cdv A outer s H vs Q E hr h => ?_)
  · obtain ⟨x, n, rfl, _⟩ := h
    rfl
  · obtain ⟨x, n, rfl, t, q⟩ := h
    refine ⟨_, pss_one (ps_ret (pe_and (pe_callB call_isi (by rfl) T.isi (by decide +kernel) (pa_cons (pv 0) (pa_cons (pe_bltn (v := .ty "int") (by rfl) T.int (by decide +kernel) rfl) pa_nil)))
      (pe_one (pe_not (pe_callB call_isi (by rfl) T.isi (by decide +kernel) (pa_cons (pv 0) (pa_cons (pe_bltn (v := .ty "bool") (by rfl) T.bool (by decide +kernel) rfl) pa_nil))))))), ?_⟩
    walk_at "rd"
    refine ⟨_, _, _, _, _, rfl, .ty "int", t.ty, t.kint, ?_⟩
    walk_at "rd"
    refine ite2 (fun h => ?_) (fun h => ?_)
    · walk_at "rd"
      refine ⟨_, _, _, _, _, rfl, .ty "bool", t.ty, t.kbool, ?_⟩
      walk_at "rd"
      have e : (!(n == "bool")) = isI n := by
        cases t <;> first | rfl | exact absurd h (by decide)
      rw [e]
      exact q
    · have e : isI n = false := by
        cases t <;> first | rfl | exact absurd (by decide) h
      rw [e] at q
      exact q
theorem ok_bet_any {f : Addr} {fd : FuncData} (F : Fun K "is_int_between" "is_int_between" s_is_int_between f fd) (I : Cal P w K mg base "is_int" 1 ["thing"] spIsAny fI dI) : FnOk P w K mg base CX0 2 f fd ["thing", "least", "most"] spBetAny := by
  refine F.ok sc_is_int_between (fun vs H Q E h => ?_) (fun cdv A outer s H vs Q E hr h => ?_)
  · obtain ⟨x, n, a, b, rfl, _⟩ := h
    rfl
  · obtain ⟨x, n, a, b, rfl, t, q⟩ := h
    refine ⟨_, pss_one (ps_ret (pe_and (pcl I hr (by decide) (by rfl) (pa_cons (pv 0) pa_nil)) (pe_one (pe_chain op_le op_le (pv 1) (pv 0) (pv 2))))), ?_⟩
    walk_at "rd"
    refine ⟨x, n, rfl, t, ?_⟩
    cases t with
    | int i =>
      walk_at "rd"
      refine ite2 (fun h => ?_) (fun h => ?_)
      · walk_at "rd"
        change Q (.bl (decide (a ≤ i) && decide (i ≤ b))) H at q
        rw [decide_eq_true (of_decide_eq_true h)] at q
        exact q
      · change Q (.bl (decide (a ≤ i) && decide (i ≤ b))) H at q
        rw [decide_eq_false (of_decide_eq_false (by simpa using h))] at q
        exact q
    | _ => exact ⟨_, rfl, q⟩
end
end HT
namespace HT
open PySem L2
def modesD : List PyData := [.str "down", .str "up", .str "half_down", .str "half_up", .str "half_even"]
/-- a mode's place is taken by something else -/
def NoMode (d : PyData) : Prop := SeqAt.shaped d = true ∧ (modesD.any fun z => PyData.eqv z d) = false
/-- the four classes by number, and their base class at B -/
structure Er (K : PySem.W.Frag) (mg : Str → Option Value) (C : Nat → Addr) (B : Addr) : Prop where
  isi : mg "isinstance" = none
  ve : mg "ValueError" = none
  gB : mg "HandedError" = some (.ref B)
  g0 : mg "InvalidSide" = some (.ref (C 0))
  g1 : mg "InvalidSides" = some (.ref (C 1))
  g2 : mg "TooMany" = some (.ref (C 2))
  g3 : mg "InvalidValue" = some (.ref (C 3))
  kit : ∀ i j, i < 4 → j < 4 → PySem.W.kitOne K (.ref (C i)) (.ref (C j)) = some (decide (i = j))
  kitV : ∀ i, i < 4 → PySem.W.kitOne K (.ref (C i)) (.type "ValueError") = some true
  ec : ∀ i, i < 4 → ErrC K (C i)
  eg : ErrG K
  ex : ∀ i, i < 4 → PySem.W.excIn K (C i) [.type "ValueError", .type "Exception", .type "BaseException", .type "object"] "ValueError.__new__" = true
  kp : ∀ i, i < 4 → PySem.W.keepIn K (.ref (C i)) = true
  sb : ∀ i, i < 4 → PySem.W.subIn K (.ref (C i)) (.type "BaseException") = some true
  ty : ∀ i, i < 4 → PySem.W.typeIn K (.ref (C i)) = some (.type "type")
  emB : ∀ i, i < 4 → PySem.W.exmOne K (.ref (C i)) (.ref B) = some true
  em0 : PySem.W.exmOne K (.ref (C 0)) (.ref (C 0)) = some true
/-- flat data, and a list of one text -/
inductive Fl (H : Hp) : V → PyData → Prop where
  | non : Fl H .non .none
  | bl (b : Bool) : Fl H (.bl b) (.bool b)
  | int (i : Int) : Fl H (.int i) (.int i)
  | str (s : Str) : Fl H (.str s) (.str s)
  | one {l : Addr} {s : Str} (h : H l = some (.lst [.str s])) : Fl H (.ref l) (.list [.str s])
theorem Fl.dp {K : PySem.W.Frag} {H : Hp} {c : V} {d : PyData} (f : Fl H c d) : Dp K H c d := by
  cases f with
  | non => exact .non
  | bl b => exact .bl b
  | int i => exact .int i
  | str s => exact .str s
  | one h => exact .lst (SqL.of h) (.cons (.str _) .nil)
theorem Fl.same {H H' : Hp} {c : V} {d : PyData} (f : Fl H c d) (s : Same H H') : Fl H' c d := by
  cases f with
  | non => exact .non
  | bl b => exact .bl b
  | int i => exact .int i
  | str x => exact .str x
  | one h => exact .one (s _ _ h)
/-- no side -/
inductive BadS (K : PySem.W.Frag) (H : Hp) : V → Prop where
  | kind {x : V} {n : String} (t : Th H x n) (h : (n == "tuple") = false) : BadS K H x
  | len {p : Addr} {xs : List V} (hp : H p = some (.tup xs)) (h : ¬ xs.length = 3) : BadS K H (.ref p)
  | off {p : Addr} {a b c : V} {n : String} (hp : H p = some (.tup [a, b, c])) (t : Th H a n) (h : inB a (-10 ^ 40) (10 ^ 40) = false) : BadS K H (.ref p)
  | stp {p : Addr} {a b c : V} {n m : String} (hp : H p = some (.tup [a, b, c])) (t : Th H a n) (h : inB a (-10 ^ 40) (10 ^ 40) = true) (u : Th H b m) (g : inB b 1 (10 ^ 30) = false) : BadS K H (.ref p)
  | mod {p : Addr} {a b c : V} {n m : String} {d : PyData} (hp : H p = some (.tup [a, b, c])) (t : Th H a n) (h : inB a (-10 ^ 40) (10 ^ 40) = true) (u : Th H b m) (g : inB b 1 (10 ^ 30) = true) (dp : Fl H c d) (hd : NoMode d) : BadS K H (.ref p)
theorem BadS.same {K : PySem.W.Frag} {H H' : Hp} {x : V} (b : BadS K H x) (e : Same H H') : BadS K H' x := by
  cases b with
  | kind t h => exact .kind (t.same e) h
  | len hp h => exact .len (e _ _ hp) h
  | off hp t h => exact .off (e _ _ hp) (t.same e) h
  | stp hp t h u g => exact .stp (e _ _ hp) (t.same e) h (u.same e) g
  | mod hp t h u g dp hd => exact .mod (e _ _ hp) (t.same e) h (u.same e) g (dp.same e) hd
def GoodS (H : Hp) (x : V) : Prop := ∃ (p : Addr) (o s : Int) (m : Str), x = .ref p ∧ H p = some (sideV o s m) ∧ SideP o s m
def spValX (C : Nat → Addr) : Sp := fun vs H Q E => ∃ (x : V) (n : String), vs = [x] ∧ Th H x n ∧ (isI n = true → Q .non H) ∧ (isI n = false → E (.ref (C 3)) none H)
def spSideX (K : PySem.W.Frag) (C : Nat → Addr) : Sp := fun vs H Q E => ∃ x : V, vs = [x] ∧ ((GoodS H x ∧ Q .non H) ∨ (BadS K H x ∧ E (.ref (C 0)) none H))
def rNotInT (K : PySem.W.Frag) : R2 := fun x y H Q => ∃ d ds, Dp K H x d ∧ Dp K H y (.tuple ds) ∧ SeqAt.shaped d = true ∧ PyData.canLayAll0 ds = true ∧ PyData.depthAll ds ≤ 60 ∧ Q (.bl (!ds.any fun z => PyData.eqv z d)) H
theorem op_notInT {X : Cx} (hu : X.A.units + 64 < cLine) : OpR X (compareOp .NotIn) (rNotInT X.K) := by
  intro pins sh st H x y v u Q iv rx ry h
  obtain ⟨d, ds, hd, he, sd, se, sz, q⟩ := h
  obtain ⟨as, r1⟩ := Dp.reads iv d x v hd rx
  obtain ⟨bs, r2⟩ := Dp.reads iv (.tuple ds) y u he ry
  refine SeqAt.notIn_tuple_reads r2 r1 se (SeqAt.canLay_of_shaped sd) ?_ ⟨.bl _, H, iv, rfl, q⟩
  have : min (PyData.depthAll ds) d.depth ≤ PyData.depthAll ds := Nat.min_le_left _ _
  omega
/-- the table of modes -/
structure ModT (K : PySem.W.Frag) (mg : Str → Option Value) (aM : Addr) : Prop where
  gM : mg "MODES" = some (.ref aM)
  tM : ∀ H, SqT K H aM modesV
theorem dpModes {K : PySem.W.Frag} {H : Hp} {aM : Addr} (t : SqT K H aM modesV) : Dp K H (.ref aM) (.tuple modesD) := .tup t (.cons (.str _) (.cons (.str _) (.cons (.str _) (.cons (.str _) (.cons (.str _) .nil)))))
theorem mode_inX {m : Str} (h : Mode m) : SeqAt.shaped (.str m) = true ∧ (modesD.any fun z => PyData.eqv z (.str m)) = true := by
  rcases h with e | e | e | e | e <;> subst e <;> decide +kernel
section
variable {P : Program} {w : World} {K : PySem.W.Frag} {mg : Str → Option Value} {base : Heap} {aM fI fB fV fC fL fN fW B : Addr} {dI dB dV dC dL dN dW : FuncData} {C : Nat → Addr}
theorem ok_val_x {f : Addr} {fd : FuncData} (F : Fun K "check_value" "check_value" s_check_value f fd) (R : Er K mg C B) (I : Cal P w K mg base "is_int" 1 ["thing"] spIsAny fI dI) : FnOk P w K mg base (L2.CX P w) 2 f fd ["value"] (spValX C) := by
  refine F.okX sc_check_value (fun vs H Q E h => ?_) (fun cdv A outer s H vs Q E hr h => ?_)
  · obtain ⟨x, n, rfl, _⟩ := h
    rfl
  · obtain ⟨x, n, rfl, t, q1, q2⟩ := h
    refine ⟨_, pss_one (ps_if (pt_not (pt_val (pcl I hr (by decide) (by rfl) (pa_cons (pv 0) pa_nil)))) (pss_one (ps_raise rfl (takes_of rfl rfl rfl rfl) (pmk_own PySem.F.excBase_ValueError (R.ex 3 (by decide)) R.g3 (R.kp 3 (by decide)) (raises_own (R.sb 3 (by decide)) (R.ty 3 (by decide))) (by rfl)))) pss_nil), ?_⟩
    walk_at "rd"
    refine ⟨x, n, rfl, t, ?_⟩
    walk_at "rd"
    refine ite2 (fun h => ?_) (fun h => ?_)
    · exact q2 (by simpa using h)
    · exact q1 (not_f h)
end
end HT
namespace HT
open PySem L2
section
variable {P : Program} {w : World} {K : PySem.W.Frag} {mg : Str → Option Value} {base : Heap} {aM fI fB fV fC fL fN fW B : Addr} {dI dB dV dC dL dN dW : FuncData} {C : Nat → Addr}
theorem ok_side_x {f : Addr} {fd : FuncData} (F : Fun K "check_side" "check_side" s_check_side f fd) (T : ChkT mg) (M : ModT K mg aM) (R : Er K mg C B) (Bt : Cal P w K mg base "is_int_between" 2 ["thing", "least", "most"] spBetAny fB dB) : FnOk P w K mg base (L2.CX P w) 3 f fd ["side"] (spSideX K C) := by
  refine F.okAny sc_check_side (fun vs H Q E h => ?_) (fun cdv A outer s0 H vs Q E hr h => ?_)
  · obtain ⟨x, rfl, _⟩ := h
    rfl
  · obtain ⟨x, rfl, h⟩ := h
    have nd := sc_check_side.nd
    refine ⟨_, pss_cons (ps_if (PW.pt (pw_or (pt_not (pt_val (pe_callB call_isi (by rfl) T.isi (by decide +kernel) (pa_cons (pv 0) (pa_cons (pe_bltn (v := .ty "tuple") (by rfl) T.tuple (by decide +kernel) rfl) pa_nil)))))
        (pw_or1 (pt_cmpR op_ne (pe_callB call_len_seq (by rfl) T.len PySem.boot_len (pa_cons (pv 0) pa_nil)) pe_int (nomark _))))) (pss_one (ps_raise rfl (takes_of rfl rfl rfl rfl) (pmk_own PySem.F.excBase_ValueError (R.ex 0 (by decide)) R.g0 (R.kp 0 (by decide)) (raises_own (R.sb 0 (by decide)) (R.ty 0 (by decide))) (by rfl)))) pss_nil)
      (pss_cons (ps_asg (pv 0) (pg_tup (by rfl) (pgs_cons (pg_name (i := 1) nd rfl (Or.inl rfl)) (pgs_cons (pg_name (i := 2) nd rfl (Or.inl rfl)) (pgs_cons (pg_name (i := 3) nd rfl (Or.inl rfl)) pgs_nil)))))
      (pss_cons (ps_if (pt_not (pt_val (pcl Bt hr (by decide) (by rfl) (pa_cons (pv 1) (pa_cons (pe_un un_neg (pe_op op_pow pe_int pe_int)) (pa_cons (pe_op op_pow pe_int pe_int) pa_nil)))))) (pss_one (ps_raise rfl (takes_of rfl rfl rfl rfl) (pmk_own PySem.F.excBase_ValueError (R.ex 0 (by decide)) R.g0 (R.kp 0 (by decide)) (raises_own (R.sb 0 (by decide)) (R.ty 0 (by decide))) (by rfl)))) pss_nil)
      (pss_cons (ps_if (pt_not (pt_val (pcl Bt hr (by decide) (by rfl) (pa_cons (pv 2) (pa_cons pe_int (pa_cons (pe_op op_pow pe_int pe_int) pa_nil)))))) (pss_one (ps_raise rfl (takes_of rfl rfl rfl rfl) (pmk_own PySem.F.excBase_ValueError (R.ex 0 (by decide)) R.g0 (R.kp 0 (by decide)) (raises_own (R.sb 0 (by decide)) (R.ty 0 (by decide))) (by rfl)))) pss_nil)
      (pss_one (ps_if (pt_cmpR (op_notInT hr.units) (pv 3) (pe_glob (v := .ref aM) (by rfl) M.gM rfl) (by rfl)) (pss_one (ps_raise rfl (takes_of rfl rfl rfl rfl) (pmk_own PySem.F.excBase_ValueError (R.ex 0 (by decide)) R.g0 (R.kp 0 (by decide)) (raises_own (R.sb 0 (by decide)) (R.ty 0 (by decide))) (by rfl)))) pss_nil))))), ?_⟩
    walk_at "rd"
    rcases h with ⟨⟨p, o, s, m, rfl, hp, S⟩, q⟩ | ⟨bad, q⟩
    · refine ⟨_, _, _, _, _, rfl, .ty "tuple", .base (.tup hp), kit_ty (r := true) (by decide +kernel), ?_⟩
      walk_at "rd"
      refine ⟨p, _, rfl, .inr (SqT.of hp), rfl, ?_⟩
      walk_at "rd"
      refine ⟨p, _, rfl, SqT.of hp, rfl, _, _, rfl, _, _, rfl, _, _, rfl, rfl, ?_⟩
      walk_at "rd"
      refine ⟨⟨by decide, by decide, by decide⟩, ?_⟩
      walk_at "rd"
      refine ⟨⟨by decide, by decide, by decide⟩, _, _, _, _, rfl, .int o, ?_⟩
      have e1 : inB (.int o) (-(10 : Int) ^ (40 : Int).toNat) ((10 : Int) ^ (40 : Int).toNat) = true := by
        show (decide (-(10 : Int) ^ (40 : Int).toNat ≤ o) && decide (o ≤ (10 : Int) ^ (40 : Int).toNat)) = true
        rw [decide_eq_true (show -(10 : Int) ^ (40 : Int).toNat ≤ o from S.o0), decide_eq_true (show o ≤ (10 : Int) ^ (40 : Int).toNat from S.o1)]
        rfl
      refine ⟨_, rfl, ?_⟩
      refine ite2 (fun h => (not_t h e1).elim) (fun _ => ?_)
      walk_at "rd"
      refine ⟨⟨by decide, by decide, by decide⟩, _, _, _, _, rfl, .int s, ?_⟩
      have e2 : inB (.int s) 1 ((10 : Int) ^ (30 : Int).toNat) = true := by
        show (decide ((1 : Int) ≤ s) && decide (s ≤ (10 : Int) ^ (30 : Int).toNat)) = true
        rw [decide_eq_true S.s0, decide_eq_true (show s ≤ (10 : Int) ^ (30 : Int).toNat from S.s1)]
        rfl
      refine ⟨_, rfl, ?_⟩
      refine ite2 (fun h => (not_t h e2).elim) (fun _ => ?_)
      walk_at "rd"
      refine ⟨_, _, .str m, dpModes (M.tM H), (mode_inX S.md).1, by decide +kernel, by decide +kernel, ?_⟩
      walk_at "rd"
      refine ite2 (fun h => (not_t h (mode_inX S.md).2).elim) (fun _ => ?_)
      exact q
    · cases bad with
      | kind t h =>
        refine ⟨_, _, _, _, _, rfl, .ty "tuple", t.ty, t.ktup, ?_⟩
        walk_at "rd"
        refine ite2 (fun _ => ?_) (fun z => absurd (by rw [h]; rfl) z)
        exact q
      | len hp h =>
        refine ⟨_, _, _, _, _, rfl, .ty "tuple", .base (.tup hp), kit_ty (r := true) (by decide +kernel), ?_⟩
        walk_at "rd"
        refine ⟨_, _, rfl, .inr (SqT.of hp), ?_⟩
        walk_at "rd"
        refine ⟨rfl, ?_⟩
        walk_at "rd"
        refine ite2 (fun _ => q) (fun z => absurd ?_ z)
        rw [dec_int, decide_eq_false (fun y => h (by omega))]
        rfl
      | off hp t h =>
        refine ⟨_, _, _, _, _, rfl, .ty "tuple", .base (.tup hp), kit_ty (r := true) (by decide +kernel), ?_⟩
        walk_at "rd"
        refine ⟨_, _, rfl, .inr (SqT.of hp), rfl, ?_⟩
        walk_at "rd"
        refine ⟨_, _, rfl, SqT.of hp, rfl, _, _, rfl, _, _, rfl, _, _, rfl, rfl, ?_⟩
        walk_at "rd"
        refine ⟨⟨by decide, by decide, by decide⟩, ?_⟩
        walk_at "rd"
        refine ⟨⟨by decide, by decide, by decide⟩, _, _, _, _, rfl, t, ?_⟩
        refine ⟨_, rfl, ?_⟩
        exact ite2 (fun _ => q) (fun z => absurd (by rw [show inB _ (-(10 : Int) ^ (40 : Int).toNat) ((10 : Int) ^ (40 : Int).toNat) = false from h]; rfl) z)
      | stp hp t h u g =>
        refine ⟨_, _, _, _, _, rfl, .ty "tuple", .base (.tup hp), kit_ty (r := true) (by decide +kernel), ?_⟩
        walk_at "rd"
        refine ⟨_, _, rfl, .inr (SqT.of hp), rfl, ?_⟩
        walk_at "rd"
        refine ⟨_, _, rfl, SqT.of hp, rfl, _, _, rfl, _, _, rfl, _, _, rfl, rfl, ?_⟩
        walk_at "rd"
        refine ⟨⟨by decide, by decide, by decide⟩, ?_⟩
        walk_at "rd"
        refine ⟨⟨by decide, by decide, by decide⟩, _, _, _, _, rfl, t, ?_⟩
        refine ⟨_, rfl, ?_⟩
        refine ite2 (fun z => (not_t z (show inB _ (-(10 : Int) ^ (40 : Int).toNat) ((10 : Int) ^ (40 : Int).toNat) = true from h)).elim) (fun _ => ?_)
        walk_at "rd"
        refine ⟨⟨by decide, by decide, by decide⟩, _, _, _, _, rfl, u, ?_⟩
        refine ⟨_, rfl, ?_⟩
        exact ite2 (fun _ => q) (fun z => absurd (by rw [show inB _ 1 ((10 : Int) ^ (30 : Int).toNat) = false from g]; rfl) z)
      | mod hp t h u g dp hd =>
        refine ⟨_, _, _, _, _, rfl, .ty "tuple", .base (.tup hp), kit_ty (r := true) (by decide +kernel), ?_⟩
        walk_at "rd"
        refine ⟨_, _, rfl, .inr (SqT.of hp), rfl, ?_⟩
        walk_at "rd"
        refine ⟨_, _, rfl, SqT.of hp, rfl, _, _, rfl, _, _, rfl, _, _, rfl, rfl, ?_⟩
        walk_at "rd"
        refine ⟨⟨by decide, by decide, by decide⟩, ?_⟩
        walk_at "rd"
        refine ⟨⟨by decide, by decide, by decide⟩, _, _, _, _, rfl, t, ?_⟩
        refine ⟨_, rfl, ?_⟩
        refine ite2 (fun z => (not_t z (show inB _ (-(10 : Int) ^ (40 : Int).toNat) ((10 : Int) ^ (40 : Int).toNat) = true from h)).elim) (fun _ => ?_)
        walk_at "rd"
        refine ⟨⟨by decide, by decide, by decide⟩, _, _, _, _, rfl, u, ?_⟩
        refine ⟨_, rfl, ?_⟩
        refine ite2 (fun z => (not_t z (show inB _ 1 ((10 : Int) ^ (30 : Int).toNat) = true from g)).elim) (fun _ => ?_)
        walk_at "rd"
        refine ⟨_, _, dp.dp, dpModes (M.tM H), hd.1, by decide +kernel, by decide +kernel, ?_⟩
        walk_at "rd"
        refine ite2 (fun _ => q) (fun z => absurd (by rw [hd.2]; rfl) z)
end
end HT
namespace HT
open PySem L2
def GoodL (H : Hp) (l : Addr) (xs : List V) : Prop := H l = some (.lst xs) ∧ 1 ≤ xs.length ∧ xs.length ≤ 4 ∧ ∀ y ∈ xs, GoodS H y
/-- no list of sides -/
inductive BadL (K : PySem.W.Frag) (H : Hp) : V → Prop where
  | kind {x : V} {n : String} (t : Th H x n) (h : (n == "list") = false) : BadL K H x
  | len {l : Addr} {xs : List V} (hl : H l = some (.lst xs)) (h : ¬ (1 ≤ xs.length ∧ xs.length ≤ 4)) : BadL K H (.ref l)
  | item {l : Addr} {xs : List V} {i : Nat} {y : V} (hl : H l = some (.lst xs)) (h1 : 1 ≤ xs.length) (h2 : xs.length ≤ 4) (hi : xs[i]? = some y) (bad : BadS K H y) (good : ∀ j z, j < i → xs[j]? = some z → GoodS H z) : BadL K H (.ref l)
def spIsSideX (K : PySem.W.Frag) : Sp := fun vs H Q _ => ∃ x : V, vs = [x] ∧ ((GoodS H x ∧ Q (.bl true) H) ∨ (BadS K H x ∧ Q (.bl false) H))
def spSidesX (K : PySem.W.Frag) (C : Nat → Addr) : Sp := fun vs H Q E => ∃ x : V, vs = [x] ∧ ((∃ l xs, x = .ref l ∧ GoodL H l xs ∧ Q .non H) ∨ (BadL K H x ∧ E (.ref (C 1)) none H))
/-- the numbers of among's top -/
structure AmT (mg : Str → Option Value) : Prop where
  ms : ∃ t, mg "MOST_SIDES" = some (.int 4 t)
section
variable {P : Program} {w : World} {K : PySem.W.Frag} {mg : Str → Option Value} {base : Heap} {aM fI fB fV fC fL fN fW B : Addr} {dI dB dV dC dL dN dW : FuncData} {C : Nat → Addr}
theorem ok_is_side_x {f : Addr} {fd : FuncData} (F : Fun K "is_side" "is_side" s_is_side f fd) (R : Er K mg C B) (Ck : CalX P w K mg base "check_side" 3 ["side"] (spSideX K C) fC dC) : FnOk P w K mg base CX0 4 f fd ["thing"] (spIsSideX K) := by
  refine F.ok sc_is_side (fun vs H Q E h => ?_) (fun cdv A outer s0 H vs Q E hr h => ?_)
  · obtain ⟨x, rfl, _⟩ := h
    rfl
  · obtain ⟨x, rfl, h⟩ := h
    refine ⟨_, pss_cons (ps_try_only rfl rfl ⟨rfl, by decide, .inl R.g0⟩ takes0 (fun W pn xe tk _ => pss_one (ps_expr (pcx Ck hr (by decide) (by rfl) tk (pa_cons (pv 0) pa_nil)))) (fun a oe cls d pn _ _ => pss_one (ps_ret pe_bl))) (pss_one (ps_ret pe_bl)), ?_⟩
    walk_at "rd"
    rcases h with ⟨good, q⟩ | ⟨bad, q⟩
    · refine .inl ⟨good, ?_⟩
      walk_at "rd"
      exact q
    · refine .inr ⟨bad, ?_⟩
      exact ⟨true, R.em0, fun _ a ha => q, fun z => Bool.noConfusion z⟩
theorem ok_sides_x {f : Addr} {fd : FuncData} (F : Fun K "check_sides" "check_sides" s_check_sides f fd) (T : ChkT mg) (A' : AmT mg) (R : Er K mg C B) (Ck : Cal P w K mg base "is_side" 4 ["thing"] (spIsSideX K) fC dC) : FnOk P w K mg base (L2.CX P w) 5 f fd ["sides"] (spSidesX K C) := by
  refine F.okAny sc_check_sides (fun vs H Q E h => ?_) (fun cdv A outer s0 H vs Q E hr h => ?_)
  · obtain ⟨x, rfl, _⟩ := h
    rfl
  · obtain ⟨x, rfl, h⟩ := h
    have nd := sc_check_sides.nd
    obtain ⟨tms, hms⟩ := A'.ms
    refine ⟨_, pss_cons (ps_if (PW.pt (pw_or (pt_not (pt_val (pe_callB call_isi (by rfl) T.isi (by decide +kernel) (pa_cons (pv 0) (pa_cons (pe_bltn (v := .ty "list") (by rfl) T.list (by decide +kernel) rfl) pa_nil)))))
        (pw_or1 (pt_not (pt_chain op_le op_le pe_int (pe_callB call_len_seq (by rfl) T.len PySem.boot_len (pa_cons (pv 0) pa_nil)) (pe_glob (v := .int 4) (by rfl) hms ⟨_, rfl⟩)))))) (pss_one (ps_raise rfl (takes_of rfl rfl rfl rfl) (pmk_own PySem.F.excBase_ValueError (R.ex 1 (by decide)) R.g1 (R.kp 1 (by decide)) (raises_own (R.sb 1 (by decide)) (R.ty 1 (by decide))) (by rfl)))) pss_nil)
      (pss_one (ps_for (passes_of rfl) rfl (pi_list (pv 0)) (pg_name (i := 1) nd rfl (Or.inl rfl))
        (pss_one (ps_if (pt_not (pt_val (pcl Ck hr (by decide) (by rfl) (pa_cons (pv 1) pa_nil)))) (pss_one (ps_raise rfl (takes_of rfl rfl rfl rfl) (pmk_own PySem.F.excBase_ValueError (R.ex 1 (by decide)) R.g1 (R.kp 1 (by decide)) (raises_own (R.sb 1 (by decide)) (R.ty 1 (by decide))) (by rfl)))) pss_nil)))), ?_⟩
    walk_at "rd"
    rcases h with ⟨l, xs, rfl, ⟨hl, l1, l4, good⟩, q⟩ | ⟨bad, q⟩
    · refine ⟨_, _, _, _, _, rfl, .ty "list", .base (.lst hl), kit_ty (r := true) (by decide +kernel), ?_⟩
      walk_at "rd"
      refine ⟨l, _, rfl, .inl (SqL.of hl), ?_⟩
      walk_at "rd"
      refine ite2 (fun _ => ?_) (fun z => absurd (decide_eq_true (by omega)) z)
      walk_at "rd"
      refine ite2 (fun z => ?_) (fun _ => ?_)
      · exfalso
        have e : decide ((xs.length : Int) ≤ 4) = true := decide_eq_true (by omega)
        exact not_t z e
      walk_at "rd"
      refine ⟨⟨_, SqL.of hl⟩, ?_⟩
      refine for_list (K := K) (a := l) (xs := xs) (fun i σ H' => ∃ y : Option V, σ = [some (.ref l), y] ∧ H' = H) ⟨none, rfl, rfl⟩ (fun _ _ _ _ ⟨_, _, e⟩ => e ▸ SqL.of hl) ?_ ?_
      · rintro i y σ H' hy ⟨z, rfl, rfl⟩
        walk_at "rd"
        refine .inl ⟨good y (List.mem_of_getElem? hy), _, rfl, ?_⟩
        refine ite2 (fun z => (not_t z rfl).elim) (fun _ => ?_)
        exact ⟨_, rfl, rfl⟩
      · rintro σ H' ⟨z, rfl, rfl⟩
        exact q
    · cases bad with
      | kind t h =>
        refine ⟨_, _, _, _, _, rfl, .ty "list", t.ty, t.klst, ?_⟩
        walk_at "rd"
        refine ite2 (fun _ => ?_) (fun z => absurd (by rw [h]; rfl) z)
        exact q
      | @len l xs hl h =>
        refine ⟨_, _, _, _, _, rfl, .ty "list", .base (.lst hl), kit_ty (r := true) (by decide +kernel), ?_⟩
        walk_at "rd"
        refine ⟨l, _, rfl, .inl (SqL.of hl), ?_⟩
        walk_at "rd"
        refine ite2 (fun z1 => ?_) (fun z1 => ?_)
        · have z1' := of_decide_eq_true z1
          walk_at "rd"
          refine ite2 (fun _ => q) (fun z => absurd ?_ z)
          have e : decide ((xs.length : Int) ≤ 4) = false := decide_eq_false (by omega)
          rw [e]
          rfl
        · walk_at "rd"
          exact q
      | @item l xs i0 y0 hl l1 l4 hi bad good =>
        refine ⟨_, _, _, _, _, rfl, .ty "list", .base (.lst hl), kit_ty (r := true) (by decide +kernel), ?_⟩
        walk_at "rd"
        refine ⟨l, _, rfl, .inl (SqL.of hl), ?_⟩
        walk_at "rd"
        refine ite2 (fun _ => ?_) (fun z => absurd (decide_eq_true (by omega)) z)
        walk_at "rd"
        refine ite2 (fun z => ?_) (fun _ => ?_)
        · exfalso
          have e : decide ((xs.length : Int) ≤ 4) = true := decide_eq_true (by omega)
          exact not_t z e
        walk_at "rd"
        refine ⟨⟨_, SqL.of hl⟩, ?_⟩
        have i0l : i0 < xs.length := (List.getElem?_eq_some_iff.mp hi).1
        refine for_list (K := K) (a := l) (xs := xs) (fun i σ H' => ∃ y : Option V, σ = [some (.ref l), y] ∧ H' = H ∧ i ≤ i0) ⟨none, rfl, rfl, Nat.zero_le _⟩ (fun _ _ _ _ ⟨_, _, e, _⟩ => e ▸ SqL.of hl) ?_ ?_
        · rintro i y σ H' hy ⟨z, rfl, rfl, le⟩
          walk_at "rd"
          rcases Nat.lt_or_eq_of_le le with lt | eq
          · refine .inl ⟨good i y lt hy, _, rfl, ?_⟩
            refine ite2 (fun z => (not_t z rfl).elim) (fun _ => ?_)
            exact ⟨_, rfl, rfl, lt⟩
          · subst eq
            have ey : y = y0 := by rw [hi] at hy; exact (Option.some.inj hy).symm
            subst ey
            refine .inr ⟨bad, _, rfl, ?_⟩
            refine ite2 (fun _ => ?_) (fun z => absurd rfl z)
            exact q
        · rintro σ H' ⟨z, rfl, rfl, le⟩
          omega
end
end HT
namespace HT
open PySem L2
structure RsG (mg : Str → Option Value) : Prop where
  mo : ∃ t, mg "MOST_OUTCOMES" = some (.int 1000 t)
  sorted : mg "sorted" = none
  set : mg "set" = none
  dict : mg "dict" = none
/-- what comes of a value -/
def spOut (C : Nat → Addr) : Sp := fun vs H Q E => ∃ (l : Addr) (xs : List V) (ss : List Sd) (v : Int), vs = [.ref l, .int v] ∧ SidesAt H l xs ss ∧ (-2 ^ 600 < v ∧ v < 2 ^ 600) ∧
  (∀ (R : List Int) (p : Addr) (H' : Hp), OutIs ss v R → R.length ≤ 1000 → (∀ y ∈ R, v - 10 ^ 34 ≤ y ∧ y ≤ v + 10 ^ 34) → Same H H' → H p = none → H' p = some (.lst (R.map V.int)) → Q (.ref p) H') ∧
  (∀ H', (∀ R, OutIs ss v R → 1000 < R.length) → Same H H' → E (.ref (C 2)) none H')
section
variable {P : Program} {w : World} {K : PySem.W.Frag} {mg : Str → Option Value} {base : Heap} {Bx fB fH fI fJ : Addr} {dB dH dI dJ : FuncData} {C : Nat → Addr}
theorem ok_out {f : Addr} {fd : FuncData} (F : Fun K "outcomes" "outcomes" s_outcomes f fd) (B : Blt mg) (G : RsG mg) (R : Er K mg C Bx) (Ls : Cal P w K mg base "check_sides" 5 ["sides"] spSides fB dB) (Vl : Cal P w K mg base "check_value" 2 ["value"] spCheckValue fH dH) (Wr : Cal P w K mg base "written" 3 ["side", "value"] spDue fI dI) : FnOk P w K mg base (L2.CX P w) 6 f fd ["sides", "value"] (spOut C) := by
  refine F.okAny sc_outcomes (fun vs H Q E h => ?_) (fun cdv A outer s0 H vs Q E hr h => ?_)
  · obtain ⟨l, xs, ss, v, rfl, _⟩ := h
    rfl
  · obtain ⟨l, xs, ss, v, rfl, SS, vb, q, qE⟩ := h
    have nd := sc_outcomes.nd
    obtain ⟨tmo, hmo⟩ := G.mo
    refine ⟨_, (pss_cons (ps_expr (pcl Ls hr (by decide) (by rfl) (pa_cons (pv 0) pa_nil)))
      (pss_cons (ps_expr (pcl Vl hr (by decide) (by rfl) (pa_cons (pv 1) pa_nil)))
      (pss_cons (ps_set (i := 2) nd rfl (Or.inl rfl) (pe_lst (pa_cons (pv 1) pa_nil)))
      (pss_cons (ps_set (i := 3) nd rfl (Or.inl rfl) (pe_disp (pps_cons (pv 1) pe_bl pps_nil) rfl rfl nofun (by decide)))
      (pss_cons (ps_set (i := 4) nd rfl (Or.inl rfl) pe_int)
      (pss_cons (ps_while (passes_of rfl) (pt_cmpR op_lt (pv 4) (pe_callB call_len_seq (by rfl) B.len PySem.boot_len (pa_cons (pv 2) pa_nil)) (nomark _)) (pss_cons (ps_for (passes_of rfl) rfl (pi_list (pv 0)) (pg_name (i := 5) nd rfl (Or.inl rfl)) (pss_cons (ps_set (i := 6) nd rfl (Or.inl rfl) (pcl Wr hr (by decide) (by rfl) (pa_cons (pv 5) (pa_cons (pe_ix ix_list (pv 2) (pv 4) (fun _ _ => rfl)) pa_nil))))
      (pss_one (ps_if (pt_cmp (pc_dnotin (lt1 hr.units) (pv 6) (pv 3)) (by rfl)) (pss_cons (ps_dput (lt1 hr.units) (pv 3) (pv 6) pe_bl rfl)
      (pss_one (ps_expr (pe_bm PySem.F.plainAttrs_list PySem.F.slot_list_append PySem.F.type_list_append mt_append (pv 2) (pa_cons (pv 6) pa_nil))))) pss_nil))))
      (pss_cons (ps_if (pt_cmpR op_gt (pe_callB call_len_seq (by rfl) B.len PySem.boot_len (pa_cons (pv 2) pa_nil)) (pe_glob (v := .int 1000) (by rfl) hmo ⟨_, rfl⟩) (nomark _)) (pss_one (ps_raise rfl (takes_of rfl rfl rfl rfl) (pmk_own PySem.F.excBase_ValueError (R.ex 2 (by decide)) R.g2 (R.kp 2 (by decide)) (raises_own (R.sb 2 (by decide)) (R.ty 2 (by decide))) (by rfl)))) pss_nil)
      (pss_one (ps_aug (i := 4) nd rfl (Or.inl rfl) pe_int ip_add)))))
      (pss_one (ps_ret (pe_callB cr_sortedI (by rfl) G.sorted (by decide +kernel) (pa_cons (pv 2) pa_nil)))))))))), ?_⟩
    walk_at "rd"
    refine ⟨l, xs, ss, rfl, SS, ?_⟩
    walk_at "rd"
    walk_at "rd"
    refine ⟨(by show 1 ≤ sizeLine; decide), fun L nL => ?_⟩
    generalize e_L : upd H L _ = H1
    have g1 : H1 L = some (.lst [.int v]) := by rw [← e_L]; exact upd_same
    have w1 : Same H H1 := by rw [← e_L]; exact fun b u z => (upd_ne (ne_of_none z nL)).trans z
    clear e_L
    have nLH := nL
    walk_at "rd"
    refine fun D nD => ?_
    walk_at "rd"
    refine ⟨upd_same, [(.inl v, .bl true)], rfl, (by show 1 ≤ 15; decide), ?_⟩
    generalize e_D : upd (upd H1 D _) D _ = H2
    have g2 : H2 D = some (.dK [(.inl v, .bl true)]) := by rw [← e_D]; exact upd_same
    have w2 : Same H1 H2 := by rw [← e_D]; exact fun b u z => (upd_ne (ne_of_none z nD)).trans ((upd_ne (ne_of_none z nD)).trans z)
    clear e_D
    have nLD : L ≠ D := fun z => by rw [← z, g1] at nD; cases nD
    have nD0 : H D = none := w1.free nD
    have g1 := w2 _ _ g1
    have w2 := w1.trans w2
    walk_at "rd"
    refine ⟨fun μ st H' => ∃ (k : Nat) (C : List Int) (kvs : List (Key × V)) (x5 x6 : Option V), μ = 1001 - k ∧ st = [some (.ref l), some (.int v), some (.ref L), some (.ref D), some (.int (k : Int)), x5, x6] ∧ Same H H' ∧ H' L = some (.lst (C.map V.int)) ∧ H' D = some (.dK kvs) ∧ Fnd ss v C k ∧ KnownP C kvs ∧ C.length ≤ 1000,
      ⟨_, 0, [v], _, none, none, rfl, rfl, w2, g1, g2, Fnd.start ss v, KnownP.start v _, (by show 1 ≤ 1000; decide)⟩, ?_⟩
    rintro μ st H' ⟨k, C', kvs, x5, x6, rfl, rfl, sm, hL, hD, F', KP, cl⟩
    have kl := F'.kl
    walk_at "rd"
    refine ⟨L, _, rfl, .inl (SqL.of hL), ?_⟩
    rw [List.length_map]
    walk_at "rd"
    refine ite2 (fun z => ?_) (fun z => ?_)
    · have kc : k < C'.length := by have := of_decide_eq_true z; omega
      obtain ⟨c, ec⟩ : ∃ c, C'[k]? = some c := ⟨_, List.getElem?_eq_getElem kc⟩
      have cn := F'.near cl c (List.mem_of_getElem? ec)
      refine ⟨fun σ' H'' => ∃ (C : List Int) (kvs : List (Key × V)) (x5 x6 : Option V), σ' = [some (.ref l), some (.int v), some (.ref L), some (.ref D), some (.int ((k + 1 : Nat) : Int)), x5, x6] ∧ Same H H'' ∧ H'' L = some (.lst (C.map V.int)) ∧ H'' D = some (.dK kvs) ∧ Fnd ss v C (k + 1) ∧ KnownP C kvs ∧ C.length ≤ 1000,
        fun σ' H'' ⟨C2, kvs2, x5, x6, e, sm2, a1, a2, a3, a4, a5⟩ => ⟨1001 - (k + 1), by omega, k + 1, C2, kvs2, x5, x6, rfl, e, sm2, a1, a2, a3, a4, a5⟩, ?_⟩
      walk_at "rd"
      refine ⟨⟨_, SqL.of (sm _ _ SS.hl)⟩, ?_⟩
      refine for_list (K := K) (a := l) (xs := xs) (fun i st H3 => ∃ (C : List Int) (kvs : List (Key × V)) (x5 x6 : Option V), st = [some (.ref l), some (.int v), some (.ref L), some (.ref D), some (.int (k : Int)), x5, x6] ∧ Same H H3 ∧ H3 L = some (.lst (C.map V.int)) ∧ H3 D = some (.dK kvs) ∧ Fnd ss v C k ∧ KnownP C kvs ∧ C.length ≤ 1000 + i ∧ C[k]? = some c ∧ ∀ j, j < i → ∀ d, ss[j]? = some d → dueM d.o d.s d.m c ∈ C)
        ⟨C', kvs, x5, x6, rfl, sm, hL, hD, F', KP, by omega, ec, fun j hj => absurd hj (Nat.not_lt_zero _)⟩ (fun _ _ _ _ ⟨_, _, _, _, _, s3, _⟩ => SqL.of (s3 _ _ SS.hl)) ?_ ?_
      · rintro i x st H3 hx ⟨C2, kvs2, y5, y6, rfl, s3, hL3, hD3, F2, KP2, cl2, ec2, done⟩
        obtain ⟨d, p, ed, rfl, hp, sp⟩ := SS.item hx
        have il : i < ss.length := (List.getElem?_eq_some_iff.mp ed).1
        have l4 := SS.l4
        have dm := List.mem_of_getElem? ed
        walk_at "rd"
        refine ⟨L, _, _, _, rfl, rfl, SqL.of hL3, atI_nat (show (C2.map V.int)[k]? = some (V.int c) by rw [List.getElem?_map, ec2]; rfl), ?_⟩
        walk_at "rd"
        refine ⟨p, d.o, d.s, d.m, c, rfl, s3 _ _ hp, sp, (by unfold Bd; omega), fun H4 s4 => ?_⟩
        have hL4 := s4 _ _ hL3
        have hD4 := s4 _ _ hD3
        walk_at "rd"
        refine ⟨D, _, rfl, DGet.k (k := .inl _) hD4, ?_⟩
        walk_at "rd"
        refine ite2 (fun z => ?_) (fun z => ?_)
        · have new : dueM d.o d.s d.m c ∉ C2 := fun y => by
            rw [(KP2.2 _).mpr y] at z
            exact absurd z (by decide)
          have F5 := F2.put SS.side ec2 dm new
          walk_at "rd"
          refine ⟨D, _, rfl, DPut.k (k := .inl _) hD4 (Nat.lt_of_le_of_lt KP2.1 (Nat.lt_of_le_of_lt cl2 (by show 1000 + i < sizeLine; exact Nat.lt_of_lt_of_le (by omega : 1000 + i < 2000) (by decide)))), ?_⟩
          walk_at "rd"
          refine ⟨.inl ⟨rfl, _, SqL.of ((upd_ne nLD).trans hL4)⟩, ?_⟩
          walk_at "rd"
          refine ⟨L, _, _, rfl, rfl, (upd_ne nLD).trans hL4, (by rw [List.length_map]; exact Nat.lt_of_lt_of_le (by omega : C2.length < 2000) (by decide)), ?_⟩
          refine ⟨_, _, _, _, rfl, fun b u z => (upd_ne (ne_of_none z nL)).trans ((upd_ne (ne_of_none z nD0)).trans (s4 _ _ (s3 _ _ z))), ?_, (upd_ne (Ne.symm nLD)).trans upd_same, F5, KP2.put _ _, ?_, ?_, fun j hj e he => ?_⟩
          · rw [List.map_append]
            exact upd_same
          · rw [List.length_append]
            show C2.length + 1 ≤ 1000 + (i + 1)
            omega
          · rw [List.getElem?_append_left (List.getElem?_eq_some_iff.mp ec2).1]
            exact ec2
          · by_cases y : j < i
            · exact List.mem_append_left _ (done j y e he)
            · obtain rfl : j = i := by omega
              rw [ed] at he
              cases he
              exact List.mem_append_right _ (List.mem_singleton.mpr rfl)
        · have old : dueM d.o d.s d.m c ∈ C2 := (KP2.2 _).mp (by
            cases y : (valV kvs2 (.inl (dueM d.o d.s d.m c))).isSome with
            | true => rfl
            | false => rw [y] at z; exact absurd rfl z)
          exact ⟨C2, kvs2, _, _, rfl, s3.trans s4, hL4, hD4, F2, KP2, by omega, ec2, fun j hj e he => by
            by_cases y : j < i
            · exact done j y e he
            · obtain rfl : j = i := by omega
              rw [ed] at he
              cases he
              exact old⟩
      · rintro st H3 ⟨C2, kvs2, y5, y6, rfl, s3, hL3, hD3, F2, KP2, cl2, ec2, done⟩
        have F6 := F2.next ec2 fun d hd => by
          obtain ⟨j, hj, e⟩ := List.getElem_of_mem hd
          exact done j (by rw [SS.len]; exact hj) d (by rw [List.getElem?_eq_getElem hj, e])
        walk_at "rd"
        refine ⟨L, _, rfl, .inl (SqL.of hL3), ?_⟩
        rw [List.length_map]
        walk_at "rd"
        refine ite2 (fun z => ?_) (fun z => ?_)
        · have many := of_decide_eq_true z
          refine qE H3 (fun R hR => ?_) s3
          have := F2.le hR
          omega
        · have few : ¬ (1000 : Int) < (C2.length : Int) := fun c => z (decide_eq_true c)
          walk_at "rd"
          exact ⟨C2, kvs2, _, _, rfl, s3, hL3, hD3, F6, KP2, by omega⟩
    · have ke : k = C'.length := by
        have : ¬ (k : Int) < (C'.length : Int) := fun c => z (decide_eq_true c)
        omega
      subst ke
      walk_at "rd"
      refine ⟨L, C', rfl, SqL.of hL, fun R p pm so np => ?_⟩
      have O := F'.done pm so
      have nb := F'.near cl
      refine q R p _ O (by rw [pm.length_eq]; exact cl) (fun y hy => ?_) (fun b u z => (upd_ne (ne_of_none (sm _ _ z) np)).trans (sm _ _ z)) (sm.free np) upd_same
      have := nb y (pm.mem_iff.mp hy)
      omega
end
end HT
namespace HT
open PySem L2
section
variable {P : Program} {w : World} {K : PySem.W.Frag} {mg : Str → Option Value} {base : Heap}
/-- a def's promise among errors where none comes -/
theorem of_x {k : Nat} {f : Addr} {fd : FuncData} {ps : List Str} {sp : Sp} (F : FnOk P w K mg base (L2.CX P w) k f fd ps sp) : FnOk P w K mg base CX0 k f fd ps (fun vs H Q _ => sp vs H Q fun _ _ _ => False) :=
  ⟨fun vs H Q E h => F.len vs H Q _ h, fun A outer s0 H args us vs Q E hr he hb hv hs => codeAny_mono (F.run A outer s0 H args us vs Q _ hr he hb hv hs) fun r s' h => by
    unfold CR at h ⊢
    split at h
    · exact h
    · exact h
    · obtain ⟨_, _, _, _, _, _, _, _, _, _, _, _, z⟩ := h
      exact z.elim⟩
end
open Classical in
theorem out_sub {ss : List Sd} {v p : Int} {R : List Int} (h : OutIs ss v R) (r : Rc ss v p) : ∃ S, OutIs ss p S ∧ S.length ≤ R.length := by
  refine ⟨R.filter fun y => decide (Rc ss p y), ⟨h.1.filter _, fun y => ?_⟩, List.length_filter_le _ _⟩
  rw [List.mem_filter, h.2 y, decide_eq_true_eq]
  exact ⟨fun z => z.2, fun z => ⟨r.trans z, z⟩⟩
theorem last_at {R : List Int} (h : 0 < R.length) : ∃ m, R[R.length - 1]? = some m ∧ atI (R.map V.int) (-1) = some (V.int m) := by
  have e : R[R.length - 1]? = some R[R.length - 1] := List.getElem?_eq_getElem (by omega)
  refine ⟨_, e, ?_⟩
  have hn : ixN (R.map V.int).length (-1) = some (R.length - 1) := by
    rw [List.length_map]
    unfold ixN
    rw [if_neg (by omega), if_pos (by omega)]
    exact congrArg some (by omega)
  unfold atI
  rw [hn]
  show (R.map V.int)[R.length - 1]? = _
  rw [List.getElem?_map, e]
  rfl
theorem first_at {R : List Int} (h : 0 < R.length) : ∃ m, R[0]? = some m ∧ atI (R.map V.int) 0 = some (V.int m) := by
  have e : R[0]? = some R[0] := List.getElem?_eq_getElem h
  exact ⟨_, e, atI_nat (j := 0) (by rw [List.getElem?_map, e]; rfl)⟩
theorem OutIs.lohi {ss : List Sd} {v : Int} {R : List Int} (h : OutIs ss v R) : ∃ lo hi, Rc ss v lo ∧ (∀ y, Rc ss v y → lo ≤ y) ∧ Rc ss v hi ∧ (∀ y, Rc ss v y → y ≤ hi) := by
  obtain ⟨m, e, _⟩ := first_at h.ne
  obtain ⟨M, e2, _⟩ := last_at h.ne
  obtain ⟨a, b⟩ := sorted_first h.1 e
  obtain ⟨c, d⟩ := sorted_last h.1 e2
  exact ⟨m, M, (h.2 m).mp a, fun y hy => b y ((h.2 y).mpr hy), (h.2 M).mp c, fun y hy => d y ((h.2 y).mpr hy)⟩
end HT
namespace HT
open PySem L2
def spOut0 (C : Nat → Addr) : Sp := fun vs H Q _ => spOut C vs H Q fun _ _ _ => False
/-- the list p holds the lists Ls -/
def HoldsL (H : Hp) (p : Addr) (Ls : List (List Int)) : Prop := ∃ qs : List Addr, H p = some (.lst (qs.map V.ref)) ∧ qs.length = Ls.length ∧ ∀ (i : Nat) (A : List Int) (q : Addr), Ls[i]? = some A → qs[i]? = some q → H q = some (.lst (A.map V.int))
theorem HoldsL.same {H H' : Hp} {p : Addr} {Ls : List (List Int)} (h : HoldsL H p Ls) (s : Same H H') : HoldsL H' p Ls := let ⟨qs, a, b, c⟩ := h; ⟨qs, s _ _ a, b, fun i A q x y => s _ _ (c i A q x y)⟩
theorem HoldsL.one {H : Hp} {p q : Addr} {A : List Int} (hp : H p = some (.lst [.ref q])) (hq : H q = some (.lst (A.map V.int))) : HoldsL H p [A] := ⟨[q], hp, rfl, fun i B r x y => by
  cases i with
  | zero => cases x; cases y; exact hq
  | succ i => cases x⟩
theorem HoldsL.two {H : Hp} {p q q2 : Addr} {A B : List Int} (hp : H p = some (.lst [.ref q, .ref q2])) (hq : H q = some (.lst (A.map V.int))) (hq2 : H q2 = some (.lst (B.map V.int))) : HoldsL H p [A, B] := ⟨[q, q2], hp, rfl, fun i D r x y => by
  rcases i with _ | _ | i
  · cases x; cases y; exact hq
  · cases x; cases y; exact hq2
  · cases x⟩
def NewL (H H' : Hp) (p : Addr) (Ls : List (List Int)) : Prop := H p = none ∧ ∃ qs : List Addr, H' p = some (.lst (qs.map V.ref)) ∧ qs.length = Ls.length ∧ (∀ q ∈ qs, H q = none) ∧ ∀ (i : Nat) (A : List Int) (q : Addr), Ls[i]? = some A → qs[i]? = some q → H' q = some (.lst (A.map V.int))
/-- the resting sets -/
def RestIs (ss : List Sd) (v : Int) (Ls : List (List Int)) : Prop := ∃ (b b' : Int) (A B : List Int), Two ss v b b' ∧ OutIs ss b A ∧ OutIs ss b' B ∧ Ls = if A = B then [A] else [A, B]
def spRest : Sp := fun vs H Q _ => ∃ (l : Addr) (xs : List V) (ss : List Sd) (v : Int) (R : List Int), vs = [.ref l, .int v] ∧ SidesAt H l xs ss ∧ (-2 ^ 590 < v ∧ v < 2 ^ 590) ∧ OutIs ss v R ∧ R.length ≤ 1000 ∧
  ∀ (b : Int) (A : List Int) (p : Addr) (H' : Hp), Rc ss v b → Rec ss b → OutIs ss b A → Same H H' → H p = none → H' p = some (.lst (A.map V.int)) → Q (.ref p) H'
def spRests (C : Nat → Addr) : Sp := fun vs H Q E => ∃ (l : Addr) (xs : List V) (ss : List Sd) (v : Int), vs = [.ref l, .int v] ∧ SidesAt H l xs ss ∧ (-2 ^ 580 < v ∧ v < 2 ^ 580) ∧
  (∀ (Ls : List (List Int)) (p : Addr) (H' : Hp), RestIs ss v Ls → (∃ R, OutIs ss v R ∧ R.length ≤ 1000) → Same H H' → NewL H H' p Ls → Q (.ref p) H') ∧
  (∀ H', (∀ R, OutIs ss v R → 1000 < R.length) → Same H H' → E (.ref (C 2)) none H')
theorem shaped_ints (A : List Int) : SeqAt.shaped (.list (A.map PyData.int)) = true := by
  have key : ∀ A : List Int, PyData.canLayAll0 (A.map PyData.int) = true ∧ PyData.depthAll (A.map PyData.int) ≤ 1 := fun A => by
    induction A with
    | nil => exact ⟨rfl, Nat.zero_le _⟩
    | cons a A ih => exact ⟨by simp [PyData.canLayAll0, PyData.canLay0, ih.1], by show max (PyData.depth (.int a)) (PyData.depthAll (A.map PyData.int)) ≤ 1; exact Nat.max_le.mpr ⟨by simp [PyData.depth], ih.2⟩⟩
  obtain ⟨a, b⟩ := key A
  unfold SeqAt.shaped
  rw [Bool.and_eq_true]
  refine ⟨a, decide_eq_true ?_⟩
  show PyData.depthAll (A.map PyData.int) + 1 ≤ 64
  omega
theorem dp_ints {K : PySem.W.Frag} {H : Hp} {p : Addr} {A : List Int} (h : H p = some (.lst (A.map V.int))) : Dp K H (.ref p) (.list (A.map PyData.int)) := by
  have key : ∀ A : List Int, DpAll K H (A.map V.int) (A.map PyData.int) := fun A => by
    induction A with
    | nil => exact .nil
    | cons a A ih => exact .cons (.int _) ih
  exact .lst (SqL.of h) (key A)
theorem eqv_ints (A B : List Int) : PyData.eqv (.list (A.map PyData.int)) (.list (B.map PyData.int)) = decide (A = B) := by
  rw [PyData.eqv]
  induction A generalizing B with
  | nil => cases B with
    | nil => rfl
    | cons b B => rfl
  | cons a A ih => cases B with
    | nil => rfl
    | cons b B =>
      rw [List.map_cons, List.map_cons, PyData.eqvAll, ih, PyData.eqv]
      by_cases x : a = b
      · subst x
        by_cases y : A = B
        · subst y; simp
        · rw [decide_eq_false y, decide_eq_false (by simpa using y)]; simp
      · rw [decide_eq_false (show ¬ a :: A = b :: B by intro h; injection h with h1 h2; exact x h1)]
        simp [x]
section
variable {P : Program} {w : World} {K : PySem.W.Frag} {mg : Str → Option Value} {base : Heap} {Bx fB fH fI fJ : Addr} {dB dH dI dJ : FuncData} {C : Nat → Addr}
theorem ok_rest_of {f : Addr} {fd : FuncData} (F : Fun K "_rest_of" "_rest_of" s_rest_of f fd) (Ou : Cal P w K mg base "outcomes" 6 ["sides", "value"] (spOut0 C) fB dB) : FnOk P w K mg base CX0 7 f fd ["sides", "value"] spRest := by
  refine F.ok sc_rest_of (fun vs H Q E h => ?_) (fun cdv A outer s0 H vs Q E hr h => ?_)
  · obtain ⟨l, xs, ss, v, R, rfl, _⟩ := h
    rfl
  · obtain ⟨l, xs, ss, v, R, rfl, SS, vb, oR, lR, q⟩ := h
    have nd := sc_rest_of.nd
    refine ⟨_, (pss_cons (ps_set (i := 2) nd rfl (Or.inl rfl) (pe_ix ix_list (pcl Ou hr (by decide) (by rfl) (pa_cons (pv 0) (pa_cons (pv 1) pa_nil))) (pe_un un_neg pe_int) (fun _ _ => rfl)))
      (pss_cons (ps_set (i := 3) nd rfl (Or.inl rfl) (pe_ix ix_list (pcl Ou hr (by decide) (by rfl) (pa_cons (pv 0) (pa_cons (pv 2) pa_nil))) pe_int (fun _ _ => rfl)))
      (pss_one (ps_ret (pcl Ou hr (by decide) (by rfl) (pa_cons (pv 0) (pa_cons (pv 3) pa_nil))))))), ?_⟩
    walk_at "rd"
    refine ⟨l, xs, ss, v, rfl, SS, by omega, fun R1 p1 H1 o1 l1 b1 s1 np1 h1 => ?_, fun H1 inf s1 => by have := inf R oR; omega⟩
    obtain ⟨t, et, at1⟩ := last_at o1.ne
    obtain ⟨t1, t2⟩ := sorted_last o1.1 et
    have bt := b1 t t1
    walk_at "rd"
    refine ⟨p1, _, _, _, rfl, rfl, SqL.of h1, at1, ?_⟩
    walk_at "rd"
    have rt := (o1.2 t).mp t1
    obtain ⟨S2, oS2, lS2⟩ := out_sub o1 rt
    refine ⟨l, xs, ss, t, rfl, SS.same s1, by omega, fun R2 p2 H2 o2 l2 b2 s2 np2 h2 => ?_, fun H2 inf s2 => by have := inf S2 oS2; omega⟩
    obtain ⟨b, eb, at2⟩ := first_at o2.ne
    obtain ⟨c1, c2⟩ := sorted_first o2.1 eb
    have bb := b2 b c1
    walk_at "rd"
    refine ⟨p2, _, _, _, rfl, rfl, SqL.of h2, at2, ?_⟩
    walk_at "rd"
    have rb := (o2.2 b).mp c1
    obtain ⟨S3, oS3, lS3⟩ := out_sub o2 rb
    refine ⟨l, xs, ss, b, rfl, SS.same (s1.trans s2), by omega, fun R3 p3 H3 o3 l3 b3 s3 np3 h3 => ?_, fun H3 inf s3 => by have := inf S3 oS3; omega⟩
    exact q b R3 p3 H3 (rt.trans rb) (rec_bot SS.side rt (fun y hy => t2 y ((o1.2 y).mpr hy)) rb (fun y hy => c2 y ((o2.2 y).mpr hy))) o3 (s1.trans (s2.trans s3)) (s1.free (s2.free np3)) h3
theorem ok_rests {f : Addr} {fd : FuncData} (F : Fun K "rests" "rests" s_rests f fd) (Ou : CalX P w K mg base "outcomes" 6 ["sides", "value"] (spOut C) fB dB) (Re : Cal P w K mg base "_rest_of" 7 ["sides", "value"] spRest fH dH) : FnOk P w K mg base (L2.CX P w) 8 f fd ["sides", "value"] (spRests C) := by
  refine F.okAny sc_rests (fun vs H Q E h => ?_) (fun cdv A outer s0 H vs Q E hr h => ?_)
  · obtain ⟨l, xs, ss, v, rfl, _⟩ := h
    rfl
  · obtain ⟨l, xs, ss, v, rfl, SS, vb, q, qE⟩ := h
    have nd := sc_rests.nd
    refine ⟨_, (pss_cons (ps_set (i := 2) nd rfl (Or.inl rfl) (pcx Ou hr (by decide) (by rfl) (takes_of rfl rfl rfl rfl) (pa_cons (pv 0) (pa_cons (pv 1) pa_nil))))
      (pss_cons (ps_set (i := 3) nd rfl (Or.inl rfl) (pcl Re hr (by decide) (by rfl) (pa_cons (pv 0) (pa_cons (pe_ix ix_list (pv 2) pe_int (fun _ _ => rfl)) pa_nil))))
      (pss_cons (ps_set (i := 4) nd rfl (Or.inl rfl) (pcl Re hr (by decide) (by rfl) (pa_cons (pv 0) (pa_cons (pe_ix ix_list (pv 2) (pe_un un_neg pe_int) (fun _ _ => rfl)) pa_nil))))
      (pss_cons (ps_if (pt_cmpR (op_eqD hr.units) (pv 3) (pv 4) (nomark _)) (pss_one (ps_ret (pe_lst (pa_cons (pv 3) pa_nil)))) pss_nil)
      (pss_one (ps_ret (pe_lst (pa_cons (pv 3) (pa_cons (pv 4) pa_nil))))))))), ?_⟩
    walk_at "rd"
    refine ⟨l, xs, ss, v, rfl, SS, by omega, fun R p1 H1 o1 l1 b1 s1 np1 h1 => ?_, fun H1 inf s1 => qE H1 inf s1⟩
    obtain ⟨m, em, at1⟩ := first_at o1.ne
    obtain ⟨m1, m2⟩ := sorted_first o1.1 em
    obtain ⟨M, eM, at2⟩ := last_at o1.ne
    obtain ⟨M1, M2⟩ := sorted_last o1.1 eM
    have bm := b1 m m1
    have bM := b1 M M1
    have rm := (o1.2 m).mp m1
    have rM := (o1.2 M).mp M1
    obtain ⟨S2, oS2, lS2⟩ := out_sub o1 rm
    obtain ⟨S3, oS3, lS3⟩ := out_sub o1 rM
    walk_at "rd"
    refine ⟨p1, _, _, _, rfl, rfl, SqL.of h1, at1, ?_⟩
    walk_at "rd"
    refine ⟨l, xs, ss, m, S2, rfl, SS.same s1, by omega, oS2, by omega, fun b A p2 H2 mb rb oA s2 np2 h2 => ?_⟩
    walk_at "rd"
    refine ⟨p1, _, _, _, rfl, rfl, SqL.of (s2 _ _ h1), at2, ?_⟩
    walk_at "rd"
    refine ⟨l, xs, ss, M, S3, rfl, SS.same (s1.trans s2), by omega, oS3, by omega, fun b' B p3 H3 Mb' rb' oB s3 np3 h3 => ?_⟩
    have T := two_of SS.side (fun p hp => let ⟨S, oS, _⟩ := out_sub o1 hp; oS.lohi) rm (fun y hy => m2 y ((o1.2 y).mpr hy)) rM (fun y hy => M2 y ((o1.2 y).mpr hy)) mb rb Mb' rb'
    walk_at "rd"
    refine ⟨_, _, dp_ints (s3 _ _ h2), dp_ints h3, shaped_ints A, shaped_ints B, ?_⟩
    rw [eqv_ints]
    have s03 := s1.trans (s2.trans s3)
    walk_at "rd"
    refine ite2 (fun z => ?_) (fun z => ?_)
    · have e : A = B := of_decide_eq_true z
      walk_at "rd"
      refine ⟨(by show 1 ≤ sizeLine; decide), fun p4 np4 => ?_⟩
      generalize e_p4 : upd H3 p4 _ = H4
      have g4 : H4 p4 = some (.lst [.ref p2]) := by rw [← e_p4]; exact upd_same
      have w4 : Same H3 H4 := by rw [← e_p4]; exact fun b u z => (upd_ne (ne_of_none z np4)).trans z
      clear e_p4
      exact q [A] p4 H4 ⟨b, b', A, B, T, oA, oB, by rw [if_pos e]⟩ ⟨R, o1, l1⟩ (s03.trans w4) ⟨s03.free np4, [p2], g4, rfl, fun q hq => by rw [List.mem_singleton.mp hq]; exact s1.free np2, fun i D r x y => by
        cases i with
        | zero => cases x; cases y; exact w4 _ _ (s3 _ _ h2)
        | succ i => cases x⟩
    · have e : ¬ A = B := fun y => z (decide_eq_true y)
      walk_at "rd"
      refine ⟨(by show 2 ≤ sizeLine; decide), fun p4 np4 => ?_⟩
      generalize e_p4 : upd H3 p4 _ = H4
      have g4 : H4 p4 = some (.lst [.ref p2, .ref p3]) := by rw [← e_p4]; exact upd_same
      have w4 : Same H3 H4 := by rw [← e_p4]; exact fun b u z => (upd_ne (ne_of_none z np4)).trans z
      clear e_p4
      exact q [A, B] p4 H4 ⟨b, b', A, B, T, oA, oB, by rw [if_neg e]⟩ ⟨R, o1, l1⟩ (s03.trans w4) ⟨s03.free np4, [p2, p3], g4, rfl, fun q hq => by
        simp only [List.mem_cons, List.not_mem_nil, or_false] at hq
        rcases hq with e | e <;> rw [e]
        · exact s1.free np2
        · exact (s1.trans s2).free np3, fun i D r x y => by
        rcases i with _ | _ | i
        · cases x; cases y; exact w4 _ _ (s3 _ _ h2)
        · cases x; cases y; exact w4 _ _ h3
        · cases x⟩
end
end HT
namespace HT
open PySem L2
def spWrL : Sp := fun vs H Q _ => ∃ (l : Addr) (xs : List V) (ss : List Sd) (v : Int), vs = [.ref l, .int v] ∧ SidesAt H l xs ss ∧ (-2 ^ 900 < v ∧ v < 2 ^ 900) ∧ ∀ (L : Addr) (H' : Hp), H L = none → Same H H' → H' L = some (.lst ((ss.map fun d => dueM d.o d.s d.m v).map V.int)) → Q (.ref L) H'
section
variable {P : Program} {w : World} {K : PySem.W.Frag} {mg : Str → Option Value} {base : Heap} {fB fH fI fJ fL fM fN : Addr} {dB dH dI dJ dL dM dN : FuncData}
theorem ok_wrl {f : Addr} {fd : FuncData} (F : Fun K "_law_written" "_law_written" s_L_written f fd) (Wr : Cal P w K mg base "_law_handed" 2 ["_law_side", "_law_value"] spDue fB dB) : FnOk P w K mg base CX0 3 f fd ["_law_sides", "_law_value"] spWrL := by
  refine F.ok sc_L_written (fun vs H Q E h => ?_) (fun cdv A outer s0 H vs Q E hr h => ?_)
  · obtain ⟨l, xs, ss, v, rfl, _⟩ := h
    rfl
  · obtain ⟨l, xs, ss, v, rfl, SS, hv, q⟩ := h
    have nd := sc_L_written.nd
    refine ⟨_, (pss_one (ps_ret (pe_lc (own := [("_law_one", 2)]) (g := gName 2) (tt := tYes) rfl nd (pi_list (pv 0)) (blkOk_by (N := ["_law_sides", "_law_value", "_law_one"]) (sc := defScope s_L_written) (by decide +kernel)) (fun _ _ _ _ _ => pg_name (i := 2) nd rfl (Or.inl rfl)) (fun _ _ _ _ _ => pts_nil) (fun _ _ _ _ _ => (pcl Wr hr (by decide) (by rfl) (pa_cons (pv 2) (pa_cons (pv 1) pa_nil))))))), ?_⟩
    walk_at "rd"
    refine ⟨⟨_, SqL.of SS.hl⟩, fun L nL => ?_⟩
    refine lc_list (K := K) (a := l) (xs := xs) (fun i H3 => H3 L = some (.lst (((ss.take i).map fun d => dueM d.o d.s d.m v).map V.int)) ∧ i ≤ ss.length ∧ Same H H3)
      ⟨upd_same, Nat.zero_le _, fun b u z => (upd_ne (ne_of_none z nL)).trans z⟩ (fun _ _ _ ⟨_, _, sm⟩ => SqL.of (sm _ _ SS.hl)) ?_ ?_
    · rintro i y H3 hy ⟨hD, li, sm⟩
      obtain ⟨d, p, ed, rfl, hp, sp⟩ := SS.item hy
      have il : i < ss.length := (List.getElem?_eq_some_iff.mp ed).1
      refine ⟨rfl, ?_⟩
      walk_at "rd"
      refine ⟨p, d.o, d.s, d.m, v, rfl, sm _ _ hp, sp, (by unfold Bd; omega), fun H4 s34 => ?_⟩
      have hD4 := s34 _ _ hD
      have es : (ss.take (i + 1)).map (fun d => dueM d.o d.s d.m v) = (ss.take i).map (fun d => dueM d.o d.s d.m v) ++ [dueM d.o d.s d.m v] := by
        rw [List.take_succ, ed, List.map_append]
        rfl
      walk_at "rd"
      refine ⟨_, hD4, ?_, ?_, il, fun b u y => (upd_ne (ne_of_none y nL)).trans (s34 _ _ (sm _ _ y))⟩
      · rw [List.length_map, List.length_map]
        exact Nat.lt_of_le_of_lt (Nat.le_trans (List.length_take_le' _ _) SS.l4) (by decide)
      · rw [es, List.map_append]
        exact upd_same
    · rintro H3 ⟨hD, li, sm⟩
      rw [SS.len, List.take_length] at hD
      walk_at "rd"
      exact q L H3 nL sm hD
end
end HT
namespace HT
open PySem L2
/-- what a side does to x + b, at x -/
def movD (b : Int) (d : Sd) : Sd := ⟨(d.o + b) % perM d.s d.m, d.s, d.m⟩
theorem side_mov {d : Sd} (b : Int) (S : SideP d.o d.s d.m) : SideP (movD b d).o (movD b d).s (movD b d).m := by
  have p := perM_bd S
  have h0 := Int.emod_nonneg (d.o + b) (show perM d.s d.m ≠ 0 by omega)
  have h1 := Int.emod_lt_of_pos (d.o + b) (show 0 < perM d.s d.m by omega)
  refine ⟨?_, ?_, S.s0, S.s1, S.md⟩
  · show -10 ^ 40 ≤ (d.o + b) % perM d.s d.m
    omega
  · show (d.o + b) % perM d.s d.m ≤ 10 ^ 40
    omega
def spMoved : Sp := fun vs H Q _ => ∃ (p : Addr) (d : Sd) (b : Int), vs = [.ref p, .int b] ∧ H p = some (sideV d.o d.s d.m) ∧ SideP d.o d.s d.m ∧ ∀ (q : Addr) (H' : Hp), H q = none → Same H H' → H' q = some (sideV (movD b d).o (movD b d).s (movD b d).m) → Q (.ref q) H'
/-- the next run -/
def widS (r : Int × Int) (a : Int × Int) (d : Sd) : Int × Int :=
  if backM d.o d.s d.m r.1 ≤ backM d.o d.s d.m (r.2 + 1) - 1 then (if backM d.o d.s d.m r.1 < a.1 then backM d.o d.s d.m r.1 else a.1, if a.2 < backM d.o d.s d.m (r.2 + 1) - 1 then backM d.o d.s d.m (r.2 + 1) - 1 else a.2) else a
def widF (ss : List Sd) (r : Int × Int) : Int × Int := ss.foldl (widS r) r
def runN (ss : List Sd) : Nat → Int × Int
  | 0 => (0, 0)
  | k + 1 => widF ss (runN ss k)
theorem back_bd {o s : Int} {m : Str} {v : Int} (md : Mode m) (s0 : 1 ≤ s) : v - s ≤ backM o s m v ∧ backM o s m v ≤ v + s := by
  have c := ceil_eq (o := o) (v := v) s0
  have b := below_bd (k := ceilM o s v) md s0
  have e : s * (ceilM o s v - 1) = s * ceilM o s v - s := by rw [Int.mul_sub, Int.mul_one]
  have l : backM o s m v = o + s * ceilM o s v - below m s (ceilM o s v) := rfl
  rw [l]
  omega
theorem wid_bd {ss : List Sd} (h : ∀ d ∈ ss, SideP d.o d.s d.m) {r : Int × Int} : r.1 - 10 ^ 31 ≤ (widF ss r).1 ∧ (widF ss r).1 ≤ r.1 ∧ r.2 ≤ (widF ss r).2 ∧ (widF ss r).2 ≤ r.2 + 10 ^ 31 := by
  have key : ∀ (ss : List Sd) (a : Int × Int), (∀ d ∈ ss, SideP d.o d.s d.m) → r.1 - 10 ^ 31 ≤ a.1 ∧ a.1 ≤ r.1 ∧ r.2 ≤ a.2 ∧ a.2 ≤ r.2 + 10 ^ 31 → r.1 - 10 ^ 31 ≤ (ss.foldl (widS r) a).1 ∧ (ss.foldl (widS r) a).1 ≤ r.1 ∧ r.2 ≤ (ss.foldl (widS r) a).2 ∧ (ss.foldl (widS r) a).2 ≤ r.2 + 10 ^ 31 := by
    intro ss
    induction ss with
    | nil => intro a _ z; exact z
    | cons d ss ih =>
      intro a hs z
      have S := hs d List.mem_cons_self
      have s0 := S.s0
      have s1 := S.s1
      have b1 := back_bd (o := d.o) (v := r.1) S.md s0
      have b2 := back_bd (o := d.o) (v := r.2 + 1) S.md s0
      refine ih (widS r a d) (fun e he => hs e (List.mem_cons_of_mem _ he)) ?_
      unfold widS
      split
      · refine ⟨?_, ?_, ?_, ?_⟩ <;> simp only <;> split <;> omega
      · exact z
  exact key ss r h ⟨by omega, by omega, by omega, by omega⟩
theorem run_bd {ss : List Sd} (h : ∀ d ∈ ss, SideP d.o d.s d.m) : ∀ k : Nat, -(k * 10 ^ 31 : Int) ≤ (runN ss k).1 ∧ (runN ss k).1 ≤ 0 ∧ 0 ≤ (runN ss k).2 ∧ (runN ss k).2 ≤ k * 10 ^ 31
  | 0 => by
    show -(((0 : Nat) : Int) * 10 ^ 31) ≤ 0 ∧ (0 : Int) ≤ 0 ∧ (0 : Int) ≤ 0 ∧ (0 : Int) ≤ ((0 : Nat) : Int) * 10 ^ 31
    omega
  | k + 1 => by
    have a := run_bd h k
    have b := wid_bd h (r := runN ss k)
    have e : ((k + 1 : Nat) : Int) * 10 ^ 31 = (k : Int) * 10 ^ 31 + 10 ^ 31 := by rw [Int.natCast_add, Int.add_mul]; rfl
    show -(((k + 1 : Nat) : Int) * 10 ^ 31) ≤ (widF ss (runN ss k)).1 ∧ (widF ss (runN ss k)).1 ≤ 0 ∧ 0 ≤ (widF ss (runN ss k)).2 ∧ (widF ss (runN ss k)).2 ≤ ((k + 1 : Nat) : Int) * 10 ^ 31
    rw [e]
    omega
theorem wid_take {ss : List Sd} {r : Int × Int} {i : Nat} {d : Sd} (h : ss[i]? = some d) : (ss.take (i + 1)).foldl (widS r) r = widS r ((ss.take i).foldl (widS r) r) d := by
  rw [List.take_succ, h, List.foldl_append]
  rfl
/-- the runs up to the last one that is told -/
def pairV (a b : Int) : HO := .tup [.int a, .int b]
def spWid : Sp := fun vs H Q _ => ∃ (l p : Addr) (xs : List V) (ss : List Sd) (r : Int × Int), vs = [.ref l, .ref p] ∧ SidesAt H l xs ss ∧ H p = some (pairV r.1 r.2) ∧ (-2 ^ 600 < r.1 ∧ r.1 < 2 ^ 600) ∧ (-2 ^ 600 < r.2 ∧ r.2 < 2 ^ 600) ∧
  ∀ (q : Addr) (H' : Hp), H q = none → Same H H' → H' q = some (pairV (widF ss r).1 (widF ss r).2) → Q (.ref q) H'
section
variable {P : Program} {w : World} {K : PySem.W.Frag} {mg : Str → Option Value} {base : Heap} {aM c0 fC fB fV fN fW fS : Addr} {dC dB dV dN dW dS : FuncData}
theorem ok_threshold {f : Addr} {fd : FuncData} (F : Fun K "threshold" "threshold" s_threshold f fd) (B : Cal P w K mg base "_below" 1 ["mode", "step", "figure"] spBelow fB dB) : FnOk P w K mg base CX0 3 f fd ["side", "value"] spBack := by
  refine F.ok sc_threshold (fun vs H Q E h => ?_) (fun cdv A outer s H vs Q E hr h => ?_)
  · obtain ⟨p, o, s, m, v, rfl, _⟩ := h
    rfl
  · obtain ⟨p, o, s, m, v, rfl, hp, S, hv0, hv1, q⟩ := h
    have nd := sc_threshold.nd
    refine ⟨_, pss_cons (ps_asg (pv 0) (pg_tup (by rfl) (pgs_cons (pg_name (i := 2) nd rfl (Or.inl rfl)) (pgs_cons (pg_name (i := 3) nd rfl (Or.inl rfl)) (pgs_cons (pg_name (i := 4) nd rfl (Or.inl rfl)) pgs_nil)))))
      (pss_cons (ps_set (i := 5) nd rfl (Or.inl rfl) (pe_un un_neg (pe_op op_fdivW (pe_op op_sub (pv 2) (pv 1)) (pv 3))))
      (pss_one (ps_ret (pe_op op_sub (pe_op op_add (pv 2) (pe_op op_mulW (pv 3) (pv 5))) (pcl B hr (by decide) (by rfl) (pa_cons (pv 4) (pa_cons (pv 3) (pa_cons (pv 5) pa_nil)))))))), ?_⟩
    walk_at "rd"
    refine ⟨p, _, rfl, SqT.of hp, rfl, _, _, rfl, _, _, rfl, _, _, rfl, rfl, ?_⟩
    have s0 := S.s0
    have s1 := S.s1
    have o0 := S.o0
    have o1 := S.o1
    walk_at "rd"
    refine ⟨fdiv_ok _ (by omega) (lg_big (by omega) (by omega)), ?_⟩
    walk_at "rd"
    have db := div_bd (x := o - v) (b := 2 ^ 701) s0 (by omega) (by omega)
    refine ⟨mulW (by omega) (by omega), ?_⟩
    walk_at "rd"
    refine ⟨m, s, ceilM o s v, rfl, S.md, ?_⟩
    walk_at "rd"
    exact q H (fun _ _ z => z)
theorem ok_moved {f : Addr} {fd : FuncData} (F : Fun K "moved" "moved" s_moved f fd) (Pe : Cal P w K mg base "period_of" 1 ["side"] spPerOf fB dB) : FnOk P w K mg base CX0 2 f fd ["side", "by"] spMoved := by
  refine F.ok sc_moved (fun vs H Q E h => ?_) (fun cdv A outer s0 H vs Q E hr h => ?_)
  · obtain ⟨p, d, b, rfl, _⟩ := h
    rfl
  · obtain ⟨p, d, b, rfl, hp, S, q⟩ := h
    have nd := sc_moved.nd
    refine ⟨_, (pss_cons (ps_asg (pv 0) (pg_tup (by rfl) (pgs_cons (pg_name (i := 2) nd rfl (Or.inl rfl)) (pgs_cons (pg_name (i := 3) nd rfl (Or.inl rfl)) (pgs_cons (pg_name (i := 4) nd rfl (Or.inl rfl)) pgs_nil)))))
      (pss_one (ps_ret (pe_tup (pa_cons (pe_op op_mod (pe_op op_add (pv 2) (pv 1)) (pcl Pe hr (by decide) (by rfl) (pa_cons (pv 0) pa_nil))) (pa_cons (pv 3) (pa_cons (pv 4) pa_nil))))))), ?_⟩
    walk_at "rd"
    refine ⟨p, _, rfl, SqT.of hp, rfl, _, _, rfl, _, _, rfl, _, _, rfl, rfl, ?_⟩
    walk_at "rd"
    refine ⟨p, d.o, d.s, d.m, rfl, hp, S, ?_⟩
    have pb := perM_bd S
    refine ⟨_, _, rfl, rfl, (show 0 < perM d.s d.m by omega), ?_⟩
    walk_at "rd"
    refine ⟨(by show 3 ≤ sizeLine; decide), fun n nn => ?_⟩
    exact q n _ nn (fun c u z => (upd_ne (ne_of_none z nn)).trans z) upd_same
theorem ok_wid {f : Addr} {fd : FuncData} (F : Fun K "_widened" "_widened" s_widened f fd) (MT : MaxT mg) (Th : Cal P w K mg base "threshold" 3 ["side", "value"] spBack fB dB) : FnOk P w K mg base CX0 4 f fd ["sides", "run"] spWid := by
  refine F.ok sc_widened (fun vs H Q E h => ?_) (fun cdv A outer s0 H vs Q E hr h => ?_)
  · obtain ⟨l, p, xs, ss, r, rfl, _⟩ := h
    rfl
  · obtain ⟨l, p, xs, ss, r, rfl, SS, hp, r1, r2, q⟩ := h
    have nd := sc_widened.nd
    refine ⟨_, (pss_cons (ps_asg (pv 1) (pg_tup (by rfl) (pgs_cons (pg_name (i := 2) nd rfl (Or.inl rfl)) (pgs_cons (pg_name (i := 3) nd rfl (Or.inl rfl)) pgs_nil))))
      (pss_cons (ps_asg (pv 1) (pg_tup (by rfl) (pgs_cons (pg_name (i := 4) nd rfl (Or.inl rfl)) (pgs_cons (pg_name (i := 5) nd rfl (Or.inl rfl)) pgs_nil))))
      (pss_cons (ps_for PassesOwn.never rfl (pi_list (pv 0)) (pg_name (i := 6) nd rfl (Or.inl rfl)) (pss_cons (ps_set (i := 7) nd rfl (Or.inl rfl) (pcl Th hr (by decide) (by rfl) (pa_cons (pv 6) (pa_cons (pv 2) pa_nil))))
      (pss_cons (ps_set (i := 8) nd rfl (Or.inl rfl) (pe_op op_sub (pcl Th hr (by decide) (by rfl) (pa_cons (pv 6) (pa_cons (pe_op op_add (pv 3) pe_int) pa_nil))) pe_int))
      (pss_one (ps_if (pt_cmpR op_le (pv 7) (pv 8) (nomark _)) (pss_cons (ps_set (i := 4) nd rfl (Or.inl rfl) (pe_callB (call_min2 rfl) (by rfl) MT.min (by decide +kernel) (pa_cons (pv 4) (pa_cons (pv 7) pa_nil))))
      (pss_one (ps_set (i := 5) nd rfl (Or.inl rfl) (pe_callB (call_max2 rfl) (by rfl) MT.max (by decide +kernel) (pa_cons (pv 5) (pa_cons (pv 8) pa_nil)))))) pss_nil)))))
      (pss_one (ps_ret (pe_tup (pa_cons (pv 4) (pa_cons (pv 5) pa_nil)))))))), ?_⟩
    walk_at "rd"
    refine ⟨p, _, rfl, SqT.of hp, rfl, _, _, rfl, _, _, rfl, rfl, ?_⟩
    walk_at "rd"
    refine ⟨p, _, rfl, SqT.of hp, rfl, _, _, rfl, _, _, rfl, rfl, ?_⟩
    walk_at "rd"
    refine ⟨⟨_, SqL.of SS.hl⟩, ?_⟩
    refine for_list (K := K) (a := l) (xs := xs) (fun i st H' => ∃ x6 x7 x8 : Option V, st = [some (.ref l), some (.ref p), some (.int r.1), some (.int r.2), some (.int ((ss.take i).foldl (widS r) r).1), some (.int ((ss.take i).foldl (widS r) r).2), x6, x7, x8] ∧ Same H H')
      ⟨none, none, none, rfl, Same.refl H⟩ (fun _ _ _ _ ⟨_, _, _, _, e⟩ => SqL.of (e _ _ SS.hl)) ?_ ?_
    · rintro i y st H' hy ⟨x6, x7, x8, rfl, sm⟩
      obtain ⟨d, q6, ed, rfl, hq, sp⟩ := SS.item hy
      have wt := wid_take (r := r) ed
      walk_at "rd"
      refine ⟨q6, d.o, d.s, d.m, r.1, rfl, sm _ _ hq, sp, by omega, by omega, fun H2 s2 => ?_⟩
      walk_at "rd"
      refine ⟨q6, d.o, d.s, d.m, r.2 + 1, rfl, s2 _ _ (sm _ _ hq), sp, by omega, by omega, fun H3 s3 => ?_⟩
      walk_at "rd"
      generalize (ss.take i).foldl (widS r) r = a at wt ⊢
      refine ite2 (fun z => ?_) (fun z => ?_)
      · have le := of_decide_eq_true z
        have e : widS r a d = (if backM d.o d.s d.m r.1 < a.1 then backM d.o d.s d.m r.1 else a.1, if a.2 < backM d.o d.s d.m (r.2 + 1) - 1 then backM d.o d.s d.m (r.2 + 1) - 1 else a.2) := by
          unfold widS
          rw [if_pos le]
        rw [e] at wt
        walk_at "rd"
        refine ⟨_, _, rfl, ?_⟩
        walk_at "rd"
        refine ⟨_, _, rfl, ?_⟩
        rw [wt]
        exact ⟨_, _, _, rfl, (sm.trans s2).trans s3⟩
      · have le := of_decide_eq_false (by simpa using z : decide (backM d.o d.s d.m r.1 ≤ backM d.o d.s d.m (r.2 + 1) - 1) = false)
        have e : widS r a d = a := by
          unfold widS
          rw [if_neg le]
        rw [e] at wt
        show ∃ x6 x7 x8 : Option V, _
        rw [wt]
        exact ⟨_, _, _, rfl, (sm.trans s2).trans s3⟩
    · rintro st H' ⟨x6, x7, x8, rfl, sm⟩
      walk_at "rd"
      refine ⟨(by show 2 ≤ sizeLine; decide), fun n nn => ?_⟩
      rw [SS.len, List.take_length]
      exact q n _ (sm.free nn) (fun c u z => (upd_ne (ne_of_none (sm _ _ z) nn)).trans (sm _ _ z)) upd_same
end
end HT
namespace HT
open PySem L2
/-- the runs go on until one does not grow, or to the one of 1,001 hand-overs -/
structure RunsTo (ss : List Sd) (n : Nat) : Prop where
  le : n ≤ 1001
  ne : ∀ j, j < n → runN ss (j + 1) ≠ runN ss j
  stop : n = 1001 ∨ runN ss (n + 1) = runN ss n
def RunsAt (H : Hp) (q : Addr) (v : Int) (ss : List Sd) (n : Nat) : Prop := ∃ ps : List Addr, H q = some (.lst (ps.map V.ref)) ∧ ps.length = n + 1 ∧ ∀ (i : Nat) (p : Addr), ps[i]? = some p → H p = some (pairV (v + (runN ss i).1) (v + (runN ss i).2))
theorem RunsAt.same {H H' : Hp} {q : Addr} {v : Int} {ss : List Sd} {n : Nat} (R : RunsAt H q v ss n) (e : Same H H') : RunsAt H' q v ss n := let ⟨ps, a, b, c⟩ := R; ⟨ps, e _ _ a, b, fun i p h => e _ _ (c i p h)⟩
/-- the runs as seen from the value -/
def Runs0 (H : Hp) (q : Addr) (ss : List Sd) (n : Nat) : Prop := ∃ ps : List Addr, H q = some (.lst (ps.map V.ref)) ∧ ps.length = n + 1 ∧ ∀ (i : Nat) (p : Addr), ps[i]? = some p → H p = some (pairV (runN ss i).1 (runN ss i).2)
theorem Runs0.same {H H' : Hp} {q : Addr} {ss : List Sd} {n : Nat} (R : Runs0 H q ss n) (e : Same H H') : Runs0 H' q ss n := let ⟨ps, a, b, c⟩ := R; ⟨ps, e _ _ a, b, fun i p h => e _ _ (c i p h)⟩
theorem eqv_two (a b c d : Int) : PyData.eqv (.tuple [.int a, .int b]) (.tuple [.int c, .int d]) = decide (a = c ∧ b = d) := by
  simp only [PyData.eqv, PyData.eqvAll, Bool.and_true]
  by_cases x : a = c <;> by_cases y : b = d <;> simp [x, y]
theorem dpPair {K : PySem.W.Frag} {H : Hp} {p : Addr} {a b : Int} (h : H p = some (pairV a b)) : Dp K H (.ref p) (.tuple [.int a, .int b]) := .tup (SqT.of h) (.cons (.int _) (.cons (.int _) .nil))
theorem shaped_two (a b : Int) : SeqAt.shaped (.tuple [.int a, .int b]) = true := rfl
def spRuns : Sp := fun vs H Q _ => ∃ (l : Addr) (xs : List V) (ss : List Sd) (v : Int), vs = [.ref l, .int v] ∧ SidesAt H l xs ss ∧ (-2 ^ 500 < v ∧ v < 2 ^ 500) ∧
  ∀ (q : Addr) (n : Nat) (H' : Hp), H q = none → Same H H' → RunsTo (ss.map (movD (-v))) n → RunsAt H' q v (ss.map (movD (-v))) n → Q (.ref q) H'
section
variable {P : Program} {w : World} {K : PySem.W.Frag} {mg : Str → Option Value} {base : Heap} {aM c0 fC fB fV fN fW fS : Addr} {dC dB dV dN dW dS : FuncData}
theorem ok_runs {f : Addr} {fd : FuncData} (F : Fun K "_runs" "_runs" s_runs f fd) (B : Blt mg) (hMH : ∃ t, mg "MOST_HANDOVERS" = some (.int 1000 t)) (Mo : Cal P w K mg base "moved" 2 ["side", "by"] spMoved fB dB) (Wi : Cal P w K mg base "_widened" 4 ["sides", "run"] spWid fC dC) : FnOk P w K mg base CX0 5 f fd ["sides", "value"] spRuns := by
  refine F.ok sc_runs (fun vs H Q E h => ?_) (fun cdv A outer s0 H vs Q E hr h => ?_)
  · obtain ⟨l, xs, ss, v, rfl, _⟩ := h
    rfl
  · obtain ⟨l, xs, ss, v, rfl, SS, hv, q⟩ := h
    have nd := sc_runs.nd
    obtain ⟨tmh, hmh⟩ := hMH
    refine ⟨_, (pss_cons (ps_setLc (i := 3) (own := [("side", 2)]) (g := gName 2) (tt := tYes) rfl nd rfl rfl (sw_true rfl rfl rfl (by decide +kernel)) (pi_list (pv 0)) (blkOk_by (N := ["sides", "value", "side", "near", "runs", "many", "run", "least", "greatest"]) (sc := defScope s_runs) (by decide +kernel)) (fun _ _ _ _ _ => pg_name (i := 2) nd rfl (Or.inl rfl)) (fun _ _ _ _ _ => pts_nil) (fun _ _ _ _ _ => (pcl Mo hr (by decide) (by rfl) (pa_cons (pv 2) (pa_cons (pe_un un_neg (pv 1)) pa_nil)))))
      (pss_cons (ps_set (i := 4) nd rfl (Or.inl rfl) (pe_lst (pa_cons (pe_tup (pa_cons pe_int (pa_cons pe_int pa_nil))) pa_nil)))
      (pss_cons (ps_mid (ps_for PassesOwn.never rfl (pi_range1 (by rfl) B.range (pa_cons (pe_op op_add (pe_glob (v := .int 1000) (by rfl) hmh ⟨_, rfl⟩) pe_int) pa_nil)) (pg_name (i := 5) nd rfl (Or.inl rfl)) (pss_cons (ps_set (i := 6) nd rfl (Or.inl rfl) (pcl Wi hr (by decide) (by rfl) (pa_cons (pv 3) (pa_cons (pe_ix ix_list (pv 4) (pv 5) (fun _ _ => rfl)) pa_nil))))
      (pss_cons (ps_if (pt_cmpR (op_eqD hr.units) (pv 6) (pe_ix ix_list (pv 4) (pv 5) (fun _ _ => rfl)) (nomark _)) (pss_one ps_break) pss_nil)
      (pss_one (ps_expr (pe_bm PySem.F.plainAttrs_list PySem.F.slot_list_append PySem.F.type_list_append mt_append (pv 4) (pa_cons (pv 6) pa_nil))))))))
      (pss_one (ps_ret (pe_lc (own := [("least", 7), ("greatest", 8)]) (g := (gTup K 2 (gCons (gName 7) (gCons (gName 8) gNil)))) (tt := tYes) rfl nd (pi_list (pv 4)) (blkOk_by (N := ["sides", "value", "side", "near", "runs", "many", "run", "least", "greatest"]) (sc := defScope s_runs) (by decide +kernel)) (fun _ _ _ _ _ => pg_tup (by rfl) (pgs_cons (pg_name (i := 7) nd rfl (Or.inl rfl)) (pgs_cons (pg_name (i := 8) nd rfl (Or.inl rfl)) pgs_nil))) (fun _ _ _ _ _ => pts_nil) (fun _ _ _ _ _ => (pe_tup (pa_cons (pe_op op_add (pv 1) (pv 7)) (pa_cons (pe_op op_add (pv 1) (pv 8)) pa_nil)))))))))), ?_⟩
    walk_at "rd"
    refine ⟨⟨_, SqL.of SS.hl⟩, fun L nL => ?_⟩
    refine lc_list (K := K) (a := l) (xs := xs) (fun i H3 => ∃ ys : List V, H3 L = some (.lst ys) ∧ ys.length = ((ss.take i).map (movD (-v))).length ∧ i ≤ ss.length ∧ Same H H3 ∧ (∀ (j : Nat) (d : Sd), ((ss.take i).map (movD (-v)))[j]? = some d → ∃ p : Addr, ys[j]? = some (V.ref p) ∧ H3 p = some (sideV d.o d.s d.m) ∧ SideP d.o d.s d.m))
      ⟨[], upd_same, rfl, Nat.zero_le _, fun b u z => (upd_ne (ne_of_none z nL)).trans z, fun j d z => by simp at z⟩ (fun _ _ _ ⟨_, _, _, _, sm, _⟩ => SqL.of (sm _ _ SS.hl)) ?_ ?_
    · rintro i y H3 hy ⟨ys, hD, ly, li, sm, at_⟩
      obtain ⟨d, p, ed, rfl, hp, sp⟩ := SS.item hy
      have il : i < ss.length := (List.getElem?_eq_some_iff.mp ed).1
      refine ⟨rfl, ?_⟩
      walk_at "rd"
      refine ⟨p, d, -v, rfl, sm _ _ hp, sp, fun b H4 nb s34 hb => ?_⟩
      have hD4 := s34 _ _ hD
      have es : (ss.take (i + 1)).map (movD (-v)) = (ss.take i).map (movD (-v)) ++ [movD (-v) d] := by
        rw [List.take_succ, ed, List.map_append]
        rfl
      walk_at "rd"
      refine ⟨_, hD4, ?_, ys ++ [.ref b], upd_same, ?_, il, ?_, ?_⟩
      · rw [ly, List.length_map]
        exact Nat.lt_of_le_of_lt (Nat.le_trans (List.length_take_le' _ _) SS.l4) (by decide)
      · rw [es, List.length_append, List.length_append, ly]
        rfl
      · intro c u y
        exact (upd_ne (ne_of_none y nL)).trans (s34 _ _ (sm _ _ y))
      · rw [es]
        exact grow_side (d := movD (-v) d) at_ ly (fun c u y nb => (upd_ne nb).trans (s34 _ _ y)) hD ((upd_ne (ne_of hb hD4 (by intro y; cases y))).trans hb) (side_mov _ sp)
    rintro H3 ⟨ys, hD, ly, li, sm, at_⟩
    rw [SS.len, List.take_length] at ly at_
    have N3 : SidesAt H3 L ys (ss.map (movD (-v))) := ⟨hD, ly, by rw [List.length_map]; exact SS.l1, by rw [List.length_map]; exact SS.l4, at_⟩
    generalize ss.map (movD (-v)) = ns at N3 q
    clear at_ ly hD
    walk_at "rd"
    refine ⟨(by show 2 ≤ sizeLine; decide), fun p0 n0 => ?_⟩
    have w4 : Same H3 (upd H3 p0 (pairV 0 0)) := fun b u z => (upd_ne (ne_of_none z n0)).trans z
    have g4 : upd H3 p0 (pairV 0 0) p0 = some (pairV 0 0) := upd_same
    change (tNil _ (upd H3 p0 (pairV 0 0)) _)
    generalize upd H3 p0 (pairV 0 0) = H4 at w4 g4 ⊢
    walk_at "rd"
    refine ⟨(by show 1 ≤ sizeLine; decide), fun R nR => ?_⟩
    have w5 : Same H4 (upd H4 R (.lst [.ref p0])) := fun b u z => (upd_ne (ne_of_none z nR)).trans z
    have g5 : upd H4 R (.lst [.ref p0]) R = some (.lst [.ref p0]) := upd_same
    generalize upd H4 R (.lst [.ref p0]) = H5 at w5 g5 ⊢
    have t5 : Same H H5 := sm.trans (w4.trans w5)
    have N5 := (N3.same w4).same w5
    have R5 : Runs0 H5 R ns 0 := ⟨[p0], g5, rfl, fun i p e => by
      cases i with
      | zero => cases e; exact w5 _ _ g4
      | succ i => cases e⟩
    have RH : H R = none := by
      cases z : H R with
      | none => rfl
      | some u => rw [w4 _ _ (sm _ _ z)] at nR; cases nR
    walk_at "rd"
    refine ⟨fun st H' => ∃ (x2 x5 x6 x7 x8 : Option V) (n : Nat), st = [some (.ref l), some (.int v), x2, some (.ref L), some (.ref R), x5, x6, x7, x8] ∧ RunsTo ns n ∧ Runs0 H' R ns n ∧ Same H H', ?_, ?_⟩
    · walk_at "rd"
      refine ⟨by decide, by decide, ?_⟩
      refine for_range (n := 1001) (fun i st H' => ∃ x5 x6 : Option V, st = [some (.ref l), some (.int v), none, some (.ref L), some (.ref R), x5, x6, none, none] ∧ (∀ j, j < i → runN ns (j + 1) ≠ runN ns j) ∧ Runs0 H' R ns i ∧ Same H H' ∧ SidesAt H' L ys ns) ⟨none, none, rfl, fun j z => absurd z (Nat.not_lt_zero _), R5, t5, N5⟩ ?_ ?_
      · rintro i st H' hi ⟨x5, x6, rfl, grow, ⟨ps, hR, lp, ap⟩, t6, N6⟩
        obtain ⟨p1, e1⟩ : ∃ p1, ps[i]? = some p1 := ⟨ps[i]'(by omega), List.getElem?_eq_getElem _⟩
        have hp1 := ap i p1 e1
        have bd := run_bd N6.side i
        have e2 : atI (ps.map V.ref) ((0 : Int) + (i : Int)) = some (V.ref p1) := by
          rw [Int.zero_add]
          exact atI_nat (by rw [List.getElem?_map, e1]; rfl)
        walk_at "rd"
        refine ⟨R, _, _, _, rfl, rfl, SqL.of hR, e2, ?_⟩
        walk_at "rd"
        refine ⟨L, p1, ys, ns, runN ns i, rfl, N6, hp1, by omega, by omega, fun p2 H7 n2 s7 h2 => ?_⟩
        walk_at "rd"
        refine ⟨R, _, _, _, rfl, rfl, SqL.of (s7 _ _ hR), e2, ?_⟩
        refine ⟨_, _, dpPair h2, dpPair (s7 _ _ hp1), shaped_two _ _, shaped_two _ _, ?_⟩
        rw [eqv_two]
        walk_at "rd"
        refine ite2 (fun z => ?_) (fun z => ?_)
        · have e := of_decide_eq_true z
          have e3 : runN ns (i + 1) = runN ns i := Prod.ext e.1 e.2
          exact ⟨_, _, _, _, _, i, rfl, ⟨by omega, grow, .inr e3⟩, ⟨ps, s7 _ _ hR, lp, fun i p e => s7 _ _ (ap i p e)⟩, t6.trans s7⟩
        · have ne : runN ns (i + 1) ≠ runN ns i := fun e => by
            have e3 : (widF ns (runN ns i)).1 = (runN ns i).1 ∧ (widF ns (runN ns i)).2 = (runN ns i).2 := ⟨congrArg Prod.fst e, congrArg Prod.snd e⟩
            exact z (decide_eq_true e3)
          walk_at "rd"
          refine ⟨.inl ⟨rfl, _, SqL.of (s7 _ _ hR)⟩, ?_⟩
          walk_at "rd"
          refine ⟨R, _, .ref p2, rfl, rfl, s7 _ _ hR, (by rw [List.length_map, lp]; exact Nat.lt_of_le_of_lt (by omega : i + 1 ≤ 1001) (by decide)), ?_⟩
          have nRp : R ≠ p2 := fun e => by rw [← e, hR] at n2; cases n2
          have keep : ∀ {c : Addr} {u : HO}, c ≠ R → H7 c = some u → upd H7 R (.lst (ps.map V.ref ++ [.ref p2])) c = some u := fun {c u} e z => (upd_ne e).trans z
          refine ⟨_, _, rfl, fun j hj => ?_, ⟨ps ++ [p2], by rw [List.map_append]; exact upd_same, by rw [List.length_append, lp]; rfl, fun j p ej => ?_⟩, fun c u y => ?_, ?_⟩
          · rcases Nat.lt_or_eq_of_le (Nat.le_of_lt_succ hj) with y | y
            · exact grow j y
            · rw [y]; exact ne
          · by_cases y : j < ps.length
            · rw [List.getElem?_append_left y] at ej
              have hj := s7 _ _ (ap j p ej)
              exact keep (fun e => by rw [e, s7 _ _ hR] at hj; cases hj) hj
            · rw [List.getElem?_append_right (by omega)] at ej
              have j0 : j - ps.length = 0 := by
                have := (List.getElem?_eq_some_iff.mp ej).1
                simp at this
                omega
              rw [j0] at ej
              cases ej
              have ej2 : j = i + 1 := by omega
              rw [ej2]
              exact keep nRp.symm h2
          · exact keep (ne_of_none y RH) (s7 _ _ (t6 _ _ y))
          · have N7 := N6.same s7
            have nLR : L ≠ R := fun e => by
              have z := N5.hl
              rw [e, g5] at z
              have z2 : [V.ref p0] = ys := by cases z; rfl
              have z3 := N5.len
              have z4 := N5.at_
              have z5 := N3.hl
              rw [e] at z5
              rw [w4 _ _ z5] at nR
              cases nR
            refine ⟨keep nLR N7.hl, N7.len, N7.l1, N7.l4, fun j d e => ?_⟩
            obtain ⟨p, a, b, c⟩ := N7.at_ j d e
            exact ⟨p, a, keep (fun e => by rw [e, s7 _ _ hR] at b; cases b) b, c⟩
      · rintro st H' ⟨x5, x6, rfl, grow, R6, t6, _⟩
        exact ⟨_, _, _, _, _, 1001, rfl, ⟨Nat.le_refl _, grow, .inl rfl⟩, R6, t6⟩
    · rintro st H' ⟨x2, x5, x6, x7, x8, n, rfl, to, ⟨ps, hR, lp, ap⟩, t6⟩
      have n1 := to.le
      walk_at "rd"
      refine ⟨⟨_, SqL.of hR⟩, fun D nD => ?_⟩
      refine lc_list (K := K) (a := R) (xs := ps.map V.ref) (fun i H3 => ∃ qs : List Addr, H3 D = some (.lst (qs.map V.ref)) ∧ qs.length = i ∧ i ≤ n + 1 ∧ Same H' H3 ∧ ∀ (j : Nat) (q : Addr), qs[j]? = some q → H3 q = some (pairV (v + (runN ns j).1) (v + (runN ns j).2)))
        ⟨[], upd_same, rfl, Nat.zero_le _, fun b u z => (upd_ne (ne_of_none z nD)).trans z, fun j d z => by simp at z⟩ (fun _ _ _ ⟨_, _, _, _, sm, _⟩ => SqL.of (sm _ _ hR)) ?_ ?_
      · rintro i y H3 hy ⟨qs, hD, lq, li, sm3, aq⟩
        rw [List.getElem?_map] at hy
        obtain ⟨p1, e1, rfl⟩ := Option.map_eq_some_iff.mp hy
        have il : i < ps.length := (List.getElem?_eq_some_iff.mp e1).1
        refine ⟨p1, _, rfl, SqT.of (sm3 _ _ (ap i p1 e1)), rfl, _, _, rfl, _, _, rfl, rfl, ?_⟩
        refine ⟨rfl, ?_⟩
        walk_at "rd"
        refine ⟨(by show 2 ≤ sizeLine; decide), fun t nt => ?_⟩
        have wt : ∀ {c : Addr} {u w2 : HO}, H3 c = some u → upd H3 t w2 c = some u := fun {c u w2} z => (upd_ne (ne_of_none z nt)).trans z
        have nDt : D ≠ t := ne_of_none hD nt
        refine ⟨_, wt hD, (by rw [List.length_map, lq]; exact Nat.lt_of_le_of_lt (by omega : i ≤ 1001) (by decide)), qs ++ [t], by rw [List.map_append]; exact upd_same, by rw [List.length_append, lq]; rfl, by omega, fun c u y => (upd_ne (ne_of_none y nD)).trans (wt (sm3 _ _ y)), fun j q2 ej => ?_⟩
        by_cases y : j < qs.length
        · rw [List.getElem?_append_left y] at ej
          have hj := aq j q2 ej
          exact (upd_ne (fun e => by rw [e, hD] at hj; cases hj)).trans (wt hj)
        · rw [List.getElem?_append_right (by omega)] at ej
          have j0 : j - qs.length = 0 := by
            have := (List.getElem?_eq_some_iff.mp ej).1
            simp at this
            omega
          rw [j0] at ej
          cases ej
          have ej2 : j = i := by omega
          rw [ej2]
          exact (upd_ne nDt.symm).trans upd_same
      · rintro H3 ⟨qs, hD, lq, li, sm3, aq⟩
        rw [List.length_map, lp] at lq
        walk_at "rd"
        have DH : H D = none := by
          cases z : H D with
          | none => rfl
          | some u => rw [t6 _ _ z] at nD; cases nD
        exact q D n H3 DH (t6.trans sm3) to ⟨qs, hD, lq, aq⟩
end
end HT
namespace HT
open PySem L2
/-- what lies of a run within N of the value -/
def clipN (N : Int) (r : Int × Int) : Int × Int := (if r.1 < -N then -N else r.1, if N < r.2 then N else r.2)
def oI : Option Int → V
  | none => .non
  | some x => .int x
def loE (v N : Int) (r : Int × Int) : Option Int := if (clipN N r).1 = -N then none else some (v + (clipN N r).1)
def hiE (v N : Int) (r : Int × Int) : Option Int := if (clipN N r).2 = N then none else some (v + (clipN N r).2)
def TooE (N : Int) (ns : List Sd) (n : Nat) : Prop := n = 1001 ∧ clipN N (runN ns 1000) ≠ clipN N (runN ns 1001)
def spWin : Sp := fun vs H Q _ => ∃ (p w : Addr) (a b c d : Int), vs = [.ref p, .ref w] ∧ H p = some (pairV a b) ∧ H w = some (pairV c d) ∧ ∀ (q : Addr) (H' : Hp), H q = none → Same H H' → H' q = some (pairV (if a < c then c else a) (if d < b then d else b)) → Q (.ref q) H'
theorem clip_at (v N a b : Int) : (if v + a < v - N then v - N else v + a) = v + (clipN N (a, b)).1 ∧ (if v + N < v + b then v + N else v + b) = v + (clipN N (a, b)).2 := by
  unfold clipN
  constructor
  · by_cases h : a < -N
    · rw [if_pos h, if_pos (by omega)]; omega
    · rw [if_neg h, if_neg (by omega)]
  · by_cases h : N < b
    · rw [if_pos h, if_pos (by omega)]
    · rw [if_neg h, if_neg (by omega)]
def spEndsX (C : Nat → Addr) : Sp := fun vs H Q E => ∃ (l q : Addr) (xs : List V) (ss ns : List Sd) (v : Int) (n : Nat), vs = [.ref l, .int v, .ref q] ∧ SidesAt H l xs ss ∧ RunsTo ns n ∧ RunsAt H q v ns n ∧
  ((TooE (comN ss) ns n ∧ ∀ H', Same H H' → E (.ref (C 2)) none H') ∨ (¬ TooE (comN ss) ns n ∧ ∀ (p : Addr) (H' : Hp), H p = none → Same H H' → H' p = some (.tup [oI (loE v (comN ss) (runN ns n)), oI (hiE v (comN ss) (runN ns n))]) → Q (.ref p) H'))
section
variable {P : Program} {w : World} {K : PySem.W.Frag} {mg : Str → Option Value} {base : Heap} {aM c0 fC fB fV fN fW fS Bx : Addr} {dC dB dV dN dW dS : FuncData} {C : Nat → Addr}
theorem ok_win {f : Addr} {fd : FuncData} (F : Fun K "_within" "_within" s_within f fd) (MT : MaxT mg) : FnOk P w K mg base CX0 1 f fd ["run", "window"] spWin := by
  refine F.ok sc_within (fun vs H Q E h => ?_) (fun cdv A outer s0 H vs Q E hr h => ?_)
  · obtain ⟨p, x, a, b, c, d, rfl, _⟩ := h
    rfl
  · obtain ⟨p, x, a, b, c, d, rfl, hp, hx, q⟩ := h
    have nd := sc_within.nd
    refine ⟨_, (pss_one (ps_ret (pe_tup (pa_cons (pe_callB (call_max2 rfl) (by rfl) MT.max (by decide +kernel) (pa_cons (pe_ix ix_tup (pv 0) pe_int (fun _ _ => rfl)) (pa_cons (pe_ix ix_tup (pv 1) pe_int (fun _ _ => rfl)) pa_nil))) (pa_cons (pe_callB (call_min2 rfl) (by rfl) MT.min (by decide +kernel) (pa_cons (pe_ix ix_tup (pv 0) pe_int (fun _ _ => rfl)) (pa_cons (pe_ix ix_tup (pv 1) pe_int (fun _ _ => rfl)) pa_nil))) pa_nil))))), ?_⟩
    walk_at "rd"
    refine ⟨p, _, 0, _, rfl, rfl, SqT.of hp, rfl, ?_⟩
    walk_at "rd"
    refine ⟨x, _, 0, _, rfl, rfl, SqT.of hx, rfl, ?_⟩
    refine ⟨_, _, rfl, ?_⟩
    walk_at "rd"
    refine ⟨p, _, 1, _, rfl, rfl, SqT.of hp, rfl, ?_⟩
    walk_at "rd"
    refine ⟨x, _, 1, _, rfl, rfl, SqT.of hx, rfl, ?_⟩
    refine ⟨_, _, rfl, ?_⟩
    walk_at "rd"
    refine ⟨(by show 2 ≤ sizeLine; decide), fun n nn => ?_⟩
    exact q n _ nn (fun c u z => (upd_ne (ne_of_none z nn)).trans z) upd_same
theorem ok_ends_x {f : Addr} {fd : FuncData} (F : Fun K "_ends" "_ends" s_ends f fd) (B : Blt mg) (R : Er K mg C Bx) (hMH : ∃ t, mg "MOST_HANDOVERS" = some (.int 1000 t)) (Cp : Cal P w K mg base "common_period" 2 ["sides"] spPerL fB dB) (Wi : Cal P w K mg base "_within" 1 ["run", "window"] spWin fC dC) : FnOk P w K mg base (L2.CX P w) 3 f fd ["sides", "value", "runs"] (spEndsX C) := by
  refine F.okAny sc_ends (fun vs H Q E h => ?_) (fun cdv A outer s0 H vs Q E hr h => ?_)
  · obtain ⟨l, q, xs, ss, ns, v, n, rfl, _⟩ := h
    rfl
  · obtain ⟨l, q, xs, ss, ns, v, n, rfl, SS, to, ⟨ps, hR, lp, ap⟩, k⟩ := h
    have nd := sc_ends.nd
    obtain ⟨tmh, hmh⟩ := hMH
    refine ⟨_, (pss_cons (ps_set (i := 3) nd rfl (Or.inl rfl) (pcl Cp hr (by decide) (by rfl) (pa_cons (pv 0) pa_nil)))
      (pss_cons (ps_set (i := 4) nd rfl (Or.inl rfl) (pe_tup (pa_cons (pe_op op_sub (pv 1) (pv 3)) (pa_cons (pe_op op_add (pv 1) (pv 3)) pa_nil))))
      (pss_cons (ps_mid (ps_if (pt_cmpR op_gt (pe_callB call_len_seq (by rfl) B.len PySem.boot_len (pa_cons (pv 2) pa_nil)) (pe_op op_add (pe_glob (v := .int 1000) (by rfl) hmh ⟨_, rfl⟩) pe_int) (nomark _)) (pss_one (ps_if (pt_cmpR (op_neD hr.units) (pcl Wi hr (by decide) (by rfl) (pa_cons (pe_ix ix_list (pv 2) (pe_glob (v := .int 1000) (by rfl) hmh ⟨_, rfl⟩) (fun _ _ => rfl)) (pa_cons (pv 4) pa_nil))) (pcl Wi hr (by decide) (by rfl) (pa_cons (pe_ix ix_list (pv 2) (pe_op op_add (pe_glob (v := .int 1000) (by rfl) hmh ⟨_, rfl⟩) pe_int) (fun _ _ => rfl)) (pa_cons (pv 4) pa_nil))) (nomark _)) (pss_one (ps_raise rfl (takes_of rfl rfl rfl rfl) (pmk_own PySem.F.excBase_ValueError (R.ex 2 (by decide)) R.g2 (R.kp 2 (by decide)) (raises_own (R.sb 2 (by decide)) (R.ty 2 (by decide))) (by rfl)))) pss_nil)) pss_nil))
      (pss_cons (ps_asg (pcl Wi hr (by decide) (by rfl) (pa_cons (pe_ix ix_list (pv 2) (pe_op op_sub (pe_callB call_len_seq (by rfl) B.len PySem.boot_len (pa_cons (pv 2) pa_nil)) pe_int) (fun _ _ => rfl)) (pa_cons (pv 4) pa_nil))) (pg_tup (by rfl) (pgs_cons (pg_name (i := 5) nd rfl (Or.inl rfl)) (pgs_cons (pg_name (i := 6) nd rfl (Or.inl rfl)) pgs_nil))))
      (pss_one (ps_ret (pe_tup (pa_cons (pe_ifExp (pt_cmpR op_eq (pv 5) (pe_ix ix_tup (pv 4) pe_int (fun _ _ => rfl)) (nomark _)) pe_non (pv 5)) (pa_cons (pe_ifExp (pt_cmpR op_eq (pv 6) (pe_ix ix_tup (pv 4) pe_int (fun _ _ => rfl)) (nomark _)) pe_non (pv 6)) pa_nil))))))))), ?_⟩
    walk_at "rd"
    refine ⟨l, xs, ss, rfl, SS.toL, ?_⟩
    have N0 : (0 : Int) ≤ (comN ss : Int) := Int.natCast_nonneg _
    generalize (comN ss : Int) = N at N0 k ⊢
    walk_at "rd"
    refine ⟨(by show 2 ≤ sizeLine; decide), fun wi nwi => ?_⟩
    have w1 : Same H (upd H wi (pairV (v - N) (v + N))) := fun b u z => (upd_ne (ne_of_none z nwi)).trans z
    have gw : upd H wi (pairV (v - N) (v + N)) wi = some (pairV (v - N) (v + N)) := upd_same
    change (gName 4 _ _ (upd H wi (pairV (v - N) (v + N))) _)
    generalize upd H wi (pairV (v - N) (v + N)) = H1 at w1 gw ⊢
    have n1 := to.le
    have cl : ∀ a b : Int, pairV (if v + a < v - N then v - N else v + a) (if v + N < v + b then v + N else v + b) = pairV (v + (clipN N (a, b)).1) (v + (clipN N (a, b)).2) := fun a b => by rw [(clip_at v N a b).1, (clip_at v N a b).2]
    refine ⟨fun st H' => st = [some (.ref l), some (.int v), some (.ref q), some (.int N), some (.ref wi), none, none] ∧ Same H H' ∧ H' wi = some (pairV (v - N) (v + N)) ∧ ¬ TooE N ns n, ?_, ?_⟩
    · walk_at "rd"
      refine ⟨q, _, rfl, .inl (SqL.of (w1 _ _ hR)), ?_⟩
      walk_at "rd"
      refine ite2 (fun z => ?_) (fun z => ?_)
      · have big := of_decide_eq_true z
        rw [List.length_map, lp] at big
        have e1 : n = 1001 := by omega
        subst e1
        obtain ⟨pa, ea⟩ : ∃ pa, ps[1000]? = some pa := ⟨ps[1000]'(by omega), List.getElem?_eq_getElem _⟩
        obtain ⟨pb, eb⟩ : ∃ pb, ps[1001]? = some pb := ⟨ps[1001]'(by omega), List.getElem?_eq_getElem _⟩
        have ha := ap _ _ ea
        have hb := ap _ _ eb
        walk_at "rd"
        refine ⟨q, _, 1000, _, rfl, rfl, SqL.of (w1 _ _ hR), atI_nat (j := 1000) (by rw [List.getElem?_map, ea]; rfl), ?_⟩
        walk_at "rd"
        refine ⟨pa, wi, _, _, _, _, rfl, w1 _ _ ha, gw, fun c1 H2 nc1 s2 h2 => ?_⟩
        rw [cl] at h2
        walk_at "rd"
        refine ⟨q, _, 1001, _, rfl, rfl, SqL.of (s2 _ _ (w1 _ _ hR)), atI_nat (j := 1001) (by rw [List.getElem?_map, eb]; rfl), ?_⟩
        walk_at "rd"
        refine ⟨pb, wi, _, _, _, _, rfl, s2 _ _ (w1 _ _ hb), s2 _ _ gw, fun c2 H3 nc2 s3 h3 => ?_⟩
        rw [cl] at h3
        refine ⟨_, _, dpPair (s3 _ _ h2), dpPair h3, shaped_two _ _, shaped_two _ _, ?_⟩
        rw [eqv_two]
        walk_at "rd"
        refine ite2 (fun z => ?_) (fun z => ?_)
        · rcases k with ⟨_, k⟩ | ⟨no, _⟩
          · exact k H3 (w1.trans (s2.trans s3))
          · exfalso
            refine no ⟨rfl, fun e => ?_⟩
            have e2 : (clipN N ((runN ns 1000).fst, (runN ns 1000).snd)).fst = (clipN N ((runN ns 1001).fst, (runN ns 1001).snd)).fst := congrArg Prod.fst e
            have e3 : (clipN N ((runN ns 1000).fst, (runN ns 1000).snd)).snd = (clipN N ((runN ns 1001).fst, (runN ns 1001).snd)).snd := congrArg Prod.snd e
            have t : decide (v + (clipN N ((runN ns 1000).fst, (runN ns 1000).snd)).fst = v + (clipN N ((runN ns 1001).fst, (runN ns 1001).snd)).fst ∧ v + (clipN N ((runN ns 1000).fst, (runN ns 1000).snd)).snd = v + (clipN N ((runN ns 1001).fst, (runN ns 1001).snd)).snd) = true := decide_eq_true ⟨by omega, by omega⟩
            rw [t] at z
            cases z
        · have t := not_f z
          have t2 := of_decide_eq_true t
          refine ⟨rfl, w1.trans (s2.trans s3), s3 _ _ (s2 _ _ gw), fun y => y.2 (Prod.ext ?_ ?_)⟩
          · have := t2.1
            show (clipN N ((runN ns 1000).fst, (runN ns 1000).snd)).fst = (clipN N ((runN ns 1001).fst, (runN ns 1001).snd)).fst
            omega
          · have := t2.2
            show (clipN N ((runN ns 1000).fst, (runN ns 1000).snd)).snd = (clipN N ((runN ns 1001).fst, (runN ns 1001).snd)).snd
            omega
      · have small := of_decide_eq_false (by simpa using z : decide ((1001 : Int) < ((ps.map V.ref).length : Int)) = false)
        rw [List.length_map, lp] at small
        refine ⟨rfl, w1, gw, fun y => ?_⟩
        have := y.1
        omega
    · rintro st H2 ⟨rfl, s2, g2, no⟩
      obtain ⟨pn, en⟩ : ∃ pn, ps[n]? = some pn := ⟨ps[n]'(by omega), List.getElem?_eq_getElem _⟩
      have hn := ap _ _ en
      walk_at "rd"
      refine ⟨q, _, rfl, .inl (SqL.of (s2 _ _ hR)), ?_⟩
      walk_at "rd"
      have ei : atI (ps.map V.ref) (((ps.map V.ref).length : Int) - 1) = some (V.ref pn) := by
        have e : ((ps.map V.ref).length : Int) - 1 = (n : Int) := by rw [List.length_map, lp]; omega
        rw [e]
        exact atI_nat (by rw [List.getElem?_map, en]; rfl)
      refine ⟨q, _, _, _, rfl, rfl, SqL.of (s2 _ _ hR), ei, ?_⟩
      walk_at "rd"
      refine ⟨pn, wi, _, _, _, _, rfl, s2 _ _ hn, g2, fun c H3 nc s3 h3 => ?_⟩
      rw [cl] at h3
      refine ⟨c, _, rfl, SqT.of h3, rfl, _, _, rfl, _, _, rfl, rfl, ?_⟩
      have g3 := s3 _ _ g2
      walk_at "rd"
      rcases k with ⟨y, _⟩ | ⟨_, k⟩
      · exact absurd y no
      have lo1 : v + (clipN N ((runN ns n).fst, (runN ns n).snd)).fst = v - N → oI (loE v N (runN ns n)) = .non := fun e => by
        unfold loE
        rw [if_pos (by show (clipN N ((runN ns n).fst, (runN ns n).snd)).fst = -N; omega)]
        rfl
      have lo2 : ¬ v + (clipN N ((runN ns n).fst, (runN ns n).snd)).fst = v - N → oI (loE v N (runN ns n)) = .int (v + (clipN N ((runN ns n).fst, (runN ns n).snd)).fst) := fun e => by
        unfold loE
        rw [if_neg (by show ¬ (clipN N ((runN ns n).fst, (runN ns n).snd)).fst = -N; omega)]
        rfl
      have hi1 : v + (clipN N ((runN ns n).fst, (runN ns n).snd)).snd = v + N → oI (hiE v N (runN ns n)) = .non := fun e => by
        unfold hiE
        rw [if_pos (by show (clipN N ((runN ns n).fst, (runN ns n).snd)).snd = N; omega)]
        rfl
      have hi2 : ¬ v + (clipN N ((runN ns n).fst, (runN ns n).snd)).snd = v + N → oI (hiE v N (runN ns n)) = .int (v + (clipN N ((runN ns n).fst, (runN ns n).snd)).snd) := fun e => by
        unfold hiE
        rw [if_neg (by show ¬ (clipN N ((runN ns n).fst, (runN ns n).snd)).snd = N; omega)]
        rfl
      generalize oI (loE v N (runN ns n)) = lo at lo1 lo2 k
      generalize oI (hiE v N (runN ns n)) = hi at hi1 hi2 k
      have fin : ∀ (p : Addr), H3 p = none → Q (.ref p) (upd H3 p (.tup [lo, hi])) := fun p np =>
        k p _ (s2.free (s3.free np)) (s2.trans (s3.trans fun c u z => (upd_ne (ne_of_none z np)).trans z)) upd_same
      walk_at "rd"
      refine ⟨wi, _, 0, _, rfl, rfl, SqT.of g3, rfl, ?_⟩
      refine ⟨rfl, ?_⟩
      walk_at "rd"
      refine ite2 (fun z => ?_) (fun z => ?_)
      · have e1 := lo1 (int_t z)
        walk_at "rd"
        refine ⟨wi, _, 1, _, rfl, rfl, SqT.of g3, rfl, ?_⟩
        refine ⟨rfl, ?_⟩
        walk_at "rd"
        refine ite2 (fun z => ?_) (fun z => ?_)
        · have e2 := hi1 (int_t z)
          walk_at "rd"
          refine ⟨(by show 2 ≤ sizeLine; decide), fun p np => ?_⟩
          rw [e1, e2] at fin
          exact fin p np
        · have e2 := hi2 (int_f z)
          walk_at "rd"
          refine ⟨(by show 2 ≤ sizeLine; decide), fun p np => ?_⟩
          rw [e1, e2] at fin
          exact fin p np
      · have e1 := lo2 (int_f z)
        walk_at "rd"
        refine ⟨wi, _, 1, _, rfl, rfl, SqT.of g3, rfl, ?_⟩
        refine ⟨rfl, ?_⟩
        walk_at "rd"
        refine ite2 (fun z => ?_) (fun z => ?_)
        · have e2 := hi1 (int_t z)
          walk_at "rd"
          refine ⟨(by show 2 ≤ sizeLine; decide), fun p np => ?_⟩
          rw [e1, e2] at fin
          exact fin p np
        · have e2 := hi2 (int_f z)
          walk_at "rd"
          refine ⟨(by show 2 ≤ sizeLine; decide), fun p np => ?_⟩
          rw [e1, e2] at fin
          exact fin p np
end
end HT
namespace HT
open PySem L2
/-- over enumerate of a list that the body leaves as it is -/
theorem for_enumL {K : PySem.W.Frag} {a : Addr} {xs : List V} {g : TG} {tb : TS} {D : Ends} {σ : St} {H : Hp} (Pv : Nat → St → Hp → Prop) (h0 : Pv 0 σ H) (hl : ∀ i σ H, i ≤ xs.length → Pv i σ H → SqL K H a xs)
    (hs : ∀ i x σ H, xs[i]? = some x → Pv i σ H → ∀ T, H T = none → g (.ref T) σ (upd H T (.tup [.int (i : Nat), x])) fun σ2 H2 => tb { D with nx := Pv (i + 1), ct := Pv (i + 1), bk := D.nx } σ2 H2) (hd : ∀ σ H, Pv xs.length σ H → D.nx σ H) :
    ∃ W : Nat → Nat → St → Hp → Prop, (∃ m, W 0 m σ H) ∧ ∀ i m σ H, W i m σ H →
      ((Ite K a).stop i H ∧ D.nx σ H) ∨ ((Ite K a).go i H ∧ ∃ N : St → Hp → Prop, (∀ σ' H', N σ' H' → ∃ m', m' < m ∧ W (i + 1) m' σ' H') ∧ ∀ x H', (Ite K a).yld i H x H' → g x σ H' fun σ2 H2 => tb { D with nx := N, ct := N, bk := D.nx } σ2 H2) := by
  refine ⟨fun i m σ H => m = xs.length - i ∧ i ≤ xs.length ∧ Pv i σ H, ⟨xs.length, by simp, Nat.zero_le _, h0⟩, ?_⟩
  rintro i m σ H ⟨rfl, le, p⟩
  have q := hl i σ H le p
  by_cases lt : i < xs.length
  · refine .inr ⟨⟨xs, xs[i], q, by simp [lt]⟩, Pv (i + 1), fun σ' H' p' => ⟨xs.length - (i + 1), by omega, rfl, lt, p'⟩, fun x H' y => ?_⟩
    obtain ⟨T, x', rfl, nT, rfl, e⟩ := y
    exact hs i x' σ H (e xs q) p T nT
  · have e : i = xs.length := by omega
    subst e
    exact .inl ⟨⟨xs, q, Nat.le_refl _⟩, hd σ H p⟩
def lowF : Option Int → Int → Bool
  | none, _ => true
  | some x, s => decide (x ≤ s)
def highF : Option Int → Int → Bool
  | none, _ => true
  | some x, s => decide (s ≤ x)
def holdsF (lo hi : Option Int) (s : Int) : Bool := lowF lo s && highF hi s
def inR (v : Int) (ns : List Sd) (s : Int) (i : Nat) : Prop := v + (runN ns i).1 ≤ s ∧ s ≤ v + (runN ns i).2
instance (v : Int) (ns : List Sd) (s : Int) (i : Nat) : Decidable (inR v ns s i) := by unfold inR; infer_instance
def spHolds : Sp := fun vs H Q _ => ∃ (p : Addr) (lo hi : Option Int) (s : Int), vs = [.ref p, .int s] ∧ H p = some (.tup [oI lo, oI hi]) ∧ Q (.bl (holdsF lo hi s)) H
def spFewX (C : Nat → Addr) : Sp := fun vs H Q E => ∃ (l q : Addr) (xs : List V) (ss ns : List Sd) (s v : Int) (n : Nat), vs = [.ref l, .int s, .int v, .ref q] ∧ SidesAt H l xs ss ∧ RunsTo ns n ∧ RunsAt H q v ns n ∧
  (∀ i, i ≤ n → i ≤ 1000 → inR v ns s i → (∀ j, j < i → ¬ inR v ns s j) → ∀ H', Same H H' → Q (.int (i : Int)) H') ∧
  ((∀ i, i ≤ n → i ≤ 1000 → ¬ inR v ns s i) → ∀ H', Same H H' → (TooE (comN ss) ns n → E (.ref (C 2)) none H') ∧ (¬ TooE (comN ss) ns n → (holdsF (loE v (comN ss) (runN ns n)) (hiE v (comN ss) (runN ns n)) s = true → E (.ref (C 2)) none H') ∧ (holdsF (loE v (comN ss) (runN ns n)) (hiE v (comN ss) (runN ns n)) s = false → Q .non H')))
section
variable {P : Program} {w : World} {K : PySem.W.Frag} {mg : Str → Option Value} {base : Heap} {aM c0 fC fB fV fN fW fS Bx : Addr} {dC dB dV dN dW dS : FuncData} {C : Nat → Addr}
theorem ok_holds {f : Addr} {fd : FuncData} (F : Fun K "_holds" "_holds" s_holds f fd) : FnOk P w K mg base CX0 1 f fd ["ends", "value"] spHolds := by
  refine F.ok sc_holds (fun vs H Q E h => ?_) (fun cdv A outer s0 H vs Q E hr h => ?_)
  · obtain ⟨p, lo, hi, s, rfl, _⟩ := h
    rfl
  · obtain ⟨p, lo, hi, s, rfl, hp, q⟩ := h
    have nd := sc_holds.nd
    refine ⟨_, (pss_cons (ps_asg (pv 0) (pg_tup (by rfl) (pgs_cons (pg_name (i := 2) nd rfl (Or.inl rfl)) (pgs_cons (pg_name (i := 3) nd rfl (Or.inl rfl)) pgs_nil))))
      (pss_one (ps_ret (pe_and (pe_or (pe_cmpR op_isN (pv 2) pe_non (nomark _)) (pe_one (pe_cmpR op_le (pv 2) (pv 1) (nomark _)))) (pe_one (pe_or (pe_cmpR op_isN (pv 3) pe_non (nomark _)) (pe_one (pe_cmpR op_le (pv 1) (pv 3) (nomark _))))))))), ?_⟩
    walk_at "rd"
    refine ⟨p, _, rfl, SqT.of hp, rfl, _, _, rfl, _, _, rfl, rfl, ?_⟩
    unfold holdsF at q
    have dn : ∀ x : Int, decide (oI (some x) = V.non) = false := fun x => decide_eq_false fun z => nomatch (show V.int x = V.non from z)
    have d0 : decide (oI none = V.non) = true := rfl
    have not_f2 : ∀ {b : Bool}, ¬ b = true → b = false := fun {b} z => by cases b <;> simp_all
    have second : ∀ H1 : Hp, Q (.bl (highF hi s)) H1 → tOrV (tOp (fun x y H Q => y = V.non ∧ Q (V.bl (decide (x = V.non))) H) (tVar 3) (tC V.non)) (tOp (rI0 fun i j => V.bl (decide (i ≤ j))) (tVar 1) (tVar 3)) [some (.ref p), some (.int s), some (oI lo), some (oI hi)] H1 Q := fun H1 k => by
      refine ⟨_, rfl, rfl, ?_⟩
      cases hi with
      | none =>
        refine ⟨true, rfl, ?_⟩
        exact k
      | some y =>
        refine ⟨_, rfl, ?_⟩
        rw [dn, if_neg (by decide)]
        walk_at "rd"
        exact k
    walk_at "rd"
    refine ⟨rfl, ?_⟩
    cases lo with
    | none =>
      refine ⟨true, rfl, ?_⟩
      refine ⟨true, rfl, ?_⟩
      exact second H q
    | some x =>
      refine ⟨_, rfl, ?_⟩
      rw [dn, if_neg (by decide)]
      walk_at "rd"
      refine ite2 (fun z => ?_) (fun z => ?_)
      · have e : lowF (some x) s = true := z
        rw [e] at q
        exact second H q
      · have e : lowF (some x) s = false := not_f2 z
        rw [e] at q
        have e2 : decide (x ≤ s) = false := e
        exact q
end
end HT
namespace HT
open PySem L2
section
variable {P : Program} {w : World} {K : PySem.W.Frag} {mg : Str → Option Value} {base : Heap} {aM c0 fC fB fV fN fW fS Bx : Addr} {dC dB dV dN dW dS : FuncData} {C : Nat → Addr}
theorem holds_run {v : Int} {ns : List Sd} {s : Int} {i : Nat} : holdsF (some (v + (runN ns i).1)) (some (v + (runN ns i).2)) s = decide (inR v ns s i) := by
  show (decide (v + (runN ns i).1 ≤ s) && decide (s ≤ v + (runN ns i).2)) = decide (inR v ns s i)
  unfold inR
  by_cases a : v + (runN ns i).1 ≤ s <;> by_cases b : s ≤ v + (runN ns i).2 <;> simp [a, b]
theorem cut_1001 (xs : List V) : cutV xs none (some 1001) = xs.take 1001 := by
  have e : cutV xs none (some 1001) = xs.take (min 1001 xs.length) := rfl
  rw [e]
  rcases Nat.le_total 1001 xs.length with h | h
  · rw [Nat.min_eq_left h]
  · rw [Nat.min_eq_right h, List.take_of_length_le (Nat.le_refl _), List.take_of_length_le h]
theorem ok_few_x {f : Addr} {fd : FuncData} (F : Fun K "_fewest" "_fewest" s_fewest f fd) (hen : mg "enumerate" = none) (R : Er K mg C Bx) (hMH : ∃ t, mg "MOST_HANDOVERS" = some (.int 1000 t)) (Ho : Cal P w K mg base "_holds" 1 ["ends", "value"] spHolds fB dB) (En : CalX P w K mg base "_ends" 3 ["sides", "value", "runs"] (spEndsX C) fC dC) : FnOk P w K mg base (L2.CX P w) 4 f fd ["sides", "start", "value", "runs"] (spFewX C) := by
  refine F.okAny sc_fewest (fun vs H Q E h => ?_) (fun cdv A outer s0 H vs Q E hr h => ?_)
  · obtain ⟨l, q, xs, ss, ns, s, v, n, rfl, _⟩ := h
    rfl
  · obtain ⟨l, q, xs, ss, ns, s, v, n, rfl, SS, to, RA, k1, k2⟩ := h
    have nd := sc_fewest.nd
    obtain ⟨tmh, hmh⟩ := hMH
    refine ⟨_, (pss_cons (ps_for (passes_of rfl) rfl (pi_enum (by rfl) hen (pa_cons (pe_slice sl_list (pv 3) po_none (po_some (pe_op op_add (pe_glob (v := .int 1000) (by rfl) hmh ⟨_, rfl⟩) pe_int))) pa_nil)) (pg_tup (by rfl) (pgs_cons (pg_name (i := 4) nd rfl (Or.inl rfl)) (pgs_cons (pg_name (i := 5) nd rfl (Or.inl rfl)) pgs_nil))) (pss_one (ps_if (pt_val (pcl Ho hr (by decide) (by rfl) (pa_cons (pv 5) (pa_cons (pv 1) pa_nil)))) (pss_one (ps_ret (pv 4))) pss_nil)))
      (pss_cons (ps_if (pt_val (pcl Ho hr (by decide) (by rfl) (pa_cons (pcx En hr (by decide) (by rfl) (takes_of rfl rfl rfl rfl) (pa_cons (pv 0) (pa_cons (pv 2) (pa_cons (pv 3) pa_nil)))) (pa_cons (pv 1) pa_nil)))) (pss_one (ps_raise rfl (takes_of rfl rfl rfl rfl) (pmk_own PySem.F.excBase_ValueError (R.ex 2 (by decide)) R.g2 (R.kp 2 (by decide)) (raises_own (R.sb 2 (by decide)) (R.ty 2 (by decide))) (by rfl)))) pss_nil)
      (pss_one (ps_ret pe_non)))), ?_⟩
    obtain ⟨ps, hR, lp, ap⟩ := RA
    walk_at "rd"
    refine ⟨q, _, rfl, SqL.of hR, fun cu ncu => ?_⟩
    have w1 : Same H (upd H cu (.lst (cutV (ps.map V.ref) none (some 1001)))) := fun b u z => (upd_ne (ne_of_none z ncu)).trans z
    have g1 : upd H cu (.lst (cutV (ps.map V.ref) none (some 1001))) cu = some (.lst ((ps.take 1001).map V.ref)) := by
      rw [upd_same, cut_1001, List.map_take]
    change tNil _ (upd H cu (.lst (cutV (ps.map V.ref) none (some 1001)))) _
    generalize upd H cu (.lst (cutV (ps.map V.ref) none (some 1001))) = H1 at w1 g1 ⊢
    have n1 := to.le
    walk_at "rd"
    refine ⟨cu, _, rfl, SqL.of g1, ?_⟩
    refine for_enumL (K := K) (a := cu) (xs := (ps.take 1001).map V.ref) (fun i st H' => ∃ x4 x5 : Option V, st = [some (.ref l), some (.int s), some (.int v), some (.ref q), x4, x5] ∧ Same H H' ∧ H' cu = some (.lst ((ps.take 1001).map V.ref)) ∧ ∀ j, j < i → ¬ inR v ns s j)
      ⟨none, none, rfl, w1, g1, fun j z => absurd z (Nat.not_lt_zero _)⟩ (fun _ _ _ _ ⟨_, _, _, _, e, _⟩ => SqL.of e) ?_ ?_
    · rintro i y st H' hy ⟨x4, x5, rfl, sm, gc, no⟩ T nT
      rw [List.getElem?_map] at hy
      obtain ⟨p1, e1, rfl⟩ := Option.map_eq_some_iff.mp hy
      have e2 : ps[i]? = some p1 ∧ i < 1001 := by
        rw [List.getElem?_take] at e1
        split at e1
        · exact ⟨e1, by omega⟩
        · cases e1
      have hp1 := ap i p1 e2.1
      have il : i < ps.length := (List.getElem?_eq_some_iff.mp e2.1).1
      have wT : Same H' (upd H' T (.tup [.int (i : Nat), .ref p1])) := fun b u z => (upd_ne (ne_of_none z nT)).trans z
      refine ⟨T, _, rfl, SqT.of upd_same, rfl, _, _, rfl, _, _, rfl, rfl, ?_⟩
      generalize upd H' T (.tup [.int (i : Nat), .ref p1]) = H2 at wT ⊢
      walk_at "rd"
      refine ⟨p1, some (v + (runN ns i).1), some (v + (runN ns i).2), s, rfl, wT _ _ (sm _ _ hp1), _, rfl, ?_⟩
      rw [holds_run]
      refine ite2 (fun z => ?_) (fun z => ?_)
      · walk_at "rd"
        exact k1 i (by omega) (by omega) (of_decide_eq_true z) no H2 (sm.trans wT)
      · refine ⟨_, _, rfl, sm.trans wT, wT _ _ gc, fun j hj => ?_⟩
        rcases Nat.lt_or_eq_of_le (Nat.le_of_lt_succ hj) with y | y
        · exact no j y
        · rw [y]; exact fun y => z (decide_eq_true y)
    · rintro st H' ⟨x4, x5, rfl, sm, gc, no⟩
      have no2 : ∀ i, i ≤ n → i ≤ 1000 → ¬ inR v ns s i := fun i a b => no i (by rw [List.length_map, List.length_take, lp]; omega)
      walk_at "rd"
      refine ⟨l, q, xs, ss, ns, v, n, rfl, SS.same sm, to, ⟨ps, sm _ _ hR, lp, fun i p e => sm _ _ (ap i p e)⟩, ?_⟩
      by_cases many : TooE (comN ss) ns n
      · exact .inl ⟨many, fun H2 s2 => (k2 no2 H2 (sm.trans s2)).1 many⟩
      · refine .inr ⟨many, fun p H2 np s2 hp => ?_⟩
        have k3 := (k2 no2 H2 (sm.trans s2)).2 many
        walk_at "rd"
        refine ⟨p, _, _, s, rfl, hp, _, rfl, ?_⟩
        refine ite2 (fun z => ?_) (fun z => ?_)
        · exact k3.1 z
        · walk_at "rd"
          exact k3.2 (by simpa using z)
end
end HT
namespace HT
open PySem L2
theorem good_of {H : Hp} {l : Addr} {xs : List V} {ss : List Sd} (S : SidesAt H l xs ss) : GoodL H l xs := ⟨S.hl, by have := S.l1; have := S.len; omega, by have := S.l4; have := S.len; omega, fun y hy => by
  obtain ⟨i, hi, e⟩ := List.mem_iff_getElem.mp hy
  obtain ⟨d, p, ed, e2, hp, sp⟩ := S.item (i := i) (y := y) (by rw [← e]; exact List.getElem?_eq_getElem hi)
  exact ⟨p, d.o, d.s, d.m, e2, hp, sp⟩⟩
/-- what before tells, and its errors -/
def spBefX (K : PySem.W.Frag) (C : Nat → Addr) : Sp := fun vs H Q E => ∃ x y : V, vs = [x, y] ∧ ((BadL K H x ∧ E (.ref (C 1)) none H) ∨ (∃ l xs n, x = .ref l ∧ GoodL H l xs ∧ Th H y n ∧ isI n = false ∧ E (.ref (C 3)) none H) ∨
  (∃ l xs ss v, x = .ref l ∧ SidesAt H l xs ss ∧ y = .int v ∧ (-2 ^ 500 < v ∧ v < 2 ^ 500) ∧ ∀ n, RunsTo (ss.map (movD (-v))) n →
    (TooE (comN ss) (ss.map (movD (-v))) n → ∀ H', Same H H' → E (.ref (C 2)) none H') ∧
    (¬ TooE (comN ss) (ss.map (movD (-v))) n → ∀ (p : Addr) (H' : Hp), H p = none → Same H H' → H' p = some (.tup [oI (loE v (comN ss) (runN (ss.map (movD (-v))) n)), oI (hiE v (comN ss) (runN (ss.map (movD (-v))) n))]) → Q (.ref p) H')))
/-- route's errors -/
def spRouX (K : PySem.W.Frag) (C : Nat → Addr) : Sp := fun vs H _ E => ∃ x y z : V, vs = [x, y, z] ∧ ((BadL K H x ∧ E (.ref (C 1)) none H) ∨ (∃ l xs n, x = .ref l ∧ GoodL H l xs ∧ Th H y n ∧ isI n = false ∧ E (.ref (C 3)) none H) ∨
  (∃ l xs n s, x = .ref l ∧ GoodL H l xs ∧ y = .int s ∧ Th H z n ∧ isI n = false ∧ E (.ref (C 3)) none H) ∨
  (∃ l xs ss s v, x = .ref l ∧ SidesAt H l xs ss ∧ y = .int s ∧ z = .int v ∧ (-2 ^ 500 < v ∧ v < 2 ^ 500) ∧ (∀ n, RunsTo (ss.map (movD (-v))) n → (∀ i, i ≤ n → i ≤ 1000 → ¬ inR v (ss.map (movD (-v))) s i) ∧
    (TooE (comN ss) (ss.map (movD (-v))) n ∨ holdsF (loE v (comN ss) (runN (ss.map (movD (-v))) n)) (hiE v (comN ss) (runN (ss.map (movD (-v))) n)) s = true)) ∧ ∀ H', Same H H' → E (.ref (C 2)) none H'))
section
variable {P : Program} {w : World} {K : PySem.W.Frag} {mg : Str → Option Value} {base : Heap} {aM c0 fC fB fV fN fW fS Bx : Addr} {dC dB dV dN dW dS : FuncData} {C : Nat → Addr}
theorem ok_route_x {f : Addr} {fd : FuncData} (F : Fun K "route" "route" s_route f fd) (Ls : CalX P w K mg base "check_sides" 5 ["sides"] (spSidesX K C) fB dB) (Vl : CalX P w K mg base "check_value" 2 ["value"] (spValX C) fV dV) (Ru : Cal P w K mg base "_runs" 5 ["sides", "value"] spRuns fN dN) (Fw : CalX P w K mg base "_fewest" 4 ["sides", "start", "value", "runs"] (spFewX C) fC dC) : FnOk P w K mg base (L2.CX P w) 6 f fd ["sides", "start", "value"] (spRouX K C) := by
  refine F.okAny sc_route (fun vs H Q E h => ?_) (fun cdv A outer s0 H vs Q E hr h => ?_)
  · obtain ⟨x, y, z, rfl, _⟩ := h
    rfl
  · obtain ⟨x, y, z, rfl, h⟩ := h
    have nd := sc_route.nd
    refine ⟨_, pss_cons (ps_expr (pcx Ls hr (by decide) (by rfl) (takes_of rfl rfl rfl rfl) (pa_cons (pv 0) pa_nil)))
      (pss_cons (ps_expr (pcx Vl hr (by decide) (by rfl) (takes_of rfl rfl rfl rfl) (pa_cons (pv 1) pa_nil)))
      (pss_cons (ps_expr (pcx Vl hr (by decide) (by rfl) (takes_of rfl rfl rfl rfl) (pa_cons (pv 2) pa_nil)))
      (pss_cons (ps_set (i := 3) nd rfl (Or.inl rfl) (pcl Ru hr (by decide) (by rfl) (pa_cons (pv 0) (pa_cons (pv 2) pa_nil))))
      (pss_cons (ps_set (i := 4) nd rfl (Or.inl rfl) (pcx Fw hr (by decide) (by rfl) (takes_of rfl rfl rfl rfl) (pa_cons (pv 0) (pa_cons (pv 1) (pa_cons (pv 2) (pa_cons (pv 3) pa_nil))))))
      (pss_cons ps_never (pss_one ps_never)))))), ?_⟩
    walk_at "rd"
    rcases h with ⟨bad, q⟩ | ⟨l, xs, n, rfl, gl, ty, ni, q⟩ | ⟨l, xs, n, s, rfl, gl, rfl, ty, ni, q⟩ | ⟨l, xs, ss, s, v, rfl, SS, rfl, rfl, vb, k, q⟩
    · exact .inr ⟨bad, q⟩
    · refine .inl ⟨l, xs, rfl, gl, ?_⟩
      walk_at "rd"
      exact ⟨_, n, rfl, ty, fun z => absurd z (by rw [ni]; decide), fun _ => q⟩
    · refine .inl ⟨l, xs, rfl, gl, ?_⟩
      walk_at "rd"
      refine ⟨_, _, rfl, .int _, fun _ => ?_, fun z => absurd z (by decide)⟩
      walk_at "rd"
      exact ⟨_, n, rfl, ty, fun z => absurd z (by rw [ni]; decide), fun _ => q⟩
    refine .inl ⟨l, xs, rfl, good_of SS, ?_⟩
    walk_at "rd"
    refine ⟨_, _, rfl, .int _, fun _ => ?_, fun z => absurd z (by decide)⟩
    walk_at "rd"
    refine ⟨_, _, rfl, .int _, fun _ => ?_, fun z => absurd z (by decide)⟩
    walk_at "rd"
    refine ⟨l, xs, ss, v, rfl, SS, vb, fun q1 n H1 nq s1 to RA => ?_⟩
    obtain ⟨no, k2⟩ := k n to
    walk_at "rd"
    refine ⟨l, q1, xs, ss, _, s, v, n, rfl, SS.same s1, to, RA, fun i a b c _ => absurd c (no i a b), fun _ H2 s2 => ⟨fun _ => q H2 (s1.trans s2), fun m => ⟨fun _ => q H2 (s1.trans s2), fun z => ?_⟩⟩⟩
    rcases k2 with k2 | k2
    · exact absurd k2 m
    · rw [k2] at z
      cases z
end
end HT
namespace HT
open PySem L2
def wD (d : Sd) (x : Int) : Int := dueM d.o d.s d.m x
abbrev sd0 : Sd := ⟨0, 1, "down"⟩
/-- the numbers of the sides that lead into the run -/
def fitL (v : Int) (ns ss : List Sd) (x : Int) (k : Nat) : List Nat := (List.range ss.length).filter fun j => decide (inR v ns (wD (ss.getD j sd0) x) k)
def fitI (v : Int) (ns ss : List Sd) (x : Int) (k : Nat) : Nat := (fitL v ns ss x k).headD 0
def wayS (v : Int) (ns ss : List Sd) (x : Int) (k : Nat) : Int := wD (ss.getD (fitI v ns ss x k) sd0) x
def wayF (v : Int) (ns ss : List Sd) : Nat → Int → List Nat
  | 0, _ => []
  | k + 1, x => fitI v ns ss x k :: wayF v ns ss k (wayS v ns ss x k)
def WayOk (v : Int) (ns ss : List Sd) : Nat → Int → Prop
  | 0, _ => True
  | k + 1, x => (∃ d ∈ ss, inR v ns (wD d x) k) ∧ WayOk v ns ss k (wayS v ns ss x k)
def natV (k : Nat) : V := .int (k : Int)
theorem at_nat {xs : List V} {k : Nat} {y : V} (h : xs[k]? = some y) : atI xs (k : Int) = some y := by
  have hk : k < xs.length := (List.getElem?_eq_some_iff.mp h).1
  unfold atI
  rw [ixN_in (by omega) (by omega), Int.toNat_natCast]
  exact h
theorem fit_ok {v : Int} {ns ss : List Sd} {x : Int} {k : Nat} (h : ∃ d ∈ ss, inR v ns (wD d x) k) : ∃ t, fitL v ns ss x k = fitI v ns ss x k :: t ∧ fitI v ns ss x k < ss.length ∧ inR v ns (wayS v ns ss x k) k := by
  obtain ⟨d, hd, r⟩ := h
  obtain ⟨j, hj, e⟩ := List.mem_iff_getElem.mp hd
  have mem : j ∈ fitL v ns ss x k := by
    unfold fitL
    refine List.mem_filter.mpr ⟨List.mem_range.mpr hj, decide_eq_true ?_⟩
    rw [List.getD_eq_getElem?_getD, List.getElem?_eq_getElem hj, e]
    exact r
  unfold wayS
  cases q : fitL v ns ss x k with
  | nil => rw [q] at mem; cases mem
  | cons a t =>
    have e1 : fitI v ns ss x k = a := by unfold fitI; rw [q]; rfl
    have ma : a ∈ fitL v ns ss x k := by rw [q]; exact List.mem_cons_self
    unfold fitL at ma
    obtain ⟨m1, m2⟩ := List.mem_filter.mp ma
    rw [e1]
    exact ⟨t, rfl, List.mem_range.mp m1, of_decide_eq_true m2⟩
/-- the last m runs ahead of the one that holds the start -/
def spWay : Sp := fun vs H Q _ => ∃ (l q : Addr) (xs : List V) (ss ns : List Sd) (s v : Int) (m : Nat) (ps : List Addr), vs = [.ref l, .int s, .ref q] ∧ SidesAt H l xs ss ∧ H q = some (.lst (ps.map V.ref)) ∧ ps.length = m ∧ m ≤ 1000 ∧
  (∀ (i : Nat) (p : Addr), ps[i]? = some p → H p = some (pairV (v + (runN ns i).1) (v + (runN ns i).2))) ∧ (∀ d ∈ ns, SideP d.o d.s d.m) ∧ (-2 ^ 500 < s ∧ s < 2 ^ 500) ∧ (-2 ^ 500 < v ∧ v < 2 ^ 500) ∧ WayOk v ns ss m s ∧
  ∀ (r : Addr) (H' : Hp), H r = none → Same H H' → H' r = some (.lst ((wayF v ns ss m s).map natV)) → Q (.ref r) H'
section
variable {P : Program} {w : World} {K : PySem.W.Frag} {mg : Str → Option Value} {base : Heap} {fB fC : Addr} {dB dC : FuncData}
theorem ok_way {f : Addr} {fd : FuncData} (F : Fun K "_way" "_way" s_way f fd) (B : Blt mg) (hen : mg "enumerate" = none) (Wr : Cal P w K mg base "written" 3 ["side", "value"] spDue fB dB) (Ho : Cal P w K mg base "_holds" 1 ["ends", "value"] spHolds fC dC) : FnOk P w K mg base CX0 4 f fd ["sides", "start", "runs"] spWay := by
  refine F.ok sc_way (fun vs H Q E h => ?_) (fun cdv A outer s0 H vs Q E hr h => ?_)
  · obtain ⟨l, q, xs, ss, ns, s, v, m, ps, rfl, _⟩ := h
    rfl
  · obtain ⟨l, q, xs, ss, ns, s, v, m, ps, rfl, SS, hq, lp, m1, ap, hns, sb, vb, ok, k⟩ := h
    have nd := sc_way.nd
    refine ⟨_, (pss_cons (ps_set (i := 3) nd rfl (Or.inl rfl) (pe_lst pa_nil))
      (pss_cons (ps_set (i := 4) nd rfl (Or.inr rfl) (pv 1))
      (pss_cons (ps_for PassesOwn.never rfl (pi_range1 (by rfl) B.range (pa_cons (pe_callB call_len_seq (by rfl) B.len PySem.boot_len (pa_cons (pv 2) pa_nil)) pa_nil)) (pg_name (i := 5) nd rfl (Or.inl rfl)) (pss_cons (ps_set (i := 6) nd rfl (Or.inr rfl) (pe_ix ix_list (pv 2) (pe_op op_sub (pe_op op_sub (pe_callB call_len_seq (by rfl) B.len PySem.boot_len (pa_cons (pv 2) pa_nil)) pe_int) (pv 5)) (fun _ _ => rfl)))
      (pss_cons (ps_setLc (i := 8) (own := [("side", 7)]) (g := gName 7) (tt := tYes) rfl nd rfl rfl (sw_true rfl rfl rfl (by decide +kernel)) (pi_list (pv 0)) (blkOk_by (N := ["sides", "start", "runs", "numbers", "here", "many", "run", "side", "places", "number", "place", "fitting"]) (sc := defScope s_way) (by decide +kernel)) (fun _ _ _ _ _ => pg_name (i := 7) nd rfl (Or.inl rfl)) (fun _ _ _ _ _ => pts_nil) (fun _ _ _ _ _ => (pcl Wr hr (by decide) (by rfl) (pa_cons (pv 7) (pa_cons (pv 4) pa_nil)))))
      (pss_cons (ps_setLc (i := 11) (own := [("number", 9), ("place", 10)]) (g := (gTup K 2 (gCons (gName 9) (gCons (gName 10) gNil)))) rfl nd rfl rfl (sw_true rfl rfl rfl (by decide +kernel)) (pi_enum (by rfl) hen (pa_cons (pv 8) pa_nil)) (blkOk_by (N := ["sides", "start", "runs", "numbers", "here", "many", "run", "side", "places", "number", "place", "fitting"]) (sc := defScope s_way) (by decide +kernel)) (fun _ _ _ _ _ => pg_tup (by rfl) (pgs_cons (pg_name (i := 9) nd rfl (Or.inl rfl)) (pgs_cons (pg_name (i := 10) nd rfl (Or.inl rfl)) pgs_nil))) (fun _ _ _ _ _ => (pts_one (pt_val (pcl Ho hr (by decide) (by rfl) (pa_cons (pv 6) (pa_cons (pv 10) pa_nil)))))) (fun _ _ _ _ _ => (pv 9)))
      (pss_cons (ps_expr (pe_bm PySem.F.plainAttrs_list PySem.F.slot_list_append PySem.F.type_list_append mt_append (pv 3) (pa_cons (pe_ix ix_list (pv 11) pe_int (fun _ _ => rfl)) pa_nil)))
      (pss_one (ps_set (i := 4) nd rfl (Or.inr rfl) (pe_ix ix_list (pv 8) (pe_ix ix_list (pv 11) pe_int (fun _ _ => rfl)) (fun _ _ => rfl)))))))))
      (pss_one (ps_ret (pv 3)))))), ?_⟩
    walk_at "rd"
    refine ⟨(by show 0 ≤ sizeLine; decide), fun nl nnl => ?_⟩
    have wn : Same H (upd H nl (.lst [])) := fun b u z => (upd_ne (ne_of_none z nnl)).trans z
    have gn : upd H nl (.lst []) nl = some (.lst (([] : List Nat).map natV)) := upd_same
    generalize upd H nl (.lst []) = H1 at wn gn ⊢
    walk_at "rd"
    refine ⟨q, _, rfl, .inl (SqL.of (wn _ _ hq)), ?_⟩
    rw [List.length_map, lp]
    refine ⟨_, rfl, by omega, by omega, ?_⟩
    rw [Int.toNat_natCast]
    refine for_range (n := m) (fun i st H' => ∃ (k' : Nat) (x : Int) (pre : List Nat) (x5 x6 x7 x8 x9 x10 x11 : Option V), st = [some (.ref l), some (.int s), some (.ref q), some (.ref nl), some (.int x), x5, x6, x7, x8, x9, x10, x11] ∧ m = i + k' ∧ WayOk v ns ss k' x ∧ wayF v ns ss m s = pre ++ wayF v ns ss k' x ∧ pre.length = i ∧ H' nl = some (.lst (pre.map natV)) ∧ Same H H' ∧ (-2 ^ 600 < x ∧ x < 2 ^ 600))
      ⟨m, s, [], none, none, none, none, none, none, none, rfl, by omega, ok, rfl, rfl, gn, wn, by omega⟩ ?_ ?_
    · rintro i st H' hi ⟨k', x, pre, x5, x6, x7, x8, x9, x10, x11, rfl, mk, ok', wf, lpre, gnl, sm, xb⟩
      obtain ⟨k1, rfl⟩ : ∃ k1, k' = k1 + 1 := ⟨k' - 1, by omega⟩
      obtain ⟨ex, ok2⟩ := ok'
      obtain ⟨tl, fl, fi, fr⟩ := fit_ok ex
      walk_at "rd"
      refine ⟨q, _, rfl, .inl (SqL.of (sm _ _ hq)), ?_⟩
      obtain ⟨p1, e1⟩ : ∃ p1, ps[k1]? = some p1 := ⟨ps[k1]'(by omega), List.getElem?_eq_getElem (by omega)⟩
      have hp1 := ap k1 p1 e1
      have at1 : atI (ps.map V.ref) ((((ps.map V.ref).length : Nat) : Int) - 1 - (0 + (i : Int))) = some (V.ref p1) := by
        have e : (((ps.map V.ref).length : Nat) : Int) - 1 - (0 + (i : Int)) = (k1 : Int) := by rw [List.length_map, lp]; omega
        rw [e]
        unfold atI
        rw [ixN_in (by omega) (by rw [List.length_map, lp]; omega), Int.toNat_natCast]
        show (ps.map V.ref)[k1]? = some (V.ref p1)
        rw [List.getElem?_map, e1]
        rfl
      walk_at "rd"
      refine ⟨q, _, _, _, rfl, rfl, SqL.of (sm _ _ hq), at1, ?_⟩
      walk_at "rd"
      refine ⟨⟨_, SqL.of (SS.same sm).hl⟩, fun D nD => ?_⟩
      refine lc_list (K := K) (a := l) (xs := xs) (fun j H3 => H3 D = some (.lst ((ss.take j).map fun d => V.int (wD d x))) ∧ Same H' H3) ⟨upd_same, fun b u z => (upd_ne (ne_of_none z nD)).trans z⟩ (fun _ _ _ ⟨_, s3⟩ => SqL.of ((SS.same sm).same s3).hl) ?_ ?_
      · rintro j y H3 hy ⟨hD, s3⟩
        obtain ⟨d, p2, ed, rfl, hp2, sp2⟩ := (SS.same (sm.trans s3)).item hy
        refine ⟨rfl, ?_⟩
        walk_at "rd"
        have xB : Bd x := ⟨Int.lt_trans (by decide) xb.1, Int.lt_trans xb.2 (by decide)⟩
        refine ⟨p2, d.o, d.s, d.m, x, rfl, hp2, sp2, xB, fun H4 s4 => ?_⟩
        refine ⟨_, s4 _ _ hD, ?_, ?_, fun b u z => (upd_ne (ne_of_none z nD)).trans (s4 _ _ (s3 _ _ z))⟩
        · rw [List.length_map, List.length_take]
          exact Nat.lt_of_le_of_lt (Nat.le_trans (Nat.min_le_right _ _) SS.l4) (by decide)
        · rw [List.take_succ, ed, List.map_append]
          exact upd_same
      rintro H2 ⟨hD, s2⟩
      rw [SS.len, List.take_length] at hD
      walk_at "rd"
      refine ⟨D, _, rfl, SqL.of hD, fun D2 nD2 => ?_⟩
      refine lc_it (walk_enum (K := K) (a := D) (xs := ss.map fun d => V.int (wD d x))) (fun j H3 => H3 D2 = some (.lst (((List.range j).filter fun t => decide (inR v ns (wD (ss.getD t sd0) x) k1)).map natV)) ∧ Same H2 H3) ⟨upd_same, fun b u z => (upd_ne (ne_of_none z nD2)).trans z⟩ (fun _ _ _ ⟨_, s3⟩ => SqL.of (s3 _ _ hD)) ?_ ?_
      · rintro j y H3 H4 hj ⟨hD2, s3⟩ ⟨T, z1, z2, rfl, nT, rfl, e1, e2⟩
        cases e1
        obtain ⟨d, ed, rfl⟩ : ∃ d, ss[j]? = some d ∧ z2 = V.int (wD d x) := by
          have e3 : (ss.map fun d => V.int (wD d x))[j]? = some z2 := e2
          rw [List.getElem?_map] at e3
          obtain ⟨d, a, b⟩ := Option.map_eq_some_iff.mp e3
          exact ⟨d, a, b.symm⟩
        have wT : Same H3 (upd H3 T (.tup [.int (j : Nat), .int (wD d x)])) := fun b u z => (upd_ne (ne_of_none z nT)).trans z
        refine ⟨T, _, rfl, SqT.of upd_same, rfl, _, _, rfl, _, _, rfl, rfl, ?_⟩
        generalize upd H3 T (.tup [.int (j : Nat), .int (wD d x)]) = H4 at wT ⊢
        refine ⟨rfl, ?_⟩
        walk_at "rd"
        refine ⟨p1, some (v + (runN ns k1).1), some (v + (runN ns k1).2), wD d x, rfl, wT _ _ (s3 _ _ (s2 _ _ (sm _ _ hp1))), _, rfl, ?_⟩
        rw [holds_run]
        have gd : ss.getD j sd0 = d := by rw [List.getD_eq_getElem?_getD, ed]; rfl
        have fs : ((List.range (j + 1)).filter fun t => decide (inR v ns (wD (ss.getD t sd0) x) k1)) = ((List.range j).filter fun t => decide (inR v ns (wD (ss.getD t sd0) x) k1)) ++ (if decide (inR v ns (wD d x) k1) = true then [j] else []) := by
          rw [List.range_succ, List.filter_append, List.filter_cons, gd]
          rfl
        rw [fs]
        refine ite2 (fun z => ?_) (fun z => ?_)
        · walk_at "rd"
          refine ⟨_, wT _ _ hD2, ?_, ?_, fun b u y => (upd_ne (ne_of_none y nD2)).trans (wT _ _ (s3 _ _ y))⟩
          · rw [List.length_map]
            refine Nat.lt_of_le_of_lt (List.length_filter_le _ _) ?_
            rw [List.length_range]
            rw [List.length_map] at hj
            have := SS.l4
            exact Nat.lt_of_lt_of_le (by omega : j < 4) (by decide)
          · rw [if_pos z, List.map_append]
            exact upd_same
        · rw [if_neg z, List.append_nil]
          exact ⟨wT _ _ hD2, fun b u y => wT _ _ (s3 _ _ y)⟩
      rintro H3 ⟨hD2, s3⟩
      rw [List.length_map, show ((List.range ss.length).filter fun t => decide (inR v ns (wD (ss.getD t sd0) x) k1)) = fitL v ns ss x k1 from rfl, fl] at hD2
      walk_at "rd"
      have s13 : Same H' H3 := s2.trans s3
      refine ⟨.inl ⟨rfl, _, SqL.of (s13 _ _ gnl)⟩, ?_⟩
      walk_at "rd"
      refine ⟨D2, _, _, natV (fitI v ns ss x k1), rfl, rfl, SqL.of hD2, at_nat (k := 0) rfl, ?_⟩
      walk_at "rd"
      refine ⟨nl, _, _, rfl, rfl, s13 _ _ gnl, ?_, ?_⟩
      · rw [List.length_map]
        exact Nat.lt_of_lt_of_le (by omega : pre.length < 1001) (by decide)
      have n_D : D ≠ nl := fun e => by rw [e] at nD; rw [gnl] at nD; cases nD
      have n_D2 : D2 ≠ nl := fun e => by rw [e] at nD2; rw [s2 _ _ gnl] at nD2; cases nD2
      have keep : ∀ b u, H' b = some u → b ≠ nl → upd H3 nl (.lst (pre.map natV ++ [natV (fitI v ns ss x k1)])) b = some u := fun b u z ne => (upd_ne ne).trans (s13 _ _ z)
      have fD : upd H3 nl (.lst (pre.map natV ++ [natV (fitI v ns ss x k1)])) D = some (.lst (ss.map fun d => V.int (wD d x))) := (upd_ne n_D).trans (s3 _ _ hD)
      have fD2 : upd H3 nl (.lst (pre.map natV ++ [natV (fitI v ns ss x k1)])) D2 = some (.lst ((fitI v ns ss x k1 :: tl).map natV)) := (upd_ne n_D2).trans hD2
      have fnl : upd H3 nl (.lst (pre.map natV ++ [natV (fitI v ns ss x k1)])) nl = some (.lst ((pre ++ [fitI v ns ss x k1]).map natV)) := by rw [upd_same, List.map_append]; rfl
      have fsm : Same H (upd H3 nl (.lst (pre.map natV ++ [natV (fitI v ns ss x k1)]))) := fun b u z => keep b u (sm _ _ z) (ne_of_none z nnl)
      generalize upd H3 nl (.lst (pre.map natV ++ [natV (fitI v ns ss x k1)])) = H5 at fD fD2 fnl fsm ⊢
      walk_at "rd"
      refine ⟨D2, _, _, natV (fitI v ns ss x k1), rfl, rfl, SqL.of fD2, at_nat (k := 0) rfl, ?_⟩
      obtain ⟨dd, ed⟩ : ∃ dd, ss[fitI v ns ss x k1]? = some dd := ⟨_, List.getElem?_eq_getElem fi⟩
      have ws : wayS v ns ss x k1 = wD dd x := by
        unfold wayS
        rw [List.getD_eq_getElem?_getD, ed]
        rfl
      have atw : atI (ss.map fun d => V.int (wD d x)) ((fitI v ns ss x k1 : Nat) : Int) = some (.int (wayS v ns ss x k1)) := at_nat (by rw [List.getElem?_map, ed, ws]; rfl)
      refine ⟨D, _, _, _, rfl, rfl, SqL.of fD, atw, ?_⟩
      have rb := run_bd hns k1
      have kk : (k1 : Int) * 10 ^ 31 ≤ 1000 * 10 ^ 31 := Int.mul_le_mul_of_nonneg_right (by omega) (by decide)
      obtain ⟨r1, r2⟩ := fr
      refine ⟨k1, wayS v ns ss x k1, pre ++ [fitI v ns ss x k1], _, _, _, _, _, _, _, rfl, by omega, ok2, ?_, ?_, fnl, fsm, ?_⟩
      · rw [wf, List.append_assoc]
        rfl
      · rw [List.length_append, lpre]
        rfl
      · have v1 := vb.1
        have v2 := vb.2
        omega
    · rintro st H' ⟨k', x, pre, x5, x6, x7, x8, x9, x10, x11, rfl, mk, ok', wf, lpre, gnl, sm, xb⟩
      obtain rfl : k' = 0 := by omega
      walk_at "rd"
      refine k nl H' nnl sm ?_
      rw [wf, show wayF v ns ss 0 x = [] from rfl, List.append_nil]
      exact gnl
end
end HT
namespace HT
open PySem L2
theorem due_leW {o s v w : Int} {m : Str} (hm : Mode m) (hs : 1 ≤ s) (h : v ≤ w) : dueM o s m v ≤ dueM o s m w := by
  have key : ∀ n : Nat, dueM o s m v ≤ dueM o s m (v + n) := fun n => by
    induction n with
    | zero => rw [Int.natCast_zero, Int.add_zero]; exact Int.le_refl _
    | succ n ih =>
      refine Int.le_trans ih ?_
      rw [show v + ((n + 1 : Nat) : Int) = v + n + 1 by omega]
      exact due_mono hm hs
  have := key (w - v).toNat
  rwa [show v + ((w - v).toNat : Int) = w by omega] at this
theorem back_iffW {o s v y : Int} {m : Str} (hm : Mode m) (hs : 1 ≤ s) : backM o s m v ≤ y ↔ v ≤ dueM o s m y := by
  constructor
  · intro h
    exact Int.le_trans (back_ge hm hs) (due_leW hm hs h)
  · intro h
    by_cases z : backM o s m v ≤ y
    · exact z
    · exfalso
      have h1 := due_leW (o := o) (m := m) hm hs (show y ≤ backM o s m v - 1 by omega)
      have h2 := back_lt (o := o) (v := v) hm hs
      omega
theorem due_due {o s v : Int} {m : Str} (hm : Mode m) (hs : 1 ≤ s) : dueM o s m (dueM o s m v) = dueM o s m v :=
  (due_eq hm hs).mp (by unfold dueM; exact stands_at)
theorem due_tr {o s v t : Int} {m : Str} : dueM (o + t) s m (v + t) = dueM o s m v + t := by
  unfold dueM figM
  rw [show v + t - (o + t) = v - o by omega]
  omega
theorem due_mov {d : Sd} (S : SideP d.o d.s d.m) (b x : Int) : dueM (movD b d).o (movD b d).s (movD b d).m x = dueM d.o d.s d.m (x - b) + b := by
  have p := perM_bd S
  have e1 : (d.o + b) % perM d.s d.m = d.o + b - perM d.s d.m * ((d.o + b) / perM d.s d.m) := by
    have := Int.emod_add_mul_ediv (d.o + b) (perM d.s d.m)
    omega
  have key : ∀ j : Int, (d.m ≠ "half_even" ∨ j % 2 = 0) → d.o + b - perM d.s d.m * ((d.o + b) / perM d.s d.m) = d.o + b + d.s * j → dueM ((d.o + b) % perM d.s d.m) d.s d.m x = dueM d.o d.s d.m (x - b) + b := fun j hj e => by
    rw [e1, e, due_shift S.md S.s0 hj]
    have := due_tr (o := d.o) (s := d.s) (m := d.m) (v := x - b) (t := b)
    rwa [show x - b + b = x by omega] at this
  by_cases he : d.m = "half_even"
  · refine key (-(2 * ((d.o + b) / perM d.s d.m))) (.inr (by omega)) ?_
    have : perM d.s d.m = 2 * d.s := by unfold perM; rw [if_pos he]
    rw [this, Int.mul_neg, Int.mul_comm 2 d.s, Int.mul_assoc]
    omega
  · refine key (-((d.o + b) / perM d.s d.m)) (.inl he) ?_
    have : perM d.s d.m = d.s := by unfold perM; rw [if_neg he]
    rw [this, Int.mul_neg]
    omega
/-- whether a side's values before the run are any -/
def NeR (r : Int × Int) (d : Sd) : Prop := backM d.o d.s d.m r.1 ≤ backM d.o d.s d.m (r.2 + 1) - 1
theorem wid_in {ns : List Sd} {r : Int × Int} : ∀ (a : Int × Int), (ns.foldl (widS r) a).1 ≤ a.1 ∧ a.2 ≤ (ns.foldl (widS r) a).2 ∧ ∀ d ∈ ns, NeR r d → (ns.foldl (widS r) a).1 ≤ backM d.o d.s d.m r.1 ∧ backM d.o d.s d.m (r.2 + 1) - 1 ≤ (ns.foldl (widS r) a).2 := by
  induction ns with
  | nil => exact fun a => ⟨Int.le_refl _, Int.le_refl _, fun d hd => by cases hd⟩
  | cons e ns ih =>
    intro a
    have h := ih (widS r a e)
    have b : (widS r a e).1 ≤ a.1 ∧ a.2 ≤ (widS r a e).2 ∧ (NeR r e → (widS r a e).1 ≤ backM e.o e.s e.m r.1 ∧ backM e.o e.s e.m (r.2 + 1) - 1 ≤ (widS r a e).2) := by
      unfold widS NeR
      split
      · refine ⟨?_, ?_, fun _ => ⟨?_, ?_⟩⟩ <;> simp only <;> split <;> omega
      · rename_i n
        exact ⟨Int.le_refl _, Int.le_refl _, fun z => absurd z n⟩
    rw [List.foldl_cons]
    refine ⟨Int.le_trans h.1 b.1, Int.le_trans b.2.1 h.2.1, fun d hd ne => ?_⟩
    rcases List.mem_cons.mp hd with rfl | hd
    · exact ⟨Int.le_trans h.1 (b.2.2 ne).1, Int.le_trans (b.2.2 ne).2 h.2.1⟩
    · exact h.2.2 d hd ne
theorem ne_of_in {r : Int × Int} {d : Sd} (S : SideP d.o d.s d.m) {y : Int} (h1 : r.1 ≤ dueM d.o d.s d.m y) (h2 : dueM d.o d.s d.m y ≤ r.2) : NeR r d ∧ backM d.o d.s d.m r.1 ≤ y ∧ y ≤ backM d.o d.s d.m (r.2 + 1) - 1 := by
  have a := (back_iffW (o := d.o) (v := r.1) (y := y) S.md S.s0).mpr h1
  have b : ¬ backM d.o d.s d.m (r.2 + 1) ≤ y := fun z => by
    have := (back_iffW (o := d.o) (v := r.2 + 1) (y := y) S.md S.s0).mp z
    omega
  exact ⟨by unfold NeR; omega, a, by omega⟩
/-- what a side leads into the run lies in the next one -/
theorem wid_back {ns : List Sd} (hns : ∀ d ∈ ns, SideP d.o d.s d.m) {r : Int × Int} {d : Sd} (hd : d ∈ ns) {y : Int} (h1 : r.1 ≤ dueM d.o d.s d.m y) (h2 : dueM d.o d.s d.m y ≤ r.2) : (widF ns r).1 ≤ y ∧ y ≤ (widF ns r).2 := by
  obtain ⟨ne, a, b⟩ := ne_of_in (hns d hd) h1 h2
  have w := (wid_in (ns := ns) (r := r) r).2.2 d hd ne
  exact ⟨Int.le_trans w.1 a, Int.le_trans b w.2⟩
/-- and what lies in the next one is led into the run, or lies there -/
theorem wid_fro {ns : List Sd} (hns : ∀ d ∈ ns, SideP d.o d.s d.m) {r : Int × Int} {y : Int} (h : (widF ns r).1 ≤ y ∧ y ≤ (widF ns r).2) : (r.1 ≤ y ∧ y ≤ r.2) ∨ ∃ d ∈ ns, r.1 ≤ dueM d.o d.s d.m y ∧ dueM d.o d.s d.m y ≤ r.2 := by
  have key : ∀ (ts : List Sd) (a : Int × Int), (∀ d ∈ ts, d ∈ ns) → a.1 ≤ r.1 → r.2 ≤ a.2 → (∀ y, a.1 ≤ y → y ≤ a.2 → (r.1 ≤ y ∧ y ≤ r.2) ∨ ∃ d ∈ ns, r.1 ≤ dueM d.o d.s d.m y ∧ dueM d.o d.s d.m y ≤ r.2) →
      ∀ y, (ts.foldl (widS r) a).1 ≤ y → y ≤ (ts.foldl (widS r) a).2 → (r.1 ≤ y ∧ y ≤ r.2) ∨ ∃ d ∈ ns, r.1 ≤ dueM d.o d.s d.m y ∧ dueM d.o d.s d.m y ≤ r.2 := by
    intro ts
    induction ts with
    | nil => intro a _ _ _ h; exact h
    | cons d ts ih =>
      intro a hts a1 a2 ha
      have S := hns d (hts d List.mem_cons_self)
      rw [List.foldl_cons]
      by_cases ne : NeR r d
      · have st : r.1 ≤ dueM d.o d.s d.m (backM d.o d.s d.m r.1) ∧ dueM d.o d.s d.m (backM d.o d.s d.m r.1) ≤ r.2 := by
          refine ⟨back_ge S.md S.s0, ?_⟩
          have : ¬ backM d.o d.s d.m (r.2 + 1) ≤ backM d.o d.s d.m r.1 := by unfold NeR at ne; omega
          rw [back_iffW S.md S.s0] at this
          omega
        obtain ⟨_, w1, w2⟩ := ne_of_in (r := r) S (y := dueM d.o d.s d.m (backM d.o d.s d.m r.1)) (by rw [due_due S.md S.s0]; exact st.1) (by rw [due_due S.md S.s0]; exact st.2)
        have pre : ∀ y, backM d.o d.s d.m r.1 ≤ y → y ≤ backM d.o d.s d.m (r.2 + 1) - 1 → r.1 ≤ dueM d.o d.s d.m y ∧ dueM d.o d.s d.m y ≤ r.2 := fun y p1 p2 => by
          refine ⟨(back_iffW S.md S.s0).mp p1, ?_⟩
          have : ¬ backM d.o d.s d.m (r.2 + 1) ≤ y := by omega
          rw [back_iffW S.md S.s0] at this
          omega
        have e : widS r a d = (if backM d.o d.s d.m r.1 < a.1 then backM d.o d.s d.m r.1 else a.1, if a.2 < backM d.o d.s d.m (r.2 + 1) - 1 then backM d.o d.s d.m (r.2 + 1) - 1 else a.2) := by
          unfold widS
          rw [if_pos (show backM d.o d.s d.m r.1 ≤ backM d.o d.s d.m (r.2 + 1) - 1 from ne)]
        refine ih (widS r a d) (fun x hx => hts x (List.mem_cons_of_mem _ hx)) ?_ ?_ ?_
        · rw [e]; simp only; split <;> omega
        · rw [e]; simp only; split <;> omega
        · intro y y1 y2
          rw [e] at y1 y2
          simp only at y1 y2
          by_cases c1 : a.1 ≤ y ∧ y ≤ a.2
          · exact ha y c1.1 c1.2
          · refine .inr ⟨d, hts d List.mem_cons_self, pre y ?_ ?_⟩
            · split at y1 <;> split at y2 <;> omega
            · split at y1 <;> split at y2 <;> omega
      · have e : widS r a d = a := by
          unfold widS
          rw [if_neg (show ¬ backM d.o d.s d.m r.1 ≤ backM d.o d.s d.m (r.2 + 1) - 1 from ne)]
        rw [e]
        exact ih a (fun x hx => hts x (List.mem_cons_of_mem _ hx)) a1 a2 ha
  exact key ns r (fun _ h => h) (Int.le_refl _) (Int.le_refl _) (fun y a b => .inl ⟨a, b⟩) y h.1 h.2
theorem run_mono {ns : List Sd} {j k : Nat} (h : j ≤ k) : (runN ns k).1 ≤ (runN ns j).1 ∧ (runN ns j).2 ≤ (runN ns k).2 := by
  induction k with
  | zero => rw [Nat.le_zero.mp h]; exact ⟨Int.le_refl _, Int.le_refl _⟩
  | succ k ih =>
    have w := wid_in (ns := ns) (r := runN ns k) (runN ns k)
    rcases Nat.lt_or_eq_of_le h with z | z
    · have q := ih (by omega)
      exact ⟨Int.le_trans w.1 q.1, Int.le_trans q.2 w.2.1⟩
    · rw [z]; exact ⟨Int.le_refl _, Int.le_refl _⟩
theorem in_mov {v x : Int} {ss : List Sd} (hss : ∀ d ∈ ss, SideP d.o d.s d.m) {k : Nat} (h : inR v (ss.map (movD (-v))) x (k + 1)) (no : ¬ inR v (ss.map (movD (-v))) x k) : ∃ d ∈ ss, inR v (ss.map (movD (-v))) (wD d x) k := by
  have hns : ∀ d ∈ ss.map (movD (-v)), SideP d.o d.s d.m := fun d hd => by
    obtain ⟨e, he, rfl⟩ := List.mem_map.mp hd
    exact side_mov _ (hss e he)
  unfold inR at h no
  rcases wid_fro hns (r := runN (ss.map (movD (-v))) k) (y := x - v) (by show (runN (ss.map (movD (-v))) (k + 1)).1 ≤ _ ∧ _ ≤ (runN (ss.map (movD (-v))) (k + 1)).2; omega) with z | ⟨d, hd, z1, z2⟩
  · exact absurd (by omega) no
  · obtain ⟨e, he, rfl⟩ := List.mem_map.mp hd
    rw [due_mov (hss e he), show x - v - -v = x by omega] at z1 z2
    refine ⟨e, he, ?_⟩
    unfold inR wD
    omega
theorem mov_in {v x : Int} {ss : List Sd} (hss : ∀ d ∈ ss, SideP d.o d.s d.m) {k : Nat} {d : Sd} (hd : d ∈ ss) (h : inR v (ss.map (movD (-v))) (wD d x) k) : inR v (ss.map (movD (-v))) x (k + 1) := by
  have hns : ∀ d ∈ ss.map (movD (-v)), SideP d.o d.s d.m := fun d hd => by
    obtain ⟨e, he, rfl⟩ := List.mem_map.mp hd
    exact side_mov _ (hss e he)
  unfold inR wD at h
  have z := wid_back hns (r := runN (ss.map (movD (-v))) k) (List.mem_map.mpr ⟨d, hd, rfl⟩) (y := x - v) (by rw [due_mov (hss d hd), show x - v - -v = x by omega]; omega) (by rw [due_mov (hss d hd), show x - v - -v = x by omega]; omega)
  unfold inR
  show v + (widF (ss.map (movD (-v))) (runN (ss.map (movD (-v))) k)).1 ≤ x ∧ x ≤ v + (widF (ss.map (movD (-v))) (runN (ss.map (movD (-v))) k)).2
  omega
theorem way_ok {v : Int} {ss : List Sd} (hss : ∀ d ∈ ss, SideP d.o d.s d.m) : ∀ (k : Nat) (x : Int), inR v (ss.map (movD (-v))) x k → (∀ j, j < k → ¬ inR v (ss.map (movD (-v))) x j) → WayOk v (ss.map (movD (-v))) ss k x
  | 0, _, _, _ => trivial
  | k + 1, x, h, no => by
    have ex := in_mov hss h (no k (Nat.lt_succ_self _))
    obtain ⟨t, fl, fi, fr⟩ := fit_ok ex
    refine ⟨ex, way_ok hss k _ fr fun j hj z => no (j + 1) (by omega) ?_⟩
    refine mov_in hss (d := ss.getD (fitI v (ss.map (movD (-v))) ss x k) sd0) ?_ z
    rw [List.getD_eq_getElem?_getD, List.getElem?_eq_getElem fi]
    exact List.getElem_mem fi
end HT
namespace HT
open PySem L2
theorem lt_neW {a b : Int} (h : a ≤ b) (n : a ≠ b) : a < b := by omega
def hiOk (ns : List Sd) (h : Int) : Prop := ∀ e ∈ ns, backM e.o e.s e.m (h + 1) ≤ h + 1
def loOk (ns : List Sd) (l : Int) : Prop := ∀ e ∈ ns, l ≤ backM e.o e.s e.m l
theorem hi_stall {ns : List Sd} {r : Int × Int} (h : hiOk ns r.2) : (widF ns r).2 = r.2 := by
  have key : ∀ (ts : List Sd) (a : Int × Int), (∀ e ∈ ts, e ∈ ns) → a.2 = r.2 → (ts.foldl (widS r) a).2 = r.2 := by
    intro ts
    induction ts with
    | nil => intro a _ e; exact e
    | cons d ts ih =>
      intro a ht e
      rw [List.foldl_cons]
      refine ih _ (fun x hx => ht x (List.mem_cons_of_mem _ hx)) ?_
      have q := h d (ht d List.mem_cons_self)
      unfold widS
      split
      · simp only; split <;> omega
      · exact e
  exact key ns r (fun _ h => h) rfl
theorem lo_stall {ns : List Sd} {r : Int × Int} (h : loOk ns r.1) : (widF ns r).1 = r.1 := by
  have key : ∀ (ts : List Sd) (a : Int × Int), (∀ e ∈ ts, e ∈ ns) → a.1 = r.1 → (ts.foldl (widS r) a).1 = r.1 := by
    intro ts
    induction ts with
    | nil => intro a _ e; exact e
    | cons d ts ih =>
      intro a ht e
      rw [List.foldl_cons]
      refine ih _ (fun x hx => ht x (List.mem_cons_of_mem _ hx)) ?_
      have q := h d (ht d List.mem_cons_self)
      unfold widS
      split
      · simp only; split <;> omega
      · exact e
  exact key ns r (fun _ h => h) rfl
theorem ne_len {r : Int × Int} {d : Sd} (S : SideP d.o d.s d.m) (h : d.s ≤ r.2 - r.1 + 1) : NeR r d := by
  have c := ceil_eq (o := d.o) (v := r.1) S.s0
  have e1 : d.s * (ceilM d.o d.s r.1 - 1) = d.s * ceilM d.o d.s r.1 - d.s := by rw [Int.mul_sub, Int.mul_one]
  have st : dueM d.o d.s d.m (d.o + d.s * ceilM d.o d.s r.1) = d.o + d.s * ceilM d.o d.s r.1 := (due_eq S.md S.s0).mp stands_at
  exact (ne_of_in (r := r) S (y := d.o + d.s * ceilM d.o d.s r.1) (by rw [st]; omega) (by rw [st]; omega)).1
theorem hi_of {ns : List Sd} (hns : ∀ d ∈ ns, SideP d.o d.s d.m) {r : Int × Int} (h : (widF ns r).2 = r.2) (l : ∀ e ∈ ns, e.s ≤ r.2 - r.1 + 1) : hiOk ns r.2 := fun e he => by
  have w := ((wid_in (ns := ns) (r := r) r).2.2 e he (ne_len (hns e he) (l e he))).2
  have h' : (ns.foldl (widS r) r).2 = r.2 := h
  omega
theorem lo_of {ns : List Sd} (hns : ∀ d ∈ ns, SideP d.o d.s d.m) {r : Int × Int} (h : (widF ns r).1 = r.1) (l : ∀ e ∈ ns, e.s ≤ r.2 - r.1 + 1) : loOk ns r.1 := fun e he => by
  have w := ((wid_in (ns := ns) (r := r) r).2.2 e he (ne_len (hns e he) (l e he))).1
  have h' : (ns.foldl (widS r) r).1 = r.1 := h
  omega
theorem run_len {ns : List Sd} {n : Nat} (ne : ∀ j, j < n → runN ns (j + 1) ≠ runN ns j) : ∀ k : Nat, k ≤ n → (k : Int) ≤ (runN ns k).2 - (runN ns k).1
  | 0, _ => by show ((0 : Nat) : Int) ≤ 0 - 0; omega
  | k + 1, h => by
    have a := run_len ne k (by omega)
    have m := run_mono (ns := ns) (Nat.le_succ k)
    have d := ne k (by omega)
    by_cases e1 : (runN ns (k + 1)).1 = (runN ns k).1
    · by_cases e2 : (runN ns (k + 1)).2 = (runN ns k).2
      · exact absurd (Prod.ext e1 e2) d
      · show ((k + 1 : Nat) : Int) ≤ _
        have := m.2
        have : (runN ns k).2 < (runN ns (k + 1)).2 := by show (runN ns k).2 < (runN ns (k + 1)).2; have := m.2; show _; exact lt_neW m.2 (fun z => e2 z.symm)
        have m1 : (runN ns (k + 1)).1 ≤ (runN ns k).1 := m.1
        omega
    · have : (runN ns (k + 1)).1 < (runN ns k).1 := lt_neW m.1 e1
      have m2 : (runN ns k).2 ≤ (runN ns (k + 1)).2 := m.2
      omega
theorem hi_ever {ns : List Sd} {j : Nat} (h : hiOk ns (runN ns j).2) : ∀ k, (runN ns (j + k)).2 = (runN ns j).2
  | 0 => rfl
  | k + 1 => by
    have a := hi_ever h k
    show (widF ns (runN ns (j + k))).2 = _
    rw [hi_stall (by rw [a]; exact h), a]
theorem lo_ever {ns : List Sd} {j : Nat} (h : loOk ns (runN ns j).1) : ∀ k, (runN ns (j + k)).1 = (runN ns j).1
  | 0 => rfl
  | k + 1 => by
    have a := lo_ever h k
    show (widF ns (runN ns (j + k))).1 = _
    rw [lo_stall (by rw [a]; exact h), a]
/-- the high end stands at a turn, or has gone up at each of them -/
theorem hi_or {ns : List Sd} (hns : ∀ d ∈ ns, SideP d.o d.s d.m) {n : Nat} (ne : ∀ j, j < n → runN ns (j + 1) ≠ runN ns j) (c : Nat) (hc : ∀ d ∈ ns, d.s ≤ (c : Int) + 1) : ∀ k : Nat, c + k ≤ n → (∃ j, j < c + k ∧ c ≤ j ∧ hiOk ns (runN ns j).2) ∨ (k : Int) ≤ (runN ns (c + k)).2
  | 0, _ => .inr (by have := run_mono (ns := ns) (Nat.zero_le (c + 0)); show ((0 : Nat) : Int) ≤ _; have z : (runN ns 0).2 = 0 := rfl; omega)
  | k + 1, h => by
    rcases hi_or hns ne c hc k (by omega) with ⟨j, a, b, q⟩ | a
    · exact .inl ⟨j, by omega, b, q⟩
    · by_cases e : (runN ns (c + k + 1)).2 = (runN ns (c + k)).2
      · refine .inl ⟨c + k, by omega, by omega, hi_of hns e fun d hd => ?_⟩
        have := run_len ne (c + k) (by omega)
        have := hc d hd
        omega
      · have m := (run_mono (ns := ns) (Nat.le_succ (c + k))).2
        have : (runN ns (c + k)).2 < (runN ns (c + k + 1)).2 := lt_neW m fun z => e z.symm
        exact .inr (by show ((k + 1 : Nat) : Int) ≤ (runN ns (c + k + 1)).2; omega)
theorem lo_or {ns : List Sd} (hns : ∀ d ∈ ns, SideP d.o d.s d.m) {n : Nat} (ne : ∀ j, j < n → runN ns (j + 1) ≠ runN ns j) (c : Nat) (hc : ∀ d ∈ ns, d.s ≤ (c : Int) + 1) : ∀ k : Nat, c + k ≤ n → (∃ j, j < c + k ∧ c ≤ j ∧ loOk ns (runN ns j).1) ∨ (runN ns (c + k)).1 ≤ -(k : Int)
  | 0, _ => .inr (by have := run_mono (ns := ns) (Nat.zero_le (c + 0)); show _ ≤ -((0 : Nat) : Int); have z : (runN ns 0).1 = 0 := rfl; omega)
  | k + 1, h => by
    rcases lo_or hns ne c hc k (by omega) with ⟨j, a, b, q⟩ | a
    · exact .inl ⟨j, by omega, b, q⟩
    · by_cases e : (runN ns (c + k + 1)).1 = (runN ns (c + k)).1
      · refine .inl ⟨c + k, by omega, by omega, lo_of hns e fun d hd => ?_⟩
        have := run_len ne (c + k) (by omega)
        have := hc d hd
        omega
      · have m := (run_mono (ns := ns) (Nat.le_succ (c + k))).1
        have : (runN ns (c + k + 1)).1 < (runN ns (c + k)).1 := lt_neW m e
        exact .inr (by show (runN ns (c + k + 1)).1 ≤ -((k + 1 : Nat) : Int); omega)
theorem hi_under {ns : List Sd} (hns : ∀ d ∈ ns, SideP d.o d.s d.m) {y : Int} (y1 : 1 ≤ y) (h : ∀ e ∈ ns, y ≤ dueM e.o e.s e.m y) : ∀ k, (runN ns k).2 < y
  | 0 => by show (0 : Int) < y; omega
  | k + 1 => by
    have a := hi_under hns y1 h k
    have key : ∀ (ts : List Sd) (b : Int × Int), (∀ e ∈ ts, e ∈ ns) → b.2 < y → (ts.foldl (widS (runN ns k)) b).2 < y := by
      intro ts
      induction ts with
      | nil => intro b _ e; exact e
      | cons d ts ih =>
        intro b ht e
        rw [List.foldl_cons]
        refine ih _ (fun x hx => ht x (List.mem_cons_of_mem _ hx)) ?_
        have hd := ht d List.mem_cons_self
        have S := hns d hd
        have q := (back_iffW (o := d.o) (v := (runN ns k).2 + 1) (y := y) S.md S.s0).mpr (by have := h d hd; omega)
        unfold widS
        split
        · simp only; split <;> omega
        · exact e
    exact key ns _ (fun _ h => h) a
theorem back_per {o s v : Int} {m : Str} (hm : Mode m) (hs : 1 ≤ s) (t : Int) : dueM o s m (v + perM s m * t) = dueM o s m v + perM s m * t := by
  by_cases he : m = "half_even"
  · have e : perM s m = 2 * s := by unfold perM; rw [if_pos he]
    have h := due_shift (o := o) (s := s) (m := m) (v := v + perM s m * t) (j := 2 * t) hm hs (.inr (by omega))
    have h2 := due_tr (o := o) (s := s) (m := m) (v := v) (t := perM s m * t)
    rw [← h, ← h2, e]
    congr 1
    rw [Int.mul_assoc, Int.mul_left_comm]
  · have e : perM s m = s := by unfold perM; rw [if_neg he]
    have h := due_shift (o := o) (s := s) (m := m) (v := v + perM s m * t) (j := t) hm hs (.inl he)
    have h2 := due_tr (o := o) (s := s) (m := m) (v := v) (t := perM s m * t)
    rw [← h, ← h2, e]
/-- an end that stands lies within a period -/
theorem hi_far {ns : List Sd} (hns : ∀ d ∈ ns, SideP d.o d.s d.m) {N : Int} (hN : ∀ d ∈ ns, ∃ t, N = perM d.s d.m * t) (N1 : 1 ≤ N) {k : Nat} (h : hiOk ns (runN ns k).2) : (runN ns k).2 < N := by
  by_cases z : (runN ns k).2 < N
  · exact z
  · exfalso
    have y := hi_under hns (y := (runN ns k).2 + 1 - N) (by omega) (fun e he => by
      obtain ⟨t, ht⟩ := hN e he
      have S := hns e he
      have a := (back_iffW (o := e.o) (v := (runN ns k).2 + 1) (y := (runN ns k).2 + 1) S.md S.s0).mp (h e he)
      have b := back_per (o := e.o) (v := (runN ns k).2 + 1 - N) S.md S.s0 t
      rw [← ht, show (runN ns k).2 + 1 - N + N = (runN ns k).2 + 1 by omega] at b
      omega) k
    omega
end HT
namespace HT
open PySem L2
theorem perN_eq {d : Sd} (S : SideP d.o d.s d.m) : ((perN d : Nat) : Int) = perM d.s d.m := by
  have := perM_bd S
  unfold perN
  omega
end HT
namespace HT
open PySem L2
theorem cut_nat (xs : List V) (k : Nat) : cutV xs none (some (k : Int)) = xs.take k := by
  have e2 : HT.sIx xs.length xs.length (some (k : Int)) = min k xs.length := HT.sIx_nat _ _ _
  unfold cutV
  rw [e2]
  show List.take (min k xs.length - 0) (xs.drop 0) = _
  rw [List.drop_zero, Nat.sub_zero]
  rcases Nat.le_total k xs.length with h | h
  · rw [Nat.min_eq_left h]
  · rw [Nat.min_eq_right h, List.take_of_length_le (Nat.le_refl _), List.take_of_length_le h]
def RouteOk (v : Int) (ss : List Sd) (s : Int) : Prop := ∀ n, RunsTo (ss.map (movD (-v))) n → (∃ i, i ≤ n ∧ i ≤ 1000 ∧ inR v (ss.map (movD (-v))) s i) ∨
  (¬ TooE (comN ss) (ss.map (movD (-v))) n ∧ holdsF (loE v (comN ss) (runN (ss.map (movD (-v))) n)) (hiE v (comN ss) (runN (ss.map (movD (-v))) n)) s = false)
/-- what route gives: the way by the first run that holds the start -/
def RouteD (v : Int) (ss : List Sd) (s : Int) (d : PyData) : Prop := (∃ i, inR v (ss.map (movD (-v))) s i ∧ (∀ j, j < i → ¬ inR v (ss.map (movD (-v))) s j) ∧ d = .list ((wayF v (ss.map (movD (-v))) ss i s).map fun k : Nat => PyData.int k)) ∨ ((∀ i, ¬ inR v (ss.map (movD (-v))) s i) ∧ d = .none)
theorem route_uniq {v s : Int} {ss : List Sd} {d e : PyData} (h : RouteD v ss s d) (k : RouteD v ss s e) : d = e := by
  rcases h with ⟨i, a, b, rfl⟩ | ⟨a, rfl⟩ <;> rcases k with ⟨j, c, d, rfl⟩ | ⟨c, rfl⟩
  · have : i = j := by
      rcases Nat.lt_trichotomy i j with z | z | z
      · exact absurd a (d i z)
      · exact z
      · exact absurd c (b j z)
    rw [this]
  · exact absurd a (c i)
  · exact absurd c (a j)
  · rfl
theorem run_stop {ns : List Sd} {n : Nat} (h : runN ns (n + 1) = runN ns n) : ∀ k, runN ns (n + k) = runN ns n
  | 0 => rfl
  | k + 1 => by
    show widF ns (runN ns (n + k)) = _
    rw [run_stop h k]
    exact h
def spRou : Sp := fun vs H Q _ => ∃ (l : Addr) (xs : List V) (ss : List Sd) (s v : Int), vs = [.ref l, .int s, .int v] ∧ SidesAt H l xs ss ∧ (-2 ^ 500 < s ∧ s < 2 ^ 500) ∧ (-2 ^ 500 < v ∧ v < 2 ^ 500) ∧ RouteOk v ss s ∧ (∀ n, RunsTo (ss.map (movD (-v))) n → n = 1001 → (∀ i, i ≤ 1000 → ¬ inR v (ss.map (movD (-v))) s i) → ∀ i, ¬ inR v (ss.map (movD (-v))) s i) ∧
  (∀ (i : Nat) (r : Addr) (H' : Hp), H r = none → Same H H' → inR v (ss.map (movD (-v))) s i → (∀ j, j < i → ¬ inR v (ss.map (movD (-v))) s j) → H' r = some (.lst ((wayF v (ss.map (movD (-v))) ss i s).map natV)) → Q (.ref r) H') ∧
  ((∀ i, ¬ inR v (ss.map (movD (-v))) s i) → ∀ H', Same H H' → Q .non H')
section
variable {P : Program} {w : World} {K : PySem.W.Frag} {mg : Str → Option Value} {base : Heap} {fB fC fV fN fW : Addr} {dB dC dV dN dW : FuncData} {C : Nat → Addr}
theorem ok_route {f : Addr} {fd : FuncData} (F : Fun K "route" "route" s_route f fd) (Ls : Cal P w K mg base "check_sides" 5 ["sides"] spSides fB dB) (Vl : Cal P w K mg base "check_value" 2 ["value"] spCheckValue fV dV) (Ru : Cal P w K mg base "_runs" 5 ["sides", "value"] spRuns fN dN)
    (Fw : Cal P w K mg base "_fewest" 4 ["sides", "start", "value", "runs"] (fun vs H Q _ => spFewX C vs H Q fun _ _ _ => False) fC dC) (Wa : Cal P w K mg base "_way" 4 ["sides", "start", "runs"] spWay fW dW) : FnOk P w K mg base CX0 6 f fd ["sides", "start", "value"] spRou := by
  refine F.ok sc_route (fun vs H Q E h => ?_) (fun cdv A outer s0 H vs Q E hr h => ?_)
  · obtain ⟨l, xs, ss, s, v, rfl, _⟩ := h
    rfl
  · obtain ⟨l, xs, ss, s, v, rfl, SS, sb, vb, ok, far, k1, k2⟩ := h
    have nd := sc_route.nd
    refine ⟨_, (pss_cons (ps_expr (pcl Ls hr (by decide) (by rfl) (pa_cons (pv 0) pa_nil)))
      (pss_cons (ps_expr (pcl Vl hr (by decide) (by rfl) (pa_cons (pv 1) pa_nil)))
      (pss_cons (ps_expr (pcl Vl hr (by decide) (by rfl) (pa_cons (pv 2) pa_nil)))
      (pss_cons (ps_set (i := 3) nd rfl (Or.inl rfl) (pcl Ru hr (by decide) (by rfl) (pa_cons (pv 0) (pa_cons (pv 2) pa_nil))))
      (pss_cons (ps_set (i := 4) nd rfl (Or.inl rfl) (pcl Fw hr (by decide) (by rfl) (pa_cons (pv 0) (pa_cons (pv 1) (pa_cons (pv 2) (pa_cons (pv 3) pa_nil))))))
      (pss_cons (ps_if (pt_cmpR op_isN (pv 4) pe_non (nomark _)) (pss_one (ps_ret pe_non)) pss_nil)
      (pss_one (ps_ret (pcl Wa hr (by decide) (by rfl) (pa_cons (pv 0) (pa_cons (pv 1) (pa_cons (pe_slice sl_list (pv 3) po_none (po_some (pv 4))) pa_nil)))))))))))), ?_⟩
    walk_at "rd"
    refine ⟨l, xs, ss, rfl, SS, ?_⟩
    walk_at "rd"
    refine ⟨l, xs, ss, v, rfl, SS, vb, fun q1 n H1 nq s1 to RA => ?_⟩
    walk_at "rd"
    have hns : ∀ d ∈ ss.map (movD (-v)), SideP d.o d.s d.m := fun d hd => by
      obtain ⟨e, he, rfl⟩ := List.mem_map.mp hd
      exact side_mov _ (SS.side e he)
    refine ⟨l, q1, xs, ss, _, s, v, n, rfl, SS.same s1, to, RA, fun i a b c no H2 s2 => ?_, fun none_ H2 s2 => ?_⟩
    · walk_at "rd"
      refine ⟨rfl, ?_⟩
      walk_at "rd"
      obtain ⟨ps, hR, lp, ap⟩ := RA.same s2
      refine ⟨q1, _, rfl, SqL.of hR, fun cu ncu => ?_⟩
      generalize ee : upd H2 cu _ = H3
      have w1 : Same H2 H3 := by rw [← ee]; exact fun b u z => (upd_ne (ne_of_none z ncu)).trans z
      have g1 : H3 cu = some (.lst ((ps.take i).map V.ref)) := by
        rw [← ee, upd_same, cut_nat, List.map_take]
      clear ee
      refine ⟨l, cu, xs, ss, ss.map (movD (-v)), s, v, i, ps.take i, rfl, SS.same (s1.trans (s2.trans w1)), g1, by rw [List.length_take]; omega, b, fun j p e => ?_, hns, sb, vb, way_ok SS.side i s c no, fun r H4 nr s4 hr => ?_⟩
      · rw [List.getElem?_take] at e
        split at e
        · exact w1 _ _ (ap j p e)
        · cases e
      · exact k1 i r H4 ((s1.trans (s2.trans w1)).free nr) (s1.trans (s2.trans (w1.trans s4))) c no hr
    · have all : ∀ i, ¬ inR v (ss.map (movD (-v))) s i := by
        by_cases e : n = 1001
        · exact far n to e fun i z => none_ i (by omega) z
        · have st := to.stop.resolve_left e
          have le := to.le
          intro i
          rcases Nat.le_total i n with z | z
          · exact none_ i z (by omega)
          · have q := none_ n (Nat.le_refl _) (by omega)
            unfold inR at q ⊢
            rw [show i = n + (i - n) by omega, run_stop st]
            exact q
      rcases ok n to with ⟨i, a, b, c⟩ | ⟨a, b⟩
      · exact absurd c (none_ i a b)
      refine ⟨fun z => absurd z a, fun _ => ⟨fun z => (by rw [b] at z; cases z), fun _ => ?_⟩⟩
      walk_at "rd"
      refine ⟨rfl, ?_⟩
      walk_at "rd"
      exact k2 all H2 (s1.trans s2)
end
end HT
namespace HT
open PySem L2
theorem below_le {m : Str} {s k : Int} (hm : Mode m) (hs : 1 ≤ s) : 0 ≤ below m s k ∧ below m s k ≤ if m = "up" then s - 1 else s / 2 := by
  rcases hm with e | e | e | e | e <;> subst e
  · rw [be_d, if_neg (by decide +kernel)]; omega
  · rw [be_u, if_pos rfl]; omega
  · rw [be_hd, if_neg (by decide +kernel)]; omega
  · rw [be_hu, if_neg (by decide +kernel)]; omega
  · rw [be_he, if_neg (show ¬ ("half_even" : Str) = "up" by decide +kernel)]; split <;> omega
/-- a side that may lower the low end -/
def isQ (d : Sd) : Bool := decide (d.m ≠ "down") && decide (2 ≤ d.s)
def farI (d : Sd) : Int := if d.m = "up" then d.s - 1 else d.s / 2
def bk (d : Sd) (x : Int) : Int := backM d.o d.s d.m x
def cl' (d : Sd) (x : Int) : Int := ceilM d.o d.s x
theorem bk_eq (d : Sd) (x : Int) : bk d x = d.o + d.s * cl' d x - below d.m d.s (cl' d x) := rfl
theorem mul_lt {s a b : Int} (hs : 1 ≤ s) (h : s * a < s * b) : a < b := by
  by_cases z : a < b
  · exact z
  · have := Int.mul_le_mul_of_nonneg_left (show b ≤ a by omega) (show 0 ≤ s by omega)
    omega
theorem cl_le {d : Sd} (S : SideP d.o d.s d.m) {x y : Int} (h : y ≤ x) : cl' d y ≤ cl' d x := by
  have a := ceil_eq (o := d.o) (v := x) S.s0
  have b := ceil_eq (o := d.o) (v := y) S.s0
  have : d.s * (cl' d y - 1) < d.s * cl' d x := by
    show d.s * (ceilM d.o d.s y - 1) < d.s * ceilM d.o d.s x
    omega
  have := mul_lt S.s0 this
  omega
/-- how far the ceilings lie apart -/
theorem cl_far {d : Sd} (S : SideP d.o d.s d.m) {x y N : Int} (h : x - y ≤ N) : cl' d x - cl' d y ≤ N / d.s + 1 := by
  have a := ceil_eq (o := d.o) (v := x) S.s0
  have b := ceil_eq (o := d.o) (v := y) S.s0
  have s0 := S.s0
  have e : d.s * (cl' d x - 1 - cl' d y) = d.s * (ceilM d.o d.s x - 1) - d.s * ceilM d.o d.s y := Int.mul_sub _ _ _
  have c : d.s * (cl' d x - 1 - cl' d y) ≤ N := by omega
  have : cl' d x - 1 - cl' d y ≤ N / d.s := (Int.le_ediv_iff_mul_le (by omega)).mpr (by rw [Int.mul_comm]; exact c)
  omega
theorem bk_mono {d : Sd} (S : SideP d.o d.s d.m) {x y : Int} (h : y ≤ x) : bk d y ≤ bk d x := by
  refine (back_iffW S.md S.s0).mpr ?_
  exact Int.le_trans h (back_ge S.md S.s0)
/-- what moves is no side of mode down, and of a step above 1 -/
theorem bk_isQ {d : Sd} (S : SideP d.o d.s d.m) {x : Int} (h : bk d x < x) : isQ d = true := by
  have c := ceil_eq (o := d.o) (v := x) S.s0
  rw [bk_eq] at h
  have c1 : x ≤ d.o + d.s * cl' d x := c.1
  have b := below_le (k := cl' d x) S.md S.s0
  have s0 := S.s0
  unfold isQ
  rw [Bool.and_eq_true, decide_eq_true_eq, decide_eq_true_eq]
  refine ⟨fun e => ?_, ?_⟩
  · rw [e, be_d] at h
    omega
  · by_cases z : 2 ≤ d.s
    · exact z
    · exfalso
      have e : d.s = 1 := by omega
      have b2 : below d.m d.s (cl' d x) ≤ 0 := by
        have := b.2
        rw [e] at this ⊢
        split at this <;> omega
      omega
/-- a place that stands, by its remainder -/
def alw (d : Sd) (p : Int) : Prop := 1 ≤ (p - d.o) % d.s ∧ (p - d.o) % d.s ≤ d.s - farI d
theorem alw_ok {d : Sd} (S : SideP d.o d.s d.m) {p : Int} (h : alw d p) : p ≤ bk d p := by
  obtain ⟨h1, h2⟩ := h
  have s0 := S.s0
  have c := ceil_eq (o := d.o) (v := p) S.s0
  have c1 : p ≤ d.o + d.s * cl' d p := c.1
  have c2 : d.o + d.s * (cl' d p - 1) < p := c.2
  have q := Int.mul_ediv_add_emod (p - d.o) d.s
  have r := Int.emod_lt_of_pos (p - d.o) (show 0 < d.s by omega)
  have e1 : d.s * (cl' d p - 1) = d.s * cl' d p - d.s := by rw [Int.mul_sub, Int.mul_one]
  have k1 : (p - d.o) / d.s < cl' d p := mul_lt s0 (by omega)
  have e2 : d.s * ((p - d.o) / d.s + 1) = d.s * ((p - d.o) / d.s) + d.s := by rw [Int.mul_add, Int.mul_one]
  have m := Int.mul_le_mul_of_nonneg_left (show (p - d.o) / d.s + 1 ≤ cl' d p by omega) (show 0 ≤ d.s by omega)
  have b := (below_le (k := cl' d p) S.md S.s0).2
  have f : farI d = if d.m = "up" then d.s - 1 else d.s / 2 := rfl
  rw [bk_eq]
  omega
/-- places that stand for all these sides: periodic, and never far -/
def Siv (Q : List Sd) (M G : Nat) : Prop := (∀ d ∈ Q, ∃ c : Int, (M : Int) = d.s * c) ∧ ∀ x : Int, ∃ p, x - (G : Int) ≤ p ∧ p ≤ x ∧ ∀ d ∈ Q, alw d p
theorem siv_nil : Siv [] 1 0 := ⟨fun d hd => (by cases hd), fun x => ⟨x, by omega, Int.le_refl _, fun d hd => (by cases hd)⟩⟩
def tOk (M s f T : Nat) : Bool := (List.range s).all fun r => (List.range (T + 1)).any fun t => decide (1 ≤ (r + (s - M % s) * t) % s) && decide ((r + (s - M % s) * t) % s ≤ s - f)
theorem siv_cons {Q : List Sd} {M G s f T : Nat} {e : Sd} (h : Siv Q M G) (es : e.s = (s : Int)) (s0 : 1 ≤ s) (ef : farI e = (f : Int)) (fs : f ≤ s) (t : tOk M s f T = true) : Siv (e :: Q) (M.lcm s) (G + T * M) := by
  obtain ⟨per, near⟩ := h
  refine ⟨fun d hd => ?_, fun x => ?_⟩
  · rcases List.mem_cons.mp hd with rfl | hd
    · obtain ⟨c, hc⟩ := Nat.dvd_lcm_right M s
      exact ⟨c, by rw [hc, es]; exact Int.natCast_mul _ _⟩
    · obtain ⟨c, hc⟩ := per d hd
      obtain ⟨c2, hc2⟩ := Nat.dvd_lcm_left M s
      exact ⟨c * c2, by rw [hc2, Int.natCast_mul, hc, Int.mul_assoc]⟩
  · obtain ⟨p, p1, p2, pa⟩ := near x
    have rb := Int.emod_nonneg (p - e.o) (show (s : Int) ≠ 0 by omega)
    have rl := Int.emod_lt_of_pos (p - e.o) (show 0 < (s : Int) by omega)
    obtain ⟨r, hr⟩ := Int.eq_ofNat_of_zero_le rb
    have any := List.all_eq_true.mp t r (List.mem_range.mpr (by omega))
    obtain ⟨u, hu, ok⟩ := List.any_eq_true.mp any
    have uT := List.mem_range.mp hu
    rw [Bool.and_eq_true, decide_eq_true_eq, decide_eq_true_eq] at ok
    have uM : (u : Int) * (M : Int) ≤ (T : Int) * (M : Int) := Int.mul_le_mul_of_nonneg_right (by omega) (Int.natCast_nonneg _)
    have uM0 : 0 ≤ (u : Int) * (M : Int) := Int.mul_nonneg (Int.natCast_nonneg _) (Int.natCast_nonneg _)
    refine ⟨p - u * M, ?_, by omega, fun d hd => ?_⟩
    · rw [Int.natCast_add, Int.natCast_mul]
      omega
    rcases List.mem_cons.mp hd with rfl | hd
    · have e1 := Int.mul_ediv_add_emod (p - d.o) s
      have e2 : (s : Int) * ((M / s : Nat) : Int) + ((M % s : Nat) : Int) = M := by exact_mod_cast Nat.div_add_mod M s
      have ml := Nat.mod_lt M (show 0 < s by omega)
      have key : (p - u * M - d.o) % (s : Int) = (((r + (s - M % s) * u) % s : Nat) : Int) := by
        rw [Int.natCast_emod, Int.natCast_add, Int.natCast_mul, Int.natCast_sub (by omega)]
        have : p - u * M - d.o = ((r : Int) + ((s : Int) - ((M % s : Nat) : Int)) * u) + s * ((p - d.o) / s - u * ((M / s : Nat) : Int) - u) := by
          have x1 : (u : Int) * (M : Int) = u * (s * ((M / s : Nat) : Int)) + u * ((M % s : Nat) : Int) := by rw [← Int.mul_add, e2]
          have x2 : (s : Int) * ((p - d.o) / s - u * ((M / s : Nat) : Int) - u) = s * ((p - d.o) / s) - u * (s * ((M / s : Nat) : Int)) - s * u := by
            rw [Int.mul_sub, Int.mul_sub, Int.mul_left_comm]
          have x3 : ((s : Int) - ((M % s : Nat) : Int)) * u = s * u - u * ((M % s : Nat) : Int) := by rw [Int.sub_mul, Int.mul_comm (((M % s : Nat) : Int))]
          omega
        rw [this, Int.add_mul_emod_self_left]
      unfold alw
      rw [es, key, ef]
      have : (((r + (s - M % s) * u) % s : Nat) : Int) ≤ ((s - f : Nat) : Int) := by exact_mod_cast ok.2
      omega
    · obtain ⟨c, hc⟩ := per d hd
      have := pa d hd
      unfold alw at this ⊢
      have e : p - u * M - d.o = (p - d.o) + d.s * (-(u * c)) := by
        rw [hc, Int.mul_neg, Int.mul_left_comm]
        omega
      rw [e, Int.add_mul_emod_self_left]
      exact this
end HT
namespace HT
open PySem L2
/-- the places of a low end, one after the other -/
structure LowSeq (ns : List Sd) (L : Nat → Int) : Prop where
  dec : ∀ k, L (k + 1) ≤ L k
  lo : ∀ k, ∀ d ∈ ns, L (k + 1) ≤ bk d (L k)
  at_ : ∀ k, L (k + 1) < L k → ∃ d ∈ ns, L (k + 1) = bk d (L k)
theorem low_over {ns : List Sd} {L : Nat → Int} (S : LowSeq ns L) (hs : ∀ d ∈ ns, SideP d.o d.s d.m) {p : Int} (hp : ∀ d ∈ ns, p ≤ bk d p) (h0 : p ≤ L 0) : ∀ k, p ≤ L k
  | 0 => h0
  | k + 1 => by
    have ih := low_over S hs hp h0 k
    by_cases c : L (k + 1) < L k
    · obtain ⟨d, hd, e⟩ := S.at_ k c
      rw [e]
      exact Int.le_trans (hp d hd) (bk_mono (hs d hd) ih)
    · have := S.dec k
      omega
theorem low_fall {ns : List Sd} {L : Nat → Int} (S : LowSeq ns L) {K : Nat} (ne : ∀ k, k < K → L (k + 1) ≠ L k) : ∀ k : Nat, k ≤ K → L k ≤ L 0 - k
  | 0, _ => by omega
  | k + 1, h => by
    have ih := low_fall S ne k (by omega)
    have := S.dec k
    have := ne k (by omega)
    omega
def phi (Q : List Sd) (x : Int) : Int := (Q.map fun d => cl' d x).sum
theorem phi_le {x y : Int} (h : y ≤ x) : ∀ {Q : List Sd}, (∀ d ∈ Q, SideP d.o d.s d.m) → phi Q y ≤ phi Q x
  | [], _ => Int.le_refl _
  | d :: Q, hQ => by
    have ih := phi_le h (Q := Q) fun e he => hQ e (List.mem_cons_of_mem _ he)
    have c := cl_le (hQ d List.mem_cons_self) h
    show cl' d y + phi Q y ≤ cl' d x + phi Q x
    omega
theorem phi_lt {x y : Int} (h : y ≤ x) : ∀ {Q : List Sd}, (∀ d ∈ Q, SideP d.o d.s d.m) → ∀ {d : Sd}, d ∈ Q → cl' d y < cl' d x → phi Q y + 1 ≤ phi Q x
  | [], _, _, hd, _ => by cases hd
  | e :: Q, hQ, d, hd, lt => by
    have q := fun e he => hQ e (List.mem_cons_of_mem _ he)
    show cl' e y + phi Q y + 1 ≤ cl' e x + phi Q x
    rcases List.mem_cons.mp hd with rfl | hd
    · have := phi_le h q
      omega
    · have := phi_lt h q hd lt
      have := cl_le (hQ e List.mem_cons_self) h
      omega
theorem phi_far {x y N : Int} (h : x - y ≤ N) : ∀ {Q : List Sd}, (∀ d ∈ Q, SideP d.o d.s d.m) → phi Q x - phi Q y ≤ (Q.map fun d => N / d.s + 1).sum
  | [], _ => Int.le_refl _
  | d :: Q, hQ => by
    have ih := phi_far h (Q := Q) fun e he => hQ e (List.mem_cons_of_mem _ he)
    have c := cl_far (hQ d List.mem_cons_self) h
    show (cl' d x + phi Q x) - (cl' d y + phi Q y) ≤ (N / d.s + 1) + (Q.map fun d => N / d.s + 1).sum
    omega
theorem low_step {ns : List Sd} {L : Nat → Int} (S : LowSeq ns L) (hs : ∀ d ∈ ns, SideP d.o d.s d.m) {k : Nat} (c : L (k + 2) < L (k + 1)) : ∃ d ∈ ns, isQ d = true ∧ cl' d (L (k + 1)) < cl' d (L k) := by
  obtain ⟨d, hd, e⟩ := S.at_ (k + 1) c
  have e' : L (k + 2) = bk d (L (k + 1)) := e
  refine ⟨d, hd, bk_isQ (hs d hd) (by rw [← e']; exact c), ?_⟩
  by_cases z : cl' d (L (k + 1)) < cl' d (L k)
  · exact z
  · exfalso
    have le := cl_le (hs d hd) (S.dec k)
    have eq : cl' d (L (k + 1)) = cl' d (L k) := by omega
    have b := S.lo k d hd
    rw [bk_eq, ← eq, ← bk_eq] at b
    omega
theorem low_phi {ns : List Sd} {L : Nat → Int} (S : LowSeq ns L) (hs : ∀ d ∈ ns, SideP d.o d.s d.m) {Q : List Sd} (hQ : ∀ d ∈ ns, isQ d = true → d ∈ Q) (hq : ∀ d ∈ Q, SideP d.o d.s d.m) {K : Nat} (ne : ∀ k, k < K + 1 → L (k + 1) ≠ L k) : ∀ k : Nat, k ≤ K → phi Q (L k) ≤ phi Q (L 0) - k
  | 0, _ => by omega
  | k + 1, h => by
    have ih := low_phi S hs hQ hq ne k (by omega)
    have d1 := S.dec (k + 1)
    have n1 := ne (k + 1) (by omega)
    obtain ⟨d, hd, q, lt⟩ := low_step S hs (k := k) (by show L (k + 1 + 1) < _; omega)
    have := phi_lt (S.dec k) hq (hQ d hd q) lt
    omega
theorem low_up {ns : List Sd} {L : Nat → Int} (S : LowSeq ns L) {d : Sd} (hd : d ∈ ns) (sp : SideP d.o d.s d.m) (up : d.m = "up") {K : Nat} (ne : ∀ k, k < 2 * K → L (k + 1) ≠ L k) : ∀ k : Nat, k ≤ K → cl' d (L (2 * k)) ≤ cl' d (L 0) - k
  | 0, _ => by show cl' d (L 0) ≤ _; omega
  | k + 1, h => by
    have ih := low_up S hd sp up ne k (by omega)
    have b := S.lo (2 * k) d hd
    rw [bk_eq, up, be_u] at b
    have d1 := S.dec (2 * k + 1)
    have n1 := ne (2 * k + 1) (by omega)
    have c := (ceil_eq (o := d.o) (v := L (2 * (k + 1))) sp.s0).2
    have c' : d.o + d.s * (cl' d (L (2 * (k + 1))) - 1) < L (2 * (k + 1)) := c
    have e : L (2 * (k + 1)) = L (2 * k + 1 + 1) := rfl
    have m1 : d.s * (cl' d (L (2 * k)) - 1) = d.s * cl' d (L (2 * k)) - d.s := by rw [Int.mul_sub, Int.mul_one]
    have lt := mul_lt (a := cl' d (L (2 * (k + 1))) - 1) (b := cl' d (L (2 * k)) - 1) sp.s0 (by omega)
    omega
/-- a low end comes to rest, or leaves the window, within 988 turns -/
theorem low_main {ns Ls : List Sd} (hs : ∀ d ∈ Ls, SideP d.o d.s d.m) (sub : ∀ d ∈ ns, d ∈ Ls) {N : Int} {L : Nat → Int} (S : LowSeq ns L) (h0 : L 0 ≤ 0)
    (alt : N ≤ 985 ∨ (∃ d ∈ ns, d.m = "up" ∧ 5 ≤ d.s ∧ N ≤ 2000) ∨ ((Ls.filter isQ).map fun d => N / d.s + 1).sum ≤ 985 ∨ ∃ M G, Siv (Ls.filter isQ) M G ∧ G ≤ 985) : (∃ k, k < 988 ∧ L (k + 1) = L k) ∨ L 988 ≤ -N := by
  have hn : ∀ d ∈ ns, SideP d.o d.s d.m := fun d hd => hs d (sub d hd)
  by_cases ex : ∃ k, k < 988 ∧ L (k + 1) = L k
  · exact .inl ex
  have ne : ∀ k, k < 988 → L (k + 1) ≠ L k := fun k hk e => ex ⟨k, hk, e⟩
  refine .inr ?_
  refine Classical.byContradiction fun lt => ?_
  rcases alt with a | ⟨d, hd, up, s5, n2⟩ | r | ⟨M, G, sv, g⟩
  · have := low_fall S ne 988 (Nat.le_refl _)
    omega
  · have u := low_up S hd (hn d hd) up (K := 494) (fun k hk => ne k (by omega)) 494 (Nat.le_refl _)
    have u' : cl' d (L 988) ≤ cl' d (L 0) - (494 : Nat) := u
    have f := cl_far (hn d hd) (x := L 0) (y := L 988) (N := N) (by omega)
    have q : N / d.s ≤ 2000 / 5 := by
      refine Int.le_of_lt_add_one (Int.ediv_lt_of_lt_mul (by omega) ?_)
      have := Int.mul_le_mul_of_nonneg_left s5 (show (0 : Int) ≤ 2000 / 5 + 1 by decide)
      have e : (2000 / 5 + 1 : Int) * 5 = 2005 := by decide
      omega
    have e : (2000 / 5 : Int) = 400 := by decide
    omega
  · have u := low_phi S hn (Q := Ls.filter isQ) (fun d hd q => List.mem_filter.mpr ⟨sub d hd, q⟩) (fun d hd => hs d (List.mem_filter.mp hd).1) (K := 987) ne 987 (Nat.le_refl _)
    have d9 := S.dec 987
    have f := phi_far (x := L 0) (y := L 987) (N := N) (by have : L (987 + 1) = L 988 := rfl; omega) (Q := Ls.filter isQ) fun d hd => hs d (List.mem_filter.mp hd).1
    omega
  · obtain ⟨p, p1, p2, pa⟩ := sv.2 (L 0)
    have hp : ∀ d ∈ ns, p ≤ bk d p := fun d hd => by
      by_cases q : isQ d = true
      · exact alw_ok (hn d hd) (pa d (List.mem_filter.mpr ⟨sub d hd, q⟩))
      · by_cases z : p ≤ bk d p
        · exact z
        · exact absurd (bk_isQ (x := p) (hn d hd) (by omega)) q
    have o := low_over S hn hp p2 988
    have := low_fall S ne 988 (Nat.le_refl _)
    omega
end HT
namespace HT
open PySem L2
def kindN (m : Str) : Nat := if m = "down" then 0 else if m = "up" then 1 else if m = "half_even" then 3 else 2
/-- a side by its step and the kind of its mode -/
def codeN (d : Sd) : Nat := 4 * d.s.toNat + kindN d.m
def lenC (c : Nat) : Nat := if c % 4 = 3 then 2 * (c / 4) else c / 4
def qC (c : Nat) : Bool := decide (c % 4 ≠ 0) && decide (2 ≤ c / 4)
def farC (c : Nat) : Nat := if c % 4 = 1 then c / 4 - 1 else c / 4 / 2
def sivC : List Nat → Nat → Nat → Bool
  | [], _, G => decide (G ≤ 985)
  | c :: r, M, G => match (List.range 13).find? fun T => tOk M (c / 4) (farC c) T with
    | some T => sivC r (M.lcm (c / 4)) (G + T * M)
    | none => false
def upC (c : Nat) : Bool := decide (c % 4 = 1) && decide (5 ≤ c / 4)
def chkN (cs : List Nat) (N : Nat) : Bool := decide (N ≤ 985) || (decide (2000 < N) || (decide (((cs.filter qC).map fun c => N / (c / 4) + 1).sum ≤ 985) || sivC (cs.filter qC) 1 0))
def lv4 (a b c n : Nat) : Bool := (List.range (52 - c)).all fun i => upC (c + i) || chkN [a, b, c, c + i] (n.lcm (lenC (c + i)))
def lv3 (a b n : Nat) : Bool := (List.range (52 - b)).all fun i => upC (b + i) || (decide (2000 < n.lcm (lenC (b + i))) || lv4 a b (b + i) (n.lcm (lenC (b + i))))
def lv2 (a n : Nat) : Bool := (List.range (52 - a)).all fun i => upC (a + i) || lv3 a (a + i) (n.lcm (lenC (a + i)))
def lv1 (i : Nat) : Bool := upC (4 + i) || lv2 (4 + i) (lenC (4 + i))
theorem lv_all : ((List.range 48).all lv1) = true := by decide +kernel
end HT
namespace HT
open PySem L2
theorem kind_lt (m : Str) : kindN m < 4 := by unfold kindN; split <;> (try split) <;> (try split) <;> omega
theorem code_div (d : Sd) : codeN d / 4 = d.s.toNat := by have := kind_lt d.m; unfold codeN; omega
theorem code_mod (d : Sd) : codeN d % 4 = kindN d.m := by have := kind_lt d.m; unfold codeN; omega
theorem code_q {d : Sd} (S : SideP d.o d.s d.m) : qC (codeN d) = isQ d := by
  unfold qC isQ
  rw [code_div, code_mod]
  have s0 := S.s0
  have e1 : decide (kindN d.m ≠ 0) = decide (d.m ≠ "down") := by
    by_cases h : d.m = "down"
    · rw [decide_eq_false (by rw [h]; decide +kernel), decide_eq_false (fun z => z h)]
    · rw [decide_eq_true h, decide_eq_true]
      unfold kindN
      rw [if_neg h]
      split <;> (try split) <;> omega
  have e2 : decide (2 ≤ d.s.toNat) = decide (2 ≤ d.s) := by
    by_cases h : 2 ≤ d.s
    · rw [decide_eq_true h, decide_eq_true (by omega)]
    · rw [decide_eq_false h, decide_eq_false (by omega)]
  rw [e1, e2]
theorem code_far {d : Sd} (S : SideP d.o d.s d.m) (q : isQ d = true) : farI d = (farC (codeN d) : Int) ∧ farC (codeN d) ≤ d.s.toNat := by
  have s0 := S.s0
  have nd : d.m ≠ "down" := by
    unfold isQ at q
    rw [Bool.and_eq_true, decide_eq_true_eq] at q
    exact q.1
  unfold farI farC
  rw [code_div, code_mod]
  by_cases h : d.m = "up"
  · have k : kindN d.m = 1 := by rw [h]; decide +kernel
    rw [if_pos h, if_pos k]
    omega
  · have k : kindN d.m ≠ 1 := by
      unfold kindN
      rw [if_neg nd, if_neg h]
      split <;> omega
    rw [if_neg h, if_neg k]
    omega
theorem code_len {d : Sd} : lenC (codeN d) = perN d := by
  unfold lenC perN perM
  rw [code_div, code_mod]
  by_cases h : d.m = "half_even"
  · have k : kindN d.m = 3 := by rw [h]; decide +kernel
    rw [if_pos h, if_pos k]
    omega
  · have k : kindN d.m ≠ 3 := by
      unfold kindN
      by_cases a : d.m = "down"
      · rw [if_pos a]; omega
      · rw [if_neg a]
        by_cases b : d.m = "up"
        · rw [if_pos b]; omega
        · rw [if_neg b, if_neg h]; omega
    rw [if_neg h, if_neg k]
theorem sum_ok {N : Nat} : ∀ {Ls : List Sd}, (∀ d ∈ Ls, SideP d.o d.s d.m) → ((Ls.filter isQ).map fun d => (N : Int) / d.s + 1).sum = (((((Ls.map codeN).filter qC).map fun c => N / (c / 4) + 1).sum : Nat) : Int)
  | [], _ => rfl
  | d :: Ls, h => by
    have ih := sum_ok (N := N) (Ls := Ls) fun e he => h e (List.mem_cons_of_mem _ he)
    have S := h d List.mem_cons_self
    have s0 := S.s0
    rw [List.map_cons, List.filter_cons, List.filter_cons, code_q S]
    by_cases q : isQ d = true
    · rw [if_pos q, if_pos q, List.map_cons, List.map_cons, List.sum_cons, List.sum_cons, ih, Int.natCast_add, Int.natCast_add, Int.natCast_ediv, code_div, Int.toNat_of_nonneg (by omega)]
      rfl
    · rw [if_neg q, if_neg q]
      exact ih
theorem siv_ok : ∀ {Ls : List Sd}, (∀ d ∈ Ls, SideP d.o d.s d.m ∧ isQ d = true) → ∀ {Q : List Sd} {M G : Nat}, Siv Q M G → sivC (Ls.map codeN) M G = true → ∃ M' G', (∀ Q', (∀ d ∈ Q', d ∈ Ls ∨ d ∈ Q) → Siv Q' M' G') ∧ G' ≤ 985
  | [], _, Q, M, G, h, c => ⟨M, G, fun Q' hQ => ⟨fun d hd => h.1 d ((hQ d hd).resolve_left (fun z => by cases z)), fun x => let ⟨p, a, b, e⟩ := h.2 x; ⟨p, a, b, fun d hd => e d ((hQ d hd).resolve_left (fun z => by cases z))⟩⟩, of_decide_eq_true c⟩
  | d :: Ls, hL, Q, M, G, h, c => by
    obtain ⟨S, q⟩ := hL d List.mem_cons_self
    have s0 := S.s0
    obtain ⟨f1, f2⟩ := code_far S q
    have c' : (match (List.range 13).find? fun T => tOk M (codeN d / 4) (farC (codeN d)) T with | some T => sivC (Ls.map codeN) (M.lcm (codeN d / 4)) (G + T * M) | none => false) = true := c
    cases ft : (List.range 13).find? fun T => tOk M (codeN d / 4) (farC (codeN d)) T with
    | none => rw [ft] at c'; cases c'
    | some T =>
      rw [ft] at c'
      have t := List.find?_some ft
      rw [code_div] at t c'
      have h2 := siv_cons (e := d) h (s := d.s.toNat) (Int.toNat_of_nonneg (by omega)).symm (by omega) f1 f2 t
      obtain ⟨M', G', a, b⟩ := siv_ok (fun e he => hL e (List.mem_cons_of_mem _ he)) h2 c'
      refine ⟨M', G', fun Q' hQ => a Q' fun e he => ?_, b⟩
      rcases hQ e he with z | z
      · rcases List.mem_cons.mp z with rfl | z
        · exact .inr List.mem_cons_self
        · exact .inl z
      · exact .inr (List.mem_cons_of_mem _ z)
theorem chk_ok {N : Nat} {Ls : List Sd} (hL : ∀ d ∈ Ls, SideP d.o d.s d.m) (n2 : N ≤ 2000) (c : chkN (Ls.map codeN) N = true) : (N : Int) ≤ 985 ∨ ((Ls.filter isQ).map fun d => (N : Int) / d.s + 1).sum ≤ 985 ∨ ∃ M G, Siv (Ls.filter isQ) M G ∧ G ≤ 985 := by
  unfold chkN at c
  rw [Bool.or_eq_true, Bool.or_eq_true, Bool.or_eq_true, decide_eq_true_eq, decide_eq_true_eq, decide_eq_true_eq] at c
  rcases c with c | c | c | c
  · exact .inl (by omega)
  · omega
  · refine .inr (.inl ?_)
    rw [sum_ok hL]
    omega
  · refine .inr (.inr ?_)
    have e : (Ls.map codeN).filter qC = (Ls.filter isQ).map codeN := by
      clear c n2
      induction Ls with
      | nil => rfl
      | cons d Ls ih =>
        have ih := ih fun e he => hL e (List.mem_cons_of_mem _ he)
        rw [List.map_cons, List.filter_cons, List.filter_cons, code_q (hL d List.mem_cons_self)]
        by_cases q : isQ d = true
        · rw [if_pos q, if_pos q, List.map_cons, ih]
        · rw [if_neg q, if_neg q, ih]
    rw [e] at c
    obtain ⟨M, G, a, b⟩ := siv_ok (fun d hd => ⟨hL d (List.mem_filter.mp hd).1, (List.mem_filter.mp hd).2⟩) siv_nil c
    exact ⟨M, G, a _ fun d hd => .inl hd, b⟩
/-- the sides in the order of their codes -/
def insS (d : Sd) : List Sd → List Sd
  | [] => [d]
  | e :: r => if codeN d ≤ codeN e then d :: e :: r else e :: insS d r
theorem mem_insS {x d : Sd} : ∀ {l : List Sd}, x ∈ insS d l ↔ x = d ∨ x ∈ l
  | [] => by simp [insS]
  | e :: r => by
    unfold insS
    split
    · simp
    · rw [List.mem_cons, mem_insS, List.mem_cons]
      constructor
      · rintro (h | h | h)
        · exact .inr (.inl h)
        · exact .inl h
        · exact .inr (.inr h)
      · rintro (h | h | h)
        · exact .inr (.inl h)
        · exact .inl h
        · exact .inr (.inr h)
theorem len_insS {d : Sd} : ∀ {l : List Sd}, (insS d l).length = l.length + 1
  | [] => rfl
  | e :: r => by
    unfold insS
    split
    · rfl
    · rw [List.length_cons, len_insS]; rfl
theorem srt_insS {d : Sd} : ∀ {l : List Sd}, l.Pairwise (fun x y => codeN x ≤ codeN y) → (insS d l).Pairwise (fun x y => codeN x ≤ codeN y)
  | [], _ => by simp [insS]
  | e :: r, h => by
    obtain ⟨a, b⟩ := List.pairwise_cons.mp h
    unfold insS
    split
    · rename_i le
      refine List.pairwise_cons.mpr ⟨fun x hx => ?_, h⟩
      rcases List.mem_cons.mp hx with rfl | hx
      · exact le
      · exact Nat.le_trans le (a x hx)
    · rename_i gt
      refine List.pairwise_cons.mpr ⟨fun x hx => ?_, srt_insS b⟩
      rcases mem_insS.mp hx with rfl | hx
      · omega
      · exact a x hx
def sortS : List Sd → List Sd
  | [] => []
  | d :: r => insS d (sortS r)
theorem mem_sortS {x : Sd} : ∀ {l : List Sd}, x ∈ sortS l ↔ x ∈ l
  | [] => Iff.rfl
  | d :: r => by show x ∈ insS d (sortS r) ↔ _; rw [mem_insS, mem_sortS, List.mem_cons]
theorem len_sortS : ∀ {l : List Sd}, (sortS l).length = l.length
  | [] => rfl
  | d :: r => by show (insS d (sortS r)).length = _; rw [len_insS, len_sortS]; rfl
theorem srt_sortS : ∀ {l : List Sd}, (sortS l).Pairwise (fun x y => codeN x ≤ codeN y)
  | [] => .nil
  | d :: r => srt_insS srt_sortS
theorem com_least {m : Nat} : ∀ {ss : List Sd} {n : Nat}, n ∣ m → (∀ d ∈ ss, perN d ∣ m) → ss.foldl (fun n d => n.lcm (perN d)) n ∣ m
  | [], _, h, _ => h
  | d :: ss, n, h, k => com_least (ss := ss) (n := n.lcm (perN d)) (Nat.lcm_dvd h (k d List.mem_cons_self)) fun e he => k e (List.mem_cons_of_mem _ he)
end HT
namespace HT
open PySem L2
abbrev sdI : Sd := ⟨0, 1, "down"⟩
theorem sdI_ok : SideP sdI.o sdI.s sdI.m := ⟨by decide, by decide, by decide, by decide, .inl rfl⟩
theorem code_I : codeN sdI = 4 := by decide +kernel
theorem kind_up {m : Str} (h : kindN m = 1) : m = "up" := by
  unfold kindN at h
  by_cases a : m = "down"
  · rw [if_pos a] at h; omega
  · rw [if_neg a] at h
    by_cases b : m = "up"
    · exact b
    · rw [if_neg b] at h
      split at h <;> omega
theorem upC_ok {d : Sd} (S : SideP d.o d.s d.m) (h : upC (codeN d) = true) : d.m = "up" ∧ 5 ≤ d.s := by
  unfold upC at h
  rw [Bool.and_eq_true, decide_eq_true_eq, decide_eq_true_eq, code_mod, code_div] at h
  exact ⟨kind_up h.1, by omega⟩
theorem code_bd {d : Sd} (S : SideP d.o d.s d.m) (h : d.s ≤ 12) : 4 ≤ codeN d ∧ codeN d < 52 := by
  have a := code_div d
  have b := kind_lt d.m
  have c := code_mod d
  have s0 := S.s0
  unfold codeN at *
  omega
def padS (ns : List Sd) : List Sd := List.replicate (4 - ns.length) sdI ++ sortS ns
theorem mem_padS {ns : List Sd} {x : Sd} (h : x ∈ padS ns) : x = sdI ∨ x ∈ ns := by
  rcases List.mem_append.mp h with z | z
  · exact .inl (List.eq_of_mem_replicate z)
  · exact .inr (mem_sortS.mp z)
theorem len_padS {ns : List Sd} (h : ns.length ≤ 4) : (padS ns).length = 4 := by
  unfold padS
  rw [List.length_append, List.length_replicate, len_sortS]
  omega
theorem srt_padS {ns : List Sd} (hs : ∀ d ∈ ns, SideP d.o d.s d.m ∧ d.s ≤ 12) : (padS ns).Pairwise (fun x y => codeN x ≤ codeN y) := by
  unfold padS
  refine List.pairwise_append.mpr ⟨?_, srt_sortS, fun x hx y hy => ?_⟩
  · generalize 4 - ns.length = n
    induction n with
    | zero => exact .nil
    | succ n ih =>
      rw [List.replicate_succ]
      exact List.pairwise_cons.mpr ⟨fun x hx => by rw [List.eq_of_mem_replicate hx]; exact Nat.le_refl _, ih⟩
  · rw [List.eq_of_mem_replicate hx, code_I]
    have h := hs y (mem_sortS.mp hy)
    exact (code_bd h.1 h.2).1
theorem com_padS {ns : List Sd} : comN (padS ns) = comN ns := by
  apply Nat.dvd_antisymm
  · refine com_least (Nat.one_dvd _) fun d hd => ?_
    rcases mem_padS hd with rfl | h
    · exact (by decide +kernel : perN sdI = 1) ▸ Nat.one_dvd _
    · exact (com_dvd ns 1).2 d h
  · refine com_least (Nat.one_dvd _) fun d hd => ?_
    exact (com_dvd (padS ns) 1).2 d (List.mem_append_right _ (mem_sortS.mpr hd))
theorem four {l : List Sd} (h : l.length = 4) : ∃ a b c e, l = [a, b, c, e] := by
  match l, h with
  | [a, b, c, e], _ => exact ⟨a, b, c, e, rfl⟩
/-- one of the four ways to bound a low end serves any few small sides -/
theorem alt_ok {ns : List Sd} (hs : ∀ d ∈ ns, SideP d.o d.s d.m ∧ d.s ≤ 12) (l4 : ns.length ≤ 4) (hN : comN ns ≤ 2000) :
    (∀ d ∈ padS ns, SideP d.o d.s d.m) ∧ (∀ d ∈ ns, d ∈ padS ns) ∧ ((comN ns : Int) ≤ 985 ∨ (∃ d ∈ ns, d.m = "up" ∧ 5 ≤ d.s ∧ (comN ns : Int) ≤ 2000) ∨ (((padS ns).filter isQ).map fun d => (comN ns : Int) / d.s + 1).sum ≤ 985 ∨ ∃ M G, Siv ((padS ns).filter isQ) M G ∧ G ≤ 985) := by
  have hP : ∀ d ∈ padS ns, SideP d.o d.s d.m ∧ d.s ≤ 12 := fun d hd => by
    rcases mem_padS hd with rfl | h
    · exact ⟨sdI_ok, by decide⟩
    · exact hs d h
  refine ⟨fun d hd => (hP d hd).1, fun d hd => List.mem_append_right _ (mem_sortS.mpr hd), ?_⟩
  have up : ∀ d ∈ padS ns, upC (codeN d) = true → ∃ d ∈ ns, d.m = "up" ∧ 5 ≤ d.s ∧ (comN ns : Int) ≤ 2000 := fun d hd u => by
    obtain ⟨u1, u2⟩ := upC_ok (hP d hd).1 u
    rcases mem_padS hd with rfl | h
    · exact absurd u2 (by decide)
    · exact ⟨d, h, u1, u2, by omega⟩
  have chk : chkN ((padS ns).map codeN) (comN ns) = true → _ := chk_ok (fun d hd => (hP d hd).1) hN
  obtain ⟨d1, d2, d3, d4, e4⟩ := four (len_padS l4)
  have srt := srt_padS hs
  have cm := com_padS (ns := ns)
  rw [e4] at hP up chk srt cm ⊢
  have m1 : d1 ∈ [d1, d2, d3, d4] := by simp
  have m2 : d2 ∈ [d1, d2, d3, d4] := by simp
  have m3 : d3 ∈ [d1, d2, d3, d4] := by simp
  have m4 : d4 ∈ [d1, d2, d3, d4] := by simp
  have b1 := code_bd (hP d1 m1).1 (hP d1 m1).2
  have b4 := code_bd (hP d4 m4).1 (hP d4 m4).2
  obtain ⟨o1, srt2⟩ := List.pairwise_cons.mp srt
  obtain ⟨o2, srt3⟩ := List.pairwise_cons.mp srt2
  obtain ⟨o3, _⟩ := List.pairwise_cons.mp srt3
  have l12 := o1 d2 (by simp)
  have l23 := o2 d3 (by simp)
  have l34 := o3 d4 (by simp)
  have cn : comN [d1, d2, d3, d4] = (((perN d1).lcm (perN d2)).lcm (perN d3)).lcm (perN d4) := by
    show ((((1).lcm (perN d1)).lcm (perN d2)).lcm (perN d3)).lcm (perN d4) = _
    rw [Nat.lcm_one_left]
  have pos : 0 < comN [d1, d2, d3, d4] := com_pos _ 1 (by decide) fun d hd => (hP d hd).1
  rw [← cm] at hN chk ⊢
  rw [← code_len, ← code_len, ← code_len, ← code_len] at cn
  have mp : [d1, d2, d3, d4].map codeN = [codeN d1, codeN d2, codeN d3, codeN d4] := rfl
  rw [mp] at chk
  have u1 := up d1 m1
  have u2 := up d2 m2
  have u3 := up d3 m3
  have u4 := up d4 m4
  rw [← cm] at u1 u2 u3 u4
  generalize codeN d1 = a at *
  generalize codeN d2 = b at *
  generalize codeN d3 = c at *
  generalize codeN d4 = e at *
  generalize comN [d1, d2, d3, d4] = N at *
  have v1 := List.all_eq_true.mp lv_all (a - 4) (List.mem_range.mpr (by omega))
  unfold lv1 at v1
  rw [show 4 + (a - 4) = a by omega, Bool.or_eq_true] at v1
  rcases v1 with v1 | v1
  · exact .inr (.inl (u1 v1))
  have v2 := List.all_eq_true.mp v1 (b - a) (List.mem_range.mpr (by omega))
  rw [show a + (b - a) = b by omega, Bool.or_eq_true] at v2
  rcases v2 with v2 | v2
  · exact .inr (.inl (u2 v2))
  have v3 := List.all_eq_true.mp v2 (c - b) (List.mem_range.mpr (by omega))
  rw [show b + (c - b) = c by omega, Bool.or_eq_true, Bool.or_eq_true, decide_eq_true_eq] at v3
  rcases v3 with v3 | v3 | v3
  · exact .inr (.inl (u3 v3))
  · exfalso
    have le := Nat.le_of_dvd pos (cn ▸ Nat.dvd_lcm_left (((lenC a).lcm (lenC b)).lcm (lenC c)) (lenC e))
    omega
  have v4 := List.all_eq_true.mp v3 (e - c) (List.mem_range.mpr (by omega))
  rw [show c + (e - c) = e by omega, Bool.or_eq_true, ← cn] at v4
  rcases v4 with v4 | v4
  · exact .inr (.inl (u4 v4))
  rcases chk v4 with x | x | x
  · exact .inl x
  · exact .inr (.inr (.inl x))
  · exact .inr (.inr (.inr x))
end HT
namespace HT
open PySem L2
theorem wid_at {r : Int × Int} : ∀ (ts : List Sd) (a : Int × Int), ((ts.foldl (widS r) a).1 = a.1 ∨ ∃ d ∈ ts, (ts.foldl (widS r) a).1 = backM d.o d.s d.m r.1) ∧ ((ts.foldl (widS r) a).2 = a.2 ∨ ∃ d ∈ ts, (ts.foldl (widS r) a).2 = backM d.o d.s d.m (r.2 + 1) - 1)
  | [], a => ⟨.inl rfl, .inl rfl⟩
  | d :: ts, a => by
    obtain ⟨h1, h2⟩ := wid_at (r := r) ts (widS r a d)
    rw [List.foldl_cons]
    constructor
    · rcases h1 with h | ⟨e, he, h⟩
      · rw [h]
        unfold widS
        split
        · simp only
          split
          · exact .inr ⟨d, List.mem_cons_self, rfl⟩
          · exact .inl rfl
        · exact .inl rfl
      · exact .inr ⟨e, List.mem_cons_of_mem _ he, h⟩
    · rcases h2 with h | ⟨e, he, h⟩
      · rw [h]
        unfold widS
        split
        · simp only
          split
          · exact .inr ⟨d, List.mem_cons_self, rfl⟩
          · exact .inl rfl
        · exact .inl rfl
      · exact .inr ⟨e, List.mem_cons_of_mem _ he, h⟩
def mirE (d : Sd) : Sd := ⟨-d.o, d.s, mir d.m⟩
theorem mirE_ok {d : Sd} (S : SideP d.o d.s d.m) : SideP (mirE d).o (mirE d).s (mirE d).m := ⟨by show -10 ^ 40 ≤ -d.o; have := S.o1; omega, by show -d.o ≤ 10 ^ 40; have := S.o0; omega, S.s0, S.s1, mir_mode S.md⟩
theorem bk_mir {d : Sd} (S : SideP d.o d.s d.m) (h : Int) : bk (mirE d) (-h) = -(backM d.o d.s d.m (h + 1) - 1) := by
  have S2 := mirE_ok S
  have key : ∀ y : Int, bk (mirE d) (-h) ≤ y ↔ -(backM d.o d.s d.m (h + 1) - 1) ≤ y := fun y => by
    have a := back_iffW (o := (mirE d).o) (v := -h) (y := y) S2.md S2.s0
    have b := back_iffW (o := d.o) (v := h + 1) (y := -y) S.md S.s0
    have m := due_mirror (o := d.o) (s := d.s) (m := d.m) (v := -y) S.md S.s0
    rw [Int.neg_neg] at m
    have m' : dueM (mirE d).o (mirE d).s (mirE d).m y = -dueM d.o d.s d.m (-y) := m
    rw [m'] at a
    show backM (mirE d).o (mirE d).s (mirE d).m (-h) ≤ y ↔ _
    rw [a]
    constructor
    · intro z
      by_cases q : backM d.o d.s d.m (h + 1) ≤ -y
      · have := b.mp q
        omega
      · omega
    · intro z
      by_cases q : h + 1 ≤ dueM d.o d.s d.m (-y)
      · have := b.mpr q
        omega
      · omega
  have h1 := (key (bk (mirE d) (-h))).mp (Int.le_refl _)
  have h2 := (key (-(backM d.o d.s d.m (h + 1) - 1))).mpr (Int.le_refl _)
  omega
theorem per_mirE {d : Sd} (S : SideP d.o d.s d.m) : perN (mirE d) = perN d := by
  unfold perN mirE
  show (perM d.s (mir d.m)).toNat = (perM d.s d.m).toNat
  congr 1
  unfold perM
  rcases S.md with e | e | e | e | e <;> rw [e]
  · rw [mir_d, if_neg (by decide +kernel), if_neg (by decide +kernel)]
  · rw [mir_u, if_neg (by decide +kernel), if_neg (by decide +kernel)]
  · rw [mir_hd, if_neg (by decide +kernel), if_neg (by decide +kernel)]
  · rw [mir_hu, if_neg (by decide +kernel), if_neg (by decide +kernel)]
  · rw [mir_he]
theorem com_mirE {ns : List Sd} (hs : ∀ d ∈ ns, SideP d.o d.s d.m) : comN (ns.map mirE) = comN ns := by
  apply Nat.dvd_antisymm
  · refine com_least (Nat.one_dvd _) fun d hd => ?_
    obtain ⟨e, he, rfl⟩ := List.mem_map.mp hd
    rw [per_mirE (hs e he)]
    exact (com_dvd ns 1).2 e he
  · refine com_least (Nat.one_dvd _) fun d hd => ?_
    rw [← per_mirE (hs d hd)]
    exact (com_dvd (ns.map mirE) 1).2 _ (List.mem_map_of_mem hd)
/-- where the runs go on growing, they are wide from the eleventh on -/
theorem run_wide {ns : List Sd} (ne : ∀ j, j < 1001 → runN ns (j + 1) ≠ runN ns j) (k : Nat) : 11 ≤ (runN ns (11 + k)).2 - (runN ns (11 + k)).1 := by
  have a := run_len ne 11 (by decide)
  have b := run_mono (ns := ns) (Nat.le_add_right 11 k)
  omega
theorem low_seq {ns : List Sd} (hs : ∀ d ∈ ns, SideP d.o d.s d.m ∧ d.s ≤ 12) (ne : ∀ j, j < 1001 → runN ns (j + 1) ≠ runN ns j) : LowSeq ns fun k => (runN ns (11 + k)).1 := by
  refine ⟨fun k => (run_mono (ns := ns) (Nat.le_succ (11 + k))).1, fun k d hd => ?_, fun k lt => ?_⟩
  · have w := run_wide ne k
    have h := hs d hd
    exact ((wid_in (ns := ns) (r := runN ns (11 + k)) (runN ns (11 + k))).2.2 d hd (ne_len h.1 (by omega))).1
  · rcases (wid_at (r := runN ns (11 + k)) ns (runN ns (11 + k))).1 with h | h
    · have h' : (runN ns (11 + (k + 1))).1 = (runN ns (11 + k)).1 := h
      have lt' : (runN ns (11 + (k + 1))).1 < (runN ns (11 + k)).1 := lt
      omega
    · exact h
theorem high_seq {ns : List Sd} (hs : ∀ d ∈ ns, SideP d.o d.s d.m ∧ d.s ≤ 12) (ne : ∀ j, j < 1001 → runN ns (j + 1) ≠ runN ns j) : LowSeq (ns.map mirE) fun k => -(runN ns (11 + k)).2 := by
  refine ⟨fun k => by have h : (runN ns (11 + k)).2 ≤ (runN ns (11 + (k + 1))).2 := (run_mono (ns := ns) (Nat.le_succ (11 + k))).2; show -_ ≤ -_; omega, fun k d hd => ?_, fun k lt => ?_⟩
  · obtain ⟨e, he, rfl⟩ := List.mem_map.mp hd
    have w := run_wide ne k
    have h := hs e he
    have a := ((wid_in (ns := ns) (r := runN ns (11 + k)) (runN ns (11 + k))).2.2 e he (ne_len h.1 (by omega))).2
    have a' : backM e.o e.s e.m ((runN ns (11 + k)).2 + 1) - 1 ≤ (runN ns (11 + (k + 1))).2 := a
    show -(runN ns (11 + (k + 1))).2 ≤ bk (mirE e) (-(runN ns (11 + k)).2)
    rw [bk_mir h.1]
    omega
  · have lt' : -(runN ns (11 + (k + 1))).2 < -(runN ns (11 + k)).2 := lt
    rcases (wid_at (r := runN ns (11 + k)) ns (runN ns (11 + k))).2 with h | ⟨e, he, h⟩
    · have h' : (runN ns (11 + (k + 1))).2 = (runN ns (11 + k)).2 := h
      omega
    · have h' : (runN ns (11 + (k + 1))).2 = backM e.o e.s e.m ((runN ns (11 + k)).2 + 1) - 1 := h
      refine ⟨mirE e, List.mem_map_of_mem he, ?_⟩
      show -(runN ns (11 + (k + 1))).2 = bk (mirE e) (-(runN ns (11 + k)).2)
      rw [bk_mir (hs e he).1]
      omega
/-- a low end that stands lies within a period -/
theorem lo_far {ns : List Sd} (hns : ∀ d ∈ ns, SideP d.o d.s d.m) {N : Int} (hN : ∀ d ∈ ns, ∃ t, N = perM d.s d.m * t) (N1 : 1 ≤ N) {k : Nat} (h : loOk ns (runN ns k).1) : -N < (runN ns k).1 := by
  by_cases z : -N < (runN ns k).1
  · exact z
  · exfalso
    have y0 : (runN ns k).1 + N ≤ 0 := by omega
    have key : ∀ j, (runN ns k).1 + N ≤ (runN ns j).1 := fun j => by
      induction j with
      | zero => exact y0
      | succ j ih =>
        rcases (wid_at (r := runN ns j) ns (runN ns j)).1 with q | ⟨d, hd, q⟩
        · have q' : (runN ns (j + 1)).1 = (runN ns j).1 := q
          omega
        · have q' : (runN ns (j + 1)).1 = backM d.o d.s d.m (runN ns j).1 := q
          have S := hns d hd
          obtain ⟨t, ht⟩ := hN d hd
          have a := h d hd
          have b := back_iffW (o := d.o) (v := (runN ns k).1) (y := (runN ns k).1 - 1) S.md S.s0
          have c := back_per (o := d.o) (v := (runN ns k).1 - 1) S.md S.s0 t
          rw [← ht] at c
          have e := back_iffW (o := d.o) (v := (runN ns j).1) (y := (runN ns k).1 - 1 + N) S.md S.s0
          by_cases u : backM d.o d.s d.m (runN ns j).1 ≤ (runN ns k).1 - 1 + N
          · have := e.mp u
            have lt : ¬ (runN ns k).1 ≤ dueM d.o d.s d.m ((runN ns k).1 - 1) := fun z => by have := b.mpr z; omega
            omega
          · omega
    have := key k
    omega
theorem per_dvd {ns : List Sd} (hs : ∀ d ∈ ns, SideP d.o d.s d.m) : ∀ d ∈ ns, ∃ t, (comN ns : Int) = perM d.s d.m * t := fun d hd => by
  obtain ⟨t, ht⟩ := (com_dvd ns 1).2 d hd
  refine ⟨t, ?_⟩
  have : comN ns = perN d * t := ht
  rw [this, Int.natCast_mul, perN_eq (hs d hd)]
/-- by run 999 each end stands, or has left the window -/
theorem ends_rest {ns : List Sd} (hs : ∀ d ∈ ns, SideP d.o d.s d.m ∧ d.s ≤ 12) (l4 : ns.length ≤ 4) (hN : comN ns ≤ 2000) (ne : ∀ j, j < 1001 → runN ns (j + 1) ≠ runN ns j) :
    ((∃ k, k < 999 ∧ loOk ns (runN ns k).1) ∨ (runN ns 999).1 ≤ -(comN ns : Int)) ∧ ((∃ k, k < 999 ∧ hiOk ns (runN ns k).2) ∨ (comN ns : Int) ≤ (runN ns 999).2) := by
  have hs1 : ∀ d ∈ ns, SideP d.o d.s d.m := fun d hd => (hs d hd).1
  have z0 := run_mono (ns := ns) (Nat.zero_le 11)
  have z1 : runN ns 0 = (0, 0) := rfl
  rw [z1] at z0
  constructor
  · obtain ⟨p1, p2, alt⟩ := alt_ok hs l4 hN
    rcases low_main p1 p2 (low_seq hs ne) z0.1 alt with ⟨k, hk, e⟩ | h
    · refine .inl ⟨11 + k, by omega, lo_of hs1 e fun d hd => ?_⟩
      have := run_wide ne k
      have := (hs d hd).2
      omega
    · exact .inr h
  · have hm : ∀ d ∈ ns.map mirE, SideP d.o d.s d.m ∧ d.s ≤ 12 := fun d hd => by
      obtain ⟨e, he, rfl⟩ := List.mem_map.mp hd
      exact ⟨mirE_ok (hs e he).1, (hs e he).2⟩
    have ce := com_mirE hs1
    obtain ⟨p1, p2, alt⟩ := alt_ok hm (by rw [List.length_map]; exact l4) (by rw [ce]; exact hN)
    rw [ce] at alt
    rcases low_main p1 p2 (high_seq hs ne) (by show -(runN ns 11).2 ≤ 0; have := z0.2; simp only at this; omega) alt with ⟨k, hk, e⟩ | h
    · have e' : -(runN ns (11 + (k + 1))).2 = -(runN ns (11 + k)).2 := e
      refine .inl ⟨11 + k, by omega, hi_of hs1 (r := runN ns (11 + k)) (by show (runN ns (11 + (k + 1))).2 = _; omega) fun d hd => ?_⟩
      have := run_wide ne k
      have := (hs d hd).2
      omega
    · have h' : -(runN ns 999).2 ≤ -(comN ns : Int) := h
      exact .inr (by omega)
end HT
namespace HT
open PySem L2
theorem com_mov (v : Int) (ss : List Sd) : comN (ss.map (movD v)) = comN ss := by
  unfold comN
  rw [List.foldl_map]
  rfl
theorem per_ge {ns : List Sd} (hs : ∀ d ∈ ns, SideP d.o d.s d.m) : ∀ d ∈ ns, d.s ≤ (comN ns : Int) := fun d hd => by
  have S := hs d hd
  have pb := perM_bd S
  have cp : 0 < comN ns := com_pos ns 1 (by decide) hs
  have le := Nat.le_of_dvd cp ((com_dvd ns 1).2 d hd)
  have e := perN_eq S
  have : d.s ≤ perM d.s d.m := by
    have := S.s0
    unfold perM
    split <;> omega
  have e2 : comN ns = ns.foldl (fun n d => n.lcm (perN d)) 1 := rfl
  omega
/-- small sides: a way back is found, or there is none, and no error comes -/
theorem route_any {ss : List Sd} (hss : ∀ d ∈ ss, SideP d.o d.s d.m ∧ d.s ≤ 12) (l4 : ss.length ≤ 4) (hN : comN ss ≤ 2000) {v s : Int} (near : v - (comN ss : Int) - 1 ≤ s ∧ s ≤ v + (comN ss : Int) + 1) :
    RouteOk v ss s ∧ (∀ n, RunsTo (ss.map (movD (-v))) n → n = 1001 → (∀ i, i ≤ 1000 → ¬ inR v (ss.map (movD (-v))) s i) → ∀ i, ¬ inR v (ss.map (movD (-v))) s i) := by
  have hns : ∀ d ∈ ss.map (movD (-v)), SideP d.o d.s d.m ∧ d.s ≤ 12 := fun d hd => by
    obtain ⟨e, he, rfl⟩ := List.mem_map.mp hd
    exact ⟨side_mov _ (hss e he).1, (hss e he).2⟩
  have pos : 0 < comN ss := com_pos ss 1 (by decide) fun d hd => (hss d hd).1
  have cm := com_mov (-v) ss
  have ln : (ss.map (movD (-v))).length ≤ 4 := by rw [List.length_map]; exact l4
  unfold RouteOk
  rw [← cm] at hN near pos ⊢
  clear cm l4 hss
  generalize ss.map (movD (-v)) = ns at *
  have h1 : ∀ d ∈ ns, SideP d.o d.s d.m := fun d hd => (hns d hd).1
  have per := per_dvd h1
  have ge := per_ge h1
  have N1 : (1 : Int) ≤ (comN ns : Int) := by omega
  have z0 : ∀ i, (runN ns i).1 ≤ 0 ∧ 0 ≤ (runN ns i).2 := fun i => run_mono (ns := ns) (Nat.zero_le i)
  have side : ∀ i, ¬ inR v ns s i → (s < v + (runN ns i).1 ∧ s < v) ∨ (v + (runN ns i).2 < s ∧ v < s) := fun i h => by
    have := z0 i
    unfold inR at h
    omega
  -- the last runs
  have last : ∀ n, RunsTo ns n → n = 1001 → (∀ i, i ≤ 1000 → ¬ inR v ns s i) → (s < v ∧ ∃ k, k < 999 ∧ loOk ns (runN ns k).1 ∧ s < v + (runN ns k).1) ∨ (v < s ∧ ∃ k, k < 999 ∧ hiOk ns (runN ns k).2 ∧ v + (runN ns k).2 < s) := fun n to e no => by
    have ne := fun j (hj : j < 1001) => to.ne j (by omega)
    obtain ⟨lo, hi⟩ := ends_rest hns ln hN ne
    have wide : 11 ≤ (runN ns 999).2 - (runN ns 999).1 := run_wide ne 988
    rcases side 1000 (no 1000 (by decide)) with ⟨a, b⟩ | ⟨a, b⟩
    · left
      refine ⟨b, ?_⟩
      rcases lo with ⟨k, hk, q⟩ | q
      · refine ⟨k, hk, q, ?_⟩
        rcases side k (no k (by omega)) with ⟨c, _⟩ | ⟨_, c⟩
        · exact c
        · omega
      · exfalso
        have m := (run_mono (ns := ns) (Nat.le_succ 999)).1
        have m' : (runN ns 1000).1 ≤ (runN ns 999).1 := m
        by_cases st : (runN ns 1000).1 = (runN ns 999).1
        · have ok := lo_of h1 (r := runN ns 999) st fun d hd => by have := (hns d hd).2; omega
          have := lo_far h1 per N1 ok
          omega
        · omega
    · right
      refine ⟨b, ?_⟩
      rcases hi with ⟨k, hk, q⟩ | q
      · refine ⟨k, hk, q, ?_⟩
        rcases side k (no k (by omega)) with ⟨_, c⟩ | ⟨c, _⟩
        · omega
        · exact c
      · exfalso
        have m := (run_mono (ns := ns) (Nat.le_succ 999)).2
        have m' : (runN ns 999).2 ≤ (runN ns 1000).2 := m
        by_cases st : (runN ns 1000).2 = (runN ns 999).2
        · have ok := hi_of h1 (r := runN ns 999) st fun d hd => by have := (hns d hd).2; omega
          have := hi_far h1 per N1 ok
          omega
        · omega
  have never : ∀ n, RunsTo ns n → n = 1001 → (∀ i, i ≤ 1000 → ¬ inR v ns s i) → ∀ i, ¬ inR v ns s i := fun n to e no i w => by
    have zi := z0 i
    unfold inR at w
    rcases last n to e no with ⟨b, k, hk, q, lt⟩ | ⟨b, k, hk, q, lt⟩
    · rcases Nat.le_total k i with z | z
      · have := lo_ever q (i - k)
        rw [show k + (i - k) = i by omega] at this
        omega
      · have := (run_mono (ns := ns) z).1
        omega
    · rcases Nat.le_total k i with z | z
      · have := hi_ever q (i - k)
        rw [show k + (i - k) = i by omega] at this
        omega
      · have := (run_mono (ns := ns) z).2
        omega
  refine ⟨fun n to => ?_, never⟩
  by_cases ex : ∃ i, i ≤ n ∧ i ≤ 1000 ∧ inR v ns s i
  · exact .inl ex
  refine .inr ?_
  have none_ : ∀ i, i ≤ n → i ≤ 1000 → ¬ inR v ns s i := fun i a b z => ex ⟨i, a, b, z⟩
  have le := to.le
  -- what holds at the end
  have fin : ((s < v + (runN ns n).1 ∧ -(comN ns : Int) < (runN ns n).1) ∨ (v + (runN ns n).2 < s ∧ (runN ns n).2 < (comN ns : Int))) := by
    by_cases e : n = 1001
    · rcases last n to e (fun i hi => none_ i (by omega) hi) with ⟨b, k, hk, q, lt⟩ | ⟨b, k, hk, q, lt⟩
      · have f := lo_far h1 per N1 q
        have := lo_ever q (n - k)
        rw [show k + (n - k) = n by omega] at this
        exact .inl (by omega)
      · have f := hi_far h1 per N1 q
        have := hi_ever q (n - k)
        rw [show k + (n - k) = n by omega] at this
        exact .inr (by omega)
    · have st := to.stop.resolve_left e
      have stw : widF ns (runN ns n) = runN ns n := st
      have zn := z0 n
      rcases side n (none_ n (Nat.le_refl _) (by omega)) with ⟨a, b⟩ | ⟨a, b⟩
      · refine .inl ⟨a, ?_⟩
        by_cases c : -(comN ns : Int) < (runN ns n).1
        · exact c
        · exact lo_far h1 per N1 (lo_of h1 (r := runN ns n) (by rw [stw]) fun d hd => by have := ge d hd; omega)
      · refine .inr ⟨a, ?_⟩
        by_cases c : (runN ns n).2 < (comN ns : Int)
        · exact c
        · exact hi_far h1 per N1 (hi_of h1 (r := runN ns n) (by rw [stw]) fun d hd => by have := ge d hd; omega)
  refine ⟨fun too => ?_, ?_⟩
  · obtain ⟨e, nq⟩ := too
    have ne := fun j (hj : j < 1001) => to.ne j (by omega)
    obtain ⟨lo, hi⟩ := ends_rest hns ln hN ne
    refine nq (Prod.ext ?_ ?_)
    · show (if (runN ns 1000).1 < -(comN ns : Int) then -(comN ns : Int) else (runN ns 1000).1) = if (runN ns 1001).1 < -(comN ns : Int) then -(comN ns : Int) else (runN ns 1001).1
      rcases lo with ⟨k, hk, q⟩ | q
      · have a := lo_ever q (1000 - k)
        have b := lo_ever q (1001 - k)
        rw [show k + (1000 - k) = 1000 by omega] at a
        rw [show k + (1001 - k) = 1001 by omega] at b
        rw [a, b]
      · have a := (run_mono (ns := ns) (show 999 ≤ 1000 by decide)).1
        have b := (run_mono (ns := ns) (show 999 ≤ 1001 by decide)).1
        split <;> split <;> omega
    · show (if (comN ns : Int) < (runN ns 1000).2 then (comN ns : Int) else (runN ns 1000).2) = if (comN ns : Int) < (runN ns 1001).2 then (comN ns : Int) else (runN ns 1001).2
      rcases hi with ⟨k, hk, q⟩ | q
      · have a := hi_ever q (1000 - k)
        have b := hi_ever q (1001 - k)
        rw [show k + (1000 - k) = 1000 by omega] at a
        rw [show k + (1001 - k) = 1001 by omega] at b
        rw [a, b]
      · have a := (run_mono (ns := ns) (show 999 ≤ 1000 by decide)).2
        have b := (run_mono (ns := ns) (show 999 ≤ 1001 by decide)).2
        split <;> split <;> omega
  · unfold holdsF
    rcases fin with ⟨a, b⟩ | ⟨a, b⟩
    · have c : (clipN (comN ns) (runN ns n)).1 = (runN ns n).1 := by
        unfold clipN
        exact if_neg (by omega)
      have e : loE v (comN ns) (runN ns n) = some (v + (runN ns n).1) := by
        unfold loE
        rw [c, if_neg (by omega)]
      rw [e]
      show (decide (v + (runN ns n).1 ≤ s) && _) = false
      rw [decide_eq_false (by omega), Bool.false_and]
    · have c : (clipN (comN ns) (runN ns n)).2 = (runN ns n).2 := by
        unfold clipN
        exact if_neg (by omega)
      have e : hiE v (comN ns) (runN ns n) = some (v + (runN ns n).2) := by
        unfold hiE
        rw [c, if_neg (by omega)]
      rw [e]
      show (_ && decide (s ≤ v + (runN ns n).2)) = false
      rw [decide_eq_false (by omega), Bool.and_false]
end HT
namespace HT
open PySem L2
def spTwoX (K : PySem.W.Frag) (C : Nat → Addr) : Sp := fun vs H Q E => ∃ x y : V, vs = [x, y] ∧ ((BadL K H x ∧ E (.ref (C 1)) none H) ∨ (∃ l xs n, x = .ref l ∧ GoodL H l xs ∧ Th H y n ∧ isI n = false ∧ E (.ref (C 3)) none H))
def spOutA (K : PySem.W.Frag) (C : Nat → Addr) : Sp := fun vs H Q E => spOut C vs H Q E ∨ spTwoX K C vs H Q E
def spRestsA (K : PySem.W.Frag) (C : Nat → Addr) : Sp := fun vs H Q E => spRests C vs H Q E ∨ spTwoX K C vs H Q E
def spWord60 (K : PySem.W.Frag) : Sp := fun vs H Q _ => ∃ (kd : Nat) (x y : V), vs = [.int (kd : Int), x, y] ∧ kd < 2 ∧ ((BadL K H x ∧ ∀ H', Same H H' → Q (.str "sides") H') ∨ (∃ l xs n, x = .ref l ∧ GoodL H l xs ∧ Th H y n ∧ isI n = false ∧ ∀ H', Same H H' → Q (.str "value") H') ∨
  (∃ l xs ss v, x = .ref l ∧ SidesAt H l xs ss ∧ y = .int v ∧ (-2 ^ 500 < v ∧ v < 2 ^ 500) ∧ (∀ H', (∀ R, OutIs ss v R → 1000 < R.length) → Same H H' → Q (.str "many") H') ∧
    (kd = 0 → ∀ (R : List Int) (p : Addr) (H' : Hp), OutIs ss v R → R.length ≤ 1000 → (∀ y ∈ R, v - 10 ^ 34 ≤ y ∧ y ≤ v + 10 ^ 34) → Same H H' → H p = none → H' p = some (.lst (R.map V.int)) → Q (.ref p) H') ∧
    (kd = 1 → ∀ (Ls : List (List Int)) (p : Addr) (H' : Hp), RestIs ss v Ls → (∃ R, OutIs ss v R ∧ R.length ≤ 1000) → Same H H' → NewL H H' p Ls → Q (.ref p) H')))
theorem same_upd {H : Hp} {a : Addr} {o : HO} (h : H a = none) : Same H (upd H a o) := fun b u z => (upd_ne (ne_of_none z h)).trans z
theorem same_ex {H H' : Hp} {a : Addr} {o : HO} (s : Same H H') (h : H' a = none) : Same H (upd H' a o) := s.trans (same_upd h)
section
variable {P : Program} {w : World} {K : PySem.W.Frag} {mg : Str → Option Value} {base : Heap} {fA fB B : Addr} {dA dB : FuncData} {C : Nat → Addr}
theorem ok_out_x {f : Addr} {fd : FuncData} (F : Fun K "outcomes" "outcomes" s_outcomes f fd) (Ls : CalX P w K mg base "check_sides" 5 ["sides"] (spSidesX K C) fA dA) (Vl : CalX P w K mg base "check_value" 2 ["value"] (spValX C) fB dB) : FnOk P w K mg base (L2.CX P w) 6 f fd ["sides", "value"] (spTwoX K C) := by
  refine F.okAny sc_outcomes (fun vs H Q E h => ?_) (fun cdv A outer s0 H vs Q E hr h => ?_)
  · obtain ⟨x, y, rfl, _⟩ := h
    rfl
  · obtain ⟨x, y, rfl, h⟩ := h
    refine ⟨_, pss_cons (ps_expr (pcx Ls hr (by decide) (by rfl) (takes_of rfl rfl rfl rfl) (pa_cons (pv 0) pa_nil))) (pss_cons (ps_expr (pcx Vl hr (by decide) (by rfl) (takes_of rfl rfl rfl rfl) (pa_cons (pv 1) pa_nil))) (pss_cons ps_never (pss_cons ps_never (pss_cons ps_never (pss_cons ps_never (pss_one ps_never)))))), ?_⟩
    walk_at "rd"
    rcases h with ⟨bad, q⟩ | ⟨l, xs, n, rfl, gl, ty, ni, q⟩
    · exact .inr ⟨bad, q⟩
    · refine .inl ⟨l, xs, rfl, gl, ?_⟩
      walk_at "rd"
      exact ⟨_, n, rfl, ty, fun z => absurd z (by rw [ni]; decide), fun _ => q⟩
theorem ok_rests_x {f : Addr} {fd : FuncData} (F : Fun K "rests" "rests" s_rests f fd) (Ou : CalX P w K mg base "outcomes" 6 ["sides", "value"] (spOutA K C) fA dA) : FnOk P w K mg base (L2.CX P w) 8 f fd ["sides", "value"] (spTwoX K C) := by
  refine F.okAny sc_rests (fun vs H Q E h => ?_) (fun cdv A outer s0 H vs Q E hr h => ?_)
  · obtain ⟨x, y, rfl, _⟩ := h
    rfl
  · obtain ⟨x, y, rfl, h⟩ := h
    have nd := sc_rests.nd
    refine ⟨_, pss_cons (ps_set (i := 2) nd rfl (Or.inl rfl) (pcx Ou hr (by decide) (by rfl) (takes_of rfl rfl rfl rfl) (pa_cons (pv 0) (pa_cons (pv 1) pa_nil)))) (pss_cons ps_never (pss_cons ps_never (pss_cons ps_never (pss_one ps_never)))), ?_⟩
    walk_at "rd"
    exact .inr ⟨x, y, rfl, h⟩
theorem ok_L_word {f : Addr} {fd : FuncData} (F : Fun K "_law_word" "_law_word" s_L_word f fd) (R : Er K mg C B) (Ou : CalX P w K mg base "outcomes" 6 ["sides", "value"] (spOutA K C) fA dA) (Re : CalX P w K mg base "rests" 8 ["sides", "value"] (spRestsA K C) fB dB) : FnOk P w K mg base CX0 9 f fd ["_law_kind", "_law_sides", "_law_value"] (spWord60 K) := by
  refine F.ok sc_L_word (fun vs H Q E h => ?_) (fun cdv A outer s0 H vs Q E hr h => ?_)
  · obtain ⟨kd, x, y, rfl, _⟩ := h
    rfl
  · obtain ⟨kd, x, y, rfl, kd2, h⟩ := h
    have nd := sc_L_word.nd
    refine ⟨_, pss_cons (ps_set (i := 3) nd rfl (Or.inl rfl) pe_non) (pss_cons (ps_set (i := 4) nd rfl (Or.inl rfl) pe_non)
      (pss_cons (ps_mid (ps_try_keep (i := 5) rfl rfl rfl nd rfl rfl ⟨rfl, by decide, .inl R.gB⟩ takes0 (fun W pn xe tk _ => pss_one (ps_if (pt_cmpR op_eq (pv 0) pe_int (nomark _)) (pss_one (ps_set (i := 4) nd rfl (Or.inl rfl) (pcx Ou hr (by decide) (by rfl) tk (pa_cons (pv 1) (pa_cons (pv 2) pa_nil))))) (pss_one (ps_set (i := 4) nd rfl (Or.inl rfl) (pcx Re hr (by decide) (by rfl) tk (pa_cons (pv 1) (pa_cons (pv 2) pa_nil)))))))
        (fun a rc kl dd pn hz hf => pss_one (ps_set (i := 3) nd rfl (Or.inl rfl) (pv 5)))))
      (pss_cons (ps_if (pt_cmpR op_isN (pv 3) pe_non (nomark _)) (pss_one (ps_ret (pv 4))) pss_nil)
      (pss_cons (ps_set (i := 6) nd rfl (Or.inl rfl) (pe_lst (pa_cons (pe_callB call_isKept (by rfl) R.isi (by decide +kernel) (pa_cons (pv 3) (pa_cons (pe_glob (v := .ref (C 1)) (by rfl) R.g1 rfl) pa_nil))) (pa_cons (pe_callB call_isKept (by rfl) R.isi (by decide +kernel) (pa_cons (pv 3) (pa_cons (pe_glob (v := .ref (C 3)) (by rfl) R.g3 rfl) pa_nil))) (pa_cons (pe_callB call_isKept (by rfl) R.isi (by decide +kernel) (pa_cons (pv 3) (pa_cons (pe_glob (v := .ref (C 2)) (by rfl) R.g2 rfl) pa_nil))) pa_nil)))))
      (pss_cons (ps_if (PW.pt (pw_or (pt_cmpR op_ne (pe_bm PySem.F.plainAttrs_list PySem.F.slot_list_count PySem.F.type_list_count mt_cntV (pv 6) (pa_cons pe_bl pa_nil)) pe_int (nomark _)) (pw_or1 (pt_not (pt_val (pe_callB call_isKept (by rfl) R.isi (by decide +kernel) (pa_cons (pv 3) (pa_cons (pe_bltn (v := .ty "ValueError") (by rfl) R.ve (by decide +kernel) rfl) pa_nil)))))))) (pss_one (ps_ret pe_str)) pss_nil)
      (pss_one (ps_ret (pe_ix ix_list (pe_lst (pa_cons pe_str (pa_cons pe_str (pa_cons pe_str pa_nil)))) (pe_bm PySem.F.plainAttrs_list PySem.F.slot_list_index PySem.F.type_list_index mt_index (pv 6) (pa_cons pe_bl pa_nil)) (fun _ _ => rfl))))))))), ?_⟩
    walk_at "rd"
    refine ⟨fun st H1 => (∃ v : V, st = [some (.int (kd : Int)), some x, some y, some .non, some v, none, none] ∧ Q v H1) ∨ (∃ (a : Addr) (n : Nat) (x5 : Option V), st = [some (.int (kd : Int)), some x, some y, some (.ref a), some .non, x5, none] ∧ Same H H1 ∧ H1 a = some (ExK (.ref (C n)) a) ∧
      ((n = 1 ∧ ∀ H', Same H H' → Q (.str "sides") H') ∨ (n = 3 ∧ ∀ H', Same H H' → Q (.str "value") H') ∨ (n = 2 ∧ ∀ H', Same H H' → Q (.str "many") H'))), ?_, ?_⟩
    · rcases (by omega : kd = 0 ∨ kd = 1) with rfl | rfl
      · skip
        walk_at "rd"
        refine ⟨rfl, ?_⟩
        walk_at "rd"
        rcases h with ⟨bad, q⟩ | ⟨l, xs, n, rfl, S, t, ni, q⟩ | ⟨l, xs, ss, v, rfl, S, rfl, vb, qm, q0, q1⟩
        · refine Or.inr ⟨x, y, rfl, .inl ⟨bad, ?_⟩⟩
          refine ⟨true, R.emB 1 (by decide), fun _ => ⟨rfl, fun a ha => ?_⟩, fun z => Bool.noConfusion z⟩
          walk_at "rd"
          exact .inr ⟨a, 1, _, rfl, same_upd ha, upd_same, .inl ⟨rfl, q⟩⟩
        · refine Or.inr ⟨.ref l, y, rfl, .inr ⟨l, xs, n, rfl, S, t, ni, ?_⟩⟩
          refine ⟨true, R.emB 3 (by decide), fun _ => ⟨rfl, fun a ha => ?_⟩, fun z => Bool.noConfusion z⟩
          walk_at "rd"
          exact .inr ⟨a, 3, _, rfl, same_upd ha, upd_same, .inr (.inl ⟨rfl, q⟩)⟩
        · refine Or.inl ⟨l, xs, ss, v, rfl, S, by omega, fun R p H1 oR lR bR s1 np hp => ?_, fun H1 inf s1 => ?_⟩
          · walk_at "rd"
            exact q0 rfl R p H1 oR lR bR s1 np hp
          · refine ⟨true, R.emB 2 (by decide), fun _ => ⟨rfl, fun a ha => ?_⟩, fun z => Bool.noConfusion z⟩
            walk_at "rd"
            exact .inr ⟨a, 2, _, rfl, same_ex s1 ha, upd_same, .inr (.inr ⟨rfl, fun H' => qm H' inf⟩)⟩
      · skip
        walk_at "rd"
        refine ⟨rfl, ?_⟩
        walk_at "rd"
        rcases h with ⟨bad, q⟩ | ⟨l, xs, n, rfl, S, t, ni, q⟩ | ⟨l, xs, ss, v, rfl, S, rfl, vb, qm, q0, q1⟩
        · refine Or.inr ⟨x, y, rfl, .inl ⟨bad, ?_⟩⟩
          refine ⟨true, R.emB 1 (by decide), fun _ => ⟨rfl, fun a ha => ?_⟩, fun z => Bool.noConfusion z⟩
          walk_at "rd"
          exact .inr ⟨a, 1, _, rfl, same_upd ha, upd_same, .inl ⟨rfl, q⟩⟩
        · refine Or.inr ⟨.ref l, y, rfl, .inr ⟨l, xs, n, rfl, S, t, ni, ?_⟩⟩
          refine ⟨true, R.emB 3 (by decide), fun _ => ⟨rfl, fun a ha => ?_⟩, fun z => Bool.noConfusion z⟩
          walk_at "rd"
          exact .inr ⟨a, 3, _, rfl, same_upd ha, upd_same, .inr (.inl ⟨rfl, q⟩)⟩
        · refine Or.inl ⟨l, xs, ss, v, rfl, S, by omega, fun Ls p H1 oR fR s1 hp => ?_, fun H1 inf s1 => ?_⟩
          · walk_at "rd"
            exact q1 rfl Ls p H1 oR fR s1 hp
          · refine ⟨true, R.emB 2 (by decide), fun _ => ⟨rfl, fun a ha => ?_⟩, fun z => Bool.noConfusion z⟩
            walk_at "rd"
            exact .inr ⟨a, 2, _, rfl, same_ex s1 ha, upd_same, .inr (.inr ⟨rfl, fun H' => qm H' inf⟩)⟩
    rintro st H1 (⟨v, rfl, qv⟩ | ⟨a, n, x5, rfl, s1, ga, hn⟩)
    · walk_at "rd"
      refine ⟨rfl, ?_⟩
      walk_at "rd"
      exact qv
    clear h
    walk_at "rd"
    rcases hn with ⟨rfl, qq⟩ | ⟨rfl, qq⟩ | ⟨rfl, qq⟩
    · skip
      refine ⟨rfl, ?_⟩
      walk_at "rd"
      refine ⟨a, C 1, _, .ref (C 1), decide (1 = 1), rfl, .own _, ga, R.ec 1 (by decide), R.eg, R.kit 1 1 (by decide) (by decide), ?_⟩
      walk_at "rd"
      refine ⟨a, C 1, _, .ref (C 3), decide (1 = 3), rfl, .own _, ga, R.ec 1 (by decide), R.eg, R.kit 1 3 (by decide) (by decide), ?_⟩
      walk_at "rd"
      refine ⟨a, C 1, _, .ref (C 2), decide (1 = 2), rfl, .own _, ga, R.ec 1 (by decide), R.eg, R.kit 1 2 (by decide) (by decide), ?_⟩
      walk_at "rd"
      refine ⟨(by show 3 ≤ sizeLine; decide), fun l1 nl1 => ?_⟩
      have hl1 : upd H1 l1 (.lst [V.bl (decide (1 = 1)), .bl (decide (1 = 3)), .bl (decide (1 = 2))]) l1 = some (.lst [V.bl (decide (1 = 1)), .bl (decide (1 = 3)), .bl (decide (1 = 2))]) := upd_same
      have eb1 : Same H1 (upd H1 l1 (.lst [V.bl (decide (1 = 1)), .bl (decide (1 = 3)), .bl (decide (1 = 2))])) := same_upd nl1
      generalize upd H1 l1 (.lst [V.bl (decide (1 = 1)), .bl (decide (1 = 3)), .bl (decide (1 = 2))]) = HX at eb1 hl1 ⊢
      walk_at "rd"
      refine ⟨.inl ⟨rfl, _, SqL.of hl1⟩, ?_⟩
      walk_at "rd"
      refine ⟨l1, _, .bl true, rfl, rfl, SqL.of hl1, rfl, rfl, ?_⟩
      walk_at "rd"
      refine ⟨rfl, ?_⟩
      walk_at "rd"
      refine ⟨a, C 1, _, .type "ValueError", true, rfl, .ty _, eb1 _ _ ga, R.ec 1 (by decide), R.eg, R.kitV 1 (by decide), ?_⟩
      walk_at "rd"
      refine ⟨(by show 3 ≤ sizeLine; decide), fun l4 nl4 => ?_⟩
      have hl4 : upd HX l4 (.lst [V.str "sides", .str "value", .str "many"]) l4 = some (.lst [V.str "sides", .str "value", .str "many"]) := upd_same
      have eb4 : Same HX (upd HX l4 (.lst [V.str "sides", .str "value", .str "many"])) := same_upd nl4
      generalize upd HX l4 (.lst [V.str "sides", .str "value", .str "many"]) = HY at eb4 hl4 ⊢
      walk_at "rd"
      refine ⟨.inl ⟨rfl, _, SqL.of (eb4 _ _ hl1)⟩, ?_⟩
      walk_at "rd"
      refine ⟨l1, _, .bl true, 0, .bl true, rfl, rfl, SqL.of (eb4 _ _ hl1), rfl, rfl, rfl, rfl, fun m z' hm hz => ?_, ?_⟩
      · exact absurd hm (Nat.not_lt_zero _)
      refine ⟨l4, _, _, _, rfl, rfl, SqL.of hl4, rfl, ?_⟩
      exact qq _ (s1.trans (eb1.trans eb4))
    · skip
      refine ⟨rfl, ?_⟩
      walk_at "rd"
      refine ⟨a, C 3, _, .ref (C 1), decide (3 = 1), rfl, .own _, ga, R.ec 3 (by decide), R.eg, R.kit 3 1 (by decide) (by decide), ?_⟩
      walk_at "rd"
      refine ⟨a, C 3, _, .ref (C 3), decide (3 = 3), rfl, .own _, ga, R.ec 3 (by decide), R.eg, R.kit 3 3 (by decide) (by decide), ?_⟩
      walk_at "rd"
      refine ⟨a, C 3, _, .ref (C 2), decide (3 = 2), rfl, .own _, ga, R.ec 3 (by decide), R.eg, R.kit 3 2 (by decide) (by decide), ?_⟩
      walk_at "rd"
      refine ⟨(by show 3 ≤ sizeLine; decide), fun l1 nl1 => ?_⟩
      have hl1 : upd H1 l1 (.lst [V.bl (decide (3 = 1)), .bl (decide (3 = 3)), .bl (decide (3 = 2))]) l1 = some (.lst [V.bl (decide (3 = 1)), .bl (decide (3 = 3)), .bl (decide (3 = 2))]) := upd_same
      have eb1 : Same H1 (upd H1 l1 (.lst [V.bl (decide (3 = 1)), .bl (decide (3 = 3)), .bl (decide (3 = 2))])) := same_upd nl1
      generalize upd H1 l1 (.lst [V.bl (decide (3 = 1)), .bl (decide (3 = 3)), .bl (decide (3 = 2))]) = HX at eb1 hl1 ⊢
      walk_at "rd"
      refine ⟨.inl ⟨rfl, _, SqL.of hl1⟩, ?_⟩
      walk_at "rd"
      refine ⟨l1, _, .bl true, rfl, rfl, SqL.of hl1, rfl, rfl, ?_⟩
      walk_at "rd"
      refine ⟨rfl, ?_⟩
      walk_at "rd"
      refine ⟨a, C 3, _, .type "ValueError", true, rfl, .ty _, eb1 _ _ ga, R.ec 3 (by decide), R.eg, R.kitV 3 (by decide), ?_⟩
      walk_at "rd"
      refine ⟨(by show 3 ≤ sizeLine; decide), fun l4 nl4 => ?_⟩
      have hl4 : upd HX l4 (.lst [V.str "sides", .str "value", .str "many"]) l4 = some (.lst [V.str "sides", .str "value", .str "many"]) := upd_same
      have eb4 : Same HX (upd HX l4 (.lst [V.str "sides", .str "value", .str "many"])) := same_upd nl4
      generalize upd HX l4 (.lst [V.str "sides", .str "value", .str "many"]) = HY at eb4 hl4 ⊢
      walk_at "rd"
      refine ⟨.inl ⟨rfl, _, SqL.of (eb4 _ _ hl1)⟩, ?_⟩
      walk_at "rd"
      refine ⟨l1, _, .bl true, 1, .bl true, rfl, rfl, SqL.of (eb4 _ _ hl1), rfl, rfl, rfl, rfl, fun m z' hm hz => ?_, ?_⟩
      · obtain rfl : m = 0 := by omega
        cases hz
        rfl
      refine ⟨l4, _, _, _, rfl, rfl, SqL.of hl4, rfl, ?_⟩
      exact qq _ (s1.trans (eb1.trans eb4))
    · skip
      refine ⟨rfl, ?_⟩
      walk_at "rd"
      refine ⟨a, C 2, _, .ref (C 1), decide (2 = 1), rfl, .own _, ga, R.ec 2 (by decide), R.eg, R.kit 2 1 (by decide) (by decide), ?_⟩
      walk_at "rd"
      refine ⟨a, C 2, _, .ref (C 3), decide (2 = 3), rfl, .own _, ga, R.ec 2 (by decide), R.eg, R.kit 2 3 (by decide) (by decide), ?_⟩
      walk_at "rd"
      refine ⟨a, C 2, _, .ref (C 2), decide (2 = 2), rfl, .own _, ga, R.ec 2 (by decide), R.eg, R.kit 2 2 (by decide) (by decide), ?_⟩
      walk_at "rd"
      refine ⟨(by show 3 ≤ sizeLine; decide), fun l1 nl1 => ?_⟩
      have hl1 : upd H1 l1 (.lst [V.bl (decide (2 = 1)), .bl (decide (2 = 3)), .bl (decide (2 = 2))]) l1 = some (.lst [V.bl (decide (2 = 1)), .bl (decide (2 = 3)), .bl (decide (2 = 2))]) := upd_same
      have eb1 : Same H1 (upd H1 l1 (.lst [V.bl (decide (2 = 1)), .bl (decide (2 = 3)), .bl (decide (2 = 2))])) := same_upd nl1
      generalize upd H1 l1 (.lst [V.bl (decide (2 = 1)), .bl (decide (2 = 3)), .bl (decide (2 = 2))]) = HX at eb1 hl1 ⊢
      walk_at "rd"
      refine ⟨.inl ⟨rfl, _, SqL.of hl1⟩, ?_⟩
      walk_at "rd"
      refine ⟨l1, _, .bl true, rfl, rfl, SqL.of hl1, rfl, rfl, ?_⟩
      walk_at "rd"
      refine ⟨rfl, ?_⟩
      walk_at "rd"
      refine ⟨a, C 2, _, .type "ValueError", true, rfl, .ty _, eb1 _ _ ga, R.ec 2 (by decide), R.eg, R.kitV 2 (by decide), ?_⟩
      walk_at "rd"
      refine ⟨(by show 3 ≤ sizeLine; decide), fun l4 nl4 => ?_⟩
      have hl4 : upd HX l4 (.lst [V.str "sides", .str "value", .str "many"]) l4 = some (.lst [V.str "sides", .str "value", .str "many"]) := upd_same
      have eb4 : Same HX (upd HX l4 (.lst [V.str "sides", .str "value", .str "many"])) := same_upd nl4
      generalize upd HX l4 (.lst [V.str "sides", .str "value", .str "many"]) = HY at eb4 hl4 ⊢
      walk_at "rd"
      refine ⟨.inl ⟨rfl, _, SqL.of (eb4 _ _ hl1)⟩, ?_⟩
      walk_at "rd"
      refine ⟨l1, _, .bl true, 2, .bl true, rfl, rfl, SqL.of (eb4 _ _ hl1), rfl, rfl, rfl, rfl, fun m z' hm hz => ?_, ?_⟩
      · rcases (by omega : m = 0 ∨ m = 1) with rfl | rfl <;> cases hz <;> rfl
      refine ⟨l4, _, _, _, rfl, rfl, SqL.of hl4, rfl, ?_⟩
      exact qq _ (s1.trans (eb1.trans eb4))
end
end HT
namespace HT
open PySem L2
theorem inV_ints (y : Int) (C : List Int) : inV (V.int y) (C.map V.int) = decide (y ∈ C) := by
  unfold inV
  rw [List.any_map]
  induction C with
  | nil => simp
  | cons c C ih =>
    rw [List.any_cons, ih]
    show (decide (c = y) || _) = _
    by_cases e : c = y
    · subst e; simp
    · by_cases f : y ∈ C
      · simp [f]
      · rw [decide_eq_false e, decide_eq_false f, decide_eq_false (show ¬ y ∈ c :: C by rw [List.mem_cons]; exact fun h => h.elim (fun h => e h.symm) f)]
        rfl
theorem flat_ints (C : List Int) : (C.map V.int).all flatV = true := by
  rw [List.all_map]
  exact List.all_eq_true.mpr fun _ _ => rfl
def spAll : Sp := fun vs H Q _ => ∃ (l : Addr) (xs : List V) (ss : List Sd) (v : Int), vs = [.ref l, .int v] ∧ SidesAt H l xs ss ∧ (-2 ^ 500 < v ∧ v < 2 ^ 500) ∧
  ∀ (R : List Int) (p : Addr) (H' : Hp), (OutIs ss v R ∨ (1002 ≤ R.length ∧ R.Nodup ∧ ∀ y ∈ R, Rc ss v y)) → R.length ≤ 1010 → (∀ y ∈ R, v - 10 ^ 34 ≤ y ∧ y ≤ v + 10 ^ 34) → Same H H' → H p = none → H' p = some (.lst (R.map V.int)) → Q (.ref p) H'
section
variable {P : Program} {w : World} {K : PySem.W.Frag} {mg : Str → Option Value} {base : Heap} {Bx fB fH fI fJ : Addr} {dB dH dI dJ : FuncData} {C : Nat → Addr}
theorem ok_all {f : Addr} {fd : FuncData} (F : Fun K "_law_all" "_law_all" s_L_all f fd) (B : Blt mg) (G : RsG mg) (Wr : Cal P w K mg base "_law_written" 3 ["_law_sides", "_law_value"] spWrL fI dI) : FnOk P w K mg base CX0 4 f fd ["_law_sides", "_law_value"] spAll := by
  refine F.ok sc_L_all (fun vs H Q E h => ?_) (fun cdv A outer s0 H vs Q E hr h => ?_)
  · obtain ⟨l, xs, ss, v, rfl, _⟩ := h
    rfl
  · obtain ⟨l, xs, ss, v, rfl, SS, vb, q⟩ := h
    have nd := sc_L_all.nd
    refine ⟨_, (pss_cons (ps_par (i := 2) (j := 3) (by rfl) nd rfl rfl (by decide) rfl rfl (pa_cons (pe_lst (pa_cons (pv 1) pa_nil)) (pa_cons pe_int pa_nil)) (by rfl))
      (pss_cons (ps_while PassesOwn.never (PW.pt (pw_and (pt_cmpR op_lt (pv 3) (pe_callB call_len_seq (by rfl) B.len PySem.boot_len (pa_cons (pv 2) pa_nil)) (nomark _)) (pw_and1 (pt_cmpR op_lt (pe_callB call_len_seq (by rfl) B.len PySem.boot_len (pa_cons (pv 2) pa_nil)) pe_int (nomark _))))) (pss_cons (ps_for PassesOwn.never rfl (pi_list (pcl Wr hr (by decide) (by rfl) (pa_cons (pv 0) (pa_cons (pe_ix ix_list (pv 2) (pv 3) (fun _ _ => rfl)) pa_nil)))) (pg_name (i := 4) nd rfl (Or.inl rfl)) (pss_one (ps_if (pt_cmpR op_notIn_seq (pv 4) (pv 2) (by rfl)) (pss_one (ps_expr (pe_bm PySem.F.plainAttrs_list PySem.F.slot_list_append PySem.F.type_list_append mt_append (pv 2) (pa_cons (pv 4) pa_nil)))) pss_nil)))
      (pss_one (ps_set (i := 3) nd rfl (Or.inl rfl) (pe_op op_add (pv 3) pe_int)))))
      (pss_one (ps_ret (pe_callB cr_sortedI (by rfl) G.sorted (by decide +kernel) (pa_cons (pv 2) pa_nil)))))), ?_⟩
    walk_at "rd"
    refine ⟨(by show 1 ≤ sizeLine; decide), fun L nL => ?_⟩
    generalize e_L : upd H L _ = H1
    have g1 : H1 L = some (.lst [.int v]) := by rw [← e_L]; exact upd_same
    have w1 : Same H H1 := by rw [← e_L]; exact fun b u z => (upd_ne (ne_of_none z nL)).trans z
    clear e_L
    walk_at "rd"
    refine ⟨_, _, rfl, ?_⟩
    walk_at "rd"
    have nLH := nL
    refine ⟨fun μ st H' => ∃ (k : Nat) (C : List Int) (x4 : Option V), μ = 2000 - k ∧ st = [some (.ref l), some (.int v), some (.ref L), some (.int (k : Int)), x4] ∧ Same H H' ∧ H' L = some (.lst (C.map V.int)) ∧ Fnd ss v C k ∧ C.length ≤ 1006,
      ⟨_, 0, [v], none, rfl, rfl, w1, g1, Fnd.start ss v, (by show 1 ≤ 1006; decide)⟩, ?_⟩
    rintro μ st H' ⟨k, C', x4, rfl, rfl, sm, hL, F', cl⟩
    have kl := F'.kl
    walk_at "rd"
    refine ⟨L, _, rfl, .inl (SqL.of hL), ?_⟩
    rw [List.length_map]
    walk_at "rd"
    refine ite2 (fun z => ?_) (fun z => ?_)
    · have kc : k < C'.length := by have := of_decide_eq_true z; omega
      walk_at "rd"
      refine ⟨L, _, rfl, .inl (SqL.of hL), ?_⟩
      rw [List.length_map]
      walk_at "rd"
      refine ite2 (fun z => ?_) (fun z => ?_)
      · have c1002 : (C'.length : Int) < 1002 := of_decide_eq_true z
        obtain ⟨c, ec⟩ : ∃ c, C'[k]? = some c := ⟨_, List.getElem?_eq_getElem kc⟩
        have cn := F'.near (n := 1002) (by omega) c (List.mem_of_getElem? ec)
        refine ⟨fun σ' H'' => ∃ (C : List Int) (x4 : Option V), σ' = [some (.ref l), some (.int v), some (.ref L), some (.int ((k + 1 : Nat) : Int)), x4] ∧ Same H H'' ∧ H'' L = some (.lst (C.map V.int)) ∧ Fnd ss v C (k + 1) ∧ C.length ≤ 1006,
          fun σ' H'' ⟨C2, x4, e, sm2, a1, a3, a5⟩ => ⟨2000 - (k + 1), by omega, k + 1, C2, x4, rfl, e, sm2, a1, a3, a5⟩, ?_⟩
        walk_at "rd"
        refine ⟨L, _, _, _, rfl, rfl, SqL.of hL, atI_nat (show (C'.map V.int)[k]? = some (V.int c) by rw [List.getElem?_map, ec]; rfl), ?_⟩
        walk_at "rd"
        refine ⟨l, xs, ss, c, rfl, SS.same sm, by omega, fun W H2 nW s2 hW => ?_⟩
        have s02 := sm.trans s2
        have hL2 := s2 _ _ hL
        have nLW : L ≠ W := fun z => by rw [← z, hL] at nW; cases nW
        walk_at "rd"
        refine ⟨⟨_, SqL.of hW⟩, ?_⟩
        refine for_list (K := K) (a := W) (xs := (ss.map fun d => dueM d.o d.s d.m c).map V.int) (fun i st H3 => ∃ (C : List Int) (x4 : Option V), st = [some (.ref l), some (.int v), some (.ref L), some (.int (k : Int)), x4] ∧ Same H H3 ∧ H3 W = some (.lst ((ss.map fun d => dueM d.o d.s d.m c).map V.int)) ∧ H3 L = some (.lst (C.map V.int)) ∧ Fnd ss v C k ∧ C.length ≤ 1001 + i ∧ C[k]? = some c ∧ ∀ j, j < i → ∀ d, ss[j]? = some d → dueM d.o d.s d.m c ∈ C)
          ⟨C', x4, rfl, s02, hW, hL2, F', by omega, ec, fun j hj => absurd hj (Nat.not_lt_zero _)⟩ (fun _ _ _ _ ⟨_, _, _, _, hw, _⟩ => SqL.of hw) ?_ ?_
        · rintro i x st H3 hx ⟨C2, y4, rfl, s3, hW3, hL3, F2, cl2, ec2, done⟩
          obtain ⟨d, ed, rfl⟩ : ∃ d, ss[i]? = some d ∧ x = V.int (dueM d.o d.s d.m c) := by
            rw [List.getElem?_map, List.getElem?_map] at hx
            cases e : ss[i]? with
            | none => rw [e] at hx; cases hx
            | some d => rw [e] at hx; cases hx; exact ⟨d, rfl, rfl⟩
          have il : i < ss.length := (List.getElem?_eq_some_iff.mp ed).1
          have l4 := SS.l4
          have dm := List.mem_of_getElem? ed
          walk_at "rd"
          refine ⟨L, _, rfl, .inl (SqL.of hL3), rfl, flat_ints _, ?_⟩
          refine ⟨_, rfl, ?_⟩
          rw [inV_ints]
          refine ite2 (fun z => ?_) (fun z => ?_)
          · have new : dueM d.o d.s d.m c ∉ C2 := fun y => by
              rw [decide_eq_true y] at z
              exact absurd z (by decide)
            have F5 := F2.put SS.side ec2 dm new
            walk_at "rd"
            refine ⟨.inl ⟨rfl, _, SqL.of hL3⟩, ?_⟩
            walk_at "rd"
            refine ⟨L, _, _, rfl, rfl, hL3, (by rw [List.length_map]; exact Nat.lt_of_lt_of_le (by omega : C2.length < 2000) (by decide)), ?_⟩
            refine ⟨_, _, rfl, fun b u z => (upd_ne (ne_of_none z nLH)).trans (s3 _ _ z), (upd_ne (Ne.symm nLW)).trans hW3, ?_, F5, ?_, ?_, fun j hj e he => ?_⟩
            · rw [List.map_append]
              exact upd_same
            · rw [List.length_append]
              show C2.length + 1 ≤ 1001 + (i + 1)
              omega
            · rw [List.getElem?_append_left (List.getElem?_eq_some_iff.mp ec2).1]
              exact ec2
            · by_cases y : j < i
              · exact List.mem_append_left _ (done j y e he)
              · obtain rfl : j = i := by omega
                rw [ed] at he
                cases he
                exact List.mem_append_right _ (List.mem_singleton.mpr rfl)
          · have old : dueM d.o d.s d.m c ∈ C2 := by
              by_cases y : dueM d.o d.s d.m c ∈ C2
              · exact y
              · rw [decide_eq_false y] at z
                exact absurd rfl z
            exact ⟨C2, _, rfl, s3, hW3, hL3, F2, by omega, ec2, fun j hj e he => by
              by_cases y : j < i
              · exact done j y e he
              · obtain rfl : j = i := by omega
                rw [ed] at he
                cases he
                exact old⟩
        · rintro st H3 ⟨C2, y4, rfl, s3, hW3, hL3, F2, cl2, ec2, done⟩
          rw [List.length_map, List.length_map] at cl2 done
          have l4 := SS.l4
          have F6 := F2.next ec2 fun d hd => by
            obtain ⟨j, hj, e⟩ := List.getElem_of_mem hd
            exact done j hj d (by rw [List.getElem?_eq_getElem hj, e])
          walk_at "rd"
          exact ⟨C2, _, rfl, s3, hL3, F6, by omega⟩
      · have c1002 : ¬ (C'.length : Int) < 1002 := fun c => z (decide_eq_true c)
        walk_at "rd"
        refine ⟨L, C', rfl, SqL.of hL, fun R p pm so np => ?_⟩
        have nb := F'.near cl
        exact q R p _ (.inr ⟨by rw [pm.length_eq]; omega, pm.nodup_iff.mpr F'.nd, fun y hy => F'.rc y (pm.mem_iff.mp hy)⟩) (by rw [pm.length_eq]; omega) (fun y hy => by have := nb y (pm.mem_iff.mp hy); omega) (fun b u z => (upd_ne (ne_of_none (sm _ _ z) np)).trans (sm _ _ z)) (sm.free np) upd_same
    · have ke : k = C'.length := by
        have : ¬ (k : Int) < (C'.length : Int) := fun c => z (decide_eq_true c)
        omega
      subst ke
      walk_at "rd"
      refine ⟨L, C', rfl, SqL.of hL, fun R p pm so np => ?_⟩
      have nb := F'.near cl
      exact q R p _ (.inl (F'.done pm so)) (by rw [pm.length_eq]; omega) (fun y hy => by have := nb y (pm.mem_iff.mp hy); omega) (fun b u z => (upd_ne (ne_of_none (sm _ _ z) np)).trans (sm _ _ z)) (sm.free np) upd_same
end
end HT
namespace HT
open PySem L2
theorem dueN {d : Sd} {x : Int} (h : SideP d.o d.s d.m) : dueM (mirD d).o (mirD d).s (mirD d).m (-x) = -dueM d.o d.s d.m x := due_mirror h.md h.s0
theorem una_mir {ss : List Sd} (hs : ∀ d ∈ ss, SideP d.o d.s d.m) {x : Int} : UnA (ss.map mirD) (-x) ↔ ∀ d ∈ ss, x ≤ dueM d.o d.s d.m x := by
  constructor
  · intro h d hd
    have := h (mirD d) (List.mem_map.mpr ⟨d, hd, rfl⟩)
    rw [dueN (hs d hd)] at this
    omega
  · intro h e he
    obtain ⟨d, hd, rfl⟩ := List.mem_map.mp he
    rw [dueN (hs d hd)]
    have := h d hd
    omega
theorem dwn_com {ss : List Sd} (hs : ∀ d ∈ ss, SideP d.o d.s d.m) (x t : Int) : (∀ d ∈ ss, x + (comN ss : Int) * t ≤ dueM d.o d.s d.m (x + (comN ss : Int) * t)) ↔ ∀ d ∈ ss, x ≤ dueM d.o d.s d.m x := by
  have key : ∀ d ∈ ss, dueM d.o d.s d.m (x + (comN ss : Int) * t) = dueM d.o d.s d.m x + (comN ss : Int) * t := fun d hd =>
    due_dvd (hs d hd).md (hs d hd).s0 (Int.dvd_mul_of_dvd_left (per_com hd (hs d hd)))
  constructor
  · intro h d hd
    have := h d hd
    rw [key d hd] at this
    omega
  · intro h d hd
    rw [key d hd]
    have := h d hd
    omega
end HT
namespace HT
open PySem L2
theorem goes_scale {m : Str} {s q r f : Int} (h : Mode m) (hf : 1 ≤ f) : goesUp m (s * f) q (r * f) = goesUp m s q r := by
  have key : ∀ a b : Int, a * f < b * f ↔ a < b := fun a b => Int.mul_lt_mul_right (by omega)
  have key2 : ∀ a b : Int, a * f ≤ b * f ↔ a ≤ b := fun a b => by
    rw [← Int.not_lt, key, Int.not_lt]
  have e0 : (0 : Int) < r * f ↔ 0 < r := by
    have := key 0 r
    rw [Int.zero_mul] at this
    exact this
  have e1 : s * f < 2 * (r * f) ↔ s < 2 * r := by
    have := key s (2 * r)
    rw [Int.mul_assoc] at this
    exact this
  have e2 : s * f ≤ 2 * (r * f) ↔ s ≤ 2 * r := by
    have := key2 s (2 * r)
    rw [Int.mul_assoc] at this
    exact this
  have e3 : 2 * (r * f) = s * f ↔ 2 * r = s := by
    rw [← Int.mul_assoc]
    exact Int.mul_eq_mul_right_iff (by omega)
  rcases h with e | e | e | e | e <;> subst e
  · rw [go_down, go_down]
  · rw [go_up, go_up]; exact decide_eq_decide.mpr e0
  · rw [go_hd, go_hd]; exact decide_eq_decide.mpr e1
  · rw [go_hu, go_hu]; exact decide_eq_decide.mpr e2
  · rw [go_he, go_he, decide_eq_decide.mpr e1, decide_eq_decide.mpr e3]
theorem due_scale {o s v f : Int} {m : Str} (h : Mode m) (hs : 1 ≤ s) (hf : 1 ≤ f) : dueM (o * f) (s * f) m (v * f) = dueM o s m v * f := by
  have F := fig_of (o := o) (m := m) (v := v) hs
  have sf : 1 ≤ s * f := Int.mul_pos (by omega) (by omega)
  obtain ⟨eq, r0, r1, wh⟩ := F
  generalize (v - o) / s = q at eq wh
  generalize (v - o) % s = r at eq r0 r1 wh
  have F2 : Fig (o * f) (s * f) m (v * f) q (r * f) (figM o s m v) := by
    refine ⟨?_, Int.mul_nonneg r0 (by omega), (Int.mul_lt_mul_right (by omega)).mpr r1, ?_⟩
    · rw [← Int.sub_mul, eq, Int.add_mul, Int.mul_assoc, Int.mul_assoc, Int.mul_comm q f]
    · rw [goes_scale h hf]; exact wh
  have e := fig_uniq sf F2
  unfold dueM
  rw [e, Int.add_mul, Int.mul_assoc, Int.mul_assoc, Int.mul_comm f]
def lift (f : Int) (d : Sd) : Sd := ⟨d.o * f, d.s * f, d.m⟩
theorem due_lift {d : Sd} (h : SideP d.o d.s d.m) {f : Int} (hf : 1 ≤ f) (v : Int) : dueM (lift f d).o (lift f d).s (lift f d).m (v * f) = dueM d.o d.s d.m v * f := due_scale h.md h.s0 hf
theorem lift_one (ss : List Sd) : ss.map (lift 1) = ss := by
  have : lift 1 = id := funext fun d => by unfold lift; rw [Int.mul_one, Int.mul_one]; rfl
  rw [this, List.map_id]
theorem lift_bd {d : Sd} {f : Int} (sp : SideP d.o d.s d.m) (b : -30 ≤ d.o ∧ d.o ≤ 29 ∧ d.s ≤ 12) (h1 : 1 ≤ f) (h2 : f ≤ 10 ^ 27) : SideP (d.o * f) (d.s * f) d.m := by
  obtain ⟨o0, o1, s0, s1, md⟩ := sp
  obtain ⟨b1, b2, b3⟩ := b
  have x1 : (-30) * f ≤ d.o * f := Int.mul_le_mul_of_nonneg_right b1 (by omega)
  have x2 : d.o * f ≤ 29 * f := Int.mul_le_mul_of_nonneg_right b2 (by omega)
  have x3 : d.s * f ≤ 12 * f := Int.mul_le_mul_of_nonneg_right b3 (by omega)
  have x4 : 1 * f ≤ d.s * f := Int.mul_le_mul_of_nonneg_right s0 (by omega)
  refine ⟨?_, ?_, ?_, ?_, md⟩ <;> omega
theorem mulF {i f : Int} (hi : -10 ^ 300 ≤ i ∧ i ≤ 10 ^ 300) (h1 : 1 ≤ f) (h2 : f ≤ 10 ^ 27) : CMulW i f := by
  refine mulW ?_ ?_
  · have : (10 ^ 300 : Int) < 2 ^ 1010 := by decide +kernel
    omega
  · have : (10 ^ 27 : Int) < 2 ^ 1010 := by decide +kernel
    omega
end HT
namespace HT
open PySem L2
section
variable {ss : List Sd} {f : Int} (hs : ∀ d ∈ ss, SideP d.o d.s d.m) (hf : 1 ≤ f)
include hs hf
theorem runW_lift : ∀ (w : List Sd) (x : Int), (∀ d ∈ w, d ∈ ss) → runW (w.map (lift f)) (x * f) = runW w x * f
  | [], _, _ => rfl
  | d :: w, x, h => by
    have e : runW ((d :: w).map (lift f)) (x * f) = runW (w.map (lift f)) (dueM (lift f d).o (lift f d).s (lift f d).m (x * f)) := rfl
    rw [e, due_lift (hs d (h d List.mem_cons_self)) hf]
    exact runW_lift w _ fun e he => h e (List.mem_cons_of_mem _ he)
theorem rc_lift {x y : Int} (h : Rc ss x y) : Rc (ss.map (lift f)) (x * f) (y * f) := by
  obtain ⟨w, hw, rfl⟩ := h
  exact ⟨w.map (lift f), fun d hd => by obtain ⟨e, he, rfl⟩ := List.mem_map.mp hd; exact List.mem_map.mpr ⟨e, hw e he, rfl⟩, runW_lift hs hf w x hw⟩
theorem rc_unlift {x z : Int} (h : Rc (ss.map (lift f)) (x * f) z) : ∃ y, z = y * f ∧ Rc ss x y := by
  obtain ⟨w, hw, rfl⟩ := h
  induction w generalizing x with
  | nil => exact ⟨x, rfl, Rc.refl x⟩
  | cons d w ih =>
    obtain ⟨e, he, rfl⟩ := List.mem_map.mp (hw d List.mem_cons_self)
    obtain ⟨y, e1, r⟩ := ih (x := dueM e.o e.s e.m x) fun d hd => hw d (List.mem_cons_of_mem _ hd)
    refine ⟨y, ?_, (Rc.one he x).trans r⟩
    rw [← e1, ← due_lift (hs e he) hf]
    rfl
omit hs in
theorem mulf_cancel {x y : Int} (h : x * f = y * f) : x = y := Int.eq_of_mul_eq_mul_right (by omega) h
theorem out_lift {x : Int} {A : List Int} (h : OutIs ss x A) : OutIs (ss.map (lift f)) (x * f) (A.map fun a => a * f) := by
  refine ⟨?_, fun y => ?_⟩
  · rw [List.pairwise_map]
    exact h.1.imp fun h => Int.mul_lt_mul_of_pos_right h (by omega)
  · constructor
    · intro hy
      obtain ⟨a, ha, rfl⟩ := List.mem_map.mp hy
      exact rc_lift hs hf ((h.2 a).mp ha)
    · intro hy
      obtain ⟨a, rfl, r⟩ := rc_unlift hs hf hy
      exact List.mem_map.mpr ⟨a, (h.2 a).mpr r, rfl⟩
theorem map_mul_inj {A B : List Int} (h : (A.map fun a => a * f) = B.map fun a => a * f) : A = B := by
  induction A generalizing B with
  | nil => cases B with
    | nil => rfl
    | cons b B => cases h
  | cons a A ih => cases B with
    | nil => cases h
    | cons b B =>
      injection h with h1 h2
      rw [mulf_cancel hf h1, ih h2]
end
/-- where all resting values are in one set -/
theorem rest_single {ss : List Sd} {v : Int} {R S : List Int} {Ls : List (List Int)} (oR : OutIs ss v R) (hS : ∀ s ∈ S, OutIs ss s S) (hr : ∀ p ∈ R, ∃ s ∈ S, Rc ss p s) (h : RestIs ss v Ls) : Ls = [S] := by
  have key : ∀ b A, Rc ss v b → Rec ss b → OutIs ss b A → A = S := fun b A vb rb oA => by
    obtain ⟨s, sS, bs⟩ := hr b ((oR.2 b).mpr vb)
    exact oA.uniq ((hS s sS).of_rc (rb s bs) bs)
  obtain ⟨b, b', A, B, T, oA, oB, rfl⟩ := h
  rw [key b A T.vb T.rb oA, key b' B T.vb' T.rb' oB, if_pos rfl]
/-- a list that is closed, and each of which comes -/
theorem out_of {ss : List Sd} {v : Int} {R : List Int} (so : R.Pairwise (· < ·)) (v0 : v ∈ R) (cl : ∀ c ∈ R, ∀ d ∈ ss, dueM d.o d.s d.m c ∈ R) (rc : ∀ y ∈ R, Rc ss v y) : OutIs ss v R :=
  ⟨so, fun y => ⟨rc y, fun h => rc_closed v0 cl h⟩⟩
theorem rc_via {ss : List Sd} {x y : Int} (h : ∃ d ∈ ss, dueM d.o d.s d.m x = y) : Rc ss x y := by
  obtain ⟨d, hd, rfl⟩ := h
  exact Rc.one hd x
end HT
namespace HT
open PySem L2
theorem rc_le {ss : List Sd} (hs : ∀ d ∈ ss, SideP d.o d.s d.m) {x y z : Int} (u : UnA ss y) (le : x ≤ y) (r : Rc ss x z) : z ≤ y := by
  obtain ⟨w, hw, rfl⟩ := r
  induction w generalizing x with
  | nil => exact le
  | cons d w ih =>
    have hd := hw d List.mem_cons_self
    have m := due_le (o := d.o) (hs d hd).md (hs d hd).s0 le
    have := u d hd
    exact ih (x := dueM d.o d.s d.m x) (by omega) fun e he => hw e (List.mem_cons_of_mem _ he)
theorem rc_ge {ss : List Sd} (hs : ∀ d ∈ ss, SideP d.o d.s d.m) {x y z : Int} (u : ∀ d ∈ ss, y ≤ dueM d.o d.s d.m y) (le : y ≤ x) (r : Rc ss x z) : y ≤ z := by
  obtain ⟨w, hw, rfl⟩ := r
  induction w generalizing x with
  | nil => exact le
  | cons d w ih =>
    have hd := hw d List.mem_cons_self
    have m := due_le (o := d.o) (hs d hd).md (hs d hd).s0 le
    have := u d hd
    exact ih (x := dueM d.o d.s d.m x) (by omega) fun e he => hw e (List.mem_cons_of_mem _ he)
theorem least_one {Pr : Int → Prop} {v x : Int} {r : Option Int} (h : LeastI Pr v r) (h0 : v ≤ x) (h1 : Pr x) (h2 : ∀ y, v ≤ y → y < x → ¬ Pr y) : r = some x := by
  cases r with
  | none => exact absurd h1 (h x h0)
  | some z =>
    obtain ⟨a, b, c⟩ := h
    have : z = x := by
      rcases Int.lt_trichotomy z x with q | q | q
      · exact absurd b (h2 z a q)
      · exact q
      · exact absurd h1 (c x h0 q)
    rw [this]
section
variable {ss : List Sd} (hs : ∀ d ∈ ss, SideP d.o d.s d.m) {v : Int} {R : List Int} (O : OutIs ss v R)
include hs O
theorem una_last {M : Int} (e : R[R.length - 1]? = some M) : v ≤ M ∧ UnA ss M ∧ ∀ y, v ≤ y → y < M → ¬ UnA ss y := by
  obtain ⟨a, b⟩ := sorted_last O.1 e
  refine ⟨b v O.self, fun d hd => b _ ((O.2 _).mpr (((O.2 M).mp a).trans (Rc.one hd M))), fun y y0 y1 u => ?_⟩
  have := rc_le hs u y0 ((O.2 M).mp a)
  omega
theorem una_first {m : Int} (e : R[0]? = some m) : m ≤ v ∧ (∀ d ∈ ss, m ≤ dueM d.o d.s d.m m) ∧ ∀ y, m < y → y ≤ v → ¬ ∀ d ∈ ss, y ≤ dueM d.o d.s d.m y := by
  obtain ⟨a, b⟩ := sorted_first O.1 e
  refine ⟨b v O.self, fun d hd => b _ ((O.2 _).mpr (((O.2 m).mp a).trans (Rc.one hd m))), fun y y0 y1 u => ?_⟩
  have := rc_ge hs u y1 ((O.2 m).mp a)
  omega
theorem reach_hi {M : Int} {hi : Option Int} (e : R[R.length - 1]? = some M) (L : LeastI (UnA ss) v hi) : hi = some M := by
  obtain ⟨a, b, c⟩ := una_last hs O e
  exact least_one L a b c
theorem reach_lo {m : Int} {lo : Option Int} (e : R[0]? = some m) (L : LeastI (UnA (ss.map mirD)) (-v) lo) : lo = some (-m) := by
  obtain ⟨a, b, c⟩ := una_first hs O e
  refine least_one L (by omega) ((una_mir hs).mpr b) fun y y0 y1 u => ?_
  have u2 : UnA (ss.map mirD) (-(-y)) := by rw [Int.neg_neg]; exact u
  exact c (-y) (by omega) (by omega) ((una_mir hs).mp u2)
/-- the ends lie within a period -/
theorem out_near {m M : Int} (e0 : R[0]? = some m) (e1 : R[R.length - 1]? = some M) : v - (comN ss : Int) < m ∧ m ≤ v ∧ v ≤ M ∧ M < v + (comN ss : Int) := by
  obtain ⟨a, b, c⟩ := una_last hs O e1
  obtain ⟨a', b', c'⟩ := una_first hs O e0
  have cp : 0 < (comN ss : Int) := by
    have := com_pos ss 1 (by decide) hs
    show 0 < ((ss.foldl (fun n d => n.lcm (perN d)) 1 : Nat) : Int)
    omega
  refine ⟨?_, a', a, ?_⟩
  · by_cases z : v - (comN ss : Int) < m
    · exact z
    · exfalso
      have := (dwn_com hs m 1).mpr b'
      exact c' (m + (comN ss : Int) * 1) (by omega) (by omega) this
  · by_cases z : M < v + (comN ss : Int)
    · exact z
    · exfalso
      have := (una_com hs M (-1)).mpr b
      exact c (M + (comN ss : Int) * -1) (by omega) (by omega) this
end
theorem few_ok {ss : List Sd} (hs : ∀ d ∈ ss, SideP d.o d.s d.m ∧ d.s ≤ 12) : FewP ss := by
  right
  have : comN (ss.filter upD) ∣ 55440 := com_least (Nat.one_dvd _) fun d hd => by
    obtain ⟨S, s12⟩ := hs d (List.mem_filter.mp hd).1
    have e := perN_eq S
    have s0 := S.s0
    have key : ∀ n : Nat, n < 25 → 1 ≤ n → (n ≤ 12 ∨ n % 2 = 0) → n ∣ 55440 := by decide +kernel
    unfold perM at e
    refine key _ ?_ ?_ ?_ <;> split at e <;> omega
  exact Nat.le_trans (Nat.le_of_dvd (by decide) this) (by decide)
theorem few_two {ss : List Sd} (h : ss.length < 3) : FewP ss := .inl (Nat.le_trans (List.length_filter_le _ _) (by omega))
theorem in_rc {ss : List Sd} (hss : ∀ d ∈ ss, SideP d.o d.s d.m) {g : Int} : ∀ (i : Nat) (x : Int), inR g (ss.map (movD (-g))) x i → Rc ss x g
  | 0, x, h => by
    have h1 : g + 0 ≤ x ∧ x ≤ g + 0 := h
    rw [show x = g by omega]
    exact Rc.refl g
  | i + 1, x, h => by
    by_cases z : inR g (ss.map (movD (-g))) x i
    · exact in_rc hss i x z
    · obtain ⟨d, hd, q⟩ := in_mov hss h z
      exact (Rc.one hd x).trans (in_rc hss i _ q)
theorem rc_in {ss : List Sd} (hss : ∀ d ∈ ss, SideP d.o d.s d.m) {g x : Int} (h : Rc ss x g) : ∃ i, inR g (ss.map (movD (-g))) x i := by
  obtain ⟨w, hw, e⟩ := h
  induction w generalizing x with
  | nil =>
    have e : x = g := e
    subst e
    exact ⟨0, by show x + 0 ≤ x ∧ x ≤ x + 0; omega⟩
  | cons d w ih =>
    obtain ⟨i, q⟩ := ih (x := dueM d.o d.s d.m x) (fun e he => hw e (List.mem_cons_of_mem _ he)) e
    exact ⟨i + 1, mov_in hss (hw d List.mem_cons_self) q⟩
end HT
namespace HT
open PySem L2
def hlf3 : List Sd := [⟨0, 100, "half_up"⟩, ⟨0, 107, "half_up"⟩, ⟨0, 119, "half_up"⟩]
def up3 : List Sd := [⟨0, 10 ^ 27 + 7, "up"⟩, ⟨0, 10 ^ 28 + 1, "up"⟩, ⟨0, 10 ^ 29, "up"⟩]
def pr5 : List Sd := [⟨0, 501, "up"⟩, ⟨1, 502, "up"⟩]
theorem hlf3_ok : ∀ d ∈ hlf3, SideP d.o d.s d.m := fun d hd => by
  unfold hlf3 at hd
  simp only [List.mem_cons, List.not_mem_nil, or_false] at hd
  rcases hd with rfl | rfl | rfl <;> exact ⟨by decide, by decide, by decide, by decide, .inr (.inr (.inr (.inl rfl)))⟩
theorem up3_ok : ∀ d ∈ up3, SideP d.o d.s d.m := fun d hd => by
  unfold up3 at hd
  simp only [List.mem_cons, List.not_mem_nil, or_false] at hd
  rcases hd with rfl | rfl | rfl <;> exact ⟨by decide, by decide, by decide, by decide, .inr (.inl rfl)⟩
theorem pr5_ok : ∀ d ∈ pr5, SideP d.o d.s d.m := fun d hd => by
  unfold pr5 at hd
  simp only [List.mem_cons, List.not_mem_nil, or_false] at hd
  rcases hd with rfl | rfl <;> exact ⟨by decide, by decide, by decide, by decide, .inr (.inl rfl)⟩
/-- closed, and each comes from one before -/
def clB (ss : List Sd) (R : List Int) : Bool := R.all fun c => ss.all fun d => R.contains (dueM d.o d.s d.m c)
theorem clB_ok {ss : List Sd} {R : List Int} (h : clB ss R = true) : ∀ c ∈ R, ∀ d ∈ ss, dueM d.o d.s d.m c ∈ R := fun c hc d hd => by
  have := List.all_eq_true.mp (List.all_eq_true.mp h c hc) d hd
  exact List.contains_iff_mem.mp this
theorem hlf3_out : OutIs hlf3 50 [0, 50, 100, 107, 119] := by
  have a100 : Rc hlf3 50 100 := rc_via ⟨⟨0, 100, "half_up"⟩, by simp [hlf3, up3, pr5], by decide +kernel⟩
  have a107 : Rc hlf3 50 107 := a100.trans (rc_via ⟨⟨0, 107, "half_up"⟩, by simp [hlf3, up3, pr5], by decide +kernel⟩)
  have a119 : Rc hlf3 50 119 := a107.trans (rc_via ⟨⟨0, 119, "half_up"⟩, by simp [hlf3, up3, pr5], by decide +kernel⟩)
  refine out_of (by decide) (by decide) (clB_ok (by decide +kernel)) fun y hy => ?_
  simp only [List.mem_cons, List.not_mem_nil, or_false] at hy
  rcases hy with rfl | rfl | rfl | rfl | rfl
  · exact rc_via ⟨⟨0, 107, "half_up"⟩, by simp [hlf3, up3, pr5], by decide +kernel⟩
  · exact Rc.refl _
  · exact a100
  · exact a107
  · exact a119
theorem up3_out : OutIs up3 (-5) [-5, 0] := by
  refine out_of (by decide) (by decide) (clB_ok (by decide +kernel)) fun y hy => ?_
  simp only [List.mem_cons, List.not_mem_nil, or_false] at hy
  rcases hy with rfl | rfl
  · exact Rc.refl _
  · exact rc_via ⟨⟨0, 10 ^ 29, "up"⟩, by simp [hlf3, up3, pr5], by decide +kernel⟩
theorem pr5_one : OutIs pr5 502503 [502503] := by
  refine out_of (by decide) (by decide) (clB_ok (by decide +kernel)) fun y hy => ?_
  rw [List.mem_singleton.mp hy]
  exact Rc.refl _
theorem pr5_two : OutIs pr5 502502 [502502, 502503] := by
  refine out_of (by decide) (by decide) (clB_ok (by decide +kernel)) fun y hy => ?_
  simp only [List.mem_cons, List.not_mem_nil, or_false] at hy
  rcases hy with rfl | rfl
  · exact Rc.refl _
  · exact rc_via ⟨⟨0, 501, "up"⟩, by simp [hlf3, up3, pr5], by decide +kernel⟩
/-- the values from 252003 on -/
def eV (i : Nat) : Int := if i % 2 = 0 then 501 * (503 + (i / 2 : Nat)) else 502 * (502 + (i / 2 : Nat)) + 1
theorem eV_all : ((List.range 1000).all fun i => (pr5.all fun d => decide (dueM d.o d.s d.m (eV i) = eV i) || (decide (i + 1 < 1000) && decide (dueM d.o d.s d.m (eV i) = eV (i + 1)))) && (decide (999 ≤ i) || pr5.any fun d => decide (dueM d.o d.s d.m (eV i) = eV (i + 1)))) = true := by decide +kernel
theorem eV_at {i : Nat} (h : i < 1000) : (∀ d ∈ pr5, dueM d.o d.s d.m (eV i) = eV i ∨ (i + 1 < 1000 ∧ dueM d.o d.s d.m (eV i) = eV (i + 1))) ∧ (i < 999 → ∃ d ∈ pr5, dueM d.o d.s d.m (eV i) = eV (i + 1)) := by
  obtain ⟨a, b⟩ := Bool.and_eq_true_iff.mp (List.all_eq_true.mp eV_all i (List.mem_range.mpr h))
  refine ⟨fun d hd => ?_, fun hi => ?_⟩
  · rcases Bool.or_eq_true_iff.mp (List.all_eq_true.mp a d hd) with q | q
    · exact .inl (of_decide_eq_true q)
    · obtain ⟨q1, q2⟩ := Bool.and_eq_true_iff.mp q
      exact .inr ⟨of_decide_eq_true q1, of_decide_eq_true q2⟩
  · rcases Bool.or_eq_true_iff.mp b with q | q
    · have := of_decide_eq_true q
      omega
    · obtain ⟨d, hd, e⟩ := List.any_eq_true.mp q
      exact ⟨d, hd, of_decide_eq_true e⟩
theorem eV_lt {i : Nat} (h : i < 999) : eV i < eV (i + 1) := by
  unfold eV
  rcases (by omega : i % 2 = 0 ∨ i % 2 = 1) with z | z
  · rw [if_pos z, if_neg (by omega), show (i + 1) / 2 = i / 2 by omega]
    omega
  · rw [if_neg (by omega), if_pos (by omega), show (i + 1) / 2 = i / 2 + 1 by omega]
    omega
theorem eV_ltN (i : Nat) : ∀ n : Nat, i + n < 999 → eV i < eV (i + n + 1)
  | 0, h => eV_lt h
  | n + 1, h => Int.lt_trans (eV_ltN i n (by omega)) (eV_lt (i := i + n + 1) (by omega))
abbrev eL : List Int := (List.range 1000).map eV
theorem eL_so : eL.Pairwise (· < ·) := by
  rw [List.pairwise_iff_getElem]
  intro i j hi hj ij
  have hi' : i < 1000 := by simpa [eL] using hi
  have hj' : j < 1000 := by simpa [eL] using hj
  have := eV_ltN i (j - i - 1) (by omega)
  rw [show i + (j - i - 1) + 1 = j by omega] at this
  simpa [eL] using this
theorem eV_up : ∀ n : Nat, n < 1000 → Rc pr5 252003 (eV n)
  | 0, _ => Rc.refl _
  | n + 1, h => (eV_up n (by omega)).trans (rc_via ((eV_at (by omega)).2 (by omega)))
theorem eV_top : ∀ k : Nat, k < 1000 → Rc pr5 (eV (999 - k)) 502503
  | 0, _ => Rc.refl _
  | k + 1, h => by
    refine Rc.trans (rc_via ((eV_at (i := 999 - (k + 1)) (by omega)).2 (by omega))) ?_
    rw [show 999 - (k + 1) + 1 = 999 - k by omega]
    exact eV_top k (by omega)
theorem pr5_thou : OutIs pr5 252003 eL := by
  refine out_of eL_so (List.mem_map.mpr ⟨0, List.mem_range.mpr (by decide), rfl⟩) (fun c hc d hd => ?_) fun y hy => ?_
  · obtain ⟨i, hi, rfl⟩ := List.mem_map.mp hc
    rcases (eV_at (List.mem_range.mp hi)).1 d hd with e | ⟨e1, e⟩
    · rw [e]; exact hc
    · rw [e]; exact List.mem_map.mpr ⟨i + 1, List.mem_range.mpr e1, rfl⟩
  · obtain ⟨i, hi, rfl⟩ := List.mem_map.mp hy
    exact eV_up i (List.mem_range.mp hi)
theorem eL_len : eL.length = 1000 := by rw [List.length_map, List.length_range]
theorem pr5_rest {Ls : List (List Int)} (h : RestIs pr5 252003 Ls) : Ls = [[502503]] := by
  refine rest_single pr5_thou (fun s hs => ?_) (fun p hp => ?_) h
  · rw [List.mem_singleton.mp hs]
    exact pr5_one
  · obtain ⟨i, hi, rfl⟩ := List.mem_map.mp hp
    have hi := List.mem_range.mp hi
    refine ⟨502503, List.mem_singleton.mpr rfl, ?_⟩
    have := eV_top (999 - i) (by omega)
    rw [show 999 - (999 - i) = i by omega] at this
    exact this
theorem pr5_many (R : List Int) (h : OutIs pr5 251503 R) : 1000 < R.length := by
  have first : Rc pr5 251503 252003 := rc_via ⟨⟨0, 501, "up"⟩, by simp [hlf3, up3, pr5], by decide +kernel⟩
  have nd : (251503 :: eL).Nodup := by
    rw [List.nodup_cons]
    refine ⟨fun m => ?_, eL_so.imp fun h => by omega⟩
    obtain ⟨i, hi, e⟩ := List.mem_map.mp m
    unfold eV at e
    split at e <;> omega
  have := nodup_le nd (R := R) fun y hy => (h.2 y).mpr (by
    rcases List.mem_cons.mp hy with e | e
    · rw [e]; exact Rc.refl _
    · obtain ⟨i, hi, rfl⟩ := List.mem_map.mp e
      exact first.trans (eV_up i (List.mem_range.mp hi)))
  rw [List.length_cons, eL_len] at this
  omega
end HT
namespace HT
open PySem L2
def spRF : Sp := fun vs H Q _ => ∃ (l p : Addr) (xs : List V) (ss : List Sd) (v : Int) (R : List Int), vs = [.ref l, .int v, .ref p] ∧ SidesAt H l xs ss ∧ (∀ d ∈ ss, d.s ≤ 12) ∧ comN ss ≤ 2000 ∧ H p = some (.lst (R.map V.int)) ∧ OutIs ss v R ∧ (-2 ^ 300 < v ∧ v < 2 ^ 300) ∧ ∀ H', Same H H' → Q (.bl true) H'
section
variable {P : Program} {w : World} {K : PySem.W.Frag} {mg : Str → Option Value} {base : Heap} {fR : Addr} {dR : FuncData}
theorem ok_rf {f : Addr} {fd : FuncData} (F : Fun K "_law_routes_fit" "_law_routes_fit" s_L_routes_fit f fd) (B : Blt mg) (Ro : Cal P w K mg base "route" 6 ["sides", "start", "value"] spRou fR dR) : FnOk P w K mg base CX0 7 f fd ["_law_sides", "_law_value", "_law_due"] spRF := by
  refine F.ok sc_L_routes_fit (fun vs H Q E h => ?_) (fun cdv A outer s0 H vs Q E hr h => ?_)
  · obtain ⟨l, p, xs, ss, v, R, rfl, _⟩ := h
    rfl
  · obtain ⟨l, p, xs, ss, v, R, rfl, SS, s12, N2, hp, oR, vb, q⟩ := h
    have nd := sc_L_routes_fit.nd
    obtain ⟨m, em, at0⟩ := first_at oR.ne
    obtain ⟨M, eM, at1⟩ := last_at oR.ne
    obtain ⟨n1, n2, n3, n4⟩ := out_near SS.side oR em eM
    have mR := (oR.2 m).mp (sorted_first oR.1 em).1
    have MR := (oR.2 M).mp (sorted_last oR.1 eM).1
    refine ⟨_, (pss_cons (ps_mid (ps_for PassesOwn.never rfl (pi_range1 (by rfl) B.range (pa_cons pe_int pa_nil)) (pg_name (i := 3) nd rfl (Or.inl rfl)) (pss_cons (ps_set (i := 4) nd rfl (Or.inl rfl) (pe_op op_add (pe_op op_sub (pe_ix ix_list (pv 2) pe_int (fun _ _ => rfl)) pe_int) (pe_op op_fdiv (pe_op op_mulW (pv 3) (pe_op op_add (pe_op op_sub (pe_ix ix_list (pv 2) (pe_un un_neg pe_int) (fun _ _ => rfl)) (pe_ix ix_list (pv 2) pe_int (fun _ _ => rfl))) pe_int)) pe_int)))
      (pss_one (ps_if (pt_mid (pt_cmpR op_ne (pe_cmpR op_notN (pcl Ro hr (by decide) (by rfl) (pa_cons (pv 0) (pa_cons (pv 1) (pa_cons (pv 4) pa_nil)))) pe_non (nomark _)) (pe_cmpR op_in_seq (pv 4) (pv 2) (by rfl)) (nomark _))) (pss_one (ps_ret pe_bl)) pss_nil)))))
      (pss_one (ps_ret (pe_and (pe_cmpR op_notN (pcl Ro hr (by decide) (by rfl) (pa_cons (pv 0) (pa_cons (pv 1) (pa_cons (pe_ix ix_list (pv 2) pe_int (fun _ _ => rfl)) pa_nil)))) pe_non (nomark _)) (pe_one (pe_cmpR op_notN (pcl Ro hr (by decide) (by rfl) (pa_cons (pv 0) (pa_cons (pv 1) (pa_cons (pe_ix ix_list (pv 2) (pe_un un_neg pe_int) (fun _ _ => rfl)) pa_nil)))) pe_non (nomark _))))))), ?_⟩
    refine ⟨fun st H' => ∃ x3 x4, st = [some (.ref l), some (.int v), some (.ref p), x3, x4] ∧ Same H H', ?_, ?_⟩
    · walk_at "rd"
      refine ⟨by decide, by decide, ?_⟩
      refine for_range (n := 4) (fun i st H' => ∃ x3 x4, st = [some (.ref l), some (.int v), some (.ref p), x3, x4] ∧ Same H H') ⟨none, none, rfl, Same.refl _⟩ ?_ (fun st H' z => z)
      rintro i st H1 hi ⟨x3, x4, rfl, s1⟩
      have hp1 := s1 _ _ hp
      walk_at "rd"
      refine ⟨p, _, _, _, rfl, rfl, SqL.of hp1, at0, ?_⟩
      walk_at "rd"
      refine ⟨p, _, _, _, rfl, rfl, SqL.of hp1, at1, ?_⟩
      walk_at "rd"
      refine ⟨p, _, _, _, rfl, rfl, SqL.of hp1, at0, ?_⟩
      walk_at "rd"
      refine ⟨mulW (by omega) (by omega), ?_⟩
      walk_at "rd"
      refine ⟨⟨by decide, by decide⟩, ?_⟩
      have nr : (m - 2 + (0 + (i : Int)) * (M - m + 4) / 3) - (comN ss : Int) - 1 ≤ v ∧ v ≤ (m - 2 + (0 + (i : Int)) * (M - m + 4) / 3) + (comN ss : Int) + 1 := by
        have gb : ∀ g, m - 2 + (0 + (i : Int)) * (M - m + 4) / 3 = g → m - 2 ≤ g ∧ g ≤ M + 2 := fun g eg => by
          rcases (by omega : i = 0 ∨ i = 1 ∨ i = 2 ∨ i = 3) with rfl | rfl | rfl | rfl <;> simp at eg <;> omega
        have := gb _ rfl
        generalize m - 2 + (0 + (i : Int)) * (M - m + 4) / 3 = g at *
        omega
      have gw : -2 ^ 500 < m - 2 + (0 + (i : Int)) * (M - m + 4) / 3 ∧ m - 2 + (0 + (i : Int)) * (M - m + 4) / 3 < 2 ^ 500 := by omega
      walk_at "rd"
      refine ⟨fun b H' => b = false ∧ Same H1 H', ?_, ?_⟩
      · walk_at "rd"
        walk_at "rd"
        obtain ⟨ok, far⟩ := route_any (v := m - 2 + (0 + (i : Int)) * (M - m + 4) / 3) (s := v) (fun d hd => ⟨SS.side d hd, s12 d hd⟩) SS.l4 N2 nr
        refine ⟨l, xs, ss, v, _, rfl, SS.same s1, by omega, gw, ok, far, fun k r H2 _ s2 a _ _ => ?_, fun no H2 s2 => ?_⟩
        · walk_at "rd"
          refine ⟨rfl, ?_⟩
          walk_at "rd"
          refine ⟨p, _, rfl, .inl (SqL.of (s2 _ _ hp1)), rfl, flat_ints _, ?_⟩
          have e1 : inV (V.int (m - 2 + (0 + (i : Int)) * (M - m + 4) / 3)) (R.map V.int) = true := by rw [inV_ints]; exact decide_eq_true ((oR.2 _).mpr (in_rc SS.side k v a))
          refine ⟨rfl, _, rfl, ?_, s2⟩
          show (!decide (V.bl true = V.bl (inV (V.int (m - 2 + (0 + (i : Int)) * (M - m + 4) / 3)) (R.map V.int)))) = false
          rw [e1]
          rfl
        · walk_at "rd"
          refine ⟨rfl, ?_⟩
          walk_at "rd"
          refine ⟨p, _, rfl, .inl (SqL.of (s2 _ _ hp1)), rfl, flat_ints _, ?_⟩
          have e1 : inV (V.int (m - 2 + (0 + (i : Int)) * (M - m + 4) / 3)) (R.map V.int) = false := by rw [inV_ints]; exact decide_eq_false fun z => (let ⟨j, a⟩ := rc_in SS.side ((oR.2 _).mp z); absurd a (no j))
          refine ⟨rfl, _, rfl, ?_, s2⟩
          show (!decide (V.bl false = V.bl (inV (V.int (m - 2 + (0 + (i : Int)) * (M - m + 4) / 3)) (R.map V.int)))) = false
          rw [e1]
          rfl
      rintro b H2 ⟨rfl, s2⟩
      refine ite2 (fun z => absurd z (by decide)) (fun _ => ?_)
      exact ⟨_, _, rfl, s1.trans s2⟩
    rintro st H1 ⟨x3, x4, rfl, s1⟩
    walk_at "rd"
    have hp1 := s1 _ _ hp
    refine ⟨p, _, _, _, rfl, rfl, SqL.of hp1, at0, ?_⟩
    walk_at "rd"
    walk_at "rd"
    obtain ⟨ok, far⟩ := route_any (v := m) (s := v) (fun d hd => ⟨SS.side d hd, s12 d hd⟩) SS.l4 N2 (by omega)
    refine ⟨l, xs, ss, v, _, rfl, SS.same s1, by omega, by omega, ok, far, fun k r H2 _ s2 a _ _ => ?_, fun no => (let ⟨i, a⟩ := rc_in SS.side mR; absurd a (no i))⟩
    walk_at "rd"
    refine ⟨rfl, _, rfl, ?_⟩
    refine ite2 (fun _ => ?_) (fun z => absurd rfl z)
    walk_at "rd"
    refine ⟨p, _, _, _, rfl, rfl, SqL.of (s2 _ _ hp1), at1, ?_⟩
    walk_at "rd"
    walk_at "rd"
    obtain ⟨ok, far⟩ := route_any (v := M) (s := v) (fun d hd => ⟨SS.side d hd, s12 d hd⟩) SS.l4 N2 (by omega)
    refine ⟨l, xs, ss, v, _, rfl, SS.same (s1.trans s2), by omega, by omega, ok, far, fun k r H3 _ s3 a _ _ => ?_, fun no => (let ⟨i, a⟩ := rc_in SS.side MR; absurd a (no i))⟩
    walk_at "rd"
    exact ⟨rfl, q _ (s1.trans (s2.trans s3))⟩
end
end HT
namespace HT
open PySem L2
def sdD (d : Sd) : PyData := .tuple [.int d.o, .int d.s, .str d.m]
theorem strOk_mode {m : Str} (h : Mode m) : PyData.canLay0 (.str m) = true := by
  rcases h with e | e | e | e | e <;> subst e <;> decide +kernel
theorem can_sides : ∀ {ss : List Sd}, (∀ d ∈ ss, Mode d.m) → PyData.canLayAll0 (ss.map sdD) = true ∧ PyData.depthAll (ss.map sdD) ≤ 1
  | [], _ => ⟨rfl, Nat.zero_le _⟩
  | d :: r, h => by
    have ⟨a, b⟩ := can_sides (ss := r) fun e he => h e (List.mem_cons_of_mem _ he)
    have c := strOk_mode (h d List.mem_cons_self)
    constructor
    · show ((true && (true && (PyData.canLay0 (.str d.m) && true))) && PyData.canLayAll0 (r.map sdD)) = true
      rw [c, a]
      rfl
    · show max 1 (PyData.depthAll (r.map sdD)) ≤ 1
      omega
theorem dpSides {K : PySem.W.Frag} {H : Hp} : ∀ {xs : List V} {ss : List Sd}, xs.length = ss.length → (∀ (i : Nat) (d : Sd), ss[i]? = some d → ∃ p : Addr, xs[i]? = some (V.ref p) ∧ H p = some (sideV d.o d.s d.m)) → DpAll K H xs (ss.map sdD)
  | [], [], _, _ => .nil
  | [], _ :: _, S, _ => nomatch S
  | _ :: _, [], S, _ => nomatch S
  | x :: xs, d :: ss, S, h => by
    obtain ⟨p, e, hp⟩ := h 0 d rfl
    cases e
    exact .cons (.tup (SqT.of hp) (.cons (.int _) (.cons (.int _) (.cons (.str _) .nil)))) (dpSides (Nat.succ.inj S) fun i e z => h (i + 1) e z)
theorem SidesAt.dp {K : PySem.W.Frag} {H : Hp} {l k : Addr} {xs : List V} {ss : List Sd} (S : SidesAt H l xs ss) (hk : H k = some (.lst xs)) : Dp K H (.ref k) (.list (ss.map sdD)) := .lst (SqL.of hk) (dpSides S.len fun i d h => let ⟨p, a, b, _⟩ := S.at_ i d h; ⟨p, a, b⟩)
theorem shaped_sides {ss : List Sd} (h : ∀ d ∈ ss, Mode d.m) : SeqAt.shaped (.list (ss.map sdD)) = true := by
  have ⟨a, b⟩ := can_sides h
  unfold SeqAt.shaped
  show (PyData.canLayAll0 (ss.map sdD) && decide (PyData.depthAll (ss.map sdD) + 1 ≤ 64)) = true
  rw [a, decide_eq_true (by omega)]
  rfl
theorem eqv_self {d : PyData} (h : SeqAt.shaped d = true) : (!PyData.eqv d d) = false := by rw [SeqAt.eqv_refl _ (SeqAt.canLay_of_shaped h)]; rfl
end HT
namespace HT
open PySem L2
def encI (A : List Int) : PyData := .list (A.map PyData.int)
theorem ints_can (A : List Int) : PyData.canLayAll0 (A.map PyData.int) = true ∧ PyData.depthAll (A.map PyData.int) ≤ 1 := by
  induction A with
  | nil => exact ⟨rfl, Nat.zero_le _⟩
  | cons a A ih => exact ⟨by simp [PyData.canLayAll0, PyData.canLay0, ih.1], by show max (PyData.depth (.int a)) (PyData.depthAll (A.map PyData.int)) ≤ 1; exact Nat.max_le.mpr ⟨by simp [PyData.depth], ih.2⟩⟩
theorem shaped_LL (Ls : List (List Int)) : SeqAt.shaped (.list (Ls.map encI)) = true := by
  have key : ∀ Ls : List (List Int), PyData.canLayAll0 (Ls.map encI) = true ∧ PyData.depthAll (Ls.map encI) ≤ 2 := fun Ls => by
    induction Ls with
    | nil => exact ⟨rfl, Nat.zero_le _⟩
    | cons A Ls ih =>
      obtain ⟨a, c⟩ := ints_can A
      refine ⟨by simp [PyData.canLayAll0, PyData.canLay0, encI, a, ih.1], ?_⟩
      show max (PyData.depthAll (A.map PyData.int) + 1) (PyData.depthAll (Ls.map encI)) ≤ 2
      exact Nat.max_le.mpr ⟨by omega, ih.2⟩
  obtain ⟨a, b⟩ := key Ls
  unfold SeqAt.shaped
  rw [Bool.and_eq_true]
  refine ⟨a, decide_eq_true ?_⟩
  show PyData.depthAll (Ls.map encI) + 1 ≤ 64
  omega
theorem HoldsL.dp {K : PySem.W.Frag} {H : Hp} {p : Addr} {Ls : List (List Int)} (h : HoldsL H p Ls) : Dp K H (.ref p) (.list (Ls.map encI)) := by
  obtain ⟨qs, hp, lq, at_⟩ := h
  refine .lst (SqL.of hp) ?_
  clear hp
  induction qs generalizing Ls with
  | nil => cases Ls with
    | nil => exact .nil
    | cons A Ls => cases lq
  | cons q qs ih => cases Ls with
    | nil => cases lq
    | cons A Ls => exact .cons (dp_ints (at_ 0 A q rfl rfl)) (ih (Nat.succ.inj lq) fun i A' q' a b => at_ (i + 1) A' q' a b)
end HT
namespace HT
open PySem L2
def spOut0' (C : Nat → Addr) : Sp := spOut0 C
def spFits : Sp := fun vs H Q _ => ∃ (l : Addr) (xs : List V) (ss : List Sd) (v f : Int), vs = [.ref l, .int v, .int f] ∧ SidesAt H l xs ss ∧ (∀ d ∈ ss, -30 ≤ d.o ∧ d.o ≤ 29 ∧ d.s ≤ 12) ∧ (-150 ≤ v ∧ v ≤ 150) ∧ 1 ≤ f ∧ f ≤ 10 ^ 27 ∧ (f = 1 ∨ ss.length < 3) ∧ ∀ H', Same H H' → Q (.bl true) H'
theorem map_mul_nd {R : List Int} {f : Int} (hf : 1 ≤ f) (h : R.Nodup) : (R.map fun y => y * f).Nodup := by
  induction R with
  | nil => exact List.nodup_nil
  | cons a R ih =>
    obtain ⟨h1, h2⟩ := List.nodup_cons.mp h
    rw [List.map_cons, List.nodup_cons]
    refine ⟨fun m => ?_, ih h2⟩
    obtain ⟨b, hb, e⟩ := List.mem_map.mp m
    have : b = a := Int.eq_of_mul_eq_mul_right (by omega) e
    exact h1 (this ▸ hb)
section
variable {P : Program} {w : World} {K : PySem.W.Frag} {mg : Str → Option Value} {base : Heap} {f1 f2 f3 f4 f5 f6 : Addr} {d1 d2 d3 d4 d5 d6 : FuncData} {C : Nat → Addr}
theorem ok_fits {fn : Addr} {fd : FuncData} (F : Fun K "_law_fits" "_law_fits" s_L_fits fn fd) (B : Blt mg) (hli : mg "list" = none) (Al : Cal P w K mg base "_law_all" 4 ["_law_sides", "_law_value"] spAll f1 d1) (Pe : Cal P w K mg base "_law_period" 2 ["_law_sides"] spPer f2 d2)
    (Rf : Cal P w K mg base "_law_routes_fit" 7 ["_law_sides", "_law_value", "_law_due"] spRF f3 d3) (Wo : Cal P w K mg base "_law_word" 9 ["_law_kind", "_law_sides", "_law_value"] (spWord60 K) f4 d4) (Re : Cal P w K mg base "reach" 108 ["sides", "value"] spReach f5 d5) (Ou : Cal P w K mg base "outcomes" 6 ["sides", "value"] (spOut0 C) f6 d6) : FnOk P w K mg base CX0 109 fn fd ["_law_sides", "_law_value", "_law_factor"] spFits := by
  refine F.ok sc_L_fits (fun vs H Q E h => ?_) (fun cdv A outer s0 H vs Q E hr h => ?_)
  · obtain ⟨l, xs, ss, v, f, rfl, _⟩ := h
    rfl
  · obtain ⟨l, xs, ss, v, f, rfl, SS, small, vb, g1, g2, fs, q⟩ := h
    have nd := sc_L_fits.nd
    have vf : -2 ^ 400 < v * f ∧ v * f < 2 ^ 400 := by
      have e1 : v * f ≤ 150 * f := Int.mul_le_mul_of_nonneg_right (by omega) (by omega)
      have e2 : -150 * f ≤ v * f := Int.mul_le_mul_of_nonneg_right (by omega) (by omega)
      omega
    refine ⟨_, (pss_cons (ps_mid (ps_set (i := 3) nd rfl (Or.inl rfl) (pcl Al hr (by decide) (by rfl) (pa_cons (pv 0) (pa_cons (pv 1) pa_nil)))))
      (pss_cons (ps_mid (ps_setLc (i := 5) (own := [("_law_one", 4)]) (g := gName 4) (tt := tYes) rfl nd rfl rfl (sw_true rfl rfl rfl (by decide +kernel)) (pi_list (pv 0)) (blkOk_by (N := ["_law_sides", "_law_value", "_law_factor", "_law_due", "_law_one", "_law_lifted", "_law_kept", "_law_found", "_law_ends"]) (sc := defScope s_L_fits) (by decide +kernel)) (fun _ _ _ _ _ => pg_name (i := 4) nd rfl (Or.inl rfl)) (fun _ _ _ _ _ => pts_nil) (fun _ _ _ _ _ => (pe_tup (pa_cons (pe_op op_mulW (pe_ix (r := rIxT K) (by exact ix_tup) (pv 4) pe_int (fun _ _ => rfl)) (pv 2)) (pa_cons (pe_op op_mulW (pe_ix (r := rIxT K) (by exact ix_tup) (pv 4) pe_int (fun _ _ => rfl)) (pv 2)) (pa_cons (pe_ix (r := rIxT K) (by exact ix_tup) (pv 4) pe_int (fun _ _ => rfl)) pa_nil)))))))
      (pss_cons (ps_mid (ps_set (i := 6) nd rfl (Or.inl rfl) (pe_callTy call_list_of (by rfl) hli (by decide +kernel) (pa_cons (pv 5) pa_nil))))
      (pss_cons (ps_mid (ps_set (i := 7) nd rfl (Or.inl rfl) (pcl Wo hr (by decide) (by rfl) (pa_cons pe_int (pa_cons (pv 5) (pa_cons (pe_op op_mulW (pv 1) (pv 2)) pa_nil))))))
      (pss_cons (ps_if (pt_cmpR (op_neD hr.units) (pv 5) (pv 6) (nomark _)) (pss_one (ps_ret pe_bl)) pss_nil)
      (pss_cons (ps_mid (ps_set (i := 8) nd rfl (Or.inl rfl) (pcl Re hr (by decide) (by rfl) (pa_cons (pv 5) (pa_cons (pe_op op_mulW (pv 1) (pv 2)) pa_nil)))))
      (pss_cons (ps_mid (ps_if (pt_cmpR op_gt (pe_callB call_len_seq (by rfl) B.len PySem.boot_len (pa_cons (pv 3) pa_nil)) pe_int (nomark _)) (pss_one (ps_ret (pe_and (pe_cmpR (op_eqD hr.units) (pv 7) pe_str (nomark _)) (pe_one (pe_cmpR (op_eqD hr.units) (pcl Wo hr (by decide) (by rfl) (pa_cons pe_int (pa_cons (pv 5) (pa_cons (pe_op op_mulW (pv 1) (pv 2)) pa_nil)))) pe_str (nomark _)))))) pss_nil))
      (pss_cons (ps_if (pt_mid (PW.pt (pw_or (pt_cmpR (op_neD hr.units) (pv 7) (pe_lc (own := [("_law_one", 4)]) (g := gName 4) (tt := tYes) rfl nd (pi_list (pv 3)) (blkOk_by (N := ["_law_sides", "_law_value", "_law_factor", "_law_due", "_law_one", "_law_lifted", "_law_kept", "_law_found", "_law_ends"]) (sc := defScope s_L_fits) (by decide +kernel)) (fun _ _ _ _ _ => pg_name (i := 4) nd rfl (Or.inl rfl)) (fun _ _ _ _ _ => pts_nil) (fun _ _ _ _ _ => (pe_op op_mulW (pv 4) (pv 2)))) (nomark _)) (pw_or1 (pt_cmpR (op_neD hr.units) (pv 8) (pe_tup (pa_cons (pe_ix ix_list (pv 7) pe_int (fun _ _ => rfl)) (pa_cons (pe_ix ix_list (pv 7) (pe_un un_neg pe_int) (fun _ _ => rfl)) pa_nil))) (nomark _)))))) (pss_one (ps_ret pe_bl)) pss_nil)
      (pss_cons (ps_if (pt_mid (PW.pt (pw_and (pt_cmpR op_le (pcl Pe hr (by decide) (by rfl) (pa_cons (pv 0) pa_nil)) pe_int (nomark _)) (pw_and1 (pt_not (pt_val (pcl Rf hr (by decide) (by rfl) (pa_cons (pv 0) (pa_cons (pv 1) (pa_cons (pv 3) pa_nil)))))))))) (pss_one (ps_ret pe_bl)) pss_nil)
      (pss_cons (ps_expr (pe_bm PySem.F.plainAttrs_list PySem.F.slot_list_append PySem.F.type_list_append mt_append (pv 7) (pa_cons pe_non pa_nil)))
      (pss_one (ps_ret (pe_cmpR (op_eqD hr.units) (pcl Ou hr (by decide) (by rfl) (pa_cons (pv 5) (pa_cons (pe_op op_mulW (pv 1) (pv 2)) pa_nil))) (pe_lc (own := [("_law_one", 4)]) (g := gName 4) (tt := tYes) rfl nd (pi_list (pv 3)) (blkOk_by (N := ["_law_sides", "_law_value", "_law_factor", "_law_due", "_law_one", "_law_lifted", "_law_kept", "_law_found", "_law_ends"]) (sc := defScope s_L_fits) (by decide +kernel)) (fun _ _ _ _ _ => pg_name (i := 4) nd rfl (Or.inl rfl)) (fun _ _ _ _ _ => pts_nil) (fun _ _ _ _ _ => (pe_op op_mulW (pv 4) (pv 2)))) (nomark _)))))))))))))), ?_⟩
    -- due
    refine ⟨fun st Hz => ∃ (R : List Int) (pd : Addr), st = [some (.ref l), some (.int v), some (.int f), some (.ref pd), none, none, none, none, none] ∧ Same H Hz ∧ Hz pd = some (.lst (R.map V.int)) ∧ (OutIs ss v R ∨ (1002 ≤ R.length ∧ R.Nodup ∧ ∀ y ∈ R, Rc ss v y)) ∧ (∀ y ∈ R, v - 10 ^ 34 ≤ y ∧ y ≤ v + 10 ^ 34) ∧ R.length ≤ 1010, ?_, ?_⟩
    · walk_at "rd"
      refine ⟨l, xs, ss, v, rfl, SS, by omega, fun R p H1 why l1 b1 s1 np hp => ?_⟩
      exact ⟨R, p, rfl, s1, hp, why, b1, l1⟩
    rintro st H1 ⟨R, pd, rfl, s1, hpd, why, rb, l1010⟩
    have few : R.length ≤ 1000 → OutIs ss v R := fun z => why.resolve_right fun y => by omega
    have ndR : R.Nodup := by
      rcases why with o | ⟨_, n, _⟩
      · exact o.1.imp fun h => by omega
      · exact n
    have rcR : ∀ y ∈ R, Rc ss v y := by
      rcases why with o | ⟨_, _, r⟩
      · exact fun y hy => (o.2 y).mp hy
      · exact r
    clear why
    -- lifted
    refine ⟨fun st Hz => ∃ (L : Addr) (ys : List V) (x4 : Option V), st = [some (.ref l), some (.int v), some (.int f), some (.ref pd), x4, some (.ref L), none, none, none] ∧ Same H1 Hz ∧ SidesAt Hz L ys (ss.map (lift f)), ?_, ?_⟩
    · have SS8 := SS.same s1
      walk_at "rd"
      have l4 := SS8.l4
      refine ⟨⟨_, SqL.of SS8.hl⟩, fun L nL => ?_⟩
      refine lc_list (K := K) (a := l) (xs := xs) (fun i H3 => ∃ ps : List Addr, ps.length = i ∧ H3 L = some (.lst (ps.map V.ref)) ∧ Same H1 H3 ∧ (∀ (j : Nat) (d : Sd) (p : Addr), ss[j]? = some d → ps[j]? = some p → H3 p = some (sideV (d.o * f) (d.s * f) d.m)))
        ⟨[], rfl, upd_same, fun b u z => (upd_ne (ne_of_none z nL)).trans z, fun j u p _ z => by cases z⟩ (fun _ _ _ ⟨_, _, _, sm, _⟩ => SqL.of (sm _ _ SS8.hl)) ?_ ?_
      · rintro i y H3 hy ⟨ps, hn, hD, sm, hps⟩
        obtain ⟨d, p, ed, rfl, hp, sp⟩ := SS8.item hy
        have il : i < ss.length := (List.getElem?_eq_some_iff.mp ed).1
        obtain ⟨b1, b2, b3⟩ := small d (List.mem_of_getElem? ed)
        have s0 := sp.s0
        have hp3 := sm _ _ hp
        refine ⟨rfl, ?_⟩
        walk_at "rd"
        refine ⟨p, _, _, _, rfl, rfl, SqT.of hp3, rfl, ?_⟩
        walk_at "rd"
        refine ⟨mulF (by omega) g1 g2, ?_⟩
        walk_at "rd"
        refine ⟨p, _, _, _, rfl, rfl, SqT.of hp3, rfl, ?_⟩
        walk_at "rd"
        refine ⟨mulF (by omega) g1 g2, ?_⟩
        walk_at "rd"
        refine ⟨p, _, _, _, rfl, rfl, SqT.of hp3, rfl, ?_⟩
        walk_at "rd"
        refine ⟨(by show 3 ≤ sizeLine; decide), fun z nz => ?_⟩
        have ncD : L ≠ z := ne_of_none hD nz
        refine ⟨_, (upd_ne ncD).trans hD, ?_, ps ++ [z], ?_, ?_, ?_, ?_⟩
        · rw [List.length_map, hn]; exact Nat.lt_of_lt_of_le (by omega : i < 8) (by decide)
        · rw [List.length_append, hn]; rfl
        · rw [List.map_append]; exact upd_same
        · intro b u y
          have y3 := sm _ _ y
          exact (upd_ne (ne_of_none y nL)).trans ((upd_ne (ne_of_none y3 nz)).trans y3)
        · intro j e p2 he hp2
          rcases Nat.lt_or_ge j ps.length with y | y
          · rw [List.getElem?_append_left y] at hp2
            have g := hps j e p2 he hp2
            exact (upd_ne (ne_of g hD (by intro y; cases y))).trans ((upd_ne (ne_of_none g nz)).trans g)
          · rw [List.getElem?_append_right y] at hp2
            have e0 : j - ps.length = 0 := by
              have := (List.getElem?_eq_some_iff.mp hp2).1
              simp at this
              omega
            rw [e0] at hp2
            cases hp2
            rw [show j = i by omega, ed] at he
            cases he
            exact (upd_ne (Ne.symm ncD)).trans upd_same
      rintro H9 ⟨ps, hn9, hD, s9, hps⟩
      refine ⟨L, ps.map V.ref, _, rfl, s9, hD, by rw [List.length_map, List.length_map, hn9, SS8.len], by rw [List.length_map]; exact SS8.l1, by rw [List.length_map]; exact SS8.l4, fun i d h => ?_⟩
      rw [List.getElem?_map] at h
      cases e : ss[i]? with
      | none => rw [e] at h; cases h
      | some d0 =>
        rw [e] at h
        cases h
        have il : i < ps.length := by rw [hn9, SS8.len]; exact (List.getElem?_eq_some_iff.mp e).1
        refine ⟨ps[i], by rw [List.getElem?_map, List.getElem?_eq_getElem il]; rfl, hps i d0 ps[i] e (List.getElem?_eq_getElem il), ?_⟩
        exact lift_bd (SS8.side d0 (List.mem_of_getElem? e)) (small d0 (List.mem_of_getElem? e)) g1 g2
    rintro st H2 ⟨L, ys, x4, rfl, s2, SL⟩
    have oL : R.length ≤ 1000 → OutIs (ss.map (lift f)) (v * f) (R.map fun y => y * f) := fun z => out_lift SS.side g1 (few z)
    have manyL : 1000 < R.length → ∀ R', OutIs (ss.map (lift f)) (v * f) R' → 1000 < R'.length := fun z R' o => by
      have := nodup_le (map_mul_nd g1 ndR) (R := R') fun y hy => by
        obtain ⟨x, hx, rfl⟩ := List.mem_map.mp hy
        exact (o.2 _).mpr (rc_lift SS.side g1 (rcR x hx))
      rw [List.length_map] at this
      omega
    have fewL : FewP (ss.map (lift f)) ∧ FewP ((ss.map (lift f)).map mirD) := by
      rcases fs with rfl | z
      · rw [lift_one]
        refine ⟨few_ok fun d hd => ⟨SS.side d hd, (small d hd).2.2⟩, few_ok fun d hd => ?_⟩
        obtain ⟨e, he, rfl⟩ := List.mem_map.mp hd
        exact ⟨side_mir (SS.side e he), (small e he).2.2⟩
      · exact ⟨few_two (by rw [List.length_map]; exact z), few_two (by rw [List.length_map, List.length_map]; exact z)⟩
    generalize ets : ss.map (lift f) = ts at SL oL manyL fewL
    clear ets
    replace SS := SS.same (s1.trans s2)
    replace hpd := s2 _ _ hpd
    replace s1 := s1.trans s2
    clear s2
    have md : ∀ d ∈ ts, Mode d.m := fun d hd => (SL.side d hd).md
    -- kept
    refine ⟨fun st Hz => ∃ Kp : Addr, st = [some (.ref l), some (.int v), some (.int f), some (.ref pd), x4, some (.ref L), some (.ref Kp), none, none] ∧ Same H2 Hz ∧ SidesAt Hz Kp ys ts, ?_, ?_⟩
    · walk_at "rd"
      refine ⟨L, _, rfl, .inl (SqL.of SL.hl), fun Kp nK => ?_⟩
      exact ⟨Kp, rfl, same_upd nK, upd_same, SL.len, SL.l1, SL.l4, fun i d e => let ⟨p, a, b, c⟩ := SL.at_ i d e; ⟨p, a, same_upd nK _ _ b, c⟩⟩
    rintro st H3 ⟨Kp, rfl, s3, SK⟩
    replace SS := SS.same s3
    replace SL := SL.same s3
    replace hpd := s3 _ _ hpd
    replace s1 := s1.trans s3
    clear s3
    -- found
    refine ⟨fun st Hz => ∃ fv : V, st = [some (.ref l), some (.int v), some (.int f), some (.ref pd), x4, some (.ref L), some (.ref Kp), some fv, none] ∧ Same H3 Hz ∧ ((R.length ≤ 1000 ∧ ∃ p, fv = .ref p ∧ H3 p = none ∧ Hz p = some (.lst ((R.map fun y => y * f).map V.int))) ∨ (1000 < R.length ∧ fv = .str "many")), ?_, ?_⟩
    · walk_at "rd"
      refine ⟨mulF (by omega) g1 g2, ?_⟩
      walk_at "rd"
      refine ⟨0, _, _, rfl, by decide, .inr (.inr ⟨L, ys, ts, v * f, rfl, SL, rfl, by omega, fun H4 inf s4 => ?_, fun _ R' p H4 o' l' b' s4 np hp => ?_, fun z => absurd z (by decide)⟩)⟩
      · refine ⟨_, rfl, s4, .inr ⟨?_, rfl⟩⟩
        rcases Nat.lt_or_ge 1000 R.length with z | z
        · exact z
        · have := inf _ (oL z)
          rw [List.length_map] at this
          exact this
      · have z : R.length ≤ 1000 := by
          rcases Nat.lt_or_ge 1000 R.length with z | z
          · have := manyL z R' o'
            omega
          · exact z
        rw [o'.uniq (oL z)] at hp
        exact ⟨_, rfl, s4, .inl ⟨z, p, rfl, np, hp⟩⟩
    rintro st H4 ⟨fv, rfl, s4, fw⟩
    have nf : ∀ p, fv = .ref p → H p = none ∧ pd ≠ p ∧ L ≠ p := fun p e => by
      rcases fw with ⟨_, p', e', np, _⟩ | ⟨_, e'⟩
      · rw [e'] at e
        cases e
        exact ⟨s1.free np, ne_of_none hpd np, ne_of_none SL.hl np⟩
      · rw [e'] at e
        cases e
    replace SS := SS.same s4
    replace SL := SL.same s4
    replace SK := SK.same s4
    replace hpd := s4 _ _ hpd
    replace fw : (R.length ≤ 1000 ∧ ∃ p, fv = .ref p ∧ H4 p = some (.lst ((R.map fun y => y * f).map V.int))) ∨ (1000 < R.length ∧ fv = .str "many") := fw.imp (fun ⟨a, p, b, _, c⟩ => ⟨a, p, b, c⟩) id
    replace s1 := s1.trans s4
    clear s4
    walk_at "rd"
    refine ⟨_, _, SL.dp SL.hl, SK.dp SK.hl, shaped_sides md, shaped_sides md, ?_⟩
    refine ⟨_, rfl, ?_⟩
    refine ite2 (fun z => (not_t z (SeqAt.eqv_refl _ (SeqAt.canLay_of_shaped (shaped_sides md)))).elim) (fun _ => ?_)
    clear SK
    -- ends
    refine ⟨fun st Hz => ∃ (lo hi : Option Int) (pe : Addr), st = [some (.ref l), some (.int v), some (.int f), some (.ref pd), x4, some (.ref L), some (.ref Kp), some fv, some (.ref pe)] ∧ Same H4 Hz ∧ LeastI (UnA ts) (v * f) hi ∧ LeastI (UnA (ts.map mirD)) (-(v * f)) lo ∧ Hz pe = some (.tup [oV (lo.map fun x => -x), oV hi]), ?_, ?_⟩
    · walk_at "rd"
      refine ⟨mulF (by omega) g1 g2, ?_⟩
      walk_at "rd"
      refine ⟨L, ys, ts, v * f, rfl, SL, by omega, fewL.1, fewL.2, fun lo hi p H5 e1 e2 s5 _ hp => ?_⟩
      exact ⟨lo, hi, p, rfl, s5, e1, e2, hp⟩
    rintro st H5 ⟨lo, hi, pe, rfl, s5, eh, el, hpe⟩
    replace SS := SS.same s5
    replace SL := SL.same s5
    replace hpd := s5 _ _ hpd
    replace fw : (R.length ≤ 1000 ∧ ∃ p, fv = .ref p ∧ H5 p = some (.lst ((R.map fun y => y * f).map V.int))) ∨ (1000 < R.length ∧ fv = .str "many") := fw.imp (fun ⟨a, p, b, c⟩ => ⟨a, p, b, s5 _ _ c⟩) id
    replace s1 := s1.trans s5
    clear s5 fewL
    -- more than 1000
    refine ⟨fun st Hz => st = [some (.ref l), some (.int v), some (.int f), some (.ref pd), x4, some (.ref L), some (.ref Kp), some fv, some (.ref pe)] ∧ Hz = H5 ∧ R.length ≤ 1000, ?_, ?_⟩
    · walk_at "rd"
      refine ⟨pd, _, rfl, .inl (SqL.of hpd), ?_⟩
      rw [List.length_map]
      walk_at "rd"
      refine ite2 (fun z => ?_) (fun z => ?_)
      · have zb : 1000 < R.length := by have := of_decide_eq_true z; omega
        obtain ⟨_, rfl⟩ := fw.resolve_left fun y => by omega
        walk_at "rd"
        refine ⟨_, _, .str _, .str _, by decide +kernel, by decide +kernel, ?_⟩
        refine ⟨_, rfl, ?_⟩
        refine ite2 (fun _ => ?_) (fun z => absurd (by decide +kernel) z)
        walk_at "rd"
        refine ⟨mulF (by omega) g1 g2, ?_⟩
        walk_at "rd"
        refine ⟨1, _, _, rfl, by decide, .inr (.inr ⟨L, ys, ts, v * f, rfl, SL, rfl, by omega, fun H6 _ s6 => ?_, fun z => absurd z (by decide), fun _ Ls p H6 ri fR s6 _ => ?_⟩)⟩
        · walk_at "rd"
          refine ⟨_, _, .str _, .str _, by decide +kernel, by decide +kernel, ?_⟩
          have e : PyData.eqv (.str (Str.ofString "many")) (.str (Str.ofString "many")) = true := by decide +kernel
          rw [e]
          exact q _ (s1.trans s6)
        · exfalso
          obtain ⟨R', o, l⟩ := fR
          have := manyL zb R' o
          omega
      · have : ¬ 1000 < (R.length : Int) := fun y => z (decide_eq_true y)
        exact ⟨rfl, rfl, by omega⟩
    rintro st H6 ⟨rfl, rfl, z1000⟩
    obtain ⟨_, pf, rfl, hpf⟩ := fw.resolve_right fun z => by omega
    have oR := few z1000
    have oT := oL z1000
    clear fw few oL manyL
    obtain ⟨npf, npd, nL⟩ := nf _ rfl
    refine ⟨fun b Hz => b = false ∧ Same H6 Hz, ?_, ?_⟩
    · walk_at "rd"
      refine ⟨⟨_, SqL.of hpd⟩, fun D1 nD1 => ?_⟩
      refine lc_list (K := K) (a := pd) (xs := R.map V.int) (fun i H8 => H8 D1 = some (.lst (((R.take i).map fun y => y * f).map V.int)) ∧ i ≤ R.length ∧ Same H6 H8) ⟨upd_same, Nat.zero_le _, same_upd nD1⟩ (fun _ _ _ ⟨_, _, sm⟩ => SqL.of (sm _ _ hpd)) ?_ ?_
      · rintro i x H8 hx ⟨hD, li, sm⟩
        obtain ⟨y, ey, rfl⟩ : ∃ y, R[i]? = some y ∧ x = V.int y := by
          rw [List.getElem?_map] at hx
          cases e : R[i]? with
          | none => rw [e] at hx; cases hx
          | some y => rw [e] at hx; cases hx; exact ⟨y, rfl, rfl⟩
        have il : i < R.length := (List.getElem?_eq_some_iff.mp ey).1
        have yb := rb y (List.mem_of_getElem? ey)
        refine ⟨rfl, ?_⟩
        walk_at "rd"
        refine ⟨mulF (by omega) g1 g2, ?_⟩
        refine ⟨_, hD, ?_, ?_, il, fun b u z => (upd_ne (ne_of_none z nD1)).trans (sm _ _ z)⟩
        · rw [List.length_map, List.length_map]
          exact Nat.lt_of_le_of_lt (List.length_take_le' _ _) (Nat.lt_of_lt_of_le (by omega : R.length < 2000) (by decide))
        · rw [List.take_succ, ey, List.map_append, List.map_append]
          exact upd_same
      rintro H7 ⟨hD1, _, s7⟩
      rw [List.length_map, List.take_length] at hD1
      refine ⟨_, _, dp_ints (s7 _ _ hpf), dp_ints hD1, shaped_ints _, shaped_ints _, ?_⟩
      refine ⟨_, rfl, ?_⟩
      refine ite2 (fun z => (not_t z (SeqAt.eqv_refl _ (SeqAt.canLay_of_shaped (shaped_ints _)))).elim) (fun _ => ?_)
      obtain ⟨M, eM, atM⟩ := last_at oT.ne
      obtain ⟨m, em, atm⟩ := first_at oT.ne
      obtain rfl := reach_hi SL.side oT eM eh
      obtain rfl := reach_lo SL.side oT em el
      walk_at "rd"
      refine ⟨pf, _, _, _, rfl, rfl, SqL.of (s7 _ _ hpf), atm, ?_⟩
      walk_at "rd"
      refine ⟨pf, _, _, _, rfl, rfl, SqL.of (s7 _ _ hpf), atM, ?_⟩
      walk_at "rd"
      refine ⟨(by show 2 ≤ sizeLine; decide), fun T nT => ?_⟩
      have gT : upd H7 T (.tup [.int m, .int M]) T = some (pairV m M) := upd_same
      have sT : Same H7 (upd H7 T (.tup [.int m, .int M])) := same_upd nT
      generalize upd H7 T _ = H8 at gT sT ⊢
      have hpe8 : H8 pe = some (pairV m M) := by
        rw [sT _ _ (s7 _ _ hpe)]
        show some (HO.tup [V.int (- -m), V.int M]) = _
        rw [Int.neg_neg]
        rfl
      refine ⟨_, _, dpPair hpe8, dpPair gT, shaped_two _ _, shaped_two _ _, ?_⟩
      rw [eqv_two]
      exact ⟨_, rfl, by simp, s7.trans sT⟩
    rintro b H7 ⟨rfl, s7⟩
    refine ite2 (fun z => absurd z (by decide)) (fun _ => ?_)
    replace SS := SS.same s7
    replace SL := SL.same s7
    replace hpd := s7 _ _ hpd
    replace hpf := s7 _ _ hpf
    replace s1 := s1.trans s7
    clear s7 hpe eh el
    -- routes
    refine ⟨fun b Hz => b = false ∧ Same H7 Hz, ?_, ?_⟩
    · walk_at "rd"
      refine ⟨l, xs, ss, rfl, SS, ?_⟩
      walk_at "rd"
      refine ite2 (fun z => ?_) (fun z => ?_)
      · have N2 := of_decide_eq_true z
        walk_at "rd"
        refine ⟨l, pd, xs, ss, v, R, rfl, SS, fun d hd => (small d hd).2.2, by omega, hpd, oR, by omega, fun H8 s8 => ?_⟩
        exact ⟨_, rfl, rfl, s8⟩
      · exact ⟨rfl, Same.refl _⟩
    rintro b H8 ⟨rfl, s8⟩
    refine ite2 (fun z => absurd z (by decide)) (fun _ => ?_)
    replace SL := SL.same s8
    replace hpd := s8 _ _ hpd
    replace hpf := s8 _ _ hpf
    replace s1 := s1.trans s8
    clear s8 SS
    walk_at "rd"
    refine ⟨.inl ⟨rfl, _, SqL.of hpf⟩, ?_⟩
    walk_at "rd"
    refine ⟨pf, _, _, rfl, rfl, hpf, (by rw [List.length_map, List.length_map]; exact Nat.lt_of_lt_of_le (by omega : R.length < 2000) (by decide)), ?_⟩
    have SL9 : SidesAt (upd H8 pf (.lst ((R.map fun y => y * f).map V.int ++ [.non]))) L ys ts := ⟨(upd_ne nL).trans SL.hl, SL.len, SL.l1, SL.l4, fun i d e => let ⟨p, a, b, c⟩ := SL.at_ i d e; ⟨p, a, (upd_ne (ne_of b hpf (by intro z; cases z))).trans b, c⟩⟩
    have hpd9 : upd H8 pf (.lst ((R.map fun y => y * f).map V.int ++ [.non])) pd = some (.lst (R.map V.int)) := (upd_ne npd).trans hpd
    have s9 : Same H (upd H8 pf (.lst ((R.map fun y => y * f).map V.int ++ [.non]))) := fun b u z => (upd_ne (ne_of_none z npf)).trans (s1 _ _ z)
    generalize upd H8 pf _ = H9 at SL9 hpd9 s9 ⊢
    walk_at "rd"
    refine ⟨mulF (by omega) g1 g2, ?_⟩
    walk_at "rd"
    refine ⟨L, ys, ts, v * f, rfl, SL9, by omega, fun R' p H10 o' l' b' s10 np hp => ?_, fun H10 inf s10 => ?_⟩
    · rw [o'.uniq oT] at hp
      replace hpd9 := s10 _ _ hpd9
      walk_at "rd"
      refine ⟨⟨_, SqL.of hpd9⟩, fun D1 nD1 => ?_⟩
      refine lc_list (K := K) (a := pd) (xs := R.map V.int) (fun i H8 => H8 D1 = some (.lst (((R.take i).map fun y => y * f).map V.int)) ∧ i ≤ R.length ∧ Same H10 H8) ⟨upd_same, Nat.zero_le _, same_upd nD1⟩ (fun _ _ _ ⟨_, _, sm⟩ => SqL.of (sm _ _ hpd9)) ?_ ?_
      · rintro i x H8 hx ⟨hD, li, sm⟩
        obtain ⟨y, ey, rfl⟩ : ∃ y, R[i]? = some y ∧ x = V.int y := by
          rw [List.getElem?_map] at hx
          cases e : R[i]? with
          | none => rw [e] at hx; cases hx
          | some y => rw [e] at hx; cases hx; exact ⟨y, rfl, rfl⟩
        have il : i < R.length := (List.getElem?_eq_some_iff.mp ey).1
        have yb := rb y (List.mem_of_getElem? ey)
        refine ⟨rfl, ?_⟩
        walk_at "rd"
        refine ⟨mulF (by omega) g1 g2, ?_⟩
        refine ⟨_, hD, ?_, ?_, il, fun b u z => (upd_ne (ne_of_none z nD1)).trans (sm _ _ z)⟩
        · rw [List.length_map, List.length_map]
          exact Nat.lt_of_le_of_lt (List.length_take_le' _ _) (Nat.lt_of_lt_of_le (by omega : R.length < 2000) (by decide))
        · rw [List.take_succ, ey, List.map_append, List.map_append]
          exact upd_same
      rintro H7 ⟨hD1, _, s7⟩
      rw [List.length_map, List.take_length] at hD1
      refine ⟨_, _, dp_ints (s7 _ _ hp), dp_ints hD1, shaped_ints _, shaped_ints _, ?_⟩
      rw [SeqAt.eqv_refl _ (SeqAt.canLay_of_shaped (shaped_ints _))]
      exact q _ (s9.trans (s10.trans s7))
    · have := inf _ oT
      rw [List.length_map] at this
      omega
end
end HT
namespace HT
open PySem L2
theorem most_of {x : V} (h : x ∈ [V.int 3, .int 6, .int 12]) : ∃ n : Nat, x = .int (n : Int) ∧ 1 ≤ n ∧ n ≤ 12 := by
  simp only [List.mem_cons, List.not_mem_nil, or_false] at h
  rcases h with rfl | rfl | rfl
  · exact ⟨3, rfl, by decide, by decide⟩
  · exact ⟨6, rfl, by decide, by decide⟩
  · exact ⟨12, rfl, by decide, by decide⟩
theorem many_of {x : V} (h : x ∈ [V.int 2, .int 2, .int 4]) : ∃ n : Nat, x = .int (n : Int) ∧ 1 ≤ n ∧ n ≤ 4 := by
  simp only [List.mem_cons, List.not_mem_nil, or_false] at h
  rcases h with rfl | rfl | rfl
  · exact ⟨2, rfl, by decide, by decide⟩
  · exact ⟨2, rfl, by decide, by decide⟩
  · exact ⟨4, rfl, by decide, by decide⟩
theorem Src.chg {a c p : Addr} {H : Hp} {t : Nat} {o : HO} (S : Src H a c t) (na : p ≠ a) (nc : p ≠ c) : Src (upd H p o) a c t := by
  obtain ⟨cs, h, l⟩ := S.cl
  exact ⟨S.ne, (upd_ne na.symm).trans S.ob, cs, (upd_ne nc.symm).trans h, l⟩
theorem two_at {H : Hp} {l p q : Addr} {d e : Sd} (hl : H l = some (.lst [.ref p, .ref q])) (hp : H p = some (sideV d.o d.s d.m)) (hq : H q = some (sideV e.o e.s e.m)) (D : SideP d.o d.s d.m) (E : SideP e.o e.s e.m) : SidesAt H l [.ref p, .ref q] [d, e] :=
  ⟨hl, rfl, by show 1 ≤ 2; decide, by show 2 ≤ 4; decide, fun i x h => by
    have : i < 2 := (List.getElem?_eq_some_iff.mp h).1
    rcases (by omega : i = 0 ∨ i = 1) with rfl | rfl <;> cases h
    · exact ⟨p, rfl, hp, D⟩
    · exact ⟨q, rfl, hq, E⟩⟩
theorem three_at {H : Hp} {l p q r : Addr} {d e g : Sd} (hl : H l = some (.lst [.ref p, .ref q, .ref r])) (hp : H p = some (sideV d.o d.s d.m)) (hq : H q = some (sideV e.o e.s e.m)) (hr : H r = some (sideV g.o g.s g.m)) (S : ∀ x ∈ [d, e, g], SideP x.o x.s x.m) : SidesAt H l [.ref p, .ref q, .ref r] [d, e, g] :=
  ⟨hl, rfl, by show 1 ≤ 3; decide, by show 3 ≤ 4; decide, fun i x h => by
    have : i < 3 := (List.getElem?_eq_some_iff.mp h).1
    rcases (by omega : i = 0 ∨ i = 1 ∨ i = 2) with rfl | rfl | rfl <;> cases h
    · exact ⟨p, rfl, hp, S d (by simp)⟩
    · exact ⟨q, rfl, hq, S e (by simp)⟩
    · exact ⟨r, rfl, hr, S g (by simp)⟩⟩
theorem dp_two {K : PySem.W.Frag} {H : Hp} {p : Addr} {s r : Str} (h : H p = some (.lst [.str s, .str r])) : Dp K H (.ref p) (.list [.str s, .str r]) := .lst (SqL.of h) (.cons (.str _) (.cons (.str _) .nil))
def spLaw (K : PySem.W.Frag) : Sp := fun vs H Q _ => ∃ (l : Addr) (ns : List Int), vs = [.ref l] ∧ SqL K H l (ns.map V.int) ∧ ns.length ≤ 63 ∧ ∀ H', Q (.bl true) H'
section
variable {P : Program} {w : World} {K : PySem.W.Frag} {mg : Str → Option Value} {base : Heap} {f0 f1 f2 f3 f4 f5 f6 : Addr} {d0 d1 d2 d3 d4 d5 d6 : FuncData} {C : Nat → Addr}
theorem ok_law {f : Addr} {fd : FuncData} (F : Fun K "law" "law" s_law f fd) (B : Blt mg) (T : ChkT mg) (So : Cal P w K mg base "_law_source" 1 ["_law_script"] (spSource K) f0 d0) (D : Cal P w K mg base "_law_draw" 1 ["_law_source_here", "_law_limit"] spDraw f1 d1)
    (Pi : Cal P w K mg base "_law_pick" 2 ["_law_source_here", "_law_values"] spPick f2 d2) (Gr : Cal P w K mg base "_law_great" 2 ["_law_source_here", "_law_digits"] spGreat f3 d3) (Se : Cal P w K mg base "_law_set" 4 ["_law_source_here", "_law_most", "_law_many"] spSet f4 d4)
    (Fi : Cal P w K mg base "_law_fits" 109 ["_law_sides", "_law_value", "_law_factor"] spFits f5 d5) (Wo : Cal P w K mg base "_law_word" 9 ["_law_kind", "_law_sides", "_law_value"] (spWord60 K) f6 d6) : FnOk P w K mg base CX0 110 f fd ["_law_script"] (spLaw K) := by
  refine F.ok sc_law (fun vs H Q E h => ?_) (fun cdv A outer s0 H vs Q E hr h => ?_)
  · obtain ⟨l, ns, rfl, _⟩ := h
    rfl
  · obtain ⟨l, ns, rfl, hl, nl, q⟩ := h
    have nd := sc_law.nd
    refine ⟨_, (pss_cons (ps_mid (ps_set (i := 1) nd rfl (Or.inr rfl) (pcl So hr (by decide) (by rfl) (pa_cons (pv 0) pa_nil))))
      (pss_cons (ps_mid (ps_for PassesOwn.never rfl (pi_range1 (by rfl) B.range (pa_cons pe_int pa_nil)) (pg_name (i := 2) nd rfl (Or.inl rfl)) (pss_cons (ps_mid (ps_set (i := 3) nd rfl (Or.inr rfl) (pcl Se hr (by decide) (by rfl) (pa_cons (pv 1) (pa_cons (pcl Pi hr (by decide) (by rfl) (pa_cons (pv 1) (pa_cons (pe_lst (pa_cons pe_int (pa_cons pe_int (pa_cons pe_int pa_nil)))) pa_nil))) (pa_cons (pcl Pi hr (by decide) (by rfl) (pa_cons (pv 1) (pa_cons (pe_lst (pa_cons pe_int (pa_cons pe_int (pa_cons pe_int pa_nil)))) pa_nil))) pa_nil))))))
      (pss_cons (ps_mid (ps_set (i := 4) nd rfl (Or.inl rfl) (pe_op op_sub (pcl D hr (by decide) (by rfl) (pa_cons (pv 1) (pa_cons pe_int pa_nil))) pe_int)))
      (pss_cons (ps_if (pt_mid (pt_not (pt_val (pcl Fi hr (by decide) (by rfl) (pa_cons (pv 3) (pa_cons (pv 4) (pa_cons pe_int pa_nil))))))) (pss_one (ps_ret pe_bl)) pss_nil)
      (pss_cons (ps_if (pt_mid (PW.pt (pw_and (pt_cmpR op_lt (pe_callB call_len_seq (by rfl) T.len PySem.boot_len (pa_cons (pv 3) pa_nil)) pe_int (nomark _)) (pw_and1 (pt_not (pt_val (pcl Fi hr (by decide) (by rfl) (pa_cons (pv 3) (pa_cons (pv 4) (pa_cons (pe_op op_add pe_int (pcl Gr hr (by decide) (by rfl) (pa_cons (pv 1) (pa_cons pe_int pa_nil)))) pa_nil)))))))))) (pss_one (ps_ret pe_bl)) pss_nil)
      (pss_cons (ps_mid (ps_for PassesOwn.never rfl (pi_list (pe_lst (pa_cons pe_non (pa_cons pe_bl (pa_cons pe_str (pa_cons (pe_lst pa_nil) (pa_cons (pe_tup (pa_cons pe_int pa_nil)) pa_nil))))))) (pg_name (i := 5) nd rfl (Or.inr rfl)) (pss_one (ps_if (pt_mid (pt_cmpR (op_neD hr.units) (pe_lc (own := [("_law_kind", 6)]) (g := gName 6) (tt := tYes) rfl nd (pi_range1 (by rfl) B.range (pa_cons pe_int pa_nil)) (blkOk_by (N := ["_law_script", "_law_source_here", "_law_turn", "_law_sides", "_law_value", "_law_bad", "_law_kind", "_law_pair", "_law_end", "_law_found"]) (sc := defScope s_law) (by decide +kernel)) (fun _ _ _ _ _ => pg_name (i := 6) nd rfl (Or.inl rfl)) (fun _ _ _ _ _ => pts_nil) (fun _ _ _ _ _ => (pcl Wo hr (by decide) (by rfl) (pa_cons (pv 6) (pa_cons (pv 3) (pa_cons (pv 5) pa_nil)))))) (pe_op op_rep (pe_lst (pa_cons pe_str pa_nil)) pe_int) (nomark _))) (pss_one (ps_ret pe_bl)) pss_nil))))
      (pss_one (ps_mid (ps_for PassesOwn.never rfl (pi_list (pe_lst (pa_cons pe_non (pa_cons (pe_lst pa_nil) (pa_cons (pe_tup pa_nil) (pa_cons (pe_op op_rep (pv 3) pe_int) (pa_cons pe_str (pa_cons (pe_lst (pa_cons pe_non pa_nil)) (pa_cons (pe_lst (pa_cons (pe_tup (pa_cons pe_int (pa_cons pe_int (pa_cons pe_str pa_nil)))) pa_nil)) (pa_cons (pe_callTy call_tuple_of (by rfl) T.tuple (by decide +kernel) (pa_cons (pv 3) pa_nil)) pa_nil)))))))))) (pg_name (i := 5) nd rfl (Or.inr rfl)) (pss_one (ps_if (pt_mid (pt_cmpR (op_neD hr.units) (pe_lc (own := [("_law_kind", 6)]) (g := gName 6) (tt := tYes) rfl nd (pi_range1 (by rfl) B.range (pa_cons pe_int pa_nil)) (blkOk_by (N := ["_law_script", "_law_source_here", "_law_turn", "_law_sides", "_law_value", "_law_bad", "_law_kind", "_law_pair", "_law_end", "_law_found"]) (sc := defScope s_law) (by decide +kernel)) (fun _ _ _ _ _ => pg_name (i := 6) nd rfl (Or.inl rfl)) (fun _ _ _ _ _ => pts_nil) (fun _ _ _ _ _ => (pcl Wo hr (by decide) (by rfl) (pa_cons (pv 6) (pa_cons (pv 5) (pa_cons (pcl Pi hr (by decide) (by rfl) (pa_cons (pv 1) (pa_cons (pe_lst (pa_cons pe_int (pa_cons pe_non pa_nil))) pa_nil))) pa_nil)))))) (pe_op op_rep (pe_lst (pa_cons pe_str pa_nil)) pe_int) (nomark _))) (pss_one (ps_ret pe_bl)) pss_nil))))))))))))
      (pss_cons (ps_if (pt_mid (pt_cmpR (op_neD hr.units) (pcl Wo hr (by decide) (by rfl) (pa_cons pe_int (pa_cons (pe_lst (pa_cons (pe_tup (pa_cons pe_int (pa_cons pe_int (pa_cons pe_str pa_nil)))) (pa_cons (pe_tup (pa_cons pe_int (pa_cons pe_int (pa_cons pe_str pa_nil)))) (pa_cons (pe_tup (pa_cons pe_int (pa_cons pe_int (pa_cons pe_str pa_nil)))) pa_nil)))) (pa_cons pe_int pa_nil)))) (pe_lst (pa_cons pe_int (pa_cons pe_int (pa_cons pe_int (pa_cons pe_int (pa_cons pe_int pa_nil)))))) (nomark _))) (pss_one (ps_ret pe_bl)) pss_nil)
      (pss_cons (ps_if (pt_mid (pt_cmpR (op_neD hr.units) (pcl Wo hr (by decide) (by rfl) (pa_cons pe_int (pa_cons (pe_lst (pa_cons (pe_tup (pa_cons pe_int (pa_cons (pe_op op_add (pe_op op_pow pe_int pe_int) pe_int) (pa_cons pe_str pa_nil)))) (pa_cons (pe_tup (pa_cons pe_int (pa_cons (pe_op op_add (pe_op op_pow pe_int pe_int) pe_int) (pa_cons pe_str pa_nil)))) (pa_cons (pe_tup (pa_cons pe_int (pa_cons (pe_op op_pow pe_int pe_int) (pa_cons pe_str pa_nil)))) pa_nil)))) (pa_cons (pe_un un_neg pe_int) pa_nil)))) (pe_lst (pa_cons (pe_un un_neg pe_int) (pa_cons pe_int pa_nil))) (nomark _))) (pss_one (ps_ret pe_bl)) pss_nil)
      (pss_cons (ps_mid (ps_set (i := 7) nd rfl (Or.inr rfl) (pe_lst (pa_cons (pe_tup (pa_cons pe_int (pa_cons pe_int (pa_cons pe_str pa_nil)))) (pa_cons (pe_tup (pa_cons pe_int (pa_cons pe_int (pa_cons pe_str pa_nil)))) pa_nil)))))
      (pss_cons (ps_mid (ps_set (i := 8) nd rfl (Or.inl rfl) (pe_op op_add pe_int (pe_op op_mul pe_int pe_int))))
      (pss_cons (ps_if (pt_mid (PW.pt (pw_or (pt_cmpR (op_neD hr.units) (pcl Wo hr (by decide) (by rfl) (pa_cons pe_int (pa_cons (pv 7) (pa_cons (pv 8) pa_nil)))) (pe_lst (pa_cons (pv 8) pa_nil)) (nomark _)) (pw_or1 (pt_cmpR (op_neD hr.units) (pcl Wo hr (by decide) (by rfl) (pa_cons pe_int (pa_cons (pv 7) (pa_cons (pe_op op_sub (pv 8) pe_int) pa_nil)))) (pe_lst (pa_cons (pe_op op_sub (pv 8) pe_int) (pa_cons (pv 8) pa_nil))) (nomark _)))))) (pss_one (ps_ret pe_bl)) pss_nil)
      (pss_cons (ps_mid (ps_setLc (i := 9) (own := [("_law_kind", 6)]) (g := gName 6) (tt := tYes) rfl nd rfl rfl (sw_true rfl rfl rfl (by decide +kernel)) (pi_range1 (by rfl) B.range (pa_cons pe_int pa_nil)) (blkOk_by (N := ["_law_script", "_law_source_here", "_law_turn", "_law_sides", "_law_value", "_law_bad", "_law_kind", "_law_pair", "_law_end", "_law_found"]) (sc := defScope s_law) (by decide +kernel)) (fun _ _ _ _ _ => pg_name (i := 6) nd rfl (Or.inl rfl)) (fun _ _ _ _ _ => pts_nil) (fun _ _ _ _ _ => (pcl Wo hr (by decide) (by rfl) (pa_cons (pv 6) (pa_cons (pv 7) (pa_cons (pe_op op_add pe_int (pe_op op_mul pe_int pe_int)) pa_nil)))))))
      (pss_cons (ps_if (PW.pt (pw_or (pt_cmpR op_ne (pe_callB call_len_seq (by rfl) T.len PySem.boot_len (pa_cons (pe_ix ix_list (pv 9) pe_int (fun _ _ => rfl)) pa_nil)) pe_int (nomark _)) (pw_or1 (pt_cmpR (op_neD hr.units) (pe_ix ix_list (pv 9) pe_int (fun _ _ => rfl)) (pe_lst (pa_cons (pe_lst (pa_cons (pv 8) pa_nil)) pa_nil)) (nomark _))))) (pss_one (ps_ret pe_bl)) pss_nil)
      (pss_one (ps_ret (pe_cmpR (op_eqD hr.units) (pe_lc (own := [("_law_kind", 6)]) (g := gName 6) (tt := tYes) rfl nd (pi_range1 (by rfl) B.range (pa_cons pe_int pa_nil)) (blkOk_by (N := ["_law_script", "_law_source_here", "_law_turn", "_law_sides", "_law_value", "_law_bad", "_law_kind", "_law_pair", "_law_end", "_law_found"]) (sc := defScope s_law) (by decide +kernel)) (fun _ _ _ _ _ => pg_name (i := 6) nd rfl (Or.inl rfl)) (fun _ _ _ _ _ => pts_nil) (fun _ _ _ _ _ => (pcl Wo hr (by decide) (by rfl) (pa_cons (pv 6) (pa_cons (pv 7) (pa_cons (pe_op op_add pe_int pe_int) pa_nil)))))) (pe_op op_rep (pe_lst (pa_cons pe_str pa_nil)) pe_int) (nomark _))))))))))))), ?_⟩
    refine ⟨fun st Hz => ∃ a c : Addr, st = [some (.ref l), some (.ref a), none, none, none, none, none, none, none, none] ∧ Src Hz a c 0, ?_, ?_⟩
    · walk_at "rd"
      refine ⟨l, ns, rfl, hl, nl, fun a c H1 _ _ _ S1 => ?_⟩
      exact ⟨a, c, rfl, S1⟩
    rintro st H1 ⟨a, c, rfl, S1⟩
    refine ⟨fun st Hz => ∃ (x2 x3 x4 x5 : Option V), st = [some (.ref l), some (.ref a), x2, x3, x4, x5, none, none, none, none], ?_, ?_⟩
    · walk_at "rd"
      refine ⟨by decide, by decide, ?_⟩
      refine for_range (n := 15) (fun i st Hz => ∃ (x2 x3 x4 x5 : Option V) (t : Nat), st = [some (.ref l), some (.ref a), x2, x3, x4, x5, none, none, none, none] ∧ Src Hz a c t ∧ t ≤ 1000 * i) ⟨none, none, none, none, 0, rfl, S1, by omega⟩ ?_ (fun st Hz ⟨x2, x3, x4, x5, t, e, _⟩ => ⟨x2, x3, x4, x5, e⟩)
      rintro i st Ha hi ⟨x2, x3, x4, x5, t, rfl, Sa, tb⟩
      walk_at "rd"
      refine ⟨fun st Hz => ∃ (L : Addr) (xs : List V) (ss : List Sd) (t' : Nat), st = [some (.ref l), some (.ref a), some (.int (0 + (i : Int))), some (.ref L), x4, x5, none, none, none, none] ∧ Src Hz a c t' ∧ t' ≤ t + 40 ∧ SidesAt Hz L xs ss ∧ (∀ d ∈ ss, -30 ≤ d.o ∧ d.o ≤ 29 ∧ d.s ≤ 12) ∧ L ≠ a ∧ L ≠ c, ?_, ?_⟩
      · walk_at "rd"
        refine ⟨(by show 3 ≤ sizeLine; decide), fun L1 nL1 => ?_⟩
        obtain ⟨la1, lc1⟩ := Sa.na nL1
        refine ⟨a, c, t, L1, _, rfl, Sa.new nL1, by omega, upd_same, la1, lc1, by decide, by decide, fun x H1 hx S1 O1 => ?_⟩
        obtain ⟨n, rfl, n1, n12⟩ := most_of hx
        walk_at "rd"
        refine ⟨(by show 3 ≤ sizeLine; decide), fun L2 nL2 => ?_⟩
        obtain ⟨la2, lc2⟩ := S1.na nL2
        refine ⟨a, c, t + 1, L2, _, rfl, S1.new nL2, by omega, upd_same, la2, lc2, by decide, by decide, fun x H2 hx S2 O2 => ?_⟩
        obtain ⟨m, rfl, m1, m4⟩ := many_of hx
        refine ⟨a, c, t + 1 + 1, n, m, rfl, S2, n1, by omega, m1, m4, by omega, fun l0 xs0 ss H3 t3 SS3 sml0 la0 lc0 ht3 S3 O3 => ?_⟩
        exact ⟨l0, xs0, ss, t3, rfl, S3, by omega, SS3, fun d hd => (let ⟨b1, b2, b3⟩ := sml0 d hd; ⟨b1, b2, by omega⟩), la0, lc0⟩
      rintro st H2 ⟨L, xs, ss, t2, rfl, S2, t2b, SS, small, La, Lc⟩
      refine ⟨fun st Hz => ∃ v : Int, st = [some (.ref l), some (.ref a), some (.int (0 + (i : Int))), some (.ref L), some (.int v), x5, none, none, none, none] ∧ (-150 ≤ v ∧ v ≤ 150) ∧ Src Hz a c (t2 + 1) ∧ Oth a c H2 Hz, ?_, ?_⟩
      · walk_at "rd"
        refine ⟨a, c, t2, 300, rfl, S2, by omega, by decide, lg_small (by decide) (by decide), fun y H4 y0 y1 S4 O4 => ?_⟩
        walk_at "rd"
        exact ⟨by omega, S4, O4⟩
      rintro st H3 ⟨v, rfl, vb, S3, O3⟩
      replace SS := SS.oth S2 La Lc O3
      clear O3 S2
      walk_at "rd"
      refine ⟨fun b Hz => b = false ∧ Same H3 Hz, ?_, ?_⟩
      · walk_at "rd"
        refine ⟨L, xs, ss, v, 1, rfl, SS, small, vb, by decide, by decide, .inl rfl, fun H4 s4 => ?_⟩
        exact ⟨_, rfl, rfl, s4⟩
      rintro b H4 ⟨rfl, s4⟩
      refine ite2 (fun z => absurd z (by decide)) (fun _ => ?_)
      replace SS := SS.same s4
      replace S3 := S3.of_same s4
      clear s4
      walk_at "rd"
      refine ⟨fun b Hz => b = false ∧ ∃ t', t' ≤ t2 + 30 ∧ Src Hz a c t' ∧ SidesAt Hz L xs ss, ?_, ?_⟩
      · walk_at "rd"
        refine ⟨L, _, rfl, .inl (SqL.of SS.hl), ?_⟩
        walk_at "rd"
        refine ite2 (fun z => ?_) (fun z => ?_)
        · have l3 : ss.length < 3 := by
            have := of_decide_eq_true z
            rw [SS.len] at this
            omega
          walk_at "rd"
          refine ⟨a, c, t2 + 1, 27, rfl, S3, by decide, by omega, fun g H5 g0 g1 S5 O5 => ?_⟩
          have g2 : g < 10 ^ 27 := g1
          have SS5 := SS.oth S3 La Lc O5
          walk_at "rd"
          refine ⟨L, xs, ss, v, 1 + g, rfl, SS5, small, vb, by omega, by omega, .inr l3, fun H6 s6 => ?_⟩
          exact ⟨_, rfl, rfl, t2 + 1 + 27, by omega, S5.of_same s6, SS5.same s6⟩
        · exact ⟨rfl, t2 + 1, by omega, S3, SS⟩
      rintro b H5 ⟨rfl, t5, t5b, S5, SS⟩
      refine ite2 (fun z => absurd z (by decide)) (fun _ => ?_)
      clear S3
      refine ⟨fun st Hz => ∃ x5 : Option V, st = [some (.ref l), some (.ref a), some (.int (0 + (i : Int))), some (.ref L), some (.int v), x5, none, none, none, none] ∧ Same H5 Hz, ?_, ?_⟩
      · walk_at "rd"
        refine ⟨(by show 0 ≤ sizeLine; decide), fun v1 nv1 => ?_⟩
        have gv1 : upd H5 v1 (.lst ([])) v1 = some (.lst ([])) := upd_same
        have sv1 : Same H5 (upd H5 v1 (.lst ([]))) := same_upd nv1
        generalize upd H5 v1 (.lst ([])) = V1 at gv1 sv1 ⊢
        walk_at "rd"
        refine ⟨(by show 1 ≤ sizeLine; decide), fun v2 nv2 => ?_⟩
        have gv2 : upd V1 v2 (.tup ([.int 5])) v2 = some (.tup ([.int 5])) := upd_same
        have sv2 : Same V1 (upd V1 v2 (.tup ([.int 5]))) := same_upd nv2
        generalize upd V1 v2 (.tup ([.int 5])) = V2 at gv2 sv2 ⊢
        replace gv1 := sv2 _ _ gv1
        walk_at "rd"
        refine ⟨(by show 5 ≤ sizeLine; decide), fun v3 nv3 => ?_⟩
        have gv3 : upd V2 v3 (.lst ([.non, .bl true, .str (Str.ofString "5"), .ref v1, .ref v2])) v3 = some (.lst ([.non, .bl true, .str (Str.ofString "5"), .ref v1, .ref v2])) := upd_same
        have sv3 : Same V2 (upd V2 v3 (.lst ([.non, .bl true, .str (Str.ofString "5"), .ref v1, .ref v2]))) := same_upd nv3
        generalize upd V2 v3 (.lst ([.non, .bl true, .str (Str.ofString "5"), .ref v1, .ref v2])) = V3 at gv3 sv3 ⊢
        replace gv1 := sv3 _ _ gv1
        replace gv2 := sv3 _ _ gv2
        have s53 := sv1.trans (sv2.trans sv3)
        refine ⟨v3, rfl, ⟨_, SqL.of gv3⟩, ?_⟩
        refine for_list (K := K) (a := v3) (xs := [.non, .bl true, .str (Str.ofString "5"), .ref v1, .ref v2]) (fun j st Hz => ∃ x5 : Option V, st = [some (.ref l), some (.ref a), some (.int (0 + (i : Int))), some (.ref L), some (.int v), x5, none, none, none, none] ∧ Same V3 Hz) ⟨_, rfl, Same.refl _⟩ (fun _ _ _ _ ⟨_, _, s6⟩ => SqL.of (s6 _ _ gv3)) ?_ (fun st Hz ⟨x5, e, s6⟩ => ⟨x5, e, s53.trans s6⟩)
        rintro j y st H6 hy ⟨y5, rfl, s6⟩
        have th : ∃ n, Th V3 y n ∧ isI n = false := by
          have m := List.mem_of_getElem? hy
          simp only [List.mem_cons, List.not_mem_nil, or_false] at m
          rcases m with rfl | rfl | rfl | rfl | rfl
          · exact ⟨_, .non, rfl⟩
          · exact ⟨_, .bl _, rfl⟩
          · exact ⟨_, .str _, rfl⟩
          · exact ⟨_, .lst gv1, rfl⟩
          · exact ⟨_, .tup gv2, rfl⟩
        obtain ⟨n, tn, ni⟩ := th
        walk_at "rd"
        refine ⟨fun b Hz => b = false ∧ Same H6 Hz, ?_, ?_⟩
        · walk_at "rd"
          refine ⟨by decide, by decide, fun Dd nD => ?_⟩
          refine lc_range (lo := 0) (n := 2) (fun k H7 => H7 Dd = some (.lst (List.replicate k (V.str "value"))) ∧ Same H6 H7) ⟨upd_same, same_upd nD⟩ ?_ ?_
          · rintro k H7 hk ⟨hD, s7⟩
            refine ⟨rfl, ?_⟩
            walk_at "rd"
            refine ⟨k, .ref L, y, (by show [V.int (0 + (k : Int)), _, _] = _; rw [Int.zero_add]), hk, .inr (.inl ⟨L, xs, n, rfl, good_of ((SS.same s53).same (s6.trans s7)), tn.same (s6.trans s7), ni, fun H8 s8 => ?_⟩)⟩
            refine ⟨_, s8 _ _ hD, (by rw [List.length_replicate]; exact Nat.lt_of_lt_of_le (by omega : k < 100) (by decide)), ?_, fun b u z => (upd_ne (ne_of_none z nD)).trans (s8 _ _ (s7 _ _ z))⟩
            rw [List.replicate_succ']
            exact upd_same
          rintro H7 ⟨hD, s7⟩
          walk_at "rd"
          refine ⟨(by show 1 ≤ sizeLine; decide), fun w1 nw1 => ?_⟩
          have gw1 : upd H7 w1 (.lst ([.str (Str.ofString "value")])) w1 = some (.lst ([.str (Str.ofString "value")])) := upd_same
          have sw1 : Same H7 (upd H7 w1 (.lst ([.str (Str.ofString "value")]))) := same_upd nw1
          generalize upd H7 w1 (.lst ([.str (Str.ofString "value")])) = W1 at gw1 sw1 ⊢
          replace hD := sw1 _ _ hD
          walk_at "rd"
          refine ⟨w1, 2, _, rfl, rfl, gw1, by decide, by decide, (by show 1 * 2 ≤ sizeLine; decide), fun w2 nw2 => ?_⟩
          have gw2 : upd W1 w2 (.lst (List.replicate (2 : Int).toNat [V.str (Str.ofString "value")]).flatten) w2 = some (.lst [V.str (Str.ofString "value"), V.str (Str.ofString "value")]) := upd_same
          have sw2 : Same W1 (upd W1 w2 (.lst (List.replicate (2 : Int).toNat [V.str (Str.ofString "value")]).flatten)) := same_upd nw2
          generalize upd W1 w2 _ = W2 at gw2 sw2 ⊢
          replace hD := sw2 _ _ hD
          refine ⟨_, _, dp_two hD, dp_two gw2, by decide +kernel, by decide +kernel, ?_⟩
          refine ⟨_, rfl, by decide +kernel, s7.trans (sw1.trans sw2)⟩
        rintro b H7 ⟨rfl, s7⟩
        refine ite2 (fun z => absurd z (by decide)) (fun _ => ?_)
        exact ⟨_, rfl, s6.trans s7⟩
      rintro st H6 ⟨y5, rfl, s6⟩
      replace SS := SS.same s6
      replace S5 := S5.of_same s6
      clear s6
      refine ⟨fun st Hz => ∃ (x5 : Option V) (t' : Nat), st = [some (.ref l), some (.ref a), some (.int (0 + (i : Int))), some (.ref L), some (.int v), x5, none, none, none, none] ∧ t' ≤ t5 + 100 ∧ Src Hz a c t', ?_, ?_⟩
      · walk_at "rd"
        refine ⟨(by show 0 ≤ sizeLine; decide), fun b1 nb1 => ?_⟩
        have gb1 : upd H6 b1 (.lst ([])) b1 = some (.lst ([])) := upd_same
        have sb1 : Same H6 (upd H6 b1 (.lst ([]))) := same_upd nb1
        generalize upd H6 b1 (.lst ([])) = B1 at gb1 sb1 ⊢
        walk_at "rd"
        refine ⟨(by show 0 ≤ sizeLine; decide), fun b2 nb2 => ?_⟩
        have gb2 : upd B1 b2 (.tup ([])) b2 = some (.tup ([])) := upd_same
        have sb2 : Same B1 (upd B1 b2 (.tup ([]))) := same_upd nb2
        generalize upd B1 b2 (.tup ([])) = B2 at gb2 sb2 ⊢
        replace gb1 := sb2 _ _ gb1
        walk_at "rd"
        refine ⟨L, 5, _, rfl, rfl, (sb2 _ _ (sb1 _ _ SS.hl)), by decide, by decide, (by have := SS.l4; have := SS.len; exact Nat.le_trans (by show xs.length * 5 ≤ 20; omega) (by decide : 20 ≤ sizeLine)), fun b3 nb3 => ?_⟩
        have gb3 : upd B2 b3 (.lst (List.replicate (5 : Int).toNat xs).flatten) b3 = some (.lst (List.replicate (5 : Int).toNat xs).flatten) := upd_same
        have sb3 : Same B2 (upd B2 b3 (.lst (List.replicate (5 : Int).toNat xs).flatten)) := same_upd nb3
        generalize upd B2 b3 _ = B3 at gb3 sb3 ⊢
        replace gb1 := sb3 _ _ gb1
        replace gb2 := sb3 _ _ gb2
        walk_at "rd"
        refine ⟨(by show 1 ≤ sizeLine; decide), fun b4 nb4 => ?_⟩
        have gb4 : upd B3 b4 (.lst ([.non])) b4 = some (.lst ([.non])) := upd_same
        have sb4 : Same B3 (upd B3 b4 (.lst ([.non]))) := same_upd nb4
        generalize upd B3 b4 (.lst ([.non])) = B4 at gb4 sb4 ⊢
        replace gb1 := sb4 _ _ gb1
        replace gb2 := sb4 _ _ gb2
        replace gb3 := sb4 _ _ gb3
        walk_at "rd"
        refine ⟨(by show 3 ≤ sizeLine; decide), fun b5 nb5 => ?_⟩
        have gb5 : upd B4 b5 (.tup ([.int 0, .int 0, .str "up"])) b5 = some (.tup ([.int 0, .int 0, .str "up"])) := upd_same
        have sb5 : Same B4 (upd B4 b5 (.tup ([.int 0, .int 0, .str "up"]))) := same_upd nb5
        generalize upd B4 b5 (.tup ([.int 0, .int 0, .str "up"])) = B5 at gb5 sb5 ⊢
        replace gb1 := sb5 _ _ gb1
        replace gb2 := sb5 _ _ gb2
        replace gb3 := sb5 _ _ gb3
        replace gb4 := sb5 _ _ gb4
        walk_at "rd"
        refine ⟨(by show 1 ≤ sizeLine; decide), fun b6 nb6 => ?_⟩
        have gb6 : upd B5 b6 (.lst ([.ref b5])) b6 = some (.lst ([.ref b5])) := upd_same
        have sb6 : Same B5 (upd B5 b6 (.lst ([.ref b5]))) := same_upd nb6
        generalize upd B5 b6 (.lst ([.ref b5])) = B6 at gb6 sb6 ⊢
        replace gb1 := sb6 _ _ gb1
        replace gb2 := sb6 _ _ gb2
        replace gb3 := sb6 _ _ gb3
        replace gb4 := sb6 _ _ gb4
        replace gb5 := sb6 _ _ gb5
        walk_at "rd"
        refine ⟨L, xs, rfl, .inl ⟨SqL.of (sb6 _ _ (sb5 _ _ (sb4 _ _ (sb3 _ _ (sb2 _ _ (sb1 _ _ SS.hl)))))), fun b7 nb7 => ?_⟩⟩
        have gb7 : upd B6 b7 (.tup xs) b7 = some (.tup xs) := upd_same
        have sb7 : Same B6 (upd B6 b7 (.tup xs)) := same_upd nb7
        generalize upd B6 b7 (.tup xs) = B7 at gb7 sb7 ⊢
        replace gb1 := sb7 _ _ gb1
        replace gb2 := sb7 _ _ gb2
        replace gb3 := sb7 _ _ gb3
        replace gb4 := sb7 _ _ gb4
        replace gb5 := sb7 _ _ gb5
        replace gb6 := sb7 _ _ gb6
        walk_at "rd"
        refine ⟨(by show 8 ≤ sizeLine; decide), fun b8 nb8 => ?_⟩
        have gb8 : upd B7 b8 (.lst ([.non, .ref b1, .ref b2, .ref b3, .str (Str.ofString "sides"), .ref b4, .ref b6, .ref b7])) b8 = some (.lst ([.non, .ref b1, .ref b2, .ref b3, .str (Str.ofString "sides"), .ref b4, .ref b6, .ref b7])) := upd_same
        have sb8 : Same B7 (upd B7 b8 (.lst ([.non, .ref b1, .ref b2, .ref b3, .str (Str.ofString "sides"), .ref b4, .ref b6, .ref b7]))) := same_upd nb8
        generalize upd B7 b8 (.lst ([.non, .ref b1, .ref b2, .ref b3, .str (Str.ofString "sides"), .ref b4, .ref b6, .ref b7])) = B8 at gb8 sb8 ⊢
        replace gb1 := sb8 _ _ gb1
        replace gb2 := sb8 _ _ gb2
        replace gb3 := sb8 _ _ gb3
        replace gb4 := sb8 _ _ gb4
        replace gb5 := sb8 _ _ gb5
        replace gb6 := sb8 _ _ gb6
        replace gb7 := sb8 _ _ gb7
        have c0 : Same H6 H6 := Same.refl _
        have c1 : Same H6 B1 := c0.trans sb1
        obtain ⟨na1, nc1⟩ := (S5.of_same c0).na nb1
        have c2 : Same H6 B2 := c1.trans sb2
        obtain ⟨na2, nc2⟩ := (S5.of_same c1).na nb2
        have c3 : Same H6 B3 := c2.trans sb3
        obtain ⟨na3, nc3⟩ := (S5.of_same c2).na nb3
        have c4 : Same H6 B4 := c3.trans sb4
        obtain ⟨na4, nc4⟩ := (S5.of_same c3).na nb4
        have c5 : Same H6 B5 := c4.trans sb5
        obtain ⟨na5, nc5⟩ := (S5.of_same c4).na nb5
        have c6 : Same H6 B6 := c5.trans sb6
        obtain ⟨na6, nc6⟩ := (S5.of_same c5).na nb6
        have c7 : Same H6 B7 := c6.trans sb7
        obtain ⟨na7, nc7⟩ := (S5.of_same c6).na nb7
        have c8 : Same H6 B8 := c7.trans sb8
        obtain ⟨na8, nc8⟩ := (S5.of_same c7).na nb8
        have S8 := S5.of_same c8
        clear c0 c1 c2 c3 c4 c5 c6 c7
        have bads : ∀ y ∈ ([.non, .ref b1, .ref b2, .ref b3, .str (Str.ofString "sides"), .ref b4, .ref b6, .ref b7] : List V), ∀ Hz, Oth a c B8 Hz → BadL K Hz y := fun y m Hz O => by
          simp only [List.mem_cons, List.not_mem_nil, or_false] at m
          rcases m with rfl | rfl | rfl | rfl | rfl | rfl | rfl | rfl
          · exact .kind .non (by decide)
          · exact .len (O _ _ gb1 na1 nc1) (by show ¬ (1 ≤ 0 ∧ 0 ≤ 4); decide)
          · exact .kind (.tup (O _ _ gb2 na2 nc2)) (by decide)
          · have l1 := SS.l1
            have ln := SS.len
            exact .len (O _ _ gb3 na3 nc3) (by show ¬ (1 ≤ (List.replicate 5 xs).flatten.length ∧ (List.replicate 5 xs).flatten.length ≤ 4); simp; omega)
          · exact .kind (.str _) (by decide)
          · exact .item (i := 0) (y := .non) (O _ _ gb4 na4 nc4) (by show 1 ≤ 1; decide) (by show 1 ≤ 4; decide) rfl (.kind .non (by decide)) (fun j z hj => absurd hj (Nat.not_lt_zero _))
          · exact .item (i := 0) (y := .ref b5) (O _ _ gb6 na6 nc6) (by show 1 ≤ 1; decide) (by show 1 ≤ 4; decide) rfl (.stp (O _ _ gb5 na5 nc5) (.int 0) (by decide +kernel) (.int 0) (by decide +kernel)) (fun j z hj => absurd hj (Nat.not_lt_zero _))
          · exact .kind (.tup (O _ _ gb7 na7 nc7)) (by decide)
        clear gb1 gb2 gb3 gb4 gb5 gb6 gb7
        refine ⟨b8, rfl, ⟨_, SqL.of gb8⟩, ?_⟩
        refine for_list (K := K) (a := b8) (xs := [.non, .ref b1, .ref b2, .ref b3, .str (Str.ofString "sides"), .ref b4, .ref b6, .ref b7]) (fun j st Hz => ∃ (x5 : Option V) (t' : Nat), st = [some (.ref l), some (.ref a), some (.int (0 + (i : Int))), some (.ref L), some (.int v), x5, none, none, none, none] ∧ t' ≤ t5 + 4 * j ∧ Src Hz a c t' ∧ Oth a c B8 Hz) ⟨_, t5, rfl, by omega, S8, Oth.refl _ _ _⟩ (fun _ _ _ _ ⟨_, _, _, _, _, O⟩ => SqL.of (O _ _ gb8 na8 nc8)) ?_ (fun st Hz ⟨x5, t', e, tb, S, _⟩ => ⟨x5, t', e, by simp at tb; omega, S⟩)
        rintro j y st Hy hy ⟨y5, t6, rfl, t6b, S6, O6⟩
        have j8 : j < 8 := (List.getElem?_eq_some_iff.mp hy).1
        have bad := bads y (List.mem_of_getElem? hy)
        walk_at "rd"
        refine ⟨fun b Hz => b = false ∧ ∃ t', t' ≤ t6 + 4 ∧ Src Hz a c t' ∧ Oth a c B8 Hz, ?_, ?_⟩
        · walk_at "rd"
          refine ⟨by decide, by decide, fun Dd nD => ?_⟩
          obtain ⟨nDa, nDc⟩ := S6.na nD
          refine lc_range (lo := 0) (n := 2) (fun k H7 => ∃ t', H7 Dd = some (.lst (List.replicate k (V.str "sides"))) ∧ t' ≤ t6 + k ∧ Src H7 a c t' ∧ Oth a c B8 H7) ⟨t6, upd_same, by omega, S6.new nD, O6.new nD⟩ ?_ ?_
          · rintro k H7 hk ⟨t7, hD, t7b, S7, O7⟩
            refine ⟨rfl, ?_⟩
            walk_at "rd"
            refine ⟨(by show 2 ≤ sizeLine; decide), fun pl npl => ?_⟩
            obtain ⟨pa, pc⟩ := S7.na npl
            refine ⟨a, c, t7, pl, _, rfl, S7.new npl, by omega, upd_same, pa, pc, (by show 0 < 2; decide), (by show 2 < 2 ^ 60; decide), fun x H8 hx S8' O8' => ?_⟩
            have O8 : Oth a c B8 H8 := (O7.new npl).trans O8'
            have hD8 : H8 Dd = some (.lst (List.replicate k (V.str "sides"))) := O8' _ _ ((upd_ne (ne_of_none hD npl)).trans hD) nDa nDc
            refine ⟨k, y, x, (by show [V.int (0 + (k : Int)), _, _] = _; rw [Int.zero_add]), hk, .inl ⟨bad _ O8, fun H9 s9 => ?_⟩⟩
            refine ⟨_, s9 _ _ hD8, (by rw [List.length_replicate]; exact Nat.lt_of_lt_of_le (by omega : k < 100) (by decide)), t7 + 1, ?_, by omega, (S8'.of_same s9).chg nDa nDc, fun b u z n1 n2 => (upd_ne (ne_of_none (O6 _ _ z n1 n2) nD)).trans (s9 _ _ (O8 _ _ z n1 n2))⟩
            rw [List.replicate_succ']
            exact upd_same
          rintro H7 ⟨t7, hD, t7b, S7, O7⟩
          walk_at "rd"
          refine ⟨(by show 1 ≤ sizeLine; decide), fun w1 nw1 => ?_⟩
          have gw1 : upd H7 w1 (.lst ([.str (Str.ofString "sides")])) w1 = some (.lst ([.str (Str.ofString "sides")])) := upd_same
          have sw1 : Same H7 (upd H7 w1 (.lst ([.str (Str.ofString "sides")]))) := same_upd nw1
          generalize upd H7 w1 (.lst ([.str (Str.ofString "sides")])) = W1 at gw1 sw1 ⊢
          replace hD := sw1 _ _ hD
          walk_at "rd"
          refine ⟨w1, 2, _, rfl, rfl, gw1, by decide, by decide, (by show 1 * 2 ≤ sizeLine; decide), fun w2 nw2 => ?_⟩
          have gw2 : upd W1 w2 (.lst (List.replicate (2 : Int).toNat [V.str (Str.ofString "sides")]).flatten) w2 = some (.lst [V.str (Str.ofString "sides"), V.str (Str.ofString "sides")]) := upd_same
          have sw2 : Same W1 (upd W1 w2 (.lst (List.replicate (2 : Int).toNat [V.str (Str.ofString "sides")]).flatten)) := same_upd nw2
          generalize upd W1 w2 _ = W2 at gw2 sw2 ⊢
          replace hD := sw2 _ _ hD
          refine ⟨_, _, dp_two hD, dp_two gw2, by decide +kernel, by decide +kernel, ?_⟩
          refine ⟨_, rfl, by decide +kernel, t7, by omega, (S7.of_same sw1).of_same sw2, fun b u z n1 n2 => sw2 _ _ (sw1 _ _ (O7 _ _ z n1 n2))⟩
        rintro b H7 ⟨rfl, t7, t7b, S7, O7⟩
        refine ite2 (fun z => absurd z (by decide)) (fun _ => ?_)
        exact ⟨_, t7, rfl, by omega, S7, O7⟩
      rintro st H7 ⟨y6, t7, rfl, t7b, S7⟩
      exact ⟨_, _, _, _, t7, rfl, S7, by omega⟩
    rintro st H2 ⟨x2, x3, x4, x5, rfl⟩
    clear S1 hl
    walk_at "rd"
    refine ⟨fun b Hz => b = false, ?_, ?_⟩
    · walk_at "rd"
      refine ⟨(by show 3 ≤ sizeLine; decide), fun t1 nt1 => ?_⟩
      have gt1 : upd H2 t1 (.tup ([.int 0, .int 100, .str "half_up"])) t1 = some (.tup ([.int 0, .int 100, .str "half_up"])) := upd_same
      have st1 : Same H2 (upd H2 t1 (.tup ([.int 0, .int 100, .str "half_up"]))) := same_upd nt1
      generalize upd H2 t1 (.tup ([.int 0, .int 100, .str "half_up"])) = T1 at gt1 st1 ⊢
      walk_at "rd"
      refine ⟨(by show 3 ≤ sizeLine; decide), fun t2 nt2 => ?_⟩
      have gt2 : upd T1 t2 (.tup ([.int 0, .int 107, .str "half_up"])) t2 = some (.tup ([.int 0, .int 107, .str "half_up"])) := upd_same
      have st2 : Same T1 (upd T1 t2 (.tup ([.int 0, .int 107, .str "half_up"]))) := same_upd nt2
      generalize upd T1 t2 (.tup ([.int 0, .int 107, .str "half_up"])) = T2 at gt2 st2 ⊢
      replace gt1 := st2 _ _ gt1
      walk_at "rd"
      refine ⟨(by show 3 ≤ sizeLine; decide), fun t3 nt3 => ?_⟩
      have gt3 : upd T2 t3 (.tup ([.int 0, .int 119, .str "half_up"])) t3 = some (.tup ([.int 0, .int 119, .str "half_up"])) := upd_same
      have st3 : Same T2 (upd T2 t3 (.tup ([.int 0, .int 119, .str "half_up"]))) := same_upd nt3
      generalize upd T2 t3 (.tup ([.int 0, .int 119, .str "half_up"])) = T3 at gt3 st3 ⊢
      replace gt1 := st3 _ _ gt1
      replace gt2 := st3 _ _ gt2
      walk_at "rd"
      refine ⟨(by show 3 ≤ sizeLine; decide), fun t4 nt4 => ?_⟩
      have gt4 : upd T3 t4 (.lst ([.ref t1, .ref t2, .ref t3])) t4 = some (.lst ([.ref t1, .ref t2, .ref t3])) := upd_same
      have st4 : Same T3 (upd T3 t4 (.lst ([.ref t1, .ref t2, .ref t3]))) := same_upd nt4
      generalize upd T3 t4 (.lst ([.ref t1, .ref t2, .ref t3])) = T4 at gt4 st4 ⊢
      replace gt1 := st4 _ _ gt1
      replace gt2 := st4 _ _ gt2
      replace gt3 := st4 _ _ gt3
      walk_at "rd"
      have SH : SidesAt T4 t4 [.ref t1, .ref t2, .ref t3] hlf3 := three_at gt4 gt1 gt2 gt3 hlf3_ok
      refine ⟨0, _, _, rfl, by decide, .inr (.inr ⟨t4, _, hlf3, 50, rfl, SH, rfl, by decide, fun H' inf => absurd (inf _ hlf3_out) (by decide), fun _ R' p H3 o' l' b' s3 np hp => ?_, fun z => absurd z (by decide)⟩)⟩
      rw [o'.uniq hlf3_out] at hp
      walk_at "rd"
      refine ⟨(by show 5 ≤ sizeLine; decide), fun t5 nt5 => ?_⟩
      have gt5 : upd H3 t5 (.lst ([.int 0, .int 50, .int 100, .int 107, .int 119])) t5 = some (.lst ([.int 0, .int 50, .int 100, .int 107, .int 119])) := upd_same
      have st5 : Same H3 (upd H3 t5 (.lst ([.int 0, .int 50, .int 100, .int 107, .int 119]))) := same_upd nt5
      generalize upd H3 t5 (.lst ([.int 0, .int 50, .int 100, .int 107, .int 119])) = T5 at gt5 st5 ⊢
      replace hp := st5 _ _ hp
      refine ⟨_, _, dp_ints hp, dp_ints (A := [0, 50, 100, 107, 119]) gt5, shaped_ints _, shaped_ints _, ?_⟩
      exact ⟨_, rfl, by rw [eqv_ints]; rfl⟩
    rintro b H3 rfl
    refine ite2 (fun z => absurd z (by decide)) (fun _ => ?_)
    clear H2
    walk_at "rd"
    refine ⟨fun b Hz => b = false, ?_, ?_⟩
    · walk_at "rd"
      refine ⟨⟨by decide, by decide, by decide⟩, ?_⟩
      walk_at "rd"
      refine ⟨(by show 3 ≤ sizeLine; decide), fun t1 nt1 => ?_⟩
      generalize et1 : upd H3 t1 _ = T1
      have gt1 : T1 t1 = some (sideV 0 (10 ^ 27 + 7) "up") := by rw [← et1]; exact upd_same
      have st1 : Same H3 T1 := by rw [← et1]; exact same_upd nt1
      clear et1
      walk_at "rd"
      refine ⟨⟨by decide, by decide, by decide⟩, ?_⟩
      walk_at "rd"
      refine ⟨(by show 3 ≤ sizeLine; decide), fun t2 nt2 => ?_⟩
      generalize et2 : upd T1 t2 _ = T2
      have gt2 : T2 t2 = some (sideV 0 (10 ^ 28 + 1) "up") := by rw [← et2]; exact upd_same
      have st2 : Same T1 T2 := by rw [← et2]; exact same_upd nt2
      clear et2
      replace gt1 := st2 _ _ gt1
      walk_at "rd"
      refine ⟨⟨by decide, by decide, by decide⟩, ?_⟩
      walk_at "rd"
      refine ⟨(by show 3 ≤ sizeLine; decide), fun t3 nt3 => ?_⟩
      generalize et3 : upd T2 t3 _ = T3
      have gt3 : T3 t3 = some (sideV 0 (10 ^ 29) "up") := by rw [← et3]; exact upd_same
      have st3 : Same T2 T3 := by rw [← et3]; exact same_upd nt3
      clear et3
      replace gt1 := st3 _ _ gt1
      replace gt2 := st3 _ _ gt2
      walk_at "rd"
      refine ⟨(by show 3 ≤ sizeLine; decide), fun t4 nt4 => ?_⟩
      generalize et4 : upd T3 t4 _ = T4
      have gt4 : T4 t4 = some (.lst [.ref t1, .ref t2, .ref t3]) := by rw [← et4]; exact upd_same
      have st4 : Same T3 T4 := by rw [← et4]; exact same_upd nt4
      clear et4
      replace gt1 := st4 _ _ gt1
      replace gt2 := st4 _ _ gt2
      replace gt3 := st4 _ _ gt3
      walk_at "rd"
      have SH : SidesAt T4 t4 [.ref t1, .ref t2, .ref t3] up3 := three_at gt4 gt1 gt2 gt3 up3_ok
      refine ⟨0, _, _, rfl, by decide, .inr (.inr ⟨t4, _, up3, -5, rfl, SH, rfl, by decide, fun H' inf => absurd (inf _ up3_out) (by decide), fun _ R' p H4 o' l' b' s3 np hp => ?_, fun z => absurd z (by decide)⟩)⟩
      rw [o'.uniq up3_out] at hp
      walk_at "rd"
      refine ⟨(by show 2 ≤ sizeLine; decide), fun t5 nt5 => ?_⟩
      generalize et5 : upd H4 t5 _ = T5
      have gt5 : T5 t5 = some (.lst [.int (-5), .int 0]) := by rw [← et5]; exact upd_same
      have st5 : Same H4 T5 := by rw [← et5]; exact same_upd nt5
      clear et5
      replace hp := st5 _ _ hp
      refine ⟨_, _, dp_ints hp, dp_ints (A := [-5, 0]) gt5, shaped_ints _, shaped_ints _, ?_⟩
      exact ⟨_, rfl, by rw [eqv_ints]; rfl⟩
    rintro b H2 rfl
    refine ite2 (fun z => absurd z (by decide)) (fun _ => ?_)
    clear H3
    refine ⟨fun st Hz => ∃ q1 q2 q3 : Addr, st = [some (.ref l), some (.ref a), x2, x3, x4, x5, none, some (.ref q3), none, none] ∧ SidesAt Hz q3 [.ref q1, .ref q2] pr5, ?_, ?_⟩
    · walk_at "rd"
      refine ⟨(by show 3 ≤ sizeLine; decide), fun t1 nt1 => ?_⟩
      generalize et1 : upd H2 t1 _ = T1
      have gt1 : T1 t1 = some (sideV 0 501 "up") := by rw [← et1]; exact upd_same
      have st1 : Same H2 T1 := by rw [← et1]; exact same_upd nt1
      clear et1
      walk_at "rd"
      refine ⟨(by show 3 ≤ sizeLine; decide), fun t2 nt2 => ?_⟩
      generalize et2 : upd T1 t2 _ = T2
      have gt2 : T2 t2 = some (sideV 1 502 "up") := by rw [← et2]; exact upd_same
      have st2 : Same T1 T2 := by rw [← et2]; exact same_upd nt2
      clear et2
      replace gt1 := st2 _ _ gt1
      walk_at "rd"
      refine ⟨(by show 2 ≤ sizeLine; decide), fun t4 nt4 => ?_⟩
      generalize et4 : upd T2 t4 _ = T4
      have gt4 : T4 t4 = some (.lst [.ref t1, .ref t2]) := by rw [← et4]; exact upd_same
      have st4 : Same T2 T4 := by rw [← et4]; exact same_upd nt4
      clear et4
      replace gt1 := st4 _ _ gt1
      replace gt2 := st4 _ _ gt2
      exact ⟨t1, t2, t4, rfl, two_at gt4 gt1 gt2 (pr5_ok _ (by simp [pr5])) (pr5_ok _ (by simp [pr5]))⟩
    rintro st H3 ⟨q1, q2, q3, rfl, SP⟩
    generalize ([.ref q1, .ref q2] : List V) = qs at SP
    clear H2
    refine ⟨fun st Hz => st = [some (.ref l), some (.ref a), x2, x3, x4, x5, none, some (.ref q3), some (.int 502503), none] ∧ SidesAt Hz q3 qs pr5, ?_, ?_⟩
    · walk_at "rd"
      refine ⟨.inl ⟨by decide, by decide⟩, ?_⟩
      walk_at "rd"
      exact ⟨rfl, SP⟩
    rintro st H4 ⟨rfl, SP⟩
    walk_at "rd"
    refine ⟨fun b Hz => b = false ∧ SidesAt Hz q3 qs pr5, ?_, ?_⟩
    · walk_at "rd"
      refine ⟨0, _, _, rfl, by decide, .inr (.inr ⟨q3, _, pr5, 502503, rfl, SP, rfl, by decide, fun H' inf => absurd (inf _ pr5_one) (by decide), fun _ R' p H5 o' l' b' s5 np hp => ?_, fun z => absurd z (by decide)⟩)⟩
      rw [o'.uniq pr5_one] at hp
      replace SP := SP.same s5
      walk_at "rd"
      refine ⟨(by show 1 ≤ sizeLine; decide), fun t5 nt5 => ?_⟩
      generalize et5 : upd H5 t5 _ = T5
      have gt5 : T5 t5 = some (.lst [.int 502503]) := by rw [← et5]; exact upd_same
      have st5 : Same H5 T5 := by rw [← et5]; exact same_upd nt5
      clear et5
      replace hp := st5 _ _ hp
      refine ⟨_, _, dp_ints hp, dp_ints (A := [502503]) gt5, shaped_ints _, shaped_ints _, ?_⟩
      refine ⟨_, rfl, ?_⟩
      refine ite2 (fun z => absurd z (by rw [eqv_ints]; decide)) (fun _ => ?_)
      replace SP := SP.same st5
      clear hp gt5 st5
      walk_at "rd"
      refine ⟨0, _, _, rfl, by decide, .inr (.inr ⟨q3, _, pr5, 502502, rfl, SP, rfl, by decide, fun H' inf => absurd (inf _ pr5_two) (by decide), fun _ R' p H6 o' l' b' s6 np hp => ?_, fun z => absurd z (by decide)⟩)⟩
      rw [o'.uniq pr5_two] at hp
      replace SP := SP.same s6
      walk_at "rd"
      refine ⟨(by show 2 ≤ sizeLine; decide), fun t6 nt6 => ?_⟩
      generalize et6 : upd H6 t6 _ = T6
      have gt6 : T6 t6 = some (.lst [.int 502502, .int 502503]) := by rw [← et6]; exact upd_same
      have st6 : Same H6 T6 := by rw [← et6]; exact same_upd nt6
      clear et6
      replace hp := st6 _ _ hp
      refine ⟨_, _, dp_ints hp, dp_ints (A := [502502, 502503]) gt6, shaped_ints _, shaped_ints _, ?_⟩
      exact ⟨_, rfl, by rw [eqv_ints]; rfl, SP.same st6⟩
    rintro b H5 ⟨rfl, SP⟩
    refine ite2 (fun z => absurd z (by decide)) (fun _ => ?_)
    refine ⟨fun st Hz => ∃ D p0 p1 : Addr, st = [some (.ref l), some (.ref a), x2, x3, x4, x5, none, some (.ref q3), some (.int 502503), some (.ref D)] ∧ SidesAt Hz q3 qs pr5 ∧ Hz D = some (.lst [.ref p0, .ref p1]) ∧ Hz p0 = some (.lst (eL.map V.int)) ∧ HoldsL Hz p1 [[502503]], ?_, ?_⟩
    · walk_at "rd"
      refine ⟨by decide, by decide, fun D nD => ?_⟩
      refine lc_range (lo := 0) (n := 2) (fun k H7 => ∃ ps : List Addr, ps.length = k ∧ H7 D = some (.lst (ps.map V.ref)) ∧ Same H5 H7 ∧ (∀ p, ps[0]? = some p → H7 p = some (.lst (eL.map V.int)) ∧ p ≠ D) ∧ (∀ p, ps[1]? = some p → HoldsL H7 p [[502503]])) ⟨[], rfl, upd_same, same_upd nD, (fun p z => nomatch z), (fun p z => nomatch z)⟩ ?_ ?_
      · rintro k H7 hk ⟨ps, lk, hD, s7, h0, h1⟩
        refine ⟨rfl, ?_⟩
        walk_at "rd"
        refine ⟨.inl ⟨by decide, by decide⟩, ?_⟩
        walk_at "rd"
        refine ⟨k, .ref q3, _, (by show [V.int (0 + (k : Int)), _, V.int (251001 + 2 * 501)] = [_, _, V.int 252003]; rw [Int.zero_add]; rfl), hk, .inr (.inr ⟨q3, qs, pr5, 252003, rfl, SP.same s7, rfl, by decide, fun H8 inf => ?_, fun z R' p H8 o' l' b' s8 np hp => ?_, fun z Ls p H8 ri fR s8 nw => ?_⟩)⟩
        · have := inf _ pr5_thou
          rw [eL_len] at this
          omega
        · subst z
          obtain rfl : ps = [] := List.length_eq_zero_iff.mp lk
          rw [o'.uniq pr5_thou] at hp
          have pD : p ≠ D := fun e => by rw [e, hD] at np; cases np
          refine ⟨_, s8 _ _ hD, (by show 0 < sizeLine; decide), [p], rfl, upd_same, fun b u z => (upd_ne (ne_of_none z nD)).trans (s8 _ _ (s7 _ _ z)), (fun p' e => ?_), (fun p' e => nomatch e)⟩
          cases e
          exact ⟨(upd_ne pD).trans hp, pD⟩
        · subst z
          obtain ⟨p0, rfl⟩ : ∃ p0, ps = [p0] := by
            match ps, lk with
            | [x], _ => exact ⟨x, rfl⟩
          rw [pr5_rest ri] at nw
          obtain ⟨np, qs', hq, lq, fq, cq⟩ := nw
          have pD : p ≠ D := fun e => by rw [e, hD] at np; cases np
          obtain ⟨h00, p0D⟩ := h0 p0 rfl
          refine ⟨_, s8 _ _ hD, (by show 1 < sizeLine; decide), [p0, p], rfl, upd_same, fun b u z => (upd_ne (ne_of_none z nD)).trans (s8 _ _ (s7 _ _ z)), (fun p' e => ?_), (fun p' e => ?_)⟩
          · cases e
            exact ⟨(upd_ne p0D).trans (s8 _ _ h00), p0D⟩
          · cases e
            exact ⟨qs', (upd_ne pD).trans hq, lq, fun i A q e1 e2 => (upd_ne (fun e => by have z := fq q (List.mem_of_getElem? e2); rw [e, hD] at z; cases z)).trans (cq i A q e1 e2)⟩
      rintro H7 ⟨ps, lk, hD, s7, h0, h1⟩
      obtain ⟨p0, p1, rfl⟩ : ∃ p0 p1, ps = [p0, p1] := by
        match ps, lk with
        | [x, y], _ => exact ⟨x, y, rfl⟩
      exact ⟨D, p0, p1, rfl, SP.same s7, hD, (h0 p0 rfl).1, h1 p1 rfl⟩
    rintro st H6 ⟨D, p0, p1, rfl, SP6, hD, h0, h1⟩
    clear SP
    walk_at "rd"
    refine ⟨D, _, _, _, rfl, rfl, SqL.of hD, rfl, ?_⟩
    walk_at "rd"
    refine ⟨p0, _, rfl, .inl (SqL.of h0), ?_⟩
    rw [List.length_map, eL_len]
    walk_at "rd"
    refine ⟨rfl, ?_⟩
    refine ⟨_, rfl, ?_⟩
    refine ite2 (fun z => absurd z (by decide)) (fun _ => ?_)
    walk_at "rd"
    refine ⟨D, _, _, _, rfl, rfl, SqL.of hD, rfl, ?_⟩
    walk_at "rd"
    refine ⟨(by show 1 ≤ sizeLine; decide), fun y1 ny1 => ?_⟩
    generalize ey1 : upd H6 y1 _ = Y1
    have gy1 : Y1 y1 = some (.lst [.int 502503]) := by rw [← ey1]; exact upd_same
    have sy1 : Same H6 Y1 := by rw [← ey1]; exact same_upd ny1
    clear ey1
    walk_at "rd"
    refine ⟨(by show 1 ≤ sizeLine; decide), fun y2 ny2 => ?_⟩
    generalize ey2 : upd Y1 y2 _ = Y2
    have gy2 : Y2 y2 = some (.lst [.ref y1]) := by rw [← ey2]; exact upd_same
    have sy2 : Same Y1 Y2 := by rw [← ey2]; exact same_upd ny2
    clear ey2
    replace gy1 := sy2 _ _ gy1
    have hx : HoldsL Y2 y2 [[502503]] := .one gy2 gy1
    refine ⟨_, _, (h1.same (sy1.trans sy2)).dp, hx.dp, shaped_LL _, shaped_LL _, ?_⟩
    refine ⟨_, rfl, ?_⟩
    refine ite2 (fun z => (not_t z (SeqAt.eqv_refl _ (SeqAt.canLay_of_shaped (shaped_LL _)))).elim) (fun _ => ?_)
    have SY : SidesAt Y2 q3 qs pr5 := SP6.same (sy1.trans sy2)
    clear hx gy1 gy2 h0 h1 hD
    walk_at "rd"
    refine ⟨by decide, by decide, fun Dd nD => ?_⟩
    refine lc_range (lo := 0) (n := 2) (fun k H7 => H7 Dd = some (.lst (List.replicate k (V.str "many"))) ∧ Same Y2 H7) ⟨upd_same, same_upd nD⟩ ?_ ?_
    · rintro k H7 hk ⟨hD, s7⟩
      refine ⟨rfl, ?_⟩
      walk_at "rd"
      refine ⟨k, .ref q3, _, (by show [V.int (0 + (k : Int)), _, V.int (251001 + 502)] = [_, _, V.int 251503]; rw [Int.zero_add]; rfl), hk, .inr (.inr ⟨q3, qs, pr5, 251503, rfl, SY.same s7, rfl, by decide, fun H8 inf s8 => ?_, fun z R' p H8 o' l' b' s8 np hp => ?_, fun z Ls p H8 ri fR s8 nw => ?_⟩)⟩
      · refine ⟨_, s8 _ _ hD, (by rw [List.length_replicate]; exact Nat.lt_of_lt_of_le (by omega : k < 100) (by decide)), ?_, fun b u z => (upd_ne (ne_of_none z nD)).trans (s8 _ _ (s7 _ _ z))⟩
        rw [List.replicate_succ']
        exact upd_same
      · have := pr5_many _ o'
        omega
      · obtain ⟨R', o', l'⟩ := fR
        have := pr5_many _ o'
        omega
    rintro H7 ⟨hD, s7⟩
    walk_at "rd"
    refine ⟨(by show 1 ≤ sizeLine; decide), fun w1 nw1 => ?_⟩
    have gw1 : upd H7 w1 (.lst ([.str (Str.ofString "many")])) w1 = some (.lst ([.str (Str.ofString "many")])) := upd_same
    have sw1 : Same H7 (upd H7 w1 (.lst ([.str (Str.ofString "many")]))) := same_upd nw1
    generalize upd H7 w1 (.lst ([.str (Str.ofString "many")])) = W1 at gw1 sw1 ⊢
    replace hD := sw1 _ _ hD
    walk_at "rd"
    refine ⟨w1, 2, _, rfl, rfl, gw1, by decide, by decide, (by show 1 * 2 ≤ sizeLine; decide), fun w2 nw2 => ?_⟩
    have gw2 : upd W1 w2 (.lst (List.replicate (2 : Int).toNat [V.str (Str.ofString "many")]).flatten) w2 = some (.lst [V.str (Str.ofString "many"), V.str (Str.ofString "many")]) := upd_same
    have sw2 : Same W1 (upd W1 w2 (.lst (List.replicate (2 : Int).toNat [V.str (Str.ofString "many")]).flatten)) := same_upd nw2
    generalize upd W1 w2 _ = W2 at gw2 sw2 ⊢
    replace hD := sw2 _ _ hD
    refine ⟨_, _, dp_two hD, dp_two gw2, by decide +kernel, by decide +kernel, ?_⟩
    have e : PyData.eqv (.list [.str (Str.ofString "many"), .str (Str.ofString "many")]) (.list [.str (Str.ofString "many"), .str (Str.ofString "many")]) = true := by decide +kernel
    rw [show PyData.eqv _ _ = true from e]
    exact q _
end
end HT
namespace HT
open PySem L2
def errB (K : PySem.W.Frag) (C : Addr) : Bool := (PySem.W.clsIn K C).isSome && (decide (PySem.W.findIn K (.ref C) "__getattribute__" = some (some (.builtin "BaseException.__getattribute__"))) && (decide (PySem.W.findIn K (.ref C) "__getattr__" = some none) && (decide (PySem.W.subIn K (.ref C) (.type "BaseException") = some true) &&
  (decide (PySem.W.findIn K (.ref C) "__class__" = some (some (.builtin "object.__class__"))) && decide (PySem.W.mroIn K C (.type "object") = some true)))))
theorem errB_ok {K : PySem.W.Frag} {C : Addr} (h : errB K C = true) : ErrC K C := by
  unfold errB at h
  simp only [Bool.and_eq_true, decide_eq_true_eq] at h
  obtain ⟨a, b, c, d, e, f⟩ := h
  exact ⟨a, b, c, d, e, f⟩
def exB (K : PySem.W.Frag) (C : Addr) : Bool := PySem.W.excIn K C [.type "ValueError", .type "Exception", .type "BaseException", .type "object"] "ValueError.__new__" && PySem.W.keepIn K (.ref C)
def erT (K : PySem.W.Frag) (C : Nat → Addr) (B : Addr) (i : Nat) : Bool := errB K (C i) && (exB K (C i) && (decide (PySem.W.kitOne K (.ref (C i)) (.type "ValueError") = some true) && (decide (PySem.W.subIn K (.ref (C i)) (.type "BaseException") = some true) && (decide (PySem.W.typeIn K (.ref (C i)) = some (.type "type")) && (decide (PySem.W.exmOne K (.ref (C i)) (.ref B) = some true) &&
  (List.range 4).all fun j => decide (PySem.W.kitOne K (.ref (C i)) (.ref (C j)) = some (decide (i = j))))))))
def cAt (l : List Addr) (i : Nat) : Addr := l.getD i 0
theorem all_of {p : Nat → Bool} {n : Nat} (h : (List.range n).all p = true) {i : Nat} (hi : i < n) : p i = true := List.all_eq_true.mp h i (List.mem_range.mpr hi)
theorem all_mk {l : PySem.W.OpenLaw} {w : World} {K : PySem.W.Frag} {h : Heap} {mg : Str → Option Value} {fa aM aR aU c0 c1 c2 c3 cB f_is_int f_is_int_between f_check_value f_check_side f_is_side f_figure f_goes_up f_written f_span f_uspan f_below f_threshold f_mirror f_form f_first_mode f_check_sides f_period_of f_moved f_common_period f_raisers f_raises_some f_highest f_mirrors f_outcomes f_rests f_rest_of f_first_hit f_first_between f_unraised f_first_in_block f_first_in_both f_reach f_check_few f_first_unraised f_first_unraised_by_two f_route f_fewest f_runs f_widened f_ends f_within f_holds f_way f_L_source f_L_draw f_L_pick f_L_great f_L_small_side f_L_figure f_L_handed f_L_divisor f_L_period f_L_set f_L_written f_L_all f_L_word f_L_routes_fit f_L_fits f_law : Addr} (X : K.In h) (G : h.Ns mainGlobals mg) (hfa : mg "law" = some (.ref fa))
    {odM odU od_is_int an_is_int od_is_int_between an_is_int_between od_check_value an_check_value od_check_side an_check_side od_is_side an_is_side od_figure an_figure od_goes_up an_goes_up od_written an_written od_span an_span od_uspan an_uspan od_below an_below od_threshold an_threshold od_mirror an_mirror od_form an_form od_first_mode an_first_mode od_check_sides an_check_sides od_period_of an_period_of od_moved an_moved od_common_period an_common_period od_raisers an_raisers od_raises_some an_raises_some od_highest an_highest od_mirrors an_mirrors od_outcomes an_outcomes od_rests an_rests od_rest_of an_rest_of od_first_hit an_first_hit od_first_between an_first_between od_unraised an_unraised od_first_in_block an_first_in_block od_first_in_both an_first_in_both od_reach an_reach od_check_few an_check_few od_first_unraised an_first_unraised od_first_unraised_by_two an_first_unraised_by_two od_route an_route od_fewest an_fewest od_runs an_runs od_widened an_widened od_ends an_ends od_within an_within od_holds an_holds od_way an_way od_L_source an_L_source od_L_draw an_L_draw od_L_pick an_L_pick od_L_great an_L_great od_L_small_side an_L_small_side od_L_figure an_L_figure od_L_handed an_L_handed od_L_divisor an_L_divisor od_L_period an_L_period od_L_set an_L_set od_L_written an_L_written od_L_all an_L_all od_L_word an_L_word od_L_routes_fit an_L_routes_fit od_L_fits an_L_fits od_law an_law : Option Addr} {slM slU sl_is_int sl_is_int_between sl_check_value sl_check_side sl_is_side sl_figure sl_goes_up sl_written sl_span sl_uspan sl_below sl_threshold sl_mirror sl_form sl_first_mode sl_check_sides sl_period_of sl_moved sl_common_period sl_raisers sl_raises_some sl_highest sl_mirrors sl_outcomes sl_rests sl_rest_of sl_first_hit sl_first_between sl_unraised sl_first_in_block sl_first_in_both sl_reach sl_check_few sl_first_unraised sl_first_unraised_by_two sl_route sl_fewest sl_runs sl_widened sl_ends sl_within sl_holds sl_way sl_L_source sl_L_draw sl_L_pick sl_L_great sl_L_small_side sl_L_figure sl_L_handed sl_L_divisor sl_L_period sl_L_set sl_L_written sl_L_all sl_L_word sl_L_routes_fit sl_L_fits sl_law : Array (Option Value)} {nM nR nU : Nat} {itsM itsU : Array Value} {esR : Array DictEntry} {tMS tMP tMH tMO : Tok} {u_down u_up u_half_down u_half_up u_half_even oc_is_int kV_is_int dc_is_int pm_is_int cd_is_int ct_is_int oc_is_int_between kV_is_int_between dc_is_int_between pm_is_int_between cd_is_int_between ct_is_int_between oc_check_value kV_check_value dc_check_value pm_check_value cd_check_value ct_check_value oc_check_side kV_check_side dc_check_side pm_check_side cd_check_side ct_check_side oc_is_side kV_is_side dc_is_side pm_is_side cd_is_side ct_is_side oc_figure kV_figure dc_figure pm_figure cd_figure ct_figure oc_goes_up kV_goes_up dc_goes_up pm_goes_up cd_goes_up ct_goes_up oc_written kV_written dc_written pm_written cd_written ct_written oc_span kV_span dc_span pm_span cd_span ct_span oc_uspan kV_uspan dc_uspan pm_uspan cd_uspan ct_uspan oc_below kV_below dc_below pm_below cd_below ct_below oc_threshold kV_threshold dc_threshold pm_threshold cd_threshold ct_threshold oc_mirror kV_mirror dc_mirror pm_mirror cd_mirror ct_mirror oc_form kV_form dc_form pm_form cd_form ct_form oc_first_mode kV_first_mode dc_first_mode pm_first_mode cd_first_mode ct_first_mode oc_check_sides kV_check_sides dc_check_sides pm_check_sides cd_check_sides ct_check_sides oc_period_of kV_period_of dc_period_of pm_period_of cd_period_of ct_period_of oc_moved kV_moved dc_moved pm_moved cd_moved ct_moved oc_common_period kV_common_period dc_common_period pm_common_period cd_common_period ct_common_period oc_raisers kV_raisers dc_raisers pm_raisers cd_raisers ct_raisers oc_raises_some kV_raises_some dc_raises_some pm_raises_some cd_raises_some ct_raises_some oc_highest kV_highest dc_highest pm_highest cd_highest ct_highest oc_mirrors kV_mirrors dc_mirrors pm_mirrors cd_mirrors ct_mirrors oc_outcomes kV_outcomes dc_outcomes pm_outcomes cd_outcomes ct_outcomes oc_rests kV_rests dc_rests pm_rests cd_rests ct_rests oc_rest_of kV_rest_of dc_rest_of pm_rest_of cd_rest_of ct_rest_of oc_first_hit kV_first_hit dc_first_hit pm_first_hit cd_first_hit ct_first_hit oc_first_between kV_first_between dc_first_between pm_first_between cd_first_between ct_first_between oc_unraised kV_unraised dc_unraised pm_unraised cd_unraised ct_unraised oc_first_in_block kV_first_in_block dc_first_in_block pm_first_in_block cd_first_in_block ct_first_in_block oc_first_in_both kV_first_in_both dc_first_in_both pm_first_in_both cd_first_in_both ct_first_in_both oc_reach kV_reach dc_reach pm_reach cd_reach ct_reach oc_check_few kV_check_few dc_check_few pm_check_few cd_check_few ct_check_few oc_first_unraised kV_first_unraised dc_first_unraised pm_first_unraised cd_first_unraised ct_first_unraised oc_first_unraised_by_two kV_first_unraised_by_two dc_first_unraised_by_two pm_first_unraised_by_two cd_first_unraised_by_two ct_first_unraised_by_two oc_route kV_route dc_route pm_route cd_route ct_route oc_fewest kV_fewest dc_fewest pm_fewest cd_fewest ct_fewest oc_runs kV_runs dc_runs pm_runs cd_runs ct_runs oc_widened kV_widened dc_widened pm_widened cd_widened ct_widened oc_ends kV_ends dc_ends pm_ends cd_ends ct_ends oc_within kV_within dc_within pm_within cd_within ct_within oc_holds kV_holds dc_holds pm_holds cd_holds ct_holds oc_way kV_way dc_way pm_way cd_way ct_way oc_L_source kV_L_source dc_L_source pm_L_source cd_L_source ct_L_source oc_L_draw kV_L_draw dc_L_draw pm_L_draw cd_L_draw ct_L_draw oc_L_pick kV_L_pick dc_L_pick pm_L_pick cd_L_pick ct_L_pick oc_L_great kV_L_great dc_L_great pm_L_great cd_L_great ct_L_great oc_L_small_side kV_L_small_side dc_L_small_side pm_L_small_side cd_L_small_side ct_L_small_side oc_L_figure kV_L_figure dc_L_figure pm_L_figure cd_L_figure ct_L_figure oc_L_handed kV_L_handed dc_L_handed pm_L_handed cd_L_handed ct_L_handed oc_L_divisor kV_L_divisor dc_L_divisor pm_L_divisor cd_L_divisor ct_L_divisor oc_L_period kV_L_period dc_L_period pm_L_period cd_L_period ct_L_period oc_L_set kV_L_set dc_L_set pm_L_set cd_L_set ct_L_set oc_L_written kV_L_written dc_L_written pm_L_written cd_L_written ct_L_written oc_L_all kV_L_all dc_L_all pm_L_all cd_L_all ct_L_all oc_L_word kV_L_word dc_L_word pm_L_word cd_L_word ct_L_word oc_L_routes_fit kV_L_routes_fit dc_L_routes_fit pm_L_routes_fit cd_L_routes_fit ct_L_routes_fit oc_L_fits kV_L_fits dc_L_fits pm_L_fits cd_L_fits ct_L_fits oc_law kV_law dc_law pm_law cd_law ct_law : Value}
    (a_is_int : PySem.W.nsIn K mainGlobals "is_int" = some (some (.ref f_is_int)))
    (l_is_int : K.lookup f_is_int = some ⟨oc_is_int, od_is_int, .func (PySem.W.fnOf "is_int" "is_int" (defArgs s_is_int) (defBody s_is_int) (defScope s_is_int) .none kV_is_int dc_is_int pm_is_int an_is_int cd_is_int ct_is_int), sl_is_int⟩)
    (c_is_int : PySem.W.codeIn K cd_is_int "is_int" = true) (k_is_int : PySem.W.keepIn K (.ref f_is_int) = true)
    (a_is_int_between : PySem.W.nsIn K mainGlobals "is_int_between" = some (some (.ref f_is_int_between)))
    (l_is_int_between : K.lookup f_is_int_between = some ⟨oc_is_int_between, od_is_int_between, .func (PySem.W.fnOf "is_int_between" "is_int_between" (defArgs s_is_int_between) (defBody s_is_int_between) (defScope s_is_int_between) .none kV_is_int_between dc_is_int_between pm_is_int_between an_is_int_between cd_is_int_between ct_is_int_between), sl_is_int_between⟩)
    (c_is_int_between : PySem.W.codeIn K cd_is_int_between "is_int_between" = true) (k_is_int_between : PySem.W.keepIn K (.ref f_is_int_between) = true)
    (a_check_value : PySem.W.nsIn K mainGlobals "check_value" = some (some (.ref f_check_value)))
    (l_check_value : K.lookup f_check_value = some ⟨oc_check_value, od_check_value, .func (PySem.W.fnOf "check_value" "check_value" (defArgs s_check_value) (defBody s_check_value) (defScope s_check_value) .none kV_check_value dc_check_value pm_check_value an_check_value cd_check_value ct_check_value), sl_check_value⟩)
    (c_check_value : PySem.W.codeIn K cd_check_value "check_value" = true) (k_check_value : PySem.W.keepIn K (.ref f_check_value) = true)
    (a_check_side : PySem.W.nsIn K mainGlobals "check_side" = some (some (.ref f_check_side)))
    (l_check_side : K.lookup f_check_side = some ⟨oc_check_side, od_check_side, .func (PySem.W.fnOf "check_side" "check_side" (defArgs s_check_side) (defBody s_check_side) (defScope s_check_side) .none kV_check_side dc_check_side pm_check_side an_check_side cd_check_side ct_check_side), sl_check_side⟩)
    (c_check_side : PySem.W.codeIn K cd_check_side "check_side" = true) (k_check_side : PySem.W.keepIn K (.ref f_check_side) = true)
    (a_is_side : PySem.W.nsIn K mainGlobals "is_side" = some (some (.ref f_is_side)))
    (l_is_side : K.lookup f_is_side = some ⟨oc_is_side, od_is_side, .func (PySem.W.fnOf "is_side" "is_side" (defArgs s_is_side) (defBody s_is_side) (defScope s_is_side) .none kV_is_side dc_is_side pm_is_side an_is_side cd_is_side ct_is_side), sl_is_side⟩)
    (c_is_side : PySem.W.codeIn K cd_is_side "is_side" = true) (k_is_side : PySem.W.keepIn K (.ref f_is_side) = true)
    (a_figure : PySem.W.nsIn K mainGlobals "_figure" = some (some (.ref f_figure)))
    (l_figure : K.lookup f_figure = some ⟨oc_figure, od_figure, .func (PySem.W.fnOf "_figure" "_figure" (defArgs s_figure) (defBody s_figure) (defScope s_figure) .none kV_figure dc_figure pm_figure an_figure cd_figure ct_figure), sl_figure⟩)
    (c_figure : PySem.W.codeIn K cd_figure "_figure" = true) (k_figure : PySem.W.keepIn K (.ref f_figure) = true)
    (a_goes_up : PySem.W.nsIn K mainGlobals "_goes_up" = some (some (.ref f_goes_up)))
    (l_goes_up : K.lookup f_goes_up = some ⟨oc_goes_up, od_goes_up, .func (PySem.W.fnOf "_goes_up" "_goes_up" (defArgs s_goes_up) (defBody s_goes_up) (defScope s_goes_up) .none kV_goes_up dc_goes_up pm_goes_up an_goes_up cd_goes_up ct_goes_up), sl_goes_up⟩)
    (c_goes_up : PySem.W.codeIn K cd_goes_up "_goes_up" = true) (k_goes_up : PySem.W.keepIn K (.ref f_goes_up) = true)
    (a_written : PySem.W.nsIn K mainGlobals "written" = some (some (.ref f_written)))
    (l_written : K.lookup f_written = some ⟨oc_written, od_written, .func (PySem.W.fnOf "written" "written" (defArgs s_written) (defBody s_written) (defScope s_written) .none kV_written dc_written pm_written an_written cd_written ct_written), sl_written⟩)
    (c_written : PySem.W.codeIn K cd_written "written" = true) (k_written : PySem.W.keepIn K (.ref f_written) = true)
    (a_span : PySem.W.nsIn K mainGlobals "span" = some (some (.ref f_span)))
    (l_span : K.lookup f_span = some ⟨oc_span, od_span, .func (PySem.W.fnOf "span" "span" (defArgs s_span) (defBody s_span) (defScope s_span) .none kV_span dc_span pm_span an_span cd_span ct_span), sl_span⟩)
    (c_span : PySem.W.codeIn K cd_span "span" = true) (k_span : PySem.W.keepIn K (.ref f_span) = true)
    (a_uspan : PySem.W.nsIn K mainGlobals "_span" = some (some (.ref f_uspan)))
    (l_uspan : K.lookup f_uspan = some ⟨oc_uspan, od_uspan, .func (PySem.W.fnOf "_span" "_span" (defArgs s_uspan) (defBody s_uspan) (defScope s_uspan) .none kV_uspan dc_uspan pm_uspan an_uspan cd_uspan ct_uspan), sl_uspan⟩)
    (c_uspan : PySem.W.codeIn K cd_uspan "_span" = true) (k_uspan : PySem.W.keepIn K (.ref f_uspan) = true)
    (a_below : PySem.W.nsIn K mainGlobals "_below" = some (some (.ref f_below)))
    (l_below : K.lookup f_below = some ⟨oc_below, od_below, .func (PySem.W.fnOf "_below" "_below" (defArgs s_below) (defBody s_below) (defScope s_below) .none kV_below dc_below pm_below an_below cd_below ct_below), sl_below⟩)
    (c_below : PySem.W.codeIn K cd_below "_below" = true) (k_below : PySem.W.keepIn K (.ref f_below) = true)
    (a_threshold : PySem.W.nsIn K mainGlobals "threshold" = some (some (.ref f_threshold)))
    (l_threshold : K.lookup f_threshold = some ⟨oc_threshold, od_threshold, .func (PySem.W.fnOf "threshold" "threshold" (defArgs s_threshold) (defBody s_threshold) (defScope s_threshold) .none kV_threshold dc_threshold pm_threshold an_threshold cd_threshold ct_threshold), sl_threshold⟩)
    (c_threshold : PySem.W.codeIn K cd_threshold "threshold" = true) (k_threshold : PySem.W.keepIn K (.ref f_threshold) = true)
    (a_mirror : PySem.W.nsIn K mainGlobals "mirror" = some (some (.ref f_mirror)))
    (l_mirror : K.lookup f_mirror = some ⟨oc_mirror, od_mirror, .func (PySem.W.fnOf "mirror" "mirror" (defArgs s_mirror) (defBody s_mirror) (defScope s_mirror) .none kV_mirror dc_mirror pm_mirror an_mirror cd_mirror ct_mirror), sl_mirror⟩)
    (c_mirror : PySem.W.codeIn K cd_mirror "mirror" = true) (k_mirror : PySem.W.keepIn K (.ref f_mirror) = true)
    (a_form : PySem.W.nsIn K mainGlobals "form" = some (some (.ref f_form)))
    (l_form : K.lookup f_form = some ⟨oc_form, od_form, .func (PySem.W.fnOf "form" "form" (defArgs s_form) (defBody s_form) (defScope s_form) .none kV_form dc_form pm_form an_form cd_form ct_form), sl_form⟩)
    (c_form : PySem.W.codeIn K cd_form "form" = true) (k_form : PySem.W.keepIn K (.ref f_form) = true)
    (a_first_mode : PySem.W.nsIn K mainGlobals "_first_mode" = some (some (.ref f_first_mode)))
    (l_first_mode : K.lookup f_first_mode = some ⟨oc_first_mode, od_first_mode, .func (PySem.W.fnOf "_first_mode" "_first_mode" (defArgs s_first_mode) (defBody s_first_mode) (defScope s_first_mode) .none kV_first_mode dc_first_mode pm_first_mode an_first_mode cd_first_mode ct_first_mode), sl_first_mode⟩)
    (c_first_mode : PySem.W.codeIn K cd_first_mode "_first_mode" = true) (k_first_mode : PySem.W.keepIn K (.ref f_first_mode) = true)
    (a_check_sides : PySem.W.nsIn K mainGlobals "check_sides" = some (some (.ref f_check_sides)))
    (l_check_sides : K.lookup f_check_sides = some ⟨oc_check_sides, od_check_sides, .func (PySem.W.fnOf "check_sides" "check_sides" (defArgs s_check_sides) (defBody s_check_sides) (defScope s_check_sides) .none kV_check_sides dc_check_sides pm_check_sides an_check_sides cd_check_sides ct_check_sides), sl_check_sides⟩)
    (c_check_sides : PySem.W.codeIn K cd_check_sides "check_sides" = true) (k_check_sides : PySem.W.keepIn K (.ref f_check_sides) = true)
    (a_period_of : PySem.W.nsIn K mainGlobals "period_of" = some (some (.ref f_period_of)))
    (l_period_of : K.lookup f_period_of = some ⟨oc_period_of, od_period_of, .func (PySem.W.fnOf "period_of" "period_of" (defArgs s_period_of) (defBody s_period_of) (defScope s_period_of) .none kV_period_of dc_period_of pm_period_of an_period_of cd_period_of ct_period_of), sl_period_of⟩)
    (c_period_of : PySem.W.codeIn K cd_period_of "period_of" = true) (k_period_of : PySem.W.keepIn K (.ref f_period_of) = true)
    (a_moved : PySem.W.nsIn K mainGlobals "moved" = some (some (.ref f_moved)))
    (l_moved : K.lookup f_moved = some ⟨oc_moved, od_moved, .func (PySem.W.fnOf "moved" "moved" (defArgs s_moved) (defBody s_moved) (defScope s_moved) .none kV_moved dc_moved pm_moved an_moved cd_moved ct_moved), sl_moved⟩)
    (c_moved : PySem.W.codeIn K cd_moved "moved" = true) (k_moved : PySem.W.keepIn K (.ref f_moved) = true)
    (a_common_period : PySem.W.nsIn K mainGlobals "common_period" = some (some (.ref f_common_period)))
    (l_common_period : K.lookup f_common_period = some ⟨oc_common_period, od_common_period, .func (PySem.W.fnOf "common_period" "common_period" (defArgs s_common_period) (defBody s_common_period) (defScope s_common_period) .none kV_common_period dc_common_period pm_common_period an_common_period cd_common_period ct_common_period), sl_common_period⟩)
    (c_common_period : PySem.W.codeIn K cd_common_period "common_period" = true) (k_common_period : PySem.W.keepIn K (.ref f_common_period) = true)
    (a_raisers : PySem.W.nsIn K mainGlobals "raisers" = some (some (.ref f_raisers)))
    (l_raisers : K.lookup f_raisers = some ⟨oc_raisers, od_raisers, .func (PySem.W.fnOf "raisers" "raisers" (defArgs s_raisers) (defBody s_raisers) (defScope s_raisers) .none kV_raisers dc_raisers pm_raisers an_raisers cd_raisers ct_raisers), sl_raisers⟩)
    (c_raisers : PySem.W.codeIn K cd_raisers "raisers" = true) (k_raisers : PySem.W.keepIn K (.ref f_raisers) = true)
    (a_raises_some : PySem.W.nsIn K mainGlobals "_raises_some" = some (some (.ref f_raises_some)))
    (l_raises_some : K.lookup f_raises_some = some ⟨oc_raises_some, od_raises_some, .func (PySem.W.fnOf "_raises_some" "_raises_some" (defArgs s_raises_some) (defBody s_raises_some) (defScope s_raises_some) .none kV_raises_some dc_raises_some pm_raises_some an_raises_some cd_raises_some ct_raises_some), sl_raises_some⟩)
    (c_raises_some : PySem.W.codeIn K cd_raises_some "_raises_some" = true) (k_raises_some : PySem.W.keepIn K (.ref f_raises_some) = true)
    (a_highest : PySem.W.nsIn K mainGlobals "highest" = some (some (.ref f_highest)))
    (l_highest : K.lookup f_highest = some ⟨oc_highest, od_highest, .func (PySem.W.fnOf "highest" "highest" (defArgs s_highest) (defBody s_highest) (defScope s_highest) .none kV_highest dc_highest pm_highest an_highest cd_highest ct_highest), sl_highest⟩)
    (c_highest : PySem.W.codeIn K cd_highest "highest" = true) (k_highest : PySem.W.keepIn K (.ref f_highest) = true)
    (a_mirrors : PySem.W.nsIn K mainGlobals "mirrors" = some (some (.ref f_mirrors)))
    (l_mirrors : K.lookup f_mirrors = some ⟨oc_mirrors, od_mirrors, .func (PySem.W.fnOf "mirrors" "mirrors" (defArgs s_mirrors) (defBody s_mirrors) (defScope s_mirrors) .none kV_mirrors dc_mirrors pm_mirrors an_mirrors cd_mirrors ct_mirrors), sl_mirrors⟩)
    (c_mirrors : PySem.W.codeIn K cd_mirrors "mirrors" = true) (k_mirrors : PySem.W.keepIn K (.ref f_mirrors) = true)
    (a_outcomes : PySem.W.nsIn K mainGlobals "outcomes" = some (some (.ref f_outcomes)))
    (l_outcomes : K.lookup f_outcomes = some ⟨oc_outcomes, od_outcomes, .func (PySem.W.fnOf "outcomes" "outcomes" (defArgs s_outcomes) (defBody s_outcomes) (defScope s_outcomes) .none kV_outcomes dc_outcomes pm_outcomes an_outcomes cd_outcomes ct_outcomes), sl_outcomes⟩)
    (c_outcomes : PySem.W.codeIn K cd_outcomes "outcomes" = true) (k_outcomes : PySem.W.keepIn K (.ref f_outcomes) = true)
    (a_rests : PySem.W.nsIn K mainGlobals "rests" = some (some (.ref f_rests)))
    (l_rests : K.lookup f_rests = some ⟨oc_rests, od_rests, .func (PySem.W.fnOf "rests" "rests" (defArgs s_rests) (defBody s_rests) (defScope s_rests) .none kV_rests dc_rests pm_rests an_rests cd_rests ct_rests), sl_rests⟩)
    (c_rests : PySem.W.codeIn K cd_rests "rests" = true) (k_rests : PySem.W.keepIn K (.ref f_rests) = true)
    (a_rest_of : PySem.W.nsIn K mainGlobals "_rest_of" = some (some (.ref f_rest_of)))
    (l_rest_of : K.lookup f_rest_of = some ⟨oc_rest_of, od_rest_of, .func (PySem.W.fnOf "_rest_of" "_rest_of" (defArgs s_rest_of) (defBody s_rest_of) (defScope s_rest_of) .none kV_rest_of dc_rest_of pm_rest_of an_rest_of cd_rest_of ct_rest_of), sl_rest_of⟩)
    (c_rest_of : PySem.W.codeIn K cd_rest_of "_rest_of" = true) (k_rest_of : PySem.W.keepIn K (.ref f_rest_of) = true)
    (a_first_hit : PySem.W.nsIn K mainGlobals "first_hit" = some (some (.ref f_first_hit)))
    (l_first_hit : K.lookup f_first_hit = some ⟨oc_first_hit, od_first_hit, .func (PySem.W.fnOf "first_hit" "first_hit" (defArgs s_first_hit) (defBody s_first_hit) (defScope s_first_hit) .none kV_first_hit dc_first_hit pm_first_hit an_first_hit cd_first_hit ct_first_hit), sl_first_hit⟩)
    (c_first_hit : PySem.W.codeIn K cd_first_hit "first_hit" = true) (k_first_hit : PySem.W.keepIn K (.ref f_first_hit) = true)
    (a_first_between : PySem.W.nsIn K mainGlobals "_first_between" = some (some (.ref f_first_between)))
    (l_first_between : K.lookup f_first_between = some ⟨oc_first_between, od_first_between, .func (PySem.W.fnOf "_first_between" "_first_between" (defArgs s_first_between) (defBody s_first_between) (defScope s_first_between) .none kV_first_between dc_first_between pm_first_between an_first_between cd_first_between ct_first_between), sl_first_between⟩)
    (c_first_between : PySem.W.codeIn K cd_first_between "_first_between" = true) (k_first_between : PySem.W.keepIn K (.ref f_first_between) = true)
    (a_unraised : PySem.W.nsIn K mainGlobals "unraised" = some (some (.ref f_unraised)))
    (l_unraised : K.lookup f_unraised = some ⟨oc_unraised, od_unraised, .func (PySem.W.fnOf "unraised" "unraised" (defArgs s_unraised) (defBody s_unraised) (defScope s_unraised) (.ref aU) kV_unraised dc_unraised pm_unraised an_unraised cd_unraised ct_unraised), sl_unraised⟩)
    (c_unraised : PySem.W.codeIn K cd_unraised "unraised" = true) (k_unraised : PySem.W.keepIn K (.ref f_unraised) = true)
    (a_first_in_block : PySem.W.nsIn K mainGlobals "first_in_block" = some (some (.ref f_first_in_block)))
    (l_first_in_block : K.lookup f_first_in_block = some ⟨oc_first_in_block, od_first_in_block, .func (PySem.W.fnOf "first_in_block" "first_in_block" (defArgs s_first_in_block) (defBody s_first_in_block) (defScope s_first_in_block) .none kV_first_in_block dc_first_in_block pm_first_in_block an_first_in_block cd_first_in_block ct_first_in_block), sl_first_in_block⟩)
    (c_first_in_block : PySem.W.codeIn K cd_first_in_block "first_in_block" = true) (k_first_in_block : PySem.W.keepIn K (.ref f_first_in_block) = true)
    (a_first_in_both : PySem.W.nsIn K mainGlobals "first_in_both" = some (some (.ref f_first_in_both)))
    (l_first_in_both : K.lookup f_first_in_both = some ⟨oc_first_in_both, od_first_in_both, .func (PySem.W.fnOf "first_in_both" "first_in_both" (defArgs s_first_in_both) (defBody s_first_in_both) (defScope s_first_in_both) .none kV_first_in_both dc_first_in_both pm_first_in_both an_first_in_both cd_first_in_both ct_first_in_both), sl_first_in_both⟩)
    (c_first_in_both : PySem.W.codeIn K cd_first_in_both "first_in_both" = true) (k_first_in_both : PySem.W.keepIn K (.ref f_first_in_both) = true)
    (a_reach : PySem.W.nsIn K mainGlobals "reach" = some (some (.ref f_reach)))
    (l_reach : K.lookup f_reach = some ⟨oc_reach, od_reach, .func (PySem.W.fnOf "reach" "reach" (defArgs s_reach) (defBody s_reach) (defScope s_reach) .none kV_reach dc_reach pm_reach an_reach cd_reach ct_reach), sl_reach⟩)
    (c_reach : PySem.W.codeIn K cd_reach "reach" = true) (k_reach : PySem.W.keepIn K (.ref f_reach) = true)
    (a_check_few : PySem.W.nsIn K mainGlobals "_check_few" = some (some (.ref f_check_few)))
    (l_check_few : K.lookup f_check_few = some ⟨oc_check_few, od_check_few, .func (PySem.W.fnOf "_check_few" "_check_few" (defArgs s_check_few) (defBody s_check_few) (defScope s_check_few) .none kV_check_few dc_check_few pm_check_few an_check_few cd_check_few ct_check_few), sl_check_few⟩)
    (c_check_few : PySem.W.codeIn K cd_check_few "_check_few" = true) (k_check_few : PySem.W.keepIn K (.ref f_check_few) = true)
    (a_first_unraised : PySem.W.nsIn K mainGlobals "_first_unraised" = some (some (.ref f_first_unraised)))
    (l_first_unraised : K.lookup f_first_unraised = some ⟨oc_first_unraised, od_first_unraised, .func (PySem.W.fnOf "_first_unraised" "_first_unraised" (defArgs s_first_unraised) (defBody s_first_unraised) (defScope s_first_unraised) .none kV_first_unraised dc_first_unraised pm_first_unraised an_first_unraised cd_first_unraised ct_first_unraised), sl_first_unraised⟩)
    (c_first_unraised : PySem.W.codeIn K cd_first_unraised "_first_unraised" = true) (k_first_unraised : PySem.W.keepIn K (.ref f_first_unraised) = true)
    (a_first_unraised_by_two : PySem.W.nsIn K mainGlobals "_first_unraised_by_two" = some (some (.ref f_first_unraised_by_two)))
    (l_first_unraised_by_two : K.lookup f_first_unraised_by_two = some ⟨oc_first_unraised_by_two, od_first_unraised_by_two, .func (PySem.W.fnOf "_first_unraised_by_two" "_first_unraised_by_two" (defArgs s_first_unraised_by_two) (defBody s_first_unraised_by_two) (defScope s_first_unraised_by_two) .none kV_first_unraised_by_two dc_first_unraised_by_two pm_first_unraised_by_two an_first_unraised_by_two cd_first_unraised_by_two ct_first_unraised_by_two), sl_first_unraised_by_two⟩)
    (c_first_unraised_by_two : PySem.W.codeIn K cd_first_unraised_by_two "_first_unraised_by_two" = true) (k_first_unraised_by_two : PySem.W.keepIn K (.ref f_first_unraised_by_two) = true)
    (a_route : PySem.W.nsIn K mainGlobals "route" = some (some (.ref f_route)))
    (l_route : K.lookup f_route = some ⟨oc_route, od_route, .func (PySem.W.fnOf "route" "route" (defArgs s_route) (defBody s_route) (defScope s_route) .none kV_route dc_route pm_route an_route cd_route ct_route), sl_route⟩)
    (c_route : PySem.W.codeIn K cd_route "route" = true) (k_route : PySem.W.keepIn K (.ref f_route) = true)
    (a_fewest : PySem.W.nsIn K mainGlobals "_fewest" = some (some (.ref f_fewest)))
    (l_fewest : K.lookup f_fewest = some ⟨oc_fewest, od_fewest, .func (PySem.W.fnOf "_fewest" "_fewest" (defArgs s_fewest) (defBody s_fewest) (defScope s_fewest) .none kV_fewest dc_fewest pm_fewest an_fewest cd_fewest ct_fewest), sl_fewest⟩)
    (c_fewest : PySem.W.codeIn K cd_fewest "_fewest" = true) (k_fewest : PySem.W.keepIn K (.ref f_fewest) = true)
    (a_runs : PySem.W.nsIn K mainGlobals "_runs" = some (some (.ref f_runs)))
    (l_runs : K.lookup f_runs = some ⟨oc_runs, od_runs, .func (PySem.W.fnOf "_runs" "_runs" (defArgs s_runs) (defBody s_runs) (defScope s_runs) .none kV_runs dc_runs pm_runs an_runs cd_runs ct_runs), sl_runs⟩)
    (c_runs : PySem.W.codeIn K cd_runs "_runs" = true) (k_runs : PySem.W.keepIn K (.ref f_runs) = true)
    (a_widened : PySem.W.nsIn K mainGlobals "_widened" = some (some (.ref f_widened)))
    (l_widened : K.lookup f_widened = some ⟨oc_widened, od_widened, .func (PySem.W.fnOf "_widened" "_widened" (defArgs s_widened) (defBody s_widened) (defScope s_widened) .none kV_widened dc_widened pm_widened an_widened cd_widened ct_widened), sl_widened⟩)
    (c_widened : PySem.W.codeIn K cd_widened "_widened" = true) (k_widened : PySem.W.keepIn K (.ref f_widened) = true)
    (a_ends : PySem.W.nsIn K mainGlobals "_ends" = some (some (.ref f_ends)))
    (l_ends : K.lookup f_ends = some ⟨oc_ends, od_ends, .func (PySem.W.fnOf "_ends" "_ends" (defArgs s_ends) (defBody s_ends) (defScope s_ends) .none kV_ends dc_ends pm_ends an_ends cd_ends ct_ends), sl_ends⟩)
    (c_ends : PySem.W.codeIn K cd_ends "_ends" = true) (k_ends : PySem.W.keepIn K (.ref f_ends) = true)
    (a_within : PySem.W.nsIn K mainGlobals "_within" = some (some (.ref f_within)))
    (l_within : K.lookup f_within = some ⟨oc_within, od_within, .func (PySem.W.fnOf "_within" "_within" (defArgs s_within) (defBody s_within) (defScope s_within) .none kV_within dc_within pm_within an_within cd_within ct_within), sl_within⟩)
    (c_within : PySem.W.codeIn K cd_within "_within" = true) (k_within : PySem.W.keepIn K (.ref f_within) = true)
    (a_holds : PySem.W.nsIn K mainGlobals "_holds" = some (some (.ref f_holds)))
    (l_holds : K.lookup f_holds = some ⟨oc_holds, od_holds, .func (PySem.W.fnOf "_holds" "_holds" (defArgs s_holds) (defBody s_holds) (defScope s_holds) .none kV_holds dc_holds pm_holds an_holds cd_holds ct_holds), sl_holds⟩)
    (c_holds : PySem.W.codeIn K cd_holds "_holds" = true) (k_holds : PySem.W.keepIn K (.ref f_holds) = true)
    (a_way : PySem.W.nsIn K mainGlobals "_way" = some (some (.ref f_way)))
    (l_way : K.lookup f_way = some ⟨oc_way, od_way, .func (PySem.W.fnOf "_way" "_way" (defArgs s_way) (defBody s_way) (defScope s_way) .none kV_way dc_way pm_way an_way cd_way ct_way), sl_way⟩)
    (c_way : PySem.W.codeIn K cd_way "_way" = true) (k_way : PySem.W.keepIn K (.ref f_way) = true)
    (a_L_source : PySem.W.nsIn K mainGlobals "_law_source" = some (some (.ref f_L_source)))
    (l_L_source : K.lookup f_L_source = some ⟨oc_L_source, od_L_source, .func (PySem.W.fnOf "_law_source" "_law_source" (defArgs s_L_source) (defBody s_L_source) (defScope s_L_source) .none kV_L_source dc_L_source pm_L_source an_L_source cd_L_source ct_L_source), sl_L_source⟩)
    (c_L_source : PySem.W.codeIn K cd_L_source "_law_source" = true) (k_L_source : PySem.W.keepIn K (.ref f_L_source) = true)
    (a_L_draw : PySem.W.nsIn K mainGlobals "_law_draw" = some (some (.ref f_L_draw)))
    (l_L_draw : K.lookup f_L_draw = some ⟨oc_L_draw, od_L_draw, .func (PySem.W.fnOf "_law_draw" "_law_draw" (defArgs s_L_draw) (defBody s_L_draw) (defScope s_L_draw) .none kV_L_draw dc_L_draw pm_L_draw an_L_draw cd_L_draw ct_L_draw), sl_L_draw⟩)
    (c_L_draw : PySem.W.codeIn K cd_L_draw "_law_draw" = true) (k_L_draw : PySem.W.keepIn K (.ref f_L_draw) = true)
    (a_L_pick : PySem.W.nsIn K mainGlobals "_law_pick" = some (some (.ref f_L_pick)))
    (l_L_pick : K.lookup f_L_pick = some ⟨oc_L_pick, od_L_pick, .func (PySem.W.fnOf "_law_pick" "_law_pick" (defArgs s_L_pick) (defBody s_L_pick) (defScope s_L_pick) .none kV_L_pick dc_L_pick pm_L_pick an_L_pick cd_L_pick ct_L_pick), sl_L_pick⟩)
    (c_L_pick : PySem.W.codeIn K cd_L_pick "_law_pick" = true) (k_L_pick : PySem.W.keepIn K (.ref f_L_pick) = true)
    (a_L_great : PySem.W.nsIn K mainGlobals "_law_great" = some (some (.ref f_L_great)))
    (l_L_great : K.lookup f_L_great = some ⟨oc_L_great, od_L_great, .func (PySem.W.fnOf "_law_great" "_law_great" (defArgs s_L_great) (defBody s_L_great) (defScope s_L_great) .none kV_L_great dc_L_great pm_L_great an_L_great cd_L_great ct_L_great), sl_L_great⟩)
    (c_L_great : PySem.W.codeIn K cd_L_great "_law_great" = true) (k_L_great : PySem.W.keepIn K (.ref f_L_great) = true)
    (a_L_small_side : PySem.W.nsIn K mainGlobals "_law_small_side" = some (some (.ref f_L_small_side)))
    (l_L_small_side : K.lookup f_L_small_side = some ⟨oc_L_small_side, od_L_small_side, .func (PySem.W.fnOf "_law_small_side" "_law_small_side" (defArgs s_L_small_side) (defBody s_L_small_side) (defScope s_L_small_side) .none kV_L_small_side dc_L_small_side pm_L_small_side an_L_small_side cd_L_small_side ct_L_small_side), sl_L_small_side⟩)
    (c_L_small_side : PySem.W.codeIn K cd_L_small_side "_law_small_side" = true) (k_L_small_side : PySem.W.keepIn K (.ref f_L_small_side) = true)
    (a_L_figure : PySem.W.nsIn K mainGlobals "_law_figure" = some (some (.ref f_L_figure)))
    (l_L_figure : K.lookup f_L_figure = some ⟨oc_L_figure, od_L_figure, .func (PySem.W.fnOf "_law_figure" "_law_figure" (defArgs s_L_figure) (defBody s_L_figure) (defScope s_L_figure) .none kV_L_figure dc_L_figure pm_L_figure an_L_figure cd_L_figure ct_L_figure), sl_L_figure⟩)
    (c_L_figure : PySem.W.codeIn K cd_L_figure "_law_figure" = true) (k_L_figure : PySem.W.keepIn K (.ref f_L_figure) = true)
    (a_L_handed : PySem.W.nsIn K mainGlobals "_law_handed" = some (some (.ref f_L_handed)))
    (l_L_handed : K.lookup f_L_handed = some ⟨oc_L_handed, od_L_handed, .func (PySem.W.fnOf "_law_handed" "_law_handed" (defArgs s_L_handed) (defBody s_L_handed) (defScope s_L_handed) .none kV_L_handed dc_L_handed pm_L_handed an_L_handed cd_L_handed ct_L_handed), sl_L_handed⟩)
    (c_L_handed : PySem.W.codeIn K cd_L_handed "_law_handed" = true) (k_L_handed : PySem.W.keepIn K (.ref f_L_handed) = true)
    (a_L_divisor : PySem.W.nsIn K mainGlobals "_law_divisor" = some (some (.ref f_L_divisor)))
    (l_L_divisor : K.lookup f_L_divisor = some ⟨oc_L_divisor, od_L_divisor, .func (PySem.W.fnOf "_law_divisor" "_law_divisor" (defArgs s_L_divisor) (defBody s_L_divisor) (defScope s_L_divisor) .none kV_L_divisor dc_L_divisor pm_L_divisor an_L_divisor cd_L_divisor ct_L_divisor), sl_L_divisor⟩)
    (c_L_divisor : PySem.W.codeIn K cd_L_divisor "_law_divisor" = true) (k_L_divisor : PySem.W.keepIn K (.ref f_L_divisor) = true)
    (a_L_period : PySem.W.nsIn K mainGlobals "_law_period" = some (some (.ref f_L_period)))
    (l_L_period : K.lookup f_L_period = some ⟨oc_L_period, od_L_period, .func (PySem.W.fnOf "_law_period" "_law_period" (defArgs s_L_period) (defBody s_L_period) (defScope s_L_period) .none kV_L_period dc_L_period pm_L_period an_L_period cd_L_period ct_L_period), sl_L_period⟩)
    (c_L_period : PySem.W.codeIn K cd_L_period "_law_period" = true) (k_L_period : PySem.W.keepIn K (.ref f_L_period) = true)
    (a_L_set : PySem.W.nsIn K mainGlobals "_law_set" = some (some (.ref f_L_set)))
    (l_L_set : K.lookup f_L_set = some ⟨oc_L_set, od_L_set, .func (PySem.W.fnOf "_law_set" "_law_set" (defArgs s_L_set) (defBody s_L_set) (defScope s_L_set) .none kV_L_set dc_L_set pm_L_set an_L_set cd_L_set ct_L_set), sl_L_set⟩)
    (c_L_set : PySem.W.codeIn K cd_L_set "_law_set" = true) (k_L_set : PySem.W.keepIn K (.ref f_L_set) = true)
    (a_L_written : PySem.W.nsIn K mainGlobals "_law_written" = some (some (.ref f_L_written)))
    (l_L_written : K.lookup f_L_written = some ⟨oc_L_written, od_L_written, .func (PySem.W.fnOf "_law_written" "_law_written" (defArgs s_L_written) (defBody s_L_written) (defScope s_L_written) .none kV_L_written dc_L_written pm_L_written an_L_written cd_L_written ct_L_written), sl_L_written⟩)
    (c_L_written : PySem.W.codeIn K cd_L_written "_law_written" = true) (k_L_written : PySem.W.keepIn K (.ref f_L_written) = true)
    (a_L_all : PySem.W.nsIn K mainGlobals "_law_all" = some (some (.ref f_L_all)))
    (l_L_all : K.lookup f_L_all = some ⟨oc_L_all, od_L_all, .func (PySem.W.fnOf "_law_all" "_law_all" (defArgs s_L_all) (defBody s_L_all) (defScope s_L_all) .none kV_L_all dc_L_all pm_L_all an_L_all cd_L_all ct_L_all), sl_L_all⟩)
    (c_L_all : PySem.W.codeIn K cd_L_all "_law_all" = true) (k_L_all : PySem.W.keepIn K (.ref f_L_all) = true)
    (a_L_word : PySem.W.nsIn K mainGlobals "_law_word" = some (some (.ref f_L_word)))
    (l_L_word : K.lookup f_L_word = some ⟨oc_L_word, od_L_word, .func (PySem.W.fnOf "_law_word" "_law_word" (defArgs s_L_word) (defBody s_L_word) (defScope s_L_word) .none kV_L_word dc_L_word pm_L_word an_L_word cd_L_word ct_L_word), sl_L_word⟩)
    (c_L_word : PySem.W.codeIn K cd_L_word "_law_word" = true) (k_L_word : PySem.W.keepIn K (.ref f_L_word) = true)
    (a_L_routes_fit : PySem.W.nsIn K mainGlobals "_law_routes_fit" = some (some (.ref f_L_routes_fit)))
    (l_L_routes_fit : K.lookup f_L_routes_fit = some ⟨oc_L_routes_fit, od_L_routes_fit, .func (PySem.W.fnOf "_law_routes_fit" "_law_routes_fit" (defArgs s_L_routes_fit) (defBody s_L_routes_fit) (defScope s_L_routes_fit) .none kV_L_routes_fit dc_L_routes_fit pm_L_routes_fit an_L_routes_fit cd_L_routes_fit ct_L_routes_fit), sl_L_routes_fit⟩)
    (c_L_routes_fit : PySem.W.codeIn K cd_L_routes_fit "_law_routes_fit" = true) (k_L_routes_fit : PySem.W.keepIn K (.ref f_L_routes_fit) = true)
    (a_L_fits : PySem.W.nsIn K mainGlobals "_law_fits" = some (some (.ref f_L_fits)))
    (l_L_fits : K.lookup f_L_fits = some ⟨oc_L_fits, od_L_fits, .func (PySem.W.fnOf "_law_fits" "_law_fits" (defArgs s_L_fits) (defBody s_L_fits) (defScope s_L_fits) .none kV_L_fits dc_L_fits pm_L_fits an_L_fits cd_L_fits ct_L_fits), sl_L_fits⟩)
    (c_L_fits : PySem.W.codeIn K cd_L_fits "_law_fits" = true) (k_L_fits : PySem.W.keepIn K (.ref f_L_fits) = true)
    (a_law : PySem.W.nsIn K mainGlobals "law" = some (some (.ref f_law)))
    (l_law : K.lookup f_law = some ⟨oc_law, od_law, .func (PySem.W.fnOf "law" "law" (defArgs s_law) (defBody s_law) (defScope s_law) .none kV_law dc_law pm_law an_law cd_law ct_law), sl_law⟩)
    (c_law : PySem.W.codeIn K cd_law "law" = true) (k_law : PySem.W.keepIn K (.ref f_law) = true)
    (z_len : PySem.W.nsIn K mainGlobals "len" = some none)
    (z_abs : PySem.W.nsIn K mainGlobals "abs" = some none)
    (z_int : PySem.W.nsIn K mainGlobals "int" = some none)
    (z_range : PySem.W.nsIn K mainGlobals "range" = some none)
    (z_isinstance : PySem.W.nsIn K mainGlobals "isinstance" = some none)
    (z_bool : PySem.W.nsIn K mainGlobals "bool" = some none)
    (z_tuple : PySem.W.nsIn K mainGlobals "tuple" = some none)
    (z_divmod : PySem.W.nsIn K mainGlobals "divmod" = some none)
    (z_max : PySem.W.nsIn K mainGlobals "max" = some none)
    (z_min : PySem.W.nsIn K mainGlobals "min" = some none)
    (z_list : PySem.W.nsIn K mainGlobals "list" = some none)
    (z_sorted : PySem.W.nsIn K mainGlobals "sorted" = some none)
    (z_enumerate : PySem.W.nsIn K mainGlobals "enumerate" = some none)
    (z_set : PySem.W.nsIn K mainGlobals "set" = some none)
    (z_dict : PySem.W.nsIn K mainGlobals "dict" = some none)
    (z_ValueError : PySem.W.nsIn K mainGlobals "ValueError" = some none)
    (g_0 : PySem.W.nsIn K mainGlobals "InvalidSide" = some (some (.ref c0)))
    (g_1 : PySem.W.nsIn K mainGlobals "InvalidSides" = some (some (.ref c1)))
    (g_2 : PySem.W.nsIn K mainGlobals "TooMany" = some (some (.ref c2)))
    (g_3 : PySem.W.nsIn K mainGlobals "InvalidValue" = some (some (.ref c3)))
    (g_B : PySem.W.nsIn K mainGlobals "HandedError" = some (some (.ref cB)))
    (et_0 : erT K (cAt [c0, c1, c2, c3]) cB 0 = true)
    (et_1 : erT K (cAt [c0, c1, c2, c3]) cB 1 = true)
    (et_2 : erT K (cAt [c0, c1, c2, c3]) cB 2 = true)
    (et_3 : erT K (cAt [c0, c1, c2, c3]) cB 3 = true)
    (em_0 : PySem.W.exmOne K (.ref c0) (.ref c0) = some true)
    (gsp : PySem.W.specialIn K (.builtin "object.__class__") "__get__" = some (some (.builtin "getset_descriptor.__get__")))
    (gtk : PySem.W.takesIn K (.builtin "object.__class__") = some true)
    (a_MS : PySem.W.nsIn K mainGlobals "MOST_SIDES" = some (some (.int 4 tMS)))
    (a_MP : PySem.W.nsIn K mainGlobals "MOST_PERIOD" = some (some (.int 100000 tMP)))
    (a_MH : PySem.W.nsIn K mainGlobals "MOST_HANDOVERS" = some (some (.int 1000 tMH)))
    (a_MO : PySem.W.nsIn K mainGlobals "MOST_OUTCOMES" = some (some (.int 1000 tMO)))
    (em_2 : PySem.W.exmOne K (.ref c2) (.ref c2) = some true)
    (a_lcm : PySem.W.nsIn K mainGlobals "lcm" = some (some (.builtin "math.lcm")))
    (l_U : K.lookup aU = some ⟨.type "tuple", odU, .seq itsU nU, slU⟩)
    (v_U : Vals [V.int 1] itsU.toList)
    (a_MODES : PySem.W.nsIn K mainGlobals "MODES" = some (some (.ref aM)))
    (l_MODES : K.lookup aM = some ⟨.type "tuple", odM, .seq itsM nM, slM⟩)
    (v_MODES : itsM.size ≤ sizeLine ∧ Vals modesV itsM.toList)
    (a_MIR : PySem.W.nsIn K mainGlobals "MIRRORED" = some (some (.ref aR)))
    (l_MIR : K.lookup aR = some ⟨.type "dict", none, .dict esR nR, #[]⟩)
    (h_MIR : PySem.W.KeysLit w.params esR.toList)
    (d_down : PySem.W.nsIn K aR "down" = some (some u_down)) (r_down : RelV (.str "up") u_down)
    (d_up : PySem.W.nsIn K aR "up" = some (some u_up)) (r_up : RelV (.str "down") u_up)
    (d_half_down : PySem.W.nsIn K aR "half_down" = some (some u_half_down)) (r_half_down : RelV (.str "half_up") u_half_down)
    (d_half_up : PySem.W.nsIn K aR "half_up" = some (some u_half_up)) (r_half_up : RelV (.str "half_down") u_half_up)
    (d_half_even : PySem.W.nsIn K aR "half_even" = some (some u_half_even)) (r_half_even : RelV (.str "half_even") u_half_even) :
    ∃ fd : FuncData, (∀ (s : Shared) (v : Value), BindsTo s fd ⟨[v], []⟩ [("_law_script", v)]) ∧ ∀ base : Heap, K.In base → base.Ns mainGlobals mg → FnOk l.prog w K mg base CX0 110 fa fd ["_law_script"] (spLaw K) := by
  have e := hfa.symm.trans (PySem.W.mg_of X G a_law)
  cases e
  have F_is_int := fun_mk (st := s_is_int) l_is_int c_is_int k_is_int
  have b_is_int := F_is_int.binds (ps := ["thing"]) fun _ _ _ _ _ _ us hl => match us, hl with | [_], _ => rfl
  have m_is_int := PySem.W.mg_of X G a_is_int
  have F_is_int_between := fun_mk (st := s_is_int_between) l_is_int_between c_is_int_between k_is_int_between
  have b_is_int_between := F_is_int_between.binds (ps := ["thing", "least", "most"]) fun _ _ _ _ _ _ us hl => match us, hl with | [_, _, _], _ => rfl
  have m_is_int_between := PySem.W.mg_of X G a_is_int_between
  have F_check_value := fun_mk (st := s_check_value) l_check_value c_check_value k_check_value
  have b_check_value := F_check_value.binds (ps := ["value"]) fun _ _ _ _ _ _ us hl => match us, hl with | [_], _ => rfl
  have m_check_value := PySem.W.mg_of X G a_check_value
  have F_check_side := fun_mk (st := s_check_side) l_check_side c_check_side k_check_side
  have b_check_side := F_check_side.binds (ps := ["side"]) fun _ _ _ _ _ _ us hl => match us, hl with | [_], _ => rfl
  have m_check_side := PySem.W.mg_of X G a_check_side
  have F_is_side := fun_mk (st := s_is_side) l_is_side c_is_side k_is_side
  have b_is_side := F_is_side.binds (ps := ["thing"]) fun _ _ _ _ _ _ us hl => match us, hl with | [_], _ => rfl
  have m_is_side := PySem.W.mg_of X G a_is_side
  have F_figure := fun_mk (st := s_figure) l_figure c_figure k_figure
  have b_figure := F_figure.binds (ps := ["side", "value"]) fun _ _ _ _ _ _ us hl => match us, hl with | [_, _], _ => rfl
  have m_figure := PySem.W.mg_of X G a_figure
  have F_goes_up := fun_mk (st := s_goes_up) l_goes_up c_goes_up k_goes_up
  have b_goes_up := F_goes_up.binds (ps := ["mode", "step", "figure", "rest"]) fun _ _ _ _ _ _ us hl => match us, hl with | [_, _, _, _], _ => rfl
  have m_goes_up := PySem.W.mg_of X G a_goes_up
  have F_written := fun_mk (st := s_written) l_written c_written k_written
  have b_written := F_written.binds (ps := ["side", "value"]) fun _ _ _ _ _ _ us hl => match us, hl with | [_, _], _ => rfl
  have m_written := PySem.W.mg_of X G a_written
  have F_span := fun_mk (st := s_span) l_span c_span k_span
  have b_span := F_span.binds (ps := ["side", "figure"]) fun _ _ _ _ _ _ us hl => match us, hl with | [_, _], _ => rfl
  have m_span := PySem.W.mg_of X G a_span
  have F_uspan := fun_mk (st := s_uspan) l_uspan c_uspan k_uspan
  have b_uspan := F_uspan.binds (ps := ["side", "figure"]) fun _ _ _ _ _ _ us hl => match us, hl with | [_, _], _ => rfl
  have m_uspan := PySem.W.mg_of X G a_uspan
  have F_below := fun_mk (st := s_below) l_below c_below k_below
  have b_below := F_below.binds (ps := ["mode", "step", "figure"]) fun _ _ _ _ _ _ us hl => match us, hl with | [_, _, _], _ => rfl
  have m_below := PySem.W.mg_of X G a_below
  have F_threshold := fun_mk (st := s_threshold) l_threshold c_threshold k_threshold
  have b_threshold := F_threshold.binds (ps := ["side", "value"]) fun _ _ _ _ _ _ us hl => match us, hl with | [_, _], _ => rfl
  have m_threshold := PySem.W.mg_of X G a_threshold
  have F_mirror := fun_mk (st := s_mirror) l_mirror c_mirror k_mirror
  have b_mirror := F_mirror.binds (ps := ["side"]) fun _ _ _ _ _ _ us hl => match us, hl with | [_], _ => rfl
  have m_mirror := PySem.W.mg_of X G a_mirror
  have F_form := fun_mk (st := s_form) l_form c_form k_form
  have b_form := F_form.binds (ps := ["side"]) fun _ _ _ _ _ _ us hl => match us, hl with | [_], _ => rfl
  have m_form := PySem.W.mg_of X G a_form
  have F_first_mode := fun_mk (st := s_first_mode) l_first_mode c_first_mode k_first_mode
  have b_first_mode := F_first_mode.binds (ps := ["step", "mode"]) fun _ _ _ _ _ _ us hl => match us, hl with | [_, _], _ => rfl
  have m_first_mode := PySem.W.mg_of X G a_first_mode
  have F_check_sides := fun_mk (st := s_check_sides) l_check_sides c_check_sides k_check_sides
  have b_check_sides := F_check_sides.binds (ps := ["sides"]) fun _ _ _ _ _ _ us hl => match us, hl with | [_], _ => rfl
  have m_check_sides := PySem.W.mg_of X G a_check_sides
  have F_period_of := fun_mk (st := s_period_of) l_period_of c_period_of k_period_of
  have b_period_of := F_period_of.binds (ps := ["side"]) fun _ _ _ _ _ _ us hl => match us, hl with | [_], _ => rfl
  have m_period_of := PySem.W.mg_of X G a_period_of
  have F_moved := fun_mk (st := s_moved) l_moved c_moved k_moved
  have b_moved := F_moved.binds (ps := ["side", "by"]) fun _ _ _ _ _ _ us hl => match us, hl with | [_, _], _ => rfl
  have m_moved := PySem.W.mg_of X G a_moved
  have F_common_period := fun_mk (st := s_common_period) l_common_period c_common_period k_common_period
  have b_common_period := F_common_period.binds (ps := ["sides"]) fun _ _ _ _ _ _ us hl => match us, hl with | [_], _ => rfl
  have m_common_period := PySem.W.mg_of X G a_common_period
  have F_raisers := fun_mk (st := s_raisers) l_raisers c_raisers k_raisers
  have b_raisers := F_raisers.binds (ps := ["sides"]) fun _ _ _ _ _ _ us hl => match us, hl with | [_], _ => rfl
  have m_raisers := PySem.W.mg_of X G a_raisers
  have F_raises_some := fun_mk (st := s_raises_some) l_raises_some c_raises_some k_raises_some
  have b_raises_some := F_raises_some.binds (ps := ["side"]) fun _ _ _ _ _ _ us hl => match us, hl with | [_], _ => rfl
  have m_raises_some := PySem.W.mg_of X G a_raises_some
  have F_highest := fun_mk (st := s_highest) l_highest c_highest k_highest
  have b_highest := F_highest.binds (ps := ["sides", "value"]) fun _ _ _ _ _ _ us hl => match us, hl with | [_, _], _ => rfl
  have m_highest := PySem.W.mg_of X G a_highest
  have F_mirrors := fun_mk (st := s_mirrors) l_mirrors c_mirrors k_mirrors
  have b_mirrors := F_mirrors.binds (ps := ["sides"]) fun _ _ _ _ _ _ us hl => match us, hl with | [_], _ => rfl
  have m_mirrors := PySem.W.mg_of X G a_mirrors
  have F_outcomes := fun_mk (st := s_outcomes) l_outcomes c_outcomes k_outcomes
  have b_outcomes := F_outcomes.binds (ps := ["sides", "value"]) fun _ _ _ _ _ _ us hl => match us, hl with | [_, _], _ => rfl
  have m_outcomes := PySem.W.mg_of X G a_outcomes
  have F_rests := fun_mk (st := s_rests) l_rests c_rests k_rests
  have b_rests := F_rests.binds (ps := ["sides", "value"]) fun _ _ _ _ _ _ us hl => match us, hl with | [_, _], _ => rfl
  have m_rests := PySem.W.mg_of X G a_rests
  have F_rest_of := fun_mk (st := s_rest_of) l_rest_of c_rest_of k_rest_of
  have b_rest_of := F_rest_of.binds (ps := ["sides", "value"]) fun _ _ _ _ _ _ us hl => match us, hl with | [_, _], _ => rfl
  have m_rest_of := PySem.W.mg_of X G a_rest_of
  have F_first_hit := fun_mk (st := s_first_hit) l_first_hit c_first_hit k_first_hit
  have b_first_hit := F_first_hit.binds (ps := ["start", "step", "most", "modulus"]) fun _ _ _ _ _ _ us hl => match us, hl with | [_, _, _, _], _ => rfl
  have m_first_hit := PySem.W.mg_of X G a_first_hit
  have F_first_between := fun_mk (st := s_first_between) l_first_between c_first_between k_first_between
  have b_first_between := F_first_between.binds (ps := ["step", "least", "greatest", "modulus"]) fun _ _ _ _ _ _ us hl => match us, hl with | [_, _, _, _], _ => rfl
  have m_first_between := PySem.W.mg_of X G a_first_between
  have m_unraised := PySem.W.mg_of X G a_unraised
  have F_first_in_block := fun_mk (st := s_first_in_block) l_first_in_block c_first_in_block k_first_in_block
  have b_first_in_block := F_first_in_block.binds (ps := ["block", "value"]) fun _ _ _ _ _ _ us hl => match us, hl with | [_, _], _ => rfl
  have m_first_in_block := PySem.W.mg_of X G a_first_in_block
  have F_first_in_both := fun_mk (st := s_first_in_both) l_first_in_both c_first_in_both k_first_in_both
  have b_first_in_both := F_first_in_both.binds (ps := ["one", "other", "value"]) fun _ _ _ _ _ _ us hl => match us, hl with | [_, _, _], _ => rfl
  have m_first_in_both := PySem.W.mg_of X G a_first_in_both
  have F_reach := fun_mk (st := s_reach) l_reach c_reach k_reach
  have b_reach := F_reach.binds (ps := ["sides", "value"]) fun _ _ _ _ _ _ us hl => match us, hl with | [_, _], _ => rfl
  have m_reach := PySem.W.mg_of X G a_reach
  have F_check_few := fun_mk (st := s_check_few) l_check_few c_check_few k_check_few
  have b_check_few := F_check_few.binds (ps := ["raising"]) fun _ _ _ _ _ _ us hl => match us, hl with | [_], _ => rfl
  have m_check_few := PySem.W.mg_of X G a_check_few
  have F_first_unraised := fun_mk (st := s_first_unraised) l_first_unraised c_first_unraised k_first_unraised
  have b_first_unraised := F_first_unraised.binds (ps := ["raising", "value"]) fun _ _ _ _ _ _ us hl => match us, hl with | [_, _], _ => rfl
  have m_first_unraised := PySem.W.mg_of X G a_first_unraised
  have F_first_unraised_by_two := fun_mk (st := s_first_unraised_by_two) l_first_unraised_by_two c_first_unraised_by_two k_first_unraised_by_two
  have b_first_unraised_by_two := F_first_unraised_by_two.binds (ps := ["first", "second", "value"]) fun _ _ _ _ _ _ us hl => match us, hl with | [_, _, _], _ => rfl
  have m_first_unraised_by_two := PySem.W.mg_of X G a_first_unraised_by_two
  have F_route := fun_mk (st := s_route) l_route c_route k_route
  have b_route := F_route.binds (ps := ["sides", "start", "value"]) fun _ _ _ _ _ _ us hl => match us, hl with | [_, _, _], _ => rfl
  have m_route := PySem.W.mg_of X G a_route
  have F_fewest := fun_mk (st := s_fewest) l_fewest c_fewest k_fewest
  have b_fewest := F_fewest.binds (ps := ["sides", "start", "value", "runs"]) fun _ _ _ _ _ _ us hl => match us, hl with | [_, _, _, _], _ => rfl
  have m_fewest := PySem.W.mg_of X G a_fewest
  have F_runs := fun_mk (st := s_runs) l_runs c_runs k_runs
  have b_runs := F_runs.binds (ps := ["sides", "value"]) fun _ _ _ _ _ _ us hl => match us, hl with | [_, _], _ => rfl
  have m_runs := PySem.W.mg_of X G a_runs
  have F_widened := fun_mk (st := s_widened) l_widened c_widened k_widened
  have b_widened := F_widened.binds (ps := ["sides", "run"]) fun _ _ _ _ _ _ us hl => match us, hl with | [_, _], _ => rfl
  have m_widened := PySem.W.mg_of X G a_widened
  have F_ends := fun_mk (st := s_ends) l_ends c_ends k_ends
  have b_ends := F_ends.binds (ps := ["sides", "value", "runs"]) fun _ _ _ _ _ _ us hl => match us, hl with | [_, _, _], _ => rfl
  have m_ends := PySem.W.mg_of X G a_ends
  have F_within := fun_mk (st := s_within) l_within c_within k_within
  have b_within := F_within.binds (ps := ["run", "window"]) fun _ _ _ _ _ _ us hl => match us, hl with | [_, _], _ => rfl
  have m_within := PySem.W.mg_of X G a_within
  have F_holds := fun_mk (st := s_holds) l_holds c_holds k_holds
  have b_holds := F_holds.binds (ps := ["ends", "value"]) fun _ _ _ _ _ _ us hl => match us, hl with | [_, _], _ => rfl
  have m_holds := PySem.W.mg_of X G a_holds
  have F_way := fun_mk (st := s_way) l_way c_way k_way
  have b_way := F_way.binds (ps := ["sides", "start", "runs"]) fun _ _ _ _ _ _ us hl => match us, hl with | [_, _, _], _ => rfl
  have m_way := PySem.W.mg_of X G a_way
  have F_L_source := fun_mk (st := s_L_source) l_L_source c_L_source k_L_source
  have b_L_source := F_L_source.binds (ps := ["_law_script"]) fun _ _ _ _ _ _ us hl => match us, hl with | [_], _ => rfl
  have m_L_source := PySem.W.mg_of X G a_L_source
  have F_L_draw := fun_mk (st := s_L_draw) l_L_draw c_L_draw k_L_draw
  have b_L_draw := F_L_draw.binds (ps := ["_law_source_here", "_law_limit"]) fun _ _ _ _ _ _ us hl => match us, hl with | [_, _], _ => rfl
  have m_L_draw := PySem.W.mg_of X G a_L_draw
  have F_L_pick := fun_mk (st := s_L_pick) l_L_pick c_L_pick k_L_pick
  have b_L_pick := F_L_pick.binds (ps := ["_law_source_here", "_law_values"]) fun _ _ _ _ _ _ us hl => match us, hl with | [_, _], _ => rfl
  have m_L_pick := PySem.W.mg_of X G a_L_pick
  have F_L_great := fun_mk (st := s_L_great) l_L_great c_L_great k_L_great
  have b_L_great := F_L_great.binds (ps := ["_law_source_here", "_law_digits"]) fun _ _ _ _ _ _ us hl => match us, hl with | [_, _], _ => rfl
  have m_L_great := PySem.W.mg_of X G a_L_great
  have F_L_small_side := fun_mk (st := s_L_small_side) l_L_small_side c_L_small_side k_L_small_side
  have b_L_small_side := F_L_small_side.binds (ps := ["_law_source_here", "_law_most"]) fun _ _ _ _ _ _ us hl => match us, hl with | [_, _], _ => rfl
  have m_L_small_side := PySem.W.mg_of X G a_L_small_side
  have F_L_figure := fun_mk (st := s_L_figure) l_L_figure c_L_figure k_L_figure
  have b_L_figure := F_L_figure.binds (ps := ["_law_side", "_law_value"]) fun _ _ _ _ _ _ us hl => match us, hl with | [_, _], _ => rfl
  have m_L_figure := PySem.W.mg_of X G a_L_figure
  have F_L_handed := fun_mk (st := s_L_handed) l_L_handed c_L_handed k_L_handed
  have b_L_handed := F_L_handed.binds (ps := ["_law_side", "_law_value"]) fun _ _ _ _ _ _ us hl => match us, hl with | [_, _], _ => rfl
  have m_L_handed := PySem.W.mg_of X G a_L_handed
  have F_L_divisor := fun_mk (st := s_L_divisor) l_L_divisor c_L_divisor k_L_divisor
  have b_L_divisor := F_L_divisor.binds (ps := ["_law_one", "_law_other"]) fun _ _ _ _ _ _ us hl => match us, hl with | [_, _], _ => rfl
  have m_L_divisor := PySem.W.mg_of X G a_L_divisor
  have F_L_period := fun_mk (st := s_L_period) l_L_period c_L_period k_L_period
  have b_L_period := F_L_period.binds (ps := ["_law_sides"]) fun _ _ _ _ _ _ us hl => match us, hl with | [_], _ => rfl
  have m_L_period := PySem.W.mg_of X G a_L_period
  have F_L_set := fun_mk (st := s_L_set) l_L_set c_L_set k_L_set
  have b_L_set := F_L_set.binds (ps := ["_law_source_here", "_law_most", "_law_many"]) fun _ _ _ _ _ _ us hl => match us, hl with | [_, _, _], _ => rfl
  have m_L_set := PySem.W.mg_of X G a_L_set
  have F_L_written := fun_mk (st := s_L_written) l_L_written c_L_written k_L_written
  have b_L_written := F_L_written.binds (ps := ["_law_sides", "_law_value"]) fun _ _ _ _ _ _ us hl => match us, hl with | [_, _], _ => rfl
  have m_L_written := PySem.W.mg_of X G a_L_written
  have F_L_all := fun_mk (st := s_L_all) l_L_all c_L_all k_L_all
  have b_L_all := F_L_all.binds (ps := ["_law_sides", "_law_value"]) fun _ _ _ _ _ _ us hl => match us, hl with | [_, _], _ => rfl
  have m_L_all := PySem.W.mg_of X G a_L_all
  have F_L_word := fun_mk (st := s_L_word) l_L_word c_L_word k_L_word
  have b_L_word := F_L_word.binds (ps := ["_law_kind", "_law_sides", "_law_value"]) fun _ _ _ _ _ _ us hl => match us, hl with | [_, _, _], _ => rfl
  have m_L_word := PySem.W.mg_of X G a_L_word
  have F_L_routes_fit := fun_mk (st := s_L_routes_fit) l_L_routes_fit c_L_routes_fit k_L_routes_fit
  have b_L_routes_fit := F_L_routes_fit.binds (ps := ["_law_sides", "_law_value", "_law_due"]) fun _ _ _ _ _ _ us hl => match us, hl with | [_, _, _], _ => rfl
  have m_L_routes_fit := PySem.W.mg_of X G a_L_routes_fit
  have F_L_fits := fun_mk (st := s_L_fits) l_L_fits c_L_fits k_L_fits
  have b_L_fits := F_L_fits.binds (ps := ["_law_sides", "_law_value", "_law_factor"]) fun _ _ _ _ _ _ us hl => match us, hl with | [_, _, _], _ => rfl
  have m_L_fits := PySem.W.mg_of X G a_L_fits
  have F_law := fun_mk (st := s_law) l_law c_law k_law
  have b_law := F_law.binds (ps := ["_law_script"]) fun _ _ _ _ _ _ us hl => match us, hl with | [_], _ => rfl
  have m_law := PySem.W.mg_of X G a_law
  have n_len := PySem.W.mg_none_of X G z_len
  have n_abs := PySem.W.mg_none_of X G z_abs
  have n_int := PySem.W.mg_none_of X G z_int
  have n_range := PySem.W.mg_none_of X G z_range
  have n_isinstance := PySem.W.mg_none_of X G z_isinstance
  have n_bool := PySem.W.mg_none_of X G z_bool
  have n_tuple := PySem.W.mg_none_of X G z_tuple
  have n_divmod := PySem.W.mg_none_of X G z_divmod
  have n_max := PySem.W.mg_none_of X G z_max
  have n_min := PySem.W.mg_none_of X G z_min
  have n_list := PySem.W.mg_none_of X G z_list
  have n_sorted := PySem.W.mg_none_of X G z_sorted
  have n_enumerate := PySem.W.mg_none_of X G z_enumerate
  have n_set := PySem.W.mg_none_of X G z_set
  have n_dict := PySem.W.mg_none_of X G z_dict
  have n_ValueError := PySem.W.mg_none_of X G z_ValueError
  have BL : Blt mg := ⟨n_len, n_abs, n_int, n_range⟩
  have T : SideT K mg aM := ⟨n_isinstance, n_int, n_bool, n_tuple, n_len, n_divmod, PySem.W.mg_of X G a_MODES, fun _ => .inr ⟨_, _, _, l_MODES, rfl, rfl, v_MODES.1, v_MODES.2⟩⟩
  have RT : MirT K w mg aR := ⟨PySem.W.mg_of X G a_MIR, fun m hm => by
    rcases hm with e | e | e | e | e <;> subst e
    · rw [mir_d]; exact ⟨_, _, _, l_MIR, h_MIR, d_down, r_down⟩
    · rw [mir_u]; exact ⟨_, _, _, l_MIR, h_MIR, d_up, r_up⟩
    · rw [mir_hd]; exact ⟨_, _, _, l_MIR, h_MIR, d_half_down, r_half_down⟩
    · rw [mir_hu]; exact ⟨_, _, _, l_MIR, h_MIR, d_half_up, r_half_up⟩
    · rw [mir_he]; exact ⟨_, _, _, l_MIR, h_MIR, d_half_even, r_half_even⟩⟩
  have TC : ChkT mg := ⟨n_isinstance, n_int, n_bool, n_tuple, n_list, n_len⟩
  have TM : ModT K mg aM := ⟨T.gM, T.tM⟩
  have AT : AmT mg := ⟨⟨_, PySem.W.mg_of X G a_MS⟩⟩
  have tab : ∀ i, i < 4 → erT K (cAt [c0, c1, c2, c3]) cB i = true := fun i hi => by
    rcases (by omega : i = 0 ∨ i = 1 ∨ i = 2 ∨ i = 3) with e | e | e | e <;> subst e
    · exact et_0
    · exact et_1
    · exact et_2
    · exact et_3
  have tb : ∀ i, i < 4 → errB K (cAt [c0, c1, c2, c3] i) = true ∧ (PySem.W.excIn K (cAt [c0, c1, c2, c3] i) [.type "ValueError", .type "Exception", .type "BaseException", .type "object"] "ValueError.__new__" = true ∧ PySem.W.keepIn K (.ref (cAt [c0, c1, c2, c3] i)) = true) ∧ PySem.W.kitOne K (.ref (cAt [c0, c1, c2, c3] i)) (.type "ValueError") = some true ∧ PySem.W.subIn K (.ref (cAt [c0, c1, c2, c3] i)) (.type "BaseException") = some true ∧ PySem.W.typeIn K (.ref (cAt [c0, c1, c2, c3] i)) = some (.type "type") ∧ PySem.W.exmOne K (.ref (cAt [c0, c1, c2, c3] i)) (.ref cB) = some true ∧ ∀ j, j < 4 → PySem.W.kitOne K (.ref (cAt [c0, c1, c2, c3] i)) (.ref (cAt [c0, c1, c2, c3] j)) = some (decide (i = j)) := fun i hi => by
    have z := tab i hi
    unfold erT exB at z
    simp only [Bool.and_eq_true, decide_eq_true_eq] at z
    obtain ⟨a, b, c, d, e, f, g⟩ := z
    exact ⟨a, b, c, d, e, f, fun j hj => of_decide_eq_true (all_of g hj)⟩
  have R : Er K mg (cAt [c0, c1, c2, c3]) cB := { isi := n_isinstance, ve := n_ValueError, gB := PySem.W.mg_of X G g_B, g0 := PySem.W.mg_of X G g_0, g1 := PySem.W.mg_of X G g_1, g2 := PySem.W.mg_of X G g_2, g3 := PySem.W.mg_of X G g_3, kit := fun i j hi hj => (tb i hi).2.2.2.2.2.2 j hj, kitV := fun i hi => (tb i hi).2.2.1, ec := fun i hi => errB_ok (tb i hi).1, eg := ⟨gsp, gtk⟩, ex := fun i hi => (tb i hi).2.1.1, kp := fun i hi => (tb i hi).2.1.2, sb := fun i hi => (tb i hi).2.2.2.1, ty := fun i hi => (tb i hi).2.2.2.2.1, emB := fun i hi => (tb i hi).2.2.2.2.2.1, em0 := em_0 }
  have MX : MaxT mg := ⟨n_max, n_min⟩
  have AM : AmG mg := ⟨n_isinstance, n_list, n_len, ⟨_, PySem.W.mg_of X G a_MS⟩, ⟨_, PySem.W.mg_of X G a_MP⟩, PySem.W.mg_of X G a_lcm, n_sorted⟩
  have D_unraised : FunD K "unraised" "unraised" (defArgs s_unraised) (defBody s_unraised) (defScope s_unraised) [.int 1] [] f_unraised _ := ⟨⟨_, _, _, _, _, _, _, _, _, _, rfl, l_unraised, c_unraised, .inr ⟨(fun z => nomatch z), aU, _, itsU.toList, nU, rfl, l_U, rfl, v_U⟩, .inl rfl⟩, k_unraised⟩
  have bd_unraised := D_unraised.binds1 (ps := ["side", "least"]) 1 0 (fun z => nomatch z) rfl (fun T kV doc pm an cdv ct us its h1 h2 => match us, its, h1, h2 with | [_], [_], _, _ => ⟨_, rfl, rfl⟩)
  refine ⟨PySem.W.fnOf "law" "law" (defArgs s_law) (defBody s_law) (defScope s_law) .none kV_law dc_law pm_law an_law cd_law ct_law, fun s v => .of_eq rfl, fun base _ _ => ?_⟩
  have C_is_int : Cal l.prog w K mg base "is_int" 1 ["thing"] spIsInt f_is_int _ := ⟨ok_is_int F_is_int T, m_is_int, k_is_int, b_is_int⟩
  have C_is_int_between : Cal l.prog w K mg base "is_int_between" 2 ["thing", "least", "most"] spBetween f_is_int_between _ := ⟨ok_between F_is_int_between C_is_int, m_is_int_between, k_is_int_between, b_is_int_between⟩
  have C_check_value : Cal l.prog w K mg base "check_value" 2 ["value"] spCheckValue f_check_value _ := ⟨ok_check_value F_check_value C_is_int, m_check_value, k_check_value, b_check_value⟩
  have C_check_side : Cal l.prog w K mg base "check_side" 3 ["side"] spCheckSide f_check_side _ := ⟨ok_check_side F_check_side T C_is_int_between, m_check_side, k_check_side, b_check_side⟩
  have C_goes_up : Cal l.prog w K mg base "_goes_up" 1 ["mode", "step", "figure", "rest"] spGo f_goes_up _ := ⟨ok_goes_up F_goes_up, m_goes_up, k_goes_up, b_goes_up⟩
  have C_figure : Cal l.prog w K mg base "_figure" 2 ["side", "value"] spFig f_figure _ := ⟨ok_figure F_figure T C_goes_up, m_figure, k_figure, b_figure⟩
  have C_written : Cal l.prog w K mg base "written" 3 ["side", "value"] spDue f_written _ := ⟨ok_written F_written C_figure, m_written, k_written, b_written⟩
  have C_below : Cal l.prog w K mg base "_below" 1 ["mode", "step", "figure"] spBelow f_below _ := ⟨ok_below F_below, m_below, k_below, b_below⟩
  have C_uspan : Cal l.prog w K mg base "_span" 2 ["side", "figure"] spSpan f_uspan _ := ⟨ok_uspan F_uspan RT C_below, m_uspan, k_uspan, b_uspan⟩
  have C_span : Cal l.prog w K mg base "span" 4 ["side", "figure"] spSpan f_span _ := ⟨ok_span F_span C_check_side C_check_value C_uspan, m_span, k_span, b_span⟩
  have C_mirror : Cal l.prog w K mg base "mirror" 4 ["side"] spMirror f_mirror _ := ⟨ok_mirror F_mirror RT C_check_side, m_mirror, k_mirror, b_mirror⟩
  have C_first_mode : Cal l.prog w K mg base "_first_mode" 1 ["step", "mode"] spFirst f_first_mode _ := ⟨ok_first F_first_mode, m_first_mode, k_first_mode, b_first_mode⟩
  have C_form : Cal l.prog w K mg base "form" 4 ["side"] spForm f_form _ := ⟨ok_form F_form C_check_side C_first_mode, m_form, k_form, b_form⟩
  have C_is_side : Cal l.prog w K mg base "is_side" 4 ["thing"] spIsSide f_is_side _ := ⟨ok_is_side F_is_side (PySem.W.mg_of X G g_0) C_check_side, m_is_side, k_is_side, b_is_side⟩
  have C_check_sides : Cal l.prog w K mg base "check_sides" 5 ["sides"] spSides f_check_sides _ := ⟨ok_sides F_check_sides AM C_is_side, m_check_sides, k_check_sides, b_check_sides⟩
  have C_period_of : Cal l.prog w K mg base "period_of" 1 ["side"] spPerOf f_period_of _ := ⟨ok_per F_period_of, m_period_of, k_period_of, b_period_of⟩
  have C_first_between : ∀ n, n ≤ 200 → Cal l.prog w K mg base "_first_between" (n + 1) ["step", "least", "greatest", "modulus"] (spFB n) f_first_between _ := fun n hn => ⟨ok_fb F_first_between m_first_between k_first_between b_first_between n hn, m_first_between, k_first_between, b_first_between⟩
  have C_first_hit : Cal l.prog w K mg base "first_hit" 104 ["start", "step", "most", "modulus"] spFH f_first_hit _ := ⟨ok_hit F_first_hit (C_first_between 102 (by decide)), m_first_hit, k_first_hit, b_first_hit⟩
  have C_first_in_block : Cal l.prog w K mg base "first_in_block" 1 ["block", "value"] spFIB f_first_in_block _ := ⟨ok_fib F_first_in_block, m_first_in_block, k_first_in_block, b_first_in_block⟩
  have C_first_in_both : Cal l.prog w K mg base "first_in_both" 105 ["one", "other", "value"] spFI2 f_first_in_both _ := ⟨ok_fi2 F_first_in_both C_first_hit C_first_in_block, m_first_in_both, k_first_in_both, b_first_in_both⟩
  have C_unraised : CalD l.prog w K mg base "unraised" 5 ["side", "least"] [.int 1] spUnr f_unraised _ := ⟨ok_unr D_unraised BL MX C_period_of C_span, m_unraised, k_unraised, bd_unraised⟩
  have C_raises_some : Cal l.prog w K mg base "_raises_some" 5 ["side"] spRs f_raises_some _ := ⟨ok_rs F_raises_some C_form, m_raises_some, k_raises_some, b_raises_some⟩
  have C_common_period : Cal l.prog w K mg base "common_period" 2 ["sides"] spPerL f_common_period _ := ⟨ok_commonL F_common_period AM C_period_of, m_common_period, k_common_period, b_common_period⟩
  have C_raisers : Cal l.prog w K mg base "raisers" 6 ["sides"] spRais f_raisers _ := ⟨ok_rais F_raisers C_raises_some, m_raisers, k_raisers, b_raisers⟩
  have C_mirrors : Cal l.prog w K mg base "mirrors" 5 ["sides"] spMirs f_mirrors _ := ⟨ok_mirs F_mirrors C_mirror, m_mirrors, k_mirrors, b_mirrors⟩
  have C_highest : Cal l.prog w K mg base "highest" 4 ["sides", "value"] spHi f_highest _ := ⟨ok_hi F_highest MX C_written, m_highest, k_highest, b_highest⟩
  have C_first_unraised_by_two : Cal l.prog w K mg base "_first_unraised_by_two" 106 ["first", "second", "value"] spTwo f_first_unraised_by_two _ := ⟨ok_two F_first_unraised_by_two MX C_unraised C_first_in_both, m_first_unraised_by_two, k_first_unraised_by_two, b_first_unraised_by_two⟩
  have C_first_unraised : Cal l.prog w K mg base "_first_unraised" 107 ["raising", "value"] spFU f_first_unraised _ := ⟨ok_fu F_first_unraised AM C_first_unraised_by_two C_common_period C_highest, m_first_unraised, k_first_unraised, b_first_unraised⟩
  have C_check_few : Cal l.prog w K mg base "_check_few" 3 ["raising"] spCF f_check_few _ := ⟨ok_cf F_check_few AM C_common_period, m_check_few, k_check_few, b_check_few⟩
  have C_reach : Cal l.prog w K mg base "reach" 108 ["sides", "value"] spReach f_reach _ := ⟨ok_reach F_reach C_check_sides C_check_value C_raisers C_mirrors C_check_few C_first_unraised, m_reach, k_reach, b_reach⟩
  have RG : RsG mg := ⟨⟨_, PySem.W.mg_of X G a_MO⟩, n_sorted, n_set, n_dict⟩
  have X_is_int : Cal l.prog w K mg base "is_int" 1 ["thing"] spIsAny f_is_int _ := ⟨ok_is_any F_is_int TC, m_is_int, k_is_int, b_is_int⟩
  have X_is_int_between : Cal l.prog w K mg base "is_int_between" 2 ["thing", "least", "most"] spBetAny f_is_int_between _ := ⟨ok_bet_any F_is_int_between X_is_int, m_is_int_between, k_is_int_between, b_is_int_between⟩
  have X_check_value : CalX l.prog w K mg base "check_value" 2 ["value"] (spValX (cAt [c0, c1, c2, c3])) f_check_value _ := ⟨ok_val_x F_check_value R X_is_int, m_check_value, k_check_value, b_check_value⟩
  have X_check_side : CalX l.prog w K mg base "check_side" 3 ["side"] (spSideX K (cAt [c0, c1, c2, c3])) f_check_side _ := ⟨ok_side_x F_check_side TC TM R X_is_int_between, m_check_side, k_check_side, b_check_side⟩
  have X_is_side : Cal l.prog w K mg base "is_side" 4 ["thing"] (spIsSideX K) f_is_side _ := ⟨ok_is_side_x F_is_side R X_check_side, m_is_side, k_is_side, b_is_side⟩
  have X_check_sides : CalX l.prog w K mg base "check_sides" 5 ["sides"] (spSidesX K (cAt [c0, c1, c2, c3])) f_check_sides _ := ⟨ok_sides_x F_check_sides TC AT R X_is_side, m_check_sides, k_check_sides, b_check_sides⟩
  have G_outcomes : CalX l.prog w K mg base "outcomes" 6 ["sides", "value"] (spOut (cAt [c0, c1, c2, c3])) f_outcomes _ := ⟨ok_out F_outcomes BL RG R C_check_sides C_check_value C_written, m_outcomes, k_outcomes, b_outcomes⟩
  have C_outcomes : Cal l.prog w K mg base "outcomes" 6 ["sides", "value"] (spOut0 (cAt [c0, c1, c2, c3])) f_outcomes _ := ⟨of_x G_outcomes.ok, m_outcomes, k_outcomes, b_outcomes⟩
  have X_outcomes : CalX l.prog w K mg base "outcomes" 6 ["sides", "value"] (spOutA K (cAt [c0, c1, c2, c3])) f_outcomes _ := ⟨or_ok G_outcomes.ok (ok_out_x F_outcomes X_check_sides X_check_value), m_outcomes, k_outcomes, b_outcomes⟩
  have C_rest_of : Cal l.prog w K mg base "_rest_of" 7 ["sides", "value"] spRest f_rest_of _ := ⟨ok_rest_of F_rest_of C_outcomes, m_rest_of, k_rest_of, b_rest_of⟩
  have X_rests : CalX l.prog w K mg base "rests" 8 ["sides", "value"] (spRestsA K (cAt [c0, c1, c2, c3])) f_rests _ := ⟨or_ok (ok_rests F_rests G_outcomes C_rest_of) (ok_rests_x F_rests X_outcomes), m_rests, k_rests, b_rests⟩
  have C_threshold : Cal l.prog w K mg base "threshold" 3 ["side", "value"] spBack f_threshold _ := ⟨ok_threshold F_threshold C_below, m_threshold, k_threshold, b_threshold⟩
  have C_moved : Cal l.prog w K mg base "moved" 2 ["side", "by"] spMoved f_moved _ := ⟨ok_moved F_moved C_period_of, m_moved, k_moved, b_moved⟩
  have C_widened : Cal l.prog w K mg base "_widened" 4 ["sides", "run"] spWid f_widened _ := ⟨ok_wid F_widened MX C_threshold, m_widened, k_widened, b_widened⟩
  have C_runs : Cal l.prog w K mg base "_runs" 5 ["sides", "value"] spRuns f_runs _ := ⟨ok_runs F_runs BL ⟨_, PySem.W.mg_of X G a_MH⟩ C_moved C_widened, m_runs, k_runs, b_runs⟩
  have C_within : Cal l.prog w K mg base "_within" 1 ["run", "window"] spWin f_within _ := ⟨ok_win F_within MX, m_within, k_within, b_within⟩
  have X_ends : CalX l.prog w K mg base "_ends" 3 ["sides", "value", "runs"] (spEndsX (cAt [c0, c1, c2, c3])) f_ends _ := ⟨ok_ends_x F_ends BL R ⟨_, PySem.W.mg_of X G a_MH⟩ C_common_period C_within, m_ends, k_ends, b_ends⟩
  have C_holds : Cal l.prog w K mg base "_holds" 1 ["ends", "value"] spHolds f_holds _ := ⟨ok_holds F_holds, m_holds, k_holds, b_holds⟩
  have X_fewest : CalX l.prog w K mg base "_fewest" 4 ["sides", "start", "value", "runs"] (spFewX (cAt [c0, c1, c2, c3])) f_fewest _ := ⟨ok_few_x F_fewest n_enumerate R ⟨_, PySem.W.mg_of X G a_MH⟩ C_holds X_ends, m_fewest, k_fewest, b_fewest⟩
  have C_fewest : Cal l.prog w K mg base "_fewest" 4 ["sides", "start", "value", "runs"] (fun vs H Q _ => spFewX (cAt [c0, c1, c2, c3]) vs H Q fun _ _ _ => False) f_fewest _ := ⟨of_x X_fewest.ok, m_fewest, k_fewest, b_fewest⟩
  have C_way : Cal l.prog w K mg base "_way" 4 ["sides", "start", "runs"] spWay f_way _ := ⟨ok_way F_way BL n_enumerate C_written C_holds, m_way, k_way, b_way⟩
  have C_route : Cal l.prog w K mg base "route" 6 ["sides", "start", "value"] spRou f_route _ := ⟨ok_route F_route C_check_sides C_check_value C_runs C_fewest C_way, m_route, k_route, b_route⟩
  have C_L_source : Cal l.prog w K mg base "_law_source" 1 ["_law_script"] (spSource K) f_L_source _ := ⟨ok_source F_L_source BL, m_L_source, k_L_source, b_L_source⟩
  have C_L_draw : Cal l.prog w K mg base "_law_draw" 1 ["_law_source_here", "_law_limit"] spDraw f_L_draw _ := ⟨ok_draw F_L_draw BL, m_L_draw, k_L_draw, b_L_draw⟩
  have C_L_pick : Cal l.prog w K mg base "_law_pick" 2 ["_law_source_here", "_law_values"] spPick f_L_pick _ := ⟨ok_pick F_L_pick BL C_L_draw, m_L_pick, k_L_pick, b_L_pick⟩
  have C_L_great : Cal l.prog w K mg base "_law_great" 2 ["_law_source_here", "_law_digits"] spGreat f_L_great _ := ⟨ok_great F_L_great BL C_L_draw, m_L_great, k_L_great, b_L_great⟩
  have C_L_small_side : Cal l.prog w K mg base "_law_small_side" 3 ["_law_source_here", "_law_most"] spSmall f_L_small_side _ := ⟨ok_small F_L_small_side C_L_draw C_L_pick, m_L_small_side, k_L_small_side, b_L_small_side⟩
  have C_L_figure : Cal l.prog w K mg base "_law_figure" 1 ["_law_side", "_law_value"] spFig f_L_figure _ := ⟨ok_L_figure F_L_figure BL, m_L_figure, k_L_figure, b_L_figure⟩
  have C_L_handed : Cal l.prog w K mg base "_law_handed" 2 ["_law_side", "_law_value"] spDue f_L_handed _ := ⟨ok_L_handed F_L_handed C_L_figure, m_L_handed, k_L_handed, b_L_handed⟩
  have C_L_divisor : Cal l.prog w K mg base "_law_divisor" 1 ["_law_one", "_law_other"] spDiv f_L_divisor _ := ⟨ok_div F_L_divisor BL, m_L_divisor, k_L_divisor, b_L_divisor⟩
  have C_L_period : Cal l.prog w K mg base "_law_period" 2 ["_law_sides"] spPer f_L_period _ := ⟨ok_period F_L_period BL C_L_divisor, m_L_period, k_L_period, b_L_period⟩
  have C_L_set : Cal l.prog w K mg base "_law_set" 4 ["_law_source_here", "_law_most", "_law_many"] spSet f_L_set _ := ⟨ok_set F_L_set BL C_L_draw C_L_small_side, m_L_set, k_L_set, b_L_set⟩
  have C_L_written : Cal l.prog w K mg base "_law_written" 3 ["_law_sides", "_law_value"] spWrL f_L_written _ := ⟨ok_wrl F_L_written C_L_handed, m_L_written, k_L_written, b_L_written⟩
  have C_L_all : Cal l.prog w K mg base "_law_all" 4 ["_law_sides", "_law_value"] spAll f_L_all _ := ⟨ok_all F_L_all BL RG C_L_written, m_L_all, k_L_all, b_L_all⟩
  have C_L_word : Cal l.prog w K mg base "_law_word" 9 ["_law_kind", "_law_sides", "_law_value"] (spWord60 K) f_L_word _ := ⟨ok_L_word F_L_word R X_outcomes X_rests, m_L_word, k_L_word, b_L_word⟩
  have C_L_routes_fit : Cal l.prog w K mg base "_law_routes_fit" 7 ["_law_sides", "_law_value", "_law_due"] spRF f_L_routes_fit _ := ⟨ok_rf F_L_routes_fit BL C_route, m_L_routes_fit, k_L_routes_fit, b_L_routes_fit⟩
  have C_L_fits : Cal l.prog w K mg base "_law_fits" 109 ["_law_sides", "_law_value", "_law_factor"] spFits f_L_fits _ := ⟨ok_fits F_L_fits BL n_list C_L_all C_L_period C_L_routes_fit C_L_word C_reach C_outcomes, m_L_fits, k_L_fits, b_L_fits⟩
  exact ok_law F_law BL TC C_L_source C_L_draw C_L_pick C_L_great C_L_set C_L_fits C_L_word
theorem walk {l : PySem.W.OpenLaw} {q : Program} {loose : List Str} {XP : (Str → Option Value) → Heap → Prop} {YP : World → Heap → Prop} {d : DefRec} {K : Params → PySem.W.Frag} (hn : l.most = some 63) (hdf : d.params.defaults = [])
    (hY : ∀ (w : World) (h : Heap), YP w h → (K w.params).In h)
    (F : ∀ (w : World) (mg : Str → Option Value) (fa : Addr) (h : Heap), (K w.params).In h → h.Ns mainGlobals mg → mg d.name = some (.ref fa) →
      ∃ fd : FuncData, (∀ (s : Shared) (u : Value), BindsTo s fd ⟨[u], []⟩ [("_law_script", u)]) ∧ ∀ base : Heap, (K w.params).In base → base.Ns mainGlobals mg → FnOk l.prog w (K w.params) mg base CX0 110 fa fd ["_law_script"] (spLaw (K w.params))) :
    PySem.W.WalkO q loose XP YP l.row.toRowW d [] (fun f vs => PySem.call f vs) :=
  L2.walk_of (n := 63) (k := 110) (x := "_law_script") (CX := fun _ => CX0) (sp := fun w => spLaw (K w.params)) hn (by decide) hdf ⟨rfl, by decide, by decide⟩ hY F (fun _ _ a ns hl _ hS => ⟨a, ns, rfl, hS, hl, fun _ => rfl⟩) fun _ _ _ _ _ z => z
end HT
open PySem PySem.W PyProof.Rows
set_option maxRecDepth 100000 in
set_option maxHeartbeats 0 in
theorem PySem.Challenge.cw_handedtext_k60_whole_outcomes_holds : PySem.Challenge.rw_handedtext_k60_whole_outcomes.Holds := by
  w_on; o_law; k_head; (case hw => w_witness2)
  k_fill
  refine HT.walk (l := PySem.Challenge.rw_handedtext_k60_whole_outcomes) rfl rfl (fun w h Y => PySem.W.kIn_of Y) ?F
  case F =>
    intro w mg fa h KX G hmg
    refine' HT.all_mk KX G hmg ?a_is_int ?l_is_int ?c_is_int ?k_is_int ?a_is_int_between ?l_is_int_between ?c_is_int_between ?k_is_int_between ?a_check_value ?l_check_value ?c_check_value ?k_check_value ?a_check_side ?l_check_side ?c_check_side ?k_check_side ?a_is_side ?l_is_side ?c_is_side ?k_is_side ?a_figure ?l_figure ?c_figure ?k_figure ?a_goes_up ?l_goes_up ?c_goes_up ?k_goes_up ?a_written ?l_written ?c_written ?k_written ?a_span ?l_span ?c_span ?k_span ?a_uspan ?l_uspan ?c_uspan ?k_uspan ?a_below ?l_below ?c_below ?k_below ?a_threshold ?l_threshold ?c_threshold ?k_threshold ?a_mirror ?l_mirror ?c_mirror ?k_mirror ?a_form ?l_form ?c_form ?k_form ?a_first_mode ?l_first_mode ?c_first_mode ?k_first_mode ?a_check_sides ?l_check_sides ?c_check_sides ?k_check_sides ?a_period_of ?l_period_of ?c_period_of ?k_period_of ?a_moved ?l_moved ?c_moved ?k_moved ?a_common_period ?l_common_period ?c_common_period ?k_common_period ?a_raisers ?l_raisers ?c_raisers ?k_raisers ?a_raises_some ?l_raises_some ?c_raises_some ?k_raises_some ?a_highest ?l_highest ?c_highest ?k_highest ?a_mirrors ?l_mirrors ?c_mirrors ?k_mirrors ?a_outcomes ?l_outcomes ?c_outcomes ?k_outcomes ?a_rests ?l_rests ?c_rests ?k_rests ?a_rest_of ?l_rest_of ?c_rest_of ?k_rest_of ?a_first_hit ?l_first_hit ?c_first_hit ?k_first_hit ?a_first_between ?l_first_between ?c_first_between ?k_first_between ?a_unraised ?l_unraised ?c_unraised ?k_unraised ?a_first_in_block ?l_first_in_block ?c_first_in_block ?k_first_in_block ?a_first_in_both ?l_first_in_both ?c_first_in_both ?k_first_in_both ?a_reach ?l_reach ?c_reach ?k_reach ?a_check_few ?l_check_few ?c_check_few ?k_check_few ?a_first_unraised ?l_first_unraised ?c_first_unraised ?k_first_unraised ?a_first_unraised_by_two ?l_first_unraised_by_two ?c_first_unraised_by_two ?k_first_unraised_by_two ?a_route ?l_route ?c_route ?k_route ?a_fewest ?l_fewest ?c_fewest ?k_fewest ?a_runs ?l_runs ?c_runs ?k_runs ?a_widened ?l_widened ?c_widened ?k_widened ?a_ends ?l_ends ?c_ends ?k_ends ?a_within ?l_within ?c_within ?k_within ?a_holds ?l_holds ?c_holds ?k_holds ?a_way ?l_way ?c_way ?k_way ?a_L_source ?l_L_source ?c_L_source ?k_L_source ?a_L_draw ?l_L_draw ?c_L_draw ?k_L_draw ?a_L_pick ?l_L_pick ?c_L_pick ?k_L_pick ?a_L_great ?l_L_great ?c_L_great ?k_L_great ?a_L_small_side ?l_L_small_side ?c_L_small_side ?k_L_small_side ?a_L_figure ?l_L_figure ?c_L_figure ?k_L_figure ?a_L_handed ?l_L_handed ?c_L_handed ?k_L_handed ?a_L_divisor ?l_L_divisor ?c_L_divisor ?k_L_divisor ?a_L_period ?l_L_period ?c_L_period ?k_L_period ?a_L_set ?l_L_set ?c_L_set ?k_L_set ?a_L_written ?l_L_written ?c_L_written ?k_L_written ?a_L_all ?l_L_all ?c_L_all ?k_L_all ?a_L_word ?l_L_word ?c_L_word ?k_L_word ?a_L_routes_fit ?l_L_routes_fit ?c_L_routes_fit ?k_L_routes_fit ?a_L_fits ?l_L_fits ?c_L_fits ?k_L_fits ?a_law ?l_law ?c_law ?k_law ?z_len ?z_abs ?z_int ?z_range ?z_isinstance ?z_bool ?z_tuple ?z_divmod ?z_max ?z_min ?z_list ?z_sorted ?z_enumerate ?z_set ?z_dict ?z_ValueError ?g_0 ?g_1 ?g_2 ?g_3 ?g_B ?et_0 ?et_1 ?et_2 ?et_3 ?em_0 ?gsp ?gtk ?a_MS ?a_MP ?a_MH ?a_MO ?em_2 ?a_lcm ?l_U ?v_U ?a_MODES ?l_MODES ?v_MODES ?a_MIR ?l_MIR ?h_MIR ?d_down ?r_down ?d_up ?r_up ?d_half_down ?r_half_down ?d_half_up ?r_half_up ?d_half_even ?r_half_even
    (case a_is_int => k_is)
    (case l_is_int => k_is)
    (case c_is_int => k_is)
    (case k_is_int => k_is)
    (case a_is_int_between => k_is)
    (case l_is_int_between => k_is)
    (case c_is_int_between => k_is)
    (case k_is_int_between => k_is)
    (case a_check_value => k_is)
    (case l_check_value => k_is)
    (case c_check_value => k_is)
    (case k_check_value => k_is)
    (case a_check_side => k_is)
    (case l_check_side => k_is)
    (case c_check_side => k_is)
    (case k_check_side => k_is)
    (case a_is_side => k_is)
    (case l_is_side => k_is)
    (case c_is_side => k_is)
    (case k_is_side => k_is)
    (case a_figure => k_is)
    (case l_figure => k_is)
    (case c_figure => k_is)
    (case k_figure => k_is)
    (case a_goes_up => k_is)
    (case l_goes_up => k_is)
    (case c_goes_up => k_is)
    (case k_goes_up => k_is)
    (case a_written => k_is)
    (case l_written => k_is)
    (case c_written => k_is)
    (case k_written => k_is)
    (case a_span => k_is)
    (case l_span => k_is)
    (case c_span => k_is)
    (case k_span => k_is)
    (case a_uspan => k_is)
    (case l_uspan => k_is)
    (case c_uspan => k_is)
    (case k_uspan => k_is)
    (case a_below => k_is)
    (case l_below => k_is)
    (case c_below => k_is)
    (case k_below => k_is)
    (case a_threshold => k_is)
    (case l_threshold => k_is)
    (case c_threshold => k_is)
    (case k_threshold => k_is)
    (case a_mirror => k_is)
    (case l_mirror => k_is)
    (case c_mirror => k_is)
    (case k_mirror => k_is)
    (case a_form => k_is)
    (case l_form => k_is)
    (case c_form => k_is)
    (case k_form => k_is)
    (case a_first_mode => k_is)
    (case l_first_mode => k_is)
    (case c_first_mode => k_is)
    (case k_first_mode => k_is)
    (case a_check_sides => k_is)
    (case l_check_sides => k_is)
    (case c_check_sides => k_is)
    (case k_check_sides => k_is)
    (case a_period_of => k_is)
    (case l_period_of => k_is)
    (case c_period_of => k_is)
    (case k_period_of => k_is)
    (case a_moved => k_is)
    (case l_moved => k_is)
    (case c_moved => k_is)
    (case k_moved => k_is)
    (case a_common_period => k_is)
    (case l_common_period => k_is)
    (case c_common_period => k_is)
    (case k_common_period => k_is)
    (case a_raisers => k_is)
    (case l_raisers => k_is)
    (case c_raisers => k_is)
    (case k_raisers => k_is)
    (case a_raises_some => k_is)
    (case l_raises_some => k_is)
    (case c_raises_some => k_is)
    (case k_raises_some => k_is)
    (case a_highest => k_is)
    (case l_highest => k_is)
    (case c_highest => k_is)
    (case k_highest => k_is)
    (case a_mirrors => k_is)
    (case l_mirrors => k_is)
    (case c_mirrors => k_is)
    (case k_mirrors => k_is)
    (case a_outcomes => k_is)
    (case l_outcomes => k_is)
    (case c_outcomes => k_is)
    (case k_outcomes => k_is)
    (case a_rests => k_is)
    (case l_rests => k_is)
    (case c_rests => k_is)
    (case k_rests => k_is)
    (case a_rest_of => k_is)
    (case l_rest_of => k_is)
    (case c_rest_of => k_is)
    (case k_rest_of => k_is)
    (case a_first_hit => k_is)
    (case l_first_hit => k_is)
    (case c_first_hit => k_is)
    (case k_first_hit => k_is)
    (case a_first_between => k_is)
    (case l_first_between => k_is)
    (case c_first_between => k_is)
    (case k_first_between => k_is)
    (case a_unraised => k_is)
    (case l_unraised => k_is)
    (case c_unraised => k_is)
    (case k_unraised => k_is)
    (case a_first_in_block => k_is)
    (case l_first_in_block => k_is)
    (case c_first_in_block => k_is)
    (case k_first_in_block => k_is)
    (case a_first_in_both => k_is)
    (case l_first_in_both => k_is)
    (case c_first_in_both => k_is)
    (case k_first_in_both => k_is)
    (case a_reach => k_is)
    (case l_reach => k_is)
    (case c_reach => k_is)
    (case k_reach => k_is)
    (case a_check_few => k_is)
    (case l_check_few => k_is)
    (case c_check_few => k_is)
    (case k_check_few => k_is)
    (case a_first_unraised => k_is)
    (case l_first_unraised => k_is)
    (case c_first_unraised => k_is)
    (case k_first_unraised => k_is)
    (case a_first_unraised_by_two => k_is)
    (case l_first_unraised_by_two => k_is)
    (case c_first_unraised_by_two => k_is)
    (case k_first_unraised_by_two => k_is)
    (case a_route => k_is)
    (case l_route => k_is)
    (case c_route => k_is)
    (case k_route => k_is)
    (case a_fewest => k_is)
    (case l_fewest => k_is)
    (case c_fewest => k_is)
    (case k_fewest => k_is)
    (case a_runs => k_is)
    (case l_runs => k_is)
    (case c_runs => k_is)
    (case k_runs => k_is)
    (case a_widened => k_is)
    (case l_widened => k_is)
    (case c_widened => k_is)
    (case k_widened => k_is)
    (case a_ends => k_is)
    (case l_ends => k_is)
    (case c_ends => k_is)
    (case k_ends => k_is)
    (case a_within => k_is)
    (case l_within => k_is)
    (case c_within => k_is)
    (case k_within => k_is)
    (case a_holds => k_is)
    (case l_holds => k_is)
    (case c_holds => k_is)
    (case k_holds => k_is)
    (case a_way => k_is)
    (case l_way => k_is)
    (case c_way => k_is)
    (case k_way => k_is)
    (case a_L_source => k_is)
    (case l_L_source => k_is)
    (case c_L_source => k_is)
    (case k_L_source => k_is)
    (case a_L_draw => k_is)
    (case l_L_draw => k_is)
    (case c_L_draw => k_is)
    (case k_L_draw => k_is)
    (case a_L_pick => k_is)
    (case l_L_pick => k_is)
    (case c_L_pick => k_is)
    (case k_L_pick => k_is)
    (case a_L_great => k_is)
    (case l_L_great => k_is)
    (case c_L_great => k_is)
    (case k_L_great => k_is)
    (case a_L_small_side => k_is)
    (case l_L_small_side => k_is)
    (case c_L_small_side => k_is)
    (case k_L_small_side => k_is)
    (case a_L_figure => k_is)
    (case l_L_figure => k_is)
    (case c_L_figure => k_is)
    (case k_L_figure => k_is)
    (case a_L_handed => k_is)
    (case l_L_handed => k_is)
    (case c_L_handed => k_is)
    (case k_L_handed => k_is)
    (case a_L_divisor => k_is)
    (case l_L_divisor => k_is)
    (case c_L_divisor => k_is)
    (case k_L_divisor => k_is)
    (case a_L_period => k_is)
    (case l_L_period => k_is)
    (case c_L_period => k_is)
    (case k_L_period => k_is)
    (case a_L_set => k_is)
    (case l_L_set => k_is)
    (case c_L_set => k_is)
    (case k_L_set => k_is)
    (case a_L_written => k_is)
    (case l_L_written => k_is)
    (case c_L_written => k_is)
    (case k_L_written => k_is)
    (case a_L_all => k_is)
    (case l_L_all => k_is)
    (case c_L_all => k_is)
    (case k_L_all => k_is)
    (case a_L_word => k_is)
    (case l_L_word => k_is)
    (case c_L_word => k_is)
    (case k_L_word => k_is)
    (case a_L_routes_fit => k_is)
    (case l_L_routes_fit => k_is)
    (case c_L_routes_fit => k_is)
    (case k_L_routes_fit => k_is)
    (case a_L_fits => k_is)
    (case l_L_fits => k_is)
    (case c_L_fits => k_is)
    (case k_L_fits => k_is)
    (case a_law => k_is)
    (case l_law => k_is)
    (case c_law => k_is)
    (case k_law => k_is)
    (case z_len => k_is)
    (case z_abs => k_is)
    (case z_int => k_is)
    (case z_range => k_is)
    (case z_isinstance => k_is)
    (case z_bool => k_is)
    (case z_tuple => k_is)
    (case z_divmod => k_is)
    (case z_max => k_is)
    (case z_min => k_is)
    (case z_list => k_is)
    (case z_sorted => k_is)
    (case z_enumerate => k_is)
    (case z_set => k_is)
    (case z_dict => k_is)
    (case z_ValueError => k_is)
    (case g_0 => k_is)
    (case g_1 => k_is)
    (case g_2 => k_is)
    (case g_3 => k_is)
    (case g_B => k_is)
    (case et_0 => kernel_rfl)
    (case et_1 => kernel_rfl)
    (case et_2 => kernel_rfl)
    (case et_3 => kernel_rfl)
    (case em_0 => kernel_rfl)
    (case gsp => k_is)
    (case gtk => k_is)
    (case a_MS => k_is)
    (case a_MP => k_is)
    (case a_MH => k_is)
    (case a_MO => k_is)
    (case em_2 => kernel_rfl)
    (case a_lcm => k_is)
    (case l_U => k_is)
    (case v_U => exact .cons ⟨_, rfl⟩ .nil)
    (case a_MODES => k_is)
    (case l_MODES => k_is)
    (case v_MODES => exact ⟨by decide, .cons ⟨_, rfl⟩ (.cons ⟨_, rfl⟩ (.cons ⟨_, rfl⟩ (.cons ⟨_, rfl⟩ (.cons ⟨_, rfl⟩ .nil))))⟩)
    (case a_MIR => k_is)
    (case l_MIR => k_is)
    (case h_MIR => k_keys)
    (case d_down => k_is)
    (case r_down => exact ⟨_, rfl⟩)
    (case d_up => k_is)
    (case r_up => exact ⟨_, rfl⟩)
    (case d_half_down => k_is)
    (case r_half_down => exact ⟨_, rfl⟩)
    (case d_half_up => k_is)
    (case r_half_up => exact ⟨_, rfl⟩)
    (case d_half_even => k_is)
    (case r_half_even => exact ⟨_, rfl⟩)
#print axioms PySem.Challenge.cw_handedtext_k60_whole_outcomes_holds
