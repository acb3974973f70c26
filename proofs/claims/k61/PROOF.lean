import PyProof.Rows.All
import Wide.All
import OpenK.AllK
import Wide.FinOn
import HandS.CallSlots
import HandS.Deep
import HandS.Defaults
import HandS.Exc
import HandS.ExcField
import HandS.ExcInit
import HandS.ExcIs
import HandS.ExcValue
import HandS.ForMost
import HandS.HotCalls
import HandS.IsInst
import HandS.MakeKwOnly
import HandS.More
import HandS.NoneIn
import HandS.RaiseFrom
import HandS.ReplaceLit
import HandS.StrMore
import HandS.Style
import HandS.SuiteRaise
import HandS.TryOnly
import HandS.Wide
import HandS.WideBits
import HandS.WordsExc
import KE.KEqDeep
import KE.KEqSeq
import KE.KExcIs
import HandS.Gcd
import HandS.SortInts
import HandS.SortKw
import KE.DataMinMax
import KE.SortData
import HandS.SetFor
import HandS.Strs
import PySem.Challenge.RW_handedtext_k61_whole_resting_sets
set_option Elab.async false
set_option linter.all false
set_option maxRecDepth 100000
set_option maxHeartbeats 4000000
set_option exponentiation.threshold 9000
open PySem L2
local macro_rules | `(tactic| walk_at "rd") => `(tactic| repeat (first | refine ⟨_, rfl, ?_⟩ | refine ⟨_, _, rfl, rfl, ?_⟩ | refine .inl ⟨_, rfl, ?_⟩))
namespace L2
open PySem PySem.Spec PyProof.Rows
/-- an error that was caught and kept, at a -/
def ExK (cls : Value) (a : Addr) : HO := .ext fun hp => ∃ (rec' : Obj) (cells : Array Value), hp.get? a = some rec' ∧ Zc cls none rec' ∧ rec'.data = .fields cells
/-- wKeep: what 'except x as n' wishes, where the error stays tracked behind the suite -/
def wKeep (K : PySem.W.Frag) (c : Value) (i : Nat) (ts : Addr → Value → Option Addr → TS) (Wout : WX) (D : Ends) : WX := fun kl dd st H =>
  ∃ yes, PySem.W.exmOne K kl c = some yes ∧ (yes = true → dd = none ∧ ∀ a, H a = none → ts a kl dd { nx := fun st' H' => D.nx (st'.set i none) (upd H' a (ExK kl a)), rt := D.rt, bk := fun st' H' => D.bk (st'.set i none) H', ct := fun st' H' => D.ct (st'.set i none) H' } (st.set i (some (.ref a))) H) ∧
    (yes = false → Wout kl dd st H)
section
variable {X : Cx} {pins : List (Addr × Obj)} {st : St} {H : Hp} {sh : Shared}
theorem Inv.adopt {a : Addr} {kl : Value} {rc : Obj} {cells : Array Value} (iv : Inv X pins st H sh) (new0 : X.s_0.heap.get? a = none) (free : H a = none) (at0 : sh.heap.get? a = some rc) (zc : Zc kl none rc) (fl : rc.data = .fields cells) (nl : a ≠ X.env.locals)
    (np : ∀ p ∈ X.pn ++ pins, p.1 ≠ a) : Inv X pins st (upd H a (ExK kl a)) sh := by
  have old : ∀ c rr, X.s_0.heap.get? c = some rr → c ≠ a := fun c rr e z => by
    rw [z, new0] at e
    cases e
  have other : ∀ c u, H c = some u → upd H a (ExK kl a) c = some u := fun c u e => (upd_ne (ne_of_none e free)).trans e
  refine ⟨iv.ok, iv.os, iv.bare, ⟨iv.base.keep, iv.base.slot, fun c rr e n0 nx => ?_, iv.base.there, fun c xs e => other _ _ (iv.base.tups c xs e), fun c rr u e => other _ _ (iv.base.frzs c rr u e), fun c ps e => ?_⟩, iv.loc, iv.cell, ?_, fun y c e => ?_, fun p hp => ?_, fun c u e => ?_, iv.len⟩
  · exact (upd_ne (old c rr e)).trans (iv.base.free c rr e n0 nx)
  · obtain ⟨more, e2⟩ := iv.base.tbls c ps e
    exact ⟨more, other _ _ e2⟩
  · exact (upd_ne nl.symm).trans iv.free
  · obtain ⟨w, rr, e2, e3⟩ := iv.cell y c e
    refine (upd_ne fun z => ?_).trans (iv.freeC y c e)
    subst z
    rw [at0] at e2
    cases e2
    simp [fl] at e3
  · obtain ⟨e1, e2, e3, e4, e5⟩ := iv.pin p hp
    exact ⟨e1, (upd_ne (np p hp)).trans e2, e3, e4, e5⟩
  · by_cases ca : c = a
    · subst ca
      rw [upd_same] at e
      cases e
      exact ⟨⟨rc, cells, at0, zc, fl⟩, ⟨rc, at0⟩, fun _ _ ⟨r2, c2, e2, e3⟩ same => ⟨r2, c2, same _ e2, e3⟩⟩
    · rw [upd_ne ca] at e
      exact (iv.hok c u e).stay (fun _ _ _ e2 => e2) (fun c2 e2 => other _ _ e2) fun c2 xs e2 => other _ _ e2
end
end L2
namespace L2
open PySem PySem.Spec PyProof.Rows
section
variable {X : Cx} {x n : Str} {c : Value} {i : Nat} {body suite : List Stmt} {first : Stmt} {np pos pos' : Pos} {tb : WX → TS} {ts : Addr → Value → Option Addr → TS} {Wout : WX}
/-- try: .. except x as n: suite; the caught error stays tracked behind it -/
theorem ps_try_keep (stk : X.stack = X.env :: X.outer) (frm : X.env.frame = some X.env.locals) (noex : X.ex = []) (dist : X.N.Nodup) (slot : X.N[i]? = some n) (loc : X.env.kindOf n = some .local) (nam : Names X x c) (tk : Takes X Wout)
    (inner : ∀ (W : WX) (pn : List (Addr × Obj)) (xe : Value → Shared → Prop), Takes (X.tr pn xe) W → PassesOwn (model X.prog X.w) X.A X.env xe → PSs (X.tr pn xe) body (tb W))
    (caught : ∀ (a : Addr) (rc : Obj) (kl : Value) (dd : Option Addr) (pn : List (Addr × Obj)), Zc kl dd rc → (∃ cells, rc.data = .fields cells) → PSs (X.suite a ((a, rc) :: pn)) (first :: suite) (ts a kl dd)) :
    PS X (.Try body [.ExceptHandler (some (.Name x np)) (some n) (first :: suite) pos'] [] [] pos) (fun D st H => tb (wKeep X.K c i ts Wout D) D st H) where
  run := fun pins sh st H D iv want => by
    have fine := iv.ok
    have frames : X.A.frames = some (X.env :: X.outer) := by rw [fine.frames, stk]
    refine wpAny_Try_except (wpAny_mono ((inner (wKeep X.K c i ts Wout D) (X.pn ++ pins) _ (fun u sh' air => ?_) PassesOwn.looking).run [] sh st H D (iv.toTry _) want) ?_ fun _ _ e => e)
    · obtain ⟨a, B, shI, pins', st1, H1, kl, dd, rfl, ivT, inB, upTo, sky, freeA, sameOs, bareG, yes, dec, onYes, onNo⟩ := air
      have iv1 : Inv X pins st1 H1 shI := ivT.ofTry fine
      rw [stk] at sky
      refine Sky.land Zc.steady frames frm sky fun hp3 fly3 up3 => ?_
      have bNone : B.get? a = none := fly3.2.1
      have iv3 : Inv X pins st1 H1 { sh' with heap := hp3 } := iv1.landed inB fly3.1 (upTo.trans up3) sameOs bareG
      obtain ⟨rc3, cells3, at3, zc3, dt3⟩ := fly3.there
      have offFrames : a ∉ frs (X.env :: X.outer) := fun mem => by
        obtain ⟨_, r2, e2, bad⟩ := fly3.2.2.1.mem mem
        rw [at3] at e2
        cases e2
        exact bad _ dt3
      have offL : a ≠ X.env.locals := fun z => offFrames (List.mem_filterMap.mpr ⟨X.env, List.mem_cons_self, by rw [frm, z]⟩)
      have offF : a ∉ X.fs := fun mem => by
        obtain ⟨ee, inn, ef⟩ := List.mem_filterMap.mp mem
        exact offFrames (List.mem_filterMap.mpr ⟨ee, List.mem_cons_of_mem _ inn, ef⟩)
      have notThere : shI.heap.get? a = none := by
        cases e : shI.heap.get? a with
        | none => rfl
        | some rr =>
          have z := inB a rr e (by rw [stk]; exact offFrames)
          rw [bNone] at z
          cases z
      have new0 : X.s_0.heap.get? a = none := by
        cases e : X.s_0.heap.get? a with
        | none => rfl
        | some rr =>
          obtain ⟨r2, e2⟩ := iv1.base.there a rr e (by rw [noex]; exact List.not_mem_nil)
          rw [notThere] at e2
          cases e2
      have pinsOff : ∀ p ∈ X.pn ++ pins, p.1 ≠ a := fun p hp z => by
        have e2 := (iv1.pin p hp).1
        rw [z, notThere] at e2
        cases e2
      have inSuite := iv3.suite at3 dt3 freeA offL offF
      refine wpAny_handleBy_cons (codeAny_handlers_test ?_) (by intro q; cases q)
      have theClass : PySem.W.Looks (model X.prog X.w) hp3 (typeOf (.ref a)) kl := fun A' Q' E' s' kk qq => wpAny_typeOf_ref (kk _ _ at3) (by rw [zc3.1]; exact qq)
      have theTest := PySem.W.exm_one (M := model X.prog X.w) iv3.kIn theClass dec
      have clause : ∀ {Q' : Value → Shared → Prop} {E' : Value → Shared → Prop}, Q' c { sh' with heap := hp3 } → wpAny (model X.prog X.w) (X.A.mark (some (.ref a))) (eval (.Name x np) X.env) Q' E' { sh' with heap := hp3 } := fun {Q' E'} qq => by
        obtain ⟨g1, g2, g3 | ⟨g3, g4, g5⟩⟩ := nam
        · exact ld_glob (X := X.suite a ((a, rc3) :: (X.pn ++ pins))) inSuite g1 g3 qq g2
        · exact ld_blt (X := X.suite a ((a, rc3) :: (X.pn ++ pins))) inSuite g1 g3 g4 qq g5 g2
      refine clause (theTest.here ?_)
      cases yes with
      | true =>
        obtain ⟨rfl, go⟩ := onYes rfl
        refine codeAny_handlers_suite_as (HandSPX.lands_againZ fly3 fun hp4 fly4 up4 => ?_)
        have iv4 : Inv X pins st1 H1 { sh' with heap := hp4 } := iv1.landed inB fly4.1 ((upTo.trans up3).trans up4) sameOs bareG
        obtain ⟨rc4, cells4, at4, zc4, dt4⟩ := fly4.there
        refine store_ok (X := X.suite a ((a, rc4) :: (X.pn ++ pins))) (v := .ref a) (iv4.suite at4 dt4 freeA offL offF) dist slot (.inl loc) rfl (fun sh5 iv5 => ?_) (.inr loc)
        refine wpAny_mono ((caught a rc4 kl none (X.pn ++ pins) zc4 ⟨_, dt4⟩).run [] sh5 _ H1 _ iv5 (go a freeA)) (fun flow sh6 came => ?_) fun _ _ z => z.elim
        cases flow with
        | next =>
          obtain ⟨st6, H6, iv6, q6⟩ := came
          have more : Inv X ((a, rc4) :: pins) st6 H6 sh6 := ⟨fine, iv6.os, iv6.bare, iv6.base, iv6.loc, iv6.cell, iv6.free, iv6.freeC, fun p hp => iv6.pin p (List.mem_append_left _ ?_), iv6.hok, iv6.len⟩
          refine gone_ok more dist slot loc fun sh7 iv7 => ?_
          have there : (a, rc4) ∈ X.pn ++ (a, rc4) :: pins := List.mem_append_right _ List.mem_cons_self
          obtain ⟨e1, e2, e3, _⟩ := iv7.pin (a, rc4) there
          have less : Inv X pins (st6.set i none) H6 sh7 := ⟨fine, iv7.os, iv7.bare, iv7.base, iv7.loc, iv7.cell, iv7.free, iv7.freeC, fun p hp => iv7.pin p ?_, iv7.hok, iv7.len⟩
          · exact ⟨_, _, less.adopt new0 e2 e1 zc4 dt4 e3 pinsOff, q6⟩
          · rcases List.mem_append.mp hp with hq | hq
            · exact List.mem_append_left _ hq
            · exact List.mem_append_right _ (List.mem_cons_of_mem _ hq)
          · rcases List.mem_append.mp hp with hq | hq
            · exact List.mem_cons_of_mem _ (List.mem_append_left _ hq)
            · rcases List.mem_cons.mp hq with hr | hr
              · rw [hr]; exact List.mem_cons_self
              · exact List.mem_cons_of_mem _ (List.mem_append_right _ hr)
        | brk =>
          obtain ⟨st6, H6, iv6, q6⟩ := came
          exact gone_ok (iv6.unsuite fine) dist slot loc fun sh7 iv7 => ⟨_, _, iv7, q6⟩
        | cont =>
          obtain ⟨st6, H6, iv6, q6⟩ := came
          exact gone_ok (iv6.unsuite fine) dist slot loc fun sh7 iv7 => ⟨_, _, iv7, q6⟩
        | ret u =>
          obtain ⟨v6, st6, H6, iv6, r6, q6⟩ := came
          exact gone_ok (iv6.unsuite fine) dist slot loc fun sh7 iv7 => ⟨_, _, _, iv7, r6, q6⟩
      | false =>
        show wpAny _ X.A (handleBy (.ref a) X.env []) _ _ _
        refine wpAny_handleBy_nil ?_
        obtain ⟨_, _, _, rc5, cells5, tr5, _, _, at5, _, dt5, at1, _⟩ := id fly3
        unfold PySem.passOn
        refine wpAny_bind (wpAny_field at5 dt5 at1 ?_)
        rw [if_neg (by simp : ¬ (Value.ref tr5 == Value.none) = true)]
        have out : wpAny (model X.prog X.w) X.A (setFlight (.ref a) X.env.frame) (fun _ sh8 => wpAny (model X.prog X.w) X.A (throw (.ref a) : Sem Flow) (SP X pins D) X.xe sh8) X.xe { sh' with heap := hp3 } := by
          rw [frm]
          refine HandSPX.setFlight_upZ fly3 fun hp8 held up8 => wpAny_throw (tk _ _ ?_)
          exact ⟨a, B, shI, pins, st1, H1, kl, dd, rfl, iv1, inB, (upTo.trans up3).trans up8, .inr (.inr (by rw [stk]; exact held)), freeA, sameOs, bareG, onNo rfl⟩
        first
          | exact wpAny_bind out
          | exact wpAny_bind (wpAny_pure (wpAny_bind out))
    · intro flow sh1 came
      cases flow with
      | next =>
        obtain ⟨st1, H1, iv1, q1⟩ := came
        exact wpAny_execs_nil ⟨st1, H1, iv1.ofTry fine, q1⟩
      | brk =>
        obtain ⟨st1, H1, iv1, q1⟩ := came
        exact ⟨st1, H1, iv1.ofTry fine, q1⟩
      | cont =>
        obtain ⟨st1, H1, iv1, q1⟩ := came
        exact ⟨st1, H1, iv1.ofTry fine, q1⟩
      | ret u =>
        obtain ⟨v1, st1, H1, iv1, r1, q1⟩ := came
        exact ⟨v1, st1, H1, iv1.ofTry fine, r1, q1⟩
end
end L2
namespace L2
open PySem PySem.Spec PyProof.Rows
/-- what the written part says of an error class, for isinstance -/
structure ErrC (K : PySem.W.Frag) (C : Addr) : Prop where
  cl : (PySem.W.clsIn K C).isSome = true
  ga : PySem.W.findIn K (.ref C) "__getattribute__" = some (some (.builtin "BaseException.__getattribute__"))
  gg : PySem.W.findIn K (.ref C) "__getattr__" = some none
  sb : PySem.W.subIn K (.ref C) (.type "BaseException") = some true
  cn : PySem.W.findIn K (.ref C) "__class__" = some (some (.builtin "object.__class__"))
  mo : PySem.W.mroIn K C (.type "object") = some true
/-- .. of the attribute __class__ of all objects -/
structure ErrG (K : PySem.W.Frag) : Prop where
  sp : PySem.W.specialIn K (.builtin "object.__class__") "__get__" = some (some (.builtin "getset_descriptor.__get__"))
  tk : PySem.W.takesIn K (.builtin "object.__class__") = some true
def rIsKept (K : PySem.W.Frag) : List V → Hp → VK → Prop := fun xs H Q => ∃ (a C : Addr) (c : V) (cv : Value) (b : Bool), xs = [.ref a, c] ∧ ClsV c cv ∧ H a = some (ExK (.ref C) a) ∧ ErrC K C ∧ ErrG K ∧ PySem.W.kitOne K (.ref C) cv = some b ∧ Q (.bl b) H
theorem call_isKept {X : Cx} : CallR X (.builtin "isinstance") (rIsKept X.K) := by
  intro pins sh st H xs us Q iv r h
  obtain ⟨a, C, c, cv, b, rfl, k, at', T, G, e, q⟩ := h
  obtain ⟨u1, u2, rfl, r1, r2⟩ := vals2 r
  have e2 := k.eq r2
  subst e2
  obtain rfl : u1 = Value.ref a := r1
  obtain ⟨⟨oe, vs, ho, hz, hd⟩, _, _⟩ := iv.hok a _ at'
  have J : PySem.W.InstAt sh.heap a oe C none := by
    obtain ⟨oc, od, oda, osl⟩ := oe
    obtain ⟨h1, h2⟩ := hz
    dsimp only at h1 h2 hd
    subst h1 h2 hd
    exact ⟨ho, rfl, rfl, trivial⟩
  exact PySem.W.kia_one (PySem.W.kitx_exc T.cl T.ga T.gg T.sb T.cn G.sp G.tk T.mo) iv.kIn J e (fun z => nomatch z) fun tk => ⟨.bl b, H, iv.tok tk, rfl, q⟩
end L2
namespace L2
open PySem PySem.Spec PyProof.Rows
/-- a def of which any kind of error may come -/
theorem Fun.okAny {CX' : CXT} {P : Program} {w : World} {K : PySem.W.Frag} {mg : Str → Option Value} {base : Heap} {nm qu : Str} {row : Stmt} {at0 : Addr} {fd : FuncData} {names pars : List Str} {lev : Nat} {want : Sp} (F : Fun K nm qu row at0 fd) (S : FnScope names pars (defScope row)) (len : ∀ vs H Q E, want vs H Q E → vs.length = pars.length)
    (body : ∀ (code : Value) (A : Around) (outer : List Env) (sh : Shared) (H : Hp) (vs : List V) (Q : VK) (E : XK), Room lev (A.deeper (envOfC qu (defScope row) sh.heap.objs.size at0 code)) → want vs H Q E →
      ∃ t, PSs (cxOf CX' P w K mg base names qu (defScope row) at0 code A outer sh H E) (defBody row) t ∧ t { nx := fun _ H' => Q .non H', rt := Q } (start names vs) H) : FnOk P w K mg base CX' (lev + 1) at0 fd pars want := by
  obtain ⟨_, _, _, _, _, _, code, _, _, rfl, there, isCode⟩ := F.ex
  exact fn_of there isCode S len (body code)
/-- X('..') of an own class, for a raise .. from None -/
theorem pmk5_own {X : Cx} {C : Addr} {bmB : List Value} {B newId initId : String} {x m : Str} {j : Nat} {p p2 pos : Pos} (F : ExcBaseFacts B newId initId bmB) (q : PySem.W.excIn X.K C bmB newId = true) (gC : X.mg x = some (.ref C)) (kC : PySem.W.keepIn X.K (.ref C) = true) (r : Raises X (.ref C)) (hg : Gl X x)
    (plain : (x == ("__debug__" : Str)) = false := by decide) : L2H.PMk5 X (.Call (.Name x p) [.Constant (.str m) j p2] [] pos) (fun _ H Q => Q (.ref C) none H) := by
  intro pins sh st H Q iv want
  have arg : PA X [.Constant (.str m) j p2] (tCons (tC (.str m)) tNil) := pa_cons pe_str pa_nil
  refine wpAny_Call_Name_kw (ld_glob iv hg gC (PySem.W.callWith_K (h₀ := X.base) iv.ok.mod.kin kC (thn (arg.run pos pins sh st H (fun vs H1 => vs = [V.str m] ∧ H = H1) iv ⟨rfl, rfl⟩) ?_)) plain)
  rintro us sh1 ⟨vs, H1, iv1, rel, rfl, rfl⟩
  refine ⟨iv1.kIn, ?_⟩
  match us, rel with
  | [u], .cons _ .nil =>
    show wpAny _ _ (call (.ref C) [u]) _ _ _
    obtain ⟨_, _, _, _, _, _, _, _, _, _, _, _, _, _, _, _, _, hC, hN, hni, T⟩ := exc_obj iv1.kIn q
    exact wpAny_call_exc_subT F T hC hN hni (fun h' e made => L2H.mk_of5 iv1 made r want (iv1.hok.gone made.new)) (by show 1 ≤ sizeLine; decide)
/-- try: .. except x: suite, the suite raising: ps_try_onlyX with its reading under a name, for a loop around it -/
def tTryX (K : PySem.W.Frag) (c : Value) (ts : Addr → Value → Option Addr → TS) (Wout : WX) (tb : WX → TS) : TS := fun D st H => tb (wOnly K c ts Wout D) D st H
theorem ps_tryX {X : Cx} {x : Str} {c : Value} {body suite : List Stmt} {first : Stmt} {np pos pos' : Pos} {tb : WX → TS} {ts : Addr → Value → Option Addr → TS} {Wout : WX} (h1 : X.stack = X.env :: X.outer) (h2 : X.env.frame = some X.env.locals) (h3 : Names X x c)
    (h4 : ∀ hd : Option Value, PassesOwnAt (model X.prog X.w) (X.A.mark hd) X.A X.env X.xe) (h5 : L2.Takes X Wout)
    (h6 : ∀ (W : WX) (pn : List (Addr × Obj)) (xe : Value → Shared → Prop), L2N.Takes (X.tr pn xe) W → L2.Takes (X.tr pn xe) (L2H.wPass X.K c Wout) → PassesOwn (model X.prog X.w) X.A X.env xe → PSs (X.tr pn xe) body (tb W))
    (h7 : ∀ (a : Addr) (oe : Obj) (cls : Value) (d : Option Addr) (pn : List (Addr × Obj)), L2N.Zn cls d oe → (∃ vs, oe.data = .fields vs) → L2.Takes (L2H.suiteX X a ((a, oe) :: pn)) Wout → L2H.HotC (L2H.suiteX X a ((a, oe) :: pn)) → PSs (L2H.suiteX X a ((a, oe) :: pn)) (first :: suite) (ts a cls d)) :
    PS X (.Try body [.ExceptHandler (some (.Name x np)) none (first :: suite) pos'] [] [] pos) (tTryX X.K c ts Wout tb) := L2H.ps_try_onlyX h1 h2 h3 h4 h5 h6 h7
end L2
namespace HT
open PySem L2
/-- a test whose ways are joined by a statement of the heap -/
def tMidT (t : TT) : TT := fun σ H Q => ∃ M : Bool → Hp → Prop, t σ H M ∧ ∀ b H', M b H' → Q b H'
def tMidE (t : TE) : TE := fun σ H Q => ∃ M : V → Hp → Prop, t σ H M ∧ ∀ v H', M v H' → Q v H'
def tMidS (t : TS) : TS := fun D σ H => ∃ M : St → Hp → Prop, t { D with nx := M } σ H ∧ ∀ σ' H', M σ' H' → D.nx σ' H'
theorem pt_mid {X : Cx} {e : Expr} {t : TT} (h : PT X e t) : PT X e (tMidT t) :=
  ⟨fun pins s σ H _ I ⟨M, a, b⟩ => thn (h.run pins s σ H M I a) fun c _ ⟨H1, I1, q1⟩ => ⟨H1, I1, b c H1 q1⟩⟩
theorem pe_mid {X : Cx} {e : Expr} {t : TE} (h : PE X e t) : PE X e (tMidE t) :=
  ⟨fun pins s σ H _ I ⟨M, a, b⟩ => thn (h.run pins s σ H M I a) fun _ _ ⟨v, H1, I1, r, q1⟩ => ⟨v, H1, I1, r, b v H1 q1⟩⟩
theorem ps_mid {X : Cx} {st : Stmt} {t : TS} (h : PS X st t) : PS X st (tMidS t) :=
  ⟨fun pins s σ H D I ⟨M, a, b⟩ => thn (h.run pins s σ H { D with nx := M } I a) fun f _ q => by
    cases f with
    | next => obtain ⟨σ', H', I', q⟩ := q; exact ⟨σ', H', I', b σ' H' q⟩
    | brk => exact q
    | cont => exact q
    | ret v => exact q⟩
end HT
namespace HT
open PySem L2
def top (i : Nat) : Stmt := PySem.Challenge.pw_handedtext_k61_whole_resting_sets.main.body.getD i (.Pass ⟨0, 0, 0, 0⟩)
abbrev s_is_int : Stmt := top 7
abbrev s_is_int_between : Stmt := top 8
abbrev s_check_value : Stmt := top 9
abbrev s_check_side : Stmt := top 12
abbrev s_is_side : Stmt := top 13
abbrev s_figure : Stmt := top 14
abbrev s_goes_up : Stmt := top 15
abbrev s_written : Stmt := top 16
abbrev s_check_sides : Stmt := top 19
abbrev s_outcomes : Stmt := top 22
abbrev s_rests : Stmt := top 23
abbrev s_rest_of : Stmt := top 24
abbrev s_L_source : Stmt := top 26
abbrev s_L_draw : Stmt := top 27
abbrev s_L_pick : Stmt := top 28
abbrev s_L_great : Stmt := top 29
abbrev s_L_small_side : Stmt := top 30
abbrev s_L_figure : Stmt := top 31
abbrev s_L_handed : Stmt := top 32
abbrev s_L_set : Stmt := top 33
abbrev s_L_written : Stmt := top 34
abbrev s_L_all : Stmt := top 35
abbrev s_L_due : Stmt := top 36
abbrev s_law : Stmt := top 37
/- is_int: 0:thing -/
theorem sc_is_int : FnScope ["thing"] ["thing"] (defScope s_is_int) := ⟨rfl, rfl, rfl, by decide +kernel, rfl, by decide +kernel, by decide +kernel⟩
/- is_int_between: 0:thing 1:least 2:most -/
theorem sc_is_int_between : FnScope ["thing", "least", "most"] ["thing", "least", "most"] (defScope s_is_int_between) := ⟨rfl, rfl, rfl, by decide +kernel, rfl, by decide +kernel, by decide +kernel⟩
/- check_value: 0:value -/
theorem sc_check_value : FnScope ["value"] ["value"] (defScope s_check_value) := ⟨rfl, rfl, rfl, by decide +kernel, rfl, by decide +kernel, by decide +kernel⟩
/- check_side: 0:side 1:offset 2:step 3:mode -/
theorem sc_check_side : FnScope ["side", "offset", "step", "mode"] ["side"] (defScope s_check_side) := ⟨rfl, rfl, rfl, by decide +kernel, rfl, by decide +kernel, by decide +kernel⟩
/- is_side: 0:thing -/
theorem sc_is_side : FnScope ["thing"] ["thing"] (defScope s_is_side) := ⟨rfl, rfl, rfl, by decide +kernel, rfl, by decide +kernel, by decide +kernel⟩
/- _figure: 0:side 1:value 2:offset 3:step 4:mode 5:figure 6:rest -/
theorem sc_figure : FnScope ["side", "value", "offset", "step", "mode", "figure", "rest"] ["side", "value"] (defScope s_figure) := ⟨rfl, rfl, rfl, by decide +kernel, rfl, by decide +kernel, by decide +kernel⟩
/- _goes_up: 0:mode 1:step 2:figure 3:rest -/
theorem sc_goes_up : FnScope ["mode", "step", "figure", "rest"] ["mode", "step", "figure", "rest"] (defScope s_goes_up) := ⟨rfl, rfl, rfl, by decide +kernel, rfl, by decide +kernel, by decide +kernel⟩
/- written: 0:side 1:value 2:offset 3:step 4:_ -/
theorem sc_written : FnScope ["side", "value", "offset", "step", "_"] ["side", "value"] (defScope s_written) := ⟨rfl, rfl, rfl, by decide +kernel, rfl, by decide +kernel, by decide +kernel⟩
/- check_sides: 0:sides 1:side -/
theorem sc_check_sides : FnScope ["sides", "side"] ["sides"] (defScope s_check_sides) := ⟨rfl, rfl, rfl, by decide +kernel, rfl, by decide +kernel, by decide +kernel⟩
/- outcomes: 0:sides 1:value 2:found 3:known 4:at 5:side 6:there -/
theorem sc_outcomes : FnScope ["sides", "value", "found", "known", "at", "side", "there"] ["sides", "value"] (defScope s_outcomes) := ⟨rfl, rfl, rfl, by decide +kernel, rfl, by decide +kernel, by decide +kernel⟩
/- rests: 0:sides 1:value 2:values 3:lower 4:upper -/
theorem sc_rests : FnScope ["sides", "value", "values", "lower", "upper"] ["sides", "value"] (defScope s_rests) := ⟨rfl, rfl, rfl, by decide +kernel, rfl, by decide +kernel, by decide +kernel⟩
/- _rest_of: 0:sides 1:value 2:top 3:bottom -/
theorem sc_rest_of : FnScope ["sides", "value", "top", "bottom"] ["sides", "value"] (defScope s_rest_of) := ⟨rfl, rfl, rfl, by decide +kernel, rfl, by decide +kernel, by decide +kernel⟩
/- _law_source: 0:_law_script 1:_law_cells 2:_law_k -/
theorem sc_L_source : FnScope ["_law_script", "_law_cells", "_law_k"] ["_law_script"] (defScope s_L_source) := ⟨rfl, rfl, rfl, by decide +kernel, rfl, by decide +kernel, by decide +kernel⟩
/- _law_draw: 0:_law_source_here 1:_law_limit 2:_law_cells 3:_law_turn 4:_law_place 5:_law_cell 6:_law_number -/
theorem sc_L_draw : FnScope ["_law_source_here", "_law_limit", "_law_cells", "_law_turn", "_law_place", "_law_cell", "_law_number"] ["_law_source_here", "_law_limit"] (defScope s_L_draw) := ⟨rfl, rfl, rfl, by decide +kernel, rfl, by decide +kernel, by decide +kernel⟩
/- _law_pick: 0:_law_source_here 1:_law_values -/
theorem sc_L_pick : FnScope ["_law_source_here", "_law_values"] ["_law_source_here", "_law_values"] (defScope s_L_pick) := ⟨rfl, rfl, rfl, by decide +kernel, rfl, by decide +kernel, by decide +kernel⟩
/- _law_great: 0:_law_source_here 1:_law_digits 2:_law_number 3:_law_k -/
theorem sc_L_great : FnScope ["_law_source_here", "_law_digits", "_law_number", "_law_k"] ["_law_source_here", "_law_digits"] (defScope s_L_great) := ⟨rfl, rfl, rfl, by decide +kernel, rfl, by decide +kernel, by decide +kernel⟩
/- _law_small_side: 0:_law_source_here 1:_law_most 2:_law_offset -/
theorem sc_L_small_side : FnScope ["_law_source_here", "_law_most", "_law_offset"] ["_law_source_here", "_law_most"] (defScope s_L_small_side) := ⟨rfl, rfl, rfl, by decide +kernel, rfl, by decide +kernel, by decide +kernel⟩
/- _law_figure: 0:_law_side 1:_law_value 2:_law_offset 3:_law_step 4:_law_mode 5:_law_low 6:_law_rest -/
theorem sc_L_figure : FnScope ["_law_side", "_law_value", "_law_offset", "_law_step", "_law_mode", "_law_low", "_law_rest"] ["_law_side", "_law_value"] (defScope s_L_figure) := ⟨rfl, rfl, rfl, by decide +kernel, rfl, by decide +kernel, by decide +kernel⟩
/- _law_handed: 0:_law_side 1:_law_value -/
theorem sc_L_handed : FnScope ["_law_side", "_law_value"] ["_law_side", "_law_value"] (defScope s_L_handed) := ⟨rfl, rfl, rfl, by decide +kernel, rfl, by decide +kernel, by decide +kernel⟩
/- _law_set: 0:_law_source_here 1:_law_most 2:_law_many 3:_law_k -/
theorem sc_L_set : FnScope ["_law_source_here", "_law_most", "_law_many", "_law_k"] ["_law_source_here", "_law_most", "_law_many"] (defScope s_L_set) := ⟨rfl, rfl, rfl, by decide +kernel, rfl, by decide +kernel, by decide +kernel⟩
/- _law_written: 0:_law_sides 1:_law_value 2:_law_one -/
theorem sc_L_written : FnScope ["_law_sides", "_law_value", "_law_one"] ["_law_sides", "_law_value"] (defScope s_L_written) := ⟨rfl, rfl, rfl, by decide +kernel, rfl, by decide +kernel, by decide +kernel⟩
/- _law_all: 0:_law_sides 1:_law_value 2:_law_found 3:_law_at 4:_law_after -/
theorem sc_L_all : FnScope ["_law_sides", "_law_value", "_law_found", "_law_at", "_law_after"] ["_law_sides", "_law_value"] (defScope s_L_all) := ⟨rfl, rfl, rfl, by decide +kernel, rfl, by decide +kernel, by decide +kernel⟩
/- _law_due: 0:_law_sides 1:_law_value 2:_law_every 3:_law_one 4:_law_futures 5:_law_found 6:_law_other 7:_law_others -/
theorem sc_L_due : FnScope ["_law_sides", "_law_value", "_law_every", "_law_one", "_law_futures", "_law_found", "_law_other", "_law_others"] ["_law_sides", "_law_value"] (defScope s_L_due) := ⟨rfl, rfl, rfl, by decide +kernel, rfl, by decide +kernel, by decide +kernel⟩
/- law: 0:_law_script 1:_law_source_here 2:_law_turn 3:_law_sides 4:_law_value 5:_law_due_here 6:_law_factor 7:_law_one 8:_law_lifted 9:_law_kept 10:_law_found 11:_law_group 12:_law_caught 13:e 14:_law_pair -/
theorem sc_law : FnScope ["_law_script", "_law_source_here", "_law_turn", "_law_sides", "_law_value", "_law_due_here", "_law_factor", "_law_one", "_law_lifted", "_law_kept", "_law_found", "_law_group", "_law_caught", "e", "_law_pair"] ["_law_script"] (defScope s_law) := ⟨rfl, rfl, rfl, by decide +kernel, rfl, by decide +kernel, by decide +kernel⟩


end HT
namespace L2
open PySem PySem.Spec PyProof.Rows
/-- powers of great numbers -/
def CPowW (i j : Int) : Prop := 0 ≤ j ∧ (Builtin.Int.intBits i : Int) * j ≤ 2 ^ 27
theorem op_powW {X : Cx} : OpR X (binaryOp .Pow) (rI CPowW fun i j => .int (i ^ j.toNat)) := opI fun _ _ _ _ _ _ _ hc q => pow_int hc.1 hc.2 q
end L2
namespace HT
open PySem L2
/-- the law's source of draws: a list of its cells' list and the turn -/
structure Src (H : Hp) (a c : Addr) (t : Nat) : Prop where
  ne : a ≠ c
  ob : H a = some (.lst [.ref c, .int (t : Int)])
  cl : ∃ cs : List Int, H c = some (.lst (cs.map V.int)) ∧ 0 < cs.length ∧ cs.length ≤ 63
/-- nothing else is touched -/
def Oth (a c : Addr) (H H' : Hp) : Prop := ∀ b o, H b = some o → b ≠ a → b ≠ c → H' b = some o
theorem Oth.refl (a c : Addr) (H : Hp) : Oth a c H H := fun _ _ h _ _ => h
theorem Oth.trans {a c : Addr} {H H1 H2 : Hp} (x : Oth a c H H1) (y : Oth a c H1 H2) : Oth a c H H2 := fun b o h n m => y b o (x b o h n m) n m
theorem Oth.new {a c p : Addr} {H H1 : Hp} {o : HO} (x : Oth a c H H1) (n : H1 p = none) : Oth a c H (upd H1 p o) := fun b u h na nc => by
  rw [upd_ne (ne_of_none (x b u h na nc) n)]
  exact x b u h na nc
theorem Src.new {a c p : Addr} {H : Hp} {t : Nat} {o : HO} (S : Src H a c t) (n : H p = none) : Src (upd H p o) a c t := by
  obtain ⟨cs, h, l⟩ := S.cl
  exact ⟨S.ne, by rw [upd_ne (ne_of_none S.ob n)]; exact S.ob, cs, by rw [upd_ne (ne_of_none h n)]; exact h, l⟩
theorem Src.of_same {a c : Addr} {H H' : Hp} {t : Nat} (S : Src H a c t) (e : Same H H') : Src H' a c t := by
  obtain ⟨cs, h, l⟩ := S.cl
  exact ⟨S.ne, e _ _ S.ob, cs, e _ _ h, l⟩
theorem Src.na {a c p : Addr} {H : Hp} {t : Nat} (S : Src H a c t) (n : H p = none) : p ≠ a ∧ p ≠ c := by
  obtain ⟨cs, h, l⟩ := S.cl
  exact ⟨(ne_of_none S.ob n).symm, (ne_of_none h n).symm⟩
theorem Src.nt {a c p : Addr} {H : Hp} {t : Nat} {xs : List V} (S : Src H a c t) (n : H p = some (.tup xs)) : p ≠ a ∧ p ≠ c := by
  obtain ⟨cs, h, l⟩ := S.cl
  exact ⟨ne_of n S.ob (by intro z; cases z), ne_of n h (by intro z; cases z)⟩
def spSource (K : PySem.W.Frag) : Sp := fun vs H Q _ => ∃ (l : Addr) (ns : List Int), vs = [.ref l] ∧ SqL K H l (ns.map V.int) ∧ ns.length ≤ 63 ∧
  ∀ a c H', Same H H' → H a = none → H c = none → Src H' a c 0 → Q (.ref a) H'
def spDraw : Sp := fun vs H Q _ => ∃ (a c : Addr) (t : Nat) (lim : Int), vs = [.ref a, .int lim] ∧ Src H a c t ∧ t < 2 ^ 30 ∧ 0 < lim ∧ lim.natAbs.log2 < 9000 ∧
  ∀ k H', 0 ≤ k → k < lim → Src H' a c (t + 1) → Oth a c H H' → Q (.int k) H'
/-- what the walk asks of the names that the text does not bind -/
structure Blt (mg : Str → Option Value) : Prop where
  len : mg "len" = none
  abs : mg "abs" = none
  int : mg "int" = none
  range : mg "range" = none
section
variable {P : Program} {w : World} {K : PySem.W.Frag} {mg : Str → Option Value} {base : Heap}
theorem fdiv_ok (i : Int) {j : Int} (h : 0 < j) (h9 : j.natAbs.log2 < 9000) : CDivW i j := ⟨h, h9⟩
theorem atI_in {xs : List Int} {i : Int} (h0 : 0 ≤ i) (h : i < (xs.length : Int)) : atI (xs.map V.int) i = some (.int (xs.getD i.toNat 0)) := by
  have e : ixN (xs.map V.int).length i = some i.toNat := by
    unfold ixN
    rw [List.length_map, if_pos h0, if_pos h]
  unfold atI
  rw [e]
  show (xs.map V.int)[i.toNat]? = _
  have hl : i.toNat < xs.length := by omega
  rw [List.getElem?_map, List.getElem?_eq_getElem hl, List.getD_eq_getElem?_getD, List.getElem?_eq_getElem hl]
  rfl
theorem ixN_in {n : Nat} {i : Int} (h0 : 0 ≤ i) (h : i < (n : Int)) : ixN n i = some i.toNat := by
  unfold ixN
  rw [if_pos h0, if_pos h]
theorem b_mod (x : Int) : -(2 ^ 64) < x % 2147483629 ∧ x % 2147483629 < 2 ^ 64 := by omega
theorem b_mod1 (x : Int) : -(2 ^ 64) < x % 2147483647 ∧ x % 2147483647 < 2 ^ 64 := by omega
theorem b_t {t : Nat} (h : t < 2 ^ 30) : -(2 ^ 64) < (t : Int) ∧ (t : Int) < 2 ^ 64 := by omega
theorem b_tt {t : Nat} (h : t < 2 ^ 30) : -(2 ^ 64) < (t : Int) * t ∧ (t : Int) * t < 2 ^ 64 := by
  have h1 : t * t < 2 ^ 30 * 2 ^ 30 := Nat.mul_lt_mul'' h h
  have h2 : ((t * t : Nat) : Int) = (t : Int) * t := Int.natCast_mul t t
  omega
theorem set_ints (xs : List Int) (j : Nat) (y : Int) : (xs.map V.int).set j (.int y) = (xs.set j y).map V.int := by
  rw [List.map_set]
theorem ok_draw {f : Addr} {fd : FuncData} (F : Fun K "_law_draw" "_law_draw" s_L_draw f fd) (B : Blt mg) : FnOk P w K mg base CX0 1 f fd ["_law_source_here", "_law_limit"] spDraw := by
  refine F.ok sc_L_draw (fun vs H Q E h => ?_) (fun cdv A outer s H vs Q E hr h => ?_)
  · obtain ⟨a, c, t, lim, rfl, _⟩ := h
    rfl
  · obtain ⟨a, c, t, lim, rfl, S, ht, hl0, hl9, q⟩ := h
    obtain ⟨cs, hc, hn0, hn⟩ := S.cl
    have nd := sc_L_draw.nd
    refine ⟨_, pss_cons (ps_asg (pv 0) (pg_unl (n := 2) (by rfl) (pgs_cons (pg_name (i := 2) nd rfl (Or.inl rfl)) (pgs_cons (pg_name (i := 3) nd rfl (Or.inl rfl)) pgs_nil))))
      (pss_cons (ps_set (i := 4) nd rfl (Or.inl rfl) (pe_op op_mod (pe_callTy call_int1 (by rfl) B.int (by decide +kernel) (pa_cons (pv 3) pa_nil)) (pe_callB call_len_seq (by rfl) B.len PySem.boot_len (pa_cons (pv 2) pa_nil))))
      (pss_cons (ps_set (i := 5) nd rfl (Or.inl rfl) (pe_ix ix_list (pv 2) (pv 4) (fun _ _ => rfl)))
      (pss_cons (ps_asg (pe_op op_add (pv 3) pe_int) (pg_sub (pv 0) pe_int set_list))
      (pss_cons (ps_if (pt_cmpR op_ge (pv 5) (pe_op op_pow pe_int pe_int) (nomark _))
        (pss_cons (ps_asg (pe_op op_fdivW (pv 5) (pv 1)) (pg_sub (pv 2) (pv 4) set_list))
          (pss_one (ps_ret (pe_op op_mod (pe_callTy call_int1 (by rfl) B.int (by decide +kernel) (pa_cons (pv 5) pa_nil)) (pv 1))))) pss_nil)
      (pss_cons (ps_set (i := 6) nd rfl (Or.inl rfl) (pe_op op_mod (pe_callTy call_int1 (by rfl) B.int (by decide +kernel) (pa_cons
          (pe_op op_add (pe_op op_add (pe_op op_mul (pe_op op_mod (pe_callTy call_int1 (by rfl) B.int (by decide +kernel) (pa_cons (pv 5) pa_nil)) pe_int) pe_int) (pe_op op_mul (pe_op op_mul (pv 3) (pv 3)) pe_int)) pe_int) pa_nil)) pe_int))
      (pss_cons (ps_set (i := 6) nd rfl (Or.inl rfl) (pe_op op_mod (pe_callTy call_int1 (by rfl) B.int (by decide +kernel) (pa_cons (pe_op op_mul (pv 6) (pv 6)) pa_nil)) pe_int))
      (pss_cons (ps_set (i := 6) nd rfl (Or.inl rfl) (pe_op op_mod (pe_callTy call_int1 (by rfl) B.int (by decide +kernel) (pa_cons (pe_op op_mul (pv 6) (pv 6)) pa_nil)) pe_int))
      (pss_one (ps_ret (pe_op op_mod (pe_callTy call_int1 (by rfl) B.int (by decide +kernel) (pa_cons (pv 6) pa_nil)) (pv 1))))))))))), ?_⟩
    -- _law_cells, _law_turn = _law_source_here
    walk_at "rd"
    refine ⟨a, _, rfl, SqL.of S.ob, rfl, _, _, rfl, _, _, rfl, rfl, ?_⟩
    -- _law_place
    walk_at "rd"
    have hn0' : (0 : Int) < ((cs.map V.int).length : Nat) := by rw [List.length_map]; omega
    refine ⟨c, _, rfl, .inl (SqL.of hc), _, _, rfl, rfl, hn0', ?_⟩
    have hp0 : 0 ≤ (t : Int) % ((cs.map V.int).length : Nat) := Int.emod_nonneg _ (by omega)
    have hp1 : (t : Int) % ((cs.map V.int).length : Nat) < ((cs.map V.int).length : Nat) := Int.emod_lt_of_pos _ hn0'
    have hp1' : (t : Int) % ((cs.map V.int).length : Nat) < (cs.length : Int) := by rw [List.length_map] at hp1 ⊢; exact hp1
    -- _law_cell
    walk_at "rd"
    refine ⟨c, _, _, _, rfl, rfl, SqL.of hc, atI_in hp0 hp1', ?_⟩
    -- _law_source_here[1] = _law_turn + 1
    walk_at "rd"
    refine ⟨a, _, 1, 1, rfl, rfl, S.ob, rfl, ?_⟩
    have S1 : Src (upd H a (.lst ([V.ref c, V.int t].set 1 (.int ((t : Int) + 1))))) a c (t + 1) := ⟨S.ne, by rw [upd_same]; rfl, cs, by rw [upd_ne S.ne.symm]; exact hc, hn0, hn⟩
    have O1 : Oth a c H (upd H a (.lst ([V.ref c, V.int t].set 1 (.int ((t : Int) + 1))))) := fun b o h na _ => by rw [upd_ne na]; exact h
    have hc1 : upd H a (.lst ([V.ref c, V.int t].set 1 (.int ((t : Int) + 1)))) c = some (.lst (cs.map V.int)) := by rw [upd_ne S.ne.symm]; exact hc
    generalize upd H a (.lst ([V.ref c, V.int t].set 1 (.int ((t : Int) + 1)))) = H1 at S1 O1 hc1 ⊢
    -- if _law_cell >= 10 ** 18
    walk_at "rd"
    refine ⟨⟨by decide, by decide, by decide⟩, ?_⟩
    walk_at "rd"
    refine ite2 (fun _ => ?_) (fun _ => ?_)
    · walk_at "rd"
      refine ⟨fdiv_ok _ hl0 hl9, ?_⟩
      walk_at "rd"
      refine ⟨c, _, _, _, rfl, rfl, hc1, ixN_in hp0 hp1, ?_⟩
      walk_at "rd"
      refine ⟨hl0, ?_⟩
      rw [set_ints]
      refine q _ _ (Int.emod_nonneg _ (by omega)) (Int.emod_lt_of_pos _ hl0) ⟨S1.ne, by rw [upd_ne S1.ne]; exact S1.ob, _, upd_same, by rw [List.length_set]; exact hn0, by rw [List.length_set]; exact hn⟩ fun b o h na nc => ?_
      rw [upd_ne nc]
      exact O1 b o h na nc
    · walk_at "rd"
      refine ⟨(by show (0 : Int) < 2147483629; decide), ?_⟩
      walk_at "rd"
      refine ⟨.inl (b_mod _), ?_⟩
      walk_at "rd"
      refine ⟨.inl (b_t ht), ?_⟩
      walk_at "rd"
      refine ⟨.inl (b_tt ht), ?_⟩
      walk_at "rd"
      refine ⟨(by show (0 : Int) < 2147483647; decide), ?_⟩
      walk_at "rd"
      refine ⟨.inl (b_mod1 _), ?_⟩
      walk_at "rd"
      refine ⟨(by show (0 : Int) < 2147483629; decide), ?_⟩
      walk_at "rd"
      refine ⟨.inl (b_mod _), ?_⟩
      walk_at "rd"
      refine ⟨(by show (0 : Int) < 2147483587; decide), ?_⟩
      walk_at "rd"
      refine ⟨hl0, ?_⟩
      exact q _ _ (Int.emod_nonneg _ (by omega)) (Int.emod_lt_of_pos _ hl0) S1 O1
end
end HT
namespace HT
open PySem L2
/-- a def of the text that may be called by its name, and what it promises -/
structure Cal (P : Program) (w : World) (K : PySem.W.Frag) (mg : Str → Option Value) (base : Heap) (x : Str) (k : Nat) (ps : List Str) (sp : Sp) (f : Addr) (fd : FuncData) : Prop where
  ok : FnOk P w K mg base CX0 k f fd ps sp
  gl : mg x = some (.ref f)
  kp : PySem.W.keepIn K (.ref f) = true
  bd : Binds K fd ps []
theorem pcl {X : Cx} {x : Str} {k j : Nat} {ps : List Str} {sp : Sp} {f : Addr} {fd : FuncData} {e : Expr} {es : List Expr} {t : TA} {p pos : Pos} (C : Cal X.prog X.w X.K X.mg X.base x k ps sp f fd) (hr : Room j X.A) (hj : k ≤ j) (hg : Gl X x) (ha : PA X (e :: es) t)
    (hdb : (x == ("__debug__" : Str)) = false := by decide) (he : starEach (e :: es) X.env = (false, eval e X.env) :: starEach es X.env := by rfl) (hpl : (backTo pos (starEach es X.env)).any (·.1) = false := by rfl) : PE X (.Call (.Name x p) (e :: es) [] pos) (tCall sp [] E0 t) :=
  pe_call C.ok (hr.mono hj) hg C.gl C.kp C.bd .nil pass0 ha hdb he hpl
section
variable {P : Program} {w : World} {K : PySem.W.Frag} {mg : Str → Option Value} {base : Heap}
theorem cut63 {ns : List Int} (h : ns.length ≤ 63) : cutV (ns.map V.int) none (some 63) = ns.map V.int := by
  have e1 : HT.sIx (ns.map V.int).length 0 none = 0 := rfl
  have e2 : HT.sIx (ns.map V.int).length (ns.map V.int).length (some 63) = (ns.map V.int).length := by
    have := HT.sIx_nat (ns.map V.int).length (ns.map V.int).length 63
    rw [show ((63 : Nat) : Int) = 63 from rfl] at this
    rw [this, List.length_map]
    omega
  unfold cutV
  rw [e1, e2, List.drop_zero, Nat.sub_zero, List.take_length]
theorem dpInts (H : Hp) : ∀ ns : List Int, DpAll K H (ns.map V.int) (ns.map PyData.int)
  | [] => .nil
  | n :: r => .cons (.int n) (dpInts H r)
theorem pow_ok : CPowW ((10 : Int) ^ (60 : Int).toNat) 20 := ⟨by decide, by decide +kernel⟩
theorem pow_pos' : (0 : Int) < ((10 : Int) ^ (60 : Int).toNat) ^ (20 : Int).toNat := by decide +kernel
theorem ok_source {f : Addr} {fd : FuncData} (F : Fun K "_law_source" "_law_source" s_L_source f fd) (B : Blt mg) : FnOk P w K mg base CX0 1 f fd ["_law_script"] (spSource K) := by
  refine F.ok sc_L_source (fun vs H Q E h => ?_) (fun cdv A outer s H vs Q E hr h => ?_)
  · obtain ⟨l, ns, rfl, _⟩ := h
    rfl
  · obtain ⟨l, ns, rfl, hL, hn, q⟩ := h
    have nd := sc_L_source.nd
    refine ⟨_, pss_cons (ps_set (i := 1) nd rfl (Or.inl rfl) (pe_slice sl_list (pv 0) po_none (po_some pe_int)))
      (pss_cons (ps_for PassesOwn.never rfl (pi_range1 (by rfl) B.range (pa_cons (pe_callB call_len_seq (by rfl) B.len PySem.boot_len (pa_cons (pv 1) pa_nil)) pa_nil)) (pg_name (i := 2) nd rfl (Or.inl rfl))
        (pss_one (ps_if (pt_cmpR op_ge (pe_callB call_abs (by rfl) B.abs (by decide +kernel) (pa_cons (pe_ix ix_list (pv 1) (pv 2) (fun _ _ => rfl)) pa_nil)) (pe_op op_pow pe_int pe_int) (nomark _))
          (pss_one (ps_asg (pe_op op_mod (pe_callTy call_int1 (by rfl) B.int (by decide +kernel) (pa_cons (pe_ix ix_list (pv 1) (pv 2) (fun _ _ => rfl)) pa_nil)) (pe_op op_powW (pe_op op_pow pe_int pe_int) pe_int)) (pg_sub (pv 1) (pv 2) set_list))) pss_nil)))
      (pss_cons (ps_if (pt_cmpR (op_eqD hr.units) (pv 1) (pe_lst pa_nil) (nomark _)) (pss_one (ps_set (i := 1) nd rfl (Or.inl rfl) (pe_lst (pa_cons pe_int pa_nil)))) pss_nil)
      (pss_one (ps_ret (pe_lst (pa_cons (pv 1) (pa_cons pe_int pa_nil))))))), ?_⟩
    walk_at "rd"
    refine ⟨l, _, rfl, hL, fun p np => ?_⟩
    rw [cut63 hn]
    walk_at "rd"
    refine ⟨p, _, rfl, .inl (SqL.of upd_same), _, rfl, by omega, ?_, ?_⟩
    · show ((ns.map V.int).length : Int) < 2 ^ 62
      rw [List.length_map]
      omega
    have en : ((ns.map V.int).length : Int).toNat = ns.length := by rw [List.length_map]; omega
    rw [en]
    refine for_range (fun i σ H' => ∃ (cs : List Int) (kv : Option V), σ = [some (.ref l), some (.ref p), kv] ∧ H' p = some (.lst (cs.map V.int)) ∧ cs.length = ns.length ∧ Same H H') ⟨ns, none, rfl, upd_same, rfl, fun b o e => by rw [upd_ne (ne_of_none e np)]; exact e⟩ ?_ ?_
    · rintro i σ H' hi ⟨cs, kv, rfl, hp, hl, sm⟩
      have h0 : (0 : Int) ≤ 0 + (i : Int) := by omega
      have h1 : (0 : Int) + (i : Int) < (cs.length : Int) := by omega
      walk_at "rd"
      refine ⟨p, _, _, _, rfl, rfl, SqL.of hp, atI_in h0 h1, ?_⟩
      walk_at "rd"
      refine ⟨⟨by decide, by decide, by decide⟩, ?_⟩
      walk_at "rd"
      refine ite2 (fun _ => ?_) (fun _ => ?_)
      · walk_at "rd"
        refine ⟨p, _, _, _, rfl, rfl, SqL.of hp, atI_in h0 h1, ?_⟩
        walk_at "rd"
        refine ⟨⟨by decide, by decide, by decide⟩, ?_⟩
        walk_at "rd"
        refine ⟨pow_ok, ?_⟩
        walk_at "rd"
        refine ⟨pow_pos', ?_⟩
        walk_at "rd"
        refine ⟨p, _, _, _, rfl, rfl, hp, ixN_in h0 (by rw [List.length_map]; exact h1), ?_⟩
        rw [set_ints]
        exact ⟨_, _, rfl, upd_same, by rw [List.length_set]; exact hl, fun b o e => by rw [upd_ne (ne_of_none e np)]; exact sm b o e⟩
      · exact ⟨cs, _, rfl, hp, hl, sm⟩
    · rintro σ H' ⟨cs, kv, rfl, hp, hl, sm⟩
      walk_at "rd"
      refine ⟨by decide, fun e ne => ?_⟩
      have hpe : upd H' e (.lst []) p = some (.lst (cs.map V.int)) := by rw [upd_ne (ne_of_none hp ne)]; exact hp
      have sm1 : Same H (upd H' e (.lst [])) := fun b o z => by rw [upd_ne (ne_of_none (sm b o z) ne)]; exact sm b o z
      refine ⟨_, _, .lst (SqL.of hpe) (dpInts _ cs), .lst (SqL.of upd_same) .nil, PySem.W.ke_shaped_ints cs, by decide +kernel, ?_⟩
      walk_at "rd"
      have hb : PyData.eqv (.list (cs.map PyData.int)) (.list []) = decide (cs = []) := by
        have z := PySem.W.ked_eqvAll cs []
        rw [← z]
        rfl
      rw [hb]
      refine ite2 (fun _ => ?_) (fun hne => ?_)
      · walk_at "rd"
        refine ⟨by decide, fun c nc => ?_⟩
        walk_at "rd"
        refine ⟨(by show 2 ≤ sizeLine; decide), fun a na => ?_⟩
        have sm2 : Same H (upd (upd H' e (.lst [])) c (.lst [.int 0])) := fun b o z => by rw [upd_ne (ne_of_none (sm1 b o z) nc)]; exact sm1 b o z
        have nac : a ≠ c := (ne_of_none upd_same na).symm
        refine q a c _ (fun b o z => by rw [upd_ne (ne_of_none (sm2 b o z) na)]; exact sm2 b o z) (sm2.free na) (sm1.free nc) ⟨nac, upd_same, [0], by rw [upd_ne nac.symm]; exact upd_same, by decide, by decide⟩
      · walk_at "rd"
        refine ⟨(by show 2 ≤ sizeLine; decide), fun a na => ?_⟩
        have nap : a ≠ p := (ne_of_none hpe na).symm
        refine q a p _ (fun b o z => by rw [upd_ne (ne_of_none (sm1 b o z) na)]; exact sm1 b o z) (sm1.free na) np ⟨nap, upd_same, cs, by rw [upd_ne nap.symm]; exact hpe, ?_, by omega⟩
        have : cs ≠ [] := fun z => hne (decide_eq_true z)
        exact List.length_pos_iff.mpr this
end
end HT
namespace HT
open PySem L2
/-- a def of which errors may come, and its call -/
structure CalX (P : Program) (w : World) (K : PySem.W.Frag) (mg : Str → Option Value) (base : Heap) (x : Str) (k : Nat) (ps : List Str) (sp : Sp) (f : Addr) (fd : FuncData) : Prop where
  ok : FnOk P w K mg base (L2.CX P w) k f fd ps sp
  mgf : mg x = some (.ref f)
  kp : PySem.W.keepIn K (.ref f) = true
  b : Binds K fd ps []
theorem pcx {X : Cx} {x : Str} {k j : Nat} {ps : List Str} {sp : Sp} {f : Addr} {fd : FuncData} {e : Expr} {es : List Expr} {t : TA} {p pos : Pos} {W : WX} (C : CalX X.prog X.w X.K X.mg X.base x k ps sp f fd) (hr : Room j X.A) (hj : k ≤ j) (hg : Gl X x) (tk : L2.Takes X W) (ha : PA X (e :: es) t)
    (hdb : (x == ("__debug__" : Str)) = false := by decide) (he : starEach (e :: es) X.env = (false, eval e X.env) :: starEach es X.env := by rfl) (hpl : (backTo pos (starEach es X.env)).any (·.1) = false := by rfl) : PE X (.Call (.Name x p) (e :: es) [] pos) (tCallS sp (WE W) t) :=
  pe_callS C.ok (hr.mono hj) hg C.mgf C.kp C.b (fun σ => L2.passAt tk σ) ha hdb he hpl
end HT
namespace L2
open PySem PySem.Spec PyProof.Rows
/-- xs.count(y) of flat things -/
def rCntV (K : PySem.W.Frag) : V → List V → Hp → VK → Prop := fun x xs H Q => ∃ (p : Addr) (ys : List V) (y : V), x = .ref p ∧ xs = [y] ∧ SqL K H p ys ∧ flatV y = true ∧ ys.all flatV = true ∧ Q (.int (ys.countP (fun z => eqV z y) : Nat)) H
theorem count_eqU {x : V} : ∀ {xs : List V} {us : List Value}, Vals xs us → xs.all flatV = true → us.countP (eqU x) = xs.countP fun y => eqV y x
  | _, _, .nil, _ => rfl
  | y :: xs, u :: us, .cons r t, f => by
    obtain ⟨f1, f2⟩ := Bool.and_eq_true_iff.mp (List.all_cons ▸ f)
    rw [List.countP_cons, List.countP_cons, eqU_of r f1, count_eqU t f2]
theorem mt_cntV {X : Cx} : MtR X "list.count" (rCntV X.K) := by
  intro pins sh st H x xs v us Q iv rx rxs h
  obtain ⟨p, ys, y, rfl, rfl, hs, fy, fys, q⟩ := h
  cases rx
  obtain ⟨u, rfl, ru⟩ := rxs.one
  obtain ⟨its, rv, ⟨⟨cls, dd, data, sl⟩, n, ho, hc, hdn, hd⟩, hlen⟩ := iv.list hs
  dsimp only at hc hd
  subst hc hd
  refine call_meets PySem.F.slot_list_count ⟨_, ho, rfl⟩ PySem.F.entry_list_count (PySem.F.args_list_count_2 _ _) (SeqAt.list_countAt p its.toArray n dd sl u (eqU y)) ⟨ho, fun w hw => mem_eqAt ru fy rv fys w (by simpa using hw), ?_⟩
  refine ⟨.int (ys.countP (fun z => eqV z y) : Nat), H, iv.tok _, ⟨sh.toks, ?_⟩, q⟩
  rw [show its.toArray.toList.countP (eqU y) = ys.countP (fun z => eqV z y) from count_eqU rv fys]
end L2
namespace HT
open PySem L2
/-! ### pick, great, side -/
def spPick : Sp := fun vs H Q _ => ∃ (a c : Addr) (t : Nat) (l : Addr) (xs : List V), vs = [.ref a, .ref l] ∧ Src H a c t ∧ t < 2 ^ 30 ∧ H l = some (.lst xs) ∧ l ≠ a ∧ l ≠ c ∧ 0 < xs.length ∧ xs.length < 2 ^ 60 ∧
  ∀ x H', x ∈ xs → Src H' a c (t + 1) → Oth a c H H' → Q x H'
def spGreat : Sp := fun vs H Q _ => ∃ (a c : Addr) (t n : Nat), vs = [.ref a, .int (n : Int)] ∧ Src H a c t ∧ n ≤ 1000 ∧ t + n < 2 ^ 30 ∧
  ∀ k H', 0 ≤ k → k < 10 ^ n → Src H' a c (t + n) → Oth a c H H' → Q (.int k) H'
/-- the modes -/
def Mode (m : Str) : Prop := m = "down" ∨ m = "up" ∨ m = "half_down" ∨ m = "half_up" ∨ m = "half_even"
/-- a side's parts -/
structure SideP (o s : Int) (m : Str) : Prop where
  o0 : -10 ^ 40 ≤ o
  o1 : o ≤ 10 ^ 40
  s0 : 1 ≤ s
  s1 : s ≤ 10 ^ 30
  md : Mode m
def sideV (o s : Int) (m : Str) : HO := .tup [.int o, .int s, .str m]
def spSide : Sp := fun vs H Q _ => ∃ (a c : Addr) (t n : Nat), vs = [.ref a, .int (n : Int)] ∧ Src H a c t ∧ 1 ≤ n ∧ n ≤ 40 ∧ t + 200 < 2 ^ 30 ∧
  ∀ p o s m H' t', H p = none → H' p = some (sideV o s m) → SideP o s m → t' ≤ t + 200 → Src H' a c t' → Oth a c H H' → Q (.ref p) H'
theorem lg_nat {n : Nat} (h : n < 2 ^ 200) : ((n : Int)).natAbs.log2 < 9000 := by
  rw [Int.natAbs_natCast]
  by_cases e : n = 0
  · rw [e]; decide
  · have := (Nat.log2_lt e).mpr h
    omega
theorem lg_small {n : Int} (h0 : 0 ≤ n) (h : n < 2 ^ 64) : n.natAbs.log2 < 9000 := by
  obtain ⟨m, rfl⟩ := Int.eq_ofNat_of_zero_le h0
  exact lg_nat (Nat.lt_of_lt_of_le (by omega : m < 2 ^ 64) (Nat.pow_le_pow_right (by decide) (by decide)))
section
variable {P : Program} {w : World} {K : PySem.W.Frag} {mg : Str → Option Value} {base : Heap} {fD fP fG : Addr} {dD dP dG : FuncData}
theorem ok_pick {f : Addr} {fd : FuncData} (F : Fun K "_law_pick" "_law_pick" s_L_pick f fd) (B : Blt mg) (D : Cal P w K mg base "_law_draw" 1 ["_law_source_here", "_law_limit"] spDraw fD dD) :
    FnOk P w K mg base CX0 2 f fd ["_law_source_here", "_law_values"] spPick := by
  refine F.ok sc_L_pick (fun vs H Q E h => ?_) (fun cdv A outer s H vs Q E hr h => ?_)
  · obtain ⟨a, c, t, l, xs, rfl, _⟩ := h
    rfl
  · obtain ⟨a, c, t, l, xs, rfl, S, ht, hl, na, nc, h0, h1, q⟩ := h
    refine ⟨_, pss_one (ps_ret (pe_ix ix_list (pv 1) (pcl D hr (by decide) (by rfl) (pa_cons (pv 0) (pa_cons (pe_callB call_len_seq (by rfl) B.len PySem.boot_len (pa_cons (pv 1) pa_nil)) pa_nil))) (fun _ _ => rfl))), ?_⟩
    walk_at "rd"
    refine ⟨l, _, rfl, .inl (SqL.of hl), ?_⟩
    have p1 : (0 : Int) < (xs.length : Int) := by omega
    refine ⟨a, c, t, _, rfl, S, ht, p1, lg_nat (Nat.lt_of_lt_of_le h1 (Nat.pow_le_pow_right (by decide) (by decide))), fun k H' k0 k1 S' O => ?_⟩
    have hl' : k.toNat < xs.length := by omega
    have e : atI xs k = some xs[k.toNat] := by
      unfold atI
      rw [ixN_in k0 k1]
      exact List.getElem?_eq_getElem hl'
    refine ⟨l, _, _, _, rfl, rfl, SqL.of (O _ _ hl na nc), e, ?_⟩
    exact q _ _ (List.getElem_mem hl') S' O
theorem ok_great {f : Addr} {fd : FuncData} (F : Fun K "_law_great" "_law_great" s_L_great f fd) (B : Blt mg) (D : Cal P w K mg base "_law_draw" 1 ["_law_source_here", "_law_limit"] spDraw fD dD) :
    FnOk P w K mg base CX0 2 f fd ["_law_source_here", "_law_digits"] spGreat := by
  refine F.ok sc_L_great (fun vs H Q E h => ?_) (fun cdv A outer s H vs Q E hr h => ?_)
  · obtain ⟨a, c, t, n, rfl, _⟩ := h
    rfl
  · obtain ⟨a, c, t, n, rfl, S, hn, ht, q⟩ := h
    have nd := sc_L_great.nd
    refine ⟨_, pss_cons (ps_set (i := 2) nd rfl (Or.inl rfl) pe_int)
      (pss_cons (ps_for PassesOwn.never rfl (pi_range1 (by rfl) B.range (pa_cons (pv 1) pa_nil)) (pg_name (i := 3) nd rfl (Or.inl rfl))
        (pss_one (ps_set (i := 2) nd rfl (Or.inl rfl) (pe_op op_add (pe_op op_mul (pv 2) pe_int) (pcl D hr (by decide) (by rfl) (pa_cons (pv 0) (pa_cons pe_int pa_nil)))))))
      (pss_one (ps_ret (pv 2)))), ?_⟩
    walk_at "rd"
    refine ⟨by omega, by omega, ?_⟩
    rw [Int.toNat_natCast]
    refine for_range (fun i σ H' => ∃ (k : Int) (kv : Option V), σ = [some (.ref a), some (.int (n : Int)), some (.int k), kv] ∧ 0 ≤ k ∧ k < 10 ^ i ∧ Src H' a c (t + i) ∧ Oth a c H H') ⟨0, none, rfl, by decide, by decide, S, Oth.refl _ _ _⟩ ?_ ?_
    · rintro i σ H' hi ⟨k, kv, rfl, k0, k1, S', O⟩
      walk_at "rd"
      refine ⟨.inr ⟨by decide, by decide⟩, ?_⟩
      walk_at "rd"
      refine ⟨a, c, t + i, _, rfl, S', by omega, (by show (0 : Int) < 10; decide), (by show (10 : Int).natAbs.log2 < 9000; decide), fun y H2 y0 y1 S2 O2 => ?_⟩
      walk_at "rd"
      have y1' : y < 10 := y1
      refine ⟨_, _, rfl, (by show 0 ≤ k * 10 + y; omega), (by show k * 10 + y < 10 ^ (i + 1); rw [Int.pow_succ]; omega), S2, O.trans O2⟩
    · rintro σ H' ⟨k, kv, rfl, k0, k1, S', O⟩
      walk_at "rd"
      exact q _ _ k0 k1 S' O
theorem mode_of {x : V} (h : x ∈ [V.str "down", .str "up", .str "half_down", .str "half_up", .str "half_even"]) : ∃ m : Str, x = .str m ∧ Mode m := by
  simp only [List.mem_cons, List.not_mem_nil, or_false] at h
  rcases h with h | h | h | h | h
  · exact ⟨_, h, .inl rfl⟩
  · exact ⟨_, h, .inr (.inl rfl)⟩
  · exact ⟨_, h, .inr (.inr (.inl rfl))⟩
  · exact ⟨_, h, .inr (.inr (.inr (.inl rfl)))⟩
  · exact ⟨_, h, .inr (.inr (.inr (.inr rfl)))⟩
end
end HT
namespace HT
open PySem L2
/-! ### the mathematics of a side -/
def goesUp (m : Str) (s q r : Int) : Bool := if m = "down" then false else if m = "up" then decide (0 < r) else if 2 * r = s then (if m = "half_even" then decide (q % 2 = 1) else decide (m = "half_up")) else decide (s < 2 * r)
/-- the figure to which v comes -/
def figM (o s : Int) (m : Str) (v : Int) : Int := if goesUp m s ((v - o) / s) ((v - o) % s) = true then (v - o) / s + 1 else (v - o) / s
def dueM (o s : Int) (m : Str) (v : Int) : Int := o + s * figM o s m v
theorem d_u : ¬ (("up" : Str) = "down") := by decide +kernel
theorem hd_d : ¬ (("half_down" : Str) = "down") := by decide +kernel
theorem hd_u : ¬ (("half_down" : Str) = "up") := by decide +kernel
theorem hu_d : ¬ (("half_up" : Str) = "down") := by decide +kernel
theorem hu_u : ¬ (("half_up" : Str) = "up") := by decide +kernel
theorem he_d : ¬ (("half_even" : Str) = "down") := by decide +kernel
theorem he_u : ¬ (("half_even" : Str) = "up") := by decide +kernel
theorem hd_e : ¬ (("half_down" : Str) = "half_even") := by decide +kernel
theorem hu_e : ¬ (("half_up" : Str) = "half_even") := by decide +kernel
theorem hd_hu : ¬ (("half_down" : Str) = "half_up") := by decide +kernel
theorem he_hu : ¬ (("half_even" : Str) = "half_up") := by decide +kernel
theorem u_hd : ¬ (("up" : Str) = "half_down") := by decide +kernel
theorem hu_hd : ¬ (("half_up" : Str) = "half_down") := by decide +kernel
theorem he_hd : ¬ (("half_even" : Str) = "half_down") := by decide +kernel
theorem go_down (s q r : Int) : goesUp "down" s q r = false := by unfold goesUp; rw [if_pos rfl]
theorem go_up (s q r : Int) : goesUp "up" s q r = decide (0 < r) := by unfold goesUp; rw [if_neg d_u, if_pos rfl]
theorem go_hd (s q r : Int) : goesUp "half_down" s q r = decide (s < 2 * r) := by
  unfold goesUp
  rw [if_neg hd_d, if_neg hd_u, if_neg hd_e, decide_eq_false hd_hu]
  by_cases h : 2 * r = s
  · rw [if_pos h, decide_eq_false (by omega)]
  · rw [if_neg h]
theorem go_hu (s q r : Int) : goesUp "half_up" s q r = decide (s ≤ 2 * r) := by
  unfold goesUp
  rw [if_neg hu_d, if_neg hu_u, if_neg hu_e, decide_eq_true rfl]
  by_cases h : 2 * r = s
  · rw [if_pos h, decide_eq_true (by omega)]
  · rw [if_neg h]
    by_cases g : s < 2 * r
    · rw [decide_eq_true g, decide_eq_true (by omega)]
    · rw [decide_eq_false g, decide_eq_false (by omega)]
theorem go_he (s q r : Int) : goesUp "half_even" s q r = (decide (s < 2 * r) || (decide (2 * r = s) && decide (q % 2 = 1))) := by
  unfold goesUp
  rw [if_neg he_d, if_neg he_u, if_pos rfl]
  by_cases h : 2 * r = s
  · rw [if_pos h, decide_eq_false (show ¬ s < 2 * r by omega), decide_eq_true h]
    rfl
  · rw [if_neg h, decide_eq_false h]
    simp
/-- what is known of a figure -/
structure Fig (o s : Int) (m : Str) (v q r k : Int) : Prop where
  eq : v - o = s * q + r
  r0 : 0 ≤ r
  r1 : r < s
  wh : (goesUp m s q r = true ∧ k = q + 1) ∨ (goesUp m s q r = false ∧ k = q)
theorem fig_of {o s : Int} {m : Str} {v : Int} (hs : 1 ≤ s) : Fig o s m v ((v - o) / s) ((v - o) % s) (figM o s m v) := by
  refine ⟨?_, Int.emod_nonneg _ (by omega), Int.emod_lt_of_pos _ (by omega), ?_⟩
  · have := Int.mul_ediv_add_emod (v - o) s
    omega
  · unfold figM
    cases h : goesUp m s ((v - o) / s) ((v - o) % s)
    · exact .inr ⟨rfl, by simp⟩
    · exact .inl ⟨rfl, by simp⟩
theorem divmod_eq {s q r x : Int} (hs : 1 ≤ s) (h : x = s * q + r) (r0 : 0 ≤ r) (r1 : r < s) : x / s = q ∧ x % s = r := by
  subst h
  constructor
  · rw [Int.add_comm, Int.add_mul_ediv_left _ _ (by omega), Int.ediv_eq_zero_of_lt r0 r1]
    omega
  · rw [Int.add_comm, Int.add_mul_emod_self_left]
    exact Int.emod_eq_of_lt r0 r1
theorem fig_uniq {o s : Int} {m : Str} {v q r k : Int} (hs : 1 ≤ s) (F : Fig o s m v q r k) : figM o s m v = k := by
  obtain ⟨e1, e2⟩ := divmod_eq hs F.eq F.r0 F.r1
  unfold figM
  rw [e1, e2]
  rcases F.wh with ⟨h, e⟩ | ⟨h, e⟩
  · rw [h, if_pos rfl, e]
  · rw [h, if_neg (by decide), e]
/-- going up wants a rest, and not going up a small one -/
theorem go_pos {m : Str} {s q r : Int} (hm : Mode m) (hs : 1 ≤ s) (r0 : 0 ≤ r) (h : goesUp m s q r = true) : 0 < r := by
  rcases hm with e | e | e | e | e <;> subst e
  · rw [go_down] at h; cases h
  · rw [go_up] at h; exact of_decide_eq_true h
  · rw [go_hd] at h; have := of_decide_eq_true h; omega
  · rw [go_hu] at h; have := of_decide_eq_true h; omega
  · rw [go_he, Bool.or_eq_true, Bool.and_eq_true] at h
    rcases h with h | ⟨h, _⟩ <;> have := of_decide_eq_true h <;> omega
theorem due_near {o s : Int} {m : Str} {v : Int} (hm : Mode m) (hs : 1 ≤ s) : dueM o s m v - v < s ∧ v - dueM o s m v < s := by
  have F := fig_of (o := o) (m := m) (v := v) hs
  unfold dueM
  generalize (v - o) / s = q at F
  generalize (v - o) % s = r at F
  obtain ⟨eq, r0, r1, wh⟩ := F
  rcases wh with ⟨h, e⟩ | ⟨h, e⟩
  · have := go_pos hm hs r0 h
    rw [e, Int.mul_add, Int.mul_one]
    generalize s * q = z at eq ⊢
    omega
  · rw [e]
    generalize s * q = z at eq ⊢
    omega
def half (m : Str) : Prop := m = "half_down" ∨ m = "half_up" ∨ m = "half_even"
theorem due_half {o s : Int} {m : Str} {v : Int} (hm : half m) (hs : 1 ≤ s) : 2 * (dueM o s m v - v) ≤ s ∧ 2 * (v - dueM o s m v) ≤ s := by
  have F := fig_of (o := o) (m := m) (v := v) hs
  unfold dueM
  generalize (v - o) / s = q at F
  generalize (v - o) % s = r at F
  obtain ⟨eq, r0, r1, wh⟩ := F
  have hb : (goesUp m s q r = true → s ≤ 2 * r) ∧ (goesUp m s q r = false → 2 * r ≤ s) := by
    rcases hm with e | e | e <;> subst e
    · rw [go_hd]; exact ⟨fun h => by have := of_decide_eq_true h; omega, fun h => by have := of_decide_eq_false h; omega⟩
    · rw [go_hu]; exact ⟨fun h => by have := of_decide_eq_true h; omega, fun h => by have := of_decide_eq_false h; omega⟩
    · rw [go_he]
      refine ⟨fun h => ?_, fun h => ?_⟩
      · rw [Bool.or_eq_true, Bool.and_eq_true] at h
        rcases h with h | ⟨h, _⟩ <;> have := of_decide_eq_true h <;> omega
      · rw [Bool.or_eq_false_iff] at h
        have := of_decide_eq_false h.1
        omega
  rcases wh with ⟨h, e⟩ | ⟨h, e⟩
  · have := hb.1 h
    rw [e, Int.mul_add, Int.mul_one]
    generalize s * q = z at eq ⊢
    omega
  · have := hb.2 h
    rw [e]
    generalize s * q = z at eq ⊢
    omega
theorem go_zero {m : Str} {s q : Int} (hm : Mode m) (hs : 1 ≤ s) : goesUp m s q 0 = false := by
  cases h : goesUp m s q 0 with
  | false => rfl
  | true => exact absurd (go_pos hm hs (Int.le_refl _) h) (by omega)
/-- what is written stands and is written as it is -/
theorem fig_at {o s k : Int} {m : Str} (hm : Mode m) (hs : 1 ≤ s) : figM o s m (o + s * k) = k :=
  fig_uniq (q := k) (r := 0) hs ⟨by omega, Int.le_refl _, by omega, .inr ⟨go_zero hm hs, rfl⟩⟩
theorem stands_at {o s k : Int} : (o + s * k - o) % s = 0 := by
  rw [show o + s * k - o = s * k by omega]
  exact Int.mul_emod_right s k
theorem due_eq {o s : Int} {m : Str} {v : Int} (hm : Mode m) (hs : 1 ≤ s) : (v - o) % s = 0 ↔ dueM o s m v = v := by
  have F := fig_of (o := o) (m := m) (v := v) hs
  unfold dueM
  generalize (v - o) / s = q at F
  generalize (v - o) % s = r at F ⊢
  obtain ⟨eq, r0, r1, wh⟩ := F
  rcases wh with ⟨h, e⟩ | ⟨h, e⟩
  · have := go_pos hm hs r0 h
    rw [e, Int.mul_add, Int.mul_one]
    generalize s * q = z at eq ⊢
    omega
  · rw [e]
    generalize s * q = z at eq ⊢
    omega
theorem go_mono {m : Str} {s q r : Int} (hm : Mode m) (h : goesUp m s q r = true) : goesUp m s q (r + 1) = true := by
  rcases hm with e | e | e | e | e <;> subst e
  · rw [go_down] at h; cases h
  · rw [go_up] at h ⊢; have := of_decide_eq_true h; exact decide_eq_true (by omega)
  · rw [go_hd] at h ⊢; have := of_decide_eq_true h; exact decide_eq_true (by omega)
  · rw [go_hu] at h ⊢; have := of_decide_eq_true h; exact decide_eq_true (by omega)
  · rw [go_he] at h ⊢
    have : s ≤ 2 * r := by
      rw [Bool.or_eq_true, Bool.and_eq_true] at h
      rcases h with h | ⟨h, _⟩ <;> have := of_decide_eq_true h <;> omega
    rw [decide_eq_true (show s < 2 * (r + 1) by omega)]
    rfl
theorem fig_mono {o s : Int} {m : Str} {v : Int} (hm : Mode m) (hs : 1 ≤ s) : figM o s m v ≤ figM o s m (v + 1) := by
  have F := fig_of (o := o) (m := m) (v := v) hs
  generalize (v - o) / s = q at F
  generalize (v - o) % s = r at F
  obtain ⟨eq, r0, r1, wh⟩ := F
  by_cases hr : r + 1 < s
  · cases g : goesUp m s q (r + 1) with
    | true =>
      rw [fig_uniq (v := v + 1) (q := q) (r := r + 1) (k := q + 1) hs ⟨by omega, by omega, hr, .inl ⟨g, rfl⟩⟩]
      rcases wh with ⟨_, e⟩ | ⟨_, e⟩ <;> omega
    | false =>
      rw [fig_uniq (v := v + 1) (q := q) (r := r + 1) (k := q) hs ⟨by omega, by omega, hr, .inr ⟨g, rfl⟩⟩]
      rcases wh with ⟨h, e⟩ | ⟨_, e⟩
      · rw [go_mono hm h] at g
        cases g
      · omega
  · rw [fig_uniq (v := v + 1) (q := q + 1) (r := 0) (k := q + 1) hs ⟨by rw [Int.mul_add, Int.mul_one]; omega, by omega, by omega, .inr ⟨go_zero hm hs, rfl⟩⟩]
    rcases wh with ⟨_, e⟩ | ⟨_, e⟩ <;> omega
theorem due_mono {o s : Int} {m : Str} {v : Int} (hm : Mode m) (hs : 1 ≤ s) : dueM o s m v ≤ dueM o s m (v + 1) := by
  unfold dueM
  have := Int.mul_le_mul_of_nonneg_left (fig_mono (o := o) (v := v) hm hs) (show 0 ≤ s by omega)
  omega
theorem go_two {m : Str} {s q r : Int} (hm : Mode m) : goesUp m s (q + 2) r = goesUp m s q r := by
  rcases hm with e | e | e | e | e <;> subst e
  · rw [go_down, go_down]
  · rw [go_up, go_up]
  · rw [go_hd, go_hd]
  · rw [go_hu, go_hu]
  · rw [go_he, go_he, show (q + 2) % 2 = q % 2 by omega]
theorem due_two {o s : Int} {m : Str} {v : Int} (hm : Mode m) (hs : 1 ≤ s) : dueM o s m (v + s * 2) = dueM o s m v + s * 2 := by
  have F := fig_of (o := o) (m := m) (v := v) hs
  unfold dueM
  generalize (v - o) / s = q at F
  generalize (v - o) % s = r at F
  obtain ⟨eq, r0, r1, wh⟩ := F
  rw [fig_uniq (v := v + s * 2) (q := q + 2) (r := r) (k := figM o s m v + 2) hs ⟨by rw [Int.mul_add]; omega, r0, r1, ?_⟩, Int.mul_add]
  · omega
  · rw [go_two hm]
    rcases wh with ⟨h, e⟩ | ⟨h, e⟩
    · exact .inl ⟨h, by omega⟩
    · exact .inr ⟨h, by omega⟩
/-! ### bounds -/
def Bd (x : Int) : Prop := -2 ^ 1000 < x ∧ x < 2 ^ 1000
theorem div_bd {x s b : Int} (hs : 1 ≤ s) (h0 : -b < x) (h1 : x < b) : -b < x / s ∧ x / s < b := by
  by_cases hx : 0 ≤ x
  · have a := Int.ediv_nonneg hx (show 0 ≤ s by omega)
    have c := Int.ediv_le_self s hx
    omega
  · have a : x ≤ x / s := by
      rw [Int.le_ediv_iff_mul_le (by omega)]
      have := Int.mul_le_mul_of_nonpos_left (show x ≤ 0 by omega) hs
      omega
    have c : x / s < 0 := Int.ediv_neg_of_neg_of_pos (by omega) (by omega)
    omega
end HT
namespace HT
open PySem L2
/-! ### spans -/
def below (m : Str) (s k : Int) : Int := if m = "down" then 0 else if m = "up" then s - 1 else if m = "half_up" ∨ (m = "half_even" ∧ k % 2 = 0) then s / 2 else (s - 1) / 2
def mir (m : Str) : Str := if m = "down" then "up" else if m = "up" then "down" else if m = "half_down" then "half_up" else if m = "half_up" then "half_down" else "half_even"
def lowM (o s : Int) (m : Str) (k : Int) : Int := o + s * k - below m s k
def highM (o s : Int) (m : Str) (k : Int) : Int := o + s * k + below (mir m) s k
theorem mir_d : mir "down" = "up" := by unfold mir; rw [if_pos rfl]
theorem mir_u : mir "up" = "down" := by unfold mir; rw [if_neg d_u, if_pos rfl]
theorem mir_hd : mir "half_down" = "half_up" := by unfold mir; rw [if_neg hd_d, if_neg hd_u, if_pos rfl]
theorem mir_hu : mir "half_up" = "half_down" := by unfold mir; rw [if_neg hu_d, if_neg hu_u, if_neg hu_hd, if_pos rfl]
theorem mir_he : mir "half_even" = "half_even" := by unfold mir; rw [if_neg he_d, if_neg he_u, if_neg he_hd, if_neg he_hu]
theorem be_d (s k : Int) : below "down" s k = 0 := by unfold below; rw [if_pos rfl]
theorem be_u (s k : Int) : below "up" s k = s - 1 := by unfold below; rw [if_neg d_u, if_pos rfl]
theorem be_hd (s k : Int) : below "half_down" s k = (s - 1) / 2 := by
  unfold below
  rw [if_neg hd_d, if_neg hd_u, if_neg]
  rintro (z | ⟨z, _⟩)
  · exact hd_hu z
  · exact hd_e z
theorem be_hu (s k : Int) : below "half_up" s k = s / 2 := by unfold below; rw [if_neg hu_d, if_neg hu_u, if_pos (.inl rfl)]
theorem be_he (s k : Int) : below "half_even" s k = if k % 2 = 0 then s / 2 else (s - 1) / 2 := by
  unfold below
  rw [if_neg he_d, if_neg he_u]
  by_cases h : k % 2 = 0
  · rw [if_pos (.inr ⟨rfl, h⟩), if_pos h]
  · rw [if_neg h, if_neg]
    rintro (z | ⟨_, z⟩)
    · exact he_hu z
    · exact h z
theorem mir_mode {m : Str} (h : Mode m) : Mode (mir m) := by
  rcases h with e | e | e | e | e <;> subst e
  · rw [mir_d]; exact .inr (.inl rfl)
  · rw [mir_u]; exact .inl rfl
  · rw [mir_hd]; exact .inr (.inr (.inr (.inl rfl)))
  · rw [mir_hu]; exact .inr (.inr (.inl rfl))
  · rw [mir_he]; exact .inr (.inr (.inr (.inr rfl)))
theorem below_bd {m : Str} {s k : Int} (h : Mode m) (hs : 1 ≤ s) : 0 ≤ below m s k ∧ below m s k < s := by
  rcases h with e | e | e | e | e <;> subst e
  · rw [be_d]; omega
  · rw [be_u]; omega
  · rw [be_hd]; omega
  · rw [be_hu]; omega
  · rw [be_he]; split <;> omega
theorem up_iff {m : Str} {s q r : Int} (h : Mode m) (r0 : 0 ≤ r) (r1 : r < s) : goesUp m s q r = true ↔ below (mir m) s q < r := by
  rcases h with e | e | e | e | e <;> subst e
  · rw [go_down, mir_d, be_u]
    exact ⟨fun z => (Bool.false_ne_true z).elim, fun z => absurd z (by omega)⟩
  · rw [go_up, mir_u, be_d, decide_eq_true_eq]
  · rw [go_hd, mir_hd, be_hu, decide_eq_true_eq]; omega
  · rw [go_hu, mir_hu, be_hd, decide_eq_true_eq]; omega
  · rw [go_he, mir_he, be_he, Bool.or_eq_true, Bool.and_eq_true, decide_eq_true_eq, decide_eq_true_eq, decide_eq_true_eq]
    split <;> omega
theorem touch {m : Str} {s : Int} (q : Int) (h : Mode m) (hs : 1 ≤ s) : below m s (q + 1) + below (mir m) s q = s - 1 := by
  rcases h with e | e | e | e | e <;> subst e
  · rw [be_d, mir_d, be_u]; omega
  · rw [be_u, mir_u, be_d]; omega
  · rw [be_hd, mir_hd, be_hu]; omega
  · rw [be_hu, mir_hu, be_hd]; omega
  · rw [be_he, mir_he, be_he]; split <;> split <;> omega
theorem mul_lt_step {s q k : Int} (hs : 1 ≤ s) (h : q < k) : s * q + s ≤ s * k := by
  have := Int.mul_le_mul_of_nonneg_left (show q + 1 ≤ k by omega) (show 0 ≤ s by omega)
  rw [Int.mul_add, Int.mul_one] at this
  exact this
/-- a value comes to k just between the ends -/
theorem fig_iff {o s : Int} {m : Str} {v k : Int} (h : Mode m) (hs : 1 ≤ s) : figM o s m v = k ↔ lowM o s m k ≤ v ∧ v ≤ highM o s m k := by
  have F := fig_of (o := o) (m := m) (v := v) hs
  generalize (v - o) / s = q at F
  generalize (v - o) % s = r at F
  generalize figM o s m v = f at F ⊢
  obtain ⟨eq, r0, r1, wh⟩ := F
  have ui := up_iff (q := q) h r0 r1
  have t1 := touch (k - 1) h hs
  rw [show k - 1 + 1 = k by omega] at t1
  have bk := below_bd (k := k) (mir_mode h) hs
  have bk1 := below_bd (k := k - 1) (mir_mode h) hs
  have bq := below_bd (k := q) (mir_mode h) hs
  unfold lowM highM
  have hf : (f = q + 1 ∧ below (mir m) s q < r) ∨ (f = q ∧ r ≤ below (mir m) s q) := by
    rcases wh with ⟨g, e⟩ | ⟨g, e⟩
    · exact .inl ⟨e, ui.mp g⟩
    · refine .inr ⟨e, ?_⟩
      have : ¬ below (mir m) s q < r := fun z => by rw [ui.mpr z] at g; cases g
      omega
  rcases Int.lt_trichotomy q k with hq | hq | hq
  · rcases Int.lt_trichotomy (q + 1) k with hq1 | hq1 | hq1
    · have := mul_lt_step hs (show q + 1 < k from hq1)
      rw [Int.mul_add, Int.mul_one] at this
      generalize s * q = a at *
      generalize s * k = b at *
      constructor
      · intro z; omega
      · intro z; omega
    · have e : q = k - 1 := by omega
      subst e
      have : s * (k - 1) = s * k - s := by rw [Int.mul_sub, Int.mul_one]
      generalize s * (k - 1) = a at *
      generalize s * k = b at *
      constructor
      · intro z; omega
      · intro z; omega
    · omega
  · subst hq
    generalize s * q = a at *
    constructor
    · intro z; omega
    · intro z; omega
  · have := mul_lt_step hs hq
    generalize s * q = a at *
    generalize s * k = b at *
    constructor
    · intro z; omega
    · intro z; omega
theorem low_high {o s : Int} {m : Str} {k : Int} (h : Mode m) (hs : 1 ≤ s) : lowM o s m k ≤ o + s * k ∧ o + s * k ≤ highM o s m k := by
  have a := below_bd (k := k) h hs
  have b := below_bd (k := k) (mir_mode h) hs
  unfold lowM highM
  omega
theorem low_next {o s : Int} {m : Str} (k : Int) (h : Mode m) (hs : 1 ≤ s) : lowM o s m (k + 1) = highM o s m k + 1 := by
  have := touch k h hs
  unfold lowM highM
  rw [Int.mul_add, Int.mul_one]
  omega
theorem high_prev {o s : Int} {m : Str} (k : Int) (h : Mode m) (hs : 1 ≤ s) : highM o s m (k - 1) = lowM o s m k - 1 := by
  have := low_next (o := o) (k - 1) h hs
  rw [show k - 1 + 1 = k by omega] at this
  omega
theorem fig_low {o s : Int} {m : Str} (k : Int) (h : Mode m) (hs : 1 ≤ s) : figM o s m (lowM o s m k) = k := by
  have a := low_high (o := o) (k := k) h hs
  exact (fig_iff h hs).mpr ⟨by omega, by omega⟩
theorem fig_high {o s : Int} {m : Str} (k : Int) (h : Mode m) (hs : 1 ≤ s) : figM o s m (highM o s m k) = k := by
  have a := low_high (o := o) (k := k) h hs
  exact (fig_iff h hs).mpr ⟨by omega, by omega⟩
theorem fig_low1 {o s : Int} {m : Str} (k : Int) (h : Mode m) (hs : 1 ≤ s) : figM o s m (lowM o s m k - 1) = k - 1 := by
  rw [← high_prev k h hs]
  exact fig_high _ h hs
theorem fig_high1 {o s : Int} {m : Str} (k : Int) (h : Mode m) (hs : 1 ≤ s) : figM o s m (highM o s m k + 1) = k + 1 := by
  rw [← low_next k h hs]
  exact fig_low _ h hs
/-- the figure of the least standing value that is not less -/
def ceilM (o s v : Int) : Int := -((o - v) / s)
theorem ceil_eq {o s v : Int} (hs : 1 ≤ s) : v ≤ o + s * ceilM o s v ∧ o + s * (ceilM o s v - 1) < v := by
  have a := Int.mul_ediv_add_emod (o - v) s
  have b := Int.emod_nonneg (o - v) (show s ≠ 0 by omega)
  have c := Int.emod_lt_of_pos (o - v) (show 0 < s by omega)
  unfold ceilM
  rw [Int.mul_sub, Int.mul_one, Int.mul_neg]
  omega
def backM (o s : Int) (m : Str) (v : Int) : Int := lowM o s m (ceilM o s v)
theorem back_ge {o s : Int} {m : Str} {v : Int} (h : Mode m) (hs : 1 ≤ s) : v ≤ dueM o s m (backM o s m v) := by
  unfold dueM backM
  rw [fig_low _ h hs]
  exact (ceil_eq hs).1
theorem back_lt {o s : Int} {m : Str} {v : Int} (h : Mode m) (hs : 1 ≤ s) : dueM o s m (backM o s m v - 1) < v := by
  unfold dueM backM
  rw [fig_low1 _ h hs]
  exact (ceil_eq hs).2
theorem mul_b {s k : Int} (s0 : 1 ≤ s) (s1 : s ≤ 10 ^ 30) (h : -2 ^ 720 < k ∧ k < 2 ^ 720) : -2 ^ 820 < s * k ∧ s * k < 2 ^ 820 := by
  have h1 : (s * k).natAbs < 2 ^ (100 + 720) := wide_lt (a := 100) (b := 720) (by omega) (by omega)
  omega
end HT
namespace HT
open PySem L2
theorem lg_big {n : Int} (h0 : 0 ≤ n) (h : n < 2 ^ 200) : n.natAbs.log2 < 9000 := by
  obtain ⟨m, rfl⟩ := Int.eq_ofNat_of_zero_le h0
  exact lg_nat (by omega)
def modesV : List V := [.str "down", .str "up", .str "half_down", .str "half_up", .str "half_even"]
/-- the further names that the text of sides does not bind, and its table of modes -/
structure SideT (K : PySem.W.Frag) (mg : Str → Option Value) (aM : Addr) : Prop where
  isi : mg "isinstance" = none
  int : mg "int" = none
  bool : mg "bool" = none
  tuple : mg "tuple" = none
  len : mg "len" = none
  dm : mg "divmod" = none
  gM : mg "MODES" = some (.ref aM)
  tM : ∀ H, SqT K H aM modesV
def spIsInt : Sp := fun vs H Q _ => ∃ i : Int, vs = [.int i] ∧ Q (.bl true) H
def spBetween : Sp := fun vs H Q _ => ∃ i a b : Int, vs = [.int i, .int a, .int b] ∧ Q (.bl (decide (a ≤ i) && decide (i ≤ b))) H
def spCheckValue : Sp := fun vs H Q _ => ∃ i : Int, vs = [.int i] ∧ Q .non H
def spCheckSide : Sp := fun vs H Q _ => ∃ (p : Addr) (o s : Int) (m : Str), vs = [.ref p] ∧ H p = some (sideV o s m) ∧ SideP o s m ∧ Q .non H
def spGo : Sp := fun vs H Q _ => ∃ (m : Str) (s q r : Int), vs = [.str m, .int s, .int q, .int r] ∧ Q (.bl (goesUp m s q r)) H
def spSV (f : Int → Int → Str → Int → V) : Sp := fun vs H Q _ => ∃ (p : Addr) (o s : Int) (m : Str) (v : Int), vs = [.ref p, .int v] ∧ H p = some (sideV o s m) ∧ SideP o s m ∧ Bd v ∧ ∀ H', Same H H' → Q (f o s m v) H'
def spFig : Sp := spSV fun o s m v => .int (figM o s m v)
def spDue : Sp := spSV fun o s m v => .int (dueM o s m v)
def spStands : Sp := spSV fun o s m v => .bl (decide ((v - o) % s = 0))
theorem dec_int (a b : Int) : decide (V.int a = V.int b) = decide (a = b) := by
  by_cases h : a = b
  · rw [decide_eq_true h, h, decide_eq_true rfl]
  · rw [decide_eq_false h, decide_eq_false (fun z => h (V.int.inj z))]
theorem dec_str (a b : Str) : decide (V.str a = V.str b) = decide (a = b) := by
  by_cases h : a = b
  · rw [decide_eq_true h, h, decide_eq_true rfl]
  · rw [decide_eq_false h, decide_eq_false (fun z => h (V.str.inj z))]
theorem dec_bl (a b : Bool) : decide (V.bl a = V.bl b) = decide (a = b) := by
  by_cases h : a = b
  · rw [decide_eq_true h, h, decide_eq_true rfl]
  · rw [decide_eq_false h, decide_eq_false (fun z => h (V.bl.inj z))]
theorem str_t {a b : Str} (h : decide (V.str a = V.str b) = true) : a = b := V.str.inj (of_decide_eq_true h)
theorem str_f {a b : Str} (h : ¬ decide (V.str a = V.str b) = true) : ¬ a = b := fun z => h (decide_eq_true (congrArg V.str z))
theorem int_t {a b : Int} (h : decide (V.int a = V.int b) = true) : a = b := V.int.inj (of_decide_eq_true h)
theorem int_f {a b : Int} (h : ¬ decide (V.int a = V.int b) = true) : ¬ a = b := fun z => h (decide_eq_true (congrArg V.int z))
theorem not_t {b : Bool} (h : (!b) = true) : ¬ b = true := by cases b <;> simp_all
theorem not_f {b : Bool} (h : ¬ (!b) = true) : b = true := by cases b <;> simp_all
theorem mode_in {m : Str} (h : Mode m) : inV (.str m) modesV = true := by
  rcases h with e | e | e | e | e <;> subst e <;> decide +kernel
theorem divp {o v s : Int} (hs : 1 ≤ s) (ho : -10 ^ 40 ≤ o ∧ o ≤ 10 ^ 40) (hv : Bd v) : CDivP (v - o) s := by
  refine divp_ok (by omega) ?_
  have h : (v - o).natAbs < 2 ^ 1010 := by
    have h1 := hv.1
    have h2 := hv.2
    omega
  have h2 : Builtin.Int.intBits (v - o) ≤ 1011 := by
    unfold Builtin.Int.intBits
    split
    · omega
    · have := PySem.Flt.log2_lt_of (by decide) h
      omega
  omega
theorem mulW {i j : Int} (hi : -2 ^ 1010 < i ∧ i < 2 ^ 1010) (hj : -2 ^ 1010 < j ∧ j < 2 ^ 1010) : CMulW i j := wide_mul (a := 1010) (b := 1010) (by omega) (by omega) (by decide) (by decide) (by decide)
theorem fig_bd {o s : Int} {m : Str} {v : Int} (S : SideP o s m) (hv : Bd v) : -2 ^ 1001 < figM o s m v ∧ figM o s m v < 2 ^ 1001 := by
  obtain ⟨h1, h2⟩ := hv
  obtain ⟨o0, o1, s0, s1, _⟩ := S
  have := div_bd (x := v - o) (b := 2 ^ 1000 + 10 ^ 40) s0 (by omega) (by omega)
  unfold figM
  split <;> omega
section
variable {P : Program} {w : World} {K : PySem.W.Frag} {mg : Str → Option Value} {base : Heap} {aM fI fB fV fC fG fF : Addr} {dI dB dV dC dG dF : FuncData}
theorem ok_is_int {f : Addr} {fd : FuncData} (F : Fun K "is_int" "is_int" s_is_int f fd) (T : SideT K mg aM) : FnOk P w K mg base CX0 1 f fd ["thing"] spIsInt := by
  refine F.ok sc_is_int (fun vs H Q E h => ?_) (fun cdv A outer s H vs Q E hr h => ?_)
  · obtain ⟨i, rfl, _⟩ := h
    rfl
  · obtain ⟨i, rfl, q⟩ := h
    refine ⟨_, pss_one (ps_ret (pe_and (pe_callB call_isi (by rfl) T.isi (by decide +kernel) (pa_cons (pv 0) (pa_cons (pe_bltn (v := .ty "int") (by rfl) T.int (by decide +kernel) rfl) pa_nil)))
      (pe_one (pe_not (pe_callB call_isi (by rfl) T.isi (by decide +kernel) (pa_cons (pv 0) (pa_cons (pe_bltn (v := .ty "bool") (by rfl) T.bool (by decide +kernel) rfl) pa_nil))))))), ?_⟩
    walk_at "rd"
    refine ⟨_, _, _, _, _, rfl, .ty "int", .base (.int _), kit_ty (r := true) (by decide +kernel), ?_⟩
    walk_at "rd"
    refine ⟨_, _, _, _, _, rfl, .ty "bool", .base (.int _), kit_ty (r := false) (by decide +kernel), ?_⟩
    walk_at "rd"
    exact q
theorem ok_between {f : Addr} {fd : FuncData} (F : Fun K "is_int_between" "is_int_between" s_is_int_between f fd) (I : Cal P w K mg base "is_int" 1 ["thing"] spIsInt fI dI) : FnOk P w K mg base CX0 2 f fd ["thing", "least", "most"] spBetween := by
  refine F.ok sc_is_int_between (fun vs H Q E h => ?_) (fun cdv A outer s H vs Q E hr h => ?_)
  · obtain ⟨i, a, b, rfl, _⟩ := h
    rfl
  · obtain ⟨i, a, b, rfl, q⟩ := h
    refine ⟨_, pss_one (ps_ret (pe_and (pcl I hr (by decide) (by rfl) (pa_cons (pv 0) pa_nil)) (pe_one (pe_chain op_le op_le (pv 1) (pv 0) (pv 2))))), ?_⟩
    walk_at "rd"
    refine ite2 (fun h => ?_) (fun h => ?_)
    · walk_at "rd"
      rw [decide_eq_true (of_decide_eq_true h)] at q
      exact q
    · rw [decide_eq_false (of_decide_eq_false (by simpa using h))] at q
      exact q
theorem ok_check_value {f : Addr} {fd : FuncData} (F : Fun K "check_value" "check_value" s_check_value f fd) (I : Cal P w K mg base "is_int" 1 ["thing"] spIsInt fI dI) : FnOk P w K mg base CX0 2 f fd ["value"] spCheckValue := by
  refine F.ok sc_check_value (fun vs H Q E h => ?_) (fun cdv A outer s H vs Q E hr h => ?_)
  · obtain ⟨i, rfl, _⟩ := h
    rfl
  · obtain ⟨i, rfl, q⟩ := h
    refine ⟨_, pss_one (ps_if (pt_not (pt_val (pcl I hr (by decide) (by rfl) (pa_cons (pv 0) pa_nil)))) (pss_one ps_never) pss_nil), ?_⟩
    walk_at "rd"
    exact q
theorem ok_check_side {f : Addr} {fd : FuncData} (F : Fun K "check_side" "check_side" s_check_side f fd) (T : SideT K mg aM) (B : Cal P w K mg base "is_int_between" 2 ["thing", "least", "most"] spBetween fB dB) : FnOk P w K mg base CX0 3 f fd ["side"] spCheckSide := by
  refine F.ok sc_check_side (fun vs H Q E h => ?_) (fun cdv A outer s H vs Q E hr h => ?_)
  · obtain ⟨p, o, s, m, rfl, _⟩ := h
    rfl
  · obtain ⟨p, o, s, m, rfl, hp, S, q⟩ := h
    have nd := sc_check_side.nd
    refine ⟨_, pss_cons (ps_if (PW.pt (pw_or (pt_not (pt_val (pe_callB call_isi (by rfl) T.isi (by decide +kernel) (pa_cons (pv 0) (pa_cons (pe_bltn (v := .ty "tuple") (by rfl) T.tuple (by decide +kernel) rfl) pa_nil)))))
        (pw_or1 (pt_cmpR op_ne (pe_callB call_len_seq (by rfl) T.len PySem.boot_len (pa_cons (pv 0) pa_nil)) pe_int (nomark _))))) (pss_one ps_never) pss_nil)
      (pss_cons (ps_asg (pv 0) (pg_tup (by rfl) (pgs_cons (pg_name (i := 1) nd rfl (Or.inl rfl)) (pgs_cons (pg_name (i := 2) nd rfl (Or.inl rfl)) (pgs_cons (pg_name (i := 3) nd rfl (Or.inl rfl)) pgs_nil)))))
      (pss_cons (ps_if (pt_not (pt_val (pcl B hr (by decide) (by rfl) (pa_cons (pv 1) (pa_cons (pe_un un_neg (pe_op op_pow pe_int pe_int)) (pa_cons (pe_op op_pow pe_int pe_int) pa_nil)))))) (pss_one ps_never) pss_nil)
      (pss_cons (ps_if (pt_not (pt_val (pcl B hr (by decide) (by rfl) (pa_cons (pv 2) (pa_cons pe_int (pa_cons (pe_op op_pow pe_int pe_int) pa_nil)))))) (pss_one ps_never) pss_nil)
      (pss_one (ps_if (pt_cmpR op_notIn_seq (pv 3) (pe_glob (v := .ref aM) (by rfl) T.gM rfl) (by rfl)) (pss_one ps_never) pss_nil))))), ?_⟩
    walk_at "rd"
    refine ⟨_, _, _, _, _, rfl, .ty "tuple", .base (.tup hp), kit_ty (r := true) (by decide +kernel), ?_⟩
    walk_at "rd"
    refine ⟨p, _, rfl, .inr (SqT.of hp), rfl, ?_⟩
    walk_at "rd"
    refine ⟨p, _, rfl, SqT.of hp, rfl, _, _, rfl, _, _, rfl, _, _, rfl, rfl, ?_⟩
    walk_at "rd"
    refine ⟨⟨by decide, by decide, by decide⟩, ?_⟩
    walk_at "rd"
    refine ⟨⟨by decide, by decide, by decide⟩, _, _, _, rfl, ?_⟩
    have e1 : (decide (-(10 : Int) ^ (40 : Int).toNat ≤ o) && decide (o ≤ (10 : Int) ^ (40 : Int).toNat)) = true := by
      rw [decide_eq_true (show -(10 : Int) ^ (40 : Int).toNat ≤ o from S.o0), decide_eq_true (show o ≤ (10 : Int) ^ (40 : Int).toNat from S.o1)]
      rfl
    refine ⟨_, rfl, ?_⟩
    refine ite2 (fun h => (not_t h e1).elim) (fun _ => ?_)
    walk_at "rd"
    refine ⟨⟨by decide, by decide, by decide⟩, _, _, _, rfl, ?_⟩
    have e2 : (decide ((1 : Int) ≤ s) && decide (s ≤ (10 : Int) ^ (30 : Int).toNat)) = true := by
      rw [decide_eq_true S.s0, decide_eq_true (show s ≤ (10 : Int) ^ (30 : Int).toNat from S.s1)]
      rfl
    refine ⟨_, rfl, ?_⟩
    refine ite2 (fun h => (not_t h e2).elim) (fun _ => ?_)
    walk_at "rd"
    refine ⟨aM, _, rfl, .inr (T.tM H), rfl, by decide, ?_⟩
    walk_at "rd"
    refine ite2 (fun h => (not_t h (mode_in S.md)).elim) (fun _ => ?_)
    exact q
end
end HT
namespace HT
open PySem L2
section
variable {P : Program} {w : World} {K : PySem.W.Frag} {mg : Str → Option Value} {base : Heap} {aM fI fB fV fC fG fF : Addr} {dI dB dV dC dG dF : FuncData}
theorem ok_goes_up {f : Addr} {fd : FuncData} (F : Fun K "_goes_up" "_goes_up" s_goes_up f fd) : FnOk P w K mg base CX0 1 f fd ["mode", "step", "figure", "rest"] spGo := by
  refine F.ok sc_goes_up (fun vs H Q E h => ?_) (fun cdv A outer s H vs Q E hr h => ?_)
  · obtain ⟨m, s, q, r, rfl, _⟩ := h
    rfl
  · obtain ⟨m, s, fg, r, rfl, q⟩ := h
    refine ⟨_, pss_cons (ps_if (pt_cmpR op_eq (pv 0) pe_str (nomark _)) (pss_one (ps_ret pe_bl)) pss_nil)
      (pss_cons (ps_if (pt_cmpR op_eq (pv 0) pe_str (nomark _)) (pss_one (ps_ret (pe_cmpR op_gt (pv 3) pe_int (nomark _)))) pss_nil)
      (pss_cons (ps_if (pt_cmpR op_ne (pe_op op_mul pe_int (pv 3)) (pv 1) (nomark _)) (pss_one (ps_ret (pe_cmpR op_gt (pe_op op_mul pe_int (pv 3)) (pv 1) (nomark _)))) pss_nil)
      (pss_cons (ps_if (pt_cmpR op_eq (pv 0) pe_str (nomark _)) (pss_one (ps_ret (pe_cmpR op_eq (pe_op op_mod (pv 2) pe_int) pe_int (nomark _)))) pss_nil)
      (pss_one (ps_ret (pe_cmpR op_eq (pv 0) pe_str (nomark _))))))), ?_⟩
    unfold goesUp at q
    walk_at "rd"
    refine ⟨rfl, ?_⟩
    walk_at "rd"
    refine ite2 (fun h => ?_) (fun h1 => ?_)
    · rw [if_pos (str_t h)] at q
      exact q
    rw [if_neg (str_f h1)] at q
    walk_at "rd"
    refine ⟨rfl, ?_⟩
    walk_at "rd"
    refine ite2 (fun h => ?_) (fun h2 => ?_)
    · rw [if_pos (str_t h)] at q
      walk_at "rd"
      exact q
    rw [if_neg (str_f h2)] at q
    walk_at "rd"
    refine ⟨.inl ⟨by decide, by decide⟩, ?_⟩
    walk_at "rd"
    refine ⟨rfl, ?_⟩
    walk_at "rd"
    refine ite2 (fun h => ?_) (fun h3 => ?_)
    · rw [if_neg (int_f (not_t h))] at q
      walk_at "rd"
      refine ⟨.inl ⟨by decide, by decide⟩, ?_⟩
      walk_at "rd"
      exact q
    rw [if_pos (int_t (not_f h3))] at q
    walk_at "rd"
    refine ⟨rfl, ?_⟩
    walk_at "rd"
    refine ite2 (fun h => ?_) (fun h4 => ?_)
    · rw [if_pos (str_t h), ← dec_int] at q
      walk_at "rd"
      refine ⟨(by show (0 : Int) < 2; decide), ?_⟩
      walk_at "rd"
      exact ⟨rfl, q⟩
    · rw [if_neg (str_f h4), ← dec_str] at q
      walk_at "rd"
      exact ⟨rfl, q⟩
theorem ok_figure {f : Addr} {fd : FuncData} (F : Fun K "_figure" "_figure" s_figure f fd) (T : SideT K mg aM)
    (G : Cal P w K mg base "_goes_up" 1 ["mode", "step", "figure", "rest"] spGo fG dG) : FnOk P w K mg base CX0 2 f fd ["side", "value"] spFig := by
  refine F.ok sc_figure (fun vs H Q E h => ?_) (fun cdv A outer s H vs Q E hr h => ?_)
  · obtain ⟨p, o, s, m, v, rfl, _⟩ := h
    rfl
  · obtain ⟨p, o, s, m, v, rfl, hp, S, hv, q⟩ := h
    have nd := sc_figure.nd
    refine ⟨_, pss_cons (ps_asg (pv 0) (pg_tup (by rfl) (pgs_cons (pg_name (i := 2) nd rfl (Or.inl rfl)) (pgs_cons (pg_name (i := 3) nd rfl (Or.inl rfl)) (pgs_cons (pg_name (i := 4) nd rfl (Or.inl rfl)) pgs_nil)))))
      (pss_cons (ps_asg (pe_callB call_divmodW (by rfl) T.dm (by decide +kernel) (pa_cons (pe_op op_sub (pv 1) (pv 2)) (pa_cons (pv 3) pa_nil))) (pg_tup (by rfl) (pgs_cons (pg_name (i := 5) nd rfl (Or.inl rfl)) (pgs_cons (pg_name (i := 6) nd rfl (Or.inl rfl)) pgs_nil))))
      (pss_cons (ps_if (pt_val (pcl G hr (by decide) (by rfl) (pa_cons (pv 4) (pa_cons (pv 3) (pa_cons (pv 5) (pa_cons (pv 6) pa_nil)))))) (pss_one (ps_ret (pe_op op_add (pv 5) pe_int))) pss_nil)
      (pss_one (ps_ret (pv 5))))), ?_⟩
    walk_at "rd"
    refine ⟨p, _, rfl, SqT.of hp, rfl, _, _, rfl, _, _, rfl, _, _, rfl, rfl, ?_⟩
    walk_at "rd"
    refine ⟨_, _, rfl, divp S.s0 ⟨S.o0, S.o1⟩ hv, fun d nd' => ?_⟩
    refine ⟨d, _, rfl, SqT.of upd_same, rfl, _, _, rfl, _, _, rfl, rfl, ?_⟩
    have sm : Same H (upd H d (.tup [.int ((v - o) / s), .int ((v - o) % s)])) := fun b u z => by rw [upd_ne (ne_of_none z nd')]; exact z
    have q' : Q (.int (figM o s m v)) (upd H d (.tup [.int ((v - o) / s), .int ((v - o) % s)])) := q _ sm
    unfold figM at q'
    walk_at "rd"
    refine ⟨_, _, _, _, rfl, ?_⟩
    walk_at "rd"
    refine ite2 (fun h => ?_) (fun h => ?_)
    · rw [if_pos h] at q'
      walk_at "rd"
      exact q'
    · rw [if_neg h] at q'
      walk_at "rd"
      exact q'
end
end HT
namespace HT
open PySem L2
section
variable {P : Program} {w : World} {K : PySem.W.Frag} {mg : Str → Option Value} {base : Heap} {fF : Addr} {dF : FuncData}
theorem ok_written {f : Addr} {fd : FuncData} (F : Fun K "written" "written" s_written f fd) (G : Cal P w K mg base "_figure" 2 ["side", "value"] spFig fF dF) : FnOk P w K mg base CX0 3 f fd ["side", "value"] spDue := by
  refine F.ok sc_written (fun vs H Q E h => ?_) (fun cdv A outer s H vs Q E hr h => ?_)
  · obtain ⟨p, o, s, m, v, rfl, _⟩ := h
    rfl
  · obtain ⟨p, o, s, m, v, rfl, hp, S, hv, q⟩ := h
    have nd := sc_written.nd
    refine ⟨_, pss_cons (ps_asg (pv 0) (pg_tup (by rfl) (pgs_cons (pg_name (i := 2) nd rfl (Or.inl rfl)) (pgs_cons (pg_name (i := 3) nd rfl (Or.inl rfl)) (pgs_cons (pg_name (i := 4) nd rfl (Or.inl rfl)) pgs_nil)))))
      (pss_one (ps_ret (pe_op op_add (pv 2) (pe_op op_mulW (pv 3) (pcl G hr (by decide) (by rfl) (pa_cons (pv 0) (pa_cons (pv 1) pa_nil))))))), ?_⟩
    walk_at "rd"
    refine ⟨p, _, rfl, SqT.of hp, rfl, _, _, rfl, _, _, rfl, _, _, rfl, rfl, ?_⟩
    walk_at "rd"
    refine ⟨p, o, s, m, v, rfl, hp, S, hv, fun H' sm => ?_⟩
    walk_at "rd"
    have b1 := fig_bd S hv
    have b2 := S.s0
    have b3 := S.s1
    refine ⟨mulW (by omega) (by omega), ?_⟩
    walk_at "rd"
    exact q H' sm
end
end HT
namespace HT
open PySem L2
/-! ### mirrors and forms -/
theorem mir_mir {m : Str} (h : Mode m) : mir (mir m) = m := by
  rcases h with e | e | e | e | e <;> subst e
  · rw [mir_d, mir_u]
  · rw [mir_u, mir_d]
  · rw [mir_hd, mir_hu]
  · rw [mir_hu, mir_hd]
  · rw [mir_he, mir_he]
theorem below_neg {m : Str} {s : Int} (k : Int) (h : Mode m) : below m s (-k) = below m s k := by
  rcases h with e | e | e | e | e <;> subst e
  · rw [be_d, be_d]
  · rw [be_u, be_u]
  · rw [be_hd, be_hd]
  · rw [be_hu, be_hu]
  · rw [be_he, be_he]; split <;> split <;> omega
theorem due_mirror {o s : Int} {m : Str} {v : Int} (h : Mode m) (hs : 1 ≤ s) : dueM (-o) s (mir m) (-v) = -dueM o s m v := by
  have f := (fig_iff (o := o) (v := v) (k := figM o s m v) h hs).mp rfl
  generalize figM o s m v = k at f
  have e : figM o s m v = k := (fig_iff h hs).mpr f
  have e2 : figM (-o) s (mir m) (-v) = -k := by
    refine (fig_iff (mir_mode h) hs).mpr ?_
    unfold lowM highM at f ⊢
    rw [mir_mir h, below_neg k h, below_neg k (mir_mode h), Int.mul_neg]
    omega
  unfold dueM
  rw [e, e2, Int.mul_neg]
  omega
def firstM (s : Int) (m : Str) : Str := if s = 1 then "down" else if s = 2 ∧ m = "half_down" then "down" else if s = 2 ∧ m = "half_up" then "up" else if s % 2 = 1 ∧ (m = "half_up" ∨ m = "half_even") then "half_down" else m
def formO (o s : Int) (f : Str) : Int := if f = "half_even" then o % (2 * s) else o % s
def ordM (m : Str) : Nat := if m = "down" then 0 else if m = "up" then 1 else if m = "half_down" then 2 else if m = "half_up" then 3 else 4
theorem ord_d : ordM "down" = 0 := by unfold ordM; rw [if_pos rfl]
theorem ord_u : ordM "up" = 1 := by unfold ordM; rw [if_neg d_u, if_pos rfl]
theorem ord_hd : ordM "half_down" = 2 := by unfold ordM; rw [if_neg hd_d, if_neg hd_u, if_pos rfl]
theorem ord_hu : ordM "half_up" = 3 := by unfold ordM; rw [if_neg hu_d, if_neg hu_u, if_neg hu_hd, if_pos rfl]
theorem ord_he : ordM "half_even" = 4 := by unfold ordM; rw [if_neg he_d, if_neg he_u, if_neg he_hd, if_neg he_hu]
theorem u_hu : ¬ (("up" : Str) = "half_up") := by decide +kernel
theorem u_he : ¬ (("up" : Str) = "half_even") := by decide +kernel
theorem dn_hd : ¬ (("down" : Str) = "half_down") := by decide +kernel
theorem dn_hu : ¬ (("down" : Str) = "half_up") := by decide +kernel
theorem dn_he : ¬ (("down" : Str) = "half_even") := by decide +kernel
theorem dn_u : ¬ (("down" : Str) = "up") := by decide +kernel
/-- the first modes, mode by mode -/
theorem fi_one (m : Str) : firstM 1 m = "down" := by unfold firstM; rw [if_pos rfl]
theorem fi_d (s : Int) : firstM s "down" = "down" := by
  unfold firstM
  by_cases h : s = 1
  · rw [if_pos h]
  · rw [if_neg h, if_neg (fun z => dn_hd z.2), if_neg (fun z => dn_hu z.2), if_neg (fun z => z.2.elim dn_hu dn_he)]
theorem fi_u {s : Int} (h : s ≠ 1) : firstM s "up" = "up" := by
  unfold firstM
  rw [if_neg h, if_neg (fun z => u_hd z.2), if_neg (fun z => u_hu z.2), if_neg (fun z => z.2.elim u_hu u_he)]
theorem fi_hd2 : firstM 2 "half_down" = "down" := by unfold firstM; rw [if_neg (by decide), if_pos ⟨rfl, rfl⟩]
theorem fi_hd {s : Int} (h : s ≠ 1) (h2 : s ≠ 2) : firstM s "half_down" = "half_down" := by
  unfold firstM
  rw [if_neg h, if_neg (fun z => h2 z.1), if_neg (fun z => h2 z.1), if_neg (fun z => z.2.elim hd_hu hd_e)]
theorem fi_hu2 : firstM 2 "half_up" = "up" := by unfold firstM; rw [if_neg (by decide), if_neg (fun z => hu_hd z.2), if_pos ⟨rfl, rfl⟩]
theorem fi_huO {s : Int} (h : s ≠ 1) (h2 : s % 2 = 1) : firstM s "half_up" = "half_down" := by
  unfold firstM
  rw [if_neg h, if_neg (fun z => hu_hd z.2), if_neg (fun z => by have := z.1; omega), if_pos ⟨h2, .inl rfl⟩]
theorem fi_huE {s : Int} (h : s ≠ 2) (h2 : s % 2 = 0) : firstM s "half_up" = "half_up" := by
  unfold firstM
  rw [if_neg (by omega), if_neg (fun z => hu_hd z.2), if_neg (fun z => h z.1), if_neg (fun z => by have := z.1; omega)]
theorem fi_heO {s : Int} (h : s ≠ 1) (h2 : s % 2 = 1) : firstM s "half_even" = "half_down" := by
  unfold firstM
  rw [if_neg h, if_neg (fun z => he_hd z.2), if_neg (fun z => he_hu z.2), if_pos ⟨h2, .inr rfl⟩]
theorem fi_heE {s : Int} (h2 : s % 2 = 0) : firstM s "half_even" = "half_even" := by
  unfold firstM
  rw [if_neg (by omega), if_neg (fun z => he_hd z.2), if_neg (fun z => he_hu z.2), if_neg (fun z => by have := z.1; omega)]
/-- what is known of the first mode -/
structure FirstP (s : Int) (m : Str) : Prop where
  md : Mode (firstM s m)
  id : firstM s (firstM s m) = firstM s m
  od : ordM (firstM s m) ≤ ordM m
  go : ∀ q r, 0 ≤ r → r < s → goesUp (firstM s m) s q r = goesUp m s q r
  ev : firstM s m = "half_even" → s % 2 = 0
theorem first_ok {s : Int} {m : Str} (h : Mode m) (hs : 1 ≤ s) : FirstP s m := by
  have D : Mode "down" := .inl rfl
  have U : Mode "up" := .inr (.inl rfl)
  have HD : Mode "half_down" := .inr (.inr (.inl rfl))
  by_cases s1 : s = 1
  · subst s1
    refine ⟨by rw [fi_one]; exact D, by rw [fi_one, fi_one], by rw [fi_one, ord_d]; omega, fun q r r0 r1 => ?_, by rw [fi_one]; exact fun z => (dn_he z).elim⟩
    have : r = 0 := by omega
    subst this
    rw [fi_one, go_zero D (by decide), go_zero h (by decide)]
  rcases h with e | e | e | e | e <;> subst e
  · exact ⟨by rw [fi_d]; exact D, by rw [fi_d, fi_d], by rw [fi_d]; omega, fun q r _ _ => by rw [fi_d], by rw [fi_d]; exact fun z => (dn_he z).elim⟩
  · exact ⟨by rw [fi_u s1]; exact U, by rw [fi_u s1, fi_u s1], by rw [fi_u s1]; omega, fun q r _ _ => by rw [fi_u s1], by rw [fi_u s1]; exact fun z => (u_he z).elim⟩
  · by_cases s2 : s = 2
    · subst s2
      refine ⟨by rw [fi_hd2]; exact D, by rw [fi_hd2, fi_d], by rw [fi_hd2, ord_d]; omega, fun q r r0 r1 => ?_, by rw [fi_hd2]; exact fun z => (dn_he z).elim⟩
      rw [fi_hd2, go_down, go_hd, decide_eq_false (by omega)]
    · exact ⟨by rw [fi_hd s1 s2]; exact HD, by rw [fi_hd s1 s2, fi_hd s1 s2], by rw [fi_hd s1 s2]; omega, fun q r _ _ => by rw [fi_hd s1 s2], by rw [fi_hd s1 s2]; exact fun z => (hd_e z).elim⟩
  · by_cases s2 : s = 2
    · subst s2
      refine ⟨by rw [fi_hu2]; exact U, by rw [fi_hu2, fi_u s1], by rw [fi_hu2, ord_u, ord_hu]; omega, fun q r r0 r1 => ?_, by rw [fi_hu2]; exact fun z => (u_he z).elim⟩
      rw [fi_hu2, go_up, go_hu]
      exact decide_eq_decide.mpr (by omega)
    · by_cases od : s % 2 = 1
      · refine ⟨by rw [fi_huO s1 od]; exact HD, by rw [fi_huO s1 od, fi_hd s1 s2], by rw [fi_huO s1 od, ord_hd, ord_hu]; omega, fun q r r0 r1 => ?_, by rw [fi_huO s1 od]; exact fun z => (hd_e z).elim⟩
        rw [fi_huO s1 od, go_hd, go_hu]
        exact decide_eq_decide.mpr (by omega)
      · have ev : s % 2 = 0 := by omega
        exact ⟨by rw [fi_huE s2 ev]; exact .inr (.inr (.inr (.inl rfl))), by rw [fi_huE s2 ev, fi_huE s2 ev], by rw [fi_huE s2 ev]; omega, fun q r _ _ => by rw [fi_huE s2 ev], by rw [fi_huE s2 ev]; exact fun z => (hu_e z).elim⟩
  · by_cases od : s % 2 = 1
    · refine ⟨by rw [fi_heO s1 od]; exact HD, by rw [fi_heO s1 od, fi_hd s1 (by omega)], by rw [fi_heO s1 od, ord_hd, ord_he]; omega, fun q r r0 r1 => ?_, by rw [fi_heO s1 od]; exact fun z => (hd_e z).elim⟩
      rw [fi_heO s1 od, go_hd, go_he, decide_eq_false (show ¬ 2 * r = s by omega), Bool.false_and, Bool.or_false]
    · have ev : s % 2 = 0 := by omega
      exact ⟨by rw [fi_heE ev]; exact .inr (.inr (.inr (.inr rfl))), by rw [fi_heE ev, fi_heE ev], by rw [fi_heE ev]; omega, fun q r _ _ => by rw [fi_heE ev], fun _ => ev⟩
theorem go_shift {m : Str} {s q r j : Int} (h : Mode m) (hj : m ≠ "half_even" ∨ j % 2 = 0) : goesUp m s (q + j) r = goesUp m s q r := by
  rcases h with e | e | e | e | e <;> subst e
  · rw [go_down, go_down]
  · rw [go_up, go_up]
  · rw [go_hd, go_hd]
  · rw [go_hu, go_hu]
  · have z : j % 2 = 0 := hj.resolve_left (fun z => z rfl)
    rw [go_he, go_he, show (q + j) % 2 = q % 2 by omega]
/-- an offset moved by whole steps, by two of them for the even -/
theorem due_shift {o s j : Int} {m : Str} {v : Int} (h : Mode m) (hs : 1 ≤ s) (hj : m ≠ "half_even" ∨ j % 2 = 0) : dueM (o + s * j) s m v = dueM o s m v := by
  have F := fig_of (o := o + s * j) (m := m) (v := v) hs
  generalize (v - (o + s * j)) / s = q at F
  generalize (v - (o + s * j)) % s = r at F
  generalize hk : figM (o + s * j) s m v = k at F
  obtain ⟨eq, r0, r1, wh⟩ := F
  have e : figM o s m v = k + j := by
    refine fig_uniq (q := q + j) (r := r) hs ⟨by rw [Int.mul_add]; omega, r0, r1, ?_⟩
    rw [go_shift h hj]
    rcases wh with ⟨g, e⟩ | ⟨g, e⟩
    · exact .inl ⟨g, by omega⟩
    · exact .inr ⟨g, by omega⟩
  unfold dueM
  rw [e, hk, Int.mul_add]
  omega
theorem due_go {o s : Int} {m m' : Str} {v : Int} (hs : 1 ≤ s) (h : ∀ q r, 0 ≤ r → r < s → goesUp m s q r = goesUp m' s q r) : dueM o s m v = dueM o s m' v := by
  unfold dueM figM
  rw [h _ _ (Int.emod_nonneg _ (by omega)) (Int.emod_lt_of_pos _ (by omega))]
theorem due_form {o s : Int} {m : Str} (v : Int) (h : Mode m) (hs : 1 ≤ s) : dueM (formO o s (firstM s m)) s (firstM s m) v = dueM o s m v := by
  have P := first_ok h hs
  rw [← due_go hs P.go]
  unfold formO
  by_cases e : firstM s m = "half_even"
  · rw [if_pos e]
    have a := Int.mul_ediv_add_emod o (2 * s)
    have b : o % (2 * s) = o + s * (-(2 * (o / (2 * s)))) := by
      rw [Int.mul_neg, ← Int.mul_assoc, Int.mul_comm s 2]
      omega
    rw [b]
    exact due_shift P.md hs (.inr (by omega))
  · rw [if_neg e]
    have a := Int.mul_ediv_add_emod o s
    have b : o % s = o + s * (-(o / s)) := by
      rw [Int.mul_neg]
      omega
    rw [b]
    exact due_shift P.md hs (.inl e)
theorem form_bd {o s : Int} {f : Str} (hs : 1 ≤ s) : 0 ≤ formO o s f ∧ formO o s f < 2 * s ∧ (f ≠ "half_even" → formO o s f < s) := by
  unfold formO
  by_cases e : f = "half_even"
  · rw [if_pos e]
    exact ⟨Int.emod_nonneg _ (by omega), Int.emod_lt_of_pos _ (by omega), fun z => absurd e z⟩
  · rw [if_neg e]
    have := Int.emod_lt_of_pos o (show 0 < s by omega)
    exact ⟨Int.emod_nonneg _ (by omega), by omega, fun _ => this⟩
theorem form_idem {o s : Int} {f : Str} : formO (formO o s f) s f = formO o s f := by
  unfold formO
  by_cases e : f = "half_even"
  · rw [if_pos e, if_pos e, Int.emod_emod_of_dvd _ (Int.dvd_refl _)]
  · rw [if_neg e, if_neg e, Int.emod_emod_of_dvd _ (Int.dvd_refl _)]
/-- a value told by its figure and rest -/
theorem due_at {o s q r : Int} {m : Str} (hs : 1 ≤ s) (r0 : 0 ≤ r) (r1 : r < s) : dueM o s m (o + s * q + r) = o + s * q + (if goesUp m s q r = true then s else 0) := by
  unfold dueM
  by_cases g : goesUp m s q r = true
  · rw [fig_uniq (q := q) (r := r) (k := q + 1) hs ⟨by omega, r0, r1, .inl ⟨g, rfl⟩⟩, if_pos g, Int.mul_add]
    omega
  · have g' : goesUp m s q r = false := by cases h : goesUp m s q r <;> simp_all
    rw [fig_uniq (q := q) (r := r) (k := q) hs ⟨by omega, r0, r1, .inr ⟨g', rfl⟩⟩, if_neg g]
    omega
end HT
namespace HT
open PySem L2
section
variable {P : Program} {w : World} {K : PySem.W.Frag} {mg : Str → Option Value} {base : Heap} {aM fD fP fG fL fA fF fH fS : Addr} {dD dP dG dL dA dF dH dS : FuncData}
theorem ok_L_figure {f : Addr} {fd : FuncData} (F : Fun K "_law_figure" "_law_figure" s_L_figure f fd) (B : Blt mg) : FnOk P w K mg base CX0 1 f fd ["_law_side", "_law_value"] spFig := by
  refine F.ok sc_L_figure (fun vs H Q E h => ?_) (fun cdv A outer s H vs Q E hr h => ?_)
  · obtain ⟨p, o, s, m, v, rfl, _⟩ := h
    rfl
  · obtain ⟨p, o, s, m, v, rfl, hp, S, hv, q⟩ := h
    have nd := sc_L_figure.nd
    have q' : Q (.int (figM o s m v)) H := q H (Same.refl H)
    have Fg := fig_of (o := o) (m := m) (v := v) S.s0
    refine ⟨_, pss_cons (ps_asg (pv 0) (pg_tup (by rfl) (pgs_cons (pg_name (i := 2) nd rfl (Or.inl rfl)) (pgs_cons (pg_name (i := 3) nd rfl (Or.inl rfl)) (pgs_cons (pg_name (i := 4) nd rfl (Or.inl rfl)) pgs_nil)))))
      (pss_cons (ps_set (i := 5) nd rfl (Or.inl rfl) (pe_op op_fdivW (pe_callTy call_int1 (by rfl) B.int (by decide +kernel) (pa_cons (pe_op op_sub (pv 1) (pv 2)) pa_nil)) (pv 3)))
      (pss_cons (ps_set (i := 6) nd rfl (Or.inl rfl) (pe_op op_sub (pe_op op_sub (pv 1) (pv 2)) (pe_op op_mulW (pv 3) (pv 5))))
      (pss_cons (ps_if (PW.pt (pw_or (pt_cmpR op_eq (pv 4) pe_str (nomark _)) (pw_or1 (pt_cmpR op_eq (pv 6) pe_int (nomark _))))) (pss_one (ps_ret (pv 5))) pss_nil)
      (pss_cons (ps_if (PW.pt (pw_or (pt_cmpR op_eq (pv 4) pe_str (nomark _)) (pw_or1 (pt_cmpR op_gt (pe_op op_mul pe_int (pv 6)) (pv 3) (nomark _))))) (pss_one (ps_ret (pe_op op_add (pv 5) pe_int))) pss_nil)
      (pss_cons (ps_if (PW.pt (pw_or (pt_cmpR op_lt (pe_op op_mul pe_int (pv 6)) (pv 3) (nomark _)) (pw_or1 (pt_cmpR op_eq (pv 4) pe_str (nomark _))))) (pss_one (ps_ret (pv 5))) pss_nil)
      (pss_one (ps_ret (pe_op op_add (pv 5) (pe_callTy call_int1 (by rfl) B.int (by decide +kernel) (pa_cons (pe_or (pe_cmpR op_eq (pv 4) pe_str (nomark _)) (pe_one (pe_cmpR op_eq (pe_op op_mod (pv 5) pe_int) pe_int (nomark _)))) pa_nil)))))))))), ?_⟩
    have b0 := S.s0
    have b1 := S.s1
    have b2 := S.o0
    have b3 := S.o1
    have b4 := hv.1
    have b5 := hv.2
    have b6 := div_bd (x := v - o) (b := 2 ^ 1001) S.s0 (by omega) (by omega)
    have rr : v - o - s * ((v - o) / s) = (v - o) % s := by
      have := Fg.eq
      omega
    walk_at "rd"
    refine ⟨p, _, rfl, SqT.of hp, rfl, _, _, rfl, _, _, rfl, _, _, rfl, rfl, ?_⟩
    walk_at "rd"
    refine ⟨fdiv_ok _ (by omega) (lg_big (by omega) (by omega)), ?_⟩
    walk_at "rd"
    refine ⟨mulW (by omega) (by omega), ?_⟩
    walk_at "rd"
    refine ⟨rfl, ?_⟩
    walk_at "rd"
    obtain ⟨_, r0, r1, wh⟩ := Fg
    generalize figM o s m v = k at q' wh
    -- the three ways of a mode
    have fin0 : k = ((v - o) / s) → Q (.int ((v - o) / s)) H := fun e => by rw [← e]; exact q'
    have fin1 : k = ((v - o) / s) + 1 → Q (.int (((v - o) / s) + 1)) H := fun e => by rw [← e]; exact q'
    have low : goesUp m s ((v - o) / s) ((v - o) % s) = false → k = ((v - o) / s) := fun h => by
      rcases wh with ⟨g, _⟩ | ⟨_, e⟩
      · rw [h] at g; cases g
      · exact e
    have up : goesUp m s ((v - o) / s) ((v - o) % s) = true → k = ((v - o) / s) + 1 := fun h => by
      rcases wh with ⟨_, e⟩ | ⟨g, _⟩
      · exact e
      · rw [h] at g; cases g
    refine ite2 (fun h => ?_) (fun h1 => ?_)
    · walk_at "rd"
      refine fin0 (low ?_)
      rw [str_t h, go_down]
    walk_at "rd"
    refine ⟨rfl, ?_⟩
    walk_at "rd"
    refine ite2 (fun h => ?_) (fun h2 => ?_)
    · walk_at "rd"
      refine fin0 (low ?_)
      have e : ((v - o) % s) = 0 := by have := int_t h; omega
      rw [e]
      exact go_zero S.md S.s0
    have n1 := str_f h1
    have n2 : ¬ ((v - o) % s) = 0 := fun z => int_f h2 (by omega)
    walk_at "rd"
    refine ⟨rfl, ?_⟩
    walk_at "rd"
    refine ite2 (fun h => ?_) (fun h3 => ?_)
    · walk_at "rd"
      refine fin1 (up ?_)
      rw [str_t h, go_up]
      exact decide_eq_true (by omega)
    have n3 := str_f h3
    walk_at "rd"
    refine ⟨.inl ⟨by decide, by decide⟩, ?_⟩
    walk_at "rd"
    have hh : half m := by
      rcases S.md with e | e | e
      · exact absurd e n1
      · exact absurd e n3
      · exact e
    refine ite2 (fun h => ?_) (fun h4 => ?_)
    · walk_at "rd"
      have g : s < 2 * ((v - o) % s) := by have := of_decide_eq_true h; omega
      refine fin1 (up ?_)
      unfold goesUp
      rw [if_neg n1, if_neg n3, if_neg (by omega)]
      exact decide_eq_true g
    have n4 : ¬ s < 2 * ((v - o) % s) := fun z => h4 (decide_eq_true (by omega))
    walk_at "rd"
    refine ⟨.inl ⟨by decide, by decide⟩, ?_⟩
    walk_at "rd"
    refine ite2 (fun h => ?_) (fun h5 => ?_)
    · walk_at "rd"
      have g : 2 * ((v - o) % s) < s := by have := of_decide_eq_true h; omega
      refine fin0 (low ?_)
      unfold goesUp
      rw [if_neg n1, if_neg n3, if_neg (by omega)]
      exact decide_eq_false n4
    have n5 : 2 * ((v - o) % s) = s := by
      have : ¬ 2 * ((v - o) % s) < s := fun z => h5 (decide_eq_true (by omega))
      omega
    walk_at "rd"
    refine ⟨rfl, ?_⟩
    walk_at "rd"
    refine ite2 (fun h => ?_) (fun h6 => ?_)
    · walk_at "rd"
      refine fin0 (low ?_)
      rw [str_t h, go_hd]
      exact decide_eq_false n4
    have n6 := str_f h6
    have kk : k = ((v - o) / s) + (if m = "half_up" then 1 else if ((v - o) / s) % 2 = 1 then 1 else 0) := by
      rcases hh with e | e | e
      · exact absurd e n6
      · rw [if_pos e]
        refine up ?_
        rw [e, go_hu]
        exact decide_eq_true (by omega)
      · have e2 : goesUp m s ((v - o) / s) ((v - o) % s) = decide (((v - o) / s) % 2 = 1) := by
          rw [e, go_he, decide_eq_false n4, decide_eq_true n5]
          rfl
        rw [if_neg (by rw [e]; exact he_hu)]
        by_cases z : ((v - o) / s) % 2 = 1
        · rw [if_pos z]
          exact up (by rw [e2]; exact decide_eq_true z)
        · rw [if_neg z, Int.add_zero]
          exact low (by rw [e2]; exact decide_eq_false z)
    walk_at "rd"
    refine ⟨rfl, ?_⟩
    walk_at "rd"
    refine ite2 (fun h => ?_) (fun h7 => ?_)
    · refine .inr ⟨true, rfl, ?_⟩
      walk_at "rd"
      rw [if_pos (str_t h)] at kk
      exact fin1 kk
    · rw [if_neg (str_f h7)] at kk
      walk_at "rd"
      refine ⟨(by show (0 : Int) < 2; decide), ?_⟩
      walk_at "rd"
      refine ⟨rfl, .inr ⟨_, rfl, ?_⟩⟩
      walk_at "rd"
      show Q (.int (((v - o) / s) + if decide (V.int (((v - o) / s) % 2) = V.int 1) = true then 1 else 0)) H
      rw [dec_int]
      by_cases z : ((v - o) / s) % 2 = 1
      · rw [if_pos z] at kk
        rw [if_pos (decide_eq_true z)]
        exact fin1 kk
      · rw [if_neg z, Int.add_zero] at kk
        rw [if_neg (by rw [decide_eq_false z]; decide), Int.add_zero]
        exact fin0 kk
theorem ok_L_handed {f : Addr} {fd : FuncData} (F : Fun K "_law_handed" "_law_handed" s_L_handed f fd) (L : Cal P w K mg base "_law_figure" 1 ["_law_side", "_law_value"] spFig fL dL) : FnOk P w K mg base CX0 2 f fd ["_law_side", "_law_value"] spDue := by
  refine F.ok sc_L_handed (fun vs H Q E h => ?_) (fun cdv A outer s H vs Q E hr h => ?_)
  · obtain ⟨p, o, s, m, v, rfl, _⟩ := h
    rfl
  · obtain ⟨p, o, s, m, v, rfl, hp, S, hv, q⟩ := h
    refine ⟨_, pss_one (ps_ret (pe_op op_add (pe_ix ix_tup (pv 0) pe_int (fun _ _ => rfl)) (pe_op op_mulW (pe_ix ix_tup (pv 0) pe_int (fun _ _ => rfl)) (pcl L hr (by decide) (by rfl) (pa_cons (pv 0) (pa_cons (pv 1) pa_nil)))))), ?_⟩
    walk_at "rd"
    refine ⟨p, _, 0, _, rfl, rfl, SqT.of hp, rfl, ?_⟩
    walk_at "rd"
    refine ⟨p, _, 1, _, rfl, rfl, SqT.of hp, rfl, ?_⟩
    walk_at "rd"
    refine ⟨p, o, s, m, v, rfl, hp, S, hv, fun H' sm => ?_⟩
    walk_at "rd"
    have b1 := fig_bd S hv
    have b2 := S.s0
    have b3 := S.s1
    refine ⟨mulW (by omega) (by omega), ?_⟩
    walk_at "rd"
    exact q H' sm
end
end HT
namespace HT
open PySem L2
structure Sd where
  o : Int
  s : Int
  m : Str
/-- the list at l holds sides with these parts -/
structure SidesAt (H : Hp) (l : Addr) (xs : List V) (ss : List Sd) : Prop where
  hl : H l = some (.lst xs)
  len : xs.length = ss.length
  l1 : 1 ≤ ss.length
  l4 : ss.length ≤ 4
  at_ : ∀ (i : Nat) (d : Sd), ss[i]? = some d → ∃ p : Addr, xs[i]? = some (V.ref p) ∧ H p = some (sideV d.o d.s d.m) ∧ SideP d.o d.s d.m
theorem SidesAt.same {H H' : Hp} {l : Addr} {xs : List V} {ss : List Sd} (S : SidesAt H l xs ss) (e : Same H H') : SidesAt H' l xs ss :=
  ⟨e _ _ S.hl, S.len, S.l1, S.l4, fun i d h => let ⟨p, a, b, c⟩ := S.at_ i d h; ⟨p, a, e _ _ b, c⟩⟩
theorem SidesAt.oth {a c : Addr} {t : Nat} {H H' : Hp} {l : Addr} {xs : List V} {ss : List Sd} (S : SidesAt H l xs ss) (R : Src H a c t) (la : l ≠ a) (lc : l ≠ c) (e : Oth a c H H') : SidesAt H' l xs ss :=
  ⟨e _ _ S.hl la lc, S.len, S.l1, S.l4, fun i d h => let ⟨p, x, b, y⟩ := S.at_ i d h; let z := R.nt b; ⟨p, x, e _ _ b z.1 z.2, y⟩⟩
theorem SidesAt.item {H : Hp} {l : Addr} {xs : List V} {ss : List Sd} (S : SidesAt H l xs ss) {i : Nat} {y : V} (h : xs[i]? = some y) : ∃ d p, ss[i]? = some d ∧ y = .ref p ∧ H p = some (sideV d.o d.s d.m) ∧ SideP d.o d.s d.m := by
  have hi : i < ss.length := by have := (List.getElem?_eq_some_iff.mp h).1; rw [S.len] at this; exact this
  obtain ⟨p, e, hp, sp⟩ := S.at_ i ss[i] (List.getElem?_eq_getElem hi)
  rw [h] at e
  exact ⟨ss[i], p, List.getElem?_eq_getElem hi, Option.some.inj e, hp, sp⟩
/-- a side's period -/
def perM (s : Int) (m : Str) : Int := if m = "half_even" then 2 * s else s
theorem perM_bd {o s : Int} {m : Str} (S : SideP o s m) : 1 ≤ perM s m ∧ perM s m ≤ 2 * 10 ^ 30 := by
  have a := S.s0
  have b := S.s1
  unfold perM
  split <;> omega
def perN (d : Sd) : Nat := (perM d.s d.m).toNat
/-- the common period -/
def comN (ss : List Sd) : Nat := ss.foldl (fun n d => n.lcm (perN d)) 1
theorem com_snoc {ss : List Sd} {i : Nat} {d : Sd} (h : ss[i]? = some d) : comN (ss.take (i + 1)) = (comN (ss.take i)).lcm (perN d) := by
  unfold comN
  rw [List.take_succ, h, List.foldl_append]
  rfl
theorem lcm_le {a b : Nat} : a.lcm b ≤ a * b := Nat.div_le_self _ _
theorem com_le : ∀ (ss : List Sd) (n : Nat), (∀ d ∈ ss, SideP d.o d.s d.m) → ss.foldl (fun n d => n.lcm (perN d)) n ≤ n * (2 * 10 ^ 30) ^ ss.length
  | [], n, _ => by simp
  | d :: ss, n, h => by
    have z := com_le ss (n.lcm (perN d)) fun e he => h e (List.mem_cons_of_mem _ he)
    have b := perM_bd (h d List.mem_cons_self)
    have y : perN d ≤ 2 * 10 ^ 30 := by unfold perN; omega
    refine Nat.le_trans z ?_
    generalize (2 * 10 ^ 30 : Nat) = k at y
    rw [List.length_cons, Nat.pow_succ, Nat.mul_comm (k ^ ss.length), ← Nat.mul_assoc]
    exact Nat.mul_le_mul_right _ (Nat.le_trans lcm_le (Nat.mul_le_mul_left _ y))
theorem SidesAt.side {H : Hp} {l : Addr} {xs : List V} {ss : List Sd} (S : SidesAt H l xs ss) : ∀ d ∈ ss, SideP d.o d.s d.m := fun d hd => by
  obtain ⟨i, hi, rfl⟩ := List.mem_iff_getElem.mp hd
  obtain ⟨_, _, _, sp⟩ := S.at_ i _ (List.getElem?_eq_getElem hi)
  exact sp
theorem com_lt {ss : List Sd} (h : ∀ d ∈ ss, SideP d.o d.s d.m) (l4 : ss.length ≤ 4) : comN ss < 2 ^ 420 := by
  have z := com_le ss 1 h
  rw [Nat.one_mul] at z
  refine Nat.lt_of_le_of_lt z (Nat.lt_of_le_of_lt (Nat.pow_le_pow_right (by decide) l4) ?_)
  decide
theorem com_take {ss : List Sd} (h : ∀ d ∈ ss, SideP d.o d.s d.m) (l4 : ss.length ≤ 4) (i : Nat) : comN (ss.take i) < 2 ^ 420 :=
  com_lt (fun d hd => h d (List.mem_of_mem_take hd)) (Nat.le_trans (List.length_take_le' _ _) l4)
theorem com_pos : ∀ (ss : List Sd) (n : Nat), 0 < n → (∀ d ∈ ss, SideP d.o d.s d.m) → 0 < ss.foldl (fun n d => n.lcm (perN d)) n
  | [], n, hn, _ => hn
  | d :: ss, n, hn, h => by
    have b := perM_bd (h d List.mem_cons_self)
    have y : 0 < perN d := by unfold perN; omega
    exact com_pos ss _ (Nat.lcm_pos hn y) fun e he => h e (List.mem_cons_of_mem _ he)
/-- as the law has it -/
theorem lcm_div (a b : Nat) : a / Nat.gcd a b * b = a.lcm b := by
  unfold Nat.lcm
  rw [Nat.mul_comm (a / Nat.gcd a b), ← Nat.mul_div_assoc _ (Nat.gcd_dvd_left a b), Nat.mul_comm]
end HT
namespace HT
open PySem L2
theorem lg_any {n : Nat} (h : n < 2 ^ 500) : ((n : Int)).natAbs.log2 < 9000 := by
  rw [Int.natAbs_natCast]
  by_cases e : n = 0
  · rw [e]; decide
  · have := (Nat.log2_lt e).mpr h
    omega
def spSmall : Sp := fun vs H Q _ => ∃ (a c : Addr) (t most : Nat), vs = [.ref a, .int (most : Int)] ∧ Src H a c t ∧ 1 ≤ most ∧ most ≤ 1000 ∧ t + 5 < 2 ^ 30 ∧
  ∀ (p : Addr) (o s : Int) (m : Str) (H' : Hp) (t' : Nat), H' p = some (sideV o s m) → -30 ≤ o → o ≤ 29 → 1 ≤ s → s ≤ (most : Int) → Mode m → t' ≤ t + 3 → Src H' a c t' → Oth a c H H' → Q (.ref p) H'
def spSet : Sp := fun vs H Q _ => ∃ (a c : Addr) (t most many : Nat), vs = [.ref a, .int (most : Int), .int (many : Int)] ∧ Src H a c t ∧ 1 ≤ most ∧ most ≤ 1000 ∧ 1 ≤ many ∧ many ≤ 4 ∧ t + 50 < 2 ^ 30 ∧
  ∀ (l : Addr) (xs : List V) (ss : List Sd) (H' : Hp) (t' : Nat), SidesAt H' l xs ss → (∀ d ∈ ss, -30 ≤ d.o ∧ d.o ≤ 29 ∧ d.s ≤ (most : Int)) → l ≠ a → l ≠ c → t' ≤ t + 20 → Src H' a c t' → Oth a c H H' → Q (.ref l) H'
section
variable {P : Program} {w : World} {K : PySem.W.Frag} {mg : Str → Option Value} {base : Heap} {fD fP fS fV : Addr} {dD dP dS dV : FuncData}
theorem ok_small {f : Addr} {fd : FuncData} (F : Fun K "_law_small_side" "_law_small_side" s_L_small_side f fd) (D : Cal P w K mg base "_law_draw" 1 ["_law_source_here", "_law_limit"] spDraw fD dD)
    (Pk : Cal P w K mg base "_law_pick" 2 ["_law_source_here", "_law_values"] spPick fP dP) : FnOk P w K mg base CX0 3 f fd ["_law_source_here", "_law_most"] spSmall := by
  refine F.ok sc_L_small_side (fun vs H Q E h => ?_) (fun cdv A outer s0 H vs Q E hr h => ?_)
  · obtain ⟨a, c, t, most, rfl, _⟩ := h
    rfl
  · obtain ⟨a, c, t, most, rfl, S, m1, m2, ht, q⟩ := h
    have nd := sc_L_small_side.nd
    refine ⟨_, (pss_cons (ps_set (i := 2) nd rfl (Or.inl rfl) (pe_op op_sub (pcl D hr (by decide) (by rfl) (pa_cons (pv 0) (pa_cons pe_int pa_nil))) pe_int))
      (pss_one (ps_ret (pe_tup (pa_cons (pv 2) (pa_cons (pe_op op_add pe_int (pcl D hr (by decide) (by rfl) (pa_cons (pv 0) (pa_cons (pv 1) pa_nil)))) (pa_cons (pcl Pk hr (by decide) (by rfl) (pa_cons (pv 0) (pa_cons (pe_lst (pa_cons pe_str (pa_cons pe_str (pa_cons pe_str (pa_cons pe_str (pa_cons pe_str pa_nil)))))) pa_nil))) pa_nil))))))), ?_⟩
    walk_at "rd"
    refine ⟨a, c, t, 60, rfl, S, by omega, by decide, by decide, fun k1 H1 k10 k11 S1 O1 => ?_⟩
    walk_at "rd"
    refine ⟨a, c, t + 1, (most : Int), rfl, S1, by omega, by omega, lg_small (by omega) (by omega), fun k2 H2 k20 k21 S2 O2 => ?_⟩
    walk_at "rd"
    refine ⟨(by show 5 ≤ sizeLine; decide), fun l nl => ?_⟩
    obtain ⟨la, lc⟩ := S2.na nl
    refine ⟨a, c, _, l, _, rfl, S2.new nl, by omega, upd_same, la, lc, by decide, by decide, fun x H3 hx S3 O3 => ?_⟩
    obtain ⟨md, rfl, hmd⟩ := mode_of hx
    refine ⟨(by show 3 ≤ sizeLine; decide), fun p np => ?_⟩
    exact q p _ _ md _ (t + 1 + 1 + 1) upd_same (by omega) (by omega) (by omega) (by omega) hmd (by omega) (S3.new np) ((((O1.trans O2).new nl).trans O3).new np)
theorem ok_set {f : Addr} {fd : FuncData} (F : Fun K "_law_set" "_law_set" s_L_set f fd) (B : Blt mg) (D : Cal P w K mg base "_law_draw" 1 ["_law_source_here", "_law_limit"] spDraw fD dD)
    (Sm : Cal P w K mg base "_law_small_side" 3 ["_law_source_here", "_law_most"] spSmall fS dS) : FnOk P w K mg base CX0 4 f fd ["_law_source_here", "_law_most", "_law_many"] spSet := by
  refine F.ok sc_L_set (fun vs H Q E h => ?_) (fun cdv A outer s0 H vs Q E hr h => ?_)
  · obtain ⟨a, c, t, most, many, rfl, _⟩ := h
    rfl
  · obtain ⟨a, c, t, most, many, rfl, S, m1, m2, n1, n2, ht, q⟩ := h
    have nd := sc_L_set.nd
    refine ⟨_, (pss_one (ps_ret (pe_lc (own := [("_law_k", 3)]) (g := gName 3) (tt := tYes) rfl nd (pi_range1 (by rfl) B.range (pa_cons (pe_op op_add pe_int (pcl D hr (by decide) (by rfl) (pa_cons (pv 0) (pa_cons (pv 2) pa_nil)))) pa_nil)) (blkOk_by (N := ["_law_source_here", "_law_most", "_law_many", "_law_k"]) (sc := defScope s_L_set) (by decide +kernel)) (fun _ _ _ _ _ => pg_name (i := 3) nd rfl (Or.inl rfl)) (fun _ _ _ _ _ => pts_nil) (fun _ _ _ _ _ => (pcl Sm hr (by decide) (by rfl) (pa_cons (pv 0) (pa_cons (pv 1) pa_nil))))))), ?_⟩
    walk_at "rd"
    refine ⟨a, c, t, (many : Int), rfl, S, by omega, by omega, lg_small (by omega) (by omega), fun y H1 y0 y1 S1 O1 => ?_⟩
    walk_at "rd"
    refine ⟨by omega, by omega, fun L nL => ?_⟩
    obtain ⟨La, Lc⟩ := S1.na nL
    refine lc_range (lo := 0) (n := (1 + y).toNat) (fun j H5 => ∃ (xs : List V) (ss : List Sd) (t' : Nat), H5 L = some (.lst xs) ∧ xs.length = j ∧ ss.length = j ∧ (∀ (i : Nat) (d : Sd), ss[i]? = some d → ∃ p : Addr, xs[i]? = some (V.ref p) ∧ H5 p = some (sideV d.o d.s d.m) ∧ SideP d.o d.s d.m) ∧ (∀ d ∈ ss, -30 ≤ d.o ∧ d.o ≤ 29 ∧ d.s ≤ (most : Int)) ∧ t' ≤ t + 1 + 3 * j ∧ Src H5 a c t' ∧ Oth a c H H5)
      ⟨[], [], t + 1, upd_same, rfl, rfl, (fun i d h => nomatch h), (fun d hd => absurd hd List.not_mem_nil), by omega, S1.new nL, O1.new nL⟩ ?_ ?_
    · rintro j H5 hj ⟨xs, ss, t', hL, lx, ls, at_, small, ht', S5, O5⟩
      refine ⟨rfl, ?_⟩
      walk_at "rd"
      refine ⟨a, c, t', most, rfl, S5, m1, m2, by omega, fun p o s m H6 t6 hp b1 b2 b3 b4 md ht6 S6 O6 => ?_⟩
      have hL6 := O6 _ _ hL La Lc
      refine ⟨_, hL6, (by rw [lx]; exact Nat.lt_of_lt_of_le (by omega : j < 100) (by decide)), xs ++ [.ref p], ss ++ [⟨o, s, m⟩], t6, upd_same, by rw [List.length_append, lx]; rfl, by rw [List.length_append, ls]; rfl, ?_, ?_, by omega, ?_, ?_⟩
      · intro i d hd
        rcases Nat.lt_or_ge i ss.length with z | z
        · rw [List.getElem?_append_left z] at hd
          obtain ⟨p2, e1, hp2, sp⟩ := at_ i d hd
          obtain ⟨z1, z2⟩ := S5.nt hp2
          have hp6 := O6 _ _ hp2 z1 z2
          exact ⟨p2, by rw [List.getElem?_append_left (by omega)]; exact e1, (upd_ne (ne_of hp6 hL6 (by intro y; cases y))).trans hp6, sp⟩
        · rw [List.getElem?_append_right z] at hd
          have e0 : i - ss.length = 0 := by
            have := (List.getElem?_eq_some_iff.mp hd).1
            simp at this
            omega
          rw [e0] at hd
          have ed : d = ⟨o, s, m⟩ := by simpa using hd.symm
          subst ed
          exact ⟨p, by rw [List.getElem?_append_right (by omega), show i - xs.length = 0 by omega]; rfl, (upd_ne (ne_of hp hL6 (by intro y; cases y))).trans hp, ⟨by show -(10 : Int) ^ 40 ≤ o; omega, by show o ≤ (10 : Int) ^ 40; omega, b3, by show s ≤ (10 : Int) ^ 30; omega, md⟩⟩
      · intro d hd
        rcases List.mem_append.mp hd with h | h
        · exact small d h
        · rw [List.mem_singleton.mp h]; exact ⟨b1, b2, b4⟩
      · obtain ⟨cs, hcs, hl2⟩ := S6.cl
        exact ⟨S6.ne, (upd_ne La.symm).trans S6.ob, cs, (upd_ne Lc.symm).trans hcs, hl2⟩
      · intro b u z na nc
        have z5 := O5 b u z na nc
        have z6 := O6 b u z5 na nc
        exact (upd_ne (ne_of_none (O1 b u z na nc) nL)).trans z6
    · rintro H5 ⟨xs, ss, t', hL, lx, ls, at_, small, ht', S5, O5⟩
      exact q L xs ss H5 t' ⟨hL, by omega, by omega, by omega, at_⟩ small La Lc (by omega) S5 O5
end
end HT
namespace HT
open PySem L2
def nV (k : Nat) : V := .int (k : Int)
structure AmG (mg : Str → Option Value) : Prop where
  isi : mg "isinstance" = none
  list : mg "list" = none
  len : mg "len" = none
  ms : ∃ t, mg "MOST_SIDES" = some (.int 4 t)
  sorted : mg "sorted" = none
def spIsSide : Sp := fun vs H Q _ => ∃ (p : Addr) (o s : Int) (m : Str), vs = [.ref p] ∧ H p = some (sideV o s m) ∧ SideP o s m ∧ Q (.bl true) H
def spSides : Sp := fun vs H Q _ => ∃ (l : Addr) (xs : List V) (ss : List Sd), vs = [.ref l] ∧ SidesAt H l xs ss ∧ Q .non H
def spNums : Sp := fun vs H Q _ => ∃ (kl : Addr) (ks : List Nat) (n : Nat), vs = [.ref kl, .int (n : Int)] ∧ H kl = some (.lst (ks.map nV)) ∧ ks.length ≤ 1000 ∧ (∀ k ∈ ks, k < n) ∧ Q .non H
/-- one hand-over more -/
def stepW (ss : List Sd) (a : List Int × Int) (k : Nat) : List Int × Int :=
  match ss[k]? with
  | some d => (a.1 ++ [dueM d.o d.s d.m a.2], dueM d.o d.s d.m a.2)
  | none => (a.1 ++ [a.2], a.2)
def walkW (ss : List Sd) (ks : List Nat) (v : Int) : List Int × Int := ks.foldl (stepW ss) ([], v)
theorem walk_snoc {ss : List Sd} {ks : List Nat} {v : Int} {i k : Nat} (h : ks[i]? = some k) : walkW ss (ks.take (i + 1)) v = stepW ss (walkW ss (ks.take i) v) k := by
  unfold walkW
  rw [List.take_succ, h, List.foldl_append]
  rfl
theorem due_far {o s v b : Int} {m : Str} (S : SideP o s m) (h : -b < v ∧ v < b) : -(b + 10 ^ 30) < dueM o s m v ∧ dueM o s m v < b + 10 ^ 30 := by
  have h1 := due_near (o := o) (v := v) S.md S.s0
  have h2 := S.s1
  omega
def spAlong : Sp := fun vs H Q _ => ∃ (l : Addr) (xs : List V) (ss : List Sd) (kl : Addr) (ks : List Nat) (v : Int), vs = [.ref l, .ref kl, .int v] ∧ SidesAt H l xs ss ∧ H kl = some (.lst (ks.map nV)) ∧ ks.length ≤ 1000 ∧ (∀ k ∈ ks, k < ss.length) ∧ (-2 ^ 200 < v ∧ v < 2 ^ 200) ∧
  ∀ (d : Addr) (H' : Hp), H d = none → Same H H' → H' d = some (.lst ((walkW ss ks v).1.map V.int)) → Q (.ref d) H'
section
variable {P : Program} {w : World} {K : PySem.W.Frag} {mg : Str → Option Value} {base : Heap} {aM c0 fC fB fV fN fW fS : Addr} {dC dB dV dN dW dS : FuncData}
theorem ok_is_side {f : Addr} {fd : FuncData} (F : Fun K "is_side" "is_side" s_is_side f fd) (g0 : mg "InvalidSide" = some (.ref c0)) (Ck : Cal P w K mg base "check_side" 3 ["side"] spCheckSide fC dC) : FnOk P w K mg base CX0 4 f fd ["thing"] spIsSide := by
  refine F.ok sc_is_side (fun vs H Q E h => ?_) (fun cdv A outer s0 H vs Q E hr h => ?_)
  · obtain ⟨p, o, s, m, rfl, _⟩ := h
    rfl
  · obtain ⟨p, o, s, m, rfl, hp, S, q⟩ := h
    refine ⟨_, pss_cons (ps_try_only rfl rfl ⟨rfl, by decide, .inl g0⟩ takes0 (fun W pn xe tk _ => pss_one (ps_expr (pcl Ck hr (by decide) (by rfl) (pa_cons (pv 0) pa_nil)))) (fun a oe cls d pn _ _ => pss_one (ps_ret pe_bl))) (pss_one (ps_ret pe_bl)), ?_⟩
    walk_at "rd"
    refine ⟨p, o, s, m, rfl, hp, S, ?_⟩
    walk_at "rd"
    exact q
theorem ok_sides {f : Addr} {fd : FuncData} (F : Fun K "check_sides" "check_sides" s_check_sides f fd) (A' : AmG mg) (Ck : Cal P w K mg base "is_side" 4 ["thing"] spIsSide fC dC) : FnOk P w K mg base CX0 5 f fd ["sides"] spSides := by
  refine F.ok sc_check_sides (fun vs H Q E h => ?_) (fun cdv A outer s0 H vs Q E hr h => ?_)
  · obtain ⟨l, xs, ss, rfl, _⟩ := h
    rfl
  · obtain ⟨l, xs, ss, rfl, SS, q⟩ := h
    have nd := sc_check_sides.nd
    obtain ⟨tms, hms⟩ := A'.ms
    refine ⟨_, pss_cons (ps_if (PW.pt (pw_or (pt_not (pt_val (pe_callB call_isi (by rfl) A'.isi (by decide +kernel) (pa_cons (pv 0) (pa_cons (pe_bltn (v := .ty "list") (by rfl) A'.list (by decide +kernel) rfl) pa_nil)))))
        (pw_or1 (pt_not (pt_chain op_le op_le pe_int (pe_callB call_len_seq (by rfl) A'.len PySem.boot_len (pa_cons (pv 0) pa_nil)) (pe_glob (v := .int 4) (by rfl) hms ⟨_, rfl⟩)))))) (pss_one ps_never) pss_nil)
      (pss_one (ps_for PassesOwn.never rfl (pi_list (pv 0)) (pg_name (i := 1) nd rfl (Or.inl rfl))
        (pss_one (ps_if (pt_not (pt_val (pcl Ck hr (by decide) (by rfl) (pa_cons (pv 1) pa_nil)))) (pss_one ps_never) pss_nil)))), ?_⟩
    walk_at "rd"
    refine ⟨_, _, _, _, _, rfl, .ty "list", .base (.lst SS.hl), kit_ty (r := true) (by decide +kernel), ?_⟩
    walk_at "rd"
    refine ⟨l, _, rfl, .inl (SqL.of SS.hl), ?_⟩
    have l1 := SS.l1
    have l4 := SS.l4
    have ln := SS.len
    walk_at "rd"
    refine ite2 (fun _ => ?_) (fun z => absurd (decide_eq_true (by omega)) z)
    walk_at "rd"
    refine ite2 (fun z => ?_) (fun _ => ?_)
    · exfalso
      have e : decide ((xs.length : Int) ≤ 4) = true := decide_eq_true (by omega)
      exact not_t z e
    walk_at "rd"
    refine ⟨⟨_, SqL.of SS.hl⟩, ?_⟩
    refine for_list (K := K) (a := l) (xs := xs) (fun i σ H' => ∃ y : Option V, σ = [some (.ref l), y] ∧ H' = H) ⟨none, rfl, rfl⟩ (fun _ _ _ _ ⟨_, _, e⟩ => e ▸ SqL.of SS.hl) ?_ ?_
    · rintro i y σ H' hy ⟨z, rfl, rfl⟩
      obtain ⟨d, p, ed, rfl, hp, sp⟩ := SS.item hy
      walk_at "rd"
      refine ⟨p, d.o, d.s, d.m, rfl, hp, sp, _, rfl, ?_⟩
      refine ite2 (fun z => (not_t z rfl).elim) (fun _ => ?_)
      exact ⟨_, rfl, rfl⟩
    · rintro σ H' ⟨z, rfl, rfl⟩
      exact q
end
end HT
namespace HT
open PySem L2
theorem due_monoN {o s : Int} {m : Str} {v : Int} (hm : Mode m) (hs : 1 ≤ s) : ∀ n : Nat, dueM o s m v ≤ dueM o s m (v + (n : Int))
  | 0 => by rw [show v + ((0 : Nat) : Int) = v by omega]; exact Int.le_refl _
  | n + 1 => by
    have a := due_monoN hm hs n (o := o) (v := v)
    have b := due_mono hm hs (o := o) (v := v + (n : Int))
    rw [show v + ((n + 1 : Nat) : Int) = v + (n : Int) + 1 by omega]
    omega
theorem due_le {o s : Int} {m : Str} {v y : Int} (hm : Mode m) (hs : 1 ≤ s) (h : v ≤ y) : dueM o s m v ≤ dueM o s m y := by
  have := due_monoN hm hs (y - v).toNat (o := o) (v := v)
  rw [show v + (((y - v).toNat : Nat) : Int) = y by omega] at this
  exact this

end HT
namespace HT
open PySem L2
/-! ### which values come from which -/
def runW (w : List Sd) (x : Int) : Int := w.foldl (fun x d => dueM d.o d.s d.m x) x
def Rc (ss : List Sd) (x y : Int) : Prop := ∃ w : List Sd, (∀ d ∈ w, d ∈ ss) ∧ runW w x = y
theorem Rc.refl {ss : List Sd} (x : Int) : Rc ss x x := ⟨[], ⟨fun _ h => absurd h List.not_mem_nil, rfl⟩⟩
theorem Rc.trans {ss : List Sd} {x y z : Int} : Rc ss x y → Rc ss y z → Rc ss x z
  | ⟨a, ha, ea⟩, ⟨b, hb, eb⟩ => ⟨a ++ b, fun d hd => (List.mem_append.mp hd).elim (ha d) (hb d), by unfold runW at *; rw [List.foldl_append, ea, eb]⟩
theorem Rc.one {ss : List Sd} {d : Sd} (h : d ∈ ss) (x : Int) : Rc ss x (dueM d.o d.s d.m x) := ⟨[d], fun e he => by rw [List.mem_singleton.mp he]; exact h, rfl⟩
theorem runW_mono {w : List Sd} : ∀ {x y : Int}, (∀ d ∈ w, SideP d.o d.s d.m) → x ≤ y → runW w x ≤ runW w y := by
  induction w with
  | nil => exact fun _ h => h
  | cons d w ih => exact fun hs h => ih (fun e he => hs e (List.mem_cons_of_mem _ he)) (due_le (hs d List.mem_cons_self).md (hs d List.mem_cons_self).s0 h)
/-- the ascending list of what comes from v -/
def OutIs (ss : List Sd) (v : Int) (R : List Int) : Prop := R.Pairwise (· < ·) ∧ ∀ y, y ∈ R ↔ Rc ss v y
theorem rc_closed {ss : List Sd} {v : Int} {C : List Int} (h0 : v ∈ C) (hc : ∀ c ∈ C, ∀ d ∈ ss, dueM d.o d.s d.m c ∈ C) {y : Int} (h : Rc ss v y) : y ∈ C := by
  obtain ⟨w, hw, rfl⟩ := h
  induction w generalizing v with
  | nil => exact h0
  | cons d w ih => exact ih (hc v h0 d (hw d List.mem_cons_self)) fun e he => hw e (List.mem_cons_of_mem _ he)
theorem sorted_one : ∀ {a b : List Int}, a.Pairwise (· < ·) → b.Pairwise (· < ·) → (∀ y, y ∈ a ↔ y ∈ b) → a = b
  | [], [], _, _, _ => rfl
  | [], y :: b, _, _, h => nomatch (h y).mpr List.mem_cons_self
  | x :: a, [], _, _, h => nomatch (h x).mp List.mem_cons_self
  | x :: a, y :: b, ha, hb, h => by
    obtain ⟨a1, a2⟩ := List.pairwise_cons.mp ha
    obtain ⟨b1, b2⟩ := List.pairwise_cons.mp hb
    have e : x = y := by
      rcases List.mem_cons.mp ((h x).mp List.mem_cons_self) with z | z
      · exact z
      · rcases List.mem_cons.mp ((h y).mpr List.mem_cons_self) with u | u
        · exact u.symm
        · have := a1 y u
          have := b1 x z
          omega
    subst e
    rw [sorted_one a2 b2 fun z => ⟨fun m => ?_, fun m => ?_⟩]
    · rcases List.mem_cons.mp ((h z).mp (List.mem_cons_of_mem _ m)) with u | u
      · have := a1 z m
        omega
      · exact u
    · rcases List.mem_cons.mp ((h z).mpr (List.mem_cons_of_mem _ m)) with u | u
      · have := b1 z m
        omega
      · exact u
theorem OutIs.uniq {ss : List Sd} {v : Int} {R S : List Int} (a : OutIs ss v R) (b : OutIs ss v S) : R = S := sorted_one a.1 b.1 fun y => (a.2 y).trans (b.2 y).symm
theorem OutIs.self {ss : List Sd} {v : Int} {R : List Int} (a : OutIs ss v R) : v ∈ R := (a.2 v).mpr (Rc.refl v)
theorem OutIs.ne {ss : List Sd} {v : Int} {R : List Int} (a : OutIs ss v R) : 0 < R.length := List.length_pos_of_mem a.self
/-- the first is the least, the last the greatest -/
theorem sorted_first {R : List Int} (h : R.Pairwise (· < ·)) {m : Int} (e : R[0]? = some m) : m ∈ R ∧ ∀ y ∈ R, m ≤ y := by
  cases R with
  | nil => cases e
  | cons a R =>
    cases e
    obtain ⟨a1, a2⟩ := List.pairwise_cons.mp h
    exact ⟨List.mem_cons_self, fun y hy => (List.mem_cons.mp hy).elim (fun z => by omega) fun z => by have := a1 y z; omega⟩
theorem sorted_last {R : List Int} (h : R.Pairwise (· < ·)) {m : Int} (e : R[R.length - 1]? = some m) : m ∈ R ∧ ∀ y ∈ R, y ≤ m := by
  refine ⟨List.mem_of_getElem? e, fun y hy => ?_⟩
  obtain ⟨i, hi, ey⟩ := List.getElem_of_mem hy
  obtain ⟨hj, em⟩ := List.getElem?_eq_some_iff.mp e
  rw [List.pairwise_iff_getElem] at h
  by_cases z : i = R.length - 1
  · subst z
    omega
  · have := h i (R.length - 1) hi hj (by omega)
    omega
/-- a value to which one can come back from wherever one comes -/
def Rec (ss : List Sd) (b : Int) : Prop := ∀ y, Rc ss b y → Rc ss y b
theorem Rec.of {ss : List Sd} {b y : Int} (h : Rec ss b) (r : Rc ss b y) : Rec ss y := fun z hz => (h z (r.trans hz)).trans r
section
variable {ss : List Sd} (hs : ∀ d ∈ ss, SideP d.o d.s d.m)
include hs
/-- the bottom of the top -/
theorem rec_bot {x t b : Int} (ht : Rc ss x t) (mt : ∀ y, Rc ss x y → y ≤ t) (hb : Rc ss t b) (mb : ∀ y, Rc ss t y → b ≤ y) : Rec ss b := by
  intro y hy
  have hy2 := hb.trans hy
  obtain ⟨u, hu, e⟩ := hb
  have a := runW_mono (fun d hd => hs d (hu d hd)) (mt y (ht.trans hy2))
  rw [e] at a
  have b2 := mb (runW u y) (hy2.trans ⟨u, hu, rfl⟩)
  exact ⟨u, hu, by omega⟩
/-- two resting classes of which the one has values on both sides of a value of the other are one -/
theorem rec_meet {b p p1 p2 lo hi : Int} (rb : Rec ss b) (rp : Rec ss p) (h1 : Rc ss p p1) (g1 : b ≤ p1) (h2 : Rc ss p p2) (g2 : p2 ≤ b)
    (hlo : Rc ss p lo) (mlo : ∀ y, Rc ss p y → lo ≤ y) (hhi : Rc ss p hi) (mhi : ∀ y, Rc ss p y → y ≤ hi) : Rc ss p b := by
  obtain ⟨z, hz, ez⟩ : Rc ss p1 lo := (rp p1 h1).trans hlo
  obtain ⟨y, hy, ey⟩ : Rc ss p2 hi := (rp p2 h2).trans hhi
  have a := runW_mono (fun d hd => hs d (hz d hd)) g1
  have c := runW_mono (fun d hd => hs d (hy d hd)) g2
  rw [ez] at a
  rw [ey] at c
  have b1 : Rc ss b (runW z b) := ⟨z, hz, rfl⟩
  have b2 : Rc ss b (runW y b) := ⟨y, hy, rfl⟩
  obtain ⟨q, hq, eq⟩ : Rc ss (runW z b) (runW y b) := (rb _ b1).trans b2
  have f := runW_mono (fun d hd => hs d (hq d hd)) a
  have g : Rc ss p (runW q lo) := hlo.trans ⟨q, hq, rfl⟩
  have i := mhi _ g
  rw [eq] at f
  have e : runW q lo = runW y b := by omega
  rw [e] at g
  exact g.trans (rb _ b2)
/-- what the two resting classes of the program are -/
structure Two (ss : List Sd) (v : Int) (b b' : Int) : Prop where
  rb : Rec ss b
  rb' : Rec ss b'
  vb : Rc ss v b
  vb' : Rc ss v b'
  all : ∀ p, Rc ss v p → Rec ss p → Rc ss b p ∨ Rc ss b' p
  apart : ¬ Rc ss b b' → ∀ x y, Rc ss b x → Rc ss b' y → x < y
theorem two_of {v m M b b' : Int} (fin : ∀ p, Rc ss v p → ∃ lo hi, Rc ss p lo ∧ (∀ y, Rc ss p y → lo ≤ y) ∧ Rc ss p hi ∧ (∀ y, Rc ss p y → y ≤ hi)) (vm : Rc ss v m) (mm : ∀ y, Rc ss v y → m ≤ y) (vM : Rc ss v M) (mM : ∀ y, Rc ss v y → y ≤ M) (mb : Rc ss m b) (rb : Rec ss b) (Mb' : Rc ss M b') (rb' : Rec ss b') : Two ss v b b' := by
  have vb := vm.trans mb
  have vb' := vM.trans Mb'
  refine ⟨rb, rb', vb, vb', fun p vp rp => ?_, fun n x y hx hy => ?_⟩
  · obtain ⟨lo, hi, l1, l2, h1, h2⟩ := fin p vp
    rcases Int.le_total v p with le | le
    · refine .inr (rp _ ?_)
      obtain ⟨u, hu, eu⟩ := vb'
      obtain ⟨w, hw, ew⟩ := Mb'
      have a := runW_mono (fun d hd => hs d (hu d hd)) le
      have c := runW_mono (fun d hd => hs d (hw d hd)) (mM p vp)
      rw [eu] at a
      rw [ew] at c
      exact rec_meet hs rb' rp ⟨u, hu, rfl⟩ a ⟨w, hw, rfl⟩ c l1 l2 h1 h2
    · refine .inl (rp _ ?_)
      obtain ⟨u, hu, eu⟩ := vb
      obtain ⟨w, hw, ew⟩ := mb
      have a := runW_mono (fun d hd => hs d (hu d hd)) le
      have c := runW_mono (fun d hd => hs d (hw d hd)) (mm p vp)
      rw [eu] at a
      rw [ew] at c
      exact rec_meet hs rb rp ⟨w, hw, rfl⟩ c ⟨u, hu, rfl⟩ a l1 l2 h1 h2
  · by_cases z : x < y
    · exact z
    exfalso
    obtain ⟨lo, hi, l1, l2, h1, h2⟩ := fin b' vb'
    obtain ⟨u, hu, eu⟩ := mb
    obtain ⟨w, hw, ew⟩ : Rc ss x b := rb _ hx
    have a := runW_mono (fun d hd => hs d (hu d hd)) (mm b' vb')
    have c := runW_mono (fun d hd => hs d (hw d hd)) (Int.not_lt.mp z)
    rw [eu] at a
    rw [ew] at c
    have k := rec_meet hs rb rb' ⟨u, hu, rfl⟩ a (hy.trans ⟨w, hw, rfl⟩) c l1 l2 h1 h2
    exact n (rb' _ k)
end
theorem rec_iff {ss : List Sd} {p : Int} {R : List Int} {F : Int → List Int} (h : OutIs ss p R) (hF : ∀ y ∈ R, OutIs ss y (F y)) : Rec ss p ↔ ∀ y ∈ R, F y = R := by
  constructor
  · intro r y hy
    have hS := hF y hy
    refine sorted_one hS.1 h.1 fun z => ?_
    rw [hS.2 z, h.2 z]
    have py := (h.2 y).mp hy
    exact ⟨fun q => py.trans q, fun q => (r y py).trans q⟩
  · intro r y hy
    have m := (h.2 y).mpr hy
    have hS := hF y m
    rw [r y m] at hS
    exact (hS.2 p).mp h.self
theorem OutIs.of_rc {ss : List Sd} {p q : Int} {R : List Int} (h : OutIs ss p R) (a : Rc ss p q) (b : Rc ss q p) : OutIs ss q R := ⟨h.1, fun y => (h.2 y).trans ⟨fun z => b.trans z, fun z => a.trans z⟩⟩
end HT
namespace HT
open PySem L2
theorem lt1 {n c : Nat} (h : n + 64 < c) : n + 1 < c := by omega
/-- a list without repetitions is no longer than one that holds it -/
theorem nodup_le : ∀ {C R : List Int}, C.Nodup → (∀ y ∈ C, y ∈ R) → C.length ≤ R.length
  | [], _, _, _ => Nat.zero_le _
  | c :: C, R, h, k => by
    obtain ⟨a, b⟩ := List.nodup_cons.mp h
    have m := k c List.mem_cons_self
    have ih := nodup_le (C := C) (R := R.erase c) b fun y hy => (List.mem_erase_of_ne (fun z => a (by rw [← z]; exact hy))).mpr (k y (List.mem_cons_of_mem _ hy))
    rw [List.length_erase_of_mem m] at ih
    have := List.length_pos_of_mem m
    rw [List.length_cons]
    omega
/-- what a walk from v knows -/
structure Fnd (ss : List Sd) (v : Int) (C : List Int) (k : Nat) : Prop where
  nd : C.Nodup
  kl : k ≤ C.length
  v0 : v ∈ C
  rc : ∀ y ∈ C, Rc ss v y
  cl : ∀ i, i < k → ∀ c, C[i]? = some c → ∀ d ∈ ss, dueM d.o d.s d.m c ∈ C
  bd : ∀ (i : Nat) (c : Int), C[i]? = some c → v - 10 ^ 30 * (i : Int) ≤ c ∧ c ≤ v + 10 ^ 30 * (i : Int)
theorem Fnd.start (ss : List Sd) (v : Int) : Fnd ss v [v] 0 :=
  ⟨by simp, Nat.zero_le _, List.mem_singleton.mpr rfl, fun y h => by rw [List.mem_singleton.mp h]; exact Rc.refl v, fun i h => absurd h (Nat.not_lt_zero _), fun i c h => by
    cases i with
    | zero => cases h; omega
    | succ i => cases h⟩
theorem Fnd.put {ss : List Sd} {v : Int} {C : List Int} {k : Nat} (F : Fnd ss v C k) (hs : ∀ d ∈ ss, SideP d.o d.s d.m) {i : Nat} {c : Int} {d : Sd} (hi : C[i]? = some c) (hd : d ∈ ss) (new : dueM d.o d.s d.m c ∉ C) : Fnd ss v (C ++ [dueM d.o d.s d.m c]) k := by
  have il : i < C.length := (List.getElem?_eq_some_iff.mp hi).1
  refine ⟨?_, (by rw [List.length_append]; exact Nat.le_trans F.kl (Nat.le_add_right _ _)), List.mem_append_left _ F.v0, fun y hy => ?_, fun j hj x hx e he => ?_, fun j x hx => ?_⟩
  · rw [List.nodup_append]
    exact ⟨F.nd, by simp, fun a ha b hb => by rw [List.mem_singleton.mp hb]; exact fun z => new (z ▸ ha)⟩
  · rcases List.mem_append.mp hy with h | h
    · exact F.rc y h
    · rw [List.mem_singleton.mp h]
      exact (F.rc c (List.mem_of_getElem? hi)).trans (Rc.one hd c)
  · by_cases z : j < C.length
    · rw [List.getElem?_append_left z] at hx
      exact List.mem_append_left _ (F.cl j hj x hx e he)
    · have := F.kl
      omega
  · by_cases z : j < C.length
    · rw [List.getElem?_append_left z] at hx
      exact F.bd j x hx
    · rw [List.getElem?_append_right (by omega)] at hx
      have jl : j - C.length < 1 := (List.getElem?_eq_some_iff.mp hx).1
      have e : j - C.length = 0 := by omega
      rw [e] at hx
      cases hx
      have b := F.bd i c hi
      have n := due_near (o := d.o) (v := c) (hs d hd).md (hs d hd).s0
      have s1 := (hs d hd).s1
      omega
/-- where the place is done -/
theorem Fnd.next {ss : List Sd} {v : Int} {C : List Int} {k : Nat} {c : Int} (F : Fnd ss v C k) (hc : C[k]? = some c) (h : ∀ d ∈ ss, dueM d.o d.s d.m c ∈ C) : Fnd ss v C (k + 1) :=
  ⟨F.nd, (List.getElem?_eq_some_iff.mp hc).1, F.v0, F.rc, fun i hi x hx d hd => by
    by_cases z : i < k
    · exact F.cl i z x hx d hd
    · obtain rfl : i = k := by omega
      rw [hc] at hx
      cases hx
      exact h d hd, F.bd⟩
/-- where all places are done -/
theorem Fnd.done {ss : List Sd} {v : Int} {C R : List Int} (F : Fnd ss v C C.length) (pm : R.Perm C) (so : R.Pairwise (· ≤ ·)) : OutIs ss v R := by
  have nd : R.Nodup := pm.nodup_iff.mpr F.nd
  refine ⟨?_, fun y => ?_⟩
  · have : R.Pairwise fun a b => a ≤ b ∧ a ≠ b := so.and nd
    exact this.imp fun h => by omega
  · rw [pm.mem_iff]
    refine ⟨F.rc y, fun h => rc_closed F.v0 (fun c hc d hd => ?_) h⟩
    obtain ⟨i, hi, e⟩ := List.getElem_of_mem hc
    exact F.cl i hi c (by rw [List.getElem?_eq_getElem hi, e]) d hd
theorem Fnd.le {ss : List Sd} {v : Int} {C R : List Int} {k : Nat} (F : Fnd ss v C k) (h : OutIs ss v R) : C.length ≤ R.length := nodup_le F.nd fun y hy => (h.2 y).mpr (F.rc y hy)
theorem Fnd.near {ss : List Sd} {v : Int} {C : List Int} {k n : Nat} (F : Fnd ss v C k) (hn : C.length ≤ n) : ∀ y ∈ C, v - 10 ^ 30 * (n : Int) ≤ y ∧ y ≤ v + 10 ^ 30 * (n : Int) := fun y hy => by
  obtain ⟨i, hi, e⟩ := List.getElem_of_mem hy
  have := F.bd i y (by rw [List.getElem?_eq_getElem hi, e])
  omega
/-- the set beside the list -/
def KnownP (C : List Int) (kvs : List (Key × V)) : Prop := kvs.length ≤ C.length ∧ ∀ y : Int, (valV kvs (.inl y)).isSome = true ↔ y ∈ C
theorem KnownP.put {C : List Int} {kvs : List (Key × V)} (h : KnownP C kvs) (y : Int) (b : V) : KnownP (C ++ [y]) (putK kvs (.inl y) b) := by
  refine ⟨Nat.le_trans (length_putK _ _ _) (by have := h.1; rw [List.length_append]; exact Nat.add_le_add_right this 1), fun z => ?_⟩
  rw [valV_put, List.mem_append, List.mem_singleton]
  by_cases e : z = y
  · rw [if_pos (by rw [e])]
    exact ⟨fun _ => .inr e, fun _ => rfl⟩
  · rw [if_neg (fun q => e (by injection q)), h.2 z]
    exact ⟨.inl, fun q => q.resolve_right e⟩
theorem KnownP.start (v : Int) (b : V) : KnownP [v] [(.inl v, b)] := by
  refine ⟨Nat.le_refl _, fun y => ?_⟩
  by_cases e : v = y
  · rw [valV_pos (by rw [e])]
    exact ⟨fun _ => List.mem_singleton.mpr e.symm, fun _ => rfl⟩
  · rw [valV_neg (fun z => e (by injection z)), valV_nil]
    exact ⟨fun z => absurd z (by decide), fun z => absurd (List.mem_singleton.mp z).symm e⟩
end HT
namespace HT
open PySem L2
section
variable {P : Program} {w : World} {K : PySem.W.Frag} {mg : Str → Option Value} {base : Heap}
/-- both promises of a def -/
theorem or_ok {CX : CXT} {k : Nat} {f : Addr} {fd : FuncData} {ps : List Str} {sp sp' : Sp} (F : FnOk P w K mg base CX k f fd ps sp) (G : FnOk P w K mg base CX k f fd ps sp') : FnOk P w K mg base CX k f fd ps (fun vs H Q E => sp vs H Q E ∨ sp' vs H Q E) :=
  ⟨fun vs H Q E h => h.elim (F.len vs H Q E) (G.len vs H Q E), fun A outer s H args us vs Q E hr he hb hv hs => hs.elim (F.run A outer s H args us vs Q E hr he hb hv) (G.run A outer s H args us vs Q E hr he hb hv)⟩
end
end HT
namespace HT
open PySem L2
section
variable {P : Program} {w : World} {K : PySem.W.Frag} {mg : Str → Option Value} {base : Heap}
/-- a def that lets nothing out keeps its promise among errors too -/
theorem to_x {k : Nat} {f : Addr} {fd : FuncData} {ps : List Str} {sp : Sp} (F : FnOk P w K mg base CX0 k f fd ps sp) : FnOk P w K mg base (L2.CX P w) k f fd ps sp :=
  ⟨F.len, fun A outer s H args us vs Q E hr he hb hv hs => codeAny_mono (F.run A outer s H args us vs Q E hr he hb hv hs) fun r s' h => by
    unfold CR at h ⊢
    split at h
    · exact h
    · exact h
    · exact h.elim⟩
def spNo : Sp := fun _ _ _ _ => False
end
end HT
namespace HT
open PySem L2
/-- a thing of any kind, with its type's name -/
inductive Th (H : Hp) : V → String → Prop where
  | int (i : Int) : Th H (.int i) "int"
  | bl (b : Bool) : Th H (.bl b) "bool"
  | non : Th H .non "NoneType"
  | str (s : Str) : Th H (.str s) "str"
  | tup {p : Addr} {xs : List V} (h : H p = some (.tup xs)) : Th H (.ref p) "tuple"
  | lst {p : Addr} {xs : List V} (h : H p = some (.lst xs)) : Th H (.ref p) "list"
  | dk {p : Addr} {kvs : List (Key × V)} (h : H p = some (.dK kvs)) : Th H (.ref p) "dict"
theorem Th.ty {K : PySem.W.Frag} {H : Hp} {x : V} {n : String} (t : Th H x n) : TyX K H x (.type n) := by
  cases t with
  | int i => exact .base (.int i)
  | bl b => exact .base (.bl b)
  | non => exact .base .non
  | str s => exact .base (.str s)
  | tup h => exact .base (.tup h)
  | lst h => exact .base (.lst h)
  | dk h => exact .base (.dK h)
theorem Th.kint {K : PySem.W.Frag} {H : Hp} {x : V} {n : String} (t : Th H x n) : PySem.W.kitOne K (.type n) (.type "int") = some (n == "int" || n == "bool") := by
  cases t <;> exact kit_ty (by decide +kernel)
theorem Th.kbool {K : PySem.W.Frag} {H : Hp} {x : V} {n : String} (t : Th H x n) : PySem.W.kitOne K (.type n) (.type "bool") = some (n == "bool") := by
  cases t <;> exact kit_ty (by decide +kernel)
theorem Th.ktup {K : PySem.W.Frag} {H : Hp} {x : V} {n : String} (t : Th H x n) : PySem.W.kitOne K (.type n) (.type "tuple") = some (n == "tuple") := by
  cases t <;> exact kit_ty (by decide +kernel)
theorem Th.klst {K : PySem.W.Frag} {H : Hp} {x : V} {n : String} (t : Th H x n) : PySem.W.kitOne K (.type n) (.type "list") = some (n == "list") := by
  cases t <;> exact kit_ty (by decide +kernel)
theorem Th.same {H H' : Hp} {x : V} {n : String} (t : Th H x n) (s : Same H H') : Th H' x n := by
  cases t with
  | int i => exact .int i
  | bl b => exact .bl b
  | non => exact .non
  | str x => exact .str x
  | tup h => exact .tup (s _ _ h)
  | lst h => exact .lst (s _ _ h)
  | dk h => exact .dk (s _ _ h)
def isI (n : String) : Bool := n == "int"
def spIsAny : Sp := fun vs H Q _ => ∃ (x : V) (n : String), vs = [x] ∧ Th H x n ∧ Q (.bl (isI n)) H
/-- an int between the ends -/
def inB (x : V) (a b : Int) : Bool := match x with
  | .int i => decide (a ≤ i) && decide (i ≤ b)
  | _ => false
def spBetAny : Sp := fun vs H Q _ => ∃ (x : V) (n : String) (a b : Int), vs = [x, .int a, .int b] ∧ Th H x n ∧ Q (.bl (inB x a b)) H
/-- the names that the text of checks does not bind -/
structure ChkT (mg : Str → Option Value) : Prop where
  isi : mg "isinstance" = none
  int : mg "int" = none
  bool : mg "bool" = none
  tuple : mg "tuple" = none
  list : mg "list" = none
  len : mg "len" = none
section
variable {P : Program} {w : World} {K : PySem.W.Frag} {mg : Str → Option Value} {base : Heap} {fI : Addr} {dI : FuncData}
theorem ok_is_any {f : Addr} {fd : FuncData} (F : Fun K "is_int" "is_int" s_is_int f fd) (T : ChkT mg) : FnOk P w K mg base CX0 1 f fd ["thing"] spIsAny := by
  refine F.ok sc_is_int (fun vs H Q E h => ?_) (fun cdv A outer s H vs Q E hr h => ?_)
  · obtain ⟨x, n, rfl, _⟩ := h
    rfl
  · obtain ⟨x, n, rfl, t, q⟩ := h
    refine ⟨_, pss_one (ps_ret (pe_and (pe_callB call_isi (by rfl) T.isi (by decide +kernel) (pa_cons (pv 0) (pa_cons (pe_bltn (v := .ty "int") (by rfl) T.int (by decide +kernel) rfl) pa_nil)))
      (pe_one (pe_not (pe_callB call_isi (by rfl) T.isi (by decide +kernel) (pa_cons (pv 0) (pa_cons (pe_bltn (v := .ty "bool") (by rfl) T.bool (by decide +kernel) rfl) pa_nil))))))), ?_⟩
    walk_at "rd"
    refine ⟨_, _, _, _, _, rfl, .ty "int", t.ty, t.kint, ?_⟩
    walk_at "rd"
    refine ite2 (fun h => ?_) (fun h => ?_)
    · walk_at "rd"
      refine ⟨_, _, _, _, _, rfl, .ty "bool", t.ty, t.kbool, ?_⟩
      walk_at "rd"
      have e : (!(n == "bool")) = isI n := by
        cases t <;> first | rfl | exact absurd h (by decide)
      rw [e]
      exact q
    · have e : isI n = false := by
        cases t <;> first | rfl | exact absurd (by decide) h
      rw [e] at q
      exact q
theorem ok_bet_any {f : Addr} {fd : FuncData} (F : Fun K "is_int_between" "is_int_between" s_is_int_between f fd) (I : Cal P w K mg base "is_int" 1 ["thing"] spIsAny fI dI) : FnOk P w K mg base CX0 2 f fd ["thing", "least", "most"] spBetAny := by
  refine F.ok sc_is_int_between (fun vs H Q E h => ?_) (fun cdv A outer s H vs Q E hr h => ?_)
  · obtain ⟨x, n, a, b, rfl, _⟩ := h
    rfl
  · obtain ⟨x, n, a, b, rfl, t, q⟩ := h
    refine ⟨_, pss_one (ps_ret (pe_and (pcl I hr (by decide) (by rfl) (pa_cons (pv 0) pa_nil)) (pe_one (pe_chain op_le op_le (pv 1) (pv 0) (pv 2))))), ?_⟩
    walk_at "rd"
    refine ⟨x, n, rfl, t, ?_⟩
    cases t with
    | int i =>
      walk_at "rd"
      refine ite2 (fun h => ?_) (fun h => ?_)
      · walk_at "rd"
        change Q (.bl (decide (a ≤ i) && decide (i ≤ b))) H at q
        rw [decide_eq_true (of_decide_eq_true h)] at q
        exact q
      · change Q (.bl (decide (a ≤ i) && decide (i ≤ b))) H at q
        rw [decide_eq_false (of_decide_eq_false (by simpa using h))] at q
        exact q
    | _ => exact ⟨_, rfl, q⟩
end
end HT
namespace HT
open PySem L2
def modesD : List PyData := [.str "down", .str "up", .str "half_down", .str "half_up", .str "half_even"]
/-- a mode's place is taken by something else -/
def NoMode (d : PyData) : Prop := SeqAt.shaped d = true ∧ (modesD.any fun z => PyData.eqv z d) = false
/-- the four classes by number, and their base class at B -/
structure Er (K : PySem.W.Frag) (mg : Str → Option Value) (C : Nat → Addr) (B : Addr) : Prop where
  isi : mg "isinstance" = none
  ve : mg "ValueError" = none
  gB : mg "HandedError" = some (.ref B)
  g0 : mg "InvalidSide" = some (.ref (C 0))
  g1 : mg "InvalidSides" = some (.ref (C 1))
  g2 : mg "TooMany" = some (.ref (C 2))
  g3 : mg "InvalidValue" = some (.ref (C 3))
  kit : ∀ i j, i < 4 → j < 4 → PySem.W.kitOne K (.ref (C i)) (.ref (C j)) = some (decide (i = j))
  kitV : ∀ i, i < 4 → PySem.W.kitOne K (.ref (C i)) (.type "ValueError") = some true
  ec : ∀ i, i < 4 → ErrC K (C i)
  eg : ErrG K
  ex : ∀ i, i < 4 → PySem.W.excIn K (C i) [.type "ValueError", .type "Exception", .type "BaseException", .type "object"] "ValueError.__new__" = true
  kp : ∀ i, i < 4 → PySem.W.keepIn K (.ref (C i)) = true
  sb : ∀ i, i < 4 → PySem.W.subIn K (.ref (C i)) (.type "BaseException") = some true
  ty : ∀ i, i < 4 → PySem.W.typeIn K (.ref (C i)) = some (.type "type")
  emB : ∀ i, i < 4 → PySem.W.exmOne K (.ref (C i)) (.ref B) = some true
  em0 : PySem.W.exmOne K (.ref (C 0)) (.ref (C 0)) = some true
/-- flat data, and a list of one text -/
inductive Fl (H : Hp) : V → PyData → Prop where
  | non : Fl H .non .none
  | bl (b : Bool) : Fl H (.bl b) (.bool b)
  | int (i : Int) : Fl H (.int i) (.int i)
  | str (s : Str) : Fl H (.str s) (.str s)
  | one {l : Addr} {s : Str} (h : H l = some (.lst [.str s])) : Fl H (.ref l) (.list [.str s])
theorem Fl.dp {K : PySem.W.Frag} {H : Hp} {c : V} {d : PyData} (f : Fl H c d) : Dp K H c d := by
  cases f with
  | non => exact .non
  | bl b => exact .bl b
  | int i => exact .int i
  | str s => exact .str s
  | one h => exact .lst (SqL.of h) (.cons (.str _) .nil)
theorem Fl.same {H H' : Hp} {c : V} {d : PyData} (f : Fl H c d) (s : Same H H') : Fl H' c d := by
  cases f with
  | non => exact .non
  | bl b => exact .bl b
  | int i => exact .int i
  | str x => exact .str x
  | one h => exact .one (s _ _ h)
/-- no side -/
inductive BadS (K : PySem.W.Frag) (H : Hp) : V → Prop where
  | kind {x : V} {n : String} (t : Th H x n) (h : (n == "tuple") = false) : BadS K H x
  | len {p : Addr} {xs : List V} (hp : H p = some (.tup xs)) (h : ¬ xs.length = 3) : BadS K H (.ref p)
  | off {p : Addr} {a b c : V} {n : String} (hp : H p = some (.tup [a, b, c])) (t : Th H a n) (h : inB a (-10 ^ 40) (10 ^ 40) = false) : BadS K H (.ref p)
  | stp {p : Addr} {a b c : V} {n m : String} (hp : H p = some (.tup [a, b, c])) (t : Th H a n) (h : inB a (-10 ^ 40) (10 ^ 40) = true) (u : Th H b m) (g : inB b 1 (10 ^ 30) = false) : BadS K H (.ref p)
  | mod {p : Addr} {a b c : V} {n m : String} {d : PyData} (hp : H p = some (.tup [a, b, c])) (t : Th H a n) (h : inB a (-10 ^ 40) (10 ^ 40) = true) (u : Th H b m) (g : inB b 1 (10 ^ 30) = true) (dp : Fl H c d) (hd : NoMode d) : BadS K H (.ref p)
theorem BadS.same {K : PySem.W.Frag} {H H' : Hp} {x : V} (b : BadS K H x) (e : Same H H') : BadS K H' x := by
  cases b with
  | kind t h => exact .kind (t.same e) h
  | len hp h => exact .len (e _ _ hp) h
  | off hp t h => exact .off (e _ _ hp) (t.same e) h
  | stp hp t h u g => exact .stp (e _ _ hp) (t.same e) h (u.same e) g
  | mod hp t h u g dp hd => exact .mod (e _ _ hp) (t.same e) h (u.same e) g (dp.same e) hd
def GoodS (H : Hp) (x : V) : Prop := ∃ (p : Addr) (o s : Int) (m : Str), x = .ref p ∧ H p = some (sideV o s m) ∧ SideP o s m
def spValX (C : Nat → Addr) : Sp := fun vs H Q E => ∃ (x : V) (n : String), vs = [x] ∧ Th H x n ∧ (isI n = true → Q .non H) ∧ (isI n = false → E (.ref (C 3)) none H)
def spSideX (K : PySem.W.Frag) (C : Nat → Addr) : Sp := fun vs H Q E => ∃ x : V, vs = [x] ∧ ((GoodS H x ∧ Q .non H) ∨ (BadS K H x ∧ E (.ref (C 0)) none H))
def rNotInT (K : PySem.W.Frag) : R2 := fun x y H Q => ∃ d ds, Dp K H x d ∧ Dp K H y (.tuple ds) ∧ SeqAt.shaped d = true ∧ PyData.canLayAll0 ds = true ∧ PyData.depthAll ds ≤ 60 ∧ Q (.bl (!ds.any fun z => PyData.eqv z d)) H
theorem op_notInT {X : Cx} (hu : X.A.units + 64 < cLine) : OpR X (compareOp .NotIn) (rNotInT X.K) := by
  intro pins sh st H x y v u Q iv rx ry h
  obtain ⟨d, ds, hd, he, sd, se, sz, q⟩ := h
  obtain ⟨as, r1⟩ := Dp.reads iv d x v hd rx
  obtain ⟨bs, r2⟩ := Dp.reads iv (.tuple ds) y u he ry
  refine SeqAt.notIn_tuple_reads r2 r1 se (SeqAt.canLay_of_shaped sd) ?_ ⟨.bl _, H, iv, rfl, q⟩
  have : min (PyData.depthAll ds) d.depth ≤ PyData.depthAll ds := Nat.min_le_left _ _
  omega
/-- the table of modes -/
structure ModT (K : PySem.W.Frag) (mg : Str → Option Value) (aM : Addr) : Prop where
  gM : mg "MODES" = some (.ref aM)
  tM : ∀ H, SqT K H aM modesV
theorem dpModes {K : PySem.W.Frag} {H : Hp} {aM : Addr} (t : SqT K H aM modesV) : Dp K H (.ref aM) (.tuple modesD) := .tup t (.cons (.str _) (.cons (.str _) (.cons (.str _) (.cons (.str _) (.cons (.str _) .nil)))))
theorem mode_inX {m : Str} (h : Mode m) : SeqAt.shaped (.str m) = true ∧ (modesD.any fun z => PyData.eqv z (.str m)) = true := by
  rcases h with e | e | e | e | e <;> subst e <;> decide +kernel
section
variable {P : Program} {w : World} {K : PySem.W.Frag} {mg : Str → Option Value} {base : Heap} {aM fI fB fV fC fL fN fW B : Addr} {dI dB dV dC dL dN dW : FuncData} {C : Nat → Addr}
theorem ok_val_x {f : Addr} {fd : FuncData} (F : Fun K "check_value" "check_value" s_check_value f fd) (R : Er K mg C B) (I : Cal P w K mg base "is_int" 1 ["thing"] spIsAny fI dI) : FnOk P w K mg base (L2.CX P w) 2 f fd ["value"] (spValX C) := by
  refine F.okX sc_check_value (fun vs H Q E h => ?_) (fun cdv A outer s H vs Q E hr h => ?_)
  · obtain ⟨x, n, rfl, _⟩ := h
    rfl
  · obtain ⟨x, n, rfl, t, q1, q2⟩ := h
    refine ⟨_, pss_one (ps_if (pt_not (pt_val (pcl I hr (by decide) (by rfl) (pa_cons (pv 0) pa_nil)))) (pss_one (ps_raise rfl (takes_of rfl rfl rfl rfl) (pmk_own PySem.F.excBase_ValueError (R.ex 3 (by decide)) R.g3 (R.kp 3 (by decide)) (raises_own (R.sb 3 (by decide)) (R.ty 3 (by decide))) (by rfl)))) pss_nil), ?_⟩
    walk_at "rd"
    refine ⟨x, n, rfl, t, ?_⟩
    walk_at "rd"
    refine ite2 (fun h => ?_) (fun h => ?_)
    · exact q2 (by simpa using h)
    · exact q1 (not_f h)
end
end HT
namespace HT
open PySem L2
section
variable {P : Program} {w : World} {K : PySem.W.Frag} {mg : Str → Option Value} {base : Heap} {aM fI fB fV fC fL fN fW B : Addr} {dI dB dV dC dL dN dW : FuncData} {C : Nat → Addr}
theorem ok_side_x {f : Addr} {fd : FuncData} (F : Fun K "check_side" "check_side" s_check_side f fd) (T : ChkT mg) (M : ModT K mg aM) (R : Er K mg C B) (Bt : Cal P w K mg base "is_int_between" 2 ["thing", "least", "most"] spBetAny fB dB) : FnOk P w K mg base (L2.CX P w) 3 f fd ["side"] (spSideX K C) := by
  refine F.okAny sc_check_side (fun vs H Q E h => ?_) (fun cdv A outer s0 H vs Q E hr h => ?_)
  · obtain ⟨x, rfl, _⟩ := h
    rfl
  · obtain ⟨x, rfl, h⟩ := h
    have nd := sc_check_side.nd
    refine ⟨_, pss_cons (ps_if (PW.pt (pw_or (pt_not (pt_val (pe_callB call_isi (by rfl) T.isi (by decide +kernel) (pa_cons (pv 0) (pa_cons (pe_bltn (v := .ty "tuple") (by rfl) T.tuple (by decide +kernel) rfl) pa_nil)))))
        (pw_or1 (pt_cmpR op_ne (pe_callB call_len_seq (by rfl) T.len PySem.boot_len (pa_cons (pv 0) pa_nil)) pe_int (nomark _))))) (pss_one (ps_raise rfl (takes_of rfl rfl rfl rfl) (pmk_own PySem.F.excBase_ValueError (R.ex 0 (by decide)) R.g0 (R.kp 0 (by decide)) (raises_own (R.sb 0 (by decide)) (R.ty 0 (by decide))) (by rfl)))) pss_nil)
      (pss_cons (ps_asg (pv 0) (pg_tup (by rfl) (pgs_cons (pg_name (i := 1) nd rfl (Or.inl rfl)) (pgs_cons (pg_name (i := 2) nd rfl (Or.inl rfl)) (pgs_cons (pg_name (i := 3) nd rfl (Or.inl rfl)) pgs_nil)))))
      (pss_cons (ps_if (pt_not (pt_val (pcl Bt hr (by decide) (by rfl) (pa_cons (pv 1) (pa_cons (pe_un un_neg (pe_op op_pow pe_int pe_int)) (pa_cons (pe_op op_pow pe_int pe_int) pa_nil)))))) (pss_one (ps_raise rfl (takes_of rfl rfl rfl rfl) (pmk_own PySem.F.excBase_ValueError (R.ex 0 (by decide)) R.g0 (R.kp 0 (by decide)) (raises_own (R.sb 0 (by decide)) (R.ty 0 (by decide))) (by rfl)))) pss_nil)
      (pss_cons (ps_if (pt_not (pt_val (pcl Bt hr (by decide) (by rfl) (pa_cons (pv 2) (pa_cons pe_int (pa_cons (pe_op op_pow pe_int pe_int) pa_nil)))))) (pss_one (ps_raise rfl (takes_of rfl rfl rfl rfl) (pmk_own PySem.F.excBase_ValueError (R.ex 0 (by decide)) R.g0 (R.kp 0 (by decide)) (raises_own (R.sb 0 (by decide)) (R.ty 0 (by decide))) (by rfl)))) pss_nil)
      (pss_one (ps_if (pt_cmpR (op_notInT hr.units) (pv 3) (pe_glob (v := .ref aM) (by rfl) M.gM rfl) (by rfl)) (pss_one (ps_raise rfl (takes_of rfl rfl rfl rfl) (pmk_own PySem.F.excBase_ValueError (R.ex 0 (by decide)) R.g0 (R.kp 0 (by decide)) (raises_own (R.sb 0 (by decide)) (R.ty 0 (by decide))) (by rfl)))) pss_nil))))), ?_⟩
    walk_at "rd"
    rcases h with ⟨⟨p, o, s, m, rfl, hp, S⟩, q⟩ | ⟨bad, q⟩
    · refine ⟨_, _, _, _, _, rfl, .ty "tuple", .base (.tup hp), kit_ty (r := true) (by decide +kernel), ?_⟩
      walk_at "rd"
      refine ⟨p, _, rfl, .inr (SqT.of hp), rfl, ?_⟩
      walk_at "rd"
      refine ⟨p, _, rfl, SqT.of hp, rfl, _, _, rfl, _, _, rfl, _, _, rfl, rfl, ?_⟩
      walk_at "rd"
      refine ⟨⟨by decide, by decide, by decide⟩, ?_⟩
      walk_at "rd"
      refine ⟨⟨by decide, by decide, by decide⟩, _, _, _, _, rfl, .int o, ?_⟩
      have e1 : inB (.int o) (-(10 : Int) ^ (40 : Int).toNat) ((10 : Int) ^ (40 : Int).toNat) = true := by
        show (decide (-(10 : Int) ^ (40 : Int).toNat ≤ o) && decide (o ≤ (10 : Int) ^ (40 : Int).toNat)) = true
        rw [decide_eq_true (show -(10 : Int) ^ (40 : Int).toNat ≤ o from S.o0), decide_eq_true (show o ≤ (10 : Int) ^ (40 : Int).toNat from S.o1)]
        rfl
      refine ⟨_, rfl, ?_⟩
      refine ite2 (fun h => (not_t h e1).elim) (fun _ => ?_)
      walk_at "rd"
      refine ⟨⟨by decide, by decide, by decide⟩, _, _, _, _, rfl, .int s, ?_⟩
      have e2 : inB (.int s) 1 ((10 : Int) ^ (30 : Int).toNat) = true := by
        show (decide ((1 : Int) ≤ s) && decide (s ≤ (10 : Int) ^ (30 : Int).toNat)) = true
        rw [decide_eq_true S.s0, decide_eq_true (show s ≤ (10 : Int) ^ (30 : Int).toNat from S.s1)]
        rfl
      refine ⟨_, rfl, ?_⟩
      refine ite2 (fun h => (not_t h e2).elim) (fun _ => ?_)
      walk_at "rd"
      refine ⟨_, _, .str m, dpModes (M.tM H), (mode_inX S.md).1, by decide +kernel, by decide +kernel, ?_⟩
      walk_at "rd"
      refine ite2 (fun h => (not_t h (mode_inX S.md).2).elim) (fun _ => ?_)
      exact q
    · cases bad with
      | kind t h =>
        refine ⟨_, _, _, _, _, rfl, .ty "tuple", t.ty, t.ktup, ?_⟩
        walk_at "rd"
        refine ite2 (fun _ => ?_) (fun z => absurd (by rw [h]; rfl) z)
        exact q
      | len hp h =>
        refine ⟨_, _, _, _, _, rfl, .ty "tuple", .base (.tup hp), kit_ty (r := true) (by decide +kernel), ?_⟩
        walk_at "rd"
        refine ⟨_, _, rfl, .inr (SqT.of hp), ?_⟩
        walk_at "rd"
        refine ⟨rfl, ?_⟩
        walk_at "rd"
        refine ite2 (fun _ => q) (fun z => absurd ?_ z)
        rw [dec_int, decide_eq_false (fun y => h (by omega))]
        rfl
      | off hp t h =>
        refine ⟨_, _, _, _, _, rfl, .ty "tuple", .base (.tup hp), kit_ty (r := true) (by decide +kernel), ?_⟩
        walk_at "rd"
        refine ⟨_, _, rfl, .inr (SqT.of hp), rfl, ?_⟩
        walk_at "rd"
        refine ⟨_, _, rfl, SqT.of hp, rfl, _, _, rfl, _, _, rfl, _, _, rfl, rfl, ?_⟩
        walk_at "rd"
        refine ⟨⟨by decide, by decide, by decide⟩, ?_⟩
        walk_at "rd"
        refine ⟨⟨by decide, by decide, by decide⟩, _, _, _, _, rfl, t, ?_⟩
        refine ⟨_, rfl, ?_⟩
        exact ite2 (fun _ => q) (fun z => absurd (by rw [show inB _ (-(10 : Int) ^ (40 : Int).toNat) ((10 : Int) ^ (40 : Int).toNat) = false from h]; rfl) z)
      | stp hp t h u g =>
        refine ⟨_, _, _, _, _, rfl, .ty "tuple", .base (.tup hp), kit_ty (r := true) (by decide +kernel), ?_⟩
        walk_at "rd"
        refine ⟨_, _, rfl, .inr (SqT.of hp), rfl, ?_⟩
        walk_at "rd"
        refine ⟨_, _, rfl, SqT.of hp, rfl, _, _, rfl, _, _, rfl, _, _, rfl, rfl, ?_⟩
        walk_at "rd"
        refine ⟨⟨by decide, by decide, by decide⟩, ?_⟩
        walk_at "rd"
        refine ⟨⟨by decide, by decide, by decide⟩, _, _, _, _, rfl, t, ?_⟩
        refine ⟨_, rfl, ?_⟩
        refine ite2 (fun z => (not_t z (show inB _ (-(10 : Int) ^ (40 : Int).toNat) ((10 : Int) ^ (40 : Int).toNat) = true from h)).elim) (fun _ => ?_)
        walk_at "rd"
        refine ⟨⟨by decide, by decide, by decide⟩, _, _, _, _, rfl, u, ?_⟩
        refine ⟨_, rfl, ?_⟩
        exact ite2 (fun _ => q) (fun z => absurd (by rw [show inB _ 1 ((10 : Int) ^ (30 : Int).toNat) = false from g]; rfl) z)
      | mod hp t h u g dp hd =>
        refine ⟨_, _, _, _, _, rfl, .ty "tuple", .base (.tup hp), kit_ty (r := true) (by decide +kernel), ?_⟩
        walk_at "rd"
        refine ⟨_, _, rfl, .inr (SqT.of hp), rfl, ?_⟩
        walk_at "rd"
        refine ⟨_, _, rfl, SqT.of hp, rfl, _, _, rfl, _, _, rfl, _, _, rfl, rfl, ?_⟩
        walk_at "rd"
        refine ⟨⟨by decide, by decide, by decide⟩, ?_⟩
        walk_at "rd"
        refine ⟨⟨by decide, by decide, by decide⟩, _, _, _, _, rfl, t, ?_⟩
        refine ⟨_, rfl, ?_⟩
        refine ite2 (fun z => (not_t z (show inB _ (-(10 : Int) ^ (40 : Int).toNat) ((10 : Int) ^ (40 : Int).toNat) = true from h)).elim) (fun _ => ?_)
        walk_at "rd"
        refine ⟨⟨by decide, by decide, by decide⟩, _, _, _, _, rfl, u, ?_⟩
        refine ⟨_, rfl, ?_⟩
        refine ite2 (fun z => (not_t z (show inB _ 1 ((10 : Int) ^ (30 : Int).toNat) = true from g)).elim) (fun _ => ?_)
        walk_at "rd"
        refine ⟨_, _, dp.dp, dpModes (M.tM H), hd.1, by decide +kernel, by decide +kernel, ?_⟩
        walk_at "rd"
        refine ite2 (fun _ => q) (fun z => absurd (by rw [hd.2]; rfl) z)
end
end HT
namespace HT
open PySem L2
def GoodL (H : Hp) (l : Addr) (xs : List V) : Prop := H l = some (.lst xs) ∧ 1 ≤ xs.length ∧ xs.length ≤ 4 ∧ ∀ y ∈ xs, GoodS H y
/-- no list of sides -/
inductive BadL (K : PySem.W.Frag) (H : Hp) : V → Prop where
  | kind {x : V} {n : String} (t : Th H x n) (h : (n == "list") = false) : BadL K H x
  | len {l : Addr} {xs : List V} (hl : H l = some (.lst xs)) (h : ¬ (1 ≤ xs.length ∧ xs.length ≤ 4)) : BadL K H (.ref l)
  | item {l : Addr} {xs : List V} {i : Nat} {y : V} (hl : H l = some (.lst xs)) (h1 : 1 ≤ xs.length) (h2 : xs.length ≤ 4) (hi : xs[i]? = some y) (bad : BadS K H y) (good : ∀ j z, j < i → xs[j]? = some z → GoodS H z) : BadL K H (.ref l)
def spIsSideX (K : PySem.W.Frag) : Sp := fun vs H Q _ => ∃ x : V, vs = [x] ∧ ((GoodS H x ∧ Q (.bl true) H) ∨ (BadS K H x ∧ Q (.bl false) H))
def spSidesX (K : PySem.W.Frag) (C : Nat → Addr) : Sp := fun vs H Q E => ∃ x : V, vs = [x] ∧ ((∃ l xs, x = .ref l ∧ GoodL H l xs ∧ Q .non H) ∨ (BadL K H x ∧ E (.ref (C 1)) none H))
/-- the numbers of among's top -/
structure AmT (mg : Str → Option Value) : Prop where
  ms : ∃ t, mg "MOST_SIDES" = some (.int 4 t)
section
variable {P : Program} {w : World} {K : PySem.W.Frag} {mg : Str → Option Value} {base : Heap} {aM fI fB fV fC fL fN fW B : Addr} {dI dB dV dC dL dN dW : FuncData} {C : Nat → Addr}
theorem ok_is_side_x {f : Addr} {fd : FuncData} (F : Fun K "is_side" "is_side" s_is_side f fd) (R : Er K mg C B) (Ck : CalX P w K mg base "check_side" 3 ["side"] (spSideX K C) fC dC) : FnOk P w K mg base CX0 4 f fd ["thing"] (spIsSideX K) := by
  refine F.ok sc_is_side (fun vs H Q E h => ?_) (fun cdv A outer s0 H vs Q E hr h => ?_)
  · obtain ⟨x, rfl, _⟩ := h
    rfl
  · obtain ⟨x, rfl, h⟩ := h
    refine ⟨_, pss_cons (ps_try_only rfl rfl ⟨rfl, by decide, .inl R.g0⟩ takes0 (fun W pn xe tk _ => pss_one (ps_expr (pcx Ck hr (by decide) (by rfl) tk (pa_cons (pv 0) pa_nil)))) (fun a oe cls d pn _ _ => pss_one (ps_ret pe_bl))) (pss_one (ps_ret pe_bl)), ?_⟩
    walk_at "rd"
    rcases h with ⟨good, q⟩ | ⟨bad, q⟩
    · refine .inl ⟨good, ?_⟩
      walk_at "rd"
      exact q
    · refine .inr ⟨bad, ?_⟩
      exact ⟨true, R.em0, fun _ a ha => q, fun z => Bool.noConfusion z⟩
theorem ok_sides_x {f : Addr} {fd : FuncData} (F : Fun K "check_sides" "check_sides" s_check_sides f fd) (T : ChkT mg) (A' : AmT mg) (R : Er K mg C B) (Ck : Cal P w K mg base "is_side" 4 ["thing"] (spIsSideX K) fC dC) : FnOk P w K mg base (L2.CX P w) 5 f fd ["sides"] (spSidesX K C) := by
  refine F.okAny sc_check_sides (fun vs H Q E h => ?_) (fun cdv A outer s0 H vs Q E hr h => ?_)
  · obtain ⟨x, rfl, _⟩ := h
    rfl
  · obtain ⟨x, rfl, h⟩ := h
    have nd := sc_check_sides.nd
    obtain ⟨tms, hms⟩ := A'.ms
    refine ⟨_, pss_cons (ps_if (PW.pt (pw_or (pt_not (pt_val (pe_callB call_isi (by rfl) T.isi (by decide +kernel) (pa_cons (pv 0) (pa_cons (pe_bltn (v := .ty "list") (by rfl) T.list (by decide +kernel) rfl) pa_nil)))))
        (pw_or1 (pt_not (pt_chain op_le op_le pe_int (pe_callB call_len_seq (by rfl) T.len PySem.boot_len (pa_cons (pv 0) pa_nil)) (pe_glob (v := .int 4) (by rfl) hms ⟨_, rfl⟩)))))) (pss_one (ps_raise rfl (takes_of rfl rfl rfl rfl) (pmk_own PySem.F.excBase_ValueError (R.ex 1 (by decide)) R.g1 (R.kp 1 (by decide)) (raises_own (R.sb 1 (by decide)) (R.ty 1 (by decide))) (by rfl)))) pss_nil)
      (pss_one (ps_for (passes_of rfl) rfl (pi_list (pv 0)) (pg_name (i := 1) nd rfl (Or.inl rfl))
        (pss_one (ps_if (pt_not (pt_val (pcl Ck hr (by decide) (by rfl) (pa_cons (pv 1) pa_nil)))) (pss_one (ps_raise rfl (takes_of rfl rfl rfl rfl) (pmk_own PySem.F.excBase_ValueError (R.ex 1 (by decide)) R.g1 (R.kp 1 (by decide)) (raises_own (R.sb 1 (by decide)) (R.ty 1 (by decide))) (by rfl)))) pss_nil)))), ?_⟩
    walk_at "rd"
    rcases h with ⟨l, xs, rfl, ⟨hl, l1, l4, good⟩, q⟩ | ⟨bad, q⟩
    · refine ⟨_, _, _, _, _, rfl, .ty "list", .base (.lst hl), kit_ty (r := true) (by decide +kernel), ?_⟩
      walk_at "rd"
      refine ⟨l, _, rfl, .inl (SqL.of hl), ?_⟩
      walk_at "rd"
      refine ite2 (fun _ => ?_) (fun z => absurd (decide_eq_true (by omega)) z)
      walk_at "rd"
      refine ite2 (fun z => ?_) (fun _ => ?_)
      · exfalso
        have e : decide ((xs.length : Int) ≤ 4) = true := decide_eq_true (by omega)
        exact not_t z e
      walk_at "rd"
      refine ⟨⟨_, SqL.of hl⟩, ?_⟩
      refine for_list (K := K) (a := l) (xs := xs) (fun i σ H' => ∃ y : Option V, σ = [some (.ref l), y] ∧ H' = H) ⟨none, rfl, rfl⟩ (fun _ _ _ _ ⟨_, _, e⟩ => e ▸ SqL.of hl) ?_ ?_
      · rintro i y σ H' hy ⟨z, rfl, rfl⟩
        walk_at "rd"
        refine .inl ⟨good y (List.mem_of_getElem? hy), _, rfl, ?_⟩
        refine ite2 (fun z => (not_t z rfl).elim) (fun _ => ?_)
        exact ⟨_, rfl, rfl⟩
      · rintro σ H' ⟨z, rfl, rfl⟩
        exact q
    · cases bad with
      | kind t h =>
        refine ⟨_, _, _, _, _, rfl, .ty "list", t.ty, t.klst, ?_⟩
        walk_at "rd"
        refine ite2 (fun _ => ?_) (fun z => absurd (by rw [h]; rfl) z)
        exact q
      | @len l xs hl h =>
        refine ⟨_, _, _, _, _, rfl, .ty "list", .base (.lst hl), kit_ty (r := true) (by decide +kernel), ?_⟩
        walk_at "rd"
        refine ⟨l, _, rfl, .inl (SqL.of hl), ?_⟩
        walk_at "rd"
        refine ite2 (fun z1 => ?_) (fun z1 => ?_)
        · have z1' := of_decide_eq_true z1
          walk_at "rd"
          refine ite2 (fun _ => q) (fun z => absurd ?_ z)
          have e : decide ((xs.length : Int) ≤ 4) = false := decide_eq_false (by omega)
          rw [e]
          rfl
        · walk_at "rd"
          exact q
      | @item l xs i0 y0 hl l1 l4 hi bad good =>
        refine ⟨_, _, _, _, _, rfl, .ty "list", .base (.lst hl), kit_ty (r := true) (by decide +kernel), ?_⟩
        walk_at "rd"
        refine ⟨l, _, rfl, .inl (SqL.of hl), ?_⟩
        walk_at "rd"
        refine ite2 (fun _ => ?_) (fun z => absurd (decide_eq_true (by omega)) z)
        walk_at "rd"
        refine ite2 (fun z => ?_) (fun _ => ?_)
        · exfalso
          have e : decide ((xs.length : Int) ≤ 4) = true := decide_eq_true (by omega)
          exact not_t z e
        walk_at "rd"
        refine ⟨⟨_, SqL.of hl⟩, ?_⟩
        have i0l : i0 < xs.length := (List.getElem?_eq_some_iff.mp hi).1
        refine for_list (K := K) (a := l) (xs := xs) (fun i σ H' => ∃ y : Option V, σ = [some (.ref l), y] ∧ H' = H ∧ i ≤ i0) ⟨none, rfl, rfl, Nat.zero_le _⟩ (fun _ _ _ _ ⟨_, _, e, _⟩ => e ▸ SqL.of hl) ?_ ?_
        · rintro i y σ H' hy ⟨z, rfl, rfl, le⟩
          walk_at "rd"
          rcases Nat.lt_or_eq_of_le le with lt | eq
          · refine .inl ⟨good i y lt hy, _, rfl, ?_⟩
            refine ite2 (fun z => (not_t z rfl).elim) (fun _ => ?_)
            exact ⟨_, rfl, rfl, lt⟩
          · subst eq
            have ey : y = y0 := by rw [hi] at hy; exact (Option.some.inj hy).symm
            subst ey
            refine .inr ⟨bad, _, rfl, ?_⟩
            refine ite2 (fun _ => ?_) (fun z => absurd rfl z)
            exact q
        · rintro σ H' ⟨z, rfl, rfl, le⟩
          omega
end
end HT
namespace HT
open PySem L2
structure RsG (mg : Str → Option Value) : Prop where
  mo : ∃ t, mg "MOST_OUTCOMES" = some (.int 1000 t)
  sorted : mg "sorted" = none
  set : mg "set" = none
  dict : mg "dict" = none
/-- what comes of a value -/
def spOut (C : Nat → Addr) : Sp := fun vs H Q E => ∃ (l : Addr) (xs : List V) (ss : List Sd) (v : Int), vs = [.ref l, .int v] ∧ SidesAt H l xs ss ∧ (-2 ^ 600 < v ∧ v < 2 ^ 600) ∧
  (∀ (R : List Int) (p : Addr) (H' : Hp), OutIs ss v R → R.length ≤ 1000 → (∀ y ∈ R, v - 10 ^ 34 ≤ y ∧ y ≤ v + 10 ^ 34) → Same H H' → H p = none → H' p = some (.lst (R.map V.int)) → Q (.ref p) H') ∧
  (∀ H', (∀ R, OutIs ss v R → 1000 < R.length) → Same H H' → E (.ref (C 2)) none H')
section
variable {P : Program} {w : World} {K : PySem.W.Frag} {mg : Str → Option Value} {base : Heap} {Bx fB fH fI fJ : Addr} {dB dH dI dJ : FuncData} {C : Nat → Addr}
theorem ok_out {f : Addr} {fd : FuncData} (F : Fun K "outcomes" "outcomes" s_outcomes f fd) (B : Blt mg) (G : RsG mg) (R : Er K mg C Bx) (Ls : Cal P w K mg base "check_sides" 5 ["sides"] spSides fB dB) (Vl : Cal P w K mg base "check_value" 2 ["value"] spCheckValue fH dH) (Wr : Cal P w K mg base "written" 3 ["side", "value"] spDue fI dI) : FnOk P w K mg base (L2.CX P w) 6 f fd ["sides", "value"] (spOut C) := by
  refine F.okAny sc_outcomes (fun vs H Q E h => ?_) (fun cdv A outer s0 H vs Q E hr h => ?_)
  · obtain ⟨l, xs, ss, v, rfl, _⟩ := h
    rfl
  · obtain ⟨l, xs, ss, v, rfl, SS, vb, q, qE⟩ := h
    have nd := sc_outcomes.nd
    obtain ⟨tmo, hmo⟩ := G.mo
    refine ⟨_, (pss_cons (ps_expr (pcl Ls hr (by decide) (by rfl) (pa_cons (pv 0) pa_nil)))
      (pss_cons (ps_expr (pcl Vl hr (by decide) (by rfl) (pa_cons (pv 1) pa_nil)))
      (pss_cons (ps_set (i := 2) nd rfl (Or.inl rfl) (pe_lst (pa_cons (pv 1) pa_nil)))
      (pss_cons (ps_set (i := 3) nd rfl (Or.inl rfl) (pe_disp (pps_cons (pv 1) pe_bl pps_nil) rfl rfl nofun (by decide)))
      (pss_cons (ps_set (i := 4) nd rfl (Or.inl rfl) pe_int)
      (pss_cons (ps_while (passes_of rfl) (pt_cmpR op_lt (pv 4) (pe_callB call_len_seq (by rfl) B.len PySem.boot_len (pa_cons (pv 2) pa_nil)) (nomark _)) (pss_cons (ps_for (passes_of rfl) rfl (pi_list (pv 0)) (pg_name (i := 5) nd rfl (Or.inl rfl)) (pss_cons (ps_set (i := 6) nd rfl (Or.inl rfl) (pcl Wr hr (by decide) (by rfl) (pa_cons (pv 5) (pa_cons (pe_ix ix_list (pv 2) (pv 4) (fun _ _ => rfl)) pa_nil))))
      (pss_one (ps_if (pt_cmp (pc_dnotin (lt1 hr.units) (pv 6) (pv 3)) (by rfl)) (pss_cons (ps_dput (lt1 hr.units) (pv 3) (pv 6) pe_bl rfl)
      (pss_one (ps_expr (pe_bm PySem.F.plainAttrs_list PySem.F.slot_list_append PySem.F.type_list_append mt_append (pv 2) (pa_cons (pv 6) pa_nil))))) pss_nil))))
      (pss_cons (ps_if (pt_cmpR op_gt (pe_callB call_len_seq (by rfl) B.len PySem.boot_len (pa_cons (pv 2) pa_nil)) (pe_glob (v := .int 1000) (by rfl) hmo ⟨_, rfl⟩) (nomark _)) (pss_one (ps_raise rfl (takes_of rfl rfl rfl rfl) (pmk_own PySem.F.excBase_ValueError (R.ex 2 (by decide)) R.g2 (R.kp 2 (by decide)) (raises_own (R.sb 2 (by decide)) (R.ty 2 (by decide))) (by rfl)))) pss_nil)
      (pss_one (ps_aug (i := 4) nd rfl (Or.inl rfl) pe_int ip_add)))))
      (pss_one (ps_ret (pe_callB cr_sortedI (by rfl) G.sorted (by decide +kernel) (pa_cons (pv 2) pa_nil)))))))))), ?_⟩
    walk_at "rd"
    refine ⟨l, xs, ss, rfl, SS, ?_⟩
    walk_at "rd"
    walk_at "rd"
    refine ⟨(by show 1 ≤ sizeLine; decide), fun L nL => ?_⟩
    generalize e_L : upd H L _ = H1
    have g1 : H1 L = some (.lst [.int v]) := by rw [← e_L]; exact upd_same
    have w1 : Same H H1 := by rw [← e_L]; exact fun b u z => (upd_ne (ne_of_none z nL)).trans z
    clear e_L
    have nLH := nL
    walk_at "rd"
    refine fun D nD => ?_
    walk_at "rd"
    refine ⟨upd_same, [(.inl v, .bl true)], rfl, (by show 1 ≤ 15; decide), ?_⟩
    generalize e_D : upd (upd H1 D _) D _ = H2
    have g2 : H2 D = some (.dK [(.inl v, .bl true)]) := by rw [← e_D]; exact upd_same
    have w2 : Same H1 H2 := by rw [← e_D]; exact fun b u z => (upd_ne (ne_of_none z nD)).trans ((upd_ne (ne_of_none z nD)).trans z)
    clear e_D
    have nLD : L ≠ D := fun z => by rw [← z, g1] at nD; cases nD
    have nD0 : H D = none := w1.free nD
    have g1 := w2 _ _ g1
    have w2 := w1.trans w2
    walk_at "rd"
    refine ⟨fun μ st H' => ∃ (k : Nat) (C : List Int) (kvs : List (Key × V)) (x5 x6 : Option V), μ = 1001 - k ∧ st = [some (.ref l), some (.int v), some (.ref L), some (.ref D), some (.int (k : Int)), x5, x6] ∧ Same H H' ∧ H' L = some (.lst (C.map V.int)) ∧ H' D = some (.dK kvs) ∧ Fnd ss v C k ∧ KnownP C kvs ∧ C.length ≤ 1000,
      ⟨_, 0, [v], _, none, none, rfl, rfl, w2, g1, g2, Fnd.start ss v, KnownP.start v _, (by show 1 ≤ 1000; decide)⟩, ?_⟩
    rintro μ st H' ⟨k, C', kvs, x5, x6, rfl, rfl, sm, hL, hD, F', KP, cl⟩
    have kl := F'.kl
    walk_at "rd"
    refine ⟨L, _, rfl, .inl (SqL.of hL), ?_⟩
    rw [List.length_map]
    walk_at "rd"
    refine ite2 (fun z => ?_) (fun z => ?_)
    · have kc : k < C'.length := by have := of_decide_eq_true z; omega
      obtain ⟨c, ec⟩ : ∃ c, C'[k]? = some c := ⟨_, List.getElem?_eq_getElem kc⟩
      have cn := F'.near cl c (List.mem_of_getElem? ec)
      refine ⟨fun σ' H'' => ∃ (C : List Int) (kvs : List (Key × V)) (x5 x6 : Option V), σ' = [some (.ref l), some (.int v), some (.ref L), some (.ref D), some (.int ((k + 1 : Nat) : Int)), x5, x6] ∧ Same H H'' ∧ H'' L = some (.lst (C.map V.int)) ∧ H'' D = some (.dK kvs) ∧ Fnd ss v C (k + 1) ∧ KnownP C kvs ∧ C.length ≤ 1000,
        fun σ' H'' ⟨C2, kvs2, x5, x6, e, sm2, a1, a2, a3, a4, a5⟩ => ⟨1001 - (k + 1), by omega, k + 1, C2, kvs2, x5, x6, rfl, e, sm2, a1, a2, a3, a4, a5⟩, ?_⟩
      walk_at "rd"
      refine ⟨⟨_, SqL.of (sm _ _ SS.hl)⟩, ?_⟩
      refine for_list (K := K) (a := l) (xs := xs) (fun i st H3 => ∃ (C : List Int) (kvs : List (Key × V)) (x5 x6 : Option V), st = [some (.ref l), some (.int v), some (.ref L), some (.ref D), some (.int (k : Int)), x5, x6] ∧ Same H H3 ∧ H3 L = some (.lst (C.map V.int)) ∧ H3 D = some (.dK kvs) ∧ Fnd ss v C k ∧ KnownP C kvs ∧ C.length ≤ 1000 + i ∧ C[k]? = some c ∧ ∀ j, j < i → ∀ d, ss[j]? = some d → dueM d.o d.s d.m c ∈ C)
        ⟨C', kvs, x5, x6, rfl, sm, hL, hD, F', KP, by omega, ec, fun j hj => absurd hj (Nat.not_lt_zero _)⟩ (fun _ _ _ _ ⟨_, _, _, _, _, s3, _⟩ => SqL.of (s3 _ _ SS.hl)) ?_ ?_
      · rintro i x st H3 hx ⟨C2, kvs2, y5, y6, rfl, s3, hL3, hD3, F2, KP2, cl2, ec2, done⟩
        obtain ⟨d, p, ed, rfl, hp, sp⟩ := SS.item hx
        have il : i < ss.length := (List.getElem?_eq_some_iff.mp ed).1
        have l4 := SS.l4
        have dm := List.mem_of_getElem? ed
        walk_at "rd"
        refine ⟨L, _, _, _, rfl, rfl, SqL.of hL3, atI_nat (show (C2.map V.int)[k]? = some (V.int c) by rw [List.getElem?_map, ec2]; rfl), ?_⟩
        walk_at "rd"
        refine ⟨p, d.o, d.s, d.m, c, rfl, s3 _ _ hp, sp, (by unfold Bd; omega), fun H4 s4 => ?_⟩
        have hL4 := s4 _ _ hL3
        have hD4 := s4 _ _ hD3
        walk_at "rd"
        refine ⟨D, _, rfl, DGet.k (k := .inl _) hD4, ?_⟩
        walk_at "rd"
        refine ite2 (fun z => ?_) (fun z => ?_)
        · have new : dueM d.o d.s d.m c ∉ C2 := fun y => by
            rw [(KP2.2 _).mpr y] at z
            exact absurd z (by decide)
          have F5 := F2.put SS.side ec2 dm new
          walk_at "rd"
          refine ⟨D, _, rfl, DPut.k (k := .inl _) hD4 (Nat.lt_of_le_of_lt KP2.1 (Nat.lt_of_le_of_lt cl2 (by show 1000 + i < sizeLine; exact Nat.lt_of_lt_of_le (by omega : 1000 + i < 2000) (by decide)))), ?_⟩
          walk_at "rd"
          refine ⟨.inl ⟨rfl, _, SqL.of ((upd_ne nLD).trans hL4)⟩, ?_⟩
          walk_at "rd"
          refine ⟨L, _, _, rfl, rfl, (upd_ne nLD).trans hL4, (by rw [List.length_map]; exact Nat.lt_of_lt_of_le (by omega : C2.length < 2000) (by decide)), ?_⟩
          refine ⟨_, _, _, _, rfl, fun b u z => (upd_ne (ne_of_none z nL)).trans ((upd_ne (ne_of_none z nD0)).trans (s4 _ _ (s3 _ _ z))), ?_, (upd_ne (Ne.symm nLD)).trans upd_same, F5, KP2.put _ _, ?_, ?_, fun j hj e he => ?_⟩
          · rw [List.map_append]
            exact upd_same
          · rw [List.length_append]
            show C2.length + 1 ≤ 1000 + (i + 1)
            omega
          · rw [List.getElem?_append_left (List.getElem?_eq_some_iff.mp ec2).1]
            exact ec2
          · by_cases y : j < i
            · exact List.mem_append_left _ (done j y e he)
            · obtain rfl : j = i := by omega
              rw [ed] at he
              cases he
              exact List.mem_append_right _ (List.mem_singleton.mpr rfl)
        · have old : dueM d.o d.s d.m c ∈ C2 := (KP2.2 _).mp (by
            cases y : (valV kvs2 (.inl (dueM d.o d.s d.m c))).isSome with
            | true => rfl
            | false => rw [y] at z; exact absurd rfl z)
          exact ⟨C2, kvs2, _, _, rfl, s3.trans s4, hL4, hD4, F2, KP2, by omega, ec2, fun j hj e he => by
            by_cases y : j < i
            · exact done j y e he
            · obtain rfl : j = i := by omega
              rw [ed] at he
              cases he
              exact old⟩
      · rintro st H3 ⟨C2, kvs2, y5, y6, rfl, s3, hL3, hD3, F2, KP2, cl2, ec2, done⟩
        have F6 := F2.next ec2 fun d hd => by
          obtain ⟨j, hj, e⟩ := List.getElem_of_mem hd
          exact done j (by rw [SS.len]; exact hj) d (by rw [List.getElem?_eq_getElem hj, e])
        walk_at "rd"
        refine ⟨L, _, rfl, .inl (SqL.of hL3), ?_⟩
        rw [List.length_map]
        walk_at "rd"
        refine ite2 (fun z => ?_) (fun z => ?_)
        · have many := of_decide_eq_true z
          refine qE H3 (fun R hR => ?_) s3
          have := F2.le hR
          omega
        · have few : ¬ (1000 : Int) < (C2.length : Int) := fun c => z (decide_eq_true c)
          walk_at "rd"
          exact ⟨C2, kvs2, _, _, rfl, s3, hL3, hD3, F6, KP2, by omega⟩
    · have ke : k = C'.length := by
        have : ¬ (k : Int) < (C'.length : Int) := fun c => z (decide_eq_true c)
        omega
      subst ke
      walk_at "rd"
      refine ⟨L, C', rfl, SqL.of hL, fun R p pm so np => ?_⟩
      have O := F'.done pm so
      have nb := F'.near cl
      refine q R p _ O (by rw [pm.length_eq]; exact cl) (fun y hy => ?_) (fun b u z => (upd_ne (ne_of_none (sm _ _ z) np)).trans (sm _ _ z)) (sm.free np) upd_same
      have := nb y (pm.mem_iff.mp hy)
      omega
end
end HT
namespace HT
open PySem L2
section
variable {P : Program} {w : World} {K : PySem.W.Frag} {mg : Str → Option Value} {base : Heap}
/-- a def's promise among errors where none comes -/
theorem of_x {k : Nat} {f : Addr} {fd : FuncData} {ps : List Str} {sp : Sp} (F : FnOk P w K mg base (L2.CX P w) k f fd ps sp) : FnOk P w K mg base CX0 k f fd ps (fun vs H Q _ => sp vs H Q fun _ _ _ => False) :=
  ⟨fun vs H Q E h => F.len vs H Q _ h, fun A outer s0 H args us vs Q E hr he hb hv hs => codeAny_mono (F.run A outer s0 H args us vs Q _ hr he hb hv hs) fun r s' h => by
    unfold CR at h ⊢
    split at h
    · exact h
    · exact h
    · obtain ⟨_, _, _, _, _, _, _, _, _, _, _, _, z⟩ := h
      exact z.elim⟩
end
open Classical in
theorem out_sub {ss : List Sd} {v p : Int} {R : List Int} (h : OutIs ss v R) (r : Rc ss v p) : ∃ S, OutIs ss p S ∧ S.length ≤ R.length := by
  refine ⟨R.filter fun y => decide (Rc ss p y), ⟨h.1.filter _, fun y => ?_⟩, List.length_filter_le _ _⟩
  rw [List.mem_filter, h.2 y, decide_eq_true_eq]
  exact ⟨fun z => z.2, fun z => ⟨r.trans z, z⟩⟩
theorem last_at {R : List Int} (h : 0 < R.length) : ∃ m, R[R.length - 1]? = some m ∧ atI (R.map V.int) (-1) = some (V.int m) := by
  have e : R[R.length - 1]? = some R[R.length - 1] := List.getElem?_eq_getElem (by omega)
  refine ⟨_, e, ?_⟩
  have hn : ixN (R.map V.int).length (-1) = some (R.length - 1) := by
    rw [List.length_map]
    unfold ixN
    rw [if_neg (by omega), if_pos (by omega)]
    exact congrArg some (by omega)
  unfold atI
  rw [hn]
  show (R.map V.int)[R.length - 1]? = _
  rw [List.getElem?_map, e]
  rfl
theorem first_at {R : List Int} (h : 0 < R.length) : ∃ m, R[0]? = some m ∧ atI (R.map V.int) 0 = some (V.int m) := by
  have e : R[0]? = some R[0] := List.getElem?_eq_getElem h
  exact ⟨_, e, atI_nat (j := 0) (by rw [List.getElem?_map, e]; rfl)⟩
theorem OutIs.lohi {ss : List Sd} {v : Int} {R : List Int} (h : OutIs ss v R) : ∃ lo hi, Rc ss v lo ∧ (∀ y, Rc ss v y → lo ≤ y) ∧ Rc ss v hi ∧ (∀ y, Rc ss v y → y ≤ hi) := by
  obtain ⟨m, e, _⟩ := first_at h.ne
  obtain ⟨M, e2, _⟩ := last_at h.ne
  obtain ⟨a, b⟩ := sorted_first h.1 e
  obtain ⟨c, d⟩ := sorted_last h.1 e2
  exact ⟨m, M, (h.2 m).mp a, fun y hy => b y ((h.2 y).mpr hy), (h.2 M).mp c, fun y hy => d y ((h.2 y).mpr hy)⟩
end HT
namespace HT
open PySem L2
def spOut0 (C : Nat → Addr) : Sp := fun vs H Q _ => spOut C vs H Q fun _ _ _ => False
/-- the list p holds the lists Ls -/
def HoldsL (H : Hp) (p : Addr) (Ls : List (List Int)) : Prop := ∃ qs : List Addr, H p = some (.lst (qs.map V.ref)) ∧ qs.length = Ls.length ∧ ∀ (i : Nat) (A : List Int) (q : Addr), Ls[i]? = some A → qs[i]? = some q → H q = some (.lst (A.map V.int))
theorem HoldsL.same {H H' : Hp} {p : Addr} {Ls : List (List Int)} (h : HoldsL H p Ls) (s : Same H H') : HoldsL H' p Ls := let ⟨qs, a, b, c⟩ := h; ⟨qs, s _ _ a, b, fun i A q x y => s _ _ (c i A q x y)⟩
theorem HoldsL.one {H : Hp} {p q : Addr} {A : List Int} (hp : H p = some (.lst [.ref q])) (hq : H q = some (.lst (A.map V.int))) : HoldsL H p [A] := ⟨[q], hp, rfl, fun i B r x y => by
  cases i with
  | zero => cases x; cases y; exact hq
  | succ i => cases x⟩
theorem HoldsL.two {H : Hp} {p q q2 : Addr} {A B : List Int} (hp : H p = some (.lst [.ref q, .ref q2])) (hq : H q = some (.lst (A.map V.int))) (hq2 : H q2 = some (.lst (B.map V.int))) : HoldsL H p [A, B] := ⟨[q, q2], hp, rfl, fun i D r x y => by
  rcases i with _ | _ | i
  · cases x; cases y; exact hq
  · cases x; cases y; exact hq2
  · cases x⟩
def NewL (H H' : Hp) (p : Addr) (Ls : List (List Int)) : Prop := H p = none ∧ ∃ qs : List Addr, H' p = some (.lst (qs.map V.ref)) ∧ qs.length = Ls.length ∧ (∀ q ∈ qs, H q = none) ∧ ∀ (i : Nat) (A : List Int) (q : Addr), Ls[i]? = some A → qs[i]? = some q → H' q = some (.lst (A.map V.int))
/-- the resting sets -/
def RestIs (ss : List Sd) (v : Int) (Ls : List (List Int)) : Prop := ∃ (b b' : Int) (A B : List Int), Two ss v b b' ∧ OutIs ss b A ∧ OutIs ss b' B ∧ Ls = if A = B then [A] else [A, B]
def spRest : Sp := fun vs H Q _ => ∃ (l : Addr) (xs : List V) (ss : List Sd) (v : Int) (R : List Int), vs = [.ref l, .int v] ∧ SidesAt H l xs ss ∧ (-2 ^ 590 < v ∧ v < 2 ^ 590) ∧ OutIs ss v R ∧ R.length ≤ 1000 ∧
  ∀ (b : Int) (A : List Int) (p : Addr) (H' : Hp), Rc ss v b → Rec ss b → OutIs ss b A → Same H H' → H p = none → H' p = some (.lst (A.map V.int)) → Q (.ref p) H'
def spRests (C : Nat → Addr) : Sp := fun vs H Q E => ∃ (l : Addr) (xs : List V) (ss : List Sd) (v : Int), vs = [.ref l, .int v] ∧ SidesAt H l xs ss ∧ (-2 ^ 580 < v ∧ v < 2 ^ 580) ∧
  (∀ (Ls : List (List Int)) (p : Addr) (H' : Hp), RestIs ss v Ls → Same H H' → NewL H H' p Ls → Q (.ref p) H') ∧
  (∀ H', (∀ R, OutIs ss v R → 1000 < R.length) → Same H H' → E (.ref (C 2)) none H')
theorem shaped_ints (A : List Int) : SeqAt.shaped (.list (A.map PyData.int)) = true := by
  have key : ∀ A : List Int, PyData.canLayAll0 (A.map PyData.int) = true ∧ PyData.depthAll (A.map PyData.int) ≤ 1 := fun A => by
    induction A with
    | nil => exact ⟨rfl, Nat.zero_le _⟩
    | cons a A ih => exact ⟨by simp [PyData.canLayAll0, PyData.canLay0, ih.1], by show max (PyData.depth (.int a)) (PyData.depthAll (A.map PyData.int)) ≤ 1; exact Nat.max_le.mpr ⟨by simp [PyData.depth], ih.2⟩⟩
  obtain ⟨a, b⟩ := key A
  unfold SeqAt.shaped
  rw [Bool.and_eq_true]
  refine ⟨a, decide_eq_true ?_⟩
  show PyData.depthAll (A.map PyData.int) + 1 ≤ 64
  omega
theorem dp_ints {K : PySem.W.Frag} {H : Hp} {p : Addr} {A : List Int} (h : H p = some (.lst (A.map V.int))) : Dp K H (.ref p) (.list (A.map PyData.int)) := by
  have key : ∀ A : List Int, DpAll K H (A.map V.int) (A.map PyData.int) := fun A => by
    induction A with
    | nil => exact .nil
    | cons a A ih => exact .cons (.int _) ih
  exact .lst (SqL.of h) (key A)
theorem eqv_ints (A B : List Int) : PyData.eqv (.list (A.map PyData.int)) (.list (B.map PyData.int)) = decide (A = B) := by
  rw [PyData.eqv]
  induction A generalizing B with
  | nil => cases B with
    | nil => rfl
    | cons b B => rfl
  | cons a A ih => cases B with
    | nil => rfl
    | cons b B =>
      rw [List.map_cons, List.map_cons, PyData.eqvAll, ih, PyData.eqv]
      by_cases x : a = b
      · subst x
        by_cases y : A = B
        · subst y; simp
        · rw [decide_eq_false y, decide_eq_false (by simpa using y)]; simp
      · rw [decide_eq_false (show ¬ a :: A = b :: B by intro h; injection h with h1 h2; exact x h1)]
        simp [x]
section
variable {P : Program} {w : World} {K : PySem.W.Frag} {mg : Str → Option Value} {base : Heap} {Bx fB fH fI fJ : Addr} {dB dH dI dJ : FuncData} {C : Nat → Addr}
theorem ok_rest_of {f : Addr} {fd : FuncData} (F : Fun K "_rest_of" "_rest_of" s_rest_of f fd) (Ou : Cal P w K mg base "outcomes" 6 ["sides", "value"] (spOut0 C) fB dB) : FnOk P w K mg base CX0 7 f fd ["sides", "value"] spRest := by
  refine F.ok sc_rest_of (fun vs H Q E h => ?_) (fun cdv A outer s0 H vs Q E hr h => ?_)
  · obtain ⟨l, xs, ss, v, R, rfl, _⟩ := h
    rfl
  · obtain ⟨l, xs, ss, v, R, rfl, SS, vb, oR, lR, q⟩ := h
    have nd := sc_rest_of.nd
    refine ⟨_, (pss_cons (ps_set (i := 2) nd rfl (Or.inl rfl) (pe_ix ix_list (pcl Ou hr (by decide) (by rfl) (pa_cons (pv 0) (pa_cons (pv 1) pa_nil))) (pe_un un_neg pe_int) (fun _ _ => rfl)))
      (pss_cons (ps_set (i := 3) nd rfl (Or.inl rfl) (pe_ix ix_list (pcl Ou hr (by decide) (by rfl) (pa_cons (pv 0) (pa_cons (pv 2) pa_nil))) pe_int (fun _ _ => rfl)))
      (pss_one (ps_ret (pcl Ou hr (by decide) (by rfl) (pa_cons (pv 0) (pa_cons (pv 3) pa_nil))))))), ?_⟩
    walk_at "rd"
    refine ⟨l, xs, ss, v, rfl, SS, by omega, fun R1 p1 H1 o1 l1 b1 s1 np1 h1 => ?_, fun H1 inf s1 => by have := inf R oR; omega⟩
    obtain ⟨t, et, at1⟩ := last_at o1.ne
    obtain ⟨t1, t2⟩ := sorted_last o1.1 et
    have bt := b1 t t1
    walk_at "rd"
    refine ⟨p1, _, _, _, rfl, rfl, SqL.of h1, at1, ?_⟩
    walk_at "rd"
    have rt := (o1.2 t).mp t1
    obtain ⟨S2, oS2, lS2⟩ := out_sub o1 rt
    refine ⟨l, xs, ss, t, rfl, SS.same s1, by omega, fun R2 p2 H2 o2 l2 b2 s2 np2 h2 => ?_, fun H2 inf s2 => by have := inf S2 oS2; omega⟩
    obtain ⟨b, eb, at2⟩ := first_at o2.ne
    obtain ⟨c1, c2⟩ := sorted_first o2.1 eb
    have bb := b2 b c1
    walk_at "rd"
    refine ⟨p2, _, _, _, rfl, rfl, SqL.of h2, at2, ?_⟩
    walk_at "rd"
    have rb := (o2.2 b).mp c1
    obtain ⟨S3, oS3, lS3⟩ := out_sub o2 rb
    refine ⟨l, xs, ss, b, rfl, SS.same (s1.trans s2), by omega, fun R3 p3 H3 o3 l3 b3 s3 np3 h3 => ?_, fun H3 inf s3 => by have := inf S3 oS3; omega⟩
    exact q b R3 p3 H3 (rt.trans rb) (rec_bot SS.side rt (fun y hy => t2 y ((o1.2 y).mpr hy)) rb (fun y hy => c2 y ((o2.2 y).mpr hy))) o3 (s1.trans (s2.trans s3)) (s1.free (s2.free np3)) h3
theorem ok_rests {f : Addr} {fd : FuncData} (F : Fun K "rests" "rests" s_rests f fd) (Ou : CalX P w K mg base "outcomes" 6 ["sides", "value"] (spOut C) fB dB) (Re : Cal P w K mg base "_rest_of" 7 ["sides", "value"] spRest fH dH) : FnOk P w K mg base (L2.CX P w) 8 f fd ["sides", "value"] (spRests C) := by
  refine F.okAny sc_rests (fun vs H Q E h => ?_) (fun cdv A outer s0 H vs Q E hr h => ?_)
  · obtain ⟨l, xs, ss, v, rfl, _⟩ := h
    rfl
  · obtain ⟨l, xs, ss, v, rfl, SS, vb, q, qE⟩ := h
    have nd := sc_rests.nd
    refine ⟨_, (pss_cons (ps_set (i := 2) nd rfl (Or.inl rfl) (pcx Ou hr (by decide) (by rfl) (takes_of rfl rfl rfl rfl) (pa_cons (pv 0) (pa_cons (pv 1) pa_nil))))
      (pss_cons (ps_set (i := 3) nd rfl (Or.inl rfl) (pcl Re hr (by decide) (by rfl) (pa_cons (pv 0) (pa_cons (pe_ix ix_list (pv 2) pe_int (fun _ _ => rfl)) pa_nil))))
      (pss_cons (ps_set (i := 4) nd rfl (Or.inl rfl) (pcl Re hr (by decide) (by rfl) (pa_cons (pv 0) (pa_cons (pe_ix ix_list (pv 2) (pe_un un_neg pe_int) (fun _ _ => rfl)) pa_nil))))
      (pss_cons (ps_if (pt_cmpR (op_eqD hr.units) (pv 3) (pv 4) (nomark _)) (pss_one (ps_ret (pe_lst (pa_cons (pv 3) pa_nil)))) pss_nil)
      (pss_one (ps_ret (pe_lst (pa_cons (pv 3) (pa_cons (pv 4) pa_nil))))))))), ?_⟩
    walk_at "rd"
    refine ⟨l, xs, ss, v, rfl, SS, by omega, fun R p1 H1 o1 l1 b1 s1 np1 h1 => ?_, fun H1 inf s1 => qE H1 inf s1⟩
    obtain ⟨m, em, at1⟩ := first_at o1.ne
    obtain ⟨m1, m2⟩ := sorted_first o1.1 em
    obtain ⟨M, eM, at2⟩ := last_at o1.ne
    obtain ⟨M1, M2⟩ := sorted_last o1.1 eM
    have bm := b1 m m1
    have bM := b1 M M1
    have rm := (o1.2 m).mp m1
    have rM := (o1.2 M).mp M1
    obtain ⟨S2, oS2, lS2⟩ := out_sub o1 rm
    obtain ⟨S3, oS3, lS3⟩ := out_sub o1 rM
    walk_at "rd"
    refine ⟨p1, _, _, _, rfl, rfl, SqL.of h1, at1, ?_⟩
    walk_at "rd"
    refine ⟨l, xs, ss, m, S2, rfl, SS.same s1, by omega, oS2, by omega, fun b A p2 H2 mb rb oA s2 np2 h2 => ?_⟩
    walk_at "rd"
    refine ⟨p1, _, _, _, rfl, rfl, SqL.of (s2 _ _ h1), at2, ?_⟩
    walk_at "rd"
    refine ⟨l, xs, ss, M, S3, rfl, SS.same (s1.trans s2), by omega, oS3, by omega, fun b' B p3 H3 Mb' rb' oB s3 np3 h3 => ?_⟩
    have T := two_of SS.side (fun p hp => let ⟨S, oS, _⟩ := out_sub o1 hp; oS.lohi) rm (fun y hy => m2 y ((o1.2 y).mpr hy)) rM (fun y hy => M2 y ((o1.2 y).mpr hy)) mb rb Mb' rb'
    walk_at "rd"
    refine ⟨_, _, dp_ints (s3 _ _ h2), dp_ints h3, shaped_ints A, shaped_ints B, ?_⟩
    rw [eqv_ints]
    have s03 := s1.trans (s2.trans s3)
    walk_at "rd"
    refine ite2 (fun z => ?_) (fun z => ?_)
    · have e : A = B := of_decide_eq_true z
      walk_at "rd"
      refine ⟨(by show 1 ≤ sizeLine; decide), fun p4 np4 => ?_⟩
      generalize e_p4 : upd H3 p4 _ = H4
      have g4 : H4 p4 = some (.lst [.ref p2]) := by rw [← e_p4]; exact upd_same
      have w4 : Same H3 H4 := by rw [← e_p4]; exact fun b u z => (upd_ne (ne_of_none z np4)).trans z
      clear e_p4
      exact q [A] p4 H4 ⟨b, b', A, B, T, oA, oB, by rw [if_pos e]⟩ (s03.trans w4) ⟨s03.free np4, [p2], g4, rfl, fun q hq => by rw [List.mem_singleton.mp hq]; exact s1.free np2, fun i D r x y => by
        cases i with
        | zero => cases x; cases y; exact w4 _ _ (s3 _ _ h2)
        | succ i => cases x⟩
    · have e : ¬ A = B := fun y => z (decide_eq_true y)
      walk_at "rd"
      refine ⟨(by show 2 ≤ sizeLine; decide), fun p4 np4 => ?_⟩
      generalize e_p4 : upd H3 p4 _ = H4
      have g4 : H4 p4 = some (.lst [.ref p2, .ref p3]) := by rw [← e_p4]; exact upd_same
      have w4 : Same H3 H4 := by rw [← e_p4]; exact fun b u z => (upd_ne (ne_of_none z np4)).trans z
      clear e_p4
      exact q [A, B] p4 H4 ⟨b, b', A, B, T, oA, oB, by rw [if_neg e]⟩ (s03.trans w4) ⟨s03.free np4, [p2, p3], g4, rfl, fun q hq => by
        simp only [List.mem_cons, List.not_mem_nil, or_false] at hq
        rcases hq with e | e <;> rw [e]
        · exact s1.free np2
        · exact (s1.trans s2).free np3, fun i D r x y => by
        rcases i with _ | _ | i
        · cases x; cases y; exact w4 _ _ (s3 _ _ h2)
        · cases x; cases y; exact w4 _ _ h3
        · cases x⟩
end
end HT
namespace HT
open PySem L2
def spWrL : Sp := fun vs H Q _ => ∃ (l : Addr) (xs : List V) (ss : List Sd) (v : Int), vs = [.ref l, .int v] ∧ SidesAt H l xs ss ∧ (-2 ^ 900 < v ∧ v < 2 ^ 900) ∧ ∀ (L : Addr) (H' : Hp), H L = none → Same H H' → H' L = some (.lst ((ss.map fun d => dueM d.o d.s d.m v).map V.int)) → Q (.ref L) H'
section
variable {P : Program} {w : World} {K : PySem.W.Frag} {mg : Str → Option Value} {base : Heap} {fB fH fI fJ fL fM fN : Addr} {dB dH dI dJ dL dM dN : FuncData}
theorem ok_wrl {f : Addr} {fd : FuncData} (F : Fun K "_law_written" "_law_written" s_L_written f fd) (Wr : Cal P w K mg base "_law_handed" 2 ["_law_side", "_law_value"] spDue fB dB) : FnOk P w K mg base CX0 3 f fd ["_law_sides", "_law_value"] spWrL := by
  refine F.ok sc_L_written (fun vs H Q E h => ?_) (fun cdv A outer s0 H vs Q E hr h => ?_)
  · obtain ⟨l, xs, ss, v, rfl, _⟩ := h
    rfl
  · obtain ⟨l, xs, ss, v, rfl, SS, hv, q⟩ := h
    have nd := sc_L_written.nd
    refine ⟨_, (pss_one (ps_ret (pe_lc (own := [("_law_one", 2)]) (g := gName 2) (tt := tYes) rfl nd (pi_list (pv 0)) (blkOk_by (N := ["_law_sides", "_law_value", "_law_one"]) (sc := defScope s_L_written) (by decide +kernel)) (fun _ _ _ _ _ => pg_name (i := 2) nd rfl (Or.inl rfl)) (fun _ _ _ _ _ => pts_nil) (fun _ _ _ _ _ => (pcl Wr hr (by decide) (by rfl) (pa_cons (pv 2) (pa_cons (pv 1) pa_nil))))))), ?_⟩
    walk_at "rd"
    refine ⟨⟨_, SqL.of SS.hl⟩, fun L nL => ?_⟩
    refine lc_list (K := K) (a := l) (xs := xs) (fun i H3 => H3 L = some (.lst (((ss.take i).map fun d => dueM d.o d.s d.m v).map V.int)) ∧ i ≤ ss.length ∧ Same H H3)
      ⟨upd_same, Nat.zero_le _, fun b u z => (upd_ne (ne_of_none z nL)).trans z⟩ (fun _ _ _ ⟨_, _, sm⟩ => SqL.of (sm _ _ SS.hl)) ?_ ?_
    · rintro i y H3 hy ⟨hD, li, sm⟩
      obtain ⟨d, p, ed, rfl, hp, sp⟩ := SS.item hy
      have il : i < ss.length := (List.getElem?_eq_some_iff.mp ed).1
      refine ⟨rfl, ?_⟩
      walk_at "rd"
      refine ⟨p, d.o, d.s, d.m, v, rfl, sm _ _ hp, sp, (by unfold Bd; omega), fun H4 s34 => ?_⟩
      have hD4 := s34 _ _ hD
      have es : (ss.take (i + 1)).map (fun d => dueM d.o d.s d.m v) = (ss.take i).map (fun d => dueM d.o d.s d.m v) ++ [dueM d.o d.s d.m v] := by
        rw [List.take_succ, ed, List.map_append]
        rfl
      walk_at "rd"
      refine ⟨_, hD4, ?_, ?_, il, fun b u y => (upd_ne (ne_of_none y nL)).trans (s34 _ _ (sm _ _ y))⟩
      · rw [List.length_map, List.length_map]
        exact Nat.lt_of_le_of_lt (Nat.le_trans (List.length_take_le' _ _) SS.l4) (by decide)
      · rw [es, List.map_append]
        exact upd_same
    · rintro H3 ⟨hD, li, sm⟩
      rw [SS.len, List.take_length] at hD
      walk_at "rd"
      exact q L H3 nL sm hD
end
end HT
namespace HT
open PySem L2
theorem inV_ints (y : Int) (C : List Int) : inV (V.int y) (C.map V.int) = decide (y ∈ C) := by
  unfold inV
  rw [List.any_map]
  induction C with
  | nil => simp
  | cons c C ih =>
    rw [List.any_cons, ih]
    show (decide (c = y) || _) = _
    by_cases e : c = y
    · subst e; simp
    · by_cases f : y ∈ C
      · simp [f]
      · rw [decide_eq_false e, decide_eq_false f, decide_eq_false (show ¬ y ∈ c :: C by rw [List.mem_cons]; exact fun h => h.elim (fun h => e h.symm) f)]
        rfl
theorem flat_ints (C : List Int) : (C.map V.int).all flatV = true := by
  rw [List.all_map]
  exact List.all_eq_true.mpr fun _ _ => rfl
def spAll : Sp := fun vs H Q _ => ∃ (l : Addr) (xs : List V) (ss : List Sd) (v : Int), vs = [.ref l, .int v] ∧ SidesAt H l xs ss ∧ (-2 ^ 500 < v ∧ v < 2 ^ 500) ∧
  ∀ (R : List Int) (p : Addr) (H' : Hp), (OutIs ss v R ∨ (102 ≤ R.length ∧ R.Nodup ∧ ∀ y ∈ R, Rc ss v y)) → R.length ≤ 110 → (∀ y ∈ R, v - 10 ^ 33 ≤ y ∧ y ≤ v + 10 ^ 33) → Same H H' → H p = none → H' p = some (.lst (R.map V.int)) → Q (.ref p) H'
section
variable {P : Program} {w : World} {K : PySem.W.Frag} {mg : Str → Option Value} {base : Heap} {Bx fB fH fI fJ : Addr} {dB dH dI dJ : FuncData} {C : Nat → Addr}
theorem ok_all {f : Addr} {fd : FuncData} (F : Fun K "_law_all" "_law_all" s_L_all f fd) (B : Blt mg) (G : RsG mg) (Wr : Cal P w K mg base "_law_written" 3 ["_law_sides", "_law_value"] spWrL fI dI) : FnOk P w K mg base CX0 4 f fd ["_law_sides", "_law_value"] spAll := by
  refine F.ok sc_L_all (fun vs H Q E h => ?_) (fun cdv A outer s0 H vs Q E hr h => ?_)
  · obtain ⟨l, xs, ss, v, rfl, _⟩ := h
    rfl
  · obtain ⟨l, xs, ss, v, rfl, SS, vb, q⟩ := h
    have nd := sc_L_all.nd
    refine ⟨_, (pss_cons (ps_par (i := 2) (j := 3) (by rfl) nd rfl rfl (by decide) rfl rfl (pa_cons (pe_lst (pa_cons (pv 1) pa_nil)) (pa_cons pe_int pa_nil)) (by rfl))
      (pss_cons (ps_while PassesOwn.never (PW.pt (pw_and (pt_cmpR op_lt (pv 3) (pe_callB call_len_seq (by rfl) B.len PySem.boot_len (pa_cons (pv 2) pa_nil)) (nomark _)) (pw_and1 (pt_cmpR op_lt (pe_callB call_len_seq (by rfl) B.len PySem.boot_len (pa_cons (pv 2) pa_nil)) pe_int (nomark _))))) (pss_cons (ps_for PassesOwn.never rfl (pi_list (pcl Wr hr (by decide) (by rfl) (pa_cons (pv 0) (pa_cons (pe_ix ix_list (pv 2) (pv 3) (fun _ _ => rfl)) pa_nil)))) (pg_name (i := 4) nd rfl (Or.inl rfl)) (pss_one (ps_if (pt_cmpR op_notIn_seq (pv 4) (pv 2) (by rfl)) (pss_one (ps_expr (pe_bm PySem.F.plainAttrs_list PySem.F.slot_list_append PySem.F.type_list_append mt_append (pv 2) (pa_cons (pv 4) pa_nil)))) pss_nil)))
      (pss_one (ps_set (i := 3) nd rfl (Or.inl rfl) (pe_op op_add (pv 3) pe_int)))))
      (pss_one (ps_ret (pe_callB cr_sortedI (by rfl) G.sorted (by decide +kernel) (pa_cons (pv 2) pa_nil)))))), ?_⟩
    walk_at "rd"
    refine ⟨(by show 1 ≤ sizeLine; decide), fun L nL => ?_⟩
    generalize e_L : upd H L _ = H1
    have g1 : H1 L = some (.lst [.int v]) := by rw [← e_L]; exact upd_same
    have w1 : Same H H1 := by rw [← e_L]; exact fun b u z => (upd_ne (ne_of_none z nL)).trans z
    clear e_L
    walk_at "rd"
    refine ⟨_, _, rfl, ?_⟩
    walk_at "rd"
    have nLH := nL
    refine ⟨fun μ st H' => ∃ (k : Nat) (C : List Int) (x4 : Option V), μ = 200 - k ∧ st = [some (.ref l), some (.int v), some (.ref L), some (.int (k : Int)), x4] ∧ Same H H' ∧ H' L = some (.lst (C.map V.int)) ∧ Fnd ss v C k ∧ C.length ≤ 106,
      ⟨_, 0, [v], none, rfl, rfl, w1, g1, Fnd.start ss v, (by show 1 ≤ 106; decide)⟩, ?_⟩
    rintro μ st H' ⟨k, C', x4, rfl, rfl, sm, hL, F', cl⟩
    have kl := F'.kl
    walk_at "rd"
    refine ⟨L, _, rfl, .inl (SqL.of hL), ?_⟩
    rw [List.length_map]
    walk_at "rd"
    refine ite2 (fun z => ?_) (fun z => ?_)
    · have kc : k < C'.length := by have := of_decide_eq_true z; omega
      walk_at "rd"
      refine ⟨L, _, rfl, .inl (SqL.of hL), ?_⟩
      rw [List.length_map]
      walk_at "rd"
      refine ite2 (fun z => ?_) (fun z => ?_)
      · have c102 : (C'.length : Int) < 102 := of_decide_eq_true z
        obtain ⟨c, ec⟩ : ∃ c, C'[k]? = some c := ⟨_, List.getElem?_eq_getElem kc⟩
        have cn := F'.near (n := 102) (by omega) c (List.mem_of_getElem? ec)
        refine ⟨fun σ' H'' => ∃ (C : List Int) (x4 : Option V), σ' = [some (.ref l), some (.int v), some (.ref L), some (.int ((k + 1 : Nat) : Int)), x4] ∧ Same H H'' ∧ H'' L = some (.lst (C.map V.int)) ∧ Fnd ss v C (k + 1) ∧ C.length ≤ 106,
          fun σ' H'' ⟨C2, x4, e, sm2, a1, a3, a5⟩ => ⟨200 - (k + 1), by omega, k + 1, C2, x4, rfl, e, sm2, a1, a3, a5⟩, ?_⟩
        walk_at "rd"
        refine ⟨L, _, _, _, rfl, rfl, SqL.of hL, atI_nat (show (C'.map V.int)[k]? = some (V.int c) by rw [List.getElem?_map, ec]; rfl), ?_⟩
        walk_at "rd"
        refine ⟨l, xs, ss, c, rfl, SS.same sm, by omega, fun W H2 nW s2 hW => ?_⟩
        have s02 := sm.trans s2
        have hL2 := s2 _ _ hL
        have nLW : L ≠ W := fun z => by rw [← z, hL] at nW; cases nW
        walk_at "rd"
        refine ⟨⟨_, SqL.of hW⟩, ?_⟩
        refine for_list (K := K) (a := W) (xs := (ss.map fun d => dueM d.o d.s d.m c).map V.int) (fun i st H3 => ∃ (C : List Int) (x4 : Option V), st = [some (.ref l), some (.int v), some (.ref L), some (.int (k : Int)), x4] ∧ Same H H3 ∧ H3 W = some (.lst ((ss.map fun d => dueM d.o d.s d.m c).map V.int)) ∧ H3 L = some (.lst (C.map V.int)) ∧ Fnd ss v C k ∧ C.length ≤ 101 + i ∧ C[k]? = some c ∧ ∀ j, j < i → ∀ d, ss[j]? = some d → dueM d.o d.s d.m c ∈ C)
          ⟨C', x4, rfl, s02, hW, hL2, F', by omega, ec, fun j hj => absurd hj (Nat.not_lt_zero _)⟩ (fun _ _ _ _ ⟨_, _, _, _, hw, _⟩ => SqL.of hw) ?_ ?_
        · rintro i x st H3 hx ⟨C2, y4, rfl, s3, hW3, hL3, F2, cl2, ec2, done⟩
          obtain ⟨d, ed, rfl⟩ : ∃ d, ss[i]? = some d ∧ x = V.int (dueM d.o d.s d.m c) := by
            rw [List.getElem?_map, List.getElem?_map] at hx
            cases e : ss[i]? with
            | none => rw [e] at hx; cases hx
            | some d => rw [e] at hx; cases hx; exact ⟨d, rfl, rfl⟩
          have il : i < ss.length := (List.getElem?_eq_some_iff.mp ed).1
          have l4 := SS.l4
          have dm := List.mem_of_getElem? ed
          walk_at "rd"
          refine ⟨L, _, rfl, .inl (SqL.of hL3), rfl, flat_ints _, ?_⟩
          refine ⟨_, rfl, ?_⟩
          rw [inV_ints]
          refine ite2 (fun z => ?_) (fun z => ?_)
          · have new : dueM d.o d.s d.m c ∉ C2 := fun y => by
              rw [decide_eq_true y] at z
              exact absurd z (by decide)
            have F5 := F2.put SS.side ec2 dm new
            walk_at "rd"
            refine ⟨.inl ⟨rfl, _, SqL.of hL3⟩, ?_⟩
            walk_at "rd"
            refine ⟨L, _, _, rfl, rfl, hL3, (by rw [List.length_map]; exact Nat.lt_of_lt_of_le (by omega : C2.length < 2000) (by decide)), ?_⟩
            refine ⟨_, _, rfl, fun b u z => (upd_ne (ne_of_none z nLH)).trans (s3 _ _ z), (upd_ne (Ne.symm nLW)).trans hW3, ?_, F5, ?_, ?_, fun j hj e he => ?_⟩
            · rw [List.map_append]
              exact upd_same
            · rw [List.length_append]
              show C2.length + 1 ≤ 101 + (i + 1)
              omega
            · rw [List.getElem?_append_left (List.getElem?_eq_some_iff.mp ec2).1]
              exact ec2
            · by_cases y : j < i
              · exact List.mem_append_left _ (done j y e he)
              · obtain rfl : j = i := by omega
                rw [ed] at he
                cases he
                exact List.mem_append_right _ (List.mem_singleton.mpr rfl)
          · have old : dueM d.o d.s d.m c ∈ C2 := by
              by_cases y : dueM d.o d.s d.m c ∈ C2
              · exact y
              · rw [decide_eq_false y] at z
                exact absurd rfl z
            exact ⟨C2, _, rfl, s3, hW3, hL3, F2, by omega, ec2, fun j hj e he => by
              by_cases y : j < i
              · exact done j y e he
              · obtain rfl : j = i := by omega
                rw [ed] at he
                cases he
                exact old⟩
        · rintro st H3 ⟨C2, y4, rfl, s3, hW3, hL3, F2, cl2, ec2, done⟩
          rw [List.length_map, List.length_map] at cl2 done
          have l4 := SS.l4
          have F6 := F2.next ec2 fun d hd => by
            obtain ⟨j, hj, e⟩ := List.getElem_of_mem hd
            exact done j hj d (by rw [List.getElem?_eq_getElem hj, e])
          walk_at "rd"
          exact ⟨C2, _, rfl, s3, hL3, F6, by omega⟩
      · have c102 : ¬ (C'.length : Int) < 102 := fun c => z (decide_eq_true c)
        walk_at "rd"
        refine ⟨L, C', rfl, SqL.of hL, fun R p pm so np => ?_⟩
        have nb := F'.near cl
        exact q R p _ (.inr ⟨by rw [pm.length_eq]; omega, pm.nodup_iff.mpr F'.nd, fun y hy => F'.rc y (pm.mem_iff.mp hy)⟩) (by rw [pm.length_eq]; omega) (fun y hy => by have := nb y (pm.mem_iff.mp hy); omega) (fun b u z => (upd_ne (ne_of_none (sm _ _ z) np)).trans (sm _ _ z)) (sm.free np) upd_same
    · have ke : k = C'.length := by
        have : ¬ (k : Int) < (C'.length : Int) := fun c => z (decide_eq_true c)
        omega
      subst ke
      walk_at "rd"
      refine ⟨L, C', rfl, SqL.of hL, fun R p pm so np => ?_⟩
      have nb := F'.near cl
      exact q R p _ (.inl (F'.done pm so)) (by rw [pm.length_eq]; omega) (fun y hy => by have := nb y (pm.mem_iff.mp hy); omega) (fun b u z => (upd_ne (ne_of_none (sm _ _ z) np)).trans (sm _ _ z)) (sm.free np) upd_same
end
end HT
namespace HT
open PySem L2
open PySem.W (EachIs AllAlike Sortable dataLe alike alikeAll dataLt)
/-- x not in a list of data -/
def rNotInL (K : PySem.W.Frag) : R2 := fun x y H Q => ∃ d ds, Dp K H x d ∧ Dp K H y (.list ds) ∧ SeqAt.shaped d = true ∧ PyData.canLayAll0 ds = true ∧ PyData.depthAll ds ≤ 60 ∧ Q (.bl (!ds.any fun z => PyData.eqv z d)) H
theorem op_notInL {X : Cx} (hu : X.A.units + 64 < cLine) : OpR X (compareOp .NotIn) (rNotInL X.K) := by
  intro pins sh st H x y v u Q iv rx ry h
  obtain ⟨d, ds, hd, he, sd, se, sz, q⟩ := h
  obtain ⟨as, r1⟩ := Dp.reads iv d x v hd rx
  obtain ⟨bs, r2⟩ := Dp.reads iv (.list ds) y u he ry
  refine SeqAt.notIn_list_reads r2 r1 se (SeqAt.canLay_of_shaped sd) ?_ ⟨.bl _, H, iv, rfl, q⟩
  have : min (PyData.depthAll ds) d.depth ≤ PyData.depthAll ds := Nat.min_le_left _ _
  omega
/-- a list of lists of ints, the address beside each -/
def encL (b : Addr × List Int) : PyData := .list (b.2.map PyData.int)
theorem alike_ints : ∀ A B : List Int, alikeAll (A.map PyData.int) (B.map PyData.int) = true
  | [], _ => by simp [alikeAll]
  | _ :: _, [] => by simp [alikeAll]
  | a :: A, b :: B => by rw [List.map_cons, List.map_cons, alikeAll, alike_ints A B, alike]; rfl
theorem alike_encL (b b' : Addr × List Int) : alike (encL b) (encL b') = true := by
  unfold encL
  rw [alike, alike_ints]
/-- a list whose first int is less stands ahead -/
theorem lists_le {b b' : Addr × List Int} {x y : Int} {A B : List Int} (e : b.2 = x :: A) (e' : b'.2 = y :: B) (h : x < y) : dataLe false encL b b' = true := by
  unfold dataLe PySem.W.sortLe
  show (!PyProof.Rows.lexLt PyProof.Rows.itemOrd (PySem.W.keyToks (encL b')) (PySem.W.keyToks (encL b))) = true
  have k : dataLt (encL b') (encL b) = false := by
    unfold encL
    rw [e, e', PySem.W.dataLt_list, List.map_cons, List.map_cons, PySem.W.dataLt_cons (by rw [alike])]
    rw [if_neg (by rw [PyData.eqv]; simp; omega), PySem.W.dataLt_int, decide_eq_false (by omega)]
  unfold dataLt at k
  rw [k]
  rfl
/-- sorted(xs) of lists of ints that stand in their order: a new list with the same items -/
def rSortedLL (K : PySem.W.Frag) : List V → Hp → VK → Prop := fun vs H Q => ∃ (a : Addr) (bs : List (Addr × List Int)), vs = [V.ref a] ∧ SqL K H a (bs.map fun b => V.ref b.1) ∧ (∀ b ∈ bs, H b.1 = some (.lst (b.2.map V.int))) ∧ bs.Pairwise (fun x y => dataLe false encL x y = true) ∧ bs.length ≤ 100 ∧
  ∀ p : Addr, H p = none → Q (.ref p) (upd H p (.lst (bs.map fun b => V.ref b.1)))
theorem cr_sortedLL {X : Cx} (hu : X.A.units + 64 < cLine) : CallR X (.builtin "sorted") (rSortedLL X.K) := by
  intro pins s σ H vs us Q I r h
  obtain ⟨a, bs, rfl, hs, hb, so, l100, q⟩ := h
  obtain ⟨its, rv, hl, hz⟩ := I.list hs
  rw [Vals.ref1 r]
  have e0 : ∀ {bs : List (Addr × List Int)} {its : List Value}, Vals (bs.map fun b => V.ref b.1) its → EachIs (fun v b => v = Value.ref b.1) its bs := by
    intro bs
    induction bs with
    | nil => intro its rv; cases rv; exact .nil
    | cons b bs ih => intro its rv; cases rv with
      | cons r1 r2 => cases r1; exact .cons rfl (ih r2)
  have e1 : ∀ {bs : List (Addr × List Int)} {its : List Value}, (∀ b ∈ bs, H b.1 = some (.lst (b.2.map V.int))) → Vals (bs.map fun b => V.ref b.1) its → EachIs (fun v b => ∃ as, Reads s.heap v (encL b) as) its bs := by
    intro bs
    induction bs with
    | nil => intro its _ rv; cases rv; exact .nil
    | cons b bs ih => intro its hb rv; cases rv with
      | cons r1 r2 => exact .cons (Dp.reads I (encL b) _ _ (dp_ints (K := X.K) (hb b List.mem_cons_self)) r1) (ih (fun b' h => hb b' (List.mem_cons_of_mem _ h)) r2)
  refine PySem.W.sorted_data (enc := encL) hl.isList (e0 rv) (e1 hb rv) (AllAlike.of alike_encL) (Sortable.others fun b => ⟨fun z => (by cases z), fun xs z => (by cases z)⟩) (by rw [PySem.sizeLine_eq]; omega) (fun b _ => ?_) fun out hlen eo => ?_
  · have hd : (encL b).depth ≤ 2 := by
      have key : ∀ A : List Int, PyData.depthAll (A.map PyData.int) ≤ 1 := fun A => by
        induction A with
        | nil => exact Nat.zero_le _
        | cons a A ih => show max (PyData.depth (.int a)) (PyData.depthAll (A.map PyData.int)) ≤ 1; exact Nat.max_le.mpr ⟨by simp [PyData.depth], ih⟩
      have := key b.2
      show PyData.depthAll (b.2.map PyData.int) + 1 ≤ 2
      omega
    omega
  · rw [List.mergeSort_of_pairwise so] at eo
    have eout : Vals (bs.map fun b => V.ref b.1) out := by
      have key : ∀ {bs : List (Addr × List Int)} {out : List Value}, EachIs (fun v b => v = Value.ref b.1) out bs → Vals (bs.map fun b => V.ref b.1) out := by
        intro bs
        induction bs with
        | nil => intro out h; cases h; exact .nil
        | cons b bs ih => intro out h; cases h with
          | cons r1 r2 => subst r1; exact .cons rfl (ih r2)
      exact key eo
    obtain ⟨ep, he'⟩ := PyProof.Rows.sortedAll_at s.heap its out.toArray
    have hlen2 : (bs.map fun b => V.ref b.1).length ≤ sizeLine := by rw [List.length_map, PySem.sizeLine_eq]; omega
    exact ⟨.ref _, upd H (s.heap.objs.size + 1) (.lst (bs.map fun b => V.ref b.1)), I.laid (t' := s.toks) (fun _ _ => PyProof.Rows.sortedAll_old) (Nat.le_succ _) ⟨hlen2, out, ep, eout, he'⟩, rfl, q _ (I.hok.fresh (Nat.le_succ _))⟩
end HT
namespace HT
open PySem L2
theorem rec_iff2 {ss : List Sd} {p : Int} {R : List Int} (h : OutIs ss p R) (ex : ∀ y ∈ R, ∃ S, OutIs ss y S) : (∀ y ∈ R, ∀ S, OutIs ss y S → S = R) ↔ Rec ss p := by
  constructor
  · intro r y hy
    have m := (h.2 y).mpr hy
    obtain ⟨S, hS⟩ := ex y m
    have e := r y m S hS
    subst e
    exact (hS.2 p).mp h.self
  · intro r y hy S hS
    refine sorted_one hS.1 h.1 fun z => ?_
    rw [hS.2 z, h.2 z]
    have py := (h.2 y).mp hy
    exact ⟨fun q => py.trans q, fun q => (r y py).trans q⟩
theorem two_ex {ss : List Sd} (hs : ∀ d ∈ ss, SideP d.o d.s d.m) {v : Int} {R : List Int} (h : OutIs ss v R) : ∃ b b' A B, Two ss v b b' ∧ OutIs ss b A ∧ OutIs ss b' B := by
  have bot : ∀ x, Rc ss v x → ∃ b A, Rc ss x b ∧ Rec ss b ∧ OutIs ss b A := fun x hx => by
    obtain ⟨S, hS, _⟩ := out_sub h hx
    obtain ⟨_, t, _, _, t1, t2⟩ := hS.lohi
    obtain ⟨S2, hS2, _⟩ := out_sub hS t1
    obtain ⟨b, _, b1, b2, _, _⟩ := hS2.lohi
    obtain ⟨A, hA, _⟩ := out_sub hS2 b1
    exact ⟨b, A, t1.trans b1, rec_bot hs t1 t2 b1 b2, hA⟩
  obtain ⟨m, M, m1, m2, M1, M2⟩ := h.lohi
  obtain ⟨b, A, mb, rb, hA⟩ := bot m m1
  obtain ⟨b', B, Mb, rb', hB⟩ := bot M M1
  exact ⟨b, b', A, B, two_of hs (fun p hp => let ⟨S, oS, _⟩ := out_sub h hp; oS.lohi) m1 m2 M1 M2 mb rb Mb rb', hA, hB⟩
/-- the resting sets found among the first values -/
inductive Stt (R A B : List Int) (i : Nat) : List (List Int) → Prop where
  | none (h : ∀ j, j < i → ∀ y, R[j]? = some y → y ∉ A ∧ y ∉ B) : Stt R A B i []
  | one (h : A = B ∨ ∀ j, j < i → ∀ y, R[j]? = some y → y ∉ B) : Stt R A B i [A]
  | two (h : A ≠ B) : Stt R A B i [A, B]
section
variable {ss : List Sd} {v b b' : Int} {R A B : List Int} {i : Nat} {y : Int}
theorem same_set (T : Two ss v b b') (oA : OutIs ss b A) (oB : OutIs ss b' B) (ha : y ∈ A) (hb : y ∈ B) : A = B := by
  have r1 := (oA.2 y).mp ha
  have r2 := (oB.2 y).mp hb
  exact (oA.of_rc (r1.trans (T.rb' _ r2)) (r2.trans (T.rb _ r1))).uniq oB
theorem apart_set (T : Two ss v b b') (oA : OutIs ss b A) (oB : OutIs ss b' B) (ne : A ≠ B) {x z : Int} (hx : x ∈ A) (hz : z ∈ B) : x < z := by
  refine T.apart (fun c => ne ?_) x z ((oA.2 x).mp hx) ((oB.2 z).mp hz)
  exact same_set T oA oB ((oA.2 b').mpr c) oB.self
/-- a value that is in none -/
theorem Stt.skip {Ls : List (List Int)} (h : Stt R A B i Ls) (hy : R[i]? = some y) (nA : y ∉ A) (nB : y ∉ B) : Stt R A B (i + 1) Ls := by
  have key : ∀ j, j < i + 1 → ∀ z, R[j]? = some z → j < i ∨ z = y := fun j hj z hz => by
    by_cases e : j < i
    · exact .inl e
    · obtain rfl : j = i := by omega
      rw [hy] at hz
      cases hz
      exact .inr rfl
  cases h with
  | none h => exact .none fun j hj z hz => (key j hj z hz).elim (fun e => h j e z hz) fun e => by rw [e]; exact ⟨nA, nB⟩
  | one h => exact .one (h.imp id fun h j hj z hz => (key j hj z hz).elim (fun e => h j e z hz) fun e => by rw [e]; exact nB)
  | two h => exact .two h
/-- a value that rests: its set is there already, or it is the next one -/
theorem Stt.step {Ls : List (List Int)} {S : List Int} (h : Stt R A B i Ls) (T : Two ss v b b') (oA : OutIs ss b A) (oB : OutIs ss b' B) (oR : OutIs ss v R) (hy : R[i]? = some y) (ry : Rec ss y) (oS : OutIs ss y S) :
    (S ∈ Ls ∧ Stt R A B (i + 1) Ls) ∨ (S ∉ Ls ∧ Stt R A B (i + 1) (Ls ++ [S])) := by
  have key : ∀ j, j < i + 1 → ∀ z, R[j]? = some z → j < i ∨ z = y := fun j hj z hz => by
    by_cases e : j < i
    · exact .inl e
    · obtain rfl : j = i := by omega
      rw [hy] at hz
      cases hz
      exact .inr rfl
  have vy := (oR.2 y).mp (List.mem_of_getElem? hy)
  have eS : (S = A ∧ y ∈ A) ∨ (S = B ∧ y ∈ B) := by
    rcases T.all y vy ry with r | r
    · exact .inl ⟨oS.uniq (oA.of_rc r (T.rb _ r)), (oA.2 y).mpr r⟩
    · exact .inr ⟨oS.uniq (oB.of_rc r (T.rb' _ r)), (oB.2 y).mpr r⟩
  cases h with
  | none h =>
    have sA : S = A ∧ y ∈ A := by
      rcases eS with e | ⟨e, m⟩
      · exact e
      · by_cases ne : A = B
        · rw [← ne] at e m
          exact ⟨e, m⟩
        · exfalso
          have lt := apart_set T oA oB ne oA.self m
          obtain ⟨j, hj, ej⟩ := List.getElem_of_mem ((oR.2 b).mpr T.vb)
          obtain ⟨hi, ei⟩ := List.getElem?_eq_some_iff.mp hy
          by_cases z : j < i
          · exact (h j z b (by rw [List.getElem?_eq_getElem hj, ej])).1 oA.self
          · by_cases z2 : j = i
            · subst z2
              omega
            · have := List.pairwise_iff_getElem.mp oR.1 i j hi hj (by omega)
              omega
    refine .inr ⟨List.not_mem_nil, ?_⟩
    rw [sA.1]
    show Stt R A B (i + 1) [A]
    by_cases ne : A = B
    · exact .one (.inl ne)
    · exact .one (.inr fun j hj z hz => (key j hj z hz).elim (fun e => (h j e z hz).2) fun e q => ne (same_set T oA oB sA.2 (e ▸ q)))
  | one h =>
    rcases eS with ⟨e, m⟩ | ⟨e, m⟩
    · refine .inl ⟨List.mem_singleton.mpr e, ?_⟩
      rcases h with h | h
      · exact .one (.inl h)
      · by_cases ne : A = B
        · exact .one (.inl ne)
        · exact .one (.inr fun j hj z hz => (key j hj z hz).elim (fun e => h j e z hz) fun e q => ne (same_set T oA oB m (e ▸ q)))
    · by_cases ne : A = B
      · exact .inl ⟨List.mem_singleton.mpr (e.trans ne.symm), .one (.inl ne)⟩
      · refine .inr ⟨fun z => ne ((List.mem_singleton.mp z).symm.trans e), ?_⟩
        rw [e]
        exact .two ne
  | two ne =>
    refine .inl ⟨?_, .two ne⟩
    rcases eS with ⟨e, _⟩ | ⟨e, _⟩ <;> rw [e]
    · exact List.mem_cons_self
    · exact List.mem_cons_of_mem _ List.mem_cons_self
theorem Stt.fin {Ls : List (List Int)} (h : Stt R A B R.length Ls) (T : Two ss v b b') (oA : OutIs ss b A) (oB : OutIs ss b' B) (oR : OutIs ss v R) : RestIs ss v Ls := by
  have at_ : ∀ x, x ∈ R → ∃ j, j < R.length ∧ R[j]? = some x := fun x hx => by
    obtain ⟨j, hj, e⟩ := List.getElem_of_mem hx
    exact ⟨j, hj, by rw [List.getElem?_eq_getElem hj, e]⟩
  refine ⟨b, b', A, B, T, oA, oB, ?_⟩
  cases h with
  | none h =>
    obtain ⟨j, hj, e⟩ := at_ b ((oR.2 b).mpr T.vb)
    exact absurd oA.self (h j hj b e).1
  | one h =>
    rcases h with h | h
    · rw [if_pos h]
    · obtain ⟨j, hj, e⟩ := at_ b' ((oR.2 b').mpr T.vb')
      exact absurd oB.self (h j hj b' e)
  | two h => rw [if_neg h]
end
end HT
namespace HT
open PySem L2
open PySem.W (dataLe)
def spDueR : Sp := fun vs H Q _ => ∃ (l : Addr) (xs : List V) (ss : List Sd) (v : Int) (R : List Int), vs = [.ref l, .int v] ∧ SidesAt H l xs ss ∧ (-2 ^ 400 < v ∧ v < 2 ^ 400) ∧ OutIs ss v R ∧ R.length < 100 ∧
  ∀ (Ls : List (List Int)) (p : Addr) (H' : Hp), RestIs ss v Ls → (∀ A ∈ Ls, A.length < 100 ∧ A ≠ [] ∧ ∀ y ∈ A, -2 ^ 410 < y ∧ y < 2 ^ 410) → Same H H' → NewL H H' p Ls → Q (.ref p) H'
/-- what comes of each -/
def FutP (ss : List Sd) (H H' : Hp) (kvs : List (Key × V)) (y : Int) : Prop := ∃ (q : Addr) (S : List Int), valV kvs (.inl y) = some (.ref q) ∧ OutIs ss y S ∧ H' q = some (.lst (S.map V.int)) ∧ H q = none
theorem FutP.same {ss : List Sd} {H H' H2 : Hp} {kvs : List (Key × V)} {y : Int} (h : FutP ss H H' kvs y) (s : Same H' H2) : FutP ss H H2 kvs y := let ⟨q, S, a, b, c, d⟩ := h; ⟨q, S, a, b, s _ _ c, d⟩
theorem merge_snoc (kvs : List (Key × V)) (k : Key) (x : V) : mergeK [] (kvs ++ [(k, x)]) = putK (mergeK [] kvs) k x := by
  unfold mergeK
  rw [List.foldl_append]
  rfl
theorem any_lists (bs : List (Addr × List Int)) (S : List Int) : ((bs.map fun b => PyData.list (b.2.map PyData.int)).any fun z => PyData.eqv z (.list (S.map PyData.int))) = decide (S ∈ bs.map (·.2)) := by
  induction bs with
  | nil => simp
  | cons b bs ih =>
    rw [List.map_cons, List.any_cons, ih, eqv_ints, List.map_cons]
    by_cases e : b.2 = S
    · rw [decide_eq_true e, decide_eq_true (show S ∈ b.2 :: bs.map (·.2) by rw [e]; exact List.mem_cons_self)]
      rfl
    · rw [decide_eq_false e]
      by_cases f : S ∈ bs.map (·.2)
      · rw [decide_eq_true f, decide_eq_true (List.mem_cons_of_mem _ f)]
        rfl
      · rw [decide_eq_false f, decide_eq_false (fun h => (List.mem_cons.mp h).elim (fun h => e h.symm) f)]
        rfl
theorem dp_lists {K : PySem.W.Frag} {H : Hp} {G : Addr} : ∀ {bs : List (Addr × List Int)}, H G = some (.lst (bs.map fun b => V.ref b.1)) → (∀ b ∈ bs, H b.1 = some (.lst (b.2.map V.int))) → Dp K H (.ref G) (.list (bs.map fun b => PyData.list (b.2.map PyData.int))) := by
  intro bs hG hb
  have key : ∀ {bs : List (Addr × List Int)}, (∀ b ∈ bs, H b.1 = some (.lst (b.2.map V.int))) → DpAll K H (bs.map fun b => V.ref b.1) (bs.map fun b => PyData.list (b.2.map PyData.int)) := fun {bs} => by
    induction bs with
    | nil => intro _; exact .nil
    | cons b bs ih => intro hb; exact .cons (dp_ints (hb b List.mem_cons_self)) (ih fun b' h => hb b' (List.mem_cons_of_mem _ h))
  exact .lst (SqL.of hG) (key hb)
theorem can_lists (bs : List (Addr × List Int)) : PyData.canLayAll0 (bs.map fun b => PyData.list (b.2.map PyData.int)) = true ∧ PyData.depthAll (bs.map fun b => PyData.list (b.2.map PyData.int)) ≤ 2 := by
  have intsK : ∀ A : List Int, PyData.canLayAll0 (A.map PyData.int) = true ∧ PyData.depthAll (A.map PyData.int) ≤ 1 := fun A => by
    induction A with
    | nil => exact ⟨rfl, Nat.zero_le _⟩
    | cons a A ih => exact ⟨by simp [PyData.canLayAll0, PyData.canLay0, ih.1], by show max (PyData.depth (.int a)) (PyData.depthAll (A.map PyData.int)) ≤ 1; exact Nat.max_le.mpr ⟨by simp [PyData.depth], ih.2⟩⟩
  induction bs with
  | nil => exact ⟨rfl, Nat.zero_le _⟩
  | cons b bs ih =>
    obtain ⟨a, c⟩ := intsK b.2
    refine ⟨by simp [PyData.canLayAll0, PyData.canLay0, a, ih.1], ?_⟩
    show max (PyData.depthAll (b.2.map PyData.int) + 1) (PyData.depthAll (bs.map fun b => PyData.list (b.2.map PyData.int))) ≤ 2
    exact Nat.max_le.mpr ⟨by omega, ih.2⟩
section
variable {P : Program} {w : World} {K : PySem.W.Frag} {mg : Str → Option Value} {base : Heap} {Bx fB fH fI fJ : Addr} {dB dH dI dJ : FuncData} {C : Nat → Addr}
theorem ok_due {f : Addr} {fd : FuncData} (F : Fun K "_law_due" "_law_due" s_L_due f fd) (B : Blt mg) (G : RsG mg) (Al : Cal P w K mg base "_law_all" 4 ["_law_sides", "_law_value"] spAll fI dI) : FnOk P w K mg base CX0 5 f fd ["_law_sides", "_law_value"] spDueR := by
  refine F.ok sc_L_due (fun vs H Q E h => ?_) (fun cdv A outer s0 H vs Q E hr h => ?_)
  · obtain ⟨l, xs, ss, v, R, rfl, _⟩ := h
    rfl
  · obtain ⟨l, xs, ss, v, R, rfl, SS, vb, oR, lR, q⟩ := h
    have nd := sc_L_due.nd
    refine ⟨_, (pss_cons (ps_set (i := 2) nd rfl (Or.inl rfl) (pcl Al hr (by decide) (by rfl) (pa_cons (pv 0) (pa_cons (pv 1) pa_nil))))
      (pss_cons (ps_set (i := 4) nd rfl (Or.inr rfl) (pe_callTy (call_dictP rfl) (by rfl) G.dict (by decide +kernel) (pa_cons (pe_lc (own := [("_law_one", 3)]) (g := gName 3) (tt := tYes) rfl nd (pi_list (pv 2)) (blkOk_by (N := ["_law_sides", "_law_value", "_law_every", "_law_one", "_law_futures", "_law_found", "_law_other", "_law_others"]) (sc := defScope s_L_due) (by decide +kernel)) (fun _ _ _ _ _ => pg_name (i := 3) nd rfl (Or.inl rfl)) (fun _ _ _ _ _ => pts_nil) (fun _ _ _ _ _ => (pe_tup (pa_cons (pv 3) (pa_cons (pcl Al hr (by decide) (by rfl) (pa_cons (pv 0) (pa_cons (pv 3) pa_nil))) pa_nil))))) pa_nil)))
      (pss_cons (ps_set (i := 5) nd rfl (Or.inl rfl) (pe_lst pa_nil))
      (pss_cons (ps_for PassesOwn.never rfl (pi_list (pv 2)) (pg_name (i := 3) nd rfl (Or.inr rfl)) (pss_cons (ps_setLc (i := 7) (own := [("_law_other", 6)]) (g := gName 6) rfl nd rfl rfl (sw_true rfl rfl rfl (by decide +kernel)) (pi_list (pe_dget (lt1 hr.units) (pv 4) (pv 3) (fun _ _ => rfl))) (blkOk_by (N := ["_law_sides", "_law_value", "_law_every", "_law_one", "_law_futures", "_law_found", "_law_other", "_law_others"]) (sc := defScope s_L_due) (by decide +kernel)) (fun _ _ _ _ _ => pg_name (i := 6) nd rfl (Or.inl rfl)) (fun _ _ _ _ _ => (pts_one (pt_cmpR (show OpR _ _ (rNeD K) from op_neD hr.units) (pe_dget (lt1 hr.units) (pv 4) (pv 6) (fun _ _ => rfl)) (pe_dget (lt1 hr.units) (pv 4) (pv 3) (fun _ _ => rfl)) (nomark _)))) (fun _ _ _ _ _ => (pv 6)))
      (pss_one (ps_if (PW.pt (pw_and (pt_cmpR (op_eqD hr.units) (pv 7) (pe_lst pa_nil) (nomark _)) (pw_and1 (pt_cmpR (op_notInL hr.units) (pe_dget (lt1 hr.units) (pv 4) (pv 3) (fun _ _ => rfl)) (pv 5) (by rfl))))) (pss_one (ps_expr (pe_bm PySem.F.plainAttrs_list PySem.F.slot_list_append PySem.F.type_list_append mt_append (pv 5) (pa_cons (pe_dget (lt1 hr.units) (pv 4) (pv 3) (fun _ _ => rfl)) pa_nil)))) pss_nil))))
      (pss_one (ps_ret (pe_callB (cr_sortedLL hr.units) (by rfl) G.sorted (by decide +kernel) (pa_cons (pv 5) pa_nil)))))))), ?_⟩
    walk_at "rd"
    refine ⟨l, xs, ss, v, rfl, SS, by omega, fun R' pR H1 why l110 rb s1 npR hR => ?_⟩
    have eR : R' = R := by
      rcases why with o | ⟨big, nd', rc⟩
      · exact o.uniq oR
      · exfalso
        have := nodup_le nd' fun y hy => (oR.2 y).mpr (rc y hy)
        omega
    subst eR
    clear why l110
    have allof : ∀ (y : Int), y ∈ R' → ∀ (S : List Int), (OutIs ss y S ∨ (102 ≤ S.length ∧ S.Nodup ∧ ∀ z ∈ S, Rc ss y z)) → OutIs ss y S ∧ S.length < 100 := fun y hy S h => by
      have ry := (oR.2 y).mp hy
      rcases h with o | ⟨big, nd', rc⟩
      · exact ⟨o, Nat.lt_of_le_of_lt (nodup_le (o.1.imp fun h => by omega) fun z hz => (oR.2 z).mpr (ry.trans ((o.2 z).mp hz))) lR⟩
      · exfalso
        have := nodup_le nd' fun z hz => (oR.2 z).mpr (ry.trans (rc z hz))
        omega
    walk_at "rd"
    refine ⟨⟨_, SqL.of hR⟩, fun D1 nD1 => ?_⟩
    refine lc_list (K := K) (a := pR) (xs := R'.map V.int) (fun i H3 => ∃ (ps : List Addr) (kvs0 : List (Key × V)), H3 D1 = some (.lst (ps.map V.ref)) ∧ ps.length = i ∧ i ≤ R'.length ∧ Same H1 H3 ∧ Paired (fun p kv => H3 p = some (.tup [kV kv.1, kv.2])) ps kvs0 ∧ ∀ j, j < i → ∀ y, R'[j]? = some y → ∃ (q : Addr) (S : List Int), valV (mergeK [] kvs0) (.inl y) = some (.ref q) ∧ OutIs ss y S ∧ H3 q = some (.lst (S.map V.int)) ∧ H q = none ∧ q ≠ D1)
      ⟨[], [], upd_same, rfl, Nat.zero_le _, fun b u z => (upd_ne (ne_of_none z nD1)).trans z, .nil, fun j hj => absurd hj (Nat.not_lt_zero _)⟩ (fun _ _ _ ⟨_, _, _, _, _, s3, _⟩ => SqL.of (s3 _ _ hR)) ?_ ?_
    · rintro i x H3 hx ⟨ps, kvs0, hD, lp, li, s3, pa, fu⟩
      obtain ⟨y, ey, rfl⟩ : ∃ y, R'[i]? = some y ∧ x = V.int y := by
        rw [List.getElem?_map] at hx
        cases e : R'[i]? with
        | none => rw [e] at hx; cases hx
        | some y => rw [e] at hx; cases hx; exact ⟨y, rfl, rfl⟩
      have il : i < R'.length := (List.getElem?_eq_some_iff.mp ey).1
      have ym := List.mem_of_getElem? ey
      have yb := rb y ym
      refine ⟨rfl, ?_⟩
      walk_at "rd"
      have s03 := s1.trans s3
      refine ⟨l, xs, ss, y, rfl, SS.same s03, by omega, fun S pS H4 why l110 sb s4 npS hS => ?_⟩
      obtain ⟨oS, lS⟩ := allof y ym S why
      refine ⟨(by show 2 ≤ sizeLine; decide), fun t nt => ?_⟩
      have hD4 := s4 _ _ hD
      have nDt : D1 ≠ t := ne_of_none hD4 nt
      have w5 : Same H4 (upd H4 t (.tup [.int y, .ref pS])) := fun b u z => (upd_ne (ne_of_none z nt)).trans z
      have g5 : upd H4 t (.tup [.int y, .ref pS]) t = some (.tup [.int y, .ref pS]) := upd_same
      generalize upd H4 t (.tup [.int y, .ref pS]) = H5 at w5 g5 ⊢
      have hD5 := w5 _ _ hD4
      have keep : ∀ b o, H5 b = some o → b ≠ D1 → upd H5 D1 (.lst (ps.map V.ref ++ [.ref t])) b = some o := fun b o z n => (upd_ne n).trans z
      refine ⟨_, hD5, ?_, ps ++ [t], kvs0 ++ [(.inl y, .ref pS)], ?_, ?_, il, ?_, ?_, ?_⟩
      · rw [List.length_map, lp]; exact Nat.lt_of_lt_of_le (by omega : i < 200) (by decide)
      · rw [List.map_append]; exact upd_same
      · rw [List.length_append, lp]; rfl
      · intro b u z
        exact keep b u (w5 _ _ (s4 _ _ (s3 _ _ z))) (ne_of_none z nD1)
      · refine Paired.snoc (Paired.mapP pa fun p kv z => ?_) ?_
        · exact keep p _ (w5 _ _ (s4 _ _ z)) (ne_of z hD (by intro z; cases z))
        · exact keep t _ g5 (Ne.symm nDt)
      · intro j hj z hz
        rw [merge_snoc]
        by_cases e : y = z
        · subst e
          have nSD : pS ≠ D1 := fun e => by rw [e, hD] at npS; cases npS
          exact ⟨pS, S, by rw [valV_put, if_pos rfl], oS, keep pS _ (w5 _ _ hS) nSD, s03.free npS, nSD⟩
        · obtain ⟨q2, S2, a1, a2, a3, a4, a5⟩ := fu j (by
            by_cases z2 : j < i
            · exact z2
            · exfalso
              obtain rfl : j = i := by omega
              rw [ey] at hz
              cases hz
              exact e rfl) z hz
          refine ⟨q2, S2, by rw [valV_put, if_neg (fun c => e (by injection c with c; exact c.symm))]; exact a1, a2, keep q2 _ (w5 _ _ (s4 _ _ a3)) a5, a4, a5⟩
    · rintro H3 ⟨ps, kvs0, hD, lp, li, s3, pa, fu⟩
      rw [List.length_map] at lp li fu
      have F1 : ∀ y ∈ R', FutP ss H H3 (mergeK [] kvs0) y := fun y hy => by
        obtain ⟨j, hj, e⟩ := List.getElem_of_mem hy
        obtain ⟨q2, S2, a1, a2, a3, a4, _⟩ := fu j hj y (by rw [List.getElem?_eq_getElem hj, e])
        exact ⟨q2, S2, a1, a2, a3, a4⟩
      clear fu
      walk_at "rd"
      refine ⟨D1, ps, kvs0, rfl, SqL.of hD, Paired.mapP pa fun p kv z => SqT.of z, fun D nD => ?_⟩
      generalize mergeK [] kvs0 = kvs at F1 ⊢
      generalize e_D : upd H3 D _ = H4
      have gD : H4 D = some (.dK kvs) := by rw [← e_D]; exact upd_same
      have w4 : Same H3 H4 := by rw [← e_D]; exact fun b u z => (upd_ne (ne_of_none z nD)).trans z
      clear e_D
      have s04 := s1.trans (s3.trans w4)
      have F2 : ∀ y ∈ R', FutP ss H H4 kvs y := fun y hy => (F1 y hy).same w4
      clear F1 hD pa
      have nG0 := w4
      walk_at "rd"
      refine ⟨(by show 0 ≤ sizeLine; decide), fun G1 nG1 => ?_⟩
      generalize e_G1 : upd H4 G1 _ = H5
      have g5 : H5 G1 = some (.lst []) := by rw [← e_G1]; exact upd_same
      have w5 : Same H4 H5 := by rw [← e_G1]; exact fun b u z => (upd_ne (ne_of_none z nG1)).trans z
      clear e_G1
      obtain ⟨b, b', A', B', T, oA, oB⟩ := two_ex SS.side oR
      walk_at "rd"
      refine ⟨⟨_, SqL.of ((s3.trans (w4.trans w5)) _ _ hR)⟩, ?_⟩
      refine for_list (K := K) (a := pR) (xs := R'.map V.int) (fun i st H6 => ∃ (x3 x7 : Option V) (bs : List (Addr × List Int)), st = [some (.ref l), some (.int v), some (.ref pR), x3, some (.ref D), some (.ref G1), none, x7] ∧ Same H4 H6 ∧ H6 G1 = some (.lst (bs.map fun b => V.ref b.1)) ∧ (∀ b ∈ bs, H6 b.1 = some (.lst (b.2.map V.int)) ∧ H b.1 = none ∧ b.1 ≠ G1 ∧ ∃ y ∈ R', OutIs ss y b.2) ∧ Stt R' A' B' i (bs.map (·.2)))
        ⟨none, none, [], rfl, w5, g5, fun b h => absurd h List.not_mem_nil, .none fun j hj => absurd hj (Nat.not_lt_zero _)⟩ (fun _ _ _ _ ⟨_, _, _, _, s6, _⟩ => SqL.of ((s3.trans (w4.trans s6)) _ _ hR)) ?_ ?_
      · rintro i x st H6 hx ⟨x3, x7, bs, rfl, s6, hG, hbs, stt⟩
        obtain ⟨y, ey, rfl⟩ : ∃ y, R'[i]? = some y ∧ x = V.int y := by
          rw [List.getElem?_map] at hx
          cases e : R'[i]? with
          | none => rw [e] at hx; cases hx
          | some y => rw [e] at hx; cases hx; exact ⟨y, rfl, rfl⟩
        have ym := List.mem_of_getElem? ey
        obtain ⟨qy, S, vy, oS, hS, fS⟩ := (F2 y ym).same s6
        have ry := (oR.2 y).mp ym
        have subR : ∀ z ∈ S, z ∈ R' := fun z hz => (oR.2 z).mpr (ry.trans ((oS.2 z).mp hz))
        have hD6 := s6 _ _ gD
        have dg := DGet.k (k := .inl y) hD6
        rw [vy] at dg
        walk_at "rd"
        refine ⟨D, _, rfl, dg, ?_⟩
        refine ⟨qy, rfl, ⟨_, SqL.of hS⟩, fun D2 nD2 => ?_⟩
        refine lc_list (K := K) (a := qy) (xs := S.map V.int) (fun i2 H7 => ∃ acc : List Int, H7 D2 = some (.lst (acc.map V.int)) ∧ Same H6 H7 ∧ acc.length ≤ i2 ∧ (acc = [] ↔ ∀ j, j < i2 → ∀ z, S[j]? = some z → ∀ S', OutIs ss z S' → S' = S))
          ⟨[], upd_same, fun b u z => (upd_ne (ne_of_none z nD2)).trans z, Nat.le_refl _, ⟨fun _ j hj => absurd hj (Nat.not_lt_zero _), fun _ => rfl⟩⟩ (fun _ _ _ ⟨_, _, s7, _⟩ => SqL.of (s7 _ _ hS)) ?_ ?_
        · rintro i2 x H7 hx2 ⟨acc, hD2, s7, la, ac⟩
          obtain ⟨z, ez, rfl⟩ : ∃ z, S[i2]? = some z ∧ x = V.int z := by
            rw [List.getElem?_map] at hx2
            cases e : S[i2]? with
            | none => rw [e] at hx2; cases hx2
            | some y => rw [e] at hx2; cases hx2; exact ⟨y, rfl, rfl⟩
          have il2 : i2 < S.length := (List.getElem?_eq_some_iff.mp ez).1
          have lS : S.length ≤ R'.length := nodup_le (oS.1.imp fun h => by omega) subR
          obtain ⟨qz, Sz, vz, oSz, hSz, _⟩ := (F2 z (subR z (List.mem_of_getElem? ez))).same (s6.trans s7)
          have hD7 := s7 _ _ hD6
          have dgz := DGet.k (k := .inl z) hD7
          rw [vz] at dgz
          have dg7 := DGet.k (k := .inl y) hD7
          rw [vy] at dg7
          refine ⟨rfl, ?_⟩
          walk_at "rd"
          refine ⟨D, _, rfl, dgz, ?_⟩
          walk_at "rd"
          refine ⟨D, _, rfl, dg7, ?_⟩
          refine ⟨_, _, dp_ints hSz, dp_ints (s7 _ _ hS), shaped_ints Sz, shaped_ints S, ?_⟩
          rw [eqv_ints]
          refine ⟨_, rfl, ?_⟩
          have nxt : (∀ j, j < i2 + 1 → ∀ z, S[j]? = some z → ∀ S', OutIs ss z S' → S' = S) ↔ (∀ j, j < i2 → ∀ z, S[j]? = some z → ∀ S', OutIs ss z S' → S' = S) ∧ Sz = S := by
            constructor
            · exact fun h => ⟨fun j hj => h j (by omega), h i2 (by omega) z ez Sz oSz⟩
            · intro h j hj u hu S' oS'
              by_cases e : j < i2
              · exact h.1 j e u hu S' oS'
              · obtain rfl : j = i2 := by omega
                rw [ez] at hu
                cases hu
                exact (oS'.uniq oSz).trans h.2
          refine ite2 (fun c => ?_) (fun c => ?_)
          · have ne : Sz ≠ S := fun e => by rw [decide_eq_true e] at c; exact absurd c (by decide)
            walk_at "rd"
            refine ⟨_, hD2, ?_, acc ++ [z], ?_, fun b u y => (upd_ne (ne_of_none y nD2)).trans (s7 _ _ y), ?_, ?_⟩
            · rw [List.length_map]; exact Nat.lt_of_lt_of_le (by omega : acc.length < 200) (by decide)
            · rw [List.map_append]; exact upd_same
            · rw [List.length_append]; show acc.length + 1 ≤ i2 + 1; omega
            · rw [nxt]
              exact ⟨fun h => by simp at h, fun h => absurd h.2 ne⟩
          · have e : Sz = S := by
              by_cases e : Sz = S
              · exact e
              · rw [decide_eq_false e] at c; exact absurd rfl c
            refine ⟨acc, hD2, s7, by omega, ?_⟩
            rw [nxt, ac]
            exact ⟨fun h => ⟨h, e⟩, fun h => h.1⟩
        · rintro H7 ⟨acc, hD2, s7, la, ac⟩
          rw [List.length_map] at la ac
          have rec_y : acc = [] ↔ Rec ss y := by
            rw [ac, ← rec_iff2 oS fun z hz => let ⟨S2, o2, _⟩ := out_sub oR ((oR.2 z).mp (subR z hz)); ⟨S2, o2⟩]
            constructor
            · intro h z hz
              obtain ⟨j, hj, e⟩ := List.getElem_of_mem hz
              exact h j hj z (by rw [List.getElem?_eq_getElem hj, e])
            · exact fun h j hj z hz => h z (List.mem_of_getElem? hz)
          walk_at "rd"
          refine ⟨(by show 0 ≤ sizeLine; decide), fun z0 nz0 => ?_⟩
          generalize e_z0 : upd H7 z0 _ = H8
          have gz : H8 z0 = some (.lst []) := by rw [← e_z0]; exact upd_same
          have wz : Same H7 H8 := by rw [← e_z0]; exact fun b u z => (upd_ne (ne_of_none z nz0)).trans z
          clear e_z0
          walk_at "rd"
          have s68 := s7.trans wz
          refine ⟨_, _, dp_ints (wz _ _ hD2), dp_ints (A := []) gz, shaped_ints acc, shaped_ints [], ?_⟩
          rw [eqv_ints]
          walk_at "rd"
          have hG8 := s68 _ _ hG
          have hbs8 : ∀ b ∈ bs, H8 b.1 = some (.lst (b.2.map V.int)) ∧ H b.1 = none ∧ b.1 ≠ G1 ∧ ∃ y ∈ R', OutIs ss y b.2 := fun b hb => ⟨s68 _ _ (hbs b hb).1, (hbs b hb).2⟩
          have hD8 := s68 _ _ hD6
          have dg8 := DGet.k (k := .inl y) hD8
          rw [vy] at dg8
          refine ite2 (fun c => ?_) (fun c => ?_)
          · have rec1 : Rec ss y := rec_y.mp (of_decide_eq_true c)
            walk_at "rd"
            refine ⟨D, _, rfl, dg8, ?_⟩
            walk_at "rd"
            refine ⟨_, _, dp_ints (s68 _ _ hS), dp_lists hG8 (fun b hb => (hbs8 b hb).1), shaped_ints S, (can_lists bs).1, Nat.le_trans (can_lists bs).2 (by decide), ?_⟩
            rw [any_lists]
            walk_at "rd"
            rcases stt.step T oA oB oR ey rec1 oS with ⟨m, st2⟩ | ⟨m, st2⟩
            · refine ite2 (fun c => ?_) (fun _ => ?_)
              · rw [decide_eq_true m] at c
                exact absurd c (by decide)
              · exact ⟨_, _, bs, rfl, s6.trans s68, hG8, hbs8, st2⟩
            · refine ite2 (fun _ => ?_) (fun c => ?_)
              · walk_at "rd"
                refine ⟨.inl ⟨rfl, _, SqL.of hG8⟩, ?_⟩
                walk_at "rd"
                refine ⟨D, _, rfl, dg8, ?_⟩
                have lb : bs.length ≤ 2 := by
                  have e : (bs.map (·.2)).length ≤ 2 := by
                    generalize bs.map (·.2) = zs at stt
                    cases stt with
                    | none => show 0 ≤ 2; decide
                    | one => show 1 ≤ 2; decide
                    | two => show 2 ≤ 2; decide
                  rw [List.length_map] at e
                  exact e
                refine ⟨G1, _, _, rfl, rfl, hG8, (by rw [List.length_map]; exact Nat.lt_of_lt_of_le (by omega : bs.length < 8) (by decide)), ?_⟩
                have nqG : qy ≠ G1 := fun e => by
                  obtain ⟨q4, _, v4, _, h4, _⟩ := F2 y ym
                  rw [vy] at v4
                  cases v4
                  rw [e] at h4
                  rw [nG1] at h4
                  cases h4
                refine ⟨_, _, bs ++ [(qy, S)], rfl, fun b u z => (upd_ne (ne_of_none z nG1)).trans ((s6.trans s68) _ _ z), ?_, fun b hb => ?_, ?_⟩
                · rw [List.map_append]; exact upd_same
                · rcases List.mem_append.mp hb with h | h
                  · obtain ⟨a1, a2, a3, a4⟩ := hbs8 b h
                    exact ⟨(upd_ne a3).trans a1, a2, a3, a4⟩
                  · rw [List.mem_singleton.mp h]
                    exact ⟨(upd_ne nqG).trans (s68 _ _ hS), fS, nqG, y, ym, oS⟩
                · rw [List.map_append]; exact st2
              · rw [decide_eq_false m] at c
                exact absurd rfl c
          · have nrec : ¬ Rec ss y := fun h => c (decide_eq_true (rec_y.mpr h))
            exact ⟨_, _, bs, rfl, s6.trans s68, hG8, hbs8, stt.skip ey (fun h => nrec (T.rb.of ((oA.2 y).mp h))) (fun h => nrec (T.rb'.of ((oB.2 y).mp h)))⟩
      · rintro st H6 ⟨x3, x7, bs, rfl, s6, hG, hbs, stt⟩
        rw [List.length_map] at stt
        have RI := stt.fin T oA oB oR
        walk_at "rd"
        have shape : bs.length ≤ 2 ∧ bs.Pairwise (fun x y => dataLe false encL x y = true) := by
          generalize ezs : bs.map (·.2) = zs at stt
          cases stt with
          | none => cases bs with
            | nil => exact ⟨by decide, .nil⟩
            | cons b bs => cases ezs
          | one => match bs, ezs with
            | [b1], _ => exact ⟨by show 1 ≤ 2; decide, List.pairwise_singleton _ _⟩
          | two ne => match bs, ezs with
            | [b1, b2], ezs =>
              injection ezs with e1 e2
              injection e2 with e2 _
              refine ⟨by show 2 ≤ 2; decide, List.pairwise_cons.mpr ⟨fun c hc => ?_, List.pairwise_singleton _ _⟩⟩
              rw [List.mem_singleton.mp hc]
              cases eA : A' with
              | nil => have := oA.self; rw [eA] at this; cases this
              | cons a0 A2 => cases eB : B' with
                | nil => have := oB.self; rw [eB] at this; cases this
                | cons b0 B2 => exact lists_le (e1.trans eA) (e2.trans eB) (apart_set T oA oB ne (by rw [eA]; exact List.mem_cons_self) (by rw [eB]; exact List.mem_cons_self))
        refine ⟨G1, bs, rfl, SqL.of hG, fun b hb => (hbs b hb).1, shape.2, by omega, fun p np => ?_⟩
        have sA : Same H H6 := s04.trans s6
        refine q _ p _ RI (fun A hA => ?_) (fun b u z => (upd_ne (ne_of_none (sA _ _ z) np)).trans (sA _ _ z)) ⟨sA.free np, bs.map (·.1), ?_, by rw [List.length_map, List.length_map], fun q2 hq => ?_, fun i A q2 e1 e2 => ?_⟩
        · obtain ⟨c, hc, rfl⟩ := List.mem_map.mp hA
          obtain ⟨_, _, _, y, ym, oy⟩ := hbs c hc
          have sub : ∀ z ∈ c.2, z ∈ R' := fun z hz => (oR.2 z).mpr (((oR.2 y).mp ym).trans ((oy.2 z).mp hz))
          refine ⟨Nat.lt_of_le_of_lt (nodup_le (oy.1.imp fun h => by omega) sub) lR, fun e => ?_, fun z hz => ?_⟩
          · have := oy.self
            rw [e] at this
            cases this
          · have := rb z (sub z hz)
            omega
        · rw [List.map_map]; exact upd_same
        · obtain ⟨c, hc, rfl⟩ := List.mem_map.mp hq
          exact (hbs c hc).2.1
        · rw [List.getElem?_map] at e1 e2
          cases e : bs[i]? with
          | none => rw [e] at e1; cases e1
          | some c =>
            rw [e] at e1 e2
            cases e1
            cases e2
            have h := (hbs c (List.mem_of_getElem? e)).1
            exact (upd_ne (ne_of_none h np)).trans h
end
end HT
namespace HT
open PySem PySem.Spec PyProof.Rows L2
section
variable {P : Program} {w : World} {A : Around} {E : Value → Shared → Prop} {s : Shared}
/-- a set with nothing in it -/
abbrev bare (w : World) : Obj := { cls := .type "set", dict := none, data := .set #[] 0 (.fresh 0 0 (!w.params.followText "set-order")) }
set_option maxRecDepth 100000 in
set_option maxHeartbeats 3200000 in
theorem set_from_list {l : Addr} {its : Array Value} (zs : List Int) {Q : Value → Shared → Prop} (still : A.handled = none) (il : s.heap.IsList l its) (iz : IntsAre its.toList zs) (few : zs.length + 1 < scanBound)
    (fin : ∀ (g : Heap) (tk c : Nat), SetR w g s.heap.objs.size (fun j => decide (j ∈ zs)) c → c ≤ zs.length → (∀ b o, s.heap.get? b = some o → g.get? b = some o) → Q (.ref s.heap.objs.size) { s with heap := g, toks := tk }) :
    wpAny (model P w) A (call (.type "set") [.ref l]) Q E s := by
  have sz : its.size = zs.length := by
    have e := IntsAre.length iz
    rwa [Array.length_toList] at e
  obtain ⟨k0, k1, mro0⟩ := F.called_set.mro
  have made0 := F.called_set.made; have sub0 := F.called_set.sub
  refine wpAny_call (codeAny_of_tree ?_)
  show wpAny _ _ (callAny (.type "set") _) _ _ _
  refine wpAny_pure ⟨Code.quiet_builtin _ (by decide +kernel), codeAny_builtin F.entry_type_call ?_⟩
  rw [Around.under_plain (weight_type_call_type "set" [.ref l] []) rfl]
  have not0 := F.called_set.notType; have can0 := F.called_set.canCreate; have call0 := F.typeCall_set_1 (.ref l)
  repeat (any_goals (first | assumption | wp_step))
  refine codeAny_mono (code_set_led1 (.ref l) (E := E) (Q₁ := fun x t => x = .ref s.heap.objs.size ∧ t = { s with heap := s.heap.push (bare w) }) ⟨rfl, rfl⟩) fun r t hr => ?_
  match r, hr with
  | .error e, hr => exact hr
  | .ok .next, hr => exact hr.elim
  | .ok .brk, hr => exact hr.elim
  | .ok .cont, hr => exact hr.elim
  | .ok (.ret x), hr =>
    obtain ⟨rfl, rfl⟩ := hr
    have gS : (s.heap.push (bare w)).get? s.heap.objs.size = some (bare w) := Heap.get?_push_size _ rfl
    have tS : Shared.TypeIs { s with heap := s.heap.push (bare w) } (.ref s.heap.objs.size) "set" := ⟨_, gS, rfl⟩
    have look0 := F.called_set.init.lookup; have bind0 := F.called_set.init.bind (.ref s.heap.objs.size)
    repeat (any_goals (first | assumption | wp_step))
    refine codeAny_mono (codeAny_call_builtin (R := wants (fun r t => r = .none ∧ ∃ g tk c, t = { s with heap := g, toks := tk } ∧ SetR w g s.heap.objs.size (fun j => decide (j ∈ zs)) c ∧ c ≤ zs.length ∧ (∀ b o, s.heap.get? b = some o → g.get? b = some o)) E)
      F.called_set.init.plain F.entry_set_init (check_set_init_1 tS ?_)) fun r2 t2 hr2 => ?_
    · obtain ⟨ol, gl, cl0, nl, dl⟩ := il
      obtain ⟨c1, d1, dt1, s1⟩ := ol
      simp only at cl0 dl
      subst cl0; subst dl
      have gl2 : (s.heap.push (bare w)).get? l = some { cls := .type "list", dict := d1, data := .seq its nl, slots := s1 } := Heap.get?_push_of_some _ gl
      have sub1 := F.sub_list_set; have sub2 := F.sub_list_frozenset
      have nd0 : (Value.type "list" == Value.type "dict") = false := by decide
      have il2 : (s.heap.push (bare w)).IsList l its := ⟨_, gl2, rfl, nl, rfl⟩
      unfold Builtin.«set.__init__» noKeywords Builtin.Frozenset.updateFrom
      generalize ePI : pyIter = PI
      wp_walk
      subst ePI
      refine wpAny_pyIter_list il2 ?_
      refine wpAny_bind (wpAny_runValue ?_)
      have lS : l < s.heap.objs.size := Heap.lt_size gl
      have still3 : A.in1.in1.in1.handled = none := by simp [still]
      have nI : l ≠ (s.heap.push (bare w)).objs.size := by
        rw [Heap.size_push]; exact Nat.ne_of_lt (Nat.lt_succ_of_lt lS)
      have nS : s.heap.objs.size ∉ [(s.heap.push (bare w)).objs.size, l] := by
        rw [Heap.size_push]; simp only [List.mem_cons, List.mem_singleton, List.not_mem_nil, or_false, not_or]
        exact ⟨Nat.ne_of_lt (Nat.lt_succ_self _), Nat.ne_of_gt lS⟩
      refine set_update_ints ((Walks.list still3 _ l nI its).toS) s.heap.objs.size nS zs sz few (fun i v hv => ?_) (its.size - 0) 0 _ (by omega) (Nat.zero_le _) ⟨⟨_, Heap.get?_push_size _ rfl, rfl, rfl⟩, (il2.push _)⟩ ?start ?stop
      · have hi : i < zs.length := by rw [← sz]; exact (Array.getElem?_eq_some_iff.mp hv).1
        obtain ⟨t, e⟩ := PyProof.Rows.IntsAre.int_at iz i v (by rw [Array.getElem?_toList]; exact hv)
        exact ⟨zs[i], t, List.getElem?_eq_getElem hi, by rw [e, List.getD_eq_getElem?_getD, List.getElem?_eq_getElem hi]; rfl⟩
      case start => exact ⟨0, Nat.le_refl 0, setR_new_at (Heap.get?_push_of_some _ gS)⟩
      case stop =>
        intro t c hm hc hS
        obtain ⟨g, g2, dr, tk, os⟩ := t
        obtain rfl : g2 = s.gens := hm.gens
        obtain rfl : dr = s.drawn := hm.drawn
        obtain rfl : os = s.os := hm.os
        show wpAny _ _ _ _ _ _
        refine wpAny_pure ?_
        show wpAny _ _ (ret Value.none) _ _ _
        rw [sz] at hc
        refine wpAny_pure ⟨rfl, g, tk, c, rfl, hS, hc, fun b o e => ?_⟩
        have b0 : b < s.heap.objs.size := Heap.lt_size e
        refine hm.heap b o ?_ (Heap.get?_push_of_some _ (Heap.get?_push_of_some _ e))
        rw [Heap.size_push]
        simp only [List.mem_cons, List.mem_singleton, List.not_mem_nil, or_false, not_or]
        exact ⟨Nat.ne_of_lt b0, Nat.ne_of_lt (Nat.lt_succ_of_lt b0)⟩
    · match r2, hr2 with
      | .error e, hr2 => exact hr2
      | .ok .next, hr2 => exact hr2.elim
      | .ok .brk, hr2 => exact hr2.elim
      | .ok .cont, hr2 => exact hr2.elim
      | .ok (.ret x), hr2 =>
        obtain ⟨rfl, g, tk, c, rfl, hS, hc, kp⟩ := hr2
        repeat (any_goals (first | assumption | wp_step))
        exact fin _ _ _ hS hc kp
end
end HT
namespace HT
open PySem PySem.Spec PyProof.Rows L2
section
variable {P : Program} {w : World} {A : Around} {E : Value → Shared → Prop} {s : Shared}
/-- sorted(s), s a set of any number of ints -/
theorem sorted_of_set {a : Addr} {S : Int → Bool} {n : Nat} {Q : Value → Shared → Prop} (R : SetR w s.heap a S n) (still : A.handled = none)
    (fin : ∀ t p (out : Array Value) (c : Nat) (ns : List Int), (∀ b o, s.heap.get? b = some o → t.heap.get? b = some o) → t.gens = s.gens → t.os = s.os → s.heap.objs.size ≤ p →
      t.heap.get? p = some (seqObj "list" out c) → IntsAre out.toList ns → ns.Pairwise (· < ·) → (∀ k, k ∈ ns ↔ S k = true) → ns.length = n → Q (.ref p) t) :
    wpAny (model P w) A (call (.builtin "sorted") [.ref a]) Q E s := by
  obtain ⟨o, es, ep, t, go, ex, dt, good, nod, mem, few, fits, num, ris, led⟩ := R
  refine Calls.call_function_entry kind_sorted plain_sorted entry_sorted (args_sorted1 _) ?_
  unfold Builtin.«sorted»
  refine wpAny_bind (m := checkCount "sorted" 1 1 _) (wpAny_pure ?_)
  refine wpAny_bind (collect_set (A := A.in1) still ⟨o, go, ex.1, dt⟩ fits few ris led fun s1 vs keep grow gg oo pm => ?_)
  have lv : vs.length = n := by rw [pm.length_eq, List.length_map, Array.length_toList]; exact num
  have line : vs.length ≤ sizeLine := by rw [lv, ← num]; rw [sizeLine_eq]; unfold scanBound at few; omega
  have isI : IntsAre vs (vs.map Builtin.Re.reRawOf) := ints_of vs fun v hv => by
    obtain ⟨e, he, q⟩ := List.mem_map.mp (pm.mem_iff.mp hv)
    obtain ⟨k, tk, h1, _⟩ := good e he
    exact ⟨k, tk, by rw [← q]; exact h1⟩
  have pk : (vs.map Builtin.Re.reRawOf).Perm (es.toList.map keyOf) := by
    have q := pm.map Builtin.Re.reRawOf
    rwa [List.map_map] at q
  refine wpAny_bind (wpAny_newList ?_ line)
  have gL : (s1.heap.push (seqObj "list" vs.toArray 0)).get? s1.heap.objs.size = some (seqObj "list" vs.toArray 0) := Heap.get?_push_size _ rfl
  refine wpAny_bind (wpAny_holding (wpAny_call_entry slot_list_sort ⟨_, gL, rfl⟩ entry_list_sort (SrtO.list_sort_ord SrtO.swo_int gL line (fun h2 => SrtO.ints_sortable isI h2) fun out so sb => ⟨_, rfl, ?_⟩) (args_list_sort _)))
  obtain ⟨k1, k2, k3⟩ := SrtO.ints_out isI so sb
  obtain ⟨c, hc⟩ := sortedHeap_at (vs := vs) (out := out.toArray) gL
  have pn := k2.trans pk
  refine wpAny_pure ⟨_, rfl, fin _ s1.heap.objs.size out.toArray c _ (fun b u e => ?_) gg oo grow hc (by simpa using k1) (lt_of_le_nodup _ k3 (pn.nodup_iff.mpr nod)) (fun k => by rw [pn.mem_iff, ← mem k]) ?_⟩
  · have q := keep b u e
    have lt := Heap.lt_size q
    show (sortedHeap (s1.heap.push (seqObj "list" vs.toArray 0)) s1.heap.objs.size vs out.toArray).get? b = some u
    rw [sortedHeap_old (Nat.ne_of_lt lt) (by rw [size_push']; exact Nat.lt_succ_of_lt lt)]
    exact Heap.get?_push_of_some _ q
  · rw [pn.length_eq, List.length_map, Array.length_toList]; exact num
end
section
variable {X : Cx}
/-- set(xs), ints, any number of them -/
def rSetI (K : PySem.W.Frag) (w : World) : List V → Hp → VK → Prop := fun vs H Q => ∃ (a : Addr) (ns : List Int), vs = [V.ref a] ∧ SqL K H a (ns.map V.int) ∧ ns.length + 1 < scanBound ∧
  ∀ (p : Addr) (c : Nat), c ≤ ns.length → H p = none → Q (.ref p) (upd H p (SetO w p (fun j => decide (j ∈ ns)) c))
theorem cr_setI (hc : X.calm = true) : CallR X (.type "set") (rSetI X.K X.w) := by
  intro pins s σ H vs us Q I r h
  obtain ⟨a, ns, rfl, hs, few, q⟩ := h
  obtain ⟨its, rv, hl, hz⟩ := I.list hs
  rw [Vals.ref1 r]
  refine set_from_list ns (I.ok.hd hc) hl.isList (by simpa using rv.ints) few fun g tk c R hn k => ?_
  exact ⟨.ref _, upd H s.heap.objs.size (SetO X.w s.heap.objs.size (fun j => decide (j ∈ ns)) c), I.laid (t' := tk) k (Nat.le_refl _) (setO_new R), rfl, q _ c hn (I.hok.fresh (Nat.le_refl _))⟩
/-- sorted(s), s a set of ints -/
def rSortedSetA (w : World) : List V → Hp → VK → Prop := fun vs H Q => ∃ (a : Addr) (S : Int → Bool) (n : Nat), vs = [V.ref a] ∧ H a = some (SetO w a S n) ∧ n ≤ 100000 ∧
  ∀ (ns : List Int) (p : Addr), ns.Pairwise (· < ·) → (∀ k : Int, k ∈ ns ↔ S k = true) → H p = none → Q (.ref p) (upd H p (.lst (ns.map V.int)))
theorem cr_sortedSetA (hc : X.calm = true) : CallR X (.builtin "sorted") (rSortedSetA X.w) := by
  intro pins s σ H vs us Q I r h
  obtain ⟨a, S, n, rfl, ha, few, q⟩ := h
  rw [Vals.ref1 r]
  refine sorted_of_set (setO_get I ha) (I.ok.hd hc) fun t p out c ns k g o hp hg hi hs hm hl => ?_
  have line : (ns.map V.int).length ≤ sizeLine := by rw [List.length_map, hl, sizeLine_eq]; omega
  have hn : H p = none := I.hok.fresh hp
  have J := I.call (g' := t.gens) (t' := t.toks) (d' := t.drawn) (ch := []) (Un.laid k hp hn) (I.hok.laid k hp (o := .lst (ns.map V.int)) ⟨line, out.toList, c, vals_of_ints hi, hg⟩) (by rw [g]; exact I.bare) (fun _ z => nomatch z)
  obtain ⟨th, tg, td, tt, tos⟩ := t
  obtain rfl : tos = s.os := o
  exact ⟨.ref p, _, J, rfl, q ns p hs hm hn⟩
end
end HT
namespace HT
open PySem L2
theorem goes_scale {m : Str} {s q r f : Int} (h : Mode m) (hf : 1 ≤ f) : goesUp m (s * f) q (r * f) = goesUp m s q r := by
  have key : ∀ a b : Int, a * f < b * f ↔ a < b := fun a b => Int.mul_lt_mul_right (by omega)
  have key2 : ∀ a b : Int, a * f ≤ b * f ↔ a ≤ b := fun a b => by
    rw [← Int.not_lt, key, Int.not_lt]
  have e0 : (0 : Int) < r * f ↔ 0 < r := by
    have := key 0 r
    rw [Int.zero_mul] at this
    exact this
  have e1 : s * f < 2 * (r * f) ↔ s < 2 * r := by
    have := key s (2 * r)
    rw [Int.mul_assoc] at this
    exact this
  have e2 : s * f ≤ 2 * (r * f) ↔ s ≤ 2 * r := by
    have := key2 s (2 * r)
    rw [Int.mul_assoc] at this
    exact this
  have e3 : 2 * (r * f) = s * f ↔ 2 * r = s := by
    rw [← Int.mul_assoc]
    exact Int.mul_eq_mul_right_iff (by omega)
  rcases h with e | e | e | e | e <;> subst e
  · rw [go_down, go_down]
  · rw [go_up, go_up]; exact decide_eq_decide.mpr e0
  · rw [go_hd, go_hd]; exact decide_eq_decide.mpr e1
  · rw [go_hu, go_hu]; exact decide_eq_decide.mpr e2
  · rw [go_he, go_he, decide_eq_decide.mpr e1, decide_eq_decide.mpr e3]
theorem due_scale {o s v f : Int} {m : Str} (h : Mode m) (hs : 1 ≤ s) (hf : 1 ≤ f) : dueM (o * f) (s * f) m (v * f) = dueM o s m v * f := by
  have F := fig_of (o := o) (m := m) (v := v) hs
  have sf : 1 ≤ s * f := Int.mul_pos (by omega) (by omega)
  obtain ⟨eq, r0, r1, wh⟩ := F
  generalize (v - o) / s = q at eq wh
  generalize (v - o) % s = r at eq r0 r1 wh
  have F2 : Fig (o * f) (s * f) m (v * f) q (r * f) (figM o s m v) := by
    refine ⟨?_, Int.mul_nonneg r0 (by omega), (Int.mul_lt_mul_right (by omega)).mpr r1, ?_⟩
    · rw [← Int.sub_mul, eq, Int.add_mul, Int.mul_assoc, Int.mul_assoc, Int.mul_comm q f]
    · rw [goes_scale h hf]; exact wh
  have e := fig_uniq sf F2
  unfold dueM
  rw [e, Int.add_mul, Int.mul_assoc, Int.mul_assoc, Int.mul_comm f]
def lift (f : Int) (d : Sd) : Sd := ⟨d.o * f, d.s * f, d.m⟩
theorem due_lift {d : Sd} (h : SideP d.o d.s d.m) {f : Int} (hf : 1 ≤ f) (v : Int) : dueM (lift f d).o (lift f d).s (lift f d).m (v * f) = dueM d.o d.s d.m v * f := due_scale h.md h.s0 hf
theorem lift_one (ss : List Sd) : ss.map (lift 1) = ss := by
  have : lift 1 = id := funext fun d => by unfold lift; rw [Int.mul_one, Int.mul_one]; rfl
  rw [this, List.map_id]
theorem lift_bd {d : Sd} {f : Int} (sp : SideP d.o d.s d.m) (b : -30 ≤ d.o ∧ d.o ≤ 29 ∧ d.s ≤ 12) (h1 : 1 ≤ f) (h2 : f ≤ 10 ^ 27) : SideP (d.o * f) (d.s * f) d.m := by
  obtain ⟨o0, o1, s0, s1, md⟩ := sp
  obtain ⟨b1, b2, b3⟩ := b
  have x1 : (-30) * f ≤ d.o * f := Int.mul_le_mul_of_nonneg_right b1 (by omega)
  have x2 : d.o * f ≤ 29 * f := Int.mul_le_mul_of_nonneg_right b2 (by omega)
  have x3 : d.s * f ≤ 12 * f := Int.mul_le_mul_of_nonneg_right b3 (by omega)
  have x4 : 1 * f ≤ d.s * f := Int.mul_le_mul_of_nonneg_right s0 (by omega)
  refine ⟨?_, ?_, ?_, ?_, md⟩ <;> omega
theorem mulF {i f : Int} (hi : -10 ^ 300 ≤ i ∧ i ≤ 10 ^ 300) (h1 : 1 ≤ f) (h2 : f ≤ 10 ^ 27) : CMulW i f := by
  refine mulW ?_ ?_
  · have : (10 ^ 300 : Int) < 2 ^ 1010 := by decide +kernel
    omega
  · have : (10 ^ 27 : Int) < 2 ^ 1010 := by decide +kernel
    omega
end HT
namespace HT
open PySem L2
section
variable {ss : List Sd} {f : Int} (hs : ∀ d ∈ ss, SideP d.o d.s d.m) (hf : 1 ≤ f)
include hs hf
theorem runW_lift : ∀ (w : List Sd) (x : Int), (∀ d ∈ w, d ∈ ss) → runW (w.map (lift f)) (x * f) = runW w x * f
  | [], _, _ => rfl
  | d :: w, x, h => by
    have e : runW ((d :: w).map (lift f)) (x * f) = runW (w.map (lift f)) (dueM (lift f d).o (lift f d).s (lift f d).m (x * f)) := rfl
    rw [e, due_lift (hs d (h d List.mem_cons_self)) hf]
    exact runW_lift w _ fun e he => h e (List.mem_cons_of_mem _ he)
theorem rc_lift {x y : Int} (h : Rc ss x y) : Rc (ss.map (lift f)) (x * f) (y * f) := by
  obtain ⟨w, hw, rfl⟩ := h
  exact ⟨w.map (lift f), fun d hd => by obtain ⟨e, he, rfl⟩ := List.mem_map.mp hd; exact List.mem_map.mpr ⟨e, hw e he, rfl⟩, runW_lift hs hf w x hw⟩
theorem rc_unlift {x z : Int} (h : Rc (ss.map (lift f)) (x * f) z) : ∃ y, z = y * f ∧ Rc ss x y := by
  obtain ⟨w, hw, rfl⟩ := h
  induction w generalizing x with
  | nil => exact ⟨x, rfl, Rc.refl x⟩
  | cons d w ih =>
    obtain ⟨e, he, rfl⟩ := List.mem_map.mp (hw d List.mem_cons_self)
    obtain ⟨y, e1, r⟩ := ih (x := dueM e.o e.s e.m x) fun d hd => hw d (List.mem_cons_of_mem _ hd)
    refine ⟨y, ?_, (Rc.one he x).trans r⟩
    rw [← e1, ← due_lift (hs e he) hf]
    rfl
omit hs in
theorem mulf_cancel {x y : Int} (h : x * f = y * f) : x = y := Int.eq_of_mul_eq_mul_right (by omega) h
theorem out_lift {x : Int} {A : List Int} (h : OutIs ss x A) : OutIs (ss.map (lift f)) (x * f) (A.map fun a => a * f) := by
  refine ⟨?_, fun y => ?_⟩
  · rw [List.pairwise_map]
    exact h.1.imp fun h => Int.mul_lt_mul_of_pos_right h (by omega)
  · constructor
    · intro hy
      obtain ⟨a, ha, rfl⟩ := List.mem_map.mp hy
      exact rc_lift hs hf ((h.2 a).mp ha)
    · intro hy
      obtain ⟨a, rfl, r⟩ := rc_unlift hs hf hy
      exact List.mem_map.mpr ⟨a, (h.2 a).mpr r, rfl⟩
theorem rec_lift {b : Int} (h : Rec ss b) : Rec (ss.map (lift f)) (b * f) := fun y hy => by
  obtain ⟨a, rfl, r⟩ := rc_unlift hs hf hy
  exact rc_lift hs hf (h a r)
theorem rec_unlift {b : Int} (h : Rec (ss.map (lift f)) (b * f)) : Rec ss b := fun y hy => by
  obtain ⟨a, e, r⟩ := rc_unlift hs hf (h _ (rc_lift hs hf hy))
  rw [mulf_cancel hf e]
  exact r
theorem two_lift {v b b' : Int} (T : Two ss v b b') : Two (ss.map (lift f)) (v * f) (b * f) (b' * f) := by
  refine ⟨rec_lift hs hf T.rb, rec_lift hs hf T.rb', rc_lift hs hf T.vb, rc_lift hs hf T.vb', fun p hp rp => ?_, fun n x y hx hy => ?_⟩
  · obtain ⟨a, rfl, r⟩ := rc_unlift hs hf hp
    exact (T.all a r (rec_unlift hs hf rp)).imp (rc_lift hs hf) (rc_lift hs hf)
  · obtain ⟨a, rfl, r⟩ := rc_unlift hs hf hx
    obtain ⟨c, rfl, r2⟩ := rc_unlift hs hf hy
    exact Int.mul_lt_mul_of_pos_right (T.apart (fun z => n (rc_lift hs hf z)) a c r r2) (by omega)
omit hs in
theorem map_mul_inj {A B : List Int} (h : (A.map fun a => a * f) = B.map fun a => a * f) : A = B := by
  induction A generalizing B with
  | nil => cases B with
    | nil => rfl
    | cons b B => cases h
  | cons a A ih => cases B with
    | nil => cases h
    | cons b B =>
      injection h with h1 h2
      rw [mulf_cancel hf h1, ih h2]
theorem rest_lift {v : Int} {Ls : List (List Int)} (h : RestIs ss v Ls) : RestIs (ss.map (lift f)) (v * f) (Ls.map fun A => A.map fun a => a * f) := by
  obtain ⟨b, b', A, B, T, oA, oB, rfl⟩ := h
  refine ⟨b * f, b' * f, _, _, two_lift hs hf T, out_lift hs hf oA, out_lift hs hf oB, ?_⟩
  by_cases e : A = B
  · rw [if_pos e, if_pos (by rw [e])]
    rfl
  · rw [if_neg e, if_neg fun z => e (map_mul_inj hf z)]
    rfl
end
theorem rest_uniq {ss : List Sd} {v : Int} {L M : List (List Int)} (h : RestIs ss v L) (g : RestIs ss v M) : L = M := by
  obtain ⟨b, b', A, B, T, oA, oB, rfl⟩ := h
  obtain ⟨c, c', C, D, U, oC, oD, rfl⟩ := g
  have one : ∀ {b b' A B c C}, Two ss v b b' → OutIs ss b A → OutIs ss b' B → Rc ss v c → Rec ss c → OutIs ss c C → C = A ∨ C = B := fun {b b' A B c C} T oA oB vc rc oC => by
    rcases T.all c vc rc with r | r
    · exact .inl (oC.uniq (oA.of_rc r (T.rb _ r)))
    · exact .inr (oC.uniq (oB.of_rc r (T.rb' _ r)))
  have cC := one T oA oB U.vb U.rb oC
  have cD := one T oA oB U.vb' U.rb' oD
  have cA := one U oC oD T.vb T.rb oA
  have cB := one U oC oD T.vb' T.rb' oB
  by_cases e : A = B
  · subst e
    have e1 : C = A := cC.elim id id
    have e2 : D = A := cD.elim id id
    rw [if_pos rfl, if_pos (e1.trans e2.symm), e1]
  · by_cases e2 : C = D
    · subst e2
      exact absurd ((cA.elim id id).trans (cB.elim id id).symm) e
    · rw [if_neg e, if_neg e2]
      rcases cC with x | x
      · rcases cD with y | y
        · exact absurd (x.trans y.symm) e2
        · rw [x, y]
      · rcases cD with y | y
        · exfalso
          subst x y
          have h1 := apart_set T oA oB e oA.self oB.self
          have h2 := apart_set U oC oD e2 oB.self oA.self
          omega
        · exact absurd (x.trans y.symm) e2
/-- where all resting values are in one set -/
theorem rest_single {ss : List Sd} {v : Int} {R S : List Int} {Ls : List (List Int)} (oR : OutIs ss v R) (hS : ∀ s ∈ S, OutIs ss s S) (hr : ∀ p ∈ R, ∃ s ∈ S, Rc ss p s) (h : RestIs ss v Ls) : Ls = [S] := by
  have key : ∀ b A, Rc ss v b → Rec ss b → OutIs ss b A → A = S := fun b A vb rb oA => by
    obtain ⟨s, sS, bs⟩ := hr b ((oR.2 b).mpr vb)
    exact oA.uniq ((hS s sS).of_rc (rb s bs) bs)
  obtain ⟨b, b', A, B, T, oA, oB, rfl⟩ := h
  rw [key b A T.vb T.rb oA, key b' B T.vb' T.rb' oB, if_pos rfl]
/-- a list that is closed, and each of which comes -/
theorem out_of {ss : List Sd} {v : Int} {R : List Int} (so : R.Pairwise (· < ·)) (v0 : v ∈ R) (cl : ∀ c ∈ R, ∀ d ∈ ss, dueM d.o d.s d.m c ∈ R) (rc : ∀ y ∈ R, Rc ss v y) : OutIs ss v R :=
  ⟨so, fun y => ⟨rc y, fun h => rc_closed v0 cl h⟩⟩
def pr2 : List Sd := [⟨0, 10, "up"⟩, ⟨3, 10, "down"⟩]
def dn2 : List Sd := [⟨0, 4, "down"⟩, ⟨0, 6, "down"⟩]
def cr2 : List Sd := [⟨0, 2, "half_up"⟩, ⟨1, 2, "half_up"⟩]
theorem rc_via {ss : List Sd} {x y : Int} (h : ∃ d ∈ ss, dueM d.o d.s d.m x = y) : Rc ss x y := by
  obtain ⟨d, hd, rfl⟩ := h
  exact Rc.one hd x
theorem pr2_out : OutIs pr2 7 [3, 7, 10] := by
  refine out_of (by decide) (by decide) (by decide +kernel) fun y hy => ?_
  simp only [List.mem_cons, List.not_mem_nil, or_false] at hy
  rcases hy with rfl | rfl | rfl
  · exact rc_via (by decide +kernel)
  · exact Rc.refl _
  · exact rc_via (by decide +kernel)
theorem dn2_out : OutIs dn2 7 [0, 4, 6, 7] := by
  have a74 : Rc dn2 7 4 := rc_via (by decide +kernel)
  refine out_of (by decide) (by decide) (by decide +kernel) fun y hy => ?_
  simp only [List.mem_cons, List.not_mem_nil, or_false] at hy
  rcases hy with rfl | rfl | rfl | rfl
  · exact a74.trans (rc_via (by decide +kernel))
  · exact a74
  · exact rc_via (by decide +kernel)
  · exact Rc.refl _
theorem pr2_rest {Ls : List (List Int)} (h : RestIs pr2 7 Ls) : Ls = [[3, 10]] := by
  have a73 : Rc pr2 7 3 := rc_via (by decide +kernel)
  have a710 : Rc pr2 7 10 := rc_via (by decide +kernel)
  have a310 : Rc pr2 3 10 := rc_via (by decide +kernel)
  have a103 : Rc pr2 10 3 := rc_via (by decide +kernel)
  refine rest_single (R := [3, 7, 10]) (out_of (by decide) (by decide) (by decide +kernel) fun y hy => ?_) (fun s hs => ?_) (fun p hp => ?_) h
  · simp only [List.mem_cons, List.not_mem_nil, or_false] at hy
    rcases hy with rfl | rfl | rfl
    · exact a73
    · exact Rc.refl _
    · exact a710
  · simp only [List.mem_cons, List.not_mem_nil, or_false] at hs
    rcases hs with rfl | rfl
    · refine out_of (by decide) (by decide) (by decide +kernel) fun y hy => ?_
      simp only [List.mem_cons, List.not_mem_nil, or_false] at hy
      rcases hy with rfl | rfl
      · exact Rc.refl _
      · exact a310
    · refine out_of (by decide) (by decide) (by decide +kernel) fun y hy => ?_
      simp only [List.mem_cons, List.not_mem_nil, or_false] at hy
      rcases hy with rfl | rfl
      · exact a103
      · exact Rc.refl _
  · simp only [List.mem_cons, List.not_mem_nil, or_false] at hp
    rcases hp with rfl | rfl | rfl
    · exact ⟨3, List.mem_cons_self, Rc.refl _⟩
    · exact ⟨3, List.mem_cons_self, a73⟩
    · exact ⟨3, List.mem_cons_self, a103⟩
theorem dn2_rest {Ls : List (List Int)} (h : RestIs dn2 7 Ls) : Ls = [[0]] := by
  have a74 : Rc dn2 7 4 := rc_via (by decide +kernel)
  have a76 : Rc dn2 7 6 := rc_via (by decide +kernel)
  have a40 : Rc dn2 4 0 := rc_via (by decide +kernel)
  have a64 : Rc dn2 6 4 := rc_via (by decide +kernel)
  refine rest_single (R := [0, 4, 6, 7]) (out_of (by decide) (by decide) (by decide +kernel) fun y hy => ?_) (fun s hs => ?_) (fun p hp => ?_) h
  · simp only [List.mem_cons, List.not_mem_nil, or_false] at hy
    rcases hy with rfl | rfl | rfl | rfl
    · exact a74.trans a40
    · exact a74
    · exact a76
    · exact Rc.refl _
  · rw [List.mem_singleton.mp hs]
    exact out_of (by decide) (by decide) (by decide +kernel) fun y hy => by rw [List.mem_singleton.mp hy]; exact Rc.refl _
  · refine ⟨0, List.mem_cons_self, ?_⟩
    simp only [List.mem_cons, List.not_mem_nil, or_false] at hp
    rcases hp with rfl | rfl | rfl | rfl
    · exact Rc.refl _
    · exact a40
    · exact a64.trans a40
    · exact a74.trans a40
theorem cr2_step (x : Int) : Rc cr2 x (x + 1) := by
  have go : ∀ o : Int, (x - o) % 2 = 1 → dueM o 2 "half_up" x = x + 1 := fun o h => by
    unfold dueM
    rw [fig_uniq (o := o) (s := 2) (m := "half_up") (v := x) (q := (x - o) / 2) (r := 1) (k := (x - o) / 2 + 1) (by decide) ⟨by omega, by decide, by decide, .inl ⟨by rw [go_hu]; decide, rfl⟩⟩]
    omega
  by_cases e : x % 2 = 1
  · exact rc_via ⟨⟨0, 2, "half_up"⟩, List.mem_cons_self, go 0 (by omega)⟩
  · exact rc_via ⟨⟨1, 2, "half_up"⟩, List.mem_cons_of_mem _ List.mem_cons_self, go 1 (by omega)⟩
theorem cr2_many (R : List Int) (h : OutIs cr2 0 R) : 1000 < R.length := by
  have all : ∀ n : Nat, Rc cr2 0 (n : Int) := fun n => by
    induction n with
    | zero => exact Rc.refl _
    | succ n ih => exact ih.trans (cr2_step _)
  have l := nodup_le (C := (List.range 1001).map fun n : Nat => (n : Int)) (R := R) (by
    rw [List.nodup_iff_pairwise_ne, List.pairwise_map]
    exact List.Pairwise.imp (fun h => by omega) List.pairwise_lt_range) fun y hy => by
      obtain ⟨n, _, rfl⟩ := List.mem_map.mp hy
      exact (h.2 _).mpr (all n)
  rw [List.length_map, List.length_range] at l
  omega
theorem up_side {o s : Int} (h : (0 ≤ o ∧ o ≤ 10) ∧ 1 ≤ s ∧ s ≤ 10) {m : Str} (hm : Mode m) : SideP o s m := ⟨by omega, by omega, h.2.1, by omega, hm⟩
end HT
namespace HT
open PySem L2
def sdD (d : Sd) : PyData := .tuple [.int d.o, .int d.s, .str d.m]
theorem modes_ok {m : Str} (h : Mode m) : PyData.strOk m = true := by
  rcases h with e | e | e | e | e <;> subst e <;> decide +kernel
theorem can_sides : ∀ {ss : List Sd}, (∀ d ∈ ss, Mode d.m) → PyData.canLayAll0 (ss.map sdD) = true ∧ PyData.depthAll (ss.map sdD) ≤ 2
  | [], _ => ⟨rfl, Nat.zero_le _⟩
  | u :: us, h => by
    obtain ⟨a, b⟩ := can_sides fun d hd => h d (List.mem_cons_of_mem _ hd)
    have c := modes_ok (h u List.mem_cons_self)
    refine ⟨?_, ?_⟩
    · simp [PyData.canLayAll0, sdD, PyData.canLay0, c, a]
    · show max (PyData.depth (sdD u)) (PyData.depthAll (us.map sdD)) ≤ 2
      refine Nat.max_le.mpr ⟨?_, b⟩
      show PyData.depth (.tuple [.int _, .int _, .str _]) ≤ 2
      simp [PyData.depth, PyData.depthAll]
theorem shaped_sides {ss : List Sd} (h : ∀ d ∈ ss, Mode d.m) : SeqAt.shaped (.list (ss.map sdD)) = true := by
  obtain ⟨a, b⟩ := can_sides h
  unfold SeqAt.shaped
  rw [Bool.and_eq_true]
  refine ⟨a, decide_eq_true ?_⟩
  show PyData.depthAll (ss.map sdD) + 1 ≤ 64
  omega
theorem sidesDp {K : PySem.W.Frag} {H : Hp} : ∀ {xs : List V} {ss : List Sd}, xs.length = ss.length → (∀ (i : Nat) (d : Sd), ss[i]? = some d → ∃ p : Addr, xs[i]? = some (V.ref p) ∧ H p = some (sideV d.o d.s d.m) ∧ SideP d.o d.s d.m) → DpAll K H xs (ss.map sdD)
  | [], [], _, _ => .nil
  | [], _ :: _, l, _ => nomatch l
  | _ :: _, [], l, _ => nomatch l
  | x :: xs, d :: ss, l, S => by
    obtain ⟨p, e, hp, _⟩ := S 0 d rfl
    cases e
    exact .cons (.tup (SqT.of hp) (.cons (.int _) (.cons (.int _) (.cons (.str _) .nil)))) (sidesDp (Nat.succ.inj l) fun i e h => S (i + 1) e h)
theorem SidesAt.dp {K : PySem.W.Frag} {H : Hp} {l : Addr} {xs : List V} {ss : List Sd} (S : SidesAt H l xs ss) : Dp K H (.ref l) (.list (ss.map sdD)) := .lst (SqL.of S.hl) (sidesDp S.len S.at_)
end HT
namespace HT
open PySem L2
theorem sidesAt2 {H : Hp} {l p p2 : Addr} {o s o2 s2 : Int} {m m2 : Str} (hl : H l = some (.lst [.ref p, .ref p2])) (h : H p = some (sideV o s m)) (S : SideP o s m) (h2 : H p2 = some (sideV o2 s2 m2)) (S2 : SideP o2 s2 m2) : SidesAt H l [.ref p, .ref p2] [⟨o, s, m⟩, ⟨o2, s2, m2⟩] :=
  ⟨hl, rfl, by show 1 ≤ 2; decide, by show 2 ≤ 4; decide, fun i d e => match i, e with
    | 0, e => by cases e; exact ⟨p, rfl, h, S⟩
    | 1, e => by cases e; exact ⟨p2, rfl, h2, S2⟩
    | i + 2, e => by cases e⟩
def encI (A : List Int) : PyData := .list (A.map PyData.int)
theorem ints_can (A : List Int) : PyData.canLayAll0 (A.map PyData.int) = true ∧ PyData.depthAll (A.map PyData.int) ≤ 1 := by
  induction A with
  | nil => exact ⟨rfl, Nat.zero_le _⟩
  | cons a A ih => exact ⟨by simp [PyData.canLayAll0, PyData.canLay0, ih.1], by show max (PyData.depth (.int a)) (PyData.depthAll (A.map PyData.int)) ≤ 1; exact Nat.max_le.mpr ⟨by simp [PyData.depth], ih.2⟩⟩
theorem shaped_LL (Ls : List (List Int)) : SeqAt.shaped (.list (Ls.map encI)) = true := by
  have key : ∀ Ls : List (List Int), PyData.canLayAll0 (Ls.map encI) = true ∧ PyData.depthAll (Ls.map encI) ≤ 2 := fun Ls => by
    induction Ls with
    | nil => exact ⟨rfl, Nat.zero_le _⟩
    | cons A Ls ih =>
      obtain ⟨a, c⟩ := ints_can A
      refine ⟨by simp [PyData.canLayAll0, PyData.canLay0, encI, a, ih.1], ?_⟩
      show max (PyData.depthAll (A.map PyData.int) + 1) (PyData.depthAll (Ls.map encI)) ≤ 2
      exact Nat.max_le.mpr ⟨by omega, ih.2⟩
  obtain ⟨a, b⟩ := key Ls
  unfold SeqAt.shaped
  rw [Bool.and_eq_true]
  refine ⟨a, decide_eq_true ?_⟩
  show PyData.depthAll (Ls.map encI) + 1 ≤ 64
  omega
theorem HoldsL.dp {K : PySem.W.Frag} {H : Hp} {p : Addr} {Ls : List (List Int)} (h : HoldsL H p Ls) : Dp K H (.ref p) (.list (Ls.map encI)) := by
  obtain ⟨qs, hp, lq, at_⟩ := h
  refine .lst (SqL.of hp) ?_
  clear hp
  induction qs generalizing Ls with
  | nil => cases Ls with
    | nil => exact .nil
    | cons A Ls => cases lq
  | cons q qs ih => cases Ls with
    | nil => cases lq
    | cons A Ls => exact .cons (dp_ints (at_ 0 A q rfl rfl)) (ih (Nat.succ.inj lq) fun i A' q' a b => at_ (i + 1) A' q' a b)
theorem NewL.holds {H H' : Hp} {p : Addr} {Ls : List (List Int)} (h : NewL H H' p Ls) : HoldsL H' p Ls := let ⟨_, qs, a, b, _, d⟩ := h; ⟨qs, a, b, d⟩
theorem NewL.oth {H H1 H2 : Hp} {p a c : Addr} {t : Nat} {Ls : List (List Int)} (h : NewL H H1 p Ls) (S : Src H a c t) (O : Oth a c H1 H2) : HoldsL H2 p Ls := by
  obtain ⟨n, qs, hp, lq, fr, at_⟩ := h
  refine ⟨qs, O _ _ hp (S.na n).1 (S.na n).2, lq, fun i A q x y => ?_⟩
  have m := S.na (fr q (List.mem_of_getElem? y))
  exact O _ _ (at_ i A q x y) m.1 m.2
theorem rest_ne {ss : List Sd} {v : Int} {Ls : List (List Int)} (h : RestIs ss v Ls) : Ls ≠ [] := by
  obtain ⟨_, _, A, B, _, _, _, rfl⟩ := h
  intro z
  split at z <;> cases z
/-- no value stands in two of the sets -/
theorem rest_nodup {ss : List Sd} {v : Int} {Ls : List (List Int)} (h : RestIs ss v Ls) : Ls.flatten.Nodup := by
  obtain ⟨b, b', A, B, T, oA, oB, rfl⟩ := h
  have nd : ∀ {C : List Int}, C.Pairwise (· < ·) → C.Nodup := fun h => h.imp fun h => by omega
  by_cases e : A = B
  · rw [if_pos e]
    show (A ++ []).Nodup
    rw [List.append_nil]
    exact nd oA.1
  · rw [if_neg e]
    show (A ++ (B ++ [])).Nodup
    rw [List.append_nil, List.nodup_append]
    exact ⟨nd oA.1, nd oB.1, fun a ha c hc z => by have := apart_set T oA oB e ha hc; omega⟩
theorem rest_few {ss : List Sd} {v : Int} {Ls : List (List Int)} (h : RestIs ss v Ls) : Ls.length ≤ 2 := by
  obtain ⟨_, _, A, B, _, _, _, rfl⟩ := h
  split
  · show 1 ≤ 2; decide
  · show 2 ≤ 2; decide
theorem sorted_same {F ns ns' : List Int} (nd : F.Nodup) (s1 : ns.Pairwise (· < ·)) (m1 : ∀ k, k ∈ ns ↔ decide (k ∈ F) = true) (p2 : ns'.Perm F) (s2 : ns'.Pairwise (· ≤ ·)) : ns = ns' := by
  have n2 : ns'.Nodup := p2.nodup_iff.mpr nd
  refine sorted_one s1 ((s2.and n2).imp fun h => by omega) fun y => ?_
  rw [m1, decide_eq_true_eq, p2.mem_iff]
theorem cr2_none {Ls : List (List Int)} (h : RestIs cr2 0 Ls) : False := by
  obtain ⟨b, _, A, _, _, oA, _, _⟩ := h
  have all : ∀ n : Nat, Rc cr2 b (b + (n : Int)) := fun n => by
    induction n with
    | zero => rw [show b + ((0 : Nat) : Int) = b by omega]; exact Rc.refl _
    | succ n ih =>
      rw [show b + ((n + 1 : Nat) : Int) = b + (n : Int) + 1 by omega]
      exact ih.trans (cr2_step _)
  have l := nodup_le (C := (List.range (A.length + 1)).map fun n : Nat => b + (n : Int)) (R := A) (by
    rw [List.nodup_iff_pairwise_ne, List.pairwise_map]
    exact List.Pairwise.imp (fun h => by omega) List.pairwise_lt_range) fun y hy => by
      obtain ⟨n, _, rfl⟩ := List.mem_map.mp hy
      exact (oA.2 _).mpr (all n)
  rw [List.length_map, List.length_range] at l
  omega
def spRests0 (C : Nat → Addr) : Sp := fun vs H Q _ => spRests C vs H Q fun _ _ _ => False
theorem pick2 {x : V} {g : Int} (h : x ∈ [V.int 1, .int (1 + g)]) (g0 : 0 ≤ g) (g1 : g < 10 ^ 27) : ∃ f, x = .int f ∧ 1 ≤ f ∧ f ≤ 10 ^ 27 := by
  simp only [List.mem_cons, List.not_mem_nil, or_false] at h
  rcases h with h | h
  · exact ⟨1, h, by decide, by decide⟩
  · exact ⟨_, h, by omega, by omega⟩
theorem most_of {x : V} (h : x ∈ [V.int 3, .int 6, .int 12]) : ∃ n : Nat, x = .int (n : Int) ∧ 1 ≤ n ∧ n ≤ 12 := by
  simp only [List.mem_cons, List.not_mem_nil, or_false] at h
  rcases h with h | h | h
  · exact ⟨3, h, by decide, by decide⟩
  · exact ⟨6, h, by decide, by decide⟩
  · exact ⟨12, h, by decide, by decide⟩
theorem many_of {x : V} (h : x ∈ [V.int 2, .int 3, .int 4]) : ∃ n : Nat, x = .int (n : Int) ∧ 1 ≤ n ∧ n ≤ 4 := by
  simp only [List.mem_cons, List.not_mem_nil, or_false] at h
  rcases h with h | h | h
  · exact ⟨2, h, by decide, by decide⟩
  · exact ⟨3, h, by decide, by decide⟩
  · exact ⟨4, h, by decide, by decide⟩
end HT
namespace HT
open PySem L2
def spLaw (K : PySem.W.Frag) : Sp := fun vs H Q _ => ∃ (l : Addr) (ns : List Int), vs = [.ref l] ∧ SqL K H l (ns.map V.int) ∧ ns.length ≤ 63 ∧ ∀ H', Q (.bl true) H'
section
variable {P : Program} {w : World} {K : PySem.W.Frag} {mg : Str → Option Value} {base : Heap} {Bx f0 f1 f2 f3 f4 f5 f6 f7 f8 : Addr} {d0 d1 d2 d3 d4 d5 d6 d7 d8 : FuncData} {C : Nat → Addr}
theorem ok_law {f : Addr} {fd : FuncData} (F : Fun K "law" "law" s_law f fd) (B : Blt mg) (A' : AmG mg) (G : RsG mg) (R : Er K mg C Bx) (em2 : PySem.W.exmOne K (.ref (C 2)) (.ref (C 2)) = some true) (So : Cal P w K mg base "_law_source" 1 ["_law_script"] (spSource K) f0 d0) (D : Cal P w K mg base "_law_draw" 1 ["_law_source_here", "_law_limit"] spDraw f1 d1)
    (Pi : Cal P w K mg base "_law_pick" 2 ["_law_source_here", "_law_values"] spPick f2 d2) (Gr : Cal P w K mg base "_law_great" 2 ["_law_source_here", "_law_digits"] spGreat f3 d3) (Se : Cal P w K mg base "_law_set" 4 ["_law_source_here", "_law_most", "_law_many"] spSet f4 d4)
    (Al : Cal P w K mg base "_law_all" 4 ["_law_sides", "_law_value"] spAll f5 d5) (Du : Cal P w K mg base "_law_due" 5 ["_law_sides", "_law_value"] spDueR f6 d6) (Re : Cal P w K mg base "rests" 8 ["sides", "value"] (spRests0 C) f7 d7) (Rx : CalX P w K mg base "rests" 8 ["sides", "value"] (spRests C) f7 d7) : FnOk P w K mg base CX0 9 f fd ["_law_script"] (spLaw K) := by
  refine F.ok sc_law (fun vs H Q E h => ?_) (fun cdv A outer s H vs Q E hr h => ?_)
  · obtain ⟨l, ns, rfl, _⟩ := h
    rfl
  · obtain ⟨l, ns, rfl, hL, hn, q⟩ := h
    have nd := sc_law.nd
    refine ⟨_, (pss_cons (ps_set (i := 1) nd rfl (Or.inl rfl) (pcl So hr (by decide) (by rfl) (pa_cons (pv 0) pa_nil)))
      (pss_cons (ps_for PassesOwn.never rfl (pi_range1 (by rfl) B.range (pa_cons pe_int pa_nil)) (pg_name (i := 2) nd rfl (Or.inl rfl)) (pss_cons (ps_set (i := 3) nd rfl (Or.inl rfl) (pcl Se hr (by decide) (by rfl) (pa_cons (pv 1) (pa_cons (pcl Pi hr (by decide) (by rfl) (pa_cons (pv 1) (pa_cons (pe_lst (pa_cons pe_int (pa_cons pe_int (pa_cons pe_int pa_nil)))) pa_nil))) (pa_cons (pcl Pi hr (by decide) (by rfl) (pa_cons (pv 1) (pa_cons (pe_lst (pa_cons pe_int (pa_cons pe_int (pa_cons pe_int pa_nil)))) pa_nil))) pa_nil)))))
      (pss_cons (ps_set (i := 4) nd rfl (Or.inl rfl) (pe_op op_sub (pcl D hr (by decide) (by rfl) (pa_cons (pv 1) (pa_cons pe_int pa_nil))) pe_int))
      (pss_one (ps_if (pt_cmpR op_lt (pe_callB call_len_seq (by rfl) B.len PySem.boot_len (pa_cons (pcl Al hr (by decide) (by rfl) (pa_cons (pv 3) (pa_cons (pv 4) pa_nil))) pa_nil)) pe_int (nomark _)) (pss_cons (ps_set (i := 5) nd rfl (Or.inl rfl) (pcl Du hr (by decide) (by rfl) (pa_cons (pv 3) (pa_cons (pv 4) pa_nil))))
      (pss_cons (ps_set (i := 6) nd rfl (Or.inr rfl) (pcl Pi hr (by decide) (by rfl) (pa_cons (pv 1) (pa_cons (pe_lst (pa_cons pe_int (pa_cons (pe_op op_add pe_int (pcl Gr hr (by decide) (by rfl) (pa_cons (pv 1) (pa_cons pe_int pa_nil)))) pa_nil))) pa_nil))))
      (pss_cons (ps_setLc (i := 8) (own := [("_law_one", 7)]) (g := gName 7) (tt := tYes) rfl nd rfl rfl (sw_true rfl rfl rfl (by decide +kernel)) (pi_list (pv 3)) (blkOk_by (N := ["_law_script", "_law_source_here", "_law_turn", "_law_sides", "_law_value", "_law_due_here", "_law_factor", "_law_one", "_law_lifted", "_law_kept", "_law_found", "_law_group", "_law_caught", "e", "_law_pair"]) (sc := defScope s_law) (by decide +kernel)) (fun _ _ _ _ _ => pg_name (i := 7) nd rfl (Or.inl rfl)) (fun _ _ _ _ _ => pts_nil) (fun _ _ _ _ _ => (pe_tup (pa_cons (pe_op op_mulW (pe_ix (r := rIxT K) (by exact ix_tup) (pv 7) pe_int (fun _ _ => rfl)) (pv 6)) (pa_cons (pe_op op_mulW (pe_ix (r := rIxT K) (by exact ix_tup) (pv 7) pe_int (fun _ _ => rfl)) (pv 6)) (pa_cons (pe_ix (r := rIxT K) (by exact ix_tup) (pv 7) pe_int (fun _ _ => rfl)) pa_nil))))))
      (pss_cons (ps_set (i := 9) nd rfl (Or.inl rfl) (pe_callTy call_list_of (by rfl) A'.list (by decide +kernel) (pa_cons (pv 8) pa_nil)))
      (pss_cons (ps_set (i := 10) nd rfl (Or.inl rfl) (pcl Re hr (by decide) (by rfl) (pa_cons (pv 8) (pa_cons (pe_op op_mulW (pv 4) (pv 6)) pa_nil))))
      (pss_cons (ps_if (pt_cmpR (op_neD hr.units) (pv 8) (pv 9) (nomark _)) (pss_one (ps_ret pe_bl)) pss_nil)
      (pss_cons (ps_if (PW.pt (pw_or (pt_cmpR (op_neD hr.units) (pv 10) (pe_lc (own := [("_law_group", 11)]) (g := gName 11) (tt := tYes) rfl nd (pi_list (pv 5)) (blkOk_by (N := ["_law_script", "_law_source_here", "_law_turn", "_law_sides", "_law_value", "_law_due_here", "_law_factor", "_law_one", "_law_lifted", "_law_kept", "_law_found", "_law_group", "_law_caught", "e", "_law_pair"]) (sc := defScope s_law) (by decide +kernel)) (fun _ _ _ _ _ => pg_name (i := 11) nd rfl (Or.inl rfl)) (fun _ _ _ _ _ => pts_nil) (fun _ _ _ _ _ => (pe_lc (own := [("_law_one", 7)]) (g := gName 7) (tt := tYes) rfl nd (show PI _ _ _ (iList K _) from pi_list (pv 11)) (blkOk_by (N := ["_law_script", "_law_source_here", "_law_turn", "_law_sides", "_law_value", "_law_due_here", "_law_factor", "_law_one", "_law_lifted", "_law_kept", "_law_found", "_law_group", "_law_caught", "e", "_law_pair"]) (sc := relS _ (defScope s_law)) (by decide +kernel)) (fun _ _ _ _ _ => pg_name (i := 7) nd rfl (Or.inl rfl)) (fun _ _ _ _ _ => pts_nil) (fun _ _ _ _ _ => (pe_op op_mulW (pv 7) (pv 6)))))) (nomark _)) (pw_or1 (pt_cmpR (op_eqD hr.units) (pv 10) (pe_lst pa_nil) (nomark _))))) (pss_one (ps_ret pe_bl)) pss_nil)
      (pss_cons (ps_set (i := 9) nd rfl (Or.inl rfl) (pe_lst pa_nil))
      (pss_cons (ps_for PassesOwn.never rfl (pi_list (pv 10)) (pg_name (i := 11) nd rfl (Or.inl rfl)) (pss_one (ps_set (i := 9) nd rfl (Or.inl rfl) (pe_op op_cat (pv 9) (pv 11)))))
      (pss_cons (ps_if (pt_cmpR (op_neD hr.units) (pe_callB (cr_sortedSetA rfl) (by rfl) G.sorted (by decide +kernel) (pa_cons (pe_callTy (cr_setI rfl) (by rfl) G.set (by decide +kernel) (pa_cons (pv 9) pa_nil)) pa_nil)) (pe_callB cr_sortedI (by rfl) G.sorted (by decide +kernel) (pa_cons (pv 9) pa_nil)) (nomark _)) (pss_one (ps_ret pe_bl)) pss_nil)
      (pss_cons (ps_expr (pe_bm PySem.F.plainAttrs_list PySem.F.slot_list_append PySem.F.type_list_append mt_append (pe_ix ix_list (pv 10) pe_int (fun _ _ => rfl)) (pa_cons pe_non pa_nil)))
      (pss_cons (ps_expr (pe_bm PySem.F.plainAttrs_list PySem.F.slot_list_append PySem.F.type_list_append mt_append (pv 10) (pa_cons (pe_lst pa_nil) pa_nil)))
      (pss_one (ps_if (pt_cmpR (op_neD hr.units) (pcl Re hr (by decide) (by rfl) (pa_cons (pv 8) (pa_cons (pe_op op_mulW (pv 4) (pv 6)) pa_nil))) (pe_lc (own := [("_law_group", 11)]) (g := gName 11) (tt := tYes) rfl nd (pi_list (pv 5)) (blkOk_by (N := ["_law_script", "_law_source_here", "_law_turn", "_law_sides", "_law_value", "_law_due_here", "_law_factor", "_law_one", "_law_lifted", "_law_kept", "_law_found", "_law_group", "_law_caught", "e", "_law_pair"]) (sc := defScope s_law) (by decide +kernel)) (fun _ _ _ _ _ => pg_name (i := 11) nd rfl (Or.inl rfl)) (fun _ _ _ _ _ => pts_nil) (fun _ _ _ _ _ => (pe_lc (own := [("_law_one", 7)]) (g := gName 7) (tt := tYes) rfl nd (show PI _ _ _ (iList K _) from pi_list (pv 11)) (blkOk_by (N := ["_law_script", "_law_source_here", "_law_turn", "_law_sides", "_law_value", "_law_due_here", "_law_factor", "_law_one", "_law_lifted", "_law_kept", "_law_found", "_law_group", "_law_caught", "e", "_law_pair"]) (sc := relS _ (defScope s_law)) (by decide +kernel)) (fun _ _ _ _ _ => pg_name (i := 7) nd rfl (Or.inl rfl)) (fun _ _ _ _ _ => pts_nil) (fun _ _ _ _ _ => (pe_op op_mulW (pv 7) (pv 6)))))) (nomark _)) (pss_one (ps_ret pe_bl)) pss_nil)))))))))))))) pss_nil)))))
      (pss_cons (ps_set (i := 12) nd rfl (Or.inl rfl) pe_non)
      (pss_cons (ps_try_keep (i := 13) rfl rfl rfl nd rfl rfl ⟨rfl, by decide, .inl R.g2⟩ takes0 (fun W pn xe tk _ => pss_one (ps_expr (pcx Rx hr (by decide) (by rfl) tk (pa_cons (pe_lst (pa_cons (pe_tup (pa_cons pe_int (pa_cons pe_int (pa_cons pe_str pa_nil)))) (pa_cons (pe_tup (pa_cons pe_int (pa_cons pe_int (pa_cons pe_str pa_nil)))) pa_nil))) (pa_cons pe_int pa_nil))))) (fun a rc kl dd pn hz hf => pss_one (ps_set (i := 12) nd rfl (Or.inl rfl) (pv 13))))
      (pss_cons (ps_set (i := 14) nd rfl (Or.inl rfl) (pe_lst (pa_cons (pe_tup (pa_cons pe_int (pa_cons pe_int (pa_cons pe_str pa_nil)))) (pa_cons (pe_tup (pa_cons pe_int (pa_cons pe_int (pa_cons pe_str pa_nil)))) pa_nil))))
      (pss_one (ps_ret (pe_and (pe_cmpR op_notN (pv 12) pe_non (nomark _)) (pe_and (pe_cmpR (op_eqD hr.units) (pcl Re hr (by decide) (by rfl) (pa_cons (pv 14) (pa_cons pe_int pa_nil))) (pe_lst (pa_cons (pe_lst (pa_cons pe_int (pa_cons pe_int pa_nil))) pa_nil)) (nomark _)) (pe_one (pe_cmpR (op_eqD hr.units) (pcl Re hr (by decide) (by rfl) (pa_cons (pe_lst (pa_cons (pe_tup (pa_cons pe_int (pa_cons pe_int (pa_cons pe_str pa_nil)))) (pa_cons (pe_tup (pa_cons pe_int (pa_cons pe_int (pa_cons pe_str pa_nil)))) pa_nil))) (pa_cons pe_int pa_nil))) (pe_lst (pa_cons (pe_lst (pa_cons pe_int pa_nil)) pa_nil)) (nomark _)))))))))))), ?_⟩
    walk_at "rd"
    refine ⟨l, ns, rfl, hL, hn, fun a c H0 sm na nc S0 => ?_⟩
    walk_at "rd"
    refine ⟨by decide, by decide, ?_⟩
    refine for_range (n := 15) (fun i σ H' => ∃ (x2 x3 x4 x5 x6 x8 x9 x10 x11 : Option V) (t : Nat), σ = [some (.ref l), some (.ref a), x2, x3, x4, x5, x6, none, x8, x9, x10, x11, none, none, none] ∧ t ≤ 1000 * i ∧ Src H' a c t) ⟨none, none, none, none, none, none, none, none, none, 0, rfl, by omega, S0⟩ ?_ ?_
    · rintro i σ H' hi ⟨x2, x3, x4, x5, x6, x8, x9, x10, x11, t, rfl, ht, S'⟩
      walk_at "rd"
      refine ⟨(by show 3 ≤ sizeLine; decide), fun L1 nL1 => ?_⟩
      obtain ⟨la1, lc1⟩ := S'.na nL1
      refine ⟨a, c, t, L1, _, rfl, S'.new nL1, by omega, upd_same, la1, lc1, by decide, by decide, fun x H1 hx S1 O1 => ?_⟩
      obtain ⟨n, rfl, n1, n12⟩ := most_of hx
      walk_at "rd"
      refine ⟨(by show 3 ≤ sizeLine; decide), fun L2 nL2 => ?_⟩
      obtain ⟨la2, lc2⟩ := S1.na nL2
      refine ⟨a, c, t + 1, L2, _, rfl, S1.new nL2, by omega, upd_same, la2, lc2, by decide, by decide, fun x H2 hx S2 O2 => ?_⟩
      obtain ⟨m, rfl, m1, m4⟩ := many_of hx
      refine ⟨a, c, t + 1 + 1, n, m, rfl, S2, n1, by omega, m1, m4, by omega, fun l0 xs0 ss H3 t3 SS3 sml0 la0 lc0 ht3 S3 O3 => ?_⟩
      have small : ∀ d ∈ ss, -30 ≤ d.o ∧ d.o ≤ 29 ∧ d.s ≤ 12 := fun d hd => by
        obtain ⟨b1, b2, b3⟩ := sml0 d hd
        exact ⟨b1, b2, by omega⟩
      clear sml0
      walk_at "rd"
      refine ⟨a, c, t3, 300, rfl, S3, by omega, by decide, by decide, fun k4 H4 k40 k41 S4 O4 => ?_⟩
      have SS4 := SS3.oth S3 la0 lc0 O4
      walk_at "rd"
      have vb : -150 ≤ k4 - 150 ∧ k4 - 150 < 150 := by omega
      refine ⟨l0, xs0, ss, _, rfl, SS4, by omega, fun R1 p5 H5 why l110 _ s5 np5 h5 => ?_⟩
      have SS5 := SS4.same s5
      have S5 := S4.of_same s5
      walk_at "rd"
      refine ⟨p5, _, rfl, .inl (SqL.of h5), ?_⟩
      rw [List.length_map]
      walk_at "rd"
      refine ite2 (fun z => ?_) (fun z => ?_)
      · have few : R1.length < 100 := by have := of_decide_eq_true z; omega
        have oR : OutIs ss (k4 - 150) R1 := by
          rcases why with o | ⟨big, _, _⟩
          · exact o
          · omega
        clear why l110 h5
        walk_at "rd"
        refine ⟨l0, xs0, ss, _, R1, rfl, SS5, by omega, oR, few, fun Ls p6 H6 RI LsB s6 nw6 => ?_⟩
        have SS6 := SS5.same s6
        have S6 := S5.of_same s6
        walk_at "rd"
        refine ⟨a, c, t3 + 1, 27, rfl, S6, by decide, by omega, fun g H7 g0 g1 S7 O7 => ?_⟩
        have g2 : g < 10 ^ 27 := g1
        walk_at "rd"
        refine ⟨(by show 2 ≤ sizeLine; decide), fun L3 nL3 => ?_⟩
        obtain ⟨la3, lc3⟩ := S7.na nL3
        refine ⟨a, c, _, L3, _, rfl, S7.new nL3, by omega, upd_same, la3, lc3, (by show 0 < 2; decide), (by show 2 < 2 ^ 60; decide), fun x H8 hx S8 O8 => ?_⟩
        obtain ⟨f, rfl, f1, f2⟩ := pick2 hx g0 g2
        clear hx
        have O68 : Oth a c H6 H8 := (O7.new nL3).trans O8
        have hd8 : HoldsL H8 p6 Ls := nw6.oth S5 O68
        have SS8 := SS6.oth S6 la0 lc0 O68
        clear nw6 O68 O8 O7
        have vf : -2 ^ 500 < (k4 - 150) * f ∧ (k4 - 150) * f < 2 ^ 500 := by
          have e1 : (k4 - 150) * f ≤ 150 * f := Int.mul_le_mul_of_nonneg_right (by omega) (by omega)
          have e2 : -150 * f ≤ (k4 - 150) * f := Int.mul_le_mul_of_nonneg_right (by omega) (by omega)
          omega
        have Lf := rest_few RI
        have RI' := rest_lift SS8.side f1 RI
        have oR' := out_lift SS8.side f1 oR
        walk_at "rd"
        have l4 := SS8.l4
        refine ⟨⟨_, SqL.of SS8.hl⟩, fun L nL => ?_⟩
        refine lc_list (K := K) (a := l0) (xs := xs0) (fun i H3 => ∃ ps : List Addr, ps.length = i ∧ H3 L = some (.lst (ps.map V.ref)) ∧ Same H8 H3 ∧ (∀ (j : Nat) (d : Sd) (p : Addr), ss[j]? = some d → ps[j]? = some p → H3 p = some (sideV (d.o * f) (d.s * f) d.m)))
          ⟨[], rfl, upd_same, fun b u z => (upd_ne (ne_of_none z nL)).trans z, fun j u p _ z => by cases z⟩ (fun _ _ _ ⟨_, _, _, sm, _⟩ => SqL.of (sm _ _ SS8.hl)) ?_ ?_
        · rintro i y H3 hy ⟨ps, hn, hD, sm, hps⟩
          obtain ⟨d, p, ed, rfl, hp, sp⟩ := SS8.item hy
          have il : i < ss.length := (List.getElem?_eq_some_iff.mp ed).1
          obtain ⟨b1, b2, b3⟩ := small d (List.mem_of_getElem? ed)
          have s0 := sp.s0
          have hp3 := sm _ _ hp
          refine ⟨rfl, ?_⟩
          walk_at "rd"
          refine ⟨p, _, _, _, rfl, rfl, SqT.of hp3, rfl, ?_⟩
          walk_at "rd"
          refine ⟨mulF (by omega) f1 f2, ?_⟩
          walk_at "rd"
          refine ⟨p, _, _, _, rfl, rfl, SqT.of hp3, rfl, ?_⟩
          walk_at "rd"
          refine ⟨mulF (by omega) f1 f2, ?_⟩
          walk_at "rd"
          refine ⟨p, _, _, _, rfl, rfl, SqT.of hp3, rfl, ?_⟩
          walk_at "rd"
          refine ⟨(by show 3 ≤ sizeLine; decide), fun z nz => ?_⟩
          have ncD : L ≠ z := ne_of_none hD nz
          refine ⟨_, (upd_ne ncD).trans hD, ?_, ps ++ [z], ?_, ?_, ?_, ?_⟩
          · rw [List.length_map, hn]; exact Nat.lt_of_lt_of_le (by omega : i < 8) (by decide)
          · rw [List.length_append, hn]; rfl
          · rw [List.map_append]; exact upd_same
          · intro b u y
            have y3 := sm _ _ y
            exact (upd_ne (ne_of_none y nL)).trans ((upd_ne (ne_of_none y3 nz)).trans y3)
          · intro j e p2 he hp2
            rcases Nat.lt_or_ge j ps.length with y | y
            · rw [List.getElem?_append_left y] at hp2
              have g := hps j e p2 he hp2
              exact (upd_ne (ne_of g hD (by intro y; cases y))).trans ((upd_ne (ne_of_none g nz)).trans g)
            · rw [List.getElem?_append_right y] at hp2
              have e0 : j - ps.length = 0 := by
                have := (List.getElem?_eq_some_iff.mp hp2).1
                simp at this
                omega
              rw [e0] at hp2
              cases hp2
              rw [show j = i by omega, ed] at he
              cases he
              exact (upd_ne (Ne.symm ncD)).trans upd_same
        rintro H9 ⟨ps, hn9, hD, s9, hps⟩
        have SL : SidesAt H9 L (ps.map V.ref) (ss.map (lift f)) := by
          refine ⟨hD, by rw [List.length_map, List.length_map, hn9, SS8.len], by rw [List.length_map]; exact SS8.l1, by rw [List.length_map]; exact SS8.l4, fun i d h => ?_⟩
          rw [List.getElem?_map] at h
          cases e : ss[i]? with
          | none => rw [e] at h; cases h
          | some d0 =>
            rw [e] at h
            cases h
            have il : i < ps.length := by rw [hn9, SS8.len]; exact (List.getElem?_eq_some_iff.mp e).1
            refine ⟨ps[i], by rw [List.getElem?_map, List.getElem?_eq_getElem il]; rfl, hps i d0 ps[i] e (List.getElem?_eq_getElem il), ?_⟩
            exact lift_bd (SS8.side d0 (List.mem_of_getElem? e)) (small d0 (List.mem_of_getElem? e)) f1 f2
        generalize eys : ps.map V.ref = ys at SL
        generalize ets : ss.map (lift f) = ts at SL RI' oR'
        clear hD hps hn9 eys ets
        have S9 := S8.of_same s9
        have hd9 := hd8.same s9
        have md : ∀ d ∈ ts, Mode d.m := fun d hd => (SL.side d hd).md
        walk_at "rd"
        refine ⟨L, _, rfl, .inl (SqL.of SL.hl), fun Kp nK => ?_⟩
        generalize e_K : upd H9 Kp _ = H10
        have gK : H10 Kp = some (.lst ys) := by rw [← e_K]; exact upd_same
        have w10 : Same H9 H10 := by rw [← e_K]; exact fun b u z => (upd_ne (ne_of_none z nK)).trans z
        clear e_K
        have SL10 := SL.same w10
        have SK : SidesAt H10 Kp ys ts := ⟨gK, SL.len, SL.l1, SL.l4, fun i d e => let ⟨p, a, b, c⟩ := SL.at_ i d e; ⟨p, a, w10 _ _ b, c⟩⟩
        have S10 := S9.of_same w10
        have hd10 := hd9.same w10
        clear hd9 hd8 SL
        walk_at "rd"
        refine ⟨mulF (by omega) f1 f2, ?_⟩
        walk_at "rd"
        have vf2 : -2 ^ 580 < (k4 - 150) * f ∧ (k4 - 150) * f < 2 ^ 580 := by omega
        refine ⟨L, ys, ts, _, rfl, SL10, vf2, fun Ls2 p11 H11 ri s11 nw => ?_, fun H11 inf s11 => by have := inf _ oR'; rw [List.length_map] at this; omega⟩
        obtain rfl := rest_uniq ri RI'
        obtain ⟨np11, qs, hq, lq, fq, atq⟩ := nw
        walk_at "rd"
        refine ⟨_, _, (SL10.same s11).dp, (SK.same s11).dp, shaped_sides md, shaped_sides md, ?_⟩
        walk_at "rd"
        refine ite2 (fun z => (not_t z (SeqAt.eqv_refl _ (SeqAt.canLay_of_shaped (shaped_sides md)))).elim) (fun _ => ?_)
        walk_at "rd"
        have hd11 := hd10.same s11
        have hq11 : HoldsL H11 p11 (Ls.map fun A => A.map fun a => a * f) := ⟨qs, hq, lq, atq⟩
        obtain ⟨dq, dh, dl, dat⟩ := hd11
        refine ⟨⟨_, SqL.of dh⟩, fun D12 nD12 => ?_⟩
        refine lc_list (K := K) (a := p6) (xs := dq.map V.ref) (fun i H3 => ∃ es : List Addr, H3 D12 = some (.lst (es.map V.ref)) ∧ es.length = i ∧ i ≤ Ls.length ∧ Same H11 H3 ∧ ∀ (j : Nat) (A : List Int) (q : Addr), j < i → Ls[j]? = some A → es[j]? = some q → H3 q = some (.lst ((A.map fun a => a * f).map V.int)) ∧ q ≠ D12)
          ⟨[], upd_same, rfl, Nat.zero_le _, fun b u z => (upd_ne (ne_of_none z nD12)).trans z, fun j A q hj => absurd hj (Nat.not_lt_zero _)⟩ (fun _ _ _ ⟨_, _, _, _, s3, _⟩ => SqL.of (s3 _ _ dh)) ?_ ?_
        · rintro i x H3 hx ⟨es, hD, le, li, s3, at3⟩
          obtain ⟨g, A, eA, rfl, hg⟩ : ∃ (g : Addr) (A : List Int), Ls[i]? = some A ∧ x = V.ref g ∧ H11 g = some (.lst (A.map V.int)) := by
            rw [List.getElem?_map] at hx
            cases e : dq[i]? with
            | none => rw [e] at hx; cases hx
            | some g =>
              rw [e] at hx
              cases hx
              have il : i < Ls.length := by rw [← dl]; exact (List.getElem?_eq_some_iff.mp e).1
              exact ⟨g, Ls[i], List.getElem?_eq_getElem il, rfl, dat i _ g (List.getElem?_eq_getElem il) e⟩
          have il : i < Ls.length := (List.getElem?_eq_some_iff.mp eA).1
          have AB := LsB A (List.mem_of_getElem? eA)
          refine ⟨rfl, ?_⟩
          walk_at "rd"
          refine ⟨⟨_, SqL.of (s3 _ _ hg)⟩, fun D10 nD10 => ?_⟩
          refine lc_list (K := K) (a := g) (xs := A.map V.int) (fun k H4 => H4 D10 = some (.lst (((A.take k).map fun a => a * f).map V.int)) ∧ Same H3 H4) ⟨upd_same, fun b u z => (upd_ne (ne_of_none z nD10)).trans z⟩ (fun _ _ _ ⟨_, s4⟩ => SqL.of ((s3.trans s4) _ _ hg)) ?_ ?_
          · rintro k y H4 hy ⟨hD10, s4⟩
            obtain ⟨z, ez, rfl⟩ : ∃ z, A[k]? = some z ∧ y = V.int z := by
              rw [List.getElem?_map] at hy
              cases e : A[k]? with
              | none => rw [e] at hy; cases hy
              | some z => rw [e] at hy; cases hy; exact ⟨z, rfl, rfl⟩
            have zb := AB.2.2 z (List.mem_of_getElem? ez)
            refine ⟨rfl, ?_⟩
            walk_at "rd"
            refine ⟨mulF (by omega) f1 f2, ?_⟩
            refine ⟨_, hD10, ?_, ?_, fun b u y => (upd_ne (ne_of_none y nD10)).trans (s4 _ _ y)⟩
            · rw [List.length_map, List.length_map]
              exact Nat.lt_of_le_of_lt (Nat.le_trans (List.length_take_le' _ _) (Nat.le_of_lt AB.1)) (by decide)
            · rw [List.take_succ, ez, List.map_append, List.map_append]
              exact upd_same
          · rintro H4 ⟨hD10, s4⟩
            rw [List.length_map, List.take_length] at hD10
            have hD4 := s4 _ _ hD
            have n10 : D10 ≠ D12 := fun e => by rw [e, hD] at nD10; cases nD10
            refine ⟨_, hD4, ?_, es ++ [D10], ?_, ?_, il, fun b u y => (upd_ne (ne_of_none y nD12)).trans (s4 _ _ (s3 _ _ y)), fun j B q hj eB eq => ?_⟩
            · rw [List.length_map, le]; exact Nat.lt_of_lt_of_le (by omega : i < 8) (by decide)
            · rw [List.map_append]; exact upd_same
            · rw [List.length_append, le]; rfl
            · by_cases y : j < i
              · rw [List.getElem?_append_left (by omega)] at eq
                obtain ⟨a1, a2⟩ := at3 j B q y eB eq
                exact ⟨(upd_ne a2).trans (s4 _ _ a1), a2⟩
              · obtain rfl : j = i := by omega
                rw [List.getElem?_append_right (by omega), show j - es.length = 0 by omega] at eq
                cases eq
                rw [eA] at eB
                cases eB
                exact ⟨(upd_ne n10).trans hD10, n10⟩
        · rintro H3 ⟨es, hD, le, li, s3, at3⟩
          rw [List.length_map] at le li at3
          have hN : HoldsL H3 D12 (Ls.map fun A => A.map fun a => a * f) := ⟨es, hD, by rw [le, List.length_map, dl], fun j B q eB eq => by
            rw [List.getElem?_map] at eB
            cases e : Ls[j]? with
            | none => rw [e] at eB; cases eB
            | some A =>
              rw [e] at eB
              cases eB
              exact (at3 j A q (by rw [dl]; exact (List.getElem?_eq_some_iff.mp e).1) e eq).1⟩
          clear hD le li at3
          have hq3 := hq11.same s3
          have Mne := rest_ne RI'
          have Mnd := rest_nodup RI'
          have MB : ∀ A ∈ (Ls.map fun A => A.map fun a => a * f), A.length < 100 ∧ A ≠ [] := fun A hA => by
            obtain ⟨A0, h0, rfl⟩ := List.mem_map.mp hA
            obtain ⟨x1, x2, _⟩ := LsB A0 h0
            exact ⟨by rw [List.length_map]; exact x1, fun z => x2 (List.map_eq_nil_iff.mp z)⟩
          have Mf : (Ls.map fun A => A.map fun a => a * f).length ≤ 2 := by rw [List.length_map]; exact Lf
          generalize eM : (Ls.map fun A => A.map fun a => a * f) = M at RI' lq atq hq11 hq3 hN Mne Mnd MB Mf
          refine ⟨_, _, hq3.dp, hN.dp, shaped_LL _, shaped_LL _, ?_⟩
          refine ⟨_, rfl, ?_⟩
          refine ite2 (fun z => (not_t z (SeqAt.eqv_refl _ (SeqAt.canLay_of_shaped (shaped_LL _)))).elim) (fun _ => ?_)
          walk_at "rd"
          refine ⟨(by show 0 ≤ sizeLine; decide), fun z0 nz0 => ?_⟩
          generalize e_z0 : upd H3 z0 _ = H12
          have gz : H12 z0 = some (.lst []) := by rw [← e_z0]; exact upd_same
          have wz : Same H3 H12 := by rw [← e_z0]; exact fun b u z => (upd_ne (ne_of_none z nz0)).trans z
          clear e_z0
          walk_at "rd"
          refine ⟨_, .list [], (hq3.same wz).dp, .lst (SqL.of gz) .nil, shaped_LL _, rfl, ?_⟩
          have e0 : PyData.eqv (.list (M.map encI)) (.list []) = false := by
            cases M with
            | nil => exact absurd rfl Mne
            | cons A M => rw [PyData.eqv]; rfl
          rw [e0]
          walk_at "rd"
          walk_at "rd"
          refine ⟨(by show 0 ≤ sizeLine; decide), fun k0 nk0 => ?_⟩
          generalize e_k0 : upd H12 k0 _ = H13
          have g13 : H13 k0 = some (.lst []) := by rw [← e_k0]; exact upd_same
          have w13 : Same H12 H13 := by rw [← e_k0]; exact fun b u z => (upd_ne (ne_of_none z nk0)).trans z
          clear e_k0
          have s113 := s3.trans (wz.trans w13)
          have hq13 := hq3.same (wz.trans w13)
          walk_at "rd"
          refine ⟨⟨_, SqL.of (s113 _ _ hq)⟩, ?_⟩
          refine for_list (K := K) (a := p11) (xs := qs.map V.ref) (fun i2 st H14 => ∃ (y11 : Option V) (kp : Addr), st = [some (.ref l), some (.ref a), some (.int (0 + (i : Int))), some (.ref l0), some (.int (k4 - 150)), some (.ref p6), some (.int f), none, some (.ref L), some (.ref kp), some (.ref p11), y11, none, none, none] ∧ Same H13 H14 ∧ H14 kp = some (.lst ((M.take i2).flatten.map V.int)))
            ⟨_, k0, rfl, Same.refl _, g13⟩ (fun _ _ _ _ ⟨_, _, _, s14, _⟩ => SqL.of ((s113.trans s14) _ _ hq)) ?_ ?_
          · rintro i2 y st H14 hy ⟨y11, kp, rfl, s14, hkp⟩
            obtain ⟨g, A, eA, rfl, hg⟩ : ∃ (g : Addr) (A : List Int), M[i2]? = some A ∧ y = V.ref g ∧ H14 g = some (.lst (A.map V.int)) := by
              rw [List.getElem?_map] at hy
              cases e : qs[i2]? with
              | none => rw [e] at hy; cases hy
              | some g =>
                rw [e] at hy
                cases hy
                have il : i2 < M.length := by rw [← lq]; exact (List.getElem?_eq_some_iff.mp e).1
                exact ⟨g, M[i2], List.getElem?_eq_getElem il, rfl, (s113.trans s14) _ _ (atq i2 _ g (List.getElem?_eq_getElem il) e)⟩
            have il : i2 < M.length := (List.getElem?_eq_some_iff.mp eA).1
            walk_at "rd"
            have lenF : ∀ k, k ≤ M.length → ((M.take k).flatten).length ≤ 100 * k := fun k => by
              induction k with
              | zero => intro _; rw [List.take_zero]; exact Nat.zero_le _
              | succ k ih =>
                intro hk
                have h1 := ih (by omega)
                have h2 := (MB M[k] (List.getElem_mem _)).1
                rw [List.take_succ, List.getElem?_eq_getElem (by omega : k < M.length), List.flatten_append, List.length_append]
                show _ + (M[k] ++ []).length ≤ _
                rw [List.append_nil]
                omega
            have l1 := lenF i2 (by omega)
            have l2 := (MB A (List.mem_of_getElem? eA)).1
            refine ⟨kp, g, _, _, rfl, rfl, hkp, hg, (by rw [List.length_map, List.length_map]; exact Nat.le_trans (by omega : _ ≤ 400) (by decide)), fun p np => ?_⟩
            refine ⟨_, p, rfl, fun b u z => (upd_ne (ne_of_none (s14 _ _ z) np)).trans (s14 _ _ z), ?_⟩
            rw [List.take_succ, eA, List.flatten_append, List.map_append]
            show upd H14 p _ p = some (.lst (_ ++ (A ++ []).map V.int))
            rw [List.append_nil]
            exact upd_same
          rintro st H14 ⟨y11, kp, rfl, s14, hkp⟩
          rw [List.length_map, lq, List.take_length] at hkp
          have lenM : M.flatten.length ≤ 300 := by
            have key : ∀ M : List (List Int), (∀ A ∈ M, A.length < 100 ∧ A ≠ []) → M.flatten.length ≤ 100 * M.length := fun M => by
              induction M with
              | nil => intro _; exact Nat.zero_le _
              | cons A M ih =>
                intro h
                have h1 := (h A List.mem_cons_self).1
                have h2 := ih fun B hB => h B (List.mem_cons_of_mem _ hB)
                rw [List.flatten_cons, List.length_append, List.length_cons]
                omega
            have := key M MB
            omega
          have s114 := s113.trans s14
          walk_at "rd"
          refine ⟨kp, M.flatten, rfl, SqL.of hkp, Nat.lt_of_le_of_lt (by omega : _ ≤ 301) (by decide), fun pz cz hcz npz => ?_⟩
          generalize e_pz : upd H14 pz _ = H15
          have g15 : H15 pz = some (SetO w pz (fun j => decide (j ∈ M.flatten)) cz) := by rw [← e_pz]; exact upd_same
          have w15 : Same H14 H15 := by rw [← e_pz]; exact fun b u z => (upd_ne (ne_of_none z npz)).trans z
          clear e_pz
          refine ⟨pz, _, cz, rfl, g15, by omega, fun ms pm sm1 mm1 npm => ?_⟩
          generalize e_pm : upd H15 pm _ = H16
          have g16 : H16 pm = some (.lst (ms.map V.int)) := by rw [← e_pm]; exact upd_same
          have w16 : Same H14 H16 := by rw [← e_pm]; exact fun b u z => (upd_ne (ne_of_none (w15 _ _ z) npm)).trans (w15 _ _ z)
          clear e_pm
          walk_at "rd"
          refine ⟨kp, M.flatten, rfl, SqL.of (w16 _ _ hkp), fun ms2 pm2 per so2 npm2 => ?_⟩
          generalize e_pm2 : upd H16 pm2 _ = H17
          have g17 : H17 pm2 = some (.lst (ms2.map V.int)) := by rw [← e_pm2]; exact upd_same
          have w17 : Same H16 H17 := by rw [← e_pm2]; exact fun b u z => (upd_ne (ne_of_none z npm2)).trans z
          clear e_pm2
          obtain rfl : ms = ms2 := sorted_same Mnd sm1 mm1 per so2
          refine ⟨_, _, dp_ints (w17 _ _ g16), dp_ints g17, shaped_ints ms, shaped_ints ms, ?_⟩
          walk_at "rd"
          refine ite2 (fun z => (not_t z (SeqAt.eqv_refl _ (SeqAt.canLay_of_shaped (shaped_ints ms)))).elim) (fun _ => ?_)
          have s117 := s114.trans (w16.trans w17)
          have s1017 := s11.trans s117
          have hq17 := s117 _ _ hq
          obtain ⟨A0, M1, rfl⟩ : ∃ A0 M1, M = A0 :: M1 := by
            cases M with
            | nil => exact absurd rfl Mne
            | cons A0 M1 => exact ⟨A0, M1, rfl⟩
          obtain ⟨q0, qs1, rfl⟩ : ∃ q0 qs1, qs = q0 :: qs1 := by
            cases qs with
            | nil => cases lq
            | cons q0 qs1 => exact ⟨q0, qs1, rfl⟩
          have h0 := s117 _ _ (atq 0 A0 q0 rfl rfl)
          have fq0 := fq q0 List.mem_cons_self
          have nq0 : p11 ≠ q0 := fun e => by
            rw [e, h0] at hq17
            cases A0 with
            | nil => cases hq17
            | cons x A0 => cases hq17
          have lA0 := (MB A0 List.mem_cons_self).1
          walk_at "rd"
          refine ⟨p11, _, _, _, rfl, rfl, SqL.of hq17, atI_nat (j := 0) rfl, ?_⟩
          refine ⟨.inl ⟨rfl, _, SqL.of h0⟩, ?_⟩
          walk_at "rd"
          refine ⟨q0, _, _, rfl, rfl, h0, (by rw [List.length_map]; exact Nat.lt_trans lA0 (by decide)), ?_⟩
          have w18 : Same H10 (upd H17 q0 (.lst (A0.map V.int ++ [.non]))) := fun b u z => (upd_ne (ne_of_none z fq0)).trans (s1017 _ _ z)
          have g18 : upd H17 q0 (.lst (A0.map V.int ++ [.non])) p11 = some (.lst ((q0 :: qs1).map V.ref)) := (upd_ne nq0).trans hq17
          generalize upd H17 q0 (.lst (A0.map V.int ++ [.non])) = H18 at w18 g18 ⊢
          walk_at "rd"
          refine ⟨.inl ⟨rfl, _, SqL.of g18⟩, ?_⟩
          walk_at "rd"
          refine ⟨(by show 0 ≤ sizeLine; decide), fun z9 nz9 => ?_⟩
          generalize e_z9 : upd H18 z9 _ = H19
          have g19 : H19 z9 = some (.lst []) := by rw [← e_z9]; exact upd_same
          have w19 : Same H18 H19 := by rw [← e_z9]; exact fun b u z => (upd_ne (ne_of_none z nz9)).trans z
          clear e_z9
          walk_at "rd"
          have lq1 : qs1.length ≤ 1 := by
            rw [List.length_cons] at lq Mf
            rw [List.length_cons] at lq
            omega
          refine ⟨p11, _, _, rfl, rfl, w19 _ _ g18, (by rw [List.length_map, List.length_cons]; exact Nat.lt_of_le_of_lt (by omega : _ ≤ 2) (by decide)), ?_⟩
          have w20 : Same H10 (upd H19 p11 (.lst ((q0 :: qs1).map V.ref ++ [.ref z9]))) := fun b u z => (upd_ne (ne_of_none z np11)).trans (w19 _ _ (w18 _ _ z))
          generalize upd H19 p11 (.lst ((q0 :: qs1).map V.ref ++ [.ref z9])) = H20 at w20 ⊢
          clear w19 w18 g18 g19 h0 hq17 s117 s1017 w17 g17 w16 w15 s114 s14 hkp s113 hq13 w13 g13 wz gz hq3 hN s3
          walk_at "rd"
          refine ⟨mulF (by omega) f1 f2, ?_⟩
          walk_at "rd"
          refine ⟨L, ys, ts, _, rfl, SL10.same w20, vf2, fun Ls3 p13 H21 ri3 s21 nw3 => ?_, fun H21 inf s21 => by have := inf _ oR'; rw [List.length_map] at this; omega⟩
          obtain rfl := rest_uniq ri3 RI'
          rw [← eM] at nw3
          have hd21 := hd10.same (w20.trans s21)
          have hr21 := nw3.holds
          walk_at "rd"
          obtain ⟨dq, dh, dl, dat⟩ := hd21
          refine ⟨⟨_, SqL.of dh⟩, fun D22 nD22 => ?_⟩
          refine lc_list (K := K) (a := p6) (xs := dq.map V.ref) (fun i H3 => ∃ es : List Addr, H3 D22 = some (.lst (es.map V.ref)) ∧ es.length = i ∧ i ≤ Ls.length ∧ Same H21 H3 ∧ ∀ (j : Nat) (A : List Int) (q : Addr), j < i → Ls[j]? = some A → es[j]? = some q → H3 q = some (.lst ((A.map fun a => a * f).map V.int)) ∧ q ≠ D22)
            ⟨[], upd_same, rfl, Nat.zero_le _, fun b u z => (upd_ne (ne_of_none z nD22)).trans z, fun j A q hj => absurd hj (Nat.not_lt_zero _)⟩ (fun _ _ _ ⟨_, _, _, _, s3, _⟩ => SqL.of (s3 _ _ dh)) ?_ ?_
          · rintro i x H3 hx ⟨es, hD, le, li, s3, at3⟩
            obtain ⟨g, A, eA, rfl, hg⟩ : ∃ (g : Addr) (A : List Int), Ls[i]? = some A ∧ x = V.ref g ∧ H21 g = some (.lst (A.map V.int)) := by
              rw [List.getElem?_map] at hx
              cases e : dq[i]? with
              | none => rw [e] at hx; cases hx
              | some g =>
                rw [e] at hx
                cases hx
                have il : i < Ls.length := by rw [← dl]; exact (List.getElem?_eq_some_iff.mp e).1
                exact ⟨g, Ls[i], List.getElem?_eq_getElem il, rfl, dat i _ g (List.getElem?_eq_getElem il) e⟩
            have il : i < Ls.length := (List.getElem?_eq_some_iff.mp eA).1
            have AB := LsB A (List.mem_of_getElem? eA)
            refine ⟨rfl, ?_⟩
            walk_at "rd"
            refine ⟨⟨_, SqL.of (s3 _ _ hg)⟩, fun D10 nD10 => ?_⟩
            refine lc_list (K := K) (a := g) (xs := A.map V.int) (fun k H4 => H4 D10 = some (.lst (((A.take k).map fun a => a * f).map V.int)) ∧ Same H3 H4) ⟨upd_same, fun b u z => (upd_ne (ne_of_none z nD10)).trans z⟩ (fun _ _ _ ⟨_, s4⟩ => SqL.of ((s3.trans s4) _ _ hg)) ?_ ?_
            · rintro k y H4 hy ⟨hD10, s4⟩
              obtain ⟨z, ez, rfl⟩ : ∃ z, A[k]? = some z ∧ y = V.int z := by
                rw [List.getElem?_map] at hy
                cases e : A[k]? with
                | none => rw [e] at hy; cases hy
                | some z => rw [e] at hy; cases hy; exact ⟨z, rfl, rfl⟩
              have zb := AB.2.2 z (List.mem_of_getElem? ez)
              refine ⟨rfl, ?_⟩
              walk_at "rd"
              refine ⟨mulF (by omega) f1 f2, ?_⟩
              refine ⟨_, hD10, ?_, ?_, fun b u y => (upd_ne (ne_of_none y nD10)).trans (s4 _ _ y)⟩
              · rw [List.length_map, List.length_map]
                exact Nat.lt_of_le_of_lt (Nat.le_trans (List.length_take_le' _ _) (Nat.le_of_lt AB.1)) (by decide)
              · rw [List.take_succ, ez, List.map_append, List.map_append]
                exact upd_same
            · rintro H4 ⟨hD10, s4⟩
              rw [List.length_map, List.take_length] at hD10
              have hD4 := s4 _ _ hD
              have n10 : D10 ≠ D22 := fun e => by rw [e, hD] at nD10; cases nD10
              refine ⟨_, hD4, ?_, es ++ [D10], ?_, ?_, il, fun b u y => (upd_ne (ne_of_none y nD22)).trans (s4 _ _ (s3 _ _ y)), fun j B q hj eB eq => ?_⟩
              · rw [List.length_map, le]; exact Nat.lt_of_lt_of_le (by omega : i < 8) (by decide)
              · rw [List.map_append]; exact upd_same
              · rw [List.length_append, le]; rfl
              · by_cases y : j < i
                · rw [List.getElem?_append_left (by omega)] at eq
                  obtain ⟨a1, a2⟩ := at3 j B q y eB eq
                  exact ⟨(upd_ne a2).trans (s4 _ _ a1), a2⟩
                · obtain rfl : j = i := by omega
                  rw [List.getElem?_append_right (by omega), show j - es.length = 0 by omega] at eq
                  cases eq
                  rw [eA] at eB
                  cases eB
                  exact ⟨(upd_ne n10).trans hD10, n10⟩
          · rintro H3 ⟨es, hD, le, li, s3, at3⟩
            rw [List.length_map] at le li at3
            have hN : HoldsL H3 D22 (Ls.map fun A => A.map fun a => a * f) := ⟨es, hD, by rw [le, List.length_map, dl], fun j B q eB eq => by
              rw [List.getElem?_map] at eB
              cases e : Ls[j]? with
              | none => rw [e] at eB; cases eB
              | some A =>
                rw [e] at eB
                cases eB
                exact (at3 j A q (by rw [dl]; exact (List.getElem?_eq_some_iff.mp e).1) e eq).1⟩
            clear hD le li at3
            refine ⟨_, _, (hr21.same s3).dp, hN.dp, shaped_LL _, shaped_LL _, ?_⟩
            walk_at "rd"
            refine ite2 (fun z => (not_t z (SeqAt.eqv_refl _ (SeqAt.canLay_of_shaped (shaped_LL _)))).elim) (fun _ => ?_)
            exact ⟨_, _, _, _, _, _, _, _, _, _, rfl, by omega, S10.of_same (w20.trans (s21.trans s3))⟩

      · exact ⟨_, _, _, _, _, _, _, _, _, _, rfl, by omega, S5⟩
    · rintro σ H' ⟨x2, x3, x4, x5, x6, x8, x9, x10, x11, t, rfl, ht, S'⟩
      clear S' S0 sm
      walk_at "rd"
      refine ⟨(by show 3 ≤ sizeLine; decide), fun q1 nq1 => ?_⟩
      generalize e_q1 : upd H' q1 _ = G1
      have e1 : G1 q1 = some (.tup [.int 0, .int 2, .str "half_up"]) := by rw [← e_q1]; exact upd_same
      have w1 : Same H' G1 := by rw [← e_q1]; exact fun b u z => (upd_ne (ne_of_none z nq1)).trans z
      clear e_q1
      walk_at "rd"
      refine ⟨(by show 3 ≤ sizeLine; decide), fun q2 nq2 => ?_⟩
      generalize e_q2 : upd G1 q2 _ = G2
      have e2 : G2 q2 = some (.tup [.int 1, .int 2, .str "half_up"]) := by rw [← e_q2]; exact upd_same
      have w2 : Same G1 G2 := by rw [← e_q2]; exact fun b u z => (upd_ne (ne_of_none z nq2)).trans z
      clear e_q2
      walk_at "rd"
      refine ⟨(by show 2 ≤ sizeLine; decide), fun q3 nq3 => ?_⟩
      generalize e_q3 : upd G2 q3 _ = G3
      have e3 : G3 q3 = some (.lst [.ref q1, .ref q2]) := by rw [← e_q3]; exact upd_same
      have w3 : Same G2 G3 := by rw [← e_q3]; exact fun b u z => (upd_ne (ne_of_none z nq3)).trans z
      clear e_q3
      have SC : SidesAt G3 q3 [.ref q1, .ref q2] cr2 := sidesAt2 e3 (w3 _ _ (w2 _ _ e1)) ⟨by decide, by decide, by decide, by decide, .inr (.inr (.inr (.inl rfl)))⟩ (w3 _ _ e2) ⟨by decide, by decide, by decide, by decide, .inr (.inr (.inr (.inl rfl)))⟩
      walk_at "rd"
      refine ⟨q3, _, cr2, 0, rfl, SC, by decide, fun Ls p H1 ri _ _ => (cr2_none ri).elim, fun G4 _ _ => ?_⟩
      refine ⟨true, em2, fun _ => ⟨rfl, fun pe hpe => ?_⟩, fun z => Bool.noConfusion z⟩
      walk_at "rd"
      refine ⟨(by show 3 ≤ sizeLine; decide), fun r1 nr1 => ?_⟩
      generalize e_r1 : upd (upd G4 pe _) r1 _ = G6
      have e6 : G6 r1 = some (.tup [.int 0, .int 10, .str "up"]) := by rw [← e_r1]; exact upd_same
      clear e_r1
      walk_at "rd"
      refine ⟨(by show 3 ≤ sizeLine; decide), fun r2 nr2 => ?_⟩
      generalize e_r2 : upd G6 r2 _ = G7
      have e7 : G7 r2 = some (.tup [.int 3, .int 10, .str "down"]) := by rw [← e_r2]; exact upd_same
      have w7 : Same G6 G7 := by rw [← e_r2]; exact fun b u z => (upd_ne (ne_of_none z nr2)).trans z
      clear e_r2
      walk_at "rd"
      refine ⟨(by show 2 ≤ sizeLine; decide), fun r3 nr3 => ?_⟩
      generalize e_r3 : upd G7 r3 _ = G8
      have e8 : G8 r3 = some (.lst [.ref r1, .ref r2]) := by rw [← e_r3]; exact upd_same
      have w8 : Same G7 G8 := by rw [← e_r3]; exact fun b u z => (upd_ne (ne_of_none z nr3)).trans z
      clear e_r3
      walk_at "rd"
      have SP : SidesAt G8 r3 [.ref r1, .ref r2] pr2 := sidesAt2 e8 (w8 _ _ (w7 _ _ e6)) ⟨by decide, by decide, by decide, by decide, .inr (.inl rfl)⟩ (w8 _ _ e7) ⟨by decide, by decide, by decide, by decide, .inl rfl⟩
      refine ⟨rfl, ?_⟩
      walk_at "rd"
      refine ⟨r3, _, pr2, 7, rfl, SP, by decide, fun Ls p H9 ri s9 nw => ?_, fun H9 inf s9 => by have := inf _ pr2_out; exact absurd this (by decide)⟩
      obtain rfl := pr2_rest ri
      have hr := nw.holds
      clear nw ri
      walk_at "rd"
      refine ⟨(by show 2 ≤ sizeLine; decide), fun y1 ny1 => ?_⟩
      generalize e_y1 : upd H9 y1 _ = H10
      have c10 : H10 y1 = some (.lst [.int 3, .int 10]) := by rw [← e_y1]; exact upd_same
      have w10 : Same H9 H10 := by rw [← e_y1]; exact fun b u z => (upd_ne (ne_of_none z ny1)).trans z
      clear e_y1
      walk_at "rd"
      refine ⟨(by show 1 ≤ sizeLine; decide), fun y2 ny2 => ?_⟩
      generalize e_y2 : upd H10 y2 _ = H11
      have c11 : H11 y2 = some (.lst [.ref y1]) := by rw [← e_y2]; exact upd_same
      have w11 : Same H10 H11 := by rw [← e_y2]; exact fun b u z => (upd_ne (ne_of_none z ny2)).trans z
      clear e_y2
      have hx : HoldsL H11 y2 [[3, 10]] := .one c11 (w11 _ _ c10)
      refine ⟨_, _, (hr.same (w10.trans w11)).dp, hx.dp, shaped_LL _, shaped_LL _, ?_⟩
      rw [SeqAt.eqv_refl _ (SeqAt.canLay_of_shaped (shaped_LL [[3, 10]]))]
      walk_at "rd"
      walk_at "rd"
      refine ⟨(by show 3 ≤ sizeLine; decide), fun u1 nu1 => ?_⟩
      generalize e_u1 : upd H11 u1 _ = H12
      have c12 : H12 u1 = some (.tup [.int 0, .int 4, .str "down"]) := by rw [← e_u1]; exact upd_same
      have w12 : Same H11 H12 := by rw [← e_u1]; exact fun b u z => (upd_ne (ne_of_none z nu1)).trans z
      clear e_u1
      walk_at "rd"
      refine ⟨(by show 3 ≤ sizeLine; decide), fun u2 nu2 => ?_⟩
      generalize e_u2 : upd H12 u2 _ = H13
      have c13 : H13 u2 = some (.tup [.int 0, .int 6, .str "down"]) := by rw [← e_u2]; exact upd_same
      have w13 : Same H12 H13 := by rw [← e_u2]; exact fun b u z => (upd_ne (ne_of_none z nu2)).trans z
      clear e_u2
      walk_at "rd"
      refine ⟨(by show 2 ≤ sizeLine; decide), fun u3 nu3 => ?_⟩
      generalize e_u3 : upd H13 u3 _ = H14
      have c14 : H14 u3 = some (.lst [.ref u1, .ref u2]) := by rw [← e_u3]; exact upd_same
      have w14 : Same H13 H14 := by rw [← e_u3]; exact fun b u z => (upd_ne (ne_of_none z nu3)).trans z
      clear e_u3
      have SD : SidesAt H14 u3 [.ref u1, .ref u2] dn2 := sidesAt2 c14 (w14 _ _ (w13 _ _ c12)) ⟨by decide, by decide, by decide, by decide, .inl rfl⟩ (w14 _ _ c13) ⟨by decide, by decide, by decide, by decide, .inl rfl⟩
      walk_at "rd"
      refine ⟨u3, _, dn2, 7, rfl, SD, by decide, fun Ls p H15 ri s15 nw => ?_, fun H15 inf s15 => by have := inf _ dn2_out; exact absurd this (by decide)⟩
      obtain rfl := dn2_rest ri
      have hr2 := nw.holds
      clear nw ri
      walk_at "rd"
      refine ⟨(by show 1 ≤ sizeLine; decide), fun z1 nz1 => ?_⟩
      generalize e_z1 : upd H15 z1 _ = H16
      have c16 : H16 z1 = some (.lst [.int 0]) := by rw [← e_z1]; exact upd_same
      have w16 : Same H15 H16 := by rw [← e_z1]; exact fun b u z => (upd_ne (ne_of_none z nz1)).trans z
      clear e_z1
      walk_at "rd"
      refine ⟨(by show 1 ≤ sizeLine; decide), fun z2 nz2 => ?_⟩
      generalize e_z2 : upd H16 z2 _ = H17
      have c17 : H17 z2 = some (.lst [.ref z1]) := by rw [← e_z2]; exact upd_same
      have w17 : Same H16 H17 := by rw [← e_z2]; exact fun b u z => (upd_ne (ne_of_none z nz2)).trans z
      clear e_z2
      have hz : HoldsL H17 z2 [[0]] := .one c17 (w17 _ _ c16)
      refine ⟨_, _, (hr2.same (w16.trans w17)).dp, hz.dp, shaped_LL _, shaped_LL _, ?_⟩
      rw [SeqAt.eqv_refl _ (SeqAt.canLay_of_shaped (shaped_LL [[0]]))]
      exact q H17
end
end HT
namespace HT
open PySem L2
def errB (K : PySem.W.Frag) (C : Addr) : Bool := (PySem.W.clsIn K C).isSome && (decide (PySem.W.findIn K (.ref C) "__getattribute__" = some (some (.builtin "BaseException.__getattribute__"))) && (decide (PySem.W.findIn K (.ref C) "__getattr__" = some none) && (decide (PySem.W.subIn K (.ref C) (.type "BaseException") = some true) &&
  (decide (PySem.W.findIn K (.ref C) "__class__" = some (some (.builtin "object.__class__"))) && decide (PySem.W.mroIn K C (.type "object") = some true)))))
theorem errB_ok {K : PySem.W.Frag} {C : Addr} (h : errB K C = true) : ErrC K C := by
  unfold errB at h
  simp only [Bool.and_eq_true, decide_eq_true_eq] at h
  obtain ⟨a, b, c, d, e, f⟩ := h
  exact ⟨a, b, c, d, e, f⟩
def exB (K : PySem.W.Frag) (C : Addr) : Bool := PySem.W.excIn K C [.type "ValueError", .type "Exception", .type "BaseException", .type "object"] "ValueError.__new__" && PySem.W.keepIn K (.ref C)
def erT (K : PySem.W.Frag) (C : Nat → Addr) (B : Addr) (i : Nat) : Bool := errB K (C i) && (exB K (C i) && (decide (PySem.W.kitOne K (.ref (C i)) (.type "ValueError") = some true) && (decide (PySem.W.subIn K (.ref (C i)) (.type "BaseException") = some true) && (decide (PySem.W.typeIn K (.ref (C i)) = some (.type "type")) && (decide (PySem.W.exmOne K (.ref (C i)) (.ref B) = some true) &&
  (List.range 4).all fun j => decide (PySem.W.kitOne K (.ref (C i)) (.ref (C j)) = some (decide (i = j))))))))
def cAt (l : List Addr) (i : Nat) : Addr := l.getD i 0
theorem all_of {p : Nat → Bool} {n : Nat} (h : (List.range n).all p = true) {i : Nat} (hi : i < n) : p i = true := List.all_eq_true.mp h i (List.mem_range.mpr hi)
theorem all_mk {l : PySem.W.OpenLaw} {w : World} {K : PySem.W.Frag} {h : Heap} {mg : Str → Option Value} {fa aM c0 c1 c2 c3 cB f_is_int f_is_int_between f_check_value f_check_side f_is_side f_figure f_goes_up f_written f_check_sides f_outcomes f_rests f_rest_of f_L_source f_L_draw f_L_pick f_L_great f_L_small_side f_L_figure f_L_handed f_L_set f_L_written f_L_all f_L_due f_law : Addr} (X : K.In h) (G : h.Ns mainGlobals mg) (hfa : mg "law" = some (.ref fa))
    {odM od_is_int an_is_int od_is_int_between an_is_int_between od_check_value an_check_value od_check_side an_check_side od_is_side an_is_side od_figure an_figure od_goes_up an_goes_up od_written an_written od_check_sides an_check_sides od_outcomes an_outcomes od_rests an_rests od_rest_of an_rest_of od_L_source an_L_source od_L_draw an_L_draw od_L_pick an_L_pick od_L_great an_L_great od_L_small_side an_L_small_side od_L_figure an_L_figure od_L_handed an_L_handed od_L_set an_L_set od_L_written an_L_written od_L_all an_L_all od_L_due an_L_due od_law an_law : Option Addr} {slM sl_is_int sl_is_int_between sl_check_value sl_check_side sl_is_side sl_figure sl_goes_up sl_written sl_check_sides sl_outcomes sl_rests sl_rest_of sl_L_source sl_L_draw sl_L_pick sl_L_great sl_L_small_side sl_L_figure sl_L_handed sl_L_set sl_L_written sl_L_all sl_L_due sl_law : Array (Option Value)} {nM : Nat} {itsM : Array Value} {tMS tMO : Tok} {oc_is_int kV_is_int dc_is_int pm_is_int cd_is_int ct_is_int oc_is_int_between kV_is_int_between dc_is_int_between pm_is_int_between cd_is_int_between ct_is_int_between oc_check_value kV_check_value dc_check_value pm_check_value cd_check_value ct_check_value oc_check_side kV_check_side dc_check_side pm_check_side cd_check_side ct_check_side oc_is_side kV_is_side dc_is_side pm_is_side cd_is_side ct_is_side oc_figure kV_figure dc_figure pm_figure cd_figure ct_figure oc_goes_up kV_goes_up dc_goes_up pm_goes_up cd_goes_up ct_goes_up oc_written kV_written dc_written pm_written cd_written ct_written oc_check_sides kV_check_sides dc_check_sides pm_check_sides cd_check_sides ct_check_sides oc_outcomes kV_outcomes dc_outcomes pm_outcomes cd_outcomes ct_outcomes oc_rests kV_rests dc_rests pm_rests cd_rests ct_rests oc_rest_of kV_rest_of dc_rest_of pm_rest_of cd_rest_of ct_rest_of oc_L_source kV_L_source dc_L_source pm_L_source cd_L_source ct_L_source oc_L_draw kV_L_draw dc_L_draw pm_L_draw cd_L_draw ct_L_draw oc_L_pick kV_L_pick dc_L_pick pm_L_pick cd_L_pick ct_L_pick oc_L_great kV_L_great dc_L_great pm_L_great cd_L_great ct_L_great oc_L_small_side kV_L_small_side dc_L_small_side pm_L_small_side cd_L_small_side ct_L_small_side oc_L_figure kV_L_figure dc_L_figure pm_L_figure cd_L_figure ct_L_figure oc_L_handed kV_L_handed dc_L_handed pm_L_handed cd_L_handed ct_L_handed oc_L_set kV_L_set dc_L_set pm_L_set cd_L_set ct_L_set oc_L_written kV_L_written dc_L_written pm_L_written cd_L_written ct_L_written oc_L_all kV_L_all dc_L_all pm_L_all cd_L_all ct_L_all oc_L_due kV_L_due dc_L_due pm_L_due cd_L_due ct_L_due oc_law kV_law dc_law pm_law cd_law ct_law : Value}
    (a_is_int : PySem.W.nsIn K mainGlobals "is_int" = some (some (.ref f_is_int)))
    (l_is_int : K.lookup f_is_int = some ⟨oc_is_int, od_is_int, .func (PySem.W.fnOf "is_int" "is_int" (defArgs s_is_int) (defBody s_is_int) (defScope s_is_int) .none kV_is_int dc_is_int pm_is_int an_is_int cd_is_int ct_is_int), sl_is_int⟩)
    (c_is_int : PySem.W.codeIn K cd_is_int "is_int" = true) (k_is_int : PySem.W.keepIn K (.ref f_is_int) = true)
    (a_is_int_between : PySem.W.nsIn K mainGlobals "is_int_between" = some (some (.ref f_is_int_between)))
    (l_is_int_between : K.lookup f_is_int_between = some ⟨oc_is_int_between, od_is_int_between, .func (PySem.W.fnOf "is_int_between" "is_int_between" (defArgs s_is_int_between) (defBody s_is_int_between) (defScope s_is_int_between) .none kV_is_int_between dc_is_int_between pm_is_int_between an_is_int_between cd_is_int_between ct_is_int_between), sl_is_int_between⟩)
    (c_is_int_between : PySem.W.codeIn K cd_is_int_between "is_int_between" = true) (k_is_int_between : PySem.W.keepIn K (.ref f_is_int_between) = true)
    (a_check_value : PySem.W.nsIn K mainGlobals "check_value" = some (some (.ref f_check_value)))
    (l_check_value : K.lookup f_check_value = some ⟨oc_check_value, od_check_value, .func (PySem.W.fnOf "check_value" "check_value" (defArgs s_check_value) (defBody s_check_value) (defScope s_check_value) .none kV_check_value dc_check_value pm_check_value an_check_value cd_check_value ct_check_value), sl_check_value⟩)
    (c_check_value : PySem.W.codeIn K cd_check_value "check_value" = true) (k_check_value : PySem.W.keepIn K (.ref f_check_value) = true)
    (a_check_side : PySem.W.nsIn K mainGlobals "check_side" = some (some (.ref f_check_side)))
    (l_check_side : K.lookup f_check_side = some ⟨oc_check_side, od_check_side, .func (PySem.W.fnOf "check_side" "check_side" (defArgs s_check_side) (defBody s_check_side) (defScope s_check_side) .none kV_check_side dc_check_side pm_check_side an_check_side cd_check_side ct_check_side), sl_check_side⟩)
    (c_check_side : PySem.W.codeIn K cd_check_side "check_side" = true) (k_check_side : PySem.W.keepIn K (.ref f_check_side) = true)
    (a_is_side : PySem.W.nsIn K mainGlobals "is_side" = some (some (.ref f_is_side)))
    (l_is_side : K.lookup f_is_side = some ⟨oc_is_side, od_is_side, .func (PySem.W.fnOf "is_side" "is_side" (defArgs s_is_side) (defBody s_is_side) (defScope s_is_side) .none kV_is_side dc_is_side pm_is_side an_is_side cd_is_side ct_is_side), sl_is_side⟩)
    (c_is_side : PySem.W.codeIn K cd_is_side "is_side" = true) (k_is_side : PySem.W.keepIn K (.ref f_is_side) = true)
    (a_figure : PySem.W.nsIn K mainGlobals "_figure" = some (some (.ref f_figure)))
    (l_figure : K.lookup f_figure = some ⟨oc_figure, od_figure, .func (PySem.W.fnOf "_figure" "_figure" (defArgs s_figure) (defBody s_figure) (defScope s_figure) .none kV_figure dc_figure pm_figure an_figure cd_figure ct_figure), sl_figure⟩)
    (c_figure : PySem.W.codeIn K cd_figure "_figure" = true) (k_figure : PySem.W.keepIn K (.ref f_figure) = true)
    (a_goes_up : PySem.W.nsIn K mainGlobals "_goes_up" = some (some (.ref f_goes_up)))
    (l_goes_up : K.lookup f_goes_up = some ⟨oc_goes_up, od_goes_up, .func (PySem.W.fnOf "_goes_up" "_goes_up" (defArgs s_goes_up) (defBody s_goes_up) (defScope s_goes_up) .none kV_goes_up dc_goes_up pm_goes_up an_goes_up cd_goes_up ct_goes_up), sl_goes_up⟩)
    (c_goes_up : PySem.W.codeIn K cd_goes_up "_goes_up" = true) (k_goes_up : PySem.W.keepIn K (.ref f_goes_up) = true)
    (a_written : PySem.W.nsIn K mainGlobals "written" = some (some (.ref f_written)))
    (l_written : K.lookup f_written = some ⟨oc_written, od_written, .func (PySem.W.fnOf "written" "written" (defArgs s_written) (defBody s_written) (defScope s_written) .none kV_written dc_written pm_written an_written cd_written ct_written), sl_written⟩)
    (c_written : PySem.W.codeIn K cd_written "written" = true) (k_written : PySem.W.keepIn K (.ref f_written) = true)
    (a_check_sides : PySem.W.nsIn K mainGlobals "check_sides" = some (some (.ref f_check_sides)))
    (l_check_sides : K.lookup f_check_sides = some ⟨oc_check_sides, od_check_sides, .func (PySem.W.fnOf "check_sides" "check_sides" (defArgs s_check_sides) (defBody s_check_sides) (defScope s_check_sides) .none kV_check_sides dc_check_sides pm_check_sides an_check_sides cd_check_sides ct_check_sides), sl_check_sides⟩)
    (c_check_sides : PySem.W.codeIn K cd_check_sides "check_sides" = true) (k_check_sides : PySem.W.keepIn K (.ref f_check_sides) = true)
    (a_outcomes : PySem.W.nsIn K mainGlobals "outcomes" = some (some (.ref f_outcomes)))
    (l_outcomes : K.lookup f_outcomes = some ⟨oc_outcomes, od_outcomes, .func (PySem.W.fnOf "outcomes" "outcomes" (defArgs s_outcomes) (defBody s_outcomes) (defScope s_outcomes) .none kV_outcomes dc_outcomes pm_outcomes an_outcomes cd_outcomes ct_outcomes), sl_outcomes⟩)
    (c_outcomes : PySem.W.codeIn K cd_outcomes "outcomes" = true) (k_outcomes : PySem.W.keepIn K (.ref f_outcomes) = true)
    (a_rests : PySem.W.nsIn K mainGlobals "rests" = some (some (.ref f_rests)))
    (l_rests : K.lookup f_rests = some ⟨oc_rests, od_rests, .func (PySem.W.fnOf "rests" "rests" (defArgs s_rests) (defBody s_rests) (defScope s_rests) .none kV_rests dc_rests pm_rests an_rests cd_rests ct_rests), sl_rests⟩)
    (c_rests : PySem.W.codeIn K cd_rests "rests" = true) (k_rests : PySem.W.keepIn K (.ref f_rests) = true)
    (a_rest_of : PySem.W.nsIn K mainGlobals "_rest_of" = some (some (.ref f_rest_of)))
    (l_rest_of : K.lookup f_rest_of = some ⟨oc_rest_of, od_rest_of, .func (PySem.W.fnOf "_rest_of" "_rest_of" (defArgs s_rest_of) (defBody s_rest_of) (defScope s_rest_of) .none kV_rest_of dc_rest_of pm_rest_of an_rest_of cd_rest_of ct_rest_of), sl_rest_of⟩)
    (c_rest_of : PySem.W.codeIn K cd_rest_of "_rest_of" = true) (k_rest_of : PySem.W.keepIn K (.ref f_rest_of) = true)
    (a_L_source : PySem.W.nsIn K mainGlobals "_law_source" = some (some (.ref f_L_source)))
    (l_L_source : K.lookup f_L_source = some ⟨oc_L_source, od_L_source, .func (PySem.W.fnOf "_law_source" "_law_source" (defArgs s_L_source) (defBody s_L_source) (defScope s_L_source) .none kV_L_source dc_L_source pm_L_source an_L_source cd_L_source ct_L_source), sl_L_source⟩)
    (c_L_source : PySem.W.codeIn K cd_L_source "_law_source" = true) (k_L_source : PySem.W.keepIn K (.ref f_L_source) = true)
    (a_L_draw : PySem.W.nsIn K mainGlobals "_law_draw" = some (some (.ref f_L_draw)))
    (l_L_draw : K.lookup f_L_draw = some ⟨oc_L_draw, od_L_draw, .func (PySem.W.fnOf "_law_draw" "_law_draw" (defArgs s_L_draw) (defBody s_L_draw) (defScope s_L_draw) .none kV_L_draw dc_L_draw pm_L_draw an_L_draw cd_L_draw ct_L_draw), sl_L_draw⟩)
    (c_L_draw : PySem.W.codeIn K cd_L_draw "_law_draw" = true) (k_L_draw : PySem.W.keepIn K (.ref f_L_draw) = true)
    (a_L_pick : PySem.W.nsIn K mainGlobals "_law_pick" = some (some (.ref f_L_pick)))
    (l_L_pick : K.lookup f_L_pick = some ⟨oc_L_pick, od_L_pick, .func (PySem.W.fnOf "_law_pick" "_law_pick" (defArgs s_L_pick) (defBody s_L_pick) (defScope s_L_pick) .none kV_L_pick dc_L_pick pm_L_pick an_L_pick cd_L_pick ct_L_pick), sl_L_pick⟩)
    (c_L_pick : PySem.W.codeIn K cd_L_pick "_law_pick" = true) (k_L_pick : PySem.W.keepIn K (.ref f_L_pick) = true)
    (a_L_great : PySem.W.nsIn K mainGlobals "_law_great" = some (some (.ref f_L_great)))
    (l_L_great : K.lookup f_L_great = some ⟨oc_L_great, od_L_great, .func (PySem.W.fnOf "_law_great" "_law_great" (defArgs s_L_great) (defBody s_L_great) (defScope s_L_great) .none kV_L_great dc_L_great pm_L_great an_L_great cd_L_great ct_L_great), sl_L_great⟩)
    (c_L_great : PySem.W.codeIn K cd_L_great "_law_great" = true) (k_L_great : PySem.W.keepIn K (.ref f_L_great) = true)
    (a_L_small_side : PySem.W.nsIn K mainGlobals "_law_small_side" = some (some (.ref f_L_small_side)))
    (l_L_small_side : K.lookup f_L_small_side = some ⟨oc_L_small_side, od_L_small_side, .func (PySem.W.fnOf "_law_small_side" "_law_small_side" (defArgs s_L_small_side) (defBody s_L_small_side) (defScope s_L_small_side) .none kV_L_small_side dc_L_small_side pm_L_small_side an_L_small_side cd_L_small_side ct_L_small_side), sl_L_small_side⟩)
    (c_L_small_side : PySem.W.codeIn K cd_L_small_side "_law_small_side" = true) (k_L_small_side : PySem.W.keepIn K (.ref f_L_small_side) = true)
    (a_L_figure : PySem.W.nsIn K mainGlobals "_law_figure" = some (some (.ref f_L_figure)))
    (l_L_figure : K.lookup f_L_figure = some ⟨oc_L_figure, od_L_figure, .func (PySem.W.fnOf "_law_figure" "_law_figure" (defArgs s_L_figure) (defBody s_L_figure) (defScope s_L_figure) .none kV_L_figure dc_L_figure pm_L_figure an_L_figure cd_L_figure ct_L_figure), sl_L_figure⟩)
    (c_L_figure : PySem.W.codeIn K cd_L_figure "_law_figure" = true) (k_L_figure : PySem.W.keepIn K (.ref f_L_figure) = true)
    (a_L_handed : PySem.W.nsIn K mainGlobals "_law_handed" = some (some (.ref f_L_handed)))
    (l_L_handed : K.lookup f_L_handed = some ⟨oc_L_handed, od_L_handed, .func (PySem.W.fnOf "_law_handed" "_law_handed" (defArgs s_L_handed) (defBody s_L_handed) (defScope s_L_handed) .none kV_L_handed dc_L_handed pm_L_handed an_L_handed cd_L_handed ct_L_handed), sl_L_handed⟩)
    (c_L_handed : PySem.W.codeIn K cd_L_handed "_law_handed" = true) (k_L_handed : PySem.W.keepIn K (.ref f_L_handed) = true)
    (a_L_set : PySem.W.nsIn K mainGlobals "_law_set" = some (some (.ref f_L_set)))
    (l_L_set : K.lookup f_L_set = some ⟨oc_L_set, od_L_set, .func (PySem.W.fnOf "_law_set" "_law_set" (defArgs s_L_set) (defBody s_L_set) (defScope s_L_set) .none kV_L_set dc_L_set pm_L_set an_L_set cd_L_set ct_L_set), sl_L_set⟩)
    (c_L_set : PySem.W.codeIn K cd_L_set "_law_set" = true) (k_L_set : PySem.W.keepIn K (.ref f_L_set) = true)
    (a_L_written : PySem.W.nsIn K mainGlobals "_law_written" = some (some (.ref f_L_written)))
    (l_L_written : K.lookup f_L_written = some ⟨oc_L_written, od_L_written, .func (PySem.W.fnOf "_law_written" "_law_written" (defArgs s_L_written) (defBody s_L_written) (defScope s_L_written) .none kV_L_written dc_L_written pm_L_written an_L_written cd_L_written ct_L_written), sl_L_written⟩)
    (c_L_written : PySem.W.codeIn K cd_L_written "_law_written" = true) (k_L_written : PySem.W.keepIn K (.ref f_L_written) = true)
    (a_L_all : PySem.W.nsIn K mainGlobals "_law_all" = some (some (.ref f_L_all)))
    (l_L_all : K.lookup f_L_all = some ⟨oc_L_all, od_L_all, .func (PySem.W.fnOf "_law_all" "_law_all" (defArgs s_L_all) (defBody s_L_all) (defScope s_L_all) .none kV_L_all dc_L_all pm_L_all an_L_all cd_L_all ct_L_all), sl_L_all⟩)
    (c_L_all : PySem.W.codeIn K cd_L_all "_law_all" = true) (k_L_all : PySem.W.keepIn K (.ref f_L_all) = true)
    (a_L_due : PySem.W.nsIn K mainGlobals "_law_due" = some (some (.ref f_L_due)))
    (l_L_due : K.lookup f_L_due = some ⟨oc_L_due, od_L_due, .func (PySem.W.fnOf "_law_due" "_law_due" (defArgs s_L_due) (defBody s_L_due) (defScope s_L_due) .none kV_L_due dc_L_due pm_L_due an_L_due cd_L_due ct_L_due), sl_L_due⟩)
    (c_L_due : PySem.W.codeIn K cd_L_due "_law_due" = true) (k_L_due : PySem.W.keepIn K (.ref f_L_due) = true)
    (a_law : PySem.W.nsIn K mainGlobals "law" = some (some (.ref f_law)))
    (l_law : K.lookup f_law = some ⟨oc_law, od_law, .func (PySem.W.fnOf "law" "law" (defArgs s_law) (defBody s_law) (defScope s_law) .none kV_law dc_law pm_law an_law cd_law ct_law), sl_law⟩)
    (c_law : PySem.W.codeIn K cd_law "law" = true) (k_law : PySem.W.keepIn K (.ref f_law) = true)
    (z_len : PySem.W.nsIn K mainGlobals "len" = some none)
    (z_abs : PySem.W.nsIn K mainGlobals "abs" = some none)
    (z_int : PySem.W.nsIn K mainGlobals "int" = some none)
    (z_range : PySem.W.nsIn K mainGlobals "range" = some none)
    (z_isinstance : PySem.W.nsIn K mainGlobals "isinstance" = some none)
    (z_bool : PySem.W.nsIn K mainGlobals "bool" = some none)
    (z_tuple : PySem.W.nsIn K mainGlobals "tuple" = some none)
    (z_divmod : PySem.W.nsIn K mainGlobals "divmod" = some none)
    (z_list : PySem.W.nsIn K mainGlobals "list" = some none)
    (z_sorted : PySem.W.nsIn K mainGlobals "sorted" = some none)
    (z_set : PySem.W.nsIn K mainGlobals "set" = some none)
    (z_dict : PySem.W.nsIn K mainGlobals "dict" = some none)
    (z_ValueError : PySem.W.nsIn K mainGlobals "ValueError" = some none)
    (g_0 : PySem.W.nsIn K mainGlobals "InvalidSide" = some (some (.ref c0)))
    (g_1 : PySem.W.nsIn K mainGlobals "InvalidSides" = some (some (.ref c1)))
    (g_2 : PySem.W.nsIn K mainGlobals "TooMany" = some (some (.ref c2)))
    (g_3 : PySem.W.nsIn K mainGlobals "InvalidValue" = some (some (.ref c3)))
    (g_B : PySem.W.nsIn K mainGlobals "HandedError" = some (some (.ref cB)))
    (et_0 : erT K (cAt [c0, c1, c2, c3]) cB 0 = true)
    (et_1 : erT K (cAt [c0, c1, c2, c3]) cB 1 = true)
    (et_2 : erT K (cAt [c0, c1, c2, c3]) cB 2 = true)
    (et_3 : erT K (cAt [c0, c1, c2, c3]) cB 3 = true)
    (em_2 : PySem.W.exmOne K (.ref c2) (.ref c2) = some true)
    (em_0 : PySem.W.exmOne K (.ref c0) (.ref c0) = some true)
    (gsp : PySem.W.specialIn K (.builtin "object.__class__") "__get__" = some (some (.builtin "getset_descriptor.__get__")))
    (gtk : PySem.W.takesIn K (.builtin "object.__class__") = some true)
    (a_MS : PySem.W.nsIn K mainGlobals "MOST_SIDES" = some (some (.int 4 tMS)))
    (a_MO : PySem.W.nsIn K mainGlobals "MOST_OUTCOMES" = some (some (.int 1000 tMO)))
    (a_MODES : PySem.W.nsIn K mainGlobals "MODES" = some (some (.ref aM)))
    (l_MODES : K.lookup aM = some ⟨.type "tuple", odM, .seq itsM nM, slM⟩)
    (v_MODES : itsM.size ≤ sizeLine ∧ Vals modesV itsM.toList) :
    ∃ fd : FuncData, (∀ (s : Shared) (v : Value), BindsTo s fd ⟨[v], []⟩ [("_law_script", v)]) ∧ ∀ base : Heap, K.In base → base.Ns mainGlobals mg → FnOk l.prog w K mg base CX0 9 fa fd ["_law_script"] (spLaw K) := by
  have e := hfa.symm.trans (PySem.W.mg_of X G a_law)
  cases e
  have F_is_int := fun_mk (st := s_is_int) l_is_int c_is_int k_is_int
  have b_is_int := F_is_int.binds (ps := ["thing"]) fun _ _ _ _ _ _ us hl => match us, hl with | [_], _ => rfl
  have m_is_int := PySem.W.mg_of X G a_is_int
  have F_is_int_between := fun_mk (st := s_is_int_between) l_is_int_between c_is_int_between k_is_int_between
  have b_is_int_between := F_is_int_between.binds (ps := ["thing", "least", "most"]) fun _ _ _ _ _ _ us hl => match us, hl with | [_, _, _], _ => rfl
  have m_is_int_between := PySem.W.mg_of X G a_is_int_between
  have F_check_value := fun_mk (st := s_check_value) l_check_value c_check_value k_check_value
  have b_check_value := F_check_value.binds (ps := ["value"]) fun _ _ _ _ _ _ us hl => match us, hl with | [_], _ => rfl
  have m_check_value := PySem.W.mg_of X G a_check_value
  have F_check_side := fun_mk (st := s_check_side) l_check_side c_check_side k_check_side
  have b_check_side := F_check_side.binds (ps := ["side"]) fun _ _ _ _ _ _ us hl => match us, hl with | [_], _ => rfl
  have m_check_side := PySem.W.mg_of X G a_check_side
  have F_is_side := fun_mk (st := s_is_side) l_is_side c_is_side k_is_side
  have b_is_side := F_is_side.binds (ps := ["thing"]) fun _ _ _ _ _ _ us hl => match us, hl with | [_], _ => rfl
  have m_is_side := PySem.W.mg_of X G a_is_side
  have F_figure := fun_mk (st := s_figure) l_figure c_figure k_figure
  have b_figure := F_figure.binds (ps := ["side", "value"]) fun _ _ _ _ _ _ us hl => match us, hl with | [_, _], _ => rfl
  have m_figure := PySem.W.mg_of X G a_figure
  have F_goes_up := fun_mk (st := s_goes_up) l_goes_up c_goes_up k_goes_up
  have b_goes_up := F_goes_up.binds (ps := ["mode", "step", "figure", "rest"]) fun _ _ _ _ _ _ us hl => match us, hl with | [_, _, _, _], _ => rfl
  have m_goes_up := PySem.W.mg_of X G a_goes_up
  have F_written := fun_mk (st := s_written) l_written c_written k_written
  have b_written := F_written.binds (ps := ["side", "value"]) fun _ _ _ _ _ _ us hl => match us, hl with | [_, _], _ => rfl
  have m_written := PySem.W.mg_of X G a_written
  have F_check_sides := fun_mk (st := s_check_sides) l_check_sides c_check_sides k_check_sides
  have b_check_sides := F_check_sides.binds (ps := ["sides"]) fun _ _ _ _ _ _ us hl => match us, hl with | [_], _ => rfl
  have m_check_sides := PySem.W.mg_of X G a_check_sides
  have F_outcomes := fun_mk (st := s_outcomes) l_outcomes c_outcomes k_outcomes
  have b_outcomes := F_outcomes.binds (ps := ["sides", "value"]) fun _ _ _ _ _ _ us hl => match us, hl with | [_, _], _ => rfl
  have m_outcomes := PySem.W.mg_of X G a_outcomes
  have F_rests := fun_mk (st := s_rests) l_rests c_rests k_rests
  have b_rests := F_rests.binds (ps := ["sides", "value"]) fun _ _ _ _ _ _ us hl => match us, hl with | [_, _], _ => rfl
  have m_rests := PySem.W.mg_of X G a_rests
  have F_rest_of := fun_mk (st := s_rest_of) l_rest_of c_rest_of k_rest_of
  have b_rest_of := F_rest_of.binds (ps := ["sides", "value"]) fun _ _ _ _ _ _ us hl => match us, hl with | [_, _], _ => rfl
  have m_rest_of := PySem.W.mg_of X G a_rest_of
  have F_L_source := fun_mk (st := s_L_source) l_L_source c_L_source k_L_source
  have b_L_source := F_L_source.binds (ps := ["_law_script"]) fun _ _ _ _ _ _ us hl => match us, hl with | [_], _ => rfl
  have m_L_source := PySem.W.mg_of X G a_L_source
  have F_L_draw := fun_mk (st := s_L_draw) l_L_draw c_L_draw k_L_draw
  have b_L_draw := F_L_draw.binds (ps := ["_law_source_here", "_law_limit"]) fun _ _ _ _ _ _ us hl => match us, hl with | [_, _], _ => rfl
  have m_L_draw := PySem.W.mg_of X G a_L_draw
  have F_L_pick := fun_mk (st := s_L_pick) l_L_pick c_L_pick k_L_pick
  have b_L_pick := F_L_pick.binds (ps := ["_law_source_here", "_law_values"]) fun _ _ _ _ _ _ us hl => match us, hl with | [_, _], _ => rfl
  have m_L_pick := PySem.W.mg_of X G a_L_pick
  have F_L_great := fun_mk (st := s_L_great) l_L_great c_L_great k_L_great
  have b_L_great := F_L_great.binds (ps := ["_law_source_here", "_law_digits"]) fun _ _ _ _ _ _ us hl => match us, hl with | [_, _], _ => rfl
  have m_L_great := PySem.W.mg_of X G a_L_great
  have F_L_small_side := fun_mk (st := s_L_small_side) l_L_small_side c_L_small_side k_L_small_side
  have b_L_small_side := F_L_small_side.binds (ps := ["_law_source_here", "_law_most"]) fun _ _ _ _ _ _ us hl => match us, hl with | [_, _], _ => rfl
  have m_L_small_side := PySem.W.mg_of X G a_L_small_side
  have F_L_figure := fun_mk (st := s_L_figure) l_L_figure c_L_figure k_L_figure
  have b_L_figure := F_L_figure.binds (ps := ["_law_side", "_law_value"]) fun _ _ _ _ _ _ us hl => match us, hl with | [_, _], _ => rfl
  have m_L_figure := PySem.W.mg_of X G a_L_figure
  have F_L_handed := fun_mk (st := s_L_handed) l_L_handed c_L_handed k_L_handed
  have b_L_handed := F_L_handed.binds (ps := ["_law_side", "_law_value"]) fun _ _ _ _ _ _ us hl => match us, hl with | [_, _], _ => rfl
  have m_L_handed := PySem.W.mg_of X G a_L_handed
  have F_L_set := fun_mk (st := s_L_set) l_L_set c_L_set k_L_set
  have b_L_set := F_L_set.binds (ps := ["_law_source_here", "_law_most", "_law_many"]) fun _ _ _ _ _ _ us hl => match us, hl with | [_, _, _], _ => rfl
  have m_L_set := PySem.W.mg_of X G a_L_set
  have F_L_written := fun_mk (st := s_L_written) l_L_written c_L_written k_L_written
  have b_L_written := F_L_written.binds (ps := ["_law_sides", "_law_value"]) fun _ _ _ _ _ _ us hl => match us, hl with | [_, _], _ => rfl
  have m_L_written := PySem.W.mg_of X G a_L_written
  have F_L_all := fun_mk (st := s_L_all) l_L_all c_L_all k_L_all
  have b_L_all := F_L_all.binds (ps := ["_law_sides", "_law_value"]) fun _ _ _ _ _ _ us hl => match us, hl with | [_, _], _ => rfl
  have m_L_all := PySem.W.mg_of X G a_L_all
  have F_L_due := fun_mk (st := s_L_due) l_L_due c_L_due k_L_due
  have b_L_due := F_L_due.binds (ps := ["_law_sides", "_law_value"]) fun _ _ _ _ _ _ us hl => match us, hl with | [_, _], _ => rfl
  have m_L_due := PySem.W.mg_of X G a_L_due
  have F_law := fun_mk (st := s_law) l_law c_law k_law
  have b_law := F_law.binds (ps := ["_law_script"]) fun _ _ _ _ _ _ us hl => match us, hl with | [_], _ => rfl
  have m_law := PySem.W.mg_of X G a_law
  have n_len := PySem.W.mg_none_of X G z_len
  have n_abs := PySem.W.mg_none_of X G z_abs
  have n_int := PySem.W.mg_none_of X G z_int
  have n_range := PySem.W.mg_none_of X G z_range
  have n_isinstance := PySem.W.mg_none_of X G z_isinstance
  have n_bool := PySem.W.mg_none_of X G z_bool
  have n_tuple := PySem.W.mg_none_of X G z_tuple
  have n_divmod := PySem.W.mg_none_of X G z_divmod
  have n_list := PySem.W.mg_none_of X G z_list
  have n_sorted := PySem.W.mg_none_of X G z_sorted
  have n_set := PySem.W.mg_none_of X G z_set
  have n_dict := PySem.W.mg_none_of X G z_dict
  have n_ValueError := PySem.W.mg_none_of X G z_ValueError
  have BL : Blt mg := ⟨n_len, n_abs, n_int, n_range⟩
  have T : SideT K mg aM := ⟨n_isinstance, n_int, n_bool, n_tuple, n_len, n_divmod, PySem.W.mg_of X G a_MODES, fun _ => .inr ⟨_, _, _, l_MODES, rfl, rfl, v_MODES.1, v_MODES.2⟩⟩
  have TC : ChkT mg := ⟨n_isinstance, n_int, n_bool, n_tuple, n_list, n_len⟩
  have TM : ModT K mg aM := ⟨T.gM, T.tM⟩
  have AT : AmT mg := ⟨⟨_, PySem.W.mg_of X G a_MS⟩⟩
  have tab : ∀ i, i < 4 → erT K (cAt [c0, c1, c2, c3]) cB i = true := fun i hi => by
    rcases (by omega : i = 0 ∨ i = 1 ∨ i = 2 ∨ i = 3) with e | e | e | e <;> subst e
    · exact et_0
    · exact et_1
    · exact et_2
    · exact et_3
  have tb : ∀ i, i < 4 → errB K (cAt [c0, c1, c2, c3] i) = true ∧ (PySem.W.excIn K (cAt [c0, c1, c2, c3] i) [.type "ValueError", .type "Exception", .type "BaseException", .type "object"] "ValueError.__new__" = true ∧ PySem.W.keepIn K (.ref (cAt [c0, c1, c2, c3] i)) = true) ∧ PySem.W.kitOne K (.ref (cAt [c0, c1, c2, c3] i)) (.type "ValueError") = some true ∧ PySem.W.subIn K (.ref (cAt [c0, c1, c2, c3] i)) (.type "BaseException") = some true ∧ PySem.W.typeIn K (.ref (cAt [c0, c1, c2, c3] i)) = some (.type "type") ∧ PySem.W.exmOne K (.ref (cAt [c0, c1, c2, c3] i)) (.ref cB) = some true ∧ ∀ j, j < 4 → PySem.W.kitOne K (.ref (cAt [c0, c1, c2, c3] i)) (.ref (cAt [c0, c1, c2, c3] j)) = some (decide (i = j)) := fun i hi => by
    have z := tab i hi
    unfold erT exB at z
    simp only [Bool.and_eq_true, decide_eq_true_eq] at z
    obtain ⟨a, b, c, d, e, f, g⟩ := z
    exact ⟨a, b, c, d, e, f, fun j hj => of_decide_eq_true (all_of g hj)⟩
  have R : Er K mg (cAt [c0, c1, c2, c3]) cB := { isi := n_isinstance, ve := n_ValueError, gB := PySem.W.mg_of X G g_B, g0 := PySem.W.mg_of X G g_0, g1 := PySem.W.mg_of X G g_1, g2 := PySem.W.mg_of X G g_2, g3 := PySem.W.mg_of X G g_3, kit := fun i j hi hj => (tb i hi).2.2.2.2.2.2 j hj, kitV := fun i hi => (tb i hi).2.2.1, ec := fun i hi => errB_ok (tb i hi).1, eg := ⟨gsp, gtk⟩, ex := fun i hi => (tb i hi).2.1.1, kp := fun i hi => (tb i hi).2.1.2, sb := fun i hi => (tb i hi).2.2.2.1, ty := fun i hi => (tb i hi).2.2.2.2.1, emB := fun i hi => (tb i hi).2.2.2.2.2.1, em0 := em_0 }
  have AM : AmG mg := ⟨n_isinstance, n_list, n_len, ⟨_, PySem.W.mg_of X G a_MS⟩, n_sorted⟩
  have RG : RsG mg := ⟨⟨_, PySem.W.mg_of X G a_MO⟩, n_sorted, n_set, n_dict⟩
  refine ⟨PySem.W.fnOf "law" "law" (defArgs s_law) (defBody s_law) (defScope s_law) .none kV_law dc_law pm_law an_law cd_law ct_law, fun s v => .of_eq rfl, fun base _ _ => ?_⟩
  have C_is_int : Cal l.prog w K mg base "is_int" 1 ["thing"] spIsInt f_is_int _ := ⟨ok_is_int F_is_int T, m_is_int, k_is_int, b_is_int⟩
  have C_is_int_between : Cal l.prog w K mg base "is_int_between" 2 ["thing", "least", "most"] spBetween f_is_int_between _ := ⟨ok_between F_is_int_between C_is_int, m_is_int_between, k_is_int_between, b_is_int_between⟩
  have C_check_value : Cal l.prog w K mg base "check_value" 2 ["value"] spCheckValue f_check_value _ := ⟨ok_check_value F_check_value C_is_int, m_check_value, k_check_value, b_check_value⟩
  have C_check_side : Cal l.prog w K mg base "check_side" 3 ["side"] spCheckSide f_check_side _ := ⟨ok_check_side F_check_side T C_is_int_between, m_check_side, k_check_side, b_check_side⟩
  have C_goes_up : Cal l.prog w K mg base "_goes_up" 1 ["mode", "step", "figure", "rest"] spGo f_goes_up _ := ⟨ok_goes_up F_goes_up, m_goes_up, k_goes_up, b_goes_up⟩
  have C_figure : Cal l.prog w K mg base "_figure" 2 ["side", "value"] spFig f_figure _ := ⟨ok_figure F_figure T C_goes_up, m_figure, k_figure, b_figure⟩
  have C_written : Cal l.prog w K mg base "written" 3 ["side", "value"] spDue f_written _ := ⟨ok_written F_written C_figure, m_written, k_written, b_written⟩
  have C_is_side : Cal l.prog w K mg base "is_side" 4 ["thing"] spIsSide f_is_side _ := ⟨ok_is_side F_is_side (PySem.W.mg_of X G g_0) C_check_side, m_is_side, k_is_side, b_is_side⟩
  have C_check_sides : Cal l.prog w K mg base "check_sides" 5 ["sides"] spSides f_check_sides _ := ⟨ok_sides F_check_sides AM C_is_side, m_check_sides, k_check_sides, b_check_sides⟩
  have X_outcomes : CalX l.prog w K mg base "outcomes" 6 ["sides", "value"] (spOut (cAt [c0, c1, c2, c3])) f_outcomes _ := ⟨ok_out F_outcomes BL RG R C_check_sides C_check_value C_written, m_outcomes, k_outcomes, b_outcomes⟩
  have C_outcomes : Cal l.prog w K mg base "outcomes" 6 ["sides", "value"] (spOut0 (cAt [c0, c1, c2, c3])) f_outcomes _ := ⟨of_x X_outcomes.ok, m_outcomes, k_outcomes, b_outcomes⟩
  have C_rest_of : Cal l.prog w K mg base "_rest_of" 7 ["sides", "value"] spRest f_rest_of _ := ⟨ok_rest_of F_rest_of C_outcomes, m_rest_of, k_rest_of, b_rest_of⟩
  have X_rests : CalX l.prog w K mg base "rests" 8 ["sides", "value"] (spRests (cAt [c0, c1, c2, c3])) f_rests _ := ⟨ok_rests F_rests X_outcomes C_rest_of, m_rests, k_rests, b_rests⟩
  have C_rests : Cal l.prog w K mg base "rests" 8 ["sides", "value"] (spRests0 (cAt [c0, c1, c2, c3])) f_rests _ := ⟨of_x X_rests.ok, m_rests, k_rests, b_rests⟩
  have C_L_source : Cal l.prog w K mg base "_law_source" 1 ["_law_script"] (spSource K) f_L_source _ := ⟨ok_source F_L_source BL, m_L_source, k_L_source, b_L_source⟩
  have C_L_draw : Cal l.prog w K mg base "_law_draw" 1 ["_law_source_here", "_law_limit"] spDraw f_L_draw _ := ⟨ok_draw F_L_draw BL, m_L_draw, k_L_draw, b_L_draw⟩
  have C_L_pick : Cal l.prog w K mg base "_law_pick" 2 ["_law_source_here", "_law_values"] spPick f_L_pick _ := ⟨ok_pick F_L_pick BL C_L_draw, m_L_pick, k_L_pick, b_L_pick⟩
  have C_L_great : Cal l.prog w K mg base "_law_great" 2 ["_law_source_here", "_law_digits"] spGreat f_L_great _ := ⟨ok_great F_L_great BL C_L_draw, m_L_great, k_L_great, b_L_great⟩
  have C_L_small_side : Cal l.prog w K mg base "_law_small_side" 3 ["_law_source_here", "_law_most"] spSmall f_L_small_side _ := ⟨ok_small F_L_small_side C_L_draw C_L_pick, m_L_small_side, k_L_small_side, b_L_small_side⟩
  have C_L_figure : Cal l.prog w K mg base "_law_figure" 1 ["_law_side", "_law_value"] spFig f_L_figure _ := ⟨ok_L_figure F_L_figure BL, m_L_figure, k_L_figure, b_L_figure⟩
  have C_L_handed : Cal l.prog w K mg base "_law_handed" 2 ["_law_side", "_law_value"] spDue f_L_handed _ := ⟨ok_L_handed F_L_handed C_L_figure, m_L_handed, k_L_handed, b_L_handed⟩
  have C_L_set : Cal l.prog w K mg base "_law_set" 4 ["_law_source_here", "_law_most", "_law_many"] spSet f_L_set _ := ⟨ok_set F_L_set BL C_L_draw C_L_small_side, m_L_set, k_L_set, b_L_set⟩
  have C_L_written : Cal l.prog w K mg base "_law_written" 3 ["_law_sides", "_law_value"] spWrL f_L_written _ := ⟨ok_wrl F_L_written C_L_handed, m_L_written, k_L_written, b_L_written⟩
  have C_L_all : Cal l.prog w K mg base "_law_all" 4 ["_law_sides", "_law_value"] spAll f_L_all _ := ⟨ok_all F_L_all BL RG C_L_written, m_L_all, k_L_all, b_L_all⟩
  have C_L_due : Cal l.prog w K mg base "_law_due" 5 ["_law_sides", "_law_value"] spDueR f_L_due _ := ⟨ok_due F_L_due BL RG C_L_all, m_L_due, k_L_due, b_L_due⟩
  exact ok_law F_law BL AM RG R em_2 C_L_source C_L_draw C_L_pick C_L_great C_L_set C_L_all C_L_due C_rests X_rests
theorem walk {l : PySem.W.OpenLaw} {q : Program} {loose : List Str} {XP : (Str → Option Value) → Heap → Prop} {YP : World → Heap → Prop} {d : DefRec} {K : Params → PySem.W.Frag} (hn : l.most = some 63) (hdf : d.params.defaults = [])
    (hY : ∀ (w : World) (h : Heap), YP w h → (K w.params).In h)
    (F : ∀ (w : World) (mg : Str → Option Value) (fa : Addr) (h : Heap), (K w.params).In h → h.Ns mainGlobals mg → mg d.name = some (.ref fa) →
      ∃ fd : FuncData, (∀ (s : Shared) (u : Value), BindsTo s fd ⟨[u], []⟩ [("_law_script", u)]) ∧ ∀ base : Heap, (K w.params).In base → base.Ns mainGlobals mg → FnOk l.prog w (K w.params) mg base CX0 9 fa fd ["_law_script"] (spLaw (K w.params))) :
    PySem.W.WalkO q loose XP YP l.row.toRowW d [] (fun f vs => PySem.call f vs) :=
  L2.walk_of (n := 63) (k := 9) (x := "_law_script") (CX := fun _ => CX0) (sp := fun w => spLaw (K w.params)) hn (by decide) hdf ⟨rfl, by decide, by decide⟩ hY F (fun _ _ a ns hl _ hS => ⟨a, ns, rfl, hS, hl, fun _ => rfl⟩) fun _ _ _ _ _ z => z
end HT
open PySem PySem.W PyProof.Rows
set_option maxRecDepth 100000 in
set_option maxHeartbeats 0 in
theorem PySem.Challenge.cw_handedtext_k61_whole_resting_sets_holds : PySem.Challenge.rw_handedtext_k61_whole_resting_sets.Holds := by
  w_on; o_law; k_head; (case hw => w_witness2)
  k_fill
  refine HT.walk (l := PySem.Challenge.rw_handedtext_k61_whole_resting_sets) rfl rfl (fun w h Y => PySem.W.kIn_of Y) ?F
  case F =>
    intro w mg fa h KX G hmg
    refine' HT.all_mk KX G hmg ?a_is_int ?l_is_int ?c_is_int ?k_is_int ?a_is_int_between ?l_is_int_between ?c_is_int_between ?k_is_int_between ?a_check_value ?l_check_value ?c_check_value ?k_check_value ?a_check_side ?l_check_side ?c_check_side ?k_check_side ?a_is_side ?l_is_side ?c_is_side ?k_is_side ?a_figure ?l_figure ?c_figure ?k_figure ?a_goes_up ?l_goes_up ?c_goes_up ?k_goes_up ?a_written ?l_written ?c_written ?k_written ?a_check_sides ?l_check_sides ?c_check_sides ?k_check_sides ?a_outcomes ?l_outcomes ?c_outcomes ?k_outcomes ?a_rests ?l_rests ?c_rests ?k_rests ?a_rest_of ?l_rest_of ?c_rest_of ?k_rest_of ?a_L_source ?l_L_source ?c_L_source ?k_L_source ?a_L_draw ?l_L_draw ?c_L_draw ?k_L_draw ?a_L_pick ?l_L_pick ?c_L_pick ?k_L_pick ?a_L_great ?l_L_great ?c_L_great ?k_L_great ?a_L_small_side ?l_L_small_side ?c_L_small_side ?k_L_small_side ?a_L_figure ?l_L_figure ?c_L_figure ?k_L_figure ?a_L_handed ?l_L_handed ?c_L_handed ?k_L_handed ?a_L_set ?l_L_set ?c_L_set ?k_L_set ?a_L_written ?l_L_written ?c_L_written ?k_L_written ?a_L_all ?l_L_all ?c_L_all ?k_L_all ?a_L_due ?l_L_due ?c_L_due ?k_L_due ?a_law ?l_law ?c_law ?k_law ?z_len ?z_abs ?z_int ?z_range ?z_isinstance ?z_bool ?z_tuple ?z_divmod ?z_list ?z_sorted ?z_set ?z_dict ?z_ValueError ?g_0 ?g_1 ?g_2 ?g_3 ?g_B ?et_0 ?et_1 ?et_2 ?et_3 ?em_2 ?em_0 ?gsp ?gtk ?a_MS ?a_MO ?a_MODES ?l_MODES ?v_MODES
    (case a_is_int => k_is)
    (case l_is_int => k_is)
    (case c_is_int => k_is)
    (case k_is_int => k_is)
    (case a_is_int_between => k_is)
    (case l_is_int_between => k_is)
    (case c_is_int_between => k_is)
    (case k_is_int_between => k_is)
    (case a_check_value => k_is)
    (case l_check_value => k_is)
    (case c_check_value => k_is)
    (case k_check_value => k_is)
    (case a_check_side => k_is)
    (case l_check_side => k_is)
    (case c_check_side => k_is)
    (case k_check_side => k_is)
    (case a_is_side => k_is)
    (case l_is_side => k_is)
    (case c_is_side => k_is)
    (case k_is_side => k_is)
    (case a_figure => k_is)
    (case l_figure => k_is)
    (case c_figure => k_is)
    (case k_figure => k_is)
    (case a_goes_up => k_is)
    (case l_goes_up => k_is)
    (case c_goes_up => k_is)
    (case k_goes_up => k_is)
    (case a_written => k_is)
    (case l_written => k_is)
    (case c_written => k_is)
    (case k_written => k_is)
    (case a_check_sides => k_is)
    (case l_check_sides => k_is)
    (case c_check_sides => k_is)
    (case k_check_sides => k_is)
    (case a_outcomes => k_is)
    (case l_outcomes => k_is)
    (case c_outcomes => k_is)
    (case k_outcomes => k_is)
    (case a_rests => k_is)
    (case l_rests => k_is)
    (case c_rests => k_is)
    (case k_rests => k_is)
    (case a_rest_of => k_is)
    (case l_rest_of => k_is)
    (case c_rest_of => k_is)
    (case k_rest_of => k_is)
    (case a_L_source => k_is)
    (case l_L_source => k_is)
    (case c_L_source => k_is)
    (case k_L_source => k_is)
    (case a_L_draw => k_is)
    (case l_L_draw => k_is)
    (case c_L_draw => k_is)
    (case k_L_draw => k_is)
    (case a_L_pick => k_is)
    (case l_L_pick => k_is)
    (case c_L_pick => k_is)
    (case k_L_pick => k_is)
    (case a_L_great => k_is)
    (case l_L_great => k_is)
    (case c_L_great => k_is)
    (case k_L_great => k_is)
    (case a_L_small_side => k_is)
    (case l_L_small_side => k_is)
    (case c_L_small_side => k_is)
    (case k_L_small_side => k_is)
    (case a_L_figure => k_is)
    (case l_L_figure => k_is)
    (case c_L_figure => k_is)
    (case k_L_figure => k_is)
    (case a_L_handed => k_is)
    (case l_L_handed => k_is)
    (case c_L_handed => k_is)
    (case k_L_handed => k_is)
    (case a_L_set => k_is)
    (case l_L_set => k_is)
    (case c_L_set => k_is)
    (case k_L_set => k_is)
    (case a_L_written => k_is)
    (case l_L_written => k_is)
    (case c_L_written => k_is)
    (case k_L_written => k_is)
    (case a_L_all => k_is)
    (case l_L_all => k_is)
    (case c_L_all => k_is)
    (case k_L_all => k_is)
    (case a_L_due => k_is)
    (case l_L_due => k_is)
    (case c_L_due => k_is)
    (case k_L_due => k_is)
    (case a_law => k_is)
    (case l_law => k_is)
    (case c_law => k_is)
    (case k_law => k_is)
    (case z_len => k_is)
    (case z_abs => k_is)
    (case z_int => k_is)
    (case z_range => k_is)
    (case z_isinstance => k_is)
    (case z_bool => k_is)
    (case z_tuple => k_is)
    (case z_divmod => k_is)
    (case z_list => k_is)
    (case z_sorted => k_is)
    (case z_set => k_is)
    (case z_dict => k_is)
    (case z_ValueError => k_is)
    (case g_0 => k_is)
    (case g_1 => k_is)
    (case g_2 => k_is)
    (case g_3 => k_is)
    (case g_B => k_is)
    (case et_0 => kernel_rfl)
    (case et_1 => kernel_rfl)
    (case et_2 => kernel_rfl)
    (case et_3 => kernel_rfl)
    (case em_2 => kernel_rfl)
    (case em_0 => kernel_rfl)
    (case gsp => k_is)
    (case gtk => k_is)
    (case a_MS => k_is)
    (case a_MO => k_is)
    (case a_MODES => k_is)
    (case l_MODES => k_is)
    (case v_MODES => exact ⟨by decide, .cons ⟨_, rfl⟩ (.cons ⟨_, rfl⟩ (.cons ⟨_, rfl⟩ (.cons ⟨_, rfl⟩ (.cons ⟨_, rfl⟩ .nil))))⟩)
#print axioms PySem.Challenge.cw_handedtext_k61_whole_resting_sets_holds
