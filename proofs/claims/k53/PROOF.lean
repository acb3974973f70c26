import PyProof.Rows.All
import Wide.All
import OpenK.AllK
import Wide.FinOn
import HandS.CallSlots
import HandS.Deep
import HandS.Defaults
import HandS.Exc
import HandS.ExcField
import HandS.ExcInit
import HandS.ExcIs
import HandS.ExcValue
import HandS.ForMost
import HandS.HotCalls
import HandS.IsInst
import HandS.MakeKwOnly
import HandS.More
import HandS.NoneIn
import HandS.RaiseFrom
import HandS.ReplaceLit
import HandS.StrMore
import HandS.Style
import HandS.SuiteRaise
import HandS.TryOnly
import HandS.Wide
import HandS.WideBits
import HandS.WordsExc
import KE.KEqDeep
import KE.KEqSeq
import KE.KExcIs
import HandS.Gcd
import HandS.SortKw
import KE.DataMinMax
import HandS.SortInts
import HandS.SetFor
import HandS.Strs
import KE.SortData
import HandS.Walk
import HandS.Conv
import PySem.Challenge.RW_handedtext_k53_whole_so_many_hand_overs
set_option Elab.async false
set_option linter.all false
set_option maxRecDepth 100000
set_option maxHeartbeats 4000000
set_option exponentiation.threshold 9000
open PySem L2
local macro_rules | `(tactic| walk_at "rd") => `(tactic| repeat (first | refine ⟨_, rfl, ?_⟩ | refine ⟨_, _, rfl, rfl, ?_⟩ | refine .inl ⟨_, rfl, ?_⟩))
namespace L2
open PySem PySem.Spec PyProof.Rows
/-- an error that was caught and kept, at a -/
def ExK (cls : Value) (a : Addr) : HO := .ext fun hp => ∃ (rec' : Obj) (cells : Array Value), hp.get? a = some rec' ∧ Zc cls none rec' ∧ rec'.data = .fields cells
/-- wKeep: what 'except x as n' wishes, where the error stays tracked behind the suite -/
def wKeep (K : PySem.W.Frag) (c : Value) (i : Nat) (ts : Addr → Value → Option Addr → TS) (Wout : WX) (D : Ends) : WX := fun kl dd st H =>
  ∃ yes, PySem.W.exmOne K kl c = some yes ∧ (yes = true → dd = none ∧ ∀ a, H a = none → ts a kl dd { nx := fun st' H' => D.nx (st'.set i none) (upd H' a (ExK kl a)), rt := D.rt, bk := fun st' H' => D.bk (st'.set i none) H', ct := fun st' H' => D.ct (st'.set i none) H' } (st.set i (some (.ref a))) H) ∧
    (yes = false → Wout kl dd st H)
section
variable {X : Cx} {pins : List (Addr × Obj)} {st : St} {H : Hp} {sh : Shared}
theorem Inv.adopt {a : Addr} {kl : Value} {rc : Obj} {cells : Array Value} (iv : Inv X pins st H sh) (new0 : X.s_0.heap.get? a = none) (free : H a = none) (at0 : sh.heap.get? a = some rc) (zc : Zc kl none rc) (fl : rc.data = .fields cells) (nl : a ≠ X.env.locals)
    (np : ∀ p ∈ X.pn ++ pins, p.1 ≠ a) : Inv X pins st (upd H a (ExK kl a)) sh := by
  have old : ∀ c rr, X.s_0.heap.get? c = some rr → c ≠ a := fun c rr e z => by
    rw [z, new0] at e
    cases e
  have other : ∀ c u, H c = some u → upd H a (ExK kl a) c = some u := fun c u e => (upd_ne (ne_of_none e free)).trans e
  refine ⟨iv.ok, iv.os, iv.bare, ⟨iv.base.keep, iv.base.slot, fun c rr e n0 nx => ?_, iv.base.there, fun c xs e => other _ _ (iv.base.tups c xs e), fun c rr u e => other _ _ (iv.base.frzs c rr u e), fun c ps e => ?_⟩, iv.loc, iv.cell, ?_, fun y c e => ?_, fun p hp => ?_, fun c u e => ?_, iv.len⟩
  · exact (upd_ne (old c rr e)).trans (iv.base.free c rr e n0 nx)
  · obtain ⟨more, e2⟩ := iv.base.tbls c ps e
    exact ⟨more, other _ _ e2⟩
  · exact (upd_ne nl.symm).trans iv.free
  · obtain ⟨w, rr, e2, e3⟩ := iv.cell y c e
    refine (upd_ne fun z => ?_).trans (iv.freeC y c e)
    subst z
    rw [at0] at e2
    cases e2
    simp [fl] at e3
  · obtain ⟨e1, e2, e3, e4, e5⟩ := iv.pin p hp
    exact ⟨e1, (upd_ne (np p hp)).trans e2, e3, e4, e5⟩
  · by_cases ca : c = a
    · subst ca
      rw [upd_same] at e
      cases e
      exact ⟨⟨rc, cells, at0, zc, fl⟩, ⟨rc, at0⟩, fun _ _ ⟨r2, c2, e2, e3⟩ same => ⟨r2, c2, same _ e2, e3⟩⟩
    · rw [upd_ne ca] at e
      exact (iv.hok c u e).stay (fun _ _ _ e2 => e2) (fun c2 e2 => other _ _ e2) fun c2 xs e2 => other _ _ e2
end
end L2
namespace L2
open PySem PySem.Spec PyProof.Rows
section
variable {X : Cx} {x n : Str} {c : Value} {i : Nat} {body suite : List Stmt} {first : Stmt} {np pos pos' : Pos} {tb : WX → TS} {ts : Addr → Value → Option Addr → TS} {Wout : WX}
/-- try: .. except x as n: suite; the caught error stays tracked behind it -/
theorem ps_try_keep (stk : X.stack = X.env :: X.outer) (frm : X.env.frame = some X.env.locals) (noex : X.ex = []) (dist : X.N.Nodup) (slot : X.N[i]? = some n) (loc : X.env.kindOf n = some .local) (nam : Names X x c) (tk : Takes X Wout)
    (inner : ∀ (W : WX) (pn : List (Addr × Obj)) (xe : Value → Shared → Prop), Takes (X.tr pn xe) W → PassesOwn (model X.prog X.w) X.A X.env xe → PSs (X.tr pn xe) body (tb W))
    (caught : ∀ (a : Addr) (rc : Obj) (kl : Value) (dd : Option Addr) (pn : List (Addr × Obj)), Zc kl dd rc → (∃ cells, rc.data = .fields cells) → PSs (X.suite a ((a, rc) :: pn)) (first :: suite) (ts a kl dd)) :
    PS X (.Try body [.ExceptHandler (some (.Name x np)) (some n) (first :: suite) pos'] [] [] pos) (fun D st H => tb (wKeep X.K c i ts Wout D) D st H) where
  run := fun pins sh st H D iv want => by
    have fine := iv.ok
    have frames : X.A.frames = some (X.env :: X.outer) := by rw [fine.frames, stk]
    refine wpAny_Try_except (wpAny_mono ((inner (wKeep X.K c i ts Wout D) (X.pn ++ pins) _ (fun u sh' air => ?_) PassesOwn.looking).run [] sh st H D (iv.toTry _) want) ?_ fun _ _ e => e)
    · obtain ⟨a, B, shI, pins', st1, H1, kl, dd, rfl, ivT, inB, upTo, sky, freeA, sameOs, bareG, yes, dec, onYes, onNo⟩ := air
      have iv1 : Inv X pins st1 H1 shI := ivT.ofTry fine
      rw [stk] at sky
      refine Sky.land Zc.steady frames frm sky fun hp3 fly3 up3 => ?_
      have bNone : B.get? a = none := fly3.2.1
      have iv3 : Inv X pins st1 H1 { sh' with heap := hp3 } := iv1.landed inB fly3.1 (upTo.trans up3) sameOs bareG
      obtain ⟨rc3, cells3, at3, zc3, dt3⟩ := fly3.there
      have offFrames : a ∉ frs (X.env :: X.outer) := fun mem => by
        obtain ⟨_, r2, e2, bad⟩ := fly3.2.2.1.mem mem
        rw [at3] at e2
        cases e2
        exact bad _ dt3
      have offL : a ≠ X.env.locals := fun z => offFrames (List.mem_filterMap.mpr ⟨X.env, List.mem_cons_self, by rw [frm, z]⟩)
      have offF : a ∉ X.fs := fun mem => by
        obtain ⟨ee, inn, ef⟩ := List.mem_filterMap.mp mem
        exact offFrames (List.mem_filterMap.mpr ⟨ee, List.mem_cons_of_mem _ inn, ef⟩)
      have notThere : shI.heap.get? a = none := by
        cases e : shI.heap.get? a with
        | none => rfl
        | some rr =>
          have z := inB a rr e (by rw [stk]; exact offFrames)
          rw [bNone] at z
          cases z
      have new0 : X.s_0.heap.get? a = none := by
        cases e : X.s_0.heap.get? a with
        | none => rfl
        | some rr =>
          obtain ⟨r2, e2⟩ := iv1.base.there a rr e (by rw [noex]; exact List.not_mem_nil)
          rw [notThere] at e2
          cases e2
      have pinsOff : ∀ p ∈ X.pn ++ pins, p.1 ≠ a := fun p hp z => by
        have e2 := (iv1.pin p hp).1
        rw [z, notThere] at e2
        cases e2
      have inSuite := iv3.suite at3 dt3 freeA offL offF
      refine wpAny_handleBy_cons (codeAny_handlers_test ?_) (by intro q; cases q)
      have theClass : PySem.W.Looks (model X.prog X.w) hp3 (typeOf (.ref a)) kl := fun A' Q' E' s' kk qq => wpAny_typeOf_ref (kk _ _ at3) (by rw [zc3.1]; exact qq)
      have theTest := PySem.W.exm_one (M := model X.prog X.w) iv3.kIn theClass dec
      have clause : ∀ {Q' : Value → Shared → Prop} {E' : Value → Shared → Prop}, Q' c { sh' with heap := hp3 } → wpAny (model X.prog X.w) (X.A.mark (some (.ref a))) (eval (.Name x np) X.env) Q' E' { sh' with heap := hp3 } := fun {Q' E'} qq => by
        obtain ⟨g1, g2, g3 | ⟨g3, g4, g5⟩⟩ := nam
        · exact ld_glob (X := X.suite a ((a, rc3) :: (X.pn ++ pins))) inSuite g1 g3 qq g2
        · exact ld_blt (X := X.suite a ((a, rc3) :: (X.pn ++ pins))) inSuite g1 g3 g4 qq g5 g2
      refine clause (theTest.here ?_)
      cases yes with
      | true =>
        obtain ⟨rfl, go⟩ := onYes rfl
        refine codeAny_handlers_suite_as (HandSPX.lands_againZ fly3 fun hp4 fly4 up4 => ?_)
        have iv4 : Inv X pins st1 H1 { sh' with heap := hp4 } := iv1.landed inB fly4.1 ((upTo.trans up3).trans up4) sameOs bareG
        obtain ⟨rc4, cells4, at4, zc4, dt4⟩ := fly4.there
        refine store_ok (X := X.suite a ((a, rc4) :: (X.pn ++ pins))) (v := .ref a) (iv4.suite at4 dt4 freeA offL offF) dist slot (.inl loc) rfl (fun sh5 iv5 => ?_) (.inr loc)
        refine wpAny_mono ((caught a rc4 kl none (X.pn ++ pins) zc4 ⟨_, dt4⟩).run [] sh5 _ H1 _ iv5 (go a freeA)) (fun flow sh6 came => ?_) fun _ _ z => z.elim
        cases flow with
        | next =>
          obtain ⟨st6, H6, iv6, q6⟩ := came
          have more : Inv X ((a, rc4) :: pins) st6 H6 sh6 := ⟨fine, iv6.os, iv6.bare, iv6.base, iv6.loc, iv6.cell, iv6.free, iv6.freeC, fun p hp => iv6.pin p (List.mem_append_left _ ?_), iv6.hok, iv6.len⟩
          refine gone_ok more dist slot loc fun sh7 iv7 => ?_
          have there : (a, rc4) ∈ X.pn ++ (a, rc4) :: pins := List.mem_append_right _ List.mem_cons_self
          obtain ⟨e1, e2, e3, _⟩ := iv7.pin (a, rc4) there
          have less : Inv X pins (st6.set i none) H6 sh7 := ⟨fine, iv7.os, iv7.bare, iv7.base, iv7.loc, iv7.cell, iv7.free, iv7.freeC, fun p hp => iv7.pin p ?_, iv7.hok, iv7.len⟩
          · exact ⟨_, _, less.adopt new0 e2 e1 zc4 dt4 e3 pinsOff, q6⟩
          · rcases List.mem_append.mp hp with hq | hq
            · exact List.mem_append_left _ hq
            · exact List.mem_append_right _ (List.mem_cons_of_mem _ hq)
          · rcases List.mem_append.mp hp with hq | hq
            · exact List.mem_cons_of_mem _ (List.mem_append_left _ hq)
            · rcases List.mem_cons.mp hq with hr | hr
              · rw [hr]; exact List.mem_cons_self
              · exact List.mem_cons_of_mem _ (List.mem_append_right _ hr)
        | brk =>
          obtain ⟨st6, H6, iv6, q6⟩ := came
          exact gone_ok (iv6.unsuite fine) dist slot loc fun sh7 iv7 => ⟨_, _, iv7, q6⟩
        | cont =>
          obtain ⟨st6, H6, iv6, q6⟩ := came
          exact gone_ok (iv6.unsuite fine) dist slot loc fun sh7 iv7 => ⟨_, _, iv7, q6⟩
        | ret u =>
          obtain ⟨v6, st6, H6, iv6, r6, q6⟩ := came
          exact gone_ok (iv6.unsuite fine) dist slot loc fun sh7 iv7 => ⟨_, _, _, iv7, r6, q6⟩
      | false =>
        show wpAny _ X.A (handleBy (.ref a) X.env []) _ _ _
        refine wpAny_handleBy_nil ?_
        obtain ⟨_, _, _, rc5, cells5, tr5, _, _, at5, _, dt5, at1, _⟩ := id fly3
        unfold PySem.passOn
        refine wpAny_bind (wpAny_field at5 dt5 at1 ?_)
        rw [if_neg (by simp : ¬ (Value.ref tr5 == Value.none) = true)]
        have out : wpAny (model X.prog X.w) X.A (setFlight (.ref a) X.env.frame) (fun _ sh8 => wpAny (model X.prog X.w) X.A (throw (.ref a) : Sem Flow) (SP X pins D) X.xe sh8) X.xe { sh' with heap := hp3 } := by
          rw [frm]
          refine HandSPX.setFlight_upZ fly3 fun hp8 held up8 => wpAny_throw (tk _ _ ?_)
          exact ⟨a, B, shI, pins, st1, H1, kl, dd, rfl, iv1, inB, (upTo.trans up3).trans up8, .inr (.inr (by rw [stk]; exact held)), freeA, sameOs, bareG, onNo rfl⟩
        first
          | exact wpAny_bind out
          | exact wpAny_bind (wpAny_pure (wpAny_bind out))
    · intro flow sh1 came
      cases flow with
      | next =>
        obtain ⟨st1, H1, iv1, q1⟩ := came
        exact wpAny_execs_nil ⟨st1, H1, iv1.ofTry fine, q1⟩
      | brk =>
        obtain ⟨st1, H1, iv1, q1⟩ := came
        exact ⟨st1, H1, iv1.ofTry fine, q1⟩
      | cont =>
        obtain ⟨st1, H1, iv1, q1⟩ := came
        exact ⟨st1, H1, iv1.ofTry fine, q1⟩
      | ret u =>
        obtain ⟨v1, st1, H1, iv1, r1, q1⟩ := came
        exact ⟨v1, st1, H1, iv1.ofTry fine, r1, q1⟩
end
end L2
namespace L2
open PySem PySem.Spec PyProof.Rows
/-- what the written part says of an error class, for isinstance -/
structure ErrC (K : PySem.W.Frag) (C : Addr) : Prop where
  cl : (PySem.W.clsIn K C).isSome = true
  ga : PySem.W.findIn K (.ref C) "__getattribute__" = some (some (.builtin "BaseException.__getattribute__"))
  gg : PySem.W.findIn K (.ref C) "__getattr__" = some none
  sb : PySem.W.subIn K (.ref C) (.type "BaseException") = some true
  cn : PySem.W.findIn K (.ref C) "__class__" = some (some (.builtin "object.__class__"))
  mo : PySem.W.mroIn K C (.type "object") = some true
/-- .. of the attribute __class__ of all objects -/
structure ErrG (K : PySem.W.Frag) : Prop where
  sp : PySem.W.specialIn K (.builtin "object.__class__") "__get__" = some (some (.builtin "getset_descriptor.__get__"))
  tk : PySem.W.takesIn K (.builtin "object.__class__") = some true
def rIsKept (K : PySem.W.Frag) : List V → Hp → VK → Prop := fun xs H Q => ∃ (a C : Addr) (c : V) (cv : Value) (b : Bool), xs = [.ref a, c] ∧ ClsV c cv ∧ H a = some (ExK (.ref C) a) ∧ ErrC K C ∧ ErrG K ∧ PySem.W.kitOne K (.ref C) cv = some b ∧ Q (.bl b) H
theorem call_isKept {X : Cx} : CallR X (.builtin "isinstance") (rIsKept X.K) := by
  intro pins sh st H xs us Q iv r h
  obtain ⟨a, C, c, cv, b, rfl, k, at', T, G, e, q⟩ := h
  obtain ⟨u1, u2, rfl, r1, r2⟩ := vals2 r
  have e2 := k.eq r2
  subst e2
  obtain rfl : u1 = Value.ref a := r1
  obtain ⟨⟨oe, vs, ho, hz, hd⟩, _, _⟩ := iv.hok a _ at'
  have J : PySem.W.InstAt sh.heap a oe C none := by
    obtain ⟨oc, od, oda, osl⟩ := oe
    obtain ⟨h1, h2⟩ := hz
    dsimp only at h1 h2 hd
    subst h1 h2 hd
    exact ⟨ho, rfl, rfl, trivial⟩
  exact PySem.W.kia_one (PySem.W.kitx_exc T.cl T.ga T.gg T.sb T.cn G.sp G.tk T.mo) iv.kIn J e (fun z => nomatch z) fun tk => ⟨.bl b, H, iv.tok tk, rfl, q⟩
end L2
namespace L2
open PySem PySem.Spec PyProof.Rows
/-- a def of which any kind of error may come -/
theorem Fun.okAny {CX' : CXT} {P : Program} {w : World} {K : PySem.W.Frag} {mg : Str → Option Value} {base : Heap} {nm qu : Str} {row : Stmt} {at0 : Addr} {fd : FuncData} {names pars : List Str} {lev : Nat} {want : Sp} (F : Fun K nm qu row at0 fd) (S : FnScope names pars (defScope row)) (len : ∀ vs H Q E, want vs H Q E → vs.length = pars.length)
    (body : ∀ (code : Value) (A : Around) (outer : List Env) (sh : Shared) (H : Hp) (vs : List V) (Q : VK) (E : XK), Room lev (A.deeper (envOfC qu (defScope row) sh.heap.objs.size at0 code)) → want vs H Q E →
      ∃ t, PSs (cxOf CX' P w K mg base names qu (defScope row) at0 code A outer sh H E) (defBody row) t ∧ t { nx := fun _ H' => Q .non H', rt := Q } (start names vs) H) : FnOk P w K mg base CX' (lev + 1) at0 fd pars want := by
  obtain ⟨_, _, _, _, _, _, code, _, _, rfl, there, isCode⟩ := F.ex
  exact fn_of there isCode S len (body code)
/-- X('..') of an own class, for a raise .. from None -/
theorem pmk5_own {X : Cx} {C : Addr} {bmB : List Value} {B newId initId : String} {x m : Str} {j : Nat} {p p2 pos : Pos} (F : ExcBaseFacts B newId initId bmB) (q : PySem.W.excIn X.K C bmB newId = true) (gC : X.mg x = some (.ref C)) (kC : PySem.W.keepIn X.K (.ref C) = true) (r : Raises X (.ref C)) (hg : Gl X x)
    (plain : (x == ("__debug__" : Str)) = false := by decide) : L2H.PMk5 X (.Call (.Name x p) [.Constant (.str m) j p2] [] pos) (fun _ H Q => Q (.ref C) none H) := by
  intro pins sh st H Q iv want
  have arg : PA X [.Constant (.str m) j p2] (tCons (tC (.str m)) tNil) := pa_cons pe_str pa_nil
  refine wpAny_Call_Name_kw (ld_glob iv hg gC (PySem.W.callWith_K (h₀ := X.base) iv.ok.mod.kin kC (thn (arg.run pos pins sh st H (fun vs H1 => vs = [V.str m] ∧ H = H1) iv ⟨rfl, rfl⟩) ?_)) plain)
  rintro us sh1 ⟨vs, H1, iv1, rel, rfl, rfl⟩
  refine ⟨iv1.kIn, ?_⟩
  match us, rel with
  | [u], .cons _ .nil =>
    show wpAny _ _ (call (.ref C) [u]) _ _ _
    obtain ⟨_, _, _, _, _, _, _, _, _, _, _, _, _, _, _, _, _, hC, hN, hni, T⟩ := exc_obj iv1.kIn q
    exact wpAny_call_exc_subT F T hC hN hni (fun h' e made => L2H.mk_of5 iv1 made r want (iv1.hok.gone made.new)) (by show 1 ≤ sizeLine; decide)
/-- try: .. except x: suite, the suite raising: ps_try_onlyX with its reading under a name, for a loop around it -/
def tTryX (K : PySem.W.Frag) (c : Value) (ts : Addr → Value → Option Addr → TS) (Wout : WX) (tb : WX → TS) : TS := fun D st H => tb (wOnly K c ts Wout D) D st H
theorem ps_tryX {X : Cx} {x : Str} {c : Value} {body suite : List Stmt} {first : Stmt} {np pos pos' : Pos} {tb : WX → TS} {ts : Addr → Value → Option Addr → TS} {Wout : WX} (h1 : X.stack = X.env :: X.outer) (h2 : X.env.frame = some X.env.locals) (h3 : Names X x c)
    (h4 : ∀ hd : Option Value, PassesOwnAt (model X.prog X.w) (X.A.mark hd) X.A X.env X.xe) (h5 : L2.Takes X Wout)
    (h6 : ∀ (W : WX) (pn : List (Addr × Obj)) (xe : Value → Shared → Prop), L2N.Takes (X.tr pn xe) W → L2.Takes (X.tr pn xe) (L2H.wPass X.K c Wout) → PassesOwn (model X.prog X.w) X.A X.env xe → PSs (X.tr pn xe) body (tb W))
    (h7 : ∀ (a : Addr) (oe : Obj) (cls : Value) (d : Option Addr) (pn : List (Addr × Obj)), L2N.Zn cls d oe → (∃ vs, oe.data = .fields vs) → L2.Takes (L2H.suiteX X a ((a, oe) :: pn)) Wout → L2H.HotC (L2H.suiteX X a ((a, oe) :: pn)) → PSs (L2H.suiteX X a ((a, oe) :: pn)) (first :: suite) (ts a cls d)) :
    PS X (.Try body [.ExceptHandler (some (.Name x np)) none (first :: suite) pos'] [] [] pos) (tTryX X.K c ts Wout tb) := L2H.ps_try_onlyX h1 h2 h3 h4 h5 h6 h7
end L2
namespace HT
open PySem L2
/-- a test whose ways are joined by a statement of the heap -/
def tMidT (t : TT) : TT := fun σ H Q => ∃ M : Bool → Hp → Prop, t σ H M ∧ ∀ b H', M b H' → Q b H'
def tMidE (t : TE) : TE := fun σ H Q => ∃ M : V → Hp → Prop, t σ H M ∧ ∀ v H', M v H' → Q v H'
def tMidS (t : TS) : TS := fun D σ H => ∃ M : St → Hp → Prop, t { D with nx := M } σ H ∧ ∀ σ' H', M σ' H' → D.nx σ' H'
theorem pt_mid {X : Cx} {e : Expr} {t : TT} (h : PT X e t) : PT X e (tMidT t) :=
  ⟨fun pins s σ H _ I ⟨M, a, b⟩ => thn (h.run pins s σ H M I a) fun c _ ⟨H1, I1, q1⟩ => ⟨H1, I1, b c H1 q1⟩⟩
theorem pe_mid {X : Cx} {e : Expr} {t : TE} (h : PE X e t) : PE X e (tMidE t) :=
  ⟨fun pins s σ H _ I ⟨M, a, b⟩ => thn (h.run pins s σ H M I a) fun _ _ ⟨v, H1, I1, r, q1⟩ => ⟨v, H1, I1, r, b v H1 q1⟩⟩
theorem ps_mid {X : Cx} {st : Stmt} {t : TS} (h : PS X st t) : PS X st (tMidS t) :=
  ⟨fun pins s σ H D I ⟨M, a, b⟩ => thn (h.run pins s σ H { D with nx := M } I a) fun f _ q => by
    cases f with
    | next => obtain ⟨σ', H', I', q⟩ := q; exact ⟨σ', H', I', b σ' H' q⟩
    | brk => exact q
    | cont => exact q
    | ret v => exact q⟩
end HT
namespace HT
open PySem L2
def top (i : Nat) : Stmt := PySem.Challenge.pw_handedtext_k53_whole_so_many_hand_overs.main.body.getD i (.Pass ⟨0, 0, 0, 0⟩)
abbrev s_is_int : Stmt := top 9
abbrev s_is_int_between : Stmt := top 10
abbrev s_check_value : Stmt := top 11
abbrev s_check_side : Stmt := top 15
abbrev s_is_side : Stmt := top 16
abbrev s_figure : Stmt := top 17
abbrev s_goes_up : Stmt := top 18
abbrev s_written : Stmt := top 19
abbrev s_mirror : Stmt := top 20
abbrev s_check_sides : Stmt := top 23
abbrev s_period_of : Stmt := top 24
abbrev s_common_period : Stmt := top 25
abbrev s_highest : Stmt := top 26
abbrev s_mirrors : Stmt := top 27
abbrev s_within : Stmt := top 31
abbrev s_highest_within : Stmt := top 32
abbrev s_continued : Stmt := top 33
abbrev s_L_source : Stmt := top 35
abbrev s_L_draw : Stmt := top 36
abbrev s_L_pick : Stmt := top 37
abbrev s_L_divisor : Stmt := top 38
abbrev s_L_great : Stmt := top 39
abbrev s_L_small_side : Stmt := top 40
abbrev s_L_figure : Stmt := top 41
abbrev s_L_handed : Stmt := top 42
abbrev s_L_period : Stmt := top 43
abbrev s_L_set : Stmt := top 44
abbrev s_L_written : Stmt := top 45
abbrev s_L_all : Stmt := top 46
abbrev s_L_furthest : Stmt := top 47
abbrev s_L_word : Stmt := top 48
abbrev s_L_fits : Stmt := top 49
abbrev s_law : Stmt := top 50
/- is_int: 0:thing -/
theorem sc_is_int : FnScope ["thing"] ["thing"] (defScope s_is_int) := ⟨rfl, rfl, rfl, by decide +kernel, rfl, by decide +kernel, by decide +kernel⟩
/- is_int_between: 0:thing 1:least 2:most -/
theorem sc_is_int_between : FnScope ["thing", "least", "most"] ["thing", "least", "most"] (defScope s_is_int_between) := ⟨rfl, rfl, rfl, by decide +kernel, rfl, by decide +kernel, by decide +kernel⟩
/- check_value: 0:value -/
theorem sc_check_value : FnScope ["value"] ["value"] (defScope s_check_value) := ⟨rfl, rfl, rfl, by decide +kernel, rfl, by decide +kernel, by decide +kernel⟩
/- check_side: 0:side 1:offset 2:step 3:mode -/
theorem sc_check_side : FnScope ["side", "offset", "step", "mode"] ["side"] (defScope s_check_side) := ⟨rfl, rfl, rfl, by decide +kernel, rfl, by decide +kernel, by decide +kernel⟩
/- is_side: 0:thing -/
theorem sc_is_side : FnScope ["thing"] ["thing"] (defScope s_is_side) := ⟨rfl, rfl, rfl, by decide +kernel, rfl, by decide +kernel, by decide +kernel⟩
/- _figure: 0:side 1:value 2:offset 3:step 4:mode 5:figure 6:rest -/
theorem sc_figure : FnScope ["side", "value", "offset", "step", "mode", "figure", "rest"] ["side", "value"] (defScope s_figure) := ⟨rfl, rfl, rfl, by decide +kernel, rfl, by decide +kernel, by decide +kernel⟩
/- _goes_up: 0:mode 1:step 2:figure 3:rest -/
theorem sc_goes_up : FnScope ["mode", "step", "figure", "rest"] ["mode", "step", "figure", "rest"] (defScope s_goes_up) := ⟨rfl, rfl, rfl, by decide +kernel, rfl, by decide +kernel, by decide +kernel⟩
/- written: 0:side 1:value 2:offset 3:step 4:_ -/
theorem sc_written : FnScope ["side", "value", "offset", "step", "_"] ["side", "value"] (defScope s_written) := ⟨rfl, rfl, rfl, by decide +kernel, rfl, by decide +kernel, by decide +kernel⟩
/- mirror: 0:side 1:offset 2:step 3:mode -/
theorem sc_mirror : FnScope ["side", "offset", "step", "mode"] ["side"] (defScope s_mirror) := ⟨rfl, rfl, rfl, by decide +kernel, rfl, by decide +kernel, by decide +kernel⟩
/- check_sides: 0:sides 1:side -/
theorem sc_check_sides : FnScope ["sides", "side"] ["sides"] (defScope s_check_sides) := ⟨rfl, rfl, rfl, by decide +kernel, rfl, by decide +kernel, by decide +kernel⟩
/- period_of: 0:side 1:_ 2:step 3:mode -/
theorem sc_period_of : FnScope ["side", "_", "step", "mode"] ["side"] (defScope s_period_of) := ⟨rfl, rfl, rfl, by decide +kernel, rfl, by decide +kernel, by decide +kernel⟩
/- common_period: 0:sides 1:many 2:side -/
theorem sc_common_period : FnScope ["sides", "many", "side"] ["sides"] (defScope s_common_period) := ⟨rfl, rfl, rfl, by decide +kernel, rfl, by decide +kernel, by decide +kernel⟩
/- highest: 0:sides 1:value 2:side -/
theorem sc_highest : FnScope ["sides", "value", "side"] ["sides", "value"] (defScope s_highest) := ⟨rfl, rfl, rfl, by decide +kernel, rfl, by decide +kernel, by decide +kernel⟩
/- mirrors: 0:sides 1:side -/
theorem sc_mirrors : FnScope ["sides", "side"] ["sides"] (defScope s_mirrors) := ⟨rfl, rfl, rfl, by decide +kernel, rfl, by decide +kernel, by decide +kernel⟩
/- within: 0:sides 1:value 2:many 3:greatest -/
theorem sc_within : FnScope ["sides", "value", "many", "greatest"] ["sides", "value", "many"] (defScope s_within) := ⟨rfl, rfl, rfl, by decide +kernel, rfl, by decide +kernel, by decide +kernel⟩
/- _highest_within: 0:sides 1:value 2:many 3:period 4:values 5:numbers 6:number 7:place -/
theorem sc_highest_within : FnScope ["sides", "value", "many", "period", "values", "numbers", "number", "place"] ["sides", "value", "many"] (defScope s_highest_within) := ⟨rfl, rfl, rfl, by decide +kernel, rfl, by decide +kernel, by decide +kernel⟩
/- _continued: 0:values 1:following 2:many 3:rounds 4:number -/
theorem sc_continued : FnScope ["values", "following", "many", "rounds", "number"] ["values", "following", "many"] (defScope s_continued) := ⟨rfl, rfl, rfl, by decide +kernel, rfl, by decide +kernel, by decide +kernel⟩
/- _law_source: 0:_law_script 1:_law_cells 2:_law_k -/
theorem sc_L_source : FnScope ["_law_script", "_law_cells", "_law_k"] ["_law_script"] (defScope s_L_source) := ⟨rfl, rfl, rfl, by decide +kernel, rfl, by decide +kernel, by decide +kernel⟩
/- _law_draw: 0:_law_source_here 1:_law_limit 2:_law_cells 3:_law_turn 4:_law_place 5:_law_cell 6:_law_number -/
theorem sc_L_draw : FnScope ["_law_source_here", "_law_limit", "_law_cells", "_law_turn", "_law_place", "_law_cell", "_law_number"] ["_law_source_here", "_law_limit"] (defScope s_L_draw) := ⟨rfl, rfl, rfl, by decide +kernel, rfl, by decide +kernel, by decide +kernel⟩
/- _law_pick: 0:_law_source_here 1:_law_values -/
theorem sc_L_pick : FnScope ["_law_source_here", "_law_values"] ["_law_source_here", "_law_values"] (defScope s_L_pick) := ⟨rfl, rfl, rfl, by decide +kernel, rfl, by decide +kernel, by decide +kernel⟩
/- _law_divisor: 0:_law_one 1:_law_other -/
theorem sc_L_divisor : FnScope ["_law_one", "_law_other"] ["_law_one", "_law_other"] (defScope s_L_divisor) := ⟨rfl, rfl, rfl, by decide +kernel, rfl, by decide +kernel, by decide +kernel⟩
/- _law_great: 0:_law_source_here 1:_law_digits 2:_law_number 3:_law_k -/
theorem sc_L_great : FnScope ["_law_source_here", "_law_digits", "_law_number", "_law_k"] ["_law_source_here", "_law_digits"] (defScope s_L_great) := ⟨rfl, rfl, rfl, by decide +kernel, rfl, by decide +kernel, by decide +kernel⟩
/- _law_small_side: 0:_law_source_here 1:_law_most 2:_law_offset -/
theorem sc_L_small_side : FnScope ["_law_source_here", "_law_most", "_law_offset"] ["_law_source_here", "_law_most"] (defScope s_L_small_side) := ⟨rfl, rfl, rfl, by decide +kernel, rfl, by decide +kernel, by decide +kernel⟩
/- _law_figure: 0:_law_side 1:_law_value 2:_law_offset 3:_law_step 4:_law_mode 5:_law_low 6:_law_rest -/
theorem sc_L_figure : FnScope ["_law_side", "_law_value", "_law_offset", "_law_step", "_law_mode", "_law_low", "_law_rest"] ["_law_side", "_law_value"] (defScope s_L_figure) := ⟨rfl, rfl, rfl, by decide +kernel, rfl, by decide +kernel, by decide +kernel⟩
/- _law_handed: 0:_law_side 1:_law_value -/
theorem sc_L_handed : FnScope ["_law_side", "_law_value"] ["_law_side", "_law_value"] (defScope s_L_handed) := ⟨rfl, rfl, rfl, by decide +kernel, rfl, by decide +kernel, by decide +kernel⟩
/- _law_period: 0:_law_sides 1:_law_period_here 2:_law_offset 3:_law_step 4:_law_mode 5:_law_length -/
theorem sc_L_period : FnScope ["_law_sides", "_law_period_here", "_law_offset", "_law_step", "_law_mode", "_law_length"] ["_law_sides"] (defScope s_L_period) := ⟨rfl, rfl, rfl, by decide +kernel, rfl, by decide +kernel, by decide +kernel⟩
/- _law_set: 0:_law_source_here 1:_law_most 2:_law_many 3:_law_k -/
theorem sc_L_set : FnScope ["_law_source_here", "_law_most", "_law_many", "_law_k"] ["_law_source_here", "_law_most", "_law_many"] (defScope s_L_set) := ⟨rfl, rfl, rfl, by decide +kernel, rfl, by decide +kernel, by decide +kernel⟩
/- _law_written: 0:_law_sides 1:_law_value 2:_law_one -/
theorem sc_L_written : FnScope ["_law_sides", "_law_value", "_law_one"] ["_law_sides", "_law_value"] (defScope s_L_written) := ⟨rfl, rfl, rfl, by decide +kernel, rfl, by decide +kernel, by decide +kernel⟩
/- _law_all: 0:_law_sides 1:_law_value 2:_law_many 3:_law_found 4:_law_turn 5:_law_more 6:_law_one -/
theorem sc_L_all : FnScope ["_law_sides", "_law_value", "_law_many", "_law_found", "_law_turn", "_law_more", "_law_one"] ["_law_sides", "_law_value", "_law_many"] (defScope s_L_all) := ⟨rfl, rfl, rfl, by decide +kernel, rfl, by decide +kernel, by decide +kernel⟩
/- _law_furthest: 0:_law_sides 1:_law_value 2:_law_many 3:_law_sign 4:_law_period_here 5:_law_row 6:_law_known_rests 7:_law_some 8:_law_begin 9:_law_length 10:_law_turns 11:_law_move -/
theorem sc_L_furthest : FnScope ["_law_sides", "_law_value", "_law_many", "_law_sign", "_law_period_here", "_law_row", "_law_known_rests", "_law_some", "_law_begin", "_law_length", "_law_turns", "_law_move"] ["_law_sides", "_law_value", "_law_many", "_law_sign"] (defScope s_L_furthest) := ⟨rfl, rfl, rfl, by decide +kernel, rfl, by decide +kernel, by decide +kernel⟩
/- _law_word: 0:_law_sides 1:_law_value 2:_law_many 3:_law_caught 4:_law_found 5:e -/
theorem sc_L_word : FnScope ["_law_sides", "_law_value", "_law_many", "_law_caught", "_law_found", "e"] ["_law_sides", "_law_value", "_law_many"] (defScope s_L_word) := ⟨rfl, rfl, rfl, by decide +kernel, rfl, by decide +kernel, by decide +kernel⟩
/- _law_fits: 0:_law_source_here 1:_law_sides 2:_law_factor 3:_law_one 4:_law_lifted 5:_law_k 6:_law_value 7:_law_few 8:_law_kept 9:_law_found 10:_law_end 11:_law_many 12:_law_due 13:_law_more -/
theorem sc_L_fits : FnScope ["_law_source_here", "_law_sides", "_law_factor", "_law_one", "_law_lifted", "_law_k", "_law_value", "_law_few", "_law_kept", "_law_found", "_law_end", "_law_many", "_law_due", "_law_more"] ["_law_source_here", "_law_sides", "_law_factor"] (defScope s_L_fits) := ⟨rfl, rfl, rfl, by decide +kernel, rfl, by decide +kernel, by decide +kernel⟩
/- law: 0:_law_script 1:_law_source_here 2:_law_turn 3:_law_sides 4:_law_factor 5:_law_step 6:_law_pair 7:_law_low 8:_law_up 9:_law_down 10:_law_many 11:_law_late 12:_law_found -/
theorem sc_law : FnScope ["_law_script", "_law_source_here", "_law_turn", "_law_sides", "_law_factor", "_law_step", "_law_pair", "_law_low", "_law_up", "_law_down", "_law_many", "_law_late", "_law_found"] ["_law_script"] (defScope s_law) := ⟨rfl, rfl, rfl, by decide +kernel, rfl, by decide +kernel, by decide +kernel⟩

end HT
namespace L2
open PySem PySem.Spec PyProof.Rows
/-- powers of great numbers -/
def CPowW (i j : Int) : Prop := 0 ≤ j ∧ (Builtin.Int.intBits i : Int) * j ≤ 2 ^ 27
theorem op_powW {X : Cx} : OpR X (binaryOp .Pow) (rI CPowW fun i j => .int (i ^ j.toNat)) := opI fun _ _ _ _ _ _ _ hc q => pow_int hc.1 hc.2 q
end L2
namespace HT
open PySem L2
/-- the law's source of draws: a list of its cells' list and the turn -/
structure Src (H : Hp) (a c : Addr) (t : Nat) : Prop where
  ne : a ≠ c
  ob : H a = some (.lst [.ref c, .int (t : Int)])
  cl : ∃ cs : List Int, H c = some (.lst (cs.map V.int)) ∧ 0 < cs.length ∧ cs.length ≤ 63
/-- nothing else is touched -/
def Oth (a c : Addr) (H H' : Hp) : Prop := ∀ b o, H b = some o → b ≠ a → b ≠ c → H' b = some o
theorem Oth.refl (a c : Addr) (H : Hp) : Oth a c H H := fun _ _ h _ _ => h
theorem Oth.trans {a c : Addr} {H H1 H2 : Hp} (x : Oth a c H H1) (y : Oth a c H1 H2) : Oth a c H H2 := fun b o h n m => y b o (x b o h n m) n m
theorem Oth.new {a c p : Addr} {H H1 : Hp} {o : HO} (x : Oth a c H H1) (n : H1 p = none) : Oth a c H (upd H1 p o) := fun b u h na nc => by
  rw [upd_ne (ne_of_none (x b u h na nc) n)]
  exact x b u h na nc
theorem Src.new {a c p : Addr} {H : Hp} {t : Nat} {o : HO} (S : Src H a c t) (n : H p = none) : Src (upd H p o) a c t := by
  obtain ⟨cs, h, l⟩ := S.cl
  exact ⟨S.ne, by rw [upd_ne (ne_of_none S.ob n)]; exact S.ob, cs, by rw [upd_ne (ne_of_none h n)]; exact h, l⟩
theorem Src.of_same {a c : Addr} {H H' : Hp} {t : Nat} (S : Src H a c t) (e : Same H H') : Src H' a c t := by
  obtain ⟨cs, h, l⟩ := S.cl
  exact ⟨S.ne, e _ _ S.ob, cs, e _ _ h, l⟩
theorem Src.na {a c p : Addr} {H : Hp} {t : Nat} (S : Src H a c t) (n : H p = none) : p ≠ a ∧ p ≠ c := by
  obtain ⟨cs, h, l⟩ := S.cl
  exact ⟨(ne_of_none S.ob n).symm, (ne_of_none h n).symm⟩
theorem Src.nt {a c p : Addr} {H : Hp} {t : Nat} {xs : List V} (S : Src H a c t) (n : H p = some (.tup xs)) : p ≠ a ∧ p ≠ c := by
  obtain ⟨cs, h, l⟩ := S.cl
  exact ⟨ne_of n S.ob (by intro z; cases z), ne_of n h (by intro z; cases z)⟩
def spSource (K : PySem.W.Frag) : Sp := fun vs H Q _ => ∃ (l : Addr) (ns : List Int), vs = [.ref l] ∧ SqL K H l (ns.map V.int) ∧ ns.length ≤ 63 ∧
  ∀ a c H', Same H H' → H a = none → H c = none → Src H' a c 0 → Q (.ref a) H'
def spDraw : Sp := fun vs H Q _ => ∃ (a c : Addr) (t : Nat) (lim : Int), vs = [.ref a, .int lim] ∧ Src H a c t ∧ t < 2 ^ 30 ∧ 0 < lim ∧ lim.natAbs.log2 < 9000 ∧
  ∀ k H', 0 ≤ k → k < lim → Src H' a c (t + 1) → Oth a c H H' → Q (.int k) H'
/-- what the walk asks of the names that the text does not bind -/
structure Blt (mg : Str → Option Value) : Prop where
  len : mg "len" = none
  abs : mg "abs" = none
  int : mg "int" = none
  range : mg "range" = none
section
variable {P : Program} {w : World} {K : PySem.W.Frag} {mg : Str → Option Value} {base : Heap}
theorem fdiv_ok (i : Int) {j : Int} (h : 0 < j) (h9 : j.natAbs.log2 < 9000) : CDivW i j := ⟨h, h9⟩
theorem atI_in {xs : List Int} {i : Int} (h0 : 0 ≤ i) (h : i < (xs.length : Int)) : atI (xs.map V.int) i = some (.int (xs.getD i.toNat 0)) := by
  have e : ixN (xs.map V.int).length i = some i.toNat := by
    unfold ixN
    rw [List.length_map, if_pos h0, if_pos h]
  unfold atI
  rw [e]
  show (xs.map V.int)[i.toNat]? = _
  have hl : i.toNat < xs.length := by omega
  rw [List.getElem?_map, List.getElem?_eq_getElem hl, List.getD_eq_getElem?_getD, List.getElem?_eq_getElem hl]
  rfl
theorem ixN_in {n : Nat} {i : Int} (h0 : 0 ≤ i) (h : i < (n : Int)) : ixN n i = some i.toNat := by
  unfold ixN
  rw [if_pos h0, if_pos h]
theorem b_mod (x : Int) : -(2 ^ 64) < x % 2147483629 ∧ x % 2147483629 < 2 ^ 64 := by omega
theorem b_mod1 (x : Int) : -(2 ^ 64) < x % 2147483647 ∧ x % 2147483647 < 2 ^ 64 := by omega
theorem b_t {t : Nat} (h : t < 2 ^ 30) : -(2 ^ 64) < (t : Int) ∧ (t : Int) < 2 ^ 64 := by omega
theorem b_tt {t : Nat} (h : t < 2 ^ 30) : -(2 ^ 64) < (t : Int) * t ∧ (t : Int) * t < 2 ^ 64 := by
  have h1 : t * t < 2 ^ 30 * 2 ^ 30 := Nat.mul_lt_mul'' h h
  have h2 : ((t * t : Nat) : Int) = (t : Int) * t := Int.natCast_mul t t
  omega
theorem set_ints (xs : List Int) (j : Nat) (y : Int) : (xs.map V.int).set j (.int y) = (xs.set j y).map V.int := by
  rw [List.map_set]
theorem ok_draw {f : Addr} {fd : FuncData} (F : Fun K "_law_draw" "_law_draw" s_L_draw f fd) (B : Blt mg) : FnOk P w K mg base CX0 1 f fd ["_law_source_here", "_law_limit"] spDraw := by
  refine F.ok sc_L_draw (fun vs H Q E h => ?_) (fun cdv A outer s H vs Q E hr h => ?_)
  · obtain ⟨a, c, t, lim, rfl, _⟩ := h
    rfl
  · obtain ⟨a, c, t, lim, rfl, S, ht, hl0, hl9, q⟩ := h
    obtain ⟨cs, hc, hn0, hn⟩ := S.cl
    have nd := sc_L_draw.nd
    refine ⟨_, pss_cons (ps_asg (pv 0) (pg_unl (n := 2) (by rfl) (pgs_cons (pg_name (i := 2) nd rfl (Or.inl rfl)) (pgs_cons (pg_name (i := 3) nd rfl (Or.inl rfl)) pgs_nil))))
      (pss_cons (ps_set (i := 4) nd rfl (Or.inl rfl) (pe_op op_mod (pe_callTy call_int1 (by rfl) B.int (by decide +kernel) (pa_cons (pv 3) pa_nil)) (pe_callB call_len_seq (by rfl) B.len PySem.boot_len (pa_cons (pv 2) pa_nil))))
      (pss_cons (ps_set (i := 5) nd rfl (Or.inl rfl) (pe_ix ix_list (pv 2) (pv 4) (fun _ _ => rfl)))
      (pss_cons (ps_asg (pe_op op_add (pv 3) pe_int) (pg_sub (pv 0) pe_int set_list))
      (pss_cons (ps_if (pt_cmpR op_ge (pv 5) (pe_op op_pow pe_int pe_int) (nomark _))
        (pss_cons (ps_asg (pe_op op_fdivW (pv 5) (pv 1)) (pg_sub (pv 2) (pv 4) set_list))
          (pss_one (ps_ret (pe_op op_mod (pe_callTy call_int1 (by rfl) B.int (by decide +kernel) (pa_cons (pv 5) pa_nil)) (pv 1))))) pss_nil)
      (pss_cons (ps_set (i := 6) nd rfl (Or.inl rfl) (pe_op op_mod (pe_callTy call_int1 (by rfl) B.int (by decide +kernel) (pa_cons
          (pe_op op_add (pe_op op_add (pe_op op_mul (pe_op op_mod (pe_callTy call_int1 (by rfl) B.int (by decide +kernel) (pa_cons (pv 5) pa_nil)) pe_int) pe_int) (pe_op op_mul (pe_op op_mul (pv 3) (pv 3)) pe_int)) pe_int) pa_nil)) pe_int))
      (pss_cons (ps_set (i := 6) nd rfl (Or.inl rfl) (pe_op op_mod (pe_callTy call_int1 (by rfl) B.int (by decide +kernel) (pa_cons (pe_op op_mul (pv 6) (pv 6)) pa_nil)) pe_int))
      (pss_cons (ps_set (i := 6) nd rfl (Or.inl rfl) (pe_op op_mod (pe_callTy call_int1 (by rfl) B.int (by decide +kernel) (pa_cons (pe_op op_mul (pv 6) (pv 6)) pa_nil)) pe_int))
      (pss_one (ps_ret (pe_op op_mod (pe_callTy call_int1 (by rfl) B.int (by decide +kernel) (pa_cons (pv 6) pa_nil)) (pv 1))))))))))), ?_⟩
    -- _law_cells, _law_turn = _law_source_here
    walk_at "rd"
    refine ⟨a, _, rfl, SqL.of S.ob, rfl, _, _, rfl, _, _, rfl, rfl, ?_⟩
    -- _law_place
    walk_at "rd"
    have hn0' : (0 : Int) < ((cs.map V.int).length : Nat) := by rw [List.length_map]; omega
    refine ⟨c, _, rfl, .inl (SqL.of hc), _, _, rfl, rfl, hn0', ?_⟩
    have hp0 : 0 ≤ (t : Int) % ((cs.map V.int).length : Nat) := Int.emod_nonneg _ (by omega)
    have hp1 : (t : Int) % ((cs.map V.int).length : Nat) < ((cs.map V.int).length : Nat) := Int.emod_lt_of_pos _ hn0'
    have hp1' : (t : Int) % ((cs.map V.int).length : Nat) < (cs.length : Int) := by rw [List.length_map] at hp1 ⊢; exact hp1
    -- _law_cell
    walk_at "rd"
    refine ⟨c, _, _, _, rfl, rfl, SqL.of hc, atI_in hp0 hp1', ?_⟩
    -- _law_source_here[1] = _law_turn + 1
    walk_at "rd"
    refine ⟨a, _, 1, 1, rfl, rfl, S.ob, rfl, ?_⟩
    have S1 : Src (upd H a (.lst ([V.ref c, V.int t].set 1 (.int ((t : Int) + 1))))) a c (t + 1) := ⟨S.ne, by rw [upd_same]; rfl, cs, by rw [upd_ne S.ne.symm]; exact hc, hn0, hn⟩
    have O1 : Oth a c H (upd H a (.lst ([V.ref c, V.int t].set 1 (.int ((t : Int) + 1))))) := fun b o h na _ => by rw [upd_ne na]; exact h
    have hc1 : upd H a (.lst ([V.ref c, V.int t].set 1 (.int ((t : Int) + 1)))) c = some (.lst (cs.map V.int)) := by rw [upd_ne S.ne.symm]; exact hc
    generalize upd H a (.lst ([V.ref c, V.int t].set 1 (.int ((t : Int) + 1)))) = H1 at S1 O1 hc1 ⊢
    -- if _law_cell >= 10 ** 18
    walk_at "rd"
    refine ⟨⟨by decide, by decide, by decide⟩, ?_⟩
    walk_at "rd"
    refine ite2 (fun _ => ?_) (fun _ => ?_)
    · walk_at "rd"
      refine ⟨fdiv_ok _ hl0 hl9, ?_⟩
      walk_at "rd"
      refine ⟨c, _, _, _, rfl, rfl, hc1, ixN_in hp0 hp1, ?_⟩
      walk_at "rd"
      refine ⟨hl0, ?_⟩
      rw [set_ints]
      refine q _ _ (Int.emod_nonneg _ (by omega)) (Int.emod_lt_of_pos _ hl0) ⟨S1.ne, by rw [upd_ne S1.ne]; exact S1.ob, _, upd_same, by rw [List.length_set]; exact hn0, by rw [List.length_set]; exact hn⟩ fun b o h na nc => ?_
      rw [upd_ne nc]
      exact O1 b o h na nc
    · walk_at "rd"
      refine ⟨(by show (0 : Int) < 2147483629; decide), ?_⟩
      walk_at "rd"
      refine ⟨.inl (b_mod _), ?_⟩
      walk_at "rd"
      refine ⟨.inl (b_t ht), ?_⟩
      walk_at "rd"
      refine ⟨.inl (b_tt ht), ?_⟩
      walk_at "rd"
      refine ⟨(by show (0 : Int) < 2147483647; decide), ?_⟩
      walk_at "rd"
      refine ⟨.inl (b_mod1 _), ?_⟩
      walk_at "rd"
      refine ⟨(by show (0 : Int) < 2147483629; decide), ?_⟩
      walk_at "rd"
      refine ⟨.inl (b_mod _), ?_⟩
      walk_at "rd"
      refine ⟨(by show (0 : Int) < 2147483587; decide), ?_⟩
      walk_at "rd"
      refine ⟨hl0, ?_⟩
      exact q _ _ (Int.emod_nonneg _ (by omega)) (Int.emod_lt_of_pos _ hl0) S1 O1
end
end HT
namespace HT
open PySem L2
/-- a def of the text that may be called by its name, and what it promises -/
structure Cal (P : Program) (w : World) (K : PySem.W.Frag) (mg : Str → Option Value) (base : Heap) (x : Str) (k : Nat) (ps : List Str) (sp : Sp) (f : Addr) (fd : FuncData) : Prop where
  ok : FnOk P w K mg base CX0 k f fd ps sp
  gl : mg x = some (.ref f)
  kp : PySem.W.keepIn K (.ref f) = true
  bd : Binds K fd ps []
theorem pcl {X : Cx} {x : Str} {k j : Nat} {ps : List Str} {sp : Sp} {f : Addr} {fd : FuncData} {e : Expr} {es : List Expr} {t : TA} {p pos : Pos} (C : Cal X.prog X.w X.K X.mg X.base x k ps sp f fd) (hr : Room j X.A) (hj : k ≤ j) (hg : Gl X x) (ha : PA X (e :: es) t)
    (hdb : (x == ("__debug__" : Str)) = false := by decide) (he : starEach (e :: es) X.env = (false, eval e X.env) :: starEach es X.env := by rfl) (hpl : (backTo pos (starEach es X.env)).any (·.1) = false := by rfl) : PE X (.Call (.Name x p) (e :: es) [] pos) (tCall sp [] E0 t) :=
  pe_call C.ok (hr.mono hj) hg C.gl C.kp C.bd .nil pass0 ha hdb he hpl
section
variable {P : Program} {w : World} {K : PySem.W.Frag} {mg : Str → Option Value} {base : Heap}
theorem cut63 {ns : List Int} (h : ns.length ≤ 63) : cutV (ns.map V.int) none (some 63) = ns.map V.int := by
  have e1 : HT.sIx (ns.map V.int).length 0 none = 0 := rfl
  have e2 : HT.sIx (ns.map V.int).length (ns.map V.int).length (some 63) = (ns.map V.int).length := by
    have := HT.sIx_nat (ns.map V.int).length (ns.map V.int).length 63
    rw [show ((63 : Nat) : Int) = 63 from rfl] at this
    rw [this, List.length_map]
    omega
  unfold cutV
  rw [e1, e2, List.drop_zero, Nat.sub_zero, List.take_length]
theorem dpInts (H : Hp) : ∀ ns : List Int, DpAll K H (ns.map V.int) (ns.map PyData.int)
  | [] => .nil
  | n :: r => .cons (.int n) (dpInts H r)
theorem pow_ok : CPowW ((10 : Int) ^ (60 : Int).toNat) 20 := ⟨by decide, by decide +kernel⟩
theorem pow_pos' : (0 : Int) < ((10 : Int) ^ (60 : Int).toNat) ^ (20 : Int).toNat := by decide +kernel
theorem ok_source {f : Addr} {fd : FuncData} (F : Fun K "_law_source" "_law_source" s_L_source f fd) (B : Blt mg) : FnOk P w K mg base CX0 1 f fd ["_law_script"] (spSource K) := by
  refine F.ok sc_L_source (fun vs H Q E h => ?_) (fun cdv A outer s H vs Q E hr h => ?_)
  · obtain ⟨l, ns, rfl, _⟩ := h
    rfl
  · obtain ⟨l, ns, rfl, hL, hn, q⟩ := h
    have nd := sc_L_source.nd
    refine ⟨_, pss_cons (ps_set (i := 1) nd rfl (Or.inl rfl) (pe_slice sl_list (pv 0) po_none (po_some pe_int)))
      (pss_cons (ps_for PassesOwn.never rfl (pi_range1 (by rfl) B.range (pa_cons (pe_callB call_len_seq (by rfl) B.len PySem.boot_len (pa_cons (pv 1) pa_nil)) pa_nil)) (pg_name (i := 2) nd rfl (Or.inl rfl))
        (pss_one (ps_if (pt_cmpR op_ge (pe_callB call_abs (by rfl) B.abs (by decide +kernel) (pa_cons (pe_ix ix_list (pv 1) (pv 2) (fun _ _ => rfl)) pa_nil)) (pe_op op_pow pe_int pe_int) (nomark _))
          (pss_one (ps_asg (pe_op op_mod (pe_callTy call_int1 (by rfl) B.int (by decide +kernel) (pa_cons (pe_ix ix_list (pv 1) (pv 2) (fun _ _ => rfl)) pa_nil)) (pe_op op_powW (pe_op op_pow pe_int pe_int) pe_int)) (pg_sub (pv 1) (pv 2) set_list))) pss_nil)))
      (pss_cons (ps_if (pt_cmpR (op_eqD hr.units) (pv 1) (pe_lst pa_nil) (nomark _)) (pss_one (ps_set (i := 1) nd rfl (Or.inl rfl) (pe_lst (pa_cons pe_int pa_nil)))) pss_nil)
      (pss_one (ps_ret (pe_lst (pa_cons (pv 1) (pa_cons pe_int pa_nil))))))), ?_⟩
    walk_at "rd"
    refine ⟨l, _, rfl, hL, fun p np => ?_⟩
    rw [cut63 hn]
    walk_at "rd"
    refine ⟨p, _, rfl, .inl (SqL.of upd_same), _, rfl, by omega, ?_, ?_⟩
    · show ((ns.map V.int).length : Int) < 2 ^ 62
      rw [List.length_map]
      omega
    have en : ((ns.map V.int).length : Int).toNat = ns.length := by rw [List.length_map]; omega
    rw [en]
    refine for_range (fun i σ H' => ∃ (cs : List Int) (kv : Option V), σ = [some (.ref l), some (.ref p), kv] ∧ H' p = some (.lst (cs.map V.int)) ∧ cs.length = ns.length ∧ Same H H') ⟨ns, none, rfl, upd_same, rfl, fun b o e => by rw [upd_ne (ne_of_none e np)]; exact e⟩ ?_ ?_
    · rintro i σ H' hi ⟨cs, kv, rfl, hp, hl, sm⟩
      have h0 : (0 : Int) ≤ 0 + (i : Int) := by omega
      have h1 : (0 : Int) + (i : Int) < (cs.length : Int) := by omega
      walk_at "rd"
      refine ⟨p, _, _, _, rfl, rfl, SqL.of hp, atI_in h0 h1, ?_⟩
      walk_at "rd"
      refine ⟨⟨by decide, by decide, by decide⟩, ?_⟩
      walk_at "rd"
      refine ite2 (fun _ => ?_) (fun _ => ?_)
      · walk_at "rd"
        refine ⟨p, _, _, _, rfl, rfl, SqL.of hp, atI_in h0 h1, ?_⟩
        walk_at "rd"
        refine ⟨⟨by decide, by decide, by decide⟩, ?_⟩
        walk_at "rd"
        refine ⟨pow_ok, ?_⟩
        walk_at "rd"
        refine ⟨pow_pos', ?_⟩
        walk_at "rd"
        refine ⟨p, _, _, _, rfl, rfl, hp, ixN_in h0 (by rw [List.length_map]; exact h1), ?_⟩
        rw [set_ints]
        exact ⟨_, _, rfl, upd_same, by rw [List.length_set]; exact hl, fun b o e => by rw [upd_ne (ne_of_none e np)]; exact sm b o e⟩
      · exact ⟨cs, _, rfl, hp, hl, sm⟩
    · rintro σ H' ⟨cs, kv, rfl, hp, hl, sm⟩
      walk_at "rd"
      refine ⟨by decide, fun e ne => ?_⟩
      have hpe : upd H' e (.lst []) p = some (.lst (cs.map V.int)) := by rw [upd_ne (ne_of_none hp ne)]; exact hp
      have sm1 : Same H (upd H' e (.lst [])) := fun b o z => by rw [upd_ne (ne_of_none (sm b o z) ne)]; exact sm b o z
      refine ⟨_, _, .lst (SqL.of hpe) (dpInts _ cs), .lst (SqL.of upd_same) .nil, PySem.W.ke_shaped_ints cs, by decide +kernel, ?_⟩
      walk_at "rd"
      have hb : PyData.eqv (.list (cs.map PyData.int)) (.list []) = decide (cs = []) := by
        have z := PySem.W.ked_eqvAll cs []
        rw [← z]
        rfl
      rw [hb]
      refine ite2 (fun _ => ?_) (fun hne => ?_)
      · walk_at "rd"
        refine ⟨by decide, fun c nc => ?_⟩
        walk_at "rd"
        refine ⟨(by show 2 ≤ sizeLine; decide), fun a na => ?_⟩
        have sm2 : Same H (upd (upd H' e (.lst [])) c (.lst [.int 0])) := fun b o z => by rw [upd_ne (ne_of_none (sm1 b o z) nc)]; exact sm1 b o z
        have nac : a ≠ c := (ne_of_none upd_same na).symm
        refine q a c _ (fun b o z => by rw [upd_ne (ne_of_none (sm2 b o z) na)]; exact sm2 b o z) (sm2.free na) (sm1.free nc) ⟨nac, upd_same, [0], by rw [upd_ne nac.symm]; exact upd_same, by decide, by decide⟩
      · walk_at "rd"
        refine ⟨(by show 2 ≤ sizeLine; decide), fun a na => ?_⟩
        have nap : a ≠ p := (ne_of_none hpe na).symm
        refine q a p _ (fun b o z => by rw [upd_ne (ne_of_none (sm1 b o z) na)]; exact sm1 b o z) (sm1.free na) np ⟨nap, upd_same, cs, by rw [upd_ne nap.symm]; exact hpe, ?_, by omega⟩
        have : cs ≠ [] := fun z => hne (decide_eq_true z)
        exact List.length_pos_iff.mpr this
end
end HT
namespace HT
open PySem L2
/-- a def of which errors may come, and its call -/
structure CalX (P : Program) (w : World) (K : PySem.W.Frag) (mg : Str → Option Value) (base : Heap) (x : Str) (k : Nat) (ps : List Str) (sp : Sp) (f : Addr) (fd : FuncData) : Prop where
  ok : FnOk P w K mg base (L2.CX P w) k f fd ps sp
  mgf : mg x = some (.ref f)
  kp : PySem.W.keepIn K (.ref f) = true
  b : Binds K fd ps []
theorem pcx {X : Cx} {x : Str} {k j : Nat} {ps : List Str} {sp : Sp} {f : Addr} {fd : FuncData} {e : Expr} {es : List Expr} {t : TA} {p pos : Pos} {W : WX} (C : CalX X.prog X.w X.K X.mg X.base x k ps sp f fd) (hr : Room j X.A) (hj : k ≤ j) (hg : Gl X x) (tk : L2.Takes X W) (ha : PA X (e :: es) t)
    (hdb : (x == ("__debug__" : Str)) = false := by decide) (he : starEach (e :: es) X.env = (false, eval e X.env) :: starEach es X.env := by rfl) (hpl : (backTo pos (starEach es X.env)).any (·.1) = false := by rfl) : PE X (.Call (.Name x p) (e :: es) [] pos) (tCallS sp (WE W) t) :=
  pe_callS C.ok (hr.mono hj) hg C.mgf C.kp C.b (fun σ => L2.passAt tk σ) ha hdb he hpl
end HT
namespace PySem.W
open PySem PySem.Calls
theorem args_lcm3 (a b c : Value) : argsOk "math.lcm" ⟨[a, b, c], []⟩ := by unfold argsOk; kernel_rfl
theorem run_lcm3 (a : Int) (t : Tok) (b : Int) (u : Tok) (c : Int) (v : Tok) (hc0 : ¬(max 1 a.natAbs).log2 / 30 + 1 > 450) (hc1 : ¬(max a.natAbs b.natAbs).log2 / 30 + 1 > 450)
    (hc2 : ¬(max ((Nat.lcm 1 a.natAbs).lcm b.natAbs) c.natAbs).log2 / 30 + 1 > 450)
    (hsz : (((((Nat.lcm 1 a.natAbs).lcm b.natAbs).lcm c.natAbs : Nat) : Int)).natAbs.log2 < bitsLine) :
    Gives (Builtin.«math.lcm» ⟨[.int a t, .int b u, .int c v], []⟩) (.int (((((Nat.lcm 1 a.natAbs).lcm b.natAbs).lcm c.natAbs : Nat) : Int))) :=
  .of_wp fun M A E s Q h => by obtain ⟨hp, g, d, tk, os⟩ := s; wp_walk; refine wpAny_ite_false (decide_eq_false hc2) ?_; wp_walk; (try (refine wpAny_ite_false (decide_eq_false (Nat.not_le.mpr hsz)) ?_; wp_walk)); exact ⟨_, rfl, h⟩
end PySem.W
namespace L2
open PySem PySem.Spec PyProof.Rows
/-- xs.count(y) of flat things -/
def rCntV (K : PySem.W.Frag) : V → List V → Hp → VK → Prop := fun x xs H Q => ∃ (p : Addr) (ys : List V) (y : V), x = .ref p ∧ xs = [y] ∧ SqL K H p ys ∧ flatV y = true ∧ ys.all flatV = true ∧ Q (.int (ys.countP (fun z => eqV z y) : Nat)) H
theorem count_eqU {x : V} : ∀ {xs : List V} {us : List Value}, Vals xs us → xs.all flatV = true → us.countP (eqU x) = xs.countP fun y => eqV y x
  | _, _, .nil, _ => rfl
  | y :: xs, u :: us, .cons r t, f => by
    obtain ⟨f1, f2⟩ := Bool.and_eq_true_iff.mp (List.all_cons ▸ f)
    rw [List.countP_cons, List.countP_cons, eqU_of r f1, count_eqU t f2]
theorem mt_cntV {X : Cx} : MtR X "list.count" (rCntV X.K) := by
  intro pins sh st H x xs v us Q iv rx rxs h
  obtain ⟨p, ys, y, rfl, rfl, hs, fy, fys, q⟩ := h
  cases rx
  obtain ⟨u, rfl, ru⟩ := rxs.one
  obtain ⟨its, rv, ⟨⟨cls, dd, data, sl⟩, n, ho, hc, hdn, hd⟩, hlen⟩ := iv.list hs
  dsimp only at hc hd
  subst hc hd
  refine call_meets PySem.F.slot_list_count ⟨_, ho, rfl⟩ PySem.F.entry_list_count (PySem.F.args_list_count_2 _ _) (SeqAt.list_countAt p its.toArray n dd sl u (eqU y)) ⟨ho, fun w hw => mem_eqAt ru fy rv fys w (by simpa using hw), ?_⟩
  refine ⟨.int (ys.countP (fun z => eqV z y) : Nat), H, iv.tok _, ⟨sh.toks, ?_⟩, q⟩
  rw [show its.toArray.toList.countP (eqU y) = ys.countP (fun z => eqV z y) from count_eqU rv fys]
end L2
namespace HT
open PySem L2
/-! ### pick, great, side -/
def spPick : Sp := fun vs H Q _ => ∃ (a c : Addr) (t : Nat) (l : Addr) (xs : List V), vs = [.ref a, .ref l] ∧ Src H a c t ∧ t < 2 ^ 30 ∧ H l = some (.lst xs) ∧ l ≠ a ∧ l ≠ c ∧ 0 < xs.length ∧ xs.length < 2 ^ 60 ∧
  ∀ x H', x ∈ xs → Src H' a c (t + 1) → Oth a c H H' → Q x H'
def spGreat : Sp := fun vs H Q _ => ∃ (a c : Addr) (t n : Nat), vs = [.ref a, .int (n : Int)] ∧ Src H a c t ∧ n ≤ 1000 ∧ t + n < 2 ^ 30 ∧
  ∀ k H', 0 ≤ k → k < 10 ^ n → Src H' a c (t + n) → Oth a c H H' → Q (.int k) H'
/-- the modes -/
def Mode (m : Str) : Prop := m = "down" ∨ m = "up" ∨ m = "half_down" ∨ m = "half_up" ∨ m = "half_even"
/-- a side's parts -/
structure SideP (o s : Int) (m : Str) : Prop where
  o0 : -10 ^ 40 ≤ o
  o1 : o ≤ 10 ^ 40
  s0 : 1 ≤ s
  s1 : s ≤ 10 ^ 30
  md : Mode m
def sideV (o s : Int) (m : Str) : HO := .tup [.int o, .int s, .str m]
def spSide : Sp := fun vs H Q _ => ∃ (a c : Addr) (t n : Nat), vs = [.ref a, .int (n : Int)] ∧ Src H a c t ∧ 1 ≤ n ∧ n ≤ 40 ∧ t + 200 < 2 ^ 30 ∧
  ∀ p o s m H' t', H p = none → H' p = some (sideV o s m) → SideP o s m → t' ≤ t + 200 → Src H' a c t' → Oth a c H H' → Q (.ref p) H'
theorem lg_nat {n : Nat} (h : n < 2 ^ 200) : ((n : Int)).natAbs.log2 < 9000 := by
  rw [Int.natAbs_natCast]
  by_cases e : n = 0
  · rw [e]; decide
  · have := (Nat.log2_lt e).mpr h
    omega
theorem lg_small {n : Int} (h0 : 0 ≤ n) (h : n < 2 ^ 64) : n.natAbs.log2 < 9000 := by
  obtain ⟨m, rfl⟩ := Int.eq_ofNat_of_zero_le h0
  exact lg_nat (Nat.lt_of_lt_of_le (by omega : m < 2 ^ 64) (Nat.pow_le_pow_right (by decide) (by decide)))
section
variable {P : Program} {w : World} {K : PySem.W.Frag} {mg : Str → Option Value} {base : Heap} {fD fP fG : Addr} {dD dP dG : FuncData}
theorem ok_pick {f : Addr} {fd : FuncData} (F : Fun K "_law_pick" "_law_pick" s_L_pick f fd) (B : Blt mg) (D : Cal P w K mg base "_law_draw" 1 ["_law_source_here", "_law_limit"] spDraw fD dD) :
    FnOk P w K mg base CX0 2 f fd ["_law_source_here", "_law_values"] spPick := by
  refine F.ok sc_L_pick (fun vs H Q E h => ?_) (fun cdv A outer s H vs Q E hr h => ?_)
  · obtain ⟨a, c, t, l, xs, rfl, _⟩ := h
    rfl
  · obtain ⟨a, c, t, l, xs, rfl, S, ht, hl, na, nc, h0, h1, q⟩ := h
    refine ⟨_, pss_one (ps_ret (pe_ix ix_list (pv 1) (pcl D hr (by decide) (by rfl) (pa_cons (pv 0) (pa_cons (pe_callB call_len_seq (by rfl) B.len PySem.boot_len (pa_cons (pv 1) pa_nil)) pa_nil))) (fun _ _ => rfl))), ?_⟩
    walk_at "rd"
    refine ⟨l, _, rfl, .inl (SqL.of hl), ?_⟩
    have p1 : (0 : Int) < (xs.length : Int) := by omega
    refine ⟨a, c, t, _, rfl, S, ht, p1, lg_nat (Nat.lt_of_lt_of_le h1 (Nat.pow_le_pow_right (by decide) (by decide))), fun k H' k0 k1 S' O => ?_⟩
    have hl' : k.toNat < xs.length := by omega
    have e : atI xs k = some xs[k.toNat] := by
      unfold atI
      rw [ixN_in k0 k1]
      exact List.getElem?_eq_getElem hl'
    refine ⟨l, _, _, _, rfl, rfl, SqL.of (O _ _ hl na nc), e, ?_⟩
    exact q _ _ (List.getElem_mem hl') S' O
theorem ok_great {f : Addr} {fd : FuncData} (F : Fun K "_law_great" "_law_great" s_L_great f fd) (B : Blt mg) (D : Cal P w K mg base "_law_draw" 1 ["_law_source_here", "_law_limit"] spDraw fD dD) :
    FnOk P w K mg base CX0 2 f fd ["_law_source_here", "_law_digits"] spGreat := by
  refine F.ok sc_L_great (fun vs H Q E h => ?_) (fun cdv A outer s H vs Q E hr h => ?_)
  · obtain ⟨a, c, t, n, rfl, _⟩ := h
    rfl
  · obtain ⟨a, c, t, n, rfl, S, hn, ht, q⟩ := h
    have nd := sc_L_great.nd
    refine ⟨_, pss_cons (ps_set (i := 2) nd rfl (Or.inl rfl) pe_int)
      (pss_cons (ps_for PassesOwn.never rfl (pi_range1 (by rfl) B.range (pa_cons (pv 1) pa_nil)) (pg_name (i := 3) nd rfl (Or.inl rfl))
        (pss_one (ps_set (i := 2) nd rfl (Or.inl rfl) (pe_op op_add (pe_op op_mul (pv 2) pe_int) (pcl D hr (by decide) (by rfl) (pa_cons (pv 0) (pa_cons pe_int pa_nil)))))))
      (pss_one (ps_ret (pv 2)))), ?_⟩
    walk_at "rd"
    refine ⟨by omega, by omega, ?_⟩
    rw [Int.toNat_natCast]
    refine for_range (fun i σ H' => ∃ (k : Int) (kv : Option V), σ = [some (.ref a), some (.int (n : Int)), some (.int k), kv] ∧ 0 ≤ k ∧ k < 10 ^ i ∧ Src H' a c (t + i) ∧ Oth a c H H') ⟨0, none, rfl, by decide, by decide, S, Oth.refl _ _ _⟩ ?_ ?_
    · rintro i σ H' hi ⟨k, kv, rfl, k0, k1, S', O⟩
      walk_at "rd"
      refine ⟨.inr ⟨by decide, by decide⟩, ?_⟩
      walk_at "rd"
      refine ⟨a, c, t + i, _, rfl, S', by omega, (by show (0 : Int) < 10; decide), (by show (10 : Int).natAbs.log2 < 9000; decide), fun y H2 y0 y1 S2 O2 => ?_⟩
      walk_at "rd"
      have y1' : y < 10 := y1
      refine ⟨_, _, rfl, (by show 0 ≤ k * 10 + y; omega), (by show k * 10 + y < 10 ^ (i + 1); rw [Int.pow_succ]; omega), S2, O.trans O2⟩
    · rintro σ H' ⟨k, kv, rfl, k0, k1, S', O⟩
      walk_at "rd"
      exact q _ _ k0 k1 S' O
theorem mode_of {x : V} (h : x ∈ [V.str "down", .str "up", .str "half_down", .str "half_up", .str "half_even"]) : ∃ m : Str, x = .str m ∧ Mode m := by
  simp only [List.mem_cons, List.not_mem_nil, or_false] at h
  rcases h with h | h | h | h | h
  · exact ⟨_, h, .inl rfl⟩
  · exact ⟨_, h, .inr (.inl rfl)⟩
  · exact ⟨_, h, .inr (.inr (.inl rfl))⟩
  · exact ⟨_, h, .inr (.inr (.inr (.inl rfl)))⟩
  · exact ⟨_, h, .inr (.inr (.inr (.inr rfl)))⟩
end
end HT
namespace HT
open PySem L2
/-! ### the mathematics of a side -/
def goesUp (m : Str) (s q r : Int) : Bool := if m = "down" then false else if m = "up" then decide (0 < r) else if 2 * r = s then (if m = "half_even" then decide (q % 2 = 1) else decide (m = "half_up")) else decide (s < 2 * r)
/-- the figure to which v comes -/
def figM (o s : Int) (m : Str) (v : Int) : Int := if goesUp m s ((v - o) / s) ((v - o) % s) = true then (v - o) / s + 1 else (v - o) / s
def dueM (o s : Int) (m : Str) (v : Int) : Int := o + s * figM o s m v
theorem d_u : ¬ (("up" : Str) = "down") := by decide +kernel
theorem hd_d : ¬ (("half_down" : Str) = "down") := by decide +kernel
theorem hd_u : ¬ (("half_down" : Str) = "up") := by decide +kernel
theorem hu_d : ¬ (("half_up" : Str) = "down") := by decide +kernel
theorem hu_u : ¬ (("half_up" : Str) = "up") := by decide +kernel
theorem he_d : ¬ (("half_even" : Str) = "down") := by decide +kernel
theorem he_u : ¬ (("half_even" : Str) = "up") := by decide +kernel
theorem hd_e : ¬ (("half_down" : Str) = "half_even") := by decide +kernel
theorem hu_e : ¬ (("half_up" : Str) = "half_even") := by decide +kernel
theorem hd_hu : ¬ (("half_down" : Str) = "half_up") := by decide +kernel
theorem he_hu : ¬ (("half_even" : Str) = "half_up") := by decide +kernel
theorem u_hd : ¬ (("up" : Str) = "half_down") := by decide +kernel
theorem hu_hd : ¬ (("half_up" : Str) = "half_down") := by decide +kernel
theorem he_hd : ¬ (("half_even" : Str) = "half_down") := by decide +kernel
theorem go_down (s q r : Int) : goesUp "down" s q r = false := by unfold goesUp; rw [if_pos rfl]
theorem go_up (s q r : Int) : goesUp "up" s q r = decide (0 < r) := by unfold goesUp; rw [if_neg d_u, if_pos rfl]
theorem go_hd (s q r : Int) : goesUp "half_down" s q r = decide (s < 2 * r) := by
  unfold goesUp
  rw [if_neg hd_d, if_neg hd_u, if_neg hd_e, decide_eq_false hd_hu]
  by_cases h : 2 * r = s
  · rw [if_pos h, decide_eq_false (by omega)]
  · rw [if_neg h]
theorem go_hu (s q r : Int) : goesUp "half_up" s q r = decide (s ≤ 2 * r) := by
  unfold goesUp
  rw [if_neg hu_d, if_neg hu_u, if_neg hu_e, decide_eq_true rfl]
  by_cases h : 2 * r = s
  · rw [if_pos h, decide_eq_true (by omega)]
  · rw [if_neg h]
    by_cases g : s < 2 * r
    · rw [decide_eq_true g, decide_eq_true (by omega)]
    · rw [decide_eq_false g, decide_eq_false (by omega)]
theorem go_he (s q r : Int) : goesUp "half_even" s q r = (decide (s < 2 * r) || (decide (2 * r = s) && decide (q % 2 = 1))) := by
  unfold goesUp
  rw [if_neg he_d, if_neg he_u, if_pos rfl]
  by_cases h : 2 * r = s
  · rw [if_pos h, decide_eq_false (show ¬ s < 2 * r by omega), decide_eq_true h]
    rfl
  · rw [if_neg h, decide_eq_false h]
    simp
/-- what is known of a figure -/
structure Fig (o s : Int) (m : Str) (v q r k : Int) : Prop where
  eq : v - o = s * q + r
  r0 : 0 ≤ r
  r1 : r < s
  wh : (goesUp m s q r = true ∧ k = q + 1) ∨ (goesUp m s q r = false ∧ k = q)
theorem fig_of {o s : Int} {m : Str} {v : Int} (hs : 1 ≤ s) : Fig o s m v ((v - o) / s) ((v - o) % s) (figM o s m v) := by
  refine ⟨?_, Int.emod_nonneg _ (by omega), Int.emod_lt_of_pos _ (by omega), ?_⟩
  · have := Int.mul_ediv_add_emod (v - o) s
    omega
  · unfold figM
    cases h : goesUp m s ((v - o) / s) ((v - o) % s)
    · exact .inr ⟨rfl, by simp⟩
    · exact .inl ⟨rfl, by simp⟩
theorem divmod_eq {s q r x : Int} (hs : 1 ≤ s) (h : x = s * q + r) (r0 : 0 ≤ r) (r1 : r < s) : x / s = q ∧ x % s = r := by
  subst h
  constructor
  · rw [Int.add_comm, Int.add_mul_ediv_left _ _ (by omega), Int.ediv_eq_zero_of_lt r0 r1]
    omega
  · rw [Int.add_comm, Int.add_mul_emod_self_left]
    exact Int.emod_eq_of_lt r0 r1
theorem fig_uniq {o s : Int} {m : Str} {v q r k : Int} (hs : 1 ≤ s) (F : Fig o s m v q r k) : figM o s m v = k := by
  obtain ⟨e1, e2⟩ := divmod_eq hs F.eq F.r0 F.r1
  unfold figM
  rw [e1, e2]
  rcases F.wh with ⟨h, e⟩ | ⟨h, e⟩
  · rw [h, if_pos rfl, e]
  · rw [h, if_neg (by decide), e]
/-- going up wants a rest, and not going up a small one -/
theorem go_pos {m : Str} {s q r : Int} (hm : Mode m) (hs : 1 ≤ s) (r0 : 0 ≤ r) (h : goesUp m s q r = true) : 0 < r := by
  rcases hm with e | e | e | e | e <;> subst e
  · rw [go_down] at h; cases h
  · rw [go_up] at h; exact of_decide_eq_true h
  · rw [go_hd] at h; have := of_decide_eq_true h; omega
  · rw [go_hu] at h; have := of_decide_eq_true h; omega
  · rw [go_he, Bool.or_eq_true, Bool.and_eq_true] at h
    rcases h with h | ⟨h, _⟩ <;> have := of_decide_eq_true h <;> omega
theorem due_near {o s : Int} {m : Str} {v : Int} (hm : Mode m) (hs : 1 ≤ s) : dueM o s m v - v < s ∧ v - dueM o s m v < s := by
  have F := fig_of (o := o) (m := m) (v := v) hs
  unfold dueM
  generalize (v - o) / s = q at F
  generalize (v - o) % s = r at F
  obtain ⟨eq, r0, r1, wh⟩ := F
  rcases wh with ⟨h, e⟩ | ⟨h, e⟩
  · have := go_pos hm hs r0 h
    rw [e, Int.mul_add, Int.mul_one]
    generalize s * q = z at eq ⊢
    omega
  · rw [e]
    generalize s * q = z at eq ⊢
    omega
def half (m : Str) : Prop := m = "half_down" ∨ m = "half_up" ∨ m = "half_even"
theorem due_half {o s : Int} {m : Str} {v : Int} (hm : half m) (hs : 1 ≤ s) : 2 * (dueM o s m v - v) ≤ s ∧ 2 * (v - dueM o s m v) ≤ s := by
  have F := fig_of (o := o) (m := m) (v := v) hs
  unfold dueM
  generalize (v - o) / s = q at F
  generalize (v - o) % s = r at F
  obtain ⟨eq, r0, r1, wh⟩ := F
  have hb : (goesUp m s q r = true → s ≤ 2 * r) ∧ (goesUp m s q r = false → 2 * r ≤ s) := by
    rcases hm with e | e | e <;> subst e
    · rw [go_hd]; exact ⟨fun h => by have := of_decide_eq_true h; omega, fun h => by have := of_decide_eq_false h; omega⟩
    · rw [go_hu]; exact ⟨fun h => by have := of_decide_eq_true h; omega, fun h => by have := of_decide_eq_false h; omega⟩
    · rw [go_he]
      refine ⟨fun h => ?_, fun h => ?_⟩
      · rw [Bool.or_eq_true, Bool.and_eq_true] at h
        rcases h with h | ⟨h, _⟩ <;> have := of_decide_eq_true h <;> omega
      · rw [Bool.or_eq_false_iff] at h
        have := of_decide_eq_false h.1
        omega
  rcases wh with ⟨h, e⟩ | ⟨h, e⟩
  · have := hb.1 h
    rw [e, Int.mul_add, Int.mul_one]
    generalize s * q = z at eq ⊢
    omega
  · have := hb.2 h
    rw [e]
    generalize s * q = z at eq ⊢
    omega
theorem go_zero {m : Str} {s q : Int} (hm : Mode m) (hs : 1 ≤ s) : goesUp m s q 0 = false := by
  cases h : goesUp m s q 0 with
  | false => rfl
  | true => exact absurd (go_pos hm hs (Int.le_refl _) h) (by omega)
/-- what is written stands and is written as it is -/
theorem fig_at {o s k : Int} {m : Str} (hm : Mode m) (hs : 1 ≤ s) : figM o s m (o + s * k) = k :=
  fig_uniq (q := k) (r := 0) hs ⟨by omega, Int.le_refl _, by omega, .inr ⟨go_zero hm hs, rfl⟩⟩
theorem stands_at {o s k : Int} : (o + s * k - o) % s = 0 := by
  rw [show o + s * k - o = s * k by omega]
  exact Int.mul_emod_right s k
theorem due_eq {o s : Int} {m : Str} {v : Int} (hm : Mode m) (hs : 1 ≤ s) : (v - o) % s = 0 ↔ dueM o s m v = v := by
  have F := fig_of (o := o) (m := m) (v := v) hs
  unfold dueM
  generalize (v - o) / s = q at F
  generalize (v - o) % s = r at F ⊢
  obtain ⟨eq, r0, r1, wh⟩ := F
  rcases wh with ⟨h, e⟩ | ⟨h, e⟩
  · have := go_pos hm hs r0 h
    rw [e, Int.mul_add, Int.mul_one]
    generalize s * q = z at eq ⊢
    omega
  · rw [e]
    generalize s * q = z at eq ⊢
    omega
theorem go_mono {m : Str} {s q r : Int} (hm : Mode m) (h : goesUp m s q r = true) : goesUp m s q (r + 1) = true := by
  rcases hm with e | e | e | e | e <;> subst e
  · rw [go_down] at h; cases h
  · rw [go_up] at h ⊢; have := of_decide_eq_true h; exact decide_eq_true (by omega)
  · rw [go_hd] at h ⊢; have := of_decide_eq_true h; exact decide_eq_true (by omega)
  · rw [go_hu] at h ⊢; have := of_decide_eq_true h; exact decide_eq_true (by omega)
  · rw [go_he] at h ⊢
    have : s ≤ 2 * r := by
      rw [Bool.or_eq_true, Bool.and_eq_true] at h
      rcases h with h | ⟨h, _⟩ <;> have := of_decide_eq_true h <;> omega
    rw [decide_eq_true (show s < 2 * (r + 1) by omega)]
    rfl
theorem fig_mono {o s : Int} {m : Str} {v : Int} (hm : Mode m) (hs : 1 ≤ s) : figM o s m v ≤ figM o s m (v + 1) := by
  have F := fig_of (o := o) (m := m) (v := v) hs
  generalize (v - o) / s = q at F
  generalize (v - o) % s = r at F
  obtain ⟨eq, r0, r1, wh⟩ := F
  by_cases hr : r + 1 < s
  · cases g : goesUp m s q (r + 1) with
    | true =>
      rw [fig_uniq (v := v + 1) (q := q) (r := r + 1) (k := q + 1) hs ⟨by omega, by omega, hr, .inl ⟨g, rfl⟩⟩]
      rcases wh with ⟨_, e⟩ | ⟨_, e⟩ <;> omega
    | false =>
      rw [fig_uniq (v := v + 1) (q := q) (r := r + 1) (k := q) hs ⟨by omega, by omega, hr, .inr ⟨g, rfl⟩⟩]
      rcases wh with ⟨h, e⟩ | ⟨_, e⟩
      · rw [go_mono hm h] at g
        cases g
      · omega
  · rw [fig_uniq (v := v + 1) (q := q + 1) (r := 0) (k := q + 1) hs ⟨by rw [Int.mul_add, Int.mul_one]; omega, by omega, by omega, .inr ⟨go_zero hm hs, rfl⟩⟩]
    rcases wh with ⟨_, e⟩ | ⟨_, e⟩ <;> omega
theorem due_mono {o s : Int} {m : Str} {v : Int} (hm : Mode m) (hs : 1 ≤ s) : dueM o s m v ≤ dueM o s m (v + 1) := by
  unfold dueM
  have := Int.mul_le_mul_of_nonneg_left (fig_mono (o := o) (v := v) hm hs) (show 0 ≤ s by omega)
  omega
theorem go_two {m : Str} {s q r : Int} (hm : Mode m) : goesUp m s (q + 2) r = goesUp m s q r := by
  rcases hm with e | e | e | e | e <;> subst e
  · rw [go_down, go_down]
  · rw [go_up, go_up]
  · rw [go_hd, go_hd]
  · rw [go_hu, go_hu]
  · rw [go_he, go_he, show (q + 2) % 2 = q % 2 by omega]
theorem due_two {o s : Int} {m : Str} {v : Int} (hm : Mode m) (hs : 1 ≤ s) : dueM o s m (v + s * 2) = dueM o s m v + s * 2 := by
  have F := fig_of (o := o) (m := m) (v := v) hs
  unfold dueM
  generalize (v - o) / s = q at F
  generalize (v - o) % s = r at F
  obtain ⟨eq, r0, r1, wh⟩ := F
  rw [fig_uniq (v := v + s * 2) (q := q + 2) (r := r) (k := figM o s m v + 2) hs ⟨by rw [Int.mul_add]; omega, r0, r1, ?_⟩, Int.mul_add]
  · omega
  · rw [go_two hm]
    rcases wh with ⟨h, e⟩ | ⟨h, e⟩
    · exact .inl ⟨h, by omega⟩
    · exact .inr ⟨h, by omega⟩
/-! ### bounds -/
def Bd (x : Int) : Prop := -2 ^ 1000 < x ∧ x < 2 ^ 1000
theorem div_bd {x s b : Int} (hs : 1 ≤ s) (h0 : -b < x) (h1 : x < b) : -b < x / s ∧ x / s < b := by
  by_cases hx : 0 ≤ x
  · have a := Int.ediv_nonneg hx (show 0 ≤ s by omega)
    have c := Int.ediv_le_self s hx
    omega
  · have a : x ≤ x / s := by
      rw [Int.le_ediv_iff_mul_le (by omega)]
      have := Int.mul_le_mul_of_nonpos_left (show x ≤ 0 by omega) hs
      omega
    have c : x / s < 0 := Int.ediv_neg_of_neg_of_pos (by omega) (by omega)
    omega
end HT
namespace HT
open PySem L2
/-! ### spans -/
def below (m : Str) (s k : Int) : Int := if m = "down" then 0 else if m = "up" then s - 1 else if m = "half_up" ∨ (m = "half_even" ∧ k % 2 = 0) then s / 2 else (s - 1) / 2
def mir (m : Str) : Str := if m = "down" then "up" else if m = "up" then "down" else if m = "half_down" then "half_up" else if m = "half_up" then "half_down" else "half_even"
def lowM (o s : Int) (m : Str) (k : Int) : Int := o + s * k - below m s k
def highM (o s : Int) (m : Str) (k : Int) : Int := o + s * k + below (mir m) s k
theorem mir_d : mir "down" = "up" := by unfold mir; rw [if_pos rfl]
theorem mir_u : mir "up" = "down" := by unfold mir; rw [if_neg d_u, if_pos rfl]
theorem mir_hd : mir "half_down" = "half_up" := by unfold mir; rw [if_neg hd_d, if_neg hd_u, if_pos rfl]
theorem mir_hu : mir "half_up" = "half_down" := by unfold mir; rw [if_neg hu_d, if_neg hu_u, if_neg hu_hd, if_pos rfl]
theorem mir_he : mir "half_even" = "half_even" := by unfold mir; rw [if_neg he_d, if_neg he_u, if_neg he_hd, if_neg he_hu]
theorem be_d (s k : Int) : below "down" s k = 0 := by unfold below; rw [if_pos rfl]
theorem be_u (s k : Int) : below "up" s k = s - 1 := by unfold below; rw [if_neg d_u, if_pos rfl]
theorem be_hd (s k : Int) : below "half_down" s k = (s - 1) / 2 := by
  unfold below
  rw [if_neg hd_d, if_neg hd_u, if_neg]
  rintro (z | ⟨z, _⟩)
  · exact hd_hu z
  · exact hd_e z
theorem be_hu (s k : Int) : below "half_up" s k = s / 2 := by unfold below; rw [if_neg hu_d, if_neg hu_u, if_pos (.inl rfl)]
theorem be_he (s k : Int) : below "half_even" s k = if k % 2 = 0 then s / 2 else (s - 1) / 2 := by
  unfold below
  rw [if_neg he_d, if_neg he_u]
  by_cases h : k % 2 = 0
  · rw [if_pos (.inr ⟨rfl, h⟩), if_pos h]
  · rw [if_neg h, if_neg]
    rintro (z | ⟨_, z⟩)
    · exact he_hu z
    · exact h z
theorem mir_mode {m : Str} (h : Mode m) : Mode (mir m) := by
  rcases h with e | e | e | e | e <;> subst e
  · rw [mir_d]; exact .inr (.inl rfl)
  · rw [mir_u]; exact .inl rfl
  · rw [mir_hd]; exact .inr (.inr (.inr (.inl rfl)))
  · rw [mir_hu]; exact .inr (.inr (.inl rfl))
  · rw [mir_he]; exact .inr (.inr (.inr (.inr rfl)))
theorem below_bd {m : Str} {s k : Int} (h : Mode m) (hs : 1 ≤ s) : 0 ≤ below m s k ∧ below m s k < s := by
  rcases h with e | e | e | e | e <;> subst e
  · rw [be_d]; omega
  · rw [be_u]; omega
  · rw [be_hd]; omega
  · rw [be_hu]; omega
  · rw [be_he]; split <;> omega
theorem up_iff {m : Str} {s q r : Int} (h : Mode m) (r0 : 0 ≤ r) (r1 : r < s) : goesUp m s q r = true ↔ below (mir m) s q < r := by
  rcases h with e | e | e | e | e <;> subst e
  · rw [go_down, mir_d, be_u]
    exact ⟨fun z => (Bool.false_ne_true z).elim, fun z => absurd z (by omega)⟩
  · rw [go_up, mir_u, be_d, decide_eq_true_eq]
  · rw [go_hd, mir_hd, be_hu, decide_eq_true_eq]; omega
  · rw [go_hu, mir_hu, be_hd, decide_eq_true_eq]; omega
  · rw [go_he, mir_he, be_he, Bool.or_eq_true, Bool.and_eq_true, decide_eq_true_eq, decide_eq_true_eq, decide_eq_true_eq]
    split <;> omega
theorem touch {m : Str} {s : Int} (q : Int) (h : Mode m) (hs : 1 ≤ s) : below m s (q + 1) + below (mir m) s q = s - 1 := by
  rcases h with e | e | e | e | e <;> subst e
  · rw [be_d, mir_d, be_u]; omega
  · rw [be_u, mir_u, be_d]; omega
  · rw [be_hd, mir_hd, be_hu]; omega
  · rw [be_hu, mir_hu, be_hd]; omega
  · rw [be_he, mir_he, be_he]; split <;> split <;> omega
theorem mul_lt_step {s q k : Int} (hs : 1 ≤ s) (h : q < k) : s * q + s ≤ s * k := by
  have := Int.mul_le_mul_of_nonneg_left (show q + 1 ≤ k by omega) (show 0 ≤ s by omega)
  rw [Int.mul_add, Int.mul_one] at this
  exact this
/-- a value comes to k just between the ends -/
theorem fig_iff {o s : Int} {m : Str} {v k : Int} (h : Mode m) (hs : 1 ≤ s) : figM o s m v = k ↔ lowM o s m k ≤ v ∧ v ≤ highM o s m k := by
  have F := fig_of (o := o) (m := m) (v := v) hs
  generalize (v - o) / s = q at F
  generalize (v - o) % s = r at F
  generalize figM o s m v = f at F ⊢
  obtain ⟨eq, r0, r1, wh⟩ := F
  have ui := up_iff (q := q) h r0 r1
  have t1 := touch (k - 1) h hs
  rw [show k - 1 + 1 = k by omega] at t1
  have bk := below_bd (k := k) (mir_mode h) hs
  have bk1 := below_bd (k := k - 1) (mir_mode h) hs
  have bq := below_bd (k := q) (mir_mode h) hs
  unfold lowM highM
  have hf : (f = q + 1 ∧ below (mir m) s q < r) ∨ (f = q ∧ r ≤ below (mir m) s q) := by
    rcases wh with ⟨g, e⟩ | ⟨g, e⟩
    · exact .inl ⟨e, ui.mp g⟩
    · refine .inr ⟨e, ?_⟩
      have : ¬ below (mir m) s q < r := fun z => by rw [ui.mpr z] at g; cases g
      omega
  rcases Int.lt_trichotomy q k with hq | hq | hq
  · rcases Int.lt_trichotomy (q + 1) k with hq1 | hq1 | hq1
    · have := mul_lt_step hs (show q + 1 < k from hq1)
      rw [Int.mul_add, Int.mul_one] at this
      generalize s * q = a at *
      generalize s * k = b at *
      constructor
      · intro z; omega
      · intro z; omega
    · have e : q = k - 1 := by omega
      subst e
      have : s * (k - 1) = s * k - s := by rw [Int.mul_sub, Int.mul_one]
      generalize s * (k - 1) = a at *
      generalize s * k = b at *
      constructor
      · intro z; omega
      · intro z; omega
    · omega
  · subst hq
    generalize s * q = a at *
    constructor
    · intro z; omega
    · intro z; omega
  · have := mul_lt_step hs hq
    generalize s * q = a at *
    generalize s * k = b at *
    constructor
    · intro z; omega
    · intro z; omega
theorem low_high {o s : Int} {m : Str} {k : Int} (h : Mode m) (hs : 1 ≤ s) : lowM o s m k ≤ o + s * k ∧ o + s * k ≤ highM o s m k := by
  have a := below_bd (k := k) h hs
  have b := below_bd (k := k) (mir_mode h) hs
  unfold lowM highM
  omega
theorem low_next {o s : Int} {m : Str} (k : Int) (h : Mode m) (hs : 1 ≤ s) : lowM o s m (k + 1) = highM o s m k + 1 := by
  have := touch k h hs
  unfold lowM highM
  rw [Int.mul_add, Int.mul_one]
  omega
theorem high_prev {o s : Int} {m : Str} (k : Int) (h : Mode m) (hs : 1 ≤ s) : highM o s m (k - 1) = lowM o s m k - 1 := by
  have := low_next (o := o) (k - 1) h hs
  rw [show k - 1 + 1 = k by omega] at this
  omega
theorem fig_low {o s : Int} {m : Str} (k : Int) (h : Mode m) (hs : 1 ≤ s) : figM o s m (lowM o s m k) = k := by
  have a := low_high (o := o) (k := k) h hs
  exact (fig_iff h hs).mpr ⟨by omega, by omega⟩
theorem fig_high {o s : Int} {m : Str} (k : Int) (h : Mode m) (hs : 1 ≤ s) : figM o s m (highM o s m k) = k := by
  have a := low_high (o := o) (k := k) h hs
  exact (fig_iff h hs).mpr ⟨by omega, by omega⟩
theorem fig_low1 {o s : Int} {m : Str} (k : Int) (h : Mode m) (hs : 1 ≤ s) : figM o s m (lowM o s m k - 1) = k - 1 := by
  rw [← high_prev k h hs]
  exact fig_high _ h hs
theorem fig_high1 {o s : Int} {m : Str} (k : Int) (h : Mode m) (hs : 1 ≤ s) : figM o s m (highM o s m k + 1) = k + 1 := by
  rw [← low_next k h hs]
  exact fig_low _ h hs
/-- the figure of the least standing value that is not less -/
def ceilM (o s v : Int) : Int := -((o - v) / s)
theorem ceil_eq {o s v : Int} (hs : 1 ≤ s) : v ≤ o + s * ceilM o s v ∧ o + s * (ceilM o s v - 1) < v := by
  have a := Int.mul_ediv_add_emod (o - v) s
  have b := Int.emod_nonneg (o - v) (show s ≠ 0 by omega)
  have c := Int.emod_lt_of_pos (o - v) (show 0 < s by omega)
  unfold ceilM
  rw [Int.mul_sub, Int.mul_one, Int.mul_neg]
  omega
def backM (o s : Int) (m : Str) (v : Int) : Int := lowM o s m (ceilM o s v)
theorem back_ge {o s : Int} {m : Str} {v : Int} (h : Mode m) (hs : 1 ≤ s) : v ≤ dueM o s m (backM o s m v) := by
  unfold dueM backM
  rw [fig_low _ h hs]
  exact (ceil_eq hs).1
theorem back_lt {o s : Int} {m : Str} {v : Int} (h : Mode m) (hs : 1 ≤ s) : dueM o s m (backM o s m v - 1) < v := by
  unfold dueM backM
  rw [fig_low1 _ h hs]
  exact (ceil_eq hs).2
theorem mul_b {s k : Int} (s0 : 1 ≤ s) (s1 : s ≤ 10 ^ 30) (h : -2 ^ 720 < k ∧ k < 2 ^ 720) : -2 ^ 820 < s * k ∧ s * k < 2 ^ 820 := by
  have h1 : (s * k).natAbs < 2 ^ (100 + 720) := wide_lt (a := 100) (b := 720) (by omega) (by omega)
  omega
end HT
namespace HT
open PySem L2
theorem lg_big {n : Int} (h0 : 0 ≤ n) (h : n < 2 ^ 200) : n.natAbs.log2 < 9000 := by
  obtain ⟨m, rfl⟩ := Int.eq_ofNat_of_zero_le h0
  exact lg_nat (by omega)
def modesV : List V := [.str "down", .str "up", .str "half_down", .str "half_up", .str "half_even"]
/-- the further names that the text of sides does not bind, and its table of modes -/
structure SideT (K : PySem.W.Frag) (mg : Str → Option Value) (aM : Addr) : Prop where
  isi : mg "isinstance" = none
  int : mg "int" = none
  bool : mg "bool" = none
  tuple : mg "tuple" = none
  len : mg "len" = none
  dm : mg "divmod" = none
  gM : mg "MODES" = some (.ref aM)
  tM : ∀ H, SqT K H aM modesV
def spIsInt : Sp := fun vs H Q _ => ∃ i : Int, vs = [.int i] ∧ Q (.bl true) H
def spBetween : Sp := fun vs H Q _ => ∃ i a b : Int, vs = [.int i, .int a, .int b] ∧ Q (.bl (decide (a ≤ i) && decide (i ≤ b))) H
def spCheckValue : Sp := fun vs H Q _ => ∃ i : Int, vs = [.int i] ∧ Q .non H
def spCheckSide : Sp := fun vs H Q _ => ∃ (p : Addr) (o s : Int) (m : Str), vs = [.ref p] ∧ H p = some (sideV o s m) ∧ SideP o s m ∧ Q .non H
def spGo : Sp := fun vs H Q _ => ∃ (m : Str) (s q r : Int), vs = [.str m, .int s, .int q, .int r] ∧ Q (.bl (goesUp m s q r)) H
def spSV (f : Int → Int → Str → Int → V) : Sp := fun vs H Q _ => ∃ (p : Addr) (o s : Int) (m : Str) (v : Int), vs = [.ref p, .int v] ∧ H p = some (sideV o s m) ∧ SideP o s m ∧ Bd v ∧ ∀ H', Same H H' → Q (f o s m v) H'
def spFig : Sp := spSV fun o s m v => .int (figM o s m v)
def spDue : Sp := spSV fun o s m v => .int (dueM o s m v)
def spStands : Sp := spSV fun o s m v => .bl (decide ((v - o) % s = 0))
theorem dec_int (a b : Int) : decide (V.int a = V.int b) = decide (a = b) := by
  by_cases h : a = b
  · rw [decide_eq_true h, h, decide_eq_true rfl]
  · rw [decide_eq_false h, decide_eq_false (fun z => h (V.int.inj z))]
theorem dec_str (a b : Str) : decide (V.str a = V.str b) = decide (a = b) := by
  by_cases h : a = b
  · rw [decide_eq_true h, h, decide_eq_true rfl]
  · rw [decide_eq_false h, decide_eq_false (fun z => h (V.str.inj z))]
theorem dec_bl (a b : Bool) : decide (V.bl a = V.bl b) = decide (a = b) := by
  by_cases h : a = b
  · rw [decide_eq_true h, h, decide_eq_true rfl]
  · rw [decide_eq_false h, decide_eq_false (fun z => h (V.bl.inj z))]
theorem str_t {a b : Str} (h : decide (V.str a = V.str b) = true) : a = b := V.str.inj (of_decide_eq_true h)
theorem str_f {a b : Str} (h : ¬ decide (V.str a = V.str b) = true) : ¬ a = b := fun z => h (decide_eq_true (congrArg V.str z))
theorem int_t {a b : Int} (h : decide (V.int a = V.int b) = true) : a = b := V.int.inj (of_decide_eq_true h)
theorem int_f {a b : Int} (h : ¬ decide (V.int a = V.int b) = true) : ¬ a = b := fun z => h (decide_eq_true (congrArg V.int z))
theorem not_t {b : Bool} (h : (!b) = true) : ¬ b = true := by cases b <;> simp_all
theorem not_f {b : Bool} (h : ¬ (!b) = true) : b = true := by cases b <;> simp_all
theorem mode_in {m : Str} (h : Mode m) : inV (.str m) modesV = true := by
  rcases h with e | e | e | e | e <;> subst e <;> decide +kernel
theorem divp {o v s : Int} (hs : 1 ≤ s) (ho : -10 ^ 40 ≤ o ∧ o ≤ 10 ^ 40) (hv : Bd v) : CDivP (v - o) s := by
  refine divp_ok (by omega) ?_
  have h : (v - o).natAbs < 2 ^ 1010 := by
    have h1 := hv.1
    have h2 := hv.2
    omega
  have h2 : Builtin.Int.intBits (v - o) ≤ 1011 := by
    unfold Builtin.Int.intBits
    split
    · omega
    · have := PySem.Flt.log2_lt_of (by decide) h
      omega
  omega
theorem mulW {i j : Int} (hi : -2 ^ 1010 < i ∧ i < 2 ^ 1010) (hj : -2 ^ 1010 < j ∧ j < 2 ^ 1010) : CMulW i j := wide_mul (a := 1010) (b := 1010) (by omega) (by omega) (by decide) (by decide) (by decide)
theorem fig_bd {o s : Int} {m : Str} {v : Int} (S : SideP o s m) (hv : Bd v) : -2 ^ 1001 < figM o s m v ∧ figM o s m v < 2 ^ 1001 := by
  obtain ⟨h1, h2⟩ := hv
  obtain ⟨o0, o1, s0, s1, _⟩ := S
  have := div_bd (x := v - o) (b := 2 ^ 1000 + 10 ^ 40) s0 (by omega) (by omega)
  unfold figM
  split <;> omega
section
variable {P : Program} {w : World} {K : PySem.W.Frag} {mg : Str → Option Value} {base : Heap} {aM fI fB fV fC fG fF : Addr} {dI dB dV dC dG dF : FuncData}
theorem ok_is_int {f : Addr} {fd : FuncData} (F : Fun K "is_int" "is_int" s_is_int f fd) (T : SideT K mg aM) : FnOk P w K mg base CX0 1 f fd ["thing"] spIsInt := by
  refine F.ok sc_is_int (fun vs H Q E h => ?_) (fun cdv A outer s H vs Q E hr h => ?_)
  · obtain ⟨i, rfl, _⟩ := h
    rfl
  · obtain ⟨i, rfl, q⟩ := h
    refine ⟨_, pss_one (ps_ret (pe_and (pe_callB call_isi (by rfl) T.isi (by decide +kernel) (pa_cons (pv 0) (pa_cons (pe_bltn (v := .ty "int") (by rfl) T.int (by decide +kernel) rfl) pa_nil)))
      (pe_one (pe_not (pe_callB call_isi (by rfl) T.isi (by decide +kernel) (pa_cons (pv 0) (pa_cons (pe_bltn (v := .ty "bool") (by rfl) T.bool (by decide +kernel) rfl) pa_nil))))))), ?_⟩
    walk_at "rd"
    refine ⟨_, _, _, _, _, rfl, .ty "int", .base (.int _), kit_ty (r := true) (by decide +kernel), ?_⟩
    walk_at "rd"
    refine ⟨_, _, _, _, _, rfl, .ty "bool", .base (.int _), kit_ty (r := false) (by decide +kernel), ?_⟩
    walk_at "rd"
    exact q
theorem ok_between {f : Addr} {fd : FuncData} (F : Fun K "is_int_between" "is_int_between" s_is_int_between f fd) (I : Cal P w K mg base "is_int" 1 ["thing"] spIsInt fI dI) : FnOk P w K mg base CX0 2 f fd ["thing", "least", "most"] spBetween := by
  refine F.ok sc_is_int_between (fun vs H Q E h => ?_) (fun cdv A outer s H vs Q E hr h => ?_)
  · obtain ⟨i, a, b, rfl, _⟩ := h
    rfl
  · obtain ⟨i, a, b, rfl, q⟩ := h
    refine ⟨_, pss_one (ps_ret (pe_and (pcl I hr (by decide) (by rfl) (pa_cons (pv 0) pa_nil)) (pe_one (pe_chain op_le op_le (pv 1) (pv 0) (pv 2))))), ?_⟩
    walk_at "rd"
    refine ite2 (fun h => ?_) (fun h => ?_)
    · walk_at "rd"
      rw [decide_eq_true (of_decide_eq_true h)] at q
      exact q
    · rw [decide_eq_false (of_decide_eq_false (by simpa using h))] at q
      exact q
theorem ok_check_value {f : Addr} {fd : FuncData} (F : Fun K "check_value" "check_value" s_check_value f fd) (I : Cal P w K mg base "is_int" 1 ["thing"] spIsInt fI dI) : FnOk P w K mg base CX0 2 f fd ["value"] spCheckValue := by
  refine F.ok sc_check_value (fun vs H Q E h => ?_) (fun cdv A outer s H vs Q E hr h => ?_)
  · obtain ⟨i, rfl, _⟩ := h
    rfl
  · obtain ⟨i, rfl, q⟩ := h
    refine ⟨_, pss_one (ps_if (pt_not (pt_val (pcl I hr (by decide) (by rfl) (pa_cons (pv 0) pa_nil)))) (pss_one ps_never) pss_nil), ?_⟩
    walk_at "rd"
    exact q
theorem ok_check_side {f : Addr} {fd : FuncData} (F : Fun K "check_side" "check_side" s_check_side f fd) (T : SideT K mg aM) (B : Cal P w K mg base "is_int_between" 2 ["thing", "least", "most"] spBetween fB dB) : FnOk P w K mg base CX0 3 f fd ["side"] spCheckSide := by
  refine F.ok sc_check_side (fun vs H Q E h => ?_) (fun cdv A outer s H vs Q E hr h => ?_)
  · obtain ⟨p, o, s, m, rfl, _⟩ := h
    rfl
  · obtain ⟨p, o, s, m, rfl, hp, S, q⟩ := h
    have nd := sc_check_side.nd
    refine ⟨_, pss_cons (ps_if (PW.pt (pw_or (pt_not (pt_val (pe_callB call_isi (by rfl) T.isi (by decide +kernel) (pa_cons (pv 0) (pa_cons (pe_bltn (v := .ty "tuple") (by rfl) T.tuple (by decide +kernel) rfl) pa_nil)))))
        (pw_or1 (pt_cmpR op_ne (pe_callB call_len_seq (by rfl) T.len PySem.boot_len (pa_cons (pv 0) pa_nil)) pe_int (nomark _))))) (pss_one ps_never) pss_nil)
      (pss_cons (ps_asg (pv 0) (pg_tup (by rfl) (pgs_cons (pg_name (i := 1) nd rfl (Or.inl rfl)) (pgs_cons (pg_name (i := 2) nd rfl (Or.inl rfl)) (pgs_cons (pg_name (i := 3) nd rfl (Or.inl rfl)) pgs_nil)))))
      (pss_cons (ps_if (pt_not (pt_val (pcl B hr (by decide) (by rfl) (pa_cons (pv 1) (pa_cons (pe_un un_neg (pe_op op_pow pe_int pe_int)) (pa_cons (pe_op op_pow pe_int pe_int) pa_nil)))))) (pss_one ps_never) pss_nil)
      (pss_cons (ps_if (pt_not (pt_val (pcl B hr (by decide) (by rfl) (pa_cons (pv 2) (pa_cons pe_int (pa_cons (pe_op op_pow pe_int pe_int) pa_nil)))))) (pss_one ps_never) pss_nil)
      (pss_one (ps_if (pt_cmpR op_notIn_seq (pv 3) (pe_glob (v := .ref aM) (by rfl) T.gM rfl) (by rfl)) (pss_one ps_never) pss_nil))))), ?_⟩
    walk_at "rd"
    refine ⟨_, _, _, _, _, rfl, .ty "tuple", .base (.tup hp), kit_ty (r := true) (by decide +kernel), ?_⟩
    walk_at "rd"
    refine ⟨p, _, rfl, .inr (SqT.of hp), rfl, ?_⟩
    walk_at "rd"
    refine ⟨p, _, rfl, SqT.of hp, rfl, _, _, rfl, _, _, rfl, _, _, rfl, rfl, ?_⟩
    walk_at "rd"
    refine ⟨⟨by decide, by decide, by decide⟩, ?_⟩
    walk_at "rd"
    refine ⟨⟨by decide, by decide, by decide⟩, _, _, _, rfl, ?_⟩
    have e1 : (decide (-(10 : Int) ^ (40 : Int).toNat ≤ o) && decide (o ≤ (10 : Int) ^ (40 : Int).toNat)) = true := by
      rw [decide_eq_true (show -(10 : Int) ^ (40 : Int).toNat ≤ o from S.o0), decide_eq_true (show o ≤ (10 : Int) ^ (40 : Int).toNat from S.o1)]
      rfl
    refine ⟨_, rfl, ?_⟩
    refine ite2 (fun h => (not_t h e1).elim) (fun _ => ?_)
    walk_at "rd"
    refine ⟨⟨by decide, by decide, by decide⟩, _, _, _, rfl, ?_⟩
    have e2 : (decide ((1 : Int) ≤ s) && decide (s ≤ (10 : Int) ^ (30 : Int).toNat)) = true := by
      rw [decide_eq_true S.s0, decide_eq_true (show s ≤ (10 : Int) ^ (30 : Int).toNat from S.s1)]
      rfl
    refine ⟨_, rfl, ?_⟩
    refine ite2 (fun h => (not_t h e2).elim) (fun _ => ?_)
    walk_at "rd"
    refine ⟨aM, _, rfl, .inr (T.tM H), rfl, by decide, ?_⟩
    walk_at "rd"
    refine ite2 (fun h => (not_t h (mode_in S.md)).elim) (fun _ => ?_)
    exact q
end
end HT
namespace HT
open PySem L2
section
variable {P : Program} {w : World} {K : PySem.W.Frag} {mg : Str → Option Value} {base : Heap} {aM fI fB fV fC fG fF : Addr} {dI dB dV dC dG dF : FuncData}
theorem ok_goes_up {f : Addr} {fd : FuncData} (F : Fun K "_goes_up" "_goes_up" s_goes_up f fd) : FnOk P w K mg base CX0 1 f fd ["mode", "step", "figure", "rest"] spGo := by
  refine F.ok sc_goes_up (fun vs H Q E h => ?_) (fun cdv A outer s H vs Q E hr h => ?_)
  · obtain ⟨m, s, q, r, rfl, _⟩ := h
    rfl
  · obtain ⟨m, s, fg, r, rfl, q⟩ := h
    refine ⟨_, pss_cons (ps_if (pt_cmpR op_eq (pv 0) pe_str (nomark _)) (pss_one (ps_ret pe_bl)) pss_nil)
      (pss_cons (ps_if (pt_cmpR op_eq (pv 0) pe_str (nomark _)) (pss_one (ps_ret (pe_cmpR op_gt (pv 3) pe_int (nomark _)))) pss_nil)
      (pss_cons (ps_if (pt_cmpR op_ne (pe_op op_mul pe_int (pv 3)) (pv 1) (nomark _)) (pss_one (ps_ret (pe_cmpR op_gt (pe_op op_mul pe_int (pv 3)) (pv 1) (nomark _)))) pss_nil)
      (pss_cons (ps_if (pt_cmpR op_eq (pv 0) pe_str (nomark _)) (pss_one (ps_ret (pe_cmpR op_eq (pe_op op_mod (pv 2) pe_int) pe_int (nomark _)))) pss_nil)
      (pss_one (ps_ret (pe_cmpR op_eq (pv 0) pe_str (nomark _))))))), ?_⟩
    unfold goesUp at q
    walk_at "rd"
    refine ⟨rfl, ?_⟩
    walk_at "rd"
    refine ite2 (fun h => ?_) (fun h1 => ?_)
    · rw [if_pos (str_t h)] at q
      exact q
    rw [if_neg (str_f h1)] at q
    walk_at "rd"
    refine ⟨rfl, ?_⟩
    walk_at "rd"
    refine ite2 (fun h => ?_) (fun h2 => ?_)
    · rw [if_pos (str_t h)] at q
      walk_at "rd"
      exact q
    rw [if_neg (str_f h2)] at q
    walk_at "rd"
    refine ⟨.inl ⟨by decide, by decide⟩, ?_⟩
    walk_at "rd"
    refine ⟨rfl, ?_⟩
    walk_at "rd"
    refine ite2 (fun h => ?_) (fun h3 => ?_)
    · rw [if_neg (int_f (not_t h))] at q
      walk_at "rd"
      refine ⟨.inl ⟨by decide, by decide⟩, ?_⟩
      walk_at "rd"
      exact q
    rw [if_pos (int_t (not_f h3))] at q
    walk_at "rd"
    refine ⟨rfl, ?_⟩
    walk_at "rd"
    refine ite2 (fun h => ?_) (fun h4 => ?_)
    · rw [if_pos (str_t h), ← dec_int] at q
      walk_at "rd"
      refine ⟨(by show (0 : Int) < 2; decide), ?_⟩
      walk_at "rd"
      exact ⟨rfl, q⟩
    · rw [if_neg (str_f h4), ← dec_str] at q
      walk_at "rd"
      exact ⟨rfl, q⟩
theorem ok_figure {f : Addr} {fd : FuncData} (F : Fun K "_figure" "_figure" s_figure f fd) (T : SideT K mg aM)
    (G : Cal P w K mg base "_goes_up" 1 ["mode", "step", "figure", "rest"] spGo fG dG) : FnOk P w K mg base CX0 2 f fd ["side", "value"] spFig := by
  refine F.ok sc_figure (fun vs H Q E h => ?_) (fun cdv A outer s H vs Q E hr h => ?_)
  · obtain ⟨p, o, s, m, v, rfl, _⟩ := h
    rfl
  · obtain ⟨p, o, s, m, v, rfl, hp, S, hv, q⟩ := h
    have nd := sc_figure.nd
    refine ⟨_, pss_cons (ps_asg (pv 0) (pg_tup (by rfl) (pgs_cons (pg_name (i := 2) nd rfl (Or.inl rfl)) (pgs_cons (pg_name (i := 3) nd rfl (Or.inl rfl)) (pgs_cons (pg_name (i := 4) nd rfl (Or.inl rfl)) pgs_nil)))))
      (pss_cons (ps_asg (pe_callB call_divmodW (by rfl) T.dm (by decide +kernel) (pa_cons (pe_op op_sub (pv 1) (pv 2)) (pa_cons (pv 3) pa_nil))) (pg_tup (by rfl) (pgs_cons (pg_name (i := 5) nd rfl (Or.inl rfl)) (pgs_cons (pg_name (i := 6) nd rfl (Or.inl rfl)) pgs_nil))))
      (pss_cons (ps_if (pt_val (pcl G hr (by decide) (by rfl) (pa_cons (pv 4) (pa_cons (pv 3) (pa_cons (pv 5) (pa_cons (pv 6) pa_nil)))))) (pss_one (ps_ret (pe_op op_add (pv 5) pe_int))) pss_nil)
      (pss_one (ps_ret (pv 5))))), ?_⟩
    walk_at "rd"
    refine ⟨p, _, rfl, SqT.of hp, rfl, _, _, rfl, _, _, rfl, _, _, rfl, rfl, ?_⟩
    walk_at "rd"
    refine ⟨_, _, rfl, divp S.s0 ⟨S.o0, S.o1⟩ hv, fun d nd' => ?_⟩
    refine ⟨d, _, rfl, SqT.of upd_same, rfl, _, _, rfl, _, _, rfl, rfl, ?_⟩
    have sm : Same H (upd H d (.tup [.int ((v - o) / s), .int ((v - o) % s)])) := fun b u z => by rw [upd_ne (ne_of_none z nd')]; exact z
    have q' : Q (.int (figM o s m v)) (upd H d (.tup [.int ((v - o) / s), .int ((v - o) % s)])) := q _ sm
    unfold figM at q'
    walk_at "rd"
    refine ⟨_, _, _, _, rfl, ?_⟩
    walk_at "rd"
    refine ite2 (fun h => ?_) (fun h => ?_)
    · rw [if_pos h] at q'
      walk_at "rd"
      exact q'
    · rw [if_neg h] at q'
      walk_at "rd"
      exact q'
end
end HT
namespace HT
open PySem L2
section
variable {P : Program} {w : World} {K : PySem.W.Frag} {mg : Str → Option Value} {base : Heap} {fF : Addr} {dF : FuncData}
theorem ok_written {f : Addr} {fd : FuncData} (F : Fun K "written" "written" s_written f fd) (G : Cal P w K mg base "_figure" 2 ["side", "value"] spFig fF dF) : FnOk P w K mg base CX0 3 f fd ["side", "value"] spDue := by
  refine F.ok sc_written (fun vs H Q E h => ?_) (fun cdv A outer s H vs Q E hr h => ?_)
  · obtain ⟨p, o, s, m, v, rfl, _⟩ := h
    rfl
  · obtain ⟨p, o, s, m, v, rfl, hp, S, hv, q⟩ := h
    have nd := sc_written.nd
    refine ⟨_, pss_cons (ps_asg (pv 0) (pg_tup (by rfl) (pgs_cons (pg_name (i := 2) nd rfl (Or.inl rfl)) (pgs_cons (pg_name (i := 3) nd rfl (Or.inl rfl)) (pgs_cons (pg_name (i := 4) nd rfl (Or.inl rfl)) pgs_nil)))))
      (pss_one (ps_ret (pe_op op_add (pv 2) (pe_op op_mulW (pv 3) (pcl G hr (by decide) (by rfl) (pa_cons (pv 0) (pa_cons (pv 1) pa_nil))))))), ?_⟩
    walk_at "rd"
    refine ⟨p, _, rfl, SqT.of hp, rfl, _, _, rfl, _, _, rfl, _, _, rfl, rfl, ?_⟩
    walk_at "rd"
    refine ⟨p, o, s, m, v, rfl, hp, S, hv, fun H' sm => ?_⟩
    walk_at "rd"
    have b1 := fig_bd S hv
    have b2 := S.s0
    have b3 := S.s1
    refine ⟨mulW (by omega) (by omega), ?_⟩
    walk_at "rd"
    exact q H' sm
end
end HT
namespace HT
open PySem L2
structure MirT (K : PySem.W.Frag) (w : World) (mg : Str → Option Value) (aR : Addr) : Prop where
  gR : mg "MIRRORED" = some (.ref aR)
  dR : ∀ m, Mode m → KDct K w aR m (.str (mir m))
def BdK (x : Int) : Prop := -2 ^ 720 < x ∧ x < 2 ^ 720
def spBelow : Sp := fun vs H Q _ => ∃ (m : Str) (s k : Int), vs = [.str m, .int s, .int k] ∧ Mode m ∧ Q (.int (below m s k)) H
def spSpan : Sp := fun vs H Q _ => ∃ (p : Addr) (o s : Int) (m : Str) (k : Int), vs = [.ref p, .int k] ∧ H p = some (sideV o s m) ∧ SideP o s m ∧ BdK k ∧
  ∀ (d : Addr) (H' : Hp), Same H H' → H d = none → H' d = some (.tup [.int (lowM o s m k), .int (highM o s m k)]) → Q (.ref d) H'
def spBack : Sp := fun vs H Q _ => ∃ (p : Addr) (o s : Int) (m : Str) (v : Int), vs = [.ref p, .int v] ∧ H p = some (sideV o s m) ∧ SideP o s m ∧ -2 ^ 700 < v ∧ v < 2 ^ 700 ∧
  ∀ H' : Hp, Same H H' → Q (.int (backM o s m v)) H'
theorem bdK_bd {x : Int} (h : BdK x) : Bd x := by
  unfold BdK at h
  unfold Bd
  omega
section
variable {P : Program} {w : World} {K : PySem.W.Frag} {mg : Str → Option Value} {base : Heap} {aM aR fV fC fB fS : Addr} {dV dC dB dS : FuncData}
end
end HT
namespace HT
open PySem L2
/-! ### mirrors and forms -/
theorem mir_mir {m : Str} (h : Mode m) : mir (mir m) = m := by
  rcases h with e | e | e | e | e <;> subst e
  · rw [mir_d, mir_u]
  · rw [mir_u, mir_d]
  · rw [mir_hd, mir_hu]
  · rw [mir_hu, mir_hd]
  · rw [mir_he, mir_he]
theorem below_neg {m : Str} {s : Int} (k : Int) (h : Mode m) : below m s (-k) = below m s k := by
  rcases h with e | e | e | e | e <;> subst e
  · rw [be_d, be_d]
  · rw [be_u, be_u]
  · rw [be_hd, be_hd]
  · rw [be_hu, be_hu]
  · rw [be_he, be_he]; split <;> split <;> omega
theorem due_mirror {o s : Int} {m : Str} {v : Int} (h : Mode m) (hs : 1 ≤ s) : dueM (-o) s (mir m) (-v) = -dueM o s m v := by
  have f := (fig_iff (o := o) (v := v) (k := figM o s m v) h hs).mp rfl
  generalize figM o s m v = k at f
  have e : figM o s m v = k := (fig_iff h hs).mpr f
  have e2 : figM (-o) s (mir m) (-v) = -k := by
    refine (fig_iff (mir_mode h) hs).mpr ?_
    unfold lowM highM at f ⊢
    rw [mir_mir h, below_neg k h, below_neg k (mir_mode h), Int.mul_neg]
    omega
  unfold dueM
  rw [e, e2, Int.mul_neg]
  omega
def firstM (s : Int) (m : Str) : Str := if s = 1 then "down" else if s = 2 ∧ m = "half_down" then "down" else if s = 2 ∧ m = "half_up" then "up" else if s % 2 = 1 ∧ (m = "half_up" ∨ m = "half_even") then "half_down" else m
def formO (o s : Int) (f : Str) : Int := if f = "half_even" then o % (2 * s) else o % s
def ordM (m : Str) : Nat := if m = "down" then 0 else if m = "up" then 1 else if m = "half_down" then 2 else if m = "half_up" then 3 else 4
theorem ord_d : ordM "down" = 0 := by unfold ordM; rw [if_pos rfl]
theorem ord_u : ordM "up" = 1 := by unfold ordM; rw [if_neg d_u, if_pos rfl]
theorem ord_hd : ordM "half_down" = 2 := by unfold ordM; rw [if_neg hd_d, if_neg hd_u, if_pos rfl]
theorem ord_hu : ordM "half_up" = 3 := by unfold ordM; rw [if_neg hu_d, if_neg hu_u, if_neg hu_hd, if_pos rfl]
theorem ord_he : ordM "half_even" = 4 := by unfold ordM; rw [if_neg he_d, if_neg he_u, if_neg he_hd, if_neg he_hu]
theorem u_hu : ¬ (("up" : Str) = "half_up") := by decide +kernel
theorem u_he : ¬ (("up" : Str) = "half_even") := by decide +kernel
theorem dn_hd : ¬ (("down" : Str) = "half_down") := by decide +kernel
theorem dn_hu : ¬ (("down" : Str) = "half_up") := by decide +kernel
theorem dn_he : ¬ (("down" : Str) = "half_even") := by decide +kernel
theorem dn_u : ¬ (("down" : Str) = "up") := by decide +kernel
/-- the first modes, mode by mode -/
theorem fi_one (m : Str) : firstM 1 m = "down" := by unfold firstM; rw [if_pos rfl]
theorem fi_d (s : Int) : firstM s "down" = "down" := by
  unfold firstM
  by_cases h : s = 1
  · rw [if_pos h]
  · rw [if_neg h, if_neg (fun z => dn_hd z.2), if_neg (fun z => dn_hu z.2), if_neg (fun z => z.2.elim dn_hu dn_he)]
theorem fi_u {s : Int} (h : s ≠ 1) : firstM s "up" = "up" := by
  unfold firstM
  rw [if_neg h, if_neg (fun z => u_hd z.2), if_neg (fun z => u_hu z.2), if_neg (fun z => z.2.elim u_hu u_he)]
theorem fi_hd2 : firstM 2 "half_down" = "down" := by unfold firstM; rw [if_neg (by decide), if_pos ⟨rfl, rfl⟩]
theorem fi_hd {s : Int} (h : s ≠ 1) (h2 : s ≠ 2) : firstM s "half_down" = "half_down" := by
  unfold firstM
  rw [if_neg h, if_neg (fun z => h2 z.1), if_neg (fun z => h2 z.1), if_neg (fun z => z.2.elim hd_hu hd_e)]
theorem fi_hu2 : firstM 2 "half_up" = "up" := by unfold firstM; rw [if_neg (by decide), if_neg (fun z => hu_hd z.2), if_pos ⟨rfl, rfl⟩]
theorem fi_huO {s : Int} (h : s ≠ 1) (h2 : s % 2 = 1) : firstM s "half_up" = "half_down" := by
  unfold firstM
  rw [if_neg h, if_neg (fun z => hu_hd z.2), if_neg (fun z => by have := z.1; omega), if_pos ⟨h2, .inl rfl⟩]
theorem fi_huE {s : Int} (h : s ≠ 2) (h2 : s % 2 = 0) : firstM s "half_up" = "half_up" := by
  unfold firstM
  rw [if_neg (by omega), if_neg (fun z => hu_hd z.2), if_neg (fun z => h z.1), if_neg (fun z => by have := z.1; omega)]
theorem fi_heO {s : Int} (h : s ≠ 1) (h2 : s % 2 = 1) : firstM s "half_even" = "half_down" := by
  unfold firstM
  rw [if_neg h, if_neg (fun z => he_hd z.2), if_neg (fun z => he_hu z.2), if_pos ⟨h2, .inr rfl⟩]
theorem fi_heE {s : Int} (h2 : s % 2 = 0) : firstM s "half_even" = "half_even" := by
  unfold firstM
  rw [if_neg (by omega), if_neg (fun z => he_hd z.2), if_neg (fun z => he_hu z.2), if_neg (fun z => by have := z.1; omega)]
/-- what is known of the first mode -/
structure FirstP (s : Int) (m : Str) : Prop where
  md : Mode (firstM s m)
  id : firstM s (firstM s m) = firstM s m
  od : ordM (firstM s m) ≤ ordM m
  go : ∀ q r, 0 ≤ r → r < s → goesUp (firstM s m) s q r = goesUp m s q r
  ev : firstM s m = "half_even" → s % 2 = 0
theorem first_ok {s : Int} {m : Str} (h : Mode m) (hs : 1 ≤ s) : FirstP s m := by
  have D : Mode "down" := .inl rfl
  have U : Mode "up" := .inr (.inl rfl)
  have HD : Mode "half_down" := .inr (.inr (.inl rfl))
  by_cases s1 : s = 1
  · subst s1
    refine ⟨by rw [fi_one]; exact D, by rw [fi_one, fi_one], by rw [fi_one, ord_d]; omega, fun q r r0 r1 => ?_, by rw [fi_one]; exact fun z => (dn_he z).elim⟩
    have : r = 0 := by omega
    subst this
    rw [fi_one, go_zero D (by decide), go_zero h (by decide)]
  rcases h with e | e | e | e | e <;> subst e
  · exact ⟨by rw [fi_d]; exact D, by rw [fi_d, fi_d], by rw [fi_d]; omega, fun q r _ _ => by rw [fi_d], by rw [fi_d]; exact fun z => (dn_he z).elim⟩
  · exact ⟨by rw [fi_u s1]; exact U, by rw [fi_u s1, fi_u s1], by rw [fi_u s1]; omega, fun q r _ _ => by rw [fi_u s1], by rw [fi_u s1]; exact fun z => (u_he z).elim⟩
  · by_cases s2 : s = 2
    · subst s2
      refine ⟨by rw [fi_hd2]; exact D, by rw [fi_hd2, fi_d], by rw [fi_hd2, ord_d]; omega, fun q r r0 r1 => ?_, by rw [fi_hd2]; exact fun z => (dn_he z).elim⟩
      rw [fi_hd2, go_down, go_hd, decide_eq_false (by omega)]
    · exact ⟨by rw [fi_hd s1 s2]; exact HD, by rw [fi_hd s1 s2, fi_hd s1 s2], by rw [fi_hd s1 s2]; omega, fun q r _ _ => by rw [fi_hd s1 s2], by rw [fi_hd s1 s2]; exact fun z => (hd_e z).elim⟩
  · by_cases s2 : s = 2
    · subst s2
      refine ⟨by rw [fi_hu2]; exact U, by rw [fi_hu2, fi_u s1], by rw [fi_hu2, ord_u, ord_hu]; omega, fun q r r0 r1 => ?_, by rw [fi_hu2]; exact fun z => (u_he z).elim⟩
      rw [fi_hu2, go_up, go_hu]
      exact decide_eq_decide.mpr (by omega)
    · by_cases od : s % 2 = 1
      · refine ⟨by rw [fi_huO s1 od]; exact HD, by rw [fi_huO s1 od, fi_hd s1 s2], by rw [fi_huO s1 od, ord_hd, ord_hu]; omega, fun q r r0 r1 => ?_, by rw [fi_huO s1 od]; exact fun z => (hd_e z).elim⟩
        rw [fi_huO s1 od, go_hd, go_hu]
        exact decide_eq_decide.mpr (by omega)
      · have ev : s % 2 = 0 := by omega
        exact ⟨by rw [fi_huE s2 ev]; exact .inr (.inr (.inr (.inl rfl))), by rw [fi_huE s2 ev, fi_huE s2 ev], by rw [fi_huE s2 ev]; omega, fun q r _ _ => by rw [fi_huE s2 ev], by rw [fi_huE s2 ev]; exact fun z => (hu_e z).elim⟩
  · by_cases od : s % 2 = 1
    · refine ⟨by rw [fi_heO s1 od]; exact HD, by rw [fi_heO s1 od, fi_hd s1 (by omega)], by rw [fi_heO s1 od, ord_hd, ord_he]; omega, fun q r r0 r1 => ?_, by rw [fi_heO s1 od]; exact fun z => (hd_e z).elim⟩
      rw [fi_heO s1 od, go_hd, go_he, decide_eq_false (show ¬ 2 * r = s by omega), Bool.false_and, Bool.or_false]
    · have ev : s % 2 = 0 := by omega
      exact ⟨by rw [fi_heE ev]; exact .inr (.inr (.inr (.inr rfl))), by rw [fi_heE ev, fi_heE ev], by rw [fi_heE ev]; omega, fun q r _ _ => by rw [fi_heE ev], fun _ => ev⟩
theorem go_shift {m : Str} {s q r j : Int} (h : Mode m) (hj : m ≠ "half_even" ∨ j % 2 = 0) : goesUp m s (q + j) r = goesUp m s q r := by
  rcases h with e | e | e | e | e <;> subst e
  · rw [go_down, go_down]
  · rw [go_up, go_up]
  · rw [go_hd, go_hd]
  · rw [go_hu, go_hu]
  · have z : j % 2 = 0 := hj.resolve_left (fun z => z rfl)
    rw [go_he, go_he, show (q + j) % 2 = q % 2 by omega]
/-- an offset moved by whole steps, by two of them for the even -/
theorem due_shift {o s j : Int} {m : Str} {v : Int} (h : Mode m) (hs : 1 ≤ s) (hj : m ≠ "half_even" ∨ j % 2 = 0) : dueM (o + s * j) s m v = dueM o s m v := by
  have F := fig_of (o := o + s * j) (m := m) (v := v) hs
  generalize (v - (o + s * j)) / s = q at F
  generalize (v - (o + s * j)) % s = r at F
  generalize hk : figM (o + s * j) s m v = k at F
  obtain ⟨eq, r0, r1, wh⟩ := F
  have e : figM o s m v = k + j := by
    refine fig_uniq (q := q + j) (r := r) hs ⟨by rw [Int.mul_add]; omega, r0, r1, ?_⟩
    rw [go_shift h hj]
    rcases wh with ⟨g, e⟩ | ⟨g, e⟩
    · exact .inl ⟨g, by omega⟩
    · exact .inr ⟨g, by omega⟩
  unfold dueM
  rw [e, hk, Int.mul_add]
  omega
theorem due_go {o s : Int} {m m' : Str} {v : Int} (hs : 1 ≤ s) (h : ∀ q r, 0 ≤ r → r < s → goesUp m s q r = goesUp m' s q r) : dueM o s m v = dueM o s m' v := by
  unfold dueM figM
  rw [h _ _ (Int.emod_nonneg _ (by omega)) (Int.emod_lt_of_pos _ (by omega))]
theorem due_form {o s : Int} {m : Str} (v : Int) (h : Mode m) (hs : 1 ≤ s) : dueM (formO o s (firstM s m)) s (firstM s m) v = dueM o s m v := by
  have P := first_ok h hs
  rw [← due_go hs P.go]
  unfold formO
  by_cases e : firstM s m = "half_even"
  · rw [if_pos e]
    have a := Int.mul_ediv_add_emod o (2 * s)
    have b : o % (2 * s) = o + s * (-(2 * (o / (2 * s)))) := by
      rw [Int.mul_neg, ← Int.mul_assoc, Int.mul_comm s 2]
      omega
    rw [b]
    exact due_shift P.md hs (.inr (by omega))
  · rw [if_neg e]
    have a := Int.mul_ediv_add_emod o s
    have b : o % s = o + s * (-(o / s)) := by
      rw [Int.mul_neg]
      omega
    rw [b]
    exact due_shift P.md hs (.inl e)
theorem form_bd {o s : Int} {f : Str} (hs : 1 ≤ s) : 0 ≤ formO o s f ∧ formO o s f < 2 * s ∧ (f ≠ "half_even" → formO o s f < s) := by
  unfold formO
  by_cases e : f = "half_even"
  · rw [if_pos e]
    exact ⟨Int.emod_nonneg _ (by omega), Int.emod_lt_of_pos _ (by omega), fun z => absurd e z⟩
  · rw [if_neg e]
    have := Int.emod_lt_of_pos o (show 0 < s by omega)
    exact ⟨Int.emod_nonneg _ (by omega), by omega, fun _ => this⟩
theorem form_idem {o s : Int} {f : Str} : formO (formO o s f) s f = formO o s f := by
  unfold formO
  by_cases e : f = "half_even"
  · rw [if_pos e, if_pos e, Int.emod_emod_of_dvd _ (Int.dvd_refl _)]
  · rw [if_neg e, if_neg e, Int.emod_emod_of_dvd _ (Int.dvd_refl _)]
/-- a value told by its figure and rest -/
theorem due_at {o s q r : Int} {m : Str} (hs : 1 ≤ s) (r0 : 0 ≤ r) (r1 : r < s) : dueM o s m (o + s * q + r) = o + s * q + (if goesUp m s q r = true then s else 0) := by
  unfold dueM
  by_cases g : goesUp m s q r = true
  · rw [fig_uniq (q := q) (r := r) (k := q + 1) hs ⟨by omega, r0, r1, .inl ⟨g, rfl⟩⟩, if_pos g, Int.mul_add]
    omega
  · have g' : goesUp m s q r = false := by cases h : goesUp m s q r <;> simp_all
    rw [fig_uniq (q := q) (r := r) (k := q) hs ⟨by omega, r0, r1, .inr ⟨g', rfl⟩⟩, if_neg g]
    omega
end HT
namespace HT
open PySem L2
def spMirror : Sp := fun vs H Q _ => ∃ (p : Addr) (o s : Int) (m : Str), vs = [.ref p] ∧ H p = some (sideV o s m) ∧ SideP o s m ∧
  ∀ (d : Addr) (H' : Hp), Same H H' → H d = none → H' d = some (sideV (-o) s (mir m)) → Q (.ref d) H'
def spFirst : Sp := fun vs H Q _ => ∃ (s : Int) (m : Str), vs = [.int s, .str m] ∧ 1 ≤ s ∧ Mode m ∧ ∀ H' : Hp, Same H H' → Q (.str (firstM s m)) H'
def spForm : Sp := fun vs H Q _ => ∃ (p : Addr) (o s : Int) (m : Str), vs = [.ref p] ∧ H p = some (sideV o s m) ∧ SideP o s m ∧
  ∀ (d : Addr) (H' : Hp), Same H H' → H d = none → H' d = some (sideV (formO o s (firstM s m)) s (firstM s m)) → Q (.ref d) H'
theorem side_mir {o s : Int} {m : Str} (S : SideP o s m) : SideP (-o) s (mir m) := by
  obtain ⟨o0, o1, s0, s1, md⟩ := S
  exact ⟨by omega, by omega, s0, s1, mir_mode md⟩
theorem side_form {o s : Int} {m : Str} (S : SideP o s m) : SideP (formO o s (firstM s m)) s (firstM s m) := by
  obtain ⟨o0, o1, s0, s1, md⟩ := S
  obtain ⟨a, b, _⟩ := form_bd (o := o) (f := firstM s m) s0
  exact ⟨by omega, by omega, s0, s1, (first_ok md s0).md⟩
theorem in_two (m : Str) : inV (.str m) [V.str "half_up", .str "half_even"] = decide (m = "half_up" ∨ m = "half_even") := by
  show (eqV (V.str "half_up") (V.str m) || (eqV (V.str "half_even") (V.str m) || false)) = _
  have e : ∀ a b : Str, eqV (V.str a) (V.str b) = decide (a = b) := fun a b => by
    show (a == b) = decide (a = b)
    by_cases h : a = b
    · rw [decide_eq_true h, h, beq_self_eq_true]
    · rw [decide_eq_false h]
      exact beq_eq_false_iff_ne.mpr h
  rw [e, e, Bool.or_false]
  by_cases a : m = "half_up"
  · rw [decide_eq_true a.symm, decide_eq_true (Or.inl a)]
    rfl
  · by_cases b : m = "half_even"
    · rw [decide_eq_true b.symm, decide_eq_true (Or.inr b), Bool.or_true]
    · rw [decide_eq_false (fun z => a z.symm), decide_eq_false (fun z => b z.symm), decide_eq_false (fun z => z.elim a b)]
      rfl
section
variable {P : Program} {w : World} {K : PySem.W.Frag} {mg : Str → Option Value} {base : Heap} {aM aR fV fC fB fS : Addr} {dV dC dB dS : FuncData}
theorem ok_mirror {f : Addr} {fd : FuncData} (F : Fun K "mirror" "mirror" s_mirror f fd) (R : MirT K w mg aR) (C : Cal P w K mg base "check_side" 3 ["side"] spCheckSide fC dC) : FnOk P w K mg base CX0 4 f fd ["side"] spMirror := by
  refine F.ok sc_mirror (fun vs H Q E h => ?_) (fun cdv A outer s H vs Q E hr h => ?_)
  · obtain ⟨p, o, s, m, rfl, _⟩ := h
    rfl
  · obtain ⟨p, o, s, m, rfl, hp, S, q⟩ := h
    have nd := sc_mirror.nd
    refine ⟨_, pss_cons (ps_expr (pcl C hr (by decide) (by rfl) (pa_cons (pv 0) pa_nil)))
      (pss_cons (ps_asg (pv 0) (pg_tup (by rfl) (pgs_cons (pg_name (i := 1) nd rfl (Or.inl rfl)) (pgs_cons (pg_name (i := 2) nd rfl (Or.inl rfl)) (pgs_cons (pg_name (i := 3) nd rfl (Or.inl rfl)) pgs_nil)))))
      (pss_one (ps_ret (pe_tup (pa_cons (pe_un un_neg (pv 1)) (pa_cons (pv 2) (pa_cons (pe_ix ix_kdict (pe_glob (v := .ref aR) (by rfl) R.gR rfl) (pv 3) (fun _ _ => rfl)) pa_nil))))))), ?_⟩
    walk_at "rd"
    refine ⟨p, o, s, m, rfl, hp, S, ?_⟩
    walk_at "rd"
    refine ⟨p, _, rfl, SqT.of hp, rfl, _, _, rfl, _, _, rfl, _, _, rfl, rfl, ?_⟩
    walk_at "rd"
    refine ⟨aR, m, _, rfl, rfl, R.dR m S.md, ?_⟩
    refine ⟨(by show 3 ≤ sizeLine; decide), fun d nd' => ?_⟩
    exact q d _ (fun b u z => (upd_ne (ne_of_none z nd')).trans z) nd' upd_same
end
end HT
namespace HT
open PySem L2
section
variable {P : Program} {w : World} {K : PySem.W.Frag} {mg : Str → Option Value} {base : Heap} {aM fD fP fG fL fA fF fH fS : Addr} {dD dP dG dL dA dF dH dS : FuncData}
theorem ok_L_figure {f : Addr} {fd : FuncData} (F : Fun K "_law_figure" "_law_figure" s_L_figure f fd) (B : Blt mg) : FnOk P w K mg base CX0 1 f fd ["_law_side", "_law_value"] spFig := by
  refine F.ok sc_L_figure (fun vs H Q E h => ?_) (fun cdv A outer s H vs Q E hr h => ?_)
  · obtain ⟨p, o, s, m, v, rfl, _⟩ := h
    rfl
  · obtain ⟨p, o, s, m, v, rfl, hp, S, hv, q⟩ := h
    have nd := sc_L_figure.nd
    have q' : Q (.int (figM o s m v)) H := q H (Same.refl H)
    have Fg := fig_of (o := o) (m := m) (v := v) S.s0
    refine ⟨_, pss_cons (ps_asg (pv 0) (pg_tup (by rfl) (pgs_cons (pg_name (i := 2) nd rfl (Or.inl rfl)) (pgs_cons (pg_name (i := 3) nd rfl (Or.inl rfl)) (pgs_cons (pg_name (i := 4) nd rfl (Or.inl rfl)) pgs_nil)))))
      (pss_cons (ps_set (i := 5) nd rfl (Or.inl rfl) (pe_op op_fdivW (pe_callTy call_int1 (by rfl) B.int (by decide +kernel) (pa_cons (pe_op op_sub (pv 1) (pv 2)) pa_nil)) (pv 3)))
      (pss_cons (ps_set (i := 6) nd rfl (Or.inl rfl) (pe_op op_sub (pe_op op_sub (pv 1) (pv 2)) (pe_op op_mulW (pv 3) (pv 5))))
      (pss_cons (ps_if (PW.pt (pw_or (pt_cmpR op_eq (pv 4) pe_str (nomark _)) (pw_or1 (pt_cmpR op_eq (pv 6) pe_int (nomark _))))) (pss_one (ps_ret (pv 5))) pss_nil)
      (pss_cons (ps_if (PW.pt (pw_or (pt_cmpR op_eq (pv 4) pe_str (nomark _)) (pw_or1 (pt_cmpR op_gt (pe_op op_mul pe_int (pv 6)) (pv 3) (nomark _))))) (pss_one (ps_ret (pe_op op_add (pv 5) pe_int))) pss_nil)
      (pss_cons (ps_if (PW.pt (pw_or (pt_cmpR op_lt (pe_op op_mul pe_int (pv 6)) (pv 3) (nomark _)) (pw_or1 (pt_cmpR op_eq (pv 4) pe_str (nomark _))))) (pss_one (ps_ret (pv 5))) pss_nil)
      (pss_one (ps_ret (pe_op op_add (pv 5) (pe_callTy call_int1 (by rfl) B.int (by decide +kernel) (pa_cons (pe_or (pe_cmpR op_eq (pv 4) pe_str (nomark _)) (pe_one (pe_cmpR op_eq (pe_op op_mod (pv 5) pe_int) pe_int (nomark _)))) pa_nil)))))))))), ?_⟩
    have b0 := S.s0
    have b1 := S.s1
    have b2 := S.o0
    have b3 := S.o1
    have b4 := hv.1
    have b5 := hv.2
    have b6 := div_bd (x := v - o) (b := 2 ^ 1001) S.s0 (by omega) (by omega)
    have rr : v - o - s * ((v - o) / s) = (v - o) % s := by
      have := Fg.eq
      omega
    walk_at "rd"
    refine ⟨p, _, rfl, SqT.of hp, rfl, _, _, rfl, _, _, rfl, _, _, rfl, rfl, ?_⟩
    walk_at "rd"
    refine ⟨fdiv_ok _ (by omega) (lg_big (by omega) (by omega)), ?_⟩
    walk_at "rd"
    refine ⟨mulW (by omega) (by omega), ?_⟩
    walk_at "rd"
    refine ⟨rfl, ?_⟩
    walk_at "rd"
    obtain ⟨_, r0, r1, wh⟩ := Fg
    generalize figM o s m v = k at q' wh
    -- the three ways of a mode
    have fin0 : k = ((v - o) / s) → Q (.int ((v - o) / s)) H := fun e => by rw [← e]; exact q'
    have fin1 : k = ((v - o) / s) + 1 → Q (.int (((v - o) / s) + 1)) H := fun e => by rw [← e]; exact q'
    have low : goesUp m s ((v - o) / s) ((v - o) % s) = false → k = ((v - o) / s) := fun h => by
      rcases wh with ⟨g, _⟩ | ⟨_, e⟩
      · rw [h] at g; cases g
      · exact e
    have up : goesUp m s ((v - o) / s) ((v - o) % s) = true → k = ((v - o) / s) + 1 := fun h => by
      rcases wh with ⟨_, e⟩ | ⟨g, _⟩
      · exact e
      · rw [h] at g; cases g
    refine ite2 (fun h => ?_) (fun h1 => ?_)
    · walk_at "rd"
      refine fin0 (low ?_)
      rw [str_t h, go_down]
    walk_at "rd"
    refine ⟨rfl, ?_⟩
    walk_at "rd"
    refine ite2 (fun h => ?_) (fun h2 => ?_)
    · walk_at "rd"
      refine fin0 (low ?_)
      have e : ((v - o) % s) = 0 := by have := int_t h; omega
      rw [e]
      exact go_zero S.md S.s0
    have n1 := str_f h1
    have n2 : ¬ ((v - o) % s) = 0 := fun z => int_f h2 (by omega)
    walk_at "rd"
    refine ⟨rfl, ?_⟩
    walk_at "rd"
    refine ite2 (fun h => ?_) (fun h3 => ?_)
    · walk_at "rd"
      refine fin1 (up ?_)
      rw [str_t h, go_up]
      exact decide_eq_true (by omega)
    have n3 := str_f h3
    walk_at "rd"
    refine ⟨.inl ⟨by decide, by decide⟩, ?_⟩
    walk_at "rd"
    have hh : half m := by
      rcases S.md with e | e | e
      · exact absurd e n1
      · exact absurd e n3
      · exact e
    refine ite2 (fun h => ?_) (fun h4 => ?_)
    · walk_at "rd"
      have g : s < 2 * ((v - o) % s) := by have := of_decide_eq_true h; omega
      refine fin1 (up ?_)
      unfold goesUp
      rw [if_neg n1, if_neg n3, if_neg (by omega)]
      exact decide_eq_true g
    have n4 : ¬ s < 2 * ((v - o) % s) := fun z => h4 (decide_eq_true (by omega))
    walk_at "rd"
    refine ⟨.inl ⟨by decide, by decide⟩, ?_⟩
    walk_at "rd"
    refine ite2 (fun h => ?_) (fun h5 => ?_)
    · walk_at "rd"
      have g : 2 * ((v - o) % s) < s := by have := of_decide_eq_true h; omega
      refine fin0 (low ?_)
      unfold goesUp
      rw [if_neg n1, if_neg n3, if_neg (by omega)]
      exact decide_eq_false n4
    have n5 : 2 * ((v - o) % s) = s := by
      have : ¬ 2 * ((v - o) % s) < s := fun z => h5 (decide_eq_true (by omega))
      omega
    walk_at "rd"
    refine ⟨rfl, ?_⟩
    walk_at "rd"
    refine ite2 (fun h => ?_) (fun h6 => ?_)
    · walk_at "rd"
      refine fin0 (low ?_)
      rw [str_t h, go_hd]
      exact decide_eq_false n4
    have n6 := str_f h6
    have kk : k = ((v - o) / s) + (if m = "half_up" then 1 else if ((v - o) / s) % 2 = 1 then 1 else 0) := by
      rcases hh with e | e | e
      · exact absurd e n6
      · rw [if_pos e]
        refine up ?_
        rw [e, go_hu]
        exact decide_eq_true (by omega)
      · have e2 : goesUp m s ((v - o) / s) ((v - o) % s) = decide (((v - o) / s) % 2 = 1) := by
          rw [e, go_he, decide_eq_false n4, decide_eq_true n5]
          rfl
        rw [if_neg (by rw [e]; exact he_hu)]
        by_cases z : ((v - o) / s) % 2 = 1
        · rw [if_pos z]
          exact up (by rw [e2]; exact decide_eq_true z)
        · rw [if_neg z, Int.add_zero]
          exact low (by rw [e2]; exact decide_eq_false z)
    walk_at "rd"
    refine ⟨rfl, ?_⟩
    walk_at "rd"
    refine ite2 (fun h => ?_) (fun h7 => ?_)
    · refine .inr ⟨true, rfl, ?_⟩
      walk_at "rd"
      rw [if_pos (str_t h)] at kk
      exact fin1 kk
    · rw [if_neg (str_f h7)] at kk
      walk_at "rd"
      refine ⟨(by show (0 : Int) < 2; decide), ?_⟩
      walk_at "rd"
      refine ⟨rfl, .inr ⟨_, rfl, ?_⟩⟩
      walk_at "rd"
      show Q (.int (((v - o) / s) + if decide (V.int (((v - o) / s) % 2) = V.int 1) = true then 1 else 0)) H
      rw [dec_int]
      by_cases z : ((v - o) / s) % 2 = 1
      · rw [if_pos z] at kk
        rw [if_pos (decide_eq_true z)]
        exact fin1 kk
      · rw [if_neg z, Int.add_zero] at kk
        rw [if_neg (by rw [decide_eq_false z]; decide), Int.add_zero]
        exact fin0 kk
theorem ok_L_handed {f : Addr} {fd : FuncData} (F : Fun K "_law_handed" "_law_handed" s_L_handed f fd) (L : Cal P w K mg base "_law_figure" 1 ["_law_side", "_law_value"] spFig fL dL) : FnOk P w K mg base CX0 2 f fd ["_law_side", "_law_value"] spDue := by
  refine F.ok sc_L_handed (fun vs H Q E h => ?_) (fun cdv A outer s H vs Q E hr h => ?_)
  · obtain ⟨p, o, s, m, v, rfl, _⟩ := h
    rfl
  · obtain ⟨p, o, s, m, v, rfl, hp, S, hv, q⟩ := h
    refine ⟨_, pss_one (ps_ret (pe_op op_add (pe_ix ix_tup (pv 0) pe_int (fun _ _ => rfl)) (pe_op op_mulW (pe_ix ix_tup (pv 0) pe_int (fun _ _ => rfl)) (pcl L hr (by decide) (by rfl) (pa_cons (pv 0) (pa_cons (pv 1) pa_nil)))))), ?_⟩
    walk_at "rd"
    refine ⟨p, _, 0, _, rfl, rfl, SqT.of hp, rfl, ?_⟩
    walk_at "rd"
    refine ⟨p, _, 1, _, rfl, rfl, SqT.of hp, rfl, ?_⟩
    walk_at "rd"
    refine ⟨p, o, s, m, v, rfl, hp, S, hv, fun H' sm => ?_⟩
    walk_at "rd"
    have b1 := fig_bd S hv
    have b2 := S.s0
    have b3 := S.s1
    refine ⟨mulW (by omega) (by omega), ?_⟩
    walk_at "rd"
    exact q H' sm
end
end HT
namespace HT
open PySem L2
def spDiv : Sp := fun vs H Q _ => ∃ a b : Nat, vs = [.int (a : Int), .int (b : Int)] ∧ Q (.int ((Nat.gcd a b : Nat) : Int)) H
section
variable {P : Program} {w : World} {K : PySem.W.Frag} {mg : Str → Option Value} {base : Heap} {fW fF : Addr} {dW dF : FuncData}
theorem ok_div {f : Addr} {fd : FuncData} (F : Fun K "_law_divisor" "_law_divisor" s_L_divisor f fd) (B : Blt mg) : FnOk P w K mg base CX0 1 f fd ["_law_one", "_law_other"] spDiv := by
  refine F.ok sc_L_divisor (fun vs H Q E h => ?_) (fun cdv A outer s0 H vs Q E hr h => ?_)
  · obtain ⟨a, b, rfl, _⟩ := h
    rfl
  · obtain ⟨a, b, rfl, q⟩ := h
    have nd := sc_L_divisor.nd
    refine ⟨_, pss_cons (ps_while PassesOwn.never (pt_cmpR op_ne (pv 1) pe_int (nomark _)) (pss_one (ps_par (i := 0) (j := 1) rfl nd rfl rfl (by decide) rfl rfl (pa_cons (pv 1) (pa_cons (pe_op op_mod (pe_callTy call_int1 (by rfl) B.int (by decide +kernel) (pa_cons (pv 0) pa_nil)) (pv 1)) pa_nil)) (by rfl))))
      (pss_one (ps_ret (pv 0))), ?_⟩
    refine ⟨fun m σ H' => ∃ c d : Nat, m = d ∧ σ = [some (.int (c : Int)), some (.int (d : Int))] ∧ H' = H ∧ Nat.gcd c d = Nat.gcd a b, ⟨b, a, b, rfl, rfl, rfl, rfl⟩, ?_⟩
    rintro d σ H' ⟨c, _, rfl, rfl, rfl, hg⟩
    walk_at "rd"
    refine ⟨rfl, ?_⟩
    rw [dec_int]
    by_cases e : d = 0
    · subst e
      walk_at "rd"
      show Q (.int (c : Int)) H'
      rw [Nat.gcd_zero_right] at hg
      rw [hg]
      exact q
    · have e2 : (!decide ((d : Int) = 0)) = true := by
        rw [decide_eq_false (by omega)]
        rfl
      rw [e2]
      refine ⟨true, rfl, fun σ' H'' => ∃ c' d' : Nat, d' < d ∧ σ' = [some (V.int (c' : Int)), some (V.int (d' : Int))] ∧ H'' = H' ∧ Nat.gcd c' d' = Nat.gcd a b, fun σ' H'' ⟨c', d', l, e1, e2, e3⟩ => ⟨d', l, c', d', rfl, e1, e2, e3⟩, ?_⟩
      walk_at "rd"
      refine ⟨(by show (0 : Int) < (d : Int); omega), ?_⟩
      refine ⟨_, _, rfl, d, c % d, Nat.mod_lt _ (by omega), ?_, rfl, ?_⟩
      · rw [Int.natCast_emod]
        rfl
      · rw [← hg, Nat.gcd_comm c d, Nat.gcd_rec d c, Nat.gcd_comm]
end
end HT
namespace HT
open PySem L2
structure Sd where
  o : Int
  s : Int
  m : Str
/-- the list at l holds sides with these parts -/
structure SidesAt (H : Hp) (l : Addr) (xs : List V) (ss : List Sd) : Prop where
  hl : H l = some (.lst xs)
  len : xs.length = ss.length
  l1 : 1 ≤ ss.length
  l4 : ss.length ≤ 4
  at_ : ∀ (i : Nat) (d : Sd), ss[i]? = some d → ∃ p : Addr, xs[i]? = some (V.ref p) ∧ H p = some (sideV d.o d.s d.m) ∧ SideP d.o d.s d.m
theorem SidesAt.same {H H' : Hp} {l : Addr} {xs : List V} {ss : List Sd} (S : SidesAt H l xs ss) (e : Same H H') : SidesAt H' l xs ss :=
  ⟨e _ _ S.hl, S.len, S.l1, S.l4, fun i d h => let ⟨p, a, b, c⟩ := S.at_ i d h; ⟨p, a, e _ _ b, c⟩⟩
theorem SidesAt.oth {a c : Addr} {t : Nat} {H H' : Hp} {l : Addr} {xs : List V} {ss : List Sd} (S : SidesAt H l xs ss) (R : Src H a c t) (la : l ≠ a) (lc : l ≠ c) (e : Oth a c H H') : SidesAt H' l xs ss :=
  ⟨e _ _ S.hl la lc, S.len, S.l1, S.l4, fun i d h => let ⟨p, x, b, y⟩ := S.at_ i d h; let z := R.nt b; ⟨p, x, e _ _ b z.1 z.2, y⟩⟩
theorem SidesAt.item {H : Hp} {l : Addr} {xs : List V} {ss : List Sd} (S : SidesAt H l xs ss) {i : Nat} {y : V} (h : xs[i]? = some y) : ∃ d p, ss[i]? = some d ∧ y = .ref p ∧ H p = some (sideV d.o d.s d.m) ∧ SideP d.o d.s d.m := by
  have hi : i < ss.length := by have := (List.getElem?_eq_some_iff.mp h).1; rw [S.len] at this; exact this
  obtain ⟨p, e, hp, sp⟩ := S.at_ i ss[i] (List.getElem?_eq_getElem hi)
  rw [h] at e
  exact ⟨ss[i], p, List.getElem?_eq_getElem hi, Option.some.inj e, hp, sp⟩
/-- a side's period -/
def perM (s : Int) (m : Str) : Int := if m = "half_even" then 2 * s else s
theorem perM_bd {o s : Int} {m : Str} (S : SideP o s m) : 1 ≤ perM s m ∧ perM s m ≤ 2 * 10 ^ 30 := by
  have a := S.s0
  have b := S.s1
  unfold perM
  split <;> omega
def perN (d : Sd) : Nat := (perM d.s d.m).toNat
/-- the common period -/
def comN (ss : List Sd) : Nat := ss.foldl (fun n d => n.lcm (perN d)) 1
theorem com_snoc {ss : List Sd} {i : Nat} {d : Sd} (h : ss[i]? = some d) : comN (ss.take (i + 1)) = (comN (ss.take i)).lcm (perN d) := by
  unfold comN
  rw [List.take_succ, h, List.foldl_append]
  rfl
theorem lcm_le {a b : Nat} : a.lcm b ≤ a * b := Nat.div_le_self _ _
theorem com_le : ∀ (ss : List Sd) (n : Nat), (∀ d ∈ ss, SideP d.o d.s d.m) → ss.foldl (fun n d => n.lcm (perN d)) n ≤ n * (2 * 10 ^ 30) ^ ss.length
  | [], n, _ => by simp
  | d :: ss, n, h => by
    have z := com_le ss (n.lcm (perN d)) fun e he => h e (List.mem_cons_of_mem _ he)
    have b := perM_bd (h d List.mem_cons_self)
    have y : perN d ≤ 2 * 10 ^ 30 := by unfold perN; omega
    refine Nat.le_trans z ?_
    generalize (2 * 10 ^ 30 : Nat) = k at y
    rw [List.length_cons, Nat.pow_succ, Nat.mul_comm (k ^ ss.length), ← Nat.mul_assoc]
    exact Nat.mul_le_mul_right _ (Nat.le_trans lcm_le (Nat.mul_le_mul_left _ y))
theorem SidesAt.side {H : Hp} {l : Addr} {xs : List V} {ss : List Sd} (S : SidesAt H l xs ss) : ∀ d ∈ ss, SideP d.o d.s d.m := fun d hd => by
  obtain ⟨i, hi, rfl⟩ := List.mem_iff_getElem.mp hd
  obtain ⟨_, _, _, sp⟩ := S.at_ i _ (List.getElem?_eq_getElem hi)
  exact sp
theorem com_lt {ss : List Sd} (h : ∀ d ∈ ss, SideP d.o d.s d.m) (l4 : ss.length ≤ 4) : comN ss < 2 ^ 420 := by
  have z := com_le ss 1 h
  rw [Nat.one_mul] at z
  refine Nat.lt_of_le_of_lt z (Nat.lt_of_le_of_lt (Nat.pow_le_pow_right (by decide) l4) ?_)
  decide
theorem com_take {ss : List Sd} (h : ∀ d ∈ ss, SideP d.o d.s d.m) (l4 : ss.length ≤ 4) (i : Nat) : comN (ss.take i) < 2 ^ 420 :=
  com_lt (fun d hd => h d (List.mem_of_mem_take hd)) (Nat.le_trans (List.length_take_le' _ _) l4)
theorem com_pos : ∀ (ss : List Sd) (n : Nat), 0 < n → (∀ d ∈ ss, SideP d.o d.s d.m) → 0 < ss.foldl (fun n d => n.lcm (perN d)) n
  | [], n, hn, _ => hn
  | d :: ss, n, hn, h => by
    have b := perM_bd (h d List.mem_cons_self)
    have y : 0 < perN d := by unfold perN; omega
    exact com_pos ss _ (Nat.lcm_pos hn y) fun e he => h e (List.mem_cons_of_mem _ he)
/-- as the law has it -/
theorem lcm_div (a b : Nat) : a / Nat.gcd a b * b = a.lcm b := by
  unfold Nat.lcm
  rw [Nat.mul_comm (a / Nat.gcd a b), ← Nat.mul_div_assoc _ (Nat.gcd_dvd_left a b), Nat.mul_comm]
end HT
namespace HT
open PySem L2
theorem lg_any {n : Nat} (h : n < 2 ^ 500) : ((n : Int)).natAbs.log2 < 9000 := by
  rw [Int.natAbs_natCast]
  by_cases e : n = 0
  · rw [e]; decide
  · have := (Nat.log2_lt e).mpr h
    omega
def spSmall : Sp := fun vs H Q _ => ∃ (a c : Addr) (t most : Nat), vs = [.ref a, .int (most : Int)] ∧ Src H a c t ∧ 1 ≤ most ∧ most ≤ 1000 ∧ t + 5 < 2 ^ 30 ∧
  ∀ (p : Addr) (o s : Int) (m : Str) (H' : Hp) (t' : Nat), H' p = some (sideV o s m) → -30 ≤ o → o ≤ 29 → 1 ≤ s → s ≤ (most : Int) → Mode m → t' ≤ t + 3 → Src H' a c t' → Oth a c H H' → Q (.ref p) H'
def spPer : Sp := fun vs H Q _ => ∃ (l : Addr) (xs : List V) (ss : List Sd), vs = [.ref l] ∧ SidesAt H l xs ss ∧ Q (.int (comN ss : Int)) H
def spSet : Sp := fun vs H Q _ => ∃ (a c : Addr) (t most many : Nat), vs = [.ref a, .int (most : Int), .int (many : Int)] ∧ Src H a c t ∧ 1 ≤ most ∧ most ≤ 1000 ∧ 1 ≤ many ∧ many ≤ 4 ∧ t + 50 < 2 ^ 30 ∧
  ∀ (l : Addr) (xs : List V) (ss : List Sd) (H' : Hp) (t' : Nat), SidesAt H' l xs ss → (∀ d ∈ ss, -30 ≤ d.o ∧ d.o ≤ 29 ∧ d.s ≤ (most : Int)) → l ≠ a → l ≠ c → t' ≤ t + 20 → Src H' a c t' → Oth a c H H' → Q (.ref l) H'
section
variable {P : Program} {w : World} {K : PySem.W.Frag} {mg : Str → Option Value} {base : Heap} {fD fP fS fV : Addr} {dD dP dS dV : FuncData}
theorem ok_small {f : Addr} {fd : FuncData} (F : Fun K "_law_small_side" "_law_small_side" s_L_small_side f fd) (D : Cal P w K mg base "_law_draw" 1 ["_law_source_here", "_law_limit"] spDraw fD dD)
    (Pk : Cal P w K mg base "_law_pick" 2 ["_law_source_here", "_law_values"] spPick fP dP) : FnOk P w K mg base CX0 3 f fd ["_law_source_here", "_law_most"] spSmall := by
  refine F.ok sc_L_small_side (fun vs H Q E h => ?_) (fun cdv A outer s0 H vs Q E hr h => ?_)
  · obtain ⟨a, c, t, most, rfl, _⟩ := h
    rfl
  · obtain ⟨a, c, t, most, rfl, S, m1, m2, ht, q⟩ := h
    have nd := sc_L_small_side.nd
    refine ⟨_, (pss_cons (ps_set (i := 2) nd rfl (Or.inl rfl) (pe_op op_sub (pcl D hr (by decide) (by rfl) (pa_cons (pv 0) (pa_cons pe_int pa_nil))) pe_int))
      (pss_one (ps_ret (pe_tup (pa_cons (pv 2) (pa_cons (pe_op op_add pe_int (pcl D hr (by decide) (by rfl) (pa_cons (pv 0) (pa_cons (pv 1) pa_nil)))) (pa_cons (pcl Pk hr (by decide) (by rfl) (pa_cons (pv 0) (pa_cons (pe_lst (pa_cons pe_str (pa_cons pe_str (pa_cons pe_str (pa_cons pe_str (pa_cons pe_str pa_nil)))))) pa_nil))) pa_nil))))))), ?_⟩
    walk_at "rd"
    refine ⟨a, c, t, 60, rfl, S, by omega, by decide, by decide, fun k1 H1 k10 k11 S1 O1 => ?_⟩
    walk_at "rd"
    refine ⟨a, c, t + 1, (most : Int), rfl, S1, by omega, by omega, lg_small (by omega) (by omega), fun k2 H2 k20 k21 S2 O2 => ?_⟩
    walk_at "rd"
    refine ⟨(by show 5 ≤ sizeLine; decide), fun l nl => ?_⟩
    obtain ⟨la, lc⟩ := S2.na nl
    refine ⟨a, c, _, l, _, rfl, S2.new nl, by omega, upd_same, la, lc, by decide, by decide, fun x H3 hx S3 O3 => ?_⟩
    obtain ⟨md, rfl, hmd⟩ := mode_of hx
    refine ⟨(by show 3 ≤ sizeLine; decide), fun p np => ?_⟩
    exact q p _ _ md _ (t + 1 + 1 + 1) upd_same (by omega) (by omega) (by omega) (by omega) hmd (by omega) (S3.new np) ((((O1.trans O2).new nl).trans O3).new np)
theorem ok_period {f : Addr} {fd : FuncData} (F : Fun K "_law_period" "_law_period" s_L_period f fd) (B : Blt mg) (Dv : Cal P w K mg base "_law_divisor" 1 ["_law_one", "_law_other"] spDiv fV dV) : FnOk P w K mg base CX0 2 f fd ["_law_sides"] spPer := by
  refine F.ok sc_L_period (fun vs H Q E h => ?_) (fun cdv A outer s0 H vs Q E hr h => ?_)
  · obtain ⟨l, xs, ss, rfl, _⟩ := h
    rfl
  · obtain ⟨l, xs, ss, rfl, SS, q⟩ := h
    have nd := sc_L_period.nd
    refine ⟨_, (pss_cons (ps_set (i := 1) nd rfl (Or.inl rfl) pe_int)
      (pss_cons (ps_for PassesOwn.never rfl (pi_list (pv 0)) (pg_tup (by rfl) (pgs_cons (pg_name (i := 2) nd rfl (Or.inl rfl)) (pgs_cons (pg_name (i := 3) nd rfl (Or.inl rfl)) (pgs_cons (pg_name (i := 4) nd rfl (Or.inl rfl)) pgs_nil)))) (pss_cons (ps_set (i := 5) nd rfl (Or.inl rfl) (pe_op op_mulW (pv 3) (pe_op op_add pe_int (pe_callTy call_int1 (by rfl) B.int (by decide +kernel) (pa_cons (pe_cmpR op_eq (pv 4) pe_str (nomark _)) pa_nil)))))
      (pss_one (ps_set (i := 1) nd rfl (Or.inl rfl) (pe_op op_mulW (pe_op op_fdivW (pv 1) (pcl Dv hr (by decide) (by rfl) (pa_cons (pv 1) (pa_cons (pv 5) pa_nil)))) (pv 5))))))
      (pss_one (ps_ret (pv 1))))), ?_⟩
    walk_at "rd"
    refine ⟨⟨_, SqL.of SS.hl⟩, ?_⟩
    refine for_list (K := K) (a := l) (xs := xs) (fun i st H' => ∃ x2 x3 x4 x5 : Option V, st = [some (.ref l), some (.int (comN (ss.take i) : Int)), x2, x3, x4, x5] ∧ H' = H) ⟨none, none, none, none, rfl, rfl⟩ (fun _ _ _ _ ⟨_, _, _, _, _, e⟩ => e ▸ SqL.of SS.hl) ?_ ?_
    · rintro i y st H' hy ⟨x2, x3, x4, x5, rfl, rfl⟩
      obtain ⟨d, p, ed, rfl, hp, sp⟩ := SS.item hy
      walk_at "rd"
      refine ⟨p, _, rfl, SqT.of hp, rfl, _, _, rfl, _, _, rfl, _, _, rfl, rfl, ?_⟩
      walk_at "rd"
      refine ⟨rfl, ?_⟩
      walk_at "rd"
      refine .inr ⟨_, rfl, ?_⟩
      have s0 := sp.s0
      have s1 := sp.s1
      have pb := perM_bd sp
      have eN : ((perN d : Nat) : Int) = perM d.s d.m := Int.toNat_of_nonneg (by omega)
      have eL : d.s * (1 + if decide (V.str d.m = V.str "half_even") = true then 1 else 0) = ((perN d : Nat) : Int) := by
        rw [eN, dec_str]
        unfold perM
        by_cases h : d.m = "half_even"
        · rw [if_pos (decide_eq_true h), if_pos h]; omega
        · rw [if_neg (fun z => h (of_decide_eq_true z)), if_neg h]; omega
      have bb : ∀ b : Bool, -2 ^ 1010 < (1 + if b = true then (1 : Int) else 0) ∧ (1 + if b = true then (1 : Int) else 0) < 2 ^ 1010 := by
        intro b
        cases b <;> decide +kernel
      replace bb := bb (decide (V.str d.m = V.str "half_even"))
      generalize (if decide (V.str d.m = V.str "half_even") = true then (1 : Int) else 0) = bI at eL bb
      walk_at "rd"
      refine ⟨mulW (by omega) bb, ?_⟩
      walk_at "rd"
      refine ⟨comN (ss.take i), perN d, (by show [V.int _, V.int (d.s * (1 + bI))] = _; rw [eL]), ?_⟩
      have cp : 0 < comN (ss.take i) := com_pos _ 1 (by decide) fun e he => SS.side e (List.mem_of_mem_take he)
      have cl := com_take SS.side SS.l4 i
      have gp : 0 < Nat.gcd (comN (ss.take i)) (perN d) := Nat.gcd_pos_of_pos_left _ cp
      have gl : Nat.gcd (comN (ss.take i)) (perN d) ≤ comN (ss.take i) := Nat.gcd_le_left _ cp
      walk_at "rd"
      refine ⟨fdiv_ok _ (by omega) (lg_any (Nat.lt_of_le_of_lt gl (Nat.lt_trans cl (Nat.pow_lt_pow_right (by decide) (by decide))))), ?_⟩
      walk_at "rd"
      have ed2 : (comN (ss.take i) : Int) / ((Nat.gcd (comN (ss.take i)) (perN d) : Nat) : Int) = ((comN (ss.take i) / Nat.gcd (comN (ss.take i)) (perN d) : Nat) : Int) := (Int.natCast_ediv _ _).symm
      have dl : comN (ss.take i) / Nat.gcd (comN (ss.take i)) (perN d) ≤ comN (ss.take i) := Nat.div_le_self _ _
      have big : (2 : Nat) ^ 420 < 2 ^ 1010 := Nat.pow_lt_pow_right (by decide) (by decide)
      have dn : (0 : Int) ≤ ((comN (ss.take i) / Nat.gcd (comN (ss.take i)) (perN d) : Nat) : Int) := Int.natCast_nonneg _
      have ml : CMulW ((comN (ss.take i) : Int) / ((Nat.gcd (comN (ss.take i)) (perN d) : Nat) : Int)) (d.s * (1 + bI)) := by
        rw [ed2, eL]
        exact mulW (by omega) (by omega)
      refine ⟨ml, ?_⟩
      refine ⟨some (.int d.o), some (.int d.s), some (.str d.m), some (.int (d.s * (1 + bI))), ?_, rfl⟩
      have e9 : (comN (ss.take i) : Int) / ((Nat.gcd (comN (ss.take i)) (perN d) : Nat) : Int) * (d.s * (1 + bI)) = (comN (ss.take (i + 1)) : Int) := by
        rw [eL, ed2, com_snoc ed, ← lcm_div, Int.natCast_mul]
      rw [← e9]
      rfl
    · rintro st H' ⟨x2, x3, x4, x5, rfl, rfl⟩
      rw [SS.len, List.take_length]
      walk_at "rd"
      exact q
theorem ok_set {f : Addr} {fd : FuncData} (F : Fun K "_law_set" "_law_set" s_L_set f fd) (B : Blt mg) (D : Cal P w K mg base "_law_draw" 1 ["_law_source_here", "_law_limit"] spDraw fD dD)
    (Sm : Cal P w K mg base "_law_small_side" 3 ["_law_source_here", "_law_most"] spSmall fS dS) : FnOk P w K mg base CX0 4 f fd ["_law_source_here", "_law_most", "_law_many"] spSet := by
  refine F.ok sc_L_set (fun vs H Q E h => ?_) (fun cdv A outer s0 H vs Q E hr h => ?_)
  · obtain ⟨a, c, t, most, many, rfl, _⟩ := h
    rfl
  · obtain ⟨a, c, t, most, many, rfl, S, m1, m2, n1, n2, ht, q⟩ := h
    have nd := sc_L_set.nd
    refine ⟨_, (pss_one (ps_ret (pe_lc (own := [("_law_k", 3)]) (g := gName 3) (tt := tYes) rfl nd (pi_range1 (by rfl) B.range (pa_cons (pe_op op_add pe_int (pcl D hr (by decide) (by rfl) (pa_cons (pv 0) (pa_cons (pv 2) pa_nil)))) pa_nil)) (blkOk_by (N := ["_law_source_here", "_law_most", "_law_many", "_law_k"]) (sc := defScope s_L_set) (by decide +kernel)) (fun _ _ _ _ _ => pg_name (i := 3) nd rfl (Or.inl rfl)) (fun _ _ _ _ _ => pts_nil) (fun _ _ _ _ _ => (pcl Sm hr (by decide) (by rfl) (pa_cons (pv 0) (pa_cons (pv 1) pa_nil))))))), ?_⟩
    walk_at "rd"
    refine ⟨a, c, t, (many : Int), rfl, S, by omega, by omega, lg_small (by omega) (by omega), fun y H1 y0 y1 S1 O1 => ?_⟩
    walk_at "rd"
    refine ⟨by omega, by omega, fun L nL => ?_⟩
    obtain ⟨La, Lc⟩ := S1.na nL
    refine lc_range (lo := 0) (n := (1 + y).toNat) (fun j H5 => ∃ (xs : List V) (ss : List Sd) (t' : Nat), H5 L = some (.lst xs) ∧ xs.length = j ∧ ss.length = j ∧ (∀ (i : Nat) (d : Sd), ss[i]? = some d → ∃ p : Addr, xs[i]? = some (V.ref p) ∧ H5 p = some (sideV d.o d.s d.m) ∧ SideP d.o d.s d.m) ∧ (∀ d ∈ ss, -30 ≤ d.o ∧ d.o ≤ 29 ∧ d.s ≤ (most : Int)) ∧ t' ≤ t + 1 + 3 * j ∧ Src H5 a c t' ∧ Oth a c H H5)
      ⟨[], [], t + 1, upd_same, rfl, rfl, (fun i d h => nomatch h), (fun d hd => absurd hd List.not_mem_nil), by omega, S1.new nL, O1.new nL⟩ ?_ ?_
    · rintro j H5 hj ⟨xs, ss, t', hL, lx, ls, at_, small, ht', S5, O5⟩
      refine ⟨rfl, ?_⟩
      walk_at "rd"
      refine ⟨a, c, t', most, rfl, S5, m1, m2, by omega, fun p o s m H6 t6 hp b1 b2 b3 b4 md ht6 S6 O6 => ?_⟩
      have hL6 := O6 _ _ hL La Lc
      refine ⟨_, hL6, (by rw [lx]; exact Nat.lt_of_lt_of_le (by omega : j < 100) (by decide)), xs ++ [.ref p], ss ++ [⟨o, s, m⟩], t6, upd_same, by rw [List.length_append, lx]; rfl, by rw [List.length_append, ls]; rfl, ?_, ?_, by omega, ?_, ?_⟩
      · intro i d hd
        rcases Nat.lt_or_ge i ss.length with z | z
        · rw [List.getElem?_append_left z] at hd
          obtain ⟨p2, e1, hp2, sp⟩ := at_ i d hd
          obtain ⟨z1, z2⟩ := S5.nt hp2
          have hp6 := O6 _ _ hp2 z1 z2
          exact ⟨p2, by rw [List.getElem?_append_left (by omega)]; exact e1, (upd_ne (ne_of hp6 hL6 (by intro y; cases y))).trans hp6, sp⟩
        · rw [List.getElem?_append_right z] at hd
          have e0 : i - ss.length = 0 := by
            have := (List.getElem?_eq_some_iff.mp hd).1
            simp at this
            omega
          rw [e0] at hd
          have ed : d = ⟨o, s, m⟩ := by simpa using hd.symm
          subst ed
          exact ⟨p, by rw [List.getElem?_append_right (by omega), show i - xs.length = 0 by omega]; rfl, (upd_ne (ne_of hp hL6 (by intro y; cases y))).trans hp, ⟨by show -(10 : Int) ^ 40 ≤ o; omega, by show o ≤ (10 : Int) ^ 40; omega, b3, by show s ≤ (10 : Int) ^ 30; omega, md⟩⟩
      · intro d hd
        rcases List.mem_append.mp hd with h | h
        · exact small d h
        · rw [List.mem_singleton.mp h]; exact ⟨b1, b2, b4⟩
      · obtain ⟨cs, hcs, hl2⟩ := S6.cl
        exact ⟨S6.ne, (upd_ne La.symm).trans S6.ob, cs, (upd_ne Lc.symm).trans hcs, hl2⟩
      · intro b u z na nc
        have z5 := O5 b u z na nc
        have z6 := O6 b u z5 na nc
        exact (upd_ne (ne_of_none (O1 b u z na nc) nL)).trans z6
    · rintro H5 ⟨xs, ss, t', hL, lx, ls, at_, small, ht', S5, O5⟩
      exact q L xs ss H5 t' ⟨hL, by omega, by omega, by omega, at_⟩ small La Lc (by omega) S5 O5
end
end HT
namespace HT
open PySem L2
def nV (k : Nat) : V := .int (k : Int)
structure AmG (mg : Str → Option Value) : Prop where
  isi : mg "isinstance" = none
  list : mg "list" = none
  len : mg "len" = none
  ms : ∃ t, mg "MOST_SIDES" = some (.int 4 t)
  lcm : mg "lcm" = some (.builtin "math.lcm")
  sorted : mg "sorted" = none
def spIsSide : Sp := fun vs H Q _ => ∃ (p : Addr) (o s : Int) (m : Str), vs = [.ref p] ∧ H p = some (sideV o s m) ∧ SideP o s m ∧ Q (.bl true) H
def spSides : Sp := fun vs H Q _ => ∃ (l : Addr) (xs : List V) (ss : List Sd), vs = [.ref l] ∧ SidesAt H l xs ss ∧ Q .non H
def spPerOf : Sp := fun vs H Q _ => ∃ (p : Addr) (o s : Int) (m : Str), vs = [.ref p] ∧ H p = some (sideV o s m) ∧ SideP o s m ∧ Q (.int (perM s m)) H
def spNums : Sp := fun vs H Q _ => ∃ (kl : Addr) (ks : List Nat) (n : Nat), vs = [.ref kl, .int (n : Int)] ∧ H kl = some (.lst (ks.map nV)) ∧ ks.length ≤ 1000 ∧ (∀ k ∈ ks, k < n) ∧ Q .non H
/-- one hand-over more -/
def stepW (ss : List Sd) (a : List Int × Int) (k : Nat) : List Int × Int :=
  match ss[k]? with
  | some d => (a.1 ++ [dueM d.o d.s d.m a.2], dueM d.o d.s d.m a.2)
  | none => (a.1 ++ [a.2], a.2)
def walkW (ss : List Sd) (ks : List Nat) (v : Int) : List Int × Int := ks.foldl (stepW ss) ([], v)
theorem walk_snoc {ss : List Sd} {ks : List Nat} {v : Int} {i k : Nat} (h : ks[i]? = some k) : walkW ss (ks.take (i + 1)) v = stepW ss (walkW ss (ks.take i) v) k := by
  unfold walkW
  rw [List.take_succ, h, List.foldl_append]
  rfl
theorem due_far {o s v b : Int} {m : Str} (S : SideP o s m) (h : -b < v ∧ v < b) : -(b + 10 ^ 30) < dueM o s m v ∧ dueM o s m v < b + 10 ^ 30 := by
  have h1 := due_near (o := o) (v := v) S.md S.s0
  have h2 := S.s1
  omega
def spAlong : Sp := fun vs H Q _ => ∃ (l : Addr) (xs : List V) (ss : List Sd) (kl : Addr) (ks : List Nat) (v : Int), vs = [.ref l, .ref kl, .int v] ∧ SidesAt H l xs ss ∧ H kl = some (.lst (ks.map nV)) ∧ ks.length ≤ 1000 ∧ (∀ k ∈ ks, k < ss.length) ∧ (-2 ^ 200 < v ∧ v < 2 ^ 200) ∧
  ∀ (d : Addr) (H' : Hp), H d = none → Same H H' → H' d = some (.lst ((walkW ss ks v).1.map V.int)) → Q (.ref d) H'
section
variable {P : Program} {w : World} {K : PySem.W.Frag} {mg : Str → Option Value} {base : Heap} {aM c0 fC fB fV fN fW fS : Addr} {dC dB dV dN dW dS : FuncData}
theorem ok_is_side {f : Addr} {fd : FuncData} (F : Fun K "is_side" "is_side" s_is_side f fd) (g0 : mg "InvalidSide" = some (.ref c0)) (Ck : Cal P w K mg base "check_side" 3 ["side"] spCheckSide fC dC) : FnOk P w K mg base CX0 4 f fd ["thing"] spIsSide := by
  refine F.ok sc_is_side (fun vs H Q E h => ?_) (fun cdv A outer s0 H vs Q E hr h => ?_)
  · obtain ⟨p, o, s, m, rfl, _⟩ := h
    rfl
  · obtain ⟨p, o, s, m, rfl, hp, S, q⟩ := h
    refine ⟨_, pss_cons (ps_try_only rfl rfl ⟨rfl, by decide, .inl g0⟩ takes0 (fun W pn xe tk _ => pss_one (ps_expr (pcl Ck hr (by decide) (by rfl) (pa_cons (pv 0) pa_nil)))) (fun a oe cls d pn _ _ => pss_one (ps_ret pe_bl))) (pss_one (ps_ret pe_bl)), ?_⟩
    walk_at "rd"
    refine ⟨p, o, s, m, rfl, hp, S, ?_⟩
    walk_at "rd"
    exact q
theorem ok_sides {f : Addr} {fd : FuncData} (F : Fun K "check_sides" "check_sides" s_check_sides f fd) (A' : AmG mg) (Ck : Cal P w K mg base "is_side" 4 ["thing"] spIsSide fC dC) : FnOk P w K mg base CX0 5 f fd ["sides"] spSides := by
  refine F.ok sc_check_sides (fun vs H Q E h => ?_) (fun cdv A outer s0 H vs Q E hr h => ?_)
  · obtain ⟨l, xs, ss, rfl, _⟩ := h
    rfl
  · obtain ⟨l, xs, ss, rfl, SS, q⟩ := h
    have nd := sc_check_sides.nd
    obtain ⟨tms, hms⟩ := A'.ms
    refine ⟨_, pss_cons (ps_if (PW.pt (pw_or (pt_not (pt_val (pe_callB call_isi (by rfl) A'.isi (by decide +kernel) (pa_cons (pv 0) (pa_cons (pe_bltn (v := .ty "list") (by rfl) A'.list (by decide +kernel) rfl) pa_nil)))))
        (pw_or1 (pt_not (pt_chain op_le op_le pe_int (pe_callB call_len_seq (by rfl) A'.len PySem.boot_len (pa_cons (pv 0) pa_nil)) (pe_glob (v := .int 4) (by rfl) hms ⟨_, rfl⟩)))))) (pss_one ps_never) pss_nil)
      (pss_one (ps_for PassesOwn.never rfl (pi_list (pv 0)) (pg_name (i := 1) nd rfl (Or.inl rfl))
        (pss_one (ps_if (pt_not (pt_val (pcl Ck hr (by decide) (by rfl) (pa_cons (pv 1) pa_nil)))) (pss_one ps_never) pss_nil)))), ?_⟩
    walk_at "rd"
    refine ⟨_, _, _, _, _, rfl, .ty "list", .base (.lst SS.hl), kit_ty (r := true) (by decide +kernel), ?_⟩
    walk_at "rd"
    refine ⟨l, _, rfl, .inl (SqL.of SS.hl), ?_⟩
    have l1 := SS.l1
    have l4 := SS.l4
    have ln := SS.len
    walk_at "rd"
    refine ite2 (fun _ => ?_) (fun z => absurd (decide_eq_true (by omega)) z)
    walk_at "rd"
    refine ite2 (fun z => ?_) (fun _ => ?_)
    · exfalso
      have e : decide ((xs.length : Int) ≤ 4) = true := decide_eq_true (by omega)
      exact not_t z e
    walk_at "rd"
    refine ⟨⟨_, SqL.of SS.hl⟩, ?_⟩
    refine for_list (K := K) (a := l) (xs := xs) (fun i σ H' => ∃ y : Option V, σ = [some (.ref l), y] ∧ H' = H) ⟨none, rfl, rfl⟩ (fun _ _ _ _ ⟨_, _, e⟩ => e ▸ SqL.of SS.hl) ?_ ?_
    · rintro i y σ H' hy ⟨z, rfl, rfl⟩
      obtain ⟨d, p, ed, rfl, hp, sp⟩ := SS.item hy
      walk_at "rd"
      refine ⟨p, d.o, d.s, d.m, rfl, hp, sp, _, rfl, ?_⟩
      refine ite2 (fun z => (not_t z rfl).elim) (fun _ => ?_)
      exact ⟨_, rfl, rfl⟩
    · rintro σ H' ⟨z, rfl, rfl⟩
      exact q
theorem ok_per {f : Addr} {fd : FuncData} (F : Fun K "period_of" "period_of" s_period_of f fd) : FnOk P w K mg base CX0 1 f fd ["side"] spPerOf := by
  refine F.ok sc_period_of (fun vs H Q E h => ?_) (fun cdv A outer s0 H vs Q E hr h => ?_)
  · obtain ⟨p, o, s, m, rfl, _⟩ := h
    rfl
  · obtain ⟨p, o, s, m, rfl, hp, S, q⟩ := h
    have nd := sc_period_of.nd
    refine ⟨_, (pss_cons (ps_asg (pv 0) (pg_tup (by rfl) (pgs_cons (pg_name (i := 1) nd rfl (Or.inl rfl)) (pgs_cons (pg_name (i := 2) nd rfl (Or.inl rfl)) (pgs_cons (pg_name (i := 3) nd rfl (Or.inl rfl)) pgs_nil)))))
      (pss_cons (ps_if (pt_cmpR op_eq (pv 3) pe_str (nomark _)) (pss_one (ps_ret (pe_op op_mul pe_int (pv 2)))) pss_nil)
      (pss_one (ps_ret (pv 2))))), ?_⟩
    walk_at "rd"
    refine ⟨p, _, rfl, SqT.of hp, rfl, _, _, rfl, _, _, rfl, _, _, rfl, rfl, ?_⟩
    walk_at "rd"
    refine ⟨rfl, ?_⟩
    walk_at "rd"
    unfold perM at q
    refine ite2 (fun h => ?_) (fun h => ?_)
    · rw [if_pos (str_t h)] at q
      walk_at "rd"
      refine ⟨.inl ⟨by decide, by decide⟩, ?_⟩
      exact q
    · rw [if_neg (str_f h)] at q
      walk_at "rd"
      exact q
end
end HT
namespace HT
open PySem L2
theorem log_lt {n k : Nat} (h : n < 2 ^ (k + 1)) : n.log2 ≤ k := by
  by_cases h0 : n = 0
  · subst h0
    rw [Nat.log2_zero]
    exact Nat.zero_le _
  · exact Nat.le_of_lt_succ ((Nat.log2_lt h0).mpr h)
theorem lcm_lt {a b i j : Nat} (ha : a < 2 ^ i) (hb : b < 2 ^ j) : a.lcm b < 2 ^ (i + j) := by
  rw [Nat.pow_add]
  exact Nat.lt_of_le_of_lt (PySem.W.mc_lcm_le a b) (Nat.mul_lt_mul'' ha hb)
def rLcm2 : List V → Hp → VK → Prop := fun vs H Q => ∃ a b : Int, vs = [.int a, .int b] ∧ a.natAbs < 2 ^ 2000 ∧ b.natAbs < 2 ^ 2000 ∧ Q (.int (((a.natAbs.lcm b.natAbs : Nat) : Int))) H
theorem cr_lcm2 {X : Cx} : CallR X (.builtin "math.lcm") rLcm2 := by
  intro pins s σ H vs us Q I r h
  obtain ⟨a, b, rfl, ha, hb, q⟩ := h
  obtain ⟨u1, u2, rfl, r1, r2⟩ := vals2 r
  obtain ⟨t, rfl⟩ := r1
  obtain ⟨u, rfl⟩ := r2
  have hab := lcm_lt ha hb
  have e1 : Nat.lcm 1 a.natAbs = a.natAbs := PySem.W.mc_lcm_one _
  have two : ∀ {k : Nat}, 1 < 2 ^ (k + 1) := fun {k} => Nat.one_lt_two_pow (by omega)
  have g := PySem.W.mg_run_lcm a t b u
    (by have := log_lt (n := max 1 a.natAbs) (k := 1999) (Nat.max_lt.mpr ⟨two, ha⟩); omega)
    (by have := log_lt (n := max a.natAbs b.natAbs) (k := 1999) (Nat.max_lt.mpr ⟨ha, hb⟩); omega)
    (by rw [e1]; exact PySem.W.mc_size (k := 100) (Nat.le_trans (Nat.le_of_lt hab) (Nat.pow_le_pow_right (by decide) (by decide))) (by decide))
  rw [e1] at g
  exact PySem.call_function_meets PySem.W.MGF.kind_lcm PySem.W.MGF.plain_lcm PySem.W.MGF.entry_lcm (PySem.W.MGF.args_lcm _ _) g.meets ⟨.int _, H, I.tok _, ⟨_, rfl⟩, q⟩
section
variable {P : Program} {w : World} {K : PySem.W.Frag} {mg : Str → Option Value} {base : Heap} {aM c0 fC fB fV fN fW fS : Addr} {dC dB dV dN dW dS : FuncData}
theorem ok_common {f : Addr} {fd : FuncData} (F : Fun K "common_period" "common_period" s_common_period f fd) (A' : AmG mg) (Pe : Cal P w K mg base "period_of" 1 ["side"] spPerOf fC dC) : FnOk P w K mg base CX0 2 f fd ["sides"] spPer := by
  refine F.ok sc_common_period (fun vs H Q E h => ?_) (fun cdv A outer s0 H vs Q E hr h => ?_)
  · obtain ⟨l, xs, ss, rfl, _⟩ := h
    rfl
  · obtain ⟨l, xs, ss, rfl, SS, q⟩ := h
    have nd := sc_common_period.nd
    refine ⟨_, pss_cons (ps_set (i := 1) nd rfl (Or.inl rfl) pe_int)
      (pss_cons (ps_for PassesOwn.never rfl (pi_list (pv 0)) (pg_name (i := 2) nd rfl (Or.inl rfl)) (pss_one (ps_set (i := 1) nd rfl (Or.inl rfl) (pe_callBfun cr_lcm2 (by rfl) A'.lcm (pa_cons (pv 1) (pa_cons (pcl Pe hr (by decide) (by rfl) (pa_cons (pv 2) pa_nil)) pa_nil))))))
      (pss_one (ps_ret (pv 1)))), ?_⟩
    walk_at "rd"
    refine ⟨⟨_, SqL.of SS.hl⟩, ?_⟩
    refine for_list (K := K) (a := l) (xs := xs) (fun i st H' => ∃ x2 : Option V, st = [some (.ref l), some (.int (comN (ss.take i) : Int)), x2] ∧ H' = H) ⟨none, rfl, rfl⟩ (fun _ _ _ _ ⟨_, _, e⟩ => e ▸ SqL.of SS.hl) ?_ ?_
    · rintro i y st H' hy ⟨x2, rfl, rfl⟩
      obtain ⟨d, p, ed, rfl, hp, sp⟩ := SS.item hy
      walk_at "rd"
      refine ⟨p, d.o, d.s, d.m, rfl, hp, sp, ?_⟩
      have pb := perM_bd sp
      have cl := com_take SS.side SS.l4 i
      have big : (2 : Nat) ^ 420 < 2 ^ 2000 := Nat.pow_lt_pow_right (by decide) (by decide)
      have big2 : (2 : Nat) ^ 120 < 2 ^ 2000 := Nat.pow_lt_pow_right (by decide) (by decide)
      have e2 : (perM d.s d.m).natAbs = perN d := by unfold perN; omega
      refine ⟨_, _, rfl, ?_, ?_, ?_⟩
      · rw [Int.natAbs_natCast]; omega
      · rw [e2]; unfold perN; omega
      · rw [Int.natAbs_natCast, e2, ← com_snoc ed]
        exact ⟨_, rfl, rfl⟩
    · rintro st H' ⟨x2, rfl, rfl⟩
      rw [SS.len, List.take_length]
      walk_at "rd"
      exact q
end
end HT
namespace HT
/-- k steps come to a place between two -/
def Hit (step least greatest M : Int) (k : Nat) : Prop := least ≤ (step * (k : Int)) % M ∧ (step * (k : Int)) % M ≤ greatest
/-- the least number with a property, or none -/
def Least (Pr : Nat → Prop) : Option Nat → Prop
  | some k => Pr k ∧ ∀ j, j < k → ¬ Pr j
  | none => ∀ k, ¬ Pr k
theorem least_uniq {Pr : Nat → Prop} {a b : Option Nat} (ha : Least Pr a) (hb : Least Pr b) : a = b := by
  cases a with
  | none =>
    cases b with
    | none => rfl
    | some k => exact absurd hb.1 (ha k)
  | some j =>
    cases b with
    | none => exact absurd ha.1 (hb j)
    | some k =>
      rcases Nat.lt_trichotomy j k with h | h | h
      · exact absurd ha.1 (hb.2 j h)
      · rw [h]
      · exact absurd hb.1 (ha.2 k h)
theorem least_congr {A B : Nat → Prop} (h : ∀ k, A k ↔ B k) {r : Option Nat} (l : Least A r) : Least B r := by
  cases r with
  | none => exact fun k z => l k ((h k).mpr z)
  | some k => exact ⟨(h k).mp l.1, fun j hj z => l.2 j hj ((h j).mpr z)⟩
/-- seen from the other side -/
theorem hit_flip {step least greatest M : Int} (hM : 0 < M) (h0 : 0 < least) (h1 : greatest < M) (k : Nat) : Hit (M - step) (M - greatest) (M - least) M k ↔ Hit step least greatest M k := by
  have e : ((M - step) * (k : Int)) % M = (-(step * (k : Int))) % M := by
    rw [Int.sub_mul, show M * (k : Int) - step * (k : Int) = -(step * (k : Int)) + M * (k : Int) by omega, Int.add_mul_emod_self_left]
  unfold Hit
  rw [e]
  generalize step * (k : Int) = x
  have a := Int.emod_nonneg x (by omega : M ≠ 0)
  have b := Int.emod_lt_of_pos x hM
  have c := Int.emod_nonneg (-x) (by omega : M ≠ 0)
  have d := Int.emod_lt_of_pos (-x) hM
  have e1 := Int.emod_add_mul_ediv x M
  have e2 := Int.emod_add_mul_ediv (-x) M
  -- x % M + (-x) % M is 0 or M
  have s : (x % M + (-x) % M) % M = 0 := by
    rw [← Int.add_emod]
    rw [show x + -x = 0 by omega]
    exact Int.zero_emod M
  have s2 : x % M + (-x) % M = 0 ∨ x % M + (-x) % M = M := by
    have f := Int.emod_add_mul_ediv (x % M + (-x) % M) M
    rw [s] at f
    have g1 : (x % M + (-x) % M) / M = 0 ∨ (x % M + (-x) % M) / M = 1 := by
      have h1 : 0 ≤ (x % M + (-x) % M) / M := Int.ediv_nonneg (by omega) (by omega)
      have h2 : (x % M + (-x) % M) / M < 2 := Int.ediv_lt_of_lt_mul hM (by omega)
      omega
    rcases g1 with g | g
    · rw [g] at f; left; omega
    · rw [g] at f; right; omega
  constructor
  · rintro ⟨p, q⟩
    omega
  · rintro ⟨p, q⟩
    omega
def ceilD (a s : Int) : Int := -((-a) / s)
theorem ceilD_spec {a s : Int} (hs : 0 < s) : a ≤ s * ceilD a s ∧ s * (ceilD a s - 1) < a := by
  unfold ceilD
  have e := Int.emod_add_mul_ediv (-a) s
  have a0 := Int.emod_nonneg (-a) (by omega : s ≠ 0)
  have a1 := Int.emod_lt_of_pos (-a) hs
  generalize (-a) / s = t at e
  have m1 : s * (-t) = -(s * t) := Int.mul_neg s t
  have m2 : s * (-t - 1) = -(s * t) - s := by rw [Int.mul_sub, m1, Int.mul_one]
  rw [m1, m2]
  omega
end HT
namespace HT
theorem mod_small {x M : Int} (h0 : 0 ≤ x) (h1 : x < M) : x % M = x := Int.emod_eq_of_lt h0 h1
theorem divmod_eq' {s q r x : Int} (hs : 0 < s) (h : x = s * q + r) (r0 : 0 ≤ r) (r1 : r < s) : x / s = q ∧ x % s = r := by
  subst h
  constructor
  · rw [Int.add_comm, Int.add_mul_ediv_left _ _ (by omega : s ≠ 0), Int.ediv_eq_zero_of_lt r0 r1, Int.zero_add]
  · rw [Int.add_comm, Int.add_mul_emod_self_left, Int.emod_eq_of_lt r0 r1]
theorem hit_zero {least greatest M : Int} (h0 : 0 < least) (k : Nat) : ¬ Hit 0 least greatest M k := by
  rintro ⟨a, _⟩
  rw [Int.zero_mul, Int.zero_emod] at a
  omega
theorem ceil_le {a s k : Int} (hs : 0 < s) (h : a ≤ s * k) : ceilD a s ≤ k := by
  have c := (ceilD_spec (a := a) hs).2
  refine Decidable.byContradiction fun z => ?_
  have h2 : s * k ≤ s * (ceilD a s - 1) := Int.mul_le_mul_of_nonneg_left (by omega) (by omega)
  omega
theorem ceil_pos {a s : Int} (hs : 0 < s) (ha : 0 < a) : 0 < ceilD a s := by
  have c := (ceilD_spec (a := a) hs).1
  refine Decidable.byContradiction fun z => ?_
  have h2 : s * ceilD a s ≤ s * 0 := Int.mul_le_mul_of_nonneg_left (by omega) (by omega)
  omega
/-- the first round reaches a place -/
theorem hit_direct {s l g M : Int} (hs : 0 < s) (h0 : 0 < l) (h1 : g < M) (h : s * ceilD l s ≤ g) : Least (Hit s l g M) (some (ceilD l s).toNat) := by
  have c := ceilD_spec (a := l) hs
  have cp := ceil_pos hs h0
  have e : (((ceilD l s).toNat : Nat) : Int) = ceilD l s := Int.toNat_of_nonneg (by omega)
  refine ⟨?_, fun j hj => ?_⟩
  · unfold Hit
    rw [e, mod_small (by omega) (by omega)]
    exact ⟨c.1, h⟩
  · rintro ⟨a, b⟩
    have hj' : (j : Int) ≤ ceilD l s - 1 := by omega
    have h2 : s * (j : Int) ≤ s * (ceilD l s - 1) := Int.mul_le_mul_of_nonneg_left hj' (by omega)
    have h3 : 0 ≤ s * (j : Int) := Int.mul_nonneg (by omega) (by omega)
    rw [mod_small h3 (by omega)] at a
    omega
/-- both ends lie in one cell -/
theorem one_cell {s l g : Int} (hs : 0 < s) (h : g < s * ceilD l s) (hl : l ≤ g) : l / s = g / s ∧ 0 < l % s ∧ l % s ≤ g % s := by
  have c := ceilD_spec (a := l) hs
  generalize ceilD l s = t at c h
  have e1 : s * (t - 1) = s * t - s := by rw [Int.mul_sub, Int.mul_one]
  have q1 : l / s = t - 1 := by
    refine (divmod_eq' hs (q := t - 1) (r := l - s * (t - 1)) (by omega) (by omega) (by omega)).1
  have q2 : g / s = t - 1 := by
    refine (divmod_eq' hs (q := t - 1) (r := g - s * (t - 1)) (by omega) (by omega) (by omega)).1
  have m1 := Int.emod_add_mul_ediv l s
  have m2 := Int.emod_add_mul_ediv g s
  rw [q1] at m1
  rw [q2] at m2
  exact ⟨by rw [q1, q2], by omega, by omega⟩
end HT
namespace HT
theorem hit_round {s l g M : Int} (hM : 0 < M) (hs : 0 ≤ s) (h0 : 0 < l) (h1 : g < M) (k : Nat) : Hit s l g M k ↔ ∃ n : Nat, l + M * (n : Int) ≤ s * (k : Int) ∧ s * (k : Int) ≤ g + M * (n : Int) := by
  have p : 0 ≤ s * (k : Int) := Int.mul_nonneg hs (by omega)
  unfold Hit
  generalize s * (k : Int) = x at p
  have e := Int.emod_add_mul_ediv x M
  have q0 : 0 ≤ x / M := Int.ediv_nonneg p (by omega)
  constructor
  · rintro ⟨a, b⟩
    refine ⟨(x / M).toNat, ?_, ?_⟩ <;> rw [Int.toNat_of_nonneg q0] <;> omega
  · rintro ⟨n, a, b⟩
    have d := (divmod_eq' hM (q := (n : Int)) (r := x - M * (n : Int)) (x := x) (by omega) (by omega) (by omega)).2
    rw [d]
    omega
theorem hit_cell {s l g M : Int} (hs : 0 < s) (hl : l ≤ g) (h : g < s * ceilD l s) (n : Nat) : Hit ((-M) % s) (l % s) (g % s) s n ↔ ∃ k : Int, l + M * (n : Int) ≤ s * k ∧ s * k ≤ g + M * (n : Int) := by
  obtain ⟨c1, c2, c3⟩ := one_cell hs h hl
  have el := Int.emod_add_mul_ediv l s
  have eg := Int.emod_add_mul_ediv g s
  rw [← c1] at eg
  have e : (((-M) % s) * (n : Int)) % s = (-(M * (n : Int))) % s := by
    rw [Int.mul_emod, Int.emod_emod, ← Int.mul_emod, Int.neg_mul]
  unfold Hit
  rw [e]
  generalize M * (n : Int) = y
  have ew := Int.emod_add_mul_ediv (-y) s
  have w0 := Int.emod_nonneg (-y) (by omega : s ≠ 0)
  have w1 := Int.emod_lt_of_pos (-y) hs
  have lm := Int.emod_lt_of_pos g hs
  have ll := Int.emod_nonneg l (by omega : s ≠ 0)
  constructor
  · rintro ⟨a, b⟩
    refine ⟨l / s - (-y) / s, ?_, ?_⟩ <;> rw [Int.mul_sub] <;> omega
  · rintro ⟨k, a, b⟩
    -- s k - y lies in the cell of l
    have d := divmod_eq' hs (q := l / s) (r := s * k - y - s * (l / s)) (x := s * k - y) (by omega) (by omega) (by omega)
    have f : (s * k - y) % s = (-y) % s := by
      rw [show s * k - y = -y + s * k by omega, Int.add_mul_emod_self_left]
    rw [f] at d
    omega
theorem mono_mul {M : Int} (hM : 0 < M) {a b : Nat} (h : a ≤ b) : M * (a : Int) ≤ M * (b : Int) := Int.mul_le_mul_of_nonneg_left (by omega) (by omega)
/-- behind the rounds that leap over the places -/
theorem hit_rec {s l g M : Int} (hs : 0 < s) (hM : 0 < M) (h0 : 0 < l) (hl : l ≤ g) (h1 : g < M) (h : g < s * ceilD l s) {r : Option Nat} (L : Least (Hit ((-M) % s) (l % s) (g % s) s) r) :
    Least (Hit s l g M) (r.map fun n => (ceilD (l + M * (n : Int)) s).toNat) := by
  cases r with
  | none =>
    intro k hk
    obtain ⟨n, a, b⟩ := (hit_round hM (by omega) h0 h1 k).mp hk
    exact L n ((hit_cell hs hl h n).mpr ⟨k, a, b⟩)
  | some n =>
    obtain ⟨L1, L2⟩ := L
    obtain ⟨k, a, b⟩ := (hit_cell hs hl h n).mp L1
    have nn : 0 ≤ M * (n : Int) := Int.mul_nonneg (by omega) (by omega)
    have cs := ceilD_spec (a := l + M * (n : Int)) hs
    have cp := ceil_pos hs (show 0 < l + M * (n : Int) by omega)
    have ck := ceil_le hs a
    have e : ((((ceilD (l + M * (n : Int)) s).toNat) : Nat) : Int) = ceilD (l + M * (n : Int)) s := Int.toNat_of_nonneg (by omega)
    refine ⟨?_, fun j hj hit => ?_⟩
    · refine (hit_round hM (by omega) h0 h1 _).mpr ⟨n, ?_, ?_⟩
      · rw [e]; exact cs.1
      · rw [e]
        have : s * ceilD (l + M * (n : Int)) s ≤ s * k := Int.mul_le_mul_of_nonneg_left ck (by omega)
        omega
    · obtain ⟨n2, a2, b2⟩ := (hit_round hM (by omega) h0 h1 j).mp hit
      have nle : n ≤ n2 := Decidable.byContradiction fun z => L2 n2 (by omega) ((hit_cell hs hl h n2).mpr ⟨j, a2, b2⟩)
      have m := mono_mul hM nle
      have := ceil_le hs (show l + M * (n : Int) ≤ s * (j : Int) by omega)
      have hj' : j < (ceilD (l + M * (n : Int)) s).toNat := hj
      omega
/-- the places from start on by their remainder -/
def HitS (start step most M : Int) (k : Nat) : Prop := (start + step * (k : Int)) % M ≤ most
theorem hits_iff {start step most M : Int} (hM : 0 < M) (h0 : 0 ≤ most) (hl : 0 < (-start) % M) (h1 : (-start) % M + most < M) (k : Nat) : HitS start step most M k ↔ Hit (step % M) ((-start) % M) ((-start) % M + most) M k := by
  have e : ((step % M) * (k : Int)) % M = (step * (k : Int)) % M := by
    rw [Int.mul_emod, Int.emod_emod, ← Int.mul_emod]
  unfold HitS Hit
  rw [e]
  generalize step * (k : Int) = x
  have l1 := Int.emod_lt_of_pos (-start) hM
  generalize el : (-start) % M = l at hl h1 l1
  have es : ∃ t, start = -l + M * t := by
    have := Int.emod_add_mul_ediv (-start) M
    rw [el] at this
    exact ⟨-((-start) / M), by rw [Int.mul_neg]; omega⟩
  obtain ⟨t, rfl⟩ := es
  have e2 : (-l + M * t + x) % M = (x - l) % M := by
    rw [show -l + M * t + x = x - l + M * t by omega, Int.add_mul_emod_self_left]
  rw [e2]
  have ex := Int.emod_add_mul_ediv x M
  have x0 := Int.emod_nonneg x (by omega : M ≠ 0)
  have x1 := Int.emod_lt_of_pos x hM
  generalize x % M = r at ex x0 x1
  generalize x / M = qq at ex
  by_cases c : l ≤ r
  · have d := (divmod_eq' hM (q := qq) (r := r - l) (x := x - l) (by omega) (by omega) (by omega)).2
    rw [d]
    omega
  · have d := (divmod_eq' hM (q := qq - 1) (r := r - l + M) (x := x - l) (by rw [Int.mul_sub, Int.mul_one]; omega) (by omega) (by omega)).2
    rw [d]
    omega
theorem hits_zero {start step most M : Int} (hM : 0 < M) (h0 : 0 ≤ most) (h : (-start) % M = 0 ∨ M ≤ (-start) % M + most) : Least (HitS start step most M) (some 0) := by
  refine ⟨?_, fun j hj => absurd hj (Nat.not_lt_zero _)⟩
  unfold HitS
  rw [show start + step * ((0 : Nat) : Int) = start by omega]
  have e := Int.emod_add_mul_ediv (-start) M
  have l0 := Int.emod_nonneg (-start) (by omega : M ≠ 0)
  have l1 := Int.emod_lt_of_pos (-start) hM
  generalize (-start) / M = t at e
  generalize (-start) % M = l at e l0 l1 h
  by_cases c : l = 0
  · have d := (divmod_eq' hM (q := -t) (r := 0) (x := start) (by rw [Int.mul_neg]; omega) (by omega) (by omega)).2
    rw [d]
    exact h0
  · have d := (divmod_eq' hM (q := -t - 1) (r := M - l) (x := start) (by rw [Int.mul_sub, Int.mul_neg, Int.mul_one]; omega) (by omega) (by omega)).2
    rw [d]
    omega
end HT
namespace HT
open PySem L2
def oN : Option Nat → V
  | none => .non
  | some k => .int (k : Int)
def spFB (n : Nat) : Sp := fun vs H Q _ => ∃ s l g M : Int, vs = [.int s, .int l, .int g, .int M] ∧ 0 ≤ s ∧ s < M ∧ 0 < l ∧ l ≤ g ∧ g < M ∧ M < 2 ^ n ∧ ∀ r, Least (Hit s l g M) r → Q (oN r) H
theorem hit_lt {s l g M : Int} (hM : 0 < M) {k : Nat} (h : Least (Hit s l g M) (some k)) : (k : Int) < M := by
  by_cases e : (k : Int) < M
  · exact e
  · exfalso
    obtain ⟨⟨a, b⟩, c⟩ := h
    refine c (k - M.toNat) (by omega) ?_
    have e2 : s * ((k - M.toNat : Nat) : Int) = s * (k : Int) - M * s := by
      rw [show ((k - M.toNat : Nat) : Int) = (k : Int) - M by omega, Int.mul_sub, Int.mul_comm M s]
    unfold Hit
    rw [e2, Int.sub_mul_emod_self_left]
    exact ⟨a, b⟩
section
variable {P : Program} {w : World} {K : PySem.W.Frag} {mg : Str → Option Value} {base : Heap} {fC : Addr} {dC : FuncData}
end
end HT
namespace HT
open PySem L2
theorem due_more {o s : Int} {m : Str} {v : Int} (hm : Mode m) (hs : 1 ≤ s) (n : Nat) : dueM o s m (v + s * 2 * (n : Int)) = dueM o s m v + s * 2 * (n : Int) := by
  induction n with
  | zero => rw [show v + s * 2 * ((0 : Nat) : Int) = v by simp]; simp
  | succ n ih =>
    have e : s * 2 * ((n + 1 : Nat) : Int) = s * 2 * (n : Int) + s * 2 := by
      rw [show ((n + 1 : Nat) : Int) = (n : Int) + 1 by omega, Int.mul_add, Int.mul_one]
    rw [e, show v + (s * 2 * (n : Int) + s * 2) = v + s * 2 * (n : Int) + s * 2 by omega, due_two hm hs, ih]
    omega
theorem due_per {o s : Int} {m : Str} {v : Int} (hm : Mode m) (hs : 1 ≤ s) (t : Int) : dueM o s m (v + s * 2 * t) = dueM o s m v + s * 2 * t := by
  rcases Int.le_total 0 t with h | h
  · obtain ⟨n, rfl⟩ := Int.eq_ofNat_of_zero_le h
    exact due_more hm hs n
  · obtain ⟨n, hn⟩ := Int.eq_ofNat_of_zero_le (show 0 ≤ -t by omega)
    have := due_more (o := o) (v := v + s * 2 * t) hm hs n
    have e : s * 2 * (n : Int) = -(s * 2 * t) := by rw [← hn, Int.mul_neg]
    rw [e, show v + s * 2 * t + -(s * 2 * t) = v by omega] at this
    omega
/-- the order of the sides (o, s, m) and (p, u, q) matters for x -/
def diffX (o s : Int) (m : Str) (p u : Int) (q : Str) (x : Int) : Prop := dueM p u q (dueM o s m x) ≠ dueM o s m (dueM p u q x)
theorem due_com {o s : Int} {m : Str} {v : Int} (hm : Mode m) (hs : 1 ≤ s) (t : Int) : dueM o s m (v + perM s m * t) = dueM o s m v + perM s m * t := by
  unfold perM
  by_cases e : m = "half_even"
  · rw [if_pos e, Int.mul_comm 2 s]
    exact due_per hm hs t
  · rw [if_neg e]
    obtain ⟨eq, r0, r1, wh⟩ := fig_of (o := o) (m := m) (v := v) hs
    generalize (v - o) / s = q at eq wh
    generalize (v - o) % s = r at eq r0 r1 wh
    have g : goesUp m s (q + t) r = goesUp m s q r := by
      unfold goesUp
      rw [if_neg e, if_neg e]
    have F2 : Fig o s m (v + s * t) (q + t) r (figM o s m v + t) := by
      refine ⟨?_, r0, r1, ?_⟩
      · rw [Int.mul_add]; omega
      · rw [g]
        rcases wh with ⟨a, b⟩ | ⟨a, b⟩
        · exact .inl ⟨a, by omega⟩
        · exact .inr ⟨a, by omega⟩
    have z := fig_uniq hs F2
    unfold dueM
    rw [z, Int.mul_add]
    omega
theorem due_dvd {o s : Int} {m : Str} {v L : Int} (hm : Mode m) (hs : 1 ≤ s) (h : perM s m ∣ L) : dueM o s m (v + L) = dueM o s m v + L := by
  obtain ⟨t, rfl⟩ := h
  exact due_com hm hs t
theorem due_monoN {o s : Int} {m : Str} {v : Int} (hm : Mode m) (hs : 1 ≤ s) : ∀ n : Nat, dueM o s m v ≤ dueM o s m (v + (n : Int))
  | 0 => by rw [show v + ((0 : Nat) : Int) = v by omega]; exact Int.le_refl _
  | n + 1 => by
    have a := due_monoN hm hs n (o := o) (v := v)
    have b := due_mono hm hs (o := o) (v := v + (n : Int))
    rw [show v + ((n + 1 : Nat) : Int) = v + (n : Int) + 1 by omega]
    omega
theorem due_le {o s : Int} {m : Str} {v y : Int} (hm : Mode m) (hs : 1 ≤ s) (h : v ≤ y) : dueM o s m v ≤ dueM o s m y := by
  have := due_monoN hm hs (y - v).toNat (o := o) (v := v)
  rw [show v + (((y - v).toNat : Nat) : Int) = y by omega] at this
  exact this
/-- the values of a block -/
def InB (st mo pe v : Int) : Prop := (v - st) % pe ≤ mo
instance (st mo pe v : Int) : Decidable (InB st mo pe v) := by unfold InB; exact inferInstance
def fibM (st mo pe v : Int) : Int := if (v - st) % pe ≤ mo then v else v + pe - (v - st) % pe
theorem inb_add {st mo pe v t : Int} : InB st mo pe (v + pe * t) ↔ InB st mo pe v := by
  unfold InB
  rw [show v + pe * t - st = v - st + pe * t by omega, Int.add_mul_emod_self_left]
theorem inb_of {st mo pe v r t : Int} (h : v = st + pe * t + r) (r0 : 0 ≤ r) (r1 : r < pe) (rm : r ≤ mo) : InB st mo pe v := by
  unfold InB
  rw [show v - st = r + pe * t by omega, Int.add_mul_emod_self_left, Int.emod_eq_of_lt r0 r1]
  exact rm
theorem inb_at {st mo pe v : Int} (hp : 0 < pe) (h : InB st mo pe v) : ∃ t r : Int, v = st + pe * t + r ∧ 0 ≤ r ∧ r ≤ mo ∧ r < pe := by
  refine ⟨(v - st) / pe, (v - st) % pe, ?_, Int.emod_nonneg _ (by omega), h, Int.emod_lt_of_pos _ hp⟩
  have := Int.emod_add_mul_ediv (v - st) pe
  omega
theorem mul_pos_le {pe a b : Int} (hp : 0 < pe) (h : a < b) : pe * a + pe ≤ pe * b := by
  have : pe * (a + 1) ≤ pe * b := Int.mul_le_mul_of_nonneg_left (by omega) (by omega)
  rw [Int.mul_add, Int.mul_one] at this
  exact this
theorem fib_spec {st mo pe v : Int} (hp : 0 < pe) (hm : 0 ≤ mo) : v ≤ fibM st mo pe v ∧ fibM st mo pe v < v + pe ∧ InB st mo pe (fibM st mo pe v) ∧ ∀ y, v ≤ y → y < fibM st mo pe v → ¬ InB st mo pe y := by
  have r0 := Int.emod_nonneg (v - st) (show pe ≠ 0 by omega)
  have r1 := Int.emod_lt_of_pos (v - st) hp
  have ee := Int.emod_add_mul_ediv (v - st) pe
  unfold fibM
  by_cases h : (v - st) % pe ≤ mo
  · rw [if_pos h]
    exact ⟨by omega, by omega, h, fun y a b => by omega⟩
  · rw [if_neg h]
    refine ⟨by omega, by omega, ?_, fun y a b c => ?_⟩
    · refine inb_of (t := (v - st) / pe + 1) (r := 0) ?_ (by omega) hp hm
      rw [Int.mul_add]
      omega
    · obtain ⟨t, r, e1, e2, e3, e4⟩ := inb_at hp c
      rcases Int.lt_trichotomy t ((v - st) / pe) with z | z | z
      · have := mul_pos_le hp z
        omega
      · rw [z] at e1
        omega
      · have := mul_pos_le hp z
        omega
/-- the least value from v on with a property -/
def LeastI (Pr : Int → Prop) (v : Int) : Option Int → Prop
  | some x => v ≤ x ∧ Pr x ∧ ∀ y, v ≤ y → y < x → ¬ Pr y
  | none => ∀ y, v ≤ y → ¬ Pr y
theorem leastI_congr {A B : Int → Prop} {v : Int} {r : Option Int} (h : ∀ x, A x ↔ B x) (e : LeastI A v r) : LeastI B v r := by
  cases r with
  | none => exact fun y z w => e y z ((h y).mpr w)
  | some x => exact ⟨e.1, (h x).mp e.2.1, fun y y0 y1 z => e.2.2 y y0 y1 ((h y).mpr z)⟩
/-- a place of one block holds a value of the other -/
theorem place_iff {b mo os om op : Int} (hp : 0 < op) (hm : 0 ≤ mo) (ho : 0 ≤ om) : (∃ y, b ≤ y ∧ y ≤ b + mo ∧ InB os om op y) ↔ (b + mo - os) % op ≤ mo + om := by
  have r0 := Int.emod_nonneg (b + mo - os) (show op ≠ 0 by omega)
  have r1 := Int.emod_lt_of_pos (b + mo - os) hp
  have ee := Int.emod_add_mul_ediv (b + mo - os) op
  constructor
  · rintro ⟨y, h1, h2, h3⟩
    obtain ⟨t, r, e1, e2, e3, e4⟩ := inb_at hp h3
    have e5 : b + mo - os = (r + (b + mo - y)) + op * t := by omega
    rw [e5, Int.add_mul_emod_self_left]
    have := Int.emod_add_mul_ediv (r + (b + mo - y)) op
    have q0 : 0 ≤ (r + (b + mo - y)) / op := Int.ediv_nonneg (by omega) (by omega)
    have q1 : 0 ≤ op * ((r + (b + mo - y)) / op) := Int.mul_nonneg (by omega) q0
    omega
  · intro h
    by_cases e : (b + mo - os) % op ≤ om
    · exact ⟨b + mo, by omega, by omega, e⟩
    · refine ⟨b + mo - ((b + mo - os) % op - om), by omega, by omega, ?_⟩
      refine inb_of (t := (b + mo - os) / op) (r := om) ?_ ho (by omega) (by omega)
      omega
/-- first_in_both, as the program finds it -/
theorem both_near {st mo pe os om op v : Int} (hp : 0 < pe) (hm : 0 ≤ mo) (hq : 0 < op) (ho : 0 ≤ om) (hmp : mo < pe)
    (h : fibM os om op (fibM st mo pe v) ≤ fibM st mo pe v - (fibM st mo pe v - st) % pe + mo) : LeastI (fun x => InB st mo pe x ∧ InB os om op x) v (some (fibM os om op (fibM st mo pe v))) := by
  obtain ⟨a1, a2, a3, a4⟩ := fib_spec (v := v) (st := st) hp hm
  generalize fibM st mo pe v = x at *
  obtain ⟨b1, b2, b3, b4⟩ := fib_spec (v := x) (st := os) hq ho
  generalize fibM os om op x = z at *
  have r0 := Int.emod_nonneg (x - st) (show pe ≠ 0 by omega)
  have ee := Int.emod_add_mul_ediv (x - st) pe
  refine ⟨by omega, ⟨?_, b3⟩, fun y y0 y1 c => ?_⟩
  · exact inb_of (t := (x - st) / pe) (r := z - (x - (x - st) % pe)) (by omega) (by omega) (by omega) (by omega)
  · by_cases g : y < x
    · exact a4 y y0 g c.1
    · exact b4 y (by omega) y1 c.2
theorem both_far {st mo pe os om op v : Int} (hp : 0 < pe) (hm : 0 ≤ mo) (hq : 0 < op) (ho : 0 ≤ om) (hmp : mo < pe) {r : Option Nat}
    (h : fibM st mo pe v - (fibM st mo pe v - st) % pe + mo < fibM os om op (fibM st mo pe v)) (L : Least (HitS (fibM st mo pe v - (fibM st mo pe v - st) % pe + pe + mo - os) pe (mo + om) op) r) :
    LeastI (fun x => InB st mo pe x ∧ InB os om op x) v (r.map fun k : Nat => fibM os om op (fibM st mo pe v - (fibM st mo pe v - st) % pe + pe + pe * (k : Int))) := by
  obtain ⟨a1, a2, a3, a4⟩ := fib_spec (v := v) (st := st) hp hm
  generalize fibM st mo pe v = x at *
  obtain ⟨b1, b2, b3, b4⟩ := fib_spec (v := x) (st := os) hq ho
  generalize fibM os om op x = z at *
  have r0 := Int.emod_nonneg (x - st) (show pe ≠ 0 by omega)
  have r1 := Int.emod_lt_of_pos (x - st) hp
  have ee := Int.emod_add_mul_ediv (x - st) pe
  have bx : (x - st) % pe ≤ mo := a3
  -- the places behind
  have key : ∀ y, v ≤ y → InB st mo pe y → InB os om op y → ∃ j : Nat, x - (x - st) % pe + pe + pe * (j : Int) ≤ y ∧ y ≤ x - (x - st) % pe + pe + pe * (j : Int) + mo ∧ HitS (x - (x - st) % pe + pe + mo - os) pe (mo + om) op j := by
    intro y y0 c1 c2
    have yx : x ≤ y := by
      by_cases g : y < x
      · exact absurd c1 (a4 y y0 g)
      · omega
    have yz : z ≤ y := by
      by_cases g : y < z
      · exact absurd c2 (b4 y yx g)
      · omega
    obtain ⟨t, r, e1, e2, e3, e4⟩ := inb_at hp c1
    have tj : (x - st) / pe < t := by
      rcases Int.lt_trichotomy t ((x - st) / pe) with q | q | q
      · have := mul_pos_le hp q
        omega
      · rw [q] at e1
        omega
      · exact q
    refine ⟨(t - (x - st) / pe - 1).toNat, ?_⟩
    have en : (((t - (x - st) / pe - 1).toNat : Nat) : Int) = t - (x - st) / pe - 1 := Int.toNat_of_nonneg (by omega)
    rw [en]
    have ep : pe * (t - (x - st) / pe - 1) = pe * t - pe * ((x - st) / pe) - pe := by rw [Int.mul_sub, Int.mul_sub, Int.mul_one]
    have l1 : x - (x - st) % pe + pe + pe * (t - (x - st) / pe - 1) ≤ y := by omega
    have l2 : y ≤ x - (x - st) % pe + pe + pe * (t - (x - st) / pe - 1) + mo := by omega
    refine ⟨l1, l2, ?_⟩
    unfold HitS
    rw [en]
    have := (place_iff hq hm ho).mp ⟨y, l1, l2, c2⟩
    rw [show x - (x - st) % pe + pe + mo - os + pe * (t - (x - st) / pe - 1) = x - (x - st) % pe + pe + pe * (t - (x - st) / pe - 1) + mo - os by omega]
    exact this
  cases r with
  | none =>
    intro y y0 c
    obtain ⟨j, _, _, hj⟩ := key y y0 c.1 c.2
    exact L j hj
  | some k =>
    obtain ⟨L1, L2⟩ := L
    have kk : (x - (x - st) % pe + pe + pe * (k : Int) + mo - os) % op ≤ mo + om := by
      unfold HitS at L1
      rw [show x - (x - st) % pe + pe + pe * (k : Int) + mo - os = x - (x - st) % pe + pe + mo - os + pe * (k : Int) by omega]
      exact L1
    obtain ⟨y, h1, h2, h3⟩ := (place_iff hq hm ho).mpr kk
    have kp : 0 ≤ pe * (k : Int) := Int.mul_nonneg (by omega) (by omega)
    obtain ⟨d1, d2, d3, d4⟩ := fib_spec (v := x - (x - st) % pe + pe + pe * (k : Int)) (st := os) hq ho
    show LeastI _ v (some (fibM os om op (x - (x - st) % pe + pe + pe * (k : Int))))
    generalize hf : fibM os om op (x - (x - st) % pe + pe + pe * (k : Int)) = f at d1 d2 d3 d4
    have fy : f ≤ y := by
      by_cases g : y < f
      · exact absurd h3 (d4 y h1 g)
      · omega
    refine ⟨by omega, ⟨?_, d3⟩, fun w w0 w1 c => ?_⟩
    · refine inb_of (t := (x - st) / pe + 1 + (k : Int)) (r := f - (x - (x - st) % pe + pe + pe * (k : Int))) ?_ (by omega) (by omega) (by omega)
      rw [Int.mul_add, Int.mul_add, Int.mul_one]
      omega
    · obtain ⟨j, j1, j2, j3⟩ := key w w0 c.1 c.2
      have jk : k ≤ j := by
        by_cases g : j < k
        · exact absurd j3 (L2 j g)
        · omega
      have : pe * (k : Int) ≤ pe * (j : Int) := Int.mul_le_mul_of_nonneg_left (by omega) (by omega)
      exact d4 w (by omega) w1 c.2
/-- the figures of a period -/
def figsN (s : Int) (m : Str) : Int := perM s m / s
theorem figs_eq {s : Int} {m : Str} (hs : 1 ≤ s) : figsN s m = if m = "half_even" then 2 else 1 := by
  unfold figsN perM
  by_cases e : m = "half_even"
  · rw [if_pos e, if_pos e, Int.mul_ediv_cancel _ (by omega)]
  · rw [if_neg e, if_neg e, Int.ediv_self (by omega)]
theorem per_figs {s : Int} {m : Str} (hs : 1 ≤ s) : perM s m = s * figsN s m := by
  rw [figs_eq hs]
  unfold perM
  by_cases e : m = "half_even"
  · rw [if_pos e, if_pos e, Int.mul_comm]
  · rw [if_neg e, if_neg e, Int.mul_one]
theorem figs_bd {s : Int} {m : Str} (hs : 1 ≤ s) : 1 ≤ figsN s m ∧ figsN s m ≤ 2 := by
  rw [figs_eq hs]
  split <;> omega
theorem unr_iff {o s : Int} {m : Str} {v : Int} (hm : Mode m) (hs : 1 ≤ s) : dueM o s m v ≤ v ↔ ∃ k, 0 ≤ k ∧ k < figsN s m ∧ InB (o + s * k) (below (mir m) s k) (perM s m) v := by
  have fb := figs_bd (m := m) hs
  have pf := per_figs (m := m) hs
  have pp : s ≤ perM s m := by
    rw [pf]
    have : s * 1 ≤ s * figsN s m := Int.mul_le_mul_of_nonneg_left (by omega) (by omega)
    omega
  constructor
  · intro h
    have e0 := Int.emod_add_mul_ediv (figM o s m v) (figsN s m)
    refine ⟨figM o s m v % figsN s m, Int.emod_nonneg _ (by omega), Int.emod_lt_of_pos _ (by omega), ?_⟩
    generalize hk : figM o s m v % figsN s m = k at *
    generalize hj : figM o s m v / figsN s m = j at *
    have ev : v = (v - perM s m * j) + perM s m * j := by omega
    have dc := due_com (o := o) (v := v - perM s m * j) hm hs j
    rw [← ev] at dc
    have es : s * figM o s m v = s * k + perM s m * j := by
      rw [← e0, Int.mul_add, pf, Int.mul_assoc]
    have ed : dueM o s m v = o + s * k + perM s m * j := by
      unfold dueM
      omega
    have ed2 : dueM o s m (v - perM s m * j) = o + s * k := by omega
    have ef : figM o s m (v - perM s m * j) = k := by
      unfold dueM at ed2
      exact Int.eq_of_mul_eq_mul_left (show s ≠ 0 by omega) (by omega)
    have hi := ((fig_iff hm hs).mp ef).2
    unfold highM at hi
    have bb := below_bd (k := k) (mir_mode hm) hs
    exact inb_of (t := j) (r := v - perM s m * j - (o + s * k)) (by omega) (by omega) (by omega) (by omega)
  · rintro ⟨k, k0, k1, h⟩
    obtain ⟨t, r, e1, e2, e3, e4⟩ := inb_at (by omega) h
    have lh := low_high (o := o) (k := k) hm hs
    have ef : figM o s m (o + s * k + r) = k := (fig_iff hm hs).mpr ⟨by omega, by unfold highM; omega⟩
    have dc := due_com (o := o) (v := o + s * k + r) hm hs t
    rw [show o + s * k + r + perM s m * t = v by omega] at dc
    have ed : dueM o s m (o + s * k + r) = o + s * k := by
      unfold dueM
      rw [ef]
    omega
end HT
namespace HT
open PySem L2
def oV : Option Int → V
  | none => .non
  | some k => .int k
def spFH : Sp := fun vs H Q _ => ∃ st sp mo M : Int, vs = [.int st, .int sp, .int mo, .int M] ∧ 0 < M ∧ M < 2 ^ 102 ∧ 0 ≤ mo ∧ ∀ r, Least (HitS st sp mo M) r → Q (oN r) H
def blkV (st mo pe : Int) : HO := .tup [.int st, .int mo, .int pe]
structure BlkP (st mo pe : Int) : Prop where
  p0 : 0 < pe
  p1 : pe < 2 ^ 102
  m0 : 0 ≤ mo
  m1 : mo < pe
def spFIB : Sp := fun vs H Q _ => ∃ (b : Addr) (st mo pe v : Int), vs = [.ref b, .int v] ∧ H b = some (blkV st mo pe) ∧ BlkP st mo pe ∧ Q (.int (fibM st mo pe v)) H
def spFI2 : Sp := fun vs H Q _ => ∃ (a b : Addr) (st mo pe os om op v : Int), vs = [.ref a, .ref b, .int v] ∧ H a = some (blkV st mo pe) ∧ BlkP st mo pe ∧ H b = some (blkV os om op) ∧ BlkP os om op ∧ ∀ r, LeastI (fun x => InB st mo pe x ∧ InB os om op x) v r → Q (oV r) H
theorem hitS_lt {st sp mo M : Int} (hM : 0 < M) {k : Nat} (h : Least (HitS st sp mo M) (some k)) : (k : Int) < M := by
  by_cases e : (k : Int) < M
  · exact e
  · exfalso
    obtain ⟨a, c⟩ := h
    refine c (k - M.toNat) (by omega) ?_
    have e2 : st + sp * ((k - M.toNat : Nat) : Int) = st + sp * (k : Int) - M * sp := by
      rw [show ((k - M.toNat : Nat) : Int) = (k : Int) - M by omega, Int.mul_sub, Int.mul_comm M sp]
      omega
    unfold HitS
    rw [e2, Int.sub_mul_emod_self_left]
    exact a
section
variable {P : Program} {w : World} {K : PySem.W.Frag} {mg : Str → Option Value} {base : Heap} {fB fH fI : Addr} {dB dH dI : FuncData}
end
end HT
namespace HT
open PySem L2
/-- a def with defaults that may be called by its name -/
structure CalD (P : Program) (w : World) (K : PySem.W.Frag) (mg : Str → Option Value) (base : Heap) (x : Str) (k : Nat) (ps : List Str) (dvs : List V) (sp : Sp) (f : Addr) (fd : FuncData) : Prop where
  ok : FnOk P w K mg base CX0 k f fd ps sp
  gl : mg x = some (.ref f)
  kp : PySem.W.keepIn K (.ref f) = true
  bd : ∃ ds, Vals dvs ds ∧ Binds K fd ps ds
theorem pcd {X : Cx} {x : Str} {k j : Nat} {ps : List Str} {dvs : List V} {sp : Sp} {f : Addr} {fd : FuncData} {e : Expr} {es : List Expr} {t : TA} {p pos : Pos} (C : CalD X.prog X.w X.K X.mg X.base x k ps dvs sp f fd) (hr : Room j X.A) (hj : k ≤ j) (hg : Gl X x) (ha : PA X (e :: es) t)
    (hdb : (x == ("__debug__" : Str)) = false := by decide) (he : starEach (e :: es) X.env = (false, eval e X.env) :: starEach es X.env := by rfl) (hpl : (backTo pos (starEach es X.env)).any (·.1) = false := by rfl) : PE X (.Call (.Name x p) (e :: es) [] pos) (tCall sp dvs E0 t) := by
  obtain ⟨ds, hv, hb⟩ := C.bd
  exact pe_call C.ok (hr.mono hj) hg C.gl C.kp hb hv pass0 ha hdb he hpl
structure MaxT (mg : Str → Option Value) : Prop where
  max : mg "max" = none
  min : mg "min" = none
def BlksAt (H' : Hp) (L : Addr) (o s : Int) (m : Str) : Prop := ∃ ps : List Addr, H' L = some (.lst (ps.map V.ref)) ∧ ps.length = (figsN s m).toNat ∧ ∀ (i : Nat) (p : Addr), ps[i]? = some p → H' p = some (blkV (o + s * (i : Int)) (below (mir m) s (i : Int)) (perM s m))
def spUnr : Sp := fun vs H Q _ => ∃ (p : Addr) (o s : Int) (m : Str), vs = [.ref p, .int 1] ∧ H p = some (sideV o s m) ∧ SideP o s m ∧ ∀ (L : Addr) (H' : Hp), H L = none → Same H H' → BlksAt H' L o s m → Q (.ref L) H'
def spRs : Sp := fun vs H Q _ => ∃ (p : Addr) (o s : Int) (m : Str), vs = [.ref p] ∧ H p = some (sideV o s m) ∧ SideP o s m ∧ ∀ H', Same H H' → Q (.bl (!decide (firstM s m = "down"))) H'
theorem blkP_of {o s k : Int} {m : Str} (S : SideP o s m) : BlkP (o + s * k) (below (mir m) s k) (perM s m) := by
  have b := below_bd (k := k) (mir_mode S.md) S.s0
  have p := perM_bd S
  have pf := per_figs (m := m) S.s0
  have fb := figs_bd (m := m) S.s0
  have s0 := S.s0
  have : s * 1 ≤ s * figsN s m := Int.mul_le_mul_of_nonneg_left (by omega) (by omega)
  exact ⟨by omega, by omega, b.1, by omega⟩
section
variable {P : Program} {w : World} {K : PySem.W.Frag} {mg : Str → Option Value} {base : Heap} {fB fH fI : Addr} {dB dH dI : FuncData}
end
end HT
namespace HT
open PySem L2
/-- the list at l holds sides with these parts; it may be empty -/
structure SidL (H : Hp) (l : Addr) (xs : List V) (ss : List Sd) : Prop where
  hl : H l = some (.lst xs)
  len : xs.length = ss.length
  l4 : ss.length ≤ 4
  at_ : ∀ (i : Nat) (d : Sd), ss[i]? = some d → ∃ p : Addr, xs[i]? = some (V.ref p) ∧ H p = some (sideV d.o d.s d.m) ∧ SideP d.o d.s d.m
theorem SidesAt.toL {H : Hp} {l : Addr} {xs : List V} {ss : List Sd} (S : SidesAt H l xs ss) : SidL H l xs ss := ⟨S.hl, S.len, S.l4, S.at_⟩
theorem SidL.same {H H' : Hp} {l : Addr} {xs : List V} {ss : List Sd} (S : SidL H l xs ss) (e : Same H H') : SidL H' l xs ss :=
  ⟨e _ _ S.hl, S.len, S.l4, fun i d h => let ⟨p, a, b, c⟩ := S.at_ i d h; ⟨p, a, e _ _ b, c⟩⟩
theorem SidL.item {H : Hp} {l : Addr} {xs : List V} {ss : List Sd} (S : SidL H l xs ss) {i : Nat} {y : V} (h : xs[i]? = some y) : ∃ d p, ss[i]? = some d ∧ y = .ref p ∧ H p = some (sideV d.o d.s d.m) ∧ SideP d.o d.s d.m := by
  have hi : i < ss.length := by have := (List.getElem?_eq_some_iff.mp h).1; rw [S.len] at this; exact this
  obtain ⟨p, e, hp, sp⟩ := S.at_ i ss[i] (List.getElem?_eq_getElem hi)
  rw [h] at e
  exact ⟨ss[i], p, List.getElem?_eq_getElem hi, Option.some.inj e, hp, sp⟩
theorem SidL.side {H : Hp} {l : Addr} {xs : List V} {ss : List Sd} (S : SidL H l xs ss) : ∀ d ∈ ss, SideP d.o d.s d.m := fun d hd => by
  obtain ⟨i, hi, rfl⟩ := List.mem_iff_getElem.mp hd
  obtain ⟨_, _, _, sp⟩ := S.at_ i _ (List.getElem?_eq_getElem hi)
  exact sp
def upD (d : Sd) : Bool := !decide (firstM d.s d.m = "down")
def mirD (d : Sd) : Sd := ⟨-d.o, d.s, mir d.m⟩
/-- v, or what some side writes for it, and no less -/
def HiP (ss : List Sd) (v h : Int) : Prop := v ≤ h ∧ (∀ d ∈ ss, dueM d.o d.s d.m v ≤ h) ∧ (h = v ∨ ∃ d ∈ ss, h = dueM d.o d.s d.m v)
def spPerL : Sp := fun vs H Q _ => ∃ (l : Addr) (xs : List V) (ss : List Sd), vs = [.ref l] ∧ SidL H l xs ss ∧ Q (.int (comN ss : Int)) H
def spRais : Sp := fun vs H Q _ => ∃ (l : Addr) (xs : List V) (ss : List Sd), vs = [.ref l] ∧ SidL H l xs ss ∧ ∀ (L : Addr) (ys : List V) (H' : Hp), H L = none → Same H H' → SidL H' L ys (ss.filter upD) → Q (.ref L) H'
def spMirs : Sp := fun vs H Q _ => ∃ (l : Addr) (xs : List V) (ss : List Sd), vs = [.ref l] ∧ SidL H l xs ss ∧ ∀ (L : Addr) (ys : List V) (H' : Hp), H L = none → Same H H' → SidL H' L ys (ss.map mirD) → Q (.ref L) H'
def spHi : Sp := fun vs H Q _ => ∃ (l : Addr) (xs : List V) (ss : List Sd) (v : Int), vs = [.ref l, .int v] ∧ SidL H l xs ss ∧ (-2 ^ 900 < v ∧ v < 2 ^ 900) ∧ ∀ (h : Int) (H' : Hp), HiP ss v h → Same H H' → Q (.int h) H'
/-- a list of sides grows -/
theorem grow_side {H H' : Hp} {D : Addr} {ys : List V} {ts : List Sd} {p : Addr} {d : Sd} (A : ∀ (i : Nat) (e : Sd), ts[i]? = some e → ∃ p : Addr, ys[i]? = some (V.ref p) ∧ H p = some (sideV e.o e.s e.m) ∧ SideP e.o e.s e.m) (len : ys.length = ts.length)
    (k : ∀ b u, H b = some u → b ≠ D → H' b = some u) (hD : H D = some (.lst ys)) (hp : H' p = some (sideV d.o d.s d.m)) (sp : SideP d.o d.s d.m) :
    ∀ (i : Nat) (e : Sd), (ts ++ [d])[i]? = some e → ∃ p' : Addr, (ys ++ [V.ref p])[i]? = some (V.ref p') ∧ H' p' = some (sideV e.o e.s e.m) ∧ SideP e.o e.s e.m := by
  intro i e he
  rcases Nat.lt_or_ge i ts.length with z | z
  · rw [List.getElem?_append_left z] at he
    obtain ⟨p2, e1, hp2, sp2⟩ := A i e he
    exact ⟨p2, by rw [List.getElem?_append_left (by omega)]; exact e1, k _ _ hp2 (ne_of hp2 hD (by intro y; cases y)), sp2⟩
  · rw [List.getElem?_append_right z] at he
    have e0 : i - ts.length = 0 := by
      have := (List.getElem?_eq_some_iff.mp he).1
      simp at this
      omega
    rw [e0] at he
    have ee : e = d := by simpa using he.symm
    subst ee
    exact ⟨p, by rw [List.getElem?_append_right (by omega), show i - ys.length = 0 by omega]; rfl, hp, sp⟩
section
variable {P : Program} {w : World} {K : PySem.W.Frag} {mg : Str → Option Value} {base : Heap} {fB fH fI : Addr} {dB dH dI : FuncData}
theorem ok_commonL {f : Addr} {fd : FuncData} (F : Fun K "common_period" "common_period" s_common_period f fd) (A' : AmG mg) (Pe : Cal P w K mg base "period_of" 1 ["side"] spPerOf fB dB) : FnOk P w K mg base CX0 2 f fd ["sides"] spPerL := by
  refine F.ok sc_common_period (fun vs H Q E h => ?_) (fun cdv A outer s0 H vs Q E hr h => ?_)
  · obtain ⟨l, xs, ss, rfl, _⟩ := h
    rfl
  · obtain ⟨l, xs, ss, rfl, SS, q⟩ := h
    have nd := sc_common_period.nd
    refine ⟨_, pss_cons (ps_set (i := 1) nd rfl (Or.inl rfl) pe_int)
      (pss_cons (ps_for PassesOwn.never rfl (pi_list (pv 0)) (pg_name (i := 2) nd rfl (Or.inl rfl)) (pss_one (ps_set (i := 1) nd rfl (Or.inl rfl) (pe_callBfun cr_lcm2 (by rfl) A'.lcm (pa_cons (pv 1) (pa_cons (pcl Pe hr (by decide) (by rfl) (pa_cons (pv 2) pa_nil)) pa_nil))))))
      (pss_one (ps_ret (pv 1)))), ?_⟩
    walk_at "rd"
    refine ⟨⟨_, SqL.of SS.hl⟩, ?_⟩
    refine for_list (K := K) (a := l) (xs := xs) (fun i st H' => ∃ x2 : Option V, st = [some (.ref l), some (.int (comN (ss.take i) : Int)), x2] ∧ H' = H) ⟨none, rfl, rfl⟩ (fun _ _ _ _ ⟨_, _, e⟩ => e ▸ SqL.of SS.hl) ?_ ?_
    · rintro i y st H' hy ⟨x2, rfl, rfl⟩
      obtain ⟨d, p, ed, rfl, hp, sp⟩ := SS.item hy
      walk_at "rd"
      refine ⟨p, d.o, d.s, d.m, rfl, hp, sp, ?_⟩
      have pb := perM_bd sp
      have cl := com_take SS.side SS.l4 i
      have big : (2 : Nat) ^ 420 < 2 ^ 2000 := Nat.pow_lt_pow_right (by decide) (by decide)
      have big2 : (2 : Nat) ^ 120 < 2 ^ 2000 := Nat.pow_lt_pow_right (by decide) (by decide)
      have e2 : (perM d.s d.m).natAbs = perN d := by unfold perN; omega
      refine ⟨_, _, rfl, ?_, ?_, ?_⟩
      · rw [Int.natAbs_natCast]; omega
      · rw [e2]; unfold perN; omega
      · rw [Int.natAbs_natCast, e2, ← com_snoc ed]
        exact ⟨_, rfl, rfl⟩
    · rintro st H' ⟨x2, rfl, rfl⟩
      rw [SS.len, List.take_length]
      walk_at "rd"
      exact q
theorem filter_snoc {ss : List Sd} {i : Nat} {d : Sd} (h : ss[i]? = some d) : (ss.take (i + 1)).filter upD = (ss.take i).filter upD ++ (if upD d = true then [d] else []) := by
  rw [List.take_succ, h, List.filter_append]
  congr 1
  simp only [Option.toList, List.filter_cons, List.filter_nil]
theorem ok_mirs {f : Addr} {fd : FuncData} (F : Fun K "mirrors" "mirrors" s_mirrors f fd) (Mi : Cal P w K mg base "mirror" 4 ["side"] spMirror fB dB) : FnOk P w K mg base CX0 5 f fd ["sides"] spMirs := by
  refine F.ok sc_mirrors (fun vs H Q E h => ?_) (fun cdv A outer s0 H vs Q E hr h => ?_)
  · obtain ⟨l, xs, ss, rfl, _⟩ := h
    rfl
  · obtain ⟨l, xs, ss, rfl, SS, q⟩ := h
    have nd := sc_mirrors.nd
    refine ⟨_, (pss_one (ps_ret (pe_lc (own := [("side", 1)]) (g := gName 1) (tt := tYes) rfl nd (pi_list (pv 0)) (blkOk_by (N := ["sides", "side"]) (sc := defScope s_mirrors) (by decide +kernel)) (fun _ _ _ _ _ => pg_name (i := 1) nd rfl (Or.inl rfl)) (fun _ _ _ _ _ => pts_nil) (fun _ _ _ _ _ => (pcl Mi hr (by decide) (by rfl) (pa_cons (pv 1) pa_nil)))))), ?_⟩
    walk_at "rd"
    refine ⟨⟨_, SqL.of SS.hl⟩, fun L nL => ?_⟩
    refine lc_list (K := K) (a := l) (xs := xs) (fun i H3 => ∃ ys : List V, H3 L = some (.lst ys) ∧ ys.length = ((ss.take i).map mirD).length ∧ i ≤ ss.length ∧ Same H H3 ∧ (∀ (j : Nat) (d : Sd), ((ss.take i).map mirD)[j]? = some d → ∃ p : Addr, ys[j]? = some (V.ref p) ∧ H3 p = some (sideV d.o d.s d.m) ∧ SideP d.o d.s d.m))
      ⟨[], upd_same, rfl, Nat.zero_le _, fun b u z => (upd_ne (ne_of_none z nL)).trans z, fun j d z => by simp at z⟩ (fun _ _ _ ⟨_, _, _, _, sm, _⟩ => SqL.of (sm _ _ SS.hl)) ?_ ?_
    · rintro i y H3 hy ⟨ys, hD, ly, li, sm, at_⟩
      obtain ⟨d, p, ed, rfl, hp, sp⟩ := SS.item hy
      have il : i < ss.length := (List.getElem?_eq_some_iff.mp ed).1
      refine ⟨rfl, ?_⟩
      walk_at "rd"
      refine ⟨p, d.o, d.s, d.m, rfl, sm _ _ hp, sp, fun b H4 s34 nb hb => ?_⟩
      have hD4 := s34 _ _ hD
      have es : (ss.take (i + 1)).map mirD = (ss.take i).map mirD ++ [mirD d] := by
        rw [List.take_succ, ed, List.map_append]
        rfl
      walk_at "rd"
      refine ⟨_, hD4, ?_, ys ++ [.ref b], upd_same, ?_, il, ?_, ?_⟩
      · rw [ly, List.length_map]
        exact Nat.lt_of_le_of_lt (Nat.le_trans (List.length_take_le' _ _) SS.l4) (by decide)
      · rw [es, List.length_append, List.length_append, ly]
        rfl
      · intro c u y
        exact (upd_ne (ne_of_none y nL)).trans (s34 _ _ (sm _ _ y))
      · rw [es]
        exact grow_side (d := mirD d) at_ ly (fun c u y nb => (upd_ne nb).trans (s34 _ _ y)) hD ((upd_ne (ne_of hb hD4 (by intro y; cases y))).trans hb) (side_mir sp)
    · rintro H3 ⟨ys, hD, ly, li, sm, at_⟩
      rw [SS.len, List.take_length] at ly at_
      walk_at "rd"
      exact q L ys H3 nL sm ⟨hD, ly, by rw [List.length_map]; exact SS.l4, at_⟩
theorem ok_hi {f : Addr} {fd : FuncData} (F : Fun K "highest" "highest" s_highest f fd) (MT : MaxT mg) (Wr : Cal P w K mg base "written" 3 ["side", "value"] spDue fB dB) : FnOk P w K mg base CX0 4 f fd ["sides", "value"] spHi := by
  refine F.ok sc_highest (fun vs H Q E h => ?_) (fun cdv A outer s0 H vs Q E hr h => ?_)
  · obtain ⟨l, xs, ss, v, rfl, _⟩ := h
    rfl
  · obtain ⟨l, xs, ss, v, rfl, SS, hv, q⟩ := h
    have nd := sc_highest.nd
    refine ⟨_, pss_one (ps_ret (pe_callB (cr_max rfl) (by rfl) MT.max (by decide +kernel) (pa_cons (pe_op op_cat (pe_lst (pa_cons (pv 1) pa_nil)) (pe_lc (own := [("side", 2)]) (g := gName 2) (tt := tYes) rfl nd (pi_list (pv 0)) (blkOk_by (N := ["sides", "value", "side"]) (sc := defScope s_highest) (by decide +kernel)) (fun _ _ _ _ _ => pg_name (i := 2) nd rfl (Or.inl rfl)) (fun _ _ _ _ _ => pts_nil) (fun _ _ _ _ _ => pcl Wr hr (by decide) (by rfl) (pa_cons (pv 2) (pa_cons (pv 1) pa_nil))))) pa_nil))), ?_⟩
    walk_at "rd"
    refine ⟨(by show 1 ≤ sizeLine; decide), fun a na => ?_⟩
    have fa : upd H a (.lst [.int v]) a = some (.lst [.int v]) := upd_same
    have s1 : Same H (upd H a (.lst [.int v])) := fun b u z => (upd_ne (ne_of_none z na)).trans z
    generalize upd H a (.lst [.int v]) = H1 at fa s1 ⊢
    walk_at "rd"
    refine ⟨⟨_, SqL.of (s1 _ _ SS.hl)⟩, fun L nL => ?_⟩
    refine lc_list (K := K) (a := l) (xs := xs) (fun i H3 => H3 L = some (.lst (((ss.take i).map fun d => dueM d.o d.s d.m v).map V.int)) ∧ i ≤ ss.length ∧ Same H1 H3)
      ⟨upd_same, Nat.zero_le _, fun b u z => (upd_ne (ne_of_none z nL)).trans z⟩ (fun _ _ _ ⟨_, _, sm⟩ => SqL.of (sm _ _ (s1 _ _ SS.hl))) ?_ ?_
    · rintro i y H3 hy ⟨hD, li, sm⟩
      obtain ⟨d, p, ed, rfl, hp, sp⟩ := SS.item hy
      have il : i < ss.length := (List.getElem?_eq_some_iff.mp ed).1
      refine ⟨rfl, ?_⟩
      walk_at "rd"
      refine ⟨p, d.o, d.s, d.m, v, rfl, sm _ _ (s1 _ _ hp), sp, (by unfold Bd; omega), fun H4 s34 => ?_⟩
      have hD4 := s34 _ _ hD
      have es : (ss.take (i + 1)).map (fun d => dueM d.o d.s d.m v) = (ss.take i).map (fun d => dueM d.o d.s d.m v) ++ [dueM d.o d.s d.m v] := by
        rw [List.take_succ, ed, List.map_append]
        rfl
      walk_at "rd"
      refine ⟨_, hD4, ?_, ?_, il, fun b u y => (upd_ne (ne_of_none y nL)).trans (s34 _ _ (sm _ _ y))⟩
      · rw [List.length_map, List.length_map]
        exact Nat.lt_of_le_of_lt (Nat.le_trans (List.length_take_le' _ _) SS.l4) (by decide)
      · rw [es, List.map_append]
        exact upd_same
    · rintro H3 ⟨hD, li, sm⟩
      rw [SS.len, List.take_length] at hD
      have l4 := SS.l4
      walk_at "rd"
      refine ⟨a, L, _, _, rfl, rfl, sm _ _ fa, hD, (by show 1 + _ ≤ sizeLine; rw [List.length_map, List.length_map]; exact Nat.le_trans (by omega : 1 + ss.length ≤ 8) (by decide)), fun c nc => ?_⟩
      refine ⟨c, v :: ss.map fun d => dueM d.o d.s d.m v, rfl, SqL.of upd_same, Nat.succ_pos _, fun m mi mm => ?_⟩
      refine q m _ ⟨mm v List.mem_cons_self, fun d hd => mm _ (List.mem_cons_of_mem _ (List.mem_map.mpr ⟨d, hd, rfl⟩)), ?_⟩ (fun b u z => (upd_ne (ne_of_none (sm _ _ (s1 _ _ z)) nc)).trans (sm _ _ (s1 _ _ z)))
      rcases List.mem_cons.mp mi with e | e
      · exact .inl e
      · obtain ⟨d, hd, e2⟩ := List.mem_map.mp e
        exact .inr ⟨d, hd, e2.symm⟩
end
end HT
namespace L2
open PySem PySem.Spec PyProof.Rows PySem.W PySem.SeqAt
theorem reads_ints {h : Heap} : ∀ {ns : List Int} {its : List Value}, Vals (ns.map V.int) its → ∃ as, ReadsAll h its (ns.map PyData.int) as
  | [], its, r => by rw [List.map_nil] at r; cases r; exact ⟨_, .nil⟩
  | n :: ns, its, r => by
    rw [List.map_cons] at r
    cases r with
    | @cons x y xs ys h1 t =>
      obtain ⟨as, ra⟩ := reads_ints (h := h) t
      obtain ⟨tk, rfl⟩ := h1
      exact ⟨_, .cons (.int n tk) ra⟩
theorem depth_ints : ∀ ns : List Int, PyData.depthAll (ns.map PyData.int) = 0
  | [] => rfl
  | n :: ns => by
    show max 0 (PyData.depthAll (ns.map PyData.int)) = 0
    rw [depth_ints ns]; rfl
theorem alike_ints (ns : List Int) : AlikeAll (ns.map PyData.int) := by
  refine ⟨fun x hx y hy => ?_, fun x hx e => ?_⟩
  · obtain ⟨a, _, rfl⟩ := List.mem_map.mp hx
    obtain ⟨b, _, rfl⟩ := List.mem_map.mp hy
    simp [alike]
  · obtain ⟨a, _, rfl⟩ := List.mem_map.mp hx
    cases e
theorem fold_min : ∀ (ns : List Int) (n : Int), ns.foldl min n ∈ n :: ns ∧ ∀ y ∈ n :: ns, ns.foldl min n ≤ y
  | [], n => ⟨List.mem_cons_self, fun y hy => by rw [List.mem_singleton.mp hy]; exact Int.le_refl _⟩
  | k :: r, n => by
    obtain ⟨a, b⟩ := fold_min r (min n k)
    rw [List.foldl_cons]
    have m0 := b (min n k) List.mem_cons_self
    refine ⟨?_, fun y hy => ?_⟩
    · rcases List.mem_cons.mp a with e | e
      · rw [e]
        by_cases h : n ≤ k
        · rw [show min n k = n by omega]; exact List.mem_cons_self
        · rw [show min n k = k by omega]; exact List.mem_cons_of_mem _ List.mem_cons_self
      · exact List.mem_cons_of_mem _ (List.mem_cons_of_mem _ e)
    · rcases List.mem_cons.mp hy with e | e
      · omega
      · rcases List.mem_cons.mp e with e | e
        · omega
        · exact b y (List.mem_cons_of_mem _ e)
theorem fold_max : ∀ (ns : List Int) (n : Int), ns.foldl max n ∈ n :: ns ∧ ∀ y ∈ n :: ns, y ≤ ns.foldl max n
  | [], n => ⟨List.mem_cons_self, fun y hy => by rw [List.mem_singleton.mp hy]; exact Int.le_refl _⟩
  | k :: r, n => by
    obtain ⟨a, b⟩ := fold_max r (max n k)
    rw [List.foldl_cons]
    have m0 := b (max n k) List.mem_cons_self
    refine ⟨?_, fun y hy => ?_⟩
    · rcases List.mem_cons.mp a with e | e
      · rw [e]
        by_cases h : k ≤ n
        · rw [show max n k = n by omega]; exact List.mem_cons_self
        · rw [show max n k = k by omega]; exact List.mem_cons_of_mem _ List.mem_cons_self
      · exact List.mem_cons_of_mem _ (List.mem_cons_of_mem _ e)
    · rcases List.mem_cons.mp hy with e | e
      · omega
      · rcases List.mem_cons.mp e with e | e
        · omega
        · exact b y (List.mem_cons_of_mem _ e)
def rMinDf (K : PySem.W.Frag) : List V → List V → Hp → VK → Prop := fun vs zs H Q => ∃ (a : Addr) (ns : List Int) (d : V), vs = [V.ref a] ∧ zs = [d] ∧ SqL K H a (ns.map V.int) ∧ (ns = [] → Q d H) ∧ ∀ m, m ∈ ns → (∀ y, y ∈ ns → m ≤ y) → Q (.int m) H
def rMaxDf (K : PySem.W.Frag) : List V → List V → Hp → VK → Prop := fun vs zs H Q => ∃ (a : Addr) (ns : List Int) (d : V), vs = [V.ref a] ∧ zs = [d] ∧ SqL K H a (ns.map V.int) ∧ (ns = [] → Q d H) ∧ ∀ m, m ∈ ns → (∀ y, y ∈ ns → y ≤ m) → Q (.int m) H
theorem cr_minDf {X : Cx} (hc : X.calm = true) (hu : X.A.units + 64 < cLine) : CallRK X (.builtin "min") [Str.ofString "default"] (rMinDf X.K) := by
  intro pins s σ H vs zs us ws Q I r rz h
  obtain ⟨a, ns, d, rfl, rfl, hs, q0, q1⟩ := h
  obtain ⟨its, rv, hl, _⟩ := I.list hs
  obtain rfl := Vals.ref1 r
  obtain ⟨w1, rfl, e1⟩ := vals1 rz
  obtain ⟨as, ra⟩ := reads_ints (h := s.heap) rv
  refine min_list_default (I.ok.hd hc) hl.isList (by simpa using ra) (alike_ints ns) (by rw [depth_ints]; omega) (fun e h' tk hk => ?_) (fun y ys i v h' tk bs e hv rd hk => ?_)
  · cases ns with
    | nil => exact ⟨d, H, I.kept hk, e1, q0 rfl⟩
    | cons n r => cases e
  · cases ns with
    | nil => cases e
    | cons n r =>
      rw [List.map_cons] at e
      injection e with ey es
      subst ey es
      rw [minD_ints] at rd
      obtain ⟨f1, f2⟩ := fold_min r n
      cases rd with
      | int _ t => exact ⟨.int _, H, I.kept hk, ⟨t, rfl⟩, q1 _ f1 f2⟩
theorem cr_maxDf {X : Cx} (hc : X.calm = true) (hu : X.A.units + 64 < cLine) : CallRK X (.builtin "max") [Str.ofString "default"] (rMaxDf X.K) := by
  intro pins s σ H vs zs us ws Q I r rz h
  obtain ⟨a, ns, d, rfl, rfl, hs, q0, q1⟩ := h
  obtain ⟨its, rv, hl, _⟩ := I.list hs
  obtain rfl := Vals.ref1 r
  obtain ⟨w1, rfl, e1⟩ := vals1 rz
  obtain ⟨as, ra⟩ := reads_ints (h := s.heap) rv
  refine max_list_default (I.ok.hd hc) hl.isList (by simpa using ra) (alike_ints ns) (by rw [depth_ints]; omega) (fun e h' tk hk => ?_) (fun y ys i v h' tk bs e hv rd hk => ?_)
  · cases ns with
    | nil => exact ⟨d, H, I.kept hk, e1, q0 rfl⟩
    | cons n r => cases e
  · cases ns with
    | nil => cases e
    | cons n r =>
      rw [List.map_cons] at e
      injection e with ey es
      subst ey es
      rw [maxD_ints] at rd
      obtain ⟨f1, f2⟩ := fold_max r n
      cases rd with
      | int _ t => exact ⟨.int _, H, I.kept hk, ⟨t, rfl⟩, q1 _ f1 f2⟩
end L2
namespace HT
open PySem L2
theorem scal_some {x : Int} : V.int x ≠ V.non := fun z => by cases z
/-- a value that two sides do not raise -/
def UnR (d e : Sd) (x : Int) : Prop := dueM d.o d.s d.m x ≤ x ∧ dueM e.o e.s e.m x ≤ x
def BB (d e : Sd) (a b : Nat) (x : Int) : Prop := InB (d.o + d.s * (a : Int)) (below (mir d.m) d.s (a : Int)) (perM d.s d.m) x ∧ InB (e.o + e.s * (b : Int)) (below (mir e.m) e.s (b : Int)) (perM e.s e.m) x
theorem unr_bb {d e : Sd} {x : Int} (hd : SideP d.o d.s d.m) (he : SideP e.o e.s e.m) : UnR d e x ↔ ∃ a b : Nat, a < (figsN d.s d.m).toNat ∧ b < (figsN e.s e.m).toNat ∧ BB d e a b x := by
  unfold UnR BB
  rw [unr_iff hd.md hd.s0, unr_iff he.md he.s0]
  constructor
  · rintro ⟨⟨k, k0, k1, h⟩, j, j0, j1, g⟩
    refine ⟨k.toNat, j.toNat, by omega, by omega, ?_, ?_⟩
    · rw [Int.toNat_of_nonneg k0]; exact h
    · rw [Int.toNat_of_nonneg j0]; exact g
  · rintro ⟨a, b, h1, h2, h, g⟩
    exact ⟨⟨(a : Int), by omega, by omega, h⟩, (b : Int), by omega, by omega, g⟩
/-- the pairs that are looked at -/
def DoneP (n2 i j a b : Nat) : Prop := (a < i ∧ b < n2) ∨ (a = i ∧ b < j)
structure FndP (d e : Sd) (v : Int) (D : Nat → Nat → Prop) (ns : List Int) : Prop where
  from_ : ∀ n ∈ ns, ∃ a b, D a b ∧ LeastI (BB d e a b) v (some n)
  to_ : ∀ a b, D a b → ∃ r, LeastI (BB d e a b) v r ∧ ∀ x, r = some x → x ∈ ns
def spTwo : Sp := fun vs H Q _ => ∃ (p q : Addr) (d e : Sd) (v : Int), vs = [.ref p, .ref q, .int v] ∧ H p = some (sideV d.o d.s d.m) ∧ SideP d.o d.s d.m ∧ H q = some (sideV e.o e.s e.m) ∧ SideP e.o e.s e.m ∧ ∀ r H', LeastI (UnR d e) v r → Same H H' → Q (oV r) H'
theorem fnd_end {d e : Sd} {v : Int} {ns : List Int} {n1 n2 : Nat} (hd : SideP d.o d.s d.m) (he : SideP e.o e.s e.m) (e1 : n1 = (figsN d.s d.m).toNat) (e2 : n2 = (figsN e.s e.m).toNat) (F : FndP d e v (DoneP n2 n1 0) ns) :
    (ns = [] → LeastI (UnR d e) v none) ∧ ∀ m, m ∈ ns → (∀ y, y ∈ ns → m ≤ y) → LeastI (UnR d e) v (some m) := by
  have key : ∀ y, v ≤ y → UnR d e y → ∃ x ∈ ns, x ≤ y := by
    intro y y0 u
    obtain ⟨a, b, h1, h2, h⟩ := (unr_bb hd he).mp u
    obtain ⟨r, L, m⟩ := F.to_ a b (.inl ⟨by omega, by omega⟩)
    cases r with
    | none => exact absurd h (L y y0)
    | some x =>
      refine ⟨x, m x rfl, ?_⟩
      by_cases g : y < x
      · exact absurd h (L.2.2 y y0 g)
      · omega
  refine ⟨fun z y y0 u => ?_, fun m mi mm => ?_⟩
  · obtain ⟨x, hx, _⟩ := key y y0 u
    rw [z] at hx
    exact absurd hx List.not_mem_nil
  · obtain ⟨a, b, D, L⟩ := F.from_ m mi
    have ab : a < (figsN d.s d.m).toNat ∧ b < (figsN e.s e.m).toNat := by
      rcases D with ⟨x, y⟩ | ⟨x, y⟩ <;> omega
    refine ⟨L.1, (unr_bb hd he).mpr ⟨a, b, ab.1, ab.2, L.2.1⟩, fun y y0 y1 u => ?_⟩
    obtain ⟨x, hx, xy⟩ := key y y0 u
    have := mm x hx
    omega
theorem fnd_add {d e : Sd} {v : Int} {ns : List Int} {n2 i j : Nat} {r : Option Int} (F : FndP d e v (DoneP n2 i j) ns) (L : LeastI (BB d e i j) v r) : FndP d e v (DoneP n2 i (j + 1)) (ns ++ r.toList) := by
  refine ⟨fun n hn => ?_, fun a b D => ?_⟩
  · rcases List.mem_append.mp hn with h | h
    · obtain ⟨a, b, D, L'⟩ := F.from_ n h
      refine ⟨a, b, ?_, L'⟩
      rcases D with ⟨x, y⟩ | ⟨x, y⟩
      · exact .inl ⟨x, y⟩
      · exact .inr ⟨x, by omega⟩
    · cases r with
      | none => exact absurd h List.not_mem_nil
      | some x =>
        rw [List.mem_singleton.mp h]
        exact ⟨i, j, .inr ⟨rfl, by omega⟩, L⟩
  · by_cases g : a = i ∧ b = j
    · obtain ⟨rfl, rfl⟩ := g
      refine ⟨r, L, fun x hx => ?_⟩
      subst hx
      exact List.mem_append_right _ List.mem_cons_self
    · have D' : DoneP n2 i j a b := by
        rcases D with ⟨x, y⟩ | ⟨x, y⟩
        · exact .inl ⟨x, y⟩
        · exact .inr ⟨x, by omega⟩
      obtain ⟨r', L', m⟩ := F.to_ a b D'
      exact ⟨r', L', fun x hx => List.mem_append_left _ (m x hx)⟩
theorem fnd_row {d e : Sd} {v : Int} {ns : List Int} {n2 i : Nat} (F : FndP d e v (DoneP n2 i n2) ns) : FndP d e v (DoneP n2 (i + 1) 0) ns := by
  refine ⟨fun n hn => ?_, fun a b D => ?_⟩
  · obtain ⟨a, b, D, L⟩ := F.from_ n hn
    refine ⟨a, b, ?_, L⟩
    rcases D with ⟨x, y⟩ | ⟨x, y⟩
    · exact .inl ⟨by omega, y⟩
    · exact .inl ⟨by omega, y⟩
  · refine F.to_ a b ?_
    rcases D with ⟨x, y⟩ | ⟨x, y⟩
    · by_cases g : a = i
      · exact .inr ⟨g, y⟩
      · exact .inl ⟨by omega, y⟩
    · omega
section
variable {P : Program} {w : World} {K : PySem.W.Frag} {mg : Str → Option Value} {base : Heap} {fB fH fI : Addr} {dB dH dI : FuncData}
end
end HT
namespace HT
open PySem L2
/-- no side raises the value -/
def UnA (ss : List Sd) (x : Int) : Prop := ∀ d ∈ ss, dueM d.o d.s d.m x ≤ x
theorem com_dvd : ∀ (ss : List Sd) (n : Nat), n ∣ ss.foldl (fun n d => n.lcm (perN d)) n ∧ ∀ d ∈ ss, perN d ∣ ss.foldl (fun n d => n.lcm (perN d)) n
  | [], n => ⟨Nat.dvd_refl _, fun d h => absurd h List.not_mem_nil⟩
  | d :: ss, n => by
    obtain ⟨a, b⟩ := com_dvd ss (n.lcm (perN d))
    rw [List.foldl_cons]
    refine ⟨Nat.dvd_trans (Nat.dvd_lcm_left _ _) a, fun e he => ?_⟩
    rcases List.mem_cons.mp he with z | z
    · rw [z]; exact Nat.dvd_trans (Nat.dvd_lcm_right _ _) a
    · exact b e z
theorem per_com {ss : List Sd} {d : Sd} (h : d ∈ ss) (hd : SideP d.o d.s d.m) : perM d.s d.m ∣ (comN ss : Int) := by
  have pa := perM_bd hd
  have ea : ((perN d : Nat) : Int) = perM d.s d.m := Int.toNat_of_nonneg (by omega)
  rw [← ea]
  exact Int.natCast_dvd_natCast.mpr ((com_dvd ss 1).2 d h)
theorem una_com {ss : List Sd} (hs : ∀ d ∈ ss, SideP d.o d.s d.m) (x t : Int) : UnA ss (x + (comN ss : Int) * t) ↔ UnA ss x := by
  have key : ∀ d ∈ ss, dueM d.o d.s d.m (x + (comN ss : Int) * t) = dueM d.o d.s d.m x + (comN ss : Int) * t := fun d hd =>
    due_dvd (hs d hd).md (hs d hd).s0 (Int.dvd_mul_of_dvd_left (per_com hd (hs d hd)))
  constructor
  · intro h d hd
    have := h d hd
    rw [key d hd] at this
    omega
  · intro h d hd
    rw [key d hd]
    have := h d hd
    omega
theorem una_none {ss : List Sd} (hs : ∀ d ∈ ss, SideP d.o d.s d.m) {v u : Int} (hu : v + (comN ss : Int) ≤ u) (no : ∀ y, v ≤ y → y < u → ¬ UnA ss y) : LeastI (UnA ss) v none := by
  intro y y0 c
  have cp : 0 < (comN ss : Int) := by
    have := com_pos ss 1 (by decide) hs
    show 0 < ((ss.foldl (fun n d => n.lcm (perN d)) 1 : Nat) : Int)
    omega
  have r0 := Int.emod_nonneg (y - v) (show (comN ss : Int) ≠ 0 by omega)
  have r1 := Int.emod_lt_of_pos (y - v) cp
  have ee := Int.emod_add_mul_ediv (y - v) (comN ss : Int)
  refine no (v + (y - v) % (comN ss : Int)) (by omega) (by omega) ?_
  have := una_com hs (v + (y - v) % (comN ss : Int)) ((y - v) / (comN ss : Int))
  rw [show v + (y - v) % (comN ss : Int) + (comN ss : Int) * ((y - v) / (comN ss : Int)) = y by omega] at this
  exact this.mp c
theorem hi_step {ss : List Sd} (hs : ∀ d ∈ ss, SideP d.o d.s d.m) {v u h : Int} (no : ∀ y, v ≤ y → y < u → ¬ UnA ss y) (hp : HiP ss u h) (ne : h ≠ u) : u < h ∧ ∀ y, v ≤ y → y < h → ¬ UnA ss y := by
  obtain ⟨a, b, c⟩ := hp
  refine ⟨by omega, fun y y0 y1 un => ?_⟩
  by_cases g : y < u
  · exact no y y0 g un
  · rcases c with e | ⟨d, hd, e⟩
    · exact ne e
    · have m := due_le (o := d.o) (hs d hd).md (hs d hd).s0 (show u ≤ y by omega)
      have := un d hd
      omega
theorem hi_bd {ss : List Sd} (hs : ∀ d ∈ ss, SideP d.o d.s d.m) {u h : Int} (hp : HiP ss u h) : h < u + 10 ^ 31 := by
  obtain ⟨a, b, c⟩ := hp
  rcases c with e | ⟨d, hd, e⟩
  · omega
  · have := due_near (o := d.o) (v := u) (hs d hd).md (hs d hd).s0
    have := (hs d hd).s1
    omega
theorem una_two {d e : Sd} {x : Int} : UnR d e x ↔ UnA [d, e] x := by
  constructor
  · rintro ⟨a, b⟩ f hf
    rcases List.mem_cons.mp hf with z | z
    · rw [z]; exact a
    · rw [List.mem_singleton.mp z]; exact b
  · intro h
    exact ⟨h d List.mem_cons_self, h e (List.mem_cons_of_mem _ List.mem_cons_self)⟩
theorem down_le {o s v : Int} (hs : 1 ≤ s) : dueM o s "down" v ≤ v := by
  have := Int.emod_add_mul_ediv (v - o) s
  have := Int.emod_nonneg (v - o) (show s ≠ 0 by omega)
  unfold dueM figM
  rw [go_down, if_neg (by decide)]
  omega
theorem una_filter {ss : List Sd} (hs : ∀ d ∈ ss, SideP d.o d.s d.m) (x : Int) : UnA (ss.filter upD) x ↔ UnA ss x := by
  constructor
  · intro h d hd
    by_cases u : upD d = true
    · exact h d (List.mem_filter.mpr ⟨hd, u⟩)
    · have e : firstM d.s d.m = "down" := by
        unfold upD at u
        simpa using u
      have f := due_form (o := d.o) x (hs d hd).md (hs d hd).s0
      rw [e] at f
      rw [← f]
      exact down_le (hs d hd).s0
  · intro h d hd
    exact h d (List.mem_filter.mp hd).1
def FewP (ss : List Sd) : Prop := (ss.filter upD).length ≤ 2 ∨ comN (ss.filter upD) ≤ 100000
def spFU : Sp := fun vs H Q _ => ∃ (l : Addr) (xs : List V) (ss : List Sd) (v : Int), vs = [.ref l, .int v] ∧ SidL H l xs ss ∧ (-2 ^ 800 < v ∧ v < 2 ^ 800) ∧ ∀ r H', LeastI (UnA ss) v r → Same H H' → Q (oV r) H'
def spCF : Sp := fun vs H Q _ => ∃ (l : Addr) (xs : List V) (ss : List Sd), vs = [.ref l] ∧ SidL H l xs ss ∧ (ss.length ≤ 2 ∨ comN ss ≤ 100000) ∧ Q .non H
def spReach : Sp := fun vs H Q _ => ∃ (l : Addr) (xs : List V) (ss : List Sd) (v : Int), vs = [.ref l, .int v] ∧ SidesAt H l xs ss ∧ (-2 ^ 790 < v ∧ v < 2 ^ 790) ∧ FewP ss ∧ FewP (ss.map mirD) ∧
  ∀ (lo hi : Option Int) (p : Addr) (H' : Hp), LeastI (UnA ss) v hi → LeastI (UnA (ss.map mirD)) (-v) lo → Same H H' → H p = none → H' p = some (.tup [oV (lo.map fun x => -x), oV hi]) → Q (.ref p) H'
section
variable {P : Program} {w : World} {K : PySem.W.Frag} {mg : Str → Option Value} {base : Heap} {fB fH fI fJ fL fM fN : Addr} {dB dH dI dJ dL dM dN : FuncData}
end
end HT
namespace HT
open PySem L2
theorem back_iff {o s v y : Int} {m : Str} (hm : Mode m) (hs : 1 ≤ s) : backM o s m v ≤ y ↔ v ≤ dueM o s m y := by
  constructor
  · intro h
    exact Int.le_trans (back_ge hm hs) (due_le hm hs h)
  · intro h
    by_cases z : backM o s m v ≤ y
    · exact z
    · exfalso
      have h1 := due_le (o := o) (m := m) hm hs (show y ≤ backM o s m v - 1 by omega)
      have h2 := back_lt (o := o) (v := v) hm hs
      omega
theorem back_com {o s v : Int} {m : Str} (hm : Mode m) (hs : 1 ≤ s) (t : Int) : backM o s m (v + perM s m * t) = backM o s m v + perM s m * t := by
  have key : ∀ y, backM o s m (v + perM s m * t) ≤ y ↔ backM o s m v + perM s m * t ≤ y := fun y => by
    rw [back_iff hm hs]
    have h := due_com (o := o) (v := y - perM s m * t) hm hs t
    rw [show y - perM s m * t + perM s m * t = y by omega] at h
    rw [h]
    have h2 := back_iff (o := o) (v := v) (y := y - perM s m * t) hm hs
    omega
  have a := (key (backM o s m (v + perM s m * t))).mp (Int.le_refl _)
  have b := (key (backM o s m v + perM s m * t)).mpr (Int.le_refl _)
  omega
theorem back_pos {o s v : Int} {m : Str} (hm : Mode m) (hs : 1 ≤ s) : v + 1 ≤ backM o s m (v + s) := by
  by_cases z : backM o s m (v + s) ≤ v
  · exfalso
    have h := (back_iff hm hs).mp z
    have h2 := due_near (o := o) (v := v) hm hs
    omega
  · omega
theorem back_le {o s v : Int} {m : Str} (hm : Mode m) (hs : 1 ≤ s) : backM o s m v ≤ v + s := by
  have h := due_near (o := o) (v := v + s) hm hs
  exact (back_iff hm hs).mpr (by omega)
def dW (d : Sd) (x : Int) : Int := dueM d.o d.s d.m x
/-- there and back: by e, then by d -/
def Rd (d e : Sd) (x : Int) : Int := dW d (dW e x)
/-- the value of a figure -/
def atK (d : Sd) (k : Int) : Int := d.o + d.s * k
theorem dW_at {d : Sd} (h : SideP d.o d.s d.m) (k : Int) : dW d (atK d k) = atK d k := by
  unfold dW dueM atK
  rw [fig_at h.md h.s0]
theorem dW_is (d : Sd) (x : Int) : ∃ k, dW d x = atK d k := ⟨figM d.o d.s d.m x, rfl⟩
theorem atK_lt {d : Sd} (h : SideP d.o d.s d.m) {j k : Int} : atK d j < atK d k ↔ j < k := by
  have s0 := h.s0
  unfold atK
  constructor
  · intro z
    by_cases y : j < k
    · exact y
    · have : d.s * k ≤ d.s * j := Int.mul_le_mul_of_nonneg_left (by omega) (by omega)
      omega
  · intro z
    have : d.s * (j + 1) ≤ d.s * k := Int.mul_le_mul_of_nonneg_left (by omega) (by omega)
    rw [Int.mul_add, Int.mul_one] at this
    omega
theorem atK_le {d : Sd} (h : SideP d.o d.s d.m) {j k : Int} : atK d j ≤ atK d k ↔ j ≤ k := by
  have := atK_lt h (j := k) (k := j)
  omega
theorem atK_succ (d : Sd) (k : Int) : atK d (k + 1) = atK d k + d.s := by
  unfold atK
  rw [Int.mul_add, Int.mul_one]
  omega
theorem atK_add (d : Sd) (k n : Int) : atK d (k + n) = atK d k + d.s * n := by
  unfold atK
  rw [Int.mul_add]
  omega
theorem dW_le {d : Sd} (h : SideP d.o d.s d.m) {x y : Int} (z : x ≤ y) : dW d x ≤ dW d y := due_le h.md h.s0 z
/-- the round raises no value by a step of the wide side -/
def NotUp (d e : Sd) (x : Int) : Prop := dW e x < backM d.o d.s d.m (x + d.s)
instance (d e : Sd) (x : Int) : Decidable (NotUp d e x) := by unfold NotUp; exact inferInstance
theorem notup_iff {d e : Sd} (h : SideP d.o d.s d.m) (k : Int) : NotUp d e (atK d k) ↔ Rd d e (atK d k) ≤ atK d k := by
  unfold NotUp
  have b := back_iff (o := d.o) (v := atK d k + d.s) (y := dW e (atK d k)) h.md h.s0
  have r : dueM d.o d.s d.m (dW e (atK d k)) = Rd d e (atK d k) := rfl
  rw [r, ← atK_succ] at b
  rw [← atK_succ]
  obtain ⟨j, hj⟩ := dW_is d (dW e (atK d k))
  have hj2 : Rd d e (atK d k) = atK d j := hj
  rw [hj2] at b ⊢
  rw [atK_le h] at b
  rw [atK_le h]
  omega
theorem rd_up {d e : Sd} (h : SideP d.o d.s d.m) (he : SideP e.o e.s e.m) (le : e.s ≤ d.s) {k : Int} (z : ¬ NotUp d e (atK d k)) : Rd d e (atK d k) = atK d (k + 1) := by
  have h1 : ¬ Rd d e (atK d k) ≤ atK d k := fun y => z ((notup_iff h k).mpr y)
  have h2 : dW e (atK d k) ≤ atK d (k + 1) := by
    rw [atK_succ]
    have := due_near (o := e.o) (v := atK d k) he.md he.s0
    unfold dW
    omega
  have h3 := dW_le h h2
  rw [dW_at h] at h3
  obtain ⟨j, hj⟩ := dW_is d (dW e (atK d k))
  have hj2 : Rd d e (atK d k) = atK d j := hj
  rw [hj2] at h1 ⊢
  rw [hj] at h3
  rw [atK_le h] at h1 h3
  rw [show j = k + 1 by omega]
theorem rd_mono {d e : Sd} (h : SideP d.o d.s d.m) (he : SideP e.o e.s e.m) {x y : Int} (z : x ≤ y) : Rd d e x ≤ Rd d e y := dW_le h (dW_le he z)
def mirS (d : Sd) : Sd := ⟨-d.o, d.s, mir d.m⟩
theorem mirS_side {d : Sd} (h : SideP d.o d.s d.m) : SideP (mirS d).o (mirS d).s (mirS d).m := by
  obtain ⟨a, b, c, e, f⟩ := h
  exact ⟨by show -10 ^ 40 ≤ -d.o; omega, by show -d.o ≤ 10 ^ 40; omega, c, e, mir_mode f⟩
theorem mirS_dW {d : Sd} (h : SideP d.o d.s d.m) (x : Int) : dW (mirS d) (-x) = -dW d x := due_mirror h.md h.s0
theorem mirS_at (d : Sd) (k : Int) : atK (mirS d) k = -atK d (-k) := by
  unfold atK mirS
  show -d.o + d.s * k = -(d.o + d.s * -k)
  rw [Int.mul_neg]
  omega
theorem mirS_Rd {d e : Sd} (h : SideP d.o d.s d.m) (he : SideP e.o e.s e.m) (x : Int) : Rd (mirS d) (mirS e) (-x) = -Rd d e x := by
  unfold Rd
  rw [mirS_dW he, mirS_dW h]
/-- the figures of the blocks of what e does not raise by so much -/
def stL (e : Sd) (L f : Int) : Int := if e.o + e.s * f - L + 1 > lowM e.o e.s e.m f then e.o + e.s * f - L + 1 else lowM e.o e.s e.m f
def moL (e : Sd) (L f : Int) : Int := highM e.o e.s e.m f - stL e L f
theorem moL_pos {e : Sd} (h : SideP e.o e.s e.m) {L : Int} (hL : 1 ≤ L) (f : Int) : 0 ≤ moL e L f ∧ moL e L f < perM e.s e.m := by
  have lh := low_high (o := e.o) (k := f) h.md h.s0
  have fb := figs_bd (m := e.m) h.s0
  have pf := per_figs (m := e.m) h.s0
  have b1 := below_bd (k := f) h.md h.s0
  have b2 := below_bd (k := f) (mir_mode h.md) h.s0
  have t := touch (f - 1) h.md h.s0
  have nx := low_next (o := e.o) f h.md h.s0
  have p1 : e.s * 1 ≤ e.s * figsN e.s e.m := Int.mul_le_mul_of_nonneg_left (by omega) (by have := h.s0; omega)
  have wid : highM e.o e.s e.m f - lowM e.o e.s e.m f < perM e.s e.m := by
    rw [figs_eq h.s0] at pf
    unfold highM lowM
    by_cases he : e.m = "half_even"
    · rw [if_pos he] at pf
      omega
    · rw [if_neg he] at pf
      have tt := touch f h.md h.s0
      have bb : below e.m e.s (f + 1) = below e.m e.s f := by
        unfold below
        by_cases h1 : e.m = "down"
        · rw [if_pos h1, if_pos h1]
        · by_cases h2 : e.m = "up"
          · rw [if_neg h1, if_pos h2, if_neg h1, if_pos h2]
          · rw [if_neg h1, if_neg h2, if_neg h1, if_neg h2]
            have i1 : ∀ z : Int, (e.m = "half_up" ∨ (e.m = "half_even" ∧ z % 2 = 0)) ↔ e.m = "half_up" := fun z => ⟨fun y => y.elim id fun w => absurd w.1 he, .inl⟩
            by_cases h3 : e.m = "half_up"
            · rw [if_pos (.inl h3), if_pos (.inl h3)]
            · rw [if_neg (fun y => h3 ((i1 _).mp y)), if_neg (fun y => h3 ((i1 _).mp y))]
      omega
  unfold moL stL
  split <;> constructor <;> omega
theorem unrL_iff {e : Sd} (h : SideP e.o e.s e.m) {L v : Int} (hL : 1 ≤ L) : dW e v < v + L ↔ ∃ k, 0 ≤ k ∧ k < figsN e.s e.m ∧ InB (stL e L k) (moL e L k) (perM e.s e.m) v := by
  have hm := h.md
  have hs := h.s0
  have fb := figs_bd (m := e.m) hs
  have pf := per_figs (m := e.m) hs
  have pp : e.s ≤ perM e.s e.m := by
    rw [pf]
    have : e.s * 1 ≤ e.s * figsN e.s e.m := Int.mul_le_mul_of_nonneg_left (by omega) (by omega)
    omega
  constructor
  · intro hh
    have hh : dueM e.o e.s e.m v < v + L := hh
    have e0 := Int.emod_add_mul_ediv (figM e.o e.s e.m v) (figsN e.s e.m)
    refine ⟨figM e.o e.s e.m v % figsN e.s e.m, Int.emod_nonneg _ (by omega), Int.emod_lt_of_pos _ (by omega), ?_⟩
    generalize hk : figM e.o e.s e.m v % figsN e.s e.m = k at *
    generalize hj : figM e.o e.s e.m v / figsN e.s e.m = j at *
    have ev : v = (v - perM e.s e.m * j) + perM e.s e.m * j := by omega
    have dc := due_com (o := e.o) (v := v - perM e.s e.m * j) hm hs j
    rw [← ev] at dc
    have es : e.s * figM e.o e.s e.m v = e.s * k + perM e.s e.m * j := by
      rw [← e0, Int.mul_add, pf, Int.mul_assoc]
    have ed : dueM e.o e.s e.m v = e.o + e.s * k + perM e.s e.m * j := by
      unfold dueM
      omega
    have ed2 : dueM e.o e.s e.m (v - perM e.s e.m * j) = e.o + e.s * k := by omega
    have ef : figM e.o e.s e.m (v - perM e.s e.m * j) = k := by
      unfold dueM at ed2
      exact Int.eq_of_mul_eq_mul_left (show e.s ≠ 0 by omega) (by omega)
    obtain ⟨lo, hi⟩ := (fig_iff hm hs).mp ef
    have mp := moL_pos h hL k
    have sl : stL e L k ≤ v - perM e.s e.m * j := by
      unfold stL
      split <;> omega
    have sh : v - perM e.s e.m * j - stL e L k ≤ moL e L k := by
      unfold moL
      omega
    exact inb_of (t := j) (r := v - perM e.s e.m * j - stL e L k) (by omega) (by omega) (by omega) sh
  · rintro ⟨k, k0, k1, hh⟩
    obtain ⟨t, r, e1, e2, e3, e4⟩ := inb_at (by omega) hh
    have lh := low_high (o := e.o) (k := k) hm hs
    have sl : lowM e.o e.s e.m k ≤ stL e L k ∧ e.o + e.s * k - L + 1 ≤ stL e L k := by
      unfold stL
      split <;> omega
    have sh : stL e L k + r ≤ highM e.o e.s e.m k := by
      unfold moL at e3
      omega
    have ef : figM e.o e.s e.m (stL e L k + r) = k := (fig_iff hm hs).mpr ⟨by omega, sh⟩
    have dc := due_com (o := e.o) (v := stL e L k + r) hm hs t
    rw [show stL e L k + r + perM e.s e.m * t = v by omega] at dc
    have ed : dueM e.o e.s e.m (stL e L k + r) = e.o + e.s * k := by
      unfold dueM
      rw [ef]
    show dueM e.o e.s e.m v < v + L
    omega
end HT
namespace HT
open PySem L2
/-- the values as far as n steps of the wide side -/
def upP (d e : Sd) (v : Int) (n : Nat) : Prop := NotUp d e (v + d.s * (n : Int))
/-- what rounds_up has found so far -/
structure RuF (d e : Sd) (v : Int) (ys : List Int) (done : Nat → Nat → Prop) : Prop where
  tr : ∀ y ∈ ys, ∃ n : Nat, y = (n : Int) ∧ upP d e v n
  al : ∀ t f k : Nat, done t f → HitS (v + d.s * (t : Int) - stL e (backM d.o d.s d.m (v + d.s * (t : Int) + d.s) - (v + d.s * (t : Int))) (f : Int)) (figsN d.s d.m * d.s) (moL e (backM d.o d.s d.m (v + d.s * (t : Int) + d.s) - (v + d.s * (t : Int))) (f : Int)) (perM e.s e.m) k → ∃ y ∈ ys, y ≤ (t : Int) + figsN d.s d.m * (k : Int)
def lessT (d : Sd) (v : Int) (t : Nat) : Int := backM d.o d.s d.m (v + d.s * (t : Int) + d.s) - (v + d.s * (t : Int))
theorem less_pos {d : Sd} (h : SideP d.o d.s d.m) (v : Int) (t : Nat) : 1 ≤ lessT d v t ∧ lessT d v t ≤ 2 * d.s := by
  have a := back_pos (o := d.o) (v := v + d.s * (t : Int)) h.md h.s0
  have b := back_le (o := d.o) (v := v + d.s * (t : Int) + d.s) h.md h.s0
  unfold lessT
  omega
/-- a hit is a value that the round does not raise -/
theorem hit_up {d e : Sd} (h : SideP d.o d.s d.m) (he : SideP e.o e.s e.m) (v : Int) (t k : Nat) : upP d e v (t + (figsN d.s d.m).toNat * k) ↔ ∃ f : Nat, (f : Int) < figsN e.s e.m ∧ HitS (v + d.s * (t : Int) - stL e (lessT d v t) (f : Int)) (figsN d.s d.m * d.s) (moL e (lessT d v t) (f : Int)) (perM e.s e.m) k := by
  have fb := figs_bd (m := d.m) h.s0
  have pf := per_figs (m := d.m) h.s0
  obtain ⟨l1, _⟩ := less_pos h v t
  have ex : v + d.s * ((t + (figsN d.s d.m).toNat * k : Nat) : Int) = v + d.s * (t : Int) + perM d.s d.m * (k : Int) := by
    have e1 : ((t + (figsN d.s d.m).toNat * k : Nat) : Int) = (t : Int) + figsN d.s d.m * (k : Int) := by
      rw [Int.natCast_add, Int.natCast_mul, Int.toNat_of_nonneg (by omega)]
    rw [e1, Int.mul_add, pf, ← Int.mul_assoc]
    omega
  have bc := back_com (o := d.o) (v := v + d.s * (t : Int) + d.s) h.md h.s0 (k : Int)
  have e2 : backM d.o d.s d.m (v + d.s * (t : Int) + perM d.s d.m * (k : Int) + d.s) = v + d.s * (t : Int) + perM d.s d.m * (k : Int) + lessT d v t := by
    rw [show v + d.s * (t : Int) + perM d.s d.m * (k : Int) + d.s = v + d.s * (t : Int) + d.s + perM d.s d.m * (k : Int) by omega, bc]
    unfold lessT
    omega
  have e5 : figsN d.s d.m * d.s * (k : Int) = perM d.s d.m * (k : Int) := by rw [pf, Int.mul_comm d.s (figsN d.s d.m)]
  unfold upP NotUp
  rw [ex, e2, unrL_iff he l1]
  constructor
  · rintro ⟨f, f0, f1, hh⟩
    obtain ⟨n, rfl⟩ := Int.eq_ofNat_of_zero_le f0
    refine ⟨n, f1, ?_⟩
    unfold HitS
    unfold InB at hh
    rw [show v + d.s * (t : Int) - stL e (lessT d v t) (n : Int) + figsN d.s d.m * d.s * (k : Int) = v + d.s * (t : Int) + perM d.s d.m * (k : Int) - stL e (lessT d v t) (n : Int) by rw [e5]; omega]
    exact hh
  · rintro ⟨n, f1, hh⟩
    refine ⟨n, by omega, f1, ?_⟩
    unfold InB
    unfold HitS at hh
    rw [show v + d.s * (t : Int) - stL e (lessT d v t) (n : Int) + figsN d.s d.m * d.s * (k : Int) = v + d.s * (t : Int) + perM d.s d.m * (k : Int) - stL e (lessT d v t) (n : Int) by rw [e5]; omega] at hh
    exact hh
/-- the least of what is found -/
theorem ru_least {d e : Sd} (h : SideP d.o d.s d.m) (he : SideP e.o e.s e.m) {v : Int} {ys : List Int} (R : RuF d e v ys fun t f => (t : Int) < figsN d.s d.m ∧ (f : Int) < figsN e.s e.m) : (ys = [] → Least (upP d e v) none) ∧ ∀ y ∈ ys, (∀ z ∈ ys, y ≤ z) → Least (upP d e v) (some y.toNat) ∧ 0 ≤ y := by
  have fb := figs_bd (m := d.m) h.s0
  have key : ∀ n, upP d e v n → ∃ y ∈ ys, y ≤ (n : Int) := by
    intro n hn
    have e0 := Nat.mod_add_div n (figsN d.s d.m).toNat
    have lt := Nat.mod_lt n (show 0 < (figsN d.s d.m).toNat by omega)
    rw [← e0] at hn
    obtain ⟨f, f1, hh⟩ := (hit_up h he v _ _).mp hn
    obtain ⟨y, hy, le⟩ := R.al _ f _ ⟨by omega, f1⟩ hh
    refine ⟨y, hy, ?_⟩
    have e1 : (n : Int) = ((n % (figsN d.s d.m).toNat : Nat) : Int) + figsN d.s d.m * ((n / (figsN d.s d.m).toNat : Nat) : Int) := by
      have e2 : ((figsN d.s d.m).toNat : Int) = figsN d.s d.m := Int.toNat_of_nonneg (by omega)
      have e3 : ((n % (figsN d.s d.m).toNat + (figsN d.s d.m).toNat * (n / (figsN d.s d.m).toNat) : Nat) : Int) = (n : Int) := by rw [e0]
      rw [Int.natCast_add, Int.natCast_mul, e2] at e3
      exact e3.symm
    omega
  constructor
  · rintro rfl n hn
    obtain ⟨y, hy, _⟩ := key n hn
    exact List.not_mem_nil hy
  · intro y hy mn
    obtain ⟨n, rfl, hn⟩ := R.tr y hy
    refine ⟨⟨by rw [Int.toNat_natCast]; exact hn, fun j hj c => ?_⟩, by omega⟩
    obtain ⟨z, hz, le⟩ := key j c
    have := mn z hz
    omega
end HT
namespace HT
open PySem L2
def it (f : Int → Int) : Nat → Int → Int
  | 0, x => x
  | n + 1, x => f (it f n x)
/-- it settles at E behind r rounds -/
def Stl (f : Int → Int) (v E : Int) (r : Nat) : Prop := it f r v = E ∧ f E = E ∧ ∀ i, i < r → it f (i + 1) v ≠ it f i v
theorem it_fix {f : Int → Int} {v : Int} {n : Nat} (h : it f (n + 1) v = it f n v) : ∀ m, it f (n + m) v = it f n v
  | 0 => rfl
  | m + 1 => by
    have ih := it_fix h m
    show f (it f (n + m) v) = _
    rw [ih]
    exact h
theorem stl_uniq {f : Int → Int} {v E E' : Int} {r r' : Nat} (h : Stl f v E r) (h' : Stl f v E' r') : E = E' ∧ r = r' := by
  have key : ∀ {E E' : Int} {r r' : Nat}, Stl f v E r → Stl f v E' r' → ¬ r < r' := by
    intro E E' r r' h h' lt
    obtain ⟨a, b, _⟩ := h
    refine h'.2.2 r lt ?_
    show f (it f r v) = it f r v
    rw [a]
    exact b
  have e : r = r' := by
    have a := key h h'
    have b := key h' h
    omega
  subst e
  exact ⟨h.1.symm.trans h'.1, rfl⟩
/-- a remainder comes again -/
def RepP (f : Int → Int) (L v c : Int) : Prop := ∃ (j i : Nat) (t : Int), j < i ∧ it f i v = it f j v + L * t ∧ c = (it f i v - it f j v) / ((i - j : Nat) : Int) ∧ ∀ k, k < i → it f (k + 1) v ≠ it f k v
/-- it creeps -/
def Crp (f : Int → Int) (L v c : Int) : Prop := c ≠ 0 ∧ ∃ g : Int → Int, (∀ x t, g (x + L * t) = g x + L * t) ∧ ∀ i : Nat, g (it f i v) = g v + c * (i : Int)
theorem it_shift {f : Int → Int} {L : Int} (hf : ∀ x t, f (x + L * t) = f x + L * t) {v : Int} {i j : Nat} {t : Int} (h : it f i v = it f j v + L * t) : ∀ k, it f (i + k) v = it f (j + k) v + L * t
  | 0 => h
  | k + 1 => by
    show f (it f (i + k) v) = f (it f (j + k) v) + L * t
    rw [it_shift hf h k, hf]
theorem stl_rep {f : Int → Int} {L v E c : Int} {r : Nat} (hf : ∀ x t, f (x + L * t) = f x + L * t) (h : Stl f v E r) (h' : RepP f L v c) : False := by
  obtain ⟨j, i, t, ji, e, _, ne⟩ := h'
  obtain ⟨a, b, d⟩ := h
  have ri : i ≤ r := by
    by_cases z : i ≤ r
    · exact z
    · exfalso
      refine ne r (by omega) ?_
      show f (it f r v) = it f r v
      rw [a]
      exact b
  have s1 := it_shift hf e (r - i)
  have s2 := it_shift hf e (r - i + 1)
  rw [show i + (r - i) = r by omega] at s1
  rw [show i + (r - i + 1) = r + 1 by omega] at s2
  have s3 : it f (r + 1) v = it f r v := by
    show f (it f r v) = it f r v
    rw [a]
    exact b
  refine d (j + (r - i)) (by omega) ?_
  show it f (j + (r - i) + 1) v = _
  rw [show j + (r - i) + 1 = j + (r - i + 1) by omega]
  omega
theorem stl_crp {f : Int → Int} {L v E c : Int} {r : Nat} (h : Stl f v E r) (h' : Crp f L v c) : False := by
  obtain ⟨c0, g, _, hg⟩ := h'
  obtain ⟨a, b, _⟩ := h
  have s3 : it f (r + 1) v = it f r v := by
    show f (it f r v) = it f r v
    rw [a]
    exact b
  have h1 := hg r
  have h2 := hg (r + 1)
  rw [s3, h1, show ((r + 1 : Nat) : Int) = (r : Int) + 1 by omega, Int.mul_add, Int.mul_one] at h2
  omega
theorem rep_crp {f : Int → Int} {L v c c' : Int} (h : RepP f L v c') (h' : Crp f L v c) : c' = c := by
  obtain ⟨j, i, t, ji, e, ec, _⟩ := h
  obtain ⟨c0, g, gp, hg⟩ := h'
  have h1 := hg i
  rw [e, gp, hg j] at h1
  have e2 : it f i v - it f j v = c * ((i - j : Nat) : Int) := by
    rw [show ((i - j : Nat) : Int) = (i : Int) - (j : Int) by omega, Int.mul_sub]
    omega
  rw [ec, e2, Int.mul_ediv_cancel _ (by omega)]
theorem crp_ne {f : Int → Int} {L v c : Int} (h : Crp f L v c) (k : Nat) : it f (k + 1) v ≠ it f k v := by
  intro z
  obtain ⟨c0, g, _, hg⟩ := h
  have h1 := hg k
  have h2 := hg (k + 1)
  rw [z, h1, show ((k + 1 : Nat) : Int) = (k : Int) + 1 by omega, Int.mul_add, Int.mul_one] at h2
  omega
theorem least_ex {P : Nat → Prop} : (∃ n, P n) → ∃ r, Least P (some r) := by
  rintro ⟨n, hn⟩
  induction n using Nat.strongRecOn with
  | _ n ih =>
    by_cases z : ∃ m, m < n ∧ P m
    · obtain ⟨m, lt, hm⟩ := z
      exact ih m lt hm
    · exact ⟨n, hn, fun j hj c => z ⟨j, hj, c⟩⟩
/-! ### the two sides -/
def perL (d e : Sd) : Int := ((comN [d, e] : Nat) : Int)
theorem perL_pos {d e : Sd} (h : SideP d.o d.s d.m) (he : SideP e.o e.s e.m) : 0 < perL d e := by
  have := com_pos [d, e] 1 (by decide) (fun x hx => by
    simp only [List.mem_cons, List.not_mem_nil, or_false] at hx
    rcases hx with rfl | rfl
    · exact h
    · exact he)
  show 0 < (([d, e].foldl (fun n d => n.lcm (perN d)) 1 : Nat) : Int)
  omega
theorem comD : ∀ (ss : List Sd) (n : Nat), n ∣ ss.foldl (fun n d => n.lcm (perN d)) n ∧ ∀ d ∈ ss, perN d ∣ ss.foldl (fun n d => n.lcm (perN d)) n
  | [], n => ⟨Nat.dvd_refl _, fun d h => absurd h List.not_mem_nil⟩
  | d :: ss, n => by
    obtain ⟨a, b⟩ := comD ss (n.lcm (perN d))
    rw [List.foldl_cons]
    refine ⟨Nat.dvd_trans (Nat.dvd_lcm_left _ _) a, fun e he => ?_⟩
    rcases List.mem_cons.mp he with z | z
    · rw [z]; exact Nat.dvd_trans (Nat.dvd_lcm_right _ _) a
    · exact b e z
theorem per_in {ss : List Sd} {d : Sd} (h : d ∈ ss) (hd : SideP d.o d.s d.m) : perM d.s d.m ∣ (comN ss : Int) := by
  have pa := perM_bd hd
  have ea : ((perN d : Nat) : Int) = perM d.s d.m := Int.toNat_of_nonneg (by omega)
  rw [← ea]
  exact Int.natCast_dvd_natCast.mpr ((comD ss 1).2 d h)
theorem dW_per {d : Sd} {ss : List Sd} (h : SideP d.o d.s d.m) (hin : d ∈ ss) (x t : Int) : dW d (x + (comN ss : Int) * t) = dW d x + (comN ss : Int) * t :=
  due_dvd h.md h.s0 (Int.dvd_mul_of_dvd_left (per_in hin h))
theorem rd_per {d e : Sd} {ss : List Sd} (h : SideP d.o d.s d.m) (he : SideP e.o e.s e.m) (hd : d ∈ ss) (hee : e ∈ ss) (x t : Int) : Rd d e (x + (comN ss : Int) * t) = Rd d e x + (comN ss : Int) * t := by
  unfold Rd
  rw [dW_per he hee, dW_per h hd]
theorem step_in {d e : Sd} (h : SideP d.o d.s d.m) (he : SideP e.o e.s e.m) : ∃ j : Int, 1 ≤ j ∧ perL d e = d.s * j := by
  have s0 := h.s0
  obtain ⟨t, ht⟩ := per_in (ss := [d, e]) List.mem_cons_self h
  have pf := per_figs (m := d.m) h.s0
  have pp := perL_pos h he
  refine ⟨figsN d.s d.m * t, ?_, ?_⟩
  · by_cases z : 1 ≤ figsN d.s d.m * t
    · exact z
    · exfalso
      have : d.s * (figsN d.s d.m * t) ≤ d.s * 0 := Int.mul_le_mul_of_nonneg_left (by omega) (by omega)
      rw [← Int.mul_assoc, ← pf] at this
      have e2 : perL d e = perM d.s d.m * t := ht
      omega
  · show (comN [d, e] : Int) = _
    rw [ht, pf, Int.mul_assoc]
/-- what pace tells, of the wide and the narrow one -/
def CreepP (d e : Sd) (c : Int) : Prop := (c = d.s ∧ ∀ k, Rd d e (atK d k) = atK d (k + 1)) ∨ (c = -d.s ∧ ∀ k, Rd d e (atK d k) = atK d (k - 1)) ∨ (c = 0 ∧ (∃ k, Rd d e (atK d k) ≤ atK d k) ∧ ∃ k, atK d k ≤ Rd d e (atK d k))
theorem far {k j : Int} (hj : 1 ≤ j) (k0 : Int) : ∃ t : Int, 0 ≤ t ∧ k0 ≤ k + j * t := by
  refine ⟨((k0 - k).natAbs : Int), by omega, ?_⟩
  have : 1 * ((k0 - k).natAbs : Int) ≤ j * ((k0 - k).natAbs : Int) := Int.mul_le_mul_of_nonneg_right hj (by omega)
  omega
theorem rd_at {d e : Sd} (h : SideP d.o d.s d.m) (he : SideP e.o e.s e.m) {j : Int} (hj : perL d e = d.s * j) (k t : Int) : Rd d e (atK d (k + j * t)) = Rd d e (atK d k) + d.s * (j * t) := by
  have := rd_per (ss := [d, e]) h he (by simp) (by simp) (atK d k) t
  have e1 : (comN [d, e] : Int) * t = d.s * (j * t) := by
    show perL d e * t = _
    rw [hj, Int.mul_assoc]
  rw [e1] at this
  rw [atK_add]
  exact this
theorem creep_up {d e : Sd} (h : SideP d.o d.s d.m) (he : SideP e.o e.s e.m) (le : e.s ≤ d.s) (no : Least (upP d e d.o) none) (k : Int) : Rd d e (atK d k) = atK d (k + 1) := by
  obtain ⟨j, j1, hj⟩ := step_in h he
  obtain ⟨t, t0, ht⟩ := far (k := k) j1 0
  obtain ⟨n, hn⟩ := Int.eq_ofNat_of_zero_le ht
  have h1 : ¬ NotUp d e (atK d (n : Int)) := no n
  have h2 := rd_up h he le h1
  rw [← hn, rd_at h he hj, show k + j * t + 1 = k + 1 + j * t by omega, atK_add d (k + 1)] at h2
  omega
theorem not_creep {d e : Sd} (h : SideP d.o d.s d.m) (he : SideP e.o e.s e.m) {k1 : Int} (no : Rd d e (atK d k1) ≤ atK d k1) (k0 : Int) : ∃ n, upP d e (atK d k0) n := by
  obtain ⟨j, j1, hj⟩ := step_in h he
  obtain ⟨t, t0, ht⟩ := far (k := k1) j1 k0
  refine ⟨(k1 + j * t - k0).toNat, ?_⟩
  unfold upP
  rw [← atK_add, Int.toNat_of_nonneg (by omega), show k0 + (k1 + j * t - k0) = k1 + j * t by omega, notup_iff h, rd_at h he hj, atK_add]
  omega
/-- it settles on the wide side -/
def SetW (d e : Sd) (v E : Int) (r : Nat) : Prop := ∃ c : Int, (c = d.s ∨ c = -d.s) ∧ E = v + c * (r : Int) ∧ (∀ i : Nat, i < r → Rd d e (v + c * (i : Int)) = v + c * (i : Int) + c) ∧ Rd d e E = E
theorem up_set {d e : Sd} (h : SideP d.o d.s d.m) (he : SideP e.o e.s e.m) (le : e.s ≤ d.s) {k : Int} {r : Nat} (nl : atK d k ≤ Rd d e (atK d k)) (L : Least (upP d e (atK d k)) (some r)) : SetW d e (atK d k) (atK d k + d.s * (r : Int)) r := by
  have st : ∀ i : Nat, i < r → Rd d e (atK d k + d.s * (i : Int)) = atK d k + d.s * (i : Int) + d.s := fun i hi => by
    have h1 := L.2 i hi
    unfold upP at h1
    rw [← atK_add] at h1 ⊢
    rw [rd_up h he le h1, atK_succ]
  refine ⟨d.s, .inl rfl, rfl, st, ?_⟩
  have h1 := L.1
  unfold upP at h1
  rw [← atK_add] at h1 ⊢
  have h2 := (notup_iff h _).mp h1
  have h3 : atK d (k + (r : Int)) ≤ Rd d e (atK d (k + (r : Int))) := by
    cases r with
    | zero =>
      rw [show k + ((0 : Nat) : Int) = k by omega]
      exact nl
    | succ n =>
      have h4 := st n (by omega)
      rw [← atK_add, ← atK_succ] at h4
      have h5 := rd_mono h he (show atK d (k + (n : Int)) ≤ atK d (k + ((n + 1 : Nat) : Int)) from (atK_le h).mpr (by omega))
      rw [h4] at h5
      rw [show k + ((n + 1 : Nat) : Int) = k + (n : Int) + 1 by omega] at h5 ⊢
      exact h5
  omega
theorem down_set {d e : Sd} (h : SideP d.o d.s d.m) (he : SideP e.o e.s e.m) (le : e.s ≤ d.s) {k : Int} {r : Nat} (nl : Rd d e (atK d k) ≤ atK d k) (L : Least (upP (mirS d) (mirS e) (-atK d k)) (some r)) : SetW d e (atK d k) (atK d k - d.s * (r : Int)) r := by
  have ea : -atK d k = atK (mirS d) (-k) := by rw [mirS_at, Int.neg_neg]
  rw [ea] at L
  have nl2 : atK (mirS d) (-k) ≤ Rd (mirS d) (mirS e) (atK (mirS d) (-k)) := by
    rw [← ea, mirS_Rd h he]
    omega
  obtain ⟨c, hc, eE, st, fx⟩ := up_set (mirS_side h) (mirS_side he) le nl2 L
  have c' : c = d.s ∨ c = -d.s := hc
  have eE2 : atK (mirS d) (-k) + (mirS d).s * (r : Int) = atK (mirS d) (-k) + c * (r : Int) := eE
  have ms : (mirS d).s = d.s := rfl
  rw [ms] at eE2 fx
  rw [← ea] at st fx eE2
  refine ⟨-c, by omega, ?_, fun i hi => ?_, ?_⟩
  · rw [Int.neg_mul]
    omega
  · have h1 := st i hi
    rw [show -atK d k + c * (i : Int) = -(atK d k + -c * (i : Int)) by rw [Int.neg_mul]; omega, mirS_Rd h he] at h1
    omega
  · rw [show -atK d k + d.s * (r : Int) = -(atK d k - d.s * (r : Int)) by omega, mirS_Rd h he] at fx
    omega
theorem setw_it {d e : Sd} {v E : Int} {r : Nat} {c : Int} (st : ∀ i : Nat, i < r → Rd d e (v + c * (i : Int)) = v + c * (i : Int) + c) : ∀ i : Nat, i ≤ r → it (Rd d e) i v = v + c * (i : Int)
  | 0, _ => by show v = _; simp
  | i + 1, h => by
    show Rd d e (it (Rd d e) i v) = _
    rw [setw_it (E := E) st i (by omega), st i (by omega), show ((i + 1 : Nat) : Int) = (i : Int) + 1 by omega, Int.mul_add, Int.mul_one]
    omega
theorem setw_stl {d e : Sd} (h : SideP d.o d.s d.m) {v E : Int} {r : Nat} (S : SetW d e v E r) : Stl (Rd d e) v E r := by
  obtain ⟨c, hc, eE, st, fx⟩ := S
  have s0 := h.s0
  have ei := setw_it (E := E) st
  refine ⟨by rw [ei r (Nat.le_refl _)]; exact eE.symm, fx, fun i hi => ?_⟩
  rw [ei i (by omega), ei (i + 1) (by omega), show ((i + 1 : Nat) : Int) = (i : Int) + 1 by omega, Int.mul_add, Int.mul_one]
  rcases hc with e1 | e1 <;> omega
/-- the narrow side is the first one -/
def fT (a b : Sd) (x : Int) : Int := dW a (dW b x)
def lastN (d e : Sd) (y w0 E : Int) : Int := if w0 < E then dW e (E - d.s) else if E < w0 then dW e (E + d.s) else y
theorem setn_stl {d e : Sd} (h : SideP d.o d.s d.m) {y E : Int} {r : Nat} (S : SetW d e (dW d y) E r) : Stl (fT e d) y (dW e E) (if lastN d e y (dW d y) E = dW e E then r else r + 1) := by
  obtain ⟨c, hc, eE, st, fx⟩ := S
  have s0 := h.s0
  have ei : ∀ i : Nat, i ≤ r → dW d (it (fT e d) i y) = dW d y + c * (i : Int) := by
    intro i
    induction i with
    | zero => intro _; show dW d y = _; simp
    | succ i ih =>
      intro hi
      show dW d (dW e (dW d (it (fT e d) i y))) = _
      rw [ih (by omega)]
      have := st i (by omega)
      unfold Rd at this
      rw [this, show ((i + 1 : Nat) : Int) = (i : Int) + 1 by omega, Int.mul_add, Int.mul_one]
      omega
  have e1 : it (fT e d) (r + 1) y = dW e E := by
    show dW e (dW d (it (fT e d) r y)) = _
    rw [ei r (Nat.le_refl _), ← eE]
  have fx2 : fT e d (dW e E) = dW e E := by
    show dW e (dW d (dW e E)) = _
    have : dW d (dW e E) = E := fx
    rw [this]
  have ne : ∀ i, i < r → it (fT e d) (i + 1) y ≠ it (fT e d) i y := by
    intro i hi z
    have h1 := ei i (by omega)
    have h2 := ei (i + 1) (by omega)
    rw [z, h1, show ((i + 1 : Nat) : Int) = (i : Int) + 1 by omega, Int.mul_add, Int.mul_one] at h2
    rcases hc with e1 | e1 <;> omega
  have el : it (fT e d) r y = lastN d e y (dW d y) E := by
    unfold lastN
    cases r with
    | zero =>
      have : E = dW d y := by rw [eE]; simp
      rw [if_neg (by omega), if_neg (by omega)]
      rfl
    | succ n =>
      have h1 : it (fT e d) (n + 1) y = dW e (dW d y + c * (n : Int)) := by
        show dW e (dW d (it (fT e d) n y)) = _
        rw [ei n (by omega)]
      have h2 : E = dW d y + c * (n : Int) + c := by
        rw [eE, show ((n + 1 : Nat) : Int) = (n : Int) + 1 by omega, Int.mul_add, Int.mul_one]
        omega
      rw [h1]
      rcases hc with e1 | e1
      · have p : 0 ≤ c * (n : Int) := Int.mul_nonneg (by omega) (by omega)
        rw [if_pos (by omega)]
        congr 1
        omega
      · have p : (-c) * (n : Int) ≥ 0 := Int.mul_nonneg (by omega) (by omega)
        rw [Int.neg_mul] at p
        rw [if_neg (by omega), if_pos (by omega)]
        congr 1
        omega
  by_cases z : lastN d e y (dW d y) E = dW e E
  · rw [if_pos z]
    exact ⟨el.trans z, fx2, ne⟩
  · rw [if_neg z]
    refine ⟨e1, fx2, fun i hi => ?_⟩
    by_cases y' : i < r
    · exact ne i y'
    · obtain rfl : i = r := by omega
      rw [e1, el]
      exact fun w => z w.symm
/-- a creeping value creeps from each side -/
theorem creep_crp {d e : Sd} (h : SideP d.o d.s d.m) {c : Int} (ch : (c = d.s ∧ ∀ k, Rd d e (atK d k) = atK d (k + 1)) ∨ (c = -d.s ∧ ∀ k, Rd d e (atK d k) = atK d (k - 1))) : c ≠ 0 ∧ ∀ k, Rd d e (atK d k) = atK d k + c := by
  have s0 := h.s0
  rcases ch with ⟨e1, st⟩ | ⟨e1, st⟩
  · exact ⟨by omega, fun k => by rw [st, atK_succ, e1]⟩
  · refine ⟨by omega, fun k => ?_⟩
    rw [st]
    have := atK_succ d (k - 1)
    rw [show k - 1 + 1 = k by omega] at this
    omega
theorem crp_wide {d e : Sd} (h : SideP d.o d.s d.m) {ss : List Sd} (hd : d ∈ ss) {c : Int} (ch : c ≠ 0 ∧ ∀ k, Rd d e (atK d k) = atK d k + c) (v : Int) : Crp (fT d e) (comN ss : Int) (dW d v) c := by
  obtain ⟨c0, st⟩ := ch
  refine ⟨c0, dW d, dW_per h hd, fun i => ?_⟩
  obtain ⟨k, hk⟩ := dW_is d v
  have ei : ∀ i : Nat, ∃ k', it (fT d e) i (dW d v) = atK d k' ∧ atK d k' = dW d v + c * (i : Int) := by
    intro i
    induction i with
    | zero => exact ⟨k, hk, by rw [← hk]; simp⟩
    | succ i ih =>
      obtain ⟨k', e1, e2⟩ := ih
      have h1 : it (fT d e) (i + 1) (dW d v) = Rd d e (atK d k') := by
        show fT d e (it (fT d e) i (dW d v)) = _
        rw [e1]
        rfl
      rw [h1]
      obtain ⟨k2, hk2⟩ := dW_is d (dW e (atK d k'))
      have hk3 : Rd d e (atK d k') = atK d k2 := hk2
      refine ⟨k2, hk3, ?_⟩
      rw [← hk3, st, e2, show ((i + 1 : Nat) : Int) = (i : Int) + 1 by omega, Int.mul_add, Int.mul_one]
      omega
  obtain ⟨k', e1, e2⟩ := ei i
  rw [e1, dW_at h, e2, hk, dW_at h]
theorem crp_narrow {d e : Sd} (h : SideP d.o d.s d.m) {ss : List Sd} (hd : d ∈ ss) {c : Int} (ch : c ≠ 0 ∧ ∀ k, Rd d e (atK d k) = atK d k + c) (y : Int) : Crp (fT e d) (comN ss : Int) y c := by
  obtain ⟨c0, st⟩ := ch
  refine ⟨c0, dW d, dW_per h hd, fun i => ?_⟩
  induction i with
  | zero => show dW d y = _; simp
  | succ i ih =>
    show dW d (dW e (dW d (it (fT e d) i y))) = _
    obtain ⟨k, hk⟩ := dW_is d (it (fT e d) i y)
    have h1 := st k
    unfold Rd at h1
    rw [hk, h1, ← hk, ih, show ((i + 1 : Nat) : Int) = (i : Int) + 1 by omega, Int.mul_add, Int.mul_one]
    omega
theorem creep_uniq {d e : Sd} (h : SideP d.o d.s d.m) {c c' : Int} (a : CreepP d e c) (b : CreepP d e c') : c = c' := by
  have s0 := h.s0
  have two : ∀ {c c' : Int}, CreepP d e c → CreepP d e c' → c ≠ c' → (c = d.s ∨ c = -d.s) → (c' = d.s ∨ c' = -d.s) → False := by
    intro c c' a b ne _ _
    rcases a with ⟨e1, st⟩ | ⟨e1, st⟩ | ⟨e1, _⟩ <;> rcases b with ⟨e2, st2⟩ | ⟨e2, st2⟩ | ⟨e2, _⟩ <;> try omega
    · have h1 := st 0
      rw [st2 0] at h1
      have := (atK_lt h (j := 0 - 1) (k := 0 + 1)).mpr (by omega)
      omega
    · have h1 := st 0
      rw [st2 0] at h1
      have := (atK_lt h (j := 0 - 1) (k := 0 + 1)).mpr (by omega)
      omega
  have zero : ∀ {c : Int}, CreepP d e c → (∃ k, Rd d e (atK d k) ≤ atK d k) → (∃ k, atK d k ≤ Rd d e (atK d k)) → c = 0 := by
    intro c a ⟨k1, h1⟩ ⟨k2, h2⟩
    rcases a with ⟨e1, st⟩ | ⟨e1, st⟩ | ⟨e1, _⟩
    · exfalso
      rw [st, atK_le h] at h1
      omega
    · exfalso
      rw [st, atK_le h] at h2
      omega
    · exact e1
  have a2 := a
  have b2 := b
  rcases a2 with ⟨e1, st⟩ | ⟨e1, st⟩ | ⟨e1, x, y⟩
  · rcases b2 with ⟨e2, st2⟩ | ⟨e2, st2⟩ | ⟨e2, x, y⟩
    · omega
    · by_cases z : c = c'
      · exact z
      · exact (two a b z (.inl e1) (.inr e2)).elim
    · rw [e2]; exact zero a x y
  · rcases b2 with ⟨e2, st2⟩ | ⟨e2, st2⟩ | ⟨e2, x, y⟩
    · by_cases z : c = c'
      · exact z
      · exact (two a b z (.inr e1) (.inl e2)).elim
    · omega
    · rw [e2]; exact zero a x y
  · rw [e1]; exact (zero b x y).symm
end HT
namespace HT
open PySem L2
theorem it_add (f : Int → Int) (x : Int) : ∀ n, it f n (f x) = it f (n + 1) x
  | 0 => rfl
  | n + 1 => by
    show f (it f n (f x)) = f (it f (n + 1) x)
    rw [it_add f x n]
/-- one hand-over ahead -/
theorem stl_cons {f : Int → Int} {h E : Int} {r : Nat} (ne : f h ≠ h) (s : Stl f (f h) E r) : Stl f h E (r + 1) := by
  obtain ⟨a, b, c⟩ := s
  refine ⟨by rw [← it_add]; exact a, b, fun i hi => ?_⟩
  cases i with
  | zero => exact ne
  | succ i =>
    have := c i (by omega)
    rw [it_add, it_add] at this
    exact this
theorem stl_fix {f : Int → Int} {h : Int} (e : f h = h) : Stl f h h 0 := ⟨rfl, e, fun i hi => absurd hi (Nat.not_lt_zero _)⟩
/-- the greatest writer of two, or the value -/
def hi2 (d e : Sd) (x : Int) : Int := max x (max (dW d x) (dW e x))
theorem hi2_comm (d e : Sd) (x : Int) : hi2 d e x = hi2 e d x := by
  unfold hi2
  rw [Int.max_comm (dW d x)]
theorem dW_dW {d : Sd} (h : SideP d.o d.s d.m) (x : Int) : dW d (dW d x) = dW d x := by
  obtain ⟨k, hk⟩ := dW_is d x
  rw [hk, dW_at h]
/-- a round that raises: first by the narrow one, then by the wide one -/
theorem hi_two {d e : Sd} (h : SideP d.o d.s d.m) (he : SideP e.o e.s e.m) (le : e.s ≤ d.s) {k : Int} (z : ¬ NotUp d e (atK d k)) : hi2 d e (atK d k) ≠ atK d k ∧ hi2 d e (hi2 d e (atK d k)) = atK d (k + 1) ∧ hi2 d e (hi2 d e (atK d k)) ≠ hi2 d e (atK d k) := by
  have r := rd_up h he le z
  have w0 := dW_at h k
  have bp := back_pos (o := d.o) (v := atK d k) h.md h.s0
  have ge : backM d.o d.s d.m (atK d k + d.s) ≤ dW e (atK d k) := by
    unfold NotUp at z
    omega
  have near := due_near (o := e.o) (v := atK d k) he.md he.s0
  have near' : dW e (atK d k) - atK d k < e.s := near.1
  have as := atK_succ d k
  have e1 : hi2 d e (atK d k) = dW e (atK d k) := by
    unfold hi2
    rw [w0]
    omega
  have r2 : dW d (dW e (atK d k)) = atK d (k + 1) := r
  have e2 : hi2 d e (dW e (atK d k)) = atK d (k + 1) := by
    unfold hi2
    rw [r2, dW_dW he]
    omega
  rw [e1, e2]
  exact ⟨by omega, rfl, by omega⟩
/-- behind the last round that raises -/
def lastE (d e : Sd) (z : Int) : Nat := if z < dW e z then 1 else 0
theorem hi_last {d e : Sd} (h : SideP d.o d.s d.m) (he : SideP e.o e.s e.m) {k : Int} (z : NotUp d e (atK d k)) : ∃ E, Stl (hi2 d e) (atK d k) E (lastE d e (atK d k)) := by
  have w0 := dW_at h k
  unfold lastE
  by_cases y : atK d k < dW e (atK d k)
  · rw [if_pos y]
    have e1 : hi2 d e (atK d k) = dW e (atK d k) := by
      unfold hi2
      rw [w0]
      omega
    have r := (notup_iff h k).mp z
    have r2 : dW d (dW e (atK d k)) ≤ atK d k := r
    have e2 : hi2 d e (dW e (atK d k)) = dW e (atK d k) := by
      have hh := dW_dW he (atK d k)
      unfold hi2
      rw [hh]
      omega
    refine ⟨dW e (atK d k), stl_cons (r := 0) (by rw [e1]; omega) ?_⟩
    rw [e1]
    exact stl_fix e2
  · rw [if_neg y]
    refine ⟨atK d k, stl_fix ?_⟩
    unfold hi2
    rw [w0]
    omega
theorem two_stl {d e : Sd} (h : SideP d.o d.s d.m) (he : SideP e.o e.s e.m) (le : e.s ≤ d.s) : ∀ (r : Nat) (k : Int), Least (upP d e (atK d k)) (some r) → ∃ E, Stl (hi2 d e) (atK d k) E (2 * r + lastE d e (atK d k + d.s * (r : Int)))
  | 0, k, L => by
    have h1 := L.1
    unfold upP at h1
    rw [← atK_add, show k + ((0 : Nat) : Int) = k by omega] at h1
    obtain ⟨E, s⟩ := hi_last h he h1
    refine ⟨E, ?_⟩
    rw [← atK_add, show k + ((0 : Nat) : Int) = k by omega, show 2 * 0 + lastE d e (atK d k) = lastE d e (atK d k) by omega]
    exact s
  | r + 1, k, L => by
    have z : ¬ NotUp d e (atK d k) := by
      have := L.2 0 (by omega)
      unfold upP at this
      rw [← atK_add, show k + ((0 : Nat) : Int) = k by omega] at this
      exact this
    have up : ∀ n : Nat, upP d e (atK d (k + 1)) n ↔ upP d e (atK d k) (n + 1) := fun n => by
      unfold upP
      rw [← atK_add, ← atK_add, show k + 1 + (n : Int) = k + ((n + 1 : Nat) : Int) by omega]
    have L2 : Least (upP d e (atK d (k + 1))) (some r) := ⟨(up r).mpr L.1, fun j hj c => L.2 (j + 1) (by omega) ((up j).mp c)⟩
    obtain ⟨E, s⟩ := two_stl h he le r (k + 1) L2
    obtain ⟨n1, e2, n2⟩ := hi_two h he le z
    refine ⟨E, ?_⟩
    rw [← atK_add, show k + ((r + 1 : Nat) : Int) = k + 1 + (r : Int) by omega, atK_add, show 2 * (r + 1) + lastE d e (atK d (k + 1) + d.s * (r : Int)) = (2 * r + lastE d e (atK d (k + 1) + d.s * (r : Int))) + 1 + 1 by omega]
    refine stl_cons n1 (stl_cons n2 ?_)
    rw [e2]
    exact s
end HT
namespace HT
open PySem L2
/-- the greatest writer of some, or the value -/
def hiL : List Sd → Int → Int
  | [], x => x
  | d :: ss, x => max (dW d x) (hiL ss x)
theorem hiL_hip : ∀ (ss : List Sd) (x : Int), HiP ss x (hiL ss x)
  | [], x => ⟨Int.le_refl _, fun d h => absurd h List.not_mem_nil, .inl rfl⟩
  | d :: ss, x => by
    obtain ⟨a, b, c⟩ := hiL_hip ss x
    have e : hiL (d :: ss) x = max (dW d x) (hiL ss x) := rfl
    refine ⟨by omega, fun y hy => ?_, ?_⟩
    · rcases List.mem_cons.mp hy with z | hy
      · rw [z]
        show dW d x ≤ _
        omega
      · have := b y hy
        omega
    · by_cases z : dW d x ≤ hiL ss x
      · rcases c with c | ⟨y, hy, c⟩
        · exact .inl (by omega)
        · exact .inr ⟨y, List.mem_cons_of_mem _ hy, by omega⟩
      · exact .inr ⟨d, List.mem_cons_self, by show _ = dW d x; omega⟩
theorem hip_le {ss : List Sd} {v h g : Int} (p : HiP ss v h) (q : HiP ss v g) : h ≤ g := by
  obtain ⟨a, b, c⟩ := p
  obtain ⟨a2, b2, c2⟩ := q
  rcases c with c | ⟨y, hy, c⟩
  · omega
  · have := b2 y hy
    omega
theorem hip_eq {ss : List Sd} {v h : Int} (p : HiP ss v h) : h = hiL ss v := Int.le_antisymm (hip_le p (hiL_hip ss v)) (hip_le (hiL_hip ss v) p)
theorem hiL_two (d e : Sd) : hiL [d, e] = hi2 d e := funext fun x => by
  show max (dW d x) (max (dW e x) x) = _
  unfold hi2
  omega
theorem hiL_ge (ss : List Sd) (x : Int) : x ≤ hiL ss x := (hiL_hip ss x).1
theorem hiL_mono {ss : List Sd} (hs : ∀ d ∈ ss, SideP d.o d.s d.m) {x y : Int} (z : x ≤ y) : hiL ss x ≤ hiL ss y := by
  obtain ⟨a, b, c⟩ := hiL_hip ss x
  obtain ⟨a2, b2, c2⟩ := hiL_hip ss y
  rcases c with c | ⟨d, hd, c⟩
  · omega
  · have e : dW d x ≤ dW d y := dW_le (hs d hd) z
    have f : dW d y ≤ hiL ss y := b2 d hd
    have g : hiL ss x = dW d x := c
    omega
theorem itL_le {ss : List Sd} (hs : ∀ d ∈ ss, SideP d.o d.s d.m) {X v : Int} (u : hiL ss X = X) (le : v ≤ X) : ∀ n, it (hiL ss) n v ≤ X
  | 0 => le
  | n + 1 => by
    have := hiL_mono hs (itL_le hs u le n)
    rw [u] at this
    exact this
theorem una_hi {ss : List Sd} {x : Int} : UnA ss x ↔ hiL ss x = x := by
  obtain ⟨a, b, c⟩ := hiL_hip ss x
  constructor
  · intro h
    rcases c with c | ⟨d, hd, c⟩
    · exact c
    · have := h d hd
      omega
  · intro h d hd
    have := b d hd
    omega
end HT
namespace HT
open PySem L2
theorem hiL_filter {ss : List Sd} (hs : ∀ d ∈ ss, SideP d.o d.s d.m) (x : Int) : hiL (ss.filter upD) x = hiL ss x := by
  obtain ⟨a, b, c⟩ := hiL_hip (ss.filter upD) x
  refine hip_eq ⟨a, fun d hd => ?_, ?_⟩
  · by_cases u : upD d = true
    · exact b d (List.mem_filter.mpr ⟨hd, u⟩)
    · have e : firstM d.s d.m = "down" := by
        unfold upD at u
        simpa using u
      have f := due_form (o := d.o) x (hs d hd).md (hs d hd).s0
      rw [e] at f
      rw [← f]
      exact Int.le_trans (down_le (hs d hd).s0) a
  · rcases c with c | ⟨d, hd, c⟩
    · exact .inl c
    · exact .inr ⟨d, (List.mem_filter.mp hd).1, c⟩
theorem hiL_filter' {ss : List Sd} (hs : ∀ d ∈ ss, SideP d.o d.s d.m) : hiL (ss.filter upD) = hiL ss := funext (hiL_filter hs)
theorem up_bd {ss : List Sd} (hs : ∀ d ∈ ss, SideP d.o d.s d.m) (l4 : ss.length ≤ 4) {v X : Int} (L : LeastI (UnA ss) v (some X)) : v ≤ X ∧ X < v + 2 ^ 420 := by
  obtain ⟨a, b, c⟩ := L
  refine ⟨a, ?_⟩
  by_cases z : X < v + 2 ^ 420
  · exact z
  · exfalso
    have cl := com_lt hs l4
    have cl2 : ((comN ss : Nat) : Int) < 2 ^ 420 := by exact_mod_cast cl
    have cp := com_pos ss 1 (by decide) hs
    have cp2 : 1 ≤ ((comN ss : Nat) : Int) := by
      show 1 ≤ ((ss.foldl (fun n d => n.lcm (perN d)) 1 : Nat) : Int)
      omega
    have u := (una_com hs X (-1)).mpr b
    exact c _ (by omega) (by omega) u
/-- the fewest hand-overs upwards, none where there is no end -/
def EndN (ss : List Sd) (v : Int) : Option Nat → Prop
  | none => LeastI (UnA ss) v none
  | some n => ∃ E, Stl (hiL ss) v E n ∧ LeastI (UnA ss) v (some E)
theorem stl_least {ss : List Sd} (hs : ∀ d ∈ ss, SideP d.o d.s d.m) {v E X : Int} {n : Nat} (s : Stl (hiL ss) v E n) (L : LeastI (UnA ss) v (some X)) : E = X := by
  obtain ⟨a, b, c⟩ := s
  obtain ⟨a2, b2, c2⟩ := L
  have le := itL_le hs (una_hi.mp b2) a2 n
  rw [a] at le
  by_cases z : E < X
  · refine absurd (una_hi.mpr b) (c2 E ?_ z)
    have key : ∀ m, v ≤ it (hiL ss) m v := fun m => by
      induction m with
      | zero => exact Int.le_refl _
      | succ m ih => exact Int.le_trans ih (hiL_ge ss _)
    rw [← a]
    exact key n
  · omega
end HT
namespace HT
open PySem L2
theorem hiL_com {ss : List Sd} (hs : ∀ d ∈ ss, SideP d.o d.s d.m) (x : Int) {c : Int} (hc : ((comN ss : Nat) : Int) ∣ c) : hiL ss (x + c) = hiL ss x + c := by
  have key : ∀ d ∈ ss, dueM d.o d.s d.m (x + c) = dueM d.o d.s d.m x + c := fun d hd =>
    due_dvd (hs d hd).md (hs d hd).s0 (Int.dvd_trans (per_com hd (hs d hd)) hc)
  obtain ⟨a, b, e⟩ := hiL_hip ss x
  refine (hip_eq ⟨by omega, fun d hd => ?_, ?_⟩).symm
  · rw [key d hd]
    have := b d hd
    omega
  · rcases e with e | ⟨d, hd, e⟩
    · exact .inl (by omega)
    · exact .inr ⟨d, hd, by rw [key d hd]; omega⟩
theorem itL_com {ss : List Sd} (hs : ∀ d ∈ ss, SideP d.o d.s d.m) (x : Int) {c : Int} (hc : ((comN ss : Nat) : Int) ∣ c) : ∀ n, it (hiL ss) n (x + c) = it (hiL ss) n x + c
  | 0 => rfl
  | n + 1 => by
    show hiL ss (it (hiL ss) n (x + c)) = hiL ss (it (hiL ss) n x) + c
    rw [itL_com hs x hc n, hiL_com hs _ hc]
theorem it_plus (f : Int → Int) (x : Int) (m : Nat) : ∀ n, it f (m + n) x = it f n (it f m x)
  | 0 => rfl
  | n + 1 => by
    show f (it f (m + n) x) = f (it f n (it f m x))
    rw [it_plus f x m n]
/-- behind a remainder that has come again all goes on alike -/
theorem it_again {ss : List Sd} (hs : ∀ d ∈ ss, SideP d.o d.s d.m) {v c : Int} {j p : Nat} (hc : ((comN ss : Nat) : Int) ∣ c) (e : it (hiL ss) (j + p) v = it (hiL ss) j v + c) (r : Nat) : ∀ k : Nat, it (hiL ss) (j + r + p * k) v = it (hiL ss) (j + r) v + (k : Int) * c
  | 0 => by
    show it (hiL ss) (j + r) v = _
    rw [show ((0 : Nat) : Int) * c = 0 from Int.zero_mul c]
    omega
  | k + 1 => by
    have ih := it_again hs hc e r k
    have e1 : j + r + p * (k + 1) = j + p + (r + p * k) := by rw [Nat.mul_add]; omega
    have e2 : j + r + p * k = j + (r + p * k) := by omega
    rw [e1, it_plus, e, itL_com hs _ hc, ← it_plus, ← e2, ih, Int.natCast_add, Int.add_mul]
    omega
theorem itL_bd {ss : List Sd} (hs : ∀ d ∈ ss, SideP d.o d.s d.m) (v : Int) : ∀ n : Nat, v ≤ it (hiL ss) n v ∧ it (hiL ss) n v ≤ v + 10 ^ 31 * (n : Int)
  | 0 => ⟨Int.le_refl _, by show v ≤ _; omega⟩
  | n + 1 => by
    obtain ⟨a, b⟩ := itL_bd hs v n
    have g := hiL_ge ss (it (hiL ss) n v)
    have h := hi_bd hs (hiL_hip ss (it (hiL ss) n v))
    have e : it (hiL ss) (n + 1) v = hiL ss (it (hiL ss) n v) := rfl
    omega
end HT
namespace HT
open PySem L2
def spWrL : Sp := fun vs H Q _ => ∃ (l : Addr) (xs : List V) (ss : List Sd) (v : Int), vs = [.ref l, .int v] ∧ SidesAt H l xs ss ∧ (-2 ^ 900 < v ∧ v < 2 ^ 900) ∧ ∀ (L : Addr) (H' : Hp), H L = none → Same H H' → H' L = some (.lst ((ss.map fun d => dueM d.o d.s d.m v).map V.int)) → Q (.ref L) H'
section
variable {P : Program} {w : World} {K : PySem.W.Frag} {mg : Str → Option Value} {base : Heap} {fB fH fI fJ fL fM fN : Addr} {dB dH dI dJ dL dM dN : FuncData}
theorem ok_wrl {f : Addr} {fd : FuncData} (F : Fun K "_law_written" "_law_written" s_L_written f fd) (Wr : Cal P w K mg base "_law_handed" 2 ["_law_side", "_law_value"] spDue fB dB) : FnOk P w K mg base CX0 3 f fd ["_law_sides", "_law_value"] spWrL := by
  refine F.ok sc_L_written (fun vs H Q E h => ?_) (fun cdv A outer s0 H vs Q E hr h => ?_)
  · obtain ⟨l, xs, ss, v, rfl, _⟩ := h
    rfl
  · obtain ⟨l, xs, ss, v, rfl, SS, hv, q⟩ := h
    have nd := sc_L_written.nd
    refine ⟨_, (pss_one (ps_ret (pe_lc (own := [("_law_one", 2)]) (g := gName 2) (tt := tYes) rfl nd (pi_list (pv 0)) (blkOk_by (N := ["_law_sides", "_law_value", "_law_one"]) (sc := defScope s_L_written) (by decide +kernel)) (fun _ _ _ _ _ => pg_name (i := 2) nd rfl (Or.inl rfl)) (fun _ _ _ _ _ => pts_nil) (fun _ _ _ _ _ => (pcl Wr hr (by decide) (by rfl) (pa_cons (pv 2) (pa_cons (pv 1) pa_nil))))))), ?_⟩
    walk_at "rd"
    refine ⟨⟨_, SqL.of SS.hl⟩, fun L nL => ?_⟩
    refine lc_list (K := K) (a := l) (xs := xs) (fun i H3 => H3 L = some (.lst (((ss.take i).map fun d => dueM d.o d.s d.m v).map V.int)) ∧ i ≤ ss.length ∧ Same H H3)
      ⟨upd_same, Nat.zero_le _, fun b u z => (upd_ne (ne_of_none z nL)).trans z⟩ (fun _ _ _ ⟨_, _, sm⟩ => SqL.of (sm _ _ SS.hl)) ?_ ?_
    · rintro i y H3 hy ⟨hD, li, sm⟩
      obtain ⟨d, p, ed, rfl, hp, sp⟩ := SS.item hy
      have il : i < ss.length := (List.getElem?_eq_some_iff.mp ed).1
      refine ⟨rfl, ?_⟩
      walk_at "rd"
      refine ⟨p, d.o, d.s, d.m, v, rfl, sm _ _ hp, sp, (by unfold Bd; omega), fun H4 s34 => ?_⟩
      have hD4 := s34 _ _ hD
      have es : (ss.take (i + 1)).map (fun d => dueM d.o d.s d.m v) = (ss.take i).map (fun d => dueM d.o d.s d.m v) ++ [dueM d.o d.s d.m v] := by
        rw [List.take_succ, ed, List.map_append]
        rfl
      walk_at "rd"
      refine ⟨_, hD4, ?_, ?_, il, fun b u y => (upd_ne (ne_of_none y nL)).trans (s34 _ _ (sm _ _ y))⟩
      · rw [List.length_map, List.length_map]
        exact Nat.lt_of_le_of_lt (Nat.le_trans (List.length_take_le' _ _) SS.l4) (by decide)
      · rw [es, List.map_append]
        exact upd_same
    · rintro H3 ⟨hD, li, sm⟩
      rw [SS.len, List.take_length] at hD
      walk_at "rd"
      exact q L H3 nL sm hD
end
end HT
namespace HT
open PySem L2
theorem goes_scale {m : Str} {s q r f : Int} (h : Mode m) (hf : 1 ≤ f) : goesUp m (s * f) q (r * f) = goesUp m s q r := by
  have key : ∀ a b : Int, a * f < b * f ↔ a < b := fun a b => Int.mul_lt_mul_right (by omega)
  have key2 : ∀ a b : Int, a * f ≤ b * f ↔ a ≤ b := fun a b => by
    rw [← Int.not_lt, key, Int.not_lt]
  have e0 : (0 : Int) < r * f ↔ 0 < r := by
    have := key 0 r
    rw [Int.zero_mul] at this
    exact this
  have e1 : s * f < 2 * (r * f) ↔ s < 2 * r := by
    have := key s (2 * r)
    rw [Int.mul_assoc] at this
    exact this
  have e2 : s * f ≤ 2 * (r * f) ↔ s ≤ 2 * r := by
    have := key2 s (2 * r)
    rw [Int.mul_assoc] at this
    exact this
  have e3 : 2 * (r * f) = s * f ↔ 2 * r = s := by
    rw [← Int.mul_assoc]
    exact Int.mul_eq_mul_right_iff (by omega)
  rcases h with e | e | e | e | e <;> subst e
  · rw [go_down, go_down]
  · rw [go_up, go_up]; exact decide_eq_decide.mpr e0
  · rw [go_hd, go_hd]; exact decide_eq_decide.mpr e1
  · rw [go_hu, go_hu]; exact decide_eq_decide.mpr e2
  · rw [go_he, go_he, decide_eq_decide.mpr e1, decide_eq_decide.mpr e3]
theorem due_scale {o s v f : Int} {m : Str} (h : Mode m) (hs : 1 ≤ s) (hf : 1 ≤ f) : dueM (o * f) (s * f) m (v * f) = dueM o s m v * f := by
  have F := fig_of (o := o) (m := m) (v := v) hs
  have sf : 1 ≤ s * f := Int.mul_pos (by omega) (by omega)
  obtain ⟨eq, r0, r1, wh⟩ := F
  generalize (v - o) / s = q at eq wh
  generalize (v - o) % s = r at eq r0 r1 wh
  have F2 : Fig (o * f) (s * f) m (v * f) q (r * f) (figM o s m v) := by
    refine ⟨?_, Int.mul_nonneg r0 (by omega), (Int.mul_lt_mul_right (by omega)).mpr r1, ?_⟩
    · rw [← Int.sub_mul, eq, Int.add_mul, Int.mul_assoc, Int.mul_assoc, Int.mul_comm q f]
    · rw [goes_scale h hf]; exact wh
  have e := fig_uniq sf F2
  unfold dueM
  rw [e, Int.add_mul, Int.mul_assoc, Int.mul_assoc, Int.mul_comm f]
def lift (f : Int) (d : Sd) : Sd := ⟨d.o * f, d.s * f, d.m⟩
theorem due_lift {d : Sd} (h : SideP d.o d.s d.m) {f : Int} (hf : 1 ≤ f) (v : Int) : dueM (lift f d).o (lift f d).s (lift f d).m (v * f) = dueM d.o d.s d.m v * f := due_scale h.md h.s0 hf
theorem mir_lift (f : Int) (ss : List Sd) : (ss.map (lift f)).map mirD = (ss.map mirD).map (lift f) := by
  rw [List.map_map, List.map_map]
  refine List.map_congr_left fun d _ => ?_
  show (⟨-(d.o * f), d.s * f, mir d.m⟩ : Sd) = ⟨-d.o * f, d.s * f, mir d.m⟩
  rw [Int.neg_mul]
theorem side_mirs {ss : List Sd} (hs : ∀ d ∈ ss, SideP d.o d.s d.m) : ∀ d ∈ ss.map mirD, SideP d.o d.s d.m := fun d hd => by
  obtain ⟨e, he, rfl⟩ := List.mem_map.mp hd
  exact side_mir (hs e he)
theorem max_mul {a b f : Int} (hf : 1 ≤ f) : max (a * f) (b * f) = max a b * f := by
  rcases Int.le_total a b with h | h
  · have := Int.mul_le_mul_of_nonneg_right h (show 0 ≤ f by omega)
    rw [Int.max_eq_right h, Int.max_eq_right this]
  · have := Int.mul_le_mul_of_nonneg_right h (show 0 ≤ f by omega)
    rw [Int.max_eq_left h, Int.max_eq_left this]
theorem hiL_lift {f : Int} (hf : 1 ≤ f) : ∀ {ss : List Sd}, (∀ d ∈ ss, SideP d.o d.s d.m) → ∀ x, hiL (ss.map (lift f)) (x * f) = hiL ss x * f
  | [], _, x => rfl
  | d :: ss, h, x => by
    have e1 : dW (lift f d) (x * f) = dW d x * f := due_lift (h d List.mem_cons_self) hf x
    have e2 := hiL_lift hf (fun y hy => h y (List.mem_cons_of_mem _ hy)) x (ss := ss)
    show max (dW (lift f d) (x * f)) (hiL (ss.map (lift f)) (x * f)) = max (dW d x) (hiL ss x) * f
    rw [e1, e2, max_mul hf]
theorem itL_lift {f : Int} (hf : 1 ≤ f) {ss : List Sd} (hs : ∀ d ∈ ss, SideP d.o d.s d.m) (x : Int) : ∀ n, it (hiL (ss.map (lift f))) n (x * f) = it (hiL ss) n x * f
  | 0 => rfl
  | n + 1 => by
    show hiL (ss.map (lift f)) (it (hiL (ss.map (lift f))) n (x * f)) = hiL ss (it (hiL ss) n x) * f
    rw [itL_lift hf hs x n, hiL_lift hf hs]
theorem mulf_inj {a b f : Int} (hf : 1 ≤ f) (e : a * f = b * f) : a = b := Int.eq_of_mul_eq_mul_right (by omega) e
theorem lift_one (ss : List Sd) : ss.map (lift 1) = ss := by
  have : lift 1 = id := funext fun d => by unfold lift; rw [Int.mul_one, Int.mul_one]; rfl
  rw [this, List.map_id]
theorem lift_bd {d : Sd} {f : Int} (sp : SideP d.o d.s d.m) (b : -30 ≤ d.o ∧ d.o ≤ 29 ∧ d.s ≤ 12) (h1 : 1 ≤ f) (h2 : f ≤ 10 ^ 27) : SideP (d.o * f) (d.s * f) d.m := by
  obtain ⟨o0, o1, s0, s1, md⟩ := sp
  obtain ⟨b1, b2, b3⟩ := b
  have x1 : (-30) * f ≤ d.o * f := Int.mul_le_mul_of_nonneg_right b1 (by omega)
  have x2 : d.o * f ≤ 29 * f := Int.mul_le_mul_of_nonneg_right b2 (by omega)
  have x3 : d.s * f ≤ 12 * f := Int.mul_le_mul_of_nonneg_right b3 (by omega)
  have x4 : 1 * f ≤ d.s * f := Int.mul_le_mul_of_nonneg_right s0 (by omega)
  refine ⟨?_, ?_, ?_, ?_, md⟩ <;> omega
theorem mulF {i f : Int} (hi : -10 ^ 300 ≤ i ∧ i ≤ 10 ^ 300) (h1 : 1 ≤ f) (h2 : f ≤ 10 ^ 27) : CMulW i f := by
  refine mulW ?_ ?_
  · have : (10 ^ 300 : Int) < 2 ^ 1010 := by decide +kernel
    omega
  · have : (10 ^ 27 : Int) < 2 ^ 1010 := by decide +kernel
    omega
end HT
namespace HT
open PySem L2
section
variable {P : Program} {w : World} {K : PySem.W.Frag} {mg : Str → Option Value} {base : Heap}
/-- both promises of a def -/
theorem or_ok {CX : CXT} {k : Nat} {f : Addr} {fd : FuncData} {ps : List Str} {sp sp' : Sp} (F : FnOk P w K mg base CX k f fd ps sp) (G : FnOk P w K mg base CX k f fd ps sp') : FnOk P w K mg base CX k f fd ps (fun vs H Q E => sp vs H Q E ∨ sp' vs H Q E) :=
  ⟨fun vs H Q E h => h.elim (F.len vs H Q E) (G.len vs H Q E), fun A outer s H args us vs Q E hr he hb hv hs => hs.elim (F.run A outer s H args us vs Q E hr he hb hv) (G.run A outer s H args us vs Q E hr he hb hv)⟩
end
end HT
namespace HT
open PySem L2
section
variable {P : Program} {w : World} {K : PySem.W.Frag} {mg : Str → Option Value} {base : Heap}
/-- a def that lets nothing out keeps its promise among errors too -/
theorem to_x {k : Nat} {f : Addr} {fd : FuncData} {ps : List Str} {sp : Sp} (F : FnOk P w K mg base CX0 k f fd ps sp) : FnOk P w K mg base (L2.CX P w) k f fd ps sp :=
  ⟨F.len, fun A outer s H args us vs Q E hr he hb hv hs => codeAny_mono (F.run A outer s H args us vs Q E hr he hb hv hs) fun r s' h => by
    unfold CR at h ⊢
    split at h
    · exact h
    · exact h
    · exact h.elim⟩
def spNo : Sp := fun _ _ _ _ => False
end
end HT
namespace HT
open PySem L2
/-- a thing of any kind, with its type's name -/
inductive Th (H : Hp) : V → String → Prop where
  | int (i : Int) : Th H (.int i) "int"
  | bl (b : Bool) : Th H (.bl b) "bool"
  | non : Th H .non "NoneType"
  | str (s : Str) : Th H (.str s) "str"
  | tup {p : Addr} {xs : List V} (h : H p = some (.tup xs)) : Th H (.ref p) "tuple"
  | lst {p : Addr} {xs : List V} (h : H p = some (.lst xs)) : Th H (.ref p) "list"
  | dk {p : Addr} {kvs : List (Key × V)} (h : H p = some (.dK kvs)) : Th H (.ref p) "dict"
theorem Th.ty {K : PySem.W.Frag} {H : Hp} {x : V} {n : String} (t : Th H x n) : TyX K H x (.type n) := by
  cases t with
  | int i => exact .base (.int i)
  | bl b => exact .base (.bl b)
  | non => exact .base .non
  | str s => exact .base (.str s)
  | tup h => exact .base (.tup h)
  | lst h => exact .base (.lst h)
  | dk h => exact .base (.dK h)
theorem Th.kint {K : PySem.W.Frag} {H : Hp} {x : V} {n : String} (t : Th H x n) : PySem.W.kitOne K (.type n) (.type "int") = some (n == "int" || n == "bool") := by
  cases t <;> exact kit_ty (by decide +kernel)
theorem Th.kbool {K : PySem.W.Frag} {H : Hp} {x : V} {n : String} (t : Th H x n) : PySem.W.kitOne K (.type n) (.type "bool") = some (n == "bool") := by
  cases t <;> exact kit_ty (by decide +kernel)
theorem Th.ktup {K : PySem.W.Frag} {H : Hp} {x : V} {n : String} (t : Th H x n) : PySem.W.kitOne K (.type n) (.type "tuple") = some (n == "tuple") := by
  cases t <;> exact kit_ty (by decide +kernel)
theorem Th.klst {K : PySem.W.Frag} {H : Hp} {x : V} {n : String} (t : Th H x n) : PySem.W.kitOne K (.type n) (.type "list") = some (n == "list") := by
  cases t <;> exact kit_ty (by decide +kernel)
theorem Th.same {H H' : Hp} {x : V} {n : String} (t : Th H x n) (s : Same H H') : Th H' x n := by
  cases t with
  | int i => exact .int i
  | bl b => exact .bl b
  | non => exact .non
  | str x => exact .str x
  | tup h => exact .tup (s _ _ h)
  | lst h => exact .lst (s _ _ h)
  | dk h => exact .dk (s _ _ h)
def isI (n : String) : Bool := n == "int"
def spIsAny : Sp := fun vs H Q _ => ∃ (x : V) (n : String), vs = [x] ∧ Th H x n ∧ Q (.bl (isI n)) H
/-- an int between the ends -/
def inB (x : V) (a b : Int) : Bool := match x with
  | .int i => decide (a ≤ i) && decide (i ≤ b)
  | _ => false
def spBetAny : Sp := fun vs H Q _ => ∃ (x : V) (n : String) (a b : Int), vs = [x, .int a, .int b] ∧ Th H x n ∧ Q (.bl (inB x a b)) H
/-- the names that the text of checks does not bind -/
structure ChkT (mg : Str → Option Value) : Prop where
  isi : mg "isinstance" = none
  int : mg "int" = none
  bool : mg "bool" = none
  tuple : mg "tuple" = none
  list : mg "list" = none
  len : mg "len" = none
section
variable {P : Program} {w : World} {K : PySem.W.Frag} {mg : Str → Option Value} {base : Heap} {fI : Addr} {dI : FuncData}
theorem ok_is_any {f : Addr} {fd : FuncData} (F : Fun K "is_int" "is_int" s_is_int f fd) (T : ChkT mg) : FnOk P w K mg base CX0 1 f fd ["thing"] spIsAny := by
  refine F.ok sc_is_int (fun vs H Q E h => ?_) (fun cdv A outer s H vs Q E hr h => ?_)
  · obtain ⟨x, n, rfl, _⟩ := h
    rfl
  · obtain ⟨x, n, rfl, t, q⟩ := h
    refine ⟨_, pss_one (ps_ret (pe_and (pe_callB call_isi (by rfl) T.isi (by decide +kernel) (pa_cons (pv 0) (pa_cons (pe_bltn (v := .ty "int") (by rfl) T.int (by decide +kernel) rfl) pa_nil)))
      (pe_one (pe_not (pe_callB call_isi (by rfl) T.isi (by decide +kernel) (pa_cons (pv 0) (pa_cons (pe_bltn (v := .ty "bool") (by rfl) T.bool (by decide +kernel) rfl) pa_nil))))))), ?_⟩
    walk_at "rd"
    refine ⟨_, _, _, _, _, rfl, .ty "int", t.ty, t.kint, ?_⟩
    walk_at "rd"
    refine ite2 (fun h => ?_) (fun h => ?_)
    · walk_at "rd"
      refine ⟨_, _, _, _, _, rfl, .ty "bool", t.ty, t.kbool, ?_⟩
      walk_at "rd"
      have e : (!(n == "bool")) = isI n := by
        cases t <;> first | rfl | exact absurd h (by decide)
      rw [e]
      exact q
    · have e : isI n = false := by
        cases t <;> first | rfl | exact absurd (by decide) h
      rw [e] at q
      exact q
theorem ok_bet_any {f : Addr} {fd : FuncData} (F : Fun K "is_int_between" "is_int_between" s_is_int_between f fd) (I : Cal P w K mg base "is_int" 1 ["thing"] spIsAny fI dI) : FnOk P w K mg base CX0 2 f fd ["thing", "least", "most"] spBetAny := by
  refine F.ok sc_is_int_between (fun vs H Q E h => ?_) (fun cdv A outer s H vs Q E hr h => ?_)
  · obtain ⟨x, n, a, b, rfl, _⟩ := h
    rfl
  · obtain ⟨x, n, a, b, rfl, t, q⟩ := h
    refine ⟨_, pss_one (ps_ret (pe_and (pcl I hr (by decide) (by rfl) (pa_cons (pv 0) pa_nil)) (pe_one (pe_chain op_le op_le (pv 1) (pv 0) (pv 2))))), ?_⟩
    walk_at "rd"
    refine ⟨x, n, rfl, t, ?_⟩
    cases t with
    | int i =>
      walk_at "rd"
      refine ite2 (fun h => ?_) (fun h => ?_)
      · walk_at "rd"
        change Q (.bl (decide (a ≤ i) && decide (i ≤ b))) H at q
        rw [decide_eq_true (of_decide_eq_true h)] at q
        exact q
      · change Q (.bl (decide (a ≤ i) && decide (i ≤ b))) H at q
        rw [decide_eq_false (of_decide_eq_false (by simpa using h))] at q
        exact q
    | _ => exact ⟨_, rfl, q⟩
end
end HT
namespace HT
open PySem L2
def modesD : List PyData := [.str "down", .str "up", .str "half_down", .str "half_up", .str "half_even"]
/-- a mode's place is taken by something else -/
def NoMode (d : PyData) : Prop := SeqAt.shaped d = true ∧ (modesD.any fun z => PyData.eqv z d) = false
/-- the four classes by number, and their base class at B -/
structure Er (K : PySem.W.Frag) (mg : Str → Option Value) (C : Nat → Addr) (B : Addr) : Prop where
  isi : mg "isinstance" = none
  ve : mg "ValueError" = none
  gB : mg "HandedError" = some (.ref B)
  g0 : mg "InvalidSide" = some (.ref (C 0))
  g1 : mg "InvalidSides" = some (.ref (C 1))
  g2 : mg "TooMany" = some (.ref (C 2))
  g3 : mg "InvalidValue" = some (.ref (C 3))
  kit : ∀ i j, i < 4 → j < 4 → PySem.W.kitOne K (.ref (C i)) (.ref (C j)) = some (decide (i = j))
  kitV : ∀ i, i < 4 → PySem.W.kitOne K (.ref (C i)) (.type "ValueError") = some true
  ec : ∀ i, i < 4 → ErrC K (C i)
  eg : ErrG K
  ex : ∀ i, i < 4 → PySem.W.excIn K (C i) [.type "ValueError", .type "Exception", .type "BaseException", .type "object"] "ValueError.__new__" = true
  kp : ∀ i, i < 4 → PySem.W.keepIn K (.ref (C i)) = true
  sb : ∀ i, i < 4 → PySem.W.subIn K (.ref (C i)) (.type "BaseException") = some true
  ty : ∀ i, i < 4 → PySem.W.typeIn K (.ref (C i)) = some (.type "type")
  emB : ∀ i, i < 4 → PySem.W.exmOne K (.ref (C i)) (.ref B) = some true
  em0 : PySem.W.exmOne K (.ref (C 0)) (.ref (C 0)) = some true
/-- flat data, and a list of one text -/
inductive Fl (H : Hp) : V → PyData → Prop where
  | non : Fl H .non .none
  | bl (b : Bool) : Fl H (.bl b) (.bool b)
  | int (i : Int) : Fl H (.int i) (.int i)
  | str (s : Str) : Fl H (.str s) (.str s)
  | one {l : Addr} {s : Str} (h : H l = some (.lst [.str s])) : Fl H (.ref l) (.list [.str s])
theorem Fl.dp {K : PySem.W.Frag} {H : Hp} {c : V} {d : PyData} (f : Fl H c d) : Dp K H c d := by
  cases f with
  | non => exact .non
  | bl b => exact .bl b
  | int i => exact .int i
  | str s => exact .str s
  | one h => exact .lst (SqL.of h) (.cons (.str _) .nil)
theorem Fl.same {H H' : Hp} {c : V} {d : PyData} (f : Fl H c d) (s : Same H H') : Fl H' c d := by
  cases f with
  | non => exact .non
  | bl b => exact .bl b
  | int i => exact .int i
  | str x => exact .str x
  | one h => exact .one (s _ _ h)
/-- no side -/
inductive BadS (K : PySem.W.Frag) (H : Hp) : V → Prop where
  | kind {x : V} {n : String} (t : Th H x n) (h : (n == "tuple") = false) : BadS K H x
  | len {p : Addr} {xs : List V} (hp : H p = some (.tup xs)) (h : ¬ xs.length = 3) : BadS K H (.ref p)
  | off {p : Addr} {a b c : V} {n : String} (hp : H p = some (.tup [a, b, c])) (t : Th H a n) (h : inB a (-10 ^ 40) (10 ^ 40) = false) : BadS K H (.ref p)
  | stp {p : Addr} {a b c : V} {n m : String} (hp : H p = some (.tup [a, b, c])) (t : Th H a n) (h : inB a (-10 ^ 40) (10 ^ 40) = true) (u : Th H b m) (g : inB b 1 (10 ^ 30) = false) : BadS K H (.ref p)
  | mod {p : Addr} {a b c : V} {n m : String} {d : PyData} (hp : H p = some (.tup [a, b, c])) (t : Th H a n) (h : inB a (-10 ^ 40) (10 ^ 40) = true) (u : Th H b m) (g : inB b 1 (10 ^ 30) = true) (dp : Fl H c d) (hd : NoMode d) : BadS K H (.ref p)
theorem BadS.same {K : PySem.W.Frag} {H H' : Hp} {x : V} (b : BadS K H x) (e : Same H H') : BadS K H' x := by
  cases b with
  | kind t h => exact .kind (t.same e) h
  | len hp h => exact .len (e _ _ hp) h
  | off hp t h => exact .off (e _ _ hp) (t.same e) h
  | stp hp t h u g => exact .stp (e _ _ hp) (t.same e) h (u.same e) g
  | mod hp t h u g dp hd => exact .mod (e _ _ hp) (t.same e) h (u.same e) g (dp.same e) hd
def GoodS (H : Hp) (x : V) : Prop := ∃ (p : Addr) (o s : Int) (m : Str), x = .ref p ∧ H p = some (sideV o s m) ∧ SideP o s m
def spValX (C : Nat → Addr) : Sp := fun vs H Q E => ∃ (x : V) (n : String), vs = [x] ∧ Th H x n ∧ (isI n = true → Q .non H) ∧ (isI n = false → E (.ref (C 3)) none H)
def spSideX (K : PySem.W.Frag) (C : Nat → Addr) : Sp := fun vs H Q E => ∃ x : V, vs = [x] ∧ ((GoodS H x ∧ Q .non H) ∨ (BadS K H x ∧ E (.ref (C 0)) none H))
def rNotInT (K : PySem.W.Frag) : R2 := fun x y H Q => ∃ d ds, Dp K H x d ∧ Dp K H y (.tuple ds) ∧ SeqAt.shaped d = true ∧ PyData.canLayAll0 ds = true ∧ PyData.depthAll ds ≤ 60 ∧ Q (.bl (!ds.any fun z => PyData.eqv z d)) H
theorem op_notInT {X : Cx} (hu : X.A.units + 64 < cLine) : OpR X (compareOp .NotIn) (rNotInT X.K) := by
  intro pins sh st H x y v u Q iv rx ry h
  obtain ⟨d, ds, hd, he, sd, se, sz, q⟩ := h
  obtain ⟨as, r1⟩ := Dp.reads iv d x v hd rx
  obtain ⟨bs, r2⟩ := Dp.reads iv (.tuple ds) y u he ry
  refine SeqAt.notIn_tuple_reads r2 r1 se (SeqAt.canLay_of_shaped sd) ?_ ⟨.bl _, H, iv, rfl, q⟩
  have : min (PyData.depthAll ds) d.depth ≤ PyData.depthAll ds := Nat.min_le_left _ _
  omega
/-- the table of modes -/
structure ModT (K : PySem.W.Frag) (mg : Str → Option Value) (aM : Addr) : Prop where
  gM : mg "MODES" = some (.ref aM)
  tM : ∀ H, SqT K H aM modesV
theorem dpModes {K : PySem.W.Frag} {H : Hp} {aM : Addr} (t : SqT K H aM modesV) : Dp K H (.ref aM) (.tuple modesD) := .tup t (.cons (.str _) (.cons (.str _) (.cons (.str _) (.cons (.str _) (.cons (.str _) .nil)))))
theorem mode_inX {m : Str} (h : Mode m) : SeqAt.shaped (.str m) = true ∧ (modesD.any fun z => PyData.eqv z (.str m)) = true := by
  rcases h with e | e | e | e | e <;> subst e <;> decide +kernel
section
variable {P : Program} {w : World} {K : PySem.W.Frag} {mg : Str → Option Value} {base : Heap} {aM fI fB fV fC fL fN fW B : Addr} {dI dB dV dC dL dN dW : FuncData} {C : Nat → Addr}
theorem ok_val_x {f : Addr} {fd : FuncData} (F : Fun K "check_value" "check_value" s_check_value f fd) (R : Er K mg C B) (I : Cal P w K mg base "is_int" 1 ["thing"] spIsAny fI dI) : FnOk P w K mg base (L2.CX P w) 2 f fd ["value"] (spValX C) := by
  refine F.okX sc_check_value (fun vs H Q E h => ?_) (fun cdv A outer s H vs Q E hr h => ?_)
  · obtain ⟨x, n, rfl, _⟩ := h
    rfl
  · obtain ⟨x, n, rfl, t, q1, q2⟩ := h
    refine ⟨_, pss_one (ps_if (pt_not (pt_val (pcl I hr (by decide) (by rfl) (pa_cons (pv 0) pa_nil)))) (pss_one (ps_raise rfl (takes_of rfl rfl rfl rfl) (pmk_own PySem.F.excBase_ValueError (R.ex 3 (by decide)) R.g3 (R.kp 3 (by decide)) (raises_own (R.sb 3 (by decide)) (R.ty 3 (by decide))) (by rfl)))) pss_nil), ?_⟩
    walk_at "rd"
    refine ⟨x, n, rfl, t, ?_⟩
    walk_at "rd"
    refine ite2 (fun h => ?_) (fun h => ?_)
    · exact q2 (by simpa using h)
    · exact q1 (not_f h)
end
end HT
namespace HT
open PySem L2
section
variable {P : Program} {w : World} {K : PySem.W.Frag} {mg : Str → Option Value} {base : Heap} {aM fI fB fV fC fL fN fW B : Addr} {dI dB dV dC dL dN dW : FuncData} {C : Nat → Addr}
theorem ok_side_x {f : Addr} {fd : FuncData} (F : Fun K "check_side" "check_side" s_check_side f fd) (T : ChkT mg) (M : ModT K mg aM) (R : Er K mg C B) (Bt : Cal P w K mg base "is_int_between" 2 ["thing", "least", "most"] spBetAny fB dB) : FnOk P w K mg base (L2.CX P w) 3 f fd ["side"] (spSideX K C) := by
  refine F.okAny sc_check_side (fun vs H Q E h => ?_) (fun cdv A outer s0 H vs Q E hr h => ?_)
  · obtain ⟨x, rfl, _⟩ := h
    rfl
  · obtain ⟨x, rfl, h⟩ := h
    have nd := sc_check_side.nd
    refine ⟨_, pss_cons (ps_if (PW.pt (pw_or (pt_not (pt_val (pe_callB call_isi (by rfl) T.isi (by decide +kernel) (pa_cons (pv 0) (pa_cons (pe_bltn (v := .ty "tuple") (by rfl) T.tuple (by decide +kernel) rfl) pa_nil)))))
        (pw_or1 (pt_cmpR op_ne (pe_callB call_len_seq (by rfl) T.len PySem.boot_len (pa_cons (pv 0) pa_nil)) pe_int (nomark _))))) (pss_one (ps_raise rfl (takes_of rfl rfl rfl rfl) (pmk_own PySem.F.excBase_ValueError (R.ex 0 (by decide)) R.g0 (R.kp 0 (by decide)) (raises_own (R.sb 0 (by decide)) (R.ty 0 (by decide))) (by rfl)))) pss_nil)
      (pss_cons (ps_asg (pv 0) (pg_tup (by rfl) (pgs_cons (pg_name (i := 1) nd rfl (Or.inl rfl)) (pgs_cons (pg_name (i := 2) nd rfl (Or.inl rfl)) (pgs_cons (pg_name (i := 3) nd rfl (Or.inl rfl)) pgs_nil)))))
      (pss_cons (ps_if (pt_not (pt_val (pcl Bt hr (by decide) (by rfl) (pa_cons (pv 1) (pa_cons (pe_un un_neg (pe_op op_pow pe_int pe_int)) (pa_cons (pe_op op_pow pe_int pe_int) pa_nil)))))) (pss_one (ps_raise rfl (takes_of rfl rfl rfl rfl) (pmk_own PySem.F.excBase_ValueError (R.ex 0 (by decide)) R.g0 (R.kp 0 (by decide)) (raises_own (R.sb 0 (by decide)) (R.ty 0 (by decide))) (by rfl)))) pss_nil)
      (pss_cons (ps_if (pt_not (pt_val (pcl Bt hr (by decide) (by rfl) (pa_cons (pv 2) (pa_cons pe_int (pa_cons (pe_op op_pow pe_int pe_int) pa_nil)))))) (pss_one (ps_raise rfl (takes_of rfl rfl rfl rfl) (pmk_own PySem.F.excBase_ValueError (R.ex 0 (by decide)) R.g0 (R.kp 0 (by decide)) (raises_own (R.sb 0 (by decide)) (R.ty 0 (by decide))) (by rfl)))) pss_nil)
      (pss_one (ps_if (pt_cmpR (op_notInT hr.units) (pv 3) (pe_glob (v := .ref aM) (by rfl) M.gM rfl) (by rfl)) (pss_one (ps_raise rfl (takes_of rfl rfl rfl rfl) (pmk_own PySem.F.excBase_ValueError (R.ex 0 (by decide)) R.g0 (R.kp 0 (by decide)) (raises_own (R.sb 0 (by decide)) (R.ty 0 (by decide))) (by rfl)))) pss_nil))))), ?_⟩
    walk_at "rd"
    rcases h with ⟨⟨p, o, s, m, rfl, hp, S⟩, q⟩ | ⟨bad, q⟩
    · refine ⟨_, _, _, _, _, rfl, .ty "tuple", .base (.tup hp), kit_ty (r := true) (by decide +kernel), ?_⟩
      walk_at "rd"
      refine ⟨p, _, rfl, .inr (SqT.of hp), rfl, ?_⟩
      walk_at "rd"
      refine ⟨p, _, rfl, SqT.of hp, rfl, _, _, rfl, _, _, rfl, _, _, rfl, rfl, ?_⟩
      walk_at "rd"
      refine ⟨⟨by decide, by decide, by decide⟩, ?_⟩
      walk_at "rd"
      refine ⟨⟨by decide, by decide, by decide⟩, _, _, _, _, rfl, .int o, ?_⟩
      have e1 : inB (.int o) (-(10 : Int) ^ (40 : Int).toNat) ((10 : Int) ^ (40 : Int).toNat) = true := by
        show (decide (-(10 : Int) ^ (40 : Int).toNat ≤ o) && decide (o ≤ (10 : Int) ^ (40 : Int).toNat)) = true
        rw [decide_eq_true (show -(10 : Int) ^ (40 : Int).toNat ≤ o from S.o0), decide_eq_true (show o ≤ (10 : Int) ^ (40 : Int).toNat from S.o1)]
        rfl
      refine ⟨_, rfl, ?_⟩
      refine ite2 (fun h => (not_t h e1).elim) (fun _ => ?_)
      walk_at "rd"
      refine ⟨⟨by decide, by decide, by decide⟩, _, _, _, _, rfl, .int s, ?_⟩
      have e2 : inB (.int s) 1 ((10 : Int) ^ (30 : Int).toNat) = true := by
        show (decide ((1 : Int) ≤ s) && decide (s ≤ (10 : Int) ^ (30 : Int).toNat)) = true
        rw [decide_eq_true S.s0, decide_eq_true (show s ≤ (10 : Int) ^ (30 : Int).toNat from S.s1)]
        rfl
      refine ⟨_, rfl, ?_⟩
      refine ite2 (fun h => (not_t h e2).elim) (fun _ => ?_)
      walk_at "rd"
      refine ⟨_, _, .str m, dpModes (M.tM H), (mode_inX S.md).1, by decide +kernel, by decide +kernel, ?_⟩
      walk_at "rd"
      refine ite2 (fun h => (not_t h (mode_inX S.md).2).elim) (fun _ => ?_)
      exact q
    · cases bad with
      | kind t h =>
        refine ⟨_, _, _, _, _, rfl, .ty "tuple", t.ty, t.ktup, ?_⟩
        walk_at "rd"
        refine ite2 (fun _ => ?_) (fun z => absurd (by rw [h]; rfl) z)
        exact q
      | len hp h =>
        refine ⟨_, _, _, _, _, rfl, .ty "tuple", .base (.tup hp), kit_ty (r := true) (by decide +kernel), ?_⟩
        walk_at "rd"
        refine ⟨_, _, rfl, .inr (SqT.of hp), ?_⟩
        walk_at "rd"
        refine ⟨rfl, ?_⟩
        walk_at "rd"
        refine ite2 (fun _ => q) (fun z => absurd ?_ z)
        rw [dec_int, decide_eq_false (fun y => h (by omega))]
        rfl
      | off hp t h =>
        refine ⟨_, _, _, _, _, rfl, .ty "tuple", .base (.tup hp), kit_ty (r := true) (by decide +kernel), ?_⟩
        walk_at "rd"
        refine ⟨_, _, rfl, .inr (SqT.of hp), rfl, ?_⟩
        walk_at "rd"
        refine ⟨_, _, rfl, SqT.of hp, rfl, _, _, rfl, _, _, rfl, _, _, rfl, rfl, ?_⟩
        walk_at "rd"
        refine ⟨⟨by decide, by decide, by decide⟩, ?_⟩
        walk_at "rd"
        refine ⟨⟨by decide, by decide, by decide⟩, _, _, _, _, rfl, t, ?_⟩
        refine ⟨_, rfl, ?_⟩
        exact ite2 (fun _ => q) (fun z => absurd (by rw [show inB _ (-(10 : Int) ^ (40 : Int).toNat) ((10 : Int) ^ (40 : Int).toNat) = false from h]; rfl) z)
      | stp hp t h u g =>
        refine ⟨_, _, _, _, _, rfl, .ty "tuple", .base (.tup hp), kit_ty (r := true) (by decide +kernel), ?_⟩
        walk_at "rd"
        refine ⟨_, _, rfl, .inr (SqT.of hp), rfl, ?_⟩
        walk_at "rd"
        refine ⟨_, _, rfl, SqT.of hp, rfl, _, _, rfl, _, _, rfl, _, _, rfl, rfl, ?_⟩
        walk_at "rd"
        refine ⟨⟨by decide, by decide, by decide⟩, ?_⟩
        walk_at "rd"
        refine ⟨⟨by decide, by decide, by decide⟩, _, _, _, _, rfl, t, ?_⟩
        refine ⟨_, rfl, ?_⟩
        refine ite2 (fun z => (not_t z (show inB _ (-(10 : Int) ^ (40 : Int).toNat) ((10 : Int) ^ (40 : Int).toNat) = true from h)).elim) (fun _ => ?_)
        walk_at "rd"
        refine ⟨⟨by decide, by decide, by decide⟩, _, _, _, _, rfl, u, ?_⟩
        refine ⟨_, rfl, ?_⟩
        exact ite2 (fun _ => q) (fun z => absurd (by rw [show inB _ 1 ((10 : Int) ^ (30 : Int).toNat) = false from g]; rfl) z)
      | mod hp t h u g dp hd =>
        refine ⟨_, _, _, _, _, rfl, .ty "tuple", .base (.tup hp), kit_ty (r := true) (by decide +kernel), ?_⟩
        walk_at "rd"
        refine ⟨_, _, rfl, .inr (SqT.of hp), rfl, ?_⟩
        walk_at "rd"
        refine ⟨_, _, rfl, SqT.of hp, rfl, _, _, rfl, _, _, rfl, _, _, rfl, rfl, ?_⟩
        walk_at "rd"
        refine ⟨⟨by decide, by decide, by decide⟩, ?_⟩
        walk_at "rd"
        refine ⟨⟨by decide, by decide, by decide⟩, _, _, _, _, rfl, t, ?_⟩
        refine ⟨_, rfl, ?_⟩
        refine ite2 (fun z => (not_t z (show inB _ (-(10 : Int) ^ (40 : Int).toNat) ((10 : Int) ^ (40 : Int).toNat) = true from h)).elim) (fun _ => ?_)
        walk_at "rd"
        refine ⟨⟨by decide, by decide, by decide⟩, _, _, _, _, rfl, u, ?_⟩
        refine ⟨_, rfl, ?_⟩
        refine ite2 (fun z => (not_t z (show inB _ 1 ((10 : Int) ^ (30 : Int).toNat) = true from g)).elim) (fun _ => ?_)
        walk_at "rd"
        refine ⟨_, _, dp.dp, dpModes (M.tM H), hd.1, by decide +kernel, by decide +kernel, ?_⟩
        walk_at "rd"
        refine ite2 (fun _ => q) (fun z => absurd (by rw [hd.2]; rfl) z)
end
end HT
namespace HT
open PySem L2
def GoodL (H : Hp) (l : Addr) (xs : List V) : Prop := H l = some (.lst xs) ∧ 1 ≤ xs.length ∧ xs.length ≤ 4 ∧ ∀ y ∈ xs, GoodS H y
/-- no list of sides -/
inductive BadL (K : PySem.W.Frag) (H : Hp) : V → Prop where
  | kind {x : V} {n : String} (t : Th H x n) (h : (n == "list") = false) : BadL K H x
  | len {l : Addr} {xs : List V} (hl : H l = some (.lst xs)) (h : ¬ (1 ≤ xs.length ∧ xs.length ≤ 4)) : BadL K H (.ref l)
  | item {l : Addr} {xs : List V} {i : Nat} {y : V} (hl : H l = some (.lst xs)) (h1 : 1 ≤ xs.length) (h2 : xs.length ≤ 4) (hi : xs[i]? = some y) (bad : BadS K H y) (good : ∀ j z, j < i → xs[j]? = some z → GoodS H z) : BadL K H (.ref l)
def spIsSideX (K : PySem.W.Frag) : Sp := fun vs H Q _ => ∃ x : V, vs = [x] ∧ ((GoodS H x ∧ Q (.bl true) H) ∨ (BadS K H x ∧ Q (.bl false) H))
def spSidesX (K : PySem.W.Frag) (C : Nat → Addr) : Sp := fun vs H Q E => ∃ x : V, vs = [x] ∧ ((∃ l xs, x = .ref l ∧ GoodL H l xs ∧ Q .non H) ∨ (BadL K H x ∧ E (.ref (C 1)) none H))
/-- the numbers of among's top -/
structure AmT (mg : Str → Option Value) : Prop where
  ms : ∃ t, mg "MOST_SIDES" = some (.int 4 t)
section
variable {P : Program} {w : World} {K : PySem.W.Frag} {mg : Str → Option Value} {base : Heap} {aM fI fB fV fC fL fN fW B : Addr} {dI dB dV dC dL dN dW : FuncData} {C : Nat → Addr}
theorem ok_is_side_x {f : Addr} {fd : FuncData} (F : Fun K "is_side" "is_side" s_is_side f fd) (R : Er K mg C B) (Ck : CalX P w K mg base "check_side" 3 ["side"] (spSideX K C) fC dC) : FnOk P w K mg base CX0 4 f fd ["thing"] (spIsSideX K) := by
  refine F.ok sc_is_side (fun vs H Q E h => ?_) (fun cdv A outer s0 H vs Q E hr h => ?_)
  · obtain ⟨x, rfl, _⟩ := h
    rfl
  · obtain ⟨x, rfl, h⟩ := h
    refine ⟨_, pss_cons (ps_try_only rfl rfl ⟨rfl, by decide, .inl R.g0⟩ takes0 (fun W pn xe tk _ => pss_one (ps_expr (pcx Ck hr (by decide) (by rfl) tk (pa_cons (pv 0) pa_nil)))) (fun a oe cls d pn _ _ => pss_one (ps_ret pe_bl))) (pss_one (ps_ret pe_bl)), ?_⟩
    walk_at "rd"
    rcases h with ⟨good, q⟩ | ⟨bad, q⟩
    · refine .inl ⟨good, ?_⟩
      walk_at "rd"
      exact q
    · refine .inr ⟨bad, ?_⟩
      exact ⟨true, R.em0, fun _ a ha => q, fun z => Bool.noConfusion z⟩
theorem ok_sides_x {f : Addr} {fd : FuncData} (F : Fun K "check_sides" "check_sides" s_check_sides f fd) (T : ChkT mg) (A' : AmT mg) (R : Er K mg C B) (Ck : Cal P w K mg base "is_side" 4 ["thing"] (spIsSideX K) fC dC) : FnOk P w K mg base (L2.CX P w) 5 f fd ["sides"] (spSidesX K C) := by
  refine F.okAny sc_check_sides (fun vs H Q E h => ?_) (fun cdv A outer s0 H vs Q E hr h => ?_)
  · obtain ⟨x, rfl, _⟩ := h
    rfl
  · obtain ⟨x, rfl, h⟩ := h
    have nd := sc_check_sides.nd
    obtain ⟨tms, hms⟩ := A'.ms
    refine ⟨_, pss_cons (ps_if (PW.pt (pw_or (pt_not (pt_val (pe_callB call_isi (by rfl) T.isi (by decide +kernel) (pa_cons (pv 0) (pa_cons (pe_bltn (v := .ty "list") (by rfl) T.list (by decide +kernel) rfl) pa_nil)))))
        (pw_or1 (pt_not (pt_chain op_le op_le pe_int (pe_callB call_len_seq (by rfl) T.len PySem.boot_len (pa_cons (pv 0) pa_nil)) (pe_glob (v := .int 4) (by rfl) hms ⟨_, rfl⟩)))))) (pss_one (ps_raise rfl (takes_of rfl rfl rfl rfl) (pmk_own PySem.F.excBase_ValueError (R.ex 1 (by decide)) R.g1 (R.kp 1 (by decide)) (raises_own (R.sb 1 (by decide)) (R.ty 1 (by decide))) (by rfl)))) pss_nil)
      (pss_one (ps_for (passes_of rfl) rfl (pi_list (pv 0)) (pg_name (i := 1) nd rfl (Or.inl rfl))
        (pss_one (ps_if (pt_not (pt_val (pcl Ck hr (by decide) (by rfl) (pa_cons (pv 1) pa_nil)))) (pss_one (ps_raise rfl (takes_of rfl rfl rfl rfl) (pmk_own PySem.F.excBase_ValueError (R.ex 1 (by decide)) R.g1 (R.kp 1 (by decide)) (raises_own (R.sb 1 (by decide)) (R.ty 1 (by decide))) (by rfl)))) pss_nil)))), ?_⟩
    walk_at "rd"
    rcases h with ⟨l, xs, rfl, ⟨hl, l1, l4, good⟩, q⟩ | ⟨bad, q⟩
    · refine ⟨_, _, _, _, _, rfl, .ty "list", .base (.lst hl), kit_ty (r := true) (by decide +kernel), ?_⟩
      walk_at "rd"
      refine ⟨l, _, rfl, .inl (SqL.of hl), ?_⟩
      walk_at "rd"
      refine ite2 (fun _ => ?_) (fun z => absurd (decide_eq_true (by omega)) z)
      walk_at "rd"
      refine ite2 (fun z => ?_) (fun _ => ?_)
      · exfalso
        have e : decide ((xs.length : Int) ≤ 4) = true := decide_eq_true (by omega)
        exact not_t z e
      walk_at "rd"
      refine ⟨⟨_, SqL.of hl⟩, ?_⟩
      refine for_list (K := K) (a := l) (xs := xs) (fun i σ H' => ∃ y : Option V, σ = [some (.ref l), y] ∧ H' = H) ⟨none, rfl, rfl⟩ (fun _ _ _ _ ⟨_, _, e⟩ => e ▸ SqL.of hl) ?_ ?_
      · rintro i y σ H' hy ⟨z, rfl, rfl⟩
        walk_at "rd"
        refine .inl ⟨good y (List.mem_of_getElem? hy), _, rfl, ?_⟩
        refine ite2 (fun z => (not_t z rfl).elim) (fun _ => ?_)
        exact ⟨_, rfl, rfl⟩
      · rintro σ H' ⟨z, rfl, rfl⟩
        exact q
    · cases bad with
      | kind t h =>
        refine ⟨_, _, _, _, _, rfl, .ty "list", t.ty, t.klst, ?_⟩
        walk_at "rd"
        refine ite2 (fun _ => ?_) (fun z => absurd (by rw [h]; rfl) z)
        exact q
      | @len l xs hl h =>
        refine ⟨_, _, _, _, _, rfl, .ty "list", .base (.lst hl), kit_ty (r := true) (by decide +kernel), ?_⟩
        walk_at "rd"
        refine ⟨l, _, rfl, .inl (SqL.of hl), ?_⟩
        walk_at "rd"
        refine ite2 (fun z1 => ?_) (fun z1 => ?_)
        · have z1' := of_decide_eq_true z1
          walk_at "rd"
          refine ite2 (fun _ => q) (fun z => absurd ?_ z)
          have e : decide ((xs.length : Int) ≤ 4) = false := decide_eq_false (by omega)
          rw [e]
          rfl
        · walk_at "rd"
          exact q
      | @item l xs i0 y0 hl l1 l4 hi bad good =>
        refine ⟨_, _, _, _, _, rfl, .ty "list", .base (.lst hl), kit_ty (r := true) (by decide +kernel), ?_⟩
        walk_at "rd"
        refine ⟨l, _, rfl, .inl (SqL.of hl), ?_⟩
        walk_at "rd"
        refine ite2 (fun _ => ?_) (fun z => absurd (decide_eq_true (by omega)) z)
        walk_at "rd"
        refine ite2 (fun z => ?_) (fun _ => ?_)
        · exfalso
          have e : decide ((xs.length : Int) ≤ 4) = true := decide_eq_true (by omega)
          exact not_t z e
        walk_at "rd"
        refine ⟨⟨_, SqL.of hl⟩, ?_⟩
        have i0l : i0 < xs.length := (List.getElem?_eq_some_iff.mp hi).1
        refine for_list (K := K) (a := l) (xs := xs) (fun i σ H' => ∃ y : Option V, σ = [some (.ref l), y] ∧ H' = H ∧ i ≤ i0) ⟨none, rfl, rfl, Nat.zero_le _⟩ (fun _ _ _ _ ⟨_, _, e, _⟩ => e ▸ SqL.of hl) ?_ ?_
        · rintro i y σ H' hy ⟨z, rfl, rfl, le⟩
          walk_at "rd"
          rcases Nat.lt_or_eq_of_le le with lt | eq
          · refine .inl ⟨good i y lt hy, _, rfl, ?_⟩
            refine ite2 (fun z => (not_t z rfl).elim) (fun _ => ?_)
            exact ⟨_, rfl, rfl, lt⟩
          · subst eq
            have ey : y = y0 := by rw [hi] at hy; exact (Option.some.inj hy).symm
            subst ey
            refine .inr ⟨bad, _, rfl, ?_⟩
            refine ite2 (fun _ => ?_) (fun z => absurd rfl z)
            exact q
        · rintro σ H' ⟨z, rfl, rfl, le⟩
          omega
end
end HT
namespace HT
open PySem L2
def sdD (d : Sd) : PyData := .tuple [.int d.o, .int d.s, .str d.m]
theorem modes_ok {m : Str} (h : Mode m) : PyData.strOk m = true := by
  rcases h with e | e | e | e | e <;> subst e <;> decide +kernel
theorem can_sides : ∀ {ss : List Sd}, (∀ d ∈ ss, Mode d.m) → PyData.canLayAll0 (ss.map sdD) = true ∧ PyData.depthAll (ss.map sdD) ≤ 2
  | [], _ => ⟨rfl, Nat.zero_le _⟩
  | u :: us, h => by
    obtain ⟨a, b⟩ := can_sides fun d hd => h d (List.mem_cons_of_mem _ hd)
    have c := modes_ok (h u List.mem_cons_self)
    refine ⟨?_, ?_⟩
    · simp [PyData.canLayAll0, sdD, PyData.canLay0, c, a]
    · show max (PyData.depth (sdD u)) (PyData.depthAll (us.map sdD)) ≤ 2
      refine Nat.max_le.mpr ⟨?_, b⟩
      show PyData.depth (.tuple [.int _, .int _, .str _]) ≤ 2
      simp [PyData.depth, PyData.depthAll]
theorem shaped_sides {ss : List Sd} (h : ∀ d ∈ ss, Mode d.m) : SeqAt.shaped (.list (ss.map sdD)) = true := by
  obtain ⟨a, b⟩ := can_sides h
  unfold SeqAt.shaped
  rw [Bool.and_eq_true]
  refine ⟨a, decide_eq_true ?_⟩
  show PyData.depthAll (ss.map sdD) + 1 ≤ 64
  omega
theorem sidesDp {K : PySem.W.Frag} {H : Hp} : ∀ {xs : List V} {ss : List Sd}, xs.length = ss.length → (∀ (i : Nat) (d : Sd), ss[i]? = some d → ∃ p : Addr, xs[i]? = some (V.ref p) ∧ H p = some (sideV d.o d.s d.m) ∧ SideP d.o d.s d.m) → DpAll K H xs (ss.map sdD)
  | [], [], _, _ => .nil
  | [], _ :: _, l, _ => nomatch l
  | _ :: _, [], l, _ => nomatch l
  | x :: xs, d :: ss, l, S => by
    obtain ⟨p, e, hp, _⟩ := S 0 d rfl
    cases e
    exact .cons (.tup (SqT.of hp) (.cons (.int _) (.cons (.int _) (.cons (.str _) .nil)))) (sidesDp (Nat.succ.inj l) fun i e h => S (i + 1) e h)
theorem SidesAt.dp {K : PySem.W.Frag} {H : Hp} {l : Addr} {xs : List V} {ss : List Sd} (S : SidesAt H l xs ss) : Dp K H (.ref l) (.list (ss.map sdD)) := .lst (SqL.of S.hl) (sidesDp S.len S.at_)
end HT
namespace HT
open PySem L2
structure LimG (mg : Str → Option Value) : Prop where
  dm : mg "divmod" = none
  mn : ∃ t, mg "MOST_NUMBER" = some (.int (10 ^ 40) t)
  mr : ∃ t, mg "MOST_ROWS" = some (.int 10000 t)
def spCont : Sp := fun vs H Q _ => ∃ (l : Addr) (ys : List Int) (fo : Int) (n : Nat), vs = [.ref l, .int fo, .int (n : Int)] ∧ H l = some (.lst (ys.map V.int)) ∧ 0 < ys.length ∧ n ≤ 10 ^ 41 ∧ ys.length ≤ 100000 ∧ (-2 ^ 800 < fo ∧ fo < 2 ^ 800) ∧ (-2 ^ 800 < ys.getD 0 0 ∧ ys.getD 0 0 < 2 ^ 800) ∧
  ∀ H', Same H H' → Q (.int (ys.getD (n % ys.length) 0 + ((n / ys.length : Nat) : Int) * (fo - ys.getD 0 0))) H'
section
variable {P : Program} {w : World} {K : PySem.W.Frag} {mg : Str → Option Value} {base : Heap} {fB fH fI fJ fL fM : Addr} {dB dH dI dJ dL dM : FuncData}
theorem ok_cont {f : Addr} {fd : FuncData} (F : Fun K "_continued" "_continued" s_continued f fd) (A' : AmG mg) (G : LimG mg) : FnOk P w K mg base CX0 1 f fd ["values", "following", "many"] spCont := by
  refine F.ok sc_continued (fun vs H Q E h => ?_) (fun cdv A outer s0 H vs Q E hr h => ?_)
  · obtain ⟨l, ys, fo, n, rfl, _⟩ := h
    rfl
  · obtain ⟨l, ys, fo, n, rfl, hl, y0, n1, y1, fb, vb, q⟩ := h
    have nd := sc_continued.nd
    refine ⟨_, pss_cons (ps_asg (pe_callB call_divmod (by rfl) G.dm (by decide +kernel) (pa_cons (pv 2) (pa_cons (pe_callB call_len_seq (by rfl) A'.len PySem.boot_len (pa_cons (pv 0) pa_nil)) pa_nil))) (pg_tup (by rfl) (pgs_cons (pg_name (i := 3) nd rfl (Or.inl rfl)) (pgs_cons (pg_name (i := 4) nd rfl (Or.inl rfl)) pgs_nil))))
      (pss_one (ps_ret (pe_op op_add (pe_ix ix_list (pv 0) (pv 4) (fun _ _ => rfl)) (pe_op op_mulW (pv 3) (pe_op op_sub (pv 1) (pe_ix ix_list (pv 0) pe_int (fun _ _ => rfl))))))), ?_⟩
    walk_at "rd"
    refine ⟨l, _, rfl, .inl (SqL.of hl), ?_⟩
    rw [List.length_map]
    refine ⟨_, _, rfl, ⟨by omega, by omega⟩, fun T nT => ?_⟩
    rw [← Int.natCast_ediv, ← Int.natCast_emod]
    generalize e_T : upd H T _ = H1
    have hT : H1 T = some (.tup [.int ((n / ys.length : Nat) : Int), .int ((n % ys.length : Nat) : Int)]) := by rw [← e_T]; exact upd_same
    have s1 : Same H H1 := by rw [← e_T]; exact fun b u z => (upd_ne (ne_of_none z nT)).trans z
    clear e_T
    have ml := Nat.mod_lt n y0
    have dl := Nat.div_le_self n ys.length
    generalize n / ys.length = k at q hT dl
    generalize n % ys.length = r at q hT ml
    walk_at "rd"
    refine ⟨T, _, rfl, SqT.of hT, rfl, _, _, rfl, _, _, rfl, rfl, ?_⟩
    walk_at "rd"
    refine ⟨l, _, _, _, rfl, rfl, SqL.of (s1 _ _ hl), atI_in (by omega) (by omega), ?_⟩
    walk_at "rd"
    refine ⟨l, _, _, _, rfl, rfl, SqL.of (s1 _ _ hl), atI_in (by decide) (by omega), ?_⟩
    walk_at "rd"
    refine ⟨mulW (by omega) (by show _ < fo - ys.getD 0 0 ∧ fo - ys.getD 0 0 < _; omega), ?_⟩
    walk_at "rd"
    exact q _ s1
end
end HT
namespace HT
open PySem L2
theorem lt1 {n c : Nat} (h : n + 64 < c) : n + 1 < c := by omega
/-- the first values of a walk -/
def valsI (ss : List Sd) (v : Int) (i : Nat) : List Int := (List.range (i + 1)).map fun k => it (hiL ss) k v
theorem valsI_len (ss : List Sd) (v : Int) (i : Nat) : (valsI ss v i).length = i + 1 := by unfold valsI; rw [List.length_map, List.length_range]
theorem valsI_succ (ss : List Sd) (v : Int) (i : Nat) : valsI ss v (i + 1) = valsI ss v i ++ [it (hiL ss) (i + 1) v] := by
  unfold valsI
  rw [List.range_succ (n := i + 1), List.map_append]
  rfl
theorem valsI_get {ss : List Sd} {v : Int} {i j r : Nat} (h : j + r ≤ i) : ((valsI ss v i).drop j).getD r 0 = it (hiL ss) (j + r) v := by
  unfold valsI
  rw [List.getD_eq_getElem?_getD, List.getElem?_drop, List.getElem?_map, List.getElem?_range (by omega)]
  rfl
theorem cutV_drop (xs : List V) {j : Nat} (h : j ≤ xs.length) : cutV xs (some (j : Int)) none = xs.drop j := by
  unfold cutV
  rw [HT.sIx_nat, HT.sIx_none, Nat.min_eq_left h]
  exact List.take_of_length_le (by rw [List.length_drop]; exact Nat.le_refl _)
/-- a remainder comes again within 10,000 hand-overs -/
def Rec (ss : List Sd) (v : Int) : Prop := ∃ i j : Nat, i < j ∧ j ≤ 10000 ∧ it (hiL ss) i v % ((comN ss : Nat) : Int) = it (hiL ss) j v % ((comN ss : Nat) : Int)
/-- the numbers at which remainders came first; none has come again -/
def NumsP (ss : List Sd) (v : Int) (i : Nat) (kvs : List (Key × V)) : Prop := kvs.length ≤ i + 1 ∧ (∀ (p : Int) (y : V), valV kvs (.inl p) = some y → ∃ j : Nat, y = .int (j : Int) ∧ j ≤ i ∧ it (hiL ss) j v % ((comN ss : Nat) : Int) = p) ∧
  (∀ j : Nat, j ≤ i → (valV kvs (.inl (it (hiL ss) j v % ((comN ss : Nat) : Int)))).isSome = true) ∧ ∀ a b : Nat, a < b → b ≤ i → it (hiL ss) a v % ((comN ss : Nat) : Int) ≠ it (hiL ss) b v % ((comN ss : Nat) : Int)
theorem numsP_put {ss : List Sd} {v : Int} {i : Nat} {kvs : List (Key × V)} (N : NumsP ss v i kvs) (new : ¬ (valV kvs (.inl (it (hiL ss) (i + 1) v % ((comN ss : Nat) : Int)))).isSome = true) : NumsP ss v (i + 1) (putK kvs (.inl (it (hiL ss) (i + 1) v % ((comN ss : Nat) : Int))) (.int ((i + 1 : Nat) : Int))) := by
  refine ⟨Nat.le_trans (length_putK _ _ _) (by have := N.1; omega), fun p y h => ?_, fun j hj => ?_, fun a b ab hb => ?_⟩
  · rw [valV_put] at h
    split at h
    · rename_i e
      cases h
      refine ⟨i + 1, rfl, Nat.le_refl _, ?_⟩
      injection e with e
      exact e.symm
    · obtain ⟨j, a, b, c⟩ := N.2.1 p y h
      exact ⟨j, a, by omega, c⟩
  · rw [valV_put]
    split
    · rfl
    · rename_i ne
      by_cases e : j = i + 1
      · subst e
        exact absurd rfl ne
      · exact N.2.2.1 j (by omega)
  · by_cases e : b = i + 1
    · subst e
      intro z
      exact new (z ▸ N.2.2.1 a (by omega))
    · exact N.2.2.2 a b ab (by omega)
/-- what the walk tells where a remainder has come again -/
theorem walk_end {ss : List Sd} (hs : ∀ d ∈ ss, SideP d.o d.s d.m) {v : Int} {i j n : Nat} (ji : j ≤ i) (ni : i < n) (e : it (hiL ss) j v % ((comN ss : Nat) : Int) = it (hiL ss) (i + 1) v % ((comN ss : Nat) : Int)) :
    ((valsI ss v i).drop j).getD ((n - j) % (i + 1 - j)) 0 + (((n - j) / (i + 1 - j) : Nat) : Int) * (it (hiL ss) (i + 1) v - ((valsI ss v i).drop j).getD 0 0) = it (hiL ss) n v := by
  have ml := Nat.mod_lt (n - j) (show 0 < i + 1 - j by omega)
  have dm := Nat.mod_add_div (n - j) (i + 1 - j)
  rw [valsI_get (by omega), valsI_get (by omega)]
  have hc : ((comN ss : Nat) : Int) ∣ it (hiL ss) (i + 1) v - it (hiL ss) j v := Int.dvd_of_emod_eq_zero (Int.emod_eq_emod_iff_emod_sub_eq_zero.mp e.symm)
  have g := it_again hs (v := v) (j := j) (p := i + 1 - j) hc (by rw [show j + (i + 1 - j) = i + 1 by omega]; omega) ((n - j) % (i + 1 - j)) ((n - j) / (i + 1 - j))
  rw [show j + (n - j) % (i + 1 - j) + (i + 1 - j) * ((n - j) / (i + 1 - j)) = n by omega] at g
  rw [g]
  rfl
def spHWX (C : Nat → Addr) : Sp := fun vs H Q E => ∃ (l : Addr) (xs : List V) (ss : List Sd) (v : Int) (n : Nat), vs = [.ref l, .int v, .int (n : Int)] ∧ SidL H l xs ss ∧ (-2 ^ 590 < v ∧ v < 2 ^ 590) ∧ n ≤ 10 ^ 40 ∧
  ((n ≤ 10000 ∨ Rec ss v) → ∀ H', Same H H' → Q (.int (it (hiL ss) n v)) H') ∧ (10000 < n → ¬ Rec ss v → ∀ H', Same H H' → E (.ref (C 2)) none H')
section
variable {P : Program} {w : World} {K : PySem.W.Frag} {mg : Str → Option Value} {base : Heap} {fB fH fI fJ fL fM B' : Addr} {dB dH dI dJ dL dM : FuncData} {C : Nat → Addr}
theorem ok_hw {f : Addr} {fd : FuncData} (F : Fun K "_highest_within" "_highest_within" s_highest_within f fd) (B : Blt mg) (MT : MaxT mg) (G : LimG mg) (R : Er K mg C B') (Cp : Cal P w K mg base "common_period" 2 ["sides"] spPerL fH dH) (Hi : Cal P w K mg base "highest" 4 ["sides", "value"] spHi fI dI) (Co : Cal P w K mg base "_continued" 1 ["values", "following", "many"] spCont fJ dJ) : FnOk P w K mg base (L2.CX P w) 5 f fd ["sides", "value", "many"] (spHWX C) := by
  refine F.okAny sc_highest_within (fun vs H Q E h => ?_) (fun cdv A outer s0 H vs Q E hr h => ?_)
  · obtain ⟨l, xs, ss, v, n, rfl, _⟩ := h
    rfl
  · obtain ⟨l, xs, ss, v, n, rfl, SS, hv, hn, q, qe⟩ := h
    have nd := sc_highest_within.nd
    obtain ⟨tmr, hmr⟩ := G.mr
    refine ⟨_, pss_cons (ps_set (i := 3) nd rfl (Or.inl rfl) (pcl Cp hr (by decide) (by rfl) (pa_cons (pv 0) pa_nil)))
      (pss_cons (ps_set (i := 4) nd rfl (Or.inl rfl) (pe_lst (pa_cons (pv 1) pa_nil)))
      (pss_cons (ps_set (i := 5) nd rfl (Or.inl rfl) (pe_disp (pps_cons (pe_op op_mod (pv 1) (pv 3)) pe_int pps_nil) rfl rfl nofun (by decide)))
      (pss_cons (ps_for (passes_of rfl) rfl (pi_range2 (by rfl) B.range (pa_cons pe_int (pa_cons (pe_op op_add (pe_callB (call_min2 rfl) (by rfl) MT.min (by decide +kernel) (pa_cons (pv 2) (pa_cons (pe_glob (v := .int 10000) (by rfl) hmr ⟨_, rfl⟩) pa_nil))) pe_int) pa_nil))) (pg_name (i := 6) nd rfl (Or.inl rfl))
        (pss_cons (ps_set (i := 1) nd rfl (Or.inl rfl) (pcl Hi hr (by decide) (by rfl) (pa_cons (pv 0) (pa_cons (pv 1) pa_nil))))
        (pss_cons (ps_set (i := 7) nd rfl (Or.inl rfl) (pe_op op_mod (pv 1) (pv 3)))
        (pss_cons (ps_if (pt_cmp (pc_din (lt1 hr.units) (pv 7) (pv 5)) (by rfl)) (pss_one (ps_ret (pcl Co hr (by decide) (by rfl) (pa_cons (pe_slice sl_list (pv 4) (po_some (pe_dget (lt1 hr.units) (pv 5) (pv 7) (fun _ _ => rfl))) po_none) (pa_cons (pv 1) (pa_cons (pe_op op_sub (pv 2) (pe_dget (lt1 hr.units) (pv 5) (pv 7) (fun _ _ => rfl))) pa_nil)))))) pss_nil)
        (pss_cons (ps_dput (lt1 hr.units) (pv 5) (pv 7) (pv 6) rfl)
        (pss_one (ps_expr (pe_bm PySem.F.plainAttrs_list PySem.F.slot_list_append PySem.F.type_list_append mt_append (pv 4) (pa_cons (pv 1) pa_nil)))))))))
      (pss_cons (ps_if (pt_cmpR op_gt (pv 2) (pe_glob (v := .int 10000) (by rfl) hmr ⟨_, rfl⟩) (nomark _)) (pss_one (ps_raise rfl (takes_of rfl rfl rfl rfl) (pmk_own PySem.F.excBase_ValueError (R.ex 2 (by decide)) R.g2 (R.kp 2 (by decide)) (raises_own (R.sb 2 (by decide)) (R.ty 2 (by decide))) (by rfl)))) pss_nil)
      (pss_one (ps_ret (pv 1))))))), ?_⟩
    walk_at "rd"
    refine ⟨l, xs, ss, rfl, SS, ?_⟩
    have cp := com_pos ss 1 (by decide) SS.side
    have cp2 : 0 < ((comN ss : Nat) : Int) := by
      show 0 < ((ss.foldl (fun n d => n.lcm (perN d)) 1 : Nat) : Int)
      omega
    walk_at "rd"
    refine ⟨(by show 1 ≤ sizeLine; decide), fun L nL => ?_⟩
    generalize e_L : upd H L _ = H1
    have g1 : H1 L = some (.lst [.int v]) := by rw [← e_L]; exact upd_same
    have w1 : Same H H1 := by rw [← e_L]; exact fun b u z => (upd_ne (ne_of_none z nL)).trans z
    clear e_L
    walk_at "rd"
    refine fun D nD => ?_
    walk_at "rd"
    refine ⟨cp2, ?_⟩
    walk_at "rd"
    refine ⟨upd_same, [(.inl (v % ((comN ss : Nat) : Int)), .int 0)], rfl, (by show 1 ≤ 15; decide), ?_⟩
    generalize e_D : upd (upd H1 D _) D _ = H2
    have g2 : H2 D = some (.dK [(.inl (v % ((comN ss : Nat) : Int)), .int 0)]) := by rw [← e_D]; exact upd_same
    have w2 : Same H1 H2 := by rw [← e_D]; exact fun b u z => (upd_ne (ne_of_none z nD)).trans ((upd_ne (ne_of_none z nD)).trans z)
    clear e_D
    have nLD : L ≠ D := fun z => by rw [← z, g1] at nD; cases nD
    walk_at "rd"
    refine ⟨_, _, rfl, ?_⟩
    obtain ⟨N, eN, N1, N2, N3⟩ : ∃ N : Nat, (if (10000 : Int) < (n : Int) then (10000 : Int) else (n : Int)) = (N : Int) ∧ N ≤ 10000 ∧ N ≤ n ∧ (N = n ∨ (N = 10000 ∧ 10000 < n)) := by
      by_cases y : (10000 : Int) < (n : Int)
      · exact ⟨10000, by rw [if_pos y]; rfl, by omega, by omega, by omega⟩
      · exact ⟨n, by rw [if_neg y], by omega, by omega, by omega⟩
    rw [eN]
    walk_at "rd"
    refine ⟨_, _, rfl, ⟨by decide, by decide, by omega, by omega⟩, ?_⟩
    rw [show ((N : Int) + 1 - 1).toNat = N by omega]
    refine for_range (n := N) (fun i st H' => ∃ (x6 x7 : Option V) (kvs : List (Key × V)), st = [some (.ref l), some (.int (it (hiL ss) i v)), some (.int (n : Int)), some (.int ((comN ss : Nat) : Int)), some (.ref L), some (.ref D), x6, x7] ∧ Same H H' ∧ H' L = some (.lst ((valsI ss v i).map V.int)) ∧ H' D = some (.dK kvs) ∧ NumsP ss v i kvs)
      ⟨none, none, _, rfl, w1.trans w2, w2 _ _ g1, g2, ⟨Nat.le_refl _, fun p y h => ?_, fun j hj => ?_, fun a b ab hb => by omega⟩⟩ ?_ ?_
    · by_cases e : v % ((comN ss : Nat) : Int) = p
      · rw [valV_pos (by rw [e])] at h
        cases h
        exact ⟨0, rfl, Nat.le_refl _, e⟩
      · rw [valV_neg (fun z => e (by injection z))] at h
        cases h
    · obtain rfl : j = 0 := by omega
      rw [valV_pos (by rfl)]
      rfl
    · rintro i st H' hi ⟨x6, x7, kvs, rfl, sm, hL, hD, NP⟩
      have e1 : it (hiL ss) (i + 1) v = hiL ss (it (hiL ss) i v) := rfl
      obtain ⟨b0, b1⟩ := itL_bd SS.side v i
      obtain ⟨b2, b3⟩ := itL_bd SS.side v (i + 1)
      walk_at "rd"
      refine ⟨l, xs, ss, _, rfl, SS.same sm, by omega, fun h H3 hp s3 => ?_⟩
      obtain rfl := hip_eq hp
      rw [← e1]
      walk_at "rd"
      refine ⟨cp2, ?_⟩
      walk_at "rd"
      refine ⟨D, _, rfl, DGet.k (k := .inl _) (s3 _ _ hD), ?_⟩
      walk_at "rd"
      refine ite2 (fun z => ?_) (fun z => ?_)
      · obtain ⟨y, hy⟩ := Option.isSome_iff_exists.mp z
        obtain ⟨j, rfl, ji, ej⟩ := NP.2.1 _ y hy
        have dg := DGet.k (k := .inl (it (hiL ss) (i + 1) v % ((comN ss : Nat) : Int))) (s3 _ _ hD)
        rw [hy] at dg
        obtain ⟨b4, b5⟩ := itL_bd SS.side v j
        walk_at "rd"
        refine ⟨D, _, rfl, dg, ?_⟩
        walk_at "rd"
        refine ⟨L, _, rfl, SqL.of (s3 _ _ hL), fun T nT => ?_⟩
        rw [cutV_drop _ (by rw [List.length_map, valsI_len]; omega), ← List.map_drop]
        generalize e_T : upd H3 T _ = H4
        have gT : H4 T = some (.lst (((valsI ss v i).drop j).map V.int)) := by rw [← e_T]; exact upd_same
        have w4 : Same H3 H4 := by rw [← e_T]; exact fun b u z => (upd_ne (ne_of_none z nT)).trans z
        clear e_T
        have dg4 : DGet H4 D (kV (.inl (it (hiL ss) (i + 1) v % ((comN ss : Nat) : Int)))) (valV kvs (.inl (it (hiL ss) (i + 1) v % ((comN ss : Nat) : Int)))) := DGet.k (k := .inl _) (w4 _ _ (s3 _ _ hD))
        rw [hy] at dg4
        walk_at "rd"
        refine ⟨D, _, rfl, dg4, ?_⟩
        walk_at "rd"
        have we := walk_end SS.side (n := n) ji (by omega) ej
        have g0 := valsI_get (ss := ss) (v := v) (i := i) (j := j) (r := 0) (by omega)
        have gl : ((valsI ss v i).drop j).length = i + 1 - j := by rw [List.length_drop, valsI_len]
        have g0' : ((valsI ss v i).drop j).getD 0 0 = it (hiL ss) j v := g0
        refine ⟨T, (valsI ss v i).drop j, _, n - j, (by show _ = [V.ref T, V.int (it (hiL ss) (i + 1) v), V.int ((n - j : Nat) : Int)]; rw [show ((n - j : Nat) : Int) = (n : Int) - (j : Int) by omega]; rfl), gT, by rw [gl]; omega, by omega, by rw [gl]; omega, by omega, by rw [g0']; omega, fun H5 s5 => ?_⟩
        rw [gl, we]
        exact q (.inr ⟨j, i + 1, by omega, by omega, ej⟩) _ (sm.trans (s3.trans (w4.trans s5)))
      · have nD0 : H D = none := w1.free nD
        walk_at "rd"
        refine ⟨D, _, rfl, DPut.k (k := .inl _) (s3 _ _ hD) (Nat.lt_of_le_of_lt NP.1 (Nat.lt_of_lt_of_le (by omega : i + 1 < 20000) (by decide))), ?_⟩
        walk_at "rd"
        have hL3 := s3 _ _ hL
        refine ⟨.inl ⟨rfl, _, SqL.of ((upd_ne nLD).trans hL3)⟩, ?_⟩
        walk_at "rd"
        refine ⟨L, _, _, rfl, rfl, (upd_ne nLD).trans hL3, (by rw [List.length_map, valsI_len]; exact Nat.lt_of_lt_of_le (by omega : i + 1 < 20000) (by decide)), ?_⟩
        refine ⟨_, _, _, rfl, fun b u z => (upd_ne (ne_of_none z nL)).trans ((upd_ne (ne_of_none z nD0)).trans (s3 _ _ (sm _ _ z))), ?_, (upd_ne (Ne.symm nLD)).trans upd_same, ?_⟩
        · rw [valsI_succ, List.map_append]
          exact upd_same
        · have np := numsP_put NP z
          rw [show ((i + 1 : Nat) : Int) = 1 + (i : Int) by omega] at np
          exact np
    · rintro st H' ⟨x6, x7, kvs, rfl, sm, hL, hD, NP⟩
      walk_at "rd"
      refine ite2 (fun z => ?_) (fun z => ?_)
      · have big : (10000 : Int) < (n : Int) := of_decide_eq_true z
        have e4 : N = 10000 := by omega
        subst e4
        walk_at "rd"
        exact qe (by omega) (fun ⟨a, b, ab, hb, e⟩ => NP.2.2.2 a b ab hb e) _ sm
      · have small : ¬ (10000 : Int) < (n : Int) := fun y => z (decide_eq_true y)
        have e4 : N = n := by omega
        subst e4
        walk_at "rd"
        exact q (.inl (by omega)) _ sm
end
end HT
namespace HT
open PySem L2
def spWiX (C : Nat → Addr) : Sp := fun vs H Q E => ∃ (l : Addr) (xs : List V) (ss : List Sd) (v : Int) (n : Nat), vs = [.ref l, .int v, .int (n : Int)] ∧ SidesAt H l xs ss ∧ (-2 ^ 590 < v ∧ v < 2 ^ 590) ∧ n ≤ 10 ^ 40 ∧
  ((n ≤ 10000 ∨ (Rec ss v ∧ Rec (ss.map mirD) (-v))) → ∀ (p : Addr) (H' : Hp), Same H H' → H p = none → H' p = some (.tup [.int (-(it (hiL (ss.map mirD)) n (-v))), .int (it (hiL ss) n v)]) → Q (.ref p) H') ∧
  (10000 < n → ¬ (Rec ss v ∧ Rec (ss.map mirD) (-v)) → ∀ H', Same H H' → E (.ref (C 2)) none H')
section
variable {P : Program} {w : World} {K : PySem.W.Frag} {mg : Str → Option Value} {base : Heap} {fB fH fI fJ fL fM B' : Addr} {dB dH dI dJ dL dM : FuncData} {C : Nat → Addr}
theorem ok_within {f : Addr} {fd : FuncData} (F : Fun K "within" "within" s_within f fd) (G : LimG mg) (Ls : Cal P w K mg base "check_sides" 5 ["sides"] spSides fB dB) (Vl : Cal P w K mg base "check_value" 2 ["value"] spCheckValue fH dH) (Bw : Cal P w K mg base "is_int_between" 2 ["thing", "least", "most"] spBetween fI dI) (Mi : Cal P w K mg base "mirrors" 5 ["sides"] spMirs fJ dJ)
    (Hw : CalX P w K mg base "_highest_within" 5 ["sides", "value", "many"] (spHWX C) fL dL) : FnOk P w K mg base (L2.CX P w) 6 f fd ["sides", "value", "many"] (spWiX C) := by
  refine F.okAny sc_within (fun vs H Q E h => ?_) (fun cdv A outer s0 H vs Q E hr h => ?_)
  · obtain ⟨l, xs, ss, v, n, rfl, _⟩ := h
    rfl
  · obtain ⟨l, xs, ss, v, n, rfl, SS, hv, hn, q, qe⟩ := h
    have nd := sc_within.nd
    obtain ⟨tmn, hmn⟩ := G.mn
    refine ⟨_, (pss_cons (ps_expr (pcl Ls hr (by decide) (by rfl) (pa_cons (pv 0) pa_nil)))
      (pss_cons (ps_expr (pcl Vl hr (by decide) (by rfl) (pa_cons (pv 1) pa_nil)))
      (pss_cons (ps_if (pt_not (pt_val (pcl Bw hr (by decide) (by rfl) (pa_cons (pv 2) (pa_cons pe_int (pa_cons (pe_glob (v := .int (10 ^ 40)) (by rfl) hmn ⟨_, rfl⟩) pa_nil)))))) (pss_one ps_never) pss_nil)
      (pss_cons (ps_set (i := 3) nd rfl (Or.inl rfl) (pcx Hw hr (by decide) (by rfl) (takes_of rfl rfl rfl rfl) (pa_cons (pv 0) (pa_cons (pv 1) (pa_cons (pv 2) pa_nil)))))
      (pss_one (ps_ret (pe_tup (pa_cons (pe_un un_neg (pcx Hw hr (by decide) (by rfl) (takes_of rfl rfl rfl rfl) (pa_cons (pcl Mi hr (by decide) (by rfl) (pa_cons (pv 0) pa_nil)) (pa_cons (pe_un un_neg (pv 1)) (pa_cons (pv 2) pa_nil))))) (pa_cons (pv 3) pa_nil))))))))), ?_⟩
    have sM : ∀ d ∈ ss.map mirD, SideP d.o d.s d.m := fun d hd => by
      obtain ⟨e, he, rfl⟩ := List.mem_map.mp hd
      exact side_mir (SS.side e he)
    walk_at "rd"
    refine ⟨l, xs, ss, rfl, SS, ?_⟩
    walk_at "rd"
    refine ⟨_, _, _, rfl, ?_⟩
    walk_at "rd"
    refine ite2 (fun z => ?_) (fun _ => ?_)
    · exfalso
      have a1 : decide ((0 : Int) ≤ (n : Int)) = true := decide_eq_true (by omega)
      have a2 : decide ((n : Int) ≤ 10 ^ 40) = true := decide_eq_true (by omega)
      rw [a1, a2] at z
      exact absurd z (by decide)
    walk_at "rd"
    refine ⟨l, xs, ss, v, n, rfl, SS.toL, hv, hn, fun g1 H1 s1 => ?_, fun g1 g2 H1 s1 => qe g1 (fun z => g2 z.1) _ s1⟩
    walk_at "rd"
    refine ⟨l, xs, ss, rfl, SS.toL.same s1, fun L2 y2 H2 n2 s2 S2 => ?_⟩
    walk_at "rd"
    refine ⟨L2, y2, _, -v, n, rfl, S2, by omega, hn, fun g3 H3 s3 => ?_, fun g3 g4 H3 s3 => qe g3 (fun z => g4 z.2) _ (s1.trans (s2.trans s3))⟩
    walk_at "rd"
    refine ⟨(by show 2 ≤ sizeLine; decide), fun T nT => ?_⟩
    have sA := s1.trans (s2.trans s3)
    exact q (by rcases g1 with y | y <;> rcases g3 with z | z <;> first | exact .inl y | exact .inl z | exact .inr ⟨y, z⟩) T _ (fun b u z => (upd_ne (ne_of_none (sA _ _ z) nT)).trans (sA _ _ z)) (sA.free nT) upd_same
end
end HT
namespace HT
open PySem PySem.Spec PyProof.Rows L2
section
variable {P : Program} {w : World} {A : Around} {E : Value → Shared → Prop} {s : Shared}
/-- a set with nothing in it -/
abbrev bare (w : World) : Obj := { cls := .type "set", dict := none, data := .set #[] 0 (.fresh 0 0 (!w.params.followText "set-order")) }
set_option maxRecDepth 100000 in
set_option maxHeartbeats 3200000 in
theorem set_from_list {l : Addr} {its : Array Value} (zs : List Int) {Q : Value → Shared → Prop} (still : A.handled = none) (il : s.heap.IsList l its) (iz : IntsAre its.toList zs) (few : zs.length + 1 < scanBound)
    (fin : ∀ (g : Heap) (tk c : Nat), SetR w g s.heap.objs.size (fun j => decide (j ∈ zs)) c → c ≤ zs.length → (∀ b o, s.heap.get? b = some o → g.get? b = some o) → Q (.ref s.heap.objs.size) { s with heap := g, toks := tk }) :
    wpAny (model P w) A (call (.type "set") [.ref l]) Q E s := by
  have sz : its.size = zs.length := by
    have e := IntsAre.length iz
    rwa [Array.length_toList] at e
  obtain ⟨k0, k1, mro0⟩ := F.called_set.mro
  have made0 := F.called_set.made; have sub0 := F.called_set.sub
  refine wpAny_call (codeAny_of_tree ?_)
  show wpAny _ _ (callAny (.type "set") _) _ _ _
  refine wpAny_pure ⟨Code.quiet_builtin _ (by decide +kernel), codeAny_builtin F.entry_type_call ?_⟩
  rw [Around.under_plain (weight_type_call_type "set" [.ref l] []) rfl]
  have not0 := F.called_set.notType; have can0 := F.called_set.canCreate; have call0 := F.typeCall_set_1 (.ref l)
  repeat (any_goals (first | assumption | wp_step))
  refine codeAny_mono (code_set_led1 (.ref l) (E := E) (Q₁ := fun x t => x = .ref s.heap.objs.size ∧ t = { s with heap := s.heap.push (bare w) }) ⟨rfl, rfl⟩) fun r t hr => ?_
  match r, hr with
  | .error e, hr => exact hr
  | .ok .next, hr => exact hr.elim
  | .ok .brk, hr => exact hr.elim
  | .ok .cont, hr => exact hr.elim
  | .ok (.ret x), hr =>
    obtain ⟨rfl, rfl⟩ := hr
    have gS : (s.heap.push (bare w)).get? s.heap.objs.size = some (bare w) := Heap.get?_push_size _ rfl
    have tS : Shared.TypeIs { s with heap := s.heap.push (bare w) } (.ref s.heap.objs.size) "set" := ⟨_, gS, rfl⟩
    have look0 := F.called_set.init.lookup; have bind0 := F.called_set.init.bind (.ref s.heap.objs.size)
    repeat (any_goals (first | assumption | wp_step))
    refine codeAny_mono (codeAny_call_builtin (R := wants (fun r t => r = .none ∧ ∃ g tk c, t = { s with heap := g, toks := tk } ∧ SetR w g s.heap.objs.size (fun j => decide (j ∈ zs)) c ∧ c ≤ zs.length ∧ (∀ b o, s.heap.get? b = some o → g.get? b = some o)) E)
      F.called_set.init.plain F.entry_set_init (check_set_init_1 tS ?_)) fun r2 t2 hr2 => ?_
    · obtain ⟨ol, gl, cl0, nl, dl⟩ := il
      obtain ⟨c1, d1, dt1, s1⟩ := ol
      simp only at cl0 dl
      subst cl0; subst dl
      have gl2 : (s.heap.push (bare w)).get? l = some { cls := .type "list", dict := d1, data := .seq its nl, slots := s1 } := Heap.get?_push_of_some _ gl
      have sub1 := F.sub_list_set; have sub2 := F.sub_list_frozenset
      have nd0 : (Value.type "list" == Value.type "dict") = false := by decide
      have il2 : (s.heap.push (bare w)).IsList l its := ⟨_, gl2, rfl, nl, rfl⟩
      unfold Builtin.«set.__init__» noKeywords Builtin.Frozenset.updateFrom
      generalize ePI : pyIter = PI
      wp_walk
      subst ePI
      refine wpAny_pyIter_list il2 ?_
      refine wpAny_bind (wpAny_runValue ?_)
      have lS : l < s.heap.objs.size := Heap.lt_size gl
      have still3 : A.in1.in1.in1.handled = none := by simp [still]
      have nI : l ≠ (s.heap.push (bare w)).objs.size := by
        rw [Heap.size_push]; exact Nat.ne_of_lt (Nat.lt_succ_of_lt lS)
      have nS : s.heap.objs.size ∉ [(s.heap.push (bare w)).objs.size, l] := by
        rw [Heap.size_push]; simp only [List.mem_cons, List.mem_singleton, List.not_mem_nil, or_false, not_or]
        exact ⟨Nat.ne_of_lt (Nat.lt_succ_self _), Nat.ne_of_gt lS⟩
      refine set_update_ints ((Walks.list still3 _ l nI its).toS) s.heap.objs.size nS zs sz few (fun i v hv => ?_) (its.size - 0) 0 _ (by omega) (Nat.zero_le _) ⟨⟨_, Heap.get?_push_size _ rfl, rfl, rfl⟩, (il2.push _)⟩ ?start ?stop
      · have hi : i < zs.length := by rw [← sz]; exact (Array.getElem?_eq_some_iff.mp hv).1
        obtain ⟨t, e⟩ := PyProof.Rows.IntsAre.int_at iz i v (by rw [Array.getElem?_toList]; exact hv)
        exact ⟨zs[i], t, List.getElem?_eq_getElem hi, by rw [e, List.getD_eq_getElem?_getD, List.getElem?_eq_getElem hi]; rfl⟩
      case start => exact ⟨0, Nat.le_refl 0, setR_new_at (Heap.get?_push_of_some _ gS)⟩
      case stop =>
        intro t c hm hc hS
        obtain ⟨g, g2, dr, tk, os⟩ := t
        obtain rfl : g2 = s.gens := hm.gens
        obtain rfl : dr = s.drawn := hm.drawn
        obtain rfl : os = s.os := hm.os
        show wpAny _ _ _ _ _ _
        refine wpAny_pure ?_
        show wpAny _ _ (ret Value.none) _ _ _
        rw [sz] at hc
        refine wpAny_pure ⟨rfl, g, tk, c, rfl, hS, hc, fun b o e => ?_⟩
        have b0 : b < s.heap.objs.size := Heap.lt_size e
        refine hm.heap b o ?_ (Heap.get?_push_of_some _ (Heap.get?_push_of_some _ e))
        rw [Heap.size_push]
        simp only [List.mem_cons, List.mem_singleton, List.not_mem_nil, or_false, not_or]
        exact ⟨Nat.ne_of_lt b0, Nat.ne_of_lt (Nat.lt_succ_of_lt b0)⟩
    · match r2, hr2 with
      | .error e, hr2 => exact hr2
      | .ok .next, hr2 => exact hr2.elim
      | .ok .brk, hr2 => exact hr2.elim
      | .ok .cont, hr2 => exact hr2.elim
      | .ok (.ret x), hr2 =>
        obtain ⟨rfl, g, tk, c, rfl, hS, hc, kp⟩ := hr2
        repeat (any_goals (first | assumption | wp_step))
        exact fin _ _ _ hS hc kp
end
end HT
namespace HT
open PySem PySem.Spec PyProof.Rows L2
section
variable {P : Program} {w : World} {A : Around} {E : Value → Shared → Prop} {s : Shared}
/-- sorted(s), s a set of any number of ints -/
theorem sorted_of_set {a : Addr} {S : Int → Bool} {n : Nat} {Q : Value → Shared → Prop} (R : SetR w s.heap a S n) (still : A.handled = none)
    (fin : ∀ t p (out : Array Value) (c : Nat) (ns : List Int), (∀ b o, s.heap.get? b = some o → t.heap.get? b = some o) → t.gens = s.gens → t.os = s.os → s.heap.objs.size ≤ p →
      t.heap.get? p = some (seqObj "list" out c) → IntsAre out.toList ns → ns.Pairwise (· < ·) → (∀ k, k ∈ ns ↔ S k = true) → ns.length = n → Q (.ref p) t) :
    wpAny (model P w) A (call (.builtin "sorted") [.ref a]) Q E s := by
  obtain ⟨o, es, ep, t, go, ex, dt, good, nod, mem, few, fits, num, ris, led⟩ := R
  refine Calls.call_function_entry kind_sorted plain_sorted entry_sorted (args_sorted1 _) ?_
  unfold Builtin.«sorted»
  refine wpAny_bind (m := checkCount "sorted" 1 1 _) (wpAny_pure ?_)
  refine wpAny_bind (collect_set (A := A.in1) still ⟨o, go, ex.1, dt⟩ fits few ris led fun s1 vs keep grow gg oo pm => ?_)
  have lv : vs.length = n := by rw [pm.length_eq, List.length_map, Array.length_toList]; exact num
  have line : vs.length ≤ sizeLine := by rw [lv, ← num]; rw [sizeLine_eq]; unfold scanBound at few; omega
  have isI : IntsAre vs (vs.map Builtin.Re.reRawOf) := ints_of vs fun v hv => by
    obtain ⟨e, he, q⟩ := List.mem_map.mp (pm.mem_iff.mp hv)
    obtain ⟨k, tk, h1, _⟩ := good e he
    exact ⟨k, tk, by rw [← q]; exact h1⟩
  have pk : (vs.map Builtin.Re.reRawOf).Perm (es.toList.map keyOf) := by
    have q := pm.map Builtin.Re.reRawOf
    rwa [List.map_map] at q
  refine wpAny_bind (wpAny_newList ?_ line)
  have gL : (s1.heap.push (seqObj "list" vs.toArray 0)).get? s1.heap.objs.size = some (seqObj "list" vs.toArray 0) := Heap.get?_push_size _ rfl
  refine wpAny_bind (wpAny_holding (wpAny_call_entry slot_list_sort ⟨_, gL, rfl⟩ entry_list_sort (SrtO.list_sort_ord SrtO.swo_int gL line (fun h2 => SrtO.ints_sortable isI h2) fun out so sb => ⟨_, rfl, ?_⟩) (args_list_sort _)))
  obtain ⟨k1, k2, k3⟩ := SrtO.ints_out isI so sb
  obtain ⟨c, hc⟩ := sortedHeap_at (vs := vs) (out := out.toArray) gL
  have pn := k2.trans pk
  refine wpAny_pure ⟨_, rfl, fin _ s1.heap.objs.size out.toArray c _ (fun b u e => ?_) gg oo grow hc (by simpa using k1) (lt_of_le_nodup _ k3 (pn.nodup_iff.mpr nod)) (fun k => by rw [pn.mem_iff, ← mem k]) ?_⟩
  · have q := keep b u e
    have lt := Heap.lt_size q
    show (sortedHeap (s1.heap.push (seqObj "list" vs.toArray 0)) s1.heap.objs.size vs out.toArray).get? b = some u
    rw [sortedHeap_old (Nat.ne_of_lt lt) (by rw [size_push']; exact Nat.lt_succ_of_lt lt)]
    exact Heap.get?_push_of_some _ q
  · rw [pn.length_eq, List.length_map, Array.length_toList]; exact num
end
section
variable {X : Cx}
/-- set(xs), ints, any number of them -/
def rSetI (K : PySem.W.Frag) (w : World) : List V → Hp → VK → Prop := fun vs H Q => ∃ (a : Addr) (ns : List Int), vs = [V.ref a] ∧ SqL K H a (ns.map V.int) ∧ ns.length + 1 < scanBound ∧
  ∀ (p : Addr) (c : Nat), c ≤ ns.length → H p = none → Q (.ref p) (upd H p (SetO w p (fun j => decide (j ∈ ns)) c))
theorem cr_setI (hc : X.calm = true) : CallR X (.type "set") (rSetI X.K X.w) := by
  intro pins s σ H vs us Q I r h
  obtain ⟨a, ns, rfl, hs, few, q⟩ := h
  obtain ⟨its, rv, hl, hz⟩ := I.list hs
  rw [Vals.ref1 r]
  refine set_from_list ns (I.ok.hd hc) hl.isList (by simpa using rv.ints) few fun g tk c R hn k => ?_
  exact ⟨.ref _, upd H s.heap.objs.size (SetO X.w s.heap.objs.size (fun j => decide (j ∈ ns)) c), I.laid (t' := tk) k (Nat.le_refl _) (setO_new R), rfl, q _ c hn (I.hok.fresh (Nat.le_refl _))⟩
/-- sorted(s), s a set of ints -/
def rSortedSetA (w : World) : List V → Hp → VK → Prop := fun vs H Q => ∃ (a : Addr) (S : Int → Bool) (n : Nat), vs = [V.ref a] ∧ H a = some (SetO w a S n) ∧ n ≤ 100000 ∧
  ∀ (ns : List Int) (p : Addr), ns.Pairwise (· < ·) → (∀ k : Int, k ∈ ns ↔ S k = true) → H p = none → Q (.ref p) (upd H p (.lst (ns.map V.int)))
theorem cr_sortedSetA (hc : X.calm = true) : CallR X (.builtin "sorted") (rSortedSetA X.w) := by
  intro pins s σ H vs us Q I r h
  obtain ⟨a, S, n, rfl, ha, few, q⟩ := h
  rw [Vals.ref1 r]
  refine sorted_of_set (setO_get I ha) (I.ok.hd hc) fun t p out c ns k g o hp hg hi hs hm hl => ?_
  have line : (ns.map V.int).length ≤ sizeLine := by rw [List.length_map, hl, sizeLine_eq]; omega
  have hn : H p = none := I.hok.fresh hp
  have J := I.call (g' := t.gens) (t' := t.toks) (d' := t.drawn) (ch := []) (Un.laid k hp hn) (I.hok.laid k hp (o := .lst (ns.map V.int)) ⟨line, out.toList, c, vals_of_ints hi, hg⟩) (by rw [g]; exact I.bare) (fun _ z => nomatch z)
  obtain ⟨th, tg, td, tt, tos⟩ := t
  obtain rfl : tos = s.os := o
  exact ⟨.ref p, _, J, rfl, q ns p hs hm hn⟩
end
end HT
namespace HT
open PySem L2
theorem len_sub : ∀ {a b : List Int}, a.Pairwise (· < ·) → (∀ x, x ∈ a → x ∈ b) → a.length ≤ b.length
  | [], _, _, _ => Nat.zero_le _
  | x :: a, b, ha, h => by
    obtain ⟨a1, a2⟩ := List.pairwise_cons.mp ha
    have hx := h x List.mem_cons_self
    have e := List.length_erase_of_mem hx
    have p := List.length_pos_of_mem hx
    have ih := len_sub (a := a) (b := b.erase x) a2 fun y hy => (List.mem_erase_of_ne (fun z => by have := a1 y hy; omega)).mpr (h y (List.mem_cons_of_mem _ hy))
    rw [List.length_cons]
    omega
def loL (ss : List Sd) (k : Nat) (v : Int) : Int := -(it (hiL (ss.map mirD)) k (-v))
def wrL (ss : List Sd) (y : Int) : List Int := ss.map fun d => dueM d.o d.s d.m y
def moreW (ss : List Sd) (C : List Int) (i : Nat) : List Int := C ++ ((C.take i).map (wrL ss)).flatten
theorem moreW_snoc {ss : List Sd} {C : List Int} {i : Nat} {y : Int} (h : C[i]? = some y) : moreW ss C (i + 1) = moreW ss C i ++ wrL ss y := by
  unfold moreW
  rw [List.take_succ, h, List.map_append, List.flatten_append, List.append_assoc]
  congr 2
  show [wrL ss y].flatten = wrL ss y
  rw [List.flatten_cons, List.flatten_nil, List.append_nil]
theorem moreW_len {ss : List Sd} (l4 : ss.length ≤ 4) (C : List Int) : ∀ i, i ≤ C.length → (moreW ss C i).length ≤ C.length + 4 * i
  | 0, _ => by unfold moreW; rw [List.take_zero, List.map_nil, List.flatten_nil, List.append_nil]; omega
  | i + 1, h => by
    have ih := moreW_len l4 C i (by omega)
    rw [moreW_snoc (List.getElem?_eq_getElem (show i < C.length by omega)), List.length_append]
    have : (wrL ss (C[i]'(by omega))).length = ss.length := List.length_map ..
    omega
theorem moreW_mem {ss : List Sd} {C : List Int} {z : Int} : z ∈ moreW ss C C.length ↔ z ∈ C ∨ ∃ y ∈ C, ∃ d ∈ ss, z = dueM d.o d.s d.m y := by
  unfold moreW wrL
  rw [List.take_length, List.mem_append, List.mem_flatten]
  constructor
  · rintro (h | ⟨L, hL, hz⟩)
    · exact .inl h
    · obtain ⟨y, hy, rfl⟩ := List.mem_map.mp hL
      obtain ⟨d, hd, rfl⟩ := List.mem_map.mp hz
      exact .inr ⟨y, hy, d, hd, rfl⟩
  · rintro (h | ⟨y, hy, d, hd, rfl⟩)
    · exact .inl h
    · exact .inr ⟨_, List.mem_map.mpr ⟨y, hy, rfl⟩, List.mem_map.mpr ⟨d, hd, rfl⟩⟩
/-- the values that some hand-overs lead to, in order -/
structure MM (ss : List Sd) (v : Int) (k : Nat) (C : List Int) : Prop where
  so : C.Pairwise (· < ·)
  hi : it (hiL ss) k v ∈ C
  lo : loL ss k v ∈ C
  bd : ∀ y ∈ C, loL ss k v ≤ y ∧ y ≤ it (hiL ss) k v
  len : C.length ≤ 5 ^ k
theorem MM.start (ss : List Sd) (v : Int) : MM ss v 0 [v] := by
  have e : loL ss 0 v = v := by show -(-v) = v; omega
  refine ⟨List.pairwise_singleton _ _, List.mem_singleton.mpr rfl, ?_, fun y hy => ?_, Nat.le_refl 1⟩
  · rw [e]; exact List.mem_singleton.mpr rfl
  · rw [List.mem_singleton.mp hy, e]
    exact ⟨Int.le_refl _, Int.le_refl _⟩
theorem due_le_hi {ss : List Sd} {d : Sd} (hd : d ∈ ss) (y : Int) : dueM d.o d.s d.m y ≤ hiL ss y := (hiL_hip ss y).2.1 d hd
theorem MM.next {ss : List Sd} (hs : ∀ d ∈ ss, SideP d.o d.s d.m) (l4 : ss.length ≤ 4) {v : Int} {k : Nat} {C R : List Int} (M : MM ss v k C) (so : R.Pairwise (· < ·)) (hR : ∀ y, y ∈ R ↔ y ∈ moreW ss C C.length) : MM ss v (k + 1) R := by
  have sm : ∀ d ∈ ss.map mirD, SideP d.o d.s d.m := side_mirs hs
  have eh : it (hiL ss) (k + 1) v = hiL ss (it (hiL ss) k v) := rfl
  have el : loL ss (k + 1) v = -(hiL (ss.map mirD) (-(loL ss k v))) := by
    show -(hiL (ss.map mirD) (it (hiL (ss.map mirD)) k (-v))) = _
    unfold loL
    rw [Int.neg_neg]
  have mr : ∀ d ∈ ss, ∀ y, dueM (mirD d).o (mirD d).s (mirD d).m (-y) = -dueM d.o d.s d.m y := fun d hd y => due_mirror (hs d hd).md (hs d hd).s0
  refine ⟨so, (hR _).mpr (moreW_mem.mpr ?_), (hR _).mpr (moreW_mem.mpr ?_), fun y hy => ?_, ?_⟩
  · rw [eh]
    rcases (hiL_hip ss (it (hiL ss) k v)).2.2 with e | ⟨d, hd, e⟩
    · rw [e]; exact .inl M.hi
    · exact .inr ⟨_, M.hi, d, hd, e⟩
  · rw [el]
    rcases (hiL_hip (ss.map mirD) (-(loL ss k v))).2.2 with e | ⟨e', he, e⟩
    · rw [e, Int.neg_neg]; exact .inl M.lo
    · obtain ⟨d, hd, rfl⟩ := List.mem_map.mp he
      refine .inr ⟨_, M.lo, d, hd, ?_⟩
      rw [e]
      show -(dueM (mirD d).o (mirD d).s (mirD d).m (-(loL ss k v))) = _
      rw [mr d hd, Int.neg_neg]
  · rw [eh, el]
    rcases moreW_mem.mp ((hR y).mp hy) with h | ⟨z, hz, d, hd, rfl⟩
    · have b := M.bd y h
      have g1 := hiL_ge ss (it (hiL ss) k v)
      have g2 := hiL_ge (ss.map mirD) (-(loL ss k v))
      omega
    · have b := M.bd z hz
      have g1 := due_le_hi hd z
      have g2 := hiL_mono hs b.2
      have g3 := due_le_hi (show mirD d ∈ ss.map mirD from List.mem_map.mpr ⟨d, hd, rfl⟩) (-z)
      rw [mr d hd] at g3
      have g4 := hiL_mono sm (show -z ≤ -(loL ss k v) by omega)
      omega
  · have a := len_sub so fun x hx => (hR x).mp hx
    have b := moreW_len l4 C _ (Nat.le_refl _)
    have c := M.len
    rw [Nat.pow_succ]
    omega
theorem MM.first {ss : List Sd} {v : Int} {k : Nat} {x : Int} {t : List Int} (M : MM ss v k (x :: t)) : x = loL ss k v := by
  have b := (M.bd x List.mem_cons_self).1
  rcases List.mem_cons.mp M.lo with e | e
  · exact e.symm
  · have := (List.pairwise_cons.mp M.so).1 _ e
    omega
theorem MM.last {ss : List Sd} {v : Int} {k : Nat} {y : Int} {t : List Int} (M : MM ss v k (t ++ [y])) : y = it (hiL ss) k v := by
  have b := (M.bd y (List.mem_append_right _ (List.mem_singleton.mpr rfl))).2
  rcases List.mem_append.mp M.hi with e | e
  · have := (List.pairwise_append.mp M.so).2.2 _ e y (List.mem_singleton.mpr rfl)
    omega
  · exact (List.mem_singleton.mp e).symm
theorem len_int : ∀ {C : List Int} {a b : Int}, C.Pairwise (· < ·) → (∀ y ∈ C, a ≤ y ∧ y ≤ b) → a ≤ b + 1 → (C.length : Int) ≤ b - a + 1
  | [], a, b, _, _, h => by show ((0 : Nat) : Int) ≤ _; omega
  | x :: C, a, b, so, hb, h => by
    obtain ⟨s1, s2⟩ := List.pairwise_cons.mp so
    have hx := hb x List.mem_cons_self
    have ih := len_int (a := x + 1) (b := b) s2 (fun y hy => ⟨by have := s1 y hy; omega, (hb y (List.mem_cons_of_mem _ hy)).2⟩) (by omega)
    rw [List.length_cons]
    omega
theorem it12 {ss : List Sd} (hs : ∀ d ∈ ss, SideP d.o d.s d.m) (h : ∀ d ∈ ss, d.s ≤ 12) (v : Int) : ∀ k, it (hiL ss) k v ≤ v + 12 * (k : Int)
  | 0 => by show v ≤ _; omega
  | k + 1 => by
    have ih := it12 hs h v k
    have e : it (hiL ss) (k + 1) v = hiL ss (it (hiL ss) k v) := rfl
    rcases (hiL_hip ss (it (hiL ss) k v)).2.2 with z | ⟨d, hd, z⟩
    · omega
    · have n := due_near (o := d.o) (v := it (hiL ss) k v) (hs d hd).md (hs d hd).s0
      have z' : hiL ss (it (hiL ss) k v) = dueM d.o d.s d.m (it (hiL ss) k v) := z
      have := h d hd
      omega
theorem MM.short {ss : List Sd} (hs : ∀ d ∈ ss, SideP d.o d.s d.m) (h : ∀ d ∈ ss, d.s ≤ 12) {v : Int} {k : Nat} {C : List Int} (M : MM ss v k C) : C.length ≤ 24 * k + 1 := by
  have a := it12 hs h v k
  have b := it12 (side_mirs hs) (fun d hd => by obtain ⟨e, he, rfl⟩ := List.mem_map.mp hd; exact h e he) (-v) k
  have c := itL_bd hs v k
  have d := itL_bd (side_mirs hs) (-v) k
  have l := len_int (a := v - 12 * (k : Int)) (b := v + 12 * (k : Int)) M.so (fun y hy => by
    have := M.bd y hy
    unfold loL at this
    omega) (by omega)
  omega
end HT
namespace HT
open PySem L2
theorem at_last (xs : List V) (y : V) : atI (xs ++ [y]) (-1) = some y := by
  have hn : ixN (xs ++ [y]).length (-1) = some xs.length := by
    rw [List.length_append, List.length_singleton]
    unfold ixN
    rw [if_neg (by decide), if_pos (by omega)]
    congr 1
    omega
  unfold atI
  rw [hn]
  show (xs ++ [y])[xs.length]? = some y
  rw [List.getElem?_append_right (Nat.le_refl _), Nat.sub_self]
  rfl
theorem at0 {x : V} {xs : List V} : atI (x :: xs) 0 = some x := by
  unfold atI ixN
  rw [if_pos (by decide), if_pos (by rw [List.length_cons]; omega)]
  rfl
theorem same_upd {H : Hp} {a : Addr} {o : HO} (h : H a = none) : Same H (upd H a o) := fun b u z => (upd_ne (ne_of_none z h)).trans z
structure SetB (mg : Str → Option Value) : Prop where
  list : mg "list" = none
  set : mg "set" = none
  sorted : mg "sorted" = none
  tuple : mg "tuple" = none
def spAllF : Sp := fun vs H Q _ => ∃ (l : Addr) (xs : List V) (ss : List Sd) (v : Int) (n : Nat), vs = [.ref l, .int v, .int (n : Int)] ∧ SidesAt H l xs ss ∧ (∀ d ∈ ss, d.s ≤ 12) ∧ (-2 ^ 500 < v ∧ v < 2 ^ 500) ∧ n ≤ 6 ∧
  ∀ (p : Addr) (H' : Hp), Same H H' → H p = none → H' p = some (.tup [.int (loL ss n v), .int (it (hiL ss) n v)]) → Q (.ref p) H'
section
variable {P : Program} {w : World} {K : PySem.W.Frag} {mg : Str → Option Value} {base : Heap} {fI : Addr} {dI : FuncData}
theorem ok_all {f : Addr} {fd : FuncData} (F : Fun K "_law_all" "_law_all" s_L_all f fd) (B : Blt mg) (G : SetB mg) (Wr : Cal P w K mg base "_law_written" 3 ["_law_sides", "_law_value"] spWrL fI dI) : FnOk P w K mg base CX0 4 f fd ["_law_sides", "_law_value", "_law_many"] spAllF := by
  refine F.ok sc_L_all (fun vs H Q E h => ?_) (fun cdv A outer s0 H vs Q E hr h => ?_)
  · obtain ⟨l, xs, ss, v, n, rfl, _⟩ := h
    rfl
  · obtain ⟨l, xs, ss, v, n, rfl, SS, s12, vb, n6, q⟩ := h
    have nd := sc_L_all.nd
    have sM : ∀ d ∈ ss.map mirD, SideP d.o d.s d.m := side_mirs SS.side
    refine ⟨_, (pss_cons (ps_set (i := 3) nd rfl (Or.inl rfl) (pe_lst (pa_cons (pv 1) pa_nil)))
      (pss_cons (ps_for PassesOwn.never rfl (pi_range1 (by rfl) B.range (pa_cons (pv 2) pa_nil)) (pg_name (i := 4) nd rfl (Or.inl rfl)) (pss_cons (ps_set (i := 5) nd rfl (Or.inl rfl) (pe_callTy call_list_of (by rfl) G.list (by decide +kernel) (pa_cons (pv 3) pa_nil)))
      (pss_cons (ps_for PassesOwn.never rfl (pi_list (pv 3)) (pg_name (i := 6) nd rfl (Or.inl rfl)) (pss_one (ps_set (i := 5) nd rfl (Or.inl rfl) (pe_op op_cat (pv 5) (pcl Wr hr (by decide) (by rfl) (pa_cons (pv 0) (pa_cons (pv 6) pa_nil)))))))
      (pss_one (ps_set (i := 3) nd rfl (Or.inl rfl) (pe_callB (cr_sortedSetA rfl) (by rfl) G.sorted (by decide +kernel) (pa_cons (pe_callTy (cr_setI rfl) (by rfl) G.set (by decide +kernel) (pa_cons (pv 5) pa_nil)) pa_nil)))))))
      (pss_one (ps_ret (pe_tup (pa_cons (pe_ix ix_list (pv 3) pe_int (fun _ _ => rfl)) (pa_cons (pe_ix ix_list (pv 3) (pe_un un_neg pe_int) (fun _ _ => rfl)) pa_nil))))))), ?_⟩
    walk_at "rd"
    refine ⟨(by show 1 ≤ sizeLine; decide), fun L nL => ?_⟩
    have gL : upd H L (.lst [V.int v]) L = some (.lst [V.int v]) := upd_same
    have sL : Same H (upd H L (.lst [V.int v])) := same_upd nL
    generalize upd H L (.lst [V.int v]) = H1 at gL sL ⊢
    walk_at "rd"
    refine ⟨by omega, by omega, ?_⟩
    rw [Int.toNat_natCast]
    refine for_range (n := n) (fun k st Hz => ∃ (x4 x5 x6 : Option V) (L : Addr) (C : List Int), st = [some (.ref l), some (.int v), some (.int (n : Int)), some (.ref L), x4, x5, x6] ∧ Same H Hz ∧ Hz L = some (.lst (C.map V.int)) ∧ MM ss v k C) ⟨none, none, none, L, [v], rfl, sL, gL, MM.start ss v⟩ ?_ ?_
    · rintro k st Hz hk ⟨x4, x5, x6, L, C, rfl, sz, hL, M⟩
      have c5 : C.length ≤ 121 := Nat.le_trans (M.short SS.side s12) (by omega)
      obtain ⟨b0, b1⟩ := itL_bd SS.side v k
      obtain ⟨b2, b3⟩ := itL_bd sM (-v) k
      walk_at "rd"
      refine ⟨L, _, rfl, .inl (SqL.of hL), fun L2 nL2 => ?_⟩
      have g2 : upd Hz L2 (.lst (C.map V.int)) L2 = some (.lst (C.map V.int)) := upd_same
      have s2 : Same Hz (upd Hz L2 (.lst (C.map V.int))) := same_upd nL2
      generalize upd Hz L2 (.lst (C.map V.int)) = H2 at g2 s2 ⊢
      walk_at "rd"
      refine ⟨⟨_, SqL.of (s2 _ _ hL)⟩, ?_⟩
      refine for_list (K := K) (a := L) (xs := C.map V.int) (fun i st H3 => ∃ (x6 : Option V) (m : Addr), st = [some (.ref l), some (.int v), some (.int (n : Int)), some (.ref L), some (.int (0 + (k : Int))), some (.ref m), x6] ∧ Same H2 H3 ∧ H3 m = some (.lst ((moreW ss C i).map V.int)) ∧ i ≤ C.length) ⟨x6, L2, rfl, Same.refl _, by unfold moreW; rw [List.take_zero, List.map_nil, List.flatten_nil, List.append_nil]; exact g2, Nat.zero_le _⟩ (fun _ _ _ _ ⟨_, _, _, s, _⟩ => SqL.of (s _ _ (s2 _ _ hL))) ?_ ?_
      · rintro i y st H3 hy ⟨x6, m, rfl, s3, hm, ic⟩
        obtain ⟨c, ec, rfl⟩ : ∃ c, C[i]? = some c ∧ y = V.int c := by
          rw [List.getElem?_map] at hy
          obtain ⟨c, a, b⟩ := Option.map_eq_some_iff.mp hy
          exact ⟨c, a, b.symm⟩
        have il : i < C.length := (List.getElem?_eq_some_iff.mp ec).1
        have cb := M.bd c (List.mem_of_getElem? ec)
        have ml := moreW_len SS.l4 C i ic
        unfold loL at cb
        walk_at "rd"
        refine ⟨l, xs, ss, c, rfl, SS.same (sz.trans (s2.trans s3)), by omega, fun W H4 nW s4 hW => ?_⟩
        refine ⟨m, W, _, _, rfl, rfl, s4 _ _ hm, hW, ?_, fun p np => ?_⟩
        · rw [List.length_map, List.length_map, List.length_map]
          have := SS.l4
          exact Nat.le_trans (by omega : _ ≤ 100000) (by decide)
        refine ⟨_, p, rfl, s3.trans (s4.trans (same_upd np)), ?_, il⟩
        rw [moreW_snoc ec, List.map_append]
        exact upd_same
      rintro st H3 ⟨x6, m, rfl, s3, hm, ic⟩
      rw [List.length_map] at hm
      have ml := moreW_len SS.l4 C _ (Nat.le_refl _)
      walk_at "rd"
      refine ⟨m, _, rfl, SqL.of hm, (by unfold scanBound; omega), fun q1 c hc nq => ?_⟩
      walk_at "rd"
      refine ⟨q1, _, c, rfl, upd_same, by omega, fun R p so hR np => ?_⟩
      have sq : Same H3 (upd H3 q1 (SetO w q1 (fun j => decide (j ∈ moreW ss C C.length)) c)) := same_upd nq
      refine ⟨_, _, _, p, R, rfl, sz.trans (s2.trans (s3.trans (sq.trans (same_upd np)))), upd_same, M.next SS.side SS.l4 so fun y => ?_⟩
      rw [hR y, decide_eq_true_eq]
    rintro st Hz ⟨x4, x5, x6, L, C, rfl, sz, hL, M⟩
    obtain ⟨x, t, rfl⟩ : ∃ x t, C = x :: t := by
      cases C with
      | nil => exact absurd M.hi List.not_mem_nil
      | cons x t => exact ⟨x, t, rfl⟩
    obtain ⟨t2, y, e2⟩ : ∃ t2 y, x :: t = t2 ++ [y] := ⟨(x :: t).dropLast, (x :: t).getLast (by simp), (List.dropLast_concat_getLast _).symm⟩
    have e3 := M.first
    have e4 : y = it (hiL ss) n v := by rw [e2] at M; exact M.last
    walk_at "rd"
    refine ⟨L, _, _, _, rfl, rfl, SqL.of hL, at0, ?_⟩
    walk_at "rd"
    refine ⟨L, _, _, V.int y, rfl, rfl, SqL.of hL, (by rw [e2, List.map_append]; exact at_last _ _), ?_⟩
    refine ⟨(by show 2 ≤ sizeLine; decide), fun T nT => ?_⟩
    rw [e3, e4]
    exact q T _ (sz.trans (same_upd nT)) (sz.free nT) upd_same
end
end HT
namespace HT
open PySem L2
theorem per_mir {m : Str} {s : Int} (h : Mode m) : perM s (mir m) = perM s m := by
  rcases h with rfl | rfl | rfl | rfl | rfl <;> rfl
theorem com_mirF : ∀ (ss : List Sd) (n : Nat), (∀ d ∈ ss, SideP d.o d.s d.m) → (ss.map mirD).foldl (fun n d => n.lcm (perN d)) n = ss.foldl (fun n d => n.lcm (perN d)) n
  | [], n, _ => rfl
  | d :: ss, n, h => by
    have e : perN (mirD d) = perN d := congrArg Int.toNat (per_mir (s := d.s) (h d List.mem_cons_self).md)
    rw [List.map_cons, List.foldl_cons, List.foldl_cons, e]
    exact com_mirF ss _ fun x hx => h x (List.mem_cons_of_mem _ hx)
def Sgn (sg : Int) (ss tt : List Sd) : Prop := (sg = 1 ∧ tt = ss) ∨ (sg = -1 ∧ tt = ss.map mirD)
theorem sgn_side {sg : Int} {ss tt : List Sd} (S : Sgn sg ss tt) (hs : ∀ d ∈ ss, SideP d.o d.s d.m) : ∀ d ∈ tt, SideP d.o d.s d.m := by
  rcases S with ⟨_, rfl⟩ | ⟨_, rfl⟩
  · exact hs
  · exact side_mirs hs
theorem sgn_com {sg : Int} {ss tt : List Sd} (S : Sgn sg ss tt) (hs : ∀ d ∈ ss, SideP d.o d.s d.m) : comN tt = comN ss := by
  rcases S with ⟨_, rfl⟩ | ⟨_, rfl⟩
  · rfl
  · exact com_mirF ss 1 hs
theorem sgn_sq {sg : Int} {ss tt : List Sd} (S : Sgn sg ss tt) (x : Int) : sg * (sg * x) = x := by
  rcases S with ⟨rfl, _⟩ | ⟨rfl, _⟩ <;> omega
theorem sgn_bd {sg : Int} {ss tt : List Sd} (S : Sgn sg ss tt) {y b : Int} (h : -b < y ∧ y < b) : -b < sg * y ∧ sg * y < b := by
  rcases S with ⟨rfl, _⟩ | ⟨rfl, _⟩ <;> omega
/-- the next value of a row -/
theorem sgn_next {sg : Int} {ss tt : List Sd} (S : Sgn sg ss tt) (hs : ∀ d ∈ ss, SideP d.o d.s d.m) {y m M : Int}
    (m1 : m ∈ [sg * y] ++ wrL ss (sg * y)) (m2 : ∀ z ∈ [sg * y] ++ wrL ss (sg * y), m ≤ z) (M1 : M ∈ [sg * y] ++ wrL ss (sg * y)) (M2 : ∀ z ∈ [sg * y] ++ wrL ss (sg * y), z ≤ M) :
    (if 0 < sg then M else m) = sg * hiL tt y := by
  have hx : sg * y ∈ [sg * y] ++ wrL ss (sg * y) := List.mem_append_left _ (List.mem_singleton.mpr rfl)
  have hd' : ∀ d ∈ ss, dueM d.o d.s d.m (sg * y) ∈ [sg * y] ++ wrL ss (sg * y) := fun d hd => List.mem_append_right _ (List.mem_map.mpr ⟨d, hd, rfl⟩)
  rcases S with ⟨rfl, rfl⟩ | ⟨rfl, rfl⟩
  · rw [if_pos (by decide), Int.one_mul]
    rw [Int.one_mul] at M1 M2 hx hd'
    refine hip_eq ⟨M2 _ hx, fun d hd => M2 _ (hd' d hd), ?_⟩
    rcases List.mem_append.mp M1 with e | e
    · exact .inl (List.mem_singleton.mp e)
    · obtain ⟨d, hd, e⟩ := List.mem_map.mp e
      exact .inr ⟨d, hd, e.symm⟩
  · rw [if_neg (by decide)]
    have ey : (-1 : Int) * y = -y := by omega
    rw [ey] at m1 m2 hx hd'
    have mr : ∀ d ∈ ss, dueM (mirD d).o (mirD d).s (mirD d).m y = -dueM d.o d.s d.m (-y) := fun d hd => by
      have := due_mirror (o := d.o) (v := -y) (hs d hd).md (hs d hd).s0
      rw [Int.neg_neg] at this
      exact this
    have := hip_eq (ss := ss.map mirD) (v := y) (h := -m) ⟨by have := m2 _ hx; omega, fun e he => by
      obtain ⟨d, hd, rfl⟩ := List.mem_map.mp he
      show dueM (mirD d).o (mirD d).s (mirD d).m y ≤ _
      rw [mr d hd]
      have := m2 _ (hd' d hd)
      omega, by
      rcases List.mem_append.mp m1 with e | e
      · exact .inl (by have := List.mem_singleton.mp e; omega)
      · obtain ⟨d, hd, e⟩ := List.mem_map.mp e
        refine .inr ⟨mirD d, List.mem_map.mpr ⟨d, hd, rfl⟩, ?_⟩
        show -m = dueM (mirD d).o (mirD d).s (mirD d).m y
        rw [mr d hd, ← e]⟩
    omega
theorem len_subN : ∀ {a b : List Int}, a.Pairwise (· ≠ ·) → (∀ x, x ∈ a → x ∈ b) → a.length ≤ b.length
  | [], _, _, _ => Nat.zero_le _
  | x :: a, b, ha, h => by
    obtain ⟨a1, a2⟩ := List.pairwise_cons.mp ha
    have hx := h x List.mem_cons_self
    have e := List.length_erase_of_mem hx
    have p := List.length_pos_of_mem hx
    have ih := len_subN (a := a) (b := b.erase x) a2 fun y hy => (List.mem_erase_of_ne (a1 y hy).symm).mpr (h y (List.mem_cons_of_mem _ hy))
    rw [List.length_cons]
    omega
/-- different remainders are at most as many as the period is long -/
theorem pig {r : Nat → Int} {P i : Nat} (h : ∀ j, j ≤ i → 0 ≤ r j ∧ r j < (P : Int)) (d : ∀ a b, a < b → b ≤ i → r a ≠ r b) : i + 1 ≤ P := by
  have := len_subN (a := (List.range (i + 1)).map r) (b := (List.range P).map fun n : Nat => (n : Int)) ?_ ?_
  · rw [List.length_map, List.length_map, List.length_range, List.length_range] at this
    exact this
  · rw [List.pairwise_map]
    refine (List.pairwise_lt_range (n := i + 1)).imp_of_mem fun {a b} ha hb ab => ?_
    exact d a b ab (by have := List.mem_range.mp hb; omega)
  · intro x hx
    obtain ⟨j, hj, rfl⟩ := List.mem_map.mp hx
    obtain ⟨r0, r1⟩ := h j (by have := List.mem_range.mp hj; omega)
    exact List.mem_map.mpr ⟨(r j).toNat, List.mem_range.mpr (by omega), by omega⟩
def NumsR (r : Nat → Int) (i : Nat) (kvs : List (Key × V)) : Prop := kvs.length ≤ i + 1 ∧ (∀ (p : Int) (y : V), valV kvs (.inl p) = some y → ∃ j : Nat, y = .int (j : Int) ∧ j ≤ i ∧ r j = p) ∧ (∀ j : Nat, j ≤ i → (valV kvs (.inl (r j))).isSome = true) ∧ ∀ a b : Nat, a < b → b ≤ i → r a ≠ r b
theorem numsR_put {r : Nat → Int} {i : Nat} {kvs : List (Key × V)} (N : NumsR r i kvs) (new : ¬ (valV kvs (.inl (r (i + 1)))).isSome = true) : NumsR r (i + 1) (putK kvs (.inl (r (i + 1))) (.int ((i + 1 : Nat) : Int))) := by
  refine ⟨Nat.le_trans (length_putK _ _ _) (by have := N.1; omega), fun p y h => ?_, fun j hj => ?_, fun a b ab hb => ?_⟩
  · rw [valV_put] at h
    split at h
    · rename_i e
      cases h
      refine ⟨i + 1, rfl, Nat.le_refl _, ?_⟩
      injection e with e
      exact e.symm
    · obtain ⟨j, a, b, c⟩ := N.2.1 p y h
      exact ⟨j, a, by omega, c⟩
  · rw [valV_put]
    split
    · rfl
    · rename_i ne
      by_cases e : j = i + 1
      · subst e
        exact absurd rfl ne
      · exact N.2.2.1 j (by omega)
  · by_cases e : b = i + 1
    · subst e
      intro z
      exact new (z ▸ N.2.2.1 a (by omega))
    · exact N.2.2.2 a b ab (by omega)
theorem numsR_one (r : Nat → Int) : NumsR r 0 [(.inl (r 0), .int 0)] := by
  refine ⟨Nat.le_refl _, fun p y h => ?_, fun j hj => ?_, fun a b ab hb => by omega⟩
  · by_cases e : r 0 = p
    · rw [valV_pos (by rw [e])] at h
      cases h
      exact ⟨0, rfl, Nat.le_refl _, e⟩
    · rw [valV_neg (fun z => e (by injection z))] at h
      cases h
  · obtain rfl : j = 0 := by omega
    rw [valV_pos (by rfl)]
    rfl
/-- a row's values -/
def rowL (sg u : Int) (tt : List Sd) (m : Nat) : List Int := (List.range (m + 1)).map fun k => sg * it (hiL tt) k u
theorem rowL_len (sg u : Int) (tt : List Sd) (m : Nat) : (rowL sg u tt m).length = m + 1 := by unfold rowL; rw [List.length_map, List.length_range]
theorem rowL_succ (sg u : Int) (tt : List Sd) (m : Nat) : rowL sg u tt (m + 1) = rowL sg u tt m ++ [sg * it (hiL tt) (m + 1) u] := by
  unfold rowL
  rw [List.range_succ (n := m + 1), List.map_append]
  rfl
theorem rowL_at {sg u : Int} {tt : List Sd} {m k : Nat} (h : k ≤ m) : ((rowL sg u tt m).map V.int)[k]? = some (V.int (sg * it (hiL tt) k u)) := by
  unfold rowL
  rw [List.map_map, List.getElem?_map, List.getElem?_range (by omega)]
  rfl
theorem rowL_last (sg u : Int) (tt : List Sd) (m : Nat) : ∃ T : List V, (rowL sg u tt m).map V.int = T ++ [V.int (sg * it (hiL tt) m u)] := by
  unfold rowL
  rw [List.range_succ, List.map_append, List.map_append]
  exact ⟨_, rfl⟩
theorem atI_natV {xs : List V} {k : Nat} {y : V} (h : xs[k]? = some y) : atI xs (k : Int) = some y := by
  have hk : k < xs.length := (List.getElem?_eq_some_iff.mp h).1
  unfold atI
  rw [ixN_in (by omega) (by omega), Int.toNat_natCast]
  exact h
theorem sgn_rem {sg : Int} {ss tt : List Sd} (S : Sgn sg ss tt) {a b P : Int} (h : (sg * a) % P = (sg * b) % P) : P ∣ b - a := by
  have z : P ∣ sg * b - sg * a := Int.dvd_of_emod_eq_zero (Int.emod_eq_emod_iff_emod_sub_eq_zero.mp h.symm)
  rcases S with ⟨rfl, _⟩ | ⟨rfl, _⟩
  · rw [Int.one_mul, Int.one_mul] at z
    exact z
  · rw [show (-1 : Int) * b - -1 * a = -(b - a) by omega] at z
    exact (Int.dvd_neg).mp z
/-- the row goes on alike -/
theorem row_end {sg : Int} {ss tt : List Sd} (S : Sgn sg ss tt) (hs : ∀ d ∈ tt, SideP d.o d.s d.m) {u : Int} {j m n : Nat} (jm : j ≤ m) (mn : m + 1 ≤ n) (hc : ((comN tt : Nat) : Int) ∣ it (hiL tt) (m + 1) u - it (hiL tt) j u) :
    sg * it (hiL tt) (j + (n - j) % (m + 1 - j)) u + (((n - j) / (m + 1 - j) : Nat) : Int) * (sg * it (hiL tt) (m + 1) u - sg * it (hiL tt) j u) = sg * it (hiL tt) n u := by
  have dm := Nat.mod_add_div (n - j) (m + 1 - j)
  have g := it_again hs (v := u) (j := j) (p := m + 1 - j) hc (by rw [show j + (m + 1 - j) = m + 1 by omega]; omega) ((n - j) % (m + 1 - j)) ((n - j) / (m + 1 - j))
  rw [show j + (n - j) % (m + 1 - j) + (m + 1 - j) * ((n - j) / (m + 1 - j)) = n by omega] at g
  rw [g, Int.mul_add, ← Int.mul_sub, ← Int.mul_assoc, ← Int.mul_assoc, Int.mul_comm sg ((((n - j) / (m + 1 - j) : Nat)) : Int)]
end HT
namespace HT
open PySem L2
def spFur : Sp := fun vs H Q _ => ∃ (l : Addr) (xs : List V) (ss tt : List Sd) (u : Int) (n : Nat) (sg : Int), vs = [.ref l, .int (sg * u), .int (n : Int), .int sg] ∧ SidesAt H l xs ss ∧ Sgn sg ss tt ∧ (-2 ^ 500 < u ∧ u < 2 ^ 500) ∧ n ≤ 10 ^ 40 ∧ (comN ss ≤ 20000 ∨ n ≤ 10000) ∧
  ∀ H', Same H H' → Q (.int (sg * it (hiL tt) n u)) H'
def remL (sg u : Int) (tt : List Sd) (P : Nat) (k : Nat) : Int := (sg * it (hiL tt) k u) % (P : Int)
theorem at_wr {A B : HO} {H : Hp} {p : Addr} {G : Hp → Prop} (e : A = B) (g : G (upd H p B)) : G (upd H p A) := e ▸ g
section
variable {P : Program} {w : World} {K : PySem.W.Frag} {mg : Str → Option Value} {base : Heap} {fB fH : Addr} {dB dH : FuncData}
theorem ok_fur {f : Addr} {fd : FuncData} (F : Fun K "_law_furthest" "_law_furthest" s_L_furthest f fd) (B : Blt mg) (MT : MaxT mg) (Pe : Cal P w K mg base "_law_period" 2 ["_law_sides"] spPer fB dB) (Wr : Cal P w K mg base "_law_written" 3 ["_law_sides", "_law_value"] spWrL fH dH) : FnOk P w K mg base CX0 4 f fd ["_law_sides", "_law_value", "_law_many", "_law_sign"] spFur := by
  refine F.ok sc_L_furthest (fun vs H Q E h => ?_) (fun cdv A outer s0 H vs Q E hr h => ?_)
  · obtain ⟨l, xs, ss, tt, u, n, sg, rfl, _⟩ := h
    rfl
  · obtain ⟨l, xs, ss, tt, u, n, sg, rfl, SS, SG, ub, n40, sz, q⟩ := h
    have nd := sc_L_furthest.nd
    refine ⟨_, (pss_cons (ps_set (i := 4) nd rfl (Or.inl rfl) (pcl Pe hr (by decide) (by rfl) (pa_cons (pv 0) pa_nil)))
      (pss_cons (ps_par (i := 5) (j := 6) (by rfl) nd rfl rfl (by decide) rfl rfl (pa_cons (pe_lst (pa_cons (pv 1) pa_nil)) (pa_cons (pe_disp (pps_cons (pe_op op_mod (pv 1) (pv 4)) pe_int pps_nil) rfl rfl nofun (by decide)) pa_nil)) (by rfl))
      (pss_cons (ps_while PassesOwn.never (pt_cmpR op_le (pe_callB call_len_seq (by rfl) B.len PySem.boot_len (pa_cons (pv 5) pa_nil)) (pv 2) (nomark _)) (pss_cons (ps_set (i := 7) nd rfl (Or.inl rfl) (pe_op op_cat (pe_lst (pa_cons (pe_ix ix_list (pv 5) (pe_un un_neg pe_int) (fun _ _ => rfl)) pa_nil)) (pcl Wr hr (by decide) (by rfl) (pa_cons (pv 0) (pa_cons (pe_ix ix_list (pv 5) (pe_un un_neg pe_int) (fun _ _ => rfl)) pa_nil)))))
      (pss_cons (ps_set (i := 1) nd rfl (Or.inl rfl) (pe_ix ix_list (pe_lst (pa_cons (pe_callB (cr_min rfl) (by rfl) MT.min (by decide +kernel) (pa_cons (pv 7) pa_nil)) (pa_cons (pe_callB (cr_max rfl) (by rfl) MT.max (by decide +kernel) (pa_cons (pv 7) pa_nil)) pa_nil))) (pe_callTy call_int1 (by rfl) B.int (by decide +kernel) (pa_cons (pe_cmpR op_gt (pv 3) pe_int (nomark _)) pa_nil)) (fun _ _ => rfl)))
      (pss_cons (ps_if (pt_cmp (pc_din (lt1 hr.units) (pe_op op_mod (pv 1) (pv 4)) (pv 6)) (by rfl)) (pss_cons (ps_set (i := 8) nd rfl (Or.inl rfl) (pe_dget (lt1 hr.units) (pv 6) (pe_op op_mod (pv 1) (pv 4)) (fun _ _ => rfl)))
      (pss_cons (ps_set (i := 9) nd rfl (Or.inl rfl) (pe_op op_sub (pe_callB call_len_seq (by rfl) B.len PySem.boot_len (pa_cons (pv 5) pa_nil)) (pv 8)))
      (pss_cons (ps_set (i := 10) nd rfl (Or.inl rfl) (pe_op op_fdivW (pe_callTy call_int1 (by rfl) B.int (by decide +kernel) (pa_cons (pe_op op_sub (pv 2) (pv 8)) pa_nil)) (pv 9)))
      (pss_cons (ps_set (i := 11) nd rfl (Or.inl rfl) (pe_op op_mulW (pv 10) (pe_op op_sub (pv 1) (pe_ix ix_list (pv 5) (pv 8) (fun _ _ => rfl)))))
      (pss_one (ps_ret (pe_op op_add (pe_ix ix_list (pv 5) (pe_op op_sub (pv 2) (pe_op op_mulW (pv 10) (pv 9))) (fun _ _ => rfl)) (pv 11)))))))) pss_nil)
      (pss_cons (ps_dput (lt1 hr.units) (pv 6) (pe_op op_mod (pv 1) (pv 4)) (pe_callB call_len_seq (by rfl) B.len PySem.boot_len (pa_cons (pv 5) pa_nil)) rfl)
      (pss_one (ps_expr (pe_bm PySem.F.plainAttrs_list PySem.F.slot_list_append PySem.F.type_list_append mt_append (pv 5) (pa_cons (pv 1) pa_nil)))))))))
      (pss_one (ps_ret (pe_ix ix_list (pv 5) (pv 2) (fun _ _ => rfl))))))), ?_⟩
    have hs := sgn_side SG SS.side
    have ec := sgn_com SG SS.side
    have cp := com_pos ss 1 (by decide) SS.side
    have cp2 : 0 < ((comN ss : Nat) : Int) := by
      show 0 < ((ss.foldl (fun n d => n.lcm (perN d)) 1 : Nat) : Int)
      omega
    have rb : ∀ j, 0 ≤ remL sg u tt (comN ss) j ∧ remL sg u tt (comN ss) j < ((comN ss : Nat) : Int) := fun j => ⟨Int.emod_nonneg _ (by omega), Int.emod_lt_of_pos _ cp2⟩
    walk_at "rd"
    refine ⟨l, xs, ss, rfl, SS, ?_⟩
    walk_at "rd"
    refine ⟨(by show 1 ≤ sizeLine; decide), fun L nL => ?_⟩
    have gL : upd H L (.lst [V.int (sg * u)]) L = some (.lst [V.int (sg * u)]) := upd_same
    have sL : Same H (upd H L (.lst [V.int (sg * u)])) := same_upd nL
    generalize upd H L (.lst [V.int (sg * u)]) = H1 at gL sL ⊢
    walk_at "rd"
    refine fun D nD => ?_
    walk_at "rd"
    refine ⟨cp2, ?_⟩
    refine ⟨upd_same, [(.inl (remL sg u tt (comN ss) 0), .int 0)], rfl, (by show 1 ≤ 15; decide), ?_⟩
    generalize e_D : upd (upd H1 D _) D _ = H2
    have gD : H2 D = some (.dK [(.inl (remL sg u tt (comN ss) 0), .int 0)]) := by rw [← e_D]; exact upd_same
    have sD : Same H1 H2 := by rw [← e_D]; exact fun b u z => (upd_ne (ne_of_none z nD)).trans ((upd_ne (ne_of_none z nD)).trans z)
    clear e_D
    have nLD : L ≠ D := fun z => by rw [← z, gL] at nD; cases nD
    walk_at "rd"
    refine ⟨_, _, rfl, ?_⟩
    refine ⟨fun μ st H' => ∃ (m : Nat) (x7 x8 x9 x10 x11 : Option V) (kvs : List (Key × V)), μ = n - m ∧ st = [some (.ref l), some (.int (sg * it (hiL tt) m u)), some (.int (n : Int)), some (.int sg), some (.int ((comN ss : Nat) : Int)), some (.ref L), some (.ref D), x7, x8, x9, x10, x11] ∧ Same H H' ∧ H' L = some (.lst ((rowL sg u tt m).map V.int)) ∧ H' D = some (.dK kvs) ∧ NumsR (remL sg u tt (comN ss)) m kvs ∧ m ≤ n,
      ⟨_, 0, none, none, none, none, none, _, rfl, rfl, sL.trans sD, sD _ _ gL, gD, numsR_one (remL sg u tt (comN ss)), Nat.zero_le _⟩, ?_⟩
    rintro μ st H' ⟨m, x7, x8, x9, x10, x11, kvs, rfl, rfl, sm, hL, hD, N, mn⟩
    have m20 : m ≤ 20000 := by
      have := pig (r := remL sg u tt (comN ss)) (P := comN ss) (i := m) (fun j _ => rb j) N.2.2.2
      omega
    obtain ⟨b0, b1⟩ := itL_bd hs u m
    obtain ⟨b2, b3⟩ := itL_bd hs u (m + 1)
    have sb0 := sgn_bd (y := it (hiL tt) m u) (b := 2 ^ 800) SG ⟨by omega, by omega⟩
    have sb1 := sgn_bd (y := it (hiL tt) (m + 1) u) (b := 2 ^ 800) SG ⟨by omega, by omega⟩
    obtain ⟨T0, eT⟩ := rowL_last sg u tt m
    have hlast : atI ((rowL sg u tt m).map V.int) (-1) = some (V.int (sg * it (hiL tt) m u)) := by rw [eT]; exact at_last _ _
    walk_at "rd"
    refine ⟨L, _, rfl, .inl (SqL.of hL), ?_⟩
    rw [List.length_map, rowL_len]
    walk_at "rd"
    refine ite2 (fun z => ?_) (fun z => ?_)
    · have mlt : m + 1 ≤ n := by
        have : ((m + 1 : Nat) : Int) ≤ (n : Int) := of_decide_eq_true z
        omega
      refine ⟨fun σ' H'' => ∃ (x7 x8 x9 x10 x11 : Option V) (kvs : List (Key × V)), σ' = [some (.ref l), some (.int (sg * it (hiL tt) (m + 1) u)), some (.int (n : Int)), some (.int sg), some (.int ((comN ss : Nat) : Int)), some (.ref L), some (.ref D), x7, x8, x9, x10, x11] ∧ Same H H'' ∧ H'' L = some (.lst ((rowL sg u tt (m + 1)).map V.int)) ∧ H'' D = some (.dK kvs) ∧ NumsR (remL sg u tt (comN ss)) (m + 1) kvs,
        fun σ' H'' ⟨x7, x8, x9, x10, x11, kvs, e, e2, e3, e4, e5⟩ => ⟨n - (m + 1), by omega, m + 1, x7, x8, x9, x10, x11, kvs, rfl, e, e2, e3, e4, e5, mlt⟩, ?_⟩
      walk_at "rd"
      refine ⟨L, _, _, _, rfl, rfl, SqL.of hL, hlast, ?_⟩
      refine ⟨(by show 1 ≤ sizeLine; decide), fun L2 nL2 => ?_⟩
      have g2 : upd H' L2 (.lst [V.int (sg * it (hiL tt) m u)]) L2 = some (.lst [V.int (sg * it (hiL tt) m u)]) := upd_same
      have s2 : Same H' (upd H' L2 (.lst [V.int (sg * it (hiL tt) m u)])) := same_upd nL2
      generalize upd H' L2 (.lst [V.int (sg * it (hiL tt) m u)]) = H2 at g2 s2 ⊢
      walk_at "rd"
      refine ⟨L, _, _, _, rfl, rfl, SqL.of (s2 _ _ hL), hlast, ?_⟩
      refine ⟨l, xs, ss, _, rfl, SS.same (sm.trans s2), by omega, fun W H3 nW s3 hW' => ?_⟩
      have hW : H3 W = some (.lst ((wrL ss (sg * it (hiL tt) m u)).map V.int)) := hW'
      clear hW'
      refine ⟨L2, W, _, _, rfl, rfl, s3 _ _ g2, hW, ?_, fun p np => ?_⟩
      · have := SS.l4
        have e0 : (wrL ss (sg * it (hiL tt) m u)).length = ss.length := List.length_map ..
        rw [List.length_map, e0]
        exact Nat.le_trans (by show 1 + ss.length ≤ 100; omega) (by decide)
      have gp : upd H3 p (.lst ([V.int (sg * it (hiL tt) m u)] ++ (wrL ss (sg * it (hiL tt) m u)).map V.int)) p = some (.lst (([sg * it (hiL tt) m u] ++ wrL ss (sg * it (hiL tt) m u)).map V.int)) := upd_same
      have sp : Same H3 (upd H3 p (.lst ([V.int (sg * it (hiL tt) m u)] ++ (wrL ss (sg * it (hiL tt) m u)).map V.int))) := same_upd np
      refine at_wr rfl ?_
      generalize upd H3 p (.lst ([V.int (sg * it (hiL tt) m u)] ++ (wrL ss (sg * it (hiL tt) m u)).map V.int)) = H4 at gp sp ⊢
      have hne : 0 < ([sg * it (hiL tt) m u] ++ wrL ss (sg * it (hiL tt) m u)).length := by rw [List.length_append]; show 0 < 1 + _; omega
      walk_at "rd"
      refine ⟨p, _, rfl, SqL.of gp, hne, fun m2 mi2 mm2 => ?_⟩
      walk_at "rd"
      refine ⟨p, _, rfl, SqL.of gp, hne, fun M2 Mi2 Mm2 => ?_⟩
      have nx := sgn_next SG SS.side mi2 mm2 Mi2 Mm2
      have ix : atI [V.int m2, .int M2] (if decide (0 < sg) = true then 1 else 0) = some (.int (if 0 < sg then M2 else m2)) := by
        by_cases z : 0 < sg
        · rw [if_pos (decide_eq_true z), if_pos z]
          rfl
        · rw [if_neg (fun c => z (of_decide_eq_true c)), if_neg z]
          rfl
      rw [nx, show hiL tt (it (hiL tt) m u) = it (hiL tt) (m + 1) u from rfl] at ix
      walk_at "rd"
      refine ⟨(by show 2 ≤ sizeLine; decide), fun L9 nL9 => ?_⟩
      have g9 : upd H4 L9 (.lst [V.int m2, .int M2]) L9 = some (.lst [V.int m2, .int M2]) := upd_same
      have s9 : Same H4 (upd H4 L9 (.lst [V.int m2, .int M2])) := same_upd nL9
      generalize upd H4 L9 (.lst [V.int m2, .int M2]) = H5 at g9 s9 ⊢
      walk_at "rd"
      refine .inr ⟨_, rfl, ?_⟩
      refine ⟨L9, _, _, _, rfl, rfl, SqL.of g9, ix, ?_⟩
      have sX : Same H' H5 := s2.trans (s3.trans (sp.trans s9))
      have hL5 := sX _ _ hL
      have hD5 := sX _ _ hD
      walk_at "rd"
      refine ⟨cp2, ?_⟩
      walk_at "rd"
      refine ⟨D, _, rfl, DGet.k (k := .inl (remL sg u tt (comN ss) (m + 1))) hD5, ?_⟩
      walk_at "rd"
      refine ite2 (fun zk => ?_) (fun zk => ?_)
      · obtain ⟨y, hy⟩ := Option.isSome_iff_exists.mp zk
        obtain ⟨j, rfl, jm, ej⟩ := N.2.1 _ y hy
        have dg := DGet.k (k := .inl (remL sg u tt (comN ss) (m + 1))) hD5
        rw [hy] at dg
        have hc : ((comN tt : Nat) : Int) ∣ it (hiL tt) (m + 1) u - it (hiL tt) j u := by
          rw [ec]
          exact sgn_rem SG ej
        have re := row_end SG hs jm mlt hc
        obtain ⟨b4, b5⟩ := itL_bd hs u j
        have sb4 := sgn_bd (y := it (hiL tt) j u) (b := 2 ^ 800) SG ⟨by omega, by omega⟩
        walk_at "rd"
        refine ⟨cp2, ?_⟩
        walk_at "rd"
        refine ⟨D, _, rfl, dg, ?_⟩
        walk_at "rd"
        refine ⟨L, _, rfl, .inl (SqL.of hL5), ?_⟩
        rw [List.length_map, rowL_len]
        walk_at "rd"
        refine ⟨fdiv_ok _ (by omega) (lg_small (by omega) (by omega)), ?_⟩
        have e1 : (n : Int) - (j : Int) = ((n - j : Nat) : Int) := by omega
        have e2 : ((m + 1 : Nat) : Int) - (j : Int) = ((m + 1 - j : Nat) : Int) := by omega
        have dm := Nat.mod_add_div (n - j) (m + 1 - j)
        have ml := Nat.mod_lt (n - j) (show 0 < m + 1 - j by omega)
        have dl := Nat.div_le_self (n - j) (m + 1 - j)
        rw [e1, e2]
        have ed : ((n - j : Nat) : Int) / ((m + 1 - j : Nat) : Int) = (((n - j) / (m + 1 - j) : Nat) : Int) := (Int.natCast_ediv _ _).symm
        generalize (n - j) / (m + 1 - j) = k at re dm dl ed
        generalize (n - j) % (m + 1 - j) = rr at re dm ml
        walk_at "rd"
        refine ⟨L, _, _, _, rfl, rfl, SqL.of hL5, atI_natV (rowL_at jm), ?_⟩
        have c1 : CMulW (((n - j : Nat) : Int) / ((m + 1 - j : Nat) : Int)) (sg * it (hiL tt) (m + 1) u - sg * it (hiL tt) j u) := by
          rw [ed]
          exact mulW (by omega) (by omega)
        have c2 : CMulW (((n - j : Nat) : Int) / ((m + 1 - j : Nat) : Int)) (((m + 1 : Nat) : Int) - (j : Int)) := by
          rw [ed]
          exact mulW (by omega) (by omega)
        have e3 : (n : Int) - (k : Int) * ((m + 1 - j : Nat) : Int) = ((j + rr : Nat) : Int) := by
          have e4 : (n : Int) = ((j + (rr + (m + 1 - j) * k) : Nat) : Int) := by omega
          rw [e4, Int.mul_comm, ← Int.natCast_mul]
          omega
        have hix : atI ((rowL sg u tt m).map V.int) ((n : Int) - ((n - j : Nat) : Int) / ((m + 1 - j : Nat) : Int) * (((m + 1 : Nat) : Int) - (j : Int))) = some (V.int (sg * it (hiL tt) (j + rr) u)) := by
          rw [ed, e2, e3]
          exact atI_natV (rowL_at (by omega))
        rw [← ed] at re
        walk_at "rd"
        refine ⟨c1, ?_⟩
        walk_at "rd"
        refine ⟨c2, ?_⟩
        walk_at "rd"
        refine ⟨L, _, _, _, rfl, rfl, SqL.of hL5, hix, ?_⟩
        walk_at "rd"
        have fin := q _ (sm.trans sX)
        rw [← re] at fin
        exact fin
      · walk_at "rd"
        refine ⟨L, _, rfl, .inl (SqL.of hL5), ?_⟩
        rw [List.length_map, rowL_len]
        walk_at "rd"
        refine ⟨cp2, ?_⟩
        walk_at "rd"
        have nD0 : H D = none := sL.free nD
        refine ⟨D, _, rfl, DPut.k (k := .inl (remL sg u tt (comN ss) (m + 1))) hD5 (Nat.lt_of_le_of_lt N.1 (Nat.lt_of_lt_of_le (by omega : m + 1 < 100000) (by decide))), ?_⟩
        walk_at "rd"
        refine ⟨.inl ⟨rfl, _, SqL.of ((upd_ne nLD).trans hL5)⟩, ?_⟩
        walk_at "rd"
        refine ⟨L, _, _, rfl, rfl, (upd_ne nLD).trans hL5, (by rw [List.length_map, rowL_len]; exact Nat.lt_of_lt_of_le (by omega : m + 1 < 100000) (by decide)), ?_⟩
        refine ⟨_, _, _, _, _, _, rfl, fun b o z => (upd_ne (ne_of_none z nL)).trans ((upd_ne (ne_of_none z nD0)).trans (sX _ _ (sm _ _ z))), ?_, (upd_ne (Ne.symm nLD)).trans upd_same, numsR_put N zk⟩
        rw [rowL_succ, List.map_append]
        exact upd_same
    · have mz : ¬ ((m + 1 : Nat) : Int) ≤ (n : Int) := fun c => z (decide_eq_true c)
      have e0 : m = n := by omega
      subst e0
      walk_at "rd"
      refine ⟨L, _, _, _, rfl, rfl, SqL.of hL, atI_natV (rowL_at (Nat.le_refl _)), ?_⟩
      exact q _ sm
end
end HT
namespace HT
open PySem L2
section
variable {P : Program} {w : World} {K : PySem.W.Frag} {mg : Str → Option Value} {base : Heap}
/-- a def's promise among errors where none comes -/
theorem of_x {k : Nat} {f : Addr} {fd : FuncData} {ps : List Str} {sp : Sp} (F : FnOk P w K mg base (L2.CX P w) k f fd ps sp) : FnOk P w K mg base CX0 k f fd ps (fun vs H Q _ => sp vs H Q fun _ _ _ => False) :=
  ⟨fun vs H Q E h => F.len vs H Q _ h, fun A outer s0 H args us vs Q E hr he hb hv hs => codeAny_mono (F.run A outer s0 H args us vs Q _ hr he hb hv hs) fun r s' h => by
    unfold CR at h ⊢
    split at h
    · exact h
    · exact h
    · obtain ⟨_, _, _, _, _, _, _, _, _, _, _, _, z⟩ := h
      exact z.elim⟩
end
end HT
namespace HT
open PySem L2
theorem com_iff : ∀ (ss : List Sd) (n m : Nat), ss.foldl (fun n d => n.lcm (perN d)) n ∣ m ↔ n ∣ m ∧ ∀ d ∈ ss, perN d ∣ m
  | [], n, m => ⟨fun h => ⟨h, fun _ z => nomatch z⟩, fun h => h.1⟩
  | d :: ss, n, m => by
    rw [List.foldl_cons, com_iff ss _ m, Nat.lcm_dvd_iff]
    constructor
    · rintro ⟨⟨a, b⟩, c⟩
      exact ⟨a, fun e he => (List.mem_cons.mp he).elim (fun z => z ▸ b) (c e)⟩
    · rintro ⟨a, c⟩
      exact ⟨⟨a, c d List.mem_cons_self⟩, fun e he => c e (List.mem_cons_of_mem _ he)⟩
theorem comN_dvd {ss : List Sd} {m : Nat} : comN ss ∣ m ↔ ∀ d ∈ ss, perN d ∣ m := by
  unfold comN
  rw [com_iff]
  exact ⟨fun h => h.2, fun h => ⟨Nat.one_dvd _, h⟩⟩
theorem perM_lift (s f : Int) (m : Str) : perM (s * f) m = perM s m * f := by
  unfold perM
  split
  · rw [Int.mul_assoc]
  · rfl
theorem com_lift {ss : List Sd} (hs : ∀ d ∈ ss, SideP d.o d.s d.m) {f : Int} (hf : 1 ≤ f) : ((comN (ss.map (lift f)) : Nat) : Int) ∣ (comN ss : Int) * f := by
  have e : (comN ss : Int) * f = ((comN ss * f.toNat : Nat) : Int) := by rw [Int.natCast_mul, Int.toNat_of_nonneg (by omega)]
  rw [e]
  refine Int.natCast_dvd_natCast.mpr (comN_dvd.mpr fun d' hd' => ?_)
  obtain ⟨d, hd, rfl⟩ := List.mem_map.mp hd'
  have a : perN d ∣ comN ss := comN_dvd.mp (Nat.dvd_refl _) d hd
  have p1 : perN (lift f d) = perN d * f.toNat := by
    have pb := perM_bd (hs d hd)
    show (perM (d.s * f) d.m).toNat = (perM d.s d.m).toNat * f.toNat
    rw [perM_lift]
    have : 0 ≤ perM d.s d.m * f := Int.mul_nonneg (by omega) (by omega)
    have e2 : ((perM d.s d.m * f).toNat : Int) = (((perM d.s d.m).toNat * f.toNat : Nat) : Int) := by
      rw [Int.toNat_of_nonneg this, Int.natCast_mul, Int.toNat_of_nonneg (by omega), Int.toNat_of_nonneg (by omega)]
    exact_mod_cast e2
  rw [p1]
  exact Nat.mul_dvd_mul_right a _
theorem rec_of {ss : List Sd} (hs : ∀ d ∈ ss, SideP d.o d.s d.m) (h : comN ss ≤ 10000) (v : Int) : Rec ss v := by
  have cp := com_pos ss 1 (by decide) hs
  have cp2 : 0 < ((comN ss : Nat) : Int) := by
    show 0 < ((ss.foldl (fun n d => n.lcm (perN d)) 1 : Nat) : Int)
    omega
  refine Classical.byContradiction fun no => ?_
  have := pig (r := fun k => it (hiL ss) k v % ((comN ss : Nat) : Int)) (P := comN ss) (i := comN ss) (fun j _ => ⟨Int.emod_nonneg _ (by omega), Int.emod_lt_of_pos _ cp2⟩) (fun a b ab hb e => no ⟨a, b, ab, by omega, e⟩)
  omega
theorem rec_lift {ss : List Sd} (hs : ∀ d ∈ ss, SideP d.o d.s d.m) {f : Int} (hf : 1 ≤ f) {v : Int} (h : Rec ss v) : Rec (ss.map (lift f)) (v * f) := by
  obtain ⟨i, j, ij, hj, e⟩ := h
  refine ⟨i, j, ij, hj, ?_⟩
  rw [itL_lift hf hs, itL_lift hf hs]
  have z : ((comN ss : Nat) : Int) ∣ it (hiL ss) i v - it (hiL ss) j v := Int.dvd_of_emod_eq_zero (Int.emod_eq_emod_iff_emod_sub_eq_zero.mp e)
  refine Int.emod_eq_emod_iff_emod_sub_eq_zero.mpr (Int.emod_eq_zero_of_dvd (Int.dvd_trans (com_lift hs hf) ?_))
  rw [← Int.sub_mul]
  exact Int.mul_dvd_mul_right f z
theorem lo_lift {ss : List Sd} (hs : ∀ d ∈ ss, SideP d.o d.s d.m) {f : Int} (hf : 1 ≤ f) (v : Int) (n : Nat) : -(it (hiL ((ss.map (lift f)).map mirD)) n (-(v * f))) = loL ss n v * f := by
  rw [mir_lift, show -(v * f) = (-v) * f by rw [Int.neg_mul], itL_lift hf (side_mirs hs)]
  unfold loL
  rw [Int.neg_mul]
def spWiL : Sp := fun vs H Q _ => ∃ (l : Addr) (xs : List V) (ss : List Sd) (v f : Int) (n : Nat), vs = [.ref l, .int (v * f), .int (n : Int)] ∧ SidesAt H l xs (ss.map (lift f)) ∧ (∀ d ∈ ss, SideP d.o d.s d.m) ∧ 1 ≤ f ∧ (-2 ^ 590 < v * f ∧ v * f < 2 ^ 590) ∧ n ≤ 10 ^ 40 ∧ comN ss ≤ 10000 ∧
  ∀ (p : Addr) (H' : Hp), Same H H' → H p = none → H' p = some (.tup [.int (loL ss n v * f), .int (it (hiL ss) n v * f)]) → Q (.ref p) H'
def spWord53 : Sp := fun vs H Q _ => ∃ (l : Addr) (xs : List V) (ss : List Sd) (v : Int) (n : Nat), vs = [.ref l, .int v, .int (n : Int)] ∧ SidesAt H l xs ss ∧ (-2 ^ 590 < v ∧ v < 2 ^ 590) ∧ n ≤ 10 ^ 40 ∧
  ((n ≤ 10000 ∨ (Rec ss v ∧ Rec (ss.map mirD) (-v))) → ∀ (p : Addr) (H' : Hp), Same H H' → H' p = some (.tup [.int (loL ss n v), .int (it (hiL ss) n v)]) → Q (.ref p) H') ∧
  (10000 < n → ¬ (Rec ss v ∧ Rec (ss.map mirD) (-v)) → ∀ H', Same H H' → Q (.str "many") H')
section
variable {P : Program} {w : World} {K : PySem.W.Frag} {mg : Str → Option Value} {base : Heap} {fV Bx : Addr} {dV : FuncData} {C : Nat → Addr}
theorem ok_wil {f : Addr} {fd : FuncData} (F : FnOk P w K mg base (L2.CX P w) 6 f fd ["sides", "value", "many"] (spWiX C)) : FnOk P w K mg base CX0 6 f fd ["sides", "value", "many"] spWiL := by
  have G := of_x F
  have key : ∀ vs H Q E, spWiL vs H Q E → spWiX C vs H Q (fun _ _ _ => False) := fun vs H Q E ⟨l, xs, ss, v, f, n, e, S, hs, hf, vb, n40, c, q⟩ => by
    refine ⟨l, xs, _, v * f, n, e, S, vb, n40, fun _ p H' s np hp => q p H' s np ?_, fun _ no H' _ => no ⟨rec_lift hs hf (rec_of hs c v), ?_⟩⟩
    · rw [lo_lift hs hf, itL_lift hf hs] at hp
      exact hp
    · rw [mir_lift, show -(v * f) = (-v) * f by rw [Int.neg_mul]]
      exact rec_lift (side_mirs hs) hf (rec_of (side_mirs hs) (by rw [show comN (ss.map mirD) = comN ss from com_mirF ss 1 hs]; exact c) (-v))
  exact ⟨fun vs H Q E h => G.len vs H Q E (key vs H Q E h), fun A outer s0 H args us vs Q E hr he hb hv h => G.run A outer s0 H args us vs Q E hr he hb hv (key vs H Q E h)⟩
theorem ok_L_word {f : Addr} {fd : FuncData} (F : Fun K "_law_word" "_law_word" s_L_word f fd) (R : Er K mg C Bx) (em2 : PySem.W.exmOne K (.ref (C 2)) (.ref (C 2)) = some true) (Cl : CalX P w K mg base "within" 6 ["sides", "value", "many"] (spWiX C) fV dV) : FnOk P w K mg base CX0 7 f fd ["_law_sides", "_law_value", "_law_many"] spWord53 := by
  refine F.ok sc_L_word (fun vs H Q E h => ?_) (fun cdv A outer s0 H vs Q E hr h => ?_)
  · obtain ⟨l, xs, ss, v, n, rfl, _⟩ := h
    rfl
  · obtain ⟨l, xs, ss, v, n, rfl, SS, vb, n40, q, qe⟩ := h
    have nd := sc_L_word.nd
    refine ⟨_, pss_cons (ps_set (i := 3) nd rfl (Or.inl rfl) pe_non)
      (pss_cons (ps_set (i := 4) nd rfl (Or.inl rfl) pe_non)
      (pss_cons (ps_try_keep (i := 5) rfl rfl rfl nd rfl rfl ⟨rfl, by decide, .inl R.g2⟩ takes0 (fun W pn xe tk _ => pss_one (ps_set (i := 4) nd rfl (Or.inl rfl) (pcx Cl hr (by decide) (by rfl) tk (pa_cons (pv 0) (pa_cons (pv 1) (pa_cons (pv 2) pa_nil))))))
        (fun a rc kl dd pn hz hf => pss_one (ps_set (i := 3) nd rfl (Or.inl rfl) (pv 5))))
      (pss_cons (ps_if (pt_cmpR op_notN (pv 3) pe_non (nomark _)) (pss_one (ps_ret pe_str)) pss_nil)
      (pss_one (ps_ret (pv 4)))))), ?_⟩
    walk_at "rd"
    refine ⟨l, xs, ss, v, n, rfl, SS, vb, n40, fun g p H1 s1 np hp => ?_, fun g1 g2 H1 s1 => ?_⟩
    · walk_at "rd"
      refine ⟨rfl, ?_⟩
      walk_at "rd"
      exact q g p H1 s1 hp
    · refine ⟨true, em2, fun _ => ⟨rfl, fun pe hpe => ?_⟩, fun z => Bool.noConfusion z⟩
      walk_at "rd"
      refine ⟨rfl, ?_⟩
      walk_at "rd"
      exact qe g1 g2 _ (fun b u z => (upd_ne (ne_of_none (s1 _ _ z) hpe)).trans (s1 _ _ z))
end
end HT
namespace HT
open PySem L2
def pairD (x y : Int) : PyData := .tuple [.int x, .int y]
theorem pair_dp {K : PySem.W.Frag} {H : Hp} {p : Addr} {x y : Int} (h : H p = some (.tup [.int x, .int y])) : Dp K H (.ref p) (pairD x y) := .tup (SqT.of h) (.cons (.int _) (.cons (.int _) .nil))
theorem shaped_pair (x y : Int) : SeqAt.shaped (pairD x y) = true := by
  simp [pairD, SeqAt.shaped, PyData.canLayAll0, PyData.canLay0, PyData.depth, PyData.depthAll]
theorem pair_refl (x y : Int) : PyData.eqv (pairD x y) (pairD x y) = true := SeqAt.eqv_refl _ (SeqAt.canLay_of_shaped (shaped_pair x y))
theorem lo_le (ss : List Sd) (n : Nat) (v : Int) : loL ss (n + 1) v ≤ loL ss n v := by
  have := hiL_ge (ss.map mirD) (it (hiL (ss.map mirD)) n (-v))
  show -(hiL (ss.map mirD) (it (hiL (ss.map mirD)) n (-v))) ≤ -(it (hiL (ss.map mirD)) n (-v))
  omega
def spFits53 : Sp := fun vs H Q _ => ∃ (a c : Addr) (t : Nat) (l : Addr) (xs : List V) (ss : List Sd) (f : Int), vs = [.ref a, .ref l, .int f] ∧ Src H a c t ∧ t + 300 < 2 ^ 30 ∧ SidesAt H l xs ss ∧ l ≠ a ∧ l ≠ c ∧ (∀ d ∈ ss, -30 ≤ d.o ∧ d.o ≤ 29 ∧ d.s ≤ 12) ∧ 1 ≤ f ∧ f ≤ 10 ^ 27 ∧ comN ss < 5000 ∧
  ∀ (H' : Hp) (t' : Nat), t' ≤ t + 200 → Src H' a c t' → Q (.bl true) H'
section
variable {P : Program} {w : World} {K : PySem.W.Frag} {mg : Str → Option Value} {base : Heap} {fD fG fW fA fF : Addr} {dD dG dW dA dF : FuncData}
theorem ok_fits {f : Addr} {fd : FuncData} (F : Fun K "_law_fits" "_law_fits" s_L_fits f fd) (B : Blt mg) (G : SetB mg) (D : Cal P w K mg base "_law_draw" 1 ["_law_source_here", "_law_limit"] spDraw fD dD) (Gr : Cal P w K mg base "_law_great" 2 ["_law_source_here", "_law_digits"] spGreat fG dG)
    (Wi : Cal P w K mg base "within" 6 ["sides", "value", "many"] spWiL fW dW) (Al : Cal P w K mg base "_law_all" 4 ["_law_sides", "_law_value", "_law_many"] spAllF fA dA) (Fu : Cal P w K mg base "_law_furthest" 4 ["_law_sides", "_law_value", "_law_many", "_law_sign"] spFur fF dF) : FnOk P w K mg base CX0 7 f fd ["_law_source_here", "_law_sides", "_law_factor"] spFits53 := by
  refine F.ok sc_L_fits (fun vs H Q E h => ?_) (fun cdv A outer s0 H vs Q E hr h => ?_)
  · obtain ⟨a, c, t, l, xs, ss, f, rfl, _⟩ := h
    rfl
  · obtain ⟨a, c, t, l, xs, ss, f, rfl, S, ht, SS, na, nc, small, f1, f2, c5, q⟩ := h
    have nd := sc_L_fits.nd
    refine ⟨_, (pss_cons (ps_mid (ps_setLc (i := 4) (own := [("_law_one", 3)]) (g := gName 3) (tt := tYes) rfl nd rfl rfl (sw_true rfl rfl rfl (by decide +kernel)) (pi_list (pv 1)) (blkOk_by (N := ["_law_source_here", "_law_sides", "_law_factor", "_law_one", "_law_lifted", "_law_k", "_law_value", "_law_few", "_law_kept", "_law_found", "_law_end", "_law_many", "_law_due", "_law_more"]) (sc := defScope s_L_fits) (by decide +kernel)) (fun _ _ _ _ _ => pg_name (i := 3) nd rfl (Or.inl rfl)) (fun _ _ _ _ _ => pts_nil) (fun _ _ _ _ _ => (pe_tup (pa_cons (pe_op op_mulW (pe_ix (r := rIxT K) (by exact ix_tup) (pv 3) pe_int (fun _ _ => rfl)) (pv 2)) (pa_cons (pe_op op_mulW (pe_ix (r := rIxT K) (by exact ix_tup) (pv 3) pe_int (fun _ _ => rfl)) (pv 2)) (pa_cons (pe_ix (r := rIxT K) (by exact ix_tup) (pv 3) pe_int (fun _ _ => rfl)) pa_nil)))))))
      (pss_cons (ps_mid (ps_for PassesOwn.never rfl (pi_range1 (by rfl) B.range (pa_cons pe_int pa_nil)) (pg_name (i := 5) nd rfl (Or.inl rfl)) (pss_cons (ps_mid (ps_set (i := 6) nd rfl (Or.inl rfl) (pe_op op_sub (pcl D hr (by decide) (by rfl) (pa_cons (pv 0) (pa_cons pe_int pa_nil))) pe_int)))
      (pss_cons (ps_mid (ps_set (i := 7) nd rfl (Or.inl rfl) (pcl D hr (by decide) (by rfl) (pa_cons (pv 0) (pa_cons pe_int pa_nil)))))
      (pss_cons (ps_mid (ps_set (i := 8) nd rfl (Or.inl rfl) (pe_callTy call_list_of (by rfl) G.list (by decide +kernel) (pa_cons (pv 4) pa_nil))))
      (pss_cons (ps_mid (ps_set (i := 9) nd rfl (Or.inl rfl) (pcl Wi hr (by decide) (by rfl) (pa_cons (pv 4) (pa_cons (pe_op op_mulW (pv 6) (pv 2)) (pa_cons (pv 7) pa_nil))))))
      (pss_cons (ps_if (pt_mid (PW.pt (pw_or (pt_cmpR (op_neD hr.units) (pv 9) (pe_callTy call_tuple_of (by rfl) G.tuple (by decide +kernel) (pa_cons (pe_lc (own := [("_law_end", 10)]) (g := gName 10) (tt := tYes) rfl nd (pi_tup (pcl Al hr (by decide) (by rfl) (pa_cons (pv 1) (pa_cons (pv 6) (pa_cons (pv 7) pa_nil))))) (blkOk_by (N := ["_law_source_here", "_law_sides", "_law_factor", "_law_one", "_law_lifted", "_law_k", "_law_value", "_law_few", "_law_kept", "_law_found", "_law_end", "_law_many", "_law_due", "_law_more"]) (sc := defScope s_L_fits) (by decide +kernel)) (fun _ _ _ _ _ => pg_name (i := 10) nd rfl (Or.inl rfl)) (fun _ _ _ _ _ => pts_nil) (fun _ _ _ _ _ => (pe_op op_mulW (pv 10) (pv 2)))) pa_nil)) (nomark _)) (pw_or1 (pt_cmpR (op_neD hr.units) (pv 4) (pv 8) (nomark _)))))) (pss_one (ps_ret pe_bl)) pss_nil)
      (pss_one (ps_mid (ps_for PassesOwn.never rfl (pi_list (pe_lst (pa_cons (pv 7) (pa_cons (pcl D hr (by decide) (by rfl) (pa_cons (pv 0) (pa_cons pe_int pa_nil))) (pa_cons (pcl D hr (by decide) (by rfl) (pa_cons (pv 0) (pa_cons pe_int pa_nil))) (pa_cons (pcl Gr hr (by decide) (by rfl) (pa_cons (pv 0) (pa_cons pe_int pa_nil))) pa_nil)))))) (pg_name (i := 11) nd rfl (Or.inl rfl)) (pss_cons (ps_mid (ps_set (i := 12) nd rfl (Or.inl rfl) (pe_tup (pa_cons (pe_op op_mulW (pcl Fu hr (by decide) (by rfl) (pa_cons (pv 1) (pa_cons (pv 6) (pa_cons (pv 11) (pa_cons (pe_un un_neg pe_int) pa_nil))))) (pv 2)) (pa_cons (pe_op op_mulW (pcl Fu hr (by decide) (by rfl) (pa_cons (pv 1) (pa_cons (pv 6) (pa_cons (pv 11) (pa_cons pe_int pa_nil))))) (pv 2)) pa_nil)))))
      (pss_cons (ps_if (pt_mid (pt_cmpR (op_neD hr.units) (pcl Wi hr (by decide) (by rfl) (pa_cons (pv 4) (pa_cons (pe_op op_mulW (pv 6) (pv 2)) (pa_cons (pv 11) pa_nil)))) (pv 12) (nomark _))) (pss_one (ps_ret pe_bl)) pss_nil)
      (pss_cons (ps_mid (ps_set (i := 13) nd rfl (Or.inl rfl) (pcl Wi hr (by decide) (by rfl) (pa_cons (pv 4) (pa_cons (pe_op op_mulW (pv 6) (pv 2)) (pa_cons (pe_op op_add (pv 11) pe_int) pa_nil))))))
      (pss_one (ps_if (pt_mid (PW.pt (pw_or (pt_cmpR op_gt (pe_ix ix_tup (pv 13) pe_int (fun _ _ => rfl)) (pe_ix ix_tup (pv 12) pe_int (fun _ _ => rfl)) (nomark _)) (pw_or1 (pt_cmpR op_lt (pe_ix ix_tup (pv 13) pe_int (fun _ _ => rfl)) (pe_ix ix_tup (pv 12) pe_int (fun _ _ => rfl)) (nomark _)))))) (pss_one (ps_ret pe_bl)) pss_nil)))))))))))))))
      (pss_one (ps_ret pe_bl)))), ?_⟩
    have l4 := SS.l4
    refine ⟨fun st Hz => ∃ (L : Addr) (ys : List V), st = [some (.ref a), some (.ref l), some (.int f), none, some (.ref L), none, none, none, none, none, none, none, none, none] ∧ SidesAt Hz L ys (ss.map (lift f)) ∧ L ≠ a ∧ L ≠ c ∧ Same H Hz, ?_, ?_⟩
    · walk_at "rd"
      refine ⟨⟨_, SqL.of SS.hl⟩, fun L nL => ?_⟩
      obtain ⟨La, Lc⟩ := S.na nL
      refine lc_list (K := K) (a := l) (xs := xs) (fun i H3 => ∃ ps : List Addr, ps.length = i ∧ H3 L = some (.lst (ps.map V.ref)) ∧ Same H H3 ∧ (∀ (j : Nat) (d : Sd) (p : Addr), ss[j]? = some d → ps[j]? = some p → H3 p = some (sideV (d.o * f) (d.s * f) d.m)))
        ⟨[], rfl, upd_same, fun b u z => (upd_ne (ne_of_none z nL)).trans z, fun j u p _ z => by cases z⟩ (fun _ _ _ ⟨_, _, _, sm, _⟩ => SqL.of (sm _ _ SS.hl)) ?_ ?_
      · rintro i y H3 hy ⟨ps, hn, hD, sm, hps⟩
        obtain ⟨d, p, ed, rfl, hp, sp⟩ := SS.item hy
        have il : i < ss.length := (List.getElem?_eq_some_iff.mp ed).1
        obtain ⟨b1, b2, b3⟩ := small d (List.mem_of_getElem? ed)
        have s0 := sp.s0
        have hp3 := sm _ _ hp
        refine ⟨rfl, ?_⟩
        walk_at "rd"
        refine ⟨p, _, _, _, rfl, rfl, SqT.of hp3, rfl, ?_⟩
        walk_at "rd"
        refine ⟨mulF (by omega) f1 f2, ?_⟩
        walk_at "rd"
        refine ⟨p, _, _, _, rfl, rfl, SqT.of hp3, rfl, ?_⟩
        walk_at "rd"
        refine ⟨mulF (by omega) f1 f2, ?_⟩
        walk_at "rd"
        refine ⟨p, _, _, _, rfl, rfl, SqT.of hp3, rfl, ?_⟩
        walk_at "rd"
        refine ⟨(by show 3 ≤ sizeLine; decide), fun z nz => ?_⟩
        have ncD : L ≠ z := ne_of_none hD nz
        refine ⟨_, (upd_ne ncD).trans hD, ?_, ps ++ [z], ?_, ?_, ?_, ?_⟩
        · rw [List.length_map, hn]; exact Nat.lt_of_lt_of_le (by omega : i < 8) (by decide)
        · rw [List.length_append, hn]; rfl
        · rw [List.map_append]; exact upd_same
        · intro b u y
          have y3 := sm _ _ y
          exact (upd_ne (ne_of_none y nL)).trans ((upd_ne (ne_of_none y3 nz)).trans y3)
        · intro j e p2 he hp2
          rcases Nat.lt_or_ge j ps.length with y | y
          · rw [List.getElem?_append_left y] at hp2
            have g := hps j e p2 he hp2
            exact (upd_ne (ne_of g hD (by intro y; cases y))).trans ((upd_ne (ne_of_none g nz)).trans g)
          · rw [List.getElem?_append_right y] at hp2
            have e0 : j - ps.length = 0 := by
              have := (List.getElem?_eq_some_iff.mp hp2).1
              simp at this
              omega
            rw [e0] at hp2
            cases hp2
            rw [show j = i by omega, ed] at he
            cases he
            exact (upd_ne (Ne.symm ncD)).trans upd_same
      · rintro H3 ⟨ps, hn, hD, sm, hps⟩
        have SL : SidesAt H3 L (ps.map V.ref) (ss.map (lift f)) := by
          refine ⟨hD, by rw [List.length_map, List.length_map, hn, SS.len], by rw [List.length_map]; exact SS.l1, by rw [List.length_map]; exact SS.l4, fun i d h => ?_⟩
          rw [List.getElem?_map] at h
          cases e : ss[i]? with
          | none => rw [e] at h; cases h
          | some d0 =>
            rw [e] at h
            cases h
            have il : i < ps.length := by rw [hn, SS.len]; exact (List.getElem?_eq_some_iff.mp e).1
            refine ⟨ps[i], by rw [List.getElem?_map, List.getElem?_eq_getElem il]; rfl, hps i d0 ps[i] e (List.getElem?_eq_getElem il), ?_⟩
            exact lift_bd (SS.side d0 (List.mem_of_getElem? e)) (small d0 (List.mem_of_getElem? e)) f1 f2
        exact ⟨L, _, rfl, SL, La, Lc, sm⟩
    rintro st H1 ⟨L, ys, rfl, SL, La, Lc, s1⟩
    replace SS := SS.same s1
    have S1 := S.of_same s1
    clear s1 S
    have hs := SS.side
    have small12 : ∀ d ∈ ss, d.s ≤ 12 := fun d hd => (small d hd).2.2
    refine ⟨fun st Hz => ∃ (x5 x6 x7 x8 x9 x10 x11 x12 x13 : Option V) (t' : Nat), st = [some (.ref a), some (.ref l), some (.int f), none, some (.ref L), x5, x6, x7, x8, x9, x10, x11, x12, x13] ∧ Src Hz a c t' ∧ t' ≤ t + 200, ?_, ?_⟩
    · walk_at "rd"
      refine ⟨by decide, by decide, ?_⟩
      refine for_range (n := 4) (fun i st Hz => ∃ (x5 x6 x7 x8 x9 x10 x11 x12 x13 : Option V) (t' : Nat), st = [some (.ref a), some (.ref l), some (.int f), none, some (.ref L), x5, x6, x7, x8, x9, x10, x11, x12, x13] ∧ Src Hz a c t' ∧ t' ≤ t + 50 * i ∧ Oth a c H1 Hz) ⟨none, none, none, none, none, none, none, none, none, t, rfl, S1, by omega, Oth.refl _ _ _⟩ ?_ (fun st Hz ⟨x5, x6, x7, x8, x9, x10, x11, x12, x13, t', e, S, tb, _⟩ => ⟨x5, x6, x7, x8, x9, x10, x11, x12, x13, t', e, S, by omega⟩)
      rintro i st Ha hi ⟨x5, x6, x7, x8, x9, x10, x11, x12, x13, t1, rfl, Sa, tb, Oa⟩
      have SSa := SS.oth S1 na nc Oa
      have SLa := SL.oth S1 La Lc Oa
      walk_at "rd"
      refine ⟨fun st Hz => ∃ v : Int, st = [some (.ref a), some (.ref l), some (.int f), none, some (.ref L), some (.int (0 + (i : Int))), some (.int v), x7, x8, x9, x10, x11, x12, x13] ∧ (-200 ≤ v ∧ v ≤ 200) ∧ Src Hz a c (t1 + 1) ∧ Oth a c Ha Hz, ?_, ?_⟩
      · walk_at "rd"
        refine ⟨a, c, t1, 300, rfl, Sa, by omega, by decide, lg_small (by decide) (by decide), fun k Hb k0 k1 Sb Ob => ?_⟩
        walk_at "rd"
        exact ⟨by omega, Sb, Ob⟩
      rintro st Hb ⟨v, rfl, vb, Sb, Ob⟩
      refine ⟨fun st Hz => ∃ few : Nat, st = [some (.ref a), some (.ref l), some (.int f), none, some (.ref L), some (.int (0 + (i : Int))), some (.int v), some (.int (few : Int)), x8, x9, x10, x11, x12, x13] ∧ few ≤ 6 ∧ Src Hz a c (t1 + 2) ∧ Oth a c Hb Hz, ?_, ?_⟩
      · walk_at "rd"
        refine ⟨a, c, _, 7, rfl, Sb, by omega, by decide, lg_small (by decide) (by decide), fun k Hc k0 k1 Sc Oc => ?_⟩
        exact ⟨k.toNat, by rw [Int.toNat_of_nonneg k0]; rfl, by omega, Sc, Oc⟩
      rintro st Hc ⟨few, rfl, few6, Sc, Oc⟩
      have Oac : Oth a c Ha Hc := Ob.trans Oc
      have SSc := SSa.oth Sa na nc Oac
      have SLc := SLa.oth Sa La Lc Oac
      have Occ : Oth a c H1 Hc := Oa.trans Oac
      clear SSa SLa Sb Ob Oc Oac
      refine ⟨fun st Hz => ∃ kl : Addr, st = [some (.ref a), some (.ref l), some (.int f), none, some (.ref L), some (.int (0 + (i : Int))), some (.int v), some (.int (few : Int)), some (.ref kl), x9, x10, x11, x12, x13] ∧ Hz kl = some (.lst ys) ∧ kl ≠ a ∧ kl ≠ c ∧ Same Hc Hz, ?_, ?_⟩
      · walk_at "rd"
        refine ⟨L, ys, rfl, .inl (SqL.of SLc.hl), fun kl nk => ?_⟩
        exact ⟨kl, rfl, upd_same, (Sc.na nk).1, (Sc.na nk).2, same_upd nk⟩
      rintro st Hd ⟨kl, rfl, hk, _, _, sd⟩
      replace SSc := SSc.same sd
      replace SLc := SLc.same sd
      have Sd' := Sc.of_same sd
      have Od : Oth a c H1 Hd := fun b u hb ba bc => sd _ _ (Occ _ _ hb ba bc)
      have KS : SidesAt Hd kl ys (ss.map (lift f)) := ⟨hk, SLc.len, SLc.l1, SLc.l4, SLc.at_⟩
      clear sd Sc Occ hk
      have vf : -10 ^ 30 ≤ v * f ∧ v * f ≤ 10 ^ 30 := by
        have x1 : (-200) * f ≤ v * f := Int.mul_le_mul_of_nonneg_right vb.1 (by omega)
        have x2 : v * f ≤ 200 * f := Int.mul_le_mul_of_nonneg_right vb.2 (by omega)
        omega
      have LB : ∀ n : Nat, n ≤ 10 ^ 40 → -10 ^ 300 ≤ loL ss n v ∧ loL ss n v ≤ 10 ^ 300 := fun n hn => by
        obtain ⟨b0, b1⟩ := itL_bd (side_mirs hs) (-v) n
        unfold loL
        omega
      have HB : ∀ n : Nat, n ≤ 10 ^ 40 → -10 ^ 300 ≤ it (hiL ss) n v ∧ it (hiL ss) n v ≤ 10 ^ 300 := fun n hn => by
        obtain ⟨b0, b1⟩ := itL_bd hs v n
        omega
      refine ⟨fun st Hz => ∃ fl : Addr, st = [some (.ref a), some (.ref l), some (.int f), none, some (.ref L), some (.int (0 + (i : Int))), some (.int v), some (.int (few : Int)), some (.ref kl), some (.ref fl), x10, x11, x12, x13] ∧ Hz fl = some (.tup [.int (loL ss few v * f), .int (it (hiL ss) few v * f)]) ∧ Same Hd Hz, ?_, ?_⟩
      · walk_at "rd"
        refine ⟨mulF (by omega) f1 f2, ?_⟩
        walk_at "rd"
        refine ⟨L, ys, ss, v, f, few, rfl, SLc, hs, f1, by omega, by omega, by omega, fun p H' s np hp => ?_⟩
        exact ⟨p, rfl, hp, s⟩
      rintro st He ⟨fl, rfl, hf, se⟩
      replace SSc := SSc.same se
      replace SLc := SLc.same se
      replace KS := KS.same se
      have Se := Sd'.of_same se
      have Oe : Oth a c H1 He := fun b u hb ba bc => se _ _ (Od _ _ hb ba bc)
      clear se Sd' Od
      walk_at "rd"
      refine ⟨fun b Hy => b = false ∧ Same He Hy, ?_, ?_⟩
      · walk_at "rd"
        refine ⟨l, xs, ss, v, few, rfl, SSc, small12, by omega, few6, fun p Hy sy np hp => ?_⟩
        refine ⟨p, rfl, ⟨_, SqT.of hp⟩, fun Dd nD => ?_⟩
        refine lc_tup (K := K) (a := p) (xs := [.int (loL ss few v), .int (it (hiL ss) few v)]) (fun j Hz => Hz Dd = some (.lst (([V.int (loL ss few v * f), .int (it (hiL ss) few v * f)] : List V).take j)) ∧ Same Hy Hz) ⟨upd_same, same_upd nD⟩ (fun _ _ _ ⟨_, s⟩ => SqT.of (s _ _ hp)) ?_ ?_
        · rintro j y Hz hy ⟨hD, sz⟩
          obtain ⟨z, rfl, zb, ez⟩ : ∃ z : Int, y = .int z ∧ (-10 ^ 300 ≤ z ∧ z ≤ 10 ^ 300) ∧ ([V.int (loL ss few v * f), .int (it (hiL ss) few v * f)] : List V).take (j + 1) = ([V.int (loL ss few v * f), .int (it (hiL ss) few v * f)] : List V).take j ++ [.int (z * f)] := by
            match j, hy with
            | 0, hy => cases hy; exact ⟨_, rfl, LB few (by omega), rfl⟩
            | 1, hy => cases hy; exact ⟨_, rfl, HB few (by omega), rfl⟩
            | j + 2, hy => cases hy
          refine ⟨rfl, ?_⟩
          walk_at "rd"
          refine ⟨mulF zb f1 f2, ?_⟩
          refine ⟨_, hD, Nat.lt_of_le_of_lt (List.length_take_le' _ _) (by show 2 < sizeLine; decide), ?_, fun b u z => (upd_ne (ne_of_none z nD)).trans (sz _ _ z)⟩
          rw [ez]
          exact upd_same
        rintro Hz ⟨hD, sz⟩
        walk_at "rd"
        refine ⟨Dd, [.int (loL ss few v * f), .int (it (hiL ss) few v * f)], rfl, .inl ⟨SqL.of hD, fun tl ntl => ?_⟩⟩
        have sT := sy.trans (sz.trans (same_upd (o := .tup [.int (loL ss few v * f), .int (it (hiL ss) few v * f)]) ntl))
        refine ⟨_, _, pair_dp (sT _ _ hf), pair_dp upd_same, shaped_pair _ _, shaped_pair _ _, ?_⟩
        rw [pair_refl]
        refine ⟨_, rfl, ?_⟩
        refine ite2 (fun z => absurd z (by decide)) (fun _ => ?_)
        walk_at "rd"
        refine ⟨_, _, (SLc.same sT).dp, (KS.same sT).dp, shaped_sides fun d hd => (SLc.side d hd).md, shaped_sides fun d hd => (SLc.side d hd).md, ?_⟩
        rw [SeqAt.eqv_refl _ (SeqAt.canLay_of_shaped (shaped_sides fun d hd => (SLc.side d hd).md))]
        exact ⟨_, rfl, rfl, sT⟩
      rintro b Hf ⟨rfl, sf⟩
      refine ite2 (fun z => absurd z (by decide)) (fun _ => ?_)
      replace SSc := SSc.same sf
      replace SLc := SLc.same sf
      have Sf := Se.of_same sf
      have Of : Oth a c H1 Hf := fun b u hb ba bc => sf _ _ (Oe _ _ hb ba bc)
      clear sf Se Oe KS hf
      refine ⟨fun st Hz => ∃ (x11 x12 x13 : Option V) (t' : Nat), st = [some (.ref a), some (.ref l), some (.int f), none, some (.ref L), some (.int (0 + (i : Int))), some (.int v), some (.int (few : Int)), some (.ref kl), some (.ref fl), x10, x11, x12, x13] ∧ Src Hz a c t' ∧ t' ≤ t1 + 50 ∧ Oth a c H1 Hz, ?_, fun st Hz ⟨x11, x12, x13, t', e, S, tb', O⟩ => ⟨_, _, _, _, _, _, _, _, _, t', e, S, by omega, O⟩⟩
      walk_at "rd"
      refine ⟨a, c, _, 13, rfl, Sf, by omega, by decide, lg_small (by decide) (by decide), fun k1 Hg k10 k11 Sg Og => ?_⟩
      walk_at "rd"
      refine ⟨a, c, _, 400, rfl, Sg, by omega, by decide, lg_small (by decide) (by decide), fun k2 Hh k20 k21 Sh Oh => ?_⟩
      walk_at "rd"
      refine ⟨a, c, _, 40, rfl, Sh, by decide, by omega, fun g Hi g0 g1 Si Oi => ?_⟩
      have Ofi := (Og.trans Oh).trans Oi
      replace SSc := SSc.oth Sf na nc Ofi
      replace SLc := SLc.oth Sf La Lc Ofi
      have Oj := Of.trans Ofi
      clear Og Oh Oi Sf Sg Sh Of Ofi
      refine ⟨(by show 4 ≤ sizeLine; decide), fun ml nml => ?_⟩
      have gm : upd Hi ml (.lst [V.int (few : Int), .int k1, .int k2, .int g]) ml = some (.lst [V.int (few : Int), .int k1, .int k2, .int g]) := upd_same
      have sm : Same Hi (upd Hi ml (.lst [V.int (few : Int), .int k1, .int k2, .int g])) := same_upd nml
      generalize upd Hi ml (.lst [V.int (few : Int), .int k1, .int k2, .int g]) = Hj at gm sm ⊢
      obtain ⟨mla, mlc⟩ := Si.na nml
      replace SSc := SSc.same sm
      replace SLc := SLc.same sm
      have Sj := Si.of_same sm
      have Ok : Oth a c H1 Hj := fun b u hb ba bc => sm _ _ (Oj _ _ hb ba bc)
      clear sm Si Oj
      have each : ∀ y ∈ ([V.int (few : Int), .int k1, .int k2, .int g] : List V), ∃ n : Nat, y = .int (n : Int) ∧ n + 1 ≤ 10 ^ 40 := fun y m => by
        simp only [List.mem_cons, List.not_mem_nil, or_false] at m
        rcases m with rfl | rfl | rfl | rfl
        · exact ⟨few, rfl, by omega⟩
        · exact ⟨k1.toNat, by rw [Int.toNat_of_nonneg k10], by omega⟩
        · exact ⟨k2.toNat, by rw [Int.toNat_of_nonneg k20], by omega⟩
        · exact ⟨g.toNat, by rw [Int.toNat_of_nonneg g0], by omega⟩
      refine ⟨ml, rfl, ⟨_, SqL.of gm⟩, ?_⟩
      refine for_list (K := K) (a := ml) (xs := [V.int (few : Int), .int k1, .int k2, .int g]) (fun j st Hz => ∃ (x11 x12 x13 : Option V), st = [some (.ref a), some (.ref l), some (.int f), none, some (.ref L), some (.int (0 + (i : Int))), some (.int v), some (.int (few : Int)), some (.ref kl), some (.ref fl), x10, x11, x12, x13] ∧ Same Hj Hz) ⟨x11, x12, x13, rfl, Same.refl _⟩ (fun _ _ _ _ ⟨_, _, _, _, s⟩ => SqL.of (s _ _ gm)) ?_ (fun st Hz ⟨x11, x12, x13, e, s⟩ => ⟨x11, x12, x13, _, e, Sj.of_same s, by omega, fun b u hb ba bc => s _ _ (Ok _ _ hb ba bc)⟩)
      rintro j y st Hz hy ⟨y11, y12, y13, rfl, sz⟩
      obtain ⟨n, rfl, n40⟩ := each y (List.mem_of_getElem? hy)
      have SSz := SSc.same sz
      have SLz := SLc.same sz
      walk_at "rd"
      refine ⟨fun st Hy => ∃ du : Addr, st = [some (.ref a), some (.ref l), some (.int f), none, some (.ref L), some (.int (0 + (i : Int))), some (.int v), some (.int (few : Int)), some (.ref kl), some (.ref fl), x10, some (.int (n : Int)), some (.ref du), y13] ∧ Hy du = some (.tup [.int (loL ss n v * f), .int (it (hiL ss) n v * f)]) ∧ Same Hz Hy, ?_, ?_⟩
      · walk_at "rd"
        refine ⟨l, xs, ss, ss.map mirD, -v, n, -1, (by rw [show (-1 : Int) * -v = v by omega]; rfl), SSz, .inr ⟨rfl, rfl⟩, by omega, by omega, .inl (by omega), fun H5 s5 => ?_⟩
        rw [show (-1 : Int) * it (hiL (ss.map mirD)) n (-v) = loL ss n v from Int.neg_one_mul _]
        walk_at "rd"
        refine ⟨mulF (LB n (by omega)) f1 f2, ?_⟩
        walk_at "rd"
        refine ⟨l, xs, ss, ss, v, n, 1, (by rw [Int.one_mul]; rfl), SSz.same s5, .inl ⟨rfl, rfl⟩, by omega, by omega, .inl (by omega), fun H6 s6 => ?_⟩
        rw [Int.one_mul]
        walk_at "rd"
        refine ⟨mulF (HB n (by omega)) f1 f2, ?_⟩
        walk_at "rd"
        refine ⟨(by show 2 ≤ sizeLine; decide), fun du ndu => ?_⟩
        exact ⟨du, rfl, upd_same, s5.trans (s6.trans (same_upd ndu))⟩
      rintro st Hy ⟨du, rfl, hdu, sy⟩
      have SLy := SLz.same sy
      walk_at "rd"
      refine ⟨fun b Hx => b = false ∧ Same Hy Hx, ?_, ?_⟩
      · walk_at "rd"
        refine ⟨mulF (by omega) f1 f2, ?_⟩
        walk_at "rd"
        refine ⟨L, ys, ss, v, f, n, rfl, SLy, hs, f1, by omega, by omega, by omega, fun p H' s np hp => ?_⟩
        walk_at "rd"
        refine ⟨_, _, pair_dp hp, pair_dp (s _ _ hdu), shaped_pair _ _, shaped_pair _ _, ?_⟩
        rw [pair_refl]
        exact ⟨_, rfl, rfl, s⟩
      rintro b Hx ⟨rfl, sx⟩
      refine ite2 (fun z => absurd z (by decide)) (fun _ => ?_)
      refine ⟨fun st Hw => ∃ mo : Addr, st = [some (.ref a), some (.ref l), some (.int f), none, some (.ref L), some (.int (0 + (i : Int))), some (.int v), some (.int (few : Int)), some (.ref kl), some (.ref fl), x10, some (.int (n : Int)), some (.ref du), some (.ref mo)] ∧ Hw mo = some (.tup [.int (loL ss (n + 1) v * f), .int (it (hiL ss) (n + 1) v * f)]) ∧ Same Hx Hw, ?_, ?_⟩
      · walk_at "rd"
        refine ⟨mulF (by omega) f1 f2, ?_⟩
        walk_at "rd"
        refine ⟨L, ys, ss, v, f, n + 1, rfl, SLy.same sx, hs, f1, by omega, by omega, by omega, fun p H' s np hp => ?_⟩
        exact ⟨p, rfl, hp, s⟩
      rintro st Hw ⟨mo, rfl, hmo, sw⟩
      have hdw := sw _ _ (sx _ _ hdu)
      have lo1 : loL ss (n + 1) v * f ≤ loL ss n v * f := Int.mul_le_mul_of_nonneg_right (lo_le ss n v) (by omega)
      have hi1 : it (hiL ss) n v * f ≤ it (hiL ss) (n + 1) v * f := Int.mul_le_mul_of_nonneg_right (hiL_ge ss (it (hiL ss) n v)) (by omega)
      walk_at "rd"
      refine ⟨fun b Hv => b = false ∧ Hv = Hw, ?_, ?_⟩
      · walk_at "rd"
        refine ⟨mo, _, 0, _, rfl, rfl, SqT.of hmo, rfl, ?_⟩
        walk_at "rd"
        refine ⟨du, _, 0, _, rfl, rfl, SqT.of hdw, rfl, ?_⟩
        walk_at "rd"
        refine ite2 (fun z => absurd (of_decide_eq_true z) (by show ¬ loL ss n v * f < loL ss (n + 1) v * f; omega)) (fun _ => ?_)
        walk_at "rd"
        refine ⟨mo, _, 1, _, rfl, rfl, SqT.of hmo, rfl, ?_⟩
        walk_at "rd"
        refine ⟨du, _, 1, _, rfl, rfl, SqT.of hdw, rfl, ?_⟩
        walk_at "rd"
        exact ⟨decide_eq_false (by omega), rfl⟩
      rintro b Hv ⟨rfl, rfl⟩
      refine ite2 (fun z => absurd z (by decide)) (fun _ => ?_)
      exact ⟨_, _, _, rfl, sz.trans (sy.trans (sx.trans sw))⟩
    rintro st Hz ⟨x5, x6, x7, x8, x9, x10, x11, x12, x13, t', rfl, Sz, tz⟩
    walk_at "rd"
    exact q Hz t' tz Sz
end
end HT
namespace HT
open PySem L2
theorem rest_dvd {s x : Int} : s ∣ x ↔ x % s = 0 := ⟨Int.emod_eq_zero_of_dvd, Int.dvd_of_emod_eq_zero⟩
theorem up_un {o s x : Int} (hs : 1 ≤ s) : (dueM o s "up" x ≤ x ↔ s ∣ x - o) ∧ x ≤ dueM o s "up" x := by
  have e := Int.emod_add_mul_ediv (x - o) s
  have r0 := Int.emod_nonneg (x - o) (show s ≠ 0 by omega)
  have r1 := Int.emod_lt_of_pos (x - o) (show 0 < s by omega)
  rw [rest_dvd]
  unfold dueM figM
  rw [go_up]
  generalize (x - o) % s = r at e r0 r1
  generalize (x - o) / s = q at e
  by_cases y : 0 < r
  · rw [if_pos (decide_eq_true y), Int.mul_add, Int.mul_one]
    omega
  · rw [if_neg (fun z => y (of_decide_eq_true z))]
    omega
theorem dn_un {o s x : Int} (hs : 1 ≤ s) : dueM o s "down" x ≤ x := by
  have e := Int.emod_add_mul_ediv (x - o) s
  have r0 := Int.emod_nonneg (x - o) (show s ≠ 0 by omega)
  unfold dueM figM
  rw [go_down, if_neg (by decide)]
  generalize (x - o) % s = r at e r0
  generalize (x - o) / s = q at e
  omega
theorem up_at {o s x : Int} (hs : 1 ≤ s) : dueM o s "up" x = x + (o - x) % s := by
  have e := Int.emod_add_mul_ediv (x - o) s
  have r0 := Int.emod_nonneg (x - o) (show s ≠ 0 by omega)
  have r1 := Int.emod_lt_of_pos (x - o) (show 0 < s by omega)
  have e2 := Int.emod_add_mul_ediv (o - x) s
  have q0 := Int.emod_nonneg (o - x) (show s ≠ 0 by omega)
  have q1 := Int.emod_lt_of_pos (o - x) (show 0 < s by omega)
  unfold dueM figM
  rw [go_up]
  generalize (x - o) % s = r at e r0 r1
  generalize (x - o) / s = q at e
  generalize (o - x) % s = r2 at e2 q0 q1
  generalize (o - x) / s = q2 at e2
  by_cases y : 0 < r
  · rw [if_pos (decide_eq_true y), Int.mul_add, Int.mul_one]
    have k : s * (q + q2 + 1) = s * q + s * q2 + s := by rw [Int.mul_add, Int.mul_add, Int.mul_one]
    have z : q + q2 + 1 = 0 := by
      rcases Int.lt_trichotomy (q + q2 + 1) 0 with h | h | h
      · have := Int.mul_le_mul_of_nonneg_left (show q + q2 + 1 ≤ -1 by omega) (show 0 ≤ s by omega)
        rw [Int.mul_neg, Int.mul_one] at this
        omega
      · exact h
      · have := Int.mul_le_mul_of_nonneg_left (show 1 ≤ q + q2 + 1 by omega) (show 0 ≤ s by omega)
        omega
    rw [z, Int.mul_zero] at k
    omega
  · rw [if_neg (fun z => y (of_decide_eq_true z))]
    have k : s * (q + q2) = s * q + s * q2 := by rw [Int.mul_add]
    have z : q + q2 = 0 := by
      rcases Int.lt_trichotomy (q + q2) 0 with h | h | h
      · have := Int.mul_le_mul_of_nonneg_left (show q + q2 ≤ -1 by omega) (show 0 ≤ s by omega)
        rw [Int.mul_neg, Int.mul_one] at this
        omega
      · exact h
      · have := Int.mul_le_mul_of_nonneg_left (show 1 ≤ q + q2 by omega) (show 0 ≤ s by omega)
        omega
    rw [z, Int.mul_zero] at k
    omega
/-- it goes on and on below the period -/
theorem no_rec {ss : List Sd} {v B : Int} (v0 : 0 ≤ v) (hb : ∀ k : Nat, k ≤ 10000 → it (hiL ss) k v ≤ B) (hB : B < (comN ss : Int)) (up : ∀ x, v ≤ x → x ≤ B → hiL ss x ≠ x) : ¬ Rec ss v := by
  have st : ∀ (b a : Nat), a < b → b ≤ 10000 → it (hiL ss) a v < it (hiL ss) b v := by
    intro b
    induction b with
    | zero => intro a ab; omega
    | succ b ih =>
      intro a ab hb1
      have lo : ∀ k, v ≤ it (hiL ss) k v := fun k => by
        induction k with
        | zero => exact Int.le_refl _
        | succ k ihk => exact Int.le_trans ihk (hiL_ge _ _)
      have n := up _ (lo b) (hb b (by omega))
      have g := hiL_ge ss (it (hiL ss) b v)
      have e : it (hiL ss) (b + 1) v = hiL ss (it (hiL ss) b v) := rfl
      by_cases z : a = b
      · subst z; omega
      · have := ih a (by omega) (by omega)
        omega
  have lo : ∀ k, v ≤ it (hiL ss) k v := fun k => by
    induction k with
    | zero => exact Int.le_refl _
    | succ k ihk => exact Int.le_trans ihk (hiL_ge _ _)
  rintro ⟨i, j, ij, hj, e⟩
  have a := lo i
  have b := lo j
  have c := hb i (by omega)
  have d := hb j hj
  rw [Int.emod_eq_of_lt (by omega) (by omega), Int.emod_eq_of_lt (by omega) (by omega)] at e
  have := st j i ij hj
  omega
theorem una_twoP {a b : Sd} {x : Int} : UnA [a, b] x ↔ dueM a.o a.s a.m x ≤ x ∧ dueM b.o b.s b.m x ≤ x :=
  ⟨fun h => ⟨h a List.mem_cons_self, h b (List.mem_cons_of_mem _ List.mem_cons_self)⟩, fun ⟨h1, h2⟩ d hd => by
    rcases List.mem_cons.mp hd with e | hd
    · rw [e]; exact h1
    · rw [List.mem_singleton.mp hd]; exact h2⟩
/-- the pair's period -/
theorem com_two {s : Int} {o1 o2 : Int} {m : Str} (hm : m = "up") (h : 10 ^ 29 ≤ s) (hs : ∀ d ∈ [(⟨o1, s - 1, m⟩ : Sd), ⟨o2, s, m⟩], SideP d.o d.s d.m) : (10 : Int) ^ 50 < (comN [(⟨o1, s - 1, m⟩ : Sd), ⟨o2, s, m⟩] : Int) := by
  have ue : ¬ (("up" : Str) = "half_even") := by decide +kernel
  have p1 : ((perN ⟨o1, s - 1, m⟩ : Nat) : Int) = s - 1 := by
    unfold perN perM
    rw [hm, if_neg ue]
    exact Int.toNat_of_nonneg (by show 0 ≤ s - 1; omega)
  have p2 : ((perN ⟨o2, s, m⟩ : Nat) : Int) = s := by
    unfold perN perM
    rw [hm, if_neg ue]
    exact Int.toNat_of_nonneg (by show 0 ≤ s; omega)
  have d1 : perN ⟨o1, s - 1, m⟩ ∣ comN [(⟨o1, s - 1, m⟩ : Sd), ⟨o2, s, m⟩] := comN_dvd.mp (Nat.dvd_refl _) _ List.mem_cons_self
  have d2 : perN ⟨o2, s, m⟩ ∣ comN [(⟨o1, s - 1, m⟩ : Sd), ⟨o2, s, m⟩] := comN_dvd.mp (Nat.dvd_refl _) _ (List.mem_cons_of_mem _ List.mem_cons_self)
  have cp := com_pos [(⟨o1, s - 1, m⟩ : Sd), ⟨o2, s, m⟩] 1 (by decide) hs
  have e : perN ⟨o2, s, m⟩ = perN ⟨o1, s - 1, m⟩ + 1 := by omega
  have co : Nat.Coprime (perN ⟨o1, s - 1, m⟩) (perN ⟨o2, s, m⟩) := by
    rw [e]
    show Nat.gcd _ _ = 1
    rw [Nat.gcd_self_add_right, Nat.gcd_one_right]
  have dd := co.mul_dvd_of_dvd_of_dvd d1 d2
  have le : perN ⟨o1, s - 1, m⟩ * perN ⟨o2, s, m⟩ ≤ comN [(⟨o1, s - 1, m⟩ : Sd), ⟨o2, s, m⟩] := Nat.le_of_dvd cp dd
  have q : ((perN ⟨o1, s - 1, m⟩ * perN ⟨o2, s, m⟩ : Nat) : Int) ≤ ((comN [(⟨o1, s - 1, m⟩ : Sd), ⟨o2, s, m⟩] : Nat) : Int) := Int.ofNat_le.mpr le
  rw [Int.natCast_mul, p1, p2] at q
  have r : (10 : Int) ^ 28 * 10 ^ 29 ≤ (s - 1) * s := Int.mul_le_mul (by omega) h (by decide) (by omega)
  have f : (10 : Int) ^ 50 < 10 ^ 28 * 10 ^ 29 := by decide
  omega
/-- no value rests before the square -/
theorem sq_far {s x a b : Int} (h : 10 ^ 29 ≤ s) (x0 : 0 < x) (x1 : x < 10 ^ 50) (e1 : x = (s - 1) * a) (e2 : x - 1 = s * b) : False := by
  have a1 : 1 ≤ a := by
    rcases Int.lt_or_le a 1 with y | y
    · have := Int.mul_le_mul_of_nonneg_left (show a ≤ 0 by omega) (show 0 ≤ s - 1 by omega)
      rw [Int.mul_zero] at this
      omega
    · exact y
  have k : s * (a - b) = a + 1 := by
    rw [Int.mul_sub]
    rw [Int.sub_mul, Int.one_mul] at e1
    omega
  have ab : 1 ≤ a - b := by
    rcases Int.lt_or_le (a - b) 1 with y | y
    · have := Int.mul_le_mul_of_nonneg_left (show a - b ≤ 0 by omega) (show 0 ≤ s by omega)
      rw [Int.mul_zero] at this
      omega
    · exact y
  have l := Int.mul_le_mul_of_nonneg_left ab (show 0 ≤ s by omega)
  rw [Int.mul_one] at l
  have m := Int.mul_le_mul_of_nonneg_left (show 10 ^ 28 ≤ a by omega) (show 0 ≤ s - 1 by omega)
  have r : (10 : Int) ^ 28 * 10 ^ 28 ≤ (s - 1) * 10 ^ 28 := Int.mul_le_mul_of_nonneg_right (by omega) (by decide)
  have f : (10 : Int) ^ 50 < 10 ^ 28 * 10 ^ 28 := by decide
  omega
/-- the pair: it goes on beyond every number of hand-overs asked -/
theorem it_far {ss : List Sd} (hs : ∀ d ∈ ss, SideP d.o d.s d.m) {v : Int} (h : v ≤ 10) : ∀ k : Nat, k ≤ 10000 → it (hiL ss) k v ≤ 10 ^ 36 := fun k hk => by
  have := (itL_bd hs v k).2
  omega
theorem pair_no {s : Int} (h : 10 ^ 29 ≤ s) (h2 : s ≤ 10 ^ 30) : ¬ Rec [⟨0, s - 1, "up"⟩, ⟨1, s, "up"⟩] 2 := by
  have S : ∀ d ∈ [(⟨0, s - 1, "up"⟩ : Sd), ⟨1, s, "up"⟩], SideP d.o d.s d.m := fun d hd => by
    rcases List.mem_cons.mp hd with e | hd
    · rw [e]; exact ⟨by show _ ≤ (0 : Int); decide, by show (0 : Int) ≤ _; decide, by show 1 ≤ s - 1; omega, by show s - 1 ≤ _; omega, .inr (.inl rfl)⟩
    · rw [List.mem_singleton.mp hd]; exact ⟨by show _ ≤ (1 : Int); decide, by show (1 : Int) ≤ _; decide, by show 1 ≤ s; omega, h2, .inr (.inl rfl)⟩
  refine no_rec (B := 10 ^ 36) (by decide) (it_far S (by decide)) (by have := com_two (o1 := 0) (o2 := 1) rfl h S; omega) fun x x0 x1 e => ?_
  have u := una_twoP.mp (una_hi.mpr e)
  obtain ⟨a, ea⟩ := (up_un (o := 0) (x := x) (show 1 ≤ s - 1 by omega)).1.mp u.1
  obtain ⟨b, eb⟩ := (up_un (o := 1) (x := x) (show 1 ≤ s by omega)).1.mp u.2
  exact sq_far h (by omega) (by omega) (show x = (s - 1) * a by omega) eb
theorem low_no {s : Int} (h : 10 ^ 29 ≤ s) (h2 : s ≤ 10 ^ 30) : ¬ Rec [⟨0, s, "up"⟩, ⟨-1, s - 1, "up"⟩] 0 := by
  have S : ∀ d ∈ [(⟨0, s, "up"⟩ : Sd), ⟨-1, s - 1, "up"⟩], SideP d.o d.s d.m := fun d hd => by
    rcases List.mem_cons.mp hd with e | hd
    · rw [e]; exact ⟨by show _ ≤ (0 : Int); decide, by show (0 : Int) ≤ _; decide, by show 1 ≤ s; omega, h2, .inr (.inl rfl)⟩
    · rw [List.mem_singleton.mp hd]; exact ⟨by show _ ≤ (-1 : Int); decide, by show (-1 : Int) ≤ _; decide, by show 1 ≤ s - 1; omega, by show s - 1 ≤ _; omega, .inr (.inl rfl)⟩
  have ec : comN [(⟨-1, s - 1, "up"⟩ : Sd), ⟨0, s, "up"⟩] ∣ comN [(⟨0, s, "up"⟩ : Sd), ⟨-1, s - 1, "up"⟩] := comN_dvd.mpr fun d hd => comN_dvd.mp (Nat.dvd_refl _) d (by
    simp only [List.mem_cons, List.not_mem_nil, or_false] at hd ⊢
    exact hd.symm)
  have ec2 := Nat.le_of_dvd (com_pos _ 1 (by decide) S) ec
  have S' : ∀ d ∈ [(⟨-1, s - 1, "up"⟩ : Sd), ⟨0, s, "up"⟩], SideP d.o d.s d.m := fun d hd => S d (by
    simp only [List.mem_cons, List.not_mem_nil, or_false] at hd ⊢
    exact hd.symm)
  have ec3 : (comN [(⟨-1, s - 1, "up"⟩ : Sd), ⟨0, s, "up"⟩] : Int) ≤ (comN [(⟨0, s, "up"⟩ : Sd), ⟨-1, s - 1, "up"⟩] : Int) := Int.ofNat_le.mpr ec2
  refine no_rec (B := 10 ^ 36) (by decide) (it_far S (by decide)) (by have := com_two (o1 := -1) (o2 := 0) rfl h S'; omega) fun x x0 x1 e => ?_
  have u := una_twoP.mp (una_hi.mpr e)
  obtain ⟨b, eb⟩ := (up_un (o := 0) (x := x) (show 1 ≤ s by omega)).1.mp u.1
  obtain ⟨a, ea⟩ := (up_un (o := -1) (x := x) (show 1 ≤ s - 1 by omega)).1.mp u.2
  exact sq_far (x := x + 1) h (by omega) (by omega) (show x + 1 = (s - 1) * a by omega) (show x + 1 - 1 = s * b by omega)
/-- one by one -/
theorem hi_one {s : Int} (hs : 1 ≤ s) (x : Int) : hiL [⟨0, 2, "up"⟩, ⟨1, 2, "up"⟩, ⟨0, s, "down"⟩] x = x + 1 := by
  show max (dueM 0 2 "up" x) (max (dueM 1 2 "up" x) (max (dueM 0 s "down" x) x)) = x + 1
  rw [up_at (by decide), up_at (by decide)]
  have := dn_un (o := 0) (x := x) hs
  omega
theorem it_one {s : Int} (hs : 1 ≤ s) (v : Int) : ∀ n : Nat, it (hiL [⟨0, 2, "up"⟩, ⟨1, 2, "up"⟩, ⟨0, s, "down"⟩]) n v = v + (n : Int)
  | 0 => by show v = v + 0; omega
  | n + 1 => by
    show hiL _ (it _ n v) = _
    rw [it_one hs v n, hi_one hs]
    omega
theorem it_still {ss : List Sd} {v : Int} (h : hiL ss v = v) : ∀ n, it (hiL ss) n v = v
  | 0 => rfl
  | n + 1 => by
    show hiL ss (it (hiL ss) n v) = v
    rw [it_still h n, h]
theorem it_then {ss : List Sd} {v w : Int} (h : hiL ss v = w) (h2 : hiL ss w = w) : ∀ n, it (hiL ss) (n + 1) v = w
  | 0 => h
  | n + 1 => by
    show hiL ss (it (hiL ss) (n + 1) v) = w
    rw [it_then h h2 n, h2]
theorem one_no {s : Int} (h : 10 ^ 29 ≤ s) (h2 : s ≤ 10 ^ 30) : ¬ Rec [⟨0, 2, "up"⟩, ⟨1, 2, "up"⟩, ⟨0, s, "down"⟩] 0 := by
  have de : ¬ (("down" : Str) = "half_even") := by decide +kernel
  have S : ∀ d ∈ [(⟨0, 2, "up"⟩ : Sd), ⟨1, 2, "up"⟩, ⟨0, s, "down"⟩], SideP d.o d.s d.m := fun d hd => by
    rcases List.mem_cons.mp hd with e | hd
    · rw [e]; exact ⟨by decide, by decide, by decide, by decide, .inr (.inl rfl)⟩
    rcases List.mem_cons.mp hd with e | hd
    · rw [e]; exact ⟨by decide, by decide, by decide, by decide, .inr (.inl rfl)⟩
    · rw [List.mem_singleton.mp hd]; exact ⟨by show _ ≤ (0 : Int); decide, by show (0 : Int) ≤ _; decide, by show 1 ≤ s; omega, h2, .inl rfl⟩
  have d3 : perN ⟨0, s, "down"⟩ ∣ comN [(⟨0, 2, "up"⟩ : Sd), ⟨1, 2, "up"⟩, ⟨0, s, "down"⟩] := comN_dvd.mp (Nat.dvd_refl _) _ (List.mem_cons_of_mem _ (List.mem_cons_of_mem _ List.mem_cons_self))
  have le := Nat.le_of_dvd (com_pos _ 1 (by decide) S) d3
  have p3 : ((perN ⟨0, s, "down"⟩ : Nat) : Int) = s := by
    unfold perN perM
    rw [if_neg de]
    exact Int.toNat_of_nonneg (by show 0 ≤ s; omega)
  have le2 : ((perN ⟨0, s, "down"⟩ : Nat) : Int) ≤ (comN [(⟨0, 2, "up"⟩ : Sd), ⟨1, 2, "up"⟩, ⟨0, s, "down"⟩] : Int) := Int.ofNat_le.mpr le
  refine no_rec (B := 10000) (by decide) (fun k hk => by rw [it_one (by omega)]; omega) (by omega) fun x x0 x1 e => ?_
  rw [hi_one (by omega)] at e
  omega
/-- the late one -/
theorem hi_late (x : Int) : hiL [⟨0, 3, "up"⟩, ⟨1, 3, "up"⟩, ⟨0, 15000, "down"⟩] x = x + (if x % 3 = 0 then 1 else 2) := by
  show max (dueM 0 3 "up" x) (max (dueM 1 3 "up" x) (max (dueM 0 15000 "down" x) x)) = _
  rw [up_at (by decide), up_at (by decide)]
  have := dn_un (o := 0) (x := x) (show (1 : Int) ≤ 15000 by decide)
  split <;> omega
theorem it_late : ∀ m : Nat, it (hiL [⟨0, 3, "up"⟩, ⟨1, 3, "up"⟩, ⟨0, 15000, "down"⟩]) (2 * m + 1) 2 = 3 * (m : Int) + 4 ∧ it (hiL [⟨0, 3, "up"⟩, ⟨1, 3, "up"⟩, ⟨0, 15000, "down"⟩]) (2 * m + 2) 2 = 3 * (m : Int) + 6
  | 0 => by
    have a : it (hiL [⟨0, 3, "up"⟩, ⟨1, 3, "up"⟩, ⟨0, 15000, "down"⟩]) 1 2 = 4 := by
      show hiL _ 2 = 4
      rw [hi_late]; decide
    refine ⟨a, ?_⟩
    show hiL _ (it _ 1 2) = 6
    rw [a, hi_late]; decide
  | m + 1 => by
    obtain ⟨_, b⟩ := it_late m
    have c : it (hiL [⟨0, 3, "up"⟩, ⟨1, 3, "up"⟩, ⟨0, 15000, "down"⟩]) (2 * (m + 1) + 1) 2 = 3 * ((m + 1 : Nat) : Int) + 4 := by
      show hiL _ (it _ (2 * m + 2) 2) = _
      rw [b, hi_late, if_pos (by omega)]
      omega
    refine ⟨c, ?_⟩
    show hiL _ (it _ (2 * (m + 1) + 1) 2) = _
    rw [c, hi_late, if_neg (by omega)]
    omega
theorem late_at (k : Nat) : (k = 0 ∧ it (hiL [⟨0, 3, "up"⟩, ⟨1, 3, "up"⟩, ⟨0, 15000, "down"⟩]) k 2 = 2) ∨ ∃ m : Nat, (k = 2 * m + 1 ∧ it (hiL [⟨0, 3, "up"⟩, ⟨1, 3, "up"⟩, ⟨0, 15000, "down"⟩]) k 2 = 3 * (m : Int) + 4) ∨ (k = 2 * m + 2 ∧ it (hiL [⟨0, 3, "up"⟩, ⟨1, 3, "up"⟩, ⟨0, 15000, "down"⟩]) k 2 = 3 * (m : Int) + 6) := by
  by_cases z : k = 0
  · subst z; exact .inl ⟨rfl, rfl⟩
  · by_cases o : k % 2 = 1
    · have e : k = 2 * (k / 2) + 1 := by omega
      exact .inr ⟨k / 2, .inl ⟨e, by rw [e]; have := (it_late (k / 2)).1; rw [show (2 * (k / 2) + 1) / 2 = k / 2 by omega]; exact this⟩⟩
    · have e : k = 2 * (k / 2 - 1) + 2 := by omega
      exact .inr ⟨k / 2 - 1, .inr ⟨e, by rw [e]; have := (it_late (k / 2 - 1)).2; rw [show (2 * (k / 2 - 1) + 2) / 2 - 1 = k / 2 - 1 by omega]; exact this⟩⟩
theorem late_no : ¬ Rec [⟨0, 3, "up"⟩, ⟨1, 3, "up"⟩, ⟨0, 15000, "down"⟩] 2 := by
  have ec : comN [(⟨0, 3, "up"⟩ : Sd), ⟨1, 3, "up"⟩, ⟨0, 15000, "down"⟩] = 15000 := by decide +kernel
  rintro ⟨i, j, ij, hj, e⟩
  rw [ec] at e
  have a := late_at i
  have b := late_at j
  generalize it (hiL [⟨0, 3, "up"⟩, ⟨1, 3, "up"⟩, ⟨0, 15000, "down"⟩]) i 2 = p at e a
  generalize it (hiL [⟨0, 3, "up"⟩, ⟨1, 3, "up"⟩, ⟨0, 15000, "down"⟩]) j 2 = q at e b
  rcases a with ⟨i0, a⟩ | ⟨m, ⟨i0, a⟩ | ⟨i0, a⟩⟩ <;> rcases b with ⟨j0, b⟩ | ⟨n, ⟨j0, b⟩ | ⟨j0, b⟩⟩ <;> omega
theorem late_end : it (hiL [⟨0, 3, "up"⟩, ⟨1, 3, "up"⟩, ⟨0, 15000, "down"⟩]) 10000 2 = 15003 := by
  have := (it_late 4999).2
  exact this
end HT
namespace HT
open PySem L2
/-- sides of at most so great steps -/
structure SdQ (mo : Int) (H : Hp) (xs : List V) (ss : List Sd) : Prop where
  len : xs.length = ss.length
  at_ : ∀ (i : Nat) (d : Sd), ss[i]? = some d → ∃ p : Addr, xs[i]? = some (V.ref p) ∧ H p = some (sideV d.o d.s d.m) ∧ (SideP d.o d.s d.m ∧ d.s ≤ mo)
theorem SdQ.oth {mo : Int} {H H' : Hp} {xs : List V} {ss : List Sd} {a c : Addr} {t : Nat} (S : SdQ mo H xs ss) (s : Src H a c t) (o : Oth a c H H') : SdQ mo H' xs ss :=
  ⟨S.len, fun i d h => let ⟨p, e, hp, r⟩ := S.at_ i d h; ⟨p, e, o _ _ hp (s.nt hp).1 (s.nt hp).2, r⟩⟩
theorem SdQ.put {mo : Int} {H : Hp} {xs : List V} {ss : List Sd} {l : Addr} {ys zs : List V} (S : SdQ mo H xs ss) (hl : H l = some (.lst ys)) : SdQ mo (upd H l (.lst zs)) xs ss :=
  ⟨S.len, fun i d h => let ⟨p, e1, hp, r⟩ := S.at_ i d h; ⟨p, e1, (upd_ne (ne_of hp hl (by intro z; cases z))).trans hp, r⟩⟩
theorem SdQ.same {mo : Int} {H H' : Hp} {xs : List V} {ss : List Sd} (S : SdQ mo H xs ss) (e : Same H H') : SdQ mo H' xs ss :=
  ⟨S.len, fun i d h => let ⟨p, e1, hp, r⟩ := S.at_ i d h; ⟨p, e1, e _ _ hp, r⟩⟩
theorem SdQ.snoc {mo : Int} {H : Hp} {xs : List V} {ss : List Sd} {p : Addr} {d : Sd} (S : SdQ mo H xs ss) (hp : H p = some (sideV d.o d.s d.m)) (r : SideP d.o d.s d.m ∧ d.s ≤ mo) : SdQ mo H (xs ++ [V.ref p]) (ss ++ [d]) := by
  refine ⟨by rw [List.length_append, List.length_append, S.len]; rfl, fun i e h => ?_⟩
  have hi : i < ss.length + 1 := by
    have := (List.getElem?_eq_some_iff.mp h).1
    rw [List.length_append] at this
    exact this
  rcases Nat.lt_or_eq_of_le (Nat.le_of_lt_succ hi) with lt | eq
  · rw [List.getElem?_append_left lt] at h
    obtain ⟨q, e1, e2⟩ := S.at_ i e h
    exact ⟨q, by rw [List.getElem?_append_left (by rw [S.len]; exact lt)]; exact e1, e2⟩
  · subst eq
    rw [List.getElem?_append_right (Nat.le_refl _), Nat.sub_self] at h
    cases h
    exact ⟨p, by rw [← S.len, List.getElem?_append_right (Nat.le_refl _), Nat.sub_self]; rfl, hp, r⟩
theorem SdQ.sides {mo : Int} {H : Hp} {l : Addr} {xs : List V} {ss : List Sd} (S : SdQ mo H xs ss) (hl : H l = some (.lst xs)) (h1 : 1 ≤ ss.length) (h4 : ss.length ≤ 4) : SidesAt H l xs ss :=
  ⟨hl, S.len, h1, h4, fun i d h => let ⟨p, e, hp, a, _⟩ := S.at_ i d h; ⟨p, e, hp, a⟩⟩
theorem SdQ.le {mo : Int} {H : Hp} {xs : List V} {ss : List Sd} (S : SdQ mo H xs ss) : ∀ d ∈ ss, d.s ≤ mo := fun d hd => by
  obtain ⟨i, hi, rfl⟩ := List.mem_iff_getElem.mp hd
  obtain ⟨_, _, _, _, r⟩ := S.at_ i _ (List.getElem?_eq_getElem hi)
  exact r
theorem SdQ.app {mo : Int} {H : Hp} {xs ys : List V} {ss ts : List Sd} (S : SdQ mo H xs ss) (T : SdQ mo H ys ts) : SdQ mo H (xs ++ ys) (ss ++ ts) := by
  refine ⟨by rw [List.length_append, List.length_append, S.len, T.len], fun i d h => ?_⟩
  rcases Nat.lt_or_ge i ss.length with lt | ge
  · rw [List.getElem?_append_left lt] at h
    obtain ⟨q, e1, e2⟩ := S.at_ i d h
    exact ⟨q, by rw [List.getElem?_append_left (by rw [S.len]; exact lt)]; exact e1, e2⟩
  · rw [List.getElem?_append_right ge] at h
    obtain ⟨q, e1, e2⟩ := T.at_ _ d h
    exact ⟨q, by rw [List.getElem?_append_right (by rw [S.len]; exact ge), S.len]; exact e1, e2⟩
theorem SdQ.take {mo : Int} {H : Hp} {xs : List V} {ss : List Sd} (S : SdQ mo H xs ss) (n : Nat) : SdQ mo H (xs.take n) (ss.take n) := by
  refine ⟨by rw [List.length_take, List.length_take, S.len], fun i d h => ?_⟩
  rw [List.getElem?_take] at h ⊢
  split at h
  · rw [if_pos (by assumption)]
    exact S.at_ i d h
  · cases h
theorem SdQ.drop {mo : Int} {H : Hp} {xs : List V} {ss : List Sd} (S : SdQ mo H xs ss) (n : Nat) : SdQ mo H (xs.drop n) (ss.drop n) := by
  refine ⟨by rw [List.length_drop, List.length_drop, S.len], fun i d h => ?_⟩
  rw [List.getElem?_drop] at h ⊢
  exact S.at_ _ d h
theorem SdQ.up {mo mo' : Int} {H : Hp} {xs : List V} {ss : List Sd} (S : SdQ mo H xs ss) (h : mo ≤ mo') : SdQ mo' H xs ss :=
  ⟨S.len, fun i d e => let ⟨p, e1, hp, a, b⟩ := S.at_ i d e; ⟨p, e1, hp, a, by omega⟩⟩
theorem SdQ.ofL {H : Hp} {l : Addr} {xs : List V} {ss : List Sd} (S : SidL H l xs ss) : SdQ (10 ^ 30) H xs ss := ⟨S.len, fun i d e => let ⟨p, e1, hp, a⟩ := S.at_ i d e; ⟨p, e1, hp, a, a.s1⟩⟩
theorem SdQ.toL {mo : Int} {H : Hp} {l : Addr} {xs : List V} {ss : List Sd} (S : SdQ mo H xs ss) (hl : H l = some (.lst xs)) (h4 : ss.length ≤ 4) : SidL H l xs ss :=
  ⟨hl, S.len, h4, fun i d h => let ⟨p, e, hp, a, _⟩ := S.at_ i d h; ⟨p, e, hp, a⟩⟩
theorem Src.chg {a c p : Addr} {H : Hp} {t : Nat} {o : HO} (S : Src H a c t) (na : p ≠ a) (nc : p ≠ c) : Src (upd H p o) a c t := by
  obtain ⟨cs, h, l⟩ := S.cl
  exact ⟨S.ne, (upd_ne na.symm).trans S.ob, cs, (upd_ne nc.symm).trans h, l⟩
theorem sdq_nil {mo : Int} {H : Hp} : SdQ mo H [] [] := ⟨rfl, fun i d h => by simp at h⟩
end HT
namespace HT
open PySem L2
def spLaw (K : PySem.W.Frag) : Sp := fun vs H Q _ => ∃ (l : Addr) (ns : List Int), vs = [.ref l] ∧ SqL K H l (ns.map V.int) ∧ ns.length ≤ 63 ∧ ∀ H', Q (.bl true) H'
theorem many_sh : SeqAt.shaped (.str "many") = true := by decide +kernel
theorem many_refl : PyData.eqv (.str "many") (.str "many") = true := by decide +kernel
theorem pair_str (x y : Int) (z : Str) : PyData.eqv (pairD x y) (.str z) = false := by
  show PyData.eqv (.tuple _) (.str _) = false
  rw [PyData.eqv]
theorem low_mir (s : Int) : ([⟨0, s, "down"⟩, ⟨1, s - 1, "down"⟩] : List Sd).map mirD = [⟨0, s, "up"⟩, ⟨-1, s - 1, "up"⟩] := by
  show [(⟨-0, s, mir "down"⟩ : Sd), ⟨-1, s - 1, mir "down"⟩] = _
  rw [mir_d]
  rfl
theorem at_li {A B : List V} {H : Hp} {p : Addr} {G : Hp → Prop} (e : A = B) (g : G (upd H p (.lst B))) : G (upd H p (.lst A)) := e ▸ g
def lateD : PyData := .list [pairD 0 15003, .str "many"]
theorem late_sh : SeqAt.shaped lateD = true := by decide +kernel
theorem late_dp {K : PySem.W.Frag} {H : Hp} {L p : Addr} (h : H L = some (.lst [V.ref p, .str "many"])) (hp : H p = some (.tup [.int 0, .int 15003])) : Dp K H (.ref L) lateD := .lst (SqL.of h) (.cons (pair_dp hp) (.cons (.str _) .nil))
theorem up_lo (n : Nat) : loL [⟨0, 2, "up"⟩, ⟨1, 2, "up"⟩, ⟨0, 10000, "down"⟩] n 0 = 0 := by
  unfold loL
  rw [show (-0 : Int) = 0 from rfl, it_still (by decide +kernel)]
  rfl
theorem dn_lo (n : Nat) : loL [⟨0, 2, "down"⟩, ⟨-1, 2, "down"⟩, ⟨0, 10000, "up"⟩] n 0 = -(n : Int) := by
  unfold loL
  rw [show ([⟨0, 2, "down"⟩, ⟨-1, 2, "down"⟩, ⟨0, 10000, "up"⟩] : List Sd).map mirD = [⟨0, 2, "up"⟩, ⟨1, 2, "up"⟩, ⟨0, 10000, "down"⟩] by rfl, show (-0 : Int) = 0 from rfl, it_one (by decide), Int.zero_add]
theorem lt_lo : loL [⟨0, 3, "up"⟩, ⟨1, 3, "up"⟩, ⟨0, 15000, "down"⟩] 10000 2 = 0 := by
  unfold loL
  rw [it_then (w := 0) (by decide +kernel) (by decide +kernel) 9999]
  rfl
theorem pr_lo {s : Int} (h : 10 ^ 29 ≤ s) : loL [⟨0, s - 1, "up"⟩, ⟨1, s, "up"⟩] 10000 2 = 2 := by
  unfold loL
  rw [it_still ?_]
  · rfl
  · show max (dueM (-0) (s - 1) (mir "up") (-2)) (max (dueM (-1) s (mir "up") (-2)) (-2)) = -2
    rw [mir_u]
    have a := dn_un (o := -0) (x := -2) (show 1 ≤ s - 1 by omega)
    have b := dn_un (o := -1) (x := -2) (show 1 ≤ s by omega)
    omega
theorem ten40 : (10 : Int) ^ (40 : Int).toNat = ((10 ^ 40 : Nat) : Int) := by decide +kernel
section
variable {P : Program} {w : World} {K : PySem.W.Frag} {mg : Str → Option Value} {base : Heap} {f0 f1 f2 f3 f4 f5 f6 f7 f8 : Addr} {d0 d1 d2 d3 d4 d5 d6 d7 d8 : FuncData}
theorem ok_law {f : Addr} {fd : FuncData} (F : Fun K "law" "law" s_law f fd) (B : Blt mg) (So : Cal P w K mg base "_law_source" 1 ["_law_script"] (spSource K) f0 d0) (D : Cal P w K mg base "_law_draw" 1 ["_law_source_here", "_law_limit"] spDraw f1 d1) (Pk : Cal P w K mg base "_law_pick" 2 ["_law_source_here", "_law_values"] spPick f2 d2)
    (Gr : Cal P w K mg base "_law_great" 2 ["_law_source_here", "_law_digits"] spGreat f3 d3) (Se : Cal P w K mg base "_law_set" 4 ["_law_source_here", "_law_most", "_law_many"] spSet f4 d4) (Pe : Cal P w K mg base "_law_period" 2 ["_law_sides"] spPer f5 d5) (Fi : Cal P w K mg base "_law_fits" 7 ["_law_source_here", "_law_sides", "_law_factor"] spFits53 f6 d6)
    (Wd : Cal P w K mg base "_law_word" 7 ["_law_sides", "_law_value", "_law_many"] spWord53 f7 d7) (Fu : Cal P w K mg base "_law_furthest" 4 ["_law_sides", "_law_value", "_law_many", "_law_sign"] spFur f8 d8) : FnOk P w K mg base CX0 8 f fd ["_law_script"] (spLaw K) := by
  refine F.ok sc_law (fun vs H Q E h => ?_) (fun cdv A outer s0 H vs Q E hr h => ?_)
  · obtain ⟨l, ns, rfl, _⟩ := h
    rfl
  · obtain ⟨l, ns, rfl, hl, nl, q⟩ := h
    have nd := sc_law.nd
    refine ⟨_, (pss_cons (ps_mid (ps_set (i := 1) nd rfl (Or.inl rfl) (pcl So hr (by decide) (by rfl) (pa_cons (pv 0) pa_nil))))
      (pss_cons (ps_mid (ps_for PassesOwn.never rfl (pi_range1 (by rfl) B.range (pa_cons pe_int pa_nil)) (pg_name (i := 2) nd rfl (Or.inl rfl)) (pss_cons (ps_mid (ps_set (i := 3) nd rfl (Or.inl rfl) (pcl Se hr (by decide) (by rfl) (pa_cons (pv 1) (pa_cons (pcl Pk hr (by decide) (by rfl) (pa_cons (pv 1) (pa_cons (pe_lst (pa_cons pe_int (pa_cons pe_int (pa_cons pe_int pa_nil)))) pa_nil))) (pa_cons pe_int pa_nil))))))
      (pss_cons (ps_mid (ps_set (i := 4) nd rfl (Or.inl rfl) (pcl Pk hr (by decide) (by rfl) (pa_cons (pv 1) (pa_cons (pe_lst (pa_cons pe_int (pa_cons (pe_op op_add pe_int (pcl Gr hr (by decide) (by rfl) (pa_cons (pv 1) (pa_cons pe_int pa_nil)))) pa_nil))) pa_nil)))))
      (pss_one (ps_if (pt_mid (PW.pt (pw_and (pt_cmpR op_lt (pcl Pe hr (by decide) (by rfl) (pa_cons (pv 3) pa_nil)) pe_int (nomark _)) (pw_and1 (pt_not (pt_val (pcl Fi hr (by decide) (by rfl) (pa_cons (pv 1) (pa_cons (pv 3) (pa_cons (pv 4) pa_nil)))))))))) (pss_one (ps_ret pe_bl)) pss_nil))))))
      (pss_cons (ps_mid (ps_set (i := 5) nd rfl (Or.inl rfl) (pe_op op_sub (pe_op op_pow pe_int pe_int) (pcl D hr (by decide) (by rfl) (pa_cons (pv 1) (pa_cons pe_int pa_nil))))))
      (pss_cons (ps_mid (ps_set (i := 6) nd rfl (Or.inl rfl) (pe_lst (pa_cons (pe_tup (pa_cons pe_int (pa_cons (pe_op op_sub (pv 5) pe_int) (pa_cons pe_str pa_nil)))) (pa_cons (pe_tup (pa_cons pe_int (pa_cons (pv 5) (pa_cons pe_str pa_nil)))) pa_nil)))))
      (pss_cons (ps_mid (ps_set (i := 7) nd rfl (Or.inl rfl) (pe_lst (pa_cons (pe_tup (pa_cons pe_int (pa_cons (pv 5) (pa_cons pe_str pa_nil)))) (pa_cons (pe_tup (pa_cons pe_int (pa_cons (pe_op op_sub (pv 5) pe_int) (pa_cons pe_str pa_nil)))) pa_nil)))))
      (pss_cons (ps_if (pt_mid (PW.pt (pw_or (pt_cmpR (op_neD hr.units) (pcl Wd hr (by decide) (by rfl) (pa_cons (pv 6) (pa_cons pe_int (pa_cons pe_int pa_nil)))) pe_str (nomark _)) (pw_or1 (pt_cmpR (op_neD hr.units) (pcl Wd hr (by decide) (by rfl) (pa_cons (pv 7) (pa_cons pe_int (pa_cons (pe_op op_pow pe_int pe_int) pa_nil)))) pe_str (nomark _)))))) (pss_one (ps_ret pe_bl)) pss_nil)
      (pss_cons (ps_if (pt_mid (pt_cmpR (op_neD hr.units) (pcl Wd hr (by decide) (by rfl) (pa_cons (pe_lst (pa_cons (pe_tup (pa_cons pe_int (pa_cons pe_int (pa_cons pe_str pa_nil)))) (pa_cons (pe_tup (pa_cons pe_int (pa_cons pe_int (pa_cons pe_str pa_nil)))) (pa_cons (pe_tup (pa_cons pe_int (pa_cons (pv 5) (pa_cons pe_str pa_nil)))) pa_nil)))) (pa_cons pe_int (pa_cons pe_int pa_nil)))) pe_str (nomark _))) (pss_one (ps_ret pe_bl)) pss_nil)
      (pss_cons (ps_mid (ps_set (i := 8) nd rfl (Or.inl rfl) (pe_lst (pa_cons (pe_tup (pa_cons pe_int (pa_cons pe_int (pa_cons pe_str pa_nil)))) (pa_cons (pe_tup (pa_cons pe_int (pa_cons pe_int (pa_cons pe_str pa_nil)))) (pa_cons (pe_tup (pa_cons pe_int (pa_cons pe_int (pa_cons pe_str pa_nil)))) pa_nil))))))
      (pss_cons (ps_mid (ps_set (i := 9) nd rfl (Or.inl rfl) (pe_lst (pa_cons (pe_tup (pa_cons pe_int (pa_cons pe_int (pa_cons pe_str pa_nil)))) (pa_cons (pe_tup (pa_cons (pe_un un_neg pe_int) (pa_cons pe_int (pa_cons pe_str pa_nil)))) (pa_cons (pe_tup (pa_cons pe_int (pa_cons pe_int (pa_cons pe_str pa_nil)))) pa_nil))))))
      (pss_cons (ps_mid (ps_for PassesOwn.never rfl (pi_list (pe_lst (pa_cons pe_int (pa_cons (pe_op op_pow pe_int pe_int) pa_nil)))) (pg_name (i := 10) nd rfl (Or.inl rfl)) (pss_one (ps_if (pt_mid (PW.pt (pw_or (pt_cmpR (op_neD hr.units) (pcl Wd hr (by decide) (by rfl) (pa_cons (pv 8) (pa_cons pe_int (pa_cons (pv 10) pa_nil)))) (pe_tup (pa_cons pe_int (pa_cons (pv 10) pa_nil))) (nomark _)) (pw_or1 (pt_cmpR (op_neD hr.units) (pcl Wd hr (by decide) (by rfl) (pa_cons (pv 9) (pa_cons pe_int (pa_cons (pv 10) pa_nil)))) (pe_tup (pa_cons (pe_un un_neg (pv 10)) (pa_cons pe_int pa_nil))) (nomark _)))))) (pss_one (ps_ret pe_bl)) pss_nil))))
      (pss_cons (ps_mid (ps_set (i := 11) nd rfl (Or.inr rfl) (pe_lst (pa_cons (pe_tup (pa_cons pe_int (pa_cons pe_int (pa_cons pe_str pa_nil)))) (pa_cons (pe_tup (pa_cons pe_int (pa_cons pe_int (pa_cons pe_str pa_nil)))) (pa_cons (pe_tup (pa_cons pe_int (pa_cons pe_int (pa_cons pe_str pa_nil)))) pa_nil))))))
      (pss_cons (ps_if (pt_cmpR (op_neD hr.units) (pe_lc (own := [("_law_many", 10)]) (g := gName 10) (tt := tYes) rfl nd (pi_list (pe_lst (pa_cons pe_int (pa_cons pe_int pa_nil)))) (blkOk_by (N := ["_law_script", "_law_source_here", "_law_turn", "_law_sides", "_law_factor", "_law_step", "_law_pair", "_law_low", "_law_up", "_law_down", "_law_many", "_law_late", "_law_found"]) (sc := defScope s_law) (by decide +kernel)) (fun _ _ _ _ _ => pg_name (i := 10) nd rfl (Or.inl rfl)) (fun _ _ _ _ _ => pts_nil) (fun _ _ _ _ _ => (pcl Wd hr (by decide) (by rfl) (pa_cons (pv 11) (pa_cons pe_int (pa_cons (pv 10) pa_nil)))))) (pe_lst (pa_cons (pe_tup (pa_cons pe_int (pa_cons pe_int pa_nil))) (pa_cons pe_str pa_nil))) (nomark _)) (pss_one (ps_ret pe_bl)) pss_nil)
      (pss_cons (ps_mid (ps_set (i := 12) nd rfl (Or.inl rfl) (pcl Wd hr (by decide) (by rfl) (pa_cons (pv 6) (pa_cons pe_int (pa_cons pe_int pa_nil))))))
      (pss_one (ps_ret (pe_and (pe_cmpR (op_neD hr.units) (pv 12) pe_str (nomark _)) (pe_and (pe_cmpR (op_eqD hr.units) (pv 12) (pe_tup (pa_cons pe_int (pa_cons (pcl Fu hr (by decide) (by rfl) (pa_cons (pv 6) (pa_cons pe_int (pa_cons pe_int (pa_cons pe_int pa_nil))))) pa_nil))) (nomark _)) (pe_one (pe_cmpR (op_eqD hr.units) (pcl Wd hr (by decide) (by rfl) (pa_cons (pv 6) (pa_cons pe_int (pa_cons pe_int pa_nil)))) (pe_tup (pa_cons pe_int (pa_cons pe_int pa_nil))) (nomark _)))))))))))))))))))), ?_⟩
    refine ⟨fun st Hz => ∃ a c : Addr, st = [some (.ref l), some (.ref a), none, none, none, none, none, none, none, none, none, none, none] ∧ Src Hz a c 0, ?_, ?_⟩
    · walk_at "rd"
      refine ⟨l, ns, rfl, hl, nl, fun a c H1 _ _ _ S1 => ?_⟩
      exact ⟨a, c, rfl, S1⟩
    rintro st H1 ⟨a, c, rfl, S1⟩
    refine ⟨fun st Hz => ∃ (x2 x3 x4 x5 x6 x7 x8 x9 x10 x11 x12 : Option V) (t : Nat), st = [some (.ref l), some (.ref a), x2, x3, x4, x5, x6, x7, x8, x9, x10, x11, x12] ∧ Src Hz a c t ∧ t ≤ 5000, ?_, ?_⟩
    · walk_at "rd"
      refine ⟨by decide, by decide, ?_⟩
      refine for_range (n := 15) (fun i st Hz => ∃ (x2 x3 x4 x5 x6 x7 x8 x9 x10 x11 x12 : Option V) (t : Nat), st = [some (.ref l), some (.ref a), x2, x3, x4, x5, x6, x7, x8, x9, x10, x11, x12] ∧ Src Hz a c t ∧ t ≤ 300 * i) ⟨none, none, none, none, none, none, none, none, none, none, none, 0, rfl, S1, by omega⟩ ?_ (fun st Hz ⟨x2, x3, x4, x5, x6, x7, x8, x9, x10, x11, x12, t, e, S, tb⟩ => ⟨x2, x3, x4, x5, x6, x7, x8, x9, x10, x11, x12, t, e, S, by omega⟩)
      rintro i st Ha hi ⟨x2, x3, x4, x5, x6, x7, x8, x9, x10, x11, x12, t, rfl, Sa, tb⟩
      walk_at "rd"
      refine ⟨fun st Hz => ∃ (sl : Addr) (xs : List V) (ss : List Sd) (t1 : Nat), st = [some (.ref l), some (.ref a), some (.int (0 + (i : Int))), some (.ref sl), x4, x5, x6, x7, x8, x9, x10, x11, x12] ∧ SidesAt Hz sl xs ss ∧ (∀ d ∈ ss, -30 ≤ d.o ∧ d.o ≤ 29 ∧ d.s ≤ 12) ∧ sl ≠ a ∧ sl ≠ c ∧ t1 ≤ t + 30 ∧ Src Hz a c t1, ?_, ?_⟩
      · walk_at "rd"
        refine ⟨(by show 3 ≤ sizeLine; decide), fun l0 nl0 => ?_⟩
        obtain ⟨la, lc⟩ := Sa.na nl0
        refine ⟨a, c, t, l0, _, rfl, Sa.new nl0, by omega, upd_same, la, lc, by decide, by decide, fun x H2 hx S2 O2 => ?_⟩
        obtain ⟨mo, rfl, m0, m1⟩ : ∃ mo : Nat, x = .int (mo : Int) ∧ 1 ≤ mo ∧ mo ≤ 12 := by
          simp only [List.mem_cons, List.not_mem_nil, or_false] at hx
          rcases hx with rfl | rfl | rfl
          · exact ⟨4, rfl, by decide, by decide⟩
          · exact ⟨8, rfl, by decide, by decide⟩
          · exact ⟨12, rfl, by decide, by decide⟩
        walk_at "rd"
        refine ⟨a, c, _, mo, 4, rfl, S2, m0, by omega, by decide, by decide, by omega, fun sl xs ss H3 t3 SS sm na nc tb3 S3 O3 => ?_⟩
        exact ⟨sl, xs, ss, t3, rfl, SS, fun d hd => ⟨(sm d hd).1, (sm d hd).2.1, by have := (sm d hd).2.2; omega⟩, na, nc, by omega, S3⟩
      rintro st H2 ⟨sl, xs, ss, t1, rfl, SS, small, na, nc, tb1, S2⟩
      refine ⟨fun st Hz => ∃ (f : Int) (t2 : Nat), st = [some (.ref l), some (.ref a), some (.int (0 + (i : Int))), some (.ref sl), some (.int f), x5, x6, x7, x8, x9, x10, x11, x12] ∧ 1 ≤ f ∧ f ≤ 10 ^ 27 ∧ t2 ≤ t1 + 30 ∧ Src Hz a c t2 ∧ SidesAt Hz sl xs ss, ?_, ?_⟩
      · walk_at "rd"
        refine ⟨a, c, t1, 27, rfl, S2, by decide, by omega, fun g H3 g0 g1 S3 O3 => ?_⟩
        walk_at "rd"
        refine ⟨(by show 2 ≤ sizeLine; decide), fun l0 nl0 => ?_⟩
        obtain ⟨la, lc⟩ := S3.na nl0
        refine ⟨a, c, _, l0, _, rfl, S3.new nl0, by omega, upd_same, la, lc, (by show 0 < 2; decide), (by show 2 < 2 ^ 60; decide), fun x H4 hx S4 O4 => ?_⟩
        have O24 : Oth a c H2 H4 := (O3.new nl0).trans O4
        have SS4 := SS.oth S2 na nc O24
        simp only [List.mem_cons, List.not_mem_nil, or_false] at hx
        rcases hx with rfl | rfl
        · exact ⟨1, _, rfl, by decide, by decide, by omega, S4, SS4⟩
        · exact ⟨1 + g, _, rfl, by omega, by omega, by omega, S4, SS4⟩
      rintro st H3 ⟨f, t2, rfl, f1, f2, tb2, S3, SS3⟩
      refine ⟨fun b Hz => b = false ∧ ∃ t3, t3 ≤ t2 + 200 ∧ Src Hz a c t3, ?_, ?_⟩
      · walk_at "rd"
        refine ⟨sl, xs, ss, rfl, SS3, ?_⟩
        walk_at "rd"
        refine ite2 (fun z => ?_) (fun _ => ?_)
        · have c5 : comN ss < 5000 := by
            have : (comN ss : Int) < 5000 := of_decide_eq_true z
            omega
          walk_at "rd"
          refine ⟨a, c, t2, sl, xs, ss, f, rfl, S3, by omega, SS3, na, nc, small, f1, f2, c5, fun H4 t4 tb4 S4 => ?_⟩
          walk_at "rd"
          exact ⟨rfl, t4, tb4, S4⟩
        · exact ⟨rfl, t2, by omega, S3⟩
      rintro b H4 ⟨rfl, t3, tb3, S4⟩
      refine ite2 (fun z => absurd z (by decide)) (fun _ => ?_)
      exact ⟨_, _, _, _, _, _, _, _, _, _, _, t3, rfl, S4, by omega⟩
    rintro st H2 ⟨x2, x3, x4, x5, x6, x7, x8, x9, x10, x11, x12, t, rfl, S2, tb⟩
    refine ⟨fun st Hz => ∃ s : Int, st = [some (.ref l), some (.ref a), x2, x3, x4, some (.int s), x6, x7, x8, x9, x10, x11, x12] ∧ 10 ^ 29 ≤ s ∧ s ≤ 10 ^ 30, ?_, ?_⟩
    · walk_at "rd"
      refine ⟨⟨by decide, by decide, by decide⟩, ?_⟩
      walk_at "rd"
      refine ⟨a, c, t, 1000, rfl, S2, by omega, by decide, lg_small (by decide) (by decide), fun k H3 k0 k1 _ _ => ?_⟩
      walk_at "rd"
      have e : (10 : Int) ^ (30 : Int).toNat = 10 ^ 30 := by decide
      rw [e]
      omega
    rintro st H3 ⟨s, rfl, s29, s30⟩
    clear S2 tb
    refine ⟨fun st Hz => ∃ (pr : Addr) (prx : List V), st = [some (.ref l), some (.ref a), x2, x3, x4, some (.int s), some (.ref pr), x7, x8, x9, x10, x11, x12] ∧ SidesAt Hz pr prx [⟨0, s - 1, "up"⟩, ⟨1, s, "up"⟩] ∧ Same H3 Hz, ?_, ?_⟩
    · walk_at "rd"
      refine ⟨(by show 3 ≤ sizeLine; decide), fun m1 nm1 => ?_⟩
      have gm1 : upd H3 m1 (.tup [V.int (0), .int (s - 1), .str "up"]) m1 = some (.tup [V.int (0), .int (s - 1), .str "up"]) := upd_same
      have sm1 : Same H3 (upd H3 m1 (.tup [V.int (0), .int (s - 1), .str "up"])) := same_upd nm1
      generalize upd H3 m1 (.tup [V.int (0), .int (s - 1), .str "up"]) = P1 at gm1 sm1 ⊢
      walk_at "rd"
      refine ⟨(by show 3 ≤ sizeLine; decide), fun m2 nm2 => ?_⟩
      have gm2 : upd P1 m2 (.tup [V.int (1), .int (s), .str "up"]) m2 = some (.tup [V.int (1), .int (s), .str "up"]) := upd_same
      have sm2 : Same P1 (upd P1 m2 (.tup [V.int (1), .int (s), .str "up"])) := same_upd nm2
      generalize upd P1 m2 (.tup [V.int (1), .int (s), .str "up"]) = P2 at gm2 sm2 ⊢
      replace gm1 := sm2 _ _ gm1
      walk_at "rd"
      refine ⟨(by show 2 ≤ sizeLine; decide), fun m3 nm3 => ?_⟩
      have gm3 : upd P2 m3 (.lst [V.ref m1, .ref m2]) m3 = some (.lst [V.ref m1, .ref m2]) := upd_same
      have sm3 : Same P2 (upd P2 m3 (.lst [V.ref m1, .ref m2])) := same_upd nm3
      generalize upd P2 m3 (.lst [V.ref m1, .ref m2]) = P3 at gm3 sm3 ⊢
      replace gm1 := sm3 _ _ gm1
      replace gm2 := sm3 _ _ gm2
      exact ⟨m3, _, rfl, (show SdQ (10 ^ 30) P3 _ _ from ((sdq_nil.snoc (d := ⟨0, s - 1, "up"⟩) gm1 ⟨⟨by show _ ≤ (0 : Int); decide, by show (0 : Int) ≤ _; decide, by show 1 ≤ (s - 1 : Int); omega, by show (s - 1 : Int) ≤ _; omega, .inr (.inl rfl)⟩, by show (s - 1 : Int) ≤ _; omega⟩).snoc (d := ⟨1, s, "up"⟩) gm2 ⟨⟨by show _ ≤ (1 : Int); decide, by show (1 : Int) ≤ _; decide, by show 1 ≤ (s : Int); omega, by show (s : Int) ≤ _; omega, .inr (.inl rfl)⟩, by show (s : Int) ≤ _; omega⟩)).sides gm3 (by show 1 ≤ 2; decide) (by show 2 ≤ 4; decide), sm1.trans (sm2.trans (sm3))⟩
    rintro st H4 ⟨pr, prx, rfl, Tpr, spr⟩
    refine ⟨fun st Hz => ∃ (lw : Addr) (lwx : List V), st = [some (.ref l), some (.ref a), x2, x3, x4, some (.int s), some (.ref pr), some (.ref lw), x8, x9, x10, x11, x12] ∧ SidesAt Hz lw lwx [⟨0, s, "down"⟩, ⟨1, s - 1, "down"⟩] ∧ Same H4 Hz, ?_, ?_⟩
    · walk_at "rd"
      refine ⟨(by show 3 ≤ sizeLine; decide), fun m1 nm1 => ?_⟩
      have gm1 : upd H4 m1 (.tup [V.int (0), .int (s), .str "down"]) m1 = some (.tup [V.int (0), .int (s), .str "down"]) := upd_same
      have sm1 : Same H4 (upd H4 m1 (.tup [V.int (0), .int (s), .str "down"])) := same_upd nm1
      generalize upd H4 m1 (.tup [V.int (0), .int (s), .str "down"]) = Q1 at gm1 sm1 ⊢
      walk_at "rd"
      refine ⟨(by show 3 ≤ sizeLine; decide), fun m2 nm2 => ?_⟩
      have gm2 : upd Q1 m2 (.tup [V.int (1), .int (s - 1), .str "down"]) m2 = some (.tup [V.int (1), .int (s - 1), .str "down"]) := upd_same
      have sm2 : Same Q1 (upd Q1 m2 (.tup [V.int (1), .int (s - 1), .str "down"])) := same_upd nm2
      generalize upd Q1 m2 (.tup [V.int (1), .int (s - 1), .str "down"]) = Q2 at gm2 sm2 ⊢
      replace gm1 := sm2 _ _ gm1
      walk_at "rd"
      refine ⟨(by show 2 ≤ sizeLine; decide), fun m3 nm3 => ?_⟩
      have gm3 : upd Q2 m3 (.lst [V.ref m1, .ref m2]) m3 = some (.lst [V.ref m1, .ref m2]) := upd_same
      have sm3 : Same Q2 (upd Q2 m3 (.lst [V.ref m1, .ref m2])) := same_upd nm3
      generalize upd Q2 m3 (.lst [V.ref m1, .ref m2]) = Q3 at gm3 sm3 ⊢
      replace gm1 := sm3 _ _ gm1
      replace gm2 := sm3 _ _ gm2
      exact ⟨m3, _, rfl, (show SdQ (10 ^ 30) Q3 _ _ from ((sdq_nil.snoc (d := ⟨0, s, "down"⟩) gm1 ⟨⟨by show _ ≤ (0 : Int); decide, by show (0 : Int) ≤ _; decide, by show 1 ≤ (s : Int); omega, by show (s : Int) ≤ _; omega, .inl rfl⟩, by show (s : Int) ≤ _; omega⟩).snoc (d := ⟨1, s - 1, "down"⟩) gm2 ⟨⟨by show _ ≤ (1 : Int); decide, by show (1 : Int) ≤ _; decide, by show 1 ≤ (s - 1 : Int); omega, by show (s - 1 : Int) ≤ _; omega, .inl rfl⟩, by show (s - 1 : Int) ≤ _; omega⟩)).sides gm3 (by show 1 ≤ 2; decide) (by show 2 ≤ 4; decide), sm1.trans (sm2.trans (sm3))⟩
    rintro st H5 ⟨lw, lwx, rfl, Tlw, slw⟩
    have Tpr5 := Tpr.same slw
    clear Tpr spr slw
    walk_at "rd"
    refine ⟨fun b Hz => b = false ∧ Same H5 Hz, ?_, ?_⟩
    · walk_at "rd"
      refine ⟨pr, prx, _, 2, 10001, rfl, Tpr5, by omega, by omega, fun g => (g.elim (fun h => absurd h (by decide)) fun h => pair_no s29 s30 h.1).elim, fun _ _ Ha sa => ?_⟩
      walk_at "rd"
      refine ⟨_, _, .str _, .str _, many_sh, many_sh, ?_⟩
      rw [many_refl]
      refine ⟨_, rfl, ?_⟩
      refine ite2 (fun z => absurd z (by decide)) (fun _ => ?_)
      walk_at "rd"
      refine ⟨⟨by decide, by decide, by decide⟩, ?_⟩
      walk_at "rd"
      refine ⟨lw, lwx, _, 0, 10 ^ 40, (by show [V.ref lw, V.int 0, V.int ((10 : Int) ^ (40 : Int).toNat)] = _; rw [ten40]), Tlw.same sa, by omega, Nat.le_refl _, fun g => (g.elim (fun h => absurd h (by decide +kernel)) fun h => low_no s29 s30 (by have z := h.2; rw [low_mir] at z; exact z)).elim, fun _ _ Hb sb => ?_⟩
      walk_at "rd"
      refine ⟨_, _, .str _, .str _, many_sh, many_sh, ?_⟩
      rw [many_refl]
      exact ⟨_, rfl, rfl, sa.trans sb⟩
    rintro b H6 ⟨rfl, s6⟩
    refine ite2 (fun z => absurd z (by decide)) (fun _ => ?_)
    have Tpr6 := Tpr5.same s6
    clear Tpr5 s6 Tlw
    walk_at "rd"
    refine ⟨fun b Hz => b = false ∧ Same H6 Hz, ?_, ?_⟩
    · walk_at "rd"
      refine ⟨(by show 3 ≤ sizeLine; decide), fun n1 nn1 => ?_⟩
      have gn1 : upd H6 n1 (.tup [V.int (0), .int (2), .str "up"]) n1 = some (.tup [V.int (0), .int (2), .str "up"]) := upd_same
      have sn1 : Same H6 (upd H6 n1 (.tup [V.int (0), .int (2), .str "up"])) := same_upd nn1
      generalize upd H6 n1 (.tup [V.int (0), .int (2), .str "up"]) = W1 at gn1 sn1 ⊢
      walk_at "rd"
      refine ⟨(by show 3 ≤ sizeLine; decide), fun n2 nn2 => ?_⟩
      have gn2 : upd W1 n2 (.tup [V.int (1), .int (2), .str "up"]) n2 = some (.tup [V.int (1), .int (2), .str "up"]) := upd_same
      have sn2 : Same W1 (upd W1 n2 (.tup [V.int (1), .int (2), .str "up"])) := same_upd nn2
      generalize upd W1 n2 (.tup [V.int (1), .int (2), .str "up"]) = W2 at gn2 sn2 ⊢
      replace gn1 := sn2 _ _ gn1
      walk_at "rd"
      refine ⟨(by show 3 ≤ sizeLine; decide), fun n3 nn3 => ?_⟩
      have gn3 : upd W2 n3 (.tup [V.int (0), .int (s), .str "down"]) n3 = some (.tup [V.int (0), .int (s), .str "down"]) := upd_same
      have sn3 : Same W2 (upd W2 n3 (.tup [V.int (0), .int (s), .str "down"])) := same_upd nn3
      generalize upd W2 n3 (.tup [V.int (0), .int (s), .str "down"]) = W3 at gn3 sn3 ⊢
      replace gn1 := sn3 _ _ gn1
      replace gn2 := sn3 _ _ gn2
      walk_at "rd"
      refine ⟨(by show 3 ≤ sizeLine; decide), fun n4 nn4 => ?_⟩
      have gn4 : upd W3 n4 (.lst [V.ref n1, .ref n2, .ref n3]) n4 = some (.lst [V.ref n1, .ref n2, .ref n3]) := upd_same
      have sn4 : Same W3 (upd W3 n4 (.lst [V.ref n1, .ref n2, .ref n3])) := same_upd nn4
      generalize upd W3 n4 (.lst [V.ref n1, .ref n2, .ref n3]) = W4 at gn4 sn4 ⊢
      replace gn1 := sn4 _ _ gn1
      replace gn2 := sn4 _ _ gn2
      replace gn3 := sn4 _ _ gn3
      have T1 := (show SdQ (10 ^ 30) W4 _ _ from (((sdq_nil.snoc (d := ⟨0, 2, "up"⟩) gn1 ⟨⟨by show _ ≤ (0 : Int); decide, by show (0 : Int) ≤ _; decide, by show 1 ≤ (2 : Int); omega, by show (2 : Int) ≤ _; omega, .inr (.inl rfl)⟩, by show (2 : Int) ≤ _; omega⟩).snoc (d := ⟨1, 2, "up"⟩) gn2 ⟨⟨by show _ ≤ (1 : Int); decide, by show (1 : Int) ≤ _; decide, by show 1 ≤ (2 : Int); omega, by show (2 : Int) ≤ _; omega, .inr (.inl rfl)⟩, by show (2 : Int) ≤ _; omega⟩).snoc (d := ⟨0, s, "down"⟩) gn3 ⟨⟨by show _ ≤ (0 : Int); decide, by show (0 : Int) ≤ _; decide, by show 1 ≤ (s : Int); omega, by show (s : Int) ≤ _; omega, .inl rfl⟩, by show (s : Int) ≤ _; omega⟩)).sides gn4 (by show 1 ≤ 3; decide) (by show 3 ≤ 4; decide)
      have sW : Same H6 W4 := sn1.trans (sn2.trans (sn3.trans (sn4)))
      refine ⟨n4, _, _, 0, 10001, rfl, T1, by omega, by omega, fun g => (g.elim (fun h => absurd h (by decide)) fun h => one_no s29 s30 h.1).elim, fun _ _ Ha sa => ?_⟩
      walk_at "rd"
      refine ⟨_, _, .str _, .str _, many_sh, many_sh, ?_⟩
      rw [many_refl]
      exact ⟨_, rfl, rfl, sW.trans sa⟩
    rintro b H7 ⟨rfl, s7⟩
    refine ite2 (fun z => absurd z (by decide)) (fun _ => ?_)
    have Tpr7 := Tpr6.same s7
    clear Tpr6 s7
    refine ⟨fun st Hz => ∃ (ul : Addr) (ulx : List V), st = [some (.ref l), some (.ref a), x2, x3, x4, some (.int s), some (.ref pr), some (.ref lw), some (.ref ul), x9, x10, x11, x12] ∧ SidesAt Hz ul ulx [⟨0, 2, "up"⟩, ⟨1, 2, "up"⟩, ⟨0, 10000, "down"⟩] ∧ Same H7 Hz, ?_, ?_⟩
    · walk_at "rd"
      refine ⟨(by show 3 ≤ sizeLine; decide), fun m1 nm1 => ?_⟩
      have gm1 : upd H7 m1 (.tup [V.int (0), .int (2), .str "up"]) m1 = some (.tup [V.int (0), .int (2), .str "up"]) := upd_same
      have sm1 : Same H7 (upd H7 m1 (.tup [V.int (0), .int (2), .str "up"])) := same_upd nm1
      generalize upd H7 m1 (.tup [V.int (0), .int (2), .str "up"]) = U1 at gm1 sm1 ⊢
      walk_at "rd"
      refine ⟨(by show 3 ≤ sizeLine; decide), fun m2 nm2 => ?_⟩
      have gm2 : upd U1 m2 (.tup [V.int (1), .int (2), .str "up"]) m2 = some (.tup [V.int (1), .int (2), .str "up"]) := upd_same
      have sm2 : Same U1 (upd U1 m2 (.tup [V.int (1), .int (2), .str "up"])) := same_upd nm2
      generalize upd U1 m2 (.tup [V.int (1), .int (2), .str "up"]) = U2 at gm2 sm2 ⊢
      replace gm1 := sm2 _ _ gm1
      walk_at "rd"
      refine ⟨(by show 3 ≤ sizeLine; decide), fun m3 nm3 => ?_⟩
      have gm3 : upd U2 m3 (.tup [V.int (0), .int (10000), .str "down"]) m3 = some (.tup [V.int (0), .int (10000), .str "down"]) := upd_same
      have sm3 : Same U2 (upd U2 m3 (.tup [V.int (0), .int (10000), .str "down"])) := same_upd nm3
      generalize upd U2 m3 (.tup [V.int (0), .int (10000), .str "down"]) = U3 at gm3 sm3 ⊢
      replace gm1 := sm3 _ _ gm1
      replace gm2 := sm3 _ _ gm2
      walk_at "rd"
      refine ⟨(by show 3 ≤ sizeLine; decide), fun m4 nm4 => ?_⟩
      have gm4 : upd U3 m4 (.lst [V.ref m1, .ref m2, .ref m3]) m4 = some (.lst [V.ref m1, .ref m2, .ref m3]) := upd_same
      have sm4 : Same U3 (upd U3 m4 (.lst [V.ref m1, .ref m2, .ref m3])) := same_upd nm4
      generalize upd U3 m4 (.lst [V.ref m1, .ref m2, .ref m3]) = U4 at gm4 sm4 ⊢
      replace gm1 := sm4 _ _ gm1
      replace gm2 := sm4 _ _ gm2
      replace gm3 := sm4 _ _ gm3
      exact ⟨m4, _, rfl, (show SdQ (10 ^ 30) U4 _ _ from (((sdq_nil.snoc (d := ⟨0, 2, "up"⟩) gm1 ⟨⟨by show _ ≤ (0 : Int); decide, by show (0 : Int) ≤ _; decide, by show 1 ≤ (2 : Int); omega, by show (2 : Int) ≤ _; omega, .inr (.inl rfl)⟩, by show (2 : Int) ≤ _; omega⟩).snoc (d := ⟨1, 2, "up"⟩) gm2 ⟨⟨by show _ ≤ (1 : Int); decide, by show (1 : Int) ≤ _; decide, by show 1 ≤ (2 : Int); omega, by show (2 : Int) ≤ _; omega, .inr (.inl rfl)⟩, by show (2 : Int) ≤ _; omega⟩).snoc (d := ⟨0, 10000, "down"⟩) gm3 ⟨⟨by show _ ≤ (0 : Int); decide, by show (0 : Int) ≤ _; decide, by show 1 ≤ (10000 : Int); omega, by show (10000 : Int) ≤ _; omega, .inl rfl⟩, by show (10000 : Int) ≤ _; omega⟩)).sides gm4 (by show 1 ≤ 3; decide) (by show 3 ≤ 4; decide), sm1.trans (sm2.trans (sm3.trans (sm4)))⟩
    rintro st H8 ⟨ul, ulx, rfl, Tul, sul⟩
    refine ⟨fun st Hz => ∃ (dn : Addr) (dnx : List V), st = [some (.ref l), some (.ref a), x2, x3, x4, some (.int s), some (.ref pr), some (.ref lw), some (.ref ul), some (.ref dn), x10, x11, x12] ∧ SidesAt Hz dn dnx [⟨0, 2, "down"⟩, ⟨-1, 2, "down"⟩, ⟨0, 10000, "up"⟩] ∧ Same H8 Hz, ?_, ?_⟩
    · walk_at "rd"
      refine ⟨(by show 3 ≤ sizeLine; decide), fun m1 nm1 => ?_⟩
      have gm1 : upd H8 m1 (.tup [V.int (0), .int (2), .str "down"]) m1 = some (.tup [V.int (0), .int (2), .str "down"]) := upd_same
      have sm1 : Same H8 (upd H8 m1 (.tup [V.int (0), .int (2), .str "down"])) := same_upd nm1
      generalize upd H8 m1 (.tup [V.int (0), .int (2), .str "down"]) = V1 at gm1 sm1 ⊢
      walk_at "rd"
      refine ⟨(by show 3 ≤ sizeLine; decide), fun m2 nm2 => ?_⟩
      have gm2 : upd V1 m2 (.tup [V.int (-1), .int (2), .str "down"]) m2 = some (.tup [V.int (-1), .int (2), .str "down"]) := upd_same
      have sm2 : Same V1 (upd V1 m2 (.tup [V.int (-1), .int (2), .str "down"])) := same_upd nm2
      generalize upd V1 m2 (.tup [V.int (-1), .int (2), .str "down"]) = V2 at gm2 sm2 ⊢
      replace gm1 := sm2 _ _ gm1
      walk_at "rd"
      refine ⟨(by show 3 ≤ sizeLine; decide), fun m3 nm3 => ?_⟩
      have gm3 : upd V2 m3 (.tup [V.int (0), .int (10000), .str "up"]) m3 = some (.tup [V.int (0), .int (10000), .str "up"]) := upd_same
      have sm3 : Same V2 (upd V2 m3 (.tup [V.int (0), .int (10000), .str "up"])) := same_upd nm3
      generalize upd V2 m3 (.tup [V.int (0), .int (10000), .str "up"]) = V3 at gm3 sm3 ⊢
      replace gm1 := sm3 _ _ gm1
      replace gm2 := sm3 _ _ gm2
      walk_at "rd"
      refine ⟨(by show 3 ≤ sizeLine; decide), fun m4 nm4 => ?_⟩
      have gm4 : upd V3 m4 (.lst [V.ref m1, .ref m2, .ref m3]) m4 = some (.lst [V.ref m1, .ref m2, .ref m3]) := upd_same
      have sm4 : Same V3 (upd V3 m4 (.lst [V.ref m1, .ref m2, .ref m3])) := same_upd nm4
      generalize upd V3 m4 (.lst [V.ref m1, .ref m2, .ref m3]) = V4 at gm4 sm4 ⊢
      replace gm1 := sm4 _ _ gm1
      replace gm2 := sm4 _ _ gm2
      replace gm3 := sm4 _ _ gm3
      exact ⟨m4, _, rfl, (show SdQ (10 ^ 30) V4 _ _ from (((sdq_nil.snoc (d := ⟨0, 2, "down"⟩) gm1 ⟨⟨by show _ ≤ (0 : Int); decide, by show (0 : Int) ≤ _; decide, by show 1 ≤ (2 : Int); omega, by show (2 : Int) ≤ _; omega, .inl rfl⟩, by show (2 : Int) ≤ _; omega⟩).snoc (d := ⟨-1, 2, "down"⟩) gm2 ⟨⟨by show _ ≤ (-1 : Int); decide, by show (-1 : Int) ≤ _; decide, by show 1 ≤ (2 : Int); omega, by show (2 : Int) ≤ _; omega, .inl rfl⟩, by show (2 : Int) ≤ _; omega⟩).snoc (d := ⟨0, 10000, "up"⟩) gm3 ⟨⟨by show _ ≤ (0 : Int); decide, by show (0 : Int) ≤ _; decide, by show 1 ≤ (10000 : Int); omega, by show (10000 : Int) ≤ _; omega, .inr (.inl rfl)⟩, by show (10000 : Int) ≤ _; omega⟩)).sides gm4 (by show 1 ≤ 3; decide) (by show 3 ≤ 4; decide), sm1.trans (sm2.trans (sm3.trans (sm4)))⟩
    rintro st H9 ⟨dn, dnx, rfl, Tdn, sdn⟩
    have Tpr9 := (Tpr7.same sul).same sdn
    have Tul9 := Tul.same sdn
    clear Tpr7 sul sdn Tul
    refine ⟨fun st Hz => ∃ x10 : Option V, st = [some (.ref l), some (.ref a), x2, x3, x4, some (.int s), some (.ref pr), some (.ref lw), some (.ref ul), some (.ref dn), x10, x11, x12] ∧ Same H9 Hz, ?_, ?_⟩
    · walk_at "rd"
      refine ⟨⟨by decide, by decide, by decide⟩, ?_⟩
      refine ⟨(by show 2 ≤ sizeLine; decide), fun ml nml => ?_⟩
      have gm : upd H9 ml (.lst [V.int 10001, .int ((10 ^ 40 : Nat) : Int)]) ml = some (.lst [V.int 10001, .int ((10 ^ 40 : Nat) : Int)]) := upd_same
      have sm : Same H9 (upd H9 ml (.lst [V.int 10001, .int ((10 ^ 40 : Nat) : Int)])) := same_upd nml
      refine at_li (show ([V.int 10001, (fun i j : Int => V.int (i ^ j.toNat)) 10 40] : List V) = [V.int 10001, .int ((10 ^ 40 : Nat) : Int)] from by show [V.int 10001, V.int ((10 : Int) ^ (40 : Int).toNat)] = _; rw [ten40]) ?_
      generalize upd H9 ml (.lst [V.int 10001, .int ((10 ^ 40 : Nat) : Int)]) = Ha at gm sm ⊢
      refine ⟨ml, rfl, ⟨_, SqL.of gm⟩, ?_⟩
      have each : ∀ y ∈ ([V.int 10001, .int ((10 ^ 40 : Nat) : Int)] : List V), ∃ n : Nat, y = .int (n : Int) ∧ n ≤ 10 ^ 40 := fun y m => by
        simp only [List.mem_cons, List.not_mem_nil, or_false] at m
        rcases m with rfl | rfl
        · exact ⟨10001, rfl, by omega⟩
        · exact ⟨10 ^ 40, rfl, Nat.le_refl _⟩
      refine for_list (K := K) (a := ml) (xs := [V.int 10001, .int ((10 ^ 40 : Nat) : Int)]) (fun j st Hz => ∃ x10 : Option V, st = [some (.ref l), some (.ref a), x2, x3, x4, some (.int s), some (.ref pr), some (.ref lw), some (.ref ul), some (.ref dn), x10, x11, x12] ∧ Same Ha Hz) ⟨x10, rfl, Same.refl _⟩ (fun _ _ _ _ ⟨_, _, s⟩ => SqL.of (s _ _ gm)) ?_ (fun st Hz ⟨x10, e, s⟩ => ⟨x10, e, sm.trans s⟩)
      rintro j y st Hz hy ⟨y10, rfl, sz⟩
      obtain ⟨n, rfl, n40⟩ := each y (List.mem_of_getElem? hy)
      have sZ := sm.trans sz
      walk_at "rd"
      refine ⟨fun b Hy => b = false ∧ Same Hz Hy, ?_, ?_⟩
      · walk_at "rd"
        refine ⟨ul, ulx, _, 0, n, rfl, Tul9.same sZ, by omega, n40, fun _ p Hc sc hp => ?_, fun _ no => absurd ⟨rec_of Tul9.side (by decide +kernel) _, rec_of (side_mirs Tul9.side) (by decide +kernel) _⟩ no⟩
        rw [up_lo, it_one (by decide), Int.zero_add] at hp
        walk_at "rd"
        refine ⟨(by show 2 ≤ sizeLine; decide), fun q1 nq1 => ?_⟩
        have sq1 := same_upd (o := .tup [.int 0, .int (n : Int)]) nq1
        refine ⟨_, _, pair_dp (sq1 _ _ hp), pair_dp (x := 0) (y := (n : Int)) upd_same, shaped_pair _ _, shaped_pair _ _, ?_⟩
        rw [pair_refl]
        refine ⟨_, rfl, ?_⟩
        refine ite2 (fun z => absurd z (by decide)) (fun _ => ?_)
        walk_at "rd"
        have sX := sc.trans sq1
        refine ⟨dn, dnx, _, 0, n, rfl, (Tdn.same sZ).same sX, by omega, n40, fun _ p2 Hd sd' hp2 => ?_, fun _ no => absurd ⟨rec_of Tdn.side (by decide +kernel) _, rec_of (side_mirs Tdn.side) (by decide +kernel) _⟩ no⟩
        rw [dn_lo, it_still (by decide +kernel)] at hp2
        walk_at "rd"
        refine ⟨(by show 2 ≤ sizeLine; decide), fun q2 nq2 => ?_⟩
        have sq2 := same_upd (o := .tup [.int (-(n : Int)), .int 0]) nq2
        refine ⟨_, _, pair_dp (sq2 _ _ hp2), pair_dp (x := -(n : Int)) (y := 0) upd_same, shaped_pair _ _, shaped_pair _ _, ?_⟩
        rw [pair_refl]
        exact ⟨_, rfl, rfl, sX.trans (sd'.trans sq2)⟩
      rintro b Hy ⟨rfl, sy⟩
      refine ite2 (fun z => absurd z (by decide)) (fun _ => ?_)
      exact ⟨_, rfl, sz.trans sy⟩
    rintro st Hk ⟨y10, rfl, sk⟩
    have Tprk := Tpr9.same sk
    clear Tpr9 sk Tul9 Tdn
    refine ⟨fun st Hz => ∃ (lt : Addr) (ltx : List V), st = [some (.ref l), some (.ref a), x2, x3, x4, some (.int s), some (.ref pr), some (.ref lw), some (.ref ul), some (.ref dn), y10, some (.ref lt), x12] ∧ SidesAt Hz lt ltx [⟨0, 3, "up"⟩, ⟨1, 3, "up"⟩, ⟨0, 15000, "down"⟩] ∧ Same Hk Hz, ?_, ?_⟩
    · walk_at "rd"
      refine ⟨(by show 3 ≤ sizeLine; decide), fun m1 nm1 => ?_⟩
      have gm1 : upd Hk m1 (.tup [V.int (0), .int (3), .str "up"]) m1 = some (.tup [V.int (0), .int (3), .str "up"]) := upd_same
      have sm1 : Same Hk (upd Hk m1 (.tup [V.int (0), .int (3), .str "up"])) := same_upd nm1
      generalize upd Hk m1 (.tup [V.int (0), .int (3), .str "up"]) = X1 at gm1 sm1 ⊢
      walk_at "rd"
      refine ⟨(by show 3 ≤ sizeLine; decide), fun m2 nm2 => ?_⟩
      have gm2 : upd X1 m2 (.tup [V.int (1), .int (3), .str "up"]) m2 = some (.tup [V.int (1), .int (3), .str "up"]) := upd_same
      have sm2 : Same X1 (upd X1 m2 (.tup [V.int (1), .int (3), .str "up"])) := same_upd nm2
      generalize upd X1 m2 (.tup [V.int (1), .int (3), .str "up"]) = X2 at gm2 sm2 ⊢
      replace gm1 := sm2 _ _ gm1
      walk_at "rd"
      refine ⟨(by show 3 ≤ sizeLine; decide), fun m3 nm3 => ?_⟩
      have gm3 : upd X2 m3 (.tup [V.int (0), .int (15000), .str "down"]) m3 = some (.tup [V.int (0), .int (15000), .str "down"]) := upd_same
      have sm3 : Same X2 (upd X2 m3 (.tup [V.int (0), .int (15000), .str "down"])) := same_upd nm3
      generalize upd X2 m3 (.tup [V.int (0), .int (15000), .str "down"]) = X3 at gm3 sm3 ⊢
      replace gm1 := sm3 _ _ gm1
      replace gm2 := sm3 _ _ gm2
      walk_at "rd"
      refine ⟨(by show 3 ≤ sizeLine; decide), fun m4 nm4 => ?_⟩
      have gm4 : upd X3 m4 (.lst [V.ref m1, .ref m2, .ref m3]) m4 = some (.lst [V.ref m1, .ref m2, .ref m3]) := upd_same
      have sm4 : Same X3 (upd X3 m4 (.lst [V.ref m1, .ref m2, .ref m3])) := same_upd nm4
      generalize upd X3 m4 (.lst [V.ref m1, .ref m2, .ref m3]) = X4 at gm4 sm4 ⊢
      replace gm1 := sm4 _ _ gm1
      replace gm2 := sm4 _ _ gm2
      replace gm3 := sm4 _ _ gm3
      exact ⟨m4, _, rfl, (show SdQ (10 ^ 30) X4 _ _ from (((sdq_nil.snoc (d := ⟨0, 3, "up"⟩) gm1 ⟨⟨by show _ ≤ (0 : Int); decide, by show (0 : Int) ≤ _; decide, by show 1 ≤ (3 : Int); omega, by show (3 : Int) ≤ _; omega, .inr (.inl rfl)⟩, by show (3 : Int) ≤ _; omega⟩).snoc (d := ⟨1, 3, "up"⟩) gm2 ⟨⟨by show _ ≤ (1 : Int); decide, by show (1 : Int) ≤ _; decide, by show 1 ≤ (3 : Int); omega, by show (3 : Int) ≤ _; omega, .inr (.inl rfl)⟩, by show (3 : Int) ≤ _; omega⟩).snoc (d := ⟨0, 15000, "down"⟩) gm3 ⟨⟨by show _ ≤ (0 : Int); decide, by show (0 : Int) ≤ _; decide, by show 1 ≤ (15000 : Int); omega, by show (15000 : Int) ≤ _; omega, .inl rfl⟩, by show (15000 : Int) ≤ _; omega⟩)).sides gm4 (by show 1 ≤ 3; decide) (by show 3 ≤ 4; decide), sm1.trans (sm2.trans (sm3.trans (sm4)))⟩
    rintro st Hl ⟨lt, ltx, rfl, Tlt, slt⟩
    have Tpr2 := Tprk.same slt
    clear Tprk slt
    walk_at "rd"
    refine ⟨(by show 2 ≤ sizeLine; decide), fun nl2 nnl => ?_⟩
    have gn : upd Hl nl2 (.lst [V.int 10000, .int 10001]) nl2 = some (.lst [V.int 10000, .int 10001]) := upd_same
    have sn : Same Hl (upd Hl nl2 (.lst [V.int 10000, .int 10001])) := same_upd nnl
    generalize upd Hl nl2 (.lst [V.int 10000, .int 10001]) = Hm at gn sn ⊢
    have Tlt2 := Tlt.same sn
    have Tpr3 := Tpr2.same sn
    clear Tlt Tpr2 sn
    refine ⟨nl2, rfl, ⟨_, SqL.of gn⟩, fun Dd nD => ?_⟩
    refine lc_list (K := K) (a := nl2) (xs := [V.int 10000, .int 10001]) (fun j Hz => ∃ p : Addr, (1 ≤ j → Hz p = some (.tup [.int 0, .int 15003])) ∧ Hz Dd = some (.lst (([V.ref p, .str "many"] : List V).take j)) ∧ Same Hm Hz) ⟨0, fun h => absurd h (by decide), upd_same, same_upd nD⟩ (fun _ _ _ ⟨_, _, _, s⟩ => SqL.of (s _ _ gn)) ?_ ?_
    · rintro j y Hz hy ⟨p0, hp0, hD, sz⟩
      refine ⟨rfl, ?_⟩
      match j, hy with
      | 0, hy =>
        cases hy
        walk_at "rd"
        refine ⟨lt, ltx, _, 2, 10000, rfl, Tlt2.same sz, by omega, by omega, fun _ p Hc sc hp => ?_, fun g => absurd g (by decide)⟩
        rw [lt_lo, late_end] at hp
        have hDc := sc _ _ hD
        have npD : p ≠ Dd := ne_of hp hDc (by intro z; cases z)
        refine ⟨_, hDc, (by show 0 < sizeLine; decide), p, fun _ => (upd_ne npD).trans hp, ?_, fun b u z => (upd_ne (ne_of_none z nD)).trans (sc _ _ (sz _ _ z))⟩
        exact upd_same
      | 1, hy =>
        cases hy
        walk_at "rd"
        refine ⟨lt, ltx, _, 2, 10001, rfl, Tlt2.same sz, by omega, by omega, fun g => (g.elim (fun h => absurd h (by decide)) fun h => late_no h.1).elim, fun _ _ Hc sc => ?_⟩
        have hDc := sc _ _ hD
        have hp := sc _ _ (hp0 (by decide))
        have npD : p0 ≠ Dd := ne_of hp hDc (by intro z; cases z)
        refine ⟨_, hDc, (by show 1 < sizeLine; decide), p0, fun _ => (upd_ne npD).trans hp, ?_, fun b u z => (upd_ne (ne_of_none z nD)).trans (sc _ _ (sz _ _ z))⟩
        exact upd_same
      | j + 2, hy => cases hy
    rintro Hn ⟨p0, hp0, hD, sn⟩
    replace hp0 := hp0 (by show 1 ≤ 2; decide)
    have hDn : Hn Dd = some (.lst [V.ref p0, .str "many"]) := hD
    clear hD
    walk_at "rd"
    refine ⟨(by show 2 ≤ sizeLine; decide), fun t1 nt1 => ?_⟩
    have gt1 : upd Hn t1 (.tup [.int 0, .int 15003]) t1 = some (.tup [.int 0, .int 15003]) := upd_same
    have st1 : Same Hn (upd Hn t1 (.tup [.int 0, .int 15003])) := same_upd nt1
    generalize upd Hn t1 (.tup [.int 0, .int 15003]) = Ho at gt1 st1 ⊢
    walk_at "rd"
    refine ⟨(by show 2 ≤ sizeLine; decide), fun t2 nt2 => ?_⟩
    have gt2 : upd Ho t2 (.lst [V.ref t1, .str "many"]) t2 = some (.lst [V.ref t1, .str "many"]) := upd_same
    have st2 : Same Ho (upd Ho t2 (.lst [V.ref t1, .str "many"])) := same_upd nt2
    generalize upd Ho t2 (.lst [V.ref t1, .str "many"]) = Hp' at gt2 st2 ⊢
    refine ⟨_, _, late_dp (st2 _ _ (st1 _ _ hDn)) (st2 _ _ (st1 _ _ hp0)), late_dp gt2 (st2 _ _ gt1), late_sh, late_sh, ?_⟩
    rw [SeqAt.eqv_refl _ (SeqAt.canLay_of_shaped late_sh)]
    refine ⟨_, rfl, ?_⟩
    refine ite2 (fun z => absurd z (by decide)) (fun _ => ?_)
    have Tpr4 := Tpr3.same (sn.trans (st1.trans st2))
    clear Tpr3 Tlt2 sn st1 st2 gt1 gt2 hDn hp0 gn
    walk_at "rd"
    refine ⟨fun st Hz => ∃ fo : Addr, st = [some (.ref l), some (.ref a), x2, x3, x4, some (.int s), some (.ref pr), some (.ref lw), some (.ref ul), some (.ref dn), y10, some (.ref lt), some (.ref fo)] ∧ Hz fo = some (.tup [.int 2, .int (it (hiL [⟨0, s - 1, "up"⟩, ⟨1, s, "up"⟩]) 10000 2)]) ∧ Same Hp' Hz, ?_, ?_⟩
    · walk_at "rd"
      refine ⟨pr, prx, _, 2, 10000, rfl, Tpr4, by omega, by omega, fun _ p Hc sc hp => ?_, fun g => absurd g (by decide)⟩
      rw [pr_lo s29] at hp
      exact ⟨p, rfl, hp, sc⟩
    rintro st Hq ⟨fo, rfl, hfo, sq⟩
    have Tpr5 := Tpr4.same sq
    clear Tpr4 sq
    walk_at "rd"
    refine ⟨_, _, pair_dp hfo, .str _, shaped_pair _ _, many_sh, ?_⟩
    rw [pair_str]
    walk_at "rd"
    refine ⟨pr, prx, _, _, 2, 10000, 1, rfl, Tpr5, .inl ⟨rfl, rfl⟩, by omega, by omega, .inr (Nat.le_refl _), fun Hr sr => ?_⟩
    rw [Int.one_mul]
    walk_at "rd"
    refine ⟨(by show 2 ≤ sizeLine; decide), fun u1 nu1 => ?_⟩
    have su1 := same_upd (o := .tup [.int 2, .int (it (hiL [⟨0, s - 1, "up"⟩, ⟨1, s, "up"⟩]) 10000 2)]) nu1
    refine ⟨_, _, pair_dp (su1 _ _ (sr _ _ hfo)), pair_dp (x := 2) upd_same, shaped_pair _ _, shaped_pair _ _, ?_⟩
    rw [pair_refl]
    walk_at "rd"
    refine ⟨pr, prx, _, 1, 0, rfl, (Tpr5.same sr).same su1, by omega, by omega, fun _ p Hs ss' hp => ?_, fun g => absurd g (by decide)⟩
    walk_at "rd"
    refine ⟨(by show 2 ≤ sizeLine; decide), fun u2 nu2 => ?_⟩
    have su2 := same_upd (o := .tup [.int 1, .int 1]) nu2
    refine ⟨_, _, pair_dp (x := 1) (y := 1) (su2 _ _ hp), pair_dp (x := 1) (y := 1) upd_same, shaped_pair _ _, shaped_pair _ _, ?_⟩
    rw [pair_refl]
    exact q _
end
end HT
namespace HT
open PySem L2
def errB (K : PySem.W.Frag) (C : Addr) : Bool := (PySem.W.clsIn K C).isSome && (decide (PySem.W.findIn K (.ref C) "__getattribute__" = some (some (.builtin "BaseException.__getattribute__"))) && (decide (PySem.W.findIn K (.ref C) "__getattr__" = some none) && (decide (PySem.W.subIn K (.ref C) (.type "BaseException") = some true) &&
  (decide (PySem.W.findIn K (.ref C) "__class__" = some (some (.builtin "object.__class__"))) && decide (PySem.W.mroIn K C (.type "object") = some true)))))
theorem errB_ok {K : PySem.W.Frag} {C : Addr} (h : errB K C = true) : ErrC K C := by
  unfold errB at h
  simp only [Bool.and_eq_true, decide_eq_true_eq] at h
  obtain ⟨a, b, c, d, e, f⟩ := h
  exact ⟨a, b, c, d, e, f⟩
def exB (K : PySem.W.Frag) (C : Addr) : Bool := PySem.W.excIn K C [.type "ValueError", .type "Exception", .type "BaseException", .type "object"] "ValueError.__new__" && PySem.W.keepIn K (.ref C)
def erT (K : PySem.W.Frag) (C : Nat → Addr) (B : Addr) (i : Nat) : Bool := errB K (C i) && (exB K (C i) && (decide (PySem.W.kitOne K (.ref (C i)) (.type "ValueError") = some true) && (decide (PySem.W.subIn K (.ref (C i)) (.type "BaseException") = some true) && (decide (PySem.W.typeIn K (.ref (C i)) = some (.type "type")) && (decide (PySem.W.exmOne K (.ref (C i)) (.ref B) = some true) &&
  (List.range 4).all fun j => decide (PySem.W.kitOne K (.ref (C i)) (.ref (C j)) = some (decide (i = j))))))))
def cAt (l : List Addr) (i : Nat) : Addr := l.getD i 0
theorem all_of {p : Nat → Bool} {n : Nat} (h : (List.range n).all p = true) {i : Nat} (hi : i < n) : p i = true := List.all_eq_true.mp h i (List.mem_range.mpr hi)
theorem all_mk {l : PySem.W.OpenLaw} {w : World} {K : PySem.W.Frag} {h : Heap} {mg : Str → Option Value} {fa aM aR c0 c1 c2 c3 cB f_is_int f_is_int_between f_check_value f_check_side f_is_side f_figure f_goes_up f_written f_mirror f_check_sides f_period_of f_common_period f_highest f_mirrors f_within f_highest_within f_continued f_L_source f_L_draw f_L_pick f_L_divisor f_L_great f_L_small_side f_L_figure f_L_handed f_L_period f_L_set f_L_written f_L_all f_L_furthest f_L_word f_L_fits f_law : Addr} (X : K.In h) (G : h.Ns mainGlobals mg) (hfa : mg "law" = some (.ref fa))
    {odM od_is_int an_is_int od_is_int_between an_is_int_between od_check_value an_check_value od_check_side an_check_side od_is_side an_is_side od_figure an_figure od_goes_up an_goes_up od_written an_written od_mirror an_mirror od_check_sides an_check_sides od_period_of an_period_of od_common_period an_common_period od_highest an_highest od_mirrors an_mirrors od_within an_within od_highest_within an_highest_within od_continued an_continued od_L_source an_L_source od_L_draw an_L_draw od_L_pick an_L_pick od_L_divisor an_L_divisor od_L_great an_L_great od_L_small_side an_L_small_side od_L_figure an_L_figure od_L_handed an_L_handed od_L_period an_L_period od_L_set an_L_set od_L_written an_L_written od_L_all an_L_all od_L_furthest an_L_furthest od_L_word an_L_word od_L_fits an_L_fits od_law an_law : Option Addr} {slM sl_is_int sl_is_int_between sl_check_value sl_check_side sl_is_side sl_figure sl_goes_up sl_written sl_mirror sl_check_sides sl_period_of sl_common_period sl_highest sl_mirrors sl_within sl_highest_within sl_continued sl_L_source sl_L_draw sl_L_pick sl_L_divisor sl_L_great sl_L_small_side sl_L_figure sl_L_handed sl_L_period sl_L_set sl_L_written sl_L_all sl_L_furthest sl_L_word sl_L_fits sl_law : Array (Option Value)} {nM nR : Nat} {itsM : Array Value} {esR : Array DictEntry} {tMS tMN tMR : Tok} {u_down u_up u_half_down u_half_up u_half_even oc_is_int kV_is_int dc_is_int pm_is_int cd_is_int ct_is_int oc_is_int_between kV_is_int_between dc_is_int_between pm_is_int_between cd_is_int_between ct_is_int_between oc_check_value kV_check_value dc_check_value pm_check_value cd_check_value ct_check_value oc_check_side kV_check_side dc_check_side pm_check_side cd_check_side ct_check_side oc_is_side kV_is_side dc_is_side pm_is_side cd_is_side ct_is_side oc_figure kV_figure dc_figure pm_figure cd_figure ct_figure oc_goes_up kV_goes_up dc_goes_up pm_goes_up cd_goes_up ct_goes_up oc_written kV_written dc_written pm_written cd_written ct_written oc_mirror kV_mirror dc_mirror pm_mirror cd_mirror ct_mirror oc_check_sides kV_check_sides dc_check_sides pm_check_sides cd_check_sides ct_check_sides oc_period_of kV_period_of dc_period_of pm_period_of cd_period_of ct_period_of oc_common_period kV_common_period dc_common_period pm_common_period cd_common_period ct_common_period oc_highest kV_highest dc_highest pm_highest cd_highest ct_highest oc_mirrors kV_mirrors dc_mirrors pm_mirrors cd_mirrors ct_mirrors oc_within kV_within dc_within pm_within cd_within ct_within oc_highest_within kV_highest_within dc_highest_within pm_highest_within cd_highest_within ct_highest_within oc_continued kV_continued dc_continued pm_continued cd_continued ct_continued oc_L_source kV_L_source dc_L_source pm_L_source cd_L_source ct_L_source oc_L_draw kV_L_draw dc_L_draw pm_L_draw cd_L_draw ct_L_draw oc_L_pick kV_L_pick dc_L_pick pm_L_pick cd_L_pick ct_L_pick oc_L_divisor kV_L_divisor dc_L_divisor pm_L_divisor cd_L_divisor ct_L_divisor oc_L_great kV_L_great dc_L_great pm_L_great cd_L_great ct_L_great oc_L_small_side kV_L_small_side dc_L_small_side pm_L_small_side cd_L_small_side ct_L_small_side oc_L_figure kV_L_figure dc_L_figure pm_L_figure cd_L_figure ct_L_figure oc_L_handed kV_L_handed dc_L_handed pm_L_handed cd_L_handed ct_L_handed oc_L_period kV_L_period dc_L_period pm_L_period cd_L_period ct_L_period oc_L_set kV_L_set dc_L_set pm_L_set cd_L_set ct_L_set oc_L_written kV_L_written dc_L_written pm_L_written cd_L_written ct_L_written oc_L_all kV_L_all dc_L_all pm_L_all cd_L_all ct_L_all oc_L_furthest kV_L_furthest dc_L_furthest pm_L_furthest cd_L_furthest ct_L_furthest oc_L_word kV_L_word dc_L_word pm_L_word cd_L_word ct_L_word oc_L_fits kV_L_fits dc_L_fits pm_L_fits cd_L_fits ct_L_fits oc_law kV_law dc_law pm_law cd_law ct_law : Value}
    (a_is_int : PySem.W.nsIn K mainGlobals "is_int" = some (some (.ref f_is_int)))
    (l_is_int : K.lookup f_is_int = some ⟨oc_is_int, od_is_int, .func (PySem.W.fnOf "is_int" "is_int" (defArgs s_is_int) (defBody s_is_int) (defScope s_is_int) .none kV_is_int dc_is_int pm_is_int an_is_int cd_is_int ct_is_int), sl_is_int⟩)
    (c_is_int : PySem.W.codeIn K cd_is_int "is_int" = true) (k_is_int : PySem.W.keepIn K (.ref f_is_int) = true)
    (a_is_int_between : PySem.W.nsIn K mainGlobals "is_int_between" = some (some (.ref f_is_int_between)))
    (l_is_int_between : K.lookup f_is_int_between = some ⟨oc_is_int_between, od_is_int_between, .func (PySem.W.fnOf "is_int_between" "is_int_between" (defArgs s_is_int_between) (defBody s_is_int_between) (defScope s_is_int_between) .none kV_is_int_between dc_is_int_between pm_is_int_between an_is_int_between cd_is_int_between ct_is_int_between), sl_is_int_between⟩)
    (c_is_int_between : PySem.W.codeIn K cd_is_int_between "is_int_between" = true) (k_is_int_between : PySem.W.keepIn K (.ref f_is_int_between) = true)
    (a_check_value : PySem.W.nsIn K mainGlobals "check_value" = some (some (.ref f_check_value)))
    (l_check_value : K.lookup f_check_value = some ⟨oc_check_value, od_check_value, .func (PySem.W.fnOf "check_value" "check_value" (defArgs s_check_value) (defBody s_check_value) (defScope s_check_value) .none kV_check_value dc_check_value pm_check_value an_check_value cd_check_value ct_check_value), sl_check_value⟩)
    (c_check_value : PySem.W.codeIn K cd_check_value "check_value" = true) (k_check_value : PySem.W.keepIn K (.ref f_check_value) = true)
    (a_check_side : PySem.W.nsIn K mainGlobals "check_side" = some (some (.ref f_check_side)))
    (l_check_side : K.lookup f_check_side = some ⟨oc_check_side, od_check_side, .func (PySem.W.fnOf "check_side" "check_side" (defArgs s_check_side) (defBody s_check_side) (defScope s_check_side) .none kV_check_side dc_check_side pm_check_side an_check_side cd_check_side ct_check_side), sl_check_side⟩)
    (c_check_side : PySem.W.codeIn K cd_check_side "check_side" = true) (k_check_side : PySem.W.keepIn K (.ref f_check_side) = true)
    (a_is_side : PySem.W.nsIn K mainGlobals "is_side" = some (some (.ref f_is_side)))
    (l_is_side : K.lookup f_is_side = some ⟨oc_is_side, od_is_side, .func (PySem.W.fnOf "is_side" "is_side" (defArgs s_is_side) (defBody s_is_side) (defScope s_is_side) .none kV_is_side dc_is_side pm_is_side an_is_side cd_is_side ct_is_side), sl_is_side⟩)
    (c_is_side : PySem.W.codeIn K cd_is_side "is_side" = true) (k_is_side : PySem.W.keepIn K (.ref f_is_side) = true)
    (a_figure : PySem.W.nsIn K mainGlobals "_figure" = some (some (.ref f_figure)))
    (l_figure : K.lookup f_figure = some ⟨oc_figure, od_figure, .func (PySem.W.fnOf "_figure" "_figure" (defArgs s_figure) (defBody s_figure) (defScope s_figure) .none kV_figure dc_figure pm_figure an_figure cd_figure ct_figure), sl_figure⟩)
    (c_figure : PySem.W.codeIn K cd_figure "_figure" = true) (k_figure : PySem.W.keepIn K (.ref f_figure) = true)
    (a_goes_up : PySem.W.nsIn K mainGlobals "_goes_up" = some (some (.ref f_goes_up)))
    (l_goes_up : K.lookup f_goes_up = some ⟨oc_goes_up, od_goes_up, .func (PySem.W.fnOf "_goes_up" "_goes_up" (defArgs s_goes_up) (defBody s_goes_up) (defScope s_goes_up) .none kV_goes_up dc_goes_up pm_goes_up an_goes_up cd_goes_up ct_goes_up), sl_goes_up⟩)
    (c_goes_up : PySem.W.codeIn K cd_goes_up "_goes_up" = true) (k_goes_up : PySem.W.keepIn K (.ref f_goes_up) = true)
    (a_written : PySem.W.nsIn K mainGlobals "written" = some (some (.ref f_written)))
    (l_written : K.lookup f_written = some ⟨oc_written, od_written, .func (PySem.W.fnOf "written" "written" (defArgs s_written) (defBody s_written) (defScope s_written) .none kV_written dc_written pm_written an_written cd_written ct_written), sl_written⟩)
    (c_written : PySem.W.codeIn K cd_written "written" = true) (k_written : PySem.W.keepIn K (.ref f_written) = true)
    (a_mirror : PySem.W.nsIn K mainGlobals "mirror" = some (some (.ref f_mirror)))
    (l_mirror : K.lookup f_mirror = some ⟨oc_mirror, od_mirror, .func (PySem.W.fnOf "mirror" "mirror" (defArgs s_mirror) (defBody s_mirror) (defScope s_mirror) .none kV_mirror dc_mirror pm_mirror an_mirror cd_mirror ct_mirror), sl_mirror⟩)
    (c_mirror : PySem.W.codeIn K cd_mirror "mirror" = true) (k_mirror : PySem.W.keepIn K (.ref f_mirror) = true)
    (a_check_sides : PySem.W.nsIn K mainGlobals "check_sides" = some (some (.ref f_check_sides)))
    (l_check_sides : K.lookup f_check_sides = some ⟨oc_check_sides, od_check_sides, .func (PySem.W.fnOf "check_sides" "check_sides" (defArgs s_check_sides) (defBody s_check_sides) (defScope s_check_sides) .none kV_check_sides dc_check_sides pm_check_sides an_check_sides cd_check_sides ct_check_sides), sl_check_sides⟩)
    (c_check_sides : PySem.W.codeIn K cd_check_sides "check_sides" = true) (k_check_sides : PySem.W.keepIn K (.ref f_check_sides) = true)
    (a_period_of : PySem.W.nsIn K mainGlobals "period_of" = some (some (.ref f_period_of)))
    (l_period_of : K.lookup f_period_of = some ⟨oc_period_of, od_period_of, .func (PySem.W.fnOf "period_of" "period_of" (defArgs s_period_of) (defBody s_period_of) (defScope s_period_of) .none kV_period_of dc_period_of pm_period_of an_period_of cd_period_of ct_period_of), sl_period_of⟩)
    (c_period_of : PySem.W.codeIn K cd_period_of "period_of" = true) (k_period_of : PySem.W.keepIn K (.ref f_period_of) = true)
    (a_common_period : PySem.W.nsIn K mainGlobals "common_period" = some (some (.ref f_common_period)))
    (l_common_period : K.lookup f_common_period = some ⟨oc_common_period, od_common_period, .func (PySem.W.fnOf "common_period" "common_period" (defArgs s_common_period) (defBody s_common_period) (defScope s_common_period) .none kV_common_period dc_common_period pm_common_period an_common_period cd_common_period ct_common_period), sl_common_period⟩)
    (c_common_period : PySem.W.codeIn K cd_common_period "common_period" = true) (k_common_period : PySem.W.keepIn K (.ref f_common_period) = true)
    (a_highest : PySem.W.nsIn K mainGlobals "highest" = some (some (.ref f_highest)))
    (l_highest : K.lookup f_highest = some ⟨oc_highest, od_highest, .func (PySem.W.fnOf "highest" "highest" (defArgs s_highest) (defBody s_highest) (defScope s_highest) .none kV_highest dc_highest pm_highest an_highest cd_highest ct_highest), sl_highest⟩)
    (c_highest : PySem.W.codeIn K cd_highest "highest" = true) (k_highest : PySem.W.keepIn K (.ref f_highest) = true)
    (a_mirrors : PySem.W.nsIn K mainGlobals "mirrors" = some (some (.ref f_mirrors)))
    (l_mirrors : K.lookup f_mirrors = some ⟨oc_mirrors, od_mirrors, .func (PySem.W.fnOf "mirrors" "mirrors" (defArgs s_mirrors) (defBody s_mirrors) (defScope s_mirrors) .none kV_mirrors dc_mirrors pm_mirrors an_mirrors cd_mirrors ct_mirrors), sl_mirrors⟩)
    (c_mirrors : PySem.W.codeIn K cd_mirrors "mirrors" = true) (k_mirrors : PySem.W.keepIn K (.ref f_mirrors) = true)
    (a_within : PySem.W.nsIn K mainGlobals "within" = some (some (.ref f_within)))
    (l_within : K.lookup f_within = some ⟨oc_within, od_within, .func (PySem.W.fnOf "within" "within" (defArgs s_within) (defBody s_within) (defScope s_within) .none kV_within dc_within pm_within an_within cd_within ct_within), sl_within⟩)
    (c_within : PySem.W.codeIn K cd_within "within" = true) (k_within : PySem.W.keepIn K (.ref f_within) = true)
    (a_highest_within : PySem.W.nsIn K mainGlobals "_highest_within" = some (some (.ref f_highest_within)))
    (l_highest_within : K.lookup f_highest_within = some ⟨oc_highest_within, od_highest_within, .func (PySem.W.fnOf "_highest_within" "_highest_within" (defArgs s_highest_within) (defBody s_highest_within) (defScope s_highest_within) .none kV_highest_within dc_highest_within pm_highest_within an_highest_within cd_highest_within ct_highest_within), sl_highest_within⟩)
    (c_highest_within : PySem.W.codeIn K cd_highest_within "_highest_within" = true) (k_highest_within : PySem.W.keepIn K (.ref f_highest_within) = true)
    (a_continued : PySem.W.nsIn K mainGlobals "_continued" = some (some (.ref f_continued)))
    (l_continued : K.lookup f_continued = some ⟨oc_continued, od_continued, .func (PySem.W.fnOf "_continued" "_continued" (defArgs s_continued) (defBody s_continued) (defScope s_continued) .none kV_continued dc_continued pm_continued an_continued cd_continued ct_continued), sl_continued⟩)
    (c_continued : PySem.W.codeIn K cd_continued "_continued" = true) (k_continued : PySem.W.keepIn K (.ref f_continued) = true)
    (a_L_source : PySem.W.nsIn K mainGlobals "_law_source" = some (some (.ref f_L_source)))
    (l_L_source : K.lookup f_L_source = some ⟨oc_L_source, od_L_source, .func (PySem.W.fnOf "_law_source" "_law_source" (defArgs s_L_source) (defBody s_L_source) (defScope s_L_source) .none kV_L_source dc_L_source pm_L_source an_L_source cd_L_source ct_L_source), sl_L_source⟩)
    (c_L_source : PySem.W.codeIn K cd_L_source "_law_source" = true) (k_L_source : PySem.W.keepIn K (.ref f_L_source) = true)
    (a_L_draw : PySem.W.nsIn K mainGlobals "_law_draw" = some (some (.ref f_L_draw)))
    (l_L_draw : K.lookup f_L_draw = some ⟨oc_L_draw, od_L_draw, .func (PySem.W.fnOf "_law_draw" "_law_draw" (defArgs s_L_draw) (defBody s_L_draw) (defScope s_L_draw) .none kV_L_draw dc_L_draw pm_L_draw an_L_draw cd_L_draw ct_L_draw), sl_L_draw⟩)
    (c_L_draw : PySem.W.codeIn K cd_L_draw "_law_draw" = true) (k_L_draw : PySem.W.keepIn K (.ref f_L_draw) = true)
    (a_L_pick : PySem.W.nsIn K mainGlobals "_law_pick" = some (some (.ref f_L_pick)))
    (l_L_pick : K.lookup f_L_pick = some ⟨oc_L_pick, od_L_pick, .func (PySem.W.fnOf "_law_pick" "_law_pick" (defArgs s_L_pick) (defBody s_L_pick) (defScope s_L_pick) .none kV_L_pick dc_L_pick pm_L_pick an_L_pick cd_L_pick ct_L_pick), sl_L_pick⟩)
    (c_L_pick : PySem.W.codeIn K cd_L_pick "_law_pick" = true) (k_L_pick : PySem.W.keepIn K (.ref f_L_pick) = true)
    (a_L_divisor : PySem.W.nsIn K mainGlobals "_law_divisor" = some (some (.ref f_L_divisor)))
    (l_L_divisor : K.lookup f_L_divisor = some ⟨oc_L_divisor, od_L_divisor, .func (PySem.W.fnOf "_law_divisor" "_law_divisor" (defArgs s_L_divisor) (defBody s_L_divisor) (defScope s_L_divisor) .none kV_L_divisor dc_L_divisor pm_L_divisor an_L_divisor cd_L_divisor ct_L_divisor), sl_L_divisor⟩)
    (c_L_divisor : PySem.W.codeIn K cd_L_divisor "_law_divisor" = true) (k_L_divisor : PySem.W.keepIn K (.ref f_L_divisor) = true)
    (a_L_great : PySem.W.nsIn K mainGlobals "_law_great" = some (some (.ref f_L_great)))
    (l_L_great : K.lookup f_L_great = some ⟨oc_L_great, od_L_great, .func (PySem.W.fnOf "_law_great" "_law_great" (defArgs s_L_great) (defBody s_L_great) (defScope s_L_great) .none kV_L_great dc_L_great pm_L_great an_L_great cd_L_great ct_L_great), sl_L_great⟩)
    (c_L_great : PySem.W.codeIn K cd_L_great "_law_great" = true) (k_L_great : PySem.W.keepIn K (.ref f_L_great) = true)
    (a_L_small_side : PySem.W.nsIn K mainGlobals "_law_small_side" = some (some (.ref f_L_small_side)))
    (l_L_small_side : K.lookup f_L_small_side = some ⟨oc_L_small_side, od_L_small_side, .func (PySem.W.fnOf "_law_small_side" "_law_small_side" (defArgs s_L_small_side) (defBody s_L_small_side) (defScope s_L_small_side) .none kV_L_small_side dc_L_small_side pm_L_small_side an_L_small_side cd_L_small_side ct_L_small_side), sl_L_small_side⟩)
    (c_L_small_side : PySem.W.codeIn K cd_L_small_side "_law_small_side" = true) (k_L_small_side : PySem.W.keepIn K (.ref f_L_small_side) = true)
    (a_L_figure : PySem.W.nsIn K mainGlobals "_law_figure" = some (some (.ref f_L_figure)))
    (l_L_figure : K.lookup f_L_figure = some ⟨oc_L_figure, od_L_figure, .func (PySem.W.fnOf "_law_figure" "_law_figure" (defArgs s_L_figure) (defBody s_L_figure) (defScope s_L_figure) .none kV_L_figure dc_L_figure pm_L_figure an_L_figure cd_L_figure ct_L_figure), sl_L_figure⟩)
    (c_L_figure : PySem.W.codeIn K cd_L_figure "_law_figure" = true) (k_L_figure : PySem.W.keepIn K (.ref f_L_figure) = true)
    (a_L_handed : PySem.W.nsIn K mainGlobals "_law_handed" = some (some (.ref f_L_handed)))
    (l_L_handed : K.lookup f_L_handed = some ⟨oc_L_handed, od_L_handed, .func (PySem.W.fnOf "_law_handed" "_law_handed" (defArgs s_L_handed) (defBody s_L_handed) (defScope s_L_handed) .none kV_L_handed dc_L_handed pm_L_handed an_L_handed cd_L_handed ct_L_handed), sl_L_handed⟩)
    (c_L_handed : PySem.W.codeIn K cd_L_handed "_law_handed" = true) (k_L_handed : PySem.W.keepIn K (.ref f_L_handed) = true)
    (a_L_period : PySem.W.nsIn K mainGlobals "_law_period" = some (some (.ref f_L_period)))
    (l_L_period : K.lookup f_L_period = some ⟨oc_L_period, od_L_period, .func (PySem.W.fnOf "_law_period" "_law_period" (defArgs s_L_period) (defBody s_L_period) (defScope s_L_period) .none kV_L_period dc_L_period pm_L_period an_L_period cd_L_period ct_L_period), sl_L_period⟩)
    (c_L_period : PySem.W.codeIn K cd_L_period "_law_period" = true) (k_L_period : PySem.W.keepIn K (.ref f_L_period) = true)
    (a_L_set : PySem.W.nsIn K mainGlobals "_law_set" = some (some (.ref f_L_set)))
    (l_L_set : K.lookup f_L_set = some ⟨oc_L_set, od_L_set, .func (PySem.W.fnOf "_law_set" "_law_set" (defArgs s_L_set) (defBody s_L_set) (defScope s_L_set) .none kV_L_set dc_L_set pm_L_set an_L_set cd_L_set ct_L_set), sl_L_set⟩)
    (c_L_set : PySem.W.codeIn K cd_L_set "_law_set" = true) (k_L_set : PySem.W.keepIn K (.ref f_L_set) = true)
    (a_L_written : PySem.W.nsIn K mainGlobals "_law_written" = some (some (.ref f_L_written)))
    (l_L_written : K.lookup f_L_written = some ⟨oc_L_written, od_L_written, .func (PySem.W.fnOf "_law_written" "_law_written" (defArgs s_L_written) (defBody s_L_written) (defScope s_L_written) .none kV_L_written dc_L_written pm_L_written an_L_written cd_L_written ct_L_written), sl_L_written⟩)
    (c_L_written : PySem.W.codeIn K cd_L_written "_law_written" = true) (k_L_written : PySem.W.keepIn K (.ref f_L_written) = true)
    (a_L_all : PySem.W.nsIn K mainGlobals "_law_all" = some (some (.ref f_L_all)))
    (l_L_all : K.lookup f_L_all = some ⟨oc_L_all, od_L_all, .func (PySem.W.fnOf "_law_all" "_law_all" (defArgs s_L_all) (defBody s_L_all) (defScope s_L_all) .none kV_L_all dc_L_all pm_L_all an_L_all cd_L_all ct_L_all), sl_L_all⟩)
    (c_L_all : PySem.W.codeIn K cd_L_all "_law_all" = true) (k_L_all : PySem.W.keepIn K (.ref f_L_all) = true)
    (a_L_furthest : PySem.W.nsIn K mainGlobals "_law_furthest" = some (some (.ref f_L_furthest)))
    (l_L_furthest : K.lookup f_L_furthest = some ⟨oc_L_furthest, od_L_furthest, .func (PySem.W.fnOf "_law_furthest" "_law_furthest" (defArgs s_L_furthest) (defBody s_L_furthest) (defScope s_L_furthest) .none kV_L_furthest dc_L_furthest pm_L_furthest an_L_furthest cd_L_furthest ct_L_furthest), sl_L_furthest⟩)
    (c_L_furthest : PySem.W.codeIn K cd_L_furthest "_law_furthest" = true) (k_L_furthest : PySem.W.keepIn K (.ref f_L_furthest) = true)
    (a_L_word : PySem.W.nsIn K mainGlobals "_law_word" = some (some (.ref f_L_word)))
    (l_L_word : K.lookup f_L_word = some ⟨oc_L_word, od_L_word, .func (PySem.W.fnOf "_law_word" "_law_word" (defArgs s_L_word) (defBody s_L_word) (defScope s_L_word) .none kV_L_word dc_L_word pm_L_word an_L_word cd_L_word ct_L_word), sl_L_word⟩)
    (c_L_word : PySem.W.codeIn K cd_L_word "_law_word" = true) (k_L_word : PySem.W.keepIn K (.ref f_L_word) = true)
    (a_L_fits : PySem.W.nsIn K mainGlobals "_law_fits" = some (some (.ref f_L_fits)))
    (l_L_fits : K.lookup f_L_fits = some ⟨oc_L_fits, od_L_fits, .func (PySem.W.fnOf "_law_fits" "_law_fits" (defArgs s_L_fits) (defBody s_L_fits) (defScope s_L_fits) .none kV_L_fits dc_L_fits pm_L_fits an_L_fits cd_L_fits ct_L_fits), sl_L_fits⟩)
    (c_L_fits : PySem.W.codeIn K cd_L_fits "_law_fits" = true) (k_L_fits : PySem.W.keepIn K (.ref f_L_fits) = true)
    (a_law : PySem.W.nsIn K mainGlobals "law" = some (some (.ref f_law)))
    (l_law : K.lookup f_law = some ⟨oc_law, od_law, .func (PySem.W.fnOf "law" "law" (defArgs s_law) (defBody s_law) (defScope s_law) .none kV_law dc_law pm_law an_law cd_law ct_law), sl_law⟩)
    (c_law : PySem.W.codeIn K cd_law "law" = true) (k_law : PySem.W.keepIn K (.ref f_law) = true)
    (z_len : PySem.W.nsIn K mainGlobals "len" = some none)
    (z_abs : PySem.W.nsIn K mainGlobals "abs" = some none)
    (z_int : PySem.W.nsIn K mainGlobals "int" = some none)
    (z_range : PySem.W.nsIn K mainGlobals "range" = some none)
    (z_isinstance : PySem.W.nsIn K mainGlobals "isinstance" = some none)
    (z_bool : PySem.W.nsIn K mainGlobals "bool" = some none)
    (z_tuple : PySem.W.nsIn K mainGlobals "tuple" = some none)
    (z_divmod : PySem.W.nsIn K mainGlobals "divmod" = some none)
    (z_max : PySem.W.nsIn K mainGlobals "max" = some none)
    (z_min : PySem.W.nsIn K mainGlobals "min" = some none)
    (z_list : PySem.W.nsIn K mainGlobals "list" = some none)
    (z_sorted : PySem.W.nsIn K mainGlobals "sorted" = some none)
    (z_set : PySem.W.nsIn K mainGlobals "set" = some none)
    (z_ValueError : PySem.W.nsIn K mainGlobals "ValueError" = some none)
    (g_0 : PySem.W.nsIn K mainGlobals "InvalidSide" = some (some (.ref c0)))
    (g_1 : PySem.W.nsIn K mainGlobals "InvalidSides" = some (some (.ref c1)))
    (g_2 : PySem.W.nsIn K mainGlobals "TooMany" = some (some (.ref c2)))
    (g_3 : PySem.W.nsIn K mainGlobals "InvalidValue" = some (some (.ref c3)))
    (g_B : PySem.W.nsIn K mainGlobals "HandedError" = some (some (.ref cB)))
    (et_0 : erT K (cAt [c0, c1, c2, c3]) cB 0 = true)
    (et_1 : erT K (cAt [c0, c1, c2, c3]) cB 1 = true)
    (et_2 : erT K (cAt [c0, c1, c2, c3]) cB 2 = true)
    (et_3 : erT K (cAt [c0, c1, c2, c3]) cB 3 = true)
    (em_0 : PySem.W.exmOne K (.ref c0) (.ref c0) = some true)
    (gsp : PySem.W.specialIn K (.builtin "object.__class__") "__get__" = some (some (.builtin "getset_descriptor.__get__")))
    (gtk : PySem.W.takesIn K (.builtin "object.__class__") = some true)
    (a_MS : PySem.W.nsIn K mainGlobals "MOST_SIDES" = some (some (.int 4 tMS)))
    (a_MN : PySem.W.nsIn K mainGlobals "MOST_NUMBER" = some (some (.int (10 ^ 40) tMN)))
    (a_MR : PySem.W.nsIn K mainGlobals "MOST_ROWS" = some (some (.int 10000 tMR)))
    (em_2 : PySem.W.exmOne K (.ref c2) (.ref c2) = some true)
    (a_lcm : PySem.W.nsIn K mainGlobals "lcm" = some (some (.builtin "math.lcm")))
    (a_MODES : PySem.W.nsIn K mainGlobals "MODES" = some (some (.ref aM)))
    (l_MODES : K.lookup aM = some ⟨.type "tuple", odM, .seq itsM nM, slM⟩)
    (v_MODES : itsM.size ≤ sizeLine ∧ Vals modesV itsM.toList)
    (a_MIR : PySem.W.nsIn K mainGlobals "MIRRORED" = some (some (.ref aR)))
    (l_MIR : K.lookup aR = some ⟨.type "dict", none, .dict esR nR, #[]⟩)
    (h_MIR : PySem.W.KeysLit w.params esR.toList)
    (d_down : PySem.W.nsIn K aR "down" = some (some u_down)) (r_down : RelV (.str "up") u_down)
    (d_up : PySem.W.nsIn K aR "up" = some (some u_up)) (r_up : RelV (.str "down") u_up)
    (d_half_down : PySem.W.nsIn K aR "half_down" = some (some u_half_down)) (r_half_down : RelV (.str "half_up") u_half_down)
    (d_half_up : PySem.W.nsIn K aR "half_up" = some (some u_half_up)) (r_half_up : RelV (.str "half_down") u_half_up)
    (d_half_even : PySem.W.nsIn K aR "half_even" = some (some u_half_even)) (r_half_even : RelV (.str "half_even") u_half_even) :
    ∃ fd : FuncData, (∀ (s : Shared) (v : Value), BindsTo s fd ⟨[v], []⟩ [("_law_script", v)]) ∧ ∀ base : Heap, K.In base → base.Ns mainGlobals mg → FnOk l.prog w K mg base CX0 8 fa fd ["_law_script"] (spLaw K) := by
  have e := hfa.symm.trans (PySem.W.mg_of X G a_law)
  cases e
  have F_is_int := fun_mk (st := s_is_int) l_is_int c_is_int k_is_int
  have b_is_int := F_is_int.binds (ps := ["thing"]) fun _ _ _ _ _ _ us hl => match us, hl with | [_], _ => rfl
  have m_is_int := PySem.W.mg_of X G a_is_int
  have F_is_int_between := fun_mk (st := s_is_int_between) l_is_int_between c_is_int_between k_is_int_between
  have b_is_int_between := F_is_int_between.binds (ps := ["thing", "least", "most"]) fun _ _ _ _ _ _ us hl => match us, hl with | [_, _, _], _ => rfl
  have m_is_int_between := PySem.W.mg_of X G a_is_int_between
  have F_check_value := fun_mk (st := s_check_value) l_check_value c_check_value k_check_value
  have b_check_value := F_check_value.binds (ps := ["value"]) fun _ _ _ _ _ _ us hl => match us, hl with | [_], _ => rfl
  have m_check_value := PySem.W.mg_of X G a_check_value
  have F_check_side := fun_mk (st := s_check_side) l_check_side c_check_side k_check_side
  have b_check_side := F_check_side.binds (ps := ["side"]) fun _ _ _ _ _ _ us hl => match us, hl with | [_], _ => rfl
  have m_check_side := PySem.W.mg_of X G a_check_side
  have F_is_side := fun_mk (st := s_is_side) l_is_side c_is_side k_is_side
  have b_is_side := F_is_side.binds (ps := ["thing"]) fun _ _ _ _ _ _ us hl => match us, hl with | [_], _ => rfl
  have m_is_side := PySem.W.mg_of X G a_is_side
  have F_figure := fun_mk (st := s_figure) l_figure c_figure k_figure
  have b_figure := F_figure.binds (ps := ["side", "value"]) fun _ _ _ _ _ _ us hl => match us, hl with | [_, _], _ => rfl
  have m_figure := PySem.W.mg_of X G a_figure
  have F_goes_up := fun_mk (st := s_goes_up) l_goes_up c_goes_up k_goes_up
  have b_goes_up := F_goes_up.binds (ps := ["mode", "step", "figure", "rest"]) fun _ _ _ _ _ _ us hl => match us, hl with | [_, _, _, _], _ => rfl
  have m_goes_up := PySem.W.mg_of X G a_goes_up
  have F_written := fun_mk (st := s_written) l_written c_written k_written
  have b_written := F_written.binds (ps := ["side", "value"]) fun _ _ _ _ _ _ us hl => match us, hl with | [_, _], _ => rfl
  have m_written := PySem.W.mg_of X G a_written
  have F_mirror := fun_mk (st := s_mirror) l_mirror c_mirror k_mirror
  have b_mirror := F_mirror.binds (ps := ["side"]) fun _ _ _ _ _ _ us hl => match us, hl with | [_], _ => rfl
  have m_mirror := PySem.W.mg_of X G a_mirror
  have F_check_sides := fun_mk (st := s_check_sides) l_check_sides c_check_sides k_check_sides
  have b_check_sides := F_check_sides.binds (ps := ["sides"]) fun _ _ _ _ _ _ us hl => match us, hl with | [_], _ => rfl
  have m_check_sides := PySem.W.mg_of X G a_check_sides
  have F_period_of := fun_mk (st := s_period_of) l_period_of c_period_of k_period_of
  have b_period_of := F_period_of.binds (ps := ["side"]) fun _ _ _ _ _ _ us hl => match us, hl with | [_], _ => rfl
  have m_period_of := PySem.W.mg_of X G a_period_of
  have F_common_period := fun_mk (st := s_common_period) l_common_period c_common_period k_common_period
  have b_common_period := F_common_period.binds (ps := ["sides"]) fun _ _ _ _ _ _ us hl => match us, hl with | [_], _ => rfl
  have m_common_period := PySem.W.mg_of X G a_common_period
  have F_highest := fun_mk (st := s_highest) l_highest c_highest k_highest
  have b_highest := F_highest.binds (ps := ["sides", "value"]) fun _ _ _ _ _ _ us hl => match us, hl with | [_, _], _ => rfl
  have m_highest := PySem.W.mg_of X G a_highest
  have F_mirrors := fun_mk (st := s_mirrors) l_mirrors c_mirrors k_mirrors
  have b_mirrors := F_mirrors.binds (ps := ["sides"]) fun _ _ _ _ _ _ us hl => match us, hl with | [_], _ => rfl
  have m_mirrors := PySem.W.mg_of X G a_mirrors
  have F_within := fun_mk (st := s_within) l_within c_within k_within
  have b_within := F_within.binds (ps := ["sides", "value", "many"]) fun _ _ _ _ _ _ us hl => match us, hl with | [_, _, _], _ => rfl
  have m_within := PySem.W.mg_of X G a_within
  have F_highest_within := fun_mk (st := s_highest_within) l_highest_within c_highest_within k_highest_within
  have b_highest_within := F_highest_within.binds (ps := ["sides", "value", "many"]) fun _ _ _ _ _ _ us hl => match us, hl with | [_, _, _], _ => rfl
  have m_highest_within := PySem.W.mg_of X G a_highest_within
  have F_continued := fun_mk (st := s_continued) l_continued c_continued k_continued
  have b_continued := F_continued.binds (ps := ["values", "following", "many"]) fun _ _ _ _ _ _ us hl => match us, hl with | [_, _, _], _ => rfl
  have m_continued := PySem.W.mg_of X G a_continued
  have F_L_source := fun_mk (st := s_L_source) l_L_source c_L_source k_L_source
  have b_L_source := F_L_source.binds (ps := ["_law_script"]) fun _ _ _ _ _ _ us hl => match us, hl with | [_], _ => rfl
  have m_L_source := PySem.W.mg_of X G a_L_source
  have F_L_draw := fun_mk (st := s_L_draw) l_L_draw c_L_draw k_L_draw
  have b_L_draw := F_L_draw.binds (ps := ["_law_source_here", "_law_limit"]) fun _ _ _ _ _ _ us hl => match us, hl with | [_, _], _ => rfl
  have m_L_draw := PySem.W.mg_of X G a_L_draw
  have F_L_pick := fun_mk (st := s_L_pick) l_L_pick c_L_pick k_L_pick
  have b_L_pick := F_L_pick.binds (ps := ["_law_source_here", "_law_values"]) fun _ _ _ _ _ _ us hl => match us, hl with | [_, _], _ => rfl
  have m_L_pick := PySem.W.mg_of X G a_L_pick
  have F_L_divisor := fun_mk (st := s_L_divisor) l_L_divisor c_L_divisor k_L_divisor
  have b_L_divisor := F_L_divisor.binds (ps := ["_law_one", "_law_other"]) fun _ _ _ _ _ _ us hl => match us, hl with | [_, _], _ => rfl
  have m_L_divisor := PySem.W.mg_of X G a_L_divisor
  have F_L_great := fun_mk (st := s_L_great) l_L_great c_L_great k_L_great
  have b_L_great := F_L_great.binds (ps := ["_law_source_here", "_law_digits"]) fun _ _ _ _ _ _ us hl => match us, hl with | [_, _], _ => rfl
  have m_L_great := PySem.W.mg_of X G a_L_great
  have F_L_small_side := fun_mk (st := s_L_small_side) l_L_small_side c_L_small_side k_L_small_side
  have b_L_small_side := F_L_small_side.binds (ps := ["_law_source_here", "_law_most"]) fun _ _ _ _ _ _ us hl => match us, hl with | [_, _], _ => rfl
  have m_L_small_side := PySem.W.mg_of X G a_L_small_side
  have F_L_figure := fun_mk (st := s_L_figure) l_L_figure c_L_figure k_L_figure
  have b_L_figure := F_L_figure.binds (ps := ["_law_side", "_law_value"]) fun _ _ _ _ _ _ us hl => match us, hl with | [_, _], _ => rfl
  have m_L_figure := PySem.W.mg_of X G a_L_figure
  have F_L_handed := fun_mk (st := s_L_handed) l_L_handed c_L_handed k_L_handed
  have b_L_handed := F_L_handed.binds (ps := ["_law_side", "_law_value"]) fun _ _ _ _ _ _ us hl => match us, hl with | [_, _], _ => rfl
  have m_L_handed := PySem.W.mg_of X G a_L_handed
  have F_L_period := fun_mk (st := s_L_period) l_L_period c_L_period k_L_period
  have b_L_period := F_L_period.binds (ps := ["_law_sides"]) fun _ _ _ _ _ _ us hl => match us, hl with | [_], _ => rfl
  have m_L_period := PySem.W.mg_of X G a_L_period
  have F_L_set := fun_mk (st := s_L_set) l_L_set c_L_set k_L_set
  have b_L_set := F_L_set.binds (ps := ["_law_source_here", "_law_most", "_law_many"]) fun _ _ _ _ _ _ us hl => match us, hl with | [_, _, _], _ => rfl
  have m_L_set := PySem.W.mg_of X G a_L_set
  have F_L_written := fun_mk (st := s_L_written) l_L_written c_L_written k_L_written
  have b_L_written := F_L_written.binds (ps := ["_law_sides", "_law_value"]) fun _ _ _ _ _ _ us hl => match us, hl with | [_, _], _ => rfl
  have m_L_written := PySem.W.mg_of X G a_L_written
  have F_L_all := fun_mk (st := s_L_all) l_L_all c_L_all k_L_all
  have b_L_all := F_L_all.binds (ps := ["_law_sides", "_law_value", "_law_many"]) fun _ _ _ _ _ _ us hl => match us, hl with | [_, _, _], _ => rfl
  have m_L_all := PySem.W.mg_of X G a_L_all
  have F_L_furthest := fun_mk (st := s_L_furthest) l_L_furthest c_L_furthest k_L_furthest
  have b_L_furthest := F_L_furthest.binds (ps := ["_law_sides", "_law_value", "_law_many", "_law_sign"]) fun _ _ _ _ _ _ us hl => match us, hl with | [_, _, _, _], _ => rfl
  have m_L_furthest := PySem.W.mg_of X G a_L_furthest
  have F_L_word := fun_mk (st := s_L_word) l_L_word c_L_word k_L_word
  have b_L_word := F_L_word.binds (ps := ["_law_sides", "_law_value", "_law_many"]) fun _ _ _ _ _ _ us hl => match us, hl with | [_, _, _], _ => rfl
  have m_L_word := PySem.W.mg_of X G a_L_word
  have F_L_fits := fun_mk (st := s_L_fits) l_L_fits c_L_fits k_L_fits
  have b_L_fits := F_L_fits.binds (ps := ["_law_source_here", "_law_sides", "_law_factor"]) fun _ _ _ _ _ _ us hl => match us, hl with | [_, _, _], _ => rfl
  have m_L_fits := PySem.W.mg_of X G a_L_fits
  have F_law := fun_mk (st := s_law) l_law c_law k_law
  have b_law := F_law.binds (ps := ["_law_script"]) fun _ _ _ _ _ _ us hl => match us, hl with | [_], _ => rfl
  have m_law := PySem.W.mg_of X G a_law
  have n_len := PySem.W.mg_none_of X G z_len
  have n_abs := PySem.W.mg_none_of X G z_abs
  have n_int := PySem.W.mg_none_of X G z_int
  have n_range := PySem.W.mg_none_of X G z_range
  have n_isinstance := PySem.W.mg_none_of X G z_isinstance
  have n_bool := PySem.W.mg_none_of X G z_bool
  have n_tuple := PySem.W.mg_none_of X G z_tuple
  have n_divmod := PySem.W.mg_none_of X G z_divmod
  have n_max := PySem.W.mg_none_of X G z_max
  have n_min := PySem.W.mg_none_of X G z_min
  have n_list := PySem.W.mg_none_of X G z_list
  have n_sorted := PySem.W.mg_none_of X G z_sorted
  have n_set := PySem.W.mg_none_of X G z_set
  have n_ValueError := PySem.W.mg_none_of X G z_ValueError
  have BL : Blt mg := ⟨n_len, n_abs, n_int, n_range⟩
  have T : SideT K mg aM := ⟨n_isinstance, n_int, n_bool, n_tuple, n_len, n_divmod, PySem.W.mg_of X G a_MODES, fun _ => .inr ⟨_, _, _, l_MODES, rfl, rfl, v_MODES.1, v_MODES.2⟩⟩
  have RT : MirT K w mg aR := ⟨PySem.W.mg_of X G a_MIR, fun m hm => by
    rcases hm with e | e | e | e | e <;> subst e
    · rw [mir_d]; exact ⟨_, _, _, l_MIR, h_MIR, d_down, r_down⟩
    · rw [mir_u]; exact ⟨_, _, _, l_MIR, h_MIR, d_up, r_up⟩
    · rw [mir_hd]; exact ⟨_, _, _, l_MIR, h_MIR, d_half_down, r_half_down⟩
    · rw [mir_hu]; exact ⟨_, _, _, l_MIR, h_MIR, d_half_up, r_half_up⟩
    · rw [mir_he]; exact ⟨_, _, _, l_MIR, h_MIR, d_half_even, r_half_even⟩⟩
  have TC : ChkT mg := ⟨n_isinstance, n_int, n_bool, n_tuple, n_list, n_len⟩
  have TM : ModT K mg aM := ⟨T.gM, T.tM⟩
  have AT : AmT mg := ⟨⟨_, PySem.W.mg_of X G a_MS⟩⟩
  have tab : ∀ i, i < 4 → erT K (cAt [c0, c1, c2, c3]) cB i = true := fun i hi => by
    rcases (by omega : i = 0 ∨ i = 1 ∨ i = 2 ∨ i = 3) with e | e | e | e <;> subst e
    · exact et_0
    · exact et_1
    · exact et_2
    · exact et_3
  have tb : ∀ i, i < 4 → errB K (cAt [c0, c1, c2, c3] i) = true ∧ (PySem.W.excIn K (cAt [c0, c1, c2, c3] i) [.type "ValueError", .type "Exception", .type "BaseException", .type "object"] "ValueError.__new__" = true ∧ PySem.W.keepIn K (.ref (cAt [c0, c1, c2, c3] i)) = true) ∧ PySem.W.kitOne K (.ref (cAt [c0, c1, c2, c3] i)) (.type "ValueError") = some true ∧ PySem.W.subIn K (.ref (cAt [c0, c1, c2, c3] i)) (.type "BaseException") = some true ∧ PySem.W.typeIn K (.ref (cAt [c0, c1, c2, c3] i)) = some (.type "type") ∧ PySem.W.exmOne K (.ref (cAt [c0, c1, c2, c3] i)) (.ref cB) = some true ∧ ∀ j, j < 4 → PySem.W.kitOne K (.ref (cAt [c0, c1, c2, c3] i)) (.ref (cAt [c0, c1, c2, c3] j)) = some (decide (i = j)) := fun i hi => by
    have z := tab i hi
    unfold erT exB at z
    simp only [Bool.and_eq_true, decide_eq_true_eq] at z
    obtain ⟨a, b, c, d, e, f, g⟩ := z
    exact ⟨a, b, c, d, e, f, fun j hj => of_decide_eq_true (all_of g hj)⟩
  have R : Er K mg (cAt [c0, c1, c2, c3]) cB := { isi := n_isinstance, ve := n_ValueError, gB := PySem.W.mg_of X G g_B, g0 := PySem.W.mg_of X G g_0, g1 := PySem.W.mg_of X G g_1, g2 := PySem.W.mg_of X G g_2, g3 := PySem.W.mg_of X G g_3, kit := fun i j hi hj => (tb i hi).2.2.2.2.2.2 j hj, kitV := fun i hi => (tb i hi).2.2.1, ec := fun i hi => errB_ok (tb i hi).1, eg := ⟨gsp, gtk⟩, ex := fun i hi => (tb i hi).2.1.1, kp := fun i hi => (tb i hi).2.1.2, sb := fun i hi => (tb i hi).2.2.2.1, ty := fun i hi => (tb i hi).2.2.2.2.1, emB := fun i hi => (tb i hi).2.2.2.2.2.1, em0 := em_0 }
  have MX : MaxT mg := ⟨n_max, n_min⟩
  have AM : AmG mg := ⟨n_isinstance, n_list, n_len, ⟨_, PySem.W.mg_of X G a_MS⟩, PySem.W.mg_of X G a_lcm, n_sorted⟩
  refine ⟨PySem.W.fnOf "law" "law" (defArgs s_law) (defBody s_law) (defScope s_law) .none kV_law dc_law pm_law an_law cd_law ct_law, fun s v => .of_eq rfl, fun base _ _ => ?_⟩
  have LG : LimG mg := ⟨n_divmod, ⟨_, PySem.W.mg_of X G a_MN⟩, ⟨_, PySem.W.mg_of X G a_MR⟩⟩
  have C_is_int : Cal l.prog w K mg base "is_int" 1 ["thing"] spIsInt f_is_int _ := ⟨ok_is_int F_is_int T, m_is_int, k_is_int, b_is_int⟩
  have C_is_int_between : Cal l.prog w K mg base "is_int_between" 2 ["thing", "least", "most"] spBetween f_is_int_between _ := ⟨ok_between F_is_int_between C_is_int, m_is_int_between, k_is_int_between, b_is_int_between⟩
  have C_check_value : Cal l.prog w K mg base "check_value" 2 ["value"] spCheckValue f_check_value _ := ⟨ok_check_value F_check_value C_is_int, m_check_value, k_check_value, b_check_value⟩
  have C_check_side : Cal l.prog w K mg base "check_side" 3 ["side"] spCheckSide f_check_side _ := ⟨ok_check_side F_check_side T C_is_int_between, m_check_side, k_check_side, b_check_side⟩
  have C_goes_up : Cal l.prog w K mg base "_goes_up" 1 ["mode", "step", "figure", "rest"] spGo f_goes_up _ := ⟨ok_goes_up F_goes_up, m_goes_up, k_goes_up, b_goes_up⟩
  have C_figure : Cal l.prog w K mg base "_figure" 2 ["side", "value"] spFig f_figure _ := ⟨ok_figure F_figure T C_goes_up, m_figure, k_figure, b_figure⟩
  have C_written : Cal l.prog w K mg base "written" 3 ["side", "value"] spDue f_written _ := ⟨ok_written F_written C_figure, m_written, k_written, b_written⟩
  have C_mirror : Cal l.prog w K mg base "mirror" 4 ["side"] spMirror f_mirror _ := ⟨ok_mirror F_mirror RT C_check_side, m_mirror, k_mirror, b_mirror⟩
  have C_is_side : Cal l.prog w K mg base "is_side" 4 ["thing"] spIsSide f_is_side _ := ⟨ok_is_side F_is_side (PySem.W.mg_of X G g_0) C_check_side, m_is_side, k_is_side, b_is_side⟩
  have C_check_sides : Cal l.prog w K mg base "check_sides" 5 ["sides"] spSides f_check_sides _ := ⟨ok_sides F_check_sides AM C_is_side, m_check_sides, k_check_sides, b_check_sides⟩
  have C_period_of : Cal l.prog w K mg base "period_of" 1 ["side"] spPerOf f_period_of _ := ⟨ok_per F_period_of, m_period_of, k_period_of, b_period_of⟩
  have C_common_period : Cal l.prog w K mg base "common_period" 2 ["sides"] spPerL f_common_period _ := ⟨ok_commonL F_common_period AM C_period_of, m_common_period, k_common_period, b_common_period⟩
  have C_mirrors : Cal l.prog w K mg base "mirrors" 5 ["sides"] spMirs f_mirrors _ := ⟨ok_mirs F_mirrors C_mirror, m_mirrors, k_mirrors, b_mirrors⟩
  have C_highest : Cal l.prog w K mg base "highest" 4 ["sides", "value"] spHi f_highest _ := ⟨ok_hi F_highest MX C_written, m_highest, k_highest, b_highest⟩
  have C_continued : Cal l.prog w K mg base "_continued" 1 ["values", "following", "many"] spCont f_continued _ := ⟨ok_cont F_continued AM LG, m_continued, k_continued, b_continued⟩
  have X_highest_within : CalX l.prog w K mg base "_highest_within" 5 ["sides", "value", "many"] (spHWX (cAt [c0, c1, c2, c3])) f_highest_within _ := ⟨ok_hw F_highest_within BL MX LG R C_common_period C_highest C_continued, m_highest_within, k_highest_within, b_highest_within⟩
  have X_within : CalX l.prog w K mg base "within" 6 ["sides", "value", "many"] (spWiX (cAt [c0, c1, c2, c3])) f_within _ := ⟨ok_within F_within LG C_check_sides C_check_value C_is_int_between C_mirrors X_highest_within, m_within, k_within, b_within⟩
  have C_within : Cal l.prog w K mg base "within" 6 ["sides", "value", "many"] spWiL f_within _ := ⟨ok_wil X_within.ok, m_within, k_within, b_within⟩
  have SB : SetB mg := ⟨n_list, n_set, n_sorted, n_tuple⟩
  have C_L_source : Cal l.prog w K mg base "_law_source" 1 ["_law_script"] (spSource K) f_L_source _ := ⟨ok_source F_L_source BL, m_L_source, k_L_source, b_L_source⟩
  have C_L_draw : Cal l.prog w K mg base "_law_draw" 1 ["_law_source_here", "_law_limit"] spDraw f_L_draw _ := ⟨ok_draw F_L_draw BL, m_L_draw, k_L_draw, b_L_draw⟩
  have C_L_pick : Cal l.prog w K mg base "_law_pick" 2 ["_law_source_here", "_law_values"] spPick f_L_pick _ := ⟨ok_pick F_L_pick BL C_L_draw, m_L_pick, k_L_pick, b_L_pick⟩
  have C_L_great : Cal l.prog w K mg base "_law_great" 2 ["_law_source_here", "_law_digits"] spGreat f_L_great _ := ⟨ok_great F_L_great BL C_L_draw, m_L_great, k_L_great, b_L_great⟩
  have C_L_small_side : Cal l.prog w K mg base "_law_small_side" 3 ["_law_source_here", "_law_most"] spSmall f_L_small_side _ := ⟨ok_small F_L_small_side C_L_draw C_L_pick, m_L_small_side, k_L_small_side, b_L_small_side⟩
  have C_L_figure : Cal l.prog w K mg base "_law_figure" 1 ["_law_side", "_law_value"] spFig f_L_figure _ := ⟨ok_L_figure F_L_figure BL, m_L_figure, k_L_figure, b_L_figure⟩
  have C_L_handed : Cal l.prog w K mg base "_law_handed" 2 ["_law_side", "_law_value"] spDue f_L_handed _ := ⟨ok_L_handed F_L_handed C_L_figure, m_L_handed, k_L_handed, b_L_handed⟩
  have C_L_divisor : Cal l.prog w K mg base "_law_divisor" 1 ["_law_one", "_law_other"] spDiv f_L_divisor _ := ⟨ok_div F_L_divisor BL, m_L_divisor, k_L_divisor, b_L_divisor⟩
  have C_L_period : Cal l.prog w K mg base "_law_period" 2 ["_law_sides"] spPer f_L_period _ := ⟨ok_period F_L_period BL C_L_divisor, m_L_period, k_L_period, b_L_period⟩
  have C_L_set : Cal l.prog w K mg base "_law_set" 4 ["_law_source_here", "_law_most", "_law_many"] spSet f_L_set _ := ⟨ok_set F_L_set BL C_L_draw C_L_small_side, m_L_set, k_L_set, b_L_set⟩
  have C_L_written : Cal l.prog w K mg base "_law_written" 3 ["_law_sides", "_law_value"] spWrL f_L_written _ := ⟨ok_wrl F_L_written C_L_handed, m_L_written, k_L_written, b_L_written⟩
  have C_L_all : Cal l.prog w K mg base "_law_all" 4 ["_law_sides", "_law_value", "_law_many"] spAllF f_L_all _ := ⟨ok_all F_L_all BL SB C_L_written, m_L_all, k_L_all, b_L_all⟩
  have C_L_furthest : Cal l.prog w K mg base "_law_furthest" 4 ["_law_sides", "_law_value", "_law_many", "_law_sign"] spFur f_L_furthest _ := ⟨ok_fur F_L_furthest BL MX C_L_period C_L_written, m_L_furthest, k_L_furthest, b_L_furthest⟩
  have C_L_word : Cal l.prog w K mg base "_law_word" 7 ["_law_sides", "_law_value", "_law_many"] spWord53 f_L_word _ := ⟨ok_L_word F_L_word R em_2 X_within, m_L_word, k_L_word, b_L_word⟩
  have C_L_fits : Cal l.prog w K mg base "_law_fits" 7 ["_law_source_here", "_law_sides", "_law_factor"] spFits53 f_L_fits _ := ⟨ok_fits F_L_fits BL SB C_L_draw C_L_great C_within C_L_all C_L_furthest, m_L_fits, k_L_fits, b_L_fits⟩
  exact ok_law F_law BL C_L_source C_L_draw C_L_pick C_L_great C_L_set C_L_period C_L_fits C_L_word C_L_furthest
theorem walk {l : PySem.W.OpenLaw} {q : Program} {loose : List Str} {XP : (Str → Option Value) → Heap → Prop} {YP : World → Heap → Prop} {d : DefRec} {K : Params → PySem.W.Frag} (hn : l.most = some 63) (hdf : d.params.defaults = [])
    (hY : ∀ (w : World) (h : Heap), YP w h → (K w.params).In h)
    (F : ∀ (w : World) (mg : Str → Option Value) (fa : Addr) (h : Heap), (K w.params).In h → h.Ns mainGlobals mg → mg d.name = some (.ref fa) →
      ∃ fd : FuncData, (∀ (s : Shared) (u : Value), BindsTo s fd ⟨[u], []⟩ [("_law_script", u)]) ∧ ∀ base : Heap, (K w.params).In base → base.Ns mainGlobals mg → FnOk l.prog w (K w.params) mg base CX0 8 fa fd ["_law_script"] (spLaw (K w.params))) :
    PySem.W.WalkO q loose XP YP l.row.toRowW d [] (fun f vs => PySem.call f vs) :=
  L2.walk_of (n := 63) (k := 8) (x := "_law_script") (CX := fun _ => CX0) (sp := fun w => spLaw (K w.params)) hn (by decide) hdf ⟨rfl, by decide, by decide⟩ hY F (fun _ _ a ns hl _ hS => ⟨a, ns, rfl, hS, hl, fun _ => rfl⟩) fun _ _ _ _ _ z => z
end HT
open PySem PySem.W PyProof.Rows
set_option maxRecDepth 100000 in
set_option maxHeartbeats 0 in
theorem PySem.Challenge.cw_handedtext_k53_whole_so_many_hand_overs_holds : PySem.Challenge.rw_handedtext_k53_whole_so_many_hand_overs.Holds := by
  w_on; o_law; k_head; (case hw => w_witness2)
  k_fill
  refine HT.walk (l := PySem.Challenge.rw_handedtext_k53_whole_so_many_hand_overs) rfl rfl (fun w h Y => PySem.W.kIn_of Y) ?F
  case F =>
    intro w mg fa h KX G hmg
    refine' HT.all_mk KX G hmg ?a_is_int ?l_is_int ?c_is_int ?k_is_int ?a_is_int_between ?l_is_int_between ?c_is_int_between ?k_is_int_between ?a_check_value ?l_check_value ?c_check_value ?k_check_value ?a_check_side ?l_check_side ?c_check_side ?k_check_side ?a_is_side ?l_is_side ?c_is_side ?k_is_side ?a_figure ?l_figure ?c_figure ?k_figure ?a_goes_up ?l_goes_up ?c_goes_up ?k_goes_up ?a_written ?l_written ?c_written ?k_written ?a_mirror ?l_mirror ?c_mirror ?k_mirror ?a_check_sides ?l_check_sides ?c_check_sides ?k_check_sides ?a_period_of ?l_period_of ?c_period_of ?k_period_of ?a_common_period ?l_common_period ?c_common_period ?k_common_period ?a_highest ?l_highest ?c_highest ?k_highest ?a_mirrors ?l_mirrors ?c_mirrors ?k_mirrors ?a_within ?l_within ?c_within ?k_within ?a_highest_within ?l_highest_within ?c_highest_within ?k_highest_within ?a_continued ?l_continued ?c_continued ?k_continued ?a_L_source ?l_L_source ?c_L_source ?k_L_source ?a_L_draw ?l_L_draw ?c_L_draw ?k_L_draw ?a_L_pick ?l_L_pick ?c_L_pick ?k_L_pick ?a_L_divisor ?l_L_divisor ?c_L_divisor ?k_L_divisor ?a_L_great ?l_L_great ?c_L_great ?k_L_great ?a_L_small_side ?l_L_small_side ?c_L_small_side ?k_L_small_side ?a_L_figure ?l_L_figure ?c_L_figure ?k_L_figure ?a_L_handed ?l_L_handed ?c_L_handed ?k_L_handed ?a_L_period ?l_L_period ?c_L_period ?k_L_period ?a_L_set ?l_L_set ?c_L_set ?k_L_set ?a_L_written ?l_L_written ?c_L_written ?k_L_written ?a_L_all ?l_L_all ?c_L_all ?k_L_all ?a_L_furthest ?l_L_furthest ?c_L_furthest ?k_L_furthest ?a_L_word ?l_L_word ?c_L_word ?k_L_word ?a_L_fits ?l_L_fits ?c_L_fits ?k_L_fits ?a_law ?l_law ?c_law ?k_law ?z_len ?z_abs ?z_int ?z_range ?z_isinstance ?z_bool ?z_tuple ?z_divmod ?z_max ?z_min ?z_list ?z_sorted ?z_set ?z_ValueError ?g_0 ?g_1 ?g_2 ?g_3 ?g_B ?et_0 ?et_1 ?et_2 ?et_3 ?em_0 ?gsp ?gtk ?a_MS ?a_MN ?a_MR ?em_2 ?a_lcm ?a_MODES ?l_MODES ?v_MODES ?a_MIR ?l_MIR ?h_MIR ?d_down ?r_down ?d_up ?r_up ?d_half_down ?r_half_down ?d_half_up ?r_half_up ?d_half_even ?r_half_even
    (case a_is_int => k_is)
    (case l_is_int => k_is)
    (case c_is_int => k_is)
    (case k_is_int => k_is)
    (case a_is_int_between => k_is)
    (case l_is_int_between => k_is)
    (case c_is_int_between => k_is)
    (case k_is_int_between => k_is)
    (case a_check_value => k_is)
    (case l_check_value => k_is)
    (case c_check_value => k_is)
    (case k_check_value => k_is)
    (case a_check_side => k_is)
    (case l_check_side => k_is)
    (case c_check_side => k_is)
    (case k_check_side => k_is)
    (case a_is_side => k_is)
    (case l_is_side => k_is)
    (case c_is_side => k_is)
    (case k_is_side => k_is)
    (case a_figure => k_is)
    (case l_figure => k_is)
    (case c_figure => k_is)
    (case k_figure => k_is)
    (case a_goes_up => k_is)
    (case l_goes_up => k_is)
    (case c_goes_up => k_is)
    (case k_goes_up => k_is)
    (case a_written => k_is)
    (case l_written => k_is)
    (case c_written => k_is)
    (case k_written => k_is)
    (case a_mirror => k_is)
    (case l_mirror => k_is)
    (case c_mirror => k_is)
    (case k_mirror => k_is)
    (case a_check_sides => k_is)
    (case l_check_sides => k_is)
    (case c_check_sides => k_is)
    (case k_check_sides => k_is)
    (case a_period_of => k_is)
    (case l_period_of => k_is)
    (case c_period_of => k_is)
    (case k_period_of => k_is)
    (case a_common_period => k_is)
    (case l_common_period => k_is)
    (case c_common_period => k_is)
    (case k_common_period => k_is)
    (case a_highest => k_is)
    (case l_highest => k_is)
    (case c_highest => k_is)
    (case k_highest => k_is)
    (case a_mirrors => k_is)
    (case l_mirrors => k_is)
    (case c_mirrors => k_is)
    (case k_mirrors => k_is)
    (case a_within => k_is)
    (case l_within => k_is)
    (case c_within => k_is)
    (case k_within => k_is)
    (case a_highest_within => k_is)
    (case l_highest_within => k_is)
    (case c_highest_within => k_is)
    (case k_highest_within => k_is)
    (case a_continued => k_is)
    (case l_continued => k_is)
    (case c_continued => k_is)
    (case k_continued => k_is)
    (case a_L_source => k_is)
    (case l_L_source => k_is)
    (case c_L_source => k_is)
    (case k_L_source => k_is)
    (case a_L_draw => k_is)
    (case l_L_draw => k_is)
    (case c_L_draw => k_is)
    (case k_L_draw => k_is)
    (case a_L_pick => k_is)
    (case l_L_pick => k_is)
    (case c_L_pick => k_is)
    (case k_L_pick => k_is)
    (case a_L_divisor => k_is)
    (case l_L_divisor => k_is)
    (case c_L_divisor => k_is)
    (case k_L_divisor => k_is)
    (case a_L_great => k_is)
    (case l_L_great => k_is)
    (case c_L_great => k_is)
    (case k_L_great => k_is)
    (case a_L_small_side => k_is)
    (case l_L_small_side => k_is)
    (case c_L_small_side => k_is)
    (case k_L_small_side => k_is)
    (case a_L_figure => k_is)
    (case l_L_figure => k_is)
    (case c_L_figure => k_is)
    (case k_L_figure => k_is)
    (case a_L_handed => k_is)
    (case l_L_handed => k_is)
    (case c_L_handed => k_is)
    (case k_L_handed => k_is)
    (case a_L_period => k_is)
    (case l_L_period => k_is)
    (case c_L_period => k_is)
    (case k_L_period => k_is)
    (case a_L_set => k_is)
    (case l_L_set => k_is)
    (case c_L_set => k_is)
    (case k_L_set => k_is)
    (case a_L_written => k_is)
    (case l_L_written => k_is)
    (case c_L_written => k_is)
    (case k_L_written => k_is)
    (case a_L_all => k_is)
    (case l_L_all => k_is)
    (case c_L_all => k_is)
    (case k_L_all => k_is)
    (case a_L_furthest => k_is)
    (case l_L_furthest => k_is)
    (case c_L_furthest => k_is)
    (case k_L_furthest => k_is)
    (case a_L_word => k_is)
    (case l_L_word => k_is)
    (case c_L_word => k_is)
    (case k_L_word => k_is)
    (case a_L_fits => k_is)
    (case l_L_fits => k_is)
    (case c_L_fits => k_is)
    (case k_L_fits => k_is)
    (case a_law => k_is)
    (case l_law => k_is)
    (case c_law => k_is)
    (case k_law => k_is)
    (case z_len => k_is)
    (case z_abs => k_is)
    (case z_int => k_is)
    (case z_range => k_is)
    (case z_isinstance => k_is)
    (case z_bool => k_is)
    (case z_tuple => k_is)
    (case z_divmod => k_is)
    (case z_max => k_is)
    (case z_min => k_is)
    (case z_list => k_is)
    (case z_sorted => k_is)
    (case z_set => k_is)
    (case z_ValueError => k_is)
    (case g_0 => k_is)
    (case g_1 => k_is)
    (case g_2 => k_is)
    (case g_3 => k_is)
    (case g_B => k_is)
    (case et_0 => kernel_rfl)
    (case et_1 => kernel_rfl)
    (case et_2 => kernel_rfl)
    (case et_3 => kernel_rfl)
    (case em_0 => kernel_rfl)
    (case gsp => k_is)
    (case gtk => k_is)
    (case a_MS => k_is)
    (case a_MN => k_is)
    (case a_MR => k_is)
    (case em_2 => kernel_rfl)
    (case a_lcm => k_is)
    (case a_MODES => k_is)
    (case l_MODES => k_is)
    (case v_MODES => exact ⟨by decide, .cons ⟨_, rfl⟩ (.cons ⟨_, rfl⟩ (.cons ⟨_, rfl⟩ (.cons ⟨_, rfl⟩ (.cons ⟨_, rfl⟩ .nil))))⟩)
    (case a_MIR => k_is)
    (case l_MIR => k_is)
    (case h_MIR => k_keys)
    (case d_down => k_is)
    (case r_down => exact ⟨_, rfl⟩)
    (case d_up => k_is)
    (case r_up => exact ⟨_, rfl⟩)
    (case d_half_down => k_is)
    (case r_half_down => exact ⟨_, rfl⟩)
    (case d_half_up => k_is)
    (case r_half_up => exact ⟨_, rfl⟩)
    (case d_half_even => k_is)
    (case r_half_even => exact ⟨_, rfl⟩)
#print axioms PySem.Challenge.cw_handedtext_k53_whole_so_many_hand_overs_holds
