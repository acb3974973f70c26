import PyProof.Rows.All
import Wide.All
import OpenK.AllK
import Wide.FinOn
import HandS.CallSlots
import HandS.Deep
import HandS.Defaults
import HandS.Exc
import HandS.ExcField
import HandS.ExcInit
import HandS.ExcIs
import HandS.ExcValue
import HandS.ForMost
import HandS.HotCalls
import HandS.IsInst
import HandS.MakeKwOnly
import HandS.More
import HandS.NoneIn
import HandS.RaiseFrom
import HandS.ReplaceLit
import HandS.StrMore
import HandS.Style
import HandS.SuiteRaise
import HandS.TryOnly
import HandS.Wide
import HandS.WideBits
import HandS.WordsExc
import KE.KEqDeep
import KE.KEqSeq
import KE.KExcIs
import HandS.Gcd
import HandS.Conv
import PySem.Challenge.RW_handedtext_k56_whole_each_once
set_option Elab.async false
set_option linter.all false
set_option maxRecDepth 100000
set_option maxHeartbeats 4000000
set_option exponentiation.threshold 9000
open PySem L2
local macro_rules | `(tactic| walk_at "rd") => `(tactic| repeat (first | refine ⟨_, rfl, ?_⟩ | refine ⟨_, _, rfl, rfl, ?_⟩ | refine .inl ⟨_, rfl, ?_⟩))
namespace L2
open PySem PySem.Spec PyProof.Rows
/-- an error that was caught and kept, at a -/
def ExK (cls : Value) (a : Addr) : HO := .ext fun hp => ∃ (rec' : Obj) (cells : Array Value), hp.get? a = some rec' ∧ Zc cls none rec' ∧ rec'.data = .fields cells
/-- wKeep: what 'except x as n' wishes, where the error stays tracked behind the suite -/
def wKeep (K : PySem.W.Frag) (c : Value) (i : Nat) (ts : Addr → Value → Option Addr → TS) (Wout : WX) (D : Ends) : WX := fun kl dd st H =>
  ∃ yes, PySem.W.exmOne K kl c = some yes ∧ (yes = true → dd = none ∧ ∀ a, H a = none → ts a kl dd { nx := fun st' H' => D.nx (st'.set i none) (upd H' a (ExK kl a)), rt := D.rt, bk := fun st' H' => D.bk (st'.set i none) H', ct := fun st' H' => D.ct (st'.set i none) H' } (st.set i (some (.ref a))) H) ∧
    (yes = false → Wout kl dd st H)
section
variable {X : Cx} {pins : List (Addr × Obj)} {st : St} {H : Hp} {sh : Shared}
theorem Inv.adopt {a : Addr} {kl : Value} {rc : Obj} {cells : Array Value} (iv : Inv X pins st H sh) (new0 : X.s_0.heap.get? a = none) (free : H a = none) (at0 : sh.heap.get? a = some rc) (zc : Zc kl none rc) (fl : rc.data = .fields cells) (nl : a ≠ X.env.locals)
    (np : ∀ p ∈ X.pn ++ pins, p.1 ≠ a) : Inv X pins st (upd H a (ExK kl a)) sh := by
  have old : ∀ c rr, X.s_0.heap.get? c = some rr → c ≠ a := fun c rr e z => by
    rw [z, new0] at e
    cases e
  have other : ∀ c u, H c = some u → upd H a (ExK kl a) c = some u := fun c u e => (upd_ne (ne_of_none e free)).trans e
  refine ⟨iv.ok, iv.os, iv.bare, ⟨iv.base.keep, iv.base.slot, fun c rr e n0 nx => ?_, iv.base.there, fun c xs e => other _ _ (iv.base.tups c xs e), fun c rr u e => other _ _ (iv.base.frzs c rr u e), fun c ps e => ?_⟩, iv.loc, iv.cell, ?_, fun y c e => ?_, fun p hp => ?_, fun c u e => ?_, iv.len⟩
  · exact (upd_ne (old c rr e)).trans (iv.base.free c rr e n0 nx)
  · obtain ⟨more, e2⟩ := iv.base.tbls c ps e
    exact ⟨more, other _ _ e2⟩
  · exact (upd_ne nl.symm).trans iv.free
  · obtain ⟨w, rr, e2, e3⟩ := iv.cell y c e
    refine (upd_ne fun z => ?_).trans (iv.freeC y c e)
    subst z
    rw [at0] at e2
    cases e2
    simp [fl] at e3
  · obtain ⟨e1, e2, e3, e4, e5⟩ := iv.pin p hp
    exact ⟨e1, (upd_ne (np p hp)).trans e2, e3, e4, e5⟩
  · by_cases ca : c = a
    · subst ca
      rw [upd_same] at e
      cases e
      exact ⟨⟨rc, cells, at0, zc, fl⟩, ⟨rc, at0⟩, fun _ _ ⟨r2, c2, e2, e3⟩ same => ⟨r2, c2, same _ e2, e3⟩⟩
    · rw [upd_ne ca] at e
      exact (iv.hok c u e).stay (fun _ _ _ e2 => e2) (fun c2 e2 => other _ _ e2) fun c2 xs e2 => other _ _ e2
end
end L2
namespace L2
open PySem PySem.Spec PyProof.Rows
section
variable {X : Cx} {x n : Str} {c : Value} {i : Nat} {body suite : List Stmt} {first : Stmt} {np pos pos' : Pos} {tb : WX → TS} {ts : Addr → Value → Option Addr → TS} {Wout : WX}
/-- try: .. except x as n: suite; the caught error stays tracked behind it -/
theorem ps_try_keep (stk : X.stack = X.env :: X.outer) (frm : X.env.frame = some X.env.locals) (noex : X.ex = []) (dist : X.N.Nodup) (slot : X.N[i]? = some n) (loc : X.env.kindOf n = some .local) (nam : Names X x c) (tk : Takes X Wout)
    (inner : ∀ (W : WX) (pn : List (Addr × Obj)) (xe : Value → Shared → Prop), Takes (X.tr pn xe) W → PassesOwn (model X.prog X.w) X.A X.env xe → PSs (X.tr pn xe) body (tb W))
    (caught : ∀ (a : Addr) (rc : Obj) (kl : Value) (dd : Option Addr) (pn : List (Addr × Obj)), Zc kl dd rc → (∃ cells, rc.data = .fields cells) → PSs (X.suite a ((a, rc) :: pn)) (first :: suite) (ts a kl dd)) :
    PS X (.Try body [.ExceptHandler (some (.Name x np)) (some n) (first :: suite) pos'] [] [] pos) (fun D st H => tb (wKeep X.K c i ts Wout D) D st H) where
  run := fun pins sh st H D iv want => by
    have fine := iv.ok
    have frames : X.A.frames = some (X.env :: X.outer) := by rw [fine.frames, stk]
    refine wpAny_Try_except (wpAny_mono ((inner (wKeep X.K c i ts Wout D) (X.pn ++ pins) _ (fun u sh' air => ?_) PassesOwn.looking).run [] sh st H D (iv.toTry _) want) ?_ fun _ _ e => e)
    · obtain ⟨a, B, shI, pins', st1, H1, kl, dd, rfl, ivT, inB, upTo, sky, freeA, sameOs, bareG, yes, dec, onYes, onNo⟩ := air
      have iv1 : Inv X pins st1 H1 shI := ivT.ofTry fine
      rw [stk] at sky
      refine Sky.land Zc.steady frames frm sky fun hp3 fly3 up3 => ?_
      have bNone : B.get? a = none := fly3.2.1
      have iv3 : Inv X pins st1 H1 { sh' with heap := hp3 } := iv1.landed inB fly3.1 (upTo.trans up3) sameOs bareG
      obtain ⟨rc3, cells3, at3, zc3, dt3⟩ := fly3.there
      have offFrames : a ∉ frs (X.env :: X.outer) := fun mem => by
        obtain ⟨_, r2, e2, bad⟩ := fly3.2.2.1.mem mem
        rw [at3] at e2
        cases e2
        exact bad _ dt3
      have offL : a ≠ X.env.locals := fun z => offFrames (List.mem_filterMap.mpr ⟨X.env, List.mem_cons_self, by rw [frm, z]⟩)
      have offF : a ∉ X.fs := fun mem => by
        obtain ⟨ee, inn, ef⟩ := List.mem_filterMap.mp mem
        exact offFrames (List.mem_filterMap.mpr ⟨ee, List.mem_cons_of_mem _ inn, ef⟩)
      have notThere : shI.heap.get? a = none := by
        cases e : shI.heap.get? a with
        | none => rfl
        | some rr =>
          have z := inB a rr e (by rw [stk]; exact offFrames)
          rw [bNone] at z
          cases z
      have new0 : X.s_0.heap.get? a = none := by
        cases e : X.s_0.heap.get? a with
        | none => rfl
        | some rr =>
          obtain ⟨r2, e2⟩ := iv1.base.there a rr e (by rw [noex]; exact List.not_mem_nil)
          rw [notThere] at e2
          cases e2
      have pinsOff : ∀ p ∈ X.pn ++ pins, p.1 ≠ a := fun p hp z => by
        have e2 := (iv1.pin p hp).1
        rw [z, notThere] at e2
        cases e2
      have inSuite := iv3.suite at3 dt3 freeA offL offF
      refine wpAny_handleBy_cons (codeAny_handlers_test ?_) (by intro q; cases q)
      have theClass : PySem.W.Looks (model X.prog X.w) hp3 (typeOf (.ref a)) kl := fun A' Q' E' s' kk qq => wpAny_typeOf_ref (kk _ _ at3) (by rw [zc3.1]; exact qq)
      have theTest := PySem.W.exm_one (M := model X.prog X.w) iv3.kIn theClass dec
      have clause : ∀ {Q' : Value → Shared → Prop} {E' : Value → Shared → Prop}, Q' c { sh' with heap := hp3 } → wpAny (model X.prog X.w) (X.A.mark (some (.ref a))) (eval (.Name x np) X.env) Q' E' { sh' with heap := hp3 } := fun {Q' E'} qq => by
        obtain ⟨g1, g2, g3 | ⟨g3, g4, g5⟩⟩ := nam
        · exact ld_glob (X := X.suite a ((a, rc3) :: (X.pn ++ pins))) inSuite g1 g3 qq g2
        · exact ld_blt (X := X.suite a ((a, rc3) :: (X.pn ++ pins))) inSuite g1 g3 g4 qq g5 g2
      refine clause (theTest.here ?_)
      cases yes with
      | true =>
        obtain ⟨rfl, go⟩ := onYes rfl
        refine codeAny_handlers_suite_as (HandSPX.lands_againZ fly3 fun hp4 fly4 up4 => ?_)
        have iv4 : Inv X pins st1 H1 { sh' with heap := hp4 } := iv1.landed inB fly4.1 ((upTo.trans up3).trans up4) sameOs bareG
        obtain ⟨rc4, cells4, at4, zc4, dt4⟩ := fly4.there
        refine store_ok (X := X.suite a ((a, rc4) :: (X.pn ++ pins))) (v := .ref a) (iv4.suite at4 dt4 freeA offL offF) dist slot (.inl loc) rfl (fun sh5 iv5 => ?_) (.inr loc)
        refine wpAny_mono ((caught a rc4 kl none (X.pn ++ pins) zc4 ⟨_, dt4⟩).run [] sh5 _ H1 _ iv5 (go a freeA)) (fun flow sh6 came => ?_) fun _ _ z => z.elim
        cases flow with
        | next =>
          obtain ⟨st6, H6, iv6, q6⟩ := came
          have more : Inv X ((a, rc4) :: pins) st6 H6 sh6 := ⟨fine, iv6.os, iv6.bare, iv6.base, iv6.loc, iv6.cell, iv6.free, iv6.freeC, fun p hp => iv6.pin p (List.mem_append_left _ ?_), iv6.hok, iv6.len⟩
          refine gone_ok more dist slot loc fun sh7 iv7 => ?_
          have there : (a, rc4) ∈ X.pn ++ (a, rc4) :: pins := List.mem_append_right _ List.mem_cons_self
          obtain ⟨e1, e2, e3, _⟩ := iv7.pin (a, rc4) there
          have less : Inv X pins (st6.set i none) H6 sh7 := ⟨fine, iv7.os, iv7.bare, iv7.base, iv7.loc, iv7.cell, iv7.free, iv7.freeC, fun p hp => iv7.pin p ?_, iv7.hok, iv7.len⟩
          · exact ⟨_, _, less.adopt new0 e2 e1 zc4 dt4 e3 pinsOff, q6⟩
          · rcases List.mem_append.mp hp with hq | hq
            · exact List.mem_append_left _ hq
            · exact List.mem_append_right _ (List.mem_cons_of_mem _ hq)
          · rcases List.mem_append.mp hp with hq | hq
            · exact List.mem_cons_of_mem _ (List.mem_append_left _ hq)
            · rcases List.mem_cons.mp hq with hr | hr
              · rw [hr]; exact List.mem_cons_self
              · exact List.mem_cons_of_mem _ (List.mem_append_right _ hr)
        | brk =>
          obtain ⟨st6, H6, iv6, q6⟩ := came
          exact gone_ok (iv6.unsuite fine) dist slot loc fun sh7 iv7 => ⟨_, _, iv7, q6⟩
        | cont =>
          obtain ⟨st6, H6, iv6, q6⟩ := came
          exact gone_ok (iv6.unsuite fine) dist slot loc fun sh7 iv7 => ⟨_, _, iv7, q6⟩
        | ret u =>
          obtain ⟨v6, st6, H6, iv6, r6, q6⟩ := came
          exact gone_ok (iv6.unsuite fine) dist slot loc fun sh7 iv7 => ⟨_, _, _, iv7, r6, q6⟩
      | false =>
        show wpAny _ X.A (handleBy (.ref a) X.env []) _ _ _
        refine wpAny_handleBy_nil ?_
        obtain ⟨_, _, _, rc5, cells5, tr5, _, _, at5, _, dt5, at1, _⟩ := id fly3
        unfold PySem.passOn
        refine wpAny_bind (wpAny_field at5 dt5 at1 ?_)
        rw [if_neg (by simp : ¬ (Value.ref tr5 == Value.none) = true)]
        have out : wpAny (model X.prog X.w) X.A (setFlight (.ref a) X.env.frame) (fun _ sh8 => wpAny (model X.prog X.w) X.A (throw (.ref a) : Sem Flow) (SP X pins D) X.xe sh8) X.xe { sh' with heap := hp3 } := by
          rw [frm]
          refine HandSPX.setFlight_upZ fly3 fun hp8 held up8 => wpAny_throw (tk _ _ ?_)
          exact ⟨a, B, shI, pins, st1, H1, kl, dd, rfl, iv1, inB, (upTo.trans up3).trans up8, .inr (.inr (by rw [stk]; exact held)), freeA, sameOs, bareG, onNo rfl⟩
        first
          | exact wpAny_bind out
          | exact wpAny_bind (wpAny_pure (wpAny_bind out))
    · intro flow sh1 came
      cases flow with
      | next =>
        obtain ⟨st1, H1, iv1, q1⟩ := came
        exact wpAny_execs_nil ⟨st1, H1, iv1.ofTry fine, q1⟩
      | brk =>
        obtain ⟨st1, H1, iv1, q1⟩ := came
        exact ⟨st1, H1, iv1.ofTry fine, q1⟩
      | cont =>
        obtain ⟨st1, H1, iv1, q1⟩ := came
        exact ⟨st1, H1, iv1.ofTry fine, q1⟩
      | ret u =>
        obtain ⟨v1, st1, H1, iv1, r1, q1⟩ := came
        exact ⟨v1, st1, H1, iv1.ofTry fine, r1, q1⟩
end
end L2
namespace L2
open PySem PySem.Spec PyProof.Rows
/-- what the written part says of an error class, for isinstance -/
structure ErrC (K : PySem.W.Frag) (C : Addr) : Prop where
  cl : (PySem.W.clsIn K C).isSome = true
  ga : PySem.W.findIn K (.ref C) "__getattribute__" = some (some (.builtin "BaseException.__getattribute__"))
  gg : PySem.W.findIn K (.ref C) "__getattr__" = some none
  sb : PySem.W.subIn K (.ref C) (.type "BaseException") = some true
  cn : PySem.W.findIn K (.ref C) "__class__" = some (some (.builtin "object.__class__"))
  mo : PySem.W.mroIn K C (.type "object") = some true
/-- .. of the attribute __class__ of all objects -/
structure ErrG (K : PySem.W.Frag) : Prop where
  sp : PySem.W.specialIn K (.builtin "object.__class__") "__get__" = some (some (.builtin "getset_descriptor.__get__"))
  tk : PySem.W.takesIn K (.builtin "object.__class__") = some true
def rIsKept (K : PySem.W.Frag) : List V → Hp → VK → Prop := fun xs H Q => ∃ (a C : Addr) (c : V) (cv : Value) (b : Bool), xs = [.ref a, c] ∧ ClsV c cv ∧ H a = some (ExK (.ref C) a) ∧ ErrC K C ∧ ErrG K ∧ PySem.W.kitOne K (.ref C) cv = some b ∧ Q (.bl b) H
theorem call_isKept {X : Cx} : CallR X (.builtin "isinstance") (rIsKept X.K) := by
  intro pins sh st H xs us Q iv r h
  obtain ⟨a, C, c, cv, b, rfl, k, at', T, G, e, q⟩ := h
  obtain ⟨u1, u2, rfl, r1, r2⟩ := vals2 r
  have e2 := k.eq r2
  subst e2
  obtain rfl : u1 = Value.ref a := r1
  obtain ⟨⟨oe, vs, ho, hz, hd⟩, _, _⟩ := iv.hok a _ at'
  have J : PySem.W.InstAt sh.heap a oe C none := by
    obtain ⟨oc, od, oda, osl⟩ := oe
    obtain ⟨h1, h2⟩ := hz
    dsimp only at h1 h2 hd
    subst h1 h2 hd
    exact ⟨ho, rfl, rfl, trivial⟩
  exact PySem.W.kia_one (PySem.W.kitx_exc T.cl T.ga T.gg T.sb T.cn G.sp G.tk T.mo) iv.kIn J e (fun z => nomatch z) fun tk => ⟨.bl b, H, iv.tok tk, rfl, q⟩
end L2
namespace L2
open PySem PySem.Spec PyProof.Rows
/-- a def of which any kind of error may come -/
theorem Fun.okAny {CX' : CXT} {P : Program} {w : World} {K : PySem.W.Frag} {mg : Str → Option Value} {base : Heap} {nm qu : Str} {row : Stmt} {at0 : Addr} {fd : FuncData} {names pars : List Str} {lev : Nat} {want : Sp} (F : Fun K nm qu row at0 fd) (S : FnScope names pars (defScope row)) (len : ∀ vs H Q E, want vs H Q E → vs.length = pars.length)
    (body : ∀ (code : Value) (A : Around) (outer : List Env) (sh : Shared) (H : Hp) (vs : List V) (Q : VK) (E : XK), Room lev (A.deeper (envOfC qu (defScope row) sh.heap.objs.size at0 code)) → want vs H Q E →
      ∃ t, PSs (cxOf CX' P w K mg base names qu (defScope row) at0 code A outer sh H E) (defBody row) t ∧ t { nx := fun _ H' => Q .non H', rt := Q } (start names vs) H) : FnOk P w K mg base CX' (lev + 1) at0 fd pars want := by
  obtain ⟨_, _, _, _, _, _, code, _, _, rfl, there, isCode⟩ := F.ex
  exact fn_of there isCode S len (body code)
/-- X('..') of an own class, for a raise .. from None -/
theorem pmk5_own {X : Cx} {C : Addr} {bmB : List Value} {B newId initId : String} {x m : Str} {j : Nat} {p p2 pos : Pos} (F : ExcBaseFacts B newId initId bmB) (q : PySem.W.excIn X.K C bmB newId = true) (gC : X.mg x = some (.ref C)) (kC : PySem.W.keepIn X.K (.ref C) = true) (r : Raises X (.ref C)) (hg : Gl X x)
    (plain : (x == ("__debug__" : Str)) = false := by decide) : L2H.PMk5 X (.Call (.Name x p) [.Constant (.str m) j p2] [] pos) (fun _ H Q => Q (.ref C) none H) := by
  intro pins sh st H Q iv want
  have arg : PA X [.Constant (.str m) j p2] (tCons (tC (.str m)) tNil) := pa_cons pe_str pa_nil
  refine wpAny_Call_Name_kw (ld_glob iv hg gC (PySem.W.callWith_K (h₀ := X.base) iv.ok.mod.kin kC (thn (arg.run pos pins sh st H (fun vs H1 => vs = [V.str m] ∧ H = H1) iv ⟨rfl, rfl⟩) ?_)) plain)
  rintro us sh1 ⟨vs, H1, iv1, rel, rfl, rfl⟩
  refine ⟨iv1.kIn, ?_⟩
  match us, rel with
  | [u], .cons _ .nil =>
    show wpAny _ _ (call (.ref C) [u]) _ _ _
    obtain ⟨_, _, _, _, _, _, _, _, _, _, _, _, _, _, _, _, _, hC, hN, hni, T⟩ := exc_obj iv1.kIn q
    exact wpAny_call_exc_subT F T hC hN hni (fun h' e made => L2H.mk_of5 iv1 made r want (iv1.hok.gone made.new)) (by show 1 ≤ sizeLine; decide)
/-- try: .. except x: suite, the suite raising: ps_try_onlyX with its reading under a name, for a loop around it -/
def tTryX (K : PySem.W.Frag) (c : Value) (ts : Addr → Value → Option Addr → TS) (Wout : WX) (tb : WX → TS) : TS := fun D st H => tb (wOnly K c ts Wout D) D st H
theorem ps_tryX {X : Cx} {x : Str} {c : Value} {body suite : List Stmt} {first : Stmt} {np pos pos' : Pos} {tb : WX → TS} {ts : Addr → Value → Option Addr → TS} {Wout : WX} (h1 : X.stack = X.env :: X.outer) (h2 : X.env.frame = some X.env.locals) (h3 : Names X x c)
    (h4 : ∀ hd : Option Value, PassesOwnAt (model X.prog X.w) (X.A.mark hd) X.A X.env X.xe) (h5 : L2.Takes X Wout)
    (h6 : ∀ (W : WX) (pn : List (Addr × Obj)) (xe : Value → Shared → Prop), L2N.Takes (X.tr pn xe) W → L2.Takes (X.tr pn xe) (L2H.wPass X.K c Wout) → PassesOwn (model X.prog X.w) X.A X.env xe → PSs (X.tr pn xe) body (tb W))
    (h7 : ∀ (a : Addr) (oe : Obj) (cls : Value) (d : Option Addr) (pn : List (Addr × Obj)), L2N.Zn cls d oe → (∃ vs, oe.data = .fields vs) → L2.Takes (L2H.suiteX X a ((a, oe) :: pn)) Wout → L2H.HotC (L2H.suiteX X a ((a, oe) :: pn)) → PSs (L2H.suiteX X a ((a, oe) :: pn)) (first :: suite) (ts a cls d)) :
    PS X (.Try body [.ExceptHandler (some (.Name x np)) none (first :: suite) pos'] [] [] pos) (tTryX X.K c ts Wout tb) := L2H.ps_try_onlyX h1 h2 h3 h4 h5 h6 h7
end L2
namespace HT
open PySem L2
def top (i : Nat) : Stmt := PySem.Challenge.pw_handedtext_k56_whole_each_once.main.body.getD i (.Pass ⟨0, 0, 0, 0⟩)
abbrev s_is_int : Stmt := top 9
abbrev s_is_int_between : Stmt := top 10
abbrev s_check_value : Stmt := top 11
abbrev s_check_side : Stmt := top 15
abbrev s_is_side : Stmt := top 16
abbrev s_figure_of : Stmt := top 17
abbrev s_figure : Stmt := top 18
abbrev s_goes_up : Stmt := top 19
abbrev s_written : Stmt := top 20
abbrev s_stands : Stmt := top 21
abbrev s_span : Stmt := top 22
abbrev s_uspan : Stmt := top 23
abbrev s_below : Stmt := top 24
abbrev s_threshold : Stmt := top 25
abbrev s_check_sides : Stmt := top 29
abbrev s_period_of : Stmt := top 30
abbrev s_common_period : Stmt := top 31
abbrev s_once : Stmt := top 34
abbrev s_order_matters : Stmt := top 35
abbrev s_orders : Stmt := top 36
abbrev s_ends : Stmt := top 37
abbrev s_exchange : Stmt := top 39
abbrev s_first_at : Stmt := top 40
abbrev s_along : Stmt := top 42
abbrev s_check_numbers : Stmt := top 43
abbrev s_L_source : Stmt := top 45
abbrev s_L_draw : Stmt := top 46
abbrev s_L_pick : Stmt := top 47
abbrev s_L_divisor : Stmt := top 48
abbrev s_L_great : Stmt := top 49
abbrev s_L_small_side : Stmt := top 50
abbrev s_L_figure : Stmt := top 51
abbrev s_L_handed : Stmt := top 52
abbrev s_L_period : Stmt := top 53
abbrev s_L_set : Stmt := top 54
abbrev s_L_orders : Stmt := top 55
abbrev s_L_due : Stmt := top 56
abbrev s_L_matters : Stmt := top 57
abbrev s_L_word : Stmt := top 58
abbrev s_L_fits : Stmt := top 59
abbrev s_law : Stmt := top 60
/- is_int: 0:thing -/
theorem sc_is_int : FnScope ["thing"] ["thing"] (defScope s_is_int) := ⟨rfl, rfl, rfl, by decide +kernel, rfl, by decide +kernel, by decide +kernel⟩
/- is_int_between: 0:thing 1:least 2:most -/
theorem sc_is_int_between : FnScope ["thing", "least", "most"] ["thing", "least", "most"] (defScope s_is_int_between) := ⟨rfl, rfl, rfl, by decide +kernel, rfl, by decide +kernel, by decide +kernel⟩
/- check_value: 0:value -/
theorem sc_check_value : FnScope ["value"] ["value"] (defScope s_check_value) := ⟨rfl, rfl, rfl, by decide +kernel, rfl, by decide +kernel, by decide +kernel⟩
/- check_side: 0:side 1:offset 2:step 3:mode -/
theorem sc_check_side : FnScope ["side", "offset", "step", "mode"] ["side"] (defScope s_check_side) := ⟨rfl, rfl, rfl, by decide +kernel, rfl, by decide +kernel, by decide +kernel⟩
/- is_side: 0:thing -/
theorem sc_is_side : FnScope ["thing"] ["thing"] (defScope s_is_side) := ⟨rfl, rfl, rfl, by decide +kernel, rfl, by decide +kernel, by decide +kernel⟩
/- figure_of: 0:side 1:value -/
theorem sc_figure_of : FnScope ["side", "value"] ["side", "value"] (defScope s_figure_of) := ⟨rfl, rfl, rfl, by decide +kernel, rfl, by decide +kernel, by decide +kernel⟩
/- _figure: 0:side 1:value 2:offset 3:step 4:mode 5:figure 6:rest -/
theorem sc_figure : FnScope ["side", "value", "offset", "step", "mode", "figure", "rest"] ["side", "value"] (defScope s_figure) := ⟨rfl, rfl, rfl, by decide +kernel, rfl, by decide +kernel, by decide +kernel⟩
/- _goes_up: 0:mode 1:step 2:figure 3:rest -/
theorem sc_goes_up : FnScope ["mode", "step", "figure", "rest"] ["mode", "step", "figure", "rest"] (defScope s_goes_up) := ⟨rfl, rfl, rfl, by decide +kernel, rfl, by decide +kernel, by decide +kernel⟩
/- written: 0:side 1:value 2:offset 3:step 4:_ -/
theorem sc_written : FnScope ["side", "value", "offset", "step", "_"] ["side", "value"] (defScope s_written) := ⟨rfl, rfl, rfl, by decide +kernel, rfl, by decide +kernel, by decide +kernel⟩
/- stands: 0:side 1:value 2:offset 3:step 4:_ -/
theorem sc_stands : FnScope ["side", "value", "offset", "step", "_"] ["side", "value"] (defScope s_stands) := ⟨rfl, rfl, rfl, by decide +kernel, rfl, by decide +kernel, by decide +kernel⟩
/- span: 0:side 1:figure -/
theorem sc_span : FnScope ["side", "figure"] ["side", "figure"] (defScope s_span) := ⟨rfl, rfl, rfl, by decide +kernel, rfl, by decide +kernel, by decide +kernel⟩
/- _span: 0:side 1:figure 2:offset 3:step 4:mode 5:value -/
theorem sc_uspan : FnScope ["side", "figure", "offset", "step", "mode", "value"] ["side", "figure"] (defScope s_uspan) := ⟨rfl, rfl, rfl, by decide +kernel, rfl, by decide +kernel, by decide +kernel⟩
/- _below: 0:mode 1:step 2:figure -/
theorem sc_below : FnScope ["mode", "step", "figure"] ["mode", "step", "figure"] (defScope s_below) := ⟨rfl, rfl, rfl, by decide +kernel, rfl, by decide +kernel, by decide +kernel⟩
/- threshold: 0:side 1:value 2:offset 3:step 4:mode 5:figure -/
theorem sc_threshold : FnScope ["side", "value", "offset", "step", "mode", "figure"] ["side", "value"] (defScope s_threshold) := ⟨rfl, rfl, rfl, by decide +kernel, rfl, by decide +kernel, by decide +kernel⟩
/- check_sides: 0:sides 1:side -/
theorem sc_check_sides : FnScope ["sides", "side"] ["sides"] (defScope s_check_sides) := ⟨rfl, rfl, rfl, by decide +kernel, rfl, by decide +kernel, by decide +kernel⟩
/- period_of: 0:side 1:_ 2:step 3:mode -/
theorem sc_period_of : FnScope ["side", "_", "step", "mode"] ["side"] (defScope s_period_of) := ⟨rfl, rfl, rfl, by decide +kernel, rfl, by decide +kernel, by decide +kernel⟩
/- common_period: 0:sides 1:many 2:side -/
theorem sc_common_period : FnScope ["sides", "many", "side"] ["sides"] (defScope s_common_period) := ⟨rfl, rfl, rfl, by decide +kernel, rfl, by decide +kernel, by decide +kernel⟩
/- once: 0:sides 1:value 2:ends 3:end -/
theorem sc_once : FnScope ["sides", "value", "ends", "end"] ["sides", "value"] (defScope s_once) := ⟨rfl, rfl, rfl, by decide +kernel, rfl, by decide +kernel, by decide +kernel⟩
/- order_matters: 0:sides 1:value 2:many 3:orders 4:start -/
theorem sc_order_matters : FnScope ["sides", "value", "many", "orders", "start"] ["sides", "value"] (defScope s_order_matters) := ⟨rfl, rfl, rfl, by decide +kernel, rfl, by decide +kernel, by decide +kernel⟩
/- _orders: 0:many 1:orders 2:_ 3:order 4:number -/
theorem sc_orders : FnScope ["many", "orders", "_", "order", "number"] ["many"] (defScope s_orders) := ⟨rfl, rfl, rfl, by decide +kernel, rfl, by decide +kernel, by decide +kernel⟩
/- _ends: 0:sides 1:orders 2:value 3:ends 4:order 5:end 6:number -/
theorem sc_ends : FnScope ["sides", "orders", "value", "ends", "order", "end", "number"] ["sides", "orders", "value"] (defScope s_ends) := ⟨rfl, rfl, rfl, by decide +kernel, rfl, by decide +kernel, by decide +kernel⟩
/- exchange: 0:first 1:second 2:value 3:wide 4:narrow 5:figure 6:near 7:found -/
theorem sc_exchange : FnScope ["first", "second", "value", "wide", "narrow", "figure", "near", "found"] ["first", "second", "value"] (defScope s_exchange) := ⟨rfl, rfl, rfl, by decide +kernel, rfl, by decide +kernel, by decide +kernel⟩
/- _first_at: 0:wide 1:narrow 2:figure 3:value 4:least 5:greatest 6:start 7:offset 8:step 9:_ -/
theorem sc_first_at : FnScope ["wide", "narrow", "figure", "value", "least", "greatest", "start", "offset", "step", "_"] ["wide", "narrow", "figure", "value"] (defScope s_first_at) := ⟨rfl, rfl, rfl, by decide +kernel, rfl, by decide +kernel, by decide +kernel⟩
/- along: 0:sides 1:numbers 2:value 3:values 4:here 5:number -/
theorem sc_along : FnScope ["sides", "numbers", "value", "values", "here", "number"] ["sides", "numbers", "value"] (defScope s_along) := ⟨rfl, rfl, rfl, by decide +kernel, rfl, by decide +kernel, by decide +kernel⟩
/- _check_numbers: 0:numbers 1:many 2:number -/
theorem sc_check_numbers : FnScope ["numbers", "many", "number"] ["numbers", "many"] (defScope s_check_numbers) := ⟨rfl, rfl, rfl, by decide +kernel, rfl, by decide +kernel, by decide +kernel⟩
/- _law_source: 0:_law_script 1:_law_cells 2:_law_k -/
theorem sc_L_source : FnScope ["_law_script", "_law_cells", "_law_k"] ["_law_script"] (defScope s_L_source) := ⟨rfl, rfl, rfl, by decide +kernel, rfl, by decide +kernel, by decide +kernel⟩
/- _law_draw: 0:_law_source_here 1:_law_limit 2:_law_cells 3:_law_turn 4:_law_place 5:_law_cell 6:_law_number -/
theorem sc_L_draw : FnScope ["_law_source_here", "_law_limit", "_law_cells", "_law_turn", "_law_place", "_law_cell", "_law_number"] ["_law_source_here", "_law_limit"] (defScope s_L_draw) := ⟨rfl, rfl, rfl, by decide +kernel, rfl, by decide +kernel, by decide +kernel⟩
/- _law_pick: 0:_law_source_here 1:_law_values -/
theorem sc_L_pick : FnScope ["_law_source_here", "_law_values"] ["_law_source_here", "_law_values"] (defScope s_L_pick) := ⟨rfl, rfl, rfl, by decide +kernel, rfl, by decide +kernel, by decide +kernel⟩
/- _law_divisor: 0:_law_one 1:_law_other -/
theorem sc_L_divisor : FnScope ["_law_one", "_law_other"] ["_law_one", "_law_other"] (defScope s_L_divisor) := ⟨rfl, rfl, rfl, by decide +kernel, rfl, by decide +kernel, by decide +kernel⟩
/- _law_great: 0:_law_source_here 1:_law_digits 2:_law_number 3:_law_k -/
theorem sc_L_great : FnScope ["_law_source_here", "_law_digits", "_law_number", "_law_k"] ["_law_source_here", "_law_digits"] (defScope s_L_great) := ⟨rfl, rfl, rfl, by decide +kernel, rfl, by decide +kernel, by decide +kernel⟩
/- _law_small_side: 0:_law_source_here 1:_law_most 2:_law_offset -/
theorem sc_L_small_side : FnScope ["_law_source_here", "_law_most", "_law_offset"] ["_law_source_here", "_law_most"] (defScope s_L_small_side) := ⟨rfl, rfl, rfl, by decide +kernel, rfl, by decide +kernel, by decide +kernel⟩
/- _law_figure: 0:_law_side 1:_law_value 2:_law_offset 3:_law_step 4:_law_mode 5:_law_low 6:_law_rest -/
theorem sc_L_figure : FnScope ["_law_side", "_law_value", "_law_offset", "_law_step", "_law_mode", "_law_low", "_law_rest"] ["_law_side", "_law_value"] (defScope s_L_figure) := ⟨rfl, rfl, rfl, by decide +kernel, rfl, by decide +kernel, by decide +kernel⟩
/- _law_handed: 0:_law_side 1:_law_value -/
theorem sc_L_handed : FnScope ["_law_side", "_law_value"] ["_law_side", "_law_value"] (defScope s_L_handed) := ⟨rfl, rfl, rfl, by decide +kernel, rfl, by decide +kernel, by decide +kernel⟩
/- _law_period: 0:_law_sides 1:_law_period_here 2:_law_offset 3:_law_step 4:_law_mode 5:_law_length -/
theorem sc_L_period : FnScope ["_law_sides", "_law_period_here", "_law_offset", "_law_step", "_law_mode", "_law_length"] ["_law_sides"] (defScope s_L_period) := ⟨rfl, rfl, rfl, by decide +kernel, rfl, by decide +kernel, by decide +kernel⟩
/- _law_set: 0:_law_source_here 1:_law_most 2:_law_many 3:_law_k -/
theorem sc_L_set : FnScope ["_law_source_here", "_law_most", "_law_many", "_law_k"] ["_law_source_here", "_law_most", "_law_many"] (defScope s_L_set) := ⟨rfl, rfl, rfl, by decide +kernel, rfl, by decide +kernel, by decide +kernel⟩
/- _law_orders: 0:_law_left 1:_law_found 2:_law_number 3:_law_one 4:_law_rest -/
theorem sc_L_orders : FnScope ["_law_left", "_law_found", "_law_number", "_law_one", "_law_rest"] ["_law_left"] (defScope s_L_orders) := ⟨rfl, rfl, rfl, by decide +kernel, rfl, by decide +kernel, by decide +kernel⟩
/- _law_due: 0:_law_sides 1:_law_value 2:_law_found 3:_law_order 4:_law_end 5:_law_number -/
theorem sc_L_due : FnScope ["_law_sides", "_law_value", "_law_found", "_law_order", "_law_end", "_law_number"] ["_law_sides", "_law_value"] (defScope s_L_due) := ⟨rfl, rfl, rfl, by decide +kernel, rfl, by decide +kernel, by decide +kernel⟩
/- _law_matters: 0:_law_sides 1:_law_value 2:_law_other -/
theorem sc_L_matters : FnScope ["_law_sides", "_law_value", "_law_other"] ["_law_sides", "_law_value"] (defScope s_L_matters) := ⟨rfl, rfl, rfl, by decide +kernel, rfl, by decide +kernel, by decide +kernel⟩
/- _law_word: 0:_law_sides 1:_law_value 2:_law_caught 3:_law_found 4:e -/
theorem sc_L_word : FnScope ["_law_sides", "_law_value", "_law_caught", "_law_found", "e"] ["_law_sides", "_law_value"] (defScope s_L_word) := ⟨rfl, rfl, rfl, by decide +kernel, rfl, by decide +kernel, by decide +kernel⟩
/- _law_fits: 0:_law_source_here 1:_law_sides 2:_law_factor 3:_law_one 4:_law_lifted 5:_law_k 6:_law_value 7:_law_due_here 8:_law_kept 9:_law_found 10:_law_end 11:_law_order -/
theorem sc_L_fits : FnScope ["_law_source_here", "_law_sides", "_law_factor", "_law_one", "_law_lifted", "_law_k", "_law_value", "_law_due_here", "_law_kept", "_law_found", "_law_end", "_law_order"] ["_law_source_here", "_law_sides", "_law_factor"] (defScope s_L_fits) := ⟨rfl, rfl, rfl, by decide +kernel, rfl, by decide +kernel, by decide +kernel⟩
/- law: 0:_law_script 1:_law_source_here 2:_law_turn 3:_law_sides 4:_law_value 5:_law_kept 6:_law_pair 7:_law_three 8:_law_ups -/
theorem sc_law : FnScope ["_law_script", "_law_source_here", "_law_turn", "_law_sides", "_law_value", "_law_kept", "_law_pair", "_law_three", "_law_ups"] ["_law_script"] (defScope s_law) := ⟨rfl, rfl, rfl, by decide +kernel, rfl, by decide +kernel, by decide +kernel⟩

end HT
namespace L2
open PySem PySem.Spec PyProof.Rows
/-- powers of great numbers -/
def CPowW (i j : Int) : Prop := 0 ≤ j ∧ (Builtin.Int.intBits i : Int) * j ≤ 2 ^ 27
theorem op_powW {X : Cx} : OpR X (binaryOp .Pow) (rI CPowW fun i j => .int (i ^ j.toNat)) := opI fun _ _ _ _ _ _ _ hc q => pow_int hc.1 hc.2 q
end L2
namespace HT
open PySem L2
/-- the law's source of draws: a list of its cells' list and the turn -/
structure Src (H : Hp) (a c : Addr) (t : Nat) : Prop where
  ne : a ≠ c
  ob : H a = some (.lst [.ref c, .int (t : Int)])
  cl : ∃ cs : List Int, H c = some (.lst (cs.map V.int)) ∧ 0 < cs.length ∧ cs.length ≤ 63
/-- nothing else is touched -/
def Oth (a c : Addr) (H H' : Hp) : Prop := ∀ b o, H b = some o → b ≠ a → b ≠ c → H' b = some o
theorem Oth.refl (a c : Addr) (H : Hp) : Oth a c H H := fun _ _ h _ _ => h
theorem Oth.trans {a c : Addr} {H H1 H2 : Hp} (x : Oth a c H H1) (y : Oth a c H1 H2) : Oth a c H H2 := fun b o h n m => y b o (x b o h n m) n m
theorem Oth.new {a c p : Addr} {H H1 : Hp} {o : HO} (x : Oth a c H H1) (n : H1 p = none) : Oth a c H (upd H1 p o) := fun b u h na nc => by
  rw [upd_ne (ne_of_none (x b u h na nc) n)]
  exact x b u h na nc
theorem Src.new {a c p : Addr} {H : Hp} {t : Nat} {o : HO} (S : Src H a c t) (n : H p = none) : Src (upd H p o) a c t := by
  obtain ⟨cs, h, l⟩ := S.cl
  exact ⟨S.ne, by rw [upd_ne (ne_of_none S.ob n)]; exact S.ob, cs, by rw [upd_ne (ne_of_none h n)]; exact h, l⟩
theorem Src.of_same {a c : Addr} {H H' : Hp} {t : Nat} (S : Src H a c t) (e : Same H H') : Src H' a c t := by
  obtain ⟨cs, h, l⟩ := S.cl
  exact ⟨S.ne, e _ _ S.ob, cs, e _ _ h, l⟩
theorem Src.na {a c p : Addr} {H : Hp} {t : Nat} (S : Src H a c t) (n : H p = none) : p ≠ a ∧ p ≠ c := by
  obtain ⟨cs, h, l⟩ := S.cl
  exact ⟨(ne_of_none S.ob n).symm, (ne_of_none h n).symm⟩
theorem Src.nt {a c p : Addr} {H : Hp} {t : Nat} {xs : List V} (S : Src H a c t) (n : H p = some (.tup xs)) : p ≠ a ∧ p ≠ c := by
  obtain ⟨cs, h, l⟩ := S.cl
  exact ⟨ne_of n S.ob (by intro z; cases z), ne_of n h (by intro z; cases z)⟩
def spSource (K : PySem.W.Frag) : Sp := fun vs H Q _ => ∃ (l : Addr) (ns : List Int), vs = [.ref l] ∧ SqL K H l (ns.map V.int) ∧ ns.length ≤ 63 ∧
  ∀ a c H', Same H H' → H a = none → H c = none → Src H' a c 0 → Q (.ref a) H'
def spDraw : Sp := fun vs H Q _ => ∃ (a c : Addr) (t : Nat) (lim : Int), vs = [.ref a, .int lim] ∧ Src H a c t ∧ t < 2 ^ 30 ∧ 0 < lim ∧ lim.natAbs.log2 < 9000 ∧
  ∀ k H', 0 ≤ k → k < lim → Src H' a c (t + 1) → Oth a c H H' → Q (.int k) H'
/-- what the walk asks of the names that the text does not bind -/
structure Blt (mg : Str → Option Value) : Prop where
  len : mg "len" = none
  abs : mg "abs" = none
  int : mg "int" = none
  range : mg "range" = none
section
variable {P : Program} {w : World} {K : PySem.W.Frag} {mg : Str → Option Value} {base : Heap}
theorem fdiv_ok (i : Int) {j : Int} (h : 0 < j) (h9 : j.natAbs.log2 < 9000) : CDivW i j := ⟨h, h9⟩
theorem atI_in {xs : List Int} {i : Int} (h0 : 0 ≤ i) (h : i < (xs.length : Int)) : atI (xs.map V.int) i = some (.int (xs.getD i.toNat 0)) := by
  have e : ixN (xs.map V.int).length i = some i.toNat := by
    unfold ixN
    rw [List.length_map, if_pos h0, if_pos h]
  unfold atI
  rw [e]
  show (xs.map V.int)[i.toNat]? = _
  have hl : i.toNat < xs.length := by omega
  rw [List.getElem?_map, List.getElem?_eq_getElem hl, List.getD_eq_getElem?_getD, List.getElem?_eq_getElem hl]
  rfl
theorem ixN_in {n : Nat} {i : Int} (h0 : 0 ≤ i) (h : i < (n : Int)) : ixN n i = some i.toNat := by
  unfold ixN
  rw [if_pos h0, if_pos h]
theorem b_mod (x : Int) : -(2 ^ 64) < x % 2147483629 ∧ x % 2147483629 < 2 ^ 64 := by omega
theorem b_mod1 (x : Int) : -(2 ^ 64) < x % 2147483647 ∧ x % 2147483647 < 2 ^ 64 := by omega
theorem b_t {t : Nat} (h : t < 2 ^ 30) : -(2 ^ 64) < (t : Int) ∧ (t : Int) < 2 ^ 64 := by omega
theorem b_tt {t : Nat} (h : t < 2 ^ 30) : -(2 ^ 64) < (t : Int) * t ∧ (t : Int) * t < 2 ^ 64 := by
  have h1 : t * t < 2 ^ 30 * 2 ^ 30 := Nat.mul_lt_mul'' h h
  have h2 : ((t * t : Nat) : Int) = (t : Int) * t := Int.natCast_mul t t
  omega
theorem set_ints (xs : List Int) (j : Nat) (y : Int) : (xs.map V.int).set j (.int y) = (xs.set j y).map V.int := by
  rw [List.map_set]
theorem ok_draw {f : Addr} {fd : FuncData} (F : Fun K "_law_draw" "_law_draw" s_L_draw f fd) (B : Blt mg) : FnOk P w K mg base CX0 1 f fd ["_law_source_here", "_law_limit"] spDraw := by
  refine F.ok sc_L_draw (fun vs H Q E h => ?_) (fun cdv A outer s H vs Q E hr h => ?_)
  · obtain ⟨a, c, t, lim, rfl, _⟩ := h
    rfl
  · obtain ⟨a, c, t, lim, rfl, S, ht, hl0, hl9, q⟩ := h
    obtain ⟨cs, hc, hn0, hn⟩ := S.cl
    have nd := sc_L_draw.nd
    refine ⟨_, pss_cons (ps_asg (pv 0) (pg_unl (n := 2) (by rfl) (pgs_cons (pg_name (i := 2) nd rfl (Or.inl rfl)) (pgs_cons (pg_name (i := 3) nd rfl (Or.inl rfl)) pgs_nil))))
      (pss_cons (ps_set (i := 4) nd rfl (Or.inl rfl) (pe_op op_mod (pe_callTy call_int1 (by rfl) B.int (by decide +kernel) (pa_cons (pv 3) pa_nil)) (pe_callB call_len_seq (by rfl) B.len PySem.boot_len (pa_cons (pv 2) pa_nil))))
      (pss_cons (ps_set (i := 5) nd rfl (Or.inl rfl) (pe_ix ix_list (pv 2) (pv 4) (fun _ _ => rfl)))
      (pss_cons (ps_asg (pe_op op_add (pv 3) pe_int) (pg_sub (pv 0) pe_int set_list))
      (pss_cons (ps_if (pt_cmpR op_ge (pv 5) (pe_op op_pow pe_int pe_int) (nomark _))
        (pss_cons (ps_asg (pe_op op_fdivW (pv 5) (pv 1)) (pg_sub (pv 2) (pv 4) set_list))
          (pss_one (ps_ret (pe_op op_mod (pe_callTy call_int1 (by rfl) B.int (by decide +kernel) (pa_cons (pv 5) pa_nil)) (pv 1))))) pss_nil)
      (pss_cons (ps_set (i := 6) nd rfl (Or.inl rfl) (pe_op op_mod (pe_callTy call_int1 (by rfl) B.int (by decide +kernel) (pa_cons
          (pe_op op_add (pe_op op_add (pe_op op_mul (pe_op op_mod (pe_callTy call_int1 (by rfl) B.int (by decide +kernel) (pa_cons (pv 5) pa_nil)) pe_int) pe_int) (pe_op op_mul (pe_op op_mul (pv 3) (pv 3)) pe_int)) pe_int) pa_nil)) pe_int))
      (pss_cons (ps_set (i := 6) nd rfl (Or.inl rfl) (pe_op op_mod (pe_callTy call_int1 (by rfl) B.int (by decide +kernel) (pa_cons (pe_op op_mul (pv 6) (pv 6)) pa_nil)) pe_int))
      (pss_cons (ps_set (i := 6) nd rfl (Or.inl rfl) (pe_op op_mod (pe_callTy call_int1 (by rfl) B.int (by decide +kernel) (pa_cons (pe_op op_mul (pv 6) (pv 6)) pa_nil)) pe_int))
      (pss_one (ps_ret (pe_op op_mod (pe_callTy call_int1 (by rfl) B.int (by decide +kernel) (pa_cons (pv 6) pa_nil)) (pv 1))))))))))), ?_⟩
    -- _law_cells, _law_turn = _law_source_here
    walk_at "rd"
    refine ⟨a, _, rfl, SqL.of S.ob, rfl, _, _, rfl, _, _, rfl, rfl, ?_⟩
    -- _law_place
    walk_at "rd"
    have hn0' : (0 : Int) < ((cs.map V.int).length : Nat) := by rw [List.length_map]; omega
    refine ⟨c, _, rfl, .inl (SqL.of hc), _, _, rfl, rfl, hn0', ?_⟩
    have hp0 : 0 ≤ (t : Int) % ((cs.map V.int).length : Nat) := Int.emod_nonneg _ (by omega)
    have hp1 : (t : Int) % ((cs.map V.int).length : Nat) < ((cs.map V.int).length : Nat) := Int.emod_lt_of_pos _ hn0'
    have hp1' : (t : Int) % ((cs.map V.int).length : Nat) < (cs.length : Int) := by rw [List.length_map] at hp1 ⊢; exact hp1
    -- _law_cell
    walk_at "rd"
    refine ⟨c, _, _, _, rfl, rfl, SqL.of hc, atI_in hp0 hp1', ?_⟩
    -- _law_source_here[1] = _law_turn + 1
    walk_at "rd"
    refine ⟨a, _, 1, 1, rfl, rfl, S.ob, rfl, ?_⟩
    have S1 : Src (upd H a (.lst ([V.ref c, V.int t].set 1 (.int ((t : Int) + 1))))) a c (t + 1) := ⟨S.ne, by rw [upd_same]; rfl, cs, by rw [upd_ne S.ne.symm]; exact hc, hn0, hn⟩
    have O1 : Oth a c H (upd H a (.lst ([V.ref c, V.int t].set 1 (.int ((t : Int) + 1))))) := fun b o h na _ => by rw [upd_ne na]; exact h
    have hc1 : upd H a (.lst ([V.ref c, V.int t].set 1 (.int ((t : Int) + 1)))) c = some (.lst (cs.map V.int)) := by rw [upd_ne S.ne.symm]; exact hc
    generalize upd H a (.lst ([V.ref c, V.int t].set 1 (.int ((t : Int) + 1)))) = H1 at S1 O1 hc1 ⊢
    -- if _law_cell >= 10 ** 18
    walk_at "rd"
    refine ⟨⟨by decide, by decide, by decide⟩, ?_⟩
    walk_at "rd"
    refine ite2 (fun _ => ?_) (fun _ => ?_)
    · walk_at "rd"
      refine ⟨fdiv_ok _ hl0 hl9, ?_⟩
      walk_at "rd"
      refine ⟨c, _, _, _, rfl, rfl, hc1, ixN_in hp0 hp1, ?_⟩
      walk_at "rd"
      refine ⟨hl0, ?_⟩
      rw [set_ints]
      refine q _ _ (Int.emod_nonneg _ (by omega)) (Int.emod_lt_of_pos _ hl0) ⟨S1.ne, by rw [upd_ne S1.ne]; exact S1.ob, _, upd_same, by rw [List.length_set]; exact hn0, by rw [List.length_set]; exact hn⟩ fun b o h na nc => ?_
      rw [upd_ne nc]
      exact O1 b o h na nc
    · walk_at "rd"
      refine ⟨(by show (0 : Int) < 2147483629; decide), ?_⟩
      walk_at "rd"
      refine ⟨.inl (b_mod _), ?_⟩
      walk_at "rd"
      refine ⟨.inl (b_t ht), ?_⟩
      walk_at "rd"
      refine ⟨.inl (b_tt ht), ?_⟩
      walk_at "rd"
      refine ⟨(by show (0 : Int) < 2147483647; decide), ?_⟩
      walk_at "rd"
      refine ⟨.inl (b_mod1 _), ?_⟩
      walk_at "rd"
      refine ⟨(by show (0 : Int) < 2147483629; decide), ?_⟩
      walk_at "rd"
      refine ⟨.inl (b_mod _), ?_⟩
      walk_at "rd"
      refine ⟨(by show (0 : Int) < 2147483587; decide), ?_⟩
      walk_at "rd"
      refine ⟨hl0, ?_⟩
      exact q _ _ (Int.emod_nonneg _ (by omega)) (Int.emod_lt_of_pos _ hl0) S1 O1
end
end HT
namespace HT
open PySem L2
/-- a def of the text that may be called by its name, and what it promises -/
structure Cal (P : Program) (w : World) (K : PySem.W.Frag) (mg : Str → Option Value) (base : Heap) (x : Str) (k : Nat) (ps : List Str) (sp : Sp) (f : Addr) (fd : FuncData) : Prop where
  ok : FnOk P w K mg base CX0 k f fd ps sp
  gl : mg x = some (.ref f)
  kp : PySem.W.keepIn K (.ref f) = true
  bd : Binds K fd ps []
theorem pcl {X : Cx} {x : Str} {k j : Nat} {ps : List Str} {sp : Sp} {f : Addr} {fd : FuncData} {e : Expr} {es : List Expr} {t : TA} {p pos : Pos} (C : Cal X.prog X.w X.K X.mg X.base x k ps sp f fd) (hr : Room j X.A) (hj : k ≤ j) (hg : Gl X x) (ha : PA X (e :: es) t)
    (hdb : (x == ("__debug__" : Str)) = false := by decide) (he : starEach (e :: es) X.env = (false, eval e X.env) :: starEach es X.env := by rfl) (hpl : (backTo pos (starEach es X.env)).any (·.1) = false := by rfl) : PE X (.Call (.Name x p) (e :: es) [] pos) (tCall sp [] E0 t) :=
  pe_call C.ok (hr.mono hj) hg C.gl C.kp C.bd .nil pass0 ha hdb he hpl
section
variable {P : Program} {w : World} {K : PySem.W.Frag} {mg : Str → Option Value} {base : Heap}
theorem cut63 {ns : List Int} (h : ns.length ≤ 63) : cutV (ns.map V.int) none (some 63) = ns.map V.int := by
  have e1 : HT.sIx (ns.map V.int).length 0 none = 0 := rfl
  have e2 : HT.sIx (ns.map V.int).length (ns.map V.int).length (some 63) = (ns.map V.int).length := by
    have := HT.sIx_nat (ns.map V.int).length (ns.map V.int).length 63
    rw [show ((63 : Nat) : Int) = 63 from rfl] at this
    rw [this, List.length_map]
    omega
  unfold cutV
  rw [e1, e2, List.drop_zero, Nat.sub_zero, List.take_length]
theorem dpInts (H : Hp) : ∀ ns : List Int, DpAll K H (ns.map V.int) (ns.map PyData.int)
  | [] => .nil
  | n :: r => .cons (.int n) (dpInts H r)
theorem pow_ok : CPowW ((10 : Int) ^ (60 : Int).toNat) 20 := ⟨by decide, by decide +kernel⟩
theorem pow_pos' : (0 : Int) < ((10 : Int) ^ (60 : Int).toNat) ^ (20 : Int).toNat := by decide +kernel
theorem ok_source {f : Addr} {fd : FuncData} (F : Fun K "_law_source" "_law_source" s_L_source f fd) (B : Blt mg) : FnOk P w K mg base CX0 1 f fd ["_law_script"] (spSource K) := by
  refine F.ok sc_L_source (fun vs H Q E h => ?_) (fun cdv A outer s H vs Q E hr h => ?_)
  · obtain ⟨l, ns, rfl, _⟩ := h
    rfl
  · obtain ⟨l, ns, rfl, hL, hn, q⟩ := h
    have nd := sc_L_source.nd
    refine ⟨_, pss_cons (ps_set (i := 1) nd rfl (Or.inl rfl) (pe_slice sl_list (pv 0) po_none (po_some pe_int)))
      (pss_cons (ps_for PassesOwn.never rfl (pi_range1 (by rfl) B.range (pa_cons (pe_callB call_len_seq (by rfl) B.len PySem.boot_len (pa_cons (pv 1) pa_nil)) pa_nil)) (pg_name (i := 2) nd rfl (Or.inl rfl))
        (pss_one (ps_if (pt_cmpR op_ge (pe_callB call_abs (by rfl) B.abs (by decide +kernel) (pa_cons (pe_ix ix_list (pv 1) (pv 2) (fun _ _ => rfl)) pa_nil)) (pe_op op_pow pe_int pe_int) (nomark _))
          (pss_one (ps_asg (pe_op op_mod (pe_callTy call_int1 (by rfl) B.int (by decide +kernel) (pa_cons (pe_ix ix_list (pv 1) (pv 2) (fun _ _ => rfl)) pa_nil)) (pe_op op_powW (pe_op op_pow pe_int pe_int) pe_int)) (pg_sub (pv 1) (pv 2) set_list))) pss_nil)))
      (pss_cons (ps_if (pt_cmpR (op_eqD hr.units) (pv 1) (pe_lst pa_nil) (nomark _)) (pss_one (ps_set (i := 1) nd rfl (Or.inl rfl) (pe_lst (pa_cons pe_int pa_nil)))) pss_nil)
      (pss_one (ps_ret (pe_lst (pa_cons (pv 1) (pa_cons pe_int pa_nil))))))), ?_⟩
    walk_at "rd"
    refine ⟨l, _, rfl, hL, fun p np => ?_⟩
    rw [cut63 hn]
    walk_at "rd"
    refine ⟨p, _, rfl, .inl (SqL.of upd_same), _, rfl, by omega, ?_, ?_⟩
    · show ((ns.map V.int).length : Int) < 2 ^ 62
      rw [List.length_map]
      omega
    have en : ((ns.map V.int).length : Int).toNat = ns.length := by rw [List.length_map]; omega
    rw [en]
    refine for_range (fun i σ H' => ∃ (cs : List Int) (kv : Option V), σ = [some (.ref l), some (.ref p), kv] ∧ H' p = some (.lst (cs.map V.int)) ∧ cs.length = ns.length ∧ Same H H') ⟨ns, none, rfl, upd_same, rfl, fun b o e => by rw [upd_ne (ne_of_none e np)]; exact e⟩ ?_ ?_
    · rintro i σ H' hi ⟨cs, kv, rfl, hp, hl, sm⟩
      have h0 : (0 : Int) ≤ 0 + (i : Int) := by omega
      have h1 : (0 : Int) + (i : Int) < (cs.length : Int) := by omega
      walk_at "rd"
      refine ⟨p, _, _, _, rfl, rfl, SqL.of hp, atI_in h0 h1, ?_⟩
      walk_at "rd"
      refine ⟨⟨by decide, by decide, by decide⟩, ?_⟩
      walk_at "rd"
      refine ite2 (fun _ => ?_) (fun _ => ?_)
      · walk_at "rd"
        refine ⟨p, _, _, _, rfl, rfl, SqL.of hp, atI_in h0 h1, ?_⟩
        walk_at "rd"
        refine ⟨⟨by decide, by decide, by decide⟩, ?_⟩
        walk_at "rd"
        refine ⟨pow_ok, ?_⟩
        walk_at "rd"
        refine ⟨pow_pos', ?_⟩
        walk_at "rd"
        refine ⟨p, _, _, _, rfl, rfl, hp, ixN_in h0 (by rw [List.length_map]; exact h1), ?_⟩
        rw [set_ints]
        exact ⟨_, _, rfl, upd_same, by rw [List.length_set]; exact hl, fun b o e => by rw [upd_ne (ne_of_none e np)]; exact sm b o e⟩
      · exact ⟨cs, _, rfl, hp, hl, sm⟩
    · rintro σ H' ⟨cs, kv, rfl, hp, hl, sm⟩
      walk_at "rd"
      refine ⟨by decide, fun e ne => ?_⟩
      have hpe : upd H' e (.lst []) p = some (.lst (cs.map V.int)) := by rw [upd_ne (ne_of_none hp ne)]; exact hp
      have sm1 : Same H (upd H' e (.lst [])) := fun b o z => by rw [upd_ne (ne_of_none (sm b o z) ne)]; exact sm b o z
      refine ⟨_, _, .lst (SqL.of hpe) (dpInts _ cs), .lst (SqL.of upd_same) .nil, PySem.W.ke_shaped_ints cs, by decide +kernel, ?_⟩
      walk_at "rd"
      have hb : PyData.eqv (.list (cs.map PyData.int)) (.list []) = decide (cs = []) := by
        have z := PySem.W.ked_eqvAll cs []
        rw [← z]
        rfl
      rw [hb]
      refine ite2 (fun _ => ?_) (fun hne => ?_)
      · walk_at "rd"
        refine ⟨by decide, fun c nc => ?_⟩
        walk_at "rd"
        refine ⟨(by show 2 ≤ sizeLine; decide), fun a na => ?_⟩
        have sm2 : Same H (upd (upd H' e (.lst [])) c (.lst [.int 0])) := fun b o z => by rw [upd_ne (ne_of_none (sm1 b o z) nc)]; exact sm1 b o z
        have nac : a ≠ c := (ne_of_none upd_same na).symm
        refine q a c _ (fun b o z => by rw [upd_ne (ne_of_none (sm2 b o z) na)]; exact sm2 b o z) (sm2.free na) (sm1.free nc) ⟨nac, upd_same, [0], by rw [upd_ne nac.symm]; exact upd_same, by decide, by decide⟩
      · walk_at "rd"
        refine ⟨(by show 2 ≤ sizeLine; decide), fun a na => ?_⟩
        have nap : a ≠ p := (ne_of_none hpe na).symm
        refine q a p _ (fun b o z => by rw [upd_ne (ne_of_none (sm1 b o z) na)]; exact sm1 b o z) (sm1.free na) np ⟨nap, upd_same, cs, by rw [upd_ne nap.symm]; exact hpe, ?_, by omega⟩
        have : cs ≠ [] := fun z => hne (decide_eq_true z)
        exact List.length_pos_iff.mpr this
end
end HT
namespace HT
open PySem L2
/-- a def of which errors may come, and its call -/
structure CalX (P : Program) (w : World) (K : PySem.W.Frag) (mg : Str → Option Value) (base : Heap) (x : Str) (k : Nat) (ps : List Str) (sp : Sp) (f : Addr) (fd : FuncData) : Prop where
  ok : FnOk P w K mg base (L2.CX P w) k f fd ps sp
  mgf : mg x = some (.ref f)
  kp : PySem.W.keepIn K (.ref f) = true
  b : Binds K fd ps []
theorem pcx {X : Cx} {x : Str} {k j : Nat} {ps : List Str} {sp : Sp} {f : Addr} {fd : FuncData} {e : Expr} {es : List Expr} {t : TA} {p pos : Pos} {W : WX} (C : CalX X.prog X.w X.K X.mg X.base x k ps sp f fd) (hr : Room j X.A) (hj : k ≤ j) (hg : Gl X x) (tk : L2.Takes X W) (ha : PA X (e :: es) t)
    (hdb : (x == ("__debug__" : Str)) = false := by decide) (he : starEach (e :: es) X.env = (false, eval e X.env) :: starEach es X.env := by rfl) (hpl : (backTo pos (starEach es X.env)).any (·.1) = false := by rfl) : PE X (.Call (.Name x p) (e :: es) [] pos) (tCallS sp (WE W) t) :=
  pe_callS C.ok (hr.mono hj) hg C.mgf C.kp C.b (fun σ => L2.passAt tk σ) ha hdb he hpl
end HT
namespace PySem.W
open PySem PySem.Calls
theorem args_lcm3 (a b c : Value) : argsOk "math.lcm" ⟨[a, b, c], []⟩ := by unfold argsOk; kernel_rfl
theorem run_lcm3 (a : Int) (t : Tok) (b : Int) (u : Tok) (c : Int) (v : Tok) (hc0 : ¬(max 1 a.natAbs).log2 / 30 + 1 > 450) (hc1 : ¬(max a.natAbs b.natAbs).log2 / 30 + 1 > 450)
    (hc2 : ¬(max ((Nat.lcm 1 a.natAbs).lcm b.natAbs) c.natAbs).log2 / 30 + 1 > 450)
    (hsz : (((((Nat.lcm 1 a.natAbs).lcm b.natAbs).lcm c.natAbs : Nat) : Int)).natAbs.log2 < bitsLine) :
    Gives (Builtin.«math.lcm» ⟨[.int a t, .int b u, .int c v], []⟩) (.int (((((Nat.lcm 1 a.natAbs).lcm b.natAbs).lcm c.natAbs : Nat) : Int))) :=
  .of_wp fun M A E s Q h => by obtain ⟨hp, g, d, tk, os⟩ := s; wp_walk; refine wpAny_ite_false (decide_eq_false hc2) ?_; wp_walk; (try (refine wpAny_ite_false (decide_eq_false (Nat.not_le.mpr hsz)) ?_; wp_walk)); exact ⟨_, rfl, h⟩
end PySem.W
namespace L2
open PySem PySem.Spec PyProof.Rows
/-- xs.count(y) of flat things -/
def rCntV (K : PySem.W.Frag) : V → List V → Hp → VK → Prop := fun x xs H Q => ∃ (p : Addr) (ys : List V) (y : V), x = .ref p ∧ xs = [y] ∧ SqL K H p ys ∧ flatV y = true ∧ ys.all flatV = true ∧ Q (.int (ys.countP (fun z => eqV z y) : Nat)) H
theorem count_eqU {x : V} : ∀ {xs : List V} {us : List Value}, Vals xs us → xs.all flatV = true → us.countP (eqU x) = xs.countP fun y => eqV y x
  | _, _, .nil, _ => rfl
  | y :: xs, u :: us, .cons r t, f => by
    obtain ⟨f1, f2⟩ := Bool.and_eq_true_iff.mp (List.all_cons ▸ f)
    rw [List.countP_cons, List.countP_cons, eqU_of r f1, count_eqU t f2]
theorem mt_cntV {X : Cx} : MtR X "list.count" (rCntV X.K) := by
  intro pins sh st H x xs v us Q iv rx rxs h
  obtain ⟨p, ys, y, rfl, rfl, hs, fy, fys, q⟩ := h
  cases rx
  obtain ⟨u, rfl, ru⟩ := rxs.one
  obtain ⟨its, rv, ⟨⟨cls, dd, data, sl⟩, n, ho, hc, hdn, hd⟩, hlen⟩ := iv.list hs
  dsimp only at hc hd
  subst hc hd
  refine call_meets PySem.F.slot_list_count ⟨_, ho, rfl⟩ PySem.F.entry_list_count (PySem.F.args_list_count_2 _ _) (SeqAt.list_countAt p its.toArray n dd sl u (eqU y)) ⟨ho, fun w hw => mem_eqAt ru fy rv fys w (by simpa using hw), ?_⟩
  refine ⟨.int (ys.countP (fun z => eqV z y) : Nat), H, iv.tok _, ⟨sh.toks, ?_⟩, q⟩
  rw [show its.toArray.toList.countP (eqU y) = ys.countP (fun z => eqV z y) from count_eqU rv fys]
end L2
namespace HT
open PySem L2
/-! ### pick, great, side -/
def spPick : Sp := fun vs H Q _ => ∃ (a c : Addr) (t : Nat) (l : Addr) (xs : List V), vs = [.ref a, .ref l] ∧ Src H a c t ∧ t < 2 ^ 30 ∧ H l = some (.lst xs) ∧ l ≠ a ∧ l ≠ c ∧ 0 < xs.length ∧ xs.length < 2 ^ 60 ∧
  ∀ x H', x ∈ xs → Src H' a c (t + 1) → Oth a c H H' → Q x H'
def spGreat : Sp := fun vs H Q _ => ∃ (a c : Addr) (t n : Nat), vs = [.ref a, .int (n : Int)] ∧ Src H a c t ∧ n ≤ 1000 ∧ t + n < 2 ^ 30 ∧
  ∀ k H', 0 ≤ k → k < 10 ^ n → Src H' a c (t + n) → Oth a c H H' → Q (.int k) H'
/-- the modes -/
def Mode (m : Str) : Prop := m = "down" ∨ m = "up" ∨ m = "half_down" ∨ m = "half_up" ∨ m = "half_even"
/-- a side's parts -/
structure SideP (o s : Int) (m : Str) : Prop where
  o0 : -10 ^ 40 ≤ o
  o1 : o ≤ 10 ^ 40
  s0 : 1 ≤ s
  s1 : s ≤ 10 ^ 30
  md : Mode m
def sideV (o s : Int) (m : Str) : HO := .tup [.int o, .int s, .str m]
def spSide : Sp := fun vs H Q _ => ∃ (a c : Addr) (t n : Nat), vs = [.ref a, .int (n : Int)] ∧ Src H a c t ∧ 1 ≤ n ∧ n ≤ 40 ∧ t + 200 < 2 ^ 30 ∧
  ∀ p o s m H' t', H p = none → H' p = some (sideV o s m) → SideP o s m → t' ≤ t + 200 → Src H' a c t' → Oth a c H H' → Q (.ref p) H'
theorem lg_nat {n : Nat} (h : n < 2 ^ 200) : ((n : Int)).natAbs.log2 < 9000 := by
  rw [Int.natAbs_natCast]
  by_cases e : n = 0
  · rw [e]; decide
  · have := (Nat.log2_lt e).mpr h
    omega
theorem lg_small {n : Int} (h0 : 0 ≤ n) (h : n < 2 ^ 64) : n.natAbs.log2 < 9000 := by
  obtain ⟨m, rfl⟩ := Int.eq_ofNat_of_zero_le h0
  exact lg_nat (Nat.lt_of_lt_of_le (by omega : m < 2 ^ 64) (Nat.pow_le_pow_right (by decide) (by decide)))
section
variable {P : Program} {w : World} {K : PySem.W.Frag} {mg : Str → Option Value} {base : Heap} {fD fP fG : Addr} {dD dP dG : FuncData}
theorem ok_pick {f : Addr} {fd : FuncData} (F : Fun K "_law_pick" "_law_pick" s_L_pick f fd) (B : Blt mg) (D : Cal P w K mg base "_law_draw" 1 ["_law_source_here", "_law_limit"] spDraw fD dD) :
    FnOk P w K mg base CX0 2 f fd ["_law_source_here", "_law_values"] spPick := by
  refine F.ok sc_L_pick (fun vs H Q E h => ?_) (fun cdv A outer s H vs Q E hr h => ?_)
  · obtain ⟨a, c, t, l, xs, rfl, _⟩ := h
    rfl
  · obtain ⟨a, c, t, l, xs, rfl, S, ht, hl, na, nc, h0, h1, q⟩ := h
    refine ⟨_, pss_one (ps_ret (pe_ix ix_list (pv 1) (pcl D hr (by decide) (by rfl) (pa_cons (pv 0) (pa_cons (pe_callB call_len_seq (by rfl) B.len PySem.boot_len (pa_cons (pv 1) pa_nil)) pa_nil))) (fun _ _ => rfl))), ?_⟩
    walk_at "rd"
    refine ⟨l, _, rfl, .inl (SqL.of hl), ?_⟩
    have p1 : (0 : Int) < (xs.length : Int) := by omega
    refine ⟨a, c, t, _, rfl, S, ht, p1, lg_nat (Nat.lt_of_lt_of_le h1 (Nat.pow_le_pow_right (by decide) (by decide))), fun k H' k0 k1 S' O => ?_⟩
    have hl' : k.toNat < xs.length := by omega
    have e : atI xs k = some xs[k.toNat] := by
      unfold atI
      rw [ixN_in k0 k1]
      exact List.getElem?_eq_getElem hl'
    refine ⟨l, _, _, _, rfl, rfl, SqL.of (O _ _ hl na nc), e, ?_⟩
    exact q _ _ (List.getElem_mem hl') S' O
theorem ok_great {f : Addr} {fd : FuncData} (F : Fun K "_law_great" "_law_great" s_L_great f fd) (B : Blt mg) (D : Cal P w K mg base "_law_draw" 1 ["_law_source_here", "_law_limit"] spDraw fD dD) :
    FnOk P w K mg base CX0 2 f fd ["_law_source_here", "_law_digits"] spGreat := by
  refine F.ok sc_L_great (fun vs H Q E h => ?_) (fun cdv A outer s H vs Q E hr h => ?_)
  · obtain ⟨a, c, t, n, rfl, _⟩ := h
    rfl
  · obtain ⟨a, c, t, n, rfl, S, hn, ht, q⟩ := h
    have nd := sc_L_great.nd
    refine ⟨_, pss_cons (ps_set (i := 2) nd rfl (Or.inl rfl) pe_int)
      (pss_cons (ps_for PassesOwn.never rfl (pi_range1 (by rfl) B.range (pa_cons (pv 1) pa_nil)) (pg_name (i := 3) nd rfl (Or.inl rfl))
        (pss_one (ps_set (i := 2) nd rfl (Or.inl rfl) (pe_op op_add (pe_op op_mul (pv 2) pe_int) (pcl D hr (by decide) (by rfl) (pa_cons (pv 0) (pa_cons pe_int pa_nil)))))))
      (pss_one (ps_ret (pv 2)))), ?_⟩
    walk_at "rd"
    refine ⟨by omega, by omega, ?_⟩
    rw [Int.toNat_natCast]
    refine for_range (fun i σ H' => ∃ (k : Int) (kv : Option V), σ = [some (.ref a), some (.int (n : Int)), some (.int k), kv] ∧ 0 ≤ k ∧ k < 10 ^ i ∧ Src H' a c (t + i) ∧ Oth a c H H') ⟨0, none, rfl, by decide, by decide, S, Oth.refl _ _ _⟩ ?_ ?_
    · rintro i σ H' hi ⟨k, kv, rfl, k0, k1, S', O⟩
      walk_at "rd"
      refine ⟨.inr ⟨by decide, by decide⟩, ?_⟩
      walk_at "rd"
      refine ⟨a, c, t + i, _, rfl, S', by omega, (by show (0 : Int) < 10; decide), (by show (10 : Int).natAbs.log2 < 9000; decide), fun y H2 y0 y1 S2 O2 => ?_⟩
      walk_at "rd"
      have y1' : y < 10 := y1
      refine ⟨_, _, rfl, (by show 0 ≤ k * 10 + y; omega), (by show k * 10 + y < 10 ^ (i + 1); rw [Int.pow_succ]; omega), S2, O.trans O2⟩
    · rintro σ H' ⟨k, kv, rfl, k0, k1, S', O⟩
      walk_at "rd"
      exact q _ _ k0 k1 S' O
theorem mode_of {x : V} (h : x ∈ [V.str "down", .str "up", .str "half_down", .str "half_up", .str "half_even"]) : ∃ m : Str, x = .str m ∧ Mode m := by
  simp only [List.mem_cons, List.not_mem_nil, or_false] at h
  rcases h with h | h | h | h | h
  · exact ⟨_, h, .inl rfl⟩
  · exact ⟨_, h, .inr (.inl rfl)⟩
  · exact ⟨_, h, .inr (.inr (.inl rfl))⟩
  · exact ⟨_, h, .inr (.inr (.inr (.inl rfl)))⟩
  · exact ⟨_, h, .inr (.inr (.inr (.inr rfl)))⟩
end
end HT
namespace HT
open PySem L2
/-! ### the mathematics of a side -/
def goesUp (m : Str) (s q r : Int) : Bool := if m = "down" then false else if m = "up" then decide (0 < r) else if 2 * r = s then (if m = "half_even" then decide (q % 2 = 1) else decide (m = "half_up")) else decide (s < 2 * r)
/-- the figure to which v comes -/
def figM (o s : Int) (m : Str) (v : Int) : Int := if goesUp m s ((v - o) / s) ((v - o) % s) = true then (v - o) / s + 1 else (v - o) / s
def dueM (o s : Int) (m : Str) (v : Int) : Int := o + s * figM o s m v
theorem d_u : ¬ (("up" : Str) = "down") := by decide +kernel
theorem hd_d : ¬ (("half_down" : Str) = "down") := by decide +kernel
theorem hd_u : ¬ (("half_down" : Str) = "up") := by decide +kernel
theorem hu_d : ¬ (("half_up" : Str) = "down") := by decide +kernel
theorem hu_u : ¬ (("half_up" : Str) = "up") := by decide +kernel
theorem he_d : ¬ (("half_even" : Str) = "down") := by decide +kernel
theorem he_u : ¬ (("half_even" : Str) = "up") := by decide +kernel
theorem hd_e : ¬ (("half_down" : Str) = "half_even") := by decide +kernel
theorem hu_e : ¬ (("half_up" : Str) = "half_even") := by decide +kernel
theorem hd_hu : ¬ (("half_down" : Str) = "half_up") := by decide +kernel
theorem he_hu : ¬ (("half_even" : Str) = "half_up") := by decide +kernel
theorem u_hd : ¬ (("up" : Str) = "half_down") := by decide +kernel
theorem hu_hd : ¬ (("half_up" : Str) = "half_down") := by decide +kernel
theorem he_hd : ¬ (("half_even" : Str) = "half_down") := by decide +kernel
theorem go_down (s q r : Int) : goesUp "down" s q r = false := by unfold goesUp; rw [if_pos rfl]
theorem go_up (s q r : Int) : goesUp "up" s q r = decide (0 < r) := by unfold goesUp; rw [if_neg d_u, if_pos rfl]
theorem go_hd (s q r : Int) : goesUp "half_down" s q r = decide (s < 2 * r) := by
  unfold goesUp
  rw [if_neg hd_d, if_neg hd_u, if_neg hd_e, decide_eq_false hd_hu]
  by_cases h : 2 * r = s
  · rw [if_pos h, decide_eq_false (by omega)]
  · rw [if_neg h]
theorem go_hu (s q r : Int) : goesUp "half_up" s q r = decide (s ≤ 2 * r) := by
  unfold goesUp
  rw [if_neg hu_d, if_neg hu_u, if_neg hu_e, decide_eq_true rfl]
  by_cases h : 2 * r = s
  · rw [if_pos h, decide_eq_true (by omega)]
  · rw [if_neg h]
    by_cases g : s < 2 * r
    · rw [decide_eq_true g, decide_eq_true (by omega)]
    · rw [decide_eq_false g, decide_eq_false (by omega)]
theorem go_he (s q r : Int) : goesUp "half_even" s q r = (decide (s < 2 * r) || (decide (2 * r = s) && decide (q % 2 = 1))) := by
  unfold goesUp
  rw [if_neg he_d, if_neg he_u, if_pos rfl]
  by_cases h : 2 * r = s
  · rw [if_pos h, decide_eq_false (show ¬ s < 2 * r by omega), decide_eq_true h]
    rfl
  · rw [if_neg h, decide_eq_false h]
    simp
/-- what is known of a figure -/
structure Fig (o s : Int) (m : Str) (v q r k : Int) : Prop where
  eq : v - o = s * q + r
  r0 : 0 ≤ r
  r1 : r < s
  wh : (goesUp m s q r = true ∧ k = q + 1) ∨ (goesUp m s q r = false ∧ k = q)
theorem fig_of {o s : Int} {m : Str} {v : Int} (hs : 1 ≤ s) : Fig o s m v ((v - o) / s) ((v - o) % s) (figM o s m v) := by
  refine ⟨?_, Int.emod_nonneg _ (by omega), Int.emod_lt_of_pos _ (by omega), ?_⟩
  · have := Int.mul_ediv_add_emod (v - o) s
    omega
  · unfold figM
    cases h : goesUp m s ((v - o) / s) ((v - o) % s)
    · exact .inr ⟨rfl, by simp⟩
    · exact .inl ⟨rfl, by simp⟩
theorem divmod_eq {s q r x : Int} (hs : 1 ≤ s) (h : x = s * q + r) (r0 : 0 ≤ r) (r1 : r < s) : x / s = q ∧ x % s = r := by
  subst h
  constructor
  · rw [Int.add_comm, Int.add_mul_ediv_left _ _ (by omega), Int.ediv_eq_zero_of_lt r0 r1]
    omega
  · rw [Int.add_comm, Int.add_mul_emod_self_left]
    exact Int.emod_eq_of_lt r0 r1
theorem fig_uniq {o s : Int} {m : Str} {v q r k : Int} (hs : 1 ≤ s) (F : Fig o s m v q r k) : figM o s m v = k := by
  obtain ⟨e1, e2⟩ := divmod_eq hs F.eq F.r0 F.r1
  unfold figM
  rw [e1, e2]
  rcases F.wh with ⟨h, e⟩ | ⟨h, e⟩
  · rw [h, if_pos rfl, e]
  · rw [h, if_neg (by decide), e]
/-- going up wants a rest, and not going up a small one -/
theorem go_pos {m : Str} {s q r : Int} (hm : Mode m) (hs : 1 ≤ s) (r0 : 0 ≤ r) (h : goesUp m s q r = true) : 0 < r := by
  rcases hm with e | e | e | e | e <;> subst e
  · rw [go_down] at h; cases h
  · rw [go_up] at h; exact of_decide_eq_true h
  · rw [go_hd] at h; have := of_decide_eq_true h; omega
  · rw [go_hu] at h; have := of_decide_eq_true h; omega
  · rw [go_he, Bool.or_eq_true, Bool.and_eq_true] at h
    rcases h with h | ⟨h, _⟩ <;> have := of_decide_eq_true h <;> omega
theorem due_near {o s : Int} {m : Str} {v : Int} (hm : Mode m) (hs : 1 ≤ s) : dueM o s m v - v < s ∧ v - dueM o s m v < s := by
  have F := fig_of (o := o) (m := m) (v := v) hs
  unfold dueM
  generalize (v - o) / s = q at F
  generalize (v - o) % s = r at F
  obtain ⟨eq, r0, r1, wh⟩ := F
  rcases wh with ⟨h, e⟩ | ⟨h, e⟩
  · have := go_pos hm hs r0 h
    rw [e, Int.mul_add, Int.mul_one]
    generalize s * q = z at eq ⊢
    omega
  · rw [e]
    generalize s * q = z at eq ⊢
    omega
def half (m : Str) : Prop := m = "half_down" ∨ m = "half_up" ∨ m = "half_even"
theorem due_half {o s : Int} {m : Str} {v : Int} (hm : half m) (hs : 1 ≤ s) : 2 * (dueM o s m v - v) ≤ s ∧ 2 * (v - dueM o s m v) ≤ s := by
  have F := fig_of (o := o) (m := m) (v := v) hs
  unfold dueM
  generalize (v - o) / s = q at F
  generalize (v - o) % s = r at F
  obtain ⟨eq, r0, r1, wh⟩ := F
  have hb : (goesUp m s q r = true → s ≤ 2 * r) ∧ (goesUp m s q r = false → 2 * r ≤ s) := by
    rcases hm with e | e | e <;> subst e
    · rw [go_hd]; exact ⟨fun h => by have := of_decide_eq_true h; omega, fun h => by have := of_decide_eq_false h; omega⟩
    · rw [go_hu]; exact ⟨fun h => by have := of_decide_eq_true h; omega, fun h => by have := of_decide_eq_false h; omega⟩
    · rw [go_he]
      refine ⟨fun h => ?_, fun h => ?_⟩
      · rw [Bool.or_eq_true, Bool.and_eq_true] at h
        rcases h with h | ⟨h, _⟩ <;> have := of_decide_eq_true h <;> omega
      · rw [Bool.or_eq_false_iff] at h
        have := of_decide_eq_false h.1
        omega
  rcases wh with ⟨h, e⟩ | ⟨h, e⟩
  · have := hb.1 h
    rw [e, Int.mul_add, Int.mul_one]
    generalize s * q = z at eq ⊢
    omega
  · have := hb.2 h
    rw [e]
    generalize s * q = z at eq ⊢
    omega
theorem go_zero {m : Str} {s q : Int} (hm : Mode m) (hs : 1 ≤ s) : goesUp m s q 0 = false := by
  cases h : goesUp m s q 0 with
  | false => rfl
  | true => exact absurd (go_pos hm hs (Int.le_refl _) h) (by omega)
/-- what is written stands and is written as it is -/
theorem fig_at {o s k : Int} {m : Str} (hm : Mode m) (hs : 1 ≤ s) : figM o s m (o + s * k) = k :=
  fig_uniq (q := k) (r := 0) hs ⟨by omega, Int.le_refl _, by omega, .inr ⟨go_zero hm hs, rfl⟩⟩
theorem stands_at {o s k : Int} : (o + s * k - o) % s = 0 := by
  rw [show o + s * k - o = s * k by omega]
  exact Int.mul_emod_right s k
theorem due_eq {o s : Int} {m : Str} {v : Int} (hm : Mode m) (hs : 1 ≤ s) : (v - o) % s = 0 ↔ dueM o s m v = v := by
  have F := fig_of (o := o) (m := m) (v := v) hs
  unfold dueM
  generalize (v - o) / s = q at F
  generalize (v - o) % s = r at F ⊢
  obtain ⟨eq, r0, r1, wh⟩ := F
  rcases wh with ⟨h, e⟩ | ⟨h, e⟩
  · have := go_pos hm hs r0 h
    rw [e, Int.mul_add, Int.mul_one]
    generalize s * q = z at eq ⊢
    omega
  · rw [e]
    generalize s * q = z at eq ⊢
    omega
theorem go_mono {m : Str} {s q r : Int} (hm : Mode m) (h : goesUp m s q r = true) : goesUp m s q (r + 1) = true := by
  rcases hm with e | e | e | e | e <;> subst e
  · rw [go_down] at h; cases h
  · rw [go_up] at h ⊢; have := of_decide_eq_true h; exact decide_eq_true (by omega)
  · rw [go_hd] at h ⊢; have := of_decide_eq_true h; exact decide_eq_true (by omega)
  · rw [go_hu] at h ⊢; have := of_decide_eq_true h; exact decide_eq_true (by omega)
  · rw [go_he] at h ⊢
    have : s ≤ 2 * r := by
      rw [Bool.or_eq_true, Bool.and_eq_true] at h
      rcases h with h | ⟨h, _⟩ <;> have := of_decide_eq_true h <;> omega
    rw [decide_eq_true (show s < 2 * (r + 1) by omega)]
    rfl
theorem fig_mono {o s : Int} {m : Str} {v : Int} (hm : Mode m) (hs : 1 ≤ s) : figM o s m v ≤ figM o s m (v + 1) := by
  have F := fig_of (o := o) (m := m) (v := v) hs
  generalize (v - o) / s = q at F
  generalize (v - o) % s = r at F
  obtain ⟨eq, r0, r1, wh⟩ := F
  by_cases hr : r + 1 < s
  · cases g : goesUp m s q (r + 1) with
    | true =>
      rw [fig_uniq (v := v + 1) (q := q) (r := r + 1) (k := q + 1) hs ⟨by omega, by omega, hr, .inl ⟨g, rfl⟩⟩]
      rcases wh with ⟨_, e⟩ | ⟨_, e⟩ <;> omega
    | false =>
      rw [fig_uniq (v := v + 1) (q := q) (r := r + 1) (k := q) hs ⟨by omega, by omega, hr, .inr ⟨g, rfl⟩⟩]
      rcases wh with ⟨h, e⟩ | ⟨_, e⟩
      · rw [go_mono hm h] at g
        cases g
      · omega
  · rw [fig_uniq (v := v + 1) (q := q + 1) (r := 0) (k := q + 1) hs ⟨by rw [Int.mul_add, Int.mul_one]; omega, by omega, by omega, .inr ⟨go_zero hm hs, rfl⟩⟩]
    rcases wh with ⟨_, e⟩ | ⟨_, e⟩ <;> omega
theorem due_mono {o s : Int} {m : Str} {v : Int} (hm : Mode m) (hs : 1 ≤ s) : dueM o s m v ≤ dueM o s m (v + 1) := by
  unfold dueM
  have := Int.mul_le_mul_of_nonneg_left (fig_mono (o := o) (v := v) hm hs) (show 0 ≤ s by omega)
  omega
theorem go_two {m : Str} {s q r : Int} (hm : Mode m) : goesUp m s (q + 2) r = goesUp m s q r := by
  rcases hm with e | e | e | e | e <;> subst e
  · rw [go_down, go_down]
  · rw [go_up, go_up]
  · rw [go_hd, go_hd]
  · rw [go_hu, go_hu]
  · rw [go_he, go_he, show (q + 2) % 2 = q % 2 by omega]
theorem due_two {o s : Int} {m : Str} {v : Int} (hm : Mode m) (hs : 1 ≤ s) : dueM o s m (v + s * 2) = dueM o s m v + s * 2 := by
  have F := fig_of (o := o) (m := m) (v := v) hs
  unfold dueM
  generalize (v - o) / s = q at F
  generalize (v - o) % s = r at F
  obtain ⟨eq, r0, r1, wh⟩ := F
  rw [fig_uniq (v := v + s * 2) (q := q + 2) (r := r) (k := figM o s m v + 2) hs ⟨by rw [Int.mul_add]; omega, r0, r1, ?_⟩, Int.mul_add]
  · omega
  · rw [go_two hm]
    rcases wh with ⟨h, e⟩ | ⟨h, e⟩
    · exact .inl ⟨h, by omega⟩
    · exact .inr ⟨h, by omega⟩
/-! ### bounds -/
def Bd (x : Int) : Prop := -2 ^ 1000 < x ∧ x < 2 ^ 1000
theorem div_bd {x s b : Int} (hs : 1 ≤ s) (h0 : -b < x) (h1 : x < b) : -b < x / s ∧ x / s < b := by
  by_cases hx : 0 ≤ x
  · have a := Int.ediv_nonneg hx (show 0 ≤ s by omega)
    have c := Int.ediv_le_self s hx
    omega
  · have a : x ≤ x / s := by
      rw [Int.le_ediv_iff_mul_le (by omega)]
      have := Int.mul_le_mul_of_nonpos_left (show x ≤ 0 by omega) hs
      omega
    have c : x / s < 0 := Int.ediv_neg_of_neg_of_pos (by omega) (by omega)
    omega
end HT
namespace HT
open PySem L2
/-! ### spans -/
def below (m : Str) (s k : Int) : Int := if m = "down" then 0 else if m = "up" then s - 1 else if m = "half_up" ∨ (m = "half_even" ∧ k % 2 = 0) then s / 2 else (s - 1) / 2
def mir (m : Str) : Str := if m = "down" then "up" else if m = "up" then "down" else if m = "half_down" then "half_up" else if m = "half_up" then "half_down" else "half_even"
def lowM (o s : Int) (m : Str) (k : Int) : Int := o + s * k - below m s k
def highM (o s : Int) (m : Str) (k : Int) : Int := o + s * k + below (mir m) s k
theorem mir_d : mir "down" = "up" := by unfold mir; rw [if_pos rfl]
theorem mir_u : mir "up" = "down" := by unfold mir; rw [if_neg d_u, if_pos rfl]
theorem mir_hd : mir "half_down" = "half_up" := by unfold mir; rw [if_neg hd_d, if_neg hd_u, if_pos rfl]
theorem mir_hu : mir "half_up" = "half_down" := by unfold mir; rw [if_neg hu_d, if_neg hu_u, if_neg hu_hd, if_pos rfl]
theorem mir_he : mir "half_even" = "half_even" := by unfold mir; rw [if_neg he_d, if_neg he_u, if_neg he_hd, if_neg he_hu]
theorem be_d (s k : Int) : below "down" s k = 0 := by unfold below; rw [if_pos rfl]
theorem be_u (s k : Int) : below "up" s k = s - 1 := by unfold below; rw [if_neg d_u, if_pos rfl]
theorem be_hd (s k : Int) : below "half_down" s k = (s - 1) / 2 := by
  unfold below
  rw [if_neg hd_d, if_neg hd_u, if_neg]
  rintro (z | ⟨z, _⟩)
  · exact hd_hu z
  · exact hd_e z
theorem be_hu (s k : Int) : below "half_up" s k = s / 2 := by unfold below; rw [if_neg hu_d, if_neg hu_u, if_pos (.inl rfl)]
theorem be_he (s k : Int) : below "half_even" s k = if k % 2 = 0 then s / 2 else (s - 1) / 2 := by
  unfold below
  rw [if_neg he_d, if_neg he_u]
  by_cases h : k % 2 = 0
  · rw [if_pos (.inr ⟨rfl, h⟩), if_pos h]
  · rw [if_neg h, if_neg]
    rintro (z | ⟨_, z⟩)
    · exact he_hu z
    · exact h z
theorem mir_mode {m : Str} (h : Mode m) : Mode (mir m) := by
  rcases h with e | e | e | e | e <;> subst e
  · rw [mir_d]; exact .inr (.inl rfl)
  · rw [mir_u]; exact .inl rfl
  · rw [mir_hd]; exact .inr (.inr (.inr (.inl rfl)))
  · rw [mir_hu]; exact .inr (.inr (.inl rfl))
  · rw [mir_he]; exact .inr (.inr (.inr (.inr rfl)))
theorem below_bd {m : Str} {s k : Int} (h : Mode m) (hs : 1 ≤ s) : 0 ≤ below m s k ∧ below m s k < s := by
  rcases h with e | e | e | e | e <;> subst e
  · rw [be_d]; omega
  · rw [be_u]; omega
  · rw [be_hd]; omega
  · rw [be_hu]; omega
  · rw [be_he]; split <;> omega
theorem up_iff {m : Str} {s q r : Int} (h : Mode m) (r0 : 0 ≤ r) (r1 : r < s) : goesUp m s q r = true ↔ below (mir m) s q < r := by
  rcases h with e | e | e | e | e <;> subst e
  · rw [go_down, mir_d, be_u]
    exact ⟨fun z => (Bool.false_ne_true z).elim, fun z => absurd z (by omega)⟩
  · rw [go_up, mir_u, be_d, decide_eq_true_eq]
  · rw [go_hd, mir_hd, be_hu, decide_eq_true_eq]; omega
  · rw [go_hu, mir_hu, be_hd, decide_eq_true_eq]; omega
  · rw [go_he, mir_he, be_he, Bool.or_eq_true, Bool.and_eq_true, decide_eq_true_eq, decide_eq_true_eq, decide_eq_true_eq]
    split <;> omega
theorem touch {m : Str} {s : Int} (q : Int) (h : Mode m) (hs : 1 ≤ s) : below m s (q + 1) + below (mir m) s q = s - 1 := by
  rcases h with e | e | e | e | e <;> subst e
  · rw [be_d, mir_d, be_u]; omega
  · rw [be_u, mir_u, be_d]; omega
  · rw [be_hd, mir_hd, be_hu]; omega
  · rw [be_hu, mir_hu, be_hd]; omega
  · rw [be_he, mir_he, be_he]; split <;> split <;> omega
theorem mul_lt_step {s q k : Int} (hs : 1 ≤ s) (h : q < k) : s * q + s ≤ s * k := by
  have := Int.mul_le_mul_of_nonneg_left (show q + 1 ≤ k by omega) (show 0 ≤ s by omega)
  rw [Int.mul_add, Int.mul_one] at this
  exact this
/-- a value comes to k just between the ends -/
theorem fig_iff {o s : Int} {m : Str} {v k : Int} (h : Mode m) (hs : 1 ≤ s) : figM o s m v = k ↔ lowM o s m k ≤ v ∧ v ≤ highM o s m k := by
  have F := fig_of (o := o) (m := m) (v := v) hs
  generalize (v - o) / s = q at F
  generalize (v - o) % s = r at F
  generalize figM o s m v = f at F ⊢
  obtain ⟨eq, r0, r1, wh⟩ := F
  have ui := up_iff (q := q) h r0 r1
  have t1 := touch (k - 1) h hs
  rw [show k - 1 + 1 = k by omega] at t1
  have bk := below_bd (k := k) (mir_mode h) hs
  have bk1 := below_bd (k := k - 1) (mir_mode h) hs
  have bq := below_bd (k := q) (mir_mode h) hs
  unfold lowM highM
  have hf : (f = q + 1 ∧ below (mir m) s q < r) ∨ (f = q ∧ r ≤ below (mir m) s q) := by
    rcases wh with ⟨g, e⟩ | ⟨g, e⟩
    · exact .inl ⟨e, ui.mp g⟩
    · refine .inr ⟨e, ?_⟩
      have : ¬ below (mir m) s q < r := fun z => by rw [ui.mpr z] at g; cases g
      omega
  rcases Int.lt_trichotomy q k with hq | hq | hq
  · rcases Int.lt_trichotomy (q + 1) k with hq1 | hq1 | hq1
    · have := mul_lt_step hs (show q + 1 < k from hq1)
      rw [Int.mul_add, Int.mul_one] at this
      generalize s * q = a at *
      generalize s * k = b at *
      constructor
      · intro z; omega
      · intro z; omega
    · have e : q = k - 1 := by omega
      subst e
      have : s * (k - 1) = s * k - s := by rw [Int.mul_sub, Int.mul_one]
      generalize s * (k - 1) = a at *
      generalize s * k = b at *
      constructor
      · intro z; omega
      · intro z; omega
    · omega
  · subst hq
    generalize s * q = a at *
    constructor
    · intro z; omega
    · intro z; omega
  · have := mul_lt_step hs hq
    generalize s * q = a at *
    generalize s * k = b at *
    constructor
    · intro z; omega
    · intro z; omega
theorem low_high {o s : Int} {m : Str} {k : Int} (h : Mode m) (hs : 1 ≤ s) : lowM o s m k ≤ o + s * k ∧ o + s * k ≤ highM o s m k := by
  have a := below_bd (k := k) h hs
  have b := below_bd (k := k) (mir_mode h) hs
  unfold lowM highM
  omega
theorem low_next {o s : Int} {m : Str} (k : Int) (h : Mode m) (hs : 1 ≤ s) : lowM o s m (k + 1) = highM o s m k + 1 := by
  have := touch k h hs
  unfold lowM highM
  rw [Int.mul_add, Int.mul_one]
  omega
theorem high_prev {o s : Int} {m : Str} (k : Int) (h : Mode m) (hs : 1 ≤ s) : highM o s m (k - 1) = lowM o s m k - 1 := by
  have := low_next (o := o) (k - 1) h hs
  rw [show k - 1 + 1 = k by omega] at this
  omega
theorem fig_low {o s : Int} {m : Str} (k : Int) (h : Mode m) (hs : 1 ≤ s) : figM o s m (lowM o s m k) = k := by
  have a := low_high (o := o) (k := k) h hs
  exact (fig_iff h hs).mpr ⟨by omega, by omega⟩
theorem fig_high {o s : Int} {m : Str} (k : Int) (h : Mode m) (hs : 1 ≤ s) : figM o s m (highM o s m k) = k := by
  have a := low_high (o := o) (k := k) h hs
  exact (fig_iff h hs).mpr ⟨by omega, by omega⟩
theorem fig_low1 {o s : Int} {m : Str} (k : Int) (h : Mode m) (hs : 1 ≤ s) : figM o s m (lowM o s m k - 1) = k - 1 := by
  rw [← high_prev k h hs]
  exact fig_high _ h hs
theorem fig_high1 {o s : Int} {m : Str} (k : Int) (h : Mode m) (hs : 1 ≤ s) : figM o s m (highM o s m k + 1) = k + 1 := by
  rw [← low_next k h hs]
  exact fig_low _ h hs
/-- the figure of the least standing value that is not less -/
def ceilM (o s v : Int) : Int := -((o - v) / s)
theorem ceil_eq {o s v : Int} (hs : 1 ≤ s) : v ≤ o + s * ceilM o s v ∧ o + s * (ceilM o s v - 1) < v := by
  have a := Int.mul_ediv_add_emod (o - v) s
  have b := Int.emod_nonneg (o - v) (show s ≠ 0 by omega)
  have c := Int.emod_lt_of_pos (o - v) (show 0 < s by omega)
  unfold ceilM
  rw [Int.mul_sub, Int.mul_one, Int.mul_neg]
  omega
def backM (o s : Int) (m : Str) (v : Int) : Int := lowM o s m (ceilM o s v)
theorem back_ge {o s : Int} {m : Str} {v : Int} (h : Mode m) (hs : 1 ≤ s) : v ≤ dueM o s m (backM o s m v) := by
  unfold dueM backM
  rw [fig_low _ h hs]
  exact (ceil_eq hs).1
theorem back_lt {o s : Int} {m : Str} {v : Int} (h : Mode m) (hs : 1 ≤ s) : dueM o s m (backM o s m v - 1) < v := by
  unfold dueM backM
  rw [fig_low1 _ h hs]
  exact (ceil_eq hs).2
theorem mul_b {s k : Int} (s0 : 1 ≤ s) (s1 : s ≤ 10 ^ 30) (h : -2 ^ 720 < k ∧ k < 2 ^ 720) : -2 ^ 820 < s * k ∧ s * k < 2 ^ 820 := by
  have h1 : (s * k).natAbs < 2 ^ (100 + 720) := wide_lt (a := 100) (b := 720) (by omega) (by omega)
  omega
end HT
namespace HT
open PySem L2
theorem lg_big {n : Int} (h0 : 0 ≤ n) (h : n < 2 ^ 200) : n.natAbs.log2 < 9000 := by
  obtain ⟨m, rfl⟩ := Int.eq_ofNat_of_zero_le h0
  exact lg_nat (by omega)
def modesV : List V := [.str "down", .str "up", .str "half_down", .str "half_up", .str "half_even"]
/-- the further names that the text of sides does not bind, and its table of modes -/
structure SideT (K : PySem.W.Frag) (mg : Str → Option Value) (aM : Addr) : Prop where
  isi : mg "isinstance" = none
  int : mg "int" = none
  bool : mg "bool" = none
  tuple : mg "tuple" = none
  len : mg "len" = none
  dm : mg "divmod" = none
  gM : mg "MODES" = some (.ref aM)
  tM : ∀ H, SqT K H aM modesV
def spIsInt : Sp := fun vs H Q _ => ∃ i : Int, vs = [.int i] ∧ Q (.bl true) H
def spBetween : Sp := fun vs H Q _ => ∃ i a b : Int, vs = [.int i, .int a, .int b] ∧ Q (.bl (decide (a ≤ i) && decide (i ≤ b))) H
def spCheckValue : Sp := fun vs H Q _ => ∃ i : Int, vs = [.int i] ∧ Q .non H
def spCheckSide : Sp := fun vs H Q _ => ∃ (p : Addr) (o s : Int) (m : Str), vs = [.ref p] ∧ H p = some (sideV o s m) ∧ SideP o s m ∧ Q .non H
def spGo : Sp := fun vs H Q _ => ∃ (m : Str) (s q r : Int), vs = [.str m, .int s, .int q, .int r] ∧ Q (.bl (goesUp m s q r)) H
def spSV (f : Int → Int → Str → Int → V) : Sp := fun vs H Q _ => ∃ (p : Addr) (o s : Int) (m : Str) (v : Int), vs = [.ref p, .int v] ∧ H p = some (sideV o s m) ∧ SideP o s m ∧ Bd v ∧ ∀ H', Same H H' → Q (f o s m v) H'
def spFig : Sp := spSV fun o s m v => .int (figM o s m v)
def spDue : Sp := spSV fun o s m v => .int (dueM o s m v)
def spStands : Sp := spSV fun o s m v => .bl (decide ((v - o) % s = 0))
theorem dec_int (a b : Int) : decide (V.int a = V.int b) = decide (a = b) := by
  by_cases h : a = b
  · rw [decide_eq_true h, h, decide_eq_true rfl]
  · rw [decide_eq_false h, decide_eq_false (fun z => h (V.int.inj z))]
theorem dec_str (a b : Str) : decide (V.str a = V.str b) = decide (a = b) := by
  by_cases h : a = b
  · rw [decide_eq_true h, h, decide_eq_true rfl]
  · rw [decide_eq_false h, decide_eq_false (fun z => h (V.str.inj z))]
theorem dec_bl (a b : Bool) : decide (V.bl a = V.bl b) = decide (a = b) := by
  by_cases h : a = b
  · rw [decide_eq_true h, h, decide_eq_true rfl]
  · rw [decide_eq_false h, decide_eq_false (fun z => h (V.bl.inj z))]
theorem str_t {a b : Str} (h : decide (V.str a = V.str b) = true) : a = b := V.str.inj (of_decide_eq_true h)
theorem str_f {a b : Str} (h : ¬ decide (V.str a = V.str b) = true) : ¬ a = b := fun z => h (decide_eq_true (congrArg V.str z))
theorem int_t {a b : Int} (h : decide (V.int a = V.int b) = true) : a = b := V.int.inj (of_decide_eq_true h)
theorem int_f {a b : Int} (h : ¬ decide (V.int a = V.int b) = true) : ¬ a = b := fun z => h (decide_eq_true (congrArg V.int z))
theorem not_t {b : Bool} (h : (!b) = true) : ¬ b = true := by cases b <;> simp_all
theorem not_f {b : Bool} (h : ¬ (!b) = true) : b = true := by cases b <;> simp_all
theorem mode_in {m : Str} (h : Mode m) : inV (.str m) modesV = true := by
  rcases h with e | e | e | e | e <;> subst e <;> decide +kernel
theorem divp {o v s : Int} (hs : 1 ≤ s) (ho : -10 ^ 40 ≤ o ∧ o ≤ 10 ^ 40) (hv : Bd v) : CDivP (v - o) s := by
  refine divp_ok (by omega) ?_
  have h : (v - o).natAbs < 2 ^ 1010 := by
    have h1 := hv.1
    have h2 := hv.2
    omega
  have h2 : Builtin.Int.intBits (v - o) ≤ 1011 := by
    unfold Builtin.Int.intBits
    split
    · omega
    · have := PySem.Flt.log2_lt_of (by decide) h
      omega
  omega
theorem mulW {i j : Int} (hi : -2 ^ 1010 < i ∧ i < 2 ^ 1010) (hj : -2 ^ 1010 < j ∧ j < 2 ^ 1010) : CMulW i j := wide_mul (a := 1010) (b := 1010) (by omega) (by omega) (by decide) (by decide) (by decide)
theorem fig_bd {o s : Int} {m : Str} {v : Int} (S : SideP o s m) (hv : Bd v) : -2 ^ 1001 < figM o s m v ∧ figM o s m v < 2 ^ 1001 := by
  obtain ⟨h1, h2⟩ := hv
  obtain ⟨o0, o1, s0, s1, _⟩ := S
  have := div_bd (x := v - o) (b := 2 ^ 1000 + 10 ^ 40) s0 (by omega) (by omega)
  unfold figM
  split <;> omega
section
variable {P : Program} {w : World} {K : PySem.W.Frag} {mg : Str → Option Value} {base : Heap} {aM fI fB fV fC fG fF : Addr} {dI dB dV dC dG dF : FuncData}
theorem ok_is_int {f : Addr} {fd : FuncData} (F : Fun K "is_int" "is_int" s_is_int f fd) (T : SideT K mg aM) : FnOk P w K mg base CX0 1 f fd ["thing"] spIsInt := by
  refine F.ok sc_is_int (fun vs H Q E h => ?_) (fun cdv A outer s H vs Q E hr h => ?_)
  · obtain ⟨i, rfl, _⟩ := h
    rfl
  · obtain ⟨i, rfl, q⟩ := h
    refine ⟨_, pss_one (ps_ret (pe_and (pe_callB call_isi (by rfl) T.isi (by decide +kernel) (pa_cons (pv 0) (pa_cons (pe_bltn (v := .ty "int") (by rfl) T.int (by decide +kernel) rfl) pa_nil)))
      (pe_one (pe_not (pe_callB call_isi (by rfl) T.isi (by decide +kernel) (pa_cons (pv 0) (pa_cons (pe_bltn (v := .ty "bool") (by rfl) T.bool (by decide +kernel) rfl) pa_nil))))))), ?_⟩
    walk_at "rd"
    refine ⟨_, _, _, _, _, rfl, .ty "int", .base (.int _), kit_ty (r := true) (by decide +kernel), ?_⟩
    walk_at "rd"
    refine ⟨_, _, _, _, _, rfl, .ty "bool", .base (.int _), kit_ty (r := false) (by decide +kernel), ?_⟩
    walk_at "rd"
    exact q
theorem ok_between {f : Addr} {fd : FuncData} (F : Fun K "is_int_between" "is_int_between" s_is_int_between f fd) (I : Cal P w K mg base "is_int" 1 ["thing"] spIsInt fI dI) : FnOk P w K mg base CX0 2 f fd ["thing", "least", "most"] spBetween := by
  refine F.ok sc_is_int_between (fun vs H Q E h => ?_) (fun cdv A outer s H vs Q E hr h => ?_)
  · obtain ⟨i, a, b, rfl, _⟩ := h
    rfl
  · obtain ⟨i, a, b, rfl, q⟩ := h
    refine ⟨_, pss_one (ps_ret (pe_and (pcl I hr (by decide) (by rfl) (pa_cons (pv 0) pa_nil)) (pe_one (pe_chain op_le op_le (pv 1) (pv 0) (pv 2))))), ?_⟩
    walk_at "rd"
    refine ite2 (fun h => ?_) (fun h => ?_)
    · walk_at "rd"
      rw [decide_eq_true (of_decide_eq_true h)] at q
      exact q
    · rw [decide_eq_false (of_decide_eq_false (by simpa using h))] at q
      exact q
theorem ok_check_value {f : Addr} {fd : FuncData} (F : Fun K "check_value" "check_value" s_check_value f fd) (I : Cal P w K mg base "is_int" 1 ["thing"] spIsInt fI dI) : FnOk P w K mg base CX0 2 f fd ["value"] spCheckValue := by
  refine F.ok sc_check_value (fun vs H Q E h => ?_) (fun cdv A outer s H vs Q E hr h => ?_)
  · obtain ⟨i, rfl, _⟩ := h
    rfl
  · obtain ⟨i, rfl, q⟩ := h
    refine ⟨_, pss_one (ps_if (pt_not (pt_val (pcl I hr (by decide) (by rfl) (pa_cons (pv 0) pa_nil)))) (pss_one ps_never) pss_nil), ?_⟩
    walk_at "rd"
    exact q
theorem ok_check_side {f : Addr} {fd : FuncData} (F : Fun K "check_side" "check_side" s_check_side f fd) (T : SideT K mg aM) (B : Cal P w K mg base "is_int_between" 2 ["thing", "least", "most"] spBetween fB dB) : FnOk P w K mg base CX0 3 f fd ["side"] spCheckSide := by
  refine F.ok sc_check_side (fun vs H Q E h => ?_) (fun cdv A outer s H vs Q E hr h => ?_)
  · obtain ⟨p, o, s, m, rfl, _⟩ := h
    rfl
  · obtain ⟨p, o, s, m, rfl, hp, S, q⟩ := h
    have nd := sc_check_side.nd
    refine ⟨_, pss_cons (ps_if (PW.pt (pw_or (pt_not (pt_val (pe_callB call_isi (by rfl) T.isi (by decide +kernel) (pa_cons (pv 0) (pa_cons (pe_bltn (v := .ty "tuple") (by rfl) T.tuple (by decide +kernel) rfl) pa_nil)))))
        (pw_or1 (pt_cmpR op_ne (pe_callB call_len_seq (by rfl) T.len PySem.boot_len (pa_cons (pv 0) pa_nil)) pe_int (nomark _))))) (pss_one ps_never) pss_nil)
      (pss_cons (ps_asg (pv 0) (pg_tup (by rfl) (pgs_cons (pg_name (i := 1) nd rfl (Or.inl rfl)) (pgs_cons (pg_name (i := 2) nd rfl (Or.inl rfl)) (pgs_cons (pg_name (i := 3) nd rfl (Or.inl rfl)) pgs_nil)))))
      (pss_cons (ps_if (pt_not (pt_val (pcl B hr (by decide) (by rfl) (pa_cons (pv 1) (pa_cons (pe_un un_neg (pe_op op_pow pe_int pe_int)) (pa_cons (pe_op op_pow pe_int pe_int) pa_nil)))))) (pss_one ps_never) pss_nil)
      (pss_cons (ps_if (pt_not (pt_val (pcl B hr (by decide) (by rfl) (pa_cons (pv 2) (pa_cons pe_int (pa_cons (pe_op op_pow pe_int pe_int) pa_nil)))))) (pss_one ps_never) pss_nil)
      (pss_one (ps_if (pt_cmpR op_notIn_seq (pv 3) (pe_glob (v := .ref aM) (by rfl) T.gM rfl) (by rfl)) (pss_one ps_never) pss_nil))))), ?_⟩
    walk_at "rd"
    refine ⟨_, _, _, _, _, rfl, .ty "tuple", .base (.tup hp), kit_ty (r := true) (by decide +kernel), ?_⟩
    walk_at "rd"
    refine ⟨p, _, rfl, .inr (SqT.of hp), rfl, ?_⟩
    walk_at "rd"
    refine ⟨p, _, rfl, SqT.of hp, rfl, _, _, rfl, _, _, rfl, _, _, rfl, rfl, ?_⟩
    walk_at "rd"
    refine ⟨⟨by decide, by decide, by decide⟩, ?_⟩
    walk_at "rd"
    refine ⟨⟨by decide, by decide, by decide⟩, _, _, _, rfl, ?_⟩
    have e1 : (decide (-(10 : Int) ^ (40 : Int).toNat ≤ o) && decide (o ≤ (10 : Int) ^ (40 : Int).toNat)) = true := by
      rw [decide_eq_true (show -(10 : Int) ^ (40 : Int).toNat ≤ o from S.o0), decide_eq_true (show o ≤ (10 : Int) ^ (40 : Int).toNat from S.o1)]
      rfl
    refine ⟨_, rfl, ?_⟩
    refine ite2 (fun h => (not_t h e1).elim) (fun _ => ?_)
    walk_at "rd"
    refine ⟨⟨by decide, by decide, by decide⟩, _, _, _, rfl, ?_⟩
    have e2 : (decide ((1 : Int) ≤ s) && decide (s ≤ (10 : Int) ^ (30 : Int).toNat)) = true := by
      rw [decide_eq_true S.s0, decide_eq_true (show s ≤ (10 : Int) ^ (30 : Int).toNat from S.s1)]
      rfl
    refine ⟨_, rfl, ?_⟩
    refine ite2 (fun h => (not_t h e2).elim) (fun _ => ?_)
    walk_at "rd"
    refine ⟨aM, _, rfl, .inr (T.tM H), rfl, by decide, ?_⟩
    walk_at "rd"
    refine ite2 (fun h => (not_t h (mode_in S.md)).elim) (fun _ => ?_)
    exact q
end
end HT
namespace HT
open PySem L2
theorem due_le {o s : Int} {m : Str} {x y : Int} (hm : Mode m) (hs : 1 ≤ s) (h : x ≤ y) : dueM o s m x ≤ dueM o s m y := by
  obtain ⟨n, rfl⟩ : ∃ n : Nat, y = x + n := ⟨(y - x).toNat, by omega⟩
  clear h
  induction n with
  | zero => rw [show x + ((0 : Nat) : Int) = x by omega]; exact Int.le_refl _
  | succ n ih =>
    refine Int.le_trans ih ?_
    rw [show x + ((n + 1 : Nat) : Int) = x + (n : Int) + 1 by omega]
    exact due_mono hm hs
theorem due_lt {o s : Int} {m : Str} {x v : Int} (hm : Mode m) (hs : 1 ≤ s) : dueM o s m x < v ↔ x < backM o s m v := by
  constructor
  · intro h
    by_cases g : x < backM o s m v
    · exact g
    · have h1 := due_le (o := o) (s := s) hm hs (Int.not_lt.mp g)
      have h2 := back_ge (o := o) (v := v) hm hs
      omega
  · intro h
    have h1 := due_le (o := o) (s := s) hm hs (show x ≤ backM o s m v - 1 by omega)
    have h2 := back_lt (o := o) (v := v) hm hs
    omega
theorem due_more {o s : Int} {m : Str} {v : Int} (hm : Mode m) (hs : 1 ≤ s) (n : Nat) : dueM o s m (v + s * 2 * (n : Int)) = dueM o s m v + s * 2 * (n : Int) := by
  induction n with
  | zero => rw [show v + s * 2 * ((0 : Nat) : Int) = v by simp]; simp
  | succ n ih =>
    have e : s * 2 * ((n + 1 : Nat) : Int) = s * 2 * (n : Int) + s * 2 := by
      rw [show ((n + 1 : Nat) : Int) = (n : Int) + 1 by omega, Int.mul_add, Int.mul_one]
    rw [e, show v + (s * 2 * (n : Int) + s * 2) = v + s * 2 * (n : Int) + s * 2 by omega, due_two hm hs, ih]
    omega
theorem due_per {o s : Int} {m : Str} {v : Int} (hm : Mode m) (hs : 1 ≤ s) (t : Int) : dueM o s m (v + s * 2 * t) = dueM o s m v + s * 2 * t := by
  rcases Int.le_total 0 t with h | h
  · obtain ⟨n, rfl⟩ := Int.eq_ofNat_of_zero_le h
    exact due_more hm hs n
  · obtain ⟨n, hn⟩ := Int.eq_ofNat_of_zero_le (show 0 ≤ -t by omega)
    have := due_more (o := o) (v := v + s * 2 * t) hm hs n
    have e : s * 2 * (n : Int) = -(s * 2 * t) := by rw [← hn, Int.mul_neg]
    rw [e, show v + s * 2 * t + -(s * 2 * t) = v by omega] at this
    omega
/-- the order of the sides (o, s, m) and (p, u, q) matters for x -/
def diffX (o s : Int) (m : Str) (p u : Int) (q : Str) (x : Int) : Prop := dueM p u q (dueM o s m x) ≠ dueM o s m (dueM p u q x)
theorem diff_comm {o s : Int} {m : Str} {p u : Int} {q : Str} {x : Int} : diffX o s m p u q x ↔ diffX p u q o s m x := ⟨fun h e => h e.symm, fun h e => h e.symm⟩
def mx (i j : Int) : Int := if j > i then j else i
theorem mx_or (i j : Int) : (mx i j = i ∧ j ≤ i) ∨ (mx i j = j ∧ i < j) := by
  unfold mx
  split <;> omega
def firstM (o s : Int) (m : Str) (p u : Int) (q : Str) (k v : Int) : Option Int :=
  if ¬ (o + s * k - p) % u = 0 then some (mx (lowM o s m k) v)
  else if mx (lowM o s m k) v < backM p u q (lowM o s m k) then some (mx (lowM o s m k) v)
  else if mx (mx (lowM o s m k) v) (backM p u q (highM o s m k + 1)) ≤ highM o s m k then some (mx (mx (lowM o s m k) v) (backM p u q (highM o s m k + 1)))
  else none
section
variable {o s : Int} {m : Str} {p u : Int} {q : Str}
/-- x is the least one from v on with the property; none: there is none -/
def Fst (Pr : Int → Prop) (v : Int) : Option Int → Prop
  | some x => v ≤ x ∧ Pr x ∧ ∀ y, v ≤ y → y < x → ¬ Pr y
  | none => ∀ y, v ≤ y → ¬ Pr y
theorem off_lattice (hm : Mode m) (hq : Mode q) (hs : 1 ≤ s) (hu : 1 ≤ u) (hle : u ≤ s) {k x : Int} (hk : figM o s m x = k) (h : ¬ (o + s * k - p) % u = 0) : diffX o s m p u q x := by
  intro e
  have e1 : dueM o s m x = o + s * k := by unfold dueM; rw [hk]
  rw [e1] at e
  have n := due_near (o := p) (v := o + s * k) hq hu
  have ne : ¬ dueM p u q (o + s * k) = o + s * k := fun z => h ((due_eq hq hu).mpr z)
  obtain ⟨j, hj⟩ : ∃ j, dueM o s m (dueM p u q x) = o + s * j := ⟨_, rfl⟩
  rw [hj] at e
  rw [e] at n ne
  rcases Int.lt_trichotomy j k with z | z | z
  · have := mul_lt_step hs z
    omega
  · rw [z] at ne
    exact ne rfl
  · have := mul_lt_step hs z
    omega
theorem on_lattice (hm : Mode m) (hq : Mode q) (hs : 1 ≤ s) (hu : 1 ≤ u) {k x : Int} (hk : figM o s m x = k) (h : (o + s * k - p) % u = 0) : diffX o s m p u q x ↔ (x < backM p u q (lowM o s m k) ∨ backM p u q (highM o s m k + 1) ≤ x) := by
  have e1 : dueM o s m x = o + s * k := by unfold dueM; rw [hk]
  have e2 : dueM p u q (o + s * k) = o + s * k := (due_eq hq hu).mp h
  have e3 : dueM o s m (dueM p u q x) = o + s * k ↔ figM o s m (dueM p u q x) = k := by
    unfold dueM
    constructor
    · intro e
      rcases Int.lt_trichotomy (figM o s m (p + u * figM p u q x)) k with z | z | z
      · have := mul_lt_step hs z
        omega
      · exact z
      · have := mul_lt_step hs z
        omega
    · intro e
      rw [e]
  have e4 := fig_iff (o := o) (v := dueM p u q x) (k := k) hm hs
  have e5 := due_lt (o := p) (x := x) (v := lowM o s m k) hq hu
  have e6 := due_lt (o := p) (x := x) (v := highM o s m k + 1) hq hu
  unfold diffX
  rw [e1, e2]
  constructor
  · intro d
    have : ¬ figM o s m (dueM p u q x) = k := fun z => d (e3.mpr z).symm
    rw [e4] at this
    by_cases g : dueM p u q x < lowM o s m k
    · exact .inl (e5.mp g)
    · refine .inr (Int.not_lt.mp fun z => this ⟨by omega, ?_⟩)
      have := e6.mpr z
      omega
  · intro d e
    have g := e4.mp (e3.mp e.symm)
    rcases d with d | d
    · have := e5.mpr d
      omega
    · have : ¬ dueM p u q x < highM o s m k + 1 := fun z => by
        have := e6.mp z
        omega
      omega
theorem first_spec (hm : Mode m) (hq : Mode q) (hs : 1 ≤ s) (hu : 1 ≤ u) (hle : u ≤ s) {k v : Int} (hv : v ≤ highM o s m k) :
    Fst (fun y => figM o s m y = k ∧ diffX o s m p u q y) v (firstM o s m p u q k v) := by
  have lh := low_high (o := o) (k := k) hm hs
  have fi := fun y => fig_iff (o := o) (v := y) (k := k) hm hs
  unfold firstM
  rcases mx_or (lowM o s m k) v with ⟨e, c⟩ | ⟨e, c⟩
  all_goals
    rw [e]
    split
    · rename_i h
      refine ⟨by omega, ⟨(fi _).mpr ⟨by omega, by omega⟩, off_lattice hm hq hs hu hle ((fi _).mpr ⟨by omega, by omega⟩) h⟩, fun y y0 y1 z => ?_⟩
      have := (fi y).mp z.1
      omega
    · rename_i h
      have h := Decidable.not_not.mp h
      have on := fun y hy => on_lattice (x := y) hm hq hs hu hy h
      split
      · rename_i g
        refine ⟨by omega, ⟨(fi _).mpr ⟨by omega, by omega⟩, (on _ ((fi _).mpr ⟨by omega, by omega⟩)).mpr (.inl g)⟩, fun y y0 y1 z => ?_⟩
        have := (fi y).mp z.1
        omega
      · rename_i g
        split
        · rename_i w
          rcases mx_or (lowM o s m k) (backM p u q (highM o s m k + 1)) with ⟨e2, c2⟩ | ⟨e2, c2⟩ <;> rcases mx_or v (backM p u q (highM o s m k + 1)) with ⟨e3, c3⟩ | ⟨e3, c3⟩ <;>
          · first
              | rw [e2] at w ⊢
              | rw [e3] at w ⊢
            refine ⟨by omega, ⟨(fi _).mpr ⟨by omega, by omega⟩, (on _ ((fi _).mpr ⟨by omega, by omega⟩)).mpr (.inr (by omega))⟩, fun y y0 y1 z => ?_⟩
            have z1 := (fi y).mp z.1
            rcases (on y z.1).mp z.2 with z2 | z2 <;> omega
        · rename_i w
          intro y y0 z
          have z1 := (fi y).mp z.1
          rcases mx_or (lowM o s m k) (backM p u q (highM o s m k + 1)) with ⟨e2, c2⟩ | ⟨e2, c2⟩ <;> rcases mx_or v (backM p u q (highM o s m k + 1)) with ⟨e3, c3⟩ | ⟨e3, c3⟩ <;>
          · first
              | rw [e2] at w
              | rw [e3] at w
            rcases (on y z.1).mp z.2 with z2 | z2 <;> omega
/-- what the search in three neighbouring figures gives -/
def exchM (o s : Int) (m : Str) (p u : Int) (q : Str) (v : Int) : Option Int :=
  match firstM o s m p u q (figM o s m v) v with
  | some x => some x
  | none => match firstM o s m p u q (figM o s m v + 1) v with
    | some x => some x
    | none => firstM o s m p u q (figM o s m v + 2) v
theorem first_stands {k v : Int} (h : firstM o s m p u q k v = none) : (o + s * k - p) % u = 0 := by
  unfold firstM at h
  split at h
  · cases h
  · rename_i g
    exact Decidable.not_not.mp g
theorem step_mod (hu : 1 ≤ u) {k : Int} (h1 : (o + s * k - p) % u = 0) (h2 : (o + s * (k + 1) - p) % u = 0) : s % u = 0 := by
  rw [Int.mul_add, Int.mul_one] at h2
  have e : s = (o + (s * k + s) - p) - (o + s * k - p) := by omega
  rw [e, Int.sub_emod, h1, h2]
  simp
theorem diff_shift (hm : Mode m) (hq : Mode q) (hs : 1 ≤ s) (hu : 1 ≤ u) (hd : s % u = 0) (t x : Int) : diffX o s m p u q (x + s * 2 * t) ↔ diffX o s m p u q x := by
  obtain ⟨c, hc⟩ : ∃ c, s = u * c := ⟨s / u, by have := Int.mul_ediv_add_emod s u; omega⟩
  have es : ∀ y, dueM p u q (y + s * 2 * t) = dueM p u q y + s * 2 * t := fun y => by
    have e : s * 2 * t = u * 2 * (c * t) := by rw [hc, Int.mul_assoc, Int.mul_assoc, Int.mul_assoc, Int.mul_left_comm c 2 t]
    rw [e]
    exact due_per hq hu _
  have ew : ∀ y, dueM o s m (y + s * 2 * t) = dueM o s m y + s * 2 * t := fun y => due_per hm hs t
  unfold diffX
  rw [ew, es, es, ew]
  constructor <;> intro h e <;> exact h (by omega)
theorem fig_shift (hm : Mode m) (hs : 1 ≤ s) (t x : Int) : figM o s m (x + s * 2 * t) = figM o s m x + 2 * t := by
  have e := due_per (o := o) (v := x) hm hs t
  unfold dueM at e
  have e2 : s * 2 * t = s * (2 * t) := Int.mul_assoc _ _ _
  rw [e2] at e ⊢
  have e3 : s * figM o s m (x + s * (2 * t)) = s * (figM o s m x + 2 * t) := by rw [Int.mul_add]; omega
  exact Int.eq_of_mul_eq_mul_left (by omega) e3
/-- two neighbouring cells without a difference: none anywhere -/
theorem clean_all (hm : Mode m) (hq : Mode q) (hs : 1 ≤ s) (hu : 1 ≤ u) (hd : s % u = 0) {k : Int} (h1 : ∀ y, figM o s m y = k → ¬ diffX o s m p u q y) (h2 : ∀ y, figM o s m y = k + 1 → ¬ diffX o s m p u q y) : ∀ y, ¬ diffX o s m p u q y := by
  intro y z
  obtain ⟨j, hj⟩ : ∃ j, figM o s m y = j := ⟨_, rfl⟩
  obtain ⟨t, ht⟩ : ∃ t : Int, j + 2 * t = k ∨ j + 2 * t = k + 1 := ⟨(k + 1 - j) / 2, by omega⟩
  have f := fig_shift (o := o) hm hs t y
  rw [hj] at f
  have d := (diff_shift (o := o) (p := p) hm hq hs hu hd t y).mpr z
  rcases ht with e | e
  · exact h1 _ (f.trans e) d
  · exact h2 _ (f.trans e) d
/-- the search's answer -/
def ExchP (Pr : Int → Prop) (v : Int) : Option Int → Prop
  | some x => v ≤ x ∧ Pr x ∧ ∀ y, v ≤ y → y < x → ¬ Pr y
  | none => ∀ y, ¬ Pr y
theorem exch_uniq {Pr : Int → Prop} {v : Int} {a b : Option Int} (ha : ExchP Pr v a) (hb : ExchP Pr v b) : a = b := by
  cases a with
  | none =>
    cases b with
    | none => rfl
    | some y => exact absurd hb.2.1 (ha y)
  | some x =>
    cases b with
    | none => exact absurd ha.2.1 (hb x)
    | some y =>
      rcases Int.lt_trichotomy x y with z | z | z
      · exact absurd ha.2.1 (hb.2.2 x ha.1 z)
      · rw [z]
      · exact absurd hb.2.1 (ha.2.2 y hb.1 z)
theorem fig_le (hm : Mode m) (hs : 1 ≤ s) {x y : Int} (h : x ≤ y) : figM o s m x ≤ figM o s m y := by
  have := due_le (o := o) hm hs h
  unfold dueM at this
  by_cases g : figM o s m x ≤ figM o s m y
  · exact g
  · have := mul_lt_step hs (Int.not_le.mp g)
    omega
theorem exch_spec (hm : Mode m) (hq : Mode q) (hs : 1 ≤ s) (hu : 1 ≤ u) (hle : u ≤ s) {v : Int} : ExchP (diffX o s m p u q) v (exchM o s m p u q v) ∧ ∀ x, exchM o s m p u q v = some x → x ≤ v + 4 * s := by
  obtain ⟨k, hk⟩ : ∃ k, figM o s m v = k := ⟨_, rfl⟩
  have v0 := (fig_iff hm hs).mp hk
  have lh0 := low_high (o := o) (k := k) hm hs
  have lh1 := low_high (o := o) (k := k + 1) hm hs
  have lh2 := low_high (o := o) (k := k + 1 + 1) hm hs
  have n0 := low_next (o := o) k hm hs
  have n1 := low_next (o := o) (k + 1) hm hs
  have bb := below_bd (k := k) hm hs
  have b0 := below_bd (k := k) (mir_mode hm) hs
  have b2 := below_bd (k := k + 1 + 1) (mir_mode hm) hs
  have hb : highM o s m (k + 1 + 1) ≤ v + 4 * s := by
    have e : s * (k + 1 + 1) = s * k + s + s := by rw [Int.mul_add, Int.mul_add, Int.mul_one]
    unfold highM lowM at *
    omega
  have s0 := first_spec (o := o) (p := p) (v := v) (k := k) hm hq hs hu hle (by omega)
  have s1 := first_spec (o := o) (p := p) (v := v) (k := k + 1) hm hq hs hu hle (by omega)
  have s2 := first_spec (o := o) (p := p) (v := v) (k := k + 1 + 1) hm hq hs hu hle (by omega)
  unfold exchM
  rw [hk, show k + 2 = k + 1 + 1 by omega]
  cases f0 : firstM o s m p u q k v with
  | some x =>
    rw [f0] at s0
    have := (fig_iff hm hs).mp s0.2.1.1
    refine ⟨⟨s0.1, s0.2.1.2, fun y y0 y1 d => s0.2.2 y y0 y1 ⟨?_, d⟩⟩, fun x' e => by cases e; omega⟩
    exact (fig_iff hm hs).mpr ⟨by omega, by omega⟩
  | none =>
    rw [f0] at s0
    have c0 : ∀ y, v ≤ y → figM o s m y = k → ¬ diffX o s m p u q y := fun y y0 e d => s0 y y0 ⟨e, d⟩
    cases f1 : firstM o s m p u q (k + 1) v with
    | some x =>
      rw [f1] at s1
      have := (fig_iff hm hs).mp s1.2.1.1
      refine ⟨⟨s1.1, s1.2.1.2, fun y y0 y1 d => ?_⟩, fun x' e => by cases e; omega⟩
      by_cases z : y ≤ highM o s m k
      · exact c0 y y0 ((fig_iff hm hs).mpr ⟨by omega, by omega⟩) d
      · exact s1.2.2 y y0 y1 ⟨(fig_iff hm hs).mpr ⟨by omega, by omega⟩, d⟩
    | none =>
      rw [f1] at s1
      have c1 : ∀ y, v ≤ y → figM o s m y = k + 1 → ¬ diffX o s m p u q y := fun y y0 e d => s1 y y0 ⟨e, d⟩
      cases f2 : firstM o s m p u q (k + 1 + 1) v with
      | some x =>
        rw [f2] at s2
        have := (fig_iff hm hs).mp s2.2.1.1
        refine ⟨⟨s2.1, s2.2.1.2, fun y y0 y1 d => ?_⟩, fun x' e => by cases e; omega⟩
        by_cases z : y ≤ highM o s m k
        · exact c0 y y0 ((fig_iff hm hs).mpr ⟨by omega, by omega⟩) d
        by_cases z2 : y ≤ highM o s m (k + 1)
        · exact c1 y y0 ((fig_iff hm hs).mpr ⟨by omega, by omega⟩) d
        · exact s2.2.2 y y0 y1 ⟨(fig_iff hm hs).mpr ⟨by omega, by omega⟩, d⟩
      | none =>
        rw [f2] at s2
        refine ⟨?_, fun x' e => by cases e⟩
        refine clean_all hm hq hs hu (step_mod hu (first_stands f0) (first_stands f1)) (k := k + 1) (fun y e d => s1 y ?_ ⟨e, d⟩) (fun y e d => s2 y ?_ ⟨e, d⟩)
        · have := (fig_iff hm hs).mp e
          omega
        · have := (fig_iff hm hs).mp e
          omega
end
end HT
namespace HT
open PySem L2
def EdgeP (p u : Int) (q : Str) (e : Int) : Prop := e = lowM p u q ((e - p) / u) ∨ e = lowM p u q ((e - p) / u + 1)
section
variable {o s : Int} {m : Str} {p u : Int} {q : Str}
theorem back_low (hq : Mode q) (hu : 1 ≤ u) (j : Int) : backM p u q (lowM p u q j) = lowM p u q j := by
  have f0 := fig_low (o := p) (s := u) j hq hu
  have f1 := fig_low1 (o := p) (s := u) j hq hu
  have bb := below_bd (k := j) hq hu
  have a := due_lt (o := p) (s := u) (x := lowM p u q j) (v := lowM p u q j) hq hu
  have b := due_lt (o := p) (s := u) (x := lowM p u q j - 1) (v := lowM p u q j) hq hu
  have e0 : dueM p u q (lowM p u q j) = p + u * j := by unfold dueM; rw [f0]
  have e1 : dueM p u q (lowM p u q j - 1) = p + u * j - u := by unfold dueM; rw [f1, Int.mul_sub, Int.mul_one]; omega
  rw [e0] at a
  rw [e1] at b
  have hl : lowM p u q j = p + u * j - below q u j := rfl
  omega
theorem edge_iff (hq : Mode q) (hu : 1 ≤ u) {e : Int} : EdgeP p u q e ↔ backM p u q e = e := by
  constructor
  · rintro (h | h)
    · rw [h]; exact back_low hq hu _
    · rw [h]; exact back_low hq hu _
  · intro h
    have hc : lowM p u q (ceilM p u e) = e := h
    have ce := ceil_eq (o := p) (v := e) hu
    have d0 := Int.mul_ediv_add_emod (e - p) u
    have d1 := Int.emod_nonneg (e - p) (show u ≠ 0 by omega)
    have d2 := Int.emod_lt_of_pos (e - p) (show 0 < u by omega)
    unfold EdgeP
    generalize ceilM p u e = c at *
    generalize (e - p) / u = f at *
    rcases Int.lt_trichotomy c f with z | z | z
    · have := mul_lt_step hu z
      omega
    · rw [← z]; exact .inl hc.symm
    · rcases Int.lt_trichotomy c (f + 1) with y | y | y
      · omega
      · rw [← y]; exact .inr hc.symm
      · have := mul_lt_step hu (show f + 1 < c by omega)
        have e2 : u * (f + 1) = u * f + u := by rw [Int.mul_add, Int.mul_one]
        have e3 : u * (c - 1) = u * c - u := by rw [Int.mul_sub, Int.mul_one]
        omega
theorem on_all (hu : 1 ≤ u) (h1 : s % u = 0) (h2 : (o - p) % u = 0) (k : Int) : (o + s * k - p) % u = 0 := by
  rw [show o + s * k - p = (o - p) + s * k by omega, Int.add_emod, h2, Int.mul_emod, h1]
  simp
/-- the order never matters just so -/
theorem never_iff (hm : Mode m) (hq : Mode q) (hs : 1 ≤ s) (hu : 1 ≤ u) (hle : u ≤ s) : (s % u = 0 ∧ (o - p) % u = 0 ∧ ∀ i : Nat, i < 6 → EdgeP p u q (lowM o s m (i : Int))) ↔ ∀ x, ¬ diffX o s m p u q x := by
  constructor
  · rintro ⟨h1, h2, h3⟩
    have cell : ∀ k : Int, backM p u q (lowM o s m k) = lowM o s m k → backM p u q (lowM o s m (k + 1)) = lowM o s m (k + 1) → ∀ y, figM o s m y = k → ¬ diffX o s m p u q y := fun k b0 b1 y hy d => by
      have n0 := low_next (o := o) k hm hs
      have := (fig_iff hm hs).mp hy
      rcases (on_lattice hm hq hs hu hy (on_all hu h1 h2 k)).mp d with z | z
      · omega
      · rw [← n0] at z
        omega
    have b0 := (edge_iff hq hu).mp (h3 0 (by decide))
    have b1 := (edge_iff hq hu).mp (h3 1 (by decide))
    have b2 := (edge_iff hq hu).mp (h3 2 (by decide))
    exact clean_all hm hq hs hu h1 (k := 0) (cell 0 b0 b1) (cell 1 b1 b2)
  · intro h
    have st : ∀ k : Int, (o + s * k - p) % u = 0 := fun k => by
      by_cases z : (o + s * k - p) % u = 0
      · exact z
      · exact absurd (off_lattice hm hq hs hu hle (fig_at hm hs) z) (h _)
    refine ⟨step_mod hu (st 0) (st (0 + 1)), ?_, fun i _ => (edge_iff hq hu).mpr ?_⟩
    · have := st 0
      rw [Int.mul_zero, Int.add_zero] at this
      exact this
    · generalize (i : Int) = k
      have f0 := fig_low (o := o) k hm hs
      have f1 := fig_low1 (o := o) k hm hs
      have a := fun z => h _ ((on_lattice hm hq hs hu f0 (st k)).mpr z)
      have b := fun z => h _ ((on_lattice hm hq hs hu f1 (st (k - 1))).mpr z)
      have hp := high_prev (o := o) k hm hs
      rw [show highM o s m (k - 1) + 1 = lowM o s m k by omega] at b
      have a1 : ¬ lowM o s m k < backM p u q (lowM o s m k) := fun z => a (.inl z)
      have b1 : ¬ backM p u q (lowM o s m k) ≤ lowM o s m k - 1 := fun z => b (.inr z)
      omega
/-- a period on -/
theorem diff_per (hm : Mode m) (hq : Mode q) (hs : 1 ≤ s) (hu : 1 ≤ u) (t x : Int) : diffX o s m p u q (x + 2 * s * u * t) ↔ diffX o s m p u q x := by
  have ew : ∀ y, dueM o s m (y + 2 * s * u * t) = dueM o s m y + 2 * s * u * t := fun y => by
    rw [show 2 * s * u * t = s * 2 * (u * t) by rw [Int.mul_comm 2 s, Int.mul_assoc (s * 2)]]
    exact due_per hm hs _
  have es : ∀ y, dueM p u q (y + 2 * s * u * t) = dueM p u q y + 2 * s * u * t := fun y => by
    rw [show 2 * s * u * t = u * 2 * (s * t) by rw [Int.mul_comm 2 s, Int.mul_right_comm s 2 u, Int.mul_comm s u, Int.mul_assoc u s 2, Int.mul_comm s 2, Int.mul_assoc, Int.mul_assoc, Int.mul_assoc]]
    exact due_per hq hu _
  unfold diffX
  rw [ew, es, es, ew]
  constructor <;> intro h e <;> exact h (by omega)
end
end HT
namespace L2
open PySem PySem.Spec PyProof.Rows
/-- the turns of a long range's own iterator -/
theorem long_turn {P : Program} {w : World} {K : PySem.W.Frag} {tg : Expr} (at0 : Addr) (fro : Int) (many : Nat) : Turn P w K tg (Itr fro many) [at0] at0 (fun k hp => IsLongIter hp at0 (fro + (k : Nat) * 1) ((many : Int) - (k : Nat)) 1) where
  mem := List.mem_cons_self
  obj := fun k hp there c hc => by
    cases List.mem_singleton.mp hc
    refine ⟨_, there, fun v z => ?_⟩
    have y : Data.fields _ = Data.cell v := z
    cases y
  keep := fun k hp hp2 there same => same at0 List.mem_cons_self _ there
  item := by
    intro X eP ew eK calm k pins sh st H E inv fits there goes
    subst eP ew eK
    obtain ⟨g0, g1, g2, g3, g4, g5⟩ := fits at0 List.mem_cons_self
    have way := Walks.longrange (prog := X.prog) (w := X.w) (inv.ok.hd calm) at0 fro 1 many
    refine way.item k sh _ _ goes there fun u heap2 tok2 same there2 kept => ?_
    obtain ⟨tt, rfl⟩ := same
    have inv2 : Inv X pins st H { sh with heap := heap2, toks := tok2 } := inv.turned (fun c oo hc e => kept c oo (by simpa using hc) e) g0 g1 g3 g4 g5
    refine ⟨_, rfl, go_of (s := { sh with heap := heap2, toks := tok2 }) (n := "longrange_iterator") there2 rfl rfl (by decide) ?_⟩
    exact ⟨.int (fro + k), H, inv2, ⟨tt, by rw [Int.mul_one]⟩, ⟨rfl, rfl⟩, there2, fun c hc => (fits c hc).1⟩
  done := by
    intro X eP ew eK calm k pins sh st H E inv fits there goes
    subst eP ew eK
    obtain ⟨g0, g1, g2, g3, g4, g5⟩ := fits at0 List.mem_cons_self
    have le : many ≤ k := goes
    exact wpAny_pyNext_long_end (inv.ok.hd calm) there (by omega) fun heap2 bare => ⟨rfl, inv.turned (t' := sh.toks) (fun c oo hc e => bare c oo hc e) g0 g1 g3 g4 g5⟩
  self := fun _ _ _ _ _ there hq => wpAny_pyIter_longiter there hq
section
variable {X : Cx} {tg : Expr}
/-- a range of any ends, just made, walked -/
theorem any_range_it {pins : List (Addr × Obj)} {st : St} {H : Hp} {sh : Shared} {R : It → Hp → Prop} {E : Value → Shared → Prop} {fro til : Int} {t u v : Tok} {tk : Nat} (inv : Inv X pins st H sh) (q : R (Itr fro (til - fro).toNat) H) :
    wpAny (model X.prog X.w) X.A (pyIter (.ref sh.heap.objs.size)) (PIE X pins st tg R) E { sh with heap := sh.heap.push { cls := .type "range", data := .fields #[.int fro t, .int til u, .int 1 v] }, toks := tk } := by
  obtain ⟨hp1, eh⟩ : ∃ hp1, hp1 = sh.heap.push { cls := .type "range", data := .fields #[.int fro t, .int til u, .int 1 v] } := ⟨_, rfl⟩
  have inv1 : Inv X pins st H { sh with heap := hp1, toks := tk } := eh ▸ inv.kept fun c oo e => Heap.get?_push_of_some _ e
  have isr : IsRange hp1 sh.heap.objs.size fro til 1 t u v := eh ▸ IsRange.new ..
  rw [← eh]
  have size : Builtin.Range.rangeSize fro til 1 = (((til - fro).toNat : Nat) : Int) - ((0 : Nat) : Int) := by
    rw [rangeSize_one]
    split <;> omega
  have zero : fro = fro + ((0 : Nat) : Int) * 1 := by omega
  cases sm : Builtin.Range.small fro til 1 with
  | true =>
    refine wpAny_pyIter_range isr sm ⟨hp1.objs.size, [hp1.objs.size], _, _, H, rfl, inv1.kept (t' := tk) fun c oo e => Heap.get?_push_of_some _ e, turn_range _ fro (til - fro).toNat, ?_, fun c hc => ?_, q⟩
    · show IsRangeIter _ hp1.objs.size (fro + ((0 : Nat) : Int) * 1) _ 1
      rw [size, ← zero]
      exact Heap.get?_push_size _ rfl
    · cases List.mem_singleton.mp hc
      exact inv1.fpOk (Nat.le_refl _) (inv1.hok.fresh (Nat.le_refl _))
  | false =>
    refine wpAny_pyIter_longrange isr sm ⟨hp1.objs.size, [hp1.objs.size], _, _, H, rfl, inv1.kept (t' := tk) fun c oo e => Heap.get?_push_of_some _ e, long_turn _ fro (til - fro).toNat, ?_, fun c hc => ?_, q⟩
    · show IsLongIter _ hp1.objs.size (fro + ((0 : Nat) : Int) * 1) _ 1
      rw [size, ← zero]
      exact Heap.get?_push_size _ rfl
    · cases List.mem_singleton.mp hc
      exact inv1.fpOk (Nat.le_refl _) (inv1.hok.fresh (Nat.le_refl _))
def iRngW (ta : TA) : TI := fun st H R => ta st H fun vs H1 => ∃ fro til : Int, vs = [.int fro, .int til] ∧ R (Itr fro (til - fro).toNat) H1
/-- range(a, b) of numbers of any size -/
theorem pi_rangeW {a b : Expr} {ta : TA} {p pos : Pos} (hg : Gl X "range") (hm : X.mg "range" = none) (ha : PA X [a, b] ta) (e1 : starEach [a, b] X.env = [(false, eval a X.env), (false, eval b X.env)] := by rfl) (e2 : starEach [b] X.env = [(false, eval b X.env)] := by rfl) : PI X tg (.Call (.Name "range" p) [a, b] [] pos) (iRngW ta) where
  run := fun pins sh st H R inv want => by
    refine Call_ (ld_blt inv hg hm boot_range (PyProof.Rows.callWith_type1 (thn (ha.run pos pins sh st H _ inv want) ?_) (by rw [e1, e2]) (by rw [e2]; rfl)))
    rintro us sh1 ⟨vs, H1, inv1, rel, fro, til, rfl, q⟩
    match us, rel with
    | [_, _], .cons ⟨_, rfl⟩ (.cons ⟨_, rfl⟩ .nil) => exact call_range_2 (any_range_it inv1 q)
end
end L2
namespace HT
open PySem L2
section
variable {P : Program} {w : World} {K : PySem.W.Frag} {mg : Str → Option Value} {base : Heap} {aM fI fB fV fC fG fF : Addr} {dI dB dV dC dG dF : FuncData}
theorem ok_goes_up {f : Addr} {fd : FuncData} (F : Fun K "_goes_up" "_goes_up" s_goes_up f fd) : FnOk P w K mg base CX0 1 f fd ["mode", "step", "figure", "rest"] spGo := by
  refine F.ok sc_goes_up (fun vs H Q E h => ?_) (fun cdv A outer s H vs Q E hr h => ?_)
  · obtain ⟨m, s, q, r, rfl, _⟩ := h
    rfl
  · obtain ⟨m, s, fg, r, rfl, q⟩ := h
    refine ⟨_, pss_cons (ps_if (pt_cmpR op_eq (pv 0) pe_str (nomark _)) (pss_one (ps_ret pe_bl)) pss_nil)
      (pss_cons (ps_if (pt_cmpR op_eq (pv 0) pe_str (nomark _)) (pss_one (ps_ret (pe_cmpR op_gt (pv 3) pe_int (nomark _)))) pss_nil)
      (pss_cons (ps_if (pt_cmpR op_ne (pe_op op_mul pe_int (pv 3)) (pv 1) (nomark _)) (pss_one (ps_ret (pe_cmpR op_gt (pe_op op_mul pe_int (pv 3)) (pv 1) (nomark _)))) pss_nil)
      (pss_cons (ps_if (pt_cmpR op_eq (pv 0) pe_str (nomark _)) (pss_one (ps_ret (pe_cmpR op_eq (pe_op op_mod (pv 2) pe_int) pe_int (nomark _)))) pss_nil)
      (pss_one (ps_ret (pe_cmpR op_eq (pv 0) pe_str (nomark _))))))), ?_⟩
    unfold goesUp at q
    walk_at "rd"
    refine ⟨rfl, ?_⟩
    walk_at "rd"
    refine ite2 (fun h => ?_) (fun h1 => ?_)
    · rw [if_pos (str_t h)] at q
      exact q
    rw [if_neg (str_f h1)] at q
    walk_at "rd"
    refine ⟨rfl, ?_⟩
    walk_at "rd"
    refine ite2 (fun h => ?_) (fun h2 => ?_)
    · rw [if_pos (str_t h)] at q
      walk_at "rd"
      exact q
    rw [if_neg (str_f h2)] at q
    walk_at "rd"
    refine ⟨.inl ⟨by decide, by decide⟩, ?_⟩
    walk_at "rd"
    refine ⟨rfl, ?_⟩
    walk_at "rd"
    refine ite2 (fun h => ?_) (fun h3 => ?_)
    · rw [if_neg (int_f (not_t h))] at q
      walk_at "rd"
      refine ⟨.inl ⟨by decide, by decide⟩, ?_⟩
      walk_at "rd"
      exact q
    rw [if_pos (int_t (not_f h3))] at q
    walk_at "rd"
    refine ⟨rfl, ?_⟩
    walk_at "rd"
    refine ite2 (fun h => ?_) (fun h4 => ?_)
    · rw [if_pos (str_t h), ← dec_int] at q
      walk_at "rd"
      refine ⟨(by show (0 : Int) < 2; decide), ?_⟩
      walk_at "rd"
      exact ⟨rfl, q⟩
    · rw [if_neg (str_f h4), ← dec_str] at q
      walk_at "rd"
      exact ⟨rfl, q⟩
theorem ok_figure {f : Addr} {fd : FuncData} (F : Fun K "_figure" "_figure" s_figure f fd) (T : SideT K mg aM)
    (G : Cal P w K mg base "_goes_up" 1 ["mode", "step", "figure", "rest"] spGo fG dG) : FnOk P w K mg base CX0 2 f fd ["side", "value"] spFig := by
  refine F.ok sc_figure (fun vs H Q E h => ?_) (fun cdv A outer s H vs Q E hr h => ?_)
  · obtain ⟨p, o, s, m, v, rfl, _⟩ := h
    rfl
  · obtain ⟨p, o, s, m, v, rfl, hp, S, hv, q⟩ := h
    have nd := sc_figure.nd
    refine ⟨_, pss_cons (ps_asg (pv 0) (pg_tup (by rfl) (pgs_cons (pg_name (i := 2) nd rfl (Or.inl rfl)) (pgs_cons (pg_name (i := 3) nd rfl (Or.inl rfl)) (pgs_cons (pg_name (i := 4) nd rfl (Or.inl rfl)) pgs_nil)))))
      (pss_cons (ps_asg (pe_callB call_divmodW (by rfl) T.dm (by decide +kernel) (pa_cons (pe_op op_sub (pv 1) (pv 2)) (pa_cons (pv 3) pa_nil))) (pg_tup (by rfl) (pgs_cons (pg_name (i := 5) nd rfl (Or.inl rfl)) (pgs_cons (pg_name (i := 6) nd rfl (Or.inl rfl)) pgs_nil))))
      (pss_cons (ps_if (pt_val (pcl G hr (by decide) (by rfl) (pa_cons (pv 4) (pa_cons (pv 3) (pa_cons (pv 5) (pa_cons (pv 6) pa_nil)))))) (pss_one (ps_ret (pe_op op_add (pv 5) pe_int))) pss_nil)
      (pss_one (ps_ret (pv 5))))), ?_⟩
    walk_at "rd"
    refine ⟨p, _, rfl, SqT.of hp, rfl, _, _, rfl, _, _, rfl, _, _, rfl, rfl, ?_⟩
    walk_at "rd"
    refine ⟨_, _, rfl, divp S.s0 ⟨S.o0, S.o1⟩ hv, fun d nd' => ?_⟩
    refine ⟨d, _, rfl, SqT.of upd_same, rfl, _, _, rfl, _, _, rfl, rfl, ?_⟩
    have sm : Same H (upd H d (.tup [.int ((v - o) / s), .int ((v - o) % s)])) := fun b u z => by rw [upd_ne (ne_of_none z nd')]; exact z
    have q' : Q (.int (figM o s m v)) (upd H d (.tup [.int ((v - o) / s), .int ((v - o) % s)])) := q _ sm
    unfold figM at q'
    walk_at "rd"
    refine ⟨_, _, _, _, rfl, ?_⟩
    walk_at "rd"
    refine ite2 (fun h => ?_) (fun h => ?_)
    · rw [if_pos h] at q'
      walk_at "rd"
      exact q'
    · rw [if_neg h] at q'
      walk_at "rd"
      exact q'
theorem ok_figure_of {f : Addr} {fd : FuncData} (F : Fun K "figure_of" "figure_of" s_figure_of f fd) (C : Cal P w K mg base "check_side" 3 ["side"] spCheckSide fC dC) (V' : Cal P w K mg base "check_value" 2 ["value"] spCheckValue fV dV)
    (G : Cal P w K mg base "_figure" 2 ["side", "value"] spFig fF dF) : FnOk P w K mg base CX0 4 f fd ["side", "value"] spFig := by
  refine F.ok sc_figure_of (fun vs H Q E h => ?_) (fun cdv A outer s H vs Q E hr h => ?_)
  · obtain ⟨p, o, s, m, v, rfl, _⟩ := h
    rfl
  · obtain ⟨p, o, s, m, v, rfl, hp, S, hv, q⟩ := h
    refine ⟨_, pss_cons (ps_expr (pcl C hr (by decide) (by rfl) (pa_cons (pv 0) pa_nil)))
      (pss_cons (ps_expr (pcl V' hr (by decide) (by rfl) (pa_cons (pv 1) pa_nil)))
      (pss_one (ps_ret (pcl G hr (by decide) (by rfl) (pa_cons (pv 0) (pa_cons (pv 1) pa_nil)))))), ?_⟩
    walk_at "rd"
    refine ⟨p, o, s, m, rfl, hp, S, ?_⟩
    walk_at "rd"
    exact ⟨p, o, s, m, v, rfl, hp, S, hv, q⟩
end
end HT
namespace HT
open PySem L2
structure MirT (K : PySem.W.Frag) (w : World) (mg : Str → Option Value) (aR : Addr) : Prop where
  gR : mg "MIRRORED" = some (.ref aR)
  dR : ∀ m, Mode m → KDct K w aR m (.str (mir m))
def BdK (x : Int) : Prop := -2 ^ 720 < x ∧ x < 2 ^ 720
def spBelow : Sp := fun vs H Q _ => ∃ (m : Str) (s k : Int), vs = [.str m, .int s, .int k] ∧ Mode m ∧ Q (.int (below m s k)) H
def spSpan : Sp := fun vs H Q _ => ∃ (p : Addr) (o s : Int) (m : Str) (k : Int), vs = [.ref p, .int k] ∧ H p = some (sideV o s m) ∧ SideP o s m ∧ BdK k ∧
  ∀ (d : Addr) (H' : Hp), Same H H' → H d = none → H' d = some (.tup [.int (lowM o s m k), .int (highM o s m k)]) → Q (.ref d) H'
def spBack : Sp := fun vs H Q _ => ∃ (p : Addr) (o s : Int) (m : Str) (v : Int), vs = [.ref p, .int v] ∧ H p = some (sideV o s m) ∧ SideP o s m ∧ -2 ^ 700 < v ∧ v < 2 ^ 700 ∧
  ∀ H' : Hp, Same H H' → Q (.int (backM o s m v)) H'
theorem bdK_bd {x : Int} (h : BdK x) : Bd x := by
  unfold BdK at h
  unfold Bd
  omega
section
variable {P : Program} {w : World} {K : PySem.W.Frag} {mg : Str → Option Value} {base : Heap} {aM aR fV fC fB fS : Addr} {dV dC dB dS : FuncData}
theorem ok_below {f : Addr} {fd : FuncData} (F : Fun K "_below" "_below" s_below f fd) : FnOk P w K mg base CX0 1 f fd ["mode", "step", "figure"] spBelow := by
  refine F.ok sc_below (fun vs H Q E h => ?_) (fun cdv A outer s H vs Q E hr h => ?_)
  · obtain ⟨m, s, k, rfl, _⟩ := h
    rfl
  · obtain ⟨m, s, k, rfl, hm, q⟩ := h
    refine ⟨_, pss_cons (ps_if (pt_cmpR op_eq (pv 0) pe_str (nomark _)) (pss_one (ps_ret pe_int)) pss_nil)
      (pss_cons (ps_if (pt_cmpR op_eq (pv 0) pe_str (nomark _)) (pss_one (ps_ret (pe_op op_sub (pv 1) pe_int))) pss_nil)
      (pss_cons (ps_if (PW.pt (pw_or (pt_cmpR op_eq (pv 0) pe_str (nomark _)) (pw_or1 (PW.pt (pw_and (pt_cmpR op_eq (pv 0) pe_str (nomark _)) (pw_and1 (pt_cmpR op_eq (pe_op op_mod (pv 2) pe_int) pe_int (nomark _)))))))) (pss_one (ps_ret (pe_op op_fdiv (pv 1) pe_int))) pss_nil)
      (pss_one (ps_ret (pe_op op_fdiv (pe_op op_sub (pv 1) pe_int) pe_int))))), ?_⟩
    have d2 : ∀ (i : Int), CDiv i 2 := fun _ => ⟨by decide, by decide⟩
    unfold below at q
    walk_at "rd"
    refine ⟨rfl, ?_⟩
    walk_at "rd"
    refine ite2 (fun h => ?_) (fun h1 => ?_)
    · rw [if_pos (str_t h)] at q
      walk_at "rd"
      exact q
    rw [if_neg (str_f h1)] at q
    walk_at "rd"
    refine ⟨rfl, ?_⟩
    walk_at "rd"
    refine ite2 (fun h => ?_) (fun h2 => ?_)
    · rw [if_pos (str_t h)] at q
      walk_at "rd"
      exact q
    rw [if_neg (str_f h2)] at q
    walk_at "rd"
    refine ⟨rfl, ?_⟩
    walk_at "rd"
    refine ite2 (fun h => ?_) (fun h3 => ?_)
    · rw [if_pos (.inl (str_t h))] at q
      walk_at "rd"
      refine ⟨d2 _, ?_⟩
      walk_at "rd"
      exact q
    walk_at "rd"
    refine ⟨rfl, ?_⟩
    walk_at "rd"
    refine ite2 (fun h => ?_) (fun h4 => ?_)
    · walk_at "rd"
      refine ⟨(by show (0 : Int) < 2; decide), ?_⟩
      walk_at "rd"
      refine ⟨rfl, ?_⟩
      walk_at "rd"
      refine ite2 (fun g => ?_) (fun g => ?_)
      · rw [if_pos (.inr ⟨str_t h, int_t g⟩)] at q
        walk_at "rd"
        refine ⟨d2 _, ?_⟩
        walk_at "rd"
        exact q
      · rw [if_neg (by rintro (z | ⟨_, z⟩); exact str_f h3 z; exact int_f g z)] at q
        walk_at "rd"
        refine ⟨d2 _, ?_⟩
        walk_at "rd"
        exact q
    · rw [if_neg (by rintro (z | ⟨z, _⟩); exact str_f h3 z; exact str_f h4 z)] at q
      walk_at "rd"
      refine ⟨d2 _, ?_⟩
      walk_at "rd"
      exact q
theorem ok_uspan {f : Addr} {fd : FuncData} (F : Fun K "_span" "_span" s_uspan f fd) (R : MirT K w mg aR)
    (B : Cal P w K mg base "_below" 1 ["mode", "step", "figure"] spBelow fB dB) : FnOk P w K mg base CX0 2 f fd ["side", "figure"] spSpan := by
  refine F.ok sc_uspan (fun vs H Q E h => ?_) (fun cdv A outer s H vs Q E hr h => ?_)
  · obtain ⟨p, o, s, m, k, rfl, _⟩ := h
    rfl
  · obtain ⟨p, o, s, m, k, rfl, hp, S, hk, q⟩ := h
    have nd := sc_uspan.nd
    refine ⟨_, pss_cons (ps_asg (pv 0) (pg_tup (by rfl) (pgs_cons (pg_name (i := 2) nd rfl (Or.inl rfl)) (pgs_cons (pg_name (i := 3) nd rfl (Or.inl rfl)) (pgs_cons (pg_name (i := 4) nd rfl (Or.inl rfl)) pgs_nil)))))
      (pss_cons (ps_set (i := 5) nd rfl (Or.inl rfl) (pe_op op_add (pv 2) (pe_op op_mulW (pv 3) (pv 1))))
      (pss_one (ps_ret (pe_tup (pa_cons (pe_op op_sub (pv 5) (pcl B hr (by decide) (by rfl) (pa_cons (pv 4) (pa_cons (pv 3) (pa_cons (pv 1) pa_nil)))))
        (pa_cons (pe_op op_add (pv 5) (pcl B hr (by decide) (by rfl) (pa_cons (pe_ix ix_kdict (pe_glob (v := .ref aR) (by rfl) R.gR rfl) (pv 4) (fun _ _ => rfl)) (pa_cons (pv 3) (pa_cons (pv 1) pa_nil))))) pa_nil)))))), ?_⟩
    walk_at "rd"
    refine ⟨p, _, rfl, SqT.of hp, rfl, _, _, rfl, _, _, rfl, _, _, rfl, rfl, ?_⟩
    have s0 := S.s0
    have s1 := S.s1
    have hk' := hk
    unfold BdK at hk'
    walk_at "rd"
    refine ⟨mulW (by omega) (by omega), ?_⟩
    walk_at "rd"
    refine ⟨m, s, k, rfl, S.md, ?_⟩
    walk_at "rd"
    refine ⟨aR, m, _, rfl, rfl, R.dR m S.md, ?_⟩
    walk_at "rd"
    refine ⟨mir m, s, k, rfl, mir_mode S.md, ?_⟩
    walk_at "rd"
    refine ⟨(by show 2 ≤ sizeLine; decide), fun d nd' => ?_⟩
    exact q d _ (fun b u z => (upd_ne (ne_of_none z nd')).trans z) nd' upd_same
theorem ok_span {f : Addr} {fd : FuncData} (F : Fun K "span" "span" s_span f fd) (C : Cal P w K mg base "check_side" 3 ["side"] spCheckSide fC dC) (V' : Cal P w K mg base "check_value" 2 ["value"] spCheckValue fV dV)
    (G : Cal P w K mg base "_span" 2 ["side", "figure"] spSpan fS dS) : FnOk P w K mg base CX0 4 f fd ["side", "figure"] spSpan := by
  refine F.ok sc_span (fun vs H Q E h => ?_) (fun cdv A outer s H vs Q E hr h => ?_)
  · obtain ⟨p, o, s, m, v, rfl, _⟩ := h
    rfl
  · obtain ⟨p, o, s, m, v, rfl, hp, S, q⟩ := h
    refine ⟨_, pss_cons (ps_expr (pcl C hr (by decide) (by rfl) (pa_cons (pv 0) pa_nil)))
      (pss_cons (ps_expr (pcl V' hr (by decide) (by rfl) (pa_cons (pv 1) pa_nil)))
      (pss_one (ps_ret (pcl G hr (by decide) (by rfl) (pa_cons (pv 0) (pa_cons (pv 1) pa_nil)))))), ?_⟩
    walk_at "rd"
    refine ⟨p, o, s, m, rfl, hp, S, ?_⟩
    walk_at "rd"
    exact ⟨p, o, s, m, v, rfl, hp, S, q⟩
theorem ok_threshold {f : Addr} {fd : FuncData} (F : Fun K "threshold" "threshold" s_threshold f fd) (B : Cal P w K mg base "_below" 1 ["mode", "step", "figure"] spBelow fB dB) : FnOk P w K mg base CX0 3 f fd ["side", "value"] spBack := by
  refine F.ok sc_threshold (fun vs H Q E h => ?_) (fun cdv A outer s H vs Q E hr h => ?_)
  · obtain ⟨p, o, s, m, v, rfl, _⟩ := h
    rfl
  · obtain ⟨p, o, s, m, v, rfl, hp, S, hv0, hv1, q⟩ := h
    have nd := sc_threshold.nd
    refine ⟨_, pss_cons (ps_asg (pv 0) (pg_tup (by rfl) (pgs_cons (pg_name (i := 2) nd rfl (Or.inl rfl)) (pgs_cons (pg_name (i := 3) nd rfl (Or.inl rfl)) (pgs_cons (pg_name (i := 4) nd rfl (Or.inl rfl)) pgs_nil)))))
      (pss_cons (ps_set (i := 5) nd rfl (Or.inl rfl) (pe_un un_neg (pe_op op_fdivW (pe_op op_sub (pv 2) (pv 1)) (pv 3))))
      (pss_one (ps_ret (pe_op op_sub (pe_op op_add (pv 2) (pe_op op_mulW (pv 3) (pv 5))) (pcl B hr (by decide) (by rfl) (pa_cons (pv 4) (pa_cons (pv 3) (pa_cons (pv 5) pa_nil)))))))), ?_⟩
    walk_at "rd"
    refine ⟨p, _, rfl, SqT.of hp, rfl, _, _, rfl, _, _, rfl, _, _, rfl, rfl, ?_⟩
    have s0 := S.s0
    have s1 := S.s1
    have o0 := S.o0
    have o1 := S.o1
    walk_at "rd"
    refine ⟨fdiv_ok _ (by omega) (lg_big (by omega) (by omega)), ?_⟩
    walk_at "rd"
    have db := div_bd (x := o - v) (b := 2 ^ 701) s0 (by omega) (by omega)
    refine ⟨mulW (by omega) (by omega), ?_⟩
    walk_at "rd"
    refine ⟨m, s, ceilM o s v, rfl, S.md, ?_⟩
    walk_at "rd"
    exact q H (fun _ _ z => z)
end
end HT
namespace HT
open PySem L2
def oV : Option Int → V
  | some x => .int x
  | none => .non
structure MaxT (mg : Str → Option Value) : Prop where
  max : mg "max" = none
  min : mg "min" = none
def spFirstAt : Sp := fun vs H Q _ => ∃ (pw pn : Addr) (o s : Int) (m : Str) (o2 s2 : Int) (m2 : Str) (k v : Int), vs = [.ref pw, .ref pn, .int k, .int v] ∧ H pw = some (sideV o s m) ∧ SideP o s m ∧ H pn = some (sideV o2 s2 m2) ∧ SideP o2 s2 m2 ∧ (-2 ^ 590 < k ∧ k < 2 ^ 590) ∧ (-2 ^ 590 < v ∧ v < 2 ^ 590) ∧
  ∀ H', Same H H' → Q (oV (firstM o s m o2 s2 m2 k v)) H'
def spExch : Sp := fun vs H Q _ => ∃ (p1 p2 : Addr) (o s : Int) (m : Str) (o2 s2 : Int) (m2 : Str) (v : Int), vs = [.ref p1, .ref p2, .int v] ∧ H p1 = some (sideV o s m) ∧ SideP o s m ∧ H p2 = some (sideV o2 s2 m2) ∧ SideP o2 s2 m2 ∧ (-2 ^ 560 < v ∧ v < 2 ^ 560) ∧
  ∀ r H', ExchP (diffX o s m o2 s2 m2) v r → (∀ x, r = some x → x ≤ v + 4 * 10 ^ 30) → Same H H' → Q (oV r) H'
theorem exch_congr {A B : Int → Prop} {v : Int} {r : Option Int} (h : ∀ x, A x ↔ B x) (e : ExchP A v r) : ExchP B v r := by
  cases r with
  | none => exact fun y z => e y ((h y).mpr z)
  | some x => exact ⟨e.1, (h x).mp e.2.1, fun y y0 y1 z => e.2.2 y y0 y1 ((h y).mpr z)⟩
theorem mul_b2 {s k : Int} (s0 : 1 ≤ s) (s1 : s ≤ 10 ^ 30) (h : -2 ^ 590 < k ∧ k < 2 ^ 590) : -2 ^ 690 < s * k ∧ s * k < 2 ^ 690 := by
  have h1 : (s * k).natAbs < 2 ^ (100 + 590) := wide_lt (a := 100) (b := 590) (by omega) (by omega)
  omega
section
variable {P : Program} {w : World} {K : PySem.W.Frag} {mg : Str → Option Value} {base : Heap} {aM aR fV fC fB fS fP fF fT fA : Addr} {dV dC dB dS dP dF dT dA : FuncData}
theorem ok_stands {f : Addr} {fd : FuncData} (F : Fun K "stands" "stands" s_stands f fd) (C : Cal P w K mg base "check_side" 3 ["side"] spCheckSide fC dC) (V' : Cal P w K mg base "check_value" 2 ["value"] spCheckValue fV dV) : FnOk P w K mg base CX0 4 f fd ["side", "value"] spStands := by
  refine F.ok sc_stands (fun vs H Q E h => ?_) (fun cdv A outer s H vs Q E hr h => ?_)
  · obtain ⟨p, o, s, m, v, rfl, _⟩ := h
    rfl
  · obtain ⟨p, o, s, m, v, rfl, hp, S, hv, q⟩ := h
    have nd := sc_stands.nd
    refine ⟨_, pss_cons (ps_expr (pcl C hr (by decide) (by rfl) (pa_cons (pv 0) pa_nil)))
      (pss_cons (ps_expr (pcl V' hr (by decide) (by rfl) (pa_cons (pv 1) pa_nil)))
      (pss_cons (ps_asg (pv 0) (pg_tup (by rfl) (pgs_cons (pg_name (i := 2) nd rfl (Or.inl rfl)) (pgs_cons (pg_name (i := 3) nd rfl (Or.inl rfl)) (pgs_cons (pg_name (i := 4) nd rfl (Or.inl rfl)) pgs_nil)))))
      (pss_one (ps_ret (pe_cmpR op_eq (pe_op op_mod (pe_op op_sub (pv 1) (pv 2)) (pv 3)) pe_int (nomark _)))))), ?_⟩
    walk_at "rd"
    refine ⟨p, o, s, m, rfl, hp, S, ?_⟩
    walk_at "rd"
    refine ⟨p, _, rfl, SqT.of hp, rfl, _, _, rfl, _, _, rfl, _, _, rfl, rfl, ?_⟩
    walk_at "rd"
    have b2 := S.s0
    refine ⟨(by omega), ?_⟩
    walk_at "rd"
    have q' : Q (.bl (decide ((v - o) % s = 0))) H := q H (Same.refl H)
    rw [← dec_int] at q'
    exact ⟨rfl, q'⟩
theorem ok_first_at {f : Addr} {fd : FuncData} (F : Fun K "_first_at" "_first_at" s_first_at f fd) (T : SideT K mg aM) (MT : MaxT mg) (Sp' : Cal P w K mg base "span" 4 ["side", "figure"] spSpan fP dP) (St : Cal P w K mg base "stands" 4 ["side", "value"] spStands fS dS)
    (Th : Cal P w K mg base "threshold" 3 ["side", "value"] spBack fT dT) : FnOk P w K mg base CX0 5 f fd ["wide", "narrow", "figure", "value"] spFirstAt := by
  refine F.ok sc_first_at (fun vs H Q E h => ?_) (fun cdv A outer s H vs Q E hr h => ?_)
  · obtain ⟨pw, pn, o, s, m, o2, s2, m2, k, v, rfl, _⟩ := h
    rfl
  · obtain ⟨pw, pn, o, s, m, o2, s2, m2, k, v, rfl, hw, SW, hn, SN, hk, hv, q⟩ := h
    have nd := sc_first_at.nd
    refine ⟨_, pss_cons (ps_asg (pcl Sp' hr (by decide) (by rfl) (pa_cons (pv 0) (pa_cons (pv 2) pa_nil))) (pg_tup (by rfl) (pgs_cons (pg_name (i := 4) nd rfl (Or.inl rfl)) (pgs_cons (pg_name (i := 5) nd rfl (Or.inl rfl)) pgs_nil))))
      (pss_cons (ps_set (i := 6) nd rfl (Or.inl rfl) (pe_callB (call_max2 rfl) (by rfl) MT.max (by decide +kernel) (pa_cons (pv 4) (pa_cons (pv 3) pa_nil))))
      (pss_cons (ps_asg (pv 0) (pg_tup (by rfl) (pgs_cons (pg_name (i := 7) nd rfl (Or.inl rfl)) (pgs_cons (pg_name (i := 8) nd rfl (Or.inl rfl)) (pgs_cons (pg_name (i := 9) nd rfl (Or.inl rfl)) pgs_nil)))))
      (pss_cons (ps_if (pt_not (pt_val (pcl St hr (by decide) (by rfl) (pa_cons (pv 1) (pa_cons (pe_op op_add (pv 7) (pe_op op_mulW (pv 8) (pv 2))) pa_nil))))) (pss_one (ps_ret (pv 6))) pss_nil)
      (pss_cons (ps_if (pt_cmpR op_lt (pv 6) (pcl Th hr (by decide) (by rfl) (pa_cons (pv 1) (pa_cons (pv 4) pa_nil))) (nomark _)) (pss_one (ps_ret (pv 6))) pss_nil)
      (pss_cons (ps_set (i := 6) nd rfl (Or.inl rfl) (pe_callB (call_max2 rfl) (by rfl) MT.max (by decide +kernel) (pa_cons (pv 6) (pa_cons (pcl Th hr (by decide) (by rfl) (pa_cons (pv 1) (pa_cons (pe_op op_add (pv 5) pe_int) pa_nil))) pa_nil))))
      (pss_cons (ps_if (pt_cmpR op_le (pv 6) (pv 5) (nomark _)) (pss_one (ps_ret (pv 6))) pss_nil)
      (pss_one (ps_ret pe_non)))))))), ?_⟩
    have mb := mul_b2 SW.s0 SW.s1 hk
    have b1 := below_bd (k := k) SW.md SW.s0
    have b2 := below_bd (k := k) (mir_mode SW.md) SW.s0
    have o0 := SW.o0
    have o1 := SW.o1
    have s1 := SW.s1
    have lowB : -2 ^ 695 < lowM o s m k ∧ lowM o s m k < 2 ^ 695 := by unfold lowM; omega
    have highB : -2 ^ 695 < highM o s m k ∧ highM o s m k < 2 ^ 695 := by unfold highM; omega
    walk_at "rd"
    refine ⟨pw, o, s, m, k, rfl, hw, SW, (by unfold BdK; omega), fun d H1 sm1 nd1 hd1 => ?_⟩
    refine ⟨d, _, rfl, SqT.of hd1, rfl, _, _, rfl, _, _, rfl, rfl, ?_⟩
    walk_at "rd"
    refine ⟨_, _, rfl, ?_⟩
    walk_at "rd"
    refine ⟨pw, _, rfl, SqT.of (sm1 _ _ hw), rfl, _, _, rfl, _, _, rfl, _, _, rfl, rfl, ?_⟩
    walk_at "rd"
    refine ⟨mulW (by omega) (by omega), ?_⟩
    walk_at "rd"
    refine ⟨pn, o2, s2, m2, _, rfl, sm1 _ _ hn, SN, (by unfold Bd; omega), fun H2 sm2 => ?_⟩
    have smA := sm1.trans sm2
    walk_at "rd"
    refine ite2 (fun h => ?_) (fun h => ?_)
    · have h' : ¬ (o + s * k - o2) % s2 = 0 := fun z => by simp [z] at h
      walk_at "rd"
      have g := q H2 smA
      unfold firstM at g
      rw [if_pos h'] at g
      exact g
    have h' : (o + s * k - o2) % s2 = 0 := by
      have := not_f h
      exact of_decide_eq_true this
    walk_at "rd"
    refine ⟨pn, o2, s2, m2, _, rfl, smA _ _ hn, SN, (by omega), (by omega), fun H3 sm3 => ?_⟩
    have smB := smA.trans sm3
    walk_at "rd"
    refine ite2 (fun g => ?_) (fun g => ?_)
    · have g' := of_decide_eq_true g
      walk_at "rd"
      have z := q H3 smB
      unfold firstM at z
      rw [if_neg (not_not_intro h'), if_pos (show mx (lowM o s m k) v < _ from g')] at z
      exact z
    have g' : ¬ mx (lowM o s m k) v < backM o2 s2 m2 (lowM o s m k) := fun z => g (decide_eq_true z)
    walk_at "rd"
    refine ⟨pn, o2, s2, m2, _, rfl, smB _ _ hn, SN, (by omega), (by omega), fun H4 sm4 => ?_⟩
    have smC := smB.trans sm4
    refine ⟨_, _, rfl, ?_⟩
    walk_at "rd"
    refine ite2 (fun c => ?_) (fun c => ?_)
    · have c' := of_decide_eq_true c
      walk_at "rd"
      have z := q H4 smC
      unfold firstM at z
      rw [if_neg (not_not_intro h'), if_neg g', if_pos (show mx (mx (lowM o s m k) v) (backM o2 s2 m2 (highM o s m k + 1)) ≤ highM o s m k from c')] at z
      exact z
    · walk_at "rd"
      have z := q H4 smC
      unfold firstM at z
      rw [if_neg (not_not_intro h'), if_neg g', if_neg (fun y : mx (mx (lowM o s m k) v) (backM o2 s2 m2 (highM o s m k + 1)) ≤ highM o s m k => c (decide_eq_true y))] at z
      exact z
theorem ok_exchange {f : Addr} {fd : FuncData} (F : Fun K "exchange" "exchange" s_exchange f fd) (hrg : mg "range" = none) (C : Cal P w K mg base "check_side" 3 ["side"] spCheckSide fC dC) (V' : Cal P w K mg base "check_value" 2 ["value"] spCheckValue fV dV)
    (Fi : Cal P w K mg base "figure_of" 4 ["side", "value"] spFig fF dF) (FA : Cal P w K mg base "_first_at" 5 ["wide", "narrow", "figure", "value"] spFirstAt fA dA) : FnOk P w K mg base CX0 6 f fd ["first", "second", "value"] spExch := by
  refine F.ok sc_exchange (fun vs H Q E h => ?_) (fun cdv A outer s H vs Q E hr h => ?_)
  · obtain ⟨p1, p2, o, s, m, o2, s2, m2, v, rfl, _⟩ := h
    rfl
  · obtain ⟨p1, p2, o, s, m, o2, s2, m2, v, rfl, h1, G1, h2, G2, hv, q⟩ := h
    have nd := sc_exchange.nd
    have figb : ∀ o s m, SideP o s m → -2 ^ 561 < figM o s m v ∧ figM o s m v < 2 ^ 561 := fun o s m S => by
      have o0 := S.o0
      have o1 := S.o1
      have := div_bd (x := v - o) (b := 2 ^ 560 + 10 ^ 40) S.s0 (by omega) (by omega)
      unfold figM
      split <;> omega
    refine ⟨_, pss_cons (ps_expr (pcl C hr (by decide) (by rfl) (pa_cons (pv 0) pa_nil)))
      (pss_cons (ps_expr (pcl C hr (by decide) (by rfl) (pa_cons (pv 1) pa_nil)))
      (pss_cons (ps_expr (pcl V' hr (by decide) (by rfl) (pa_cons (pv 2) pa_nil)))
      (pss_cons (ps_par (i := 3) (j := 4) (by rfl) nd rfl rfl (by decide) rfl rfl (pa_cons (pv 0) (pa_cons (pv 1) pa_nil)) (by rfl))
      (pss_cons (ps_if (pt_cmpR op_lt (pe_ix ix_tup (pv 0) pe_int (fun _ _ => rfl)) (pe_ix ix_tup (pv 1) pe_int (fun _ _ => rfl)) (nomark _)) (pss_one (ps_par (i := 3) (j := 4) (by rfl) nd rfl rfl (by decide) rfl rfl (pa_cons (pv 1) (pa_cons (pv 0) pa_nil)) (by rfl))) pss_nil)
      (pss_cons (ps_set (i := 5) nd rfl (Or.inl rfl) (pcl Fi hr (by decide) (by rfl) (pa_cons (pv 3) (pa_cons (pv 2) pa_nil))))
      (pss_cons (ps_for PassesOwn.never rfl (pi_rangeW (by rfl) hrg (pa_cons (pv 5) (pa_cons (pe_op op_add (pv 5) pe_int) pa_nil))) (pg_name (i := 6) nd rfl (Or.inl rfl))
        (pss_cons (ps_set (i := 7) nd rfl (Or.inl rfl) (pcl FA hr (by decide) (by rfl) (pa_cons (pv 3) (pa_cons (pv 4) (pa_cons (pv 6) (pa_cons (pv 2) pa_nil))))))
        (pss_one (ps_if (pt_cmpR op_notN (pv 7) pe_non (nomark _)) (pss_one (ps_ret (pv 7))) pss_nil))))
      (pss_one (ps_ret pe_non)))))))), ?_⟩
    walk_at "rd"
    refine ⟨p1, o, s, m, rfl, h1, G1, ?_⟩
    walk_at "rd"
    refine ⟨p2, o2, s2, m2, rfl, h2, G2, ?_⟩
    walk_at "rd"
    refine ⟨_, _, rfl, ?_⟩
    walk_at "rd"
    refine ⟨p1, _, 1, _, rfl, rfl, SqT.of h1, rfl, ?_⟩
    walk_at "rd"
    refine ⟨p2, _, 1, _, rfl, rfl, SqT.of h2, rfl, ?_⟩
    walk_at "rd"
    refine ite2 (fun h => ?_) (fun h => ?_)
    · have le2 : s ≤ s2 := by have := of_decide_eq_true h; omega
      walk_at "rd"
      refine ⟨_, _, rfl, ?_⟩
      walk_at "rd"
      refine ⟨p2, o2, s2, m2, v, rfl, h2, G2, (by unfold Bd; omega), fun H1 sm1 => ?_⟩
      walk_at "rd"
      refine ⟨_, _, rfl, ?_⟩
      have fb : -2 ^ 561 < figM o2 s2 m2 v ∧ figM o2 s2 m2 v < 2 ^ 561 := figb o2 s2 m2 G2
      have ex := exch_spec (o := o2) (p := o) (v := v) G2.md G1.md G2.s0 G1.s0 le2
      rw [show ((figM o2 s2 m2 v) + 3 - (figM o2 s2 m2 v)).toNat = 3 by omega]
      refine for_range (n := 3) (fun i st H' => ∃ (a b : Option V), st = [some (.ref p1), some (.ref p2), some (.int v), some (.ref p2), some (.ref p1), some (.int (figM o2 s2 m2 v)), a, b] ∧ Same H H' ∧ (0 < i → firstM o2 s2 m2 o s m (figM o2 s2 m2 v) v = none) ∧ (1 < i → firstM o2 s2 m2 o s m ((figM o2 s2 m2 v) + 1) v = none) ∧ (2 < i → firstM o2 s2 m2 o s m ((figM o2 s2 m2 v) + 2) v = none)) ⟨none, none, rfl, sm1, fun z => absurd z (by decide), fun z => absurd z (by decide), fun z => absurd z (by decide)⟩ ?_ ?_
      · rintro i st H2 hi ⟨a, b, rfl, sm2, n0, n1, n2⟩
        walk_at "rd"
        refine ⟨p2, p1, o2, s2, m2, o, s, m, (figM o2 s2 m2 v) + (i : Int), v, rfl, sm2 _ _ h2, G2, sm2 _ _ h1, G1, (by omega), (by omega), fun H3 sm3 => ?_⟩
        have smx := sm2.trans sm3
        walk_at "rd"
        refine ⟨rfl, ?_⟩
        walk_at "rd"
        cases fm : firstM o2 s2 m2 o s m ((figM o2 s2 m2 v) + (i : Int)) v with
        | none =>
          refine ite2 (fun y => absurd y (by simp [oV])) (fun _ => ?_)
          refine ⟨_, _, rfl, smx, fun z => ?_, fun z => ?_, fun z => ?_⟩
          · by_cases y : i = 0
            · subst y; rw [show (figM o2 s2 m2 v) + ((0 : Nat) : Int) = (figM o2 s2 m2 v) by omega] at fm; exact fm
            · exact n0 (by omega)
          · by_cases y : i = 1
            · subst y; exact fm
            · exact n1 (by omega)
          · by_cases y : i = 2
            · subst y; exact fm
            · exact n2 (by omega)
        | some x =>
          refine ite2 (fun _ => ?_) (fun y => absurd (by simp [oV]) y)
          walk_at "rd"
          have e : exchM o2 s2 m2 o s m v = some x := by
            unfold exchM
            rcases (by omega : i = 0 ∨ i = 1 ∨ i = 2) with y | y | y
            · subst y; rw [show (figM o2 s2 m2 v) + ((0 : Nat) : Int) = (figM o2 s2 m2 v) by omega] at fm; rw [fm]
            · subst y; rw [n0 (by decide), show (figM o2 s2 m2 v) + 1 = (figM o2 s2 m2 v) + ((1 : Nat) : Int) by omega, fm]
            · subst y; rw [n0 (by decide), n1 (by decide), show (figM o2 s2 m2 v) + 2 = (figM o2 s2 m2 v) + ((2 : Nat) : Int) by omega, fm]
          rw [e] at ex
          refine q (some x) _ ((exch_congr fun _ => diff_comm) ex.1) (fun y hy => ?_) smx
          have := ex.2 y hy
          have := G2.s1
          omega
      · rintro st H2 ⟨a, b, rfl, sm2, n0, n1, n2⟩
        walk_at "rd"
        have e : exchM o2 s2 m2 o s m v = none := by
          unfold exchM
          rw [n0 (by decide), n1 (by decide), n2 (by decide)]
        rw [e] at ex
        exact q none _ ((exch_congr fun _ => diff_comm) ex.1) (fun y hy => nomatch hy) sm2
    · have le1 : s2 ≤ s := by have : ¬ s < s2 := fun z => h (decide_eq_true z); omega
      walk_at "rd"
      refine ⟨p1, o, s, m, v, rfl, h1, G1, (by unfold Bd; omega), fun H1 sm1 => ?_⟩
      walk_at "rd"
      refine ⟨_, _, rfl, ?_⟩
      have fb : -2 ^ 561 < figM o s m v ∧ figM o s m v < 2 ^ 561 := figb o s m G1
      have ex := exch_spec (o := o) (p := o2) (v := v) G1.md G2.md G1.s0 G2.s0 le1
      rw [show ((figM o s m v) + 3 - (figM o s m v)).toNat = 3 by omega]
      refine for_range (n := 3) (fun i st H' => ∃ (a b : Option V), st = [some (.ref p1), some (.ref p2), some (.int v), some (.ref p1), some (.ref p2), some (.int (figM o s m v)), a, b] ∧ Same H H' ∧ (0 < i → firstM o s m o2 s2 m2 (figM o s m v) v = none) ∧ (1 < i → firstM o s m o2 s2 m2 ((figM o s m v) + 1) v = none) ∧ (2 < i → firstM o s m o2 s2 m2 ((figM o s m v) + 2) v = none)) ⟨none, none, rfl, sm1, fun z => absurd z (by decide), fun z => absurd z (by decide), fun z => absurd z (by decide)⟩ ?_ ?_
      · rintro i st H2 hi ⟨a, b, rfl, sm2, n0, n1, n2⟩
        walk_at "rd"
        refine ⟨p1, p2, o, s, m, o2, s2, m2, (figM o s m v) + (i : Int), v, rfl, sm2 _ _ h1, G1, sm2 _ _ h2, G2, (by omega), (by omega), fun H3 sm3 => ?_⟩
        have smx := sm2.trans sm3
        walk_at "rd"
        refine ⟨rfl, ?_⟩
        walk_at "rd"
        cases fm : firstM o s m o2 s2 m2 ((figM o s m v) + (i : Int)) v with
        | none =>
          refine ite2 (fun y => absurd y (by simp [oV])) (fun _ => ?_)
          refine ⟨_, _, rfl, smx, fun z => ?_, fun z => ?_, fun z => ?_⟩
          · by_cases y : i = 0
            · subst y; rw [show (figM o s m v) + ((0 : Nat) : Int) = (figM o s m v) by omega] at fm; exact fm
            · exact n0 (by omega)
          · by_cases y : i = 1
            · subst y; exact fm
            · exact n1 (by omega)
          · by_cases y : i = 2
            · subst y; exact fm
            · exact n2 (by omega)
        | some x =>
          refine ite2 (fun _ => ?_) (fun y => absurd (by simp [oV]) y)
          walk_at "rd"
          have e : exchM o s m o2 s2 m2 v = some x := by
            unfold exchM
            rcases (by omega : i = 0 ∨ i = 1 ∨ i = 2) with y | y | y
            · subst y; rw [show (figM o s m v) + ((0 : Nat) : Int) = (figM o s m v) by omega] at fm; rw [fm]
            · subst y; rw [n0 (by decide), show (figM o s m v) + 1 = (figM o s m v) + ((1 : Nat) : Int) by omega, fm]
            · subst y; rw [n0 (by decide), n1 (by decide), show (figM o s m v) + 2 = (figM o s m v) + ((2 : Nat) : Int) by omega, fm]
          rw [e] at ex
          refine q (some x) _ (id ex.1) (fun y hy => ?_) smx
          have := ex.2 y hy
          have := G1.s1
          omega
      · rintro st H2 ⟨a, b, rfl, sm2, n0, n1, n2⟩
        walk_at "rd"
        have e : exchM o s m o2 s2 m2 v = none := by
          unfold exchM
          rw [n0 (by decide), n1 (by decide), n2 (by decide)]
        rw [e] at ex
        exact q none _ (id ex.1) (fun y hy => nomatch hy) sm2
end
end HT
namespace HT
open PySem L2
section
variable {P : Program} {w : World} {K : PySem.W.Frag} {mg : Str → Option Value} {base : Heap} {aM fD fP fG fL fA fF fH fS : Addr} {dD dP dG dL dA dF dH dS : FuncData}
theorem ok_L_figure {f : Addr} {fd : FuncData} (F : Fun K "_law_figure" "_law_figure" s_L_figure f fd) (B : Blt mg) : FnOk P w K mg base CX0 1 f fd ["_law_side", "_law_value"] spFig := by
  refine F.ok sc_L_figure (fun vs H Q E h => ?_) (fun cdv A outer s H vs Q E hr h => ?_)
  · obtain ⟨p, o, s, m, v, rfl, _⟩ := h
    rfl
  · obtain ⟨p, o, s, m, v, rfl, hp, S, hv, q⟩ := h
    have nd := sc_L_figure.nd
    have q' : Q (.int (figM o s m v)) H := q H (Same.refl H)
    have Fg := fig_of (o := o) (m := m) (v := v) S.s0
    refine ⟨_, pss_cons (ps_asg (pv 0) (pg_tup (by rfl) (pgs_cons (pg_name (i := 2) nd rfl (Or.inl rfl)) (pgs_cons (pg_name (i := 3) nd rfl (Or.inl rfl)) (pgs_cons (pg_name (i := 4) nd rfl (Or.inl rfl)) pgs_nil)))))
      (pss_cons (ps_set (i := 5) nd rfl (Or.inl rfl) (pe_op op_fdivW (pe_callTy call_int1 (by rfl) B.int (by decide +kernel) (pa_cons (pe_op op_sub (pv 1) (pv 2)) pa_nil)) (pv 3)))
      (pss_cons (ps_set (i := 6) nd rfl (Or.inl rfl) (pe_op op_sub (pe_op op_sub (pv 1) (pv 2)) (pe_op op_mulW (pv 3) (pv 5))))
      (pss_cons (ps_if (PW.pt (pw_or (pt_cmpR op_eq (pv 4) pe_str (nomark _)) (pw_or1 (pt_cmpR op_eq (pv 6) pe_int (nomark _))))) (pss_one (ps_ret (pv 5))) pss_nil)
      (pss_cons (ps_if (PW.pt (pw_or (pt_cmpR op_eq (pv 4) pe_str (nomark _)) (pw_or1 (pt_cmpR op_gt (pe_op op_mul pe_int (pv 6)) (pv 3) (nomark _))))) (pss_one (ps_ret (pe_op op_add (pv 5) pe_int))) pss_nil)
      (pss_cons (ps_if (PW.pt (pw_or (pt_cmpR op_lt (pe_op op_mul pe_int (pv 6)) (pv 3) (nomark _)) (pw_or1 (pt_cmpR op_eq (pv 4) pe_str (nomark _))))) (pss_one (ps_ret (pv 5))) pss_nil)
      (pss_one (ps_ret (pe_op op_add (pv 5) (pe_callTy call_int1 (by rfl) B.int (by decide +kernel) (pa_cons (pe_or (pe_cmpR op_eq (pv 4) pe_str (nomark _)) (pe_one (pe_cmpR op_eq (pe_op op_mod (pv 5) pe_int) pe_int (nomark _)))) pa_nil)))))))))), ?_⟩
    have b0 := S.s0
    have b1 := S.s1
    have b2 := S.o0
    have b3 := S.o1
    have b4 := hv.1
    have b5 := hv.2
    have b6 := div_bd (x := v - o) (b := 2 ^ 1001) S.s0 (by omega) (by omega)
    have rr : v - o - s * ((v - o) / s) = (v - o) % s := by
      have := Fg.eq
      omega
    walk_at "rd"
    refine ⟨p, _, rfl, SqT.of hp, rfl, _, _, rfl, _, _, rfl, _, _, rfl, rfl, ?_⟩
    walk_at "rd"
    refine ⟨fdiv_ok _ (by omega) (lg_big (by omega) (by omega)), ?_⟩
    walk_at "rd"
    refine ⟨mulW (by omega) (by omega), ?_⟩
    walk_at "rd"
    refine ⟨rfl, ?_⟩
    walk_at "rd"
    obtain ⟨_, r0, r1, wh⟩ := Fg
    generalize figM o s m v = k at q' wh
    -- the three ways of a mode
    have fin0 : k = ((v - o) / s) → Q (.int ((v - o) / s)) H := fun e => by rw [← e]; exact q'
    have fin1 : k = ((v - o) / s) + 1 → Q (.int (((v - o) / s) + 1)) H := fun e => by rw [← e]; exact q'
    have low : goesUp m s ((v - o) / s) ((v - o) % s) = false → k = ((v - o) / s) := fun h => by
      rcases wh with ⟨g, _⟩ | ⟨_, e⟩
      · rw [h] at g; cases g
      · exact e
    have up : goesUp m s ((v - o) / s) ((v - o) % s) = true → k = ((v - o) / s) + 1 := fun h => by
      rcases wh with ⟨_, e⟩ | ⟨g, _⟩
      · exact e
      · rw [h] at g; cases g
    refine ite2 (fun h => ?_) (fun h1 => ?_)
    · walk_at "rd"
      refine fin0 (low ?_)
      rw [str_t h, go_down]
    walk_at "rd"
    refine ⟨rfl, ?_⟩
    walk_at "rd"
    refine ite2 (fun h => ?_) (fun h2 => ?_)
    · walk_at "rd"
      refine fin0 (low ?_)
      have e : ((v - o) % s) = 0 := by have := int_t h; omega
      rw [e]
      exact go_zero S.md S.s0
    have n1 := str_f h1
    have n2 : ¬ ((v - o) % s) = 0 := fun z => int_f h2 (by omega)
    walk_at "rd"
    refine ⟨rfl, ?_⟩
    walk_at "rd"
    refine ite2 (fun h => ?_) (fun h3 => ?_)
    · walk_at "rd"
      refine fin1 (up ?_)
      rw [str_t h, go_up]
      exact decide_eq_true (by omega)
    have n3 := str_f h3
    walk_at "rd"
    refine ⟨.inl ⟨by decide, by decide⟩, ?_⟩
    walk_at "rd"
    have hh : half m := by
      rcases S.md with e | e | e
      · exact absurd e n1
      · exact absurd e n3
      · exact e
    refine ite2 (fun h => ?_) (fun h4 => ?_)
    · walk_at "rd"
      have g : s < 2 * ((v - o) % s) := by have := of_decide_eq_true h; omega
      refine fin1 (up ?_)
      unfold goesUp
      rw [if_neg n1, if_neg n3, if_neg (by omega)]
      exact decide_eq_true g
    have n4 : ¬ s < 2 * ((v - o) % s) := fun z => h4 (decide_eq_true (by omega))
    walk_at "rd"
    refine ⟨.inl ⟨by decide, by decide⟩, ?_⟩
    walk_at "rd"
    refine ite2 (fun h => ?_) (fun h5 => ?_)
    · walk_at "rd"
      have g : 2 * ((v - o) % s) < s := by have := of_decide_eq_true h; omega
      refine fin0 (low ?_)
      unfold goesUp
      rw [if_neg n1, if_neg n3, if_neg (by omega)]
      exact decide_eq_false n4
    have n5 : 2 * ((v - o) % s) = s := by
      have : ¬ 2 * ((v - o) % s) < s := fun z => h5 (decide_eq_true (by omega))
      omega
    walk_at "rd"
    refine ⟨rfl, ?_⟩
    walk_at "rd"
    refine ite2 (fun h => ?_) (fun h6 => ?_)
    · walk_at "rd"
      refine fin0 (low ?_)
      rw [str_t h, go_hd]
      exact decide_eq_false n4
    have n6 := str_f h6
    have kk : k = ((v - o) / s) + (if m = "half_up" then 1 else if ((v - o) / s) % 2 = 1 then 1 else 0) := by
      rcases hh with e | e | e
      · exact absurd e n6
      · rw [if_pos e]
        refine up ?_
        rw [e, go_hu]
        exact decide_eq_true (by omega)
      · have e2 : goesUp m s ((v - o) / s) ((v - o) % s) = decide (((v - o) / s) % 2 = 1) := by
          rw [e, go_he, decide_eq_false n4, decide_eq_true n5]
          rfl
        rw [if_neg (by rw [e]; exact he_hu)]
        by_cases z : ((v - o) / s) % 2 = 1
        · rw [if_pos z]
          exact up (by rw [e2]; exact decide_eq_true z)
        · rw [if_neg z, Int.add_zero]
          exact low (by rw [e2]; exact decide_eq_false z)
    walk_at "rd"
    refine ⟨rfl, ?_⟩
    walk_at "rd"
    refine ite2 (fun h => ?_) (fun h7 => ?_)
    · refine .inr ⟨true, rfl, ?_⟩
      walk_at "rd"
      rw [if_pos (str_t h)] at kk
      exact fin1 kk
    · rw [if_neg (str_f h7)] at kk
      walk_at "rd"
      refine ⟨(by show (0 : Int) < 2; decide), ?_⟩
      walk_at "rd"
      refine ⟨rfl, .inr ⟨_, rfl, ?_⟩⟩
      walk_at "rd"
      show Q (.int (((v - o) / s) + if decide (V.int (((v - o) / s) % 2) = V.int 1) = true then 1 else 0)) H
      rw [dec_int]
      by_cases z : ((v - o) / s) % 2 = 1
      · rw [if_pos z] at kk
        rw [if_pos (decide_eq_true z)]
        exact fin1 kk
      · rw [if_neg z, Int.add_zero] at kk
        rw [if_neg (by rw [decide_eq_false z]; decide), Int.add_zero]
        exact fin0 kk
theorem ok_L_handed {f : Addr} {fd : FuncData} (F : Fun K "_law_handed" "_law_handed" s_L_handed f fd) (L : Cal P w K mg base "_law_figure" 1 ["_law_side", "_law_value"] spFig fL dL) : FnOk P w K mg base CX0 2 f fd ["_law_side", "_law_value"] spDue := by
  refine F.ok sc_L_handed (fun vs H Q E h => ?_) (fun cdv A outer s H vs Q E hr h => ?_)
  · obtain ⟨p, o, s, m, v, rfl, _⟩ := h
    rfl
  · obtain ⟨p, o, s, m, v, rfl, hp, S, hv, q⟩ := h
    refine ⟨_, pss_one (ps_ret (pe_op op_add (pe_ix ix_tup (pv 0) pe_int (fun _ _ => rfl)) (pe_op op_mulW (pe_ix ix_tup (pv 0) pe_int (fun _ _ => rfl)) (pcl L hr (by decide) (by rfl) (pa_cons (pv 0) (pa_cons (pv 1) pa_nil)))))), ?_⟩
    walk_at "rd"
    refine ⟨p, _, 0, _, rfl, rfl, SqT.of hp, rfl, ?_⟩
    walk_at "rd"
    refine ⟨p, _, 1, _, rfl, rfl, SqT.of hp, rfl, ?_⟩
    walk_at "rd"
    refine ⟨p, o, s, m, v, rfl, hp, S, hv, fun H' sm => ?_⟩
    walk_at "rd"
    have b1 := fig_bd S hv
    have b2 := S.s0
    have b3 := S.s1
    refine ⟨mulW (by omega) (by omega), ?_⟩
    walk_at "rd"
    exact q H' sm
end
end HT
namespace HT
open PySem L2
def spDiv : Sp := fun vs H Q _ => ∃ a b : Nat, vs = [.int (a : Int), .int (b : Int)] ∧ Q (.int ((Nat.gcd a b : Nat) : Int)) H
section
variable {P : Program} {w : World} {K : PySem.W.Frag} {mg : Str → Option Value} {base : Heap} {fW fF : Addr} {dW dF : FuncData}
theorem ok_div {f : Addr} {fd : FuncData} (F : Fun K "_law_divisor" "_law_divisor" s_L_divisor f fd) (B : Blt mg) : FnOk P w K mg base CX0 1 f fd ["_law_one", "_law_other"] spDiv := by
  refine F.ok sc_L_divisor (fun vs H Q E h => ?_) (fun cdv A outer s0 H vs Q E hr h => ?_)
  · obtain ⟨a, b, rfl, _⟩ := h
    rfl
  · obtain ⟨a, b, rfl, q⟩ := h
    have nd := sc_L_divisor.nd
    refine ⟨_, pss_cons (ps_while PassesOwn.never (pt_cmpR op_ne (pv 1) pe_int (nomark _)) (pss_one (ps_par (i := 0) (j := 1) rfl nd rfl rfl (by decide) rfl rfl (pa_cons (pv 1) (pa_cons (pe_op op_mod (pe_callTy call_int1 (by rfl) B.int (by decide +kernel) (pa_cons (pv 0) pa_nil)) (pv 1)) pa_nil)) (by rfl))))
      (pss_one (ps_ret (pv 0))), ?_⟩
    refine ⟨fun m σ H' => ∃ c d : Nat, m = d ∧ σ = [some (.int (c : Int)), some (.int (d : Int))] ∧ H' = H ∧ Nat.gcd c d = Nat.gcd a b, ⟨b, a, b, rfl, rfl, rfl, rfl⟩, ?_⟩
    rintro d σ H' ⟨c, _, rfl, rfl, rfl, hg⟩
    walk_at "rd"
    refine ⟨rfl, ?_⟩
    rw [dec_int]
    by_cases e : d = 0
    · subst e
      walk_at "rd"
      show Q (.int (c : Int)) H'
      rw [Nat.gcd_zero_right] at hg
      rw [hg]
      exact q
    · have e2 : (!decide ((d : Int) = 0)) = true := by
        rw [decide_eq_false (by omega)]
        rfl
      rw [e2]
      refine ⟨true, rfl, fun σ' H'' => ∃ c' d' : Nat, d' < d ∧ σ' = [some (V.int (c' : Int)), some (V.int (d' : Int))] ∧ H'' = H' ∧ Nat.gcd c' d' = Nat.gcd a b, fun σ' H'' ⟨c', d', l, e1, e2, e3⟩ => ⟨d', l, c', d', rfl, e1, e2, e3⟩, ?_⟩
      walk_at "rd"
      refine ⟨(by show (0 : Int) < (d : Int); omega), ?_⟩
      refine ⟨_, _, rfl, d, c % d, Nat.mod_lt _ (by omega), ?_, rfl, ?_⟩
      · rw [Int.natCast_emod]
        rfl
      · rw [← hg, Nat.gcd_comm c d, Nat.gcd_rec d c, Nat.gcd_comm]
end
end HT
namespace HT
open PySem L2
structure Sd where
  o : Int
  s : Int
  m : Str
/-- the list at l holds sides with these parts -/
structure SidesAt (H : Hp) (l : Addr) (xs : List V) (ss : List Sd) : Prop where
  hl : H l = some (.lst xs)
  len : xs.length = ss.length
  l1 : 1 ≤ ss.length
  l4 : ss.length ≤ 4
  at_ : ∀ (i : Nat) (d : Sd), ss[i]? = some d → ∃ p : Addr, xs[i]? = some (V.ref p) ∧ H p = some (sideV d.o d.s d.m) ∧ SideP d.o d.s d.m
theorem SidesAt.same {H H' : Hp} {l : Addr} {xs : List V} {ss : List Sd} (S : SidesAt H l xs ss) (e : Same H H') : SidesAt H' l xs ss :=
  ⟨e _ _ S.hl, S.len, S.l1, S.l4, fun i d h => let ⟨p, a, b, c⟩ := S.at_ i d h; ⟨p, a, e _ _ b, c⟩⟩
theorem SidesAt.oth {a c : Addr} {t : Nat} {H H' : Hp} {l : Addr} {xs : List V} {ss : List Sd} (S : SidesAt H l xs ss) (R : Src H a c t) (la : l ≠ a) (lc : l ≠ c) (e : Oth a c H H') : SidesAt H' l xs ss :=
  ⟨e _ _ S.hl la lc, S.len, S.l1, S.l4, fun i d h => let ⟨p, x, b, y⟩ := S.at_ i d h; let z := R.nt b; ⟨p, x, e _ _ b z.1 z.2, y⟩⟩
theorem SidesAt.item {H : Hp} {l : Addr} {xs : List V} {ss : List Sd} (S : SidesAt H l xs ss) {i : Nat} {y : V} (h : xs[i]? = some y) : ∃ d p, ss[i]? = some d ∧ y = .ref p ∧ H p = some (sideV d.o d.s d.m) ∧ SideP d.o d.s d.m := by
  have hi : i < ss.length := by have := (List.getElem?_eq_some_iff.mp h).1; rw [S.len] at this; exact this
  obtain ⟨p, e, hp, sp⟩ := S.at_ i ss[i] (List.getElem?_eq_getElem hi)
  rw [h] at e
  exact ⟨ss[i], p, List.getElem?_eq_getElem hi, Option.some.inj e, hp, sp⟩
/-- a side's period -/
def perM (s : Int) (m : Str) : Int := if m = "half_even" then 2 * s else s
theorem perM_bd {o s : Int} {m : Str} (S : SideP o s m) : 1 ≤ perM s m ∧ perM s m ≤ 2 * 10 ^ 30 := by
  have a := S.s0
  have b := S.s1
  unfold perM
  split <;> omega
def perN (d : Sd) : Nat := (perM d.s d.m).toNat
/-- the common period -/
def comN (ss : List Sd) : Nat := ss.foldl (fun n d => n.lcm (perN d)) 1
theorem com_snoc {ss : List Sd} {i : Nat} {d : Sd} (h : ss[i]? = some d) : comN (ss.take (i + 1)) = (comN (ss.take i)).lcm (perN d) := by
  unfold comN
  rw [List.take_succ, h, List.foldl_append]
  rfl
theorem lcm_le {a b : Nat} : a.lcm b ≤ a * b := Nat.div_le_self _ _
theorem com_le : ∀ (ss : List Sd) (n : Nat), (∀ d ∈ ss, SideP d.o d.s d.m) → ss.foldl (fun n d => n.lcm (perN d)) n ≤ n * (2 * 10 ^ 30) ^ ss.length
  | [], n, _ => by simp
  | d :: ss, n, h => by
    have z := com_le ss (n.lcm (perN d)) fun e he => h e (List.mem_cons_of_mem _ he)
    have b := perM_bd (h d List.mem_cons_self)
    have y : perN d ≤ 2 * 10 ^ 30 := by unfold perN; omega
    refine Nat.le_trans z ?_
    generalize (2 * 10 ^ 30 : Nat) = k at y
    rw [List.length_cons, Nat.pow_succ, Nat.mul_comm (k ^ ss.length), ← Nat.mul_assoc]
    exact Nat.mul_le_mul_right _ (Nat.le_trans lcm_le (Nat.mul_le_mul_left _ y))
theorem SidesAt.side {H : Hp} {l : Addr} {xs : List V} {ss : List Sd} (S : SidesAt H l xs ss) : ∀ d ∈ ss, SideP d.o d.s d.m := fun d hd => by
  obtain ⟨i, hi, rfl⟩ := List.mem_iff_getElem.mp hd
  obtain ⟨_, _, _, sp⟩ := S.at_ i _ (List.getElem?_eq_getElem hi)
  exact sp
theorem com_lt {ss : List Sd} (h : ∀ d ∈ ss, SideP d.o d.s d.m) (l4 : ss.length ≤ 4) : comN ss < 2 ^ 420 := by
  have z := com_le ss 1 h
  rw [Nat.one_mul] at z
  refine Nat.lt_of_le_of_lt z (Nat.lt_of_le_of_lt (Nat.pow_le_pow_right (by decide) l4) ?_)
  decide
theorem com_take {ss : List Sd} (h : ∀ d ∈ ss, SideP d.o d.s d.m) (l4 : ss.length ≤ 4) (i : Nat) : comN (ss.take i) < 2 ^ 420 :=
  com_lt (fun d hd => h d (List.mem_of_mem_take hd)) (Nat.le_trans (List.length_take_le' _ _) l4)
theorem com_pos : ∀ (ss : List Sd) (n : Nat), 0 < n → (∀ d ∈ ss, SideP d.o d.s d.m) → 0 < ss.foldl (fun n d => n.lcm (perN d)) n
  | [], n, hn, _ => hn
  | d :: ss, n, hn, h => by
    have b := perM_bd (h d List.mem_cons_self)
    have y : 0 < perN d := by unfold perN; omega
    exact com_pos ss _ (Nat.lcm_pos hn y) fun e he => h e (List.mem_cons_of_mem _ he)
/-- as the law has it -/
theorem lcm_div (a b : Nat) : a / Nat.gcd a b * b = a.lcm b := by
  unfold Nat.lcm
  rw [Nat.mul_comm (a / Nat.gcd a b), ← Nat.mul_div_assoc _ (Nat.gcd_dvd_left a b), Nat.mul_comm]
end HT
namespace HT
open PySem L2
theorem lg_any {n : Nat} (h : n < 2 ^ 500) : ((n : Int)).natAbs.log2 < 9000 := by
  rw [Int.natAbs_natCast]
  by_cases e : n = 0
  · rw [e]; decide
  · have := (Nat.log2_lt e).mpr h
    omega
def spSmall : Sp := fun vs H Q _ => ∃ (a c : Addr) (t most : Nat), vs = [.ref a, .int (most : Int)] ∧ Src H a c t ∧ 1 ≤ most ∧ most ≤ 1000 ∧ t + 5 < 2 ^ 30 ∧
  ∀ (p : Addr) (o s : Int) (m : Str) (H' : Hp) (t' : Nat), H' p = some (sideV o s m) → -30 ≤ o → o ≤ 29 → 1 ≤ s → s ≤ (most : Int) → Mode m → t' ≤ t + 3 → Src H' a c t' → Oth a c H H' → Q (.ref p) H'
def spPer : Sp := fun vs H Q _ => ∃ (l : Addr) (xs : List V) (ss : List Sd), vs = [.ref l] ∧ SidesAt H l xs ss ∧ Q (.int (comN ss : Int)) H
def spSet : Sp := fun vs H Q _ => ∃ (a c : Addr) (t most many : Nat), vs = [.ref a, .int (most : Int), .int (many : Int)] ∧ Src H a c t ∧ 1 ≤ most ∧ most ≤ 1000 ∧ 1 ≤ many ∧ many ≤ 4 ∧ t + 50 < 2 ^ 30 ∧
  ∀ (l : Addr) (xs : List V) (ss : List Sd) (H' : Hp) (t' : Nat), SidesAt H' l xs ss → (∀ d ∈ ss, -30 ≤ d.o ∧ d.o ≤ 29 ∧ d.s ≤ (most : Int)) → l ≠ a → l ≠ c → t' ≤ t + 20 → Src H' a c t' → Oth a c H H' → Q (.ref l) H'
section
variable {P : Program} {w : World} {K : PySem.W.Frag} {mg : Str → Option Value} {base : Heap} {fD fP fS fV : Addr} {dD dP dS dV : FuncData}
theorem ok_small {f : Addr} {fd : FuncData} (F : Fun K "_law_small_side" "_law_small_side" s_L_small_side f fd) (D : Cal P w K mg base "_law_draw" 1 ["_law_source_here", "_law_limit"] spDraw fD dD)
    (Pk : Cal P w K mg base "_law_pick" 2 ["_law_source_here", "_law_values"] spPick fP dP) : FnOk P w K mg base CX0 3 f fd ["_law_source_here", "_law_most"] spSmall := by
  refine F.ok sc_L_small_side (fun vs H Q E h => ?_) (fun cdv A outer s0 H vs Q E hr h => ?_)
  · obtain ⟨a, c, t, most, rfl, _⟩ := h
    rfl
  · obtain ⟨a, c, t, most, rfl, S, m1, m2, ht, q⟩ := h
    have nd := sc_L_small_side.nd
    refine ⟨_, (pss_cons (ps_set (i := 2) nd rfl (Or.inl rfl) (pe_op op_sub (pcl D hr (by decide) (by rfl) (pa_cons (pv 0) (pa_cons pe_int pa_nil))) pe_int))
      (pss_one (ps_ret (pe_tup (pa_cons (pv 2) (pa_cons (pe_op op_add pe_int (pcl D hr (by decide) (by rfl) (pa_cons (pv 0) (pa_cons (pv 1) pa_nil)))) (pa_cons (pcl Pk hr (by decide) (by rfl) (pa_cons (pv 0) (pa_cons (pe_lst (pa_cons pe_str (pa_cons pe_str (pa_cons pe_str (pa_cons pe_str (pa_cons pe_str pa_nil)))))) pa_nil))) pa_nil))))))), ?_⟩
    walk_at "rd"
    refine ⟨a, c, t, 60, rfl, S, by omega, by decide, by decide, fun k1 H1 k10 k11 S1 O1 => ?_⟩
    walk_at "rd"
    refine ⟨a, c, t + 1, (most : Int), rfl, S1, by omega, by omega, lg_small (by omega) (by omega), fun k2 H2 k20 k21 S2 O2 => ?_⟩
    walk_at "rd"
    refine ⟨(by show 5 ≤ sizeLine; decide), fun l nl => ?_⟩
    obtain ⟨la, lc⟩ := S2.na nl
    refine ⟨a, c, _, l, _, rfl, S2.new nl, by omega, upd_same, la, lc, by decide, by decide, fun x H3 hx S3 O3 => ?_⟩
    obtain ⟨md, rfl, hmd⟩ := mode_of hx
    refine ⟨(by show 3 ≤ sizeLine; decide), fun p np => ?_⟩
    exact q p _ _ md _ (t + 1 + 1 + 1) upd_same (by omega) (by omega) (by omega) (by omega) hmd (by omega) (S3.new np) ((((O1.trans O2).new nl).trans O3).new np)
theorem ok_period {f : Addr} {fd : FuncData} (F : Fun K "_law_period" "_law_period" s_L_period f fd) (B : Blt mg) (Dv : Cal P w K mg base "_law_divisor" 1 ["_law_one", "_law_other"] spDiv fV dV) : FnOk P w K mg base CX0 2 f fd ["_law_sides"] spPer := by
  refine F.ok sc_L_period (fun vs H Q E h => ?_) (fun cdv A outer s0 H vs Q E hr h => ?_)
  · obtain ⟨l, xs, ss, rfl, _⟩ := h
    rfl
  · obtain ⟨l, xs, ss, rfl, SS, q⟩ := h
    have nd := sc_L_period.nd
    refine ⟨_, (pss_cons (ps_set (i := 1) nd rfl (Or.inl rfl) pe_int)
      (pss_cons (ps_for PassesOwn.never rfl (pi_list (pv 0)) (pg_tup (by rfl) (pgs_cons (pg_name (i := 2) nd rfl (Or.inl rfl)) (pgs_cons (pg_name (i := 3) nd rfl (Or.inl rfl)) (pgs_cons (pg_name (i := 4) nd rfl (Or.inl rfl)) pgs_nil)))) (pss_cons (ps_set (i := 5) nd rfl (Or.inl rfl) (pe_op op_mulW (pv 3) (pe_op op_add pe_int (pe_callTy call_int1 (by rfl) B.int (by decide +kernel) (pa_cons (pe_cmpR op_eq (pv 4) pe_str (nomark _)) pa_nil)))))
      (pss_one (ps_set (i := 1) nd rfl (Or.inl rfl) (pe_op op_mulW (pe_op op_fdivW (pv 1) (pcl Dv hr (by decide) (by rfl) (pa_cons (pv 1) (pa_cons (pv 5) pa_nil)))) (pv 5))))))
      (pss_one (ps_ret (pv 1))))), ?_⟩
    walk_at "rd"
    refine ⟨⟨_, SqL.of SS.hl⟩, ?_⟩
    refine for_list (K := K) (a := l) (xs := xs) (fun i st H' => ∃ x2 x3 x4 x5 : Option V, st = [some (.ref l), some (.int (comN (ss.take i) : Int)), x2, x3, x4, x5] ∧ H' = H) ⟨none, none, none, none, rfl, rfl⟩ (fun _ _ _ _ ⟨_, _, _, _, _, e⟩ => e ▸ SqL.of SS.hl) ?_ ?_
    · rintro i y st H' hy ⟨x2, x3, x4, x5, rfl, rfl⟩
      obtain ⟨d, p, ed, rfl, hp, sp⟩ := SS.item hy
      walk_at "rd"
      refine ⟨p, _, rfl, SqT.of hp, rfl, _, _, rfl, _, _, rfl, _, _, rfl, rfl, ?_⟩
      walk_at "rd"
      refine ⟨rfl, ?_⟩
      walk_at "rd"
      refine .inr ⟨_, rfl, ?_⟩
      have s0 := sp.s0
      have s1 := sp.s1
      have pb := perM_bd sp
      have eN : ((perN d : Nat) : Int) = perM d.s d.m := Int.toNat_of_nonneg (by omega)
      have eL : d.s * (1 + if decide (V.str d.m = V.str "half_even") = true then 1 else 0) = ((perN d : Nat) : Int) := by
        rw [eN, dec_str]
        unfold perM
        by_cases h : d.m = "half_even"
        · rw [if_pos (decide_eq_true h), if_pos h]; omega
        · rw [if_neg (fun z => h (of_decide_eq_true z)), if_neg h]; omega
      have bb : ∀ b : Bool, -2 ^ 1010 < (1 + if b = true then (1 : Int) else 0) ∧ (1 + if b = true then (1 : Int) else 0) < 2 ^ 1010 := by
        intro b
        cases b <;> decide +kernel
      replace bb := bb (decide (V.str d.m = V.str "half_even"))
      generalize (if decide (V.str d.m = V.str "half_even") = true then (1 : Int) else 0) = bI at eL bb
      walk_at "rd"
      refine ⟨mulW (by omega) bb, ?_⟩
      walk_at "rd"
      refine ⟨comN (ss.take i), perN d, (by show [V.int _, V.int (d.s * (1 + bI))] = _; rw [eL]), ?_⟩
      have cp : 0 < comN (ss.take i) := com_pos _ 1 (by decide) fun e he => SS.side e (List.mem_of_mem_take he)
      have cl := com_take SS.side SS.l4 i
      have gp : 0 < Nat.gcd (comN (ss.take i)) (perN d) := Nat.gcd_pos_of_pos_left _ cp
      have gl : Nat.gcd (comN (ss.take i)) (perN d) ≤ comN (ss.take i) := Nat.gcd_le_left _ cp
      walk_at "rd"
      refine ⟨fdiv_ok _ (by omega) (lg_any (Nat.lt_of_le_of_lt gl (Nat.lt_trans cl (Nat.pow_lt_pow_right (by decide) (by decide))))), ?_⟩
      walk_at "rd"
      have ed2 : (comN (ss.take i) : Int) / ((Nat.gcd (comN (ss.take i)) (perN d) : Nat) : Int) = ((comN (ss.take i) / Nat.gcd (comN (ss.take i)) (perN d) : Nat) : Int) := (Int.natCast_ediv _ _).symm
      have dl : comN (ss.take i) / Nat.gcd (comN (ss.take i)) (perN d) ≤ comN (ss.take i) := Nat.div_le_self _ _
      have big : (2 : Nat) ^ 420 < 2 ^ 1010 := Nat.pow_lt_pow_right (by decide) (by decide)
      have dn : (0 : Int) ≤ ((comN (ss.take i) / Nat.gcd (comN (ss.take i)) (perN d) : Nat) : Int) := Int.natCast_nonneg _
      have ml : CMulW ((comN (ss.take i) : Int) / ((Nat.gcd (comN (ss.take i)) (perN d) : Nat) : Int)) (d.s * (1 + bI)) := by
        rw [ed2, eL]
        exact mulW (by omega) (by omega)
      refine ⟨ml, ?_⟩
      refine ⟨some (.int d.o), some (.int d.s), some (.str d.m), some (.int (d.s * (1 + bI))), ?_, rfl⟩
      have e9 : (comN (ss.take i) : Int) / ((Nat.gcd (comN (ss.take i)) (perN d) : Nat) : Int) * (d.s * (1 + bI)) = (comN (ss.take (i + 1)) : Int) := by
        rw [eL, ed2, com_snoc ed, ← lcm_div, Int.natCast_mul]
      rw [← e9]
      rfl
    · rintro st H' ⟨x2, x3, x4, x5, rfl, rfl⟩
      rw [SS.len, List.take_length]
      walk_at "rd"
      exact q
theorem ok_set {f : Addr} {fd : FuncData} (F : Fun K "_law_set" "_law_set" s_L_set f fd) (B : Blt mg) (D : Cal P w K mg base "_law_draw" 1 ["_law_source_here", "_law_limit"] spDraw fD dD)
    (Sm : Cal P w K mg base "_law_small_side" 3 ["_law_source_here", "_law_most"] spSmall fS dS) : FnOk P w K mg base CX0 4 f fd ["_law_source_here", "_law_most", "_law_many"] spSet := by
  refine F.ok sc_L_set (fun vs H Q E h => ?_) (fun cdv A outer s0 H vs Q E hr h => ?_)
  · obtain ⟨a, c, t, most, many, rfl, _⟩ := h
    rfl
  · obtain ⟨a, c, t, most, many, rfl, S, m1, m2, n1, n2, ht, q⟩ := h
    have nd := sc_L_set.nd
    refine ⟨_, (pss_one (ps_ret (pe_lc (own := [("_law_k", 3)]) (g := gName 3) (tt := tYes) rfl nd (pi_range1 (by rfl) B.range (pa_cons (pe_op op_add pe_int (pcl D hr (by decide) (by rfl) (pa_cons (pv 0) (pa_cons (pv 2) pa_nil)))) pa_nil)) (blkOk_by (N := ["_law_source_here", "_law_most", "_law_many", "_law_k"]) (sc := defScope s_L_set) (by decide +kernel)) (fun _ _ _ _ _ => pg_name (i := 3) nd rfl (Or.inl rfl)) (fun _ _ _ _ _ => pts_nil) (fun _ _ _ _ _ => (pcl Sm hr (by decide) (by rfl) (pa_cons (pv 0) (pa_cons (pv 1) pa_nil))))))), ?_⟩
    walk_at "rd"
    refine ⟨a, c, t, (many : Int), rfl, S, by omega, by omega, lg_small (by omega) (by omega), fun y H1 y0 y1 S1 O1 => ?_⟩
    walk_at "rd"
    refine ⟨by omega, by omega, fun L nL => ?_⟩
    obtain ⟨La, Lc⟩ := S1.na nL
    refine lc_range (lo := 0) (n := (1 + y).toNat) (fun j H5 => ∃ (xs : List V) (ss : List Sd) (t' : Nat), H5 L = some (.lst xs) ∧ xs.length = j ∧ ss.length = j ∧ (∀ (i : Nat) (d : Sd), ss[i]? = some d → ∃ p : Addr, xs[i]? = some (V.ref p) ∧ H5 p = some (sideV d.o d.s d.m) ∧ SideP d.o d.s d.m) ∧ (∀ d ∈ ss, -30 ≤ d.o ∧ d.o ≤ 29 ∧ d.s ≤ (most : Int)) ∧ t' ≤ t + 1 + 3 * j ∧ Src H5 a c t' ∧ Oth a c H H5)
      ⟨[], [], t + 1, upd_same, rfl, rfl, (fun i d h => nomatch h), (fun d hd => absurd hd List.not_mem_nil), by omega, S1.new nL, O1.new nL⟩ ?_ ?_
    · rintro j H5 hj ⟨xs, ss, t', hL, lx, ls, at_, small, ht', S5, O5⟩
      refine ⟨rfl, ?_⟩
      walk_at "rd"
      refine ⟨a, c, t', most, rfl, S5, m1, m2, by omega, fun p o s m H6 t6 hp b1 b2 b3 b4 md ht6 S6 O6 => ?_⟩
      have hL6 := O6 _ _ hL La Lc
      refine ⟨_, hL6, (by rw [lx]; exact Nat.lt_of_lt_of_le (by omega : j < 100) (by decide)), xs ++ [.ref p], ss ++ [⟨o, s, m⟩], t6, upd_same, by rw [List.length_append, lx]; rfl, by rw [List.length_append, ls]; rfl, ?_, ?_, by omega, ?_, ?_⟩
      · intro i d hd
        rcases Nat.lt_or_ge i ss.length with z | z
        · rw [List.getElem?_append_left z] at hd
          obtain ⟨p2, e1, hp2, sp⟩ := at_ i d hd
          obtain ⟨z1, z2⟩ := S5.nt hp2
          have hp6 := O6 _ _ hp2 z1 z2
          exact ⟨p2, by rw [List.getElem?_append_left (by omega)]; exact e1, (upd_ne (ne_of hp6 hL6 (by intro y; cases y))).trans hp6, sp⟩
        · rw [List.getElem?_append_right z] at hd
          have e0 : i - ss.length = 0 := by
            have := (List.getElem?_eq_some_iff.mp hd).1
            simp at this
            omega
          rw [e0] at hd
          have ed : d = ⟨o, s, m⟩ := by simpa using hd.symm
          subst ed
          exact ⟨p, by rw [List.getElem?_append_right (by omega), show i - xs.length = 0 by omega]; rfl, (upd_ne (ne_of hp hL6 (by intro y; cases y))).trans hp, ⟨by show -(10 : Int) ^ 40 ≤ o; omega, by show o ≤ (10 : Int) ^ 40; omega, b3, by show s ≤ (10 : Int) ^ 30; omega, md⟩⟩
      · intro d hd
        rcases List.mem_append.mp hd with h | h
        · exact small d h
        · rw [List.mem_singleton.mp h]; exact ⟨b1, b2, b4⟩
      · obtain ⟨cs, hcs, hl2⟩ := S6.cl
        exact ⟨S6.ne, (upd_ne La.symm).trans S6.ob, cs, (upd_ne Lc.symm).trans hcs, hl2⟩
      · intro b u z na nc
        have z5 := O5 b u z na nc
        have z6 := O6 b u z5 na nc
        exact (upd_ne (ne_of_none (O1 b u z na nc) nL)).trans z6
    · rintro H5 ⟨xs, ss, t', hL, lx, ls, at_, small, ht', S5, O5⟩
      exact q L xs ss H5 t' ⟨hL, by omega, by omega, by omega, at_⟩ small La Lc (by omega) S5 O5
end
end HT
namespace HT
open PySem L2
def nV (k : Nat) : V := .int (k : Int)
structure AmG (mg : Str → Option Value) : Prop where
  isi : mg "isinstance" = none
  list : mg "list" = none
  len : mg "len" = none
  ms : ∃ t, mg "MOST_SIDES" = some (.int 4 t)
  mh : ∃ t, mg "MOST_HANDOVERS" = some (.int 1000 t)
  mp : ∃ t, mg "MOST_PERIOD_OF_ORDERS" = some (.int 2000 t)
  lcm : mg "lcm" = some (.builtin "math.lcm")
  sorted : mg "sorted" = none
def spIsSide : Sp := fun vs H Q _ => ∃ (p : Addr) (o s : Int) (m : Str), vs = [.ref p] ∧ H p = some (sideV o s m) ∧ SideP o s m ∧ Q (.bl true) H
def spSides : Sp := fun vs H Q _ => ∃ (l : Addr) (xs : List V) (ss : List Sd), vs = [.ref l] ∧ SidesAt H l xs ss ∧ Q .non H
def spPerOf : Sp := fun vs H Q _ => ∃ (p : Addr) (o s : Int) (m : Str), vs = [.ref p] ∧ H p = some (sideV o s m) ∧ SideP o s m ∧ Q (.int (perM s m)) H
def spNums : Sp := fun vs H Q _ => ∃ (kl : Addr) (ks : List Nat) (n : Nat), vs = [.ref kl, .int (n : Int)] ∧ H kl = some (.lst (ks.map nV)) ∧ ks.length ≤ 1000 ∧ (∀ k ∈ ks, k < n) ∧ Q .non H
/-- one hand-over more -/
def stepW (ss : List Sd) (a : List Int × Int) (k : Nat) : List Int × Int :=
  match ss[k]? with
  | some d => (a.1 ++ [dueM d.o d.s d.m a.2], dueM d.o d.s d.m a.2)
  | none => (a.1 ++ [a.2], a.2)
def walkW (ss : List Sd) (ks : List Nat) (v : Int) : List Int × Int := ks.foldl (stepW ss) ([], v)
theorem walk_snoc {ss : List Sd} {ks : List Nat} {v : Int} {i k : Nat} (h : ks[i]? = some k) : walkW ss (ks.take (i + 1)) v = stepW ss (walkW ss (ks.take i) v) k := by
  unfold walkW
  rw [List.take_succ, h, List.foldl_append]
  rfl
theorem due_far {o s v b : Int} {m : Str} (S : SideP o s m) (h : -b < v ∧ v < b) : -(b + 10 ^ 30) < dueM o s m v ∧ dueM o s m v < b + 10 ^ 30 := by
  have h1 := due_near (o := o) (v := v) S.md S.s0
  have h2 := S.s1
  omega
def spAlong : Sp := fun vs H Q _ => ∃ (l : Addr) (xs : List V) (ss : List Sd) (kl : Addr) (ks : List Nat) (v : Int), vs = [.ref l, .ref kl, .int v] ∧ SidesAt H l xs ss ∧ H kl = some (.lst (ks.map nV)) ∧ ks.length ≤ 1000 ∧ (∀ k ∈ ks, k < ss.length) ∧ (-2 ^ 200 < v ∧ v < 2 ^ 200) ∧
  ∀ (d : Addr) (H' : Hp), H d = none → Same H H' → H' d = some (.lst ((walkW ss ks v).1.map V.int)) → Q (.ref d) H'
section
variable {P : Program} {w : World} {K : PySem.W.Frag} {mg : Str → Option Value} {base : Heap} {aM c0 fC fB fV fN fW fS : Addr} {dC dB dV dN dW dS : FuncData}
theorem ok_is_side {f : Addr} {fd : FuncData} (F : Fun K "is_side" "is_side" s_is_side f fd) (g0 : mg "InvalidSide" = some (.ref c0)) (Ck : Cal P w K mg base "check_side" 3 ["side"] spCheckSide fC dC) : FnOk P w K mg base CX0 4 f fd ["thing"] spIsSide := by
  refine F.ok sc_is_side (fun vs H Q E h => ?_) (fun cdv A outer s0 H vs Q E hr h => ?_)
  · obtain ⟨p, o, s, m, rfl, _⟩ := h
    rfl
  · obtain ⟨p, o, s, m, rfl, hp, S, q⟩ := h
    refine ⟨_, pss_cons (ps_try_only rfl rfl ⟨rfl, by decide, .inl g0⟩ takes0 (fun W pn xe tk _ => pss_one (ps_expr (pcl Ck hr (by decide) (by rfl) (pa_cons (pv 0) pa_nil)))) (fun a oe cls d pn _ _ => pss_one (ps_ret pe_bl))) (pss_one (ps_ret pe_bl)), ?_⟩
    walk_at "rd"
    refine ⟨p, o, s, m, rfl, hp, S, ?_⟩
    walk_at "rd"
    exact q
theorem ok_sides {f : Addr} {fd : FuncData} (F : Fun K "check_sides" "check_sides" s_check_sides f fd) (A' : AmG mg) (Ck : Cal P w K mg base "is_side" 4 ["thing"] spIsSide fC dC) : FnOk P w K mg base CX0 5 f fd ["sides"] spSides := by
  refine F.ok sc_check_sides (fun vs H Q E h => ?_) (fun cdv A outer s0 H vs Q E hr h => ?_)
  · obtain ⟨l, xs, ss, rfl, _⟩ := h
    rfl
  · obtain ⟨l, xs, ss, rfl, SS, q⟩ := h
    have nd := sc_check_sides.nd
    obtain ⟨tms, hms⟩ := A'.ms
    refine ⟨_, pss_cons (ps_if (PW.pt (pw_or (pt_not (pt_val (pe_callB call_isi (by rfl) A'.isi (by decide +kernel) (pa_cons (pv 0) (pa_cons (pe_bltn (v := .ty "list") (by rfl) A'.list (by decide +kernel) rfl) pa_nil)))))
        (pw_or1 (pt_not (pt_chain op_le op_le pe_int (pe_callB call_len_seq (by rfl) A'.len PySem.boot_len (pa_cons (pv 0) pa_nil)) (pe_glob (v := .int 4) (by rfl) hms ⟨_, rfl⟩)))))) (pss_one ps_never) pss_nil)
      (pss_one (ps_for PassesOwn.never rfl (pi_list (pv 0)) (pg_name (i := 1) nd rfl (Or.inl rfl))
        (pss_one (ps_if (pt_not (pt_val (pcl Ck hr (by decide) (by rfl) (pa_cons (pv 1) pa_nil)))) (pss_one ps_never) pss_nil)))), ?_⟩
    walk_at "rd"
    refine ⟨_, _, _, _, _, rfl, .ty "list", .base (.lst SS.hl), kit_ty (r := true) (by decide +kernel), ?_⟩
    walk_at "rd"
    refine ⟨l, _, rfl, .inl (SqL.of SS.hl), ?_⟩
    have l1 := SS.l1
    have l4 := SS.l4
    have ln := SS.len
    walk_at "rd"
    refine ite2 (fun _ => ?_) (fun z => absurd (decide_eq_true (by omega)) z)
    walk_at "rd"
    refine ite2 (fun z => ?_) (fun _ => ?_)
    · exfalso
      have e : decide ((xs.length : Int) ≤ 4) = true := decide_eq_true (by omega)
      exact not_t z e
    walk_at "rd"
    refine ⟨⟨_, SqL.of SS.hl⟩, ?_⟩
    refine for_list (K := K) (a := l) (xs := xs) (fun i σ H' => ∃ y : Option V, σ = [some (.ref l), y] ∧ H' = H) ⟨none, rfl, rfl⟩ (fun _ _ _ _ ⟨_, _, e⟩ => e ▸ SqL.of SS.hl) ?_ ?_
    · rintro i y σ H' hy ⟨z, rfl, rfl⟩
      obtain ⟨d, p, ed, rfl, hp, sp⟩ := SS.item hy
      walk_at "rd"
      refine ⟨p, d.o, d.s, d.m, rfl, hp, sp, _, rfl, ?_⟩
      refine ite2 (fun z => (not_t z rfl).elim) (fun _ => ?_)
      exact ⟨_, rfl, rfl⟩
    · rintro σ H' ⟨z, rfl, rfl⟩
      exact q
theorem ok_per {f : Addr} {fd : FuncData} (F : Fun K "period_of" "period_of" s_period_of f fd) : FnOk P w K mg base CX0 1 f fd ["side"] spPerOf := by
  refine F.ok sc_period_of (fun vs H Q E h => ?_) (fun cdv A outer s0 H vs Q E hr h => ?_)
  · obtain ⟨p, o, s, m, rfl, _⟩ := h
    rfl
  · obtain ⟨p, o, s, m, rfl, hp, S, q⟩ := h
    have nd := sc_period_of.nd
    refine ⟨_, (pss_cons (ps_asg (pv 0) (pg_tup (by rfl) (pgs_cons (pg_name (i := 1) nd rfl (Or.inl rfl)) (pgs_cons (pg_name (i := 2) nd rfl (Or.inl rfl)) (pgs_cons (pg_name (i := 3) nd rfl (Or.inl rfl)) pgs_nil)))))
      (pss_cons (ps_if (pt_cmpR op_eq (pv 3) pe_str (nomark _)) (pss_one (ps_ret (pe_op op_mul pe_int (pv 2)))) pss_nil)
      (pss_one (ps_ret (pv 2))))), ?_⟩
    walk_at "rd"
    refine ⟨p, _, rfl, SqT.of hp, rfl, _, _, rfl, _, _, rfl, _, _, rfl, rfl, ?_⟩
    walk_at "rd"
    refine ⟨rfl, ?_⟩
    walk_at "rd"
    unfold perM at q
    refine ite2 (fun h => ?_) (fun h => ?_)
    · rw [if_pos (str_t h)] at q
      walk_at "rd"
      refine ⟨.inl ⟨by decide, by decide⟩, ?_⟩
      exact q
    · rw [if_neg (str_f h)] at q
      walk_at "rd"
      exact q
end
end HT
namespace HT
open PySem L2
theorem log_lt {n k : Nat} (h : n < 2 ^ (k + 1)) : n.log2 ≤ k := by
  by_cases h0 : n = 0
  · subst h0
    rw [Nat.log2_zero]
    exact Nat.zero_le _
  · exact Nat.le_of_lt_succ ((Nat.log2_lt h0).mpr h)
theorem lcm_lt {a b i j : Nat} (ha : a < 2 ^ i) (hb : b < 2 ^ j) : a.lcm b < 2 ^ (i + j) := by
  rw [Nat.pow_add]
  exact Nat.lt_of_le_of_lt (PySem.W.mc_lcm_le a b) (Nat.mul_lt_mul'' ha hb)
def rLcm2 : List V → Hp → VK → Prop := fun vs H Q => ∃ a b : Int, vs = [.int a, .int b] ∧ a.natAbs < 2 ^ 2000 ∧ b.natAbs < 2 ^ 2000 ∧ Q (.int (((a.natAbs.lcm b.natAbs : Nat) : Int))) H
theorem cr_lcm2 {X : Cx} : CallR X (.builtin "math.lcm") rLcm2 := by
  intro pins s σ H vs us Q I r h
  obtain ⟨a, b, rfl, ha, hb, q⟩ := h
  obtain ⟨u1, u2, rfl, r1, r2⟩ := vals2 r
  obtain ⟨t, rfl⟩ := r1
  obtain ⟨u, rfl⟩ := r2
  have hab := lcm_lt ha hb
  have e1 : Nat.lcm 1 a.natAbs = a.natAbs := PySem.W.mc_lcm_one _
  have two : ∀ {k : Nat}, 1 < 2 ^ (k + 1) := fun {k} => Nat.one_lt_two_pow (by omega)
  have g := PySem.W.mg_run_lcm a t b u
    (by have := log_lt (n := max 1 a.natAbs) (k := 1999) (Nat.max_lt.mpr ⟨two, ha⟩); omega)
    (by have := log_lt (n := max a.natAbs b.natAbs) (k := 1999) (Nat.max_lt.mpr ⟨ha, hb⟩); omega)
    (by rw [e1]; exact PySem.W.mc_size (k := 100) (Nat.le_trans (Nat.le_of_lt hab) (Nat.pow_le_pow_right (by decide) (by decide))) (by decide))
  rw [e1] at g
  exact PySem.call_function_meets PySem.W.MGF.kind_lcm PySem.W.MGF.plain_lcm PySem.W.MGF.entry_lcm (PySem.W.MGF.args_lcm _ _) g.meets ⟨.int _, H, I.tok _, ⟨_, rfl⟩, q⟩
section
variable {P : Program} {w : World} {K : PySem.W.Frag} {mg : Str → Option Value} {base : Heap} {aM c0 fC fB fV fN fW fS : Addr} {dC dB dV dN dW dS : FuncData}
theorem ok_common {f : Addr} {fd : FuncData} (F : Fun K "common_period" "common_period" s_common_period f fd) (A' : AmG mg) (Pe : Cal P w K mg base "period_of" 1 ["side"] spPerOf fC dC) : FnOk P w K mg base CX0 2 f fd ["sides"] spPer := by
  refine F.ok sc_common_period (fun vs H Q E h => ?_) (fun cdv A outer s0 H vs Q E hr h => ?_)
  · obtain ⟨l, xs, ss, rfl, _⟩ := h
    rfl
  · obtain ⟨l, xs, ss, rfl, SS, q⟩ := h
    have nd := sc_common_period.nd
    refine ⟨_, pss_cons (ps_set (i := 1) nd rfl (Or.inl rfl) pe_int)
      (pss_cons (ps_for PassesOwn.never rfl (pi_list (pv 0)) (pg_name (i := 2) nd rfl (Or.inl rfl)) (pss_one (ps_set (i := 1) nd rfl (Or.inl rfl) (pe_callBfun cr_lcm2 (by rfl) A'.lcm (pa_cons (pv 1) (pa_cons (pcl Pe hr (by decide) (by rfl) (pa_cons (pv 2) pa_nil)) pa_nil))))))
      (pss_one (ps_ret (pv 1)))), ?_⟩
    walk_at "rd"
    refine ⟨⟨_, SqL.of SS.hl⟩, ?_⟩
    refine for_list (K := K) (a := l) (xs := xs) (fun i st H' => ∃ x2 : Option V, st = [some (.ref l), some (.int (comN (ss.take i) : Int)), x2] ∧ H' = H) ⟨none, rfl, rfl⟩ (fun _ _ _ _ ⟨_, _, e⟩ => e ▸ SqL.of SS.hl) ?_ ?_
    · rintro i y st H' hy ⟨x2, rfl, rfl⟩
      obtain ⟨d, p, ed, rfl, hp, sp⟩ := SS.item hy
      walk_at "rd"
      refine ⟨p, d.o, d.s, d.m, rfl, hp, sp, ?_⟩
      have pb := perM_bd sp
      have cl := com_take SS.side SS.l4 i
      have big : (2 : Nat) ^ 420 < 2 ^ 2000 := Nat.pow_lt_pow_right (by decide) (by decide)
      have big2 : (2 : Nat) ^ 120 < 2 ^ 2000 := Nat.pow_lt_pow_right (by decide) (by decide)
      have e2 : (perM d.s d.m).natAbs = perN d := by unfold perN; omega
      refine ⟨_, _, rfl, ?_, ?_, ?_⟩
      · rw [Int.natAbs_natCast]; omega
      · rw [e2]; unfold perN; omega
      · rw [Int.natAbs_natCast, e2, ← com_snoc ed]
        exact ⟨_, rfl, rfl⟩
    · rintro st H' ⟨x2, rfl, rfl⟩
      rw [SS.len, List.take_length]
      walk_at "rd"
      exact q
theorem ok_nums {f : Addr} {fd : FuncData} (F : Fun K "_check_numbers" "_check_numbers" s_check_numbers f fd) (A' : AmG mg) (Bt : Cal P w K mg base "is_int_between" 2 ["thing", "least", "most"] spBetween fB dB) : FnOk P w K mg base CX0 3 f fd ["numbers", "many"] spNums := by
  refine F.ok sc_check_numbers (fun vs H Q E h => ?_) (fun cdv A outer s0 H vs Q E hr h => ?_)
  · obtain ⟨kl, ks, n, rfl, _⟩ := h
    rfl
  · obtain ⟨kl, ks, n, rfl, hk, kn, kb, q⟩ := h
    have nd := sc_check_numbers.nd
    obtain ⟨tmh, hmh⟩ := A'.mh
    refine ⟨_, pss_cons (ps_if (PW.pt (pw_or (pt_not (pt_val (pe_callB call_isi (by rfl) A'.isi (by decide +kernel) (pa_cons (pv 0) (pa_cons (pe_bltn (v := .ty "list") (by rfl) A'.list (by decide +kernel) rfl) pa_nil)))))
        (pw_or1 (pt_cmpR op_gt (pe_callB call_len_seq (by rfl) A'.len PySem.boot_len (pa_cons (pv 0) pa_nil)) (pe_glob (v := .int 1000) (by rfl) hmh ⟨_, rfl⟩) (nomark _))))) (pss_one ps_never) pss_nil)
      (pss_one (ps_for PassesOwn.never rfl (pi_list (pv 0)) (pg_name (i := 2) nd rfl (Or.inl rfl))
        (pss_one (ps_if (pt_not (pt_val (pcl Bt hr (by decide) (by rfl) (pa_cons (pv 2) (pa_cons pe_int (pa_cons (pe_op op_sub (pv 1) pe_int) pa_nil)))))) (pss_one ps_never) pss_nil)))), ?_⟩
    walk_at "rd"
    refine ⟨_, _, _, _, _, rfl, .ty "list", .base (.lst hk), kit_ty (r := true) (by decide +kernel), ?_⟩
    walk_at "rd"
    refine ⟨kl, _, rfl, .inl (SqL.of hk), ?_⟩
    walk_at "rd"
    refine ite2 (fun z => ?_) (fun _ => ?_)
    · exfalso
      have := of_decide_eq_true z
      rw [List.length_map] at this
      omega
    walk_at "rd"
    refine ⟨⟨_, SqL.of hk⟩, ?_⟩
    refine for_list (K := K) (a := kl) (xs := ks.map nV) (fun i σ H' => ∃ y : Option V, σ = [some (.ref kl), some (.int (n : Int)), y] ∧ H' = H) ⟨none, rfl, rfl⟩ (fun _ _ _ _ ⟨_, _, e⟩ => e ▸ SqL.of hk) ?_ ?_
    · rintro i y σ H' hy ⟨z, rfl, rfl⟩
      obtain ⟨k, hkk, rfl⟩ : ∃ k, ks[i]? = some k ∧ y = nV k := by
        rw [List.getElem?_map] at hy
        cases e : ks[i]? with
        | none => rw [e] at hy; cases hy
        | some k => rw [e] at hy; exact ⟨k, rfl, (Option.some.inj hy).symm⟩
      have kl' := kb k (List.mem_of_getElem? hkk)
      walk_at "rd"
      refine ⟨_, _, _, rfl, _, rfl, ?_⟩
      refine ite2 (fun z => ?_) (fun _ => ?_)
      · exfalso
        refine not_t z ?_
        rw [decide_eq_true (by omega), decide_eq_true (by omega)]
        rfl
      exact ⟨_, rfl, rfl⟩
    · rintro σ H' ⟨z, rfl, rfl⟩
      exact q
end
end HT
namespace HT
open PySem L2
theorem gen_list {K : PySem.W.Frag} {a : Addr} {xs : List V} {R : Hp → Prop} {Body : V → Hp → (Hp → Prop) → Prop} {H0 : Hp} (Pv : Nat → Hp → Prop) (h0 : Pv 0 H0) (hl : ∀ i H, i ≤ xs.length → Pv i H → SqL K H a xs)
    (hs : ∀ i x H, xs[i]? = some x → Pv i H → Body x H (Pv (i + 1))) (hd : ∀ H, Pv xs.length H → R H) :
    ∃ W : Nat → Nat → Hp → Prop, (∃ m, W 0 m H0) ∧ ∀ i m H, W i m H → ((Itl K a).stop i H ∧ R H) ∨ ((Itl K a).go i H ∧ ∃ Nx : Hp → Prop, (∀ H', Nx H' → ∃ m', m' < m ∧ W (i + 1) m' H') ∧ ∀ x H', (Itl K a).yld i H x H' → Body x H' Nx) := by
  refine ⟨fun i m H => m = xs.length - i ∧ i ≤ xs.length ∧ Pv i H, ⟨xs.length, by simp, Nat.zero_le _, h0⟩, ?_⟩
  rintro i m H ⟨rfl, hi, p⟩
  have q := hl i H hi p
  by_cases hlt : i < xs.length
  · refine .inr ⟨⟨xs, xs[i], q, by simp [hlt]⟩, Pv (i + 1), fun H' p' => ⟨xs.length - (i + 1), by omega, rfl, hlt, p'⟩, fun x H' y => ?_⟩
    obtain ⟨e, y⟩ := y
    subst e
    exact hs i x _ (y xs q) p
  · have e : i = xs.length := by omega
    subst e
    exact .inl ⟨⟨xs, q, Nat.le_refl _⟩, hd H p⟩
theorem gen_range {lo : Int} {n : Nat} {R : Hp → Prop} {Body : V → Hp → (Hp → Prop) → Prop} {H0 : Hp} (Pv : Nat → Hp → Prop) (h0 : Pv 0 H0)
    (hs : ∀ i H, i < n → Pv i H → Body (.int (lo + i)) H (Pv (i + 1))) (hd : ∀ H, Pv n H → R H) :
    ∃ W : Nat → Nat → Hp → Prop, (∃ m, W 0 m H0) ∧ ∀ i m H, W i m H → ((Itr lo n).stop i H ∧ R H) ∨ ((Itr lo n).go i H ∧ ∃ Nx : Hp → Prop, (∀ H', Nx H' → ∃ m', m' < m ∧ W (i + 1) m' H') ∧ ∀ x H', (Itr lo n).yld i H x H' → Body x H' Nx) := by
  refine ⟨fun i m H => m = n - i ∧ i ≤ n ∧ Pv i H, ⟨n, by simp, Nat.zero_le _, h0⟩, ?_⟩
  rintro i m H ⟨rfl, hi, p⟩
  by_cases hlt : i < n
  · refine .inr ⟨hlt, Pv (i + 1), fun H' p' => ⟨n - (i + 1), by omega, rfl, hlt, p'⟩, fun x H' y => ?_⟩
    obtain ⟨e, y⟩ := y
    subst e y
    exact hs i _ hlt p
  · have e : i = n := by omega
    subst e
    exact .inl ⟨Nat.le_refl _, hd H p⟩
end HT
namespace HT
open PySem L2
def newsO (many : Nat) (o : List Nat) : List (List Nat) := ((List.range many).filter fun n => !o.contains n).map fun n => o ++ [n]
def growO (many : Nat) (os : List (List Nat)) : List (List Nat) := os.flatMap (newsO many)
def ordI (many : Nat) : Nat → List (List Nat)
  | 0 => [[]]
  | i + 1 => growO many (ordI many i)
/-- lists of numbers in a list, new ones -/
def OrdsAt (H0 H : Hp) (L : Addr) (os : List (List Nat)) : Prop := ∃ ps : List Addr, H L = some (.lst (ps.map V.ref)) ∧ ps.length = os.length ∧ (∀ (i : Nat) (p : Addr) (o : List Nat), ps[i]? = some p → os[i]? = some o → H p = some (.lst (o.map nV))) ∧ ∀ p ∈ ps, H0 p = none
def spOrders : Sp := fun vs H Q _ => ∃ n : Nat, vs = [.int (n : Int)] ∧ 1 ≤ n ∧ n ≤ 4 ∧ ∀ (L : Addr) (H' : Hp), H L = none → Same H H' → OrdsAt H H' L (ordI n n) → Q (.ref L) H'
theorem news_len (n : Nat) (o : List Nat) : (newsO n o).length ≤ n := by
  unfold newsO
  rw [List.length_map]
  exact Nat.le_trans (List.length_filter_le _ _) (by rw [List.length_range]; exact Nat.le_refl _)
theorem grow_len (n : Nat) : ∀ os : List (List Nat), (growO n os).length ≤ os.length * n
  | [] => by simp [growO]
  | o :: os => by
    have a := grow_len n os
    have b := news_len n o
    have e : growO n (o :: os) = newsO n o ++ growO n os := rfl
    rw [e, List.length_append, List.length_cons, Nat.add_mul, Nat.one_mul]
    omega
theorem ord_len (n : Nat) (h : n ≤ 4) : ∀ i, (ordI n i).length ≤ 4 ^ i
  | 0 => Nat.le_refl _
  | i + 1 => by
    have a := ord_len n h i
    have b := grow_len n (ordI n i)
    show (growO n (ordI n i)).length ≤ 4 ^ (i + 1)
    rw [Nat.pow_succ]
    exact Nat.le_trans b (Nat.mul_le_mul a h)
theorem ord_in (n : Nat) : ∀ (i : Nat) (o : List Nat), o ∈ ordI n i → o.length = i ∧ ∀ k ∈ o, k < n
  | 0, o, h => by
    have e : o = [] := List.mem_singleton.mp h
    subst e
    exact ⟨rfl, fun k hk => absurd hk List.not_mem_nil⟩
  | i + 1, o, h => by
    obtain ⟨q, hq, ho⟩ := List.mem_flatMap.mp (show o ∈ (ordI n i).flatMap (newsO n) from h)
    obtain ⟨a, b⟩ := ord_in n i q hq
    unfold newsO at ho
    obtain ⟨k, hk, rfl⟩ := List.mem_map.mp ho
    have hk' := (List.mem_filter.mp hk).1
    rw [List.mem_range] at hk'
    refine ⟨by rw [List.length_append, a]; rfl, fun j hj => ?_⟩
    rcases List.mem_append.mp hj with z | z
    · exact b j z
    · rw [List.mem_singleton.mp z]; exact hk'
theorem inV_nat (k : Nat) (o : List Nat) : inV (nV k) (o.map nV) = o.contains k := by
  induction o with
  | nil => rfl
  | cons j o ih =>
    have e : eqV (nV j) (nV k) = (j == k) := by
      show (((j : Int)) == ((k : Int))) = (j == k)
      by_cases h : j = k
      · subst h; simp
      · rw [beq_eq_false_iff_ne.mpr h, beq_eq_false_iff_ne.mpr (by omega)]
    show (eqV (nV j) (nV k) || inV (nV k) (o.map nV)) = _
    rw [ih, e, List.contains_cons, Bool.beq_comm]
theorem all_flat : ∀ o : List Nat, (o.map nV).all flatV = true
  | [] => rfl
  | _ :: o => by rw [List.map_cons, List.all_cons, all_flat o]; rfl
def newsJ (j : Nat) (o : List Nat) : List (List Nat) := ((List.range j).filter fun n => !o.contains n).map fun n => o ++ [n]
theorem newsJ_succ (j : Nat) (o : List Nat) : newsJ (j + 1) o = newsJ j o ++ (if o.contains j = true then [] else [o ++ [j]]) := by
  unfold newsJ
  rw [List.range_succ, List.filter_append, List.map_append]
  congr 1
  by_cases h : o.contains j = true
  · rw [if_pos h]
    simp only [List.filter_cons, h, Bool.not_true, Bool.false_eq_true, if_false, List.filter_nil, List.map_nil]
  · rw [if_neg h]
    have h' : o.contains j = false := by simpa using h
    simp only [List.filter_cons, h', Bool.not_false, if_true, List.filter_nil, List.map_cons, List.map_nil]
/-- what is found so far -/
def FndAt (H0 H : Hp) (D : Addr) (os : List (List Nat)) : Prop := OrdsAt H0 H D os
theorem OrdsAt.snoc {H0 H H' : Hp} {D q : Addr} {os : List (List Nat)} {o : List Nat} {acc : List V} (A : OrdsAt H0 H D os) (hD : H D = some (.lst acc)) (sm : Same H H') (nq : H0 q = none) (hq : H' q = some (.lst (o.map nV))) (qD : q ≠ D) :
    OrdsAt H0 (upd H' D (.lst (acc ++ [.ref q]))) D (os ++ [o]) := by
  obtain ⟨ps, hp, lp, at_, fr⟩ := A
  rw [hD] at hp
  have ea : acc = ps.map V.ref := by cases hp; rfl
  subst ea
  refine ⟨ps ++ [q], by rw [List.map_append]; exact upd_same, by rw [List.length_append, List.length_append, lp]; rfl, ?_, ?_⟩
  · intro i p o' hp' ho'
    rcases Nat.lt_or_ge i ps.length with z | z
    · rw [List.getElem?_append_left z] at hp'
      rw [List.getElem?_append_left (by omega)] at ho'
      have h1 := at_ i p o' hp' ho'
      have dp : p ≠ D := fun z => by
        rw [z, hD] at h1
        have e2 : ps.map V.ref = o'.map nV := by injection h1 with h1; injection h1
        have e3 : (ps.map V.ref)[i]? = some (V.ref p) := by rw [List.getElem?_map, hp']; rfl
        rw [e2, List.getElem?_map] at e3
        cases e4 : o'[i]? with
        | none => rw [e4] at e3; cases e3
        | some k => rw [e4] at e3; cases e3
      exact (upd_ne dp).trans (sm _ _ h1)
    · rw [List.getElem?_append_right z] at hp'
      rw [List.getElem?_append_right (by omega)] at ho'
      have e0 : i - ps.length = 0 := by
        have := (List.getElem?_eq_some_iff.mp hp').1
        simp at this
        omega
      rw [e0] at hp'
      rw [show i - os.length = 0 by omega] at ho'
      cases hp'
      cases ho'
      exact (upd_ne qD).trans hq
  · intro p hp'
    rcases List.mem_append.mp hp' with z | z
    · exact fr p z
    · rw [List.mem_singleton.mp z]; exact nq
section
variable {P : Program} {w : World} {K : PySem.W.Frag} {mg : Str → Option Value} {base : Heap} {fC : Addr} {dC : FuncData}
theorem ok_orders {f : Addr} {fd : FuncData} (F : Fun K "_orders" "_orders" s_orders f fd) (B : Blt mg) : FnOk P w K mg base CX0 1 f fd ["many"] spOrders := by
  refine F.ok sc_orders (fun vs H Q E h => ?_) (fun cdv A outer s0 H vs Q E hr h => ?_)
  · obtain ⟨n, rfl, _⟩ := h
    rfl
  · obtain ⟨n, rfl, n1, n4, q⟩ := h
    have nd := sc_orders.nd
    refine ⟨_, pss_cons (ps_set (i := 1) nd rfl (Or.inl rfl) (pe_lst (pa_cons (pe_lst pa_nil) pa_nil)))
      (pss_cons (ps_for PassesOwn.never rfl (pi_range1 (by rfl) B.range (pa_cons (pv 0) pa_nil)) (pg_name (i := 2) nd rfl (Or.inl rfl))
        (pss_one (ps_setLc2 (i := 1) (own := [("order", 3), ("number", 4)]) (vs1 := [4]) (g := gName 3) (g1 := gName 4) (tt := tYes) rfl nd rfl rfl (sw_true rfl rfl rfl (by decide +kernel)) (pi_list (pv 1)) (blkOk_by (N := ["many", "orders", "_", "order", "number"]) (sc := defScope s_orders) (by decide +kernel)) (by decide)
          (fun _ _ _ _ _ => pg_name (i := 3) nd rfl (Or.inl rfl)) (fun _ _ _ _ _ => pts_nil) (fun _ _ _ _ _ => pi_range1 (by rfl) B.range (pa_cons (pv 0) pa_nil)) (fun _ _ _ _ _ => pg_name (i := 4) nd rfl (Or.inl rfl)) (fun _ _ _ _ _ => pts_one (pt_cmpR (show OpR _ _ (rIn K true) from op_notIn_seq) (pv 4) (pv 3) (by rfl)))
          (fun _ _ _ _ _ => pe_op op_cat (pv 3) (pe_lst (pa_cons (pv 4) pa_nil))))))
      (pss_one (ps_ret (pv 1)))), ?_⟩
    walk_at "rd"
    refine ⟨(by show 0 ≤ sizeLine; decide), fun p1 m1 => ?_⟩
    generalize e1 : upd H p1 _ = H1
    have w1 : Same H H1 := by rw [← e1]; exact fun b u z => (upd_ne (ne_of_none z m1)).trans z
    have f1 : H1 p1 = some (.lst []) := by rw [← e1]; exact upd_same
    clear e1
    walk_at "rd"
    refine ⟨(by show 1 ≤ sizeLine; decide), fun p2 m2 => ?_⟩
    generalize e2 : upd H1 p2 _ = H2
    have w2 : Same H1 H2 := by rw [← e2]; exact fun b u z => (upd_ne (ne_of_none z m2)).trans z
    have f2 : H2 p2 = some (.lst [.ref p1]) := by rw [← e2]; exact upd_same
    clear e2
    walk_at "rd"
    refine ⟨by omega, by omega, ?_⟩
    refine for_range (n := n) (fun i st H' => ∃ (L : Addr) (x2 : Option V), st = [some (.int (n : Int)), some (.ref L), x2, none, none] ∧ OrdsAt H H' L (ordI n i) ∧ H L = none ∧ Same H H') ⟨p2, none, rfl, ⟨[p1], f2, rfl, ?_, ?_⟩, w1.free m2, w1.trans w2⟩ ?_ ?_
    · intro i p o hp ho
      match i, hp, ho with
      | 0, hp, ho => cases hp; cases ho; exact w2 _ _ f1
      | i + 1, hp, ho => cases hp
    · intro p hp
      rw [List.mem_singleton.mp hp]
      exact m1
    · rintro i st H' hi ⟨L, x2, rfl, ⟨ps, hL, lp, at_, fresh⟩, nL, sm⟩
      walk_at "rd"
      refine ⟨⟨_, SqL.of hL⟩, fun D nD => ?_⟩
      have OA : OrdsAt H H' L (ordI n i) := ⟨ps, hL, lp, at_, fresh⟩
      have hD0 : H D = none := sm.free nD
      refine gen_list (xs := ps.map V.ref) (fun i1 H5 => OrdsAt H H5 D (((ordI n i).take i1).flatMap (newsO n)) ∧ Same H' H5 ∧ i1 ≤ (ordI n i).length) ⟨⟨[], upd_same, rfl, (fun i p o hp _ => nomatch hp), fun p hp => absurd hp List.not_mem_nil⟩, fun b u z => (upd_ne (ne_of_none z nD)).trans z, Nat.zero_le _⟩ (fun i1 H5 _ ⟨_, s5, _⟩ => SqL.of (s5 _ _ hL)) ?_ ?_
      · rintro i1 x H5 hx ⟨OD, s5, _⟩
        obtain ⟨p, hp, rfl⟩ : ∃ p, ps[i1]? = some p ∧ x = .ref p := by
          rw [List.getElem?_map] at hx
          cases e : ps[i1]? with
          | none => rw [e] at hx; cases hx
          | some p => rw [e] at hx; exact ⟨p, rfl, (Option.some.inj hx).symm⟩
        have hil : i1 < (ordI n i).length := by rw [← lp]; exact (List.getElem?_eq_some_iff.mp hp).1
        obtain ⟨o, ho⟩ : ∃ o, (ordI n i)[i1]? = some o := ⟨_, List.getElem?_eq_getElem hil⟩
        have po := at_ i1 p o hp ho
        obtain ⟨oi, on⟩ := ord_in n i o (List.mem_of_getElem? ho)
        refine ⟨rfl, ?_⟩
        walk_at "rd"
        refine ⟨by omega, by omega, ?_⟩
        refine gen_range (lo := 0) (n := n) (fun j H6 => OrdsAt H H6 D (((ordI n i).take i1).flatMap (newsO n) ++ newsJ j o) ∧ Same H' H6) ⟨by rw [show newsJ 0 o = [] from rfl, List.append_nil]; exact OD, s5⟩ ?_ ?_
        · rintro j H6 hj ⟨OD6, s6⟩
          have po6 := s6 _ _ po
          refine ⟨rfl, ?_⟩
          walk_at "rd"
          refine ⟨p, _, rfl, .inl (SqL.of po6), rfl, all_flat o, ?_⟩
          have ein : inV (V.int (0 + (j : Int))) (o.map nV) = o.contains j := by
            rw [Int.zero_add]
            exact inV_nat j o
          rw [ein]
          refine ⟨_, rfl, ?_⟩
          refine ite2 (fun z => ?_) (fun z => ?_)
          · have nc : ¬ o.contains j = true := fun y => not_t z y
            walk_at "rd"
            refine ⟨(by show 1 ≤ sizeLine; decide), fun a1 k1 => ?_⟩
            generalize e3 : upd H6 a1 _ = H7
            have w3 : Same H6 H7 := by rw [← e3]; exact fun b u y => (upd_ne (ne_of_none y k1)).trans y
            have f3 : H7 a1 = some (.lst [V.int (0 + (j : Int))]) := by rw [← e3]; exact upd_same
            clear e3
            refine ⟨p, a1, _, _, rfl, rfl, w3 _ _ po6, f3, (by rw [List.length_map, oi]; exact Nat.le_trans (by show i + 1 ≤ 8; omega) (by decide)), fun a2 k2 => ?_⟩
            generalize e4 : upd H7 a2 _ = H8
            have w4 : Same H7 H8 := by rw [← e4]; exact fun b u y => (upd_ne (ne_of_none y k2)).trans y
            have f4 : H8 a2 = some (.lst ((o ++ [j]).map nV)) := by
              rw [← e4, List.map_append]
              refine upd_same.trans ?_
              rw [Int.zero_add]
              rfl
            clear e4
            obtain ⟨qs, hqs, lq, at6, fr6⟩ := id OD6
            have n2H : H a2 = none := (sm.trans (s6.trans w3)).free k2
            have nD6 : a2 ≠ D := fun y => by
              rw [y, w3 _ _ hqs] at k2
              cases k2
            refine ⟨_, w4 _ _ (w3 _ _ hqs), ?_, ?_, ?_⟩
            · rw [List.length_map, lq]
              have l1 : (((ordI n i).take i1).flatMap (newsO n) ++ newsJ j o).length ≤ 4 ^ 4 * 4 + 4 := by
                rw [List.length_append]
                have a := grow_len n ((ordI n i).take i1)
                have b := ord_len n n4 i
                have c : ((ordI n i).take i1).length ≤ (ordI n i).length := List.length_take_le' _ _
                have d : (4 : Nat) ^ i ≤ 4 ^ 4 := Nat.pow_le_pow_right (by decide) (by omega)
                have g : (newsJ j o).length ≤ 4 := Nat.le_trans (news_len j o) (by omega)
                have e : ((ordI n i).take i1).length * n ≤ 4 ^ 4 * 4 := Nat.mul_le_mul (by omega) n4
                have f : (growO n ((ordI n i).take i1)).length = (((ordI n i).take i1).flatMap (newsO n)).length := rfl
                omega
              exact Nat.lt_of_le_of_lt l1 (by decide)
            · rw [newsJ_succ, if_neg nc, ← List.append_assoc]
              exact OD6.snoc hqs (w3.trans w4) n2H f4 nD6
            · intro b u y
              exact (upd_ne (ne_of_none y nD)).trans (w4 _ _ (w3 _ _ (s6 _ _ y)))
          · have hc : o.contains j = true := not_f z
            refine ⟨?_, s6⟩
            rw [newsJ_succ, if_pos hc, List.append_nil]
            exact OD6
        · rintro H6 ⟨OD6, s6⟩
          refine ⟨?_, s6, hil⟩
          rw [List.take_succ, ho, List.flatMap_append]
          simp only [Option.toList, List.flatMap_cons, List.flatMap_nil, List.append_nil]
          exact OD6
      · rintro H5 ⟨OD, s5, _⟩
        refine ⟨_, _, rfl, ?_, hD0, sm.trans s5⟩
        rw [List.length_map, lp, List.take_length] at OD
        exact OD
    · rintro st H' ⟨L, x2, rfl, OA, nL, sm⟩
      walk_at "rd"
      exact q L H' nL sm OA
end
end HT
namespace HT
open PySem L2
/-- where an order leads -/
def endM (ss : List Sd) (o : List Nat) (v : Int) : Int := (walkW ss o v).2
def stepE (ss : List Sd) (v : Int) (acc : List (Int × List Nat)) (o : List Nat) : List (Int × List Nat) := if acc.any (fun z => decide (z.1 = endM ss o v)) = true then acc else acc ++ [(endM ss o v, o)]
def endsM (ss : List Sd) (os : List (List Nat)) (v : Int) : List (Int × List Nat) := os.foldl (stepE ss v) []
theorem ends_snoc {ss : List Sd} {os : List (List Nat)} {v : Int} {i : Nat} {o : List Nat} (h : os[i]? = some o) : endsM ss (os.take (i + 1)) v = stepE ss v (endsM ss (os.take i) v) o := by
  unfold endsM
  rw [List.take_succ, h, List.foldl_append]
  rfl
theorem stepE_len {ss : List Sd} {v : Int} {acc : List (Int × List Nat)} {o : List Nat} : (stepE ss v acc o).length ≤ acc.length + 1 := by
  unfold stepE
  split
  · omega
  · rw [List.length_append]; exact Nat.le_refl _
theorem ends_len {ss : List Sd} {v : Int} : ∀ (os : List (List Nat)) (acc : List (Int × List Nat)), (os.foldl (stepE ss v) acc).length ≤ acc.length + os.length
  | [], acc => Nat.le_refl _
  | o :: os, acc => by
    have a := ends_len (ss := ss) (v := v) os (stepE ss v acc o)
    have b := stepE_len (ss := ss) (v := v) (acc := acc) (o := o)
    rw [List.foldl_cons, List.length_cons]
    omega
def kvsOf (es : List (Int × List Nat)) (qs : List Addr) : List (Key × V) := (es.zip qs).map fun z => (Sum.inl z.1.1, V.ref z.2)
theorem kvs_keys : ∀ (es : List (Int × List Nat)) (qs : List Addr), qs.length = es.length → (kvsOf es qs).map (·.1) = (es.map (·.1)).map Sum.inl
  | [], [], _ => rfl
  | e :: es, q :: qs, h => by
    show Sum.inl e.1 :: (kvsOf es qs).map (·.1) = _
    rw [kvs_keys es qs (Nat.succ.inj h)]
    rfl
theorem kvs_len {es : List (Int × List Nat)} {qs : List Addr} (h : qs.length = es.length) : (kvsOf es qs).length = es.length := by
  unfold kvsOf
  rw [List.length_map, List.length_zip]
  omega
theorem kvs_val : ∀ (es : List (Int × List Nat)) (qs : List Addr) (k : Int), qs.length = es.length → (valV (kvsOf es qs) (Sum.inl k)).isSome = es.any (fun z => decide (z.1 = k))
  | [], [], k, _ => rfl
  | e :: es, q :: qs, k, h => by
    have ih := kvs_val es qs k (Nat.succ.inj h)
    have dk : decide ((Sum.inl e.1 : Key) = Sum.inl k) = decide (e.1 = k) := by
      by_cases z : e.1 = k
      · rw [decide_eq_true z, z, decide_eq_true rfl]
      · rw [decide_eq_false z, decide_eq_false fun y => z (Sum.inl.inj y)]
    show (Option.map (·.2) (List.find? (fun kv => decide (kv.1 = Sum.inl k)) ((Sum.inl e.1, V.ref q) :: kvsOf es qs))).isSome = (decide (e.1 = k) || es.any fun z => decide (z.1 = k))
    rw [List.find?_cons]
    show (Option.map (·.2) (match decide ((Sum.inl e.1 : Key) = Sum.inl k) with | true => some (Sum.inl e.1, V.ref q) | false => List.find? (fun kv => decide (kv.1 = Sum.inl k)) (kvsOf es qs))).isSome = _
    rw [dk]
    by_cases z : e.1 = k
    · rw [decide_eq_true z]; rfl
    · rw [decide_eq_false z]
      exact ih
theorem kvs_put {es : List (Int × List Nat)} {qs : List Addr} {k : Int} {o : List Nat} {q : Addr} (h : qs.length = es.length) (n : es.any (fun z => decide (z.1 = k)) = false) : putK (kvsOf es qs) (Sum.inl k) (V.ref q) = kvsOf (es ++ [(k, o)]) (qs ++ [q]) := by
  have a : ((kvsOf es qs).any fun kv => decide (kv.1 = Sum.inl k)) = false := by
    have z := kvs_val es qs k h
    rw [n] at z
    have y : valV (kvsOf es qs) (Sum.inl k) = none := by
      cases e : valV (kvsOf es qs) (Sum.inl k) with
      | none => rfl
      | some v => rw [e] at z; cases z
    unfold valV at y
    rw [Option.map_eq_none_iff] at y
    rw [List.any_eq_false]
    intro kv hkv
    have := List.find?_eq_none.mp y kv hkv
    exact this
  unfold putK
  rw [if_neg (by rw [a]; exact Bool.false_ne_true)]
  unfold kvsOf
  rw [List.zip_append h.symm, List.map_append]
  rfl
/-- a dict of ends, each with its order -/
def EndsAt (H0 H : Hp) (D : Addr) (es : List (Int × List Nat)) : Prop := ∃ qs : List Addr, H D = some (.dK (kvsOf es qs)) ∧ qs.length = es.length ∧ (∀ (i : Nat) (q : Addr) (e : Int × List Nat), qs[i]? = some q → es[i]? = some e → H q = some (.lst (e.2.map nV))) ∧ ∀ q ∈ qs, H0 q = none
theorem walk_bd {ss : List Sd} (h : ∀ d ∈ ss, SideP d.o d.s d.m) {v b : Int} (hb : -b < v ∧ v < b) : ∀ (o : List Nat) , (∀ k ∈ o, k < ss.length) → -(b + 10 ^ 30 * (o.length : Int)) < endM ss o v ∧ endM ss o v < b + 10 ^ 30 * (o.length : Int) := by
  intro o
  have gen : ∀ (o : List Nat) (a : List Int × Int) (b : Int), (∀ k ∈ o, k < ss.length) → (-b < a.2 ∧ a.2 < b) → -(b + 10 ^ 30 * (o.length : Int)) < (o.foldl (stepW ss) a).2 ∧ (o.foldl (stepW ss) a).2 < b + 10 ^ 30 * (o.length : Int) := by
    intro o
    induction o with
    | nil =>
      intro a b _ hb
      show -(b + 10 ^ 30 * ((0 : Nat) : Int)) < a.2 ∧ a.2 < b + 10 ^ 30 * ((0 : Nat) : Int)
      omega
    | cons k o ih =>
      intro a b hk hb
      have kl := hk k List.mem_cons_self
      have e : (stepW ss a k).2 = dueM ss[k].o ss[k].s ss[k].m a.2 := by
        unfold stepW
        rw [List.getElem?_eq_getElem kl]
      have far := due_far (v := a.2) (h ss[k] (List.getElem_mem kl)) hb
      rw [← e] at far
      have z := ih (stepW ss a k) (b + 10 ^ 30) (fun j hj => hk j (List.mem_cons_of_mem _ hj)) far
      rw [List.foldl_cons, List.length_cons]
      omega
  exact fun hk => gen o ([], v) b hk hb
def spEnds : Sp := fun vs H Q _ => ∃ (l : Addr) (xs : List V) (ss : List Sd) (L : Addr) (os : List (List Nat)) (v : Int) (H0 : Hp), vs = [.ref l, .ref L, .int v] ∧ SidesAt H l xs ss ∧ OrdsAt H0 H L os ∧ os.length ≤ 1000 ∧ (∀ o ∈ os, o.length ≤ 4 ∧ ∀ k ∈ o, k < ss.length) ∧ (-2 ^ 200 < v ∧ v < 2 ^ 200) ∧
  ∀ (D : Addr) (H' : Hp), H D = none → Same H H' → EndsAt H0 H' D (endsM ss os v) → Q (.ref D) H'
section
variable {P : Program} {w : World} {K : PySem.W.Frag} {mg : Str → Option Value} {base : Heap} {fW : Addr} {dW : FuncData}
theorem ok_ends {f : Addr} {fd : FuncData} (F : Fun K "_ends" "_ends" s_ends f fd) (Wr : Cal P w K mg base "written" 3 ["side", "value"] spDue fW dW) : FnOk P w K mg base CX0 4 f fd ["sides", "orders", "value"] spEnds := by
  refine F.ok sc_ends (fun vs H Q E h => ?_) (fun cdv A outer s0 H vs Q E hr h => ?_)
  · obtain ⟨l, xs, ss, L, os, v, H0, rfl, _⟩ := h
    rfl
  · obtain ⟨l, xs, ss, L, os, v, H0, rfl, SS, OA, ol, oin, hv, q⟩ := h
    have nd := sc_ends.nd
    have hu := hu_of hr
    refine ⟨_, pss_cons (ps_set (i := 3) nd rfl (Or.inl rfl) pe_dnewK)
      (pss_cons (ps_for PassesOwn.never rfl (pi_list (pv 1)) (pg_name (i := 4) nd rfl (Or.inl rfl))
        (pss_cons (ps_set (i := 5) nd rfl (Or.inl rfl) (pv 2))
        (pss_cons (ps_for PassesOwn.never rfl (pi_list (pv 4)) (pg_name (i := 6) nd rfl (Or.inl rfl)) (pss_one (ps_set (i := 5) nd rfl (Or.inl rfl) (pcl Wr hr (by decide) (by rfl) (pa_cons (pe_ix ix_list (pv 0) (pv 6) (fun _ _ => rfl)) (pa_cons (pv 5) pa_nil))))))
        (pss_one (ps_if (pt_cmp (pc_dnotin hu (pv 5) (pv 3))) (pss_one (ps_dput hu (pv 3) (pv 5) (pv 4) rfl)) pss_nil)))))
      (pss_one (ps_ret (pv 3)))), ?_⟩
    walk_at "rd"
    refine fun D nD => ?_
    walk_at "rd"
    obtain ⟨ps, hL, lp, at_, fr⟩ := id OA
    have s1 : Same H (upd H D (.dK [])) := fun b u z => (upd_ne (ne_of_none z nD)).trans z
    refine ⟨⟨_, SqL.of (s1 _ _ hL)⟩, ?_⟩
    refine for_list (K := K) (a := L) (xs := ps.map V.ref) (fun i st H' => ∃ x4 x5 x6 : Option V, st = [some (.ref l), some (.ref L), some (.int v), some (.ref D), x4, x5, x6] ∧ EndsAt H0 H' D (endsM ss (os.take i) v) ∧ Same H H') ⟨none, none, none, rfl, ⟨[], upd_same, rfl, (fun i p o hp _ => nomatch hp), fun p hp => absurd hp List.not_mem_nil⟩, s1⟩ (fun _ _ _ _ ⟨_, _, _, _, _, s⟩ => SqL.of (s _ _ hL)) ?_ ?_
    · rintro i y st H' hy ⟨x4, x5, x6, rfl, EA, sm⟩
      obtain ⟨p, hp, rfl⟩ : ∃ p, ps[i]? = some p ∧ y = .ref p := by
        rw [List.getElem?_map] at hy
        cases e : ps[i]? with
        | none => rw [e] at hy; cases hy
        | some p => rw [e] at hy; exact ⟨p, rfl, (Option.some.inj hy).symm⟩
      have il : i < os.length := by rw [← lp]; exact (List.getElem?_eq_some_iff.mp hp).1
      obtain ⟨o, ho⟩ : ∃ o, os[i]? = some o := ⟨_, List.getElem?_eq_getElem il⟩
      have po := at_ i p o hp ho
      obtain ⟨o4, on⟩ := oin o (List.mem_of_getElem? ho)
      walk_at "rd"
      refine ⟨⟨_, SqL.of (sm _ _ po)⟩, ?_⟩
      refine for_list (K := K) (a := p) (xs := o.map nV) (fun j st H'' => ∃ x6 : Option V, st = [some (.ref l), some (.ref L), some (.int v), some (.ref D), some (.ref p), some (.int (walkW ss (o.take j) v).2), x6] ∧ Same H' H'') ⟨x6, rfl, Same.refl _⟩ (fun _ _ _ _ ⟨_, _, s⟩ => SqL.of (s _ _ (sm _ _ po))) ?_ ?_
      · rintro j y2 st H'' hy2 ⟨x6, rfl, s2⟩
        obtain ⟨k, hk, rfl⟩ : ∃ k, o[j]? = some k ∧ y2 = nV k := by
          rw [List.getElem?_map] at hy2
          cases e : o[j]? with
          | none => rw [e] at hy2; cases hy2
          | some k => rw [e] at hy2; exact ⟨k, rfl, (Option.some.inj hy2).symm⟩
        have kl := on k (List.mem_of_getElem? hk)
        have S2 := (SS.same sm).same s2
        obtain ⟨pk, ek, hpk, spk⟩ := S2.at_ k ss[k] (List.getElem?_eq_getElem kl)
        have en : atI xs ((k : Nat) : Int) = some (.ref pk) := by
          unfold atI
          rw [ixN_in (by omega) (by rw [SS.len]; omega)]
          exact ek
        have bd := walk_bd SS.side hv (o.take j) fun k' hk' => on k' (List.mem_of_mem_take hk')
        have tl : (o.take j).length ≤ 4 := Nat.le_trans (List.length_take_le' _ _) o4
        walk_at "rd"
        refine ⟨l, _, _, _, rfl, rfl, SqL.of S2.hl, en, ?_⟩
        walk_at "rd"
        refine ⟨pk, ss[k].o, ss[k].s, ss[k].m, _, rfl, hpk, spk, (by unfold Bd; unfold endM at bd; omega), fun H3 s3 => ?_⟩
        refine ⟨some (nV k), ?_, s2.trans s3⟩
        rw [walk_snoc hk]
        unfold stepW
        rw [List.getElem?_eq_getElem kl]
        rfl
      · rintro st H'' ⟨x6, rfl, s2⟩
        rw [List.length_map, List.take_length]
        obtain ⟨qs, hD, lq, qat, qfr⟩ := EA
        have hD2 := s2 _ _ hD
        walk_at "rd"
        refine ⟨D, _, rfl, DGet.k (k := Sum.inl (walkW ss o v).2) hD2, _, rfl, ?_⟩
        rw [kvs_val _ _ _ lq]
        refine ite2 (fun z => ?_) (fun z => ?_)
        · have nz : (endsM ss (os.take i) v).any (fun z => decide (z.1 = (walkW ss o v).2)) = false := by simpa using z
          walk_at "rd"
          refine ⟨D, _, rfl, DPut.k (k := Sum.inl (walkW ss o v).2) hD2 ?_, ?_⟩
          · rw [kvs_len lq]
            have a := ends_len (ss := ss) (v := v) (os.take i) []
            have b : (os.take i).length ≤ os.length := List.length_take_le' _ _
            exact small1000 (by unfold endsM; have : ([] : List (Int × List Nat)).length = 0 := rfl; omega)
          · refine ⟨_, _, _, rfl, ?_, ?_⟩
            · rw [kvs_put (o := o) lq nz, ends_snoc ho]
              unfold stepE endM
              rw [if_neg (by rw [nz]; exact Bool.false_ne_true)]
              refine ⟨qs ++ [p], upd_same, by rw [List.length_append, List.length_append, lq]; rfl, ?_, ?_⟩
              · intro j q e hq he
                rcases Nat.lt_or_ge j qs.length with y | y
                · rw [List.getElem?_append_left y] at hq
                  rw [List.getElem?_append_left (by omega)] at he
                  have h1 := s2 _ _ (qat j q e hq he)
                  exact (upd_ne (ne_of h1 hD2 (by intro y; cases y))).trans h1
                · rw [List.getElem?_append_right y] at hq
                  rw [List.getElem?_append_right (by omega)] at he
                  have e0 : j - qs.length = 0 := by
                    have := (List.getElem?_eq_some_iff.mp hq).1
                    simp at this
                    omega
                  rw [e0] at hq
                  rw [show j - (endsM ss (os.take i) v).length = 0 by omega] at he
                  cases hq
                  cases he
                  have h1 := s2 _ _ (sm _ _ po)
                  exact (upd_ne (ne_of h1 hD2 (by intro y; cases y))).trans h1
              · intro q hq
                rcases List.mem_append.mp hq with y | y
                · exact qfr q y
                · rw [List.mem_singleton.mp y]; exact fr p (List.mem_of_getElem? hp)
            · intro b u y
              exact (upd_ne (ne_of_none y nD)).trans (s2 _ _ (sm _ _ y))
        · have hz : (endsM ss (os.take i) v).any (fun z => decide (z.1 = (walkW ss o v).2)) = true := by simpa using z
          refine ⟨_, _, _, rfl, ?_, sm.trans s2⟩
          rw [ends_snoc ho]
          unfold stepE endM
          rw [if_pos hz]
          exact ⟨qs, hD2, lq, fun j q e hq he => s2 _ _ (qat j q e hq he), qfr⟩
    · rintro st H' ⟨x4, x5, x6, rfl, EA, sm⟩
      rw [List.length_map, lp, List.take_length] at EA
      walk_at "rd"
      exact q D H' nD sm EA
end
end HT
namespace HT
open PySem L2
theorem stepE_nodup {ss : List Sd} {v : Int} {acc : List (Int × List Nat)} {o : List Nat} (h : (acc.map (·.1)).Nodup) : ((stepE ss v acc o).map (·.1)).Nodup := by
  unfold stepE
  by_cases c : acc.any (fun z => decide (z.1 = endM ss o v)) = true
  · rw [if_pos c]; exact h
  · rw [if_neg c, List.map_append]
    refine List.nodup_append.mpr ⟨h, by simp, ?_⟩
    intro x hx y hy e
    subst e
    have hy' : x = endM ss o v := by simpa using hy
    obtain ⟨z, hz, ez⟩ := List.mem_map.mp hx
    refine c (List.any_eq_true.mpr ⟨z, hz, decide_eq_true ?_⟩)
    show z.1 = endM ss o v
    rw [← hy']; exact ez
theorem foldE_nodup {ss : List Sd} {v : Int} : ∀ (os : List (List Nat)) (acc : List (Int × List Nat)), (acc.map (·.1)).Nodup → ((os.foldl (stepE ss v) acc).map (·.1)).Nodup
  | [], acc, h => h
  | o :: os, acc, h => foldE_nodup os _ (stepE_nodup h)
theorem ends_nodup {ss : List Sd} {v : Int} {os : List (List Nat)} : ((endsM ss os v).map (·.1)).Nodup := foldE_nodup os [] List.nodup_nil
def ordOf (es : List (Int × List Nat)) (y : Int) : List Nat := ((es.find? fun z => decide (z.1 = y)).map (·.2)).getD []
theorem ordOf_mem : ∀ {es : List (Int × List Nat)}, (es.map (·.1)).Nodup → ∀ {e : Int × List Nat}, e ∈ es → ordOf es e.1 = e.2
  | [], _, e, h => absurd h List.not_mem_nil
  | d :: es, hn, e, h => by
    have hn' : d.1 ∉ es.map (·.1) ∧ (es.map (·.1)).Nodup := List.nodup_cons.mp hn
    unfold ordOf
    rw [List.find?_cons]
    rcases List.mem_cons.mp h with z | z
    · subst z
      rw [decide_eq_true rfl]
      rfl
    · have ne : ¬ d.1 = e.1 := fun y => hn'.1 (y ▸ List.mem_map.mpr ⟨e, z, rfl⟩)
      rw [decide_eq_false ne]
      exact ordOf_mem hn'.2 z
theorem self_map {es : List (Int × List Nat)} (hn : (es.map (·.1)).Nodup) : (es.map (·.1)).map (fun y => (y, ordOf es y)) = es := by
  rw [List.map_map]
  have : ∀ e ∈ es, ((fun y => (y, ordOf es y)) ∘ (·.1)) e = e := fun e he => by
    show (e.1, ordOf es e.1) = e
    rw [ordOf_mem hn he]
  rw [List.map_congr_left this, List.map_id'']
  exact fun _ => rfl
/-- the ends in order -/
def SortedOf (rs es : List (Int × List Nat)) : Prop := rs.Perm es ∧ rs.Pairwise fun a b => a.1 < b.1
theorem sorted_of {es : List (Int × List Nat)} {ys : List Int} (hn : (es.map (·.1)).Nodup) (p : ys.Perm (es.map (·.1))) (h : ys.Pairwise (· ≤ ·)) : SortedOf (ys.map fun y => (y, ordOf es y)) es := by
  refine ⟨?_, ?_⟩
  · have := p.map (fun y => (y, ordOf es y))
    rw [self_map hn] at this
    exact this
  · have hy : ys.Nodup := p.nodup_iff.mpr hn
    rw [List.pairwise_map]
    have := List.Pairwise.and h hy
    exact this.imp fun {a b} ⟨x, y⟩ => by
      show a < b
      omega
theorem sorted_uniq : ∀ {rs ts : List (Int × List Nat)}, rs.Perm ts → (rs.Pairwise fun a b => a.1 < b.1) → (ts.Pairwise fun a b => a.1 < b.1) → rs = ts
  | [], ts, p, _, _ => (List.nil_perm.mp p).symm
  | r :: rs, [], p, _, _ => absurd p.symm.nil_eq (by simp)
  | r :: rs, t :: ts, p, h1, h2 => by
    rw [List.pairwise_cons] at h1 h2
    have e : r = t := by
      have a : r ∈ t :: ts := p.mem_iff.mp List.mem_cons_self
      have b : t ∈ r :: rs := p.mem_iff.mpr List.mem_cons_self
      rcases List.mem_cons.mp a with x | x
      · exact x
      · rcases List.mem_cons.mp b with y | y
        · exact y.symm
        · have q1 := h2.1 r x
          have q2 := h1.1 t y
          omega
    subst e
    rw [sorted_uniq (List.perm_cons _ |>.mp p) h1.2 h2.2]
/-- rows of an end and its order -/
def OnceAt (H0 H : Hp) (R : Addr) (rs : List (Int × List Nat)) : Prop := ∃ ts : List Addr, H R = some (.lst (ts.map V.ref)) ∧ ts.length = rs.length ∧ ∀ (i : Nat) (p : Addr) (e : Int × List Nat), ts[i]? = some p → rs[i]? = some e → ∃ q : Addr, H p = some (.tup [.int e.1, .ref q]) ∧ H q = some (.lst (e.2.map nV)) ∧ H0 q = none
theorem kvs_at : ∀ (es : List (Int × List Nat)) (qs : List Addr) (k : Int), qs.length = es.length → k ∈ es.map (·.1) → ∃ (i : Nat) (q : Addr) (e : Int × List Nat), qs[i]? = some q ∧ es[i]? = some e ∧ e.1 = k ∧ valV (kvsOf es qs) (Sum.inl k) = some (.ref q)
  | [], [], k, _, h => absurd h List.not_mem_nil
  | e :: es, q :: qs, k, hl, h => by
    have val : valV (kvsOf (e :: es) (q :: qs)) (Sum.inl k) = if e.1 = k then some (.ref q) else valV (kvsOf es qs) (Sum.inl k) := by
      show Option.map (·.2) (List.find? (fun kv => decide (kv.1 = Sum.inl k)) ((Sum.inl e.1, V.ref q) :: kvsOf es qs)) = _
      rw [List.find?_cons]
      have dk : decide ((Sum.inl e.1 : Key) = Sum.inl k) = decide (e.1 = k) := by
        by_cases z : e.1 = k
        · rw [decide_eq_true z, z, decide_eq_true rfl]
        · rw [decide_eq_false z, decide_eq_false fun y => z (Sum.inl.inj y)]
      show Option.map (·.2) (match decide ((Sum.inl e.1 : Key) = Sum.inl k) with | true => some (Sum.inl e.1, V.ref q) | false => List.find? (fun kv => decide (kv.1 = Sum.inl k)) (kvsOf es qs)) = _
      rw [dk]
      by_cases z : e.1 = k
      · rw [decide_eq_true z, if_pos z]; rfl
      · rw [decide_eq_false z, if_neg z]; rfl
    by_cases z : e.1 = k
    · exact ⟨0, q, e, rfl, rfl, z, by rw [val, if_pos z]⟩
    · have hk : k ∈ es.map (·.1) := by
        rcases List.mem_cons.mp (show k ∈ e.1 :: es.map (·.1) from h) with y | y
        · exact absurd y.symm z
        · exact y
      obtain ⟨i, q2, e2, h1, h2, h3, h4⟩ := kvs_at es qs k (Nat.succ.inj hl) hk
      exact ⟨i + 1, q2, e2, h1, h2, h3, by rw [val, if_neg z]; exact h4⟩
theorem ord24 {n : Nat} (h1 : 1 ≤ n) (h4 : n ≤ 4) : (ordI n n).length ≤ 24 := by
  rcases (by omega : n = 1 ∨ n = 2 ∨ n = 3 ∨ n = 4) with e | e | e | e <;> subst e <;> decide
def spOnce : Sp := fun vs H Q _ => ∃ (l : Addr) (xs : List V) (ss : List Sd) (v : Int), vs = [.ref l, .int v] ∧ SidesAt H l xs ss ∧ (-2 ^ 200 < v ∧ v < 2 ^ 200) ∧
  ∀ (R : Addr) (H' : Hp) (rs : List (Int × List Nat)), H R = none → Same H H' → SortedOf rs (endsM ss (ordI ss.length ss.length) v) → OnceAt H H' R rs → Q (.ref R) H'
section
variable {P : Program} {w : World} {K : PySem.W.Frag} {mg : Str → Option Value} {base : Heap} {fL fV fO fE : Addr} {dL dV dO dE : FuncData}
theorem ok_once {f : Addr} {fd : FuncData} (F : Fun K "once" "once" s_once f fd) (A' : AmG mg) (Ls : Cal P w K mg base "check_sides" 5 ["sides"] spSides fL dL) (Vl : Cal P w K mg base "check_value" 2 ["value"] spCheckValue fV dV)
    (Or' : Cal P w K mg base "_orders" 1 ["many"] spOrders fO dO) (En : Cal P w K mg base "_ends" 4 ["sides", "orders", "value"] spEnds fE dE) : FnOk P w K mg base CX0 6 f fd ["sides", "value"] spOnce := by
  refine F.ok sc_once (fun vs H Q E h => ?_) (fun cdv A outer s0 H vs Q E hr h => ?_)
  · obtain ⟨l, xs, ss, v, rfl, _⟩ := h
    rfl
  · obtain ⟨l, xs, ss, v, rfl, SS, hv, q⟩ := h
    have nd := sc_once.nd
    have hu := hu_of hr
    refine ⟨_, pss_cons (ps_expr (pcl Ls hr (by decide) (by rfl) (pa_cons (pv 0) pa_nil)))
      (pss_cons (ps_expr (pcl Vl hr (by decide) (by rfl) (pa_cons (pv 1) pa_nil)))
      (pss_cons (ps_set (i := 2) nd rfl (Or.inr rfl) (pcl En hr (by decide) (by rfl) (pa_cons (pv 0) (pa_cons (pcl Or' hr (by decide) (by rfl) (pa_cons (pe_callB call_len_seq (by rfl) A'.len PySem.boot_len (pa_cons (pv 0) pa_nil)) pa_nil)) (pa_cons (pv 1) pa_nil)))))
      (pss_one (ps_ret (pe_lc (own := [("end", 3)]) (g := gName 3) (tt := tYes) rfl nd (pi_list (pe_callB (call_sortedDI rfl) (by rfl) A'.sorted (by decide +kernel) (pa_cons (pv 2) pa_nil))) (blkOk_by (N := ["sides", "value", "ends", "end"]) (sc := defScope s_once) (by decide +kernel)) (fun _ _ _ _ _ => pg_name (i := 3) nd rfl (Or.inl rfl)) (fun _ _ _ _ _ => pts_nil)
          (fun _ _ _ _ _ => pe_tup (pa_cons (pv 3) (pa_cons (pe_dget hu (pv 2) (pv 3) (fun _ _ => rfl)) pa_nil)))))))), ?_⟩
    walk_at "rd"
    refine ⟨l, xs, ss, rfl, SS, ?_⟩
    walk_at "rd"
    refine ⟨l, _, rfl, .inl (SqL.of SS.hl), ?_⟩
    refine ⟨ss.length, (by show [V.int (xs.length : Int)] = _; rw [SS.len]), SS.l1, SS.l4, fun L H1 nL s1 OA => ?_⟩
    walk_at "rd"
    have o24 := ord24 SS.l1 SS.l4
    refine ⟨l, xs, ss, L, ordI ss.length ss.length, v, H, rfl, SS.same s1, OA, by omega, fun o ho => ?_, hv, fun D H2 nD s2 EA => ?_⟩
    · obtain ⟨a, b⟩ := ord_in ss.length ss.length o ho
      exact ⟨by rw [a]; exact SS.l4, b⟩
    obtain ⟨qs, hD, lq, qat, qfr⟩ := EA
    have el : (endsM ss (ordI ss.length ss.length) v).length ≤ 24 := by
      have := ends_len (ss := ss) (v := v) (ordI ss.length ss.length) []
      unfold endsM
      have e0 : ([] : List (Int × List Nat)).length = 0 := rfl
      omega
    walk_at "rd"
    refine ⟨D, _, (endsM ss (ordI ss.length ss.length) v).map (·.1), rfl, .inl hD, kvs_keys _ _ lq, (by rw [List.length_map]; omega), fun ys p perm pw np => ?_⟩
    have hp : upd H2 p (.lst (ys.map V.int)) p = some (.lst (ys.map V.int)) := upd_same
    have s3 : Same H2 (upd H2 p (.lst (ys.map V.int))) := fun b u z => (upd_ne (ne_of_none z np)).trans z
    generalize upd H2 p (.lst (ys.map V.int)) = H3 at hp s3 ⊢
    have yl : ys.length ≤ 24 := by rw [perm.length_eq, List.length_map]; exact el
    refine ⟨p, rfl, ⟨_, SqL.of hp⟩, fun R nR => ?_⟩
    have sR : Same H H3 := s1.trans (s2.trans s3)
    refine lc_list (K := K) (a := p) (xs := ys.map V.int) (fun i H4 => ∃ ts : List Addr, H4 R = some (.lst (ts.map V.ref)) ∧ ts.length = i ∧ Same H3 H4 ∧ ∀ (j : Nat) (b : Addr) (y : Int), ts[j]? = some b → ys[j]? = some y → ∃ q : Addr, H4 b = some (.tup [.int y, .ref q]) ∧ H3 q = some (.lst ((ordOf (endsM ss (ordI ss.length ss.length) v) y).map nV)) ∧ H q = none)
      ⟨[], upd_same, rfl, (fun b u z => (upd_ne (ne_of_none z nR)).trans z), fun j b y hb => nomatch hb⟩ (fun i H4 _ ⟨_, _, _, s4, _⟩ => SqL.of (s4 _ _ hp)) ?_ ?_
    · rintro i x H4 hx ⟨ts, hR, lt, s4, tat⟩
      obtain ⟨y, hy, rfl⟩ : ∃ y, ys[i]? = some y ∧ x = .int y := by
        rw [List.getElem?_map] at hx
        cases e : ys[i]? with
        | none => rw [e] at hx; cases hx
        | some y => rw [e] at hx; exact ⟨y, rfl, (Option.some.inj hx).symm⟩
      have il : i < ys.length := (List.getElem?_eq_some_iff.mp hy).1
      have ymem : y ∈ (endsM ss (ordI ss.length ss.length) v).map (·.1) := perm.mem_iff.mp (List.mem_of_getElem? hy)
      obtain ⟨j, q2, e, h1, h2, h3, h4⟩ := kvs_at _ qs y lq ymem
      have hD4 := s4 _ _ (s3 _ _ hD)
      refine ⟨rfl, ?_⟩
      walk_at "rd"
      refine ⟨D, .ref q2, rfl, ?_, ?_⟩
      · have g := DGet.k (k := Sum.inl y) hD4
        rw [h4] at g
        exact g
      refine ⟨(by show 2 ≤ sizeLine; decide), fun b nb => ?_⟩
      have nbR : b ≠ R := fun z => by rw [z, hR] at nb; cases nb
      have q2D : H4 q2 = some (.lst (e.2.map nV)) := s4 _ _ (s3 _ _ (qat j q2 e h1 h2))
      have eo : ordOf (endsM ss (ordI ss.length ss.length) v) y = e.2 := by
        rw [← h3]
        exact ordOf_mem ends_nodup (List.mem_of_getElem? h2)
      refine ⟨_, (upd_ne (Ne.symm nbR)).trans hR, ?_, ts ++ [b], ?_, by rw [List.length_append, lt]; rfl, ?_, ?_⟩
      · rw [List.length_map, lt]; exact Nat.lt_of_lt_of_le (by omega : i < 100) (by decide)
      · rw [List.map_append]; exact upd_same
      · intro c u z
        have z4 := s4 _ _ z
        exact (upd_ne (ne_of_none z nR)).trans ((upd_ne (ne_of_none z4 nb)).trans z4)
      · intro j2 b2 y2 hb2 hy2
        rcases Nat.lt_or_ge j2 ts.length with z | z
        · rw [List.getElem?_append_left z] at hb2
          obtain ⟨q3, g1, g2, g3⟩ := tat j2 b2 y2 hb2 hy2
          have k1 : b2 ≠ R := ne_of g1 hR (by intro y; cases y)
          exact ⟨q3, (upd_ne k1).trans ((upd_ne (ne_of_none g1 nb)).trans g1), g2, g3⟩
        · rw [List.getElem?_append_right z] at hb2
          have e0 : j2 - ts.length = 0 := by
            have := (List.getElem?_eq_some_iff.mp hb2).1
            simp at this
            omega
          rw [e0] at hb2
          cases hb2
          rw [show j2 = i by omega, hy] at hy2
          cases hy2
          refine ⟨q2, (upd_ne nbR).trans upd_same, ?_, qfr q2 (List.mem_of_getElem? h1)⟩
          rw [eo]
          exact s3 _ _ (qat j q2 e h1 h2)
    · rintro H4 ⟨ts, hR, lt, s4, tat⟩
      walk_at "rd"
      have so := sorted_of ends_nodup perm pw
      refine q R H4 _ (sR.free nR) (sR.trans s4) so ⟨ts, hR, by rw [lt, List.length_map, List.length_map], ?_⟩
      intro i b e hb he
      rw [List.getElem?_map] at he
      cases ey : ys[i]? with
      | none => rw [ey] at he; cases he
      | some y =>
        rw [ey] at he
        cases he
        obtain ⟨q3, g1, g2, g3⟩ := tat i b y hb ey
        exact ⟨q3, g1, s4 _ _ g2, g3⟩
end
end HT
namespace HT
open PySem L2
/-- the class TooMany at c -/
structure ErT (K : PySem.W.Frag) (mg : Str → Option Value) (c : Addr) : Prop where
  g : mg "TooMany" = some (.ref c)
  ex : PySem.W.excIn K c [.type "ValueError", .type "Exception", .type "BaseException", .type "object"] "ValueError.__new__" = true
  kp : PySem.W.keepIn K (.ref c) = true
  sb : PySem.W.subIn K (.ref c) (.type "BaseException") = some true
  ty : PySem.W.typeIn K (.ref c) = some (.type "type")
  em : PySem.W.exmOne K (.ref c) (.ref c) = some true
/-- the order matters for a value -/
def ManyM (ss : List Sd) (x : Int) : Prop := 1 < (endsM ss (ordI ss.length ss.length) x).length
instance (ss : List Sd) (x : Int) : Decidable (ManyM ss x) := by unfold ManyM; exact inferInstance
def MatP (ss : List Sd) (v : Int) : Option Int → Prop
  | some x => v ≤ x ∧ x < v + (comN ss : Int) ∧ ManyM ss x ∧ ∀ y, v ≤ y → y < x → ¬ ManyM ss y
  | none => ∀ y, v ≤ y → y < v + (comN ss : Int) → ¬ ManyM ss y
theorem mat_uniq {ss : List Sd} {v : Int} {a b : Option Int} (ha : MatP ss v a) (hb : MatP ss v b) : a = b := by
  cases a with
  | none =>
    cases b with
    | none => rfl
    | some y => exact absurd hb.2.2.1 (ha y hb.1 hb.2.1)
  | some x =>
    cases b with
    | none => exact absurd ha.2.2.1 (hb x ha.1 ha.2.1)
    | some y =>
      obtain ⟨a1, a2, a3, a4⟩ := ha
      obtain ⟨b1, b2, b3, b4⟩ := hb
      rcases Int.lt_trichotomy x y with h | h | h
      · exact absurd a3 (b4 x a1 h)
      · rw [h]
      · exact absurd b3 (a4 y b1 h)
def spMatX (c : Addr) : Sp := fun vs H Q E => ∃ (l : Addr) (xs : List V) (ss : List Sd) (v : Int), vs = [.ref l, .int v] ∧ SidesAt H l xs ss ∧ (-2 ^ 190 < v ∧ v < 2 ^ 190) ∧
  ((2000 < comN ss ∧ E (.ref c) none H) ∨ (comN ss ≤ 2000 ∧ ∀ (r : Option Int) (H' : Hp), MatP ss v r → Same H H' → Q (oV r) H'))
section
variable {P : Program} {w : World} {K : PySem.W.Frag} {mg : Str → Option Value} {base : Heap} {c fL fV fO fE fC : Addr} {dL dV dO dE dC : FuncData}
theorem ok_matters {f : Addr} {fd : FuncData} (F : Fun K "order_matters" "order_matters" s_order_matters f fd) (A' : AmG mg) (R : ErT K mg c) (hrg : mg "range" = none) (Ls : Cal P w K mg base "check_sides" 5 ["sides"] spSides fL dL) (Vl : Cal P w K mg base "check_value" 2 ["value"] spCheckValue fV dV)
    (Co : Cal P w K mg base "common_period" 2 ["sides"] spPer fC dC) (Or' : Cal P w K mg base "_orders" 1 ["many"] spOrders fO dO) (En : Cal P w K mg base "_ends" 4 ["sides", "orders", "value"] spEnds fE dE) : FnOk P w K mg base (L2.CX P w) 6 f fd ["sides", "value"] (spMatX c) := by
  refine F.okX sc_order_matters (fun vs H Q E h => ?_) (fun cdv A outer s0 H vs Q E hr h => ?_)
  · obtain ⟨l, xs, ss, v, rfl, _⟩ := h
    rfl
  · obtain ⟨l, xs, ss, v, rfl, SS, hv, h⟩ := h
    have nd := sc_order_matters.nd
    obtain ⟨tmp, hmp⟩ := A'.mp
    refine ⟨_, pss_cons (ps_expr (pcl Ls hr (by decide) (by rfl) (pa_cons (pv 0) pa_nil)))
      (pss_cons (ps_expr (pcl Vl hr (by decide) (by rfl) (pa_cons (pv 1) pa_nil)))
      (pss_cons (ps_set (i := 2) nd rfl (Or.inl rfl) (pcl Co hr (by decide) (by rfl) (pa_cons (pv 0) pa_nil)))
      (pss_cons (ps_if (pt_cmpR op_gt (pv 2) (pe_glob (v := .int 2000) (by rfl) hmp ⟨_, rfl⟩) (nomark _)) (pss_one (ps_raise rfl (takes_of rfl rfl rfl rfl) (pmk_own PySem.F.excBase_ValueError R.ex R.g R.kp (raises_own R.sb R.ty) (by rfl)))) pss_nil)
      (pss_cons (ps_set (i := 3) nd rfl (Or.inl rfl) (pcl Or' hr (by decide) (by rfl) (pa_cons (pe_callB call_len_seq (by rfl) A'.len PySem.boot_len (pa_cons (pv 0) pa_nil)) pa_nil)))
      (pss_cons (ps_for (passes_of rfl) rfl (pi_rangeW (by rfl) hrg (pa_cons (pv 1) (pa_cons (pe_op op_add (pv 1) (pv 2)) pa_nil))) (pg_name (i := 4) nd rfl (Or.inl rfl))
        (pss_one (ps_if (pt_cmpR op_gt (pe_callB call_lenD (by rfl) A'.len PySem.boot_len (pa_cons (pcl En hr (by decide) (by rfl) (pa_cons (pv 0) (pa_cons (pv 3) (pa_cons (pv 4) pa_nil)))) pa_nil)) pe_int (nomark _)) (pss_one (ps_ret (pv 4))) pss_nil)))
      (pss_one (ps_ret pe_non))))))), ?_⟩
    walk_at "rd"
    refine ⟨l, xs, ss, rfl, SS, ?_⟩
    walk_at "rd"
    refine ⟨l, xs, ss, rfl, SS, ?_⟩
    walk_at "rd"
    rcases h with ⟨big, q⟩ | ⟨small, q⟩
    · refine ite2 (fun _ => q) (fun z => absurd (decide_eq_true (by omega)) z)
    refine ite2 (fun z => absurd (of_decide_eq_true z) (by omega)) (fun _ => ?_)
    walk_at "rd"
    refine ⟨l, _, rfl, .inl (SqL.of SS.hl), ?_⟩
    refine ⟨ss.length, (by show [V.int (xs.length : Int)] = _; rw [SS.len]), SS.l1, SS.l4, fun L H1 nL s1 OA => ?_⟩
    walk_at "rd"
    have o24 := ord24 SS.l1 SS.l4
    refine ⟨_, _, rfl, ?_⟩
    rw [show (v + (comN ss : Int) - v).toNat = comN ss by omega]
    refine for_range (n := comN ss) (fun i st H' => ∃ x4 : Option V, st = [some (.ref l), some (.int v), some (.int (comN ss : Int)), some (.ref L), x4] ∧ Same H1 H' ∧ ∀ y, v ≤ y → y < v + (i : Int) → ¬ ManyM ss y) ⟨none, rfl, Same.refl _, fun y a b => by omega⟩ ?_ ?_
    · rintro i st H' hi ⟨x4, rfl, sm, none'⟩
      have OA' : OrdsAt H H' L (ordI ss.length ss.length) := by
        obtain ⟨ps, hL, lp, at_, fr⟩ := OA
        exact ⟨ps, sm _ _ hL, lp, fun i p o a b => sm _ _ (at_ i p o a b), fr⟩
      walk_at "rd"
      refine ⟨l, xs, ss, L, ordI ss.length ss.length, v + (i : Int), H, rfl, (SS.same s1).same sm, OA', by omega, fun o ho => ?_, by omega, fun D H2 nD s2 EA => ?_⟩
      · obtain ⟨a, b⟩ := ord_in ss.length ss.length o ho
        exact ⟨by rw [a]; exact SS.l4, b⟩
      obtain ⟨qs, hD, lq, qat, qfr⟩ := EA
      walk_at "rd"
      refine ⟨D, _, rfl, hD, ?_⟩
      walk_at "rd"
      rw [kvs_len lq]
      refine ite2 (fun z => ?_) (fun z => ?_)
      · have z' : ManyM ss (v + (i : Int)) := by
          have := of_decide_eq_true z
          unfold ManyM
          omega
        walk_at "rd"
        exact q (some (v + (i : Int))) H2 ⟨by omega, by omega, z', none'⟩ (s1.trans (sm.trans s2))
      · have z' : ¬ ManyM ss (v + (i : Int)) := fun y => z (decide_eq_true (by unfold ManyM at y; omega))
        refine ⟨_, rfl, sm.trans s2, fun y a b => ?_⟩
        by_cases e : y = v + (i : Int)
        · rw [e]; exact z'
        · exact none' y a (by omega)
    · rintro st H' ⟨x4, rfl, sm, none'⟩
      walk_at "rd"
      exact q none H' none' (s1.trans sm)
end
end HT
namespace HT
open PySem L2
theorem walk_len {ss : List Sd} {v : Int} : ∀ (o : List Nat) (a : List Int × Int), (o.foldl (stepW ss) a).1.length = a.1.length + o.length
  | [], a => rfl
  | k :: o, a => by
    have e : (stepW ss a k).1.length = a.1.length + 1 := by
      unfold stepW
      split <;> simp
    rw [List.foldl_cons, walk_len (v := v) o (stepW ss a k), e, List.length_cons]
    omega
section
variable {P : Program} {w : World} {K : PySem.W.Frag} {mg : Str → Option Value} {base : Heap} {fL fV fN fW : Addr} {dL dV dN dW : FuncData}
theorem ok_along {f : Addr} {fd : FuncData} (F : Fun K "along" "along" s_along f fd) (A' : AmG mg) (Ls : Cal P w K mg base "check_sides" 5 ["sides"] spSides fL dL) (Nm : Cal P w K mg base "_check_numbers" 3 ["numbers", "many"] spNums fN dN)
    (Vl : Cal P w K mg base "check_value" 2 ["value"] spCheckValue fV dV) (Wr : Cal P w K mg base "written" 3 ["side", "value"] spDue fW dW) : FnOk P w K mg base CX0 6 f fd ["sides", "numbers", "value"] spAlong := by
  refine F.ok sc_along (fun vs H Q E h => ?_) (fun cdv A outer s0 H vs Q E hr h => ?_)
  · obtain ⟨l, xs, ss, kl, ks, v, rfl, _⟩ := h
    rfl
  · obtain ⟨l, xs, ss, kl, ks, v, rfl, SS, hk, kn, kb, vb, q⟩ := h
    have nd := sc_along.nd
    refine ⟨_, pss_cons (ps_expr (pcl Ls hr (by decide) (by rfl) (pa_cons (pv 0) pa_nil)))
      (pss_cons (ps_expr (pcl Nm hr (by decide) (by rfl) (pa_cons (pv 1) (pa_cons (pe_callB call_len_seq (by rfl) A'.len PySem.boot_len (pa_cons (pv 0) pa_nil)) pa_nil))))
      (pss_cons (ps_expr (pcl Vl hr (by decide) (by rfl) (pa_cons (pv 2) pa_nil)))
      (pss_cons (ps_set (i := 3) nd rfl (Or.inl rfl) (pe_lst pa_nil))
      (pss_cons (ps_set (i := 4) nd rfl (Or.inl rfl) (pv 2))
      (pss_cons (ps_for PassesOwn.never rfl (pi_list (pv 1)) (pg_name (i := 5) nd rfl (Or.inl rfl))
        (pss_cons (ps_set (i := 4) nd rfl (Or.inl rfl) (pcl Wr hr (by decide) (by rfl) (pa_cons (pe_ix ix_list (pv 0) (pv 5) (fun _ _ => rfl)) (pa_cons (pv 4) pa_nil))))
        (pss_one (ps_expr (pe_bm PySem.F.plainAttrs_list PySem.F.slot_list_append PySem.F.type_list_append mt_append (pv 3) (pa_cons (pv 4) pa_nil))))))
      (pss_one (ps_ret (pv 3)))))))), ?_⟩
    walk_at "rd"
    refine ⟨l, xs, ss, rfl, SS, ?_⟩
    walk_at "rd"
    refine ⟨l, _, rfl, .inl (SqL.of SS.hl), ?_⟩
    refine ⟨kl, ks, ss.length, (by show [V.ref kl, V.int (xs.length : Int)] = _; rw [SS.len]), hk, kn, kb, ?_⟩
    walk_at "rd"
    refine ⟨(by show 0 ≤ sizeLine; decide), fun d nd1 => ?_⟩
    have hd : upd H d (.lst []) d = some (.lst []) := upd_same
    have s1 : Same H (upd H d (.lst [])) := fun b u z => (upd_ne (ne_of_none z nd1)).trans z
    walk_at "rd"
    refine ⟨⟨_, SqL.of (s1 _ _ hk)⟩, ?_⟩
    refine for_list (K := K) (a := kl) (xs := ks.map nV) (fun j st H' => ∃ x5 : Option V, st = [some (.ref l), some (.ref kl), some (.int v), some (.ref d), some (.int (walkW ss (ks.take j) v).2), x5] ∧ H' d = some (.lst ((walkW ss (ks.take j) v).1.map V.int)) ∧ Same H H' ∧ (-(2 ^ 200 + 10 ^ 30 * (j : Int)) < (walkW ss (ks.take j) v).2 ∧ (walkW ss (ks.take j) v).2 < 2 ^ 200 + 10 ^ 30 * (j : Int)) ∧ j ≤ ks.length)
      ⟨none, rfl, hd, s1, (by show -(2 ^ 200 + 10 ^ 30 * ((0 : Nat) : Int)) < v ∧ v < 2 ^ 200 + 10 ^ 30 * ((0 : Nat) : Int); omega), Nat.zero_le _⟩ (fun _ _ _ _ ⟨_, _, _, s, _⟩ => SqL.of (s _ _ hk)) ?_ ?_
    · rintro j y st H' hy ⟨x5, rfl, hdj, sm, bd, hj⟩
      obtain ⟨k, hkk, rfl⟩ : ∃ k, ks[j]? = some k ∧ y = nV k := by
        rw [List.getElem?_map] at hy
        cases e : ks[j]? with
        | none => rw [e] at hy; cases hy
        | some k => rw [e] at hy; exact ⟨k, rfl, (Option.some.inj hy).symm⟩
      have jl : j < ks.length := (List.getElem?_eq_some_iff.mp hkk).1
      have kl' := kb k (List.mem_of_getElem? hkk)
      have S2 := SS.same sm
      obtain ⟨p, ep, hp, sp⟩ := S2.at_ k ss[k] (List.getElem?_eq_getElem kl')
      have en : atI xs ((k : Nat) : Int) = some (.ref p) := by
        unfold atI
        rw [ixN_in (by omega) (by rw [SS.len]; omega)]
        exact ep
      walk_at "rd"
      refine ⟨l, _, _, _, rfl, rfl, SqL.of S2.hl, en, ?_⟩
      walk_at "rd"
      refine ⟨p, ss[k].o, ss[k].s, ss[k].m, _, rfl, hp, sp, (by unfold Bd; omega), fun H3 s3 => ?_⟩
      walk_at "rd"
      have hd2 := s3 _ _ hdj
      refine ⟨.inl ⟨rfl, _, SqL.of hd2⟩, ?_⟩
      walk_at "rd"
      have wl : (walkW ss (ks.take j) v).1.length = j := by
        unfold walkW
        rw [walk_len (v := v), List.length_take]
        show 0 + min j ks.length = j
        omega
      refine ⟨d, _, _, rfl, rfl, hd2, (by rw [List.length_map, wl]; exact Nat.lt_of_lt_of_le (by omega : j < 1000) (by decide)), ?_⟩
      have far := due_far (v := (walkW ss (ks.take j) v).2) sp bd
      have ws : walkW ss (ks.take (j + 1)) v = ((walkW ss (ks.take j) v).1 ++ [dueM ss[k].o ss[k].s ss[k].m (walkW ss (ks.take j) v).2], dueM ss[k].o ss[k].s ss[k].m (walkW ss (ks.take j) v).2) := by
        rw [walk_snoc hkk]
        unfold stepW
        rw [List.getElem?_eq_getElem kl']
      rw [ws]
      refine ⟨_, rfl, ?_, fun b u z => (upd_ne (ne_of_none z nd1)).trans (s3 _ _ (sm _ _ z)), ?_, jl⟩
      · rw [List.map_append]; exact upd_same
      · show -(2 ^ 200 + 10 ^ 30 * ((j + 1 : Nat) : Int)) < dueM ss[k].o ss[k].s ss[k].m (walkW ss (ks.take j) v).2 ∧ _ < 2 ^ 200 + 10 ^ 30 * ((j + 1 : Nat) : Int)
        omega
    · rintro st H' ⟨x5, rfl, hdj, sm, bd, hj⟩
      rw [List.length_map, List.take_length] at hdj
      walk_at "rd"
      exact q d H' nd1 sm hdj
end
end HT
namespace HT
open PySem L2
theorem dpNats {K : PySem.W.Frag} {H : Hp} : ∀ l : List Nat, DpAll K H (l.map nV) (l.map fun k : Nat => PyData.int (k : Int))
  | [] => .nil
  | _ :: l => .cons (.int _) (dpNats l)
theorem nats_shaped (l : List Nat) : SeqAt.shaped (.list (l.map fun k : Nat => PyData.int (k : Int))) = true := by
  have := PySem.W.ke_shaped_ints (l.map fun k : Nat => (k : Int))
  rw [List.map_map] at this
  exact this
def ordR : Nat → List Nat → List (List Nat)
  | 0, _ => [[]]
  | n + 1, left => left.flatMap fun k => (ordR n (left.filter fun j => decide (j ≠ k))).map fun r => k :: r
def spOrdL (n : Nat) : Sp := fun vs H Q _ => ∃ (L : Addr) (left : List Nat), vs = [.ref L] ∧ H L = some (.lst (left.map nV)) ∧ left.length = n ∧ left.Nodup ∧
  ∀ (R : Addr) (H' : Hp), H R = none → Same H H' → OrdsAt H H' R (ordR n left) → Q (.ref R) H'
theorem ordR_len : ∀ (n : Nat) (left : List Nat), left.length = n → left.Nodup → n ≤ 4 → (ordR n left).length ≤ 4 ^ n
  | 0, _, _, _, _ => Nat.le_refl _
  | n + 1, left, h, hn, h4 => by
    have gen : ∀ (l : List Nat), (∀ k ∈ l, k ∈ left) → (l.flatMap fun k => (ordR n (left.filter fun j => decide (j ≠ k))).map fun r => k :: r).length ≤ l.length * 4 ^ n := by
      intro l
      induction l with
      | nil => intro _; simp
      | cons k l ih =>
        intro hk
        rw [List.flatMap_cons, List.length_append, List.length_map, List.length_cons, Nat.add_mul, Nat.one_mul]
        have a := ih fun j hj => hk j (List.mem_cons_of_mem _ hj)
        have lk : (left.filter fun j => decide (j ≠ k)).length = n := filter_len hn (hk k List.mem_cons_self) h
        have b := ordR_len n _ lk (hn.filter _) (by omega)
        omega
    have z := gen left fun k hk => hk
    show (left.flatMap fun k => (ordR n (left.filter fun j => decide (j ≠ k))).map fun r => k :: r).length ≤ 4 ^ (n + 1)
    rw [Nat.pow_succ, Nat.mul_comm]
    rw [h] at z
    exact Nat.le_trans z (Nat.mul_le_mul_right _ (by omega))
where
  filter_len {left : List Nat} {k n : Nat} (hn : left.Nodup) (hk : k ∈ left) (h : left.length = n + 1) : (left.filter fun j => decide (j ≠ k)).length = n := by
    have e : (left.filter fun j => decide (j ≠ k)) = left.erase k := by
      rw [hn.erase_eq_filter]
      congr 1
      funext j
      by_cases z : j = k
      · subst z; simp
      · simp [z]
    rw [e, List.length_erase_of_mem hk, h]
    rfl
theorem ordR_I {n : Nat} (h1 : 1 ≤ n) (h4 : n ≤ 4) : ordR n (List.range n) = ordI n n := by
  rcases (by omega : n = 1 ∨ n = 2 ∨ n = 3 ∨ n = 4) with e | e | e | e <;> subst e <;> decide
end HT
namespace HT
open PySem L2
theorem pss_dead {X : Cx} {st : List Stmt} : PSs X st (fun _ _ _ => False) := ⟨fun _ _ _ _ _ _ h => h.elim⟩
section
variable {P : Program} {w : World} {K : PySem.W.Frag} {mg : Str → Option Value} {base : Heap}
theorem ok_ordL0 {f : Addr} {fd : FuncData} (F : Fun K "_law_orders" "_law_orders" s_L_orders f fd) : FnOk P w K mg base CX0 1 f fd ["_law_left"] (spOrdL 0) := by
  refine F.ok sc_L_orders (fun vs H Q E h => ?_) (fun cdv A outer s0 H vs Q E hr h => ?_)
  · obtain ⟨L, left, rfl, _⟩ := h
    rfl
  · obtain ⟨L, left, rfl, hL, hl, hn, q⟩ := h
    have el : left = [] := List.eq_nil_of_length_eq_zero hl
    subst el
    have nd := sc_L_orders.nd
    refine ⟨_, pss_cons (ps_if (pt_cmpR (op_eqD hr.units) (pv 0) (pe_lst pa_nil) (nomark _)) (pss_one (ps_ret (pe_lst (pa_cons (pe_lst pa_nil) pa_nil)))) pss_nil) pss_dead, ?_⟩
    walk_at "rd"
    refine ⟨(by show 0 ≤ sizeLine; decide), fun p1 m1 => ?_⟩
    have s1 : Same H (upd H p1 (.lst [])) := fun b u z => (upd_ne (ne_of_none z m1)).trans z
    have f1 : upd H p1 (.lst []) p1 = some (.lst []) := upd_same
    generalize upd H p1 (.lst []) = H1 at s1 f1 ⊢
    walk_at "rd"
    refine ⟨.list [], .list [], .lst (SqL.of (s1 _ _ hL)) .nil, .lst (SqL.of f1) .nil, by decide +kernel, by decide +kernel, ?_⟩
    walk_at "rd"
    refine ite2 (fun _ => ?_) (fun z => absurd (by decide +kernel) z)
    walk_at "rd"
    refine ⟨(by show 0 ≤ sizeLine; decide), fun p2 m2 => ?_⟩
    have s2 : Same H1 (upd H1 p2 (.lst [])) := fun b u z => (upd_ne (ne_of_none z m2)).trans z
    have f2 : upd H1 p2 (.lst []) p2 = some (.lst []) := upd_same
    generalize upd H1 p2 (.lst []) = H2 at s2 f2 ⊢
    refine ⟨(by show 1 ≤ sizeLine; decide), fun p3 m3 => ?_⟩
    have s3 : Same H2 (upd H2 p3 (.lst [.ref p2])) := fun b u z => (upd_ne (ne_of_none z m3)).trans z
    refine q p3 _ ((s1.trans s2).free m3) (s1.trans (s2.trans s3)) ⟨[p2], upd_same, rfl, fun i p o hp ho => ?_, fun p hp => ?_⟩
    · match i, hp, ho with
      | 0, hp, ho => cases hp; cases ho; exact s3 _ _ f2
      | i + 1, hp, ho => cases hp
    · rw [List.mem_singleton.mp hp]
      exact s1.free m2
theorem flat_le {f : Nat → List (List Nat)} : ∀ l : List Nat, (∀ k ∈ l, (f k).length ≤ 256) → (l.flatMap f).length ≤ l.length * 256
  | [], _ => by simp
  | k :: l, h => by
    rw [List.flatMap_cons, List.length_append, List.length_cons]
    have a := flat_le l fun j hj => h j (List.mem_cons_of_mem _ hj)
    have b := h k List.mem_cons_self
    omega
theorem ordR_in : ∀ (n : Nat) (left : List Nat), left.length = n → left.Nodup → ∀ o ∈ ordR n left, o.length = n ∧ ∀ k ∈ o, k ∈ left
  | 0, left, _, _, o, ho => by
    have e : o = [] := List.mem_singleton.mp ho
    subst e
    exact ⟨rfl, fun k hk => absurd hk List.not_mem_nil⟩
  | n + 1, left, hl, hn, o, ho => by
    obtain ⟨k, hk, h⟩ := List.mem_flatMap.mp ho
    obtain ⟨r, hr, rfl⟩ := List.mem_map.mp h
    obtain ⟨a, b⟩ := ordR_in n _ (ordR_len.filter_len hn hk hl) (hn.filter _) r hr
    refine ⟨by rw [List.length_cons, a], fun j hj => ?_⟩
    rcases List.mem_cons.mp hj with z | z
    · rw [z]; exact hk
    · exact (List.mem_filter.mp (b j z)).1
theorem eqv_cons_nil (d : PyData) (ds : List PyData) : PyData.eqv (.list (d :: ds)) (.list []) = false := by
  simp [PyData.eqv, PyData.eqvAll]
theorem ok_ordLS {f : Addr} {fd : FuncData} {n : Nat} (F : Fun K "_law_orders" "_law_orders" s_L_orders f fd) (n3 : n ≤ 3) (Se : Cal P w K mg base "_law_orders" (n + 1) ["_law_left"] (spOrdL n) f fd) : FnOk P w K mg base CX0 (n + 2) f fd ["_law_left"] (spOrdL (n + 1)) := by
  refine F.ok sc_L_orders (fun vs H Q E h => ?_) (fun cdv A outer s0 H vs Q E hr h => ?_)
  · obtain ⟨L, left, rfl, _⟩ := h
    rfl
  · obtain ⟨L, left, rfl, hL, hl, hn, q⟩ := h
    have nd := sc_L_orders.nd
    refine ⟨_, pss_cons (ps_if (pt_cmpR (op_eqD hr.units) (pv 0) (pe_lst pa_nil) (nomark _)) (pss_one (ps_ret (pe_lst (pa_cons (pe_lst pa_nil) pa_nil)))) pss_nil)
      (pss_cons (ps_set (i := 1) nd rfl (Or.inl rfl) (pe_lst pa_nil))
      (pss_cons (ps_for PassesOwn.never rfl (pi_list (pv 0)) (pg_name (i := 2) nd rfl (Or.inr rfl))
        (pss_one (ps_set (i := 1) nd rfl (Or.inl rfl) (pe_op op_cat (pv 1)
          (pe_lc (own := [("_law_rest", 4)]) (g := gName 4) (tt := tYes) rfl nd (pi_list (pcl Se hr (Nat.le_refl _) (by rfl) (pa_cons
            (pe_lc (own := [("_law_one", 3)]) (g := gName 3) rfl nd (pi_list (pv 0)) (blkOk_by (N := ["_law_left", "_law_found", "_law_number", "_law_one", "_law_rest"]) (sc := defScope s_L_orders) (by decide +kernel)) (fun _ _ _ _ _ => pg_name (i := 3) nd rfl (Or.inl rfl)) (fun _ _ _ _ _ => pts_one (pt_cmpR op_ne (pv 3) (pv 2) (nomark _))) (fun _ _ _ _ _ => pv 3)) pa_nil)))
            (blkOk_by (N := ["_law_left", "_law_found", "_law_number", "_law_one", "_law_rest"]) (sc := defScope s_L_orders) (by decide +kernel)) (fun _ _ _ _ _ => pg_name (i := 4) nd rfl (Or.inl rfl)) (fun _ _ _ _ _ => pts_nil) (fun _ _ _ _ _ => pe_op op_cat (pe_lst (pa_cons (pv 2) pa_nil)) (pv 4)))))))
      (pss_one (ps_ret (pv 1))))), ?_⟩
    walk_at "rd"
    refine ⟨(by show 0 ≤ sizeLine; decide), fun p1 m1 => ?_⟩
    have s1 : Same H (upd H p1 (.lst [])) := fun b u z => (upd_ne (ne_of_none z m1)).trans z
    have f1 : upd H p1 (.lst []) p1 = some (.lst []) := upd_same
    generalize upd H p1 (.lst []) = H1 at s1 f1 ⊢
    walk_at "rd"
    refine ⟨_, .list [], .lst (SqL.of (s1 _ _ hL)) (dpNats left), .lst (SqL.of f1) .nil, nats_shaped left, by decide +kernel, ?_⟩
    walk_at "rd"
    obtain ⟨k0, left', rfl⟩ : ∃ k0 left', left = k0 :: left' := by
      cases left with
      | nil => cases hl
      | cons a b => exact ⟨a, b, rfl⟩
    refine ite2 (fun z => ?_) (fun _ => ?_)
    · exfalso
      rw [List.map_cons, eqv_cons_nil] at z
      cases z
    generalize k0 :: left' = left at hL hl hn q
    walk_at "rd"
    refine ⟨(by show 0 ≤ sizeLine; decide), fun p2 m2 => ?_⟩
    have s2 : Same H1 (upd H1 p2 (.lst [])) := fun b u z => (upd_ne (ne_of_none z m2)).trans z
    have f2 : upd H1 p2 (.lst []) p2 = some (.lst []) := upd_same
    generalize upd H1 p2 (.lst []) = H2 at s2 f2 ⊢
    walk_at "rd"
    have s02 := s1.trans s2
    refine ⟨⟨_, SqL.of (s02 _ _ hL)⟩, ?_⟩
    refine for_list (K := K) (a := L) (xs := left.map nV) (fun i st H' => ∃ (R : Addr) (x2 : Option V), st = [some (.ref L), some (.ref R), x2, none, none] ∧ H R = none ∧ Same H H' ∧ OrdsAt H H' R ((left.take i).flatMap fun k => (ordR n (left.filter fun j => decide (j ≠ k))).map fun r => k :: r)) ⟨p2, none, rfl, s1.free m2, s02, ⟨[], f2, rfl, (fun i p o hp _ => nomatch hp), fun p hp => absurd hp List.not_mem_nil⟩⟩ (fun _ _ _ _ ⟨_, _, _, _, s, _⟩ => SqL.of (s _ _ hL)) ?_ ?_
    · rintro i y st H' hy ⟨R, x2, rfl, nR, sm, OA⟩
      obtain ⟨k, hk, rfl⟩ : ∃ k, left[i]? = some k ∧ y = nV k := by
        rw [List.getElem?_map] at hy
        cases e : left[i]? with
        | none => rw [e] at hy; cases hy
        | some k => rw [e] at hy; exact ⟨k, rfl, (Option.some.inj hy).symm⟩
      walk_at "rd"
      refine ⟨⟨_, SqL.of (sm _ _ hL)⟩, fun D nD => ?_⟩
      refine lc_list (K := K) (a := L) (xs := left.map nV) (fun j H4 => H4 D = some (.lst (((left.take j).filter fun j => decide (j ≠ k)).map nV)) ∧ Same H' H4 ∧ j ≤ left.length) ⟨upd_same, (fun b u z => (upd_ne (ne_of_none z nD)).trans z), Nat.zero_le _⟩ (fun j H4 _ ⟨_, s4, _⟩ => SqL.of (s4 _ _ (sm _ _ hL))) ?_ ?_
      · rintro j x H4 hx ⟨hD, s4, _⟩
        obtain ⟨k2, hk2, rfl⟩ : ∃ k2, left[j]? = some k2 ∧ x = nV k2 := by
          rw [List.getElem?_map] at hx
          cases e : left[j]? with
          | none => rw [e] at hx; cases hx
          | some k2 => rw [e] at hx; exact ⟨k2, rfl, (Option.some.inj hx).symm⟩
        have jl : j < left.length := (List.getElem?_eq_some_iff.mp hk2).1
        refine ⟨rfl, ?_⟩
        walk_at "rd"
        refine ⟨rfl, ?_⟩
        walk_at "rd"
        have tk : left.take (j + 1) = left.take j ++ [k2] := by rw [List.take_succ, hk2]; rfl
        refine ite2 (fun z => ?_) (fun z => ?_)
        · have ne : k2 ≠ k := fun e => by
            subst e
            exact not_t z (decide_eq_true rfl)
          walk_at "rd"
          refine ⟨_, hD, ?_, ?_, ?_, jl⟩
          · rw [List.length_map]
            refine Nat.lt_of_le_of_lt (Nat.le_trans (List.length_filter_le _ _) (List.length_take_le' _ _)) ?_
            rw [hl]
            exact Nat.lt_of_lt_of_le (by omega : n + 1 < 100) (by decide)
          · rw [tk, List.filter_append, List.map_append]
            have e1 : ([k2].filter fun j => decide (j ≠ k)) = [k2] := by simp [ne]
            rw [e1]
            exact upd_same
          · intro b u y
            exact (upd_ne (ne_of_none y nD)).trans (s4 _ _ y)
        · have e : k2 = k := by
            have := not_f z
            have := of_decide_eq_true this
            have e2 : ((k2 : Nat) : Int) = (k : Int) := V.int.inj this
            omega
          refine ⟨?_, s4, jl⟩
          rw [tk, List.filter_append, List.map_append]
          have e1 : ([k2].filter fun j => decide (j ≠ k)) = [] := by simp [e]
          rw [e1, List.map_nil, List.append_nil]
          exact hD
      · rintro H4 ⟨hD, s4, _⟩
        rw [List.length_map, List.take_length] at hD
        walk_at "rd"
        refine ⟨D, left.filter fun j => decide (j ≠ k), rfl, hD, ordR_len.filter_len hn (List.mem_of_getElem? hk) hl, hn.filter _, fun R2 H5 nR2 s5 OA2 => ?_⟩
        obtain ⟨ps2, hR2, lp2, at2, fr2⟩ := OA2
        refine ⟨R2, rfl, ⟨_, SqL.of hR2⟩, fun D2 nD2 => ?_⟩
        have l4n : (ordR n (left.filter fun j => decide (j ≠ k))).length ≤ 256 := by
          have a := ordR_len n _ (ordR_len.filter_len hn (List.mem_of_getElem? hk) hl) (hn.filter _) (by omega)
          have b : (4 : Nat) ^ n ≤ 4 ^ 4 := Nat.pow_le_pow_right (by decide) (by omega)
          omega
        have sm5 : Same H H5 := sm.trans (s4.trans s5)
        refine lc_list (K := K) (a := R2) (xs := ps2.map V.ref) (fun j H6 => OrdsAt H H6 D2 (((ordR n (left.filter fun j => decide (j ≠ k))).take j).map fun r => k :: r) ∧ Same H5 H6 ∧ j ≤ (ordR n (left.filter fun j => decide (j ≠ k))).length) ⟨⟨[], upd_same, rfl, (fun i p o hp _ => nomatch hp), fun p hp => absurd hp List.not_mem_nil⟩, (fun b u z => (upd_ne (ne_of_none z nD2)).trans z), Nat.zero_le _⟩ (fun j H6 _ ⟨_, s6, _⟩ => SqL.of (s6 _ _ hR2)) ?_ ?_
        · rintro j x H6 hx ⟨OD, s6, _⟩
          obtain ⟨p, hp, rfl⟩ : ∃ p, ps2[j]? = some p ∧ x = .ref p := by
            rw [List.getElem?_map] at hx
            cases e : ps2[j]? with
            | none => rw [e] at hx; cases hx
            | some p => rw [e] at hx; exact ⟨p, rfl, (Option.some.inj hx).symm⟩
          have jl : j < (ordR n (left.filter fun j => decide (j ≠ k))).length := by rw [← lp2]; exact (List.getElem?_eq_some_iff.mp hp).1
          obtain ⟨o, ho⟩ : ∃ o, (ordR n (left.filter fun j => decide (j ≠ k)))[j]? = some o := ⟨_, List.getElem?_eq_getElem jl⟩
          have po := s6 _ _ (at2 j p o hp ho)
          refine ⟨rfl, ?_⟩
          walk_at "rd"
          refine ⟨(by show 1 ≤ sizeLine; decide), fun a1 k1 => ?_⟩
          generalize e3 : upd H6 a1 _ = H7
          have w3 : Same H6 H7 := by rw [← e3]; exact fun b u y => (upd_ne (ne_of_none y k1)).trans y
          have f3 : H7 a1 = some (.lst [nV k]) := by rw [← e3]; exact upd_same
          clear e3
          walk_at "rd"
          refine ⟨a1, p, _, _, rfl, rfl, f3, w3 _ _ po, ?_, fun a2 k2 => ?_⟩
          · have a := (ordR_in n _ (ordR_len.filter_len hn (List.mem_of_getElem? hk) hl) (hn.filter _) o (List.mem_of_getElem? ho)).1
            rw [List.length_map, a]
            exact Nat.le_trans (by show 1 + n ≤ 8; omega) (by decide)
          generalize e4 : upd H7 a2 _ = H8
          have w4 : Same H7 H8 := by rw [← e4]; exact fun b u y => (upd_ne (ne_of_none y k2)).trans y
          have f4 : H8 a2 = some (.lst ((k :: o).map nV)) := by rw [← e4]; exact upd_same
          clear e4
          obtain ⟨qs, hqs, lq, at6, fr6⟩ := id OD
          have n2H : H a2 = none := (sm5.trans (s6.trans w3)).free k2
          have nD6 : a2 ≠ D2 := fun y => by
            rw [y, w3 _ _ hqs] at k2
            cases k2
          refine ⟨_, w4 _ _ (w3 _ _ hqs), ?_, ?_, ?_, jl⟩
          · rw [List.length_map, lq, List.length_map, List.length_take]
            exact Nat.lt_of_lt_of_le (by omega : _ < 1000) (by decide)
          · rw [List.take_succ, ho, List.map_append]
            exact OD.snoc hqs (w3.trans w4) n2H f4 nD6
          · intro b u y
            exact (upd_ne (ne_of_none y nD2)).trans (w4 _ _ (w3 _ _ (s6 _ _ y)))
        · rintro H6 ⟨OD, s6, _⟩
          rw [List.length_map, lp2, List.take_length] at OD
          obtain ⟨ps, hR, lp, at_, fr⟩ := OA
          obtain ⟨qs, hD2, lq, qat, qfr⟩ := OD
          have sH6 : Same H' H6 := s4.trans (s5.trans s6)
          refine ⟨R, D2, _, _, rfl, rfl, sH6 _ _ hR, hD2, ?_, fun R3 nR3 => ?_⟩
          · rw [List.length_map, List.length_map, lq, lp, List.length_map]
            have a : ((left.take i).flatMap fun k => (ordR n (left.filter fun j => decide (j ≠ k))).map fun r => k :: r).length ≤ (left.take i).length * 256 := flat_le _ fun k' hk' => by
              rw [List.length_map]
              have a := ordR_len n _ (ordR_len.filter_len hn (List.mem_of_mem_take hk') hl) (hn.filter _) (by omega)
              have b : (4 : Nat) ^ n ≤ 4 ^ 4 := Nat.pow_le_pow_right (by decide) (by omega)
              omega
            have b : (left.take i).length ≤ left.length := List.length_take_le' _ _
            exact Nat.le_trans (by omega : _ ≤ 4 * 256 + 256) (by decide)
          have s7 : Same H6 (upd H6 R3 (.lst (ps.map V.ref ++ qs.map V.ref))) := fun b u z => (upd_ne (ne_of_none z nR3)).trans z
          have f7 : upd H6 R3 (.lst (ps.map V.ref ++ qs.map V.ref)) R3 = some (.lst (ps.map V.ref ++ qs.map V.ref)) := upd_same
          generalize upd H6 R3 (.lst (ps.map V.ref ++ qs.map V.ref)) = H7 at s7 f7 ⊢
          refine ⟨R3, _, rfl, (sm.trans sH6).free nR3, sm.trans (sH6.trans s7), ⟨ps ++ qs, by rw [List.map_append]; exact f7, ?_, ?_, ?_⟩⟩
          · rw [List.take_succ, hk, List.flatMap_append, List.length_append, List.length_append, lp, lq]
            simp only [Option.toList, List.flatMap_cons, List.flatMap_nil, List.append_nil]
          · intro i2 p o hp ho
            rw [List.take_succ, hk, List.flatMap_append] at ho
            simp only [Option.toList, List.flatMap_cons, List.flatMap_nil, List.append_nil] at ho
            rcases Nat.lt_or_ge i2 ps.length with z | z
            · rw [List.getElem?_append_left z] at hp
              rw [List.getElem?_append_left (by omega)] at ho
              exact s7 _ _ (sH6 _ _ (at_ i2 p o hp ho))
            · rw [List.getElem?_append_right z] at hp
              rw [List.getElem?_append_right (by omega)] at ho
              rw [← lp] at ho
              exact s7 _ _ (qat _ p o hp ho)
          · intro p hp
            rcases List.mem_append.mp hp with z | z
            · exact fr p z
            · exact qfr p z
    · rintro st H' ⟨R, x2, rfl, nR, sm, OA⟩
      rw [List.length_map, List.take_length] at OA
      walk_at "rd"
      exact q R H' nR sm OA
theorem ok_ordL {f : Addr} {fd : FuncData} (F : Fun K "_law_orders" "_law_orders" s_L_orders f fd) (m : mg "_law_orders" = some (.ref f)) (k : PySem.W.keepIn K (.ref f) = true) (b : Binds K fd ["_law_left"] []) : ∀ n, n ≤ 4 → FnOk P w K mg base CX0 (n + 1) f fd ["_law_left"] (spOrdL n)
  | 0, _ => ok_ordL0 F
  | n + 1, h => ok_ordLS F (by omega) ⟨ok_ordL F m k b n (by omega), m, k, b⟩
end
end HT
namespace HT
open PySem L2
section
variable {P : Program} {w : World} {K : PySem.W.Frag} {mg : Str → Option Value} {base : Heap} {fO fW : Addr} {dO dW : FuncData}
theorem ok_due {f : Addr} {fd : FuncData} (F : Fun K "_law_due" "_law_due" s_L_due f fd) (A' : AmG mg) (hrg : mg "range" = none) (Od : ∀ n, n ≤ 4 → Cal P w K mg base "_law_orders" (n + 1) ["_law_left"] (spOrdL n) fO dO) (Wr : Cal P w K mg base "_law_handed" 2 ["_law_side", "_law_value"] spDue fW dW) : FnOk P w K mg base CX0 6 f fd ["_law_sides", "_law_value"] spOnce := by
  refine F.ok sc_L_due (fun vs H Q E h => ?_) (fun cdv A outer s0 H vs Q E hr h => ?_)
  · obtain ⟨l, xs, ss, v, rfl, _⟩ := h
    rfl
  · obtain ⟨l, xs, ss, v, rfl, SS, hv, q⟩ := h
    have nd := sc_L_due.nd
    have hu := hu_of hr
    refine ⟨_, pss_cons (ps_set (i := 2) nd rfl (Or.inr rfl) pe_dnewK)
      (pss_cons (ps_for PassesOwn.never rfl (pi_list (pcl (Od ss.length SS.l4) hr (by have := SS.l4; omega) (by rfl) (pa_cons (pe_listRg rfl (by rfl) A'.list (prg_1 (by rfl) hrg (pe_callB call_len_seq (by rfl) A'.len PySem.boot_len (pa_cons (pv 0) pa_nil)))) pa_nil))) (pg_name (i := 3) nd rfl (Or.inl rfl))
        (pss_cons (ps_set (i := 4) nd rfl (Or.inl rfl) (pv 1))
        (pss_cons (ps_for PassesOwn.never rfl (pi_list (pv 3)) (pg_name (i := 5) nd rfl (Or.inl rfl)) (pss_one (ps_set (i := 4) nd rfl (Or.inl rfl) (pcl Wr hr (by decide) (by rfl) (pa_cons (pe_ix ix_list (pv 0) (pv 5) (fun _ _ => rfl)) (pa_cons (pv 4) pa_nil))))))
        (pss_one (ps_if (pt_cmp (pc_dnotin hu (pv 4) (pv 2))) (pss_one (ps_dput hu (pv 2) (pv 4) (pv 3) rfl)) pss_nil)))))
      (pss_one (ps_ret (pe_lc (own := [("_law_end", 4)]) (g := gName 4) (tt := tYes) rfl nd (pi_list (pe_callB cr_sorted (by rfl) A'.sorted (by decide +kernel) (pa_cons (pe_callTy (call_list_dK rfl) (by rfl) A'.list (by decide +kernel) (pa_cons (pv 2) pa_nil)) pa_nil))) (blkOk_by (N := ["_law_sides", "_law_value", "_law_found", "_law_order", "_law_end", "_law_number"]) (sc := defScope s_L_due) (by decide +kernel)) (fun _ _ _ _ _ => pg_name (i := 4) nd rfl (Or.inl rfl)) (fun _ _ _ _ _ => pts_nil)
          (fun _ _ _ _ _ => pe_tup (pa_cons (pv 4) (pa_cons (pe_dget hu (pv 2) (pv 4) (fun _ _ => rfl)) pa_nil))))))), ?_⟩
    walk_at "rd"
    refine fun D nD => ?_
    have sD : Same H (upd H D (.dK [])) := fun b u z => (upd_ne (ne_of_none z nD)).trans z
    have fD : upd H D (.dK []) D = some (.dK []) := upd_same
    generalize upd H D (.dK []) = HD at sD fD ⊢
    walk_at "rd"
    refine ⟨l, _, rfl, .inl (SqL.of (sD _ _ SS.hl)), ?_⟩
    have ln := SS.len
    have l1 := SS.l1
    have l4 := SS.l4
    refine ⟨_, rfl, RgOk.of_le (by omega) (by omega) (by omega) (by omega), fun Lr nLr => ?_⟩
    have eR : rgV 0 (xs.length : Int) = (List.range ss.length).map nV := by
      unfold rgV
      rw [show ((xs.length : Int) - 0).toNat = ss.length by omega]
      refine List.map_congr_left fun k _ => ?_
      rw [Int.zero_add]
      rfl
    generalize eLr : upd HD Lr _ = HL
    have sL : Same HD HL := by rw [← eLr]; exact fun b u z => (upd_ne (ne_of_none z nLr)).trans z
    have fL : HL Lr = some (.lst ((List.range ss.length).map nV)) := by rw [← eLr, ← eR]; exact upd_same
    clear eLr
    refine ⟨Lr, List.range ss.length, rfl, fL, List.length_range, List.nodup_range, fun L H1 nL s1 OA => ?_⟩
    rw [ordR_I l1 l4] at OA
    have o24 := ord24 l1 l4
    have oin : ∀ o ∈ ordI ss.length ss.length, o.length ≤ 4 ∧ ∀ k ∈ o, k < ss.length := fun o ho => by
      obtain ⟨a, b⟩ := ord_in ss.length ss.length o ho
      exact ⟨by rw [a]; exact l4, b⟩
    have hfree : ∀ p, HL p = none → H p = none := fun p hp => sD.free (sL.free hp)
    generalize eos : ordI ss.length ss.length = os at OA o24 oin q
    obtain ⟨ps, hL, lp, at_, fr0⟩ := id OA
    have fr : ∀ p ∈ ps, H p = none := fun p hp => hfree p (fr0 p hp)
    have sH1 : Same HD H1 := sL.trans s1
    refine ⟨L, rfl, ⟨_, SqL.of hL⟩, ?_⟩
    refine for_list (K := K) (a := L) (xs := ps.map V.ref) (fun i st H' => ∃ x3 x4 x5 : Option V, st = [some (.ref l), some (.int v), some (.ref D), x3, x4, x5] ∧ EndsAt H H' D (endsM ss (os.take i) v) ∧ (∀ b u, H1 b = some u → b ≠ D → H' b = some u)) ⟨none, none, none, rfl, ⟨[], sH1 _ _ fD, rfl, (fun i p o hp _ => nomatch hp), fun p hp => absurd hp List.not_mem_nil⟩, fun b u z _ => z⟩ (fun _ _ _ _ ⟨_, _, _, _, _, s⟩ => SqL.of (s _ _ hL (by intro z; rw [z, sH1 _ _ fD] at hL; cases hL))) ?_ ?_
    · rintro i y st H' hy ⟨x3, x4, x5, rfl, EA, sm⟩
      obtain ⟨p, hp, rfl⟩ : ∃ p, ps[i]? = some p ∧ y = .ref p := by
        rw [List.getElem?_map] at hy
        cases e : ps[i]? with
        | none => rw [e] at hy; cases hy
        | some p => rw [e] at hy; exact ⟨p, rfl, (Option.some.inj hy).symm⟩
      have il : i < os.length := by rw [← lp]; exact (List.getElem?_eq_some_iff.mp hp).1
      obtain ⟨o, ho⟩ : ∃ o, os[i]? = some o := ⟨_, List.getElem?_eq_getElem il⟩
      have po1 := at_ i p o hp ho
      have pD : p ≠ D := by intro z; rw [z, sH1 _ _ fD] at po1; cases po1
      have po := sm _ _ po1 pD
      obtain ⟨o4, on⟩ := oin o (List.mem_of_getElem? ho)
      have SH : SidesAt H' l xs ss := by
        have S1 := (SS.same sD).same sH1
        refine ⟨sm _ _ S1.hl (by intro z; have := S1.hl; rw [z, sH1 _ _ fD] at this; cases this), S1.len, S1.l1, S1.l4, fun i d h => ?_⟩
        obtain ⟨p, a, b, c⟩ := S1.at_ i d h
        exact ⟨p, a, sm _ _ b (by intro z; rw [z, sH1 _ _ fD] at b; cases b), c⟩
      walk_at "rd"
      refine ⟨⟨_, SqL.of po⟩, ?_⟩
      refine for_list (K := K) (a := p) (xs := o.map nV) (fun j st H'' => ∃ x5 : Option V, st = [some (.ref l), some (.int v), some (.ref D), some (.ref p), some (.int (walkW ss (o.take j) v).2), x5] ∧ Same H' H'') ⟨x5, rfl, Same.refl _⟩ (fun _ _ _ _ ⟨_, _, s⟩ => SqL.of (s _ _ po)) ?_ ?_
      · rintro j y2 st H'' hy2 ⟨x6, rfl, s2⟩
        obtain ⟨k, hk, rfl⟩ : ∃ k, o[j]? = some k ∧ y2 = nV k := by
          rw [List.getElem?_map] at hy2
          cases e : o[j]? with
          | none => rw [e] at hy2; cases hy2
          | some k => rw [e] at hy2; exact ⟨k, rfl, (Option.some.inj hy2).symm⟩
        have kl := on k (List.mem_of_getElem? hk)
        have S2 := SH.same s2
        obtain ⟨pk, ek, hpk, spk⟩ := S2.at_ k ss[k] (List.getElem?_eq_getElem kl)
        have en : atI xs ((k : Nat) : Int) = some (.ref pk) := by
          unfold atI
          rw [ixN_in (by omega) (by rw [SS.len]; omega)]
          exact ek
        have bd := walk_bd SS.side hv (o.take j) fun k' hk' => on k' (List.mem_of_mem_take hk')
        have tl : (o.take j).length ≤ 4 := Nat.le_trans (List.length_take_le' _ _) o4
        walk_at "rd"
        refine ⟨l, _, _, _, rfl, rfl, SqL.of S2.hl, en, ?_⟩
        walk_at "rd"
        refine ⟨pk, ss[k].o, ss[k].s, ss[k].m, _, rfl, hpk, spk, (by unfold Bd; unfold endM at bd; omega), fun H3 s3 => ?_⟩
        refine ⟨some (nV k), ?_, s2.trans s3⟩
        rw [walk_snoc hk]
        unfold stepW
        rw [List.getElem?_eq_getElem kl]
        rfl
      · rintro st H'' ⟨x6, rfl, s2⟩
        rw [List.length_map, List.take_length]
        obtain ⟨qs, hD, lq, qat, qfr⟩ := EA
        have hD2 := s2 _ _ hD
        walk_at "rd"
        refine ⟨D, _, rfl, DGet.k (k := Sum.inl (walkW ss o v).2) hD2, _, rfl, ?_⟩
        rw [kvs_val _ _ _ lq]
        refine ite2 (fun z => ?_) (fun z => ?_)
        · have nz : (endsM ss (os.take i) v).any (fun z => decide (z.1 = (walkW ss o v).2)) = false := by simpa using z
          walk_at "rd"
          refine ⟨D, _, rfl, DPut.k (k := Sum.inl (walkW ss o v).2) hD2 ?_, ?_⟩
          · rw [kvs_len lq]
            have a := ends_len (ss := ss) (v := v) (os.take i) []
            have b : (os.take i).length ≤ os.length := List.length_take_le' _ _
            exact small1000 (by unfold endsM; have : ([] : List (Int × List Nat)).length = 0 := rfl; omega)
          · refine ⟨_, _, _, rfl, ?_, ?_⟩
            · rw [kvs_put (o := o) lq nz, ends_snoc ho]
              unfold stepE endM
              rw [if_neg (by rw [nz]; exact Bool.false_ne_true)]
              refine ⟨qs ++ [p], upd_same, by rw [List.length_append, List.length_append, lq]; rfl, ?_, ?_⟩
              · intro j q e hq he
                rcases Nat.lt_or_ge j qs.length with y | y
                · rw [List.getElem?_append_left y] at hq
                  rw [List.getElem?_append_left (by omega)] at he
                  have h1 := s2 _ _ (qat j q e hq he)
                  exact (upd_ne (ne_of h1 hD2 (by intro y; cases y))).trans h1
                · rw [List.getElem?_append_right y] at hq
                  rw [List.getElem?_append_right (by omega)] at he
                  have e0 : j - qs.length = 0 := by
                    have := (List.getElem?_eq_some_iff.mp hq).1
                    simp at this
                    omega
                  rw [e0] at hq
                  rw [show j - (endsM ss (os.take i) v).length = 0 by omega] at he
                  cases hq
                  cases he
                  have h1 := s2 _ _ po
                  exact (upd_ne (ne_of h1 hD2 (by intro y; cases y))).trans h1
              · intro q hq
                rcases List.mem_append.mp hq with y | y
                · exact qfr q y
                · rw [List.mem_singleton.mp y]; exact fr p (List.mem_of_getElem? hp)
            · intro b u y bD
              exact (upd_ne bD).trans (s2 _ _ (sm _ _ y bD))
        · have hz : (endsM ss (os.take i) v).any (fun z => decide (z.1 = (walkW ss o v).2)) = true := by simpa using z
          refine ⟨_, _, _, rfl, ?_, fun b u y bD => s2 _ _ (sm _ _ y bD)⟩
          rw [ends_snoc ho]
          unfold stepE endM
          rw [if_pos hz]
          exact ⟨qs, hD2, lq, fun j q e hq he => s2 _ _ (qat j q e hq he), qfr⟩
    · rintro st H2 ⟨x3, x4, x5, rfl, EA, sm⟩
      rw [List.length_map, lp, List.take_length] at EA
      obtain ⟨qs, hD, lq, qat, qfr⟩ := EA
      have s02 : Same H H2 := fun b u z => sm _ _ (sH1 _ _ (sD _ _ z)) (by intro y; rw [y, nD] at z; cases z)
      have el : (endsM ss os v).length ≤ 24 := by
        have := ends_len (ss := ss) (v := v) os []
        unfold endsM
        have e0 : ([] : List (Int × List Nat)).length = 0 := rfl
        omega
      walk_at "rd"
      refine ⟨D, _, rfl, hD, fun pk npk => ?_⟩
      have ekv : (kvsOf (endsM ss os v) qs).map (fun kv => kV kv.1) = ((endsM ss os v).map (·.1)).map V.int := by
        have z := congrArg (List.map kV) (kvs_keys (endsM ss os v) qs lq)
        rw [List.map_map, List.map_map] at z
        exact z
      generalize epk : upd H2 pk _ = H2b
      have s2b : Same H2 H2b := by rw [← epk]; exact fun b u z => (upd_ne (ne_of_none z npk)).trans z
      have fpk : H2b pk = some (.lst (((endsM ss os v).map (·.1)).map V.int)) := by rw [← epk, ← ekv]; exact upd_same
      clear epk
      refine ⟨pk, (endsM ss os v).map (·.1), rfl, SqL.of fpk, (by rw [List.length_map]; omega), fun ys p perm pw np => ?_⟩
      have hp : upd H2b p (.lst (ys.map V.int)) p = some (.lst (ys.map V.int)) := upd_same
      have s3 : Same H2b (upd H2b p (.lst (ys.map V.int))) := fun b u z => (upd_ne (ne_of_none z np)).trans z
      generalize upd H2b p (.lst (ys.map V.int)) = H3 at hp s3 ⊢
      have yl : ys.length ≤ 24 := by rw [perm.length_eq, List.length_map]; exact el
      refine ⟨p, rfl, ⟨_, SqL.of hp⟩, fun R nR => ?_⟩
      have s23 := s2b.trans s3
      have sR : Same H H3 := s02.trans s23
      refine lc_list (K := K) (a := p) (xs := ys.map V.int) (fun i H4 => ∃ ts : List Addr, H4 R = some (.lst (ts.map V.ref)) ∧ ts.length = i ∧ Same H3 H4 ∧ ∀ (j : Nat) (b : Addr) (y : Int), ts[j]? = some b → ys[j]? = some y → ∃ q : Addr, H4 b = some (.tup [.int y, .ref q]) ∧ H3 q = some (.lst ((ordOf (endsM ss os v) y).map nV)) ∧ H q = none)
        ⟨[], upd_same, rfl, (fun b u z => (upd_ne (ne_of_none z nR)).trans z), fun j b y hb => nomatch hb⟩ (fun i H4 _ ⟨_, _, _, s4, _⟩ => SqL.of (s4 _ _ hp)) ?_ ?_
      · rintro i x H4 hx ⟨ts, hR, lt, s4, tat⟩
        obtain ⟨y, hy, rfl⟩ : ∃ y, ys[i]? = some y ∧ x = .int y := by
          rw [List.getElem?_map] at hx
          cases e : ys[i]? with
          | none => rw [e] at hx; cases hx
          | some y => rw [e] at hx; exact ⟨y, rfl, (Option.some.inj hx).symm⟩
        have il : i < ys.length := (List.getElem?_eq_some_iff.mp hy).1
        have ymem : y ∈ (endsM ss os v).map (·.1) := perm.mem_iff.mp (List.mem_of_getElem? hy)
        obtain ⟨j, q2, e, h1, h2, h3, h4⟩ := kvs_at _ qs y lq ymem
        have hD4 := s4 _ _ (s23 _ _ hD)
        refine ⟨rfl, ?_⟩
        walk_at "rd"
        refine ⟨D, .ref q2, rfl, ?_, ?_⟩
        · have g := DGet.k (k := Sum.inl y) hD4
          rw [h4] at g
          exact g
        refine ⟨(by show 2 ≤ sizeLine; decide), fun b nb => ?_⟩
        have nbR : b ≠ R := fun z => by rw [z, hR] at nb; cases nb
        have q2D : H4 q2 = some (.lst (e.2.map nV)) := s4 _ _ (s23 _ _ (qat j q2 e h1 h2))
        have eo : ordOf (endsM ss os v) y = e.2 := by
          rw [← h3]
          exact ordOf_mem ends_nodup (List.mem_of_getElem? h2)
        refine ⟨_, (upd_ne (Ne.symm nbR)).trans hR, ?_, ts ++ [b], ?_, by rw [List.length_append, lt]; rfl, ?_, ?_⟩
        · rw [List.length_map, lt]; exact Nat.lt_of_lt_of_le (by omega : i < 100) (by decide)
        · rw [List.map_append]; exact upd_same
        · intro c u z
          have z4 := s4 _ _ z
          exact (upd_ne (ne_of_none z nR)).trans ((upd_ne (ne_of_none z4 nb)).trans z4)
        · intro j2 b2 y2 hb2 hy2
          rcases Nat.lt_or_ge j2 ts.length with z | z
          · rw [List.getElem?_append_left z] at hb2
            obtain ⟨q3, g1, g2, g3⟩ := tat j2 b2 y2 hb2 hy2
            have k1 : b2 ≠ R := ne_of g1 hR (by intro y; cases y)
            exact ⟨q3, (upd_ne k1).trans ((upd_ne (ne_of_none g1 nb)).trans g1), g2, g3⟩
          · rw [List.getElem?_append_right z] at hb2
            have e0 : j2 - ts.length = 0 := by
              have := (List.getElem?_eq_some_iff.mp hb2).1
              simp at this
              omega
            rw [e0] at hb2
            cases hb2
            rw [show j2 = i by omega, hy] at hy2
            cases hy2
            refine ⟨q2, (upd_ne nbR).trans upd_same, ?_, qfr q2 (List.mem_of_getElem? h1)⟩
            rw [eo]
            exact s23 _ _ (qat j q2 e h1 h2)
      · rintro H4 ⟨ts, hR, lt, s4, tat⟩
        walk_at "rd"
        have so := sorted_of ends_nodup perm pw
        refine q R H4 _ (sR.free nR) (sR.trans s4) so ⟨ts, hR, by rw [lt, List.length_map, List.length_map], ?_⟩
        intro i b e hb he
        rw [List.getElem?_map] at he
        cases ey : ys[i]? with
        | none => rw [ey] at he; cases he
        | some y =>
          rw [ey] at he
          cases he
          obtain ⟨q3, g1, g2, g3⟩ := tat i b y hb ey
          exact ⟨q3, g1, s4 _ _ g2, g3⟩
end
end HT
namespace HT
open PySem L2
def spMatL : Sp := fun vs H Q _ => ∃ (l : Addr) (xs : List V) (ss : List Sd) (v : Int), vs = [.ref l, .int v] ∧ SidesAt H l xs ss ∧ (-2 ^ 190 < v ∧ v < 2 ^ 190) ∧ comN ss < 2 ^ 60 ∧
  ∀ (r : Option Int) (H' : Hp), MatP ss v r → Same H H' → Q (oV r) H'
def spWordM : Sp := fun vs H Q _ => ∃ (l : Addr) (xs : List V) (ss : List Sd) (v : Int), vs = [.ref l, .int v] ∧ SidesAt H l xs ss ∧ (-2 ^ 190 < v ∧ v < 2 ^ 190) ∧
  ((2000 < comN ss ∧ ∀ H', Same H H' → Q (.str "many") H') ∨ (comN ss ≤ 2000 ∧ ∀ (r : Option Int) (H' : Hp), MatP ss v r → Same H H' → Q (oV r) H'))
section
variable {P : Program} {w : World} {K : PySem.W.Frag} {mg : Str → Option Value} {base : Heap} {c fD fP fM : Addr} {dD dP dM : FuncData}
theorem ok_Lmat {f : Addr} {fd : FuncData} (F : Fun K "_law_matters" "_law_matters" s_L_matters f fd) (A' : AmG mg) (hrg : mg "range" = none) (Du : Cal P w K mg base "_law_due" 6 ["_law_sides", "_law_value"] spOnce fD dD) (Pe : Cal P w K mg base "_law_period" 2 ["_law_sides"] spPer fP dP) : FnOk P w K mg base CX0 7 f fd ["_law_sides", "_law_value"] spMatL := by
  refine F.ok sc_L_matters (fun vs H Q E h => ?_) (fun cdv A outer s0 H vs Q E hr h => ?_)
  · obtain ⟨l, xs, ss, v, rfl, _⟩ := h
    rfl
  · obtain ⟨l, xs, ss, v, rfl, SS, hv, hc, q⟩ := h
    have nd := sc_L_matters.nd
    refine ⟨_, pss_cons (ps_for PassesOwn.never rfl (pi_rangeW (by rfl) hrg (pa_cons (pv 1) (pa_cons (pe_op op_add (pv 1) (pcl Pe hr (by decide) (by rfl) (pa_cons (pv 0) pa_nil))) pa_nil))) (pg_name (i := 2) nd rfl (Or.inl rfl))
        (pss_one (ps_if (pt_cmpR op_gt (pe_callB call_len_seq (by rfl) A'.len PySem.boot_len (pa_cons (pcl Du hr (by decide) (by rfl) (pa_cons (pv 0) (pa_cons (pv 2) pa_nil))) pa_nil)) pe_int (nomark _)) (pss_one (ps_ret (pv 2))) pss_nil)))
      (pss_one (ps_ret pe_non)), ?_⟩
    walk_at "rd"
    refine ⟨l, xs, ss, rfl, SS, ?_⟩
    walk_at "rd"
    refine ⟨_, _, rfl, ?_⟩
    rw [show (v + (comN ss : Int) - v).toNat = comN ss by omega]
    refine for_range (n := comN ss) (fun i st H' => ∃ x2 : Option V, st = [some (.ref l), some (.int v), x2] ∧ Same H H' ∧ ∀ y, v ≤ y → y < v + (i : Int) → ¬ ManyM ss y) ⟨none, rfl, Same.refl _, fun y a b => by omega⟩ ?_ ?_
    · rintro i st H' hi ⟨x2, rfl, sm, none'⟩
      walk_at "rd"
      refine ⟨l, xs, ss, v + (i : Int), rfl, SS.same sm, by omega, fun R H2 rs nR s2 so OA => ?_⟩
      obtain ⟨ts, hR, lt, _⟩ := OA
      walk_at "rd"
      refine ⟨R, _, rfl, .inl (SqL.of hR), ?_⟩
      walk_at "rd"
      rw [List.length_map, lt, so.1.length_eq]
      refine ite2 (fun z => ?_) (fun z => ?_)
      · have z' : ManyM ss (v + (i : Int)) := by
          have := of_decide_eq_true z
          unfold ManyM
          omega
        walk_at "rd"
        exact q (some (v + (i : Int))) H2 ⟨by omega, by omega, z', none'⟩ (sm.trans s2)
      · have z' : ¬ ManyM ss (v + (i : Int)) := fun y => z (decide_eq_true (by unfold ManyM at y; omega))
        refine ⟨_, rfl, sm.trans s2, fun y a b => ?_⟩
        by_cases e : y = v + (i : Int)
        · rw [e]; exact z'
        · exact none' y a (by omega)
    · rintro st H' ⟨x2, rfl, sm, none'⟩
      walk_at "rd"
      exact q none H' none' sm
theorem ok_Lword {f : Addr} {fd : FuncData} (F : Fun K "_law_word" "_law_word" s_L_word f fd) (R : ErT K mg c) (Om : CalX P w K mg base "order_matters" 6 ["sides", "value"] (spMatX c) fM dM) : FnOk P w K mg base CX0 7 f fd ["_law_sides", "_law_value"] spWordM := by
  refine F.ok sc_L_word (fun vs H Q E h => ?_) (fun cdv A outer s0 H vs Q E hr h => ?_)
  · obtain ⟨l, xs, ss, v, rfl, _⟩ := h
    rfl
  · obtain ⟨l, xs, ss, v, rfl, SS, hv, h⟩ := h
    have nd := sc_L_word.nd
    refine ⟨_, pss_cons (ps_set (i := 2) nd rfl (Or.inl rfl) pe_non)
      (pss_cons (ps_set (i := 3) nd rfl (Or.inl rfl) pe_non)
      (pss_cons (ps_try_keep (i := 4) rfl rfl rfl nd rfl rfl ⟨rfl, by decide, .inl R.g⟩ takes0 (fun W pn xe tk _ => pss_one (ps_set (i := 3) nd rfl (Or.inl rfl) (pcx Om hr (by decide) (by rfl) tk (pa_cons (pv 0) (pa_cons (pv 1) pa_nil)))))
        (fun a rc kl dd pn hz hf => pss_one (ps_set (i := 2) nd rfl (Or.inl rfl) (pv 4))))
      (pss_cons (ps_if (pt_cmpR op_notN (pv 2) pe_non (nomark _)) (pss_one (ps_ret pe_str)) pss_nil)
      (pss_one (ps_ret (pv 3)))))), ?_⟩
    walk_at "rd"
    rcases h with ⟨big, q⟩ | ⟨small, q⟩
    · refine ⟨l, xs, ss, v, rfl, SS, hv, .inl ⟨big, ?_⟩⟩
      refine ⟨true, R.em, fun _ => ⟨rfl, fun a ha => ?_⟩, fun z => Bool.noConfusion z⟩
      walk_at "rd"
      refine ⟨rfl, ?_⟩
      walk_at "rd"
      exact q _ fun b u z => (upd_ne (ne_of_none z ha)).trans z
    · refine ⟨l, xs, ss, v, rfl, SS, hv, .inr ⟨small, fun r H' m s => ?_⟩⟩
      walk_at "rd"
      refine ⟨rfl, ?_⟩
      walk_at "rd"
      exact q r H' m s
end
end HT
namespace HT
open PySem L2
theorem goes_scale {m : Str} {s q r f : Int} (h : Mode m) (hf : 1 ≤ f) : goesUp m (s * f) q (r * f) = goesUp m s q r := by
  have key : ∀ a b : Int, a * f < b * f ↔ a < b := fun a b => Int.mul_lt_mul_right (by omega)
  have key2 : ∀ a b : Int, a * f ≤ b * f ↔ a ≤ b := fun a b => by
    rw [← Int.not_lt, key, Int.not_lt]
  have e0 : (0 : Int) < r * f ↔ 0 < r := by
    have := key 0 r
    rw [Int.zero_mul] at this
    exact this
  have e1 : s * f < 2 * (r * f) ↔ s < 2 * r := by
    have := key s (2 * r)
    rw [Int.mul_assoc] at this
    exact this
  have e2 : s * f ≤ 2 * (r * f) ↔ s ≤ 2 * r := by
    have := key2 s (2 * r)
    rw [Int.mul_assoc] at this
    exact this
  have e3 : 2 * (r * f) = s * f ↔ 2 * r = s := by
    rw [← Int.mul_assoc]
    exact Int.mul_eq_mul_right_iff (by omega)
  rcases h with e | e | e | e | e <;> subst e
  · rw [go_down, go_down]
  · rw [go_up, go_up]; exact decide_eq_decide.mpr e0
  · rw [go_hd, go_hd]; exact decide_eq_decide.mpr e1
  · rw [go_hu, go_hu]; exact decide_eq_decide.mpr e2
  · rw [go_he, go_he, decide_eq_decide.mpr e1, decide_eq_decide.mpr e3]
theorem due_scale {o s v f : Int} {m : Str} (h : Mode m) (hs : 1 ≤ s) (hf : 1 ≤ f) : dueM (o * f) (s * f) m (v * f) = dueM o s m v * f := by
  have F := fig_of (o := o) (m := m) (v := v) hs
  have sf : 1 ≤ s * f := Int.mul_pos (by omega) (by omega)
  obtain ⟨eq, r0, r1, wh⟩ := F
  generalize (v - o) / s = q at eq wh
  generalize (v - o) % s = r at eq r0 r1 wh
  have F2 : Fig (o * f) (s * f) m (v * f) q (r * f) (figM o s m v) := by
    refine ⟨?_, Int.mul_nonneg r0 (by omega), (Int.mul_lt_mul_right (by omega)).mpr r1, ?_⟩
    · rw [← Int.sub_mul, eq, Int.add_mul, Int.mul_assoc, Int.mul_assoc, Int.mul_comm q f]
    · rw [goes_scale h hf]; exact wh
  have e := fig_uniq sf F2
  unfold dueM
  rw [e, Int.add_mul, Int.mul_assoc, Int.mul_assoc, Int.mul_comm f]
def lift (f : Int) (d : Sd) : Sd := ⟨d.o * f, d.s * f, d.m⟩
theorem walk_scale {ss : List Sd} (h : ∀ d ∈ ss, Mode d.m ∧ 1 ≤ d.s) {f : Int} (hf : 1 ≤ f) : ∀ (o : List Nat) (a : List Int × Int), (o.foldl (stepW (ss.map (lift f))) (a.1.map (· * f), a.2 * f)) = ((o.foldl (stepW ss) a).1.map (· * f), (o.foldl (stepW ss) a).2 * f)
  | [], a => rfl
  | k :: o, a => by
    have e : stepW (ss.map (lift f)) (a.1.map (· * f), a.2 * f) k = ((stepW ss a k).1.map (· * f), (stepW ss a k).2 * f) := by
      unfold stepW
      rw [List.getElem?_map]
      cases hk : ss[k]? with
      | none =>
        show (_ ++ _, _) = _
        rw [List.map_append]
        rfl
      | some d =>
        obtain ⟨hm, hs⟩ := h d (List.mem_of_getElem? hk)
        show (a.1.map (· * f) ++ [dueM (d.o * f) (d.s * f) d.m (a.2 * f)], dueM (d.o * f) (d.s * f) d.m (a.2 * f)) = _
        rw [due_scale hm hs hf, List.map_append]
        rfl
    rw [List.foldl_cons, e, List.foldl_cons]
    exact walk_scale h hf o (stepW ss a k)
theorem end_scale {ss : List Sd} (h : ∀ d ∈ ss, Mode d.m ∧ 1 ≤ d.s) {f : Int} (hf : 1 ≤ f) (o : List Nat) (v : Int) : endM (ss.map (lift f)) o (v * f) = endM ss o v * f := by
  have := walk_scale h hf o ([], v)
  exact congrArg (·.2) this
def scl (f : Int) (e : Int × List Nat) : Int × List Nat := (e.1 * f, e.2)
theorem ends_scale {ss : List Sd} (h : ∀ d ∈ ss, Mode d.m ∧ 1 ≤ d.s) {f : Int} (hf : 1 ≤ f) (v : Int) : ∀ (os : List (List Nat)) (acc : List (Int × List Nat)), os.foldl (stepE (ss.map (lift f)) (v * f)) (acc.map (scl f)) = (os.foldl (stepE ss v) acc).map (scl f)
  | [], acc => rfl
  | o :: os, acc => by
    have e : stepE (ss.map (lift f)) (v * f) (acc.map (scl f)) o = (stepE ss v acc o).map (scl f) := by
      unfold stepE
      rw [end_scale h hf]
      have a : ((acc.map (scl f)).any fun z => decide (z.1 = endM ss o v * f)) = acc.any fun z => decide (z.1 = endM ss o v) := by
        rw [List.any_map]
        congr 1
        funext z
        show decide (z.1 * f = endM ss o v * f) = decide (z.1 = endM ss o v)
        exact decide_eq_decide.mpr (Int.mul_eq_mul_right_iff (by omega))
      rw [a]
      by_cases c : (acc.any fun z => decide (z.1 = endM ss o v)) = true
      · rw [if_pos c, if_pos c]
      · rw [if_neg c, if_neg c, List.map_append]
        rfl
    rw [List.foldl_cons, e, List.foldl_cons]
    exact ends_scale h hf v os _
theorem sorted_scale {ss : List Sd} (h : ∀ d ∈ ss, Mode d.m ∧ 1 ≤ d.s) {f : Int} (hf : 1 ≤ f) {v : Int} {os : List (List Nat)} {rs ts : List (Int × List Nat)} (a : SortedOf rs (endsM ss os v)) (b : SortedOf ts (endsM (ss.map (lift f)) os (v * f))) : ts = rs.map (scl f) := by
  have e : endsM (ss.map (lift f)) os (v * f) = (endsM ss os v).map (scl f) := ends_scale h hf v os []
  rw [e] at b
  refine sorted_uniq (b.1.trans (a.1.map (scl f)).symm) b.2 ?_
  rw [List.pairwise_map]
  exact a.2.imp fun {x y} z => by
    show x.1 * f < y.1 * f
    exact (Int.mul_lt_mul_right (by omega)).mpr z
theorem ends_true {ss : List Sd} {v : Int} {os0 : List (List Nat)} : ∀ (os : List (List Nat)) (acc : List (Int × List Nat)), (∀ e ∈ acc, e.1 = endM ss e.2 v ∧ e.2 ∈ os0) → (∀ o ∈ os, o ∈ os0) → ∀ e ∈ os.foldl (stepE ss v) acc, e.1 = endM ss e.2 v ∧ e.2 ∈ os0
  | [], acc, h, _ => h
  | o :: os, acc, h, ho => by
    refine ends_true os _ (fun e he => ?_) fun o' h' => ho o' (List.mem_cons_of_mem _ h')
    unfold stepE at he
    split at he
    · exact h e he
    · rcases List.mem_append.mp he with z | z
      · exact h e z
      · rw [List.mem_singleton.mp z]; exact ⟨rfl, ho o List.mem_cons_self⟩
end HT
namespace HT
open PySem L2
def nD (k : Nat) : PyData := .int (k : Int)
def sdD (d : Sd) : PyData := .tuple [.int d.o, .int d.s, .str d.m]
def rowD (e : Int × List Nat) : PyData := .tuple [.int e.1, .list (e.2.map nD)]
theorem modes_ok {m : Str} (h : Mode m) : PyData.strOk m = true := by
  rcases h with e | e | e | e | e <;> subst e <;> decide +kernel
theorem can_sides : ∀ {ss : List Sd}, (∀ d ∈ ss, Mode d.m) → PyData.canLayAll0 (ss.map sdD) = true ∧ PyData.depthAll (ss.map sdD) ≤ 2
  | [], _ => ⟨rfl, Nat.zero_le _⟩
  | u :: us, h => by
    obtain ⟨a, b⟩ := can_sides fun d hd => h d (List.mem_cons_of_mem _ hd)
    have c := modes_ok (h u List.mem_cons_self)
    refine ⟨?_, ?_⟩
    · simp [PyData.canLayAll0, sdD, PyData.canLay0, c, a]
    · show max (PyData.depth (sdD u)) (PyData.depthAll (us.map sdD)) ≤ 2
      refine Nat.max_le.mpr ⟨?_, b⟩
      show PyData.depth (.tuple [.int _, .int _, .str _]) ≤ 2
      simp [PyData.depth, PyData.depthAll]
theorem shaped_sides {ss : List Sd} (h : ∀ d ∈ ss, Mode d.m) : SeqAt.shaped (.list (ss.map sdD)) = true := by
  obtain ⟨a, b⟩ := can_sides h
  unfold SeqAt.shaped
  rw [Bool.and_eq_true]
  refine ⟨a, decide_eq_true ?_⟩
  show PyData.depthAll (ss.map sdD) + 1 ≤ 64
  omega
theorem can_nums : ∀ ks : List Nat, PyData.canLayAll0 (ks.map nD) = true ∧ PyData.depthAll (ks.map nD) = 0
  | [] => ⟨rfl, rfl⟩
  | k :: r => by
    have ⟨a, b⟩ := can_nums r
    constructor
    · show (true && _) = true
      rw [a]; rfl
    · show max 0 _ = 0
      rw [b]; rfl
theorem can_rows : ∀ es : List (Int × List Nat), PyData.canLayAll0 (es.map rowD) = true ∧ PyData.depthAll (es.map rowD) ≤ 2
  | [] => ⟨rfl, Nat.zero_le _⟩
  | e :: es => by
    obtain ⟨a, b⟩ := can_rows es
    obtain ⟨c, d⟩ := can_nums e.2
    refine ⟨?_, ?_⟩
    · show ((true && (PyData.canLayAll0 (e.2.map nD) && true)) && PyData.canLayAll0 (es.map rowD)) = true
      rw [a, c]; rfl
    · show max (max 0 (max (PyData.depthAll (e.2.map nD) + 1) 0) + 1) (PyData.depthAll (es.map rowD)) ≤ 2
      omega
theorem shaped_rows (es : List (Int × List Nat)) : SeqAt.shaped (.list (es.map rowD)) = true := by
  obtain ⟨a, b⟩ := can_rows es
  unfold SeqAt.shaped
  rw [Bool.and_eq_true]
  refine ⟨a, decide_eq_true ?_⟩
  show PyData.depthAll (es.map rowD) + 1 ≤ 64
  omega
theorem sidesDp {K : PySem.W.Frag} {H : Hp} : ∀ {xs : List V} {ss : List Sd}, xs.length = ss.length → (∀ (i : Nat) (d : Sd), ss[i]? = some d → ∃ p : Addr, xs[i]? = some (V.ref p) ∧ H p = some (sideV d.o d.s d.m) ∧ SideP d.o d.s d.m) → DpAll K H xs (ss.map sdD)
  | [], [], _, _ => .nil
  | [], _ :: _, l, _ => nomatch l
  | _ :: _, [], l, _ => nomatch l
  | x :: xs, d :: ss, l, S => by
    obtain ⟨p, e, hp, _⟩ := S 0 d rfl
    cases e
    exact .cons (.tup (SqT.of hp) (.cons (.int _) (.cons (.int _) (.cons (.str _) .nil)))) (sidesDp (Nat.succ.inj l) fun i e h => S (i + 1) e h)
theorem SidesAt.dp {K : PySem.W.Frag} {H : Hp} {l : Addr} {xs : List V} {ss : List Sd} (S : SidesAt H l xs ss) : Dp K H (.ref l) (.list (ss.map sdD)) := .lst (SqL.of S.hl) (sidesDp S.len S.at_)
/-- rows of an end and its order: at ps, the orders at qs -/
structure RowsAt (H : Hp) (R : Addr) (ps qs : List Addr) (rs : List (Int × List Nat)) : Prop where
  hR : H R = some (.lst (ps.map V.ref))
  lp : ps.length = rs.length
  lq : qs.length = rs.length
  at_ : ∀ (i : Nat) (p q : Addr) (e : Int × List Nat), ps[i]? = some p → qs[i]? = some q → rs[i]? = some e → H p = some (.tup [.int e.1, .ref q]) ∧ H q = some (.lst (e.2.map nV))
theorem RowsAt.same {H H' : Hp} {R : Addr} {ps qs : List Addr} {rs : List (Int × List Nat)} (A : RowsAt H R ps qs rs) (s : Same H H') : RowsAt H' R ps qs rs :=
  ⟨s _ _ A.hR, A.lp, A.lq, fun i p q e a b c => ⟨s _ _ (A.at_ i p q e a b c).1, s _ _ (A.at_ i p q e a b c).2⟩⟩
theorem rowsDp {K : PySem.W.Frag} {H : Hp} : ∀ {ps qs : List Addr} {rs : List (Int × List Nat)}, ps.length = rs.length → qs.length = rs.length → (∀ (i : Nat) (p q : Addr) (e : Int × List Nat), ps[i]? = some p → qs[i]? = some q → rs[i]? = some e → H p = some (.tup [.int e.1, .ref q]) ∧ H q = some (.lst (e.2.map nV))) → DpAll K H (ps.map V.ref) (rs.map rowD)
  | [], _, [], _, _, _ => .nil
  | [], _, _ :: _, l, _, _ => nomatch l
  | _ :: _, _, [], l, _, _ => nomatch l
  | _ :: _, [], _ :: _, _, l, _ => nomatch l
  | p :: ps, q :: qs, e :: rs, l, m, S => by
    obtain ⟨hp, hq⟩ := S 0 p q e rfl rfl rfl
    exact .cons (.tup (SqT.of hp) (.cons (.int _) (.cons (.lst (SqL.of hq) (dpNats _)) .nil))) (rowsDp (Nat.succ.inj l) (Nat.succ.inj m) fun i p q e a b c => S (i + 1) p q e a b c)
theorem RowsAt.dp {K : PySem.W.Frag} {H : Hp} {R : Addr} {ps qs : List Addr} {rs : List (Int × List Nat)} (A : RowsAt H R ps qs rs) : Dp K H (.ref R) (.list (rs.map rowD)) := .lst (SqL.of A.hR) (rowsDp A.lp A.lq A.at_)
theorem pick_qs {H0 H : Hp} : ∀ {ts : List Addr} {rs : List (Int × List Nat)}, ts.length = rs.length → (∀ (i : Nat) (p : Addr) (e : Int × List Nat), ts[i]? = some p → rs[i]? = some e → ∃ q : Addr, H p = some (.tup [.int e.1, .ref q]) ∧ H q = some (.lst (e.2.map nV)) ∧ H0 q = none) →
    ∃ qs : List Addr, qs.length = rs.length ∧ (∀ q ∈ qs, H0 q = none) ∧ ∀ (i : Nat) (p q : Addr) (e : Int × List Nat), ts[i]? = some p → qs[i]? = some q → rs[i]? = some e → H p = some (.tup [.int e.1, .ref q]) ∧ H q = some (.lst (e.2.map nV))
  | [], [], _, _ => ⟨[], rfl, fun q h => absurd h List.not_mem_nil, fun i p q e h => nomatch h⟩
  | [], _ :: _, l, _ => nomatch l
  | _ :: _, [], l, _ => nomatch l
  | t :: ts, e :: rs, l, S => by
    obtain ⟨qs, l2, fr, at_⟩ := pick_qs (Nat.succ.inj l) fun i p e a b => S (i + 1) p e a b
    obtain ⟨q, h1, h2, h3⟩ := S 0 t e rfl rfl
    refine ⟨q :: qs, congrArg Nat.succ l2, fun z hz => ?_, fun i p q' e' a b c => ?_⟩
    · rcases List.mem_cons.mp hz with y | y
      · rw [y]; exact h3
      · exact fr z y
    · match i, a, b, c with
      | 0, a, b, c => cases a; cases b; cases c; exact ⟨h1, h2⟩
      | i + 1, a, b, c => exact at_ i p q' e' a b c
theorem OnceAt.rows {H0 H : Hp} {R : Addr} {rs : List (Int × List Nat)} (A : OnceAt H0 H R rs) : ∃ ps qs : List Addr, RowsAt H R ps qs rs ∧ ∀ q ∈ qs, H0 q = none := by
  obtain ⟨ts, hR, lt, at_⟩ := A
  obtain ⟨qs, lq, fr, h⟩ := pick_qs lt at_
  exact ⟨ts, qs, ⟨hR, lt, lq, h⟩, fr⟩
theorem walk_last {ss : List Sd} : ∀ (ks : List Nat) (a : List Int × Int), (∀ k ∈ ks, k < ss.length) → (ks = [] → a.1.getLast? = some a.2) → (ks.foldl (stepW ss) a).1.getLast? = some (ks.foldl (stepW ss) a).2
  | [], a, _, h => h rfl
  | k :: ks, a, hk, _ => by
    rw [List.foldl_cons]
    refine walk_last ks _ (fun j hj => hk j (List.mem_cons_of_mem _ hj)) fun _ => ?_
    unfold stepW
    rw [List.getElem?_eq_getElem (hk k List.mem_cons_self)]
    show (a.1 ++ [_]).getLast? = _
    rw [List.getLast?_append]
    rfl
theorem last_at {xs : List V} {v : V} (h : xs.getLast? = some v) : atI xs (-1) = some v := by
  have ne : xs ≠ [] := by intro z; rw [z] at h; cases h
  have l0 : 0 < xs.length := List.length_pos_iff.mpr ne
  rw [List.getLast?_eq_getElem?] at h
  have e : ixN xs.length (-1) = some (xs.length - 1) := by
    unfold ixN
    simp
    omega
  unfold atI
  rw [e]
  exact h
theorem nV_inj : ∀ {a b : List Nat}, a.map nV = b.map nV → a = b
  | [], [], _ => rfl
  | [], _ :: _, h => nomatch h
  | _ :: _, [], h => nomatch h
  | x :: a, y :: b, h => by
    have h1 : nV x = nV y := (List.cons.inj h).1
    have h2 := nV_inj (List.cons.inj h).2
    have h3 : (x : Int) = (y : Int) := V.int.inj h1
    rw [h2, Int.ofNat.inj h3]
/-- the orders of different rows lie at different places -/
theorem RowsAt.ne {H : Hp} {R : Addr} {ps qs : List Addr} {rs : List (Int × List Nat)} {ss : List Sd} {v : Int} (A : RowsAt H R ps qs rs) (tr : ∀ e ∈ rs, e.1 = endM ss e.2 v) (pw : rs.Pairwise fun a b => a.1 < b.1) {i j : Nat} {q : Addr} (hi : qs[i]? = some q) (hj : qs[j]? = some q) (ij : j < i) : False := by
  have il : i < rs.length := by rw [← A.lq]; exact (List.getElem?_eq_some_iff.mp hi).1
  have jl : j < rs.length := by omega
  have ei : rs[i]? = some rs[i] := List.getElem?_eq_getElem il
  have ej : rs[j]? = some rs[j] := List.getElem?_eq_getElem jl
  have pi : ps[i]? = some (ps[i]'(by rw [A.lp]; exact il)) := List.getElem?_eq_getElem _
  have pj : ps[j]? = some (ps[j]'(by rw [A.lp]; exact jl)) := List.getElem?_eq_getElem _
  have a := (A.at_ i _ q _ pi hi ei).2
  have b := (A.at_ j _ q _ pj hj ej).2
  rw [a] at b
  have e2 : rs[i].2 = rs[j].2 := nV_inj (by injection b with b; injection b)
  have e1 := tr _ (List.mem_of_getElem? ei)
  have e3 := tr _ (List.mem_of_getElem? ej)
  rw [e2, ← e3] at e1
  have lt := List.pairwise_iff_getElem.mp pw j i jl il ij
  omega
end HT
namespace HT
open PySem L2
def spFits : Sp := fun vs H Q _ => ∃ (a c l : Addr) (t : Nat) (xs : List V) (ss : List Sd) (f : Int), vs = [.ref a, .ref l, .int f] ∧ Src H a c t ∧ SidesAt H l xs ss ∧ (∀ d ∈ ss, -30 ≤ d.o ∧ d.o ≤ 29 ∧ d.s ≤ 12) ∧ l ≠ a ∧ l ≠ c ∧ 1 ≤ f ∧ f ≤ 1 + 10 ^ 27 ∧ t + 50 < 2 ^ 30 ∧
  ∀ (H' : Hp) (t' : Nat), t' ≤ t + 5 → Src H' a c t' → Oth a c H H' → Q (.bl true) H'
theorem lift_bd {d : Sd} {f : Int} (sp : SideP d.o d.s d.m) (b : -30 ≤ d.o ∧ d.o ≤ 29 ∧ d.s ≤ 12) (h1 : 1 ≤ f) (h2 : f ≤ 1 + 10 ^ 27) : SideP (d.o * f) (d.s * f) d.m := by
  obtain ⟨o0, o1, s0, s1, md⟩ := sp
  obtain ⟨b1, b2, b3⟩ := b
  have x1 : (-30) * f ≤ d.o * f := Int.mul_le_mul_of_nonneg_right b1 (by omega)
  have x2 : d.o * f ≤ 29 * f := Int.mul_le_mul_of_nonneg_right b2 (by omega)
  have x3 : d.s * f ≤ 12 * f := Int.mul_le_mul_of_nonneg_right b3 (by omega)
  have x4 : 1 * f ≤ d.s * f := Int.mul_le_mul_of_nonneg_right s0 (by omega)
  refine ⟨?_, ?_, ?_, ?_, md⟩ <;> omega
theorem mulF {i f : Int} (hi : -1000 ≤ i ∧ i ≤ 1000) (h1 : 1 ≤ f) (h2 : f ≤ 1 + 10 ^ 27) : CMulW i f := by
  refine mulW ?_ ?_
  · have : (1000 : Int) < 2 ^ 1010 := by decide +kernel
    omega
  · have : (1 + 10 ^ 27 : Int) < 2 ^ 1010 := by decide +kernel
    omega
theorem val_bd {v f : Int} (hv : -150 ≤ v ∧ v ≤ 150) (h1 : 1 ≤ f) (h2 : f ≤ 1 + 10 ^ 27) : -2 ^ 200 < v * f ∧ v * f < 2 ^ 200 := by
  have x1 : (-150) * f ≤ v * f := Int.mul_le_mul_of_nonneg_right hv.1 (by omega)
  have x2 : v * f ≤ 150 * f := Int.mul_le_mul_of_nonneg_right hv.2 (by omega)
  omega
theorem end_near {ss : List Sd} (h : ∀ d ∈ ss, SideP d.o d.s d.m) : True := trivial
theorem cmulE {x f : Int} (h : -2 ^ 300 < x ∧ x < 2 ^ 300) (h1 : 1 ≤ f) (h2 : f ≤ 1 + 10 ^ 27) : CMulW x f := by
  refine mulW ?_ ?_
  · have : (2 ^ 300 : Int) < 2 ^ 1010 := by decide +kernel
    omega
  · have : (1 + 10 ^ 27 : Int) < 2 ^ 1010 := by decide +kernel
    omega
theorem RowsAt.nr {H : Hp} {R : Addr} {ps qs : List Addr} {rs : List (Int × List Nat)} (A : RowsAt H R ps qs rs) {q : Addr} (h : q ∈ qs) : q ≠ R := by
  intro e
  obtain ⟨i, hi, rfl⟩ := List.mem_iff_getElem.mp h
  have ir : i < rs.length := by rw [← A.lq]; exact hi
  have ip : i < ps.length := by rw [A.lp]; exact ir
  have g := (A.at_ i _ _ _ (List.getElem?_eq_getElem ip) (List.getElem?_eq_getElem hi) (List.getElem?_eq_getElem ir)).2
  rw [e, A.hR] at g
  have g2 : ps.map V.ref = rs[i].2.map nV := by injection g with g; injection g
  cases ps with
  | nil => simp at ip
  | cons p ps =>
    cases h2 : rs[i].2 with
    | nil => rw [h2] at g2; cases g2
    | cons x xs => rw [h2] at g2; cases g2
theorem RowsAt.np {H : Hp} {R : Addr} {ps qs : List Addr} {rs : List (Int × List Nat)} (A : RowsAt H R ps qs rs) {p : Addr} {j : Nat} (hp : ps[j]? = some p) (h : p ∈ qs) : False := by
  obtain ⟨i, hi, rfl⟩ := List.mem_iff_getElem.mp h
  have ir : i < rs.length := by rw [← A.lq]; exact hi
  have ip : i < ps.length := by rw [A.lp]; exact ir
  have g := (A.at_ i _ _ _ (List.getElem?_eq_getElem ip) (List.getElem?_eq_getElem hi) (List.getElem?_eq_getElem ir)).2
  have jp : j < ps.length := (List.getElem?_eq_some_iff.mp hp).1
  have jq : j < qs.length := by rw [A.lq, ← A.lp]; exact jp
  have jr : j < rs.length := by rw [← A.lp]; exact jp
  have g3 := (A.at_ j _ _ _ hp (List.getElem?_eq_getElem jq) (List.getElem?_eq_getElem jr)).1
  rw [g] at g3
  cases g3
section
variable {P : Program} {w : World} {K : PySem.W.Frag} {mg : Str → Option Value} {base : Heap} {fD fU fO fA : Addr} {dD dU dO dA : FuncData}
theorem ok_fits {f : Addr} {fd : FuncData} (F : Fun K "_law_fits" "_law_fits" s_L_fits f fd) (A' : AmG mg) (hrg : mg "range" = none) (D : Cal P w K mg base "_law_draw" 1 ["_law_source_here", "_law_limit"] spDraw fD dD)
    (Du : Cal P w K mg base "_law_due" 6 ["_law_sides", "_law_value"] spOnce fU dU) (On : Cal P w K mg base "once" 6 ["sides", "value"] spOnce fO dO) (Al : Cal P w K mg base "along" 6 ["sides", "numbers", "value"] spAlong fA dA) : FnOk P w K mg base CX0 7 f fd ["_law_source_here", "_law_sides", "_law_factor"] spFits := by
  refine F.ok sc_L_fits (fun vs H Q E h => ?_) (fun cdv A outer s0 H vs Q E hr h => ?_)
  · obtain ⟨a, c, l, t, xs, ss, f, rfl, _⟩ := h
    rfl
  · obtain ⟨a, c, l, t, xs, ss, f, rfl, S, SS, small, la, lc, f1, f2, ht, q⟩ := h
    have nd := sc_L_fits.nd
    refine ⟨_, pss_cons (ps_setLc (i := 4) (own := [("_law_one", 3)]) (g := gName 3) (tt := tYes) rfl nd rfl (by rfl) (by rfl) (pi_list (pv 1)) (blkOk_by (N := ["_law_source_here", "_law_sides", "_law_factor", "_law_one", "_law_lifted", "_law_k", "_law_value", "_law_due_here", "_law_kept", "_law_found", "_law_end", "_law_order"]) (sc := defScope s_L_fits) (by decide +kernel))
          (fun _ _ _ _ _ => pg_name (i := 3) nd rfl (Or.inl rfl)) (fun _ _ _ _ _ => pts_nil)
          (fun _ _ _ _ _ => pe_tup (pa_cons (pe_op op_mulW (pe_ix (r := rIxT K) (by exact ix_tup) (pv 3) pe_int (fun _ _ => rfl)) (pv 2)) (pa_cons (pe_op op_mulW (pe_ix (r := rIxT K) (by exact ix_tup) (pv 3) pe_int (fun _ _ => rfl)) (pv 2)) (pa_cons (pe_ix (r := rIxT K) (by exact ix_tup) (pv 3) pe_int (fun _ _ => rfl)) pa_nil)))))
      (pss_cons (ps_for PassesOwn.never rfl (pi_range1 (by rfl) hrg (pa_cons pe_int pa_nil)) (pg_name (i := 5) nd rfl (Or.inl rfl))
        (pss_cons (ps_set (i := 6) nd rfl (Or.inl rfl) (pe_op op_sub (pcl D hr (by decide) (by rfl) (pa_cons (pv 0) (pa_cons pe_int pa_nil))) pe_int))
        (pss_cons (ps_set (i := 7) nd rfl (Or.inl rfl) (pcl Du hr (by decide) (by rfl) (pa_cons (pv 1) (pa_cons (pv 6) pa_nil))))
        (pss_cons (ps_set (i := 8) nd rfl (Or.inl rfl) (pe_callTy call_list_of (by rfl) A'.list (by decide +kernel) (pa_cons (pv 4) pa_nil)))
        (pss_cons (ps_set (i := 9) nd rfl (Or.inl rfl) (pcl On hr (by decide) (by rfl) (pa_cons (pv 4) (pa_cons (pe_op op_mulW (pv 6) (pv 2)) pa_nil))))
        (pss_cons (ps_if (pt_cmpR (op_neD hr.units) (pv 4) (pv 8) (nomark _)) (pss_one (ps_ret pe_bl)) pss_nil)
        (pss_cons (ps_if (pt_cmpR (op_neD hr.units) (pv 9) (pe_lc (own := [("_law_end", 10), ("_law_order", 11)]) (g := gTup K 2 (gCons (gName 10) (gCons (gName 11) gNil))) (tt := tYes) rfl nd (pi_list (pv 7)) (blkOk_by (N := ["_law_source_here", "_law_sides", "_law_factor", "_law_one", "_law_lifted", "_law_k", "_law_value", "_law_due_here", "_law_kept", "_law_found", "_law_end", "_law_order"]) (sc := defScope s_L_fits) (by decide +kernel))
            (fun _ _ _ _ _ => pg_tup (by rfl) (pgs_cons (pg_name (i := 10) nd rfl (Or.inl rfl)) (pgs_cons (pg_name (i := 11) nd rfl (Or.inl rfl)) pgs_nil))) (fun _ _ _ _ _ => pts_nil)
            (fun _ _ _ _ _ => pe_tup (pa_cons (pe_op op_mulW (pv 10) (pv 2)) (pa_cons (pv 11) pa_nil)))) (nomark _)) (pss_one (ps_ret pe_bl)) pss_nil)
        (pss_cons (ps_for PassesOwn.never rfl (pi_list (pv 9)) (pg_tup (by rfl) (pgs_cons (pg_name (i := 10) nd rfl (Or.inl rfl)) (pgs_cons (pg_name (i := 11) nd rfl (Or.inl rfl)) pgs_nil)))
          (pss_cons (ps_if (pt_cmpR op_ne (pe_ix ix_list (pcl Al hr (by decide) (by rfl) (pa_cons (pv 4) (pa_cons (pv 11) (pa_cons (pe_op op_mulW (pv 6) (pv 2)) pa_nil)))) (pe_un un_neg pe_int) (fun _ _ => rfl)) (pv 10) (nomark _)) (pss_one (ps_ret pe_bl)) pss_nil)
          (pss_one (ps_expr (pe_bm PySem.F.plainAttrs_list PySem.F.slot_list_append PySem.F.type_list_append mt_append (pv 11) (pa_cons pe_non pa_nil))))))
        (pss_one (ps_if (pt_cmpR (op_neD hr.units) (pcl On hr (by decide) (by rfl) (pa_cons (pv 4) (pa_cons (pe_op op_mulW (pv 6) (pv 2)) pa_nil))) (pe_lc (own := [("_law_end", 10), ("_law_order", 11)]) (g := gTup K 2 (gCons (gName 10) (gCons (gName 11) gNil))) (tt := tYes) rfl nd (pi_list (pv 7)) (blkOk_by (N := ["_law_source_here", "_law_sides", "_law_factor", "_law_one", "_law_lifted", "_law_k", "_law_value", "_law_due_here", "_law_kept", "_law_found", "_law_end", "_law_order"]) (sc := defScope s_L_fits) (by decide +kernel))
            (fun _ _ _ _ _ => pg_tup (by rfl) (pgs_cons (pg_name (i := 10) nd rfl (Or.inl rfl)) (pgs_cons (pg_name (i := 11) nd rfl (Or.inl rfl)) pgs_nil))) (fun _ _ _ _ _ => pts_nil)
            (fun _ _ _ _ _ => pe_tup (pa_cons (pe_op op_mulW (pv 10) (pv 2)) (pa_cons (pv 11) pa_nil)))) (nomark _)) (pss_one (ps_ret pe_bl)) pss_nil))))))))))
      (pss_one (ps_ret pe_bl))), ?_⟩
    walk_at "rd"
    refine ⟨⟨_, SqL.of SS.hl⟩, fun L nL => ?_⟩
    obtain ⟨La, Lc⟩ := S.na nL
    refine lc_list (K := K) (a := l) (xs := xs) (fun i H3 => ∃ ps : List Addr, ps.length = i ∧ H3 L = some (.lst (ps.map V.ref)) ∧ Same H H3 ∧ (∀ (j : Nat) (d : Sd) (p : Addr), ss[j]? = some d → ps[j]? = some p → H3 p = some (sideV (d.o * f) (d.s * f) d.m)))
      ⟨[], rfl, upd_same, fun b u z => (upd_ne (ne_of_none z nL)).trans z, fun j u p _ z => by cases z⟩ (fun _ _ _ ⟨_, _, _, sm, _⟩ => SqL.of (sm _ _ SS.hl)) ?_ ?_
    · rintro i y H3 hy ⟨ps, hn, hD, sm, hps⟩
      obtain ⟨d, p, ed, rfl, hp, sp⟩ := SS.item hy
      have il : i < ss.length := (List.getElem?_eq_some_iff.mp ed).1
      obtain ⟨b1, b2, b3⟩ := small d (List.mem_of_getElem? ed)
      have s0 := sp.s0
      have hp3 := sm _ _ hp
      refine ⟨rfl, ?_⟩
      walk_at "rd"
      refine ⟨p, _, _, _, rfl, rfl, SqT.of hp3, rfl, ?_⟩
      walk_at "rd"
      refine ⟨mulF (by omega) f1 f2, ?_⟩
      walk_at "rd"
      refine ⟨p, _, _, _, rfl, rfl, SqT.of hp3, rfl, ?_⟩
      walk_at "rd"
      refine ⟨mulF (by omega) f1 f2, ?_⟩
      walk_at "rd"
      refine ⟨p, _, _, _, rfl, rfl, SqT.of hp3, rfl, ?_⟩
      walk_at "rd"
      refine ⟨(by show 3 ≤ sizeLine; decide), fun z nz => ?_⟩
      have ncD : L ≠ z := ne_of_none hD nz
      refine ⟨_, (upd_ne ncD).trans hD, ?_, ps ++ [z], ?_, ?_, ?_, ?_⟩
      · rw [List.length_map, hn]; exact Nat.lt_of_lt_of_le (by have := SS.l4; omega : i < 8) (by decide)
      · rw [List.length_append, hn]; rfl
      · rw [List.map_append]; exact upd_same
      · intro b u y
        have y3 := sm _ _ y
        exact (upd_ne (ne_of_none y nL)).trans ((upd_ne (ne_of_none y3 nz)).trans y3)
      · intro j e p2 he hp2
        rcases Nat.lt_or_ge j ps.length with y | y
        · rw [List.getElem?_append_left y] at hp2
          have g := hps j e p2 he hp2
          exact (upd_ne (ne_of g hD (by intro y; cases y))).trans ((upd_ne (ne_of_none g nz)).trans g)
        · rw [List.getElem?_append_right y] at hp2
          have e0 : j - ps.length = 0 := by
            have := (List.getElem?_eq_some_iff.mp hp2).1
            simp at this
            omega
          rw [e0] at hp2
          cases hp2
          rw [show j = i by omega, ed] at he
          cases he
          exact (upd_ne (Ne.symm ncD)).trans upd_same
    · rintro H3 ⟨ps, hn, hD, sm, hps⟩
      have SL : SidesAt H3 L (ps.map V.ref) (ss.map (lift f)) := by
        refine ⟨hD, by rw [List.length_map, List.length_map, hn, SS.len], by rw [List.length_map]; exact SS.l1, by rw [List.length_map]; exact SS.l4, fun i d h => ?_⟩
        rw [List.getElem?_map] at h
        cases e : ss[i]? with
        | none => rw [e] at h; cases h
        | some d0 =>
          rw [e] at h
          cases h
          have il : i < ps.length := by rw [hn, SS.len]; exact (List.getElem?_eq_some_iff.mp e).1
          refine ⟨ps[i], by rw [List.getElem?_map, List.getElem?_eq_getElem il]; rfl, hps i d0 ps[i] e (List.getElem?_eq_getElem il), ?_⟩
          exact lift_bd (SS.side d0 (List.mem_of_getElem? e)) (small d0 (List.mem_of_getElem? e)) f1 f2
      have S3 : Src H3 a c t := S.of_same sm
      have O3 : Oth a c H H3 := fun b u z _ _ => sm _ _ z
      have gm : ∀ d ∈ ss, Mode d.m ∧ 1 ≤ d.s := fun d hd => ⟨(SS.side d hd).md, (SS.side d hd).s0⟩
      have lm : ∀ d ∈ ss.map (lift f), Mode d.m := fun d hd => by
        obtain ⟨e, he, rfl⟩ := List.mem_map.mp hd
        exact (gm e he).1
      have shL := shaped_sides lm
      generalize eys : ps.map V.ref = ys at SL
      clear hD hps hn sm eys
      walk_at "rd"
      refine ⟨by decide, by decide, ?_⟩
      refine for_range (n := 5) (fun i st H' => ∃ (t' : Nat) (x5 x6 x7 x8 x9 x10 x11 : Option V), st = [some (.ref a), some (.ref l), some (.int f), none, some (.ref L), x5, x6, x7, x8, x9, x10, x11] ∧ t' ≤ t + i ∧ Src H' a c t' ∧ Oth a c H H' ∧ SidesAt H' L ys (ss.map (lift f))) ⟨t, none, none, none, none, none, none, none, rfl, Nat.le_refl _, S3, O3, SL⟩ ?_ ?_
      · rintro i st H' hi ⟨t', x5, x6, x7, x8, x9, x10, x11, rfl, ht', S4, O4, SL4⟩
        walk_at "rd"
        refine ⟨a, c, t', 300, rfl, S4, by omega, by decide, by decide, fun k H1 k0 k1 S5 O5 => ?_⟩
        walk_at "rd"
        have SS1 := (SS.oth S la lc O4).oth S4 la lc O5
        have SL1 := SL4.oth S4 La Lc O5
        have vb : -150 ≤ (k - 150) ∧ (k - 150) ≤ 150 := by omega
        refine ⟨l, xs, ss, (k - 150), rfl, SS1, by omega, fun R1 H2 rs nR1 s12 so1 OA1 => ?_⟩
        obtain ⟨ps1, qs1, RA1, fr1⟩ := OA1.rows
        have SL2 := SL1.same s12
        walk_at "rd"
        refine ⟨L, ys, rfl, .inl (SqL.of SL2.hl), fun kp nkp => ?_⟩
        have fkp : upd H2 kp (.lst ys) kp = some (.lst ys) := upd_same
        have s23 : Same H2 (upd H2 kp (.lst ys)) := fun b u z => (upd_ne (ne_of_none z nkp)).trans z
        generalize upd H2 kp (.lst ys) = H3' at fkp s23 ⊢
        have SL3 := SL2.same s23
        have SK3 : SidesAt H3' kp ys (ss.map (lift f)) := ⟨fkp, SL3.len, SL3.l1, SL3.l4, SL3.at_⟩
        walk_at "rd"
        refine ⟨mulF (by omega) f1 f2, ?_⟩
        refine ⟨L, ys, ss.map (lift f), (k - 150) * f, rfl, SL3, val_bd vb f1 f2, fun R2 H4 ts nR2 s34 so2 OA2 => ?_⟩
        have lm4 : (ss.map (lift f)).length = ss.length := List.length_map _
        rw [lm4] at so2
        have ets := sorted_scale gm f1 so1 so2
        obtain ⟨ps2, qs2, RA2, fr2⟩ := OA2.rows
        walk_at "rd"
        refine ⟨.list ((ss.map (lift f)).map sdD), .list ((ss.map (lift f)).map sdD), (SL3.same s34).dp, (SK3.same s34).dp, shL, shL, ?_⟩
        walk_at "rd"
        refine ite2 (fun z => (not_t z (SeqAt.eqv_refl _ (SeqAt.canLay_of_shaped shL))).elim) (fun _ => ?_)
        walk_at "rd"
        have rin : ∀ e ∈ rs, e.1 = endM ss e.2 (k - 150) ∧ e.2 ∈ ordI ss.length ss.length := fun e he => ends_true (ss := ss) (v := k - 150) (ordI ss.length ss.length) [] (fun e h => absurd h List.not_mem_nil) (fun o h => h) e (so1.1.mem_iff.mp he)
        have rbd : ∀ e ∈ rs, -2 ^ 300 < e.1 ∧ e.1 < 2 ^ 300 := fun e he => by
          obtain ⟨r1, r2⟩ := rin e he
          obtain ⟨r3, r4⟩ := ord_in _ _ _ r2
          have r5 := walk_bd SS.side (v := k - 150) (b := 200) (by omega) e.2 r4
          have := SS.l4
          rw [← r1, r3] at r5
          omega
        have r24 : rs.length ≤ 24 := by
          rw [so1.1.length_eq]
          have := ends_len (ss := ss) (v := k - 150) (ordI ss.length ss.length) []
          have o24 := ord24 SS.l1 SS.l4
          unfold endsM
          have e0 : ([] : List (Int × List Nat)).length = 0 := rfl
          omega
        have RA4 := (RA1.same s23).same s34
        refine ⟨⟨_, SqL.of RA4.hR⟩, fun C nC => ?_⟩
        refine lc_list (K := K) (a := R1) (xs := ps1.map V.ref) (fun i H5 => ∃ us : List Addr, us.length = i ∧ H5 C = some (.lst (us.map V.ref)) ∧ Same H4 H5 ∧ ∀ (j : Nat) (p q : Addr) (e : Int × List Nat), us[j]? = some p → qs1[j]? = some q → rs[j]? = some e → H5 p = some (.tup [.int (e.1 * f), .ref q]))
          ⟨[], rfl, upd_same, fun b u z => (upd_ne (ne_of_none z nC)).trans z, fun j p q e z => by cases z⟩ (fun _ _ _ ⟨_, _, _, sm, _⟩ => SqL.of (sm _ _ RA4.hR)) ?_ ?_
        · rintro i y H5 hy ⟨us, hn, hC, sm, hus⟩
          obtain ⟨p1, hp1, rfl⟩ : ∃ p1, ps1[i]? = some p1 ∧ y = .ref p1 := by
            rw [List.getElem?_map] at hy
            cases e : ps1[i]? with
            | none => rw [e] at hy; cases hy
            | some p => rw [e] at hy; exact ⟨p, rfl, (Option.some.inj hy).symm⟩
          have il : i < rs.length := by rw [← RA1.lp]; exact (List.getElem?_eq_some_iff.mp hp1).1
          have er : rs[i]? = some rs[i] := List.getElem?_eq_getElem il
          have eq1 : qs1[i]? = some (qs1[i]'(by rw [RA1.lq]; exact il)) := List.getElem?_eq_getElem _
          obtain ⟨g1, g2⟩ := RA4.at_ i p1 _ _ hp1 eq1 er
          have bd := rbd _ (List.mem_of_getElem? er)
          refine ⟨p1, _, rfl, SqT.of (sm _ _ g1), rfl, _, _, rfl, _, _, rfl, rfl, ?_⟩
          refine ⟨rfl, ?_⟩
          walk_at "rd"
          refine ⟨cmulE bd f1 f2, ?_⟩
          walk_at "rd"
          refine ⟨(by show 2 ≤ sizeLine; decide), fun z nz => ?_⟩
          have ncC : C ≠ z := ne_of_none hC nz
          refine ⟨_, (upd_ne ncC).trans hC, ?_, us ++ [z], ?_, ?_, ?_, ?_⟩
          · rw [List.length_map, hn]; exact Nat.lt_of_lt_of_le (by omega : i < 100) (by decide)
          · rw [List.length_append, hn]; rfl
          · rw [List.map_append]; exact upd_same
          · intro b u y
            have y3 := sm _ _ y
            exact (upd_ne (ne_of_none y nC)).trans ((upd_ne (ne_of_none y3 nz)).trans y3)
          · intro j p2 q2 e2 hp2 hq2 he2
            rcases Nat.lt_or_ge j us.length with y | y
            · rw [List.getElem?_append_left y] at hp2
              have g := hus j p2 q2 e2 hp2 hq2 he2
              exact (upd_ne (ne_of g hC (by intro y; cases y))).trans ((upd_ne (ne_of_none g nz)).trans g)
            · rw [List.getElem?_append_right y] at hp2
              have e0 : j - us.length = 0 := by
                have := (List.getElem?_eq_some_iff.mp hp2).1
                simp at this
                omega
              rw [e0] at hp2
              cases hp2
              rw [show j = i by omega] at hq2 he2
              rw [eq1] at hq2
              rw [er] at he2
              cases hq2
              cases he2
              exact (upd_ne (Ne.symm ncC)).trans upd_same
        · rintro H5 ⟨us, hn, hC, s45, hus⟩
          have RC5 : RowsAt H5 C us qs1 ts := by
            rw [ets]
            have RA5 := RA4.same s45
            refine ⟨hC, by rw [hn, List.length_map, List.length_map, RA1.lp], by rw [List.length_map, RA1.lq], fun i p q e hp hq he => ?_⟩
            rw [List.getElem?_map] at he
            cases e0 : rs[i]? with
            | none => rw [e0] at he; cases he
            | some e1 =>
              rw [e0] at he
              cases he
              refine ⟨hus i p q e1 hp hq e0, ?_⟩
              have il : i < rs.length := (List.getElem?_eq_some_iff.mp e0).1
              exact (RA5.at_ i (ps1[i]'(by rw [RA1.lp]; exact il)) q e1 (List.getElem?_eq_getElem _) hq e0).2
          have RF5 := RA2.same s45
          have shT := shaped_rows ts
          walk_at "rd"
          refine ⟨.list (ts.map rowD), .list (ts.map rowD), RF5.dp, RC5.dp, shT, shT, ?_⟩
          walk_at "rd"
          refine ite2 (fun z => (not_t z (SeqAt.eqv_refl _ (SeqAt.canLay_of_shaped shT))).elim) (fun _ => ?_)
          walk_at "rd"
          refine ⟨⟨_, SqL.of RF5.hR⟩, ?_⟩
          have tr : ∀ e ∈ ts, e.1 = endM (ss.map (lift f)) e.2 ((k - 150) * f) ∧ e.2 ∈ ordI ss.length ss.length := fun e he => ends_true (ss := ss.map (lift f)) (v := (k - 150) * f) (ordI ss.length ss.length) [] (fun e h => absurd h List.not_mem_nil) (fun o h => h) e (so2.1.mem_iff.mp he)
          have tr1 : ∀ e ∈ ts, e.1 = endM (ss.map (lift f)) e.2 ((k - 150) * f) := fun e he => (tr e he).1
          have key : ∀ (H6 : Hp) (j : Nat), (∀ b u, H5 b = some u → b ∉ qs2.take j → H6 b = some u) → Same H3' H6 := fun H6 j pr b u z => pr b u (s45 _ _ (s34 _ _ z)) fun y => by
            rw [fr2 b (List.mem_of_mem_take y)] at z
            cases z
          refine for_list (K := K) (a := R2) (xs := ps2.map V.ref) (fun j st H6 => ∃ (x5 y10 y11 : Option V), st = [some (.ref a), some (.ref l), some (.int f), none, some (.ref L), x5, some (.int (k - 150)), some (.ref R1), some (.ref kp), some (.ref R2), y10, y11] ∧ (∀ b u, H5 b = some u → b ∉ qs2.take j → H6 b = some u)) ⟨_, x10, x11, rfl, fun b u z _ => z⟩
            (fun j st H6 _ ⟨_, _, _, _, pr⟩ => SqL.of (pr _ _ RF5.hR fun y => RF5.nr (List.mem_of_mem_take y) rfl)) ?_ ?_
          · rintro j y st H6 hy ⟨z5, y10, y11, rfl, pr⟩
            obtain ⟨p, hp, rfl⟩ : ∃ p, ps2[j]? = some p ∧ y = .ref p := by
              rw [List.getElem?_map] at hy
              cases e : ps2[j]? with
              | none => rw [e] at hy; cases hy
              | some p => rw [e] at hy; exact ⟨p, rfl, (Option.some.inj hy).symm⟩
            have jl : j < ts.length := by rw [← RA2.lp]; exact (List.getElem?_eq_some_iff.mp hp).1
            have et : ts[j]? = some ts[j] := List.getElem?_eq_getElem jl
            obtain ⟨qq, hq⟩ : ∃ qq, qs2[j]? = some qq := ⟨_, List.getElem?_eq_getElem (by rw [RA2.lq]; exact jl)⟩
            generalize ts[j] = e at et
            have em := List.mem_of_getElem? et
            obtain ⟨g1, g2⟩ := RF5.at_ j p qq e hp hq et
            have pn : p ∉ qs2.take j := fun y => RF5.np hp (List.mem_of_mem_take y)
            have qn : qq ∉ qs2.take j := fun y => by
              obtain ⟨m, hm, hm2⟩ := List.mem_iff_getElem.mp y
              have ml : m < j := by
                rw [List.length_take] at hm
                omega
              refine RF5.ne tr1 so2.2 hq ?_ ml
              rw [← hm2, List.getElem_take, List.getElem?_eq_getElem]
            have g1' := pr _ _ g1 pn
            have g2' := pr _ _ g2 qn
            have s36 := key H6 j pr
            obtain ⟨o1, o2⟩ := ord_in _ _ _ (tr e em).2
            have l4 := SS.l4
            have l1 := SS.l1
            walk_at "rd"
            refine ⟨p, _, rfl, SqT.of g1', rfl, _, _, rfl, _, _, rfl, rfl, ?_⟩
            walk_at "rd"
            refine ⟨mulF (by omega) f1 f2, ?_⟩
            walk_at "rd"
            refine ⟨L, ys, ss.map (lift f), qq, e.2, (k - 150) * f, rfl, SL3.same s36, g2', by omega, fun x hx => by rw [lm4]; exact o2 x hx, val_bd vb f1 f2, fun d H7 nd1 s67 hd => ?_⟩
            have wl : (walkW (ss.map (lift f)) e.2 ((k - 150) * f)).1.getLast? = some e.1 := by
              rw [tr1 e em]
              exact walk_last e.2 ([], (k - 150) * f) (fun x hx => by rw [lm4]; exact o2 x hx) (fun z => by rw [z] at o1; simp at o1; omega)
            have la2 : atI ((walkW (ss.map (lift f)) e.2 ((k - 150) * f)).1.map V.int) (-1) = some (.int e.1) := last_at (by rw [List.getLast?_map, wl]; rfl)
            walk_at "rd"
            refine ⟨d, _, _, _, rfl, rfl, SqL.of hd, la2, ?_⟩
            walk_at "rd"
            refine ⟨rfl, ?_⟩
            walk_at "rd"
            refine ite2 (fun z => (not_t z (decide_eq_true rfl)).elim) (fun _ => ?_)
            walk_at "rd"
            have hq7 := s67 _ _ g2'
            refine ⟨.inl ⟨rfl, _, SqL.of hq7⟩, ?_⟩
            walk_at "rd"
            refine ⟨qq, _, _, rfl, rfl, hq7, (by rw [List.length_map, o1]; exact Nat.lt_of_lt_of_le (by omega : ss.length < 100) (by decide)), ?_⟩
            refine ⟨z5, some (.int e.1), some (.ref qq), rfl, fun b u z nb => ?_⟩
            have tk : qs2.take (j + 1) = qs2.take j ++ [qq] := by rw [List.take_succ, hq]; rfl
            rw [tk] at nb
            have n1 : b ∉ qs2.take j := fun y => nb (List.mem_append_left _ y)
            have n2 : b ≠ qq := fun y => nb (List.mem_append_right _ (List.mem_singleton.mpr y))
            exact (upd_ne n2).trans (s67 _ _ (pr b u z n1))
          · rintro st H6 ⟨z5, y10, y11, rfl, pr⟩
            have s36 := key H6 _ pr
            walk_at "rd"
            refine ⟨mulF (by omega) f1 f2, ?_⟩
            refine ⟨L, ys, ss.map (lift f), (k - 150) * f, rfl, SL3.same s36, val_bd vb f1 f2, fun R3 H7 ts3 nR3 s67 so3 OA3 => ?_⟩
            rw [lm4] at so3
            have ets3 := sorted_scale gm f1 so1 so3
            rw [← ets] at ets3
            replace ets3 := ets3.symm
            subst ets3
            obtain ⟨ps3, qs3, RA3, fr3⟩ := OA3.rows
            have RA7 := ((RA1.same s23).same s36).same s67
            walk_at "rd"
            refine ⟨⟨_, SqL.of RA7.hR⟩, fun C nC => ?_⟩
            refine lc_list (K := K) (a := R1) (xs := ps1.map V.ref) (fun i H5 => ∃ us : List Addr, us.length = i ∧ H5 C = some (.lst (us.map V.ref)) ∧ Same H7 H5 ∧ ∀ (j : Nat) (p q : Addr) (e : Int × List Nat), us[j]? = some p → qs1[j]? = some q → rs[j]? = some e → H5 p = some (.tup [.int (e.1 * f), .ref q]))
              ⟨[], rfl, upd_same, fun b u z => (upd_ne (ne_of_none z nC)).trans z, fun j p q e z => by cases z⟩ (fun _ _ _ ⟨_, _, _, sm, _⟩ => SqL.of (sm _ _ RA7.hR)) ?_ ?_
            · rintro i y H5 hy ⟨us, hn, hC, sm, hus⟩
              obtain ⟨p1, hp1, rfl⟩ : ∃ p1, ps1[i]? = some p1 ∧ y = .ref p1 := by
                rw [List.getElem?_map] at hy
                cases e : ps1[i]? with
                | none => rw [e] at hy; cases hy
                | some p => rw [e] at hy; exact ⟨p, rfl, (Option.some.inj hy).symm⟩
              have il : i < rs.length := by rw [← RA1.lp]; exact (List.getElem?_eq_some_iff.mp hp1).1
              have er : rs[i]? = some rs[i] := List.getElem?_eq_getElem il
              have eq1 : qs1[i]? = some (qs1[i]'(by rw [RA1.lq]; exact il)) := List.getElem?_eq_getElem _
              obtain ⟨g1, g2⟩ := RA7.at_ i p1 _ _ hp1 eq1 er
              have bd := rbd _ (List.mem_of_getElem? er)
              refine ⟨p1, _, rfl, SqT.of (sm _ _ g1), rfl, _, _, rfl, _, _, rfl, rfl, ?_⟩
              refine ⟨rfl, ?_⟩
              walk_at "rd"
              refine ⟨cmulE bd f1 f2, ?_⟩
              walk_at "rd"
              refine ⟨(by show 2 ≤ sizeLine; decide), fun z nz => ?_⟩
              have ncC : C ≠ z := ne_of_none hC nz
              refine ⟨_, (upd_ne ncC).trans hC, ?_, us ++ [z], ?_, ?_, ?_, ?_⟩
              · rw [List.length_map, hn]; exact Nat.lt_of_lt_of_le (by omega : i < 100) (by decide)
              · rw [List.length_append, hn]; rfl
              · rw [List.map_append]; exact upd_same
              · intro b u y
                have y3 := sm _ _ y
                exact (upd_ne (ne_of_none y nC)).trans ((upd_ne (ne_of_none y3 nz)).trans y3)
              · intro j p2 q2 e2 hp2 hq2 he2
                rcases Nat.lt_or_ge j us.length with y | y
                · rw [List.getElem?_append_left y] at hp2
                  have g := hus j p2 q2 e2 hp2 hq2 he2
                  exact (upd_ne (ne_of g hC (by intro y; cases y))).trans ((upd_ne (ne_of_none g nz)).trans g)
                · rw [List.getElem?_append_right y] at hp2
                  have e0 : j - us.length = 0 := by
                    have := (List.getElem?_eq_some_iff.mp hp2).1
                    simp at this
                    omega
                  rw [e0] at hp2
                  cases hp2
                  rw [show j = i by omega] at hq2 he2
                  rw [eq1] at hq2
                  rw [er] at he2
                  cases hq2
                  cases he2
                  exact (upd_ne (Ne.symm ncC)).trans upd_same
            · rintro H8 ⟨us, hn, hC, s78, hus⟩
              have RC8 : RowsAt H8 C us qs1 ts := by
                rw [ets]
                have RA8 := RA7.same s78
                refine ⟨hC, by rw [hn, List.length_map, List.length_map, RA1.lp], by rw [List.length_map, RA1.lq], fun i p q e hp hq he => ?_⟩
                rw [List.getElem?_map] at he
                cases e0 : rs[i]? with
                | none => rw [e0] at he; cases he
                | some e1 =>
                  rw [e0] at he
                  cases he
                  refine ⟨hus i p q e1 hp hq e0, ?_⟩
                  have il : i < rs.length := (List.getElem?_eq_some_iff.mp e0).1
                  exact (RA8.at_ i (ps1[i]'(by rw [RA1.lp]; exact il)) q e1 (List.getElem?_eq_getElem _) hq e0).2
              have RF8 := RA3.same s78
              walk_at "rd"
              refine ⟨.list (ts.map rowD), .list (ts.map rowD), RF8.dp, RC8.dp, shT, shT, ?_⟩
              walk_at "rd"
              refine ite2 (fun z => (not_t z (SeqAt.eqv_refl _ (SeqAt.canLay_of_shaped shT))).elim) (fun _ => ?_)
              have sE := s36.trans (s67.trans s78)
              have sF := (s12.trans s23).trans sE
              refine ⟨t' + 1, z5, some (.int (k - 150)), some (.ref R1), some (.ref kp), some (.ref R2), y10, y11, rfl, by omega, S5.of_same sF, (O4.trans O5).trans fun b u z _ _ => sF _ _ z, SL3.same sE⟩
      · rintro st H' ⟨t', x5, x6, x7, x8, x9, x10, x11, rfl, ht', S4, O4, SL4⟩
        walk_at "rd"
        exact q H' t' ht' S4 O4
end
end HT
namespace HT
open PySem L2
theorem due_com {o s : Int} {m : Str} {v : Int} (hm : Mode m) (hs : 1 ≤ s) (t : Int) : dueM o s m (v + perM s m * t) = dueM o s m v + perM s m * t := by
  unfold perM
  by_cases e : m = "half_even"
  · rw [if_pos e, Int.mul_comm 2 s]
    exact due_per hm hs t
  · rw [if_neg e]
    obtain ⟨eq, r0, r1, wh⟩ := fig_of (o := o) (m := m) (v := v) hs
    generalize (v - o) / s = q at eq wh
    generalize (v - o) % s = r at eq r0 r1 wh
    have g : goesUp m s (q + t) r = goesUp m s q r := by
      unfold goesUp
      rw [if_neg e, if_neg e]
    have F2 : Fig o s m (v + s * t) (q + t) r (figM o s m v + t) := by
      refine ⟨?_, r0, r1, ?_⟩
      · rw [Int.mul_add]; omega
      · rw [g]
        rcases wh with ⟨a, b⟩ | ⟨a, b⟩
        · exact .inl ⟨a, by omega⟩
        · exact .inr ⟨a, by omega⟩
    have z := fig_uniq hs F2
    unfold dueM
    rw [z, Int.mul_add]
    omega
theorem due_dvd {o s : Int} {m : Str} {v L : Int} (hm : Mode m) (hs : 1 ≤ s) (h : perM s m ∣ L) : dueM o s m (v + L) = dueM o s m v + L := by
  obtain ⟨t, rfl⟩ := h
  exact due_com hm hs t
theorem per_dvd {a b : Sd} (ha : SideP a.o a.s a.m) (hb : SideP b.o b.s b.m) : perM a.s a.m ∣ (comN [a, b] : Int) ∧ perM b.s b.m ∣ (comN [a, b] : Int) := by
  have pa := perM_bd ha
  have pb := perM_bd hb
  have ea : ((perN a : Nat) : Int) = perM a.s a.m := Int.toNat_of_nonneg (by omega)
  have eb : ((perN b : Nat) : Int) = perM b.s b.m := Int.toNat_of_nonneg (by omega)
  have e : comN [a, b] = ((1 : Nat).lcm (perN a)).lcm (perN b) := rfl
  rw [← ea, ← eb, e]
  exact ⟨Int.natCast_dvd_natCast.mpr (Nat.dvd_trans (Nat.dvd_lcm_right 1 (perN a)) (Nat.dvd_lcm_left _ _)), Int.natCast_dvd_natCast.mpr (Nat.dvd_lcm_right _ _)⟩
theorem diff_com {a b : Sd} (ha : SideP a.o a.s a.m) (hb : SideP b.o b.s b.m) (x : Int) : diffX a.o a.s a.m b.o b.s b.m (x + (comN [a, b] : Int)) ↔ diffX a.o a.s a.m b.o b.s b.m x := by
  obtain ⟨p, q⟩ := per_dvd ha hb
  unfold diffX
  rw [due_dvd ha.md ha.s0 p, due_dvd hb.md hb.s0 q, due_dvd hb.md hb.s0 q, due_dvd ha.md ha.s0 p]
  omega
theorem many_two {a b : Sd} {x : Int} : ManyM [a, b] x ↔ diffX a.o a.s a.m b.o b.s b.m x := by
  have e1 : endM [a, b] [0, 1] x = dueM b.o b.s b.m (dueM a.o a.s a.m x) := rfl
  have e2 : endM [a, b] [1, 0] x = dueM a.o a.s a.m (dueM b.o b.s b.m x) := rfl
  have eo : ordI 2 2 = [[0, 1], [1, 0]] := by decide
  have es : endsM [a, b] (ordI [a, b].length [a, b].length) x = stepE [a, b] x (stepE [a, b] x [] [0, 1]) [1, 0] := by
    show endsM [a, b] (ordI 2 2) x = _
    rw [eo]
    rfl
  have s1 : stepE [a, b] x [] [0, 1] = [(endM [a, b] [0, 1] x, [0, 1])] := rfl
  unfold ManyM
  rw [es, s1]
  unfold stepE diffX
  rw [← e1, ← e2]
  by_cases h : endM [a, b] [0, 1] x = endM [a, b] [1, 0] x
  · have z : ([(endM [a, b] [0, 1] x, [0, 1])].any fun z => decide (z.1 = endM [a, b] [1, 0] x)) = true := by
      simp [h]
    rw [if_pos z]
    constructor
    · intro y
      simp at y
    · intro y
      exact absurd h y
  · have z : ¬ ([(endM [a, b] [0, 1] x, [0, 1])].any fun z => decide (z.1 = endM [a, b] [1, 0] x)) = true := by
      simp [h]
    rw [if_neg z]
    constructor
    · intro _ y
      exact h y
    · intro _
      simp
theorem exch_mat {a b : Sd} (ha : SideP a.o a.s a.m) (hb : SideP b.o b.s b.m) {v : Int} {r : Option Int} (h : ExchP (diffX a.o a.s a.m b.o b.s b.m) v r) : MatP [a, b] v r := by
  cases r with
  | none => exact fun y _ _ z => h y (many_two.mp z)
  | some x =>
    obtain ⟨h1, h2, h3⟩ := h
    refine ⟨h1, ?_, many_two.mpr h2, fun y a b z => h3 y a b (many_two.mp z)⟩
    by_cases g : x < v + (comN [a, b] : Int)
    · exact g
    · exfalso
      have cp : 0 < comN [a, b] := com_pos _ 1 (by decide) fun e he => by
        rcases List.mem_cons.mp he with y | y
        · rw [y]; exact ha
        · rw [List.mem_singleton.mp y]; exact hb
      refine h3 (x - (comN [a, b] : Int)) (by omega) (by omega) ((diff_com ha hb _).mp ?_)
      rw [show x - (comN [a, b] : Int) + (comN [a, b] : Int) = x by omega]
      exact h2
end HT
namespace HT
open PySem L2
theorem sidesAt1 {H : Hp} {l p : Addr} {o s : Int} {m : Str} (hl : H l = some (.lst [.ref p])) (h : H p = some (sideV o s m)) (S : SideP o s m) : SidesAt H l [.ref p] [⟨o, s, m⟩] :=
  ⟨hl, rfl, by show 1 ≤ 1; decide, by show 1 ≤ 4; decide, fun i d e => match i, e with
    | 0, e => by cases e; exact ⟨p, rfl, h, S⟩
    | i + 1, e => by cases e⟩
theorem sidesAt2 {H : Hp} {l p p2 : Addr} {o s o2 s2 : Int} {m m2 : Str} (hl : H l = some (.lst [.ref p, .ref p2])) (h : H p = some (sideV o s m)) (S : SideP o s m) (h2 : H p2 = some (sideV o2 s2 m2)) (S2 : SideP o2 s2 m2) : SidesAt H l [.ref p, .ref p2] [⟨o, s, m⟩, ⟨o2, s2, m2⟩] :=
  ⟨hl, rfl, by show 1 ≤ 2; decide, by show 2 ≤ 4; decide, fun i d e => match i, e with
    | 0, e => by cases e; exact ⟨p, rfl, h, S⟩
    | 1, e => by cases e; exact ⟨p2, rfl, h2, S2⟩
    | i + 2, e => by cases e⟩
theorem sidesAt3 {H : Hp} {l p p2 p3 : Addr} {o s o2 s2 o3 s3 : Int} {m m2 m3 : Str} (hl : H l = some (.lst [.ref p, .ref p2, .ref p3])) (h : H p = some (sideV o s m)) (S : SideP o s m) (h2 : H p2 = some (sideV o2 s2 m2)) (S2 : SideP o2 s2 m2) (h3 : H p3 = some (sideV o3 s3 m3)) (S3 : SideP o3 s3 m3) : SidesAt H l [.ref p, .ref p2, .ref p3] [⟨o, s, m⟩, ⟨o2, s2, m2⟩, ⟨o3, s3, m3⟩] :=
  ⟨hl, rfl, by show 1 ≤ 3; decide, by show 3 ≤ 4; decide, fun i d e => match i, e with
    | 0, e => by cases e; exact ⟨p, rfl, h, S⟩
    | 1, e => by cases e; exact ⟨p2, rfl, h2, S2⟩
    | 2, e => by cases e; exact ⟨p3, rfl, h3, S3⟩
    | i + 3, e => by cases e⟩
theorem sideP_up {s : Int} (h : 1 ≤ s) (h2 : s ≤ 10000) : SideP 0 s "up" := ⟨by decide, by decide, h, by show s ≤ (10 : Int) ^ 30; omega, .inr (.inl rfl)⟩
theorem sideP_dn {s : Int} (h : 1 ≤ s) (h2 : s ≤ 10000) : SideP 0 s "down" := ⟨by decide, by decide, h, by show s ≤ (10 : Int) ^ 30; omega, .inl rfl⟩
theorem sideP_hu {s : Int} (h : 1 ≤ s) (h2 : s ≤ 10000) : SideP 0 s "half_up" := ⟨by decide, by decide, h, by show s ≤ (10 : Int) ^ 30; omega, .inr (.inr (.inr (.inl rfl)))⟩
theorem sideP_he {s : Int} (h : 1 ≤ s) (h2 : s ≤ 10000) : SideP 0 s "half_even" := ⟨by decide, by decide, h, by show s ≤ (10 : Int) ^ 30; omega, .inr (.inr (.inr (.inr rfl)))⟩
theorem com_pair {a b : Sd} (ha : SideP a.o a.s a.m) (hb : SideP b.o b.s b.m) (la : a.s ≤ 12) (lb : b.s ≤ 12) : comN [a, b] ≤ 2000 := by
  have e : comN [a, b] = ((1 : Nat).lcm (perN a)).lcm (perN b) := rfl
  have a0 := ha.s0
  have b0 := hb.s0
  have pa : perN a ≤ 24 := by
    unfold perN perM
    split <;> omega
  have pb : perN b ≤ 24 := by
    unfold perN perM
    split <;> omega
  rw [e, Nat.lcm_one_left]
  refine Nat.le_trans lcm_le (Nat.le_trans (Nat.mul_le_mul pa pb) (by decide))
theorem scal_oV (a b : Option Int) : scal (oV a) (oV b) = true := by
  cases a <;> cases b <;> rfl
theorem scal_oVs (a : Option Int) (s : Str) : scal (oV a) (.str s) = true ∨ a = none := by
  cases a with
  | none => exact .inr rfl
  | some i => exact .inl rfl
end HT
namespace HT
open PySem L2
def three : List Sd := [⟨0, 1000, "half_up"⟩, ⟨0, 500, "half_up"⟩, ⟨0, 1, "up"⟩]
def ups : List Sd := [⟨0, 1000, "up"⟩, ⟨0, 500, "up"⟩, ⟨0, 250, "up"⟩]
theorem com_three : comN three = 1000 := by decide +kernel
theorem com_ups : comN ups = 1000 := by decide +kernel
theorem three_no : ∀ i : Fin 750, ¬ ManyM three (500 + (i.val : Int)) := by decide +kernel
theorem three_yes : ManyM three 1250 := by decide +kernel
theorem ups_no : ∀ i : Fin 1000, ¬ ManyM ups (7 + (i.val : Int)) := by decide +kernel
theorem mat_three : MatP three 500 (some 1250) := ⟨by decide, by rw [com_three]; decide, three_yes, fun y a b => by
  have := three_no ⟨(y - 500).toNat, by omega⟩
  rw [show (500 : Int) + ((⟨(y - 500).toNat, by omega⟩ : Fin 750).val : Int) = y by show 500 + ((y - 500).toNat : Int) = y; omega] at this
  exact this⟩
theorem mat_ups : MatP ups 7 none := fun y a b => by
  rw [com_ups] at b
  have := ups_no ⟨(y - 7).toNat, by omega⟩
  rw [show (7 : Int) + ((⟨(y - 7).toNat, by omega⟩ : Fin 1000).val : Int) = y by show 7 + ((y - 7).toNat : Int) = y; omega] at this
  exact this
theorem ends_two : endsM [⟨0, 4, "down"⟩, ⟨0, 6, "down"⟩] (ordI 2 2) 6 = [(0, [0, 1]), (4, [1, 0])] := by decide +kernel
theorem com_w1 : comN [⟨0, 2000, "up"⟩, ⟨0, 5, "up"⟩] = 2000 := by decide +kernel
theorem com_w2 : comN [⟨0, 2001, "up"⟩] = 2001 := by decide +kernel
theorem com_w3 : comN [⟨0, 2001, "up"⟩, ⟨0, 3, "up"⟩] = 2001 := by decide +kernel
theorem com_w4 : comN [⟨0, 1001, "half_even"⟩, ⟨0, 2, "up"⟩] = 2002 := by decide +kernel
end HT
namespace HT
open PySem L2
def spLaw (K : PySem.W.Frag) : Sp := fun vs H Q _ => ∃ (l : Addr) (ns : List Int), vs = [.ref l] ∧ SqL K H l (ns.map V.int) ∧ ns.length ≤ 63 ∧ ∀ H', Q (.bl true) H'
theorem most_of {x : V} (h : x ∈ [V.int 4, .int 8, .int 12]) : ∃ n : Nat, x = .int (n : Int) ∧ 1 ≤ n ∧ n ≤ 12 := by
  simp only [List.mem_cons, List.not_mem_nil, or_false] at h
  rcases h with h | h | h
  · exact ⟨4, h, by decide, by decide⟩
  · exact ⟨8, h, by decide, by decide⟩
  · exact ⟨12, h, by decide, by decide⟩
theorem fac_of {x : V} {g : Int} (g0 : 0 ≤ g) (g1 : g < 10 ^ 27) (h : x ∈ [V.int 1, .int (1 + g)]) : ∃ f : Int, x = .int f ∧ 1 ≤ f ∧ f ≤ 1 + 10 ^ 27 := by
  simp only [List.mem_cons, List.not_mem_nil, or_false] at h
  rcases h with h | h
  · exact ⟨1, h, by decide, by decide⟩
  · exact ⟨1 + g, h, by omega, by omega⟩
theorem lim_of (b : Bool) : ∃ m : Int, atI [V.int 240, .int 2000] (if b = true then 1 else 0) = some (.int m) ∧ m ≤ 2000 := by
  cases b
  · exact ⟨240, rfl, by decide⟩
  · exact ⟨2000, rfl, by decide⟩
section
variable {P : Program} {w : World} {K : PySem.W.Frag} {mg : Str → Option Value} {base : Heap} {cT f0 f1 f2 f3 f4 f5 f6 f7 f8 f9 fa fb fc : Addr} {d0 d1 d2 d3 d4 d5 d6 d7 d8 d9 da db dc : FuncData}
theorem ok_law {f : Addr} {fd : FuncData} (F : Fun K "law" "law" s_law f fd) (B : Blt mg) (A' : AmG mg) (So : Cal P w K mg base "_law_source" 1 ["_law_script"] (spSource K) f0 d0) (D : Cal P w K mg base "_law_draw" 1 ["_law_source_here", "_law_limit"] spDraw f1 d1)
    (Pk : Cal P w K mg base "_law_pick" 2 ["_law_source_here", "_law_values"] spPick f2 d2) (G : Cal P w K mg base "_law_great" 2 ["_law_source_here", "_law_digits"] spGreat f3 d3) (St : Cal P w K mg base "_law_set" 4 ["_law_source_here", "_law_most", "_law_many"] spSet f4 d4)
    (Ft : Cal P w K mg base "_law_fits" 7 ["_law_source_here", "_law_sides", "_law_factor"] spFits f5 d5) (Pe : Cal P w K mg base "_law_period" 2 ["_law_sides"] spPer f6 d6) (Ma : Cal P w K mg base "_law_matters" 7 ["_law_sides", "_law_value"] spMatL f7 d7)
    (Wo : Cal P w K mg base "_law_word" 7 ["_law_sides", "_law_value"] spWordM f8 d8) (Sm : Cal P w K mg base "_law_small_side" 3 ["_law_source_here", "_law_most"] spSmall f9 d9) (Ex : Cal P w K mg base "exchange" 6 ["first", "second", "value"] spExch fa da)
    (On : Cal P w K mg base "once" 6 ["sides", "value"] spOnce fb db) (Om : CalX P w K mg base "order_matters" 6 ["sides", "value"] (spMatX cT) fc dc) : FnOk P w K mg base CX0 8 f fd ["_law_script"] (spLaw K) := by
  refine F.ok sc_law (fun vs H Q E h => ?_) (fun cdv A outer s H vs Q E hr h => ?_)
  · obtain ⟨l, ns, rfl, _⟩ := h
    rfl
  · obtain ⟨l, ns, rfl, hL, hn, q⟩ := h
    have nd := sc_law.nd
    refine ⟨_, (pss_cons (ps_set (i := 1) nd rfl (Or.inl rfl) (pcl So hr (by decide) (by rfl) (pa_cons (pv 0) pa_nil)))
      (pss_cons (ps_for PassesOwn.never rfl (pi_range1 (by rfl) B.range (pa_cons pe_int pa_nil)) (pg_name (i := 2) nd rfl (Or.inl rfl)) (pss_cons (ps_set (i := 3) nd rfl (Or.inl rfl) (pcl St hr (by decide) (by rfl) (pa_cons (pv 1) (pa_cons (pcl Pk hr (by decide) (by rfl) (pa_cons (pv 1) (pa_cons (pe_lst (pa_cons pe_int (pa_cons pe_int (pa_cons pe_int pa_nil)))) pa_nil))) (pa_cons pe_int pa_nil)))))
      (pss_cons (ps_if (pt_not (pt_val (pcl Ft hr (by decide) (by rfl) (pa_cons (pv 1) (pa_cons (pv 3) (pa_cons (pcl Pk hr (by decide) (by rfl) (pa_cons (pv 1) (pa_cons (pe_lst (pa_cons pe_int (pa_cons (pe_op op_add pe_int (pcl G hr (by decide) (by rfl) (pa_cons (pv 1) (pa_cons pe_int pa_nil)))) pa_nil))) pa_nil))) pa_nil)))))) (pss_one (ps_ret pe_bl)) pss_nil)
      (pss_cons (ps_if (pt_cmpR op_le (pcl Pe hr (by decide) (by rfl) (pa_cons (pv 3) pa_nil)) (pe_ix ix_list (pe_lst (pa_cons pe_int (pa_cons pe_int pa_nil))) (pe_callTy call_int1 (by rfl) B.int (by decide +kernel) (pa_cons (pe_cmpR op_eq (pe_op op_mod (pv 2) pe_int) pe_int (nomark _)) pa_nil)) (fun _ _ => rfl)) (nomark _)) (pss_cons (ps_set (i := 4) nd rfl (Or.inl rfl) (pe_op op_sub (pcl D hr (by decide) (by rfl) (pa_cons (pv 1) (pa_cons pe_int pa_nil))) pe_int))
      (pss_cons (ps_set (i := 5) nd rfl (Or.inl rfl) (pe_callTy call_list_of (by rfl) A'.list (by decide +kernel) (pa_cons (pv 3) pa_nil)))
      (pss_one (ps_if (PW.pt (pw_or (pt_cmpR op_ne (pcx Om hr (by decide) (by rfl) takes0 (pa_cons (pv 3) (pa_cons (pv 4) pa_nil))) (pcl Ma hr (by decide) (by rfl) (pa_cons (pv 3) (pa_cons (pv 4) pa_nil))) (nomark _)) (pw_or1 (pt_cmpR (op_neD hr.units) (pv 3) (pv 5) (nomark _))))) (pss_one (ps_ret pe_bl)) pss_nil)))) (pss_one (ps_if (PW.pt (pw_and (pt_cmpR op_gt (pcl Pe hr (by decide) (by rfl) (pa_cons (pv 3) pa_nil)) pe_int (nomark _)) (pw_and1 (pt_cmpR op_ne (pcl Wo hr (by decide) (by rfl) (pa_cons (pv 3) (pa_cons pe_int pa_nil))) pe_str (nomark _))))) (pss_one (ps_ret pe_bl)) pss_nil)))
      (pss_cons (ps_set (i := 6) nd rfl (Or.inl rfl) (pe_lst (pa_cons (pcl Sm hr (by decide) (by rfl) (pa_cons (pv 1) (pa_cons pe_int pa_nil))) (pa_cons (pcl Sm hr (by decide) (by rfl) (pa_cons (pv 1) (pa_cons pe_int pa_nil))) pa_nil))))
      (pss_one (ps_if (pt_cmpR op_ne (pcx Om hr (by decide) (by rfl) takes0 (pa_cons (pv 6) (pa_cons (pe_un un_neg pe_int) pa_nil))) (pcl Ex hr (by decide) (by rfl) (pa_cons (pe_ix ix_list (pv 6) pe_int (fun _ _ => rfl)) (pa_cons (pe_ix ix_list (pv 6) pe_int (fun _ _ => rfl)) (pa_cons (pe_un un_neg pe_int) pa_nil)))) (nomark _)) (pss_one (ps_ret pe_bl)) pss_nil)))))))
      (pss_cons (ps_if (PW.pt (pw_or (pt_cmpR op_eq (pcl Wo hr (by decide) (by rfl) (pa_cons (pe_lst (pa_cons (pe_tup (pa_cons pe_int (pa_cons pe_int (pa_cons pe_str pa_nil)))) (pa_cons (pe_tup (pa_cons pe_int (pa_cons pe_int (pa_cons pe_str pa_nil)))) pa_nil))) (pa_cons pe_int pa_nil))) pe_str (nomark _)) (pw_or1 (pt_cmpR op_ne (pcl Wo hr (by decide) (by rfl) (pa_cons (pe_lst (pa_cons (pe_tup (pa_cons pe_int (pa_cons pe_int (pa_cons pe_str pa_nil)))) pa_nil)) (pa_cons pe_int pa_nil))) pe_str (nomark _))))) (pss_one (ps_ret pe_bl)) pss_nil)
      (pss_cons (ps_set (i := 7) nd rfl (Or.inl rfl) (pe_lst (pa_cons (pe_tup (pa_cons pe_int (pa_cons pe_int (pa_cons pe_str pa_nil)))) (pa_cons (pe_tup (pa_cons pe_int (pa_cons pe_int (pa_cons pe_str pa_nil)))) (pa_cons (pe_tup (pa_cons pe_int (pa_cons pe_int (pa_cons pe_str pa_nil)))) pa_nil)))))
      (pss_cons (ps_set (i := 8) nd rfl (Or.inl rfl) (pe_lst (pa_cons (pe_tup (pa_cons pe_int (pa_cons pe_int (pa_cons pe_str pa_nil)))) (pa_cons (pe_tup (pa_cons pe_int (pa_cons pe_int (pa_cons pe_str pa_nil)))) (pa_cons (pe_tup (pa_cons pe_int (pa_cons pe_int (pa_cons pe_str pa_nil)))) pa_nil)))))
      (pss_cons (ps_if (PW.pt (pw_or (pt_cmpR op_ne (pcx Om hr (by decide) (by rfl) takes0 (pa_cons (pv 7) (pa_cons pe_int pa_nil))) pe_int (nomark _)) (pw_or1 (pt_cmpR op_notN (pcx Om hr (by decide) (by rfl) takes0 (pa_cons (pv 8) (pa_cons pe_int pa_nil))) pe_non (nomark _))))) (pss_one (ps_ret pe_bl)) pss_nil)
      (pss_cons (ps_for PassesOwn.never rfl (pi_list (pe_lst (pa_cons (pe_lst (pa_cons (pe_tup (pa_cons pe_int (pa_cons pe_int (pa_cons pe_str pa_nil)))) (pa_cons (pe_tup (pa_cons pe_int (pa_cons pe_int (pa_cons pe_str pa_nil)))) pa_nil))) (pa_cons (pe_lst (pa_cons (pe_tup (pa_cons pe_int (pa_cons pe_int (pa_cons pe_str pa_nil)))) (pa_cons (pe_tup (pa_cons pe_int (pa_cons pe_int (pa_cons pe_str pa_nil)))) pa_nil))) pa_nil)))) (pg_name (i := 6) nd rfl (Or.inl rfl)) (pss_one (ps_if (pt_cmpR op_ne (pcl Wo hr (by decide) (by rfl) (pa_cons (pv 6) (pa_cons pe_int pa_nil))) pe_str (nomark _)) (pss_one (ps_ret pe_bl)) pss_nil)))
      (pss_one (ps_ret (pe_cmpR (op_eqD hr.units) (pcl On hr (by decide) (by rfl) (pa_cons (pe_lst (pa_cons (pe_tup (pa_cons pe_int (pa_cons pe_int (pa_cons pe_str pa_nil)))) (pa_cons (pe_tup (pa_cons pe_int (pa_cons pe_int (pa_cons pe_str pa_nil)))) pa_nil))) (pa_cons pe_int pa_nil))) (pe_lst (pa_cons (pe_tup (pa_cons pe_int (pa_cons (pe_lst (pa_cons pe_int (pa_cons pe_int pa_nil))) pa_nil))) (pa_cons (pe_tup (pa_cons pe_int (pa_cons (pe_lst (pa_cons pe_int (pa_cons pe_int pa_nil))) pa_nil))) pa_nil))) (nomark _))))))))))), ?_⟩
    walk_at "rd"
    refine ⟨l, ns, rfl, hL, hn, fun a c H0 sm na nc S0 => ?_⟩
    walk_at "rd"
    refine ⟨by decide, by decide, ?_⟩
    refine for_range (n := 15) (fun i σ H' => ∃ (x2 x3 x4 x5 x6 : Option V) (t : Nat), σ = [some (.ref l), some (.ref a), x2, x3, x4, x5, x6, none, none] ∧ t ≤ 100 * i ∧ Src H' a c t) ⟨none, none, none, none, none, 0, rfl, by omega, S0⟩ ?_ ?_
    · rintro i σ H' hi ⟨x2, x3, x4, x5, x6, t, rfl, ht, S'⟩
      walk_at "rd"
      refine ⟨(by show 3 ≤ sizeLine; decide), fun L1 nL1 => ?_⟩
      obtain ⟨la1, lc1⟩ := S'.na nL1
      refine ⟨a, c, t, L1, _, rfl, S'.new nL1, by omega, upd_same, la1, lc1, by decide, by decide, fun x H1 hx S1 O1 => ?_⟩
      obtain ⟨n, rfl, n1, n12⟩ := most_of hx
      walk_at "rd"
      refine ⟨a, c, t + 1, n, 4, rfl, S1, n1, by omega, by decide, by decide, by omega, fun l3 xs ss H2 t2 SS2 sml la lc ht2 S2 O2 => ?_⟩
      walk_at "rd"
      refine ⟨a, c, t2, 27, rfl, S2, by decide, by omega, fun g H3 g0 g1 S3 O3 => ?_⟩
      have SS3 := SS2.oth S2 la lc O3
      walk_at "rd"
      refine ⟨(by show 2 ≤ sizeLine; decide), fun L2 nL2 => ?_⟩
      generalize e_L2 : upd H3 L2 _ = H4
      have fL2 : H4 L2 = some ((.lst [V.int 1, .int (1 + g)])) := by rw [← e_L2]; exact upd_same
      have s34 : Same H3 H4 := by rw [← e_L2]; exact fun b u z => (upd_ne (ne_of_none z nL2)).trans z
      clear e_L2
      have S4 := S3.of_same s34
      obtain ⟨la2, lc2⟩ := S3.na nL2
      refine ⟨a, c, _, L2, _, rfl, S4, by omega, fL2, la2, lc2, (by show 0 < 2; decide), (by show 2 < 2 ^ 60; decide), fun y H5 hy S5 O5 => ?_⟩
      obtain ⟨fc', rfl, fc1, fc2⟩ := fac_of g0 g1 hy
      have SS5 := (SS3.same s34).oth S4 la lc O5
      walk_at "rd"
      refine ⟨a, c, l3, _, xs, ss, fc', rfl, S5, SS5, fun d hd => ?_, la, lc, fc1, fc2, by omega, fun H6 t6 ht6 S6 O6 => ?_⟩
      · have := sml d hd
        omega
      have SS6 := SS5.oth S5 la lc O6
      walk_at "rd"
      refine ⟨l3, xs, ss, rfl, SS6, ?_⟩
      walk_at "rd"
      refine ⟨(by show 2 ≤ sizeLine; decide), fun L3 nL3 => ?_⟩
      generalize e_L3 : upd H6 L3 _ = H7
      have fL3 : H7 L3 = some ((.lst [V.int 240, .int 2000])) := by rw [← e_L3]; exact upd_same
      have s67 : Same H6 H7 := by rw [← e_L3]; exact fun b u z => (upd_ne (ne_of_none z nL3)).trans z
      clear e_L3
      have S7 := S6.of_same s67
      have SS7 := SS6.same s67
      walk_at "rd"
      refine ⟨(by show (0 : Int) < 5; decide), ?_⟩
      walk_at "rd"
      refine ⟨rfl, ?_⟩
      walk_at "rd"
      refine .inr ⟨_, rfl, ?_⟩
      walk_at "rd"
      obtain ⟨lim, elim, hlim⟩ := lim_of (decide (V.int ((0 + (i : Int)) % 5) = V.int 0))
      refine ⟨L3, _, _, _, rfl, rfl, SqL.of fL3, elim, ?_⟩
      walk_at "rd"
      refine ite2 (fun z => ?b1) (fun z => ?b2)
      case' b1 =>
        have hc : comN ss ≤ 2000 := by
          have := of_decide_eq_true z
          omega
        walk_at "rd"
        refine ⟨a, c, t6, 300, rfl, S7, by omega, by decide, by decide, fun k H8 k0 k1 S8 O8 => ?_⟩
        have SS8 := SS7.oth S7 la lc O8
        walk_at "rd"
        refine ⟨l3, xs, rfl, .inl (SqL.of SS8.hl), fun kp nkp => ?_⟩
        generalize ekp : upd H8 kp _ = H9
        have fkp : H9 kp = some (.lst xs) := by rw [← ekp]; exact upd_same
        have s89 : Same H8 H9 := by rw [← ekp]; exact fun b u z => (upd_ne (ne_of_none z nkp)).trans z
        clear ekp
        have SS9 := SS8.same s89
        have SK9 : SidesAt H9 kp xs ss := ⟨fkp, SS9.len, SS9.l1, SS9.l4, SS9.at_⟩
        walk_at "rd"
        refine ⟨l3, xs, ss, (k - 150), rfl, SS9, by omega, .inr ⟨hc, fun r H10 m10 s10 => ?_⟩⟩
        walk_at "rd"
        refine ⟨l3, xs, ss, (k - 150), rfl, SS9.same s10, by omega, by omega, fun r2 H11 m11 s11 => ?_⟩
        have er := mat_uniq m10 m11
        subst er
        walk_at "rd"
        refine ⟨scal_oV _ _, ?_⟩
        walk_at "rd"
        refine ite2 (fun z => (not_t z (decide_eq_true rfl)).elim) (fun _ => ?_)
        walk_at "rd"
        have sh := shaped_sides fun d hd => (SS9.side d hd).md
        refine ⟨.list (ss.map sdD), .list (ss.map sdD), ((SS9.same s10).same s11).dp, ((SK9.same s10).same s11).dp, sh, sh, ?_⟩
        walk_at "rd"
        refine ite2 (fun z => (not_t z (SeqAt.eqv_refl _ (SeqAt.canLay_of_shaped sh))).elim) (fun _ => ?_)
        have SQ := S8.of_same (s89.trans (s10.trans s11))
        have tQ : t6 + 1 ≤ t + 60 := by omega
      case' b2 =>
        walk_at "rd"
        refine ⟨l3, xs, ss, rfl, SS7, ?_⟩
        walk_at "rd"
        refine ite2 (fun z => ?c1) (fun z => ?c2)
        case' c1 =>
          have hc : 2000 < comN ss := by
            have := of_decide_eq_true z
            omega
          walk_at "rd"
          refine ⟨l3, xs, ss, 0, rfl, SS7, by decide, .inl ⟨hc, fun H8 s78 => ?_⟩⟩
          walk_at "rd"
          refine ⟨rfl, ?_⟩
          have SQ := S7.of_same s78
          have tQ : t6 ≤ t + 60 := by omega
        case' c2 =>
          have SQ := S7
          have tQ : t6 ≤ t + 60 := by omega
      all_goals
        walk_at "rd"
        refine ⟨a, c, _, 12, rfl, SQ, by decide, by decide, by omega, fun p1 o1 s1 m1 HA tA hp1 b11 b12 b13 b14 md1 htA SA OA => ?_⟩
        walk_at "rd"
        refine ⟨a, c, _, 12, rfl, SA, by decide, by decide, by omega, fun p2 o2 s2 m2 HB tB hp2 b21 b22 b23 b24 md2 htB SB OB => ?_⟩
        have z1 := SA.nt hp1
        have hp1B := OB _ _ hp1 z1.1 z1.2
        walk_at "rd"
        refine ⟨(by show 2 ≤ sizeLine; decide), fun pr npr => ?_⟩
        generalize e_pr : upd HB pr _ = HC
        have fpr : HC pr = some (.lst [.ref p1, .ref p2]) := by rw [← e_pr]; exact upd_same
        have sBC : Same HB HC := by rw [← e_pr]; exact fun b u z => (upd_ne (ne_of_none z npr)).trans z
        clear e_pr
        have SC := SB.of_same sBC
        have P1 : SideP o1 s1 m1 := ⟨by omega, by omega, b13, by omega, md1⟩
        have P2 : SideP o2 s2 m2 := ⟨by omega, by omega, b23, by omega, md2⟩
        have SP := sidesAt2 fpr (sBC _ _ hp1B) P1 (sBC _ _ hp2) P2
        walk_at "rd"
        refine ⟨pr, _, _, -7, rfl, SP, by decide, .inr ⟨com_pair P1 P2 b14 b24, fun r HD mD sD => ?_⟩⟩
        walk_at "rd"
        refine ⟨pr, _, _, _, rfl, rfl, SqL.of (sD _ _ fpr), rfl, ?_⟩
        walk_at "rd"
        refine ⟨pr, _, _, _, rfl, rfl, SqL.of (sD _ _ fpr), rfl, ?_⟩
        walk_at "rd"
        refine ⟨p1, p2, o1, s1, m1, o2, s2, m2, -7, rfl, sD _ _ (sBC _ _ hp1B), P1, sD _ _ (sBC _ _ hp2), P2, by decide, fun r2 HE e2 _ sE => ?_⟩
        have er := mat_uniq mD (exch_mat (a := ⟨o1, s1, m1⟩) (b := ⟨o2, s2, m2⟩) P1 P2 e2)
        subst er
        walk_at "rd"
        refine ⟨scal_oV _ _, ?_⟩
        walk_at "rd"
        refine ite2 (fun z => (not_t z (decide_eq_true rfl)).elim) (fun _ => ?_)
        exact ⟨_, _, _, _, _, tB, rfl, by omega, SC.of_same (sD.trans sE)⟩
    · rintro σ H1 ⟨x2, x3, x4, x5, x6, t, rfl, ht, S1⟩
      walk_at "rd"
      refine ⟨(by show 3 ≤ sizeLine; decide), fun p1 np1 => ?_⟩
      generalize e_p1 : upd H1 p1 _ = H2
      have g1 : H2 p1 = some (sideV 0 2000 "up") := by rw [← e_p1]; exact upd_same
      have s1 : Same H1 H2 := by rw [← e_p1]; exact fun b u z => (upd_ne (ne_of_none z np1)).trans z
      clear e_p1
      walk_at "rd"
      refine ⟨(by show 3 ≤ sizeLine; decide), fun p2 np2 => ?_⟩
      generalize e_p2 : upd H2 p2 _ = H3
      have g2 : H3 p2 = some (sideV 0 5 "up") := by rw [← e_p2]; exact upd_same
      have s2 : Same H2 H3 := by rw [← e_p2]; exact fun b u z => (upd_ne (ne_of_none z np2)).trans z
      clear e_p2
      walk_at "rd"
      refine ⟨(by show 2 ≤ sizeLine; decide), fun p3 np3 => ?_⟩
      generalize e_p3 : upd H3 p3 _ = H4
      have g3 : H4 p3 = some (.lst [.ref p1, .ref p2]) := by rw [← e_p3]; exact upd_same
      have s3 : Same H3 H4 := by rw [← e_p3]; exact fun b u z => (upd_ne (ne_of_none z np3)).trans z
      clear e_p3
      have A1 := sidesAt2 g3 (s3 _ _ (s2 _ _ g1)) (sideP_up (by decide) (by decide)) (s3 _ _ g2) (sideP_up (by decide) (by decide))
      walk_at "rd"
      refine ⟨p3, _, _, 0, rfl, A1, by decide, .inr ⟨by rw [com_w1]; exact Nat.le_refl _, fun r H5 m5 s5 => ?_⟩⟩
      walk_at "rd"
      refine ⟨by cases r <;> rfl, ?_⟩
      walk_at "rd"
      refine ite2 (fun z => absurd (of_decide_eq_true z) (by cases r <;> intro y <;> cases y)) (fun _ => ?_)
      walk_at "rd"
      refine ⟨(by show 3 ≤ sizeLine; decide), fun p4 np4 => ?_⟩
      generalize e_p4 : upd H5 p4 _ = H6
      have g4 : H6 p4 = some (sideV 0 2001 "up") := by rw [← e_p4]; exact upd_same
      have s6 : Same H5 H6 := by rw [← e_p4]; exact fun b u z => (upd_ne (ne_of_none z np4)).trans z
      clear e_p4
      walk_at "rd"
      refine ⟨(by show 1 ≤ sizeLine; decide), fun p5 np5 => ?_⟩
      generalize e_p5 : upd H6 p5 _ = H7
      have g5 : H7 p5 = some (.lst [.ref p4]) := by rw [← e_p5]; exact upd_same
      have s7 : Same H6 H7 := by rw [← e_p5]; exact fun b u z => (upd_ne (ne_of_none z np5)).trans z
      clear e_p5
      have A2 := sidesAt1 g5 (s7 _ _ g4) (sideP_up (by decide) (by decide))
      walk_at "rd"
      refine ⟨p5, _, _, 0, rfl, A2, by decide, .inl ⟨by rw [com_w2]; decide, fun H8 s8 => ?_⟩⟩
      walk_at "rd"
      refine ⟨rfl, ?_⟩
      walk_at "rd"
      refine ⟨(by show 3 ≤ sizeLine; decide), fun p6 np6 => ?_⟩
      generalize e_p6 : upd H8 p6 _ = H9
      have g6 : H9 p6 = some (sideV 0 1000 "half_up") := by rw [← e_p6]; exact upd_same
      have s9 : Same H8 H9 := by rw [← e_p6]; exact fun b u z => (upd_ne (ne_of_none z np6)).trans z
      clear e_p6
      walk_at "rd"
      refine ⟨(by show 3 ≤ sizeLine; decide), fun p7 np7 => ?_⟩
      generalize e_p7 : upd H9 p7 _ = H10
      have g7 : H10 p7 = some (sideV 0 500 "half_up") := by rw [← e_p7]; exact upd_same
      have s10 : Same H9 H10 := by rw [← e_p7]; exact fun b u z => (upd_ne (ne_of_none z np7)).trans z
      clear e_p7
      walk_at "rd"
      refine ⟨(by show 3 ≤ sizeLine; decide), fun p8 np8 => ?_⟩
      generalize e_p8 : upd H10 p8 _ = H11
      have g8 : H11 p8 = some (sideV 0 1 "up") := by rw [← e_p8]; exact upd_same
      have s11 : Same H10 H11 := by rw [← e_p8]; exact fun b u z => (upd_ne (ne_of_none z np8)).trans z
      clear e_p8
      walk_at "rd"
      refine ⟨(by show 3 ≤ sizeLine; decide), fun p9 np9 => ?_⟩
      generalize e_p9 : upd H11 p9 _ = H12
      have g9 : H12 p9 = some (.lst [.ref p6, .ref p7, .ref p8]) := by rw [← e_p9]; exact upd_same
      have s12 : Same H11 H12 := by rw [← e_p9]; exact fun b u z => (upd_ne (ne_of_none z np9)).trans z
      clear e_p9
      have A3 : SidesAt H12 p9 _ three := sidesAt3 g9 (s12 _ _ (s11 _ _ (s10 _ _ g6))) (sideP_hu (by decide) (by decide)) (s12 _ _ (s11 _ _ g7)) (sideP_hu (by decide) (by decide)) (s12 _ _ g8) (sideP_up (by decide) (by decide))
      walk_at "rd"
      refine ⟨(by show 3 ≤ sizeLine; decide), fun p10 np10 => ?_⟩
      generalize e_p10 : upd H12 p10 _ = H13
      have g10 : H13 p10 = some (sideV 0 1000 "up") := by rw [← e_p10]; exact upd_same
      have s13 : Same H12 H13 := by rw [← e_p10]; exact fun b u z => (upd_ne (ne_of_none z np10)).trans z
      clear e_p10
      walk_at "rd"
      refine ⟨(by show 3 ≤ sizeLine; decide), fun p11 np11 => ?_⟩
      generalize e_p11 : upd H13 p11 _ = H14
      have g11 : H14 p11 = some (sideV 0 500 "up") := by rw [← e_p11]; exact upd_same
      have s14 : Same H13 H14 := by rw [← e_p11]; exact fun b u z => (upd_ne (ne_of_none z np11)).trans z
      clear e_p11
      walk_at "rd"
      refine ⟨(by show 3 ≤ sizeLine; decide), fun p12 np12 => ?_⟩
      generalize e_p12 : upd H14 p12 _ = H15
      have g12 : H15 p12 = some (sideV 0 250 "up") := by rw [← e_p12]; exact upd_same
      have s15 : Same H14 H15 := by rw [← e_p12]; exact fun b u z => (upd_ne (ne_of_none z np12)).trans z
      clear e_p12
      walk_at "rd"
      refine ⟨(by show 3 ≤ sizeLine; decide), fun p13 np13 => ?_⟩
      generalize e_p13 : upd H15 p13 _ = H16
      have g13 : H16 p13 = some (.lst [.ref p10, .ref p11, .ref p12]) := by rw [← e_p13]; exact upd_same
      have s16 : Same H15 H16 := by rw [← e_p13]; exact fun b u z => (upd_ne (ne_of_none z np13)).trans z
      clear e_p13
      have A4 : SidesAt H16 p13 _ ups := sidesAt3 g13 (s16 _ _ (s15 _ _ (s14 _ _ g10))) (sideP_up (by decide) (by decide)) (s16 _ _ (s15 _ _ g11)) (sideP_up (by decide) (by decide)) (s16 _ _ g12) (sideP_up (by decide) (by decide))
      walk_at "rd"
      refine ⟨p9, _, three, 500, rfl, A3.same (s13.trans (s14.trans (s15.trans s16))), by decide, .inr ⟨by rw [com_three]; decide, fun r1 H17 m17 s17 => ?_⟩⟩
      have er1 := mat_uniq m17 mat_three
      subst er1
      walk_at "rd"
      refine ⟨rfl, ?_⟩
      walk_at "rd"
      refine ⟨p13, _, ups, 7, rfl, A4.same s17, by decide, .inr ⟨by rw [com_ups]; decide, fun r2 H18 m18 s18 => ?_⟩⟩
      have er2 := mat_uniq m18 mat_ups
      subst er2
      walk_at "rd"
      refine ⟨rfl, ?_⟩
      walk_at "rd"
      refine ⟨(by show 3 ≤ sizeLine; decide), fun q1 nq1 => ?_⟩
      generalize e_q1 : upd H18 q1 _ = H19
      have k1 : H19 q1 = some (sideV 0 2001 "up") := by rw [← e_q1]; exact upd_same
      have s19 : Same H18 H19 := by rw [← e_q1]; exact fun b u z => (upd_ne (ne_of_none z nq1)).trans z
      clear e_q1
      walk_at "rd"
      refine ⟨(by show 3 ≤ sizeLine; decide), fun q2 nq2 => ?_⟩
      generalize e_q2 : upd H19 q2 _ = H20
      have k2 : H20 q2 = some (sideV 0 3 "up") := by rw [← e_q2]; exact upd_same
      have s20 : Same H19 H20 := by rw [← e_q2]; exact fun b u z => (upd_ne (ne_of_none z nq2)).trans z
      clear e_q2
      walk_at "rd"
      refine ⟨(by show 2 ≤ sizeLine; decide), fun q3 nq3 => ?_⟩
      generalize e_q3 : upd H20 q3 _ = H21
      have k3 : H21 q3 = some (.lst [.ref q1, .ref q2]) := by rw [← e_q3]; exact upd_same
      have s21 : Same H20 H21 := by rw [← e_q3]; exact fun b u z => (upd_ne (ne_of_none z nq3)).trans z
      clear e_q3
      have A5 := sidesAt2 k3 (s21 _ _ (s20 _ _ k1)) (sideP_up (by decide) (by decide)) (s21 _ _ k2) (sideP_up (by decide) (by decide))
      walk_at "rd"
      refine ⟨(by show 3 ≤ sizeLine; decide), fun q4 nq4 => ?_⟩
      generalize e_q4 : upd H21 q4 _ = H22
      have k4 : H22 q4 = some (sideV 0 1001 "half_even") := by rw [← e_q4]; exact upd_same
      have s22 : Same H21 H22 := by rw [← e_q4]; exact fun b u z => (upd_ne (ne_of_none z nq4)).trans z
      clear e_q4
      walk_at "rd"
      refine ⟨(by show 3 ≤ sizeLine; decide), fun q5 nq5 => ?_⟩
      generalize e_q5 : upd H22 q5 _ = H23
      have k5 : H23 q5 = some (sideV 0 2 "up") := by rw [← e_q5]; exact upd_same
      have s23 : Same H22 H23 := by rw [← e_q5]; exact fun b u z => (upd_ne (ne_of_none z nq5)).trans z
      clear e_q5
      walk_at "rd"
      refine ⟨(by show 2 ≤ sizeLine; decide), fun q6 nq6 => ?_⟩
      generalize e_q6 : upd H23 q6 _ = H24
      have k6 : H24 q6 = some (.lst [.ref q4, .ref q5]) := by rw [← e_q6]; exact upd_same
      have s24 : Same H23 H24 := by rw [← e_q6]; exact fun b u z => (upd_ne (ne_of_none z nq6)).trans z
      clear e_q6
      have A6 := sidesAt2 k6 (s24 _ _ (s23 _ _ k4)) (sideP_he (by decide) (by decide)) (s24 _ _ k5) (sideP_up (by decide) (by decide))
      walk_at "rd"
      refine ⟨(by show 2 ≤ sizeLine; decide), fun q7 nq7 => ?_⟩
      generalize e_q7 : upd H24 q7 _ = H25
      have k7 : H25 q7 = some (.lst [.ref q3, .ref q6]) := by rw [← e_q7]; exact upd_same
      have s25 : Same H24 H25 := by rw [← e_q7]; exact fun b u z => (upd_ne (ne_of_none z nq7)).trans z
      clear e_q7
      have A5' := A5.same (s22.trans (s23.trans (s24.trans s25)))
      have A6' := A6.same s25
      walk_at "rd"
      refine ⟨⟨_, SqL.of k7⟩, ?_⟩
      refine for_list (K := K) (a := q7) (xs := [.ref q3, .ref q6]) (fun i σ H' => ∃ x2 x3 x4 x5 x6 : Option V, σ = [some (.ref l), some (.ref a), x2, x3, x4, x5, x6, some (.ref p9), some (.ref p13)] ∧ Same H25 H') ⟨_, _, _, _, _, rfl, Same.refl _⟩ (fun _ _ _ _ ⟨_, _, _, _, _, _, sm⟩ => SqL.of (sm _ _ k7)) ?_ ?_
      · rintro i y σ H' hy ⟨y2, y3, y4, y5, y6, rfl, sm⟩
        obtain ⟨q0, ys, ss, rfl, SS, big⟩ : ∃ (q0 : Addr) (ys : List V) (ss : List Sd), y = .ref q0 ∧ SidesAt H25 q0 ys ss ∧ 2000 < comN ss := by
          match i, hy with
          | 0, hy => cases hy; exact ⟨q3, _, _, rfl, A5', by rw [com_w3]; decide⟩
          | 1, hy => cases hy; exact ⟨q6, _, _, rfl, A6', by rw [com_w4]; decide⟩
          | i + 2, hy => cases hy
        walk_at "rd"
        refine ⟨q0, ys, ss, 0, rfl, SS.same sm, by decide, .inl ⟨big, fun H6 s6 => ?_⟩⟩
        walk_at "rd"
        refine ⟨rfl, ?_⟩
        walk_at "rd"
        refine ite2 (fun z => (not_t z (decide_eq_true rfl)).elim) (fun _ => ?_)
        exact ⟨_, _, _, _, _, rfl, sm.trans s6⟩
      · rintro σ H' ⟨y2, y3, y4, y5, y6, rfl, sm⟩
        clear sm
        walk_at "rd"
        refine ⟨(by show 3 ≤ sizeLine; decide), fun q8 nq8 => ?_⟩
        generalize e_q8 : upd H' q8 _ = H26
        have k8 : H26 q8 = some (sideV 0 4 "down") := by rw [← e_q8]; exact upd_same
        have s26 : Same H' H26 := by rw [← e_q8]; exact fun b u z => (upd_ne (ne_of_none z nq8)).trans z
        clear e_q8
        walk_at "rd"
        refine ⟨(by show 3 ≤ sizeLine; decide), fun q9 nq9 => ?_⟩
        generalize e_q9 : upd H26 q9 _ = H27
        have k9 : H27 q9 = some (sideV 0 6 "down") := by rw [← e_q9]; exact upd_same
        have s27 : Same H26 H27 := by rw [← e_q9]; exact fun b u z => (upd_ne (ne_of_none z nq9)).trans z
        clear e_q9
        walk_at "rd"
        refine ⟨(by show 2 ≤ sizeLine; decide), fun q10 nq10 => ?_⟩
        generalize e_q10 : upd H27 q10 _ = H28
        have k10 : H28 q10 = some (.lst [.ref q8, .ref q9]) := by rw [← e_q10]; exact upd_same
        have s28 : Same H27 H28 := by rw [← e_q10]; exact fun b u z => (upd_ne (ne_of_none z nq10)).trans z
        clear e_q10
        have A7 := sidesAt2 k10 (s28 _ _ (s27 _ _ k8)) (sideP_dn (by decide) (by decide)) (s28 _ _ k9) (sideP_dn (by decide) (by decide))
        walk_at "rd"
        refine ⟨q10, _, _, 6, rfl, A7, by decide, fun R H29 rs nR s29 so OA => ?_⟩
        have so' : SortedOf rs (endsM [⟨0, 4, "down"⟩, ⟨0, 6, "down"⟩] (ordI 2 2) 6) := so
        rw [ends_two] at so'
        have er3 : rs = [(0, [0, 1]), (4, [1, 0])] := sorted_uniq so'.1 so'.2 (by decide)
        subst er3
        obtain ⟨ps, qs, RA, _⟩ := OA.rows
        walk_at "rd"
        refine ⟨(by show 2 ≤ sizeLine; decide), fun w1 nw1 => ?_⟩
        generalize e_w1 : upd H29 w1 _ = H30
        have h1 : H30 w1 = some (.lst [.int 0, .int 1]) := by rw [← e_w1]; exact upd_same
        have s30 : Same H29 H30 := by rw [← e_w1]; exact fun b u z => (upd_ne (ne_of_none z nw1)).trans z
        clear e_w1
        walk_at "rd"
        refine ⟨(by show 2 ≤ sizeLine; decide), fun w2 nw2 => ?_⟩
        generalize e_w2 : upd H30 w2 _ = H31
        have h2 : H31 w2 = some (.tup [.int 0, .ref w1]) := by rw [← e_w2]; exact upd_same
        have s31 : Same H30 H31 := by rw [← e_w2]; exact fun b u z => (upd_ne (ne_of_none z nw2)).trans z
        clear e_w2
        walk_at "rd"
        refine ⟨(by show 2 ≤ sizeLine; decide), fun w3 nw3 => ?_⟩
        generalize e_w3 : upd H31 w3 _ = H32
        have h3 : H32 w3 = some (.lst [.int 1, .int 0]) := by rw [← e_w3]; exact upd_same
        have s32 : Same H31 H32 := by rw [← e_w3]; exact fun b u z => (upd_ne (ne_of_none z nw3)).trans z
        clear e_w3
        walk_at "rd"
        refine ⟨(by show 2 ≤ sizeLine; decide), fun w4 nw4 => ?_⟩
        generalize e_w4 : upd H32 w4 _ = H33
        have h4 : H33 w4 = some (.tup [.int 4, .ref w3]) := by rw [← e_w4]; exact upd_same
        have s33 : Same H32 H33 := by rw [← e_w4]; exact fun b u z => (upd_ne (ne_of_none z nw4)).trans z
        clear e_w4
        walk_at "rd"
        refine ⟨(by show 2 ≤ sizeLine; decide), fun w5 nw5 => ?_⟩
        generalize e_w5 : upd H33 w5 _ = H34
        have h5 : H34 w5 = some (.lst [.ref w2, .ref w4]) := by rw [← e_w5]; exact upd_same
        have s34 : Same H33 H34 := by rw [← e_w5]; exact fun b u z => (upd_ne (ne_of_none z nw5)).trans z
        clear e_w5
        have RB := RA.same (s30.trans (s31.trans (s32.trans (s33.trans s34))))
        have sh := shaped_rows [(0, [0, 1]), (4, [1, 0])]
        have h1' := s34 _ _ (s33 _ _ (s32 _ _ (s31 _ _ h1)))
        have h2' := s34 _ _ (s33 _ _ (s32 _ _ h2))
        have h3' := s34 _ _ (s33 _ _ h3)
        have h4' := s34 _ _ h4
        have DB : Dp K H34 (.ref w5) (.list ([((0 : Int), [0, 1]), (4, [1, 0])].map rowD)) := .lst (SqL.of h5) (.cons (.tup (SqT.of h2') (.cons (.int 0) (.cons (.lst (SqL.of h1') (.cons (.int 0) (.cons (.int 1) .nil))) .nil))) (.cons (.tup (SqT.of h4') (.cons (.int 4) (.cons (.lst (SqL.of h3') (.cons (.int 1) (.cons (.int 0) .nil))) .nil))) .nil))
        walk_at "rd"
        refine ⟨_, _, RB.dp, DB, sh, sh, ?_⟩
        walk_at "rd"
        rw [SeqAt.eqv_refl _ (SeqAt.canLay_of_shaped sh)]
        exact q _
end
end HT
namespace HT
open PySem L2
section
variable {P : Program} {w : World} {K : PySem.W.Frag} {mg : Str → Option Value} {base : Heap} {fF : Addr} {dF : FuncData}
theorem ok_written {f : Addr} {fd : FuncData} (F : Fun K "written" "written" s_written f fd) (G : Cal P w K mg base "_figure" 2 ["side", "value"] spFig fF dF) : FnOk P w K mg base CX0 3 f fd ["side", "value"] spDue := by
  refine F.ok sc_written (fun vs H Q E h => ?_) (fun cdv A outer s H vs Q E hr h => ?_)
  · obtain ⟨p, o, s, m, v, rfl, _⟩ := h
    rfl
  · obtain ⟨p, o, s, m, v, rfl, hp, S, hv, q⟩ := h
    have nd := sc_written.nd
    refine ⟨_, pss_cons (ps_asg (pv 0) (pg_tup (by rfl) (pgs_cons (pg_name (i := 2) nd rfl (Or.inl rfl)) (pgs_cons (pg_name (i := 3) nd rfl (Or.inl rfl)) (pgs_cons (pg_name (i := 4) nd rfl (Or.inl rfl)) pgs_nil)))))
      (pss_one (ps_ret (pe_op op_add (pv 2) (pe_op op_mulW (pv 3) (pcl G hr (by decide) (by rfl) (pa_cons (pv 0) (pa_cons (pv 1) pa_nil))))))), ?_⟩
    walk_at "rd"
    refine ⟨p, _, rfl, SqT.of hp, rfl, _, _, rfl, _, _, rfl, _, _, rfl, rfl, ?_⟩
    walk_at "rd"
    refine ⟨p, o, s, m, v, rfl, hp, S, hv, fun H' sm => ?_⟩
    walk_at "rd"
    have b1 := fig_bd S hv
    have b2 := S.s0
    have b3 := S.s1
    refine ⟨mulW (by omega) (by omega), ?_⟩
    walk_at "rd"
    exact q H' sm
end
end HT
namespace HT
open PySem L2
theorem all_mk {l : PySem.W.OpenLaw} {w : World} {K : PySem.W.Frag} {h : Heap} {mg : Str → Option Value} {fa aM aR c0 cT f_is_int f_is_int_between f_check_value f_check_side f_is_side f_figure_of f_figure f_goes_up f_written f_stands f_span f_uspan f_below f_threshold f_check_sides f_period_of f_common_period f_once f_order_matters f_orders f_ends f_exchange f_first_at f_along f_check_numbers f_L_source f_L_draw f_L_pick f_L_divisor f_L_great f_L_small_side f_L_figure f_L_handed f_L_period f_L_set f_L_orders f_L_due f_L_matters f_L_word f_L_fits f_law : Addr} (X : K.In h) (G : h.Ns mainGlobals mg) (hfa : mg "law" = some (.ref fa))
    {odM od_is_int an_is_int od_is_int_between an_is_int_between od_check_value an_check_value od_check_side an_check_side od_is_side an_is_side od_figure_of an_figure_of od_figure an_figure od_goes_up an_goes_up od_written an_written od_stands an_stands od_span an_span od_uspan an_uspan od_below an_below od_threshold an_threshold od_check_sides an_check_sides od_period_of an_period_of od_common_period an_common_period od_once an_once od_order_matters an_order_matters od_orders an_orders od_ends an_ends od_exchange an_exchange od_first_at an_first_at od_along an_along od_check_numbers an_check_numbers od_L_source an_L_source od_L_draw an_L_draw od_L_pick an_L_pick od_L_divisor an_L_divisor od_L_great an_L_great od_L_small_side an_L_small_side od_L_figure an_L_figure od_L_handed an_L_handed od_L_period an_L_period od_L_set an_L_set od_L_orders an_L_orders od_L_due an_L_due od_L_matters an_L_matters od_L_word an_L_word od_L_fits an_L_fits od_law an_law : Option Addr} {slM sl_is_int sl_is_int_between sl_check_value sl_check_side sl_is_side sl_figure_of sl_figure sl_goes_up sl_written sl_stands sl_span sl_uspan sl_below sl_threshold sl_check_sides sl_period_of sl_common_period sl_once sl_order_matters sl_orders sl_ends sl_exchange sl_first_at sl_along sl_check_numbers sl_L_source sl_L_draw sl_L_pick sl_L_divisor sl_L_great sl_L_small_side sl_L_figure sl_L_handed sl_L_period sl_L_set sl_L_orders sl_L_due sl_L_matters sl_L_word sl_L_fits sl_law : Array (Option Value)} {nM nR : Nat} {itsM : Array Value} {esR : Array DictEntry} {tMS tMH tMP : Tok} {u_down u_up u_half_down u_half_up u_half_even oc_is_int kV_is_int dc_is_int pm_is_int cd_is_int ct_is_int oc_is_int_between kV_is_int_between dc_is_int_between pm_is_int_between cd_is_int_between ct_is_int_between oc_check_value kV_check_value dc_check_value pm_check_value cd_check_value ct_check_value oc_check_side kV_check_side dc_check_side pm_check_side cd_check_side ct_check_side oc_is_side kV_is_side dc_is_side pm_is_side cd_is_side ct_is_side oc_figure_of kV_figure_of dc_figure_of pm_figure_of cd_figure_of ct_figure_of oc_figure kV_figure dc_figure pm_figure cd_figure ct_figure oc_goes_up kV_goes_up dc_goes_up pm_goes_up cd_goes_up ct_goes_up oc_written kV_written dc_written pm_written cd_written ct_written oc_stands kV_stands dc_stands pm_stands cd_stands ct_stands oc_span kV_span dc_span pm_span cd_span ct_span oc_uspan kV_uspan dc_uspan pm_uspan cd_uspan ct_uspan oc_below kV_below dc_below pm_below cd_below ct_below oc_threshold kV_threshold dc_threshold pm_threshold cd_threshold ct_threshold oc_check_sides kV_check_sides dc_check_sides pm_check_sides cd_check_sides ct_check_sides oc_period_of kV_period_of dc_period_of pm_period_of cd_period_of ct_period_of oc_common_period kV_common_period dc_common_period pm_common_period cd_common_period ct_common_period oc_once kV_once dc_once pm_once cd_once ct_once oc_order_matters kV_order_matters dc_order_matters pm_order_matters cd_order_matters ct_order_matters oc_orders kV_orders dc_orders pm_orders cd_orders ct_orders oc_ends kV_ends dc_ends pm_ends cd_ends ct_ends oc_exchange kV_exchange dc_exchange pm_exchange cd_exchange ct_exchange oc_first_at kV_first_at dc_first_at pm_first_at cd_first_at ct_first_at oc_along kV_along dc_along pm_along cd_along ct_along oc_check_numbers kV_check_numbers dc_check_numbers pm_check_numbers cd_check_numbers ct_check_numbers oc_L_source kV_L_source dc_L_source pm_L_source cd_L_source ct_L_source oc_L_draw kV_L_draw dc_L_draw pm_L_draw cd_L_draw ct_L_draw oc_L_pick kV_L_pick dc_L_pick pm_L_pick cd_L_pick ct_L_pick oc_L_divisor kV_L_divisor dc_L_divisor pm_L_divisor cd_L_divisor ct_L_divisor oc_L_great kV_L_great dc_L_great pm_L_great cd_L_great ct_L_great oc_L_small_side kV_L_small_side dc_L_small_side pm_L_small_side cd_L_small_side ct_L_small_side oc_L_figure kV_L_figure dc_L_figure pm_L_figure cd_L_figure ct_L_figure oc_L_handed kV_L_handed dc_L_handed pm_L_handed cd_L_handed ct_L_handed oc_L_period kV_L_period dc_L_period pm_L_period cd_L_period ct_L_period oc_L_set kV_L_set dc_L_set pm_L_set cd_L_set ct_L_set oc_L_orders kV_L_orders dc_L_orders pm_L_orders cd_L_orders ct_L_orders oc_L_due kV_L_due dc_L_due pm_L_due cd_L_due ct_L_due oc_L_matters kV_L_matters dc_L_matters pm_L_matters cd_L_matters ct_L_matters oc_L_word kV_L_word dc_L_word pm_L_word cd_L_word ct_L_word oc_L_fits kV_L_fits dc_L_fits pm_L_fits cd_L_fits ct_L_fits oc_law kV_law dc_law pm_law cd_law ct_law : Value}
    (a_is_int : PySem.W.nsIn K mainGlobals "is_int" = some (some (.ref f_is_int)))
    (l_is_int : K.lookup f_is_int = some ⟨oc_is_int, od_is_int, .func (PySem.W.fnOf "is_int" "is_int" (defArgs s_is_int) (defBody s_is_int) (defScope s_is_int) .none kV_is_int dc_is_int pm_is_int an_is_int cd_is_int ct_is_int), sl_is_int⟩)
    (c_is_int : PySem.W.codeIn K cd_is_int "is_int" = true) (k_is_int : PySem.W.keepIn K (.ref f_is_int) = true)
    (a_is_int_between : PySem.W.nsIn K mainGlobals "is_int_between" = some (some (.ref f_is_int_between)))
    (l_is_int_between : K.lookup f_is_int_between = some ⟨oc_is_int_between, od_is_int_between, .func (PySem.W.fnOf "is_int_between" "is_int_between" (defArgs s_is_int_between) (defBody s_is_int_between) (defScope s_is_int_between) .none kV_is_int_between dc_is_int_between pm_is_int_between an_is_int_between cd_is_int_between ct_is_int_between), sl_is_int_between⟩)
    (c_is_int_between : PySem.W.codeIn K cd_is_int_between "is_int_between" = true) (k_is_int_between : PySem.W.keepIn K (.ref f_is_int_between) = true)
    (a_check_value : PySem.W.nsIn K mainGlobals "check_value" = some (some (.ref f_check_value)))
    (l_check_value : K.lookup f_check_value = some ⟨oc_check_value, od_check_value, .func (PySem.W.fnOf "check_value" "check_value" (defArgs s_check_value) (defBody s_check_value) (defScope s_check_value) .none kV_check_value dc_check_value pm_check_value an_check_value cd_check_value ct_check_value), sl_check_value⟩)
    (c_check_value : PySem.W.codeIn K cd_check_value "check_value" = true) (k_check_value : PySem.W.keepIn K (.ref f_check_value) = true)
    (a_check_side : PySem.W.nsIn K mainGlobals "check_side" = some (some (.ref f_check_side)))
    (l_check_side : K.lookup f_check_side = some ⟨oc_check_side, od_check_side, .func (PySem.W.fnOf "check_side" "check_side" (defArgs s_check_side) (defBody s_check_side) (defScope s_check_side) .none kV_check_side dc_check_side pm_check_side an_check_side cd_check_side ct_check_side), sl_check_side⟩)
    (c_check_side : PySem.W.codeIn K cd_check_side "check_side" = true) (k_check_side : PySem.W.keepIn K (.ref f_check_side) = true)
    (a_is_side : PySem.W.nsIn K mainGlobals "is_side" = some (some (.ref f_is_side)))
    (l_is_side : K.lookup f_is_side = some ⟨oc_is_side, od_is_side, .func (PySem.W.fnOf "is_side" "is_side" (defArgs s_is_side) (defBody s_is_side) (defScope s_is_side) .none kV_is_side dc_is_side pm_is_side an_is_side cd_is_side ct_is_side), sl_is_side⟩)
    (c_is_side : PySem.W.codeIn K cd_is_side "is_side" = true) (k_is_side : PySem.W.keepIn K (.ref f_is_side) = true)
    (a_figure_of : PySem.W.nsIn K mainGlobals "figure_of" = some (some (.ref f_figure_of)))
    (l_figure_of : K.lookup f_figure_of = some ⟨oc_figure_of, od_figure_of, .func (PySem.W.fnOf "figure_of" "figure_of" (defArgs s_figure_of) (defBody s_figure_of) (defScope s_figure_of) .none kV_figure_of dc_figure_of pm_figure_of an_figure_of cd_figure_of ct_figure_of), sl_figure_of⟩)
    (c_figure_of : PySem.W.codeIn K cd_figure_of "figure_of" = true) (k_figure_of : PySem.W.keepIn K (.ref f_figure_of) = true)
    (a_figure : PySem.W.nsIn K mainGlobals "_figure" = some (some (.ref f_figure)))
    (l_figure : K.lookup f_figure = some ⟨oc_figure, od_figure, .func (PySem.W.fnOf "_figure" "_figure" (defArgs s_figure) (defBody s_figure) (defScope s_figure) .none kV_figure dc_figure pm_figure an_figure cd_figure ct_figure), sl_figure⟩)
    (c_figure : PySem.W.codeIn K cd_figure "_figure" = true) (k_figure : PySem.W.keepIn K (.ref f_figure) = true)
    (a_goes_up : PySem.W.nsIn K mainGlobals "_goes_up" = some (some (.ref f_goes_up)))
    (l_goes_up : K.lookup f_goes_up = some ⟨oc_goes_up, od_goes_up, .func (PySem.W.fnOf "_goes_up" "_goes_up" (defArgs s_goes_up) (defBody s_goes_up) (defScope s_goes_up) .none kV_goes_up dc_goes_up pm_goes_up an_goes_up cd_goes_up ct_goes_up), sl_goes_up⟩)
    (c_goes_up : PySem.W.codeIn K cd_goes_up "_goes_up" = true) (k_goes_up : PySem.W.keepIn K (.ref f_goes_up) = true)
    (a_written : PySem.W.nsIn K mainGlobals "written" = some (some (.ref f_written)))
    (l_written : K.lookup f_written = some ⟨oc_written, od_written, .func (PySem.W.fnOf "written" "written" (defArgs s_written) (defBody s_written) (defScope s_written) .none kV_written dc_written pm_written an_written cd_written ct_written), sl_written⟩)
    (c_written : PySem.W.codeIn K cd_written "written" = true) (k_written : PySem.W.keepIn K (.ref f_written) = true)
    (a_stands : PySem.W.nsIn K mainGlobals "stands" = some (some (.ref f_stands)))
    (l_stands : K.lookup f_stands = some ⟨oc_stands, od_stands, .func (PySem.W.fnOf "stands" "stands" (defArgs s_stands) (defBody s_stands) (defScope s_stands) .none kV_stands dc_stands pm_stands an_stands cd_stands ct_stands), sl_stands⟩)
    (c_stands : PySem.W.codeIn K cd_stands "stands" = true) (k_stands : PySem.W.keepIn K (.ref f_stands) = true)
    (a_span : PySem.W.nsIn K mainGlobals "span" = some (some (.ref f_span)))
    (l_span : K.lookup f_span = some ⟨oc_span, od_span, .func (PySem.W.fnOf "span" "span" (defArgs s_span) (defBody s_span) (defScope s_span) .none kV_span dc_span pm_span an_span cd_span ct_span), sl_span⟩)
    (c_span : PySem.W.codeIn K cd_span "span" = true) (k_span : PySem.W.keepIn K (.ref f_span) = true)
    (a_uspan : PySem.W.nsIn K mainGlobals "_span" = some (some (.ref f_uspan)))
    (l_uspan : K.lookup f_uspan = some ⟨oc_uspan, od_uspan, .func (PySem.W.fnOf "_span" "_span" (defArgs s_uspan) (defBody s_uspan) (defScope s_uspan) .none kV_uspan dc_uspan pm_uspan an_uspan cd_uspan ct_uspan), sl_uspan⟩)
    (c_uspan : PySem.W.codeIn K cd_uspan "_span" = true) (k_uspan : PySem.W.keepIn K (.ref f_uspan) = true)
    (a_below : PySem.W.nsIn K mainGlobals "_below" = some (some (.ref f_below)))
    (l_below : K.lookup f_below = some ⟨oc_below, od_below, .func (PySem.W.fnOf "_below" "_below" (defArgs s_below) (defBody s_below) (defScope s_below) .none kV_below dc_below pm_below an_below cd_below ct_below), sl_below⟩)
    (c_below : PySem.W.codeIn K cd_below "_below" = true) (k_below : PySem.W.keepIn K (.ref f_below) = true)
    (a_threshold : PySem.W.nsIn K mainGlobals "threshold" = some (some (.ref f_threshold)))
    (l_threshold : K.lookup f_threshold = some ⟨oc_threshold, od_threshold, .func (PySem.W.fnOf "threshold" "threshold" (defArgs s_threshold) (defBody s_threshold) (defScope s_threshold) .none kV_threshold dc_threshold pm_threshold an_threshold cd_threshold ct_threshold), sl_threshold⟩)
    (c_threshold : PySem.W.codeIn K cd_threshold "threshold" = true) (k_threshold : PySem.W.keepIn K (.ref f_threshold) = true)
    (a_check_sides : PySem.W.nsIn K mainGlobals "check_sides" = some (some (.ref f_check_sides)))
    (l_check_sides : K.lookup f_check_sides = some ⟨oc_check_sides, od_check_sides, .func (PySem.W.fnOf "check_sides" "check_sides" (defArgs s_check_sides) (defBody s_check_sides) (defScope s_check_sides) .none kV_check_sides dc_check_sides pm_check_sides an_check_sides cd_check_sides ct_check_sides), sl_check_sides⟩)
    (c_check_sides : PySem.W.codeIn K cd_check_sides "check_sides" = true) (k_check_sides : PySem.W.keepIn K (.ref f_check_sides) = true)
    (a_period_of : PySem.W.nsIn K mainGlobals "period_of" = some (some (.ref f_period_of)))
    (l_period_of : K.lookup f_period_of = some ⟨oc_period_of, od_period_of, .func (PySem.W.fnOf "period_of" "period_of" (defArgs s_period_of) (defBody s_period_of) (defScope s_period_of) .none kV_period_of dc_period_of pm_period_of an_period_of cd_period_of ct_period_of), sl_period_of⟩)
    (c_period_of : PySem.W.codeIn K cd_period_of "period_of" = true) (k_period_of : PySem.W.keepIn K (.ref f_period_of) = true)
    (a_common_period : PySem.W.nsIn K mainGlobals "common_period" = some (some (.ref f_common_period)))
    (l_common_period : K.lookup f_common_period = some ⟨oc_common_period, od_common_period, .func (PySem.W.fnOf "common_period" "common_period" (defArgs s_common_period) (defBody s_common_period) (defScope s_common_period) .none kV_common_period dc_common_period pm_common_period an_common_period cd_common_period ct_common_period), sl_common_period⟩)
    (c_common_period : PySem.W.codeIn K cd_common_period "common_period" = true) (k_common_period : PySem.W.keepIn K (.ref f_common_period) = true)
    (a_once : PySem.W.nsIn K mainGlobals "once" = some (some (.ref f_once)))
    (l_once : K.lookup f_once = some ⟨oc_once, od_once, .func (PySem.W.fnOf "once" "once" (defArgs s_once) (defBody s_once) (defScope s_once) .none kV_once dc_once pm_once an_once cd_once ct_once), sl_once⟩)
    (c_once : PySem.W.codeIn K cd_once "once" = true) (k_once : PySem.W.keepIn K (.ref f_once) = true)
    (a_order_matters : PySem.W.nsIn K mainGlobals "order_matters" = some (some (.ref f_order_matters)))
    (l_order_matters : K.lookup f_order_matters = some ⟨oc_order_matters, od_order_matters, .func (PySem.W.fnOf "order_matters" "order_matters" (defArgs s_order_matters) (defBody s_order_matters) (defScope s_order_matters) .none kV_order_matters dc_order_matters pm_order_matters an_order_matters cd_order_matters ct_order_matters), sl_order_matters⟩)
    (c_order_matters : PySem.W.codeIn K cd_order_matters "order_matters" = true) (k_order_matters : PySem.W.keepIn K (.ref f_order_matters) = true)
    (a_orders : PySem.W.nsIn K mainGlobals "_orders" = some (some (.ref f_orders)))
    (l_orders : K.lookup f_orders = some ⟨oc_orders, od_orders, .func (PySem.W.fnOf "_orders" "_orders" (defArgs s_orders) (defBody s_orders) (defScope s_orders) .none kV_orders dc_orders pm_orders an_orders cd_orders ct_orders), sl_orders⟩)
    (c_orders : PySem.W.codeIn K cd_orders "_orders" = true) (k_orders : PySem.W.keepIn K (.ref f_orders) = true)
    (a_ends : PySem.W.nsIn K mainGlobals "_ends" = some (some (.ref f_ends)))
    (l_ends : K.lookup f_ends = some ⟨oc_ends, od_ends, .func (PySem.W.fnOf "_ends" "_ends" (defArgs s_ends) (defBody s_ends) (defScope s_ends) .none kV_ends dc_ends pm_ends an_ends cd_ends ct_ends), sl_ends⟩)
    (c_ends : PySem.W.codeIn K cd_ends "_ends" = true) (k_ends : PySem.W.keepIn K (.ref f_ends) = true)
    (a_exchange : PySem.W.nsIn K mainGlobals "exchange" = some (some (.ref f_exchange)))
    (l_exchange : K.lookup f_exchange = some ⟨oc_exchange, od_exchange, .func (PySem.W.fnOf "exchange" "exchange" (defArgs s_exchange) (defBody s_exchange) (defScope s_exchange) .none kV_exchange dc_exchange pm_exchange an_exchange cd_exchange ct_exchange), sl_exchange⟩)
    (c_exchange : PySem.W.codeIn K cd_exchange "exchange" = true) (k_exchange : PySem.W.keepIn K (.ref f_exchange) = true)
    (a_first_at : PySem.W.nsIn K mainGlobals "_first_at" = some (some (.ref f_first_at)))
    (l_first_at : K.lookup f_first_at = some ⟨oc_first_at, od_first_at, .func (PySem.W.fnOf "_first_at" "_first_at" (defArgs s_first_at) (defBody s_first_at) (defScope s_first_at) .none kV_first_at dc_first_at pm_first_at an_first_at cd_first_at ct_first_at), sl_first_at⟩)
    (c_first_at : PySem.W.codeIn K cd_first_at "_first_at" = true) (k_first_at : PySem.W.keepIn K (.ref f_first_at) = true)
    (a_along : PySem.W.nsIn K mainGlobals "along" = some (some (.ref f_along)))
    (l_along : K.lookup f_along = some ⟨oc_along, od_along, .func (PySem.W.fnOf "along" "along" (defArgs s_along) (defBody s_along) (defScope s_along) .none kV_along dc_along pm_along an_along cd_along ct_along), sl_along⟩)
    (c_along : PySem.W.codeIn K cd_along "along" = true) (k_along : PySem.W.keepIn K (.ref f_along) = true)
    (a_check_numbers : PySem.W.nsIn K mainGlobals "_check_numbers" = some (some (.ref f_check_numbers)))
    (l_check_numbers : K.lookup f_check_numbers = some ⟨oc_check_numbers, od_check_numbers, .func (PySem.W.fnOf "_check_numbers" "_check_numbers" (defArgs s_check_numbers) (defBody s_check_numbers) (defScope s_check_numbers) .none kV_check_numbers dc_check_numbers pm_check_numbers an_check_numbers cd_check_numbers ct_check_numbers), sl_check_numbers⟩)
    (c_check_numbers : PySem.W.codeIn K cd_check_numbers "_check_numbers" = true) (k_check_numbers : PySem.W.keepIn K (.ref f_check_numbers) = true)
    (a_L_source : PySem.W.nsIn K mainGlobals "_law_source" = some (some (.ref f_L_source)))
    (l_L_source : K.lookup f_L_source = some ⟨oc_L_source, od_L_source, .func (PySem.W.fnOf "_law_source" "_law_source" (defArgs s_L_source) (defBody s_L_source) (defScope s_L_source) .none kV_L_source dc_L_source pm_L_source an_L_source cd_L_source ct_L_source), sl_L_source⟩)
    (c_L_source : PySem.W.codeIn K cd_L_source "_law_source" = true) (k_L_source : PySem.W.keepIn K (.ref f_L_source) = true)
    (a_L_draw : PySem.W.nsIn K mainGlobals "_law_draw" = some (some (.ref f_L_draw)))
    (l_L_draw : K.lookup f_L_draw = some ⟨oc_L_draw, od_L_draw, .func (PySem.W.fnOf "_law_draw" "_law_draw" (defArgs s_L_draw) (defBody s_L_draw) (defScope s_L_draw) .none kV_L_draw dc_L_draw pm_L_draw an_L_draw cd_L_draw ct_L_draw), sl_L_draw⟩)
    (c_L_draw : PySem.W.codeIn K cd_L_draw "_law_draw" = true) (k_L_draw : PySem.W.keepIn K (.ref f_L_draw) = true)
    (a_L_pick : PySem.W.nsIn K mainGlobals "_law_pick" = some (some (.ref f_L_pick)))
    (l_L_pick : K.lookup f_L_pick = some ⟨oc_L_pick, od_L_pick, .func (PySem.W.fnOf "_law_pick" "_law_pick" (defArgs s_L_pick) (defBody s_L_pick) (defScope s_L_pick) .none kV_L_pick dc_L_pick pm_L_pick an_L_pick cd_L_pick ct_L_pick), sl_L_pick⟩)
    (c_L_pick : PySem.W.codeIn K cd_L_pick "_law_pick" = true) (k_L_pick : PySem.W.keepIn K (.ref f_L_pick) = true)
    (a_L_divisor : PySem.W.nsIn K mainGlobals "_law_divisor" = some (some (.ref f_L_divisor)))
    (l_L_divisor : K.lookup f_L_divisor = some ⟨oc_L_divisor, od_L_divisor, .func (PySem.W.fnOf "_law_divisor" "_law_divisor" (defArgs s_L_divisor) (defBody s_L_divisor) (defScope s_L_divisor) .none kV_L_divisor dc_L_divisor pm_L_divisor an_L_divisor cd_L_divisor ct_L_divisor), sl_L_divisor⟩)
    (c_L_divisor : PySem.W.codeIn K cd_L_divisor "_law_divisor" = true) (k_L_divisor : PySem.W.keepIn K (.ref f_L_divisor) = true)
    (a_L_great : PySem.W.nsIn K mainGlobals "_law_great" = some (some (.ref f_L_great)))
    (l_L_great : K.lookup f_L_great = some ⟨oc_L_great, od_L_great, .func (PySem.W.fnOf "_law_great" "_law_great" (defArgs s_L_great) (defBody s_L_great) (defScope s_L_great) .none kV_L_great dc_L_great pm_L_great an_L_great cd_L_great ct_L_great), sl_L_great⟩)
    (c_L_great : PySem.W.codeIn K cd_L_great "_law_great" = true) (k_L_great : PySem.W.keepIn K (.ref f_L_great) = true)
    (a_L_small_side : PySem.W.nsIn K mainGlobals "_law_small_side" = some (some (.ref f_L_small_side)))
    (l_L_small_side : K.lookup f_L_small_side = some ⟨oc_L_small_side, od_L_small_side, .func (PySem.W.fnOf "_law_small_side" "_law_small_side" (defArgs s_L_small_side) (defBody s_L_small_side) (defScope s_L_small_side) .none kV_L_small_side dc_L_small_side pm_L_small_side an_L_small_side cd_L_small_side ct_L_small_side), sl_L_small_side⟩)
    (c_L_small_side : PySem.W.codeIn K cd_L_small_side "_law_small_side" = true) (k_L_small_side : PySem.W.keepIn K (.ref f_L_small_side) = true)
    (a_L_figure : PySem.W.nsIn K mainGlobals "_law_figure" = some (some (.ref f_L_figure)))
    (l_L_figure : K.lookup f_L_figure = some ⟨oc_L_figure, od_L_figure, .func (PySem.W.fnOf "_law_figure" "_law_figure" (defArgs s_L_figure) (defBody s_L_figure) (defScope s_L_figure) .none kV_L_figure dc_L_figure pm_L_figure an_L_figure cd_L_figure ct_L_figure), sl_L_figure⟩)
    (c_L_figure : PySem.W.codeIn K cd_L_figure "_law_figure" = true) (k_L_figure : PySem.W.keepIn K (.ref f_L_figure) = true)
    (a_L_handed : PySem.W.nsIn K mainGlobals "_law_handed" = some (some (.ref f_L_handed)))
    (l_L_handed : K.lookup f_L_handed = some ⟨oc_L_handed, od_L_handed, .func (PySem.W.fnOf "_law_handed" "_law_handed" (defArgs s_L_handed) (defBody s_L_handed) (defScope s_L_handed) .none kV_L_handed dc_L_handed pm_L_handed an_L_handed cd_L_handed ct_L_handed), sl_L_handed⟩)
    (c_L_handed : PySem.W.codeIn K cd_L_handed "_law_handed" = true) (k_L_handed : PySem.W.keepIn K (.ref f_L_handed) = true)
    (a_L_period : PySem.W.nsIn K mainGlobals "_law_period" = some (some (.ref f_L_period)))
    (l_L_period : K.lookup f_L_period = some ⟨oc_L_period, od_L_period, .func (PySem.W.fnOf "_law_period" "_law_period" (defArgs s_L_period) (defBody s_L_period) (defScope s_L_period) .none kV_L_period dc_L_period pm_L_period an_L_period cd_L_period ct_L_period), sl_L_period⟩)
    (c_L_period : PySem.W.codeIn K cd_L_period "_law_period" = true) (k_L_period : PySem.W.keepIn K (.ref f_L_period) = true)
    (a_L_set : PySem.W.nsIn K mainGlobals "_law_set" = some (some (.ref f_L_set)))
    (l_L_set : K.lookup f_L_set = some ⟨oc_L_set, od_L_set, .func (PySem.W.fnOf "_law_set" "_law_set" (defArgs s_L_set) (defBody s_L_set) (defScope s_L_set) .none kV_L_set dc_L_set pm_L_set an_L_set cd_L_set ct_L_set), sl_L_set⟩)
    (c_L_set : PySem.W.codeIn K cd_L_set "_law_set" = true) (k_L_set : PySem.W.keepIn K (.ref f_L_set) = true)
    (a_L_orders : PySem.W.nsIn K mainGlobals "_law_orders" = some (some (.ref f_L_orders)))
    (l_L_orders : K.lookup f_L_orders = some ⟨oc_L_orders, od_L_orders, .func (PySem.W.fnOf "_law_orders" "_law_orders" (defArgs s_L_orders) (defBody s_L_orders) (defScope s_L_orders) .none kV_L_orders dc_L_orders pm_L_orders an_L_orders cd_L_orders ct_L_orders), sl_L_orders⟩)
    (c_L_orders : PySem.W.codeIn K cd_L_orders "_law_orders" = true) (k_L_orders : PySem.W.keepIn K (.ref f_L_orders) = true)
    (a_L_due : PySem.W.nsIn K mainGlobals "_law_due" = some (some (.ref f_L_due)))
    (l_L_due : K.lookup f_L_due = some ⟨oc_L_due, od_L_due, .func (PySem.W.fnOf "_law_due" "_law_due" (defArgs s_L_due) (defBody s_L_due) (defScope s_L_due) .none kV_L_due dc_L_due pm_L_due an_L_due cd_L_due ct_L_due), sl_L_due⟩)
    (c_L_due : PySem.W.codeIn K cd_L_due "_law_due" = true) (k_L_due : PySem.W.keepIn K (.ref f_L_due) = true)
    (a_L_matters : PySem.W.nsIn K mainGlobals "_law_matters" = some (some (.ref f_L_matters)))
    (l_L_matters : K.lookup f_L_matters = some ⟨oc_L_matters, od_L_matters, .func (PySem.W.fnOf "_law_matters" "_law_matters" (defArgs s_L_matters) (defBody s_L_matters) (defScope s_L_matters) .none kV_L_matters dc_L_matters pm_L_matters an_L_matters cd_L_matters ct_L_matters), sl_L_matters⟩)
    (c_L_matters : PySem.W.codeIn K cd_L_matters "_law_matters" = true) (k_L_matters : PySem.W.keepIn K (.ref f_L_matters) = true)
    (a_L_word : PySem.W.nsIn K mainGlobals "_law_word" = some (some (.ref f_L_word)))
    (l_L_word : K.lookup f_L_word = some ⟨oc_L_word, od_L_word, .func (PySem.W.fnOf "_law_word" "_law_word" (defArgs s_L_word) (defBody s_L_word) (defScope s_L_word) .none kV_L_word dc_L_word pm_L_word an_L_word cd_L_word ct_L_word), sl_L_word⟩)
    (c_L_word : PySem.W.codeIn K cd_L_word "_law_word" = true) (k_L_word : PySem.W.keepIn K (.ref f_L_word) = true)
    (a_L_fits : PySem.W.nsIn K mainGlobals "_law_fits" = some (some (.ref f_L_fits)))
    (l_L_fits : K.lookup f_L_fits = some ⟨oc_L_fits, od_L_fits, .func (PySem.W.fnOf "_law_fits" "_law_fits" (defArgs s_L_fits) (defBody s_L_fits) (defScope s_L_fits) .none kV_L_fits dc_L_fits pm_L_fits an_L_fits cd_L_fits ct_L_fits), sl_L_fits⟩)
    (c_L_fits : PySem.W.codeIn K cd_L_fits "_law_fits" = true) (k_L_fits : PySem.W.keepIn K (.ref f_L_fits) = true)
    (a_law : PySem.W.nsIn K mainGlobals "law" = some (some (.ref f_law)))
    (l_law : K.lookup f_law = some ⟨oc_law, od_law, .func (PySem.W.fnOf "law" "law" (defArgs s_law) (defBody s_law) (defScope s_law) .none kV_law dc_law pm_law an_law cd_law ct_law), sl_law⟩)
    (c_law : PySem.W.codeIn K cd_law "law" = true) (k_law : PySem.W.keepIn K (.ref f_law) = true)
    (z_len : PySem.W.nsIn K mainGlobals "len" = some none)
    (z_abs : PySem.W.nsIn K mainGlobals "abs" = some none)
    (z_int : PySem.W.nsIn K mainGlobals "int" = some none)
    (z_range : PySem.W.nsIn K mainGlobals "range" = some none)
    (z_isinstance : PySem.W.nsIn K mainGlobals "isinstance" = some none)
    (z_bool : PySem.W.nsIn K mainGlobals "bool" = some none)
    (z_tuple : PySem.W.nsIn K mainGlobals "tuple" = some none)
    (z_divmod : PySem.W.nsIn K mainGlobals "divmod" = some none)
    (z_max : PySem.W.nsIn K mainGlobals "max" = some none)
    (z_min : PySem.W.nsIn K mainGlobals "min" = some none)
    (z_list : PySem.W.nsIn K mainGlobals "list" = some none)
    (z_sorted : PySem.W.nsIn K mainGlobals "sorted" = some none)
    (g_0 : PySem.W.nsIn K mainGlobals "InvalidSide" = some (some (.ref c0)))
    (g_T : PySem.W.nsIn K mainGlobals "TooMany" = some (some (.ref cT)))
    (x_T : PySem.W.excIn K cT [.type "ValueError", .type "Exception", .type "BaseException", .type "object"] "ValueError.__new__" = true)
    (kp_T : PySem.W.keepIn K (.ref cT) = true)
    (sb_T : PySem.W.subIn K (.ref cT) (.type "BaseException") = some true)
    (ty_T : PySem.W.typeIn K (.ref cT) = some (.type "type"))
    (em_T : PySem.W.exmOne K (.ref cT) (.ref cT) = some true)
    (a_MS : PySem.W.nsIn K mainGlobals "MOST_SIDES" = some (some (.int 4 tMS)))
    (a_MH : PySem.W.nsIn K mainGlobals "MOST_HANDOVERS" = some (some (.int 1000 tMH)))
    (a_MP : PySem.W.nsIn K mainGlobals "MOST_PERIOD_OF_ORDERS" = some (some (.int 2000 tMP)))
    (a_lcm : PySem.W.nsIn K mainGlobals "lcm" = some (some (.builtin "math.lcm")))
    (a_MODES : PySem.W.nsIn K mainGlobals "MODES" = some (some (.ref aM)))
    (l_MODES : K.lookup aM = some ⟨.type "tuple", odM, .seq itsM nM, slM⟩)
    (v_MODES : itsM.size ≤ sizeLine ∧ Vals modesV itsM.toList)
    (a_MIR : PySem.W.nsIn K mainGlobals "MIRRORED" = some (some (.ref aR)))
    (l_MIR : K.lookup aR = some ⟨.type "dict", none, .dict esR nR, #[]⟩)
    (h_MIR : PySem.W.KeysLit w.params esR.toList)
    (d_down : PySem.W.nsIn K aR "down" = some (some u_down)) (r_down : RelV (.str "up") u_down)
    (d_up : PySem.W.nsIn K aR "up" = some (some u_up)) (r_up : RelV (.str "down") u_up)
    (d_half_down : PySem.W.nsIn K aR "half_down" = some (some u_half_down)) (r_half_down : RelV (.str "half_up") u_half_down)
    (d_half_up : PySem.W.nsIn K aR "half_up" = some (some u_half_up)) (r_half_up : RelV (.str "half_down") u_half_up)
    (d_half_even : PySem.W.nsIn K aR "half_even" = some (some u_half_even)) (r_half_even : RelV (.str "half_even") u_half_even) :
    ∃ fd : FuncData, (∀ (s : Shared) (v : Value), BindsTo s fd ⟨[v], []⟩ [("_law_script", v)]) ∧ ∀ base : Heap, K.In base → base.Ns mainGlobals mg → FnOk l.prog w K mg base CX0 8 fa fd ["_law_script"] (spLaw K) := by
  have e := hfa.symm.trans (PySem.W.mg_of X G a_law)
  cases e
  have F_is_int := fun_mk (st := s_is_int) l_is_int c_is_int k_is_int
  have b_is_int := F_is_int.binds (ps := ["thing"]) fun _ _ _ _ _ _ us hl => match us, hl with | [_], _ => rfl
  have m_is_int := PySem.W.mg_of X G a_is_int
  have F_is_int_between := fun_mk (st := s_is_int_between) l_is_int_between c_is_int_between k_is_int_between
  have b_is_int_between := F_is_int_between.binds (ps := ["thing", "least", "most"]) fun _ _ _ _ _ _ us hl => match us, hl with | [_, _, _], _ => rfl
  have m_is_int_between := PySem.W.mg_of X G a_is_int_between
  have F_check_value := fun_mk (st := s_check_value) l_check_value c_check_value k_check_value
  have b_check_value := F_check_value.binds (ps := ["value"]) fun _ _ _ _ _ _ us hl => match us, hl with | [_], _ => rfl
  have m_check_value := PySem.W.mg_of X G a_check_value
  have F_check_side := fun_mk (st := s_check_side) l_check_side c_check_side k_check_side
  have b_check_side := F_check_side.binds (ps := ["side"]) fun _ _ _ _ _ _ us hl => match us, hl with | [_], _ => rfl
  have m_check_side := PySem.W.mg_of X G a_check_side
  have F_is_side := fun_mk (st := s_is_side) l_is_side c_is_side k_is_side
  have b_is_side := F_is_side.binds (ps := ["thing"]) fun _ _ _ _ _ _ us hl => match us, hl with | [_], _ => rfl
  have m_is_side := PySem.W.mg_of X G a_is_side
  have F_figure_of := fun_mk (st := s_figure_of) l_figure_of c_figure_of k_figure_of
  have b_figure_of := F_figure_of.binds (ps := ["side", "value"]) fun _ _ _ _ _ _ us hl => match us, hl with | [_, _], _ => rfl
  have m_figure_of := PySem.W.mg_of X G a_figure_of
  have F_figure := fun_mk (st := s_figure) l_figure c_figure k_figure
  have b_figure := F_figure.binds (ps := ["side", "value"]) fun _ _ _ _ _ _ us hl => match us, hl with | [_, _], _ => rfl
  have m_figure := PySem.W.mg_of X G a_figure
  have F_goes_up := fun_mk (st := s_goes_up) l_goes_up c_goes_up k_goes_up
  have b_goes_up := F_goes_up.binds (ps := ["mode", "step", "figure", "rest"]) fun _ _ _ _ _ _ us hl => match us, hl with | [_, _, _, _], _ => rfl
  have m_goes_up := PySem.W.mg_of X G a_goes_up
  have F_written := fun_mk (st := s_written) l_written c_written k_written
  have b_written := F_written.binds (ps := ["side", "value"]) fun _ _ _ _ _ _ us hl => match us, hl with | [_, _], _ => rfl
  have m_written := PySem.W.mg_of X G a_written
  have F_stands := fun_mk (st := s_stands) l_stands c_stands k_stands
  have b_stands := F_stands.binds (ps := ["side", "value"]) fun _ _ _ _ _ _ us hl => match us, hl with | [_, _], _ => rfl
  have m_stands := PySem.W.mg_of X G a_stands
  have F_span := fun_mk (st := s_span) l_span c_span k_span
  have b_span := F_span.binds (ps := ["side", "figure"]) fun _ _ _ _ _ _ us hl => match us, hl with | [_, _], _ => rfl
  have m_span := PySem.W.mg_of X G a_span
  have F_uspan := fun_mk (st := s_uspan) l_uspan c_uspan k_uspan
  have b_uspan := F_uspan.binds (ps := ["side", "figure"]) fun _ _ _ _ _ _ us hl => match us, hl with | [_, _], _ => rfl
  have m_uspan := PySem.W.mg_of X G a_uspan
  have F_below := fun_mk (st := s_below) l_below c_below k_below
  have b_below := F_below.binds (ps := ["mode", "step", "figure"]) fun _ _ _ _ _ _ us hl => match us, hl with | [_, _, _], _ => rfl
  have m_below := PySem.W.mg_of X G a_below
  have F_threshold := fun_mk (st := s_threshold) l_threshold c_threshold k_threshold
  have b_threshold := F_threshold.binds (ps := ["side", "value"]) fun _ _ _ _ _ _ us hl => match us, hl with | [_, _], _ => rfl
  have m_threshold := PySem.W.mg_of X G a_threshold
  have F_check_sides := fun_mk (st := s_check_sides) l_check_sides c_check_sides k_check_sides
  have b_check_sides := F_check_sides.binds (ps := ["sides"]) fun _ _ _ _ _ _ us hl => match us, hl with | [_], _ => rfl
  have m_check_sides := PySem.W.mg_of X G a_check_sides
  have F_period_of := fun_mk (st := s_period_of) l_period_of c_period_of k_period_of
  have b_period_of := F_period_of.binds (ps := ["side"]) fun _ _ _ _ _ _ us hl => match us, hl with | [_], _ => rfl
  have m_period_of := PySem.W.mg_of X G a_period_of
  have F_common_period := fun_mk (st := s_common_period) l_common_period c_common_period k_common_period
  have b_common_period := F_common_period.binds (ps := ["sides"]) fun _ _ _ _ _ _ us hl => match us, hl with | [_], _ => rfl
  have m_common_period := PySem.W.mg_of X G a_common_period
  have F_once := fun_mk (st := s_once) l_once c_once k_once
  have b_once := F_once.binds (ps := ["sides", "value"]) fun _ _ _ _ _ _ us hl => match us, hl with | [_, _], _ => rfl
  have m_once := PySem.W.mg_of X G a_once
  have F_order_matters := fun_mk (st := s_order_matters) l_order_matters c_order_matters k_order_matters
  have b_order_matters := F_order_matters.binds (ps := ["sides", "value"]) fun _ _ _ _ _ _ us hl => match us, hl with | [_, _], _ => rfl
  have m_order_matters := PySem.W.mg_of X G a_order_matters
  have F_orders := fun_mk (st := s_orders) l_orders c_orders k_orders
  have b_orders := F_orders.binds (ps := ["many"]) fun _ _ _ _ _ _ us hl => match us, hl with | [_], _ => rfl
  have m_orders := PySem.W.mg_of X G a_orders
  have F_ends := fun_mk (st := s_ends) l_ends c_ends k_ends
  have b_ends := F_ends.binds (ps := ["sides", "orders", "value"]) fun _ _ _ _ _ _ us hl => match us, hl with | [_, _, _], _ => rfl
  have m_ends := PySem.W.mg_of X G a_ends
  have F_exchange := fun_mk (st := s_exchange) l_exchange c_exchange k_exchange
  have b_exchange := F_exchange.binds (ps := ["first", "second", "value"]) fun _ _ _ _ _ _ us hl => match us, hl with | [_, _, _], _ => rfl
  have m_exchange := PySem.W.mg_of X G a_exchange
  have F_first_at := fun_mk (st := s_first_at) l_first_at c_first_at k_first_at
  have b_first_at := F_first_at.binds (ps := ["wide", "narrow", "figure", "value"]) fun _ _ _ _ _ _ us hl => match us, hl with | [_, _, _, _], _ => rfl
  have m_first_at := PySem.W.mg_of X G a_first_at
  have F_along := fun_mk (st := s_along) l_along c_along k_along
  have b_along := F_along.binds (ps := ["sides", "numbers", "value"]) fun _ _ _ _ _ _ us hl => match us, hl with | [_, _, _], _ => rfl
  have m_along := PySem.W.mg_of X G a_along
  have F_check_numbers := fun_mk (st := s_check_numbers) l_check_numbers c_check_numbers k_check_numbers
  have b_check_numbers := F_check_numbers.binds (ps := ["numbers", "many"]) fun _ _ _ _ _ _ us hl => match us, hl with | [_, _], _ => rfl
  have m_check_numbers := PySem.W.mg_of X G a_check_numbers
  have F_L_source := fun_mk (st := s_L_source) l_L_source c_L_source k_L_source
  have b_L_source := F_L_source.binds (ps := ["_law_script"]) fun _ _ _ _ _ _ us hl => match us, hl with | [_], _ => rfl
  have m_L_source := PySem.W.mg_of X G a_L_source
  have F_L_draw := fun_mk (st := s_L_draw) l_L_draw c_L_draw k_L_draw
  have b_L_draw := F_L_draw.binds (ps := ["_law_source_here", "_law_limit"]) fun _ _ _ _ _ _ us hl => match us, hl with | [_, _], _ => rfl
  have m_L_draw := PySem.W.mg_of X G a_L_draw
  have F_L_pick := fun_mk (st := s_L_pick) l_L_pick c_L_pick k_L_pick
  have b_L_pick := F_L_pick.binds (ps := ["_law_source_here", "_law_values"]) fun _ _ _ _ _ _ us hl => match us, hl with | [_, _], _ => rfl
  have m_L_pick := PySem.W.mg_of X G a_L_pick
  have F_L_divisor := fun_mk (st := s_L_divisor) l_L_divisor c_L_divisor k_L_divisor
  have b_L_divisor := F_L_divisor.binds (ps := ["_law_one", "_law_other"]) fun _ _ _ _ _ _ us hl => match us, hl with | [_, _], _ => rfl
  have m_L_divisor := PySem.W.mg_of X G a_L_divisor
  have F_L_great := fun_mk (st := s_L_great) l_L_great c_L_great k_L_great
  have b_L_great := F_L_great.binds (ps := ["_law_source_here", "_law_digits"]) fun _ _ _ _ _ _ us hl => match us, hl with | [_, _], _ => rfl
  have m_L_great := PySem.W.mg_of X G a_L_great
  have F_L_small_side := fun_mk (st := s_L_small_side) l_L_small_side c_L_small_side k_L_small_side
  have b_L_small_side := F_L_small_side.binds (ps := ["_law_source_here", "_law_most"]) fun _ _ _ _ _ _ us hl => match us, hl with | [_, _], _ => rfl
  have m_L_small_side := PySem.W.mg_of X G a_L_small_side
  have F_L_figure := fun_mk (st := s_L_figure) l_L_figure c_L_figure k_L_figure
  have b_L_figure := F_L_figure.binds (ps := ["_law_side", "_law_value"]) fun _ _ _ _ _ _ us hl => match us, hl with | [_, _], _ => rfl
  have m_L_figure := PySem.W.mg_of X G a_L_figure
  have F_L_handed := fun_mk (st := s_L_handed) l_L_handed c_L_handed k_L_handed
  have b_L_handed := F_L_handed.binds (ps := ["_law_side", "_law_value"]) fun _ _ _ _ _ _ us hl => match us, hl with | [_, _], _ => rfl
  have m_L_handed := PySem.W.mg_of X G a_L_handed
  have F_L_period := fun_mk (st := s_L_period) l_L_period c_L_period k_L_period
  have b_L_period := F_L_period.binds (ps := ["_law_sides"]) fun _ _ _ _ _ _ us hl => match us, hl with | [_], _ => rfl
  have m_L_period := PySem.W.mg_of X G a_L_period
  have F_L_set := fun_mk (st := s_L_set) l_L_set c_L_set k_L_set
  have b_L_set := F_L_set.binds (ps := ["_law_source_here", "_law_most", "_law_many"]) fun _ _ _ _ _ _ us hl => match us, hl with | [_, _, _], _ => rfl
  have m_L_set := PySem.W.mg_of X G a_L_set
  have F_L_orders := fun_mk (st := s_L_orders) l_L_orders c_L_orders k_L_orders
  have b_L_orders := F_L_orders.binds (ps := ["_law_left"]) fun _ _ _ _ _ _ us hl => match us, hl with | [_], _ => rfl
  have m_L_orders := PySem.W.mg_of X G a_L_orders
  have F_L_due := fun_mk (st := s_L_due) l_L_due c_L_due k_L_due
  have b_L_due := F_L_due.binds (ps := ["_law_sides", "_law_value"]) fun _ _ _ _ _ _ us hl => match us, hl with | [_, _], _ => rfl
  have m_L_due := PySem.W.mg_of X G a_L_due
  have F_L_matters := fun_mk (st := s_L_matters) l_L_matters c_L_matters k_L_matters
  have b_L_matters := F_L_matters.binds (ps := ["_law_sides", "_law_value"]) fun _ _ _ _ _ _ us hl => match us, hl with | [_, _], _ => rfl
  have m_L_matters := PySem.W.mg_of X G a_L_matters
  have F_L_word := fun_mk (st := s_L_word) l_L_word c_L_word k_L_word
  have b_L_word := F_L_word.binds (ps := ["_law_sides", "_law_value"]) fun _ _ _ _ _ _ us hl => match us, hl with | [_, _], _ => rfl
  have m_L_word := PySem.W.mg_of X G a_L_word
  have F_L_fits := fun_mk (st := s_L_fits) l_L_fits c_L_fits k_L_fits
  have b_L_fits := F_L_fits.binds (ps := ["_law_source_here", "_law_sides", "_law_factor"]) fun _ _ _ _ _ _ us hl => match us, hl with | [_, _, _], _ => rfl
  have m_L_fits := PySem.W.mg_of X G a_L_fits
  have F_law := fun_mk (st := s_law) l_law c_law k_law
  have b_law := F_law.binds (ps := ["_law_script"]) fun _ _ _ _ _ _ us hl => match us, hl with | [_], _ => rfl
  have m_law := PySem.W.mg_of X G a_law
  have n_len := PySem.W.mg_none_of X G z_len
  have n_abs := PySem.W.mg_none_of X G z_abs
  have n_int := PySem.W.mg_none_of X G z_int
  have n_range := PySem.W.mg_none_of X G z_range
  have n_isinstance := PySem.W.mg_none_of X G z_isinstance
  have n_bool := PySem.W.mg_none_of X G z_bool
  have n_tuple := PySem.W.mg_none_of X G z_tuple
  have n_divmod := PySem.W.mg_none_of X G z_divmod
  have n_max := PySem.W.mg_none_of X G z_max
  have n_min := PySem.W.mg_none_of X G z_min
  have n_list := PySem.W.mg_none_of X G z_list
  have n_sorted := PySem.W.mg_none_of X G z_sorted
  have BL : Blt mg := ⟨n_len, n_abs, n_int, n_range⟩
  have T : SideT K mg aM := ⟨n_isinstance, n_int, n_bool, n_tuple, n_len, n_divmod, PySem.W.mg_of X G a_MODES, fun _ => .inr ⟨_, _, _, l_MODES, rfl, rfl, v_MODES.1, v_MODES.2⟩⟩
  have RT : MirT K w mg aR := ⟨PySem.W.mg_of X G a_MIR, fun m hm => by
    rcases hm with e | e | e | e | e <;> subst e
    · rw [mir_d]; exact ⟨_, _, _, l_MIR, h_MIR, d_down, r_down⟩
    · rw [mir_u]; exact ⟨_, _, _, l_MIR, h_MIR, d_up, r_up⟩
    · rw [mir_hd]; exact ⟨_, _, _, l_MIR, h_MIR, d_half_down, r_half_down⟩
    · rw [mir_hu]; exact ⟨_, _, _, l_MIR, h_MIR, d_half_up, r_half_up⟩
    · rw [mir_he]; exact ⟨_, _, _, l_MIR, h_MIR, d_half_even, r_half_even⟩⟩
  have MX : MaxT mg := ⟨n_max, n_min⟩
  have AM : AmG mg := ⟨n_isinstance, n_list, n_len, ⟨_, PySem.W.mg_of X G a_MS⟩, ⟨_, PySem.W.mg_of X G a_MH⟩, ⟨_, PySem.W.mg_of X G a_MP⟩, PySem.W.mg_of X G a_lcm, n_sorted⟩
  have R : ErT K mg cT := ⟨PySem.W.mg_of X G g_T, x_T, kp_T, sb_T, ty_T, em_T⟩
  refine ⟨PySem.W.fnOf "law" "law" (defArgs s_law) (defBody s_law) (defScope s_law) .none kV_law dc_law pm_law an_law cd_law ct_law, fun s v => .of_eq rfl, fun base _ _ => ?_⟩
  have C_is_int : Cal l.prog w K mg base "is_int" 1 ["thing"] spIsInt f_is_int _ := ⟨ok_is_int F_is_int T, m_is_int, k_is_int, b_is_int⟩
  have C_is_int_between : Cal l.prog w K mg base "is_int_between" 2 ["thing", "least", "most"] spBetween f_is_int_between _ := ⟨ok_between F_is_int_between C_is_int, m_is_int_between, k_is_int_between, b_is_int_between⟩
  have C_check_value : Cal l.prog w K mg base "check_value" 2 ["value"] spCheckValue f_check_value _ := ⟨ok_check_value F_check_value C_is_int, m_check_value, k_check_value, b_check_value⟩
  have C_check_side : Cal l.prog w K mg base "check_side" 3 ["side"] spCheckSide f_check_side _ := ⟨ok_check_side F_check_side T C_is_int_between, m_check_side, k_check_side, b_check_side⟩
  have C_goes_up : Cal l.prog w K mg base "_goes_up" 1 ["mode", "step", "figure", "rest"] spGo f_goes_up _ := ⟨ok_goes_up F_goes_up, m_goes_up, k_goes_up, b_goes_up⟩
  have C_figure : Cal l.prog w K mg base "_figure" 2 ["side", "value"] spFig f_figure _ := ⟨ok_figure F_figure T C_goes_up, m_figure, k_figure, b_figure⟩
  have C_written : Cal l.prog w K mg base "written" 3 ["side", "value"] spDue f_written _ := ⟨ok_written F_written C_figure, m_written, k_written, b_written⟩
  have C_figure_of : Cal l.prog w K mg base "figure_of" 4 ["side", "value"] spFig f_figure_of _ := ⟨ok_figure_of F_figure_of C_check_side C_check_value C_figure, m_figure_of, k_figure_of, b_figure_of⟩
  have C_below : Cal l.prog w K mg base "_below" 1 ["mode", "step", "figure"] spBelow f_below _ := ⟨ok_below F_below, m_below, k_below, b_below⟩
  have C_uspan : Cal l.prog w K mg base "_span" 2 ["side", "figure"] spSpan f_uspan _ := ⟨ok_uspan F_uspan RT C_below, m_uspan, k_uspan, b_uspan⟩
  have C_span : Cal l.prog w K mg base "span" 4 ["side", "figure"] spSpan f_span _ := ⟨ok_span F_span C_check_side C_check_value C_uspan, m_span, k_span, b_span⟩
  have C_threshold : Cal l.prog w K mg base "threshold" 3 ["side", "value"] spBack f_threshold _ := ⟨ok_threshold F_threshold C_below, m_threshold, k_threshold, b_threshold⟩
  have C_stands : Cal l.prog w K mg base "stands" 4 ["side", "value"] spStands f_stands _ := ⟨ok_stands F_stands C_check_side C_check_value, m_stands, k_stands, b_stands⟩
  have C_first_at : Cal l.prog w K mg base "_first_at" 5 ["wide", "narrow", "figure", "value"] spFirstAt f_first_at _ := ⟨ok_first_at F_first_at T MX C_span C_stands C_threshold, m_first_at, k_first_at, b_first_at⟩
  have C_exchange : Cal l.prog w K mg base "exchange" 6 ["first", "second", "value"] spExch f_exchange _ := ⟨ok_exchange F_exchange n_range C_check_side C_check_value C_figure_of C_first_at, m_exchange, k_exchange, b_exchange⟩
  have C_is_side : Cal l.prog w K mg base "is_side" 4 ["thing"] spIsSide f_is_side _ := ⟨ok_is_side F_is_side (PySem.W.mg_of X G g_0) C_check_side, m_is_side, k_is_side, b_is_side⟩
  have C_check_sides : Cal l.prog w K mg base "check_sides" 5 ["sides"] spSides f_check_sides _ := ⟨ok_sides F_check_sides AM C_is_side, m_check_sides, k_check_sides, b_check_sides⟩
  have C_period_of : Cal l.prog w K mg base "period_of" 1 ["side"] spPerOf f_period_of _ := ⟨ok_per F_period_of, m_period_of, k_period_of, b_period_of⟩
  have C_common_period : Cal l.prog w K mg base "common_period" 2 ["sides"] spPer f_common_period _ := ⟨ok_common F_common_period AM C_period_of, m_common_period, k_common_period, b_common_period⟩
  have C_check_numbers : Cal l.prog w K mg base "_check_numbers" 3 ["numbers", "many"] spNums f_check_numbers _ := ⟨ok_nums F_check_numbers AM C_is_int_between, m_check_numbers, k_check_numbers, b_check_numbers⟩
  have C_orders : Cal l.prog w K mg base "_orders" 1 ["many"] spOrders f_orders _ := ⟨ok_orders F_orders BL, m_orders, k_orders, b_orders⟩
  have C_ends : Cal l.prog w K mg base "_ends" 4 ["sides", "orders", "value"] spEnds f_ends _ := ⟨ok_ends F_ends C_written, m_ends, k_ends, b_ends⟩
  have C_once : Cal l.prog w K mg base "once" 6 ["sides", "value"] spOnce f_once _ := ⟨ok_once F_once AM C_check_sides C_check_value C_orders C_ends, m_once, k_once, b_once⟩
  have C_order_matters : CalX l.prog w K mg base "order_matters" 6 ["sides", "value"] (spMatX cT) f_order_matters _ := ⟨ok_matters F_order_matters AM R n_range C_check_sides C_check_value C_common_period C_orders C_ends, m_order_matters, k_order_matters, b_order_matters⟩
  have C_along : Cal l.prog w K mg base "along" 6 ["sides", "numbers", "value"] spAlong f_along _ := ⟨ok_along F_along AM C_check_sides C_check_numbers C_check_value C_written, m_along, k_along, b_along⟩
  have C_L_source : Cal l.prog w K mg base "_law_source" 1 ["_law_script"] (spSource K) f_L_source _ := ⟨ok_source F_L_source BL, m_L_source, k_L_source, b_L_source⟩
  have C_L_draw : Cal l.prog w K mg base "_law_draw" 1 ["_law_source_here", "_law_limit"] spDraw f_L_draw _ := ⟨ok_draw F_L_draw BL, m_L_draw, k_L_draw, b_L_draw⟩
  have C_L_pick : Cal l.prog w K mg base "_law_pick" 2 ["_law_source_here", "_law_values"] spPick f_L_pick _ := ⟨ok_pick F_L_pick BL C_L_draw, m_L_pick, k_L_pick, b_L_pick⟩
  have C_L_divisor : Cal l.prog w K mg base "_law_divisor" 1 ["_law_one", "_law_other"] spDiv f_L_divisor _ := ⟨ok_div F_L_divisor BL, m_L_divisor, k_L_divisor, b_L_divisor⟩
  have C_L_great : Cal l.prog w K mg base "_law_great" 2 ["_law_source_here", "_law_digits"] spGreat f_L_great _ := ⟨ok_great F_L_great BL C_L_draw, m_L_great, k_L_great, b_L_great⟩
  have C_L_small_side : Cal l.prog w K mg base "_law_small_side" 3 ["_law_source_here", "_law_most"] spSmall f_L_small_side _ := ⟨ok_small F_L_small_side C_L_draw C_L_pick, m_L_small_side, k_L_small_side, b_L_small_side⟩
  have C_L_figure : Cal l.prog w K mg base "_law_figure" 1 ["_law_side", "_law_value"] spFig f_L_figure _ := ⟨ok_L_figure F_L_figure BL, m_L_figure, k_L_figure, b_L_figure⟩
  have C_L_handed : Cal l.prog w K mg base "_law_handed" 2 ["_law_side", "_law_value"] spDue f_L_handed _ := ⟨ok_L_handed F_L_handed C_L_figure, m_L_handed, k_L_handed, b_L_handed⟩
  have C_L_period : Cal l.prog w K mg base "_law_period" 2 ["_law_sides"] spPer f_L_period _ := ⟨ok_period F_L_period BL C_L_divisor, m_L_period, k_L_period, b_L_period⟩
  have C_L_set : Cal l.prog w K mg base "_law_set" 4 ["_law_source_here", "_law_most", "_law_many"] spSet f_L_set _ := ⟨ok_set F_L_set BL C_L_draw C_L_small_side, m_L_set, k_L_set, b_L_set⟩
  have C_L_orders : ∀ n, n ≤ 4 → Cal l.prog w K mg base "_law_orders" (n + 1) ["_law_left"] (spOrdL n) f_L_orders _ := fun n hn => ⟨ok_ordL F_L_orders m_L_orders k_L_orders b_L_orders n hn, m_L_orders, k_L_orders, b_L_orders⟩
  have C_L_due : Cal l.prog w K mg base "_law_due" 6 ["_law_sides", "_law_value"] spOnce f_L_due _ := ⟨ok_due F_L_due AM n_range C_L_orders C_L_handed, m_L_due, k_L_due, b_L_due⟩
  have C_L_matters : Cal l.prog w K mg base "_law_matters" 7 ["_law_sides", "_law_value"] spMatL f_L_matters _ := ⟨ok_Lmat F_L_matters AM n_range C_L_due C_L_period, m_L_matters, k_L_matters, b_L_matters⟩
  have C_L_word : Cal l.prog w K mg base "_law_word" 7 ["_law_sides", "_law_value"] spWordM f_L_word _ := ⟨ok_Lword F_L_word R C_order_matters, m_L_word, k_L_word, b_L_word⟩
  have C_L_fits : Cal l.prog w K mg base "_law_fits" 7 ["_law_source_here", "_law_sides", "_law_factor"] spFits f_L_fits _ := ⟨ok_fits F_L_fits AM n_range C_L_draw C_L_due C_once C_along, m_L_fits, k_L_fits, b_L_fits⟩
  exact ok_law F_law BL AM C_L_source C_L_draw C_L_pick C_L_great C_L_set C_L_fits C_L_period C_L_matters C_L_word C_L_small_side C_exchange C_once C_order_matters
theorem walk {l : PySem.W.OpenLaw} {q : Program} {loose : List Str} {XP : (Str → Option Value) → Heap → Prop} {YP : World → Heap → Prop} {d : DefRec} {K : Params → PySem.W.Frag} (hn : l.most = some 63) (hdf : d.params.defaults = [])
    (hY : ∀ (w : World) (h : Heap), YP w h → (K w.params).In h)
    (F : ∀ (w : World) (mg : Str → Option Value) (fa : Addr) (h : Heap), (K w.params).In h → h.Ns mainGlobals mg → mg d.name = some (.ref fa) →
      ∃ fd : FuncData, (∀ (s : Shared) (u : Value), BindsTo s fd ⟨[u], []⟩ [("_law_script", u)]) ∧ ∀ base : Heap, (K w.params).In base → base.Ns mainGlobals mg → FnOk l.prog w (K w.params) mg base CX0 8 fa fd ["_law_script"] (spLaw (K w.params))) :
    PySem.W.WalkO q loose XP YP l.row.toRowW d [] (fun f vs => PySem.call f vs) :=
  L2.walk_of (n := 63) (k := 8) (x := "_law_script") (CX := fun _ => CX0) (sp := fun w => spLaw (K w.params)) hn (by decide) hdf ⟨rfl, by decide, by decide⟩ hY F (fun _ _ a ns hl _ hS => ⟨a, ns, rfl, hS, hl, fun _ => rfl⟩) fun _ _ _ _ _ z => z
end HT
open PySem PySem.W PyProof.Rows
set_option maxRecDepth 100000 in
set_option maxHeartbeats 0 in
theorem PySem.Challenge.cw_handedtext_k56_whole_each_once_holds : PySem.Challenge.rw_handedtext_k56_whole_each_once.Holds := by
  w_on; o_law; k_head; (case hw => w_witness2)
  k_fill
  refine HT.walk (l := PySem.Challenge.rw_handedtext_k56_whole_each_once) rfl rfl (fun w h Y => PySem.W.kIn_of Y) ?F
  case F =>
    intro w mg fa h KX G hmg
    refine' HT.all_mk KX G hmg ?a_is_int ?l_is_int ?c_is_int ?k_is_int ?a_is_int_between ?l_is_int_between ?c_is_int_between ?k_is_int_between ?a_check_value ?l_check_value ?c_check_value ?k_check_value ?a_check_side ?l_check_side ?c_check_side ?k_check_side ?a_is_side ?l_is_side ?c_is_side ?k_is_side ?a_figure_of ?l_figure_of ?c_figure_of ?k_figure_of ?a_figure ?l_figure ?c_figure ?k_figure ?a_goes_up ?l_goes_up ?c_goes_up ?k_goes_up ?a_written ?l_written ?c_written ?k_written ?a_stands ?l_stands ?c_stands ?k_stands ?a_span ?l_span ?c_span ?k_span ?a_uspan ?l_uspan ?c_uspan ?k_uspan ?a_below ?l_below ?c_below ?k_below ?a_threshold ?l_threshold ?c_threshold ?k_threshold ?a_check_sides ?l_check_sides ?c_check_sides ?k_check_sides ?a_period_of ?l_period_of ?c_period_of ?k_period_of ?a_common_period ?l_common_period ?c_common_period ?k_common_period ?a_once ?l_once ?c_once ?k_once ?a_order_matters ?l_order_matters ?c_order_matters ?k_order_matters ?a_orders ?l_orders ?c_orders ?k_orders ?a_ends ?l_ends ?c_ends ?k_ends ?a_exchange ?l_exchange ?c_exchange ?k_exchange ?a_first_at ?l_first_at ?c_first_at ?k_first_at ?a_along ?l_along ?c_along ?k_along ?a_check_numbers ?l_check_numbers ?c_check_numbers ?k_check_numbers ?a_L_source ?l_L_source ?c_L_source ?k_L_source ?a_L_draw ?l_L_draw ?c_L_draw ?k_L_draw ?a_L_pick ?l_L_pick ?c_L_pick ?k_L_pick ?a_L_divisor ?l_L_divisor ?c_L_divisor ?k_L_divisor ?a_L_great ?l_L_great ?c_L_great ?k_L_great ?a_L_small_side ?l_L_small_side ?c_L_small_side ?k_L_small_side ?a_L_figure ?l_L_figure ?c_L_figure ?k_L_figure ?a_L_handed ?l_L_handed ?c_L_handed ?k_L_handed ?a_L_period ?l_L_period ?c_L_period ?k_L_period ?a_L_set ?l_L_set ?c_L_set ?k_L_set ?a_L_orders ?l_L_orders ?c_L_orders ?k_L_orders ?a_L_due ?l_L_due ?c_L_due ?k_L_due ?a_L_matters ?l_L_matters ?c_L_matters ?k_L_matters ?a_L_word ?l_L_word ?c_L_word ?k_L_word ?a_L_fits ?l_L_fits ?c_L_fits ?k_L_fits ?a_law ?l_law ?c_law ?k_law ?z_len ?z_abs ?z_int ?z_range ?z_isinstance ?z_bool ?z_tuple ?z_divmod ?z_max ?z_min ?z_list ?z_sorted ?g_0 ?g_T ?x_T ?kp_T ?sb_T ?ty_T ?em_T ?a_MS ?a_MH ?a_MP ?a_lcm ?a_MODES ?l_MODES ?v_MODES ?a_MIR ?l_MIR ?h_MIR ?d_down ?r_down ?d_up ?r_up ?d_half_down ?r_half_down ?d_half_up ?r_half_up ?d_half_even ?r_half_even
    (case a_is_int => k_is)
    (case l_is_int => k_is)
    (case c_is_int => k_is)
    (case k_is_int => k_is)
    (case a_is_int_between => k_is)
    (case l_is_int_between => k_is)
    (case c_is_int_between => k_is)
    (case k_is_int_between => k_is)
    (case a_check_value => k_is)
    (case l_check_value => k_is)
    (case c_check_value => k_is)
    (case k_check_value => k_is)
    (case a_check_side => k_is)
    (case l_check_side => k_is)
    (case c_check_side => k_is)
    (case k_check_side => k_is)
    (case a_is_side => k_is)
    (case l_is_side => k_is)
    (case c_is_side => k_is)
    (case k_is_side => k_is)
    (case a_figure_of => k_is)
    (case l_figure_of => k_is)
    (case c_figure_of => k_is)
    (case k_figure_of => k_is)
    (case a_figure => k_is)
    (case l_figure => k_is)
    (case c_figure => k_is)
    (case k_figure => k_is)
    (case a_goes_up => k_is)
    (case l_goes_up => k_is)
    (case c_goes_up => k_is)
    (case k_goes_up => k_is)
    (case a_written => k_is)
    (case l_written => k_is)
    (case c_written => k_is)
    (case k_written => k_is)
    (case a_stands => k_is)
    (case l_stands => k_is)
    (case c_stands => k_is)
    (case k_stands => k_is)
    (case a_span => k_is)
    (case l_span => k_is)
    (case c_span => k_is)
    (case k_span => k_is)
    (case a_uspan => k_is)
    (case l_uspan => k_is)
    (case c_uspan => k_is)
    (case k_uspan => k_is)
    (case a_below => k_is)
    (case l_below => k_is)
    (case c_below => k_is)
    (case k_below => k_is)
    (case a_threshold => k_is)
    (case l_threshold => k_is)
    (case c_threshold => k_is)
    (case k_threshold => k_is)
    (case a_check_sides => k_is)
    (case l_check_sides => k_is)
    (case c_check_sides => k_is)
    (case k_check_sides => k_is)
    (case a_period_of => k_is)
    (case l_period_of => k_is)
    (case c_period_of => k_is)
    (case k_period_of => k_is)
    (case a_common_period => k_is)
    (case l_common_period => k_is)
    (case c_common_period => k_is)
    (case k_common_period => k_is)
    (case a_once => k_is)
    (case l_once => k_is)
    (case c_once => k_is)
    (case k_once => k_is)
    (case a_order_matters => k_is)
    (case l_order_matters => k_is)
    (case c_order_matters => k_is)
    (case k_order_matters => k_is)
    (case a_orders => k_is)
    (case l_orders => k_is)
    (case c_orders => k_is)
    (case k_orders => k_is)
    (case a_ends => k_is)
    (case l_ends => k_is)
    (case c_ends => k_is)
    (case k_ends => k_is)
    (case a_exchange => k_is)
    (case l_exchange => k_is)
    (case c_exchange => k_is)
    (case k_exchange => k_is)
    (case a_first_at => k_is)
    (case l_first_at => k_is)
    (case c_first_at => k_is)
    (case k_first_at => k_is)
    (case a_along => k_is)
    (case l_along => k_is)
    (case c_along => k_is)
    (case k_along => k_is)
    (case a_check_numbers => k_is)
    (case l_check_numbers => k_is)
    (case c_check_numbers => k_is)
    (case k_check_numbers => k_is)
    (case a_L_source => k_is)
    (case l_L_source => k_is)
    (case c_L_source => k_is)
    (case k_L_source => k_is)
    (case a_L_draw => k_is)
    (case l_L_draw => k_is)
    (case c_L_draw => k_is)
    (case k_L_draw => k_is)
    (case a_L_pick => k_is)
    (case l_L_pick => k_is)
    (case c_L_pick => k_is)
    (case k_L_pick => k_is)
    (case a_L_divisor => k_is)
    (case l_L_divisor => k_is)
    (case c_L_divisor => k_is)
    (case k_L_divisor => k_is)
    (case a_L_great => k_is)
    (case l_L_great => k_is)
    (case c_L_great => k_is)
    (case k_L_great => k_is)
    (case a_L_small_side => k_is)
    (case l_L_small_side => k_is)
    (case c_L_small_side => k_is)
    (case k_L_small_side => k_is)
    (case a_L_figure => k_is)
    (case l_L_figure => k_is)
    (case c_L_figure => k_is)
    (case k_L_figure => k_is)
    (case a_L_handed => k_is)
    (case l_L_handed => k_is)
    (case c_L_handed => k_is)
    (case k_L_handed => k_is)
    (case a_L_period => k_is)
    (case l_L_period => k_is)
    (case c_L_period => k_is)
    (case k_L_period => k_is)
    (case a_L_set => k_is)
    (case l_L_set => k_is)
    (case c_L_set => k_is)
    (case k_L_set => k_is)
    (case a_L_orders => k_is)
    (case l_L_orders => k_is)
    (case c_L_orders => k_is)
    (case k_L_orders => k_is)
    (case a_L_due => k_is)
    (case l_L_due => k_is)
    (case c_L_due => k_is)
    (case k_L_due => k_is)
    (case a_L_matters => k_is)
    (case l_L_matters => k_is)
    (case c_L_matters => k_is)
    (case k_L_matters => k_is)
    (case a_L_word => k_is)
    (case l_L_word => k_is)
    (case c_L_word => k_is)
    (case k_L_word => k_is)
    (case a_L_fits => k_is)
    (case l_L_fits => k_is)
    (case c_L_fits => k_is)
    (case k_L_fits => k_is)
    (case a_law => k_is)
    (case l_law => k_is)
    (case c_law => k_is)
    (case k_law => k_is)
    (case z_len => k_is)
    (case z_abs => k_is)
    (case z_int => k_is)
    (case z_range => k_is)
    (case z_isinstance => k_is)
    (case z_bool => k_is)
    (case z_tuple => k_is)
    (case z_divmod => k_is)
    (case z_max => k_is)
    (case z_min => k_is)
    (case z_list => k_is)
    (case z_sorted => k_is)
    (case g_0 => k_is)
    (case g_T => k_is)
    (case x_T => kernel_rfl)
    (case kp_T => kernel_rfl)
    (case sb_T => kernel_rfl)
    (case ty_T => kernel_rfl)
    (case em_T => kernel_rfl)
    (case a_MS => k_is)
    (case a_MH => k_is)
    (case a_MP => k_is)
    (case a_lcm => k_is)
    (case a_MODES => k_is)
    (case l_MODES => k_is)
    (case v_MODES => exact ⟨by decide, .cons ⟨_, rfl⟩ (.cons ⟨_, rfl⟩ (.cons ⟨_, rfl⟩ (.cons ⟨_, rfl⟩ (.cons ⟨_, rfl⟩ .nil))))⟩)
    (case a_MIR => k_is)
    (case l_MIR => k_is)
    (case h_MIR => k_keys)
    (case d_down => k_is)
    (case r_down => exact ⟨_, rfl⟩)
    (case d_up => k_is)
    (case r_up => exact ⟨_, rfl⟩)
    (case d_half_down => k_is)
    (case r_half_down => exact ⟨_, rfl⟩)
    (case d_half_up => k_is)
    (case r_half_up => exact ⟨_, rfl⟩)
    (case d_half_even => k_is)
    (case r_half_even => exact ⟨_, rfl⟩)
#print axioms PySem.Challenge.cw_handedtext_k56_whole_each_once_holds
