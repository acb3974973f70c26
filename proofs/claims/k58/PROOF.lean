import PyProof.Rows.All
import Wide.All
import OpenK.AllK
import Wide.FinOn
import HandS.CallSlots
import HandS.Deep
import HandS.Defaults
import HandS.Exc
import HandS.ExcField
import HandS.ExcInit
import HandS.ExcIs
import HandS.ExcValue
import HandS.ForMost
import HandS.HotCalls
import HandS.IsInst
import HandS.MakeKwOnly
import HandS.More
import HandS.NoneIn
import HandS.RaiseFrom
import HandS.ReplaceLit
import HandS.StrMore
import HandS.Style
import HandS.SuiteRaise
import HandS.TryOnly
import HandS.Wide
import HandS.WideBits
import HandS.WordsExc
import KE.KEqDeep
import KE.KEqSeq
import KE.KExcIs
import HandS.Gcd
import HandS.SortKw
import KE.DataMinMax
import PySem.Challenge.RW_handedtext_k58_doors_of_orders
set_option Elab.async false
set_option linter.all false
set_option maxRecDepth 100000
set_option maxHeartbeats 4000000
set_option exponentiation.threshold 9000
open PySem L2
local macro_rules | `(tactic| walk_at "rd") => `(tactic| repeat (first | refine ⟨_, rfl, ?_⟩ | refine ⟨_, _, rfl, rfl, ?_⟩ | refine .inl ⟨_, rfl, ?_⟩))
namespace L2
open PySem PySem.Spec PyProof.Rows
/-- an error that was caught and kept, at a -/
def ExK (cls : Value) (a : Addr) : HO := .ext fun hp => ∃ (rec' : Obj) (cells : Array Value), hp.get? a = some rec' ∧ Zc cls none rec' ∧ rec'.data = .fields cells
/-- wKeep: what 'except x as n' wishes, where the error stays tracked behind the suite -/
def wKeep (K : PySem.W.Frag) (c : Value) (i : Nat) (ts : Addr → Value → Option Addr → TS) (Wout : WX) (D : Ends) : WX := fun kl dd st H =>
  ∃ yes, PySem.W.exmOne K kl c = some yes ∧ (yes = true → dd = none ∧ ∀ a, H a = none → ts a kl dd { nx := fun st' H' => D.nx (st'.set i none) (upd H' a (ExK kl a)), rt := D.rt, bk := fun st' H' => D.bk (st'.set i none) H', ct := fun st' H' => D.ct (st'.set i none) H' } (st.set i (some (.ref a))) H) ∧
    (yes = false → Wout kl dd st H)
section
variable {X : Cx} {pins : List (Addr × Obj)} {st : St} {H : Hp} {sh : Shared}
theorem Inv.adopt {a : Addr} {kl : Value} {rc : Obj} {cells : Array Value} (iv : Inv X pins st H sh) (new0 : X.s_0.heap.get? a = none) (free : H a = none) (at0 : sh.heap.get? a = some rc) (zc : Zc kl none rc) (fl : rc.data = .fields cells) (nl : a ≠ X.env.locals)
    (np : ∀ p ∈ X.pn ++ pins, p.1 ≠ a) : Inv X pins st (upd H a (ExK kl a)) sh := by
  have old : ∀ c rr, X.s_0.heap.get? c = some rr → c ≠ a := fun c rr e z => by
    rw [z, new0] at e
    cases e
  have other : ∀ c u, H c = some u → upd H a (ExK kl a) c = some u := fun c u e => (upd_ne (ne_of_none e free)).trans e
  refine ⟨iv.ok, iv.os, iv.bare, ⟨iv.base.keep, iv.base.slot, fun c rr e n0 nx => ?_, iv.base.there, fun c xs e => other _ _ (iv.base.tups c xs e), fun c rr u e => other _ _ (iv.base.frzs c rr u e), fun c ps e => ?_⟩, iv.loc, iv.cell, ?_, fun y c e => ?_, fun p hp => ?_, fun c u e => ?_, iv.len⟩
  · exact (upd_ne (old c rr e)).trans (iv.base.free c rr e n0 nx)
  · obtain ⟨more, e2⟩ := iv.base.tbls c ps e
    exact ⟨more, other _ _ e2⟩
  · exact (upd_ne nl.symm).trans iv.free
  · obtain ⟨w, rr, e2, e3⟩ := iv.cell y c e
    refine (upd_ne fun z => ?_).trans (iv.freeC y c e)
    subst z
    rw [at0] at e2
    cases e2
    simp [fl] at e3
  · obtain ⟨e1, e2, e3, e4, e5⟩ := iv.pin p hp
    exact ⟨e1, (upd_ne (np p hp)).trans e2, e3, e4, e5⟩
  · by_cases ca : c = a
    · subst ca
      rw [upd_same] at e
      cases e
      exact ⟨⟨rc, cells, at0, zc, fl⟩, ⟨rc, at0⟩, fun _ _ ⟨r2, c2, e2, e3⟩ same => ⟨r2, c2, same _ e2, e3⟩⟩
    · rw [upd_ne ca] at e
      exact (iv.hok c u e).stay (fun _ _ _ e2 => e2) (fun c2 e2 => other _ _ e2) fun c2 xs e2 => other _ _ e2
end
end L2
namespace L2
open PySem PySem.Spec PyProof.Rows
section
variable {X : Cx} {x n : Str} {c : Value} {i : Nat} {body suite : List Stmt} {first : Stmt} {np pos pos' : Pos} {tb : WX → TS} {ts : Addr → Value → Option Addr → TS} {Wout : WX}
/-- try: .. except x as n: suite; the caught error stays tracked behind it -/
theorem ps_try_keep (stk : X.stack = X.env :: X.outer) (frm : X.env.frame = some X.env.locals) (noex : X.ex = []) (dist : X.N.Nodup) (slot : X.N[i]? = some n) (loc : X.env.kindOf n = some .local) (nam : Names X x c) (tk : Takes X Wout)
    (inner : ∀ (W : WX) (pn : List (Addr × Obj)) (xe : Value → Shared → Prop), Takes (X.tr pn xe) W → PassesOwn (model X.prog X.w) X.A X.env xe → PSs (X.tr pn xe) body (tb W))
    (caught : ∀ (a : Addr) (rc : Obj) (kl : Value) (dd : Option Addr) (pn : List (Addr × Obj)), Zc kl dd rc → (∃ cells, rc.data = .fields cells) → PSs (X.suite a ((a, rc) :: pn)) (first :: suite) (ts a kl dd)) :
    PS X (.Try body [.ExceptHandler (some (.Name x np)) (some n) (first :: suite) pos'] [] [] pos) (fun D st H => tb (wKeep X.K c i ts Wout D) D st H) where
  run := fun pins sh st H D iv want => by
    have fine := iv.ok
    have frames : X.A.frames = some (X.env :: X.outer) := by rw [fine.frames, stk]
    refine wpAny_Try_except (wpAny_mono ((inner (wKeep X.K c i ts Wout D) (X.pn ++ pins) _ (fun u sh' air => ?_) PassesOwn.looking).run [] sh st H D (iv.toTry _) want) ?_ fun _ _ e => e)
    · obtain ⟨a, B, shI, pins', st1, H1, kl, dd, rfl, ivT, inB, upTo, sky, freeA, sameOs, bareG, yes, dec, onYes, onNo⟩ := air
      have iv1 : Inv X pins st1 H1 shI := ivT.ofTry fine
      rw [stk] at sky
      refine Sky.land Zc.steady frames frm sky fun hp3 fly3 up3 => ?_
      have bNone : B.get? a = none := fly3.2.1
      have iv3 : Inv X pins st1 H1 { sh' with heap := hp3 } := iv1.landed inB fly3.1 (upTo.trans up3) sameOs bareG
      obtain ⟨rc3, cells3, at3, zc3, dt3⟩ := fly3.there
      have offFrames : a ∉ frs (X.env :: X.outer) := fun mem => by
        obtain ⟨_, r2, e2, bad⟩ := fly3.2.2.1.mem mem
        rw [at3] at e2
        cases e2
        exact bad _ dt3
      have offL : a ≠ X.env.locals := fun z => offFrames (List.mem_filterMap.mpr ⟨X.env, List.mem_cons_self, by rw [frm, z]⟩)
      have offF : a ∉ X.fs := fun mem => by
        obtain ⟨ee, inn, ef⟩ := List.mem_filterMap.mp mem
        exact offFrames (List.mem_filterMap.mpr ⟨ee, List.mem_cons_of_mem _ inn, ef⟩)
      have notThere : shI.heap.get? a = none := by
        cases e : shI.heap.get? a with
        | none => rfl
        | some rr =>
          have z := inB a rr e (by rw [stk]; exact offFrames)
          rw [bNone] at z
          cases z
      have new0 : X.s_0.heap.get? a = none := by
        cases e : X.s_0.heap.get? a with
        | none => rfl
        | some rr =>
          obtain ⟨r2, e2⟩ := iv1.base.there a rr e (by rw [noex]; exact List.not_mem_nil)
          rw [notThere] at e2
          cases e2
      have pinsOff : ∀ p ∈ X.pn ++ pins, p.1 ≠ a := fun p hp z => by
        have e2 := (iv1.pin p hp).1
        rw [z, notThere] at e2
        cases e2
      have inSuite := iv3.suite at3 dt3 freeA offL offF
      refine wpAny_handleBy_cons (codeAny_handlers_test ?_) (by intro q; cases q)
      have theClass : PySem.W.Looks (model X.prog X.w) hp3 (typeOf (.ref a)) kl := fun A' Q' E' s' kk qq => wpAny_typeOf_ref (kk _ _ at3) (by rw [zc3.1]; exact qq)
      have theTest := PySem.W.exm_one (M := model X.prog X.w) iv3.kIn theClass dec
      have clause : ∀ {Q' : Value → Shared → Prop} {E' : Value → Shared → Prop}, Q' c { sh' with heap := hp3 } → wpAny (model X.prog X.w) (X.A.mark (some (.ref a))) (eval (.Name x np) X.env) Q' E' { sh' with heap := hp3 } := fun {Q' E'} qq => by
        obtain ⟨g1, g2, g3 | ⟨g3, g4, g5⟩⟩ := nam
        · exact ld_glob (X := X.suite a ((a, rc3) :: (X.pn ++ pins))) inSuite g1 g3 qq g2
        · exact ld_blt (X := X.suite a ((a, rc3) :: (X.pn ++ pins))) inSuite g1 g3 g4 qq g5 g2
      refine clause (theTest.here ?_)
      cases yes with
      | true =>
        obtain ⟨rfl, go⟩ := onYes rfl
        refine codeAny_handlers_suite_as (HandSPX.lands_againZ fly3 fun hp4 fly4 up4 => ?_)
        have iv4 : Inv X pins st1 H1 { sh' with heap := hp4 } := iv1.landed inB fly4.1 ((upTo.trans up3).trans up4) sameOs bareG
        obtain ⟨rc4, cells4, at4, zc4, dt4⟩ := fly4.there
        refine store_ok (X := X.suite a ((a, rc4) :: (X.pn ++ pins))) (v := .ref a) (iv4.suite at4 dt4 freeA offL offF) dist slot (.inl loc) rfl (fun sh5 iv5 => ?_) (.inr loc)
        refine wpAny_mono ((caught a rc4 kl none (X.pn ++ pins) zc4 ⟨_, dt4⟩).run [] sh5 _ H1 _ iv5 (go a freeA)) (fun flow sh6 came => ?_) fun _ _ z => z.elim
        cases flow with
        | next =>
          obtain ⟨st6, H6, iv6, q6⟩ := came
          have more : Inv X ((a, rc4) :: pins) st6 H6 sh6 := ⟨fine, iv6.os, iv6.bare, iv6.base, iv6.loc, iv6.cell, iv6.free, iv6.freeC, fun p hp => iv6.pin p (List.mem_append_left _ ?_), iv6.hok, iv6.len⟩
          refine gone_ok more dist slot loc fun sh7 iv7 => ?_
          have there : (a, rc4) ∈ X.pn ++ (a, rc4) :: pins := List.mem_append_right _ List.mem_cons_self
          obtain ⟨e1, e2, e3, _⟩ := iv7.pin (a, rc4) there
          have less : Inv X pins (st6.set i none) H6 sh7 := ⟨fine, iv7.os, iv7.bare, iv7.base, iv7.loc, iv7.cell, iv7.free, iv7.freeC, fun p hp => iv7.pin p ?_, iv7.hok, iv7.len⟩
          · exact ⟨_, _, less.adopt new0 e2 e1 zc4 dt4 e3 pinsOff, q6⟩
          · rcases List.mem_append.mp hp with hq | hq
            · exact List.mem_append_left _ hq
            · exact List.mem_append_right _ (List.mem_cons_of_mem _ hq)
          · rcases List.mem_append.mp hp with hq | hq
            · exact List.mem_cons_of_mem _ (List.mem_append_left _ hq)
            · rcases List.mem_cons.mp hq with hr | hr
              · rw [hr]; exact List.mem_cons_self
              · exact List.mem_cons_of_mem _ (List.mem_append_right _ hr)
        | brk =>
          obtain ⟨st6, H6, iv6, q6⟩ := came
          exact gone_ok (iv6.unsuite fine) dist slot loc fun sh7 iv7 => ⟨_, _, iv7, q6⟩
        | cont =>
          obtain ⟨st6, H6, iv6, q6⟩ := came
          exact gone_ok (iv6.unsuite fine) dist slot loc fun sh7 iv7 => ⟨_, _, iv7, q6⟩
        | ret u =>
          obtain ⟨v6, st6, H6, iv6, r6, q6⟩ := came
          exact gone_ok (iv6.unsuite fine) dist slot loc fun sh7 iv7 => ⟨_, _, _, iv7, r6, q6⟩
      | false =>
        show wpAny _ X.A (handleBy (.ref a) X.env []) _ _ _
        refine wpAny_handleBy_nil ?_
        obtain ⟨_, _, _, rc5, cells5, tr5, _, _, at5, _, dt5, at1, _⟩ := id fly3
        unfold PySem.passOn
        refine wpAny_bind (wpAny_field at5 dt5 at1 ?_)
        rw [if_neg (by simp : ¬ (Value.ref tr5 == Value.none) = true)]
        have out : wpAny (model X.prog X.w) X.A (setFlight (.ref a) X.env.frame) (fun _ sh8 => wpAny (model X.prog X.w) X.A (throw (.ref a) : Sem Flow) (SP X pins D) X.xe sh8) X.xe { sh' with heap := hp3 } := by
          rw [frm]
          refine HandSPX.setFlight_upZ fly3 fun hp8 held up8 => wpAny_throw (tk _ _ ?_)
          exact ⟨a, B, shI, pins, st1, H1, kl, dd, rfl, iv1, inB, (upTo.trans up3).trans up8, .inr (.inr (by rw [stk]; exact held)), freeA, sameOs, bareG, onNo rfl⟩
        first
          | exact wpAny_bind out
          | exact wpAny_bind (wpAny_pure (wpAny_bind out))
    · intro flow sh1 came
      cases flow with
      | next =>
        obtain ⟨st1, H1, iv1, q1⟩ := came
        exact wpAny_execs_nil ⟨st1, H1, iv1.ofTry fine, q1⟩
      | brk =>
        obtain ⟨st1, H1, iv1, q1⟩ := came
        exact ⟨st1, H1, iv1.ofTry fine, q1⟩
      | cont =>
        obtain ⟨st1, H1, iv1, q1⟩ := came
        exact ⟨st1, H1, iv1.ofTry fine, q1⟩
      | ret u =>
        obtain ⟨v1, st1, H1, iv1, r1, q1⟩ := came
        exact ⟨v1, st1, H1, iv1.ofTry fine, r1, q1⟩
end
end L2
namespace L2
open PySem PySem.Spec PyProof.Rows
/-- what the written part says of an error class, for isinstance -/
structure ErrC (K : PySem.W.Frag) (C : Addr) : Prop where
  cl : (PySem.W.clsIn K C).isSome = true
  ga : PySem.W.findIn K (.ref C) "__getattribute__" = some (some (.builtin "BaseException.__getattribute__"))
  gg : PySem.W.findIn K (.ref C) "__getattr__" = some none
  sb : PySem.W.subIn K (.ref C) (.type "BaseException") = some true
  cn : PySem.W.findIn K (.ref C) "__class__" = some (some (.builtin "object.__class__"))
  mo : PySem.W.mroIn K C (.type "object") = some true
/-- .. of the attribute __class__ of all objects -/
structure ErrG (K : PySem.W.Frag) : Prop where
  sp : PySem.W.specialIn K (.builtin "object.__class__") "__get__" = some (some (.builtin "getset_descriptor.__get__"))
  tk : PySem.W.takesIn K (.builtin "object.__class__") = some true
def rIsKept (K : PySem.W.Frag) : List V → Hp → VK → Prop := fun xs H Q => ∃ (a C : Addr) (c : V) (cv : Value) (b : Bool), xs = [.ref a, c] ∧ ClsV c cv ∧ H a = some (ExK (.ref C) a) ∧ ErrC K C ∧ ErrG K ∧ PySem.W.kitOne K (.ref C) cv = some b ∧ Q (.bl b) H
theorem call_isKept {X : Cx} : CallR X (.builtin "isinstance") (rIsKept X.K) := by
  intro pins sh st H xs us Q iv r h
  obtain ⟨a, C, c, cv, b, rfl, k, at', T, G, e, q⟩ := h
  obtain ⟨u1, u2, rfl, r1, r2⟩ := vals2 r
  have e2 := k.eq r2
  subst e2
  obtain rfl : u1 = Value.ref a := r1
  obtain ⟨⟨oe, vs, ho, hz, hd⟩, _, _⟩ := iv.hok a _ at'
  have J : PySem.W.InstAt sh.heap a oe C none := by
    obtain ⟨oc, od, oda, osl⟩ := oe
    obtain ⟨h1, h2⟩ := hz
    dsimp only at h1 h2 hd
    subst h1 h2 hd
    exact ⟨ho, rfl, rfl, trivial⟩
  exact PySem.W.kia_one (PySem.W.kitx_exc T.cl T.ga T.gg T.sb T.cn G.sp G.tk T.mo) iv.kIn J e (fun z => nomatch z) fun tk => ⟨.bl b, H, iv.tok tk, rfl, q⟩
end L2
namespace L2
open PySem PySem.Spec PyProof.Rows
/-- a def of which any kind of error may come -/
theorem Fun.okAny {CX' : CXT} {P : Program} {w : World} {K : PySem.W.Frag} {mg : Str → Option Value} {base : Heap} {nm qu : Str} {row : Stmt} {at0 : Addr} {fd : FuncData} {names pars : List Str} {lev : Nat} {want : Sp} (F : Fun K nm qu row at0 fd) (S : FnScope names pars (defScope row)) (len : ∀ vs H Q E, want vs H Q E → vs.length = pars.length)
    (body : ∀ (code : Value) (A : Around) (outer : List Env) (sh : Shared) (H : Hp) (vs : List V) (Q : VK) (E : XK), Room lev (A.deeper (envOfC qu (defScope row) sh.heap.objs.size at0 code)) → want vs H Q E →
      ∃ t, PSs (cxOf CX' P w K mg base names qu (defScope row) at0 code A outer sh H E) (defBody row) t ∧ t { nx := fun _ H' => Q .non H', rt := Q } (start names vs) H) : FnOk P w K mg base CX' (lev + 1) at0 fd pars want := by
  obtain ⟨_, _, _, _, _, _, code, _, _, rfl, there, isCode⟩ := F.ex
  exact fn_of there isCode S len (body code)
/-- X('..') of an own class, for a raise .. from None -/
theorem pmk5_own {X : Cx} {C : Addr} {bmB : List Value} {B newId initId : String} {x m : Str} {j : Nat} {p p2 pos : Pos} (F : ExcBaseFacts B newId initId bmB) (q : PySem.W.excIn X.K C bmB newId = true) (gC : X.mg x = some (.ref C)) (kC : PySem.W.keepIn X.K (.ref C) = true) (r : Raises X (.ref C)) (hg : Gl X x)
    (plain : (x == ("__debug__" : Str)) = false := by decide) : L2H.PMk5 X (.Call (.Name x p) [.Constant (.str m) j p2] [] pos) (fun _ H Q => Q (.ref C) none H) := by
  intro pins sh st H Q iv want
  have arg : PA X [.Constant (.str m) j p2] (tCons (tC (.str m)) tNil) := pa_cons pe_str pa_nil
  refine wpAny_Call_Name_kw (ld_glob iv hg gC (PySem.W.callWith_K (h₀ := X.base) iv.ok.mod.kin kC (thn (arg.run pos pins sh st H (fun vs H1 => vs = [V.str m] ∧ H = H1) iv ⟨rfl, rfl⟩) ?_)) plain)
  rintro us sh1 ⟨vs, H1, iv1, rel, rfl, rfl⟩
  refine ⟨iv1.kIn, ?_⟩
  match us, rel with
  | [u], .cons _ .nil =>
    show wpAny _ _ (call (.ref C) [u]) _ _ _
    obtain ⟨_, _, _, _, _, _, _, _, _, _, _, _, _, _, _, _, _, hC, hN, hni, T⟩ := exc_obj iv1.kIn q
    exact wpAny_call_exc_subT F T hC hN hni (fun h' e made => L2H.mk_of5 iv1 made r want (iv1.hok.gone made.new)) (by show 1 ≤ sizeLine; decide)
/-- try: .. except x: suite, the suite raising: ps_try_onlyX with its reading under a name, for a loop around it -/
def tTryX (K : PySem.W.Frag) (c : Value) (ts : Addr → Value → Option Addr → TS) (Wout : WX) (tb : WX → TS) : TS := fun D st H => tb (wOnly K c ts Wout D) D st H
theorem ps_tryX {X : Cx} {x : Str} {c : Value} {body suite : List Stmt} {first : Stmt} {np pos pos' : Pos} {tb : WX → TS} {ts : Addr → Value → Option Addr → TS} {Wout : WX} (h1 : X.stack = X.env :: X.outer) (h2 : X.env.frame = some X.env.locals) (h3 : Names X x c)
    (h4 : ∀ hd : Option Value, PassesOwnAt (model X.prog X.w) (X.A.mark hd) X.A X.env X.xe) (h5 : L2.Takes X Wout)
    (h6 : ∀ (W : WX) (pn : List (Addr × Obj)) (xe : Value → Shared → Prop), L2N.Takes (X.tr pn xe) W → L2.Takes (X.tr pn xe) (L2H.wPass X.K c Wout) → PassesOwn (model X.prog X.w) X.A X.env xe → PSs (X.tr pn xe) body (tb W))
    (h7 : ∀ (a : Addr) (oe : Obj) (cls : Value) (d : Option Addr) (pn : List (Addr × Obj)), L2N.Zn cls d oe → (∃ vs, oe.data = .fields vs) → L2.Takes (L2H.suiteX X a ((a, oe) :: pn)) Wout → L2H.HotC (L2H.suiteX X a ((a, oe) :: pn)) → PSs (L2H.suiteX X a ((a, oe) :: pn)) (first :: suite) (ts a cls d)) :
    PS X (.Try body [.ExceptHandler (some (.Name x np)) none (first :: suite) pos'] [] [] pos) (tTryX X.K c ts Wout tb) := L2H.ps_try_onlyX h1 h2 h3 h4 h5 h6 h7
end L2
namespace HT
open PySem L2
def top (i : Nat) : Stmt := PySem.Challenge.pw_handedtext_k58_doors_of_orders.main.body.getD i (.Pass ⟨0, 0, 0, 0⟩)
abbrev s_is_int : Stmt := top 8
abbrev s_is_int_between : Stmt := top 9
abbrev s_check_value : Stmt := top 10
abbrev s_check_side : Stmt := top 14
abbrev s_is_side : Stmt := top 15
abbrev s_figure : Stmt := top 16
abbrev s_goes_up : Stmt := top 17
abbrev s_written : Stmt := top 18
abbrev s_span : Stmt := top 19
abbrev s_uspan : Stmt := top 20
abbrev s_below : Stmt := top 21
abbrev s_mirror : Stmt := top 22
abbrev s_form : Stmt := top 23
abbrev s_first_mode : Stmt := top 24
abbrev s_check_sides : Stmt := top 27
abbrev s_period_of : Stmt := top 28
abbrev s_common_period : Stmt := top 29
abbrev s_raisers : Stmt := top 30
abbrev s_raises_some : Stmt := top 31
abbrev s_highest : Stmt := top 32
abbrev s_mirrors : Stmt := top 33
abbrev s_first_hit : Stmt := top 35
abbrev s_first_between : Stmt := top 36
abbrev s_unraised : Stmt := top 38
abbrev s_first_in_block : Stmt := top 39
abbrev s_first_in_both : Stmt := top 40
abbrev s_reach : Stmt := top 43
abbrev s_check_few : Stmt := top 44
abbrev s_first_unraised : Stmt := top 45
abbrev s_first_unraised_by_two : Stmt := top 46
abbrev s_once : Stmt := top 49
abbrev s_order_matters : Stmt := top 50
abbrev s_orders : Stmt := top 51
abbrev s_ends : Stmt := top 52
abbrev s_calm : Stmt := top 53
abbrev s_are_calm : Stmt := top 54
abbrev s_one_more : Stmt := top 55
abbrev s_L_source : Stmt := top 57
abbrev s_L_draw : Stmt := top 58
abbrev s_L_pick : Stmt := top 59
abbrev s_L_great : Stmt := top 60
abbrev s_L_side : Stmt := top 61
abbrev s_L_word : Stmt := top 62
abbrev s_law : Stmt := top 63
/- is_int: 0:thing -/
theorem sc_is_int : FnScope ["thing"] ["thing"] (defScope s_is_int) := ⟨rfl, rfl, rfl, by decide +kernel, rfl, by decide +kernel, by decide +kernel⟩
/- is_int_between: 0:thing 1:least 2:most -/
theorem sc_is_int_between : FnScope ["thing", "least", "most"] ["thing", "least", "most"] (defScope s_is_int_between) := ⟨rfl, rfl, rfl, by decide +kernel, rfl, by decide +kernel, by decide +kernel⟩
/- check_value: 0:value -/
theorem sc_check_value : FnScope ["value"] ["value"] (defScope s_check_value) := ⟨rfl, rfl, rfl, by decide +kernel, rfl, by decide +kernel, by decide +kernel⟩
/- check_side: 0:side 1:offset 2:step 3:mode -/
theorem sc_check_side : FnScope ["side", "offset", "step", "mode"] ["side"] (defScope s_check_side) := ⟨rfl, rfl, rfl, by decide +kernel, rfl, by decide +kernel, by decide +kernel⟩
/- is_side: 0:thing -/
theorem sc_is_side : FnScope ["thing"] ["thing"] (defScope s_is_side) := ⟨rfl, rfl, rfl, by decide +kernel, rfl, by decide +kernel, by decide +kernel⟩
/- _figure: 0:side 1:value 2:offset 3:step 4:mode 5:figure 6:rest -/
theorem sc_figure : FnScope ["side", "value", "offset", "step", "mode", "figure", "rest"] ["side", "value"] (defScope s_figure) := ⟨rfl, rfl, rfl, by decide +kernel, rfl, by decide +kernel, by decide +kernel⟩
/- _goes_up: 0:mode 1:step 2:figure 3:rest -/
theorem sc_goes_up : FnScope ["mode", "step", "figure", "rest"] ["mode", "step", "figure", "rest"] (defScope s_goes_up) := ⟨rfl, rfl, rfl, by decide +kernel, rfl, by decide +kernel, by decide +kernel⟩
/- written: 0:side 1:value 2:offset 3:step 4:_ -/
theorem sc_written : FnScope ["side", "value", "offset", "step", "_"] ["side", "value"] (defScope s_written) := ⟨rfl, rfl, rfl, by decide +kernel, rfl, by decide +kernel, by decide +kernel⟩
/- span: 0:side 1:figure -/
theorem sc_span : FnScope ["side", "figure"] ["side", "figure"] (defScope s_span) := ⟨rfl, rfl, rfl, by decide +kernel, rfl, by decide +kernel, by decide +kernel⟩
/- _span: 0:side 1:figure 2:offset 3:step 4:mode 5:value -/
theorem sc_uspan : FnScope ["side", "figure", "offset", "step", "mode", "value"] ["side", "figure"] (defScope s_uspan) := ⟨rfl, rfl, rfl, by decide +kernel, rfl, by decide +kernel, by decide +kernel⟩
/- _below: 0:mode 1:step 2:figure -/
theorem sc_below : FnScope ["mode", "step", "figure"] ["mode", "step", "figure"] (defScope s_below) := ⟨rfl, rfl, rfl, by decide +kernel, rfl, by decide +kernel, by decide +kernel⟩
/- mirror: 0:side 1:offset 2:step 3:mode -/
theorem sc_mirror : FnScope ["side", "offset", "step", "mode"] ["side"] (defScope s_mirror) := ⟨rfl, rfl, rfl, by decide +kernel, rfl, by decide +kernel, by decide +kernel⟩
/- form: 0:side 1:offset 2:step 3:mode 4:first -/
theorem sc_form : FnScope ["side", "offset", "step", "mode", "first"] ["side"] (defScope s_form) := ⟨rfl, rfl, rfl, by decide +kernel, rfl, by decide +kernel, by decide +kernel⟩
/- _first_mode: 0:step 1:mode -/
theorem sc_first_mode : FnScope ["step", "mode"] ["step", "mode"] (defScope s_first_mode) := ⟨rfl, rfl, rfl, by decide +kernel, rfl, by decide +kernel, by decide +kernel⟩
/- check_sides: 0:sides 1:side -/
theorem sc_check_sides : FnScope ["sides", "side"] ["sides"] (defScope s_check_sides) := ⟨rfl, rfl, rfl, by decide +kernel, rfl, by decide +kernel, by decide +kernel⟩
/- period_of: 0:side 1:_ 2:step 3:mode -/
theorem sc_period_of : FnScope ["side", "_", "step", "mode"] ["side"] (defScope s_period_of) := ⟨rfl, rfl, rfl, by decide +kernel, rfl, by decide +kernel, by decide +kernel⟩
/- common_period: 0:sides 1:many 2:side -/
theorem sc_common_period : FnScope ["sides", "many", "side"] ["sides"] (defScope s_common_period) := ⟨rfl, rfl, rfl, by decide +kernel, rfl, by decide +kernel, by decide +kernel⟩
/- raisers: 0:sides 1:side -/
theorem sc_raisers : FnScope ["sides", "side"] ["sides"] (defScope s_raisers) := ⟨rfl, rfl, rfl, by decide +kernel, rfl, by decide +kernel, by decide +kernel⟩
/- _raises_some: 0:side 1:_ 2:mode -/
theorem sc_raises_some : FnScope ["side", "_", "mode"] ["side"] (defScope s_raises_some) := ⟨rfl, rfl, rfl, by decide +kernel, rfl, by decide +kernel, by decide +kernel⟩
/- highest: 0:sides 1:value 2:side -/
theorem sc_highest : FnScope ["sides", "value", "side"] ["sides", "value"] (defScope s_highest) := ⟨rfl, rfl, rfl, by decide +kernel, rfl, by decide +kernel, by decide +kernel⟩
/- mirrors: 0:sides 1:side -/
theorem sc_mirrors : FnScope ["sides", "side"] ["sides"] (defScope s_mirrors) := ⟨rfl, rfl, rfl, by decide +kernel, rfl, by decide +kernel, by decide +kernel⟩
/- first_hit: 0:start 1:step 2:most 3:modulus 4:least 5:greatest -/
theorem sc_first_hit : FnScope ["start", "step", "most", "modulus", "least", "greatest"] ["start", "step", "most", "modulus"] (defScope s_first_hit) := ⟨rfl, rfl, rfl, by decide +kernel, rfl, by decide +kernel, by decide +kernel⟩
/- _first_between: 0:step 1:least 2:greatest 3:modulus 4:many 5:rounds -/
theorem sc_first_between : FnScope ["step", "least", "greatest", "modulus", "many", "rounds"] ["step", "least", "greatest", "modulus"] (defScope s_first_between) := ⟨rfl, rfl, rfl, by decide +kernel, rfl, by decide +kernel, by decide +kernel⟩
/- unraised: 0:side 1:least 2:offset 3:step 4:_ 5:period 6:blocks 7:figure 8:low 9:high 10:start -/
theorem sc_unraised : FnScope ["side", "least", "offset", "step", "_", "period", "blocks", "figure", "low", "high", "start"] ["side", "least"] (defScope s_unraised) := ⟨rfl, rfl, rfl, by decide +kernel, rfl, by decide +kernel, by decide +kernel⟩
/- first_in_block: 0:block 1:value 2:start 3:most 4:period 5:past -/
theorem sc_first_in_block : FnScope ["block", "value", "start", "most", "period", "past"] ["block", "value"] (defScope s_first_in_block) := ⟨rfl, rfl, rfl, by decide +kernel, rfl, by decide +kernel, by decide +kernel⟩
/- first_in_both: 0:one 1:other 2:value 3:start 4:most 5:period 6:begin 7:found 8:other_start 9:other_most 10:other_period 11:many -/
theorem sc_first_in_both : FnScope ["one", "other", "value", "start", "most", "period", "begin", "found", "other_start", "other_most", "other_period", "many"] ["one", "other", "value"] (defScope s_first_in_both) := ⟨rfl, rfl, rfl, by decide +kernel, rfl, by decide +kernel, by decide +kernel⟩
/- reach: 0:sides 1:value 2:raising 3:lowering 4:least -/
theorem sc_reach : FnScope ["sides", "value", "raising", "lowering", "least"] ["sides", "value"] (defScope s_reach) := ⟨rfl, rfl, rfl, by decide +kernel, rfl, by decide +kernel, by decide +kernel⟩
/- _check_few: 0:raising -/
theorem sc_check_few : FnScope ["raising"] ["raising"] (defScope s_check_few) := ⟨rfl, rfl, rfl, by decide +kernel, rfl, by decide +kernel, by decide +kernel⟩
/- _first_unraised: 0:raising 1:value 2:end 3:worth -/
theorem sc_first_unraised : FnScope ["raising", "value", "end", "worth"] ["raising", "value"] (defScope s_first_unraised) := ⟨rfl, rfl, rfl, by decide +kernel, rfl, by decide +kernel, by decide +kernel⟩
/- _first_unraised_by_two: 0:first 1:second 2:value 3:found 4:one 5:other 6:near -/
theorem sc_first_unraised_by_two : FnScope ["first", "second", "value", "found", "one", "other", "near"] ["first", "second", "value"] (defScope s_first_unraised_by_two) := ⟨rfl, rfl, rfl, by decide +kernel, rfl, by decide +kernel, by decide +kernel⟩
/- once: 0:sides 1:value 2:ends 3:end -/
theorem sc_once : FnScope ["sides", "value", "ends", "end"] ["sides", "value"] (defScope s_once) := ⟨rfl, rfl, rfl, by decide +kernel, rfl, by decide +kernel, by decide +kernel⟩
/- order_matters: 0:sides 1:value 2:many 3:orders 4:start -/
theorem sc_order_matters : FnScope ["sides", "value", "many", "orders", "start"] ["sides", "value"] (defScope s_order_matters) := ⟨rfl, rfl, rfl, by decide +kernel, rfl, by decide +kernel, by decide +kernel⟩
/- _orders: 0:many 1:orders 2:_ 3:order 4:number -/
theorem sc_orders : FnScope ["many", "orders", "_", "order", "number"] ["many"] (defScope s_orders) := ⟨rfl, rfl, rfl, by decide +kernel, rfl, by decide +kernel, by decide +kernel⟩
/- _ends: 0:sides 1:orders 2:value 3:ends 4:order 5:end 6:number -/
theorem sc_ends : FnScope ["sides", "orders", "value", "ends", "order", "end", "number"] ["sides", "orders", "value"] (defScope s_ends) := ⟨rfl, rfl, rfl, by decide +kernel, rfl, by decide +kernel, by decide +kernel⟩
/- calm: 0:sides 1:left_out 2:numbers 3:number 4:side -/
theorem sc_calm : FnScope ["sides", "left_out", "numbers", "number", "side"] ["sides"] (defScope s_calm) := ⟨rfl, rfl, rfl, by decide +kernel, rfl, by decide +kernel, by decide +kernel⟩
/- _are_calm: 0:sides 1:least 2:greatest -/
theorem sc_are_calm : FnScope ["sides", "least", "greatest"] ["sides"] (defScope s_are_calm) := ⟨rfl, rfl, rfl, by decide +kernel, rfl, by decide +kernel, by decide +kernel⟩
/- _one_more: 0:lists 1:many 2:numbers 3:number -/
theorem sc_one_more : FnScope ["lists", "many", "numbers", "number"] ["lists", "many"] (defScope s_one_more) := ⟨rfl, rfl, rfl, by decide +kernel, rfl, by decide +kernel, by decide +kernel⟩
/- _law_source: 0:_law_script 1:_law_cells 2:_law_k -/
theorem sc_L_source : FnScope ["_law_script", "_law_cells", "_law_k"] ["_law_script"] (defScope s_L_source) := ⟨rfl, rfl, rfl, by decide +kernel, rfl, by decide +kernel, by decide +kernel⟩
/- _law_draw: 0:_law_source_here 1:_law_limit 2:_law_cells 3:_law_turn 4:_law_place 5:_law_cell 6:_law_number -/
theorem sc_L_draw : FnScope ["_law_source_here", "_law_limit", "_law_cells", "_law_turn", "_law_place", "_law_cell", "_law_number"] ["_law_source_here", "_law_limit"] (defScope s_L_draw) := ⟨rfl, rfl, rfl, by decide +kernel, rfl, by decide +kernel, by decide +kernel⟩
/- _law_pick: 0:_law_source_here 1:_law_values -/
theorem sc_L_pick : FnScope ["_law_source_here", "_law_values"] ["_law_source_here", "_law_values"] (defScope s_L_pick) := ⟨rfl, rfl, rfl, by decide +kernel, rfl, by decide +kernel, by decide +kernel⟩
/- _law_great: 0:_law_source_here 1:_law_digits 2:_law_number 3:_law_k -/
theorem sc_L_great : FnScope ["_law_source_here", "_law_digits", "_law_number", "_law_k"] ["_law_source_here", "_law_digits"] (defScope s_L_great) := ⟨rfl, rfl, rfl, by decide +kernel, rfl, by decide +kernel, by decide +kernel⟩
/- _law_side: 0:_law_source_here 1:_law_digits 2:_law_step 3:_law_offset -/
theorem sc_L_side : FnScope ["_law_source_here", "_law_digits", "_law_step", "_law_offset"] ["_law_source_here", "_law_digits"] (defScope s_L_side) := ⟨rfl, rfl, rfl, by decide +kernel, rfl, by decide +kernel, by decide +kernel⟩
/- _law_word: 0:_law_kind 1:_law_sides 2:_law_value 3:_law_caught 4:e 5:_law_hits -/
theorem sc_L_word : FnScope ["_law_kind", "_law_sides", "_law_value", "_law_caught", "e", "_law_hits"] ["_law_kind", "_law_sides", "_law_value"] (defScope s_L_word) := ⟨rfl, rfl, rfl, by decide +kernel, rfl, by decide +kernel, by decide +kernel⟩
/- law: 0:_law_script 1:_law_source_here 2:_law_turn 3:_law_one 4:_law_small 5:_law_odd 6:_law_sides 7:_law_value 8:_law_kind 9:_law_bad 10:_law_k 11:_law_great_here 12:_law_wide 13:_law_near 14:_law_far 15:_law_many 16:_law_words -/
theorem sc_law : FnScope ["_law_script", "_law_source_here", "_law_turn", "_law_one", "_law_small", "_law_odd", "_law_sides", "_law_value", "_law_kind", "_law_bad", "_law_k", "_law_great_here", "_law_wide", "_law_near", "_law_far", "_law_many", "_law_words"] ["_law_script"] (defScope s_law) := ⟨rfl, rfl, rfl, by decide +kernel, rfl, by decide +kernel, by decide +kernel⟩

end HT
namespace L2
open PySem PySem.Spec PyProof.Rows
/-- powers of great numbers -/
def CPowW (i j : Int) : Prop := 0 ≤ j ∧ (Builtin.Int.intBits i : Int) * j ≤ 2 ^ 27
theorem op_powW {X : Cx} : OpR X (binaryOp .Pow) (rI CPowW fun i j => .int (i ^ j.toNat)) := opI fun _ _ _ _ _ _ _ hc q => pow_int hc.1 hc.2 q
end L2
namespace HT
open PySem L2
/-- the law's source of draws: a list of its cells' list and the turn -/
structure Src (H : Hp) (a c : Addr) (t : Nat) : Prop where
  ne : a ≠ c
  ob : H a = some (.lst [.ref c, .int (t : Int)])
  cl : ∃ cs : List Int, H c = some (.lst (cs.map V.int)) ∧ 0 < cs.length ∧ cs.length ≤ 63
/-- nothing else is touched -/
def Oth (a c : Addr) (H H' : Hp) : Prop := ∀ b o, H b = some o → b ≠ a → b ≠ c → H' b = some o
theorem Oth.refl (a c : Addr) (H : Hp) : Oth a c H H := fun _ _ h _ _ => h
theorem Oth.trans {a c : Addr} {H H1 H2 : Hp} (x : Oth a c H H1) (y : Oth a c H1 H2) : Oth a c H H2 := fun b o h n m => y b o (x b o h n m) n m
theorem Oth.new {a c p : Addr} {H H1 : Hp} {o : HO} (x : Oth a c H H1) (n : H1 p = none) : Oth a c H (upd H1 p o) := fun b u h na nc => by
  rw [upd_ne (ne_of_none (x b u h na nc) n)]
  exact x b u h na nc
theorem Src.new {a c p : Addr} {H : Hp} {t : Nat} {o : HO} (S : Src H a c t) (n : H p = none) : Src (upd H p o) a c t := by
  obtain ⟨cs, h, l⟩ := S.cl
  exact ⟨S.ne, by rw [upd_ne (ne_of_none S.ob n)]; exact S.ob, cs, by rw [upd_ne (ne_of_none h n)]; exact h, l⟩
theorem Src.of_same {a c : Addr} {H H' : Hp} {t : Nat} (S : Src H a c t) (e : Same H H') : Src H' a c t := by
  obtain ⟨cs, h, l⟩ := S.cl
  exact ⟨S.ne, e _ _ S.ob, cs, e _ _ h, l⟩
theorem Src.na {a c p : Addr} {H : Hp} {t : Nat} (S : Src H a c t) (n : H p = none) : p ≠ a ∧ p ≠ c := by
  obtain ⟨cs, h, l⟩ := S.cl
  exact ⟨(ne_of_none S.ob n).symm, (ne_of_none h n).symm⟩
theorem Src.nt {a c p : Addr} {H : Hp} {t : Nat} {xs : List V} (S : Src H a c t) (n : H p = some (.tup xs)) : p ≠ a ∧ p ≠ c := by
  obtain ⟨cs, h, l⟩ := S.cl
  exact ⟨ne_of n S.ob (by intro z; cases z), ne_of n h (by intro z; cases z)⟩
def spSource (K : PySem.W.Frag) : Sp := fun vs H Q _ => ∃ (l : Addr) (ns : List Int), vs = [.ref l] ∧ SqL K H l (ns.map V.int) ∧ ns.length ≤ 63 ∧
  ∀ a c H', Same H H' → H a = none → H c = none → Src H' a c 0 → Q (.ref a) H'
def spDraw : Sp := fun vs H Q _ => ∃ (a c : Addr) (t : Nat) (lim : Int), vs = [.ref a, .int lim] ∧ Src H a c t ∧ t < 2 ^ 30 ∧ 0 < lim ∧ lim.natAbs.log2 < 9000 ∧
  ∀ k H', 0 ≤ k → k < lim → Src H' a c (t + 1) → Oth a c H H' → Q (.int k) H'
/-- what the walk asks of the names that the text does not bind -/
structure Blt (mg : Str → Option Value) : Prop where
  len : mg "len" = none
  abs : mg "abs" = none
  int : mg "int" = none
  range : mg "range" = none
section
variable {P : Program} {w : World} {K : PySem.W.Frag} {mg : Str → Option Value} {base : Heap}
theorem fdiv_ok (i : Int) {j : Int} (h : 0 < j) (h9 : j.natAbs.log2 < 9000) : CDivW i j := ⟨h, h9⟩
theorem atI_in {xs : List Int} {i : Int} (h0 : 0 ≤ i) (h : i < (xs.length : Int)) : atI (xs.map V.int) i = some (.int (xs.getD i.toNat 0)) := by
  have e : ixN (xs.map V.int).length i = some i.toNat := by
    unfold ixN
    rw [List.length_map, if_pos h0, if_pos h]
  unfold atI
  rw [e]
  show (xs.map V.int)[i.toNat]? = _
  have hl : i.toNat < xs.length := by omega
  rw [List.getElem?_map, List.getElem?_eq_getElem hl, List.getD_eq_getElem?_getD, List.getElem?_eq_getElem hl]
  rfl
theorem ixN_in {n : Nat} {i : Int} (h0 : 0 ≤ i) (h : i < (n : Int)) : ixN n i = some i.toNat := by
  unfold ixN
  rw [if_pos h0, if_pos h]
theorem b_mod (x : Int) : -(2 ^ 64) < x % 2147483629 ∧ x % 2147483629 < 2 ^ 64 := by omega
theorem b_mod1 (x : Int) : -(2 ^ 64) < x % 2147483647 ∧ x % 2147483647 < 2 ^ 64 := by omega
theorem b_t {t : Nat} (h : t < 2 ^ 30) : -(2 ^ 64) < (t : Int) ∧ (t : Int) < 2 ^ 64 := by omega
theorem b_tt {t : Nat} (h : t < 2 ^ 30) : -(2 ^ 64) < (t : Int) * t ∧ (t : Int) * t < 2 ^ 64 := by
  have h1 : t * t < 2 ^ 30 * 2 ^ 30 := Nat.mul_lt_mul'' h h
  have h2 : ((t * t : Nat) : Int) = (t : Int) * t := Int.natCast_mul t t
  omega
theorem set_ints (xs : List Int) (j : Nat) (y : Int) : (xs.map V.int).set j (.int y) = (xs.set j y).map V.int := by
  rw [List.map_set]
theorem ok_draw {f : Addr} {fd : FuncData} (F : Fun K "_law_draw" "_law_draw" s_L_draw f fd) (B : Blt mg) : FnOk P w K mg base CX0 1 f fd ["_law_source_here", "_law_limit"] spDraw := by
  refine F.ok sc_L_draw (fun vs H Q E h => ?_) (fun cdv A outer s H vs Q E hr h => ?_)
  · obtain ⟨a, c, t, lim, rfl, _⟩ := h
    rfl
  · obtain ⟨a, c, t, lim, rfl, S, ht, hl0, hl9, q⟩ := h
    obtain ⟨cs, hc, hn0, hn⟩ := S.cl
    have nd := sc_L_draw.nd
    refine ⟨_, pss_cons (ps_asg (pv 0) (pg_unl (n := 2) (by rfl) (pgs_cons (pg_name (i := 2) nd rfl (Or.inl rfl)) (pgs_cons (pg_name (i := 3) nd rfl (Or.inl rfl)) pgs_nil))))
      (pss_cons (ps_set (i := 4) nd rfl (Or.inl rfl) (pe_op op_mod (pe_callTy call_int1 (by rfl) B.int (by decide +kernel) (pa_cons (pv 3) pa_nil)) (pe_callB call_len_seq (by rfl) B.len PySem.boot_len (pa_cons (pv 2) pa_nil))))
      (pss_cons (ps_set (i := 5) nd rfl (Or.inl rfl) (pe_ix ix_list (pv 2) (pv 4) (fun _ _ => rfl)))
      (pss_cons (ps_asg (pe_op op_add (pv 3) pe_int) (pg_sub (pv 0) pe_int set_list))
      (pss_cons (ps_if (pt_cmpR op_ge (pv 5) (pe_op op_pow pe_int pe_int) (nomark _))
        (pss_cons (ps_asg (pe_op op_fdivW (pv 5) (pv 1)) (pg_sub (pv 2) (pv 4) set_list))
          (pss_one (ps_ret (pe_op op_mod (pe_callTy call_int1 (by rfl) B.int (by decide +kernel) (pa_cons (pv 5) pa_nil)) (pv 1))))) pss_nil)
      (pss_cons (ps_set (i := 6) nd rfl (Or.inl rfl) (pe_op op_mod (pe_callTy call_int1 (by rfl) B.int (by decide +kernel) (pa_cons
          (pe_op op_add (pe_op op_add (pe_op op_mul (pe_op op_mod (pe_callTy call_int1 (by rfl) B.int (by decide +kernel) (pa_cons (pv 5) pa_nil)) pe_int) pe_int) (pe_op op_mul (pe_op op_mul (pv 3) (pv 3)) pe_int)) pe_int) pa_nil)) pe_int))
      (pss_cons (ps_set (i := 6) nd rfl (Or.inl rfl) (pe_op op_mod (pe_callTy call_int1 (by rfl) B.int (by decide +kernel) (pa_cons (pe_op op_mul (pv 6) (pv 6)) pa_nil)) pe_int))
      (pss_cons (ps_set (i := 6) nd rfl (Or.inl rfl) (pe_op op_mod (pe_callTy call_int1 (by rfl) B.int (by decide +kernel) (pa_cons (pe_op op_mul (pv 6) (pv 6)) pa_nil)) pe_int))
      (pss_one (ps_ret (pe_op op_mod (pe_callTy call_int1 (by rfl) B.int (by decide +kernel) (pa_cons (pv 6) pa_nil)) (pv 1))))))))))), ?_⟩
    -- _law_cells, _law_turn = _law_source_here
    walk_at "rd"
    refine ⟨a, _, rfl, SqL.of S.ob, rfl, _, _, rfl, _, _, rfl, rfl, ?_⟩
    -- _law_place
    walk_at "rd"
    have hn0' : (0 : Int) < ((cs.map V.int).length : Nat) := by rw [List.length_map]; omega
    refine ⟨c, _, rfl, .inl (SqL.of hc), _, _, rfl, rfl, hn0', ?_⟩
    have hp0 : 0 ≤ (t : Int) % ((cs.map V.int).length : Nat) := Int.emod_nonneg _ (by omega)
    have hp1 : (t : Int) % ((cs.map V.int).length : Nat) < ((cs.map V.int).length : Nat) := Int.emod_lt_of_pos _ hn0'
    have hp1' : (t : Int) % ((cs.map V.int).length : Nat) < (cs.length : Int) := by rw [List.length_map] at hp1 ⊢; exact hp1
    -- _law_cell
    walk_at "rd"
    refine ⟨c, _, _, _, rfl, rfl, SqL.of hc, atI_in hp0 hp1', ?_⟩
    -- _law_source_here[1] = _law_turn + 1
    walk_at "rd"
    refine ⟨a, _, 1, 1, rfl, rfl, S.ob, rfl, ?_⟩
    have S1 : Src (upd H a (.lst ([V.ref c, V.int t].set 1 (.int ((t : Int) + 1))))) a c (t + 1) := ⟨S.ne, by rw [upd_same]; rfl, cs, by rw [upd_ne S.ne.symm]; exact hc, hn0, hn⟩
    have O1 : Oth a c H (upd H a (.lst ([V.ref c, V.int t].set 1 (.int ((t : Int) + 1))))) := fun b o h na _ => by rw [upd_ne na]; exact h
    have hc1 : upd H a (.lst ([V.ref c, V.int t].set 1 (.int ((t : Int) + 1)))) c = some (.lst (cs.map V.int)) := by rw [upd_ne S.ne.symm]; exact hc
    generalize upd H a (.lst ([V.ref c, V.int t].set 1 (.int ((t : Int) + 1)))) = H1 at S1 O1 hc1 ⊢
    -- if _law_cell >= 10 ** 18
    walk_at "rd"
    refine ⟨⟨by decide, by decide, by decide⟩, ?_⟩
    walk_at "rd"
    refine ite2 (fun _ => ?_) (fun _ => ?_)
    · walk_at "rd"
      refine ⟨fdiv_ok _ hl0 hl9, ?_⟩
      walk_at "rd"
      refine ⟨c, _, _, _, rfl, rfl, hc1, ixN_in hp0 hp1, ?_⟩
      walk_at "rd"
      refine ⟨hl0, ?_⟩
      rw [set_ints]
      refine q _ _ (Int.emod_nonneg _ (by omega)) (Int.emod_lt_of_pos _ hl0) ⟨S1.ne, by rw [upd_ne S1.ne]; exact S1.ob, _, upd_same, by rw [List.length_set]; exact hn0, by rw [List.length_set]; exact hn⟩ fun b o h na nc => ?_
      rw [upd_ne nc]
      exact O1 b o h na nc
    · walk_at "rd"
      refine ⟨(by show (0 : Int) < 2147483629; decide), ?_⟩
      walk_at "rd"
      refine ⟨.inl (b_mod _), ?_⟩
      walk_at "rd"
      refine ⟨.inl (b_t ht), ?_⟩
      walk_at "rd"
      refine ⟨.inl (b_tt ht), ?_⟩
      walk_at "rd"
      refine ⟨(by show (0 : Int) < 2147483647; decide), ?_⟩
      walk_at "rd"
      refine ⟨.inl (b_mod1 _), ?_⟩
      walk_at "rd"
      refine ⟨(by show (0 : Int) < 2147483629; decide), ?_⟩
      walk_at "rd"
      refine ⟨.inl (b_mod _), ?_⟩
      walk_at "rd"
      refine ⟨(by show (0 : Int) < 2147483587; decide), ?_⟩
      walk_at "rd"
      refine ⟨hl0, ?_⟩
      exact q _ _ (Int.emod_nonneg _ (by omega)) (Int.emod_lt_of_pos _ hl0) S1 O1
end
end HT
namespace HT
open PySem L2
/-- a def of the text that may be called by its name, and what it promises -/
structure Cal (P : Program) (w : World) (K : PySem.W.Frag) (mg : Str → Option Value) (base : Heap) (x : Str) (k : Nat) (ps : List Str) (sp : Sp) (f : Addr) (fd : FuncData) : Prop where
  ok : FnOk P w K mg base CX0 k f fd ps sp
  gl : mg x = some (.ref f)
  kp : PySem.W.keepIn K (.ref f) = true
  bd : Binds K fd ps []
theorem pcl {X : Cx} {x : Str} {k j : Nat} {ps : List Str} {sp : Sp} {f : Addr} {fd : FuncData} {e : Expr} {es : List Expr} {t : TA} {p pos : Pos} (C : Cal X.prog X.w X.K X.mg X.base x k ps sp f fd) (hr : Room j X.A) (hj : k ≤ j) (hg : Gl X x) (ha : PA X (e :: es) t)
    (hdb : (x == ("__debug__" : Str)) = false := by decide) (he : starEach (e :: es) X.env = (false, eval e X.env) :: starEach es X.env := by rfl) (hpl : (backTo pos (starEach es X.env)).any (·.1) = false := by rfl) : PE X (.Call (.Name x p) (e :: es) [] pos) (tCall sp [] E0 t) :=
  pe_call C.ok (hr.mono hj) hg C.gl C.kp C.bd .nil pass0 ha hdb he hpl
section
variable {P : Program} {w : World} {K : PySem.W.Frag} {mg : Str → Option Value} {base : Heap}
theorem cut63 {ns : List Int} (h : ns.length ≤ 63) : cutV (ns.map V.int) none (some 63) = ns.map V.int := by
  have e1 : HT.sIx (ns.map V.int).length 0 none = 0 := rfl
  have e2 : HT.sIx (ns.map V.int).length (ns.map V.int).length (some 63) = (ns.map V.int).length := by
    have := HT.sIx_nat (ns.map V.int).length (ns.map V.int).length 63
    rw [show ((63 : Nat) : Int) = 63 from rfl] at this
    rw [this, List.length_map]
    omega
  unfold cutV
  rw [e1, e2, List.drop_zero, Nat.sub_zero, List.take_length]
theorem dpInts (H : Hp) : ∀ ns : List Int, DpAll K H (ns.map V.int) (ns.map PyData.int)
  | [] => .nil
  | n :: r => .cons (.int n) (dpInts H r)
theorem pow_ok : CPowW ((10 : Int) ^ (60 : Int).toNat) 20 := ⟨by decide, by decide +kernel⟩
theorem pow_pos' : (0 : Int) < ((10 : Int) ^ (60 : Int).toNat) ^ (20 : Int).toNat := by decide +kernel
theorem ok_source {f : Addr} {fd : FuncData} (F : Fun K "_law_source" "_law_source" s_L_source f fd) (B : Blt mg) : FnOk P w K mg base CX0 1 f fd ["_law_script"] (spSource K) := by
  refine F.ok sc_L_source (fun vs H Q E h => ?_) (fun cdv A outer s H vs Q E hr h => ?_)
  · obtain ⟨l, ns, rfl, _⟩ := h
    rfl
  · obtain ⟨l, ns, rfl, hL, hn, q⟩ := h
    have nd := sc_L_source.nd
    refine ⟨_, pss_cons (ps_set (i := 1) nd rfl (Or.inl rfl) (pe_slice sl_list (pv 0) po_none (po_some pe_int)))
      (pss_cons (ps_for PassesOwn.never rfl (pi_range1 (by rfl) B.range (pa_cons (pe_callB call_len_seq (by rfl) B.len PySem.boot_len (pa_cons (pv 1) pa_nil)) pa_nil)) (pg_name (i := 2) nd rfl (Or.inl rfl))
        (pss_one (ps_if (pt_cmpR op_ge (pe_callB call_abs (by rfl) B.abs (by decide +kernel) (pa_cons (pe_ix ix_list (pv 1) (pv 2) (fun _ _ => rfl)) pa_nil)) (pe_op op_pow pe_int pe_int) (nomark _))
          (pss_one (ps_asg (pe_op op_mod (pe_callTy call_int1 (by rfl) B.int (by decide +kernel) (pa_cons (pe_ix ix_list (pv 1) (pv 2) (fun _ _ => rfl)) pa_nil)) (pe_op op_powW (pe_op op_pow pe_int pe_int) pe_int)) (pg_sub (pv 1) (pv 2) set_list))) pss_nil)))
      (pss_cons (ps_if (pt_cmpR (op_eqD hr.units) (pv 1) (pe_lst pa_nil) (nomark _)) (pss_one (ps_set (i := 1) nd rfl (Or.inl rfl) (pe_lst (pa_cons pe_int pa_nil)))) pss_nil)
      (pss_one (ps_ret (pe_lst (pa_cons (pv 1) (pa_cons pe_int pa_nil))))))), ?_⟩
    walk_at "rd"
    refine ⟨l, _, rfl, hL, fun p np => ?_⟩
    rw [cut63 hn]
    walk_at "rd"
    refine ⟨p, _, rfl, .inl (SqL.of upd_same), _, rfl, by omega, ?_, ?_⟩
    · show ((ns.map V.int).length : Int) < 2 ^ 62
      rw [List.length_map]
      omega
    have en : ((ns.map V.int).length : Int).toNat = ns.length := by rw [List.length_map]; omega
    rw [en]
    refine for_range (fun i σ H' => ∃ (cs : List Int) (kv : Option V), σ = [some (.ref l), some (.ref p), kv] ∧ H' p = some (.lst (cs.map V.int)) ∧ cs.length = ns.length ∧ Same H H') ⟨ns, none, rfl, upd_same, rfl, fun b o e => by rw [upd_ne (ne_of_none e np)]; exact e⟩ ?_ ?_
    · rintro i σ H' hi ⟨cs, kv, rfl, hp, hl, sm⟩
      have h0 : (0 : Int) ≤ 0 + (i : Int) := by omega
      have h1 : (0 : Int) + (i : Int) < (cs.length : Int) := by omega
      walk_at "rd"
      refine ⟨p, _, _, _, rfl, rfl, SqL.of hp, atI_in h0 h1, ?_⟩
      walk_at "rd"
      refine ⟨⟨by decide, by decide, by decide⟩, ?_⟩
      walk_at "rd"
      refine ite2 (fun _ => ?_) (fun _ => ?_)
      · walk_at "rd"
        refine ⟨p, _, _, _, rfl, rfl, SqL.of hp, atI_in h0 h1, ?_⟩
        walk_at "rd"
        refine ⟨⟨by decide, by decide, by decide⟩, ?_⟩
        walk_at "rd"
        refine ⟨pow_ok, ?_⟩
        walk_at "rd"
        refine ⟨pow_pos', ?_⟩
        walk_at "rd"
        refine ⟨p, _, _, _, rfl, rfl, hp, ixN_in h0 (by rw [List.length_map]; exact h1), ?_⟩
        rw [set_ints]
        exact ⟨_, _, rfl, upd_same, by rw [List.length_set]; exact hl, fun b o e => by rw [upd_ne (ne_of_none e np)]; exact sm b o e⟩
      · exact ⟨cs, _, rfl, hp, hl, sm⟩
    · rintro σ H' ⟨cs, kv, rfl, hp, hl, sm⟩
      walk_at "rd"
      refine ⟨by decide, fun e ne => ?_⟩
      have hpe : upd H' e (.lst []) p = some (.lst (cs.map V.int)) := by rw [upd_ne (ne_of_none hp ne)]; exact hp
      have sm1 : Same H (upd H' e (.lst [])) := fun b o z => by rw [upd_ne (ne_of_none (sm b o z) ne)]; exact sm b o z
      refine ⟨_, _, .lst (SqL.of hpe) (dpInts _ cs), .lst (SqL.of upd_same) .nil, PySem.W.ke_shaped_ints cs, by decide +kernel, ?_⟩
      walk_at "rd"
      have hb : PyData.eqv (.list (cs.map PyData.int)) (.list []) = decide (cs = []) := by
        have z := PySem.W.ked_eqvAll cs []
        rw [← z]
        rfl
      rw [hb]
      refine ite2 (fun _ => ?_) (fun hne => ?_)
      · walk_at "rd"
        refine ⟨by decide, fun c nc => ?_⟩
        walk_at "rd"
        refine ⟨(by show 2 ≤ sizeLine; decide), fun a na => ?_⟩
        have sm2 : Same H (upd (upd H' e (.lst [])) c (.lst [.int 0])) := fun b o z => by rw [upd_ne (ne_of_none (sm1 b o z) nc)]; exact sm1 b o z
        have nac : a ≠ c := (ne_of_none upd_same na).symm
        refine q a c _ (fun b o z => by rw [upd_ne (ne_of_none (sm2 b o z) na)]; exact sm2 b o z) (sm2.free na) (sm1.free nc) ⟨nac, upd_same, [0], by rw [upd_ne nac.symm]; exact upd_same, by decide, by decide⟩
      · walk_at "rd"
        refine ⟨(by show 2 ≤ sizeLine; decide), fun a na => ?_⟩
        have nap : a ≠ p := (ne_of_none hpe na).symm
        refine q a p _ (fun b o z => by rw [upd_ne (ne_of_none (sm1 b o z) na)]; exact sm1 b o z) (sm1.free na) np ⟨nap, upd_same, cs, by rw [upd_ne nap.symm]; exact hpe, ?_, by omega⟩
        have : cs ≠ [] := fun z => hne (decide_eq_true z)
        exact List.length_pos_iff.mpr this
end
end HT
namespace HT
open PySem L2
/-- a def of which errors may come, and its call -/
structure CalX (P : Program) (w : World) (K : PySem.W.Frag) (mg : Str → Option Value) (base : Heap) (x : Str) (k : Nat) (ps : List Str) (sp : Sp) (f : Addr) (fd : FuncData) : Prop where
  ok : FnOk P w K mg base (L2.CX P w) k f fd ps sp
  mgf : mg x = some (.ref f)
  kp : PySem.W.keepIn K (.ref f) = true
  b : Binds K fd ps []
theorem pcx {X : Cx} {x : Str} {k j : Nat} {ps : List Str} {sp : Sp} {f : Addr} {fd : FuncData} {e : Expr} {es : List Expr} {t : TA} {p pos : Pos} {W : WX} (C : CalX X.prog X.w X.K X.mg X.base x k ps sp f fd) (hr : Room j X.A) (hj : k ≤ j) (hg : Gl X x) (tk : L2.Takes X W) (ha : PA X (e :: es) t)
    (hdb : (x == ("__debug__" : Str)) = false := by decide) (he : starEach (e :: es) X.env = (false, eval e X.env) :: starEach es X.env := by rfl) (hpl : (backTo pos (starEach es X.env)).any (·.1) = false := by rfl) : PE X (.Call (.Name x p) (e :: es) [] pos) (tCallS sp (WE W) t) :=
  pe_callS C.ok (hr.mono hj) hg C.mgf C.kp C.b (fun σ => L2.passAt tk σ) ha hdb he hpl
end HT
namespace PySem.W
open PySem PySem.Calls
theorem args_lcm3 (a b c : Value) : argsOk "math.lcm" ⟨[a, b, c], []⟩ := by unfold argsOk; kernel_rfl
theorem run_lcm3 (a : Int) (t : Tok) (b : Int) (u : Tok) (c : Int) (v : Tok) (hc0 : ¬(max 1 a.natAbs).log2 / 30 + 1 > 450) (hc1 : ¬(max a.natAbs b.natAbs).log2 / 30 + 1 > 450)
    (hc2 : ¬(max ((Nat.lcm 1 a.natAbs).lcm b.natAbs) c.natAbs).log2 / 30 + 1 > 450)
    (hsz : (((((Nat.lcm 1 a.natAbs).lcm b.natAbs).lcm c.natAbs : Nat) : Int)).natAbs.log2 < bitsLine) :
    Gives (Builtin.«math.lcm» ⟨[.int a t, .int b u, .int c v], []⟩) (.int (((((Nat.lcm 1 a.natAbs).lcm b.natAbs).lcm c.natAbs : Nat) : Int))) :=
  .of_wp fun M A E s Q h => by obtain ⟨hp, g, d, tk, os⟩ := s; wp_walk; refine wpAny_ite_false (decide_eq_false hc2) ?_; wp_walk; (try (refine wpAny_ite_false (decide_eq_false (Nat.not_le.mpr hsz)) ?_; wp_walk)); exact ⟨_, rfl, h⟩
end PySem.W
namespace L2
open PySem PySem.Spec PyProof.Rows
/-- xs.count(y) of flat things -/
def rCntV (K : PySem.W.Frag) : V → List V → Hp → VK → Prop := fun x xs H Q => ∃ (p : Addr) (ys : List V) (y : V), x = .ref p ∧ xs = [y] ∧ SqL K H p ys ∧ flatV y = true ∧ ys.all flatV = true ∧ Q (.int (ys.countP (fun z => eqV z y) : Nat)) H
theorem count_eqU {x : V} : ∀ {xs : List V} {us : List Value}, Vals xs us → xs.all flatV = true → us.countP (eqU x) = xs.countP fun y => eqV y x
  | _, _, .nil, _ => rfl
  | y :: xs, u :: us, .cons r t, f => by
    obtain ⟨f1, f2⟩ := Bool.and_eq_true_iff.mp (List.all_cons ▸ f)
    rw [List.countP_cons, List.countP_cons, eqU_of r f1, count_eqU t f2]
theorem mt_cntV {X : Cx} : MtR X "list.count" (rCntV X.K) := by
  intro pins sh st H x xs v us Q iv rx rxs h
  obtain ⟨p, ys, y, rfl, rfl, hs, fy, fys, q⟩ := h
  cases rx
  obtain ⟨u, rfl, ru⟩ := rxs.one
  obtain ⟨its, rv, ⟨⟨cls, dd, data, sl⟩, n, ho, hc, hdn, hd⟩, hlen⟩ := iv.list hs
  dsimp only at hc hd
  subst hc hd
  refine call_meets PySem.F.slot_list_count ⟨_, ho, rfl⟩ PySem.F.entry_list_count (PySem.F.args_list_count_2 _ _) (SeqAt.list_countAt p its.toArray n dd sl u (eqU y)) ⟨ho, fun w hw => mem_eqAt ru fy rv fys w (by simpa using hw), ?_⟩
  refine ⟨.int (ys.countP (fun z => eqV z y) : Nat), H, iv.tok _, ⟨sh.toks, ?_⟩, q⟩
  rw [show its.toArray.toList.countP (eqU y) = ys.countP (fun z => eqV z y) from count_eqU rv fys]
end L2
namespace HT
open PySem L2
/-! ### pick, great, side -/
def spPick : Sp := fun vs H Q _ => ∃ (a c : Addr) (t : Nat) (l : Addr) (xs : List V), vs = [.ref a, .ref l] ∧ Src H a c t ∧ t < 2 ^ 30 ∧ H l = some (.lst xs) ∧ l ≠ a ∧ l ≠ c ∧ 0 < xs.length ∧ xs.length < 2 ^ 60 ∧
  ∀ x H', x ∈ xs → Src H' a c (t + 1) → Oth a c H H' → Q x H'
def spGreat : Sp := fun vs H Q _ => ∃ (a c : Addr) (t n : Nat), vs = [.ref a, .int (n : Int)] ∧ Src H a c t ∧ n ≤ 1000 ∧ t + n < 2 ^ 30 ∧
  ∀ k H', 0 ≤ k → k < 10 ^ n → Src H' a c (t + n) → Oth a c H H' → Q (.int k) H'
/-- the modes -/
def Mode (m : Str) : Prop := m = "down" ∨ m = "up" ∨ m = "half_down" ∨ m = "half_up" ∨ m = "half_even"
/-- a side's parts -/
structure SideP (o s : Int) (m : Str) : Prop where
  o0 : -10 ^ 40 ≤ o
  o1 : o ≤ 10 ^ 40
  s0 : 1 ≤ s
  s1 : s ≤ 10 ^ 30
  md : Mode m
def sideV (o s : Int) (m : Str) : HO := .tup [.int o, .int s, .str m]
def spSide : Sp := fun vs H Q _ => ∃ (a c : Addr) (t n : Nat), vs = [.ref a, .int (n : Int)] ∧ Src H a c t ∧ 1 ≤ n ∧ n ≤ 40 ∧ t + 200 < 2 ^ 30 ∧
  ∀ p o s m H' t', H p = none → H' p = some (sideV o s m) → SideP o s m → (-10 ^ n ≤ o ∧ o ≤ 10 ^ n) → t' ≤ t + 200 → Src H' a c t' → Oth a c H H' → Q (.ref p) H'
theorem lg_nat {n : Nat} (h : n < 2 ^ 200) : ((n : Int)).natAbs.log2 < 9000 := by
  rw [Int.natAbs_natCast]
  by_cases e : n = 0
  · rw [e]; decide
  · have := (Nat.log2_lt e).mpr h
    omega
theorem lg_small {n : Int} (h0 : 0 ≤ n) (h : n < 2 ^ 64) : n.natAbs.log2 < 9000 := by
  obtain ⟨m, rfl⟩ := Int.eq_ofNat_of_zero_le h0
  exact lg_nat (Nat.lt_of_lt_of_le (by omega : m < 2 ^ 64) (Nat.pow_le_pow_right (by decide) (by decide)))
section
variable {P : Program} {w : World} {K : PySem.W.Frag} {mg : Str → Option Value} {base : Heap} {fD fP fG : Addr} {dD dP dG : FuncData}
theorem ok_pick {f : Addr} {fd : FuncData} (F : Fun K "_law_pick" "_law_pick" s_L_pick f fd) (B : Blt mg) (D : Cal P w K mg base "_law_draw" 1 ["_law_source_here", "_law_limit"] spDraw fD dD) :
    FnOk P w K mg base CX0 2 f fd ["_law_source_here", "_law_values"] spPick := by
  refine F.ok sc_L_pick (fun vs H Q E h => ?_) (fun cdv A outer s H vs Q E hr h => ?_)
  · obtain ⟨a, c, t, l, xs, rfl, _⟩ := h
    rfl
  · obtain ⟨a, c, t, l, xs, rfl, S, ht, hl, na, nc, h0, h1, q⟩ := h
    refine ⟨_, pss_one (ps_ret (pe_ix ix_list (pv 1) (pcl D hr (by decide) (by rfl) (pa_cons (pv 0) (pa_cons (pe_callB call_len_seq (by rfl) B.len PySem.boot_len (pa_cons (pv 1) pa_nil)) pa_nil))) (fun _ _ => rfl))), ?_⟩
    walk_at "rd"
    refine ⟨l, _, rfl, .inl (SqL.of hl), ?_⟩
    have p1 : (0 : Int) < (xs.length : Int) := by omega
    refine ⟨a, c, t, _, rfl, S, ht, p1, lg_nat (Nat.lt_of_lt_of_le h1 (Nat.pow_le_pow_right (by decide) (by decide))), fun k H' k0 k1 S' O => ?_⟩
    have hl' : k.toNat < xs.length := by omega
    have e : atI xs k = some xs[k.toNat] := by
      unfold atI
      rw [ixN_in k0 k1]
      exact List.getElem?_eq_getElem hl'
    refine ⟨l, _, _, _, rfl, rfl, SqL.of (O _ _ hl na nc), e, ?_⟩
    exact q _ _ (List.getElem_mem hl') S' O
theorem ok_great {f : Addr} {fd : FuncData} (F : Fun K "_law_great" "_law_great" s_L_great f fd) (B : Blt mg) (D : Cal P w K mg base "_law_draw" 1 ["_law_source_here", "_law_limit"] spDraw fD dD) :
    FnOk P w K mg base CX0 2 f fd ["_law_source_here", "_law_digits"] spGreat := by
  refine F.ok sc_L_great (fun vs H Q E h => ?_) (fun cdv A outer s H vs Q E hr h => ?_)
  · obtain ⟨a, c, t, n, rfl, _⟩ := h
    rfl
  · obtain ⟨a, c, t, n, rfl, S, hn, ht, q⟩ := h
    have nd := sc_L_great.nd
    refine ⟨_, pss_cons (ps_set (i := 2) nd rfl (Or.inl rfl) pe_int)
      (pss_cons (ps_for PassesOwn.never rfl (pi_range1 (by rfl) B.range (pa_cons (pv 1) pa_nil)) (pg_name (i := 3) nd rfl (Or.inl rfl))
        (pss_one (ps_set (i := 2) nd rfl (Or.inl rfl) (pe_op op_add (pe_op op_mul (pv 2) pe_int) (pcl D hr (by decide) (by rfl) (pa_cons (pv 0) (pa_cons pe_int pa_nil)))))))
      (pss_one (ps_ret (pv 2)))), ?_⟩
    walk_at "rd"
    refine ⟨by omega, by omega, ?_⟩
    rw [Int.toNat_natCast]
    refine for_range (fun i σ H' => ∃ (k : Int) (kv : Option V), σ = [some (.ref a), some (.int (n : Int)), some (.int k), kv] ∧ 0 ≤ k ∧ k < 10 ^ i ∧ Src H' a c (t + i) ∧ Oth a c H H') ⟨0, none, rfl, by decide, by decide, S, Oth.refl _ _ _⟩ ?_ ?_
    · rintro i σ H' hi ⟨k, kv, rfl, k0, k1, S', O⟩
      walk_at "rd"
      refine ⟨.inr ⟨by decide, by decide⟩, ?_⟩
      walk_at "rd"
      refine ⟨a, c, t + i, _, rfl, S', by omega, (by show (0 : Int) < 10; decide), (by show (10 : Int).natAbs.log2 < 9000; decide), fun y H2 y0 y1 S2 O2 => ?_⟩
      walk_at "rd"
      have y1' : y < 10 := y1
      refine ⟨_, _, rfl, (by show 0 ≤ k * 10 + y; omega), (by show k * 10 + y < 10 ^ (i + 1); rw [Int.pow_succ]; omega), S2, O.trans O2⟩
    · rintro σ H' ⟨k, kv, rfl, k0, k1, S', O⟩
      walk_at "rd"
      exact q _ _ k0 k1 S' O
theorem pow10_le {n : Nat} (h : n ≤ 40) : (10 : Int) ^ n ≤ 10 ^ 40 := by
  have : (10 : Nat) ^ n ≤ 10 ^ 40 := Nat.pow_le_pow_right (by decide) h
  exact_mod_cast this
theorem pow10_mono {a b : Nat} (h : a ≤ b) : (10 : Int) ^ a ≤ 10 ^ b := by
  have : (10 : Nat) ^ a ≤ 10 ^ b := Nat.pow_le_pow_right (by decide) h
  exact_mod_cast this
theorem mode_of {x : V} (h : x ∈ [V.str "down", .str "up", .str "half_down", .str "half_up", .str "half_even"]) : ∃ m : Str, x = .str m ∧ Mode m := by
  simp only [List.mem_cons, List.not_mem_nil, or_false] at h
  rcases h with h | h | h | h | h
  · exact ⟨_, h, .inl rfl⟩
  · exact ⟨_, h, .inr (.inl rfl)⟩
  · exact ⟨_, h, .inr (.inr (.inl rfl))⟩
  · exact ⟨_, h, .inr (.inr (.inr (.inl rfl)))⟩
  · exact ⟨_, h, .inr (.inr (.inr (.inr rfl)))⟩
theorem sgn_of {x : V} (h : x ∈ [V.int 1, .int (-1), .int 0]) : ∃ j : Int, x = .int j ∧ (j = 1 ∨ j = -1 ∨ j = 0) := by
  simp only [List.mem_cons, List.not_mem_nil, or_false] at h
  rcases h with h | h | h
  · exact ⟨_, h, .inl rfl⟩
  · exact ⟨_, h, .inr (.inl rfl)⟩
  · exact ⟨_, h, .inr (.inr rfl)⟩
theorem ok_side {f : Addr} {fd : FuncData} (F : Fun K "_law_side" "_law_side" s_L_side f fd) (B : Blt mg) (D : Cal P w K mg base "_law_draw" 1 ["_law_source_here", "_law_limit"] spDraw fD dD)
    (Pk : Cal P w K mg base "_law_pick" 2 ["_law_source_here", "_law_values"] spPick fP dP) (G : Cal P w K mg base "_law_great" 2 ["_law_source_here", "_law_digits"] spGreat fG dG) :
    FnOk P w K mg base CX0 3 f fd ["_law_source_here", "_law_digits"] spSide := by
  refine F.ok sc_L_side (fun vs H Q E h => ?_) (fun cdv A outer s H vs Q E hr h => ?_)
  · obtain ⟨a, c, t, n, rfl, _⟩ := h
    rfl
  · obtain ⟨a, c, t, n, rfl, S, hn0, hn, ht, q⟩ := h
    have nd := sc_L_side.nd
    refine ⟨_, pss_cons (ps_set (i := 2) nd rfl (Or.inl rfl) (pe_op op_add pe_int (pe_op op_mod (pcl G hr (by decide) (by rfl) (pa_cons (pv 0) (pa_cons (pe_op op_add pe_int (pcl D hr (by decide) (by rfl) (pa_cons (pv 0) (pa_cons (pv 1) pa_nil)))) pa_nil))) (pe_op op_pow pe_int pe_int))))
      (pss_cons (ps_if (pt_cmpR op_eq (pcl D hr (by decide) (by rfl) (pa_cons (pv 0) (pa_cons pe_int pa_nil))) pe_int (nomark _))
        (pss_one (ps_set (i := 2) nd rfl (Or.inl rfl) (pe_op op_add pe_int (pcl D hr (by decide) (by rfl) (pa_cons (pv 0) (pa_cons pe_int pa_nil)))))) pss_nil)
      (pss_cons (ps_set (i := 3) nd rfl (Or.inl rfl) (pe_op op_mul (pcl G hr (by decide) (by rfl) (pa_cons (pv 0) (pa_cons (pe_op op_add pe_int (pcl D hr (by decide) (by rfl) (pa_cons (pv 0) (pa_cons (pv 1) pa_nil)))) pa_nil)))
        (pcl Pk hr (by decide) (by rfl) (pa_cons (pv 0) (pa_cons (pe_lst (pa_cons pe_int (pa_cons (pe_un un_neg pe_int) (pa_cons pe_int pa_nil)))) pa_nil)))))
      (pss_one (ps_ret (pe_tup (pa_cons (pv 3) (pa_cons (pv 2) (pa_cons (pcl Pk hr (by decide) (by rfl) (pa_cons (pv 0) (pa_cons (pe_lst (pa_cons pe_str (pa_cons pe_str (pa_cons pe_str (pa_cons pe_str (pa_cons pe_str pa_nil)))))) pa_nil))) pa_nil)))))))), ?_⟩
    have nl0 : (0 : Int) < (n : Int) := by omega
    have nl9 : ((n : Int)).natAbs.log2 < 9000 := lg_nat (Nat.lt_of_lt_of_le (by omega : n < 2 ^ 64) (Nat.pow_le_pow_right (by decide) (by decide)))
    -- step
    walk_at "rd"
    refine ⟨a, c, t, _, rfl, S, by omega, nl0, nl9, fun k1 H1 k10 k11 S1 O1 => ?_⟩
    obtain ⟨m1, rfl⟩ := Int.eq_ofNat_of_zero_le k10
    walk_at "rd"
    have g1 : (1 : Int) + (m1 : Int) = ((m1 + 1 : Nat) : Int) := by omega
    refine ⟨a, c, t + 1, m1 + 1, (by show [V.ref a, V.int (1 + (m1 : Int))] = _; rw [g1]), S1, by omega, by omega, fun k2 H2 k20 k21 S2 O2 => ?_⟩
    walk_at "rd"
    refine ⟨⟨by decide, by decide, by decide⟩, ?_⟩
    walk_at "rd"
    refine ⟨(by show (0 : Int) < 10 ^ (30 : Int).toNat; decide), ?_⟩
    walk_at "rd"
    have st0 : (1 : Int) ≤ 1 + k2 % 10 ^ (30 : Int).toNat := by
      have := Int.emod_nonneg k2 (show (10 : Int) ^ (30 : Int).toNat ≠ 0 by decide)
      omega
    have st1 : 1 + k2 % (10 : Int) ^ (30 : Int).toNat ≤ 10 ^ 30 := by
      have := Int.emod_lt_of_pos k2 (show (0 : Int) < 10 ^ (30 : Int).toNat by decide)
      have e : (10 : Int) ^ (30 : Int).toNat = 10 ^ 30 := by decide
      omega
    refine ⟨a, c, t + 1 + (m1 + 1), _, rfl, S2, by omega, (by show (0 : Int) < 3; decide), (by show (3 : Int).natAbs.log2 < 9000; decide), fun k3 H3 k30 k31 S3 O3 => ?_⟩
    walk_at "rd"
    have O13 : Oth a c H H3 := (O1.trans O2).trans O3
    refine ⟨rfl, ?_⟩
    walk_at "rd"
    refine ite2 (fun _ => ?A) (fun _ => ?B)
    case' A =>
      walk_at "rd"
      refine ⟨a, c, _, _, rfl, S3, by omega, (by show (0 : Int) < 12; decide), (by show (12 : Int).natAbs.log2 < 9000; decide), fun k4 H4 k40 k41 S4 O4 => ?_⟩
      walk_at "rd"
      have k41' : k4 < 12 := k41
      have hs0 : 1 ≤ 1 + k4 := by omega
      have hs1 : 1 + k4 ≤ 10 ^ 30 := by omega
      obtain ⟨t5, ht5, S5⟩ : ∃ t5, t5 ≤ t + 100 ∧ Src H4 a c t5 := ⟨_, (by omega), S4⟩
      have O5 := O13.trans O4
    case' B =>
      have hs0 := st0
      have hs1 := st1
      obtain ⟨t5, ht5, S5⟩ : ∃ t5, t5 ≤ t + 100 ∧ Src H3 a c t5 := ⟨_, (by omega), S3⟩
      have O5 := O13
    all_goals
      walk_at "rd"
      refine ⟨a, c, t5, _, rfl, S5, by omega, nl0, nl9, fun k6 H6 k60 k61 S6 O6 => ?_⟩
      obtain ⟨m6, rfl⟩ := Int.eq_ofNat_of_zero_le k60
      walk_at "rd"
      have g6 : (1 : Int) + (m6 : Int) = ((m6 + 1 : Nat) : Int) := by omega
      refine ⟨a, c, t5 + 1, m6 + 1, (by show [V.ref a, V.int (1 + (m6 : Int))] = _; rw [g6]), S6, by omega, by omega, fun k7 H7 k70 k71 S7 O7 => ?_⟩
      walk_at "rd"
      refine ⟨(by show 3 ≤ sizeLine; decide), fun l nl => ?_⟩
      obtain ⟨la, lc⟩ := S7.na nl
      refine ⟨a, c, _, l, _, rfl, S7.new nl, by omega, upd_same, la, lc, by decide, by decide, fun x H8 hx S8 O8 => ?_⟩
      obtain ⟨j, rfl, hj⟩ := sgn_of hx
      walk_at "rd"
      refine ⟨.inr (by rcases hj with e | e | e <;> subst e <;> exact ⟨by decide, by decide⟩), ?_⟩
      have z7 : k7 < 10 ^ 40 := Int.lt_of_lt_of_le k71 (pow10_le (by omega))
      have of0 : -10 ^ 40 ≤ k7 * j := by rcases hj with e | e | e <;> subst e <;> omega
      have of1 : k7 * j ≤ 10 ^ 40 := by rcases hj with e | e | e <;> subst e <;> omega
      have O8' : Oth a c H H8 := (((O5.trans O6).trans O7).new nl).trans O8
      walk_at "rd"
      refine ⟨(by show 5 ≤ sizeLine; decide), fun l2 nl2 => ?_⟩
      obtain ⟨la2, lc2⟩ := S8.na nl2
      refine ⟨a, c, _, l2, _, rfl, S8.new nl2, by omega, upd_same, la2, lc2, by decide, by decide, fun x2 H9 hx2 S9 O9 => ?_⟩
      obtain ⟨md, rfl, hmd⟩ := mode_of hx2
      refine ⟨(by show 3 ≤ sizeLine; decide), fun p np => ?_⟩
      have O9' : Oth a c H H9 := (O8'.new nl2).trans O9
      have npH : H p = none := by
        cases e : H p with
        | none => rfl
        | some o =>
          by_cases ea : p = a
          · subst ea
            rw [S9.ob] at np
            cases np
          · by_cases ec : p = c
            · subst ec
              obtain ⟨cs, z, _⟩ := S9.cl
              rw [z] at np
              cases np
            · have z := O9' p o e ea ec
              rw [np] at z
              cases z
      have zn : k7 < 10 ^ n := Int.lt_of_lt_of_le k71 (pow10_mono (by omega))
      have on0 : -10 ^ n ≤ k7 * j := by rcases hj with e | e | e <;> subst e <;> omega
      have on1 : k7 * j ≤ 10 ^ n := by rcases hj with e | e | e <;> subst e <;> omega
      refine q p _ _ md _ _ npH upd_same ⟨of0, of1, hs0, hs1, hmd⟩ ⟨on0, on1⟩ ?_ (S9.new np) (O9'.new np)
      omega
end
end HT
namespace HT
open PySem L2
/-! ### the mathematics of a side -/
def goesUp (m : Str) (s q r : Int) : Bool := if m = "down" then false else if m = "up" then decide (0 < r) else if 2 * r = s then (if m = "half_even" then decide (q % 2 = 1) else decide (m = "half_up")) else decide (s < 2 * r)
/-- the figure to which v comes -/
def figM (o s : Int) (m : Str) (v : Int) : Int := if goesUp m s ((v - o) / s) ((v - o) % s) = true then (v - o) / s + 1 else (v - o) / s
def dueM (o s : Int) (m : Str) (v : Int) : Int := o + s * figM o s m v
theorem d_u : ¬ (("up" : Str) = "down") := by decide +kernel
theorem hd_d : ¬ (("half_down" : Str) = "down") := by decide +kernel
theorem hd_u : ¬ (("half_down" : Str) = "up") := by decide +kernel
theorem hu_d : ¬ (("half_up" : Str) = "down") := by decide +kernel
theorem hu_u : ¬ (("half_up" : Str) = "up") := by decide +kernel
theorem he_d : ¬ (("half_even" : Str) = "down") := by decide +kernel
theorem he_u : ¬ (("half_even" : Str) = "up") := by decide +kernel
theorem hd_e : ¬ (("half_down" : Str) = "half_even") := by decide +kernel
theorem hu_e : ¬ (("half_up" : Str) = "half_even") := by decide +kernel
theorem hd_hu : ¬ (("half_down" : Str) = "half_up") := by decide +kernel
theorem he_hu : ¬ (("half_even" : Str) = "half_up") := by decide +kernel
theorem u_hd : ¬ (("up" : Str) = "half_down") := by decide +kernel
theorem hu_hd : ¬ (("half_up" : Str) = "half_down") := by decide +kernel
theorem he_hd : ¬ (("half_even" : Str) = "half_down") := by decide +kernel
theorem go_down (s q r : Int) : goesUp "down" s q r = false := by unfold goesUp; rw [if_pos rfl]
theorem go_up (s q r : Int) : goesUp "up" s q r = decide (0 < r) := by unfold goesUp; rw [if_neg d_u, if_pos rfl]
theorem go_hd (s q r : Int) : goesUp "half_down" s q r = decide (s < 2 * r) := by
  unfold goesUp
  rw [if_neg hd_d, if_neg hd_u, if_neg hd_e, decide_eq_false hd_hu]
  by_cases h : 2 * r = s
  · rw [if_pos h, decide_eq_false (by omega)]
  · rw [if_neg h]
theorem go_hu (s q r : Int) : goesUp "half_up" s q r = decide (s ≤ 2 * r) := by
  unfold goesUp
  rw [if_neg hu_d, if_neg hu_u, if_neg hu_e, decide_eq_true rfl]
  by_cases h : 2 * r = s
  · rw [if_pos h, decide_eq_true (by omega)]
  · rw [if_neg h]
    by_cases g : s < 2 * r
    · rw [decide_eq_true g, decide_eq_true (by omega)]
    · rw [decide_eq_false g, decide_eq_false (by omega)]
theorem go_he (s q r : Int) : goesUp "half_even" s q r = (decide (s < 2 * r) || (decide (2 * r = s) && decide (q % 2 = 1))) := by
  unfold goesUp
  rw [if_neg he_d, if_neg he_u, if_pos rfl]
  by_cases h : 2 * r = s
  · rw [if_pos h, decide_eq_false (show ¬ s < 2 * r by omega), decide_eq_true h]
    rfl
  · rw [if_neg h, decide_eq_false h]
    simp
/-- what is known of a figure -/
structure Fig (o s : Int) (m : Str) (v q r k : Int) : Prop where
  eq : v - o = s * q + r
  r0 : 0 ≤ r
  r1 : r < s
  wh : (goesUp m s q r = true ∧ k = q + 1) ∨ (goesUp m s q r = false ∧ k = q)
theorem fig_of {o s : Int} {m : Str} {v : Int} (hs : 1 ≤ s) : Fig o s m v ((v - o) / s) ((v - o) % s) (figM o s m v) := by
  refine ⟨?_, Int.emod_nonneg _ (by omega), Int.emod_lt_of_pos _ (by omega), ?_⟩
  · have := Int.mul_ediv_add_emod (v - o) s
    omega
  · unfold figM
    cases h : goesUp m s ((v - o) / s) ((v - o) % s)
    · exact .inr ⟨rfl, by simp⟩
    · exact .inl ⟨rfl, by simp⟩
theorem divmod_eq {s q r x : Int} (hs : 1 ≤ s) (h : x = s * q + r) (r0 : 0 ≤ r) (r1 : r < s) : x / s = q ∧ x % s = r := by
  subst h
  constructor
  · rw [Int.add_comm, Int.add_mul_ediv_left _ _ (by omega), Int.ediv_eq_zero_of_lt r0 r1]
    omega
  · rw [Int.add_comm, Int.add_mul_emod_self_left]
    exact Int.emod_eq_of_lt r0 r1
theorem fig_uniq {o s : Int} {m : Str} {v q r k : Int} (hs : 1 ≤ s) (F : Fig o s m v q r k) : figM o s m v = k := by
  obtain ⟨e1, e2⟩ := divmod_eq hs F.eq F.r0 F.r1
  unfold figM
  rw [e1, e2]
  rcases F.wh with ⟨h, e⟩ | ⟨h, e⟩
  · rw [h, if_pos rfl, e]
  · rw [h, if_neg (by decide), e]
/-- going up wants a rest, and not going up a small one -/
theorem go_pos {m : Str} {s q r : Int} (hm : Mode m) (hs : 1 ≤ s) (r0 : 0 ≤ r) (h : goesUp m s q r = true) : 0 < r := by
  rcases hm with e | e | e | e | e <;> subst e
  · rw [go_down] at h; cases h
  · rw [go_up] at h; exact of_decide_eq_true h
  · rw [go_hd] at h; have := of_decide_eq_true h; omega
  · rw [go_hu] at h; have := of_decide_eq_true h; omega
  · rw [go_he, Bool.or_eq_true, Bool.and_eq_true] at h
    rcases h with h | ⟨h, _⟩ <;> have := of_decide_eq_true h <;> omega
theorem due_near {o s : Int} {m : Str} {v : Int} (hm : Mode m) (hs : 1 ≤ s) : dueM o s m v - v < s ∧ v - dueM o s m v < s := by
  have F := fig_of (o := o) (m := m) (v := v) hs
  unfold dueM
  generalize (v - o) / s = q at F
  generalize (v - o) % s = r at F
  obtain ⟨eq, r0, r1, wh⟩ := F
  rcases wh with ⟨h, e⟩ | ⟨h, e⟩
  · have := go_pos hm hs r0 h
    rw [e, Int.mul_add, Int.mul_one]
    generalize s * q = z at eq ⊢
    omega
  · rw [e]
    generalize s * q = z at eq ⊢
    omega
def half (m : Str) : Prop := m = "half_down" ∨ m = "half_up" ∨ m = "half_even"
theorem due_half {o s : Int} {m : Str} {v : Int} (hm : half m) (hs : 1 ≤ s) : 2 * (dueM o s m v - v) ≤ s ∧ 2 * (v - dueM o s m v) ≤ s := by
  have F := fig_of (o := o) (m := m) (v := v) hs
  unfold dueM
  generalize (v - o) / s = q at F
  generalize (v - o) % s = r at F
  obtain ⟨eq, r0, r1, wh⟩ := F
  have hb : (goesUp m s q r = true → s ≤ 2 * r) ∧ (goesUp m s q r = false → 2 * r ≤ s) := by
    rcases hm with e | e | e <;> subst e
    · rw [go_hd]; exact ⟨fun h => by have := of_decide_eq_true h; omega, fun h => by have := of_decide_eq_false h; omega⟩
    · rw [go_hu]; exact ⟨fun h => by have := of_decide_eq_true h; omega, fun h => by have := of_decide_eq_false h; omega⟩
    · rw [go_he]
      refine ⟨fun h => ?_, fun h => ?_⟩
      · rw [Bool.or_eq_true, Bool.and_eq_true] at h
        rcases h with h | ⟨h, _⟩ <;> have := of_decide_eq_true h <;> omega
      · rw [Bool.or_eq_false_iff] at h
        have := of_decide_eq_false h.1
        omega
  rcases wh with ⟨h, e⟩ | ⟨h, e⟩
  · have := hb.1 h
    rw [e, Int.mul_add, Int.mul_one]
    generalize s * q = z at eq ⊢
    omega
  · have := hb.2 h
    rw [e]
    generalize s * q = z at eq ⊢
    omega
theorem go_zero {m : Str} {s q : Int} (hm : Mode m) (hs : 1 ≤ s) : goesUp m s q 0 = false := by
  cases h : goesUp m s q 0 with
  | false => rfl
  | true => exact absurd (go_pos hm hs (Int.le_refl _) h) (by omega)
/-- what is written stands and is written as it is -/
theorem fig_at {o s k : Int} {m : Str} (hm : Mode m) (hs : 1 ≤ s) : figM o s m (o + s * k) = k :=
  fig_uniq (q := k) (r := 0) hs ⟨by omega, Int.le_refl _, by omega, .inr ⟨go_zero hm hs, rfl⟩⟩
theorem stands_at {o s k : Int} : (o + s * k - o) % s = 0 := by
  rw [show o + s * k - o = s * k by omega]
  exact Int.mul_emod_right s k
theorem due_eq {o s : Int} {m : Str} {v : Int} (hm : Mode m) (hs : 1 ≤ s) : (v - o) % s = 0 ↔ dueM o s m v = v := by
  have F := fig_of (o := o) (m := m) (v := v) hs
  unfold dueM
  generalize (v - o) / s = q at F
  generalize (v - o) % s = r at F ⊢
  obtain ⟨eq, r0, r1, wh⟩ := F
  rcases wh with ⟨h, e⟩ | ⟨h, e⟩
  · have := go_pos hm hs r0 h
    rw [e, Int.mul_add, Int.mul_one]
    generalize s * q = z at eq ⊢
    omega
  · rw [e]
    generalize s * q = z at eq ⊢
    omega
theorem go_mono {m : Str} {s q r : Int} (hm : Mode m) (h : goesUp m s q r = true) : goesUp m s q (r + 1) = true := by
  rcases hm with e | e | e | e | e <;> subst e
  · rw [go_down] at h; cases h
  · rw [go_up] at h ⊢; have := of_decide_eq_true h; exact decide_eq_true (by omega)
  · rw [go_hd] at h ⊢; have := of_decide_eq_true h; exact decide_eq_true (by omega)
  · rw [go_hu] at h ⊢; have := of_decide_eq_true h; exact decide_eq_true (by omega)
  · rw [go_he] at h ⊢
    have : s ≤ 2 * r := by
      rw [Bool.or_eq_true, Bool.and_eq_true] at h
      rcases h with h | ⟨h, _⟩ <;> have := of_decide_eq_true h <;> omega
    rw [decide_eq_true (show s < 2 * (r + 1) by omega)]
    rfl
theorem fig_mono {o s : Int} {m : Str} {v : Int} (hm : Mode m) (hs : 1 ≤ s) : figM o s m v ≤ figM o s m (v + 1) := by
  have F := fig_of (o := o) (m := m) (v := v) hs
  generalize (v - o) / s = q at F
  generalize (v - o) % s = r at F
  obtain ⟨eq, r0, r1, wh⟩ := F
  by_cases hr : r + 1 < s
  · cases g : goesUp m s q (r + 1) with
    | true =>
      rw [fig_uniq (v := v + 1) (q := q) (r := r + 1) (k := q + 1) hs ⟨by omega, by omega, hr, .inl ⟨g, rfl⟩⟩]
      rcases wh with ⟨_, e⟩ | ⟨_, e⟩ <;> omega
    | false =>
      rw [fig_uniq (v := v + 1) (q := q) (r := r + 1) (k := q) hs ⟨by omega, by omega, hr, .inr ⟨g, rfl⟩⟩]
      rcases wh with ⟨h, e⟩ | ⟨_, e⟩
      · rw [go_mono hm h] at g
        cases g
      · omega
  · rw [fig_uniq (v := v + 1) (q := q + 1) (r := 0) (k := q + 1) hs ⟨by rw [Int.mul_add, Int.mul_one]; omega, by omega, by omega, .inr ⟨go_zero hm hs, rfl⟩⟩]
    rcases wh with ⟨_, e⟩ | ⟨_, e⟩ <;> omega
theorem due_mono {o s : Int} {m : Str} {v : Int} (hm : Mode m) (hs : 1 ≤ s) : dueM o s m v ≤ dueM o s m (v + 1) := by
  unfold dueM
  have := Int.mul_le_mul_of_nonneg_left (fig_mono (o := o) (v := v) hm hs) (show 0 ≤ s by omega)
  omega
theorem go_two {m : Str} {s q r : Int} (hm : Mode m) : goesUp m s (q + 2) r = goesUp m s q r := by
  rcases hm with e | e | e | e | e <;> subst e
  · rw [go_down, go_down]
  · rw [go_up, go_up]
  · rw [go_hd, go_hd]
  · rw [go_hu, go_hu]
  · rw [go_he, go_he, show (q + 2) % 2 = q % 2 by omega]
theorem due_two {o s : Int} {m : Str} {v : Int} (hm : Mode m) (hs : 1 ≤ s) : dueM o s m (v + s * 2) = dueM o s m v + s * 2 := by
  have F := fig_of (o := o) (m := m) (v := v) hs
  unfold dueM
  generalize (v - o) / s = q at F
  generalize (v - o) % s = r at F
  obtain ⟨eq, r0, r1, wh⟩ := F
  rw [fig_uniq (v := v + s * 2) (q := q + 2) (r := r) (k := figM o s m v + 2) hs ⟨by rw [Int.mul_add]; omega, r0, r1, ?_⟩, Int.mul_add]
  · omega
  · rw [go_two hm]
    rcases wh with ⟨h, e⟩ | ⟨h, e⟩
    · exact .inl ⟨h, by omega⟩
    · exact .inr ⟨h, by omega⟩
/-! ### bounds -/
def Bd (x : Int) : Prop := -2 ^ 1000 < x ∧ x < 2 ^ 1000
theorem div_bd {x s b : Int} (hs : 1 ≤ s) (h0 : -b < x) (h1 : x < b) : -b < x / s ∧ x / s < b := by
  by_cases hx : 0 ≤ x
  · have a := Int.ediv_nonneg hx (show 0 ≤ s by omega)
    have c := Int.ediv_le_self s hx
    omega
  · have a : x ≤ x / s := by
      rw [Int.le_ediv_iff_mul_le (by omega)]
      have := Int.mul_le_mul_of_nonpos_left (show x ≤ 0 by omega) hs
      omega
    have c : x / s < 0 := Int.ediv_neg_of_neg_of_pos (by omega) (by omega)
    omega
end HT
namespace HT
open PySem L2
/-! ### spans -/
def below (m : Str) (s k : Int) : Int := if m = "down" then 0 else if m = "up" then s - 1 else if m = "half_up" ∨ (m = "half_even" ∧ k % 2 = 0) then s / 2 else (s - 1) / 2
def mir (m : Str) : Str := if m = "down" then "up" else if m = "up" then "down" else if m = "half_down" then "half_up" else if m = "half_up" then "half_down" else "half_even"
def lowM (o s : Int) (m : Str) (k : Int) : Int := o + s * k - below m s k
def highM (o s : Int) (m : Str) (k : Int) : Int := o + s * k + below (mir m) s k
theorem mir_d : mir "down" = "up" := by unfold mir; rw [if_pos rfl]
theorem mir_u : mir "up" = "down" := by unfold mir; rw [if_neg d_u, if_pos rfl]
theorem mir_hd : mir "half_down" = "half_up" := by unfold mir; rw [if_neg hd_d, if_neg hd_u, if_pos rfl]
theorem mir_hu : mir "half_up" = "half_down" := by unfold mir; rw [if_neg hu_d, if_neg hu_u, if_neg hu_hd, if_pos rfl]
theorem mir_he : mir "half_even" = "half_even" := by unfold mir; rw [if_neg he_d, if_neg he_u, if_neg he_hd, if_neg he_hu]
theorem be_d (s k : Int) : below "down" s k = 0 := by unfold below; rw [if_pos rfl]
theorem be_u (s k : Int) : below "up" s k = s - 1 := by unfold below; rw [if_neg d_u, if_pos rfl]
theorem be_hd (s k : Int) : below "half_down" s k = (s - 1) / 2 := by
  unfold below
  rw [if_neg hd_d, if_neg hd_u, if_neg]
  rintro (z | ⟨z, _⟩)
  · exact hd_hu z
  · exact hd_e z
theorem be_hu (s k : Int) : below "half_up" s k = s / 2 := by unfold below; rw [if_neg hu_d, if_neg hu_u, if_pos (.inl rfl)]
theorem be_he (s k : Int) : below "half_even" s k = if k % 2 = 0 then s / 2 else (s - 1) / 2 := by
  unfold below
  rw [if_neg he_d, if_neg he_u]
  by_cases h : k % 2 = 0
  · rw [if_pos (.inr ⟨rfl, h⟩), if_pos h]
  · rw [if_neg h, if_neg]
    rintro (z | ⟨_, z⟩)
    · exact he_hu z
    · exact h z
theorem mir_mode {m : Str} (h : Mode m) : Mode (mir m) := by
  rcases h with e | e | e | e | e <;> subst e
  · rw [mir_d]; exact .inr (.inl rfl)
  · rw [mir_u]; exact .inl rfl
  · rw [mir_hd]; exact .inr (.inr (.inr (.inl rfl)))
  · rw [mir_hu]; exact .inr (.inr (.inl rfl))
  · rw [mir_he]; exact .inr (.inr (.inr (.inr rfl)))
theorem below_bd {m : Str} {s k : Int} (h : Mode m) (hs : 1 ≤ s) : 0 ≤ below m s k ∧ below m s k < s := by
  rcases h with e | e | e | e | e <;> subst e
  · rw [be_d]; omega
  · rw [be_u]; omega
  · rw [be_hd]; omega
  · rw [be_hu]; omega
  · rw [be_he]; split <;> omega
theorem up_iff {m : Str} {s q r : Int} (h : Mode m) (r0 : 0 ≤ r) (r1 : r < s) : goesUp m s q r = true ↔ below (mir m) s q < r := by
  rcases h with e | e | e | e | e <;> subst e
  · rw [go_down, mir_d, be_u]
    exact ⟨fun z => (Bool.false_ne_true z).elim, fun z => absurd z (by omega)⟩
  · rw [go_up, mir_u, be_d, decide_eq_true_eq]
  · rw [go_hd, mir_hd, be_hu, decide_eq_true_eq]; omega
  · rw [go_hu, mir_hu, be_hd, decide_eq_true_eq]; omega
  · rw [go_he, mir_he, be_he, Bool.or_eq_true, Bool.and_eq_true, decide_eq_true_eq, decide_eq_true_eq, decide_eq_true_eq]
    split <;> omega
theorem touch {m : Str} {s : Int} (q : Int) (h : Mode m) (hs : 1 ≤ s) : below m s (q + 1) + below (mir m) s q = s - 1 := by
  rcases h with e | e | e | e | e <;> subst e
  · rw [be_d, mir_d, be_u]; omega
  · rw [be_u, mir_u, be_d]; omega
  · rw [be_hd, mir_hd, be_hu]; omega
  · rw [be_hu, mir_hu, be_hd]; omega
  · rw [be_he, mir_he, be_he]; split <;> split <;> omega
theorem mul_lt_step {s q k : Int} (hs : 1 ≤ s) (h : q < k) : s * q + s ≤ s * k := by
  have := Int.mul_le_mul_of_nonneg_left (show q + 1 ≤ k by omega) (show 0 ≤ s by omega)
  rw [Int.mul_add, Int.mul_one] at this
  exact this
/-- a value comes to k just between the ends -/
theorem fig_iff {o s : Int} {m : Str} {v k : Int} (h : Mode m) (hs : 1 ≤ s) : figM o s m v = k ↔ lowM o s m k ≤ v ∧ v ≤ highM o s m k := by
  have F := fig_of (o := o) (m := m) (v := v) hs
  generalize (v - o) / s = q at F
  generalize (v - o) % s = r at F
  generalize figM o s m v = f at F ⊢
  obtain ⟨eq, r0, r1, wh⟩ := F
  have ui := up_iff (q := q) h r0 r1
  have t1 := touch (k - 1) h hs
  rw [show k - 1 + 1 = k by omega] at t1
  have bk := below_bd (k := k) (mir_mode h) hs
  have bk1 := below_bd (k := k - 1) (mir_mode h) hs
  have bq := below_bd (k := q) (mir_mode h) hs
  unfold lowM highM
  have hf : (f = q + 1 ∧ below (mir m) s q < r) ∨ (f = q ∧ r ≤ below (mir m) s q) := by
    rcases wh with ⟨g, e⟩ | ⟨g, e⟩
    · exact .inl ⟨e, ui.mp g⟩
    · refine .inr ⟨e, ?_⟩
      have : ¬ below (mir m) s q < r := fun z => by rw [ui.mpr z] at g; cases g
      omega
  rcases Int.lt_trichotomy q k with hq | hq | hq
  · rcases Int.lt_trichotomy (q + 1) k with hq1 | hq1 | hq1
    · have := mul_lt_step hs (show q + 1 < k from hq1)
      rw [Int.mul_add, Int.mul_one] at this
      generalize s * q = a at *
      generalize s * k = b at *
      constructor
      · intro z; omega
      · intro z; omega
    · have e : q = k - 1 := by omega
      subst e
      have : s * (k - 1) = s * k - s := by rw [Int.mul_sub, Int.mul_one]
      generalize s * (k - 1) = a at *
      generalize s * k = b at *
      constructor
      · intro z; omega
      · intro z; omega
    · omega
  · subst hq
    generalize s * q = a at *
    constructor
    · intro z; omega
    · intro z; omega
  · have := mul_lt_step hs hq
    generalize s * q = a at *
    generalize s * k = b at *
    constructor
    · intro z; omega
    · intro z; omega
theorem low_high {o s : Int} {m : Str} {k : Int} (h : Mode m) (hs : 1 ≤ s) : lowM o s m k ≤ o + s * k ∧ o + s * k ≤ highM o s m k := by
  have a := below_bd (k := k) h hs
  have b := below_bd (k := k) (mir_mode h) hs
  unfold lowM highM
  omega
theorem low_next {o s : Int} {m : Str} (k : Int) (h : Mode m) (hs : 1 ≤ s) : lowM o s m (k + 1) = highM o s m k + 1 := by
  have := touch k h hs
  unfold lowM highM
  rw [Int.mul_add, Int.mul_one]
  omega
theorem high_prev {o s : Int} {m : Str} (k : Int) (h : Mode m) (hs : 1 ≤ s) : highM o s m (k - 1) = lowM o s m k - 1 := by
  have := low_next (o := o) (k - 1) h hs
  rw [show k - 1 + 1 = k by omega] at this
  omega
theorem fig_low {o s : Int} {m : Str} (k : Int) (h : Mode m) (hs : 1 ≤ s) : figM o s m (lowM o s m k) = k := by
  have a := low_high (o := o) (k := k) h hs
  exact (fig_iff h hs).mpr ⟨by omega, by omega⟩
theorem fig_high {o s : Int} {m : Str} (k : Int) (h : Mode m) (hs : 1 ≤ s) : figM o s m (highM o s m k) = k := by
  have a := low_high (o := o) (k := k) h hs
  exact (fig_iff h hs).mpr ⟨by omega, by omega⟩
theorem fig_low1 {o s : Int} {m : Str} (k : Int) (h : Mode m) (hs : 1 ≤ s) : figM o s m (lowM o s m k - 1) = k - 1 := by
  rw [← high_prev k h hs]
  exact fig_high _ h hs
theorem fig_high1 {o s : Int} {m : Str} (k : Int) (h : Mode m) (hs : 1 ≤ s) : figM o s m (highM o s m k + 1) = k + 1 := by
  rw [← low_next k h hs]
  exact fig_low _ h hs
/-- the figure of the least standing value that is not less -/
def ceilM (o s v : Int) : Int := -((o - v) / s)
theorem ceil_eq {o s v : Int} (hs : 1 ≤ s) : v ≤ o + s * ceilM o s v ∧ o + s * (ceilM o s v - 1) < v := by
  have a := Int.mul_ediv_add_emod (o - v) s
  have b := Int.emod_nonneg (o - v) (show s ≠ 0 by omega)
  have c := Int.emod_lt_of_pos (o - v) (show 0 < s by omega)
  unfold ceilM
  rw [Int.mul_sub, Int.mul_one, Int.mul_neg]
  omega
def backM (o s : Int) (m : Str) (v : Int) : Int := lowM o s m (ceilM o s v)
theorem back_ge {o s : Int} {m : Str} {v : Int} (h : Mode m) (hs : 1 ≤ s) : v ≤ dueM o s m (backM o s m v) := by
  unfold dueM backM
  rw [fig_low _ h hs]
  exact (ceil_eq hs).1
theorem back_lt {o s : Int} {m : Str} {v : Int} (h : Mode m) (hs : 1 ≤ s) : dueM o s m (backM o s m v - 1) < v := by
  unfold dueM backM
  rw [fig_low1 _ h hs]
  exact (ceil_eq hs).2
theorem mul_b {s k : Int} (s0 : 1 ≤ s) (s1 : s ≤ 10 ^ 30) (h : -2 ^ 720 < k ∧ k < 2 ^ 720) : -2 ^ 820 < s * k ∧ s * k < 2 ^ 820 := by
  have h1 : (s * k).natAbs < 2 ^ (100 + 720) := wide_lt (a := 100) (b := 720) (by omega) (by omega)
  omega
end HT
namespace HT
open PySem L2
theorem lg_big {n : Int} (h0 : 0 ≤ n) (h : n < 2 ^ 200) : n.natAbs.log2 < 9000 := by
  obtain ⟨m, rfl⟩ := Int.eq_ofNat_of_zero_le h0
  exact lg_nat (by omega)
def modesV : List V := [.str "down", .str "up", .str "half_down", .str "half_up", .str "half_even"]
/-- the further names that the text of sides does not bind, and its table of modes -/
structure SideT (K : PySem.W.Frag) (mg : Str → Option Value) (aM : Addr) : Prop where
  isi : mg "isinstance" = none
  int : mg "int" = none
  bool : mg "bool" = none
  tuple : mg "tuple" = none
  len : mg "len" = none
  dm : mg "divmod" = none
  gM : mg "MODES" = some (.ref aM)
  tM : ∀ H, SqT K H aM modesV
def spIsInt : Sp := fun vs H Q _ => ∃ i : Int, vs = [.int i] ∧ Q (.bl true) H
def spBetween : Sp := fun vs H Q _ => ∃ i a b : Int, vs = [.int i, .int a, .int b] ∧ Q (.bl (decide (a ≤ i) && decide (i ≤ b))) H
def spCheckValue : Sp := fun vs H Q _ => ∃ i : Int, vs = [.int i] ∧ Q .non H
def spCheckSide : Sp := fun vs H Q _ => ∃ (p : Addr) (o s : Int) (m : Str), vs = [.ref p] ∧ H p = some (sideV o s m) ∧ SideP o s m ∧ Q .non H
def spGo : Sp := fun vs H Q _ => ∃ (m : Str) (s q r : Int), vs = [.str m, .int s, .int q, .int r] ∧ Q (.bl (goesUp m s q r)) H
def spSV (f : Int → Int → Str → Int → V) : Sp := fun vs H Q _ => ∃ (p : Addr) (o s : Int) (m : Str) (v : Int), vs = [.ref p, .int v] ∧ H p = some (sideV o s m) ∧ SideP o s m ∧ Bd v ∧ ∀ H', Same H H' → Q (f o s m v) H'
def spFig : Sp := spSV fun o s m v => .int (figM o s m v)
def spDue : Sp := spSV fun o s m v => .int (dueM o s m v)
def spStands : Sp := spSV fun o s m v => .bl (decide ((v - o) % s = 0))
theorem dec_int (a b : Int) : decide (V.int a = V.int b) = decide (a = b) := by
  by_cases h : a = b
  · rw [decide_eq_true h, h, decide_eq_true rfl]
  · rw [decide_eq_false h, decide_eq_false (fun z => h (V.int.inj z))]
theorem dec_str (a b : Str) : decide (V.str a = V.str b) = decide (a = b) := by
  by_cases h : a = b
  · rw [decide_eq_true h, h, decide_eq_true rfl]
  · rw [decide_eq_false h, decide_eq_false (fun z => h (V.str.inj z))]
theorem dec_bl (a b : Bool) : decide (V.bl a = V.bl b) = decide (a = b) := by
  by_cases h : a = b
  · rw [decide_eq_true h, h, decide_eq_true rfl]
  · rw [decide_eq_false h, decide_eq_false (fun z => h (V.bl.inj z))]
theorem str_t {a b : Str} (h : decide (V.str a = V.str b) = true) : a = b := V.str.inj (of_decide_eq_true h)
theorem str_f {a b : Str} (h : ¬ decide (V.str a = V.str b) = true) : ¬ a = b := fun z => h (decide_eq_true (congrArg V.str z))
theorem int_t {a b : Int} (h : decide (V.int a = V.int b) = true) : a = b := V.int.inj (of_decide_eq_true h)
theorem int_f {a b : Int} (h : ¬ decide (V.int a = V.int b) = true) : ¬ a = b := fun z => h (decide_eq_true (congrArg V.int z))
theorem not_t {b : Bool} (h : (!b) = true) : ¬ b = true := by cases b <;> simp_all
theorem not_f {b : Bool} (h : ¬ (!b) = true) : b = true := by cases b <;> simp_all
theorem mode_in {m : Str} (h : Mode m) : inV (.str m) modesV = true := by
  rcases h with e | e | e | e | e <;> subst e <;> decide +kernel
theorem divp {o v s : Int} (hs : 1 ≤ s) (ho : -10 ^ 40 ≤ o ∧ o ≤ 10 ^ 40) (hv : Bd v) : CDivP (v - o) s := by
  refine divp_ok (by omega) ?_
  have h : (v - o).natAbs < 2 ^ 1010 := by
    have h1 := hv.1
    have h2 := hv.2
    omega
  have h2 : Builtin.Int.intBits (v - o) ≤ 1011 := by
    unfold Builtin.Int.intBits
    split
    · omega
    · have := PySem.Flt.log2_lt_of (by decide) h
      omega
  omega
theorem mulW {i j : Int} (hi : -2 ^ 1010 < i ∧ i < 2 ^ 1010) (hj : -2 ^ 1010 < j ∧ j < 2 ^ 1010) : CMulW i j := wide_mul (a := 1010) (b := 1010) (by omega) (by omega) (by decide) (by decide) (by decide)
theorem fig_bd {o s : Int} {m : Str} {v : Int} (S : SideP o s m) (hv : Bd v) : -2 ^ 1001 < figM o s m v ∧ figM o s m v < 2 ^ 1001 := by
  obtain ⟨h1, h2⟩ := hv
  obtain ⟨o0, o1, s0, s1, _⟩ := S
  have := div_bd (x := v - o) (b := 2 ^ 1000 + 10 ^ 40) s0 (by omega) (by omega)
  unfold figM
  split <;> omega
section
variable {P : Program} {w : World} {K : PySem.W.Frag} {mg : Str → Option Value} {base : Heap} {aM fI fB fV fC fG fF : Addr} {dI dB dV dC dG dF : FuncData}
theorem ok_is_int {f : Addr} {fd : FuncData} (F : Fun K "is_int" "is_int" s_is_int f fd) (T : SideT K mg aM) : FnOk P w K mg base CX0 1 f fd ["thing"] spIsInt := by
  refine F.ok sc_is_int (fun vs H Q E h => ?_) (fun cdv A outer s H vs Q E hr h => ?_)
  · obtain ⟨i, rfl, _⟩ := h
    rfl
  · obtain ⟨i, rfl, q⟩ := h
    refine ⟨_, pss_one (ps_ret (pe_and (pe_callB call_isi (by rfl) T.isi (by decide +kernel) (pa_cons (pv 0) (pa_cons (pe_bltn (v := .ty "int") (by rfl) T.int (by decide +kernel) rfl) pa_nil)))
      (pe_one (pe_not (pe_callB call_isi (by rfl) T.isi (by decide +kernel) (pa_cons (pv 0) (pa_cons (pe_bltn (v := .ty "bool") (by rfl) T.bool (by decide +kernel) rfl) pa_nil))))))), ?_⟩
    walk_at "rd"
    refine ⟨_, _, _, _, _, rfl, .ty "int", .base (.int _), kit_ty (r := true) (by decide +kernel), ?_⟩
    walk_at "rd"
    refine ⟨_, _, _, _, _, rfl, .ty "bool", .base (.int _), kit_ty (r := false) (by decide +kernel), ?_⟩
    walk_at "rd"
    exact q
theorem ok_between {f : Addr} {fd : FuncData} (F : Fun K "is_int_between" "is_int_between" s_is_int_between f fd) (I : Cal P w K mg base "is_int" 1 ["thing"] spIsInt fI dI) : FnOk P w K mg base CX0 2 f fd ["thing", "least", "most"] spBetween := by
  refine F.ok sc_is_int_between (fun vs H Q E h => ?_) (fun cdv A outer s H vs Q E hr h => ?_)
  · obtain ⟨i, a, b, rfl, _⟩ := h
    rfl
  · obtain ⟨i, a, b, rfl, q⟩ := h
    refine ⟨_, pss_one (ps_ret (pe_and (pcl I hr (by decide) (by rfl) (pa_cons (pv 0) pa_nil)) (pe_one (pe_chain op_le op_le (pv 1) (pv 0) (pv 2))))), ?_⟩
    walk_at "rd"
    refine ite2 (fun h => ?_) (fun h => ?_)
    · walk_at "rd"
      rw [decide_eq_true (of_decide_eq_true h)] at q
      exact q
    · rw [decide_eq_false (of_decide_eq_false (by simpa using h))] at q
      exact q
theorem ok_check_value {f : Addr} {fd : FuncData} (F : Fun K "check_value" "check_value" s_check_value f fd) (I : Cal P w K mg base "is_int" 1 ["thing"] spIsInt fI dI) : FnOk P w K mg base CX0 2 f fd ["value"] spCheckValue := by
  refine F.ok sc_check_value (fun vs H Q E h => ?_) (fun cdv A outer s H vs Q E hr h => ?_)
  · obtain ⟨i, rfl, _⟩ := h
    rfl
  · obtain ⟨i, rfl, q⟩ := h
    refine ⟨_, pss_one (ps_if (pt_not (pt_val (pcl I hr (by decide) (by rfl) (pa_cons (pv 0) pa_nil)))) (pss_one ps_never) pss_nil), ?_⟩
    walk_at "rd"
    exact q
theorem ok_check_side {f : Addr} {fd : FuncData} (F : Fun K "check_side" "check_side" s_check_side f fd) (T : SideT K mg aM) (B : Cal P w K mg base "is_int_between" 2 ["thing", "least", "most"] spBetween fB dB) : FnOk P w K mg base CX0 3 f fd ["side"] spCheckSide := by
  refine F.ok sc_check_side (fun vs H Q E h => ?_) (fun cdv A outer s H vs Q E hr h => ?_)
  · obtain ⟨p, o, s, m, rfl, _⟩ := h
    rfl
  · obtain ⟨p, o, s, m, rfl, hp, S, q⟩ := h
    have nd := sc_check_side.nd
    refine ⟨_, pss_cons (ps_if (PW.pt (pw_or (pt_not (pt_val (pe_callB call_isi (by rfl) T.isi (by decide +kernel) (pa_cons (pv 0) (pa_cons (pe_bltn (v := .ty "tuple") (by rfl) T.tuple (by decide +kernel) rfl) pa_nil)))))
        (pw_or1 (pt_cmpR op_ne (pe_callB call_len_seq (by rfl) T.len PySem.boot_len (pa_cons (pv 0) pa_nil)) pe_int (nomark _))))) (pss_one ps_never) pss_nil)
      (pss_cons (ps_asg (pv 0) (pg_tup (by rfl) (pgs_cons (pg_name (i := 1) nd rfl (Or.inl rfl)) (pgs_cons (pg_name (i := 2) nd rfl (Or.inl rfl)) (pgs_cons (pg_name (i := 3) nd rfl (Or.inl rfl)) pgs_nil)))))
      (pss_cons (ps_if (pt_not (pt_val (pcl B hr (by decide) (by rfl) (pa_cons (pv 1) (pa_cons (pe_un un_neg (pe_op op_pow pe_int pe_int)) (pa_cons (pe_op op_pow pe_int pe_int) pa_nil)))))) (pss_one ps_never) pss_nil)
      (pss_cons (ps_if (pt_not (pt_val (pcl B hr (by decide) (by rfl) (pa_cons (pv 2) (pa_cons pe_int (pa_cons (pe_op op_pow pe_int pe_int) pa_nil)))))) (pss_one ps_never) pss_nil)
      (pss_one (ps_if (pt_cmpR op_notIn_seq (pv 3) (pe_glob (v := .ref aM) (by rfl) T.gM rfl) (by rfl)) (pss_one ps_never) pss_nil))))), ?_⟩
    walk_at "rd"
    refine ⟨_, _, _, _, _, rfl, .ty "tuple", .base (.tup hp), kit_ty (r := true) (by decide +kernel), ?_⟩
    walk_at "rd"
    refine ⟨p, _, rfl, .inr (SqT.of hp), rfl, ?_⟩
    walk_at "rd"
    refine ⟨p, _, rfl, SqT.of hp, rfl, _, _, rfl, _, _, rfl, _, _, rfl, rfl, ?_⟩
    walk_at "rd"
    refine ⟨⟨by decide, by decide, by decide⟩, ?_⟩
    walk_at "rd"
    refine ⟨⟨by decide, by decide, by decide⟩, _, _, _, rfl, ?_⟩
    have e1 : (decide (-(10 : Int) ^ (40 : Int).toNat ≤ o) && decide (o ≤ (10 : Int) ^ (40 : Int).toNat)) = true := by
      rw [decide_eq_true (show -(10 : Int) ^ (40 : Int).toNat ≤ o from S.o0), decide_eq_true (show o ≤ (10 : Int) ^ (40 : Int).toNat from S.o1)]
      rfl
    refine ⟨_, rfl, ?_⟩
    refine ite2 (fun h => (not_t h e1).elim) (fun _ => ?_)
    walk_at "rd"
    refine ⟨⟨by decide, by decide, by decide⟩, _, _, _, rfl, ?_⟩
    have e2 : (decide ((1 : Int) ≤ s) && decide (s ≤ (10 : Int) ^ (30 : Int).toNat)) = true := by
      rw [decide_eq_true S.s0, decide_eq_true (show s ≤ (10 : Int) ^ (30 : Int).toNat from S.s1)]
      rfl
    refine ⟨_, rfl, ?_⟩
    refine ite2 (fun h => (not_t h e2).elim) (fun _ => ?_)
    walk_at "rd"
    refine ⟨aM, _, rfl, .inr (T.tM H), rfl, by decide, ?_⟩
    walk_at "rd"
    refine ite2 (fun h => (not_t h (mode_in S.md)).elim) (fun _ => ?_)
    exact q
end
end HT
namespace HT
open PySem L2
section
variable {P : Program} {w : World} {K : PySem.W.Frag} {mg : Str → Option Value} {base : Heap} {aM fI fB fV fC fG fF : Addr} {dI dB dV dC dG dF : FuncData}
theorem ok_goes_up {f : Addr} {fd : FuncData} (F : Fun K "_goes_up" "_goes_up" s_goes_up f fd) : FnOk P w K mg base CX0 1 f fd ["mode", "step", "figure", "rest"] spGo := by
  refine F.ok sc_goes_up (fun vs H Q E h => ?_) (fun cdv A outer s H vs Q E hr h => ?_)
  · obtain ⟨m, s, q, r, rfl, _⟩ := h
    rfl
  · obtain ⟨m, s, fg, r, rfl, q⟩ := h
    refine ⟨_, pss_cons (ps_if (pt_cmpR op_eq (pv 0) pe_str (nomark _)) (pss_one (ps_ret pe_bl)) pss_nil)
      (pss_cons (ps_if (pt_cmpR op_eq (pv 0) pe_str (nomark _)) (pss_one (ps_ret (pe_cmpR op_gt (pv 3) pe_int (nomark _)))) pss_nil)
      (pss_cons (ps_if (pt_cmpR op_ne (pe_op op_mul pe_int (pv 3)) (pv 1) (nomark _)) (pss_one (ps_ret (pe_cmpR op_gt (pe_op op_mul pe_int (pv 3)) (pv 1) (nomark _)))) pss_nil)
      (pss_cons (ps_if (pt_cmpR op_eq (pv 0) pe_str (nomark _)) (pss_one (ps_ret (pe_cmpR op_eq (pe_op op_mod (pv 2) pe_int) pe_int (nomark _)))) pss_nil)
      (pss_one (ps_ret (pe_cmpR op_eq (pv 0) pe_str (nomark _))))))), ?_⟩
    unfold goesUp at q
    walk_at "rd"
    refine ⟨rfl, ?_⟩
    walk_at "rd"
    refine ite2 (fun h => ?_) (fun h1 => ?_)
    · rw [if_pos (str_t h)] at q
      exact q
    rw [if_neg (str_f h1)] at q
    walk_at "rd"
    refine ⟨rfl, ?_⟩
    walk_at "rd"
    refine ite2 (fun h => ?_) (fun h2 => ?_)
    · rw [if_pos (str_t h)] at q
      walk_at "rd"
      exact q
    rw [if_neg (str_f h2)] at q
    walk_at "rd"
    refine ⟨.inl ⟨by decide, by decide⟩, ?_⟩
    walk_at "rd"
    refine ⟨rfl, ?_⟩
    walk_at "rd"
    refine ite2 (fun h => ?_) (fun h3 => ?_)
    · rw [if_neg (int_f (not_t h))] at q
      walk_at "rd"
      refine ⟨.inl ⟨by decide, by decide⟩, ?_⟩
      walk_at "rd"
      exact q
    rw [if_pos (int_t (not_f h3))] at q
    walk_at "rd"
    refine ⟨rfl, ?_⟩
    walk_at "rd"
    refine ite2 (fun h => ?_) (fun h4 => ?_)
    · rw [if_pos (str_t h), ← dec_int] at q
      walk_at "rd"
      refine ⟨(by show (0 : Int) < 2; decide), ?_⟩
      walk_at "rd"
      exact ⟨rfl, q⟩
    · rw [if_neg (str_f h4), ← dec_str] at q
      walk_at "rd"
      exact ⟨rfl, q⟩
theorem ok_figure {f : Addr} {fd : FuncData} (F : Fun K "_figure" "_figure" s_figure f fd) (T : SideT K mg aM)
    (G : Cal P w K mg base "_goes_up" 1 ["mode", "step", "figure", "rest"] spGo fG dG) : FnOk P w K mg base CX0 2 f fd ["side", "value"] spFig := by
  refine F.ok sc_figure (fun vs H Q E h => ?_) (fun cdv A outer s H vs Q E hr h => ?_)
  · obtain ⟨p, o, s, m, v, rfl, _⟩ := h
    rfl
  · obtain ⟨p, o, s, m, v, rfl, hp, S, hv, q⟩ := h
    have nd := sc_figure.nd
    refine ⟨_, pss_cons (ps_asg (pv 0) (pg_tup (by rfl) (pgs_cons (pg_name (i := 2) nd rfl (Or.inl rfl)) (pgs_cons (pg_name (i := 3) nd rfl (Or.inl rfl)) (pgs_cons (pg_name (i := 4) nd rfl (Or.inl rfl)) pgs_nil)))))
      (pss_cons (ps_asg (pe_callB call_divmodW (by rfl) T.dm (by decide +kernel) (pa_cons (pe_op op_sub (pv 1) (pv 2)) (pa_cons (pv 3) pa_nil))) (pg_tup (by rfl) (pgs_cons (pg_name (i := 5) nd rfl (Or.inl rfl)) (pgs_cons (pg_name (i := 6) nd rfl (Or.inl rfl)) pgs_nil))))
      (pss_cons (ps_if (pt_val (pcl G hr (by decide) (by rfl) (pa_cons (pv 4) (pa_cons (pv 3) (pa_cons (pv 5) (pa_cons (pv 6) pa_nil)))))) (pss_one (ps_ret (pe_op op_add (pv 5) pe_int))) pss_nil)
      (pss_one (ps_ret (pv 5))))), ?_⟩
    walk_at "rd"
    refine ⟨p, _, rfl, SqT.of hp, rfl, _, _, rfl, _, _, rfl, _, _, rfl, rfl, ?_⟩
    walk_at "rd"
    refine ⟨_, _, rfl, divp S.s0 ⟨S.o0, S.o1⟩ hv, fun d nd' => ?_⟩
    refine ⟨d, _, rfl, SqT.of upd_same, rfl, _, _, rfl, _, _, rfl, rfl, ?_⟩
    have sm : Same H (upd H d (.tup [.int ((v - o) / s), .int ((v - o) % s)])) := fun b u z => by rw [upd_ne (ne_of_none z nd')]; exact z
    have q' : Q (.int (figM o s m v)) (upd H d (.tup [.int ((v - o) / s), .int ((v - o) % s)])) := q _ sm
    unfold figM at q'
    walk_at "rd"
    refine ⟨_, _, _, _, rfl, ?_⟩
    walk_at "rd"
    refine ite2 (fun h => ?_) (fun h => ?_)
    · rw [if_pos h] at q'
      walk_at "rd"
      exact q'
    · rw [if_neg h] at q'
      walk_at "rd"
      exact q'
end
end HT
namespace HT
open PySem L2
section
variable {P : Program} {w : World} {K : PySem.W.Frag} {mg : Str → Option Value} {base : Heap} {fF : Addr} {dF : FuncData}
theorem ok_written {f : Addr} {fd : FuncData} (F : Fun K "written" "written" s_written f fd) (G : Cal P w K mg base "_figure" 2 ["side", "value"] spFig fF dF) : FnOk P w K mg base CX0 3 f fd ["side", "value"] spDue := by
  refine F.ok sc_written (fun vs H Q E h => ?_) (fun cdv A outer s H vs Q E hr h => ?_)
  · obtain ⟨p, o, s, m, v, rfl, _⟩ := h
    rfl
  · obtain ⟨p, o, s, m, v, rfl, hp, S, hv, q⟩ := h
    have nd := sc_written.nd
    refine ⟨_, pss_cons (ps_asg (pv 0) (pg_tup (by rfl) (pgs_cons (pg_name (i := 2) nd rfl (Or.inl rfl)) (pgs_cons (pg_name (i := 3) nd rfl (Or.inl rfl)) (pgs_cons (pg_name (i := 4) nd rfl (Or.inl rfl)) pgs_nil)))))
      (pss_one (ps_ret (pe_op op_add (pv 2) (pe_op op_mulW (pv 3) (pcl G hr (by decide) (by rfl) (pa_cons (pv 0) (pa_cons (pv 1) pa_nil))))))), ?_⟩
    walk_at "rd"
    refine ⟨p, _, rfl, SqT.of hp, rfl, _, _, rfl, _, _, rfl, _, _, rfl, rfl, ?_⟩
    walk_at "rd"
    refine ⟨p, o, s, m, v, rfl, hp, S, hv, fun H' sm => ?_⟩
    walk_at "rd"
    have b1 := fig_bd S hv
    have b2 := S.s0
    have b3 := S.s1
    refine ⟨mulW (by omega) (by omega), ?_⟩
    walk_at "rd"
    exact q H' sm
end
end HT
namespace HT
open PySem L2
structure MirT (K : PySem.W.Frag) (w : World) (mg : Str → Option Value) (aR : Addr) : Prop where
  gR : mg "MIRRORED" = some (.ref aR)
  dR : ∀ m, Mode m → KDct K w aR m (.str (mir m))
def BdK (x : Int) : Prop := -2 ^ 720 < x ∧ x < 2 ^ 720
def spBelow : Sp := fun vs H Q _ => ∃ (m : Str) (s k : Int), vs = [.str m, .int s, .int k] ∧ Mode m ∧ Q (.int (below m s k)) H
def spSpan : Sp := fun vs H Q _ => ∃ (p : Addr) (o s : Int) (m : Str) (k : Int), vs = [.ref p, .int k] ∧ H p = some (sideV o s m) ∧ SideP o s m ∧ BdK k ∧
  ∀ (d : Addr) (H' : Hp), Same H H' → H d = none → H' d = some (.tup [.int (lowM o s m k), .int (highM o s m k)]) → Q (.ref d) H'
def spBack : Sp := fun vs H Q _ => ∃ (p : Addr) (o s : Int) (m : Str) (v : Int), vs = [.ref p, .int v] ∧ H p = some (sideV o s m) ∧ SideP o s m ∧ -2 ^ 700 < v ∧ v < 2 ^ 700 ∧
  ∀ H' : Hp, Same H H' → Q (.int (backM o s m v)) H'
theorem bdK_bd {x : Int} (h : BdK x) : Bd x := by
  unfold BdK at h
  unfold Bd
  omega
section
variable {P : Program} {w : World} {K : PySem.W.Frag} {mg : Str → Option Value} {base : Heap} {aM aR fV fC fB fS : Addr} {dV dC dB dS : FuncData}
theorem ok_below {f : Addr} {fd : FuncData} (F : Fun K "_below" "_below" s_below f fd) : FnOk P w K mg base CX0 1 f fd ["mode", "step", "figure"] spBelow := by
  refine F.ok sc_below (fun vs H Q E h => ?_) (fun cdv A outer s H vs Q E hr h => ?_)
  · obtain ⟨m, s, k, rfl, _⟩ := h
    rfl
  · obtain ⟨m, s, k, rfl, hm, q⟩ := h
    refine ⟨_, pss_cons (ps_if (pt_cmpR op_eq (pv 0) pe_str (nomark _)) (pss_one (ps_ret pe_int)) pss_nil)
      (pss_cons (ps_if (pt_cmpR op_eq (pv 0) pe_str (nomark _)) (pss_one (ps_ret (pe_op op_sub (pv 1) pe_int))) pss_nil)
      (pss_cons (ps_if (PW.pt (pw_or (pt_cmpR op_eq (pv 0) pe_str (nomark _)) (pw_or1 (PW.pt (pw_and (pt_cmpR op_eq (pv 0) pe_str (nomark _)) (pw_and1 (pt_cmpR op_eq (pe_op op_mod (pv 2) pe_int) pe_int (nomark _)))))))) (pss_one (ps_ret (pe_op op_fdiv (pv 1) pe_int))) pss_nil)
      (pss_one (ps_ret (pe_op op_fdiv (pe_op op_sub (pv 1) pe_int) pe_int))))), ?_⟩
    have d2 : ∀ (i : Int), CDiv i 2 := fun _ => ⟨by decide, by decide⟩
    unfold below at q
    walk_at "rd"
    refine ⟨rfl, ?_⟩
    walk_at "rd"
    refine ite2 (fun h => ?_) (fun h1 => ?_)
    · rw [if_pos (str_t h)] at q
      walk_at "rd"
      exact q
    rw [if_neg (str_f h1)] at q
    walk_at "rd"
    refine ⟨rfl, ?_⟩
    walk_at "rd"
    refine ite2 (fun h => ?_) (fun h2 => ?_)
    · rw [if_pos (str_t h)] at q
      walk_at "rd"
      exact q
    rw [if_neg (str_f h2)] at q
    walk_at "rd"
    refine ⟨rfl, ?_⟩
    walk_at "rd"
    refine ite2 (fun h => ?_) (fun h3 => ?_)
    · rw [if_pos (.inl (str_t h))] at q
      walk_at "rd"
      refine ⟨d2 _, ?_⟩
      walk_at "rd"
      exact q
    walk_at "rd"
    refine ⟨rfl, ?_⟩
    walk_at "rd"
    refine ite2 (fun h => ?_) (fun h4 => ?_)
    · walk_at "rd"
      refine ⟨(by show (0 : Int) < 2; decide), ?_⟩
      walk_at "rd"
      refine ⟨rfl, ?_⟩
      walk_at "rd"
      refine ite2 (fun g => ?_) (fun g => ?_)
      · rw [if_pos (.inr ⟨str_t h, int_t g⟩)] at q
        walk_at "rd"
        refine ⟨d2 _, ?_⟩
        walk_at "rd"
        exact q
      · rw [if_neg (by rintro (z | ⟨_, z⟩); exact str_f h3 z; exact int_f g z)] at q
        walk_at "rd"
        refine ⟨d2 _, ?_⟩
        walk_at "rd"
        exact q
    · rw [if_neg (by rintro (z | ⟨z, _⟩); exact str_f h3 z; exact str_f h4 z)] at q
      walk_at "rd"
      refine ⟨d2 _, ?_⟩
      walk_at "rd"
      exact q
theorem ok_uspan {f : Addr} {fd : FuncData} (F : Fun K "_span" "_span" s_uspan f fd) (R : MirT K w mg aR)
    (B : Cal P w K mg base "_below" 1 ["mode", "step", "figure"] spBelow fB dB) : FnOk P w K mg base CX0 2 f fd ["side", "figure"] spSpan := by
  refine F.ok sc_uspan (fun vs H Q E h => ?_) (fun cdv A outer s H vs Q E hr h => ?_)
  · obtain ⟨p, o, s, m, k, rfl, _⟩ := h
    rfl
  · obtain ⟨p, o, s, m, k, rfl, hp, S, hk, q⟩ := h
    have nd := sc_uspan.nd
    refine ⟨_, pss_cons (ps_asg (pv 0) (pg_tup (by rfl) (pgs_cons (pg_name (i := 2) nd rfl (Or.inl rfl)) (pgs_cons (pg_name (i := 3) nd rfl (Or.inl rfl)) (pgs_cons (pg_name (i := 4) nd rfl (Or.inl rfl)) pgs_nil)))))
      (pss_cons (ps_set (i := 5) nd rfl (Or.inl rfl) (pe_op op_add (pv 2) (pe_op op_mulW (pv 3) (pv 1))))
      (pss_one (ps_ret (pe_tup (pa_cons (pe_op op_sub (pv 5) (pcl B hr (by decide) (by rfl) (pa_cons (pv 4) (pa_cons (pv 3) (pa_cons (pv 1) pa_nil)))))
        (pa_cons (pe_op op_add (pv 5) (pcl B hr (by decide) (by rfl) (pa_cons (pe_ix ix_kdict (pe_glob (v := .ref aR) (by rfl) R.gR rfl) (pv 4) (fun _ _ => rfl)) (pa_cons (pv 3) (pa_cons (pv 1) pa_nil))))) pa_nil)))))), ?_⟩
    walk_at "rd"
    refine ⟨p, _, rfl, SqT.of hp, rfl, _, _, rfl, _, _, rfl, _, _, rfl, rfl, ?_⟩
    have s0 := S.s0
    have s1 := S.s1
    have hk' := hk
    unfold BdK at hk'
    walk_at "rd"
    refine ⟨mulW (by omega) (by omega), ?_⟩
    walk_at "rd"
    refine ⟨m, s, k, rfl, S.md, ?_⟩
    walk_at "rd"
    refine ⟨aR, m, _, rfl, rfl, R.dR m S.md, ?_⟩
    walk_at "rd"
    refine ⟨mir m, s, k, rfl, mir_mode S.md, ?_⟩
    walk_at "rd"
    refine ⟨(by show 2 ≤ sizeLine; decide), fun d nd' => ?_⟩
    exact q d _ (fun b u z => (upd_ne (ne_of_none z nd')).trans z) nd' upd_same
theorem ok_span {f : Addr} {fd : FuncData} (F : Fun K "span" "span" s_span f fd) (C : Cal P w K mg base "check_side" 3 ["side"] spCheckSide fC dC) (V' : Cal P w K mg base "check_value" 2 ["value"] spCheckValue fV dV)
    (G : Cal P w K mg base "_span" 2 ["side", "figure"] spSpan fS dS) : FnOk P w K mg base CX0 4 f fd ["side", "figure"] spSpan := by
  refine F.ok sc_span (fun vs H Q E h => ?_) (fun cdv A outer s H vs Q E hr h => ?_)
  · obtain ⟨p, o, s, m, v, rfl, _⟩ := h
    rfl
  · obtain ⟨p, o, s, m, v, rfl, hp, S, q⟩ := h
    refine ⟨_, pss_cons (ps_expr (pcl C hr (by decide) (by rfl) (pa_cons (pv 0) pa_nil)))
      (pss_cons (ps_expr (pcl V' hr (by decide) (by rfl) (pa_cons (pv 1) pa_nil)))
      (pss_one (ps_ret (pcl G hr (by decide) (by rfl) (pa_cons (pv 0) (pa_cons (pv 1) pa_nil)))))), ?_⟩
    walk_at "rd"
    refine ⟨p, o, s, m, rfl, hp, S, ?_⟩
    walk_at "rd"
    exact ⟨p, o, s, m, v, rfl, hp, S, q⟩
end
end HT
namespace HT
open PySem L2
/-! ### mirrors and forms -/
theorem mir_mir {m : Str} (h : Mode m) : mir (mir m) = m := by
  rcases h with e | e | e | e | e <;> subst e
  · rw [mir_d, mir_u]
  · rw [mir_u, mir_d]
  · rw [mir_hd, mir_hu]
  · rw [mir_hu, mir_hd]
  · rw [mir_he, mir_he]
theorem below_neg {m : Str} {s : Int} (k : Int) (h : Mode m) : below m s (-k) = below m s k := by
  rcases h with e | e | e | e | e <;> subst e
  · rw [be_d, be_d]
  · rw [be_u, be_u]
  · rw [be_hd, be_hd]
  · rw [be_hu, be_hu]
  · rw [be_he, be_he]; split <;> split <;> omega
theorem due_mirror {o s : Int} {m : Str} {v : Int} (h : Mode m) (hs : 1 ≤ s) : dueM (-o) s (mir m) (-v) = -dueM o s m v := by
  have f := (fig_iff (o := o) (v := v) (k := figM o s m v) h hs).mp rfl
  generalize figM o s m v = k at f
  have e : figM o s m v = k := (fig_iff h hs).mpr f
  have e2 : figM (-o) s (mir m) (-v) = -k := by
    refine (fig_iff (mir_mode h) hs).mpr ?_
    unfold lowM highM at f ⊢
    rw [mir_mir h, below_neg k h, below_neg k (mir_mode h), Int.mul_neg]
    omega
  unfold dueM
  rw [e, e2, Int.mul_neg]
  omega
def firstM (s : Int) (m : Str) : Str := if s = 1 then "down" else if s = 2 ∧ m = "half_down" then "down" else if s = 2 ∧ m = "half_up" then "up" else if s % 2 = 1 ∧ (m = "half_up" ∨ m = "half_even") then "half_down" else m
def formO (o s : Int) (f : Str) : Int := if f = "half_even" then o % (2 * s) else o % s
def ordM (m : Str) : Nat := if m = "down" then 0 else if m = "up" then 1 else if m = "half_down" then 2 else if m = "half_up" then 3 else 4
theorem ord_d : ordM "down" = 0 := by unfold ordM; rw [if_pos rfl]
theorem ord_u : ordM "up" = 1 := by unfold ordM; rw [if_neg d_u, if_pos rfl]
theorem ord_hd : ordM "half_down" = 2 := by unfold ordM; rw [if_neg hd_d, if_neg hd_u, if_pos rfl]
theorem ord_hu : ordM "half_up" = 3 := by unfold ordM; rw [if_neg hu_d, if_neg hu_u, if_neg hu_hd, if_pos rfl]
theorem ord_he : ordM "half_even" = 4 := by unfold ordM; rw [if_neg he_d, if_neg he_u, if_neg he_hd, if_neg he_hu]
theorem u_hu : ¬ (("up" : Str) = "half_up") := by decide +kernel
theorem u_he : ¬ (("up" : Str) = "half_even") := by decide +kernel
theorem dn_hd : ¬ (("down" : Str) = "half_down") := by decide +kernel
theorem dn_hu : ¬ (("down" : Str) = "half_up") := by decide +kernel
theorem dn_he : ¬ (("down" : Str) = "half_even") := by decide +kernel
theorem dn_u : ¬ (("down" : Str) = "up") := by decide +kernel
/-- the first modes, mode by mode -/
theorem fi_one (m : Str) : firstM 1 m = "down" := by unfold firstM; rw [if_pos rfl]
theorem fi_d (s : Int) : firstM s "down" = "down" := by
  unfold firstM
  by_cases h : s = 1
  · rw [if_pos h]
  · rw [if_neg h, if_neg (fun z => dn_hd z.2), if_neg (fun z => dn_hu z.2), if_neg (fun z => z.2.elim dn_hu dn_he)]
theorem fi_u {s : Int} (h : s ≠ 1) : firstM s "up" = "up" := by
  unfold firstM
  rw [if_neg h, if_neg (fun z => u_hd z.2), if_neg (fun z => u_hu z.2), if_neg (fun z => z.2.elim u_hu u_he)]
theorem fi_hd2 : firstM 2 "half_down" = "down" := by unfold firstM; rw [if_neg (by decide), if_pos ⟨rfl, rfl⟩]
theorem fi_hd {s : Int} (h : s ≠ 1) (h2 : s ≠ 2) : firstM s "half_down" = "half_down" := by
  unfold firstM
  rw [if_neg h, if_neg (fun z => h2 z.1), if_neg (fun z => h2 z.1), if_neg (fun z => z.2.elim hd_hu hd_e)]
theorem fi_hu2 : firstM 2 "half_up" = "up" := by unfold firstM; rw [if_neg (by decide), if_neg (fun z => hu_hd z.2), if_pos ⟨rfl, rfl⟩]
theorem fi_huO {s : Int} (h : s ≠ 1) (h2 : s % 2 = 1) : firstM s "half_up" = "half_down" := by
  unfold firstM
  rw [if_neg h, if_neg (fun z => hu_hd z.2), if_neg (fun z => by have := z.1; omega), if_pos ⟨h2, .inl rfl⟩]
theorem fi_huE {s : Int} (h : s ≠ 2) (h2 : s % 2 = 0) : firstM s "half_up" = "half_up" := by
  unfold firstM
  rw [if_neg (by omega), if_neg (fun z => hu_hd z.2), if_neg (fun z => h z.1), if_neg (fun z => by have := z.1; omega)]
theorem fi_heO {s : Int} (h : s ≠ 1) (h2 : s % 2 = 1) : firstM s "half_even" = "half_down" := by
  unfold firstM
  rw [if_neg h, if_neg (fun z => he_hd z.2), if_neg (fun z => he_hu z.2), if_pos ⟨h2, .inr rfl⟩]
theorem fi_heE {s : Int} (h2 : s % 2 = 0) : firstM s "half_even" = "half_even" := by
  unfold firstM
  rw [if_neg (by omega), if_neg (fun z => he_hd z.2), if_neg (fun z => he_hu z.2), if_neg (fun z => by have := z.1; omega)]
/-- what is known of the first mode -/
structure FirstP (s : Int) (m : Str) : Prop where
  md : Mode (firstM s m)
  id : firstM s (firstM s m) = firstM s m
  od : ordM (firstM s m) ≤ ordM m
  go : ∀ q r, 0 ≤ r → r < s → goesUp (firstM s m) s q r = goesUp m s q r
  ev : firstM s m = "half_even" → s % 2 = 0
theorem first_ok {s : Int} {m : Str} (h : Mode m) (hs : 1 ≤ s) : FirstP s m := by
  have D : Mode "down" := .inl rfl
  have U : Mode "up" := .inr (.inl rfl)
  have HD : Mode "half_down" := .inr (.inr (.inl rfl))
  by_cases s1 : s = 1
  · subst s1
    refine ⟨by rw [fi_one]; exact D, by rw [fi_one, fi_one], by rw [fi_one, ord_d]; omega, fun q r r0 r1 => ?_, by rw [fi_one]; exact fun z => (dn_he z).elim⟩
    have : r = 0 := by omega
    subst this
    rw [fi_one, go_zero D (by decide), go_zero h (by decide)]
  rcases h with e | e | e | e | e <;> subst e
  · exact ⟨by rw [fi_d]; exact D, by rw [fi_d, fi_d], by rw [fi_d]; omega, fun q r _ _ => by rw [fi_d], by rw [fi_d]; exact fun z => (dn_he z).elim⟩
  · exact ⟨by rw [fi_u s1]; exact U, by rw [fi_u s1, fi_u s1], by rw [fi_u s1]; omega, fun q r _ _ => by rw [fi_u s1], by rw [fi_u s1]; exact fun z => (u_he z).elim⟩
  · by_cases s2 : s = 2
    · subst s2
      refine ⟨by rw [fi_hd2]; exact D, by rw [fi_hd2, fi_d], by rw [fi_hd2, ord_d]; omega, fun q r r0 r1 => ?_, by rw [fi_hd2]; exact fun z => (dn_he z).elim⟩
      rw [fi_hd2, go_down, go_hd, decide_eq_false (by omega)]
    · exact ⟨by rw [fi_hd s1 s2]; exact HD, by rw [fi_hd s1 s2, fi_hd s1 s2], by rw [fi_hd s1 s2]; omega, fun q r _ _ => by rw [fi_hd s1 s2], by rw [fi_hd s1 s2]; exact fun z => (hd_e z).elim⟩
  · by_cases s2 : s = 2
    · subst s2
      refine ⟨by rw [fi_hu2]; exact U, by rw [fi_hu2, fi_u s1], by rw [fi_hu2, ord_u, ord_hu]; omega, fun q r r0 r1 => ?_, by rw [fi_hu2]; exact fun z => (u_he z).elim⟩
      rw [fi_hu2, go_up, go_hu]
      exact decide_eq_decide.mpr (by omega)
    · by_cases od : s % 2 = 1
      · refine ⟨by rw [fi_huO s1 od]; exact HD, by rw [fi_huO s1 od, fi_hd s1 s2], by rw [fi_huO s1 od, ord_hd, ord_hu]; omega, fun q r r0 r1 => ?_, by rw [fi_huO s1 od]; exact fun z => (hd_e z).elim⟩
        rw [fi_huO s1 od, go_hd, go_hu]
        exact decide_eq_decide.mpr (by omega)
      · have ev : s % 2 = 0 := by omega
        exact ⟨by rw [fi_huE s2 ev]; exact .inr (.inr (.inr (.inl rfl))), by rw [fi_huE s2 ev, fi_huE s2 ev], by rw [fi_huE s2 ev]; omega, fun q r _ _ => by rw [fi_huE s2 ev], by rw [fi_huE s2 ev]; exact fun z => (hu_e z).elim⟩
  · by_cases od : s % 2 = 1
    · refine ⟨by rw [fi_heO s1 od]; exact HD, by rw [fi_heO s1 od, fi_hd s1 (by omega)], by rw [fi_heO s1 od, ord_hd, ord_he]; omega, fun q r r0 r1 => ?_, by rw [fi_heO s1 od]; exact fun z => (hd_e z).elim⟩
      rw [fi_heO s1 od, go_hd, go_he, decide_eq_false (show ¬ 2 * r = s by omega), Bool.false_and, Bool.or_false]
    · have ev : s % 2 = 0 := by omega
      exact ⟨by rw [fi_heE ev]; exact .inr (.inr (.inr (.inr rfl))), by rw [fi_heE ev, fi_heE ev], by rw [fi_heE ev]; omega, fun q r _ _ => by rw [fi_heE ev], fun _ => ev⟩
theorem go_shift {m : Str} {s q r j : Int} (h : Mode m) (hj : m ≠ "half_even" ∨ j % 2 = 0) : goesUp m s (q + j) r = goesUp m s q r := by
  rcases h with e | e | e | e | e <;> subst e
  · rw [go_down, go_down]
  · rw [go_up, go_up]
  · rw [go_hd, go_hd]
  · rw [go_hu, go_hu]
  · have z : j % 2 = 0 := hj.resolve_left (fun z => z rfl)
    rw [go_he, go_he, show (q + j) % 2 = q % 2 by omega]
/-- an offset moved by whole steps, by two of them for the even -/
theorem due_shift {o s j : Int} {m : Str} {v : Int} (h : Mode m) (hs : 1 ≤ s) (hj : m ≠ "half_even" ∨ j % 2 = 0) : dueM (o + s * j) s m v = dueM o s m v := by
  have F := fig_of (o := o + s * j) (m := m) (v := v) hs
  generalize (v - (o + s * j)) / s = q at F
  generalize (v - (o + s * j)) % s = r at F
  generalize hk : figM (o + s * j) s m v = k at F
  obtain ⟨eq, r0, r1, wh⟩ := F
  have e : figM o s m v = k + j := by
    refine fig_uniq (q := q + j) (r := r) hs ⟨by rw [Int.mul_add]; omega, r0, r1, ?_⟩
    rw [go_shift h hj]
    rcases wh with ⟨g, e⟩ | ⟨g, e⟩
    · exact .inl ⟨g, by omega⟩
    · exact .inr ⟨g, by omega⟩
  unfold dueM
  rw [e, hk, Int.mul_add]
  omega
theorem due_go {o s : Int} {m m' : Str} {v : Int} (hs : 1 ≤ s) (h : ∀ q r, 0 ≤ r → r < s → goesUp m s q r = goesUp m' s q r) : dueM o s m v = dueM o s m' v := by
  unfold dueM figM
  rw [h _ _ (Int.emod_nonneg _ (by omega)) (Int.emod_lt_of_pos _ (by omega))]
theorem due_form {o s : Int} {m : Str} (v : Int) (h : Mode m) (hs : 1 ≤ s) : dueM (formO o s (firstM s m)) s (firstM s m) v = dueM o s m v := by
  have P := first_ok h hs
  rw [← due_go hs P.go]
  unfold formO
  by_cases e : firstM s m = "half_even"
  · rw [if_pos e]
    have a := Int.mul_ediv_add_emod o (2 * s)
    have b : o % (2 * s) = o + s * (-(2 * (o / (2 * s)))) := by
      rw [Int.mul_neg, ← Int.mul_assoc, Int.mul_comm s 2]
      omega
    rw [b]
    exact due_shift P.md hs (.inr (by omega))
  · rw [if_neg e]
    have a := Int.mul_ediv_add_emod o s
    have b : o % s = o + s * (-(o / s)) := by
      rw [Int.mul_neg]
      omega
    rw [b]
    exact due_shift P.md hs (.inl e)
theorem form_bd {o s : Int} {f : Str} (hs : 1 ≤ s) : 0 ≤ formO o s f ∧ formO o s f < 2 * s ∧ (f ≠ "half_even" → formO o s f < s) := by
  unfold formO
  by_cases e : f = "half_even"
  · rw [if_pos e]
    exact ⟨Int.emod_nonneg _ (by omega), Int.emod_lt_of_pos _ (by omega), fun z => absurd e z⟩
  · rw [if_neg e]
    have := Int.emod_lt_of_pos o (show 0 < s by omega)
    exact ⟨Int.emod_nonneg _ (by omega), by omega, fun _ => this⟩
theorem form_idem {o s : Int} {f : Str} : formO (formO o s f) s f = formO o s f := by
  unfold formO
  by_cases e : f = "half_even"
  · rw [if_pos e, if_pos e, Int.emod_emod_of_dvd _ (Int.dvd_refl _)]
  · rw [if_neg e, if_neg e, Int.emod_emod_of_dvd _ (Int.dvd_refl _)]
/-- a value told by its figure and rest -/
theorem due_at {o s q r : Int} {m : Str} (hs : 1 ≤ s) (r0 : 0 ≤ r) (r1 : r < s) : dueM o s m (o + s * q + r) = o + s * q + (if goesUp m s q r = true then s else 0) := by
  unfold dueM
  by_cases g : goesUp m s q r = true
  · rw [fig_uniq (q := q) (r := r) (k := q + 1) hs ⟨by omega, r0, r1, .inl ⟨g, rfl⟩⟩, if_pos g, Int.mul_add]
    omega
  · have g' : goesUp m s q r = false := by cases h : goesUp m s q r <;> simp_all
    rw [fig_uniq (q := q) (r := r) (k := q) hs ⟨by omega, r0, r1, .inr ⟨g', rfl⟩⟩, if_neg g]
    omega
end HT
namespace HT
open PySem L2
def spMirror : Sp := fun vs H Q _ => ∃ (p : Addr) (o s : Int) (m : Str), vs = [.ref p] ∧ H p = some (sideV o s m) ∧ SideP o s m ∧
  ∀ (d : Addr) (H' : Hp), Same H H' → H d = none → H' d = some (sideV (-o) s (mir m)) → Q (.ref d) H'
def spFirst : Sp := fun vs H Q _ => ∃ (s : Int) (m : Str), vs = [.int s, .str m] ∧ 1 ≤ s ∧ Mode m ∧ ∀ H' : Hp, Same H H' → Q (.str (firstM s m)) H'
def spForm : Sp := fun vs H Q _ => ∃ (p : Addr) (o s : Int) (m : Str), vs = [.ref p] ∧ H p = some (sideV o s m) ∧ SideP o s m ∧
  ∀ (d : Addr) (H' : Hp), Same H H' → H d = none → H' d = some (sideV (formO o s (firstM s m)) s (firstM s m)) → Q (.ref d) H'
theorem side_mir {o s : Int} {m : Str} (S : SideP o s m) : SideP (-o) s (mir m) := by
  obtain ⟨o0, o1, s0, s1, md⟩ := S
  exact ⟨by omega, by omega, s0, s1, mir_mode md⟩
theorem side_form {o s : Int} {m : Str} (S : SideP o s m) : SideP (formO o s (firstM s m)) s (firstM s m) := by
  obtain ⟨o0, o1, s0, s1, md⟩ := S
  obtain ⟨a, b, _⟩ := form_bd (o := o) (f := firstM s m) s0
  exact ⟨by omega, by omega, s0, s1, (first_ok md s0).md⟩
theorem in_two (m : Str) : inV (.str m) [V.str "half_up", .str "half_even"] = decide (m = "half_up" ∨ m = "half_even") := by
  show (eqV (V.str "half_up") (V.str m) || (eqV (V.str "half_even") (V.str m) || false)) = _
  have e : ∀ a b : Str, eqV (V.str a) (V.str b) = decide (a = b) := fun a b => by
    show (a == b) = decide (a = b)
    by_cases h : a = b
    · rw [decide_eq_true h, h, beq_self_eq_true]
    · rw [decide_eq_false h]
      exact beq_eq_false_iff_ne.mpr h
  rw [e, e, Bool.or_false]
  by_cases a : m = "half_up"
  · rw [decide_eq_true a.symm, decide_eq_true (Or.inl a)]
    rfl
  · by_cases b : m = "half_even"
    · rw [decide_eq_true b.symm, decide_eq_true (Or.inr b), Bool.or_true]
    · rw [decide_eq_false (fun z => a z.symm), decide_eq_false (fun z => b z.symm), decide_eq_false (fun z => z.elim a b)]
      rfl
section
variable {P : Program} {w : World} {K : PySem.W.Frag} {mg : Str → Option Value} {base : Heap} {aM aR fV fC fB fS : Addr} {dV dC dB dS : FuncData}
theorem ok_mirror {f : Addr} {fd : FuncData} (F : Fun K "mirror" "mirror" s_mirror f fd) (R : MirT K w mg aR) (C : Cal P w K mg base "check_side" 3 ["side"] spCheckSide fC dC) : FnOk P w K mg base CX0 4 f fd ["side"] spMirror := by
  refine F.ok sc_mirror (fun vs H Q E h => ?_) (fun cdv A outer s H vs Q E hr h => ?_)
  · obtain ⟨p, o, s, m, rfl, _⟩ := h
    rfl
  · obtain ⟨p, o, s, m, rfl, hp, S, q⟩ := h
    have nd := sc_mirror.nd
    refine ⟨_, pss_cons (ps_expr (pcl C hr (by decide) (by rfl) (pa_cons (pv 0) pa_nil)))
      (pss_cons (ps_asg (pv 0) (pg_tup (by rfl) (pgs_cons (pg_name (i := 1) nd rfl (Or.inl rfl)) (pgs_cons (pg_name (i := 2) nd rfl (Or.inl rfl)) (pgs_cons (pg_name (i := 3) nd rfl (Or.inl rfl)) pgs_nil)))))
      (pss_one (ps_ret (pe_tup (pa_cons (pe_un un_neg (pv 1)) (pa_cons (pv 2) (pa_cons (pe_ix ix_kdict (pe_glob (v := .ref aR) (by rfl) R.gR rfl) (pv 3) (fun _ _ => rfl)) pa_nil))))))), ?_⟩
    walk_at "rd"
    refine ⟨p, o, s, m, rfl, hp, S, ?_⟩
    walk_at "rd"
    refine ⟨p, _, rfl, SqT.of hp, rfl, _, _, rfl, _, _, rfl, _, _, rfl, rfl, ?_⟩
    walk_at "rd"
    refine ⟨aR, m, _, rfl, rfl, R.dR m S.md, ?_⟩
    refine ⟨(by show 3 ≤ sizeLine; decide), fun d nd' => ?_⟩
    exact q d _ (fun b u z => (upd_ne (ne_of_none z nd')).trans z) nd' upd_same
theorem ok_first {f : Addr} {fd : FuncData} (F : Fun K "_first_mode" "_first_mode" s_first_mode f fd) : FnOk P w K mg base CX0 1 f fd ["step", "mode"] spFirst := by
  refine F.ok sc_first_mode (fun vs H Q E h => ?_) (fun cdv A outer s H vs Q E hr h => ?_)
  · obtain ⟨s, m, rfl, _⟩ := h
    rfl
  · obtain ⟨s, m, rfl, s0, md, q⟩ := h
    refine ⟨_, pss_cons (ps_if (pt_cmpR op_eq (pv 0) pe_int (nomark _)) (pss_one (ps_ret pe_str)) pss_nil)
      (pss_cons (ps_if (PW.pt (pw_and (pt_cmpR op_eq (pv 0) pe_int (nomark _)) (pw_and1 (pt_cmpR op_eq (pv 1) pe_str (nomark _))))) (pss_one (ps_ret pe_str)) pss_nil)
      (pss_cons (ps_if (PW.pt (pw_and (pt_cmpR op_eq (pv 0) pe_int (nomark _)) (pw_and1 (pt_cmpR op_eq (pv 1) pe_str (nomark _))))) (pss_one (ps_ret pe_str)) pss_nil)
      (pss_cons (ps_if (PW.pt (pw_and (pt_cmpR op_eq (pe_op op_mod (pv 0) pe_int) pe_int (nomark _)) (pw_and1 (pt_cmpR op_in_seq (pv 1) (pe_tup (pa_cons pe_str (pa_cons pe_str pa_nil))) (by rfl))))) (pss_one (ps_ret pe_str)) pss_nil)
      (pss_one (ps_ret (pv 1)))))), ?_⟩
    have fin : ∀ (x : Str) (H' : Hp), firstM s m = x → Same H H' → Q (.str x) H' := fun x H' e sm => by
      rw [← e]
      exact q H' sm
    walk_at "rd"
    refine ⟨rfl, ?_⟩
    walk_at "rd"
    refine ite2 (fun h => ?_) (fun h1 => ?_)
    · walk_at "rd"
      exact fin "down" H (by rw [int_t h]; exact fi_one m) (Same.refl H)
    have n1 := int_f h1
    walk_at "rd"
    refine ⟨rfl, ?_⟩
    walk_at "rd"
    refine ite2 (fun h => ?_) (fun h2 => ?_)
    · have e2 := int_t h
      walk_at "rd"
      refine ⟨rfl, ?_⟩
      walk_at "rd"
      refine ite2 (fun g => ?_) (fun g1 => ?_)
      · walk_at "rd"
        exact fin "down" H (by rw [str_t g, e2]; exact fi_hd2) (Same.refl H)
      walk_at "rd"
      refine ⟨rfl, ?_⟩
      walk_at "rd"
      refine ite2 (fun _ => ?_) (fun z => absurd h z)
      walk_at "rd"
      refine ⟨rfl, ?_⟩
      walk_at "rd"
      refine ite2 (fun g => ?_) (fun g2 => ?_)
      · walk_at "rd"
        exact fin "up" H (by rw [str_t g, e2]; exact fi_hu2) (Same.refl H)
      walk_at "rd"
      refine ⟨(by show (0 : Int) < 2; decide), ?_⟩
      walk_at "rd"
      refine ⟨rfl, ?_⟩
      walk_at "rd"
      refine ite2 (fun g => absurd (int_t g) (by omega)) (fun _ => ?_)
      walk_at "rd"
      refine fin m H ?_ (Same.refl H)
      unfold firstM
      rw [if_neg n1, if_neg (fun z => str_f g1 z.2), if_neg (fun z => str_f g2 z.2), if_neg (fun z => by have := z.1; omega)]
    · have n2 := int_f h2
      walk_at "rd"
      refine ⟨rfl, ?_⟩
      walk_at "rd"
      refine ite2 (fun z => absurd z h2) (fun _ => ?_)
      walk_at "rd"
      refine ⟨(by show (0 : Int) < 2; decide), ?_⟩
      walk_at "rd"
      refine ⟨rfl, ?_⟩
      walk_at "rd"
      refine ite2 (fun g => ?_) (fun g => ?_)
      · have od := int_t g
        walk_at "rd"
        refine ⟨(by show 2 ≤ sizeLine; decide), fun d nd' => ?_⟩
        refine ⟨d, _, rfl, .inr (SqT.of upd_same), rfl, by decide, ?_⟩
        walk_at "rd"
        have sm : ∀ o, Same H (upd H d o) := fun o b u z => (upd_ne (ne_of_none z nd')).trans z
        refine ite2 (fun k => ?_) (fun k => ?_)
        · walk_at "rd"
          have k' : inV (.str m) [V.str "half_up", .str "half_even"] = true := k
          rw [in_two] at k'
          refine fin "half_down" _ ?_ (sm _)
          unfold firstM
          rw [if_neg n1, if_neg (fun z => n2 z.1), if_neg (fun z => n2 z.1), if_pos ⟨od, of_decide_eq_true k'⟩]
        · walk_at "rd"
          have k' : ¬ inV (.str m) [V.str "half_up", .str "half_even"] = true := k
          rw [in_two] at k'
          refine fin m _ ?_ (sm _)
          unfold firstM
          rw [if_neg n1, if_neg (fun z => n2 z.1), if_neg (fun z => n2 z.1), if_neg (fun z => k' (decide_eq_true z.2))]
      · have od := int_f g
        walk_at "rd"
        refine fin m H ?_ (Same.refl H)
        unfold firstM
        rw [if_neg n1, if_neg (fun z => n2 z.1), if_neg (fun z => n2 z.1), if_neg (fun z => od z.1)]
theorem ok_form {f : Addr} {fd : FuncData} (F : Fun K "form" "form" s_form f fd) (C : Cal P w K mg base "check_side" 3 ["side"] spCheckSide fC dC) (M : Cal P w K mg base "_first_mode" 1 ["step", "mode"] spFirst fB dB) : FnOk P w K mg base CX0 4 f fd ["side"] spForm := by
  refine F.ok sc_form (fun vs H Q E h => ?_) (fun cdv A outer s H vs Q E hr h => ?_)
  · obtain ⟨p, o, s, m, rfl, _⟩ := h
    rfl
  · obtain ⟨p, o, s, m, rfl, hp, S, q⟩ := h
    have nd := sc_form.nd
    refine ⟨_, pss_cons (ps_expr (pcl C hr (by decide) (by rfl) (pa_cons (pv 0) pa_nil)))
      (pss_cons (ps_asg (pv 0) (pg_tup (by rfl) (pgs_cons (pg_name (i := 1) nd rfl (Or.inl rfl)) (pgs_cons (pg_name (i := 2) nd rfl (Or.inl rfl)) (pgs_cons (pg_name (i := 3) nd rfl (Or.inl rfl)) pgs_nil)))))
      (pss_cons (ps_set (i := 4) nd rfl (Or.inl rfl) (pcl M hr (by decide) (by rfl) (pa_cons (pv 2) (pa_cons (pv 3) pa_nil))))
      (pss_cons (ps_if (pt_cmpR op_eq (pv 4) pe_str (nomark _)) (pss_one (ps_ret (pe_tup (pa_cons (pe_op op_mod (pv 1) (pe_op op_mul pe_int (pv 2))) (pa_cons (pv 2) (pa_cons (pv 4) pa_nil)))))) pss_nil)
      (pss_one (ps_ret (pe_tup (pa_cons (pe_op op_mod (pv 1) (pv 2)) (pa_cons (pv 2) (pa_cons (pv 4) pa_nil))))))))), ?_⟩
    have s0 := S.s0
    walk_at "rd"
    refine ⟨p, o, s, m, rfl, hp, S, ?_⟩
    walk_at "rd"
    refine ⟨p, _, rfl, SqT.of hp, rfl, _, _, rfl, _, _, rfl, _, _, rfl, rfl, ?_⟩
    walk_at "rd"
    refine ⟨s, m, rfl, s0, S.md, fun H1 m1 => ?_⟩
    walk_at "rd"
    refine ⟨rfl, ?_⟩
    walk_at "rd"
    refine ite2 (fun h => ?_) (fun h => ?_)
    · have e := str_t h
      walk_at "rd"
      refine ⟨.inl ⟨by decide, by decide⟩, ?_⟩
      walk_at "rd"
      refine ⟨(by show (0 : Int) < 2 * s; omega), ?_⟩
      walk_at "rd"
      refine ⟨(by show 3 ≤ sizeLine; decide), fun d nd' => ?_⟩
      have e2 : formO o s (firstM s m) = o % (2 * s) := by unfold formO; rw [if_pos e]
      refine q d _ (fun b u z => (upd_ne (ne_of_none (m1 _ _ z) nd')).trans (m1 _ _ z)) (m1.free nd') ?_
      rw [e2]
      exact upd_same
    · have e := str_f h
      walk_at "rd"
      refine ⟨(by omega), ?_⟩
      walk_at "rd"
      refine ⟨(by show 3 ≤ sizeLine; decide), fun d nd' => ?_⟩
      have e2 : formO o s (firstM s m) = o % s := by unfold formO; rw [if_neg e]
      refine q d _ (fun b u z => (upd_ne (ne_of_none (m1 _ _ z) nd')).trans (m1 _ _ z)) (m1.free nd') ?_
      rw [e2]
      exact upd_same
end
end HT
namespace HT
open PySem L2
structure Sd where
  o : Int
  s : Int
  m : Str
/-- the list at l holds sides with these parts -/
structure SidesAt (H : Hp) (l : Addr) (xs : List V) (ss : List Sd) : Prop where
  hl : H l = some (.lst xs)
  len : xs.length = ss.length
  l1 : 1 ≤ ss.length
  l4 : ss.length ≤ 4
  at_ : ∀ (i : Nat) (d : Sd), ss[i]? = some d → ∃ p : Addr, xs[i]? = some (V.ref p) ∧ H p = some (sideV d.o d.s d.m) ∧ SideP d.o d.s d.m
theorem SidesAt.same {H H' : Hp} {l : Addr} {xs : List V} {ss : List Sd} (S : SidesAt H l xs ss) (e : Same H H') : SidesAt H' l xs ss :=
  ⟨e _ _ S.hl, S.len, S.l1, S.l4, fun i d h => let ⟨p, a, b, c⟩ := S.at_ i d h; ⟨p, a, e _ _ b, c⟩⟩
theorem SidesAt.oth {a c : Addr} {t : Nat} {H H' : Hp} {l : Addr} {xs : List V} {ss : List Sd} (S : SidesAt H l xs ss) (R : Src H a c t) (la : l ≠ a) (lc : l ≠ c) (e : Oth a c H H') : SidesAt H' l xs ss :=
  ⟨e _ _ S.hl la lc, S.len, S.l1, S.l4, fun i d h => let ⟨p, x, b, y⟩ := S.at_ i d h; let z := R.nt b; ⟨p, x, e _ _ b z.1 z.2, y⟩⟩
theorem SidesAt.item {H : Hp} {l : Addr} {xs : List V} {ss : List Sd} (S : SidesAt H l xs ss) {i : Nat} {y : V} (h : xs[i]? = some y) : ∃ d p, ss[i]? = some d ∧ y = .ref p ∧ H p = some (sideV d.o d.s d.m) ∧ SideP d.o d.s d.m := by
  have hi : i < ss.length := by have := (List.getElem?_eq_some_iff.mp h).1; rw [S.len] at this; exact this
  obtain ⟨p, e, hp, sp⟩ := S.at_ i ss[i] (List.getElem?_eq_getElem hi)
  rw [h] at e
  exact ⟨ss[i], p, List.getElem?_eq_getElem hi, Option.some.inj e, hp, sp⟩
/-- a side's period -/
def perM (s : Int) (m : Str) : Int := if m = "half_even" then 2 * s else s
theorem perM_bd {o s : Int} {m : Str} (S : SideP o s m) : 1 ≤ perM s m ∧ perM s m ≤ 2 * 10 ^ 30 := by
  have a := S.s0
  have b := S.s1
  unfold perM
  split <;> omega
def perN (d : Sd) : Nat := (perM d.s d.m).toNat
/-- the common period -/
def comN (ss : List Sd) : Nat := ss.foldl (fun n d => n.lcm (perN d)) 1
theorem com_snoc {ss : List Sd} {i : Nat} {d : Sd} (h : ss[i]? = some d) : comN (ss.take (i + 1)) = (comN (ss.take i)).lcm (perN d) := by
  unfold comN
  rw [List.take_succ, h, List.foldl_append]
  rfl
theorem lcm_le {a b : Nat} : a.lcm b ≤ a * b := Nat.div_le_self _ _
theorem com_le : ∀ (ss : List Sd) (n : Nat), (∀ d ∈ ss, SideP d.o d.s d.m) → ss.foldl (fun n d => n.lcm (perN d)) n ≤ n * (2 * 10 ^ 30) ^ ss.length
  | [], n, _ => by simp
  | d :: ss, n, h => by
    have z := com_le ss (n.lcm (perN d)) fun e he => h e (List.mem_cons_of_mem _ he)
    have b := perM_bd (h d List.mem_cons_self)
    have y : perN d ≤ 2 * 10 ^ 30 := by unfold perN; omega
    refine Nat.le_trans z ?_
    generalize (2 * 10 ^ 30 : Nat) = k at y
    rw [List.length_cons, Nat.pow_succ, Nat.mul_comm (k ^ ss.length), ← Nat.mul_assoc]
    exact Nat.mul_le_mul_right _ (Nat.le_trans lcm_le (Nat.mul_le_mul_left _ y))
theorem SidesAt.side {H : Hp} {l : Addr} {xs : List V} {ss : List Sd} (S : SidesAt H l xs ss) : ∀ d ∈ ss, SideP d.o d.s d.m := fun d hd => by
  obtain ⟨i, hi, rfl⟩ := List.mem_iff_getElem.mp hd
  obtain ⟨_, _, _, sp⟩ := S.at_ i _ (List.getElem?_eq_getElem hi)
  exact sp
theorem com_lt {ss : List Sd} (h : ∀ d ∈ ss, SideP d.o d.s d.m) (l4 : ss.length ≤ 4) : comN ss < 2 ^ 420 := by
  have z := com_le ss 1 h
  rw [Nat.one_mul] at z
  refine Nat.lt_of_le_of_lt z (Nat.lt_of_le_of_lt (Nat.pow_le_pow_right (by decide) l4) ?_)
  decide
theorem com_take {ss : List Sd} (h : ∀ d ∈ ss, SideP d.o d.s d.m) (l4 : ss.length ≤ 4) (i : Nat) : comN (ss.take i) < 2 ^ 420 :=
  com_lt (fun d hd => h d (List.mem_of_mem_take hd)) (Nat.le_trans (List.length_take_le' _ _) l4)
theorem com_pos : ∀ (ss : List Sd) (n : Nat), 0 < n → (∀ d ∈ ss, SideP d.o d.s d.m) → 0 < ss.foldl (fun n d => n.lcm (perN d)) n
  | [], n, hn, _ => hn
  | d :: ss, n, hn, h => by
    have b := perM_bd (h d List.mem_cons_self)
    have y : 0 < perN d := by unfold perN; omega
    exact com_pos ss _ (Nat.lcm_pos hn y) fun e he => h e (List.mem_cons_of_mem _ he)
/-- as the law has it -/
theorem lcm_div (a b : Nat) : a / Nat.gcd a b * b = a.lcm b := by
  unfold Nat.lcm
  rw [Nat.mul_comm (a / Nat.gcd a b), ← Nat.mul_div_assoc _ (Nat.gcd_dvd_left a b), Nat.mul_comm]
end HT
namespace HT
open PySem L2
def spPer : Sp := fun vs H Q _ => ∃ (l : Addr) (xs : List V) (ss : List Sd), vs = [.ref l] ∧ SidesAt H l xs ss ∧ Q (.int (comN ss : Int)) H
end HT
namespace HT
open PySem L2
def nV (k : Nat) : V := .int (k : Int)
structure AmG (mg : Str → Option Value) : Prop where
  isi : mg "isinstance" = none
  list : mg "list" = none
  len : mg "len" = none
  ms : ∃ t, mg "MOST_SIDES" = some (.int 4 t)
  mp : ∃ t, mg "MOST_PERIOD" = some (.int 100000 t)
  lcm : mg "lcm" = some (.builtin "math.lcm")
  sorted : mg "sorted" = none
def spIsSide : Sp := fun vs H Q _ => ∃ (p : Addr) (o s : Int) (m : Str), vs = [.ref p] ∧ H p = some (sideV o s m) ∧ SideP o s m ∧ Q (.bl true) H
def spSides : Sp := fun vs H Q _ => ∃ (l : Addr) (xs : List V) (ss : List Sd), vs = [.ref l] ∧ SidesAt H l xs ss ∧ Q .non H
def spPerOf : Sp := fun vs H Q _ => ∃ (p : Addr) (o s : Int) (m : Str), vs = [.ref p] ∧ H p = some (sideV o s m) ∧ SideP o s m ∧ Q (.int (perM s m)) H
def spNums : Sp := fun vs H Q _ => ∃ (kl : Addr) (ks : List Nat) (n : Nat), vs = [.ref kl, .int (n : Int)] ∧ H kl = some (.lst (ks.map nV)) ∧ ks.length ≤ 1000 ∧ (∀ k ∈ ks, k < n) ∧ Q .non H
/-- one hand-over more -/
def stepW (ss : List Sd) (a : List Int × Int) (k : Nat) : List Int × Int :=
  match ss[k]? with
  | some d => (a.1 ++ [dueM d.o d.s d.m a.2], dueM d.o d.s d.m a.2)
  | none => (a.1 ++ [a.2], a.2)
def walkW (ss : List Sd) (ks : List Nat) (v : Int) : List Int × Int := ks.foldl (stepW ss) ([], v)
theorem walk_snoc {ss : List Sd} {ks : List Nat} {v : Int} {i k : Nat} (h : ks[i]? = some k) : walkW ss (ks.take (i + 1)) v = stepW ss (walkW ss (ks.take i) v) k := by
  unfold walkW
  rw [List.take_succ, h, List.foldl_append]
  rfl
theorem due_far {o s v b : Int} {m : Str} (S : SideP o s m) (h : -b < v ∧ v < b) : -(b + 10 ^ 30) < dueM o s m v ∧ dueM o s m v < b + 10 ^ 30 := by
  have h1 := due_near (o := o) (v := v) S.md S.s0
  have h2 := S.s1
  omega
def spAlong : Sp := fun vs H Q _ => ∃ (l : Addr) (xs : List V) (ss : List Sd) (kl : Addr) (ks : List Nat) (v : Int), vs = [.ref l, .ref kl, .int v] ∧ SidesAt H l xs ss ∧ H kl = some (.lst (ks.map nV)) ∧ ks.length ≤ 1000 ∧ (∀ k ∈ ks, k < ss.length) ∧ (-2 ^ 200 < v ∧ v < 2 ^ 200) ∧
  ∀ (d : Addr) (H' : Hp), H d = none → Same H H' → H' d = some (.lst ((walkW ss ks v).1.map V.int)) → Q (.ref d) H'
section
variable {P : Program} {w : World} {K : PySem.W.Frag} {mg : Str → Option Value} {base : Heap} {aM c0 fC fB fV fN fW fS : Addr} {dC dB dV dN dW dS : FuncData}
theorem ok_is_side {f : Addr} {fd : FuncData} (F : Fun K "is_side" "is_side" s_is_side f fd) (g0 : mg "InvalidSide" = some (.ref c0)) (Ck : Cal P w K mg base "check_side" 3 ["side"] spCheckSide fC dC) : FnOk P w K mg base CX0 4 f fd ["thing"] spIsSide := by
  refine F.ok sc_is_side (fun vs H Q E h => ?_) (fun cdv A outer s0 H vs Q E hr h => ?_)
  · obtain ⟨p, o, s, m, rfl, _⟩ := h
    rfl
  · obtain ⟨p, o, s, m, rfl, hp, S, q⟩ := h
    refine ⟨_, pss_cons (ps_try_only rfl rfl ⟨rfl, by decide, .inl g0⟩ takes0 (fun W pn xe tk _ => pss_one (ps_expr (pcl Ck hr (by decide) (by rfl) (pa_cons (pv 0) pa_nil)))) (fun a oe cls d pn _ _ => pss_one (ps_ret pe_bl))) (pss_one (ps_ret pe_bl)), ?_⟩
    walk_at "rd"
    refine ⟨p, o, s, m, rfl, hp, S, ?_⟩
    walk_at "rd"
    exact q
theorem ok_sides {f : Addr} {fd : FuncData} (F : Fun K "check_sides" "check_sides" s_check_sides f fd) (A' : AmG mg) (Ck : Cal P w K mg base "is_side" 4 ["thing"] spIsSide fC dC) : FnOk P w K mg base CX0 5 f fd ["sides"] spSides := by
  refine F.ok sc_check_sides (fun vs H Q E h => ?_) (fun cdv A outer s0 H vs Q E hr h => ?_)
  · obtain ⟨l, xs, ss, rfl, _⟩ := h
    rfl
  · obtain ⟨l, xs, ss, rfl, SS, q⟩ := h
    have nd := sc_check_sides.nd
    obtain ⟨tms, hms⟩ := A'.ms
    refine ⟨_, pss_cons (ps_if (PW.pt (pw_or (pt_not (pt_val (pe_callB call_isi (by rfl) A'.isi (by decide +kernel) (pa_cons (pv 0) (pa_cons (pe_bltn (v := .ty "list") (by rfl) A'.list (by decide +kernel) rfl) pa_nil)))))
        (pw_or1 (pt_not (pt_chain op_le op_le pe_int (pe_callB call_len_seq (by rfl) A'.len PySem.boot_len (pa_cons (pv 0) pa_nil)) (pe_glob (v := .int 4) (by rfl) hms ⟨_, rfl⟩)))))) (pss_one ps_never) pss_nil)
      (pss_one (ps_for PassesOwn.never rfl (pi_list (pv 0)) (pg_name (i := 1) nd rfl (Or.inl rfl))
        (pss_one (ps_if (pt_not (pt_val (pcl Ck hr (by decide) (by rfl) (pa_cons (pv 1) pa_nil)))) (pss_one ps_never) pss_nil)))), ?_⟩
    walk_at "rd"
    refine ⟨_, _, _, _, _, rfl, .ty "list", .base (.lst SS.hl), kit_ty (r := true) (by decide +kernel), ?_⟩
    walk_at "rd"
    refine ⟨l, _, rfl, .inl (SqL.of SS.hl), ?_⟩
    have l1 := SS.l1
    have l4 := SS.l4
    have ln := SS.len
    walk_at "rd"
    refine ite2 (fun _ => ?_) (fun z => absurd (decide_eq_true (by omega)) z)
    walk_at "rd"
    refine ite2 (fun z => ?_) (fun _ => ?_)
    · exfalso
      have e : decide ((xs.length : Int) ≤ 4) = true := decide_eq_true (by omega)
      exact not_t z e
    walk_at "rd"
    refine ⟨⟨_, SqL.of SS.hl⟩, ?_⟩
    refine for_list (K := K) (a := l) (xs := xs) (fun i σ H' => ∃ y : Option V, σ = [some (.ref l), y] ∧ H' = H) ⟨none, rfl, rfl⟩ (fun _ _ _ _ ⟨_, _, e⟩ => e ▸ SqL.of SS.hl) ?_ ?_
    · rintro i y σ H' hy ⟨z, rfl, rfl⟩
      obtain ⟨d, p, ed, rfl, hp, sp⟩ := SS.item hy
      walk_at "rd"
      refine ⟨p, d.o, d.s, d.m, rfl, hp, sp, _, rfl, ?_⟩
      refine ite2 (fun z => (not_t z rfl).elim) (fun _ => ?_)
      exact ⟨_, rfl, rfl⟩
    · rintro σ H' ⟨z, rfl, rfl⟩
      exact q
theorem ok_per {f : Addr} {fd : FuncData} (F : Fun K "period_of" "period_of" s_period_of f fd) : FnOk P w K mg base CX0 1 f fd ["side"] spPerOf := by
  refine F.ok sc_period_of (fun vs H Q E h => ?_) (fun cdv A outer s0 H vs Q E hr h => ?_)
  · obtain ⟨p, o, s, m, rfl, _⟩ := h
    rfl
  · obtain ⟨p, o, s, m, rfl, hp, S, q⟩ := h
    have nd := sc_period_of.nd
    refine ⟨_, (pss_cons (ps_asg (pv 0) (pg_tup (by rfl) (pgs_cons (pg_name (i := 1) nd rfl (Or.inl rfl)) (pgs_cons (pg_name (i := 2) nd rfl (Or.inl rfl)) (pgs_cons (pg_name (i := 3) nd rfl (Or.inl rfl)) pgs_nil)))))
      (pss_cons (ps_if (pt_cmpR op_eq (pv 3) pe_str (nomark _)) (pss_one (ps_ret (pe_op op_mul pe_int (pv 2)))) pss_nil)
      (pss_one (ps_ret (pv 2))))), ?_⟩
    walk_at "rd"
    refine ⟨p, _, rfl, SqT.of hp, rfl, _, _, rfl, _, _, rfl, _, _, rfl, rfl, ?_⟩
    walk_at "rd"
    refine ⟨rfl, ?_⟩
    walk_at "rd"
    unfold perM at q
    refine ite2 (fun h => ?_) (fun h => ?_)
    · rw [if_pos (str_t h)] at q
      walk_at "rd"
      refine ⟨.inl ⟨by decide, by decide⟩, ?_⟩
      exact q
    · rw [if_neg (str_f h)] at q
      walk_at "rd"
      exact q
end
end HT
namespace HT
open PySem L2
theorem log_lt {n k : Nat} (h : n < 2 ^ (k + 1)) : n.log2 ≤ k := by
  by_cases h0 : n = 0
  · subst h0
    rw [Nat.log2_zero]
    exact Nat.zero_le _
  · exact Nat.le_of_lt_succ ((Nat.log2_lt h0).mpr h)
theorem lcm_lt {a b i j : Nat} (ha : a < 2 ^ i) (hb : b < 2 ^ j) : a.lcm b < 2 ^ (i + j) := by
  rw [Nat.pow_add]
  exact Nat.lt_of_le_of_lt (PySem.W.mc_lcm_le a b) (Nat.mul_lt_mul'' ha hb)
def rLcm2 : List V → Hp → VK → Prop := fun vs H Q => ∃ a b : Int, vs = [.int a, .int b] ∧ a.natAbs < 2 ^ 2000 ∧ b.natAbs < 2 ^ 2000 ∧ Q (.int (((a.natAbs.lcm b.natAbs : Nat) : Int))) H
theorem cr_lcm2 {X : Cx} : CallR X (.builtin "math.lcm") rLcm2 := by
  intro pins s σ H vs us Q I r h
  obtain ⟨a, b, rfl, ha, hb, q⟩ := h
  obtain ⟨u1, u2, rfl, r1, r2⟩ := vals2 r
  obtain ⟨t, rfl⟩ := r1
  obtain ⟨u, rfl⟩ := r2
  have hab := lcm_lt ha hb
  have e1 : Nat.lcm 1 a.natAbs = a.natAbs := PySem.W.mc_lcm_one _
  have two : ∀ {k : Nat}, 1 < 2 ^ (k + 1) := fun {k} => Nat.one_lt_two_pow (by omega)
  have g := PySem.W.mg_run_lcm a t b u
    (by have := log_lt (n := max 1 a.natAbs) (k := 1999) (Nat.max_lt.mpr ⟨two, ha⟩); omega)
    (by have := log_lt (n := max a.natAbs b.natAbs) (k := 1999) (Nat.max_lt.mpr ⟨ha, hb⟩); omega)
    (by rw [e1]; exact PySem.W.mc_size (k := 100) (Nat.le_trans (Nat.le_of_lt hab) (Nat.pow_le_pow_right (by decide) (by decide))) (by decide))
  rw [e1] at g
  exact PySem.call_function_meets PySem.W.MGF.kind_lcm PySem.W.MGF.plain_lcm PySem.W.MGF.entry_lcm (PySem.W.MGF.args_lcm _ _) g.meets ⟨.int _, H, I.tok _, ⟨_, rfl⟩, q⟩
section
variable {P : Program} {w : World} {K : PySem.W.Frag} {mg : Str → Option Value} {base : Heap} {aM c0 fC fB fV fN fW fS : Addr} {dC dB dV dN dW dS : FuncData}
theorem ok_common {f : Addr} {fd : FuncData} (F : Fun K "common_period" "common_period" s_common_period f fd) (A' : AmG mg) (Pe : Cal P w K mg base "period_of" 1 ["side"] spPerOf fC dC) : FnOk P w K mg base CX0 2 f fd ["sides"] spPer := by
  refine F.ok sc_common_period (fun vs H Q E h => ?_) (fun cdv A outer s0 H vs Q E hr h => ?_)
  · obtain ⟨l, xs, ss, rfl, _⟩ := h
    rfl
  · obtain ⟨l, xs, ss, rfl, SS, q⟩ := h
    have nd := sc_common_period.nd
    refine ⟨_, pss_cons (ps_set (i := 1) nd rfl (Or.inl rfl) pe_int)
      (pss_cons (ps_for PassesOwn.never rfl (pi_list (pv 0)) (pg_name (i := 2) nd rfl (Or.inl rfl)) (pss_one (ps_set (i := 1) nd rfl (Or.inl rfl) (pe_callBfun cr_lcm2 (by rfl) A'.lcm (pa_cons (pv 1) (pa_cons (pcl Pe hr (by decide) (by rfl) (pa_cons (pv 2) pa_nil)) pa_nil))))))
      (pss_one (ps_ret (pv 1)))), ?_⟩
    walk_at "rd"
    refine ⟨⟨_, SqL.of SS.hl⟩, ?_⟩
    refine for_list (K := K) (a := l) (xs := xs) (fun i st H' => ∃ x2 : Option V, st = [some (.ref l), some (.int (comN (ss.take i) : Int)), x2] ∧ H' = H) ⟨none, rfl, rfl⟩ (fun _ _ _ _ ⟨_, _, e⟩ => e ▸ SqL.of SS.hl) ?_ ?_
    · rintro i y st H' hy ⟨x2, rfl, rfl⟩
      obtain ⟨d, p, ed, rfl, hp, sp⟩ := SS.item hy
      walk_at "rd"
      refine ⟨p, d.o, d.s, d.m, rfl, hp, sp, ?_⟩
      have pb := perM_bd sp
      have cl := com_take SS.side SS.l4 i
      have big : (2 : Nat) ^ 420 < 2 ^ 2000 := Nat.pow_lt_pow_right (by decide) (by decide)
      have big2 : (2 : Nat) ^ 120 < 2 ^ 2000 := Nat.pow_lt_pow_right (by decide) (by decide)
      have e2 : (perM d.s d.m).natAbs = perN d := by unfold perN; omega
      refine ⟨_, _, rfl, ?_, ?_, ?_⟩
      · rw [Int.natAbs_natCast]; omega
      · rw [e2]; unfold perN; omega
      · rw [Int.natAbs_natCast, e2, ← com_snoc ed]
        exact ⟨_, rfl, rfl⟩
    · rintro st H' ⟨x2, rfl, rfl⟩
      rw [SS.len, List.take_length]
      walk_at "rd"
      exact q
end
end HT
namespace HT
/-- k steps come to a place between two -/
def Hit (step least greatest M : Int) (k : Nat) : Prop := least ≤ (step * (k : Int)) % M ∧ (step * (k : Int)) % M ≤ greatest
/-- the least number with a property, or none -/
def Least (Pr : Nat → Prop) : Option Nat → Prop
  | some k => Pr k ∧ ∀ j, j < k → ¬ Pr j
  | none => ∀ k, ¬ Pr k
theorem least_uniq {Pr : Nat → Prop} {a b : Option Nat} (ha : Least Pr a) (hb : Least Pr b) : a = b := by
  cases a with
  | none =>
    cases b with
    | none => rfl
    | some k => exact absurd hb.1 (ha k)
  | some j =>
    cases b with
    | none => exact absurd ha.1 (hb j)
    | some k =>
      rcases Nat.lt_trichotomy j k with h | h | h
      · exact absurd ha.1 (hb.2 j h)
      · rw [h]
      · exact absurd hb.1 (ha.2 k h)
theorem least_congr {A B : Nat → Prop} (h : ∀ k, A k ↔ B k) {r : Option Nat} (l : Least A r) : Least B r := by
  cases r with
  | none => exact fun k z => l k ((h k).mpr z)
  | some k => exact ⟨(h k).mp l.1, fun j hj z => l.2 j hj ((h j).mpr z)⟩
/-- seen from the other side -/
theorem hit_flip {step least greatest M : Int} (hM : 0 < M) (h0 : 0 < least) (h1 : greatest < M) (k : Nat) : Hit (M - step) (M - greatest) (M - least) M k ↔ Hit step least greatest M k := by
  have e : ((M - step) * (k : Int)) % M = (-(step * (k : Int))) % M := by
    rw [Int.sub_mul, show M * (k : Int) - step * (k : Int) = -(step * (k : Int)) + M * (k : Int) by omega, Int.add_mul_emod_self_left]
  unfold Hit
  rw [e]
  generalize step * (k : Int) = x
  have a := Int.emod_nonneg x (by omega : M ≠ 0)
  have b := Int.emod_lt_of_pos x hM
  have c := Int.emod_nonneg (-x) (by omega : M ≠ 0)
  have d := Int.emod_lt_of_pos (-x) hM
  have e1 := Int.emod_add_mul_ediv x M
  have e2 := Int.emod_add_mul_ediv (-x) M
  -- x % M + (-x) % M is 0 or M
  have s : (x % M + (-x) % M) % M = 0 := by
    rw [← Int.add_emod]
    rw [show x + -x = 0 by omega]
    exact Int.zero_emod M
  have s2 : x % M + (-x) % M = 0 ∨ x % M + (-x) % M = M := by
    have f := Int.emod_add_mul_ediv (x % M + (-x) % M) M
    rw [s] at f
    have g1 : (x % M + (-x) % M) / M = 0 ∨ (x % M + (-x) % M) / M = 1 := by
      have h1 : 0 ≤ (x % M + (-x) % M) / M := Int.ediv_nonneg (by omega) (by omega)
      have h2 : (x % M + (-x) % M) / M < 2 := Int.ediv_lt_of_lt_mul hM (by omega)
      omega
    rcases g1 with g | g
    · rw [g] at f; left; omega
    · rw [g] at f; right; omega
  constructor
  · rintro ⟨p, q⟩
    omega
  · rintro ⟨p, q⟩
    omega
def ceilD (a s : Int) : Int := -((-a) / s)
theorem ceilD_spec {a s : Int} (hs : 0 < s) : a ≤ s * ceilD a s ∧ s * (ceilD a s - 1) < a := by
  unfold ceilD
  have e := Int.emod_add_mul_ediv (-a) s
  have a0 := Int.emod_nonneg (-a) (by omega : s ≠ 0)
  have a1 := Int.emod_lt_of_pos (-a) hs
  generalize (-a) / s = t at e
  have m1 : s * (-t) = -(s * t) := Int.mul_neg s t
  have m2 : s * (-t - 1) = -(s * t) - s := by rw [Int.mul_sub, m1, Int.mul_one]
  rw [m1, m2]
  omega
end HT
namespace HT
theorem mod_small {x M : Int} (h0 : 0 ≤ x) (h1 : x < M) : x % M = x := Int.emod_eq_of_lt h0 h1
theorem divmod_eq' {s q r x : Int} (hs : 0 < s) (h : x = s * q + r) (r0 : 0 ≤ r) (r1 : r < s) : x / s = q ∧ x % s = r := by
  subst h
  constructor
  · rw [Int.add_comm, Int.add_mul_ediv_left _ _ (by omega : s ≠ 0), Int.ediv_eq_zero_of_lt r0 r1, Int.zero_add]
  · rw [Int.add_comm, Int.add_mul_emod_self_left, Int.emod_eq_of_lt r0 r1]
theorem hit_zero {least greatest M : Int} (h0 : 0 < least) (k : Nat) : ¬ Hit 0 least greatest M k := by
  rintro ⟨a, _⟩
  rw [Int.zero_mul, Int.zero_emod] at a
  omega
theorem ceil_le {a s k : Int} (hs : 0 < s) (h : a ≤ s * k) : ceilD a s ≤ k := by
  have c := (ceilD_spec (a := a) hs).2
  refine Decidable.byContradiction fun z => ?_
  have h2 : s * k ≤ s * (ceilD a s - 1) := Int.mul_le_mul_of_nonneg_left (by omega) (by omega)
  omega
theorem ceil_pos {a s : Int} (hs : 0 < s) (ha : 0 < a) : 0 < ceilD a s := by
  have c := (ceilD_spec (a := a) hs).1
  refine Decidable.byContradiction fun z => ?_
  have h2 : s * ceilD a s ≤ s * 0 := Int.mul_le_mul_of_nonneg_left (by omega) (by omega)
  omega
/-- the first round reaches a place -/
theorem hit_direct {s l g M : Int} (hs : 0 < s) (h0 : 0 < l) (h1 : g < M) (h : s * ceilD l s ≤ g) : Least (Hit s l g M) (some (ceilD l s).toNat) := by
  have c := ceilD_spec (a := l) hs
  have cp := ceil_pos hs h0
  have e : (((ceilD l s).toNat : Nat) : Int) = ceilD l s := Int.toNat_of_nonneg (by omega)
  refine ⟨?_, fun j hj => ?_⟩
  · unfold Hit
    rw [e, mod_small (by omega) (by omega)]
    exact ⟨c.1, h⟩
  · rintro ⟨a, b⟩
    have hj' : (j : Int) ≤ ceilD l s - 1 := by omega
    have h2 : s * (j : Int) ≤ s * (ceilD l s - 1) := Int.mul_le_mul_of_nonneg_left hj' (by omega)
    have h3 : 0 ≤ s * (j : Int) := Int.mul_nonneg (by omega) (by omega)
    rw [mod_small h3 (by omega)] at a
    omega
/-- both ends lie in one cell -/
theorem one_cell {s l g : Int} (hs : 0 < s) (h : g < s * ceilD l s) (hl : l ≤ g) : l / s = g / s ∧ 0 < l % s ∧ l % s ≤ g % s := by
  have c := ceilD_spec (a := l) hs
  generalize ceilD l s = t at c h
  have e1 : s * (t - 1) = s * t - s := by rw [Int.mul_sub, Int.mul_one]
  have q1 : l / s = t - 1 := by
    refine (divmod_eq' hs (q := t - 1) (r := l - s * (t - 1)) (by omega) (by omega) (by omega)).1
  have q2 : g / s = t - 1 := by
    refine (divmod_eq' hs (q := t - 1) (r := g - s * (t - 1)) (by omega) (by omega) (by omega)).1
  have m1 := Int.emod_add_mul_ediv l s
  have m2 := Int.emod_add_mul_ediv g s
  rw [q1] at m1
  rw [q2] at m2
  exact ⟨by rw [q1, q2], by omega, by omega⟩
end HT
namespace HT
theorem hit_round {s l g M : Int} (hM : 0 < M) (hs : 0 ≤ s) (h0 : 0 < l) (h1 : g < M) (k : Nat) : Hit s l g M k ↔ ∃ n : Nat, l + M * (n : Int) ≤ s * (k : Int) ∧ s * (k : Int) ≤ g + M * (n : Int) := by
  have p : 0 ≤ s * (k : Int) := Int.mul_nonneg hs (by omega)
  unfold Hit
  generalize s * (k : Int) = x at p
  have e := Int.emod_add_mul_ediv x M
  have q0 : 0 ≤ x / M := Int.ediv_nonneg p (by omega)
  constructor
  · rintro ⟨a, b⟩
    refine ⟨(x / M).toNat, ?_, ?_⟩ <;> rw [Int.toNat_of_nonneg q0] <;> omega
  · rintro ⟨n, a, b⟩
    have d := (divmod_eq' hM (q := (n : Int)) (r := x - M * (n : Int)) (x := x) (by omega) (by omega) (by omega)).2
    rw [d]
    omega
theorem hit_cell {s l g M : Int} (hs : 0 < s) (hl : l ≤ g) (h : g < s * ceilD l s) (n : Nat) : Hit ((-M) % s) (l % s) (g % s) s n ↔ ∃ k : Int, l + M * (n : Int) ≤ s * k ∧ s * k ≤ g + M * (n : Int) := by
  obtain ⟨c1, c2, c3⟩ := one_cell hs h hl
  have el := Int.emod_add_mul_ediv l s
  have eg := Int.emod_add_mul_ediv g s
  rw [← c1] at eg
  have e : (((-M) % s) * (n : Int)) % s = (-(M * (n : Int))) % s := by
    rw [Int.mul_emod, Int.emod_emod, ← Int.mul_emod, Int.neg_mul]
  unfold Hit
  rw [e]
  generalize M * (n : Int) = y
  have ew := Int.emod_add_mul_ediv (-y) s
  have w0 := Int.emod_nonneg (-y) (by omega : s ≠ 0)
  have w1 := Int.emod_lt_of_pos (-y) hs
  have lm := Int.emod_lt_of_pos g hs
  have ll := Int.emod_nonneg l (by omega : s ≠ 0)
  constructor
  · rintro ⟨a, b⟩
    refine ⟨l / s - (-y) / s, ?_, ?_⟩ <;> rw [Int.mul_sub] <;> omega
  · rintro ⟨k, a, b⟩
    -- s k - y lies in the cell of l
    have d := divmod_eq' hs (q := l / s) (r := s * k - y - s * (l / s)) (x := s * k - y) (by omega) (by omega) (by omega)
    have f : (s * k - y) % s = (-y) % s := by
      rw [show s * k - y = -y + s * k by omega, Int.add_mul_emod_self_left]
    rw [f] at d
    omega
theorem mono_mul {M : Int} (hM : 0 < M) {a b : Nat} (h : a ≤ b) : M * (a : Int) ≤ M * (b : Int) := Int.mul_le_mul_of_nonneg_left (by omega) (by omega)
/-- behind the rounds that leap over the places -/
theorem hit_rec {s l g M : Int} (hs : 0 < s) (hM : 0 < M) (h0 : 0 < l) (hl : l ≤ g) (h1 : g < M) (h : g < s * ceilD l s) {r : Option Nat} (L : Least (Hit ((-M) % s) (l % s) (g % s) s) r) :
    Least (Hit s l g M) (r.map fun n => (ceilD (l + M * (n : Int)) s).toNat) := by
  cases r with
  | none =>
    intro k hk
    obtain ⟨n, a, b⟩ := (hit_round hM (by omega) h0 h1 k).mp hk
    exact L n ((hit_cell hs hl h n).mpr ⟨k, a, b⟩)
  | some n =>
    obtain ⟨L1, L2⟩ := L
    obtain ⟨k, a, b⟩ := (hit_cell hs hl h n).mp L1
    have nn : 0 ≤ M * (n : Int) := Int.mul_nonneg (by omega) (by omega)
    have cs := ceilD_spec (a := l + M * (n : Int)) hs
    have cp := ceil_pos hs (show 0 < l + M * (n : Int) by omega)
    have ck := ceil_le hs a
    have e : ((((ceilD (l + M * (n : Int)) s).toNat) : Nat) : Int) = ceilD (l + M * (n : Int)) s := Int.toNat_of_nonneg (by omega)
    refine ⟨?_, fun j hj hit => ?_⟩
    · refine (hit_round hM (by omega) h0 h1 _).mpr ⟨n, ?_, ?_⟩
      · rw [e]; exact cs.1
      · rw [e]
        have : s * ceilD (l + M * (n : Int)) s ≤ s * k := Int.mul_le_mul_of_nonneg_left ck (by omega)
        omega
    · obtain ⟨n2, a2, b2⟩ := (hit_round hM (by omega) h0 h1 j).mp hit
      have nle : n ≤ n2 := Decidable.byContradiction fun z => L2 n2 (by omega) ((hit_cell hs hl h n2).mpr ⟨j, a2, b2⟩)
      have m := mono_mul hM nle
      have := ceil_le hs (show l + M * (n : Int) ≤ s * (j : Int) by omega)
      have hj' : j < (ceilD (l + M * (n : Int)) s).toNat := hj
      omega
/-- the places from start on by their remainder -/
def HitS (start step most M : Int) (k : Nat) : Prop := (start + step * (k : Int)) % M ≤ most
theorem hits_iff {start step most M : Int} (hM : 0 < M) (h0 : 0 ≤ most) (hl : 0 < (-start) % M) (h1 : (-start) % M + most < M) (k : Nat) : HitS start step most M k ↔ Hit (step % M) ((-start) % M) ((-start) % M + most) M k := by
  have e : ((step % M) * (k : Int)) % M = (step * (k : Int)) % M := by
    rw [Int.mul_emod, Int.emod_emod, ← Int.mul_emod]
  unfold HitS Hit
  rw [e]
  generalize step * (k : Int) = x
  have l1 := Int.emod_lt_of_pos (-start) hM
  generalize el : (-start) % M = l at hl h1 l1
  have es : ∃ t, start = -l + M * t := by
    have := Int.emod_add_mul_ediv (-start) M
    rw [el] at this
    exact ⟨-((-start) / M), by rw [Int.mul_neg]; omega⟩
  obtain ⟨t, rfl⟩ := es
  have e2 : (-l + M * t + x) % M = (x - l) % M := by
    rw [show -l + M * t + x = x - l + M * t by omega, Int.add_mul_emod_self_left]
  rw [e2]
  have ex := Int.emod_add_mul_ediv x M
  have x0 := Int.emod_nonneg x (by omega : M ≠ 0)
  have x1 := Int.emod_lt_of_pos x hM
  generalize x % M = r at ex x0 x1
  generalize x / M = qq at ex
  by_cases c : l ≤ r
  · have d := (divmod_eq' hM (q := qq) (r := r - l) (x := x - l) (by omega) (by omega) (by omega)).2
    rw [d]
    omega
  · have d := (divmod_eq' hM (q := qq - 1) (r := r - l + M) (x := x - l) (by rw [Int.mul_sub, Int.mul_one]; omega) (by omega) (by omega)).2
    rw [d]
    omega
theorem hits_zero {start step most M : Int} (hM : 0 < M) (h0 : 0 ≤ most) (h : (-start) % M = 0 ∨ M ≤ (-start) % M + most) : Least (HitS start step most M) (some 0) := by
  refine ⟨?_, fun j hj => absurd hj (Nat.not_lt_zero _)⟩
  unfold HitS
  rw [show start + step * ((0 : Nat) : Int) = start by omega]
  have e := Int.emod_add_mul_ediv (-start) M
  have l0 := Int.emod_nonneg (-start) (by omega : M ≠ 0)
  have l1 := Int.emod_lt_of_pos (-start) hM
  generalize (-start) / M = t at e
  generalize (-start) % M = l at e l0 l1 h
  by_cases c : l = 0
  · have d := (divmod_eq' hM (q := -t) (r := 0) (x := start) (by rw [Int.mul_neg]; omega) (by omega) (by omega)).2
    rw [d]
    exact h0
  · have d := (divmod_eq' hM (q := -t - 1) (r := M - l) (x := start) (by rw [Int.mul_sub, Int.mul_neg, Int.mul_one]; omega) (by omega) (by omega)).2
    rw [d]
    omega
end HT
namespace HT
open PySem L2
def oN : Option Nat → V
  | none => .non
  | some k => .int (k : Int)
def spFB (n : Nat) : Sp := fun vs H Q _ => ∃ s l g M : Int, vs = [.int s, .int l, .int g, .int M] ∧ 0 ≤ s ∧ s < M ∧ 0 < l ∧ l ≤ g ∧ g < M ∧ M < 2 ^ n ∧ ∀ r, Least (Hit s l g M) r → Q (oN r) H
theorem hit_lt {s l g M : Int} (hM : 0 < M) {k : Nat} (h : Least (Hit s l g M) (some k)) : (k : Int) < M := by
  by_cases e : (k : Int) < M
  · exact e
  · exfalso
    obtain ⟨⟨a, b⟩, c⟩ := h
    refine c (k - M.toNat) (by omega) ?_
    have e2 : s * ((k - M.toNat : Nat) : Int) = s * (k : Int) - M * s := by
      rw [show ((k - M.toNat : Nat) : Int) = (k : Int) - M by omega, Int.mul_sub, Int.mul_comm M s]
    unfold Hit
    rw [e2, Int.sub_mul_emod_self_left]
    exact ⟨a, b⟩
section
variable {P : Program} {w : World} {K : PySem.W.Frag} {mg : Str → Option Value} {base : Heap} {fC : Addr} {dC : FuncData}
theorem ok_fb0 {f : Addr} {fd : FuncData} (F : Fun K "_first_between" "_first_between" s_first_between f fd) : FnOk P w K mg base CX0 1 f fd ["step", "least", "greatest", "modulus"] (spFB 0) := by
  refine F.ok sc_first_between (fun vs H Q E h => ?_) (fun cdv A outer s0 H vs Q E hr h => ?_)
  · obtain ⟨s, l, g, M, rfl, _⟩ := h
    rfl
  · exfalso
    obtain ⟨s, l, g, M, rfl, s0, s1, l0, lg, g1, M1, q⟩ := h
    rw [Int.pow_zero] at M1
    omega
theorem ok_fbS {f : Addr} {fd : FuncData} {n : Nat} (F : Fun K "_first_between" "_first_between" s_first_between f fd) (hn : n ≤ 200) (Se : Cal P w K mg base "_first_between" (n + 1) ["step", "least", "greatest", "modulus"] (spFB n) f fd) : FnOk P w K mg base CX0 (n + 2) f fd ["step", "least", "greatest", "modulus"] (spFB (n + 1)) := by
  refine F.ok sc_first_between (fun vs H Q E h => ?_) (fun cdv A outer s0 H vs Q E hr h => ?_)
  · obtain ⟨s, l, g, M, rfl, _⟩ := h
    rfl
  · obtain ⟨s, l, g, M, rfl, s0, s1, l0, lg, g1, M1, q⟩ := h
    have nd := sc_first_between.nd
    refine ⟨_, (pss_cons (ps_if (pt_cmpR op_eq (pv 0) pe_int (nomark _)) (pss_one (ps_ret pe_non)) pss_nil)
      (pss_cons (ps_if (pt_cmpR op_gt (pe_op op_mul pe_int (pv 0)) (pv 3) (nomark _)) (pss_one (ps_par3 (i := 0) (j := 1) (l := 2) (by rfl) nd rfl rfl rfl (by decide) (by decide) (by decide) rfl rfl rfl (pa_cons (pe_op op_sub (pv 3) (pv 0)) (pa_cons (pe_op op_sub (pv 3) (pv 2)) (pa_cons (pe_op op_sub (pv 3) (pv 1)) pa_nil))) (by rfl))) pss_nil)
      (pss_cons (ps_set (i := 4) nd rfl (Or.inl rfl) (pe_un un_neg (pe_op op_fdivW (pe_un un_neg (pv 1)) (pv 0))))
      (pss_cons (ps_if (pt_cmpR op_le (pe_op op_mulW (pv 0) (pv 4)) (pv 2) (nomark _)) (pss_one (ps_ret (pv 4))) pss_nil)
      (pss_cons (ps_set (i := 5) nd rfl (Or.inl rfl) (pcl Se hr (Nat.le_refl _) (by rfl) (pa_cons (pe_op op_mod (pe_un un_neg (pv 3)) (pv 0)) (pa_cons (pe_op op_mod (pv 1) (pv 0)) (pa_cons (pe_op op_mod (pv 2) (pv 0)) (pa_cons (pv 0) pa_nil))))))
      (pss_cons (ps_if (pt_cmpR op_isN (pv 5) pe_non (nomark _)) (pss_one (ps_ret pe_non)) pss_nil)
      (pss_one (ps_ret (pe_un un_neg (pe_op op_fdivW (pe_un un_neg (pe_op op_add (pv 1) (pe_op op_mulW (pv 3) (pv 5)))) (pv 0))))))))))), ?_⟩
    have pw : (2 : Int) ^ (n + 1) = 2 * 2 ^ n := by rw [Int.pow_succ]; omega
    have bigN : (2 : Nat) ^ (n + 1) ≤ 2 ^ 201 := Nat.pow_le_pow_right (by decide) (by omega)
    have big : (2 : Int) ^ (n + 1) ≤ 2 ^ 201 := by exact_mod_cast bigN
    have hM : 0 < M := by omega
    walk_at "rd"
    refine ⟨rfl, ?_⟩
    walk_at "rd"
    refine ite2 (fun z => ?_) (fun z => ?_)
    · have e := int_t z
      subst e
      walk_at "rd"
      exact q none fun k hk => hit_zero l0 k hk
    have sp : 0 < s := by have := int_f z; omega
    walk_at "rd"
    refine ⟨.inl ⟨by decide, by decide⟩, ?_⟩
    walk_at "rd"
    refine ite2 (fun z => ?a) (fun z => ?b)
    case' a =>
      have fl : M < 2 * s := by have := of_decide_eq_true z; omega
      walk_at "rd"
      refine ⟨_, _, _, rfl, ?_⟩
      dsimp only
      have q2 : ∀ r, Least (Hit (M - s) (M - g) (M - l) M) r → Q (oN r) H := fun r L => q r (least_congr (fun k => hit_flip hM l0 g1 k) L)
      have t1 : 0 < M - s := by omega
      have t2 : 2 * (M - s) ≤ M := by omega
      have t3 : 0 < M - g := by omega
      have t4 : M - g ≤ M - l := by omega
      have t5 : M - l < M := by omega
      generalize M - s = s' at q2 t1 t2 ⊢
      generalize M - g = l' at q2 t3 t4 ⊢
      generalize M - l = g' at q2 t4 t5 ⊢
    case' b =>
      have q2 := q
      have t1 := sp
      have t2 : 2 * s ≤ M := by
        have : ¬ M < 2 * s := fun y => z (decide_eq_true (by omega))
        omega
      have t3 := l0
      have t4 := lg
      have t5 := g1
      generalize s = s' at q2 t1 t2 ⊢
      generalize l = l' at q2 t3 t4 ⊢
      generalize g = g' at q2 t4 t5 ⊢
    all_goals
      walk_at "rd"
      refine ⟨fdiv_ok _ t1 (lg_big (by omega) (by omega)), ?_⟩
      walk_at "rd"
      have cp := ceil_pos t1 t3
      have cl : ceilD l' s' ≤ l' := ceil_le t1 (by
        have : 1 * l' ≤ s' * l' := Int.mul_le_mul_of_nonneg_right (by omega) (by omega)
        omega)
      have ec : -((-l') / s') = ceilD l' s' := rfl
      rw [ec]
      refine ⟨mulW (by omega) (by omega), ?_⟩
      walk_at "rd"
      refine ite2 (fun z => ?_) (fun z => ?_)
      · walk_at "rd"
        have y : Q (.int (((ceilD l' s').toNat : Nat) : Int)) H := q2 _ (hit_direct t1 t3 t5 (of_decide_eq_true z))
        have e2 : (((ceilD l' s').toNat : Nat) : Int) = ceilD l' s' := Int.toNat_of_nonneg (by omega)
        rw [e2] at y
        exact y
      · have hh : g' < s' * ceilD l' s' := by
          have : ¬ s' * ceilD l' s' ≤ g' := fun y => z (decide_eq_true y)
          omega
        obtain ⟨o1, o2, o3⟩ := one_cell t1 hh t4
        walk_at "rd"
        refine ⟨t1, ?_⟩
        walk_at "rd"
        refine ⟨t1, ?_⟩
        walk_at "rd"
        refine ⟨t1, ?_⟩
        walk_at "rd"
        refine ⟨(-M) % s', l' % s', g' % s', s', rfl, Int.emod_nonneg _ (by omega), Int.emod_lt_of_pos _ t1, o2, o3, Int.emod_lt_of_pos _ t1, by omega, fun r L => ?_⟩
        have L2 := hit_rec t1 hM t3 t4 t5 hh L
        walk_at "rd"
        cases r with
        | none =>
          refine ⟨rfl, ?_⟩
          walk_at "rd"
          exact q2 none L2
        | some n =>
          have nl := hit_lt t1 L
          refine ⟨rfl, ?_⟩
          walk_at "rd"
          refine ⟨mulW (by omega) (by omega), ?_⟩
          walk_at "rd"
          refine ⟨fdiv_ok _ t1 (lg_big (by omega) (by omega)), ?_⟩
          walk_at "rd"
          have y : Q (.int (((ceilD (l' + M * (n : Int)) s').toNat : Nat) : Int)) H := q2 _ L2
          have mn : 0 ≤ M * (n : Int) := Int.mul_nonneg (by omega) (by omega)
          have c2 := ceil_pos t1 (show 0 < l' + M * (n : Int) by omega)
          have e2 : (((ceilD (l' + M * (n : Int)) s').toNat : Nat) : Int) = ceilD (l' + M * (n : Int)) s' := Int.toNat_of_nonneg (by omega)
          rw [e2] at y
          exact y
theorem ok_fb {f : Addr} {fd : FuncData} (F : Fun K "_first_between" "_first_between" s_first_between f fd) (m : mg "_first_between" = some (.ref f)) (k : PySem.W.keepIn K (.ref f) = true) (b : Binds K fd ["step", "least", "greatest", "modulus"] []) : ∀ n, n ≤ 200 → FnOk P w K mg base CX0 (n + 1) f fd ["step", "least", "greatest", "modulus"] (spFB n)
  | 0, _ => ok_fb0 F
  | n + 1, h => ok_fbS F (by omega) ⟨ok_fb F m k b n (by omega), m, k, b⟩
end
end HT
namespace HT
open PySem L2
theorem due_more {o s : Int} {m : Str} {v : Int} (hm : Mode m) (hs : 1 ≤ s) (n : Nat) : dueM o s m (v + s * 2 * (n : Int)) = dueM o s m v + s * 2 * (n : Int) := by
  induction n with
  | zero => rw [show v + s * 2 * ((0 : Nat) : Int) = v by simp]; simp
  | succ n ih =>
    have e : s * 2 * ((n + 1 : Nat) : Int) = s * 2 * (n : Int) + s * 2 := by
      rw [show ((n + 1 : Nat) : Int) = (n : Int) + 1 by omega, Int.mul_add, Int.mul_one]
    rw [e, show v + (s * 2 * (n : Int) + s * 2) = v + s * 2 * (n : Int) + s * 2 by omega, due_two hm hs, ih]
    omega
theorem due_per {o s : Int} {m : Str} {v : Int} (hm : Mode m) (hs : 1 ≤ s) (t : Int) : dueM o s m (v + s * 2 * t) = dueM o s m v + s * 2 * t := by
  rcases Int.le_total 0 t with h | h
  · obtain ⟨n, rfl⟩ := Int.eq_ofNat_of_zero_le h
    exact due_more hm hs n
  · obtain ⟨n, hn⟩ := Int.eq_ofNat_of_zero_le (show 0 ≤ -t by omega)
    have := due_more (o := o) (v := v + s * 2 * t) hm hs n
    have e : s * 2 * (n : Int) = -(s * 2 * t) := by rw [← hn, Int.mul_neg]
    rw [e, show v + s * 2 * t + -(s * 2 * t) = v by omega] at this
    omega
/-- the order of the sides (o, s, m) and (p, u, q) matters for x -/
def diffX (o s : Int) (m : Str) (p u : Int) (q : Str) (x : Int) : Prop := dueM p u q (dueM o s m x) ≠ dueM o s m (dueM p u q x)
theorem due_com {o s : Int} {m : Str} {v : Int} (hm : Mode m) (hs : 1 ≤ s) (t : Int) : dueM o s m (v + perM s m * t) = dueM o s m v + perM s m * t := by
  unfold perM
  by_cases e : m = "half_even"
  · rw [if_pos e, Int.mul_comm 2 s]
    exact due_per hm hs t
  · rw [if_neg e]
    obtain ⟨eq, r0, r1, wh⟩ := fig_of (o := o) (m := m) (v := v) hs
    generalize (v - o) / s = q at eq wh
    generalize (v - o) % s = r at eq r0 r1 wh
    have g : goesUp m s (q + t) r = goesUp m s q r := by
      unfold goesUp
      rw [if_neg e, if_neg e]
    have F2 : Fig o s m (v + s * t) (q + t) r (figM o s m v + t) := by
      refine ⟨?_, r0, r1, ?_⟩
      · rw [Int.mul_add]; omega
      · rw [g]
        rcases wh with ⟨a, b⟩ | ⟨a, b⟩
        · exact .inl ⟨a, by omega⟩
        · exact .inr ⟨a, by omega⟩
    have z := fig_uniq hs F2
    unfold dueM
    rw [z, Int.mul_add]
    omega
theorem due_dvd {o s : Int} {m : Str} {v L : Int} (hm : Mode m) (hs : 1 ≤ s) (h : perM s m ∣ L) : dueM o s m (v + L) = dueM o s m v + L := by
  obtain ⟨t, rfl⟩ := h
  exact due_com hm hs t
theorem due_monoN {o s : Int} {m : Str} {v : Int} (hm : Mode m) (hs : 1 ≤ s) : ∀ n : Nat, dueM o s m v ≤ dueM o s m (v + (n : Int))
  | 0 => by rw [show v + ((0 : Nat) : Int) = v by omega]; exact Int.le_refl _
  | n + 1 => by
    have a := due_monoN hm hs n (o := o) (v := v)
    have b := due_mono hm hs (o := o) (v := v + (n : Int))
    rw [show v + ((n + 1 : Nat) : Int) = v + (n : Int) + 1 by omega]
    omega
theorem due_le {o s : Int} {m : Str} {v y : Int} (hm : Mode m) (hs : 1 ≤ s) (h : v ≤ y) : dueM o s m v ≤ dueM o s m y := by
  have := due_monoN hm hs (y - v).toNat (o := o) (v := v)
  rw [show v + (((y - v).toNat : Nat) : Int) = y by omega] at this
  exact this
/-- the values of a block -/
def InB (st mo pe v : Int) : Prop := (v - st) % pe ≤ mo
instance (st mo pe v : Int) : Decidable (InB st mo pe v) := by unfold InB; exact inferInstance
def fibM (st mo pe v : Int) : Int := if (v - st) % pe ≤ mo then v else v + pe - (v - st) % pe
theorem inb_add {st mo pe v t : Int} : InB st mo pe (v + pe * t) ↔ InB st mo pe v := by
  unfold InB
  rw [show v + pe * t - st = v - st + pe * t by omega, Int.add_mul_emod_self_left]
theorem inb_of {st mo pe v r t : Int} (h : v = st + pe * t + r) (r0 : 0 ≤ r) (r1 : r < pe) (rm : r ≤ mo) : InB st mo pe v := by
  unfold InB
  rw [show v - st = r + pe * t by omega, Int.add_mul_emod_self_left, Int.emod_eq_of_lt r0 r1]
  exact rm
theorem inb_at {st mo pe v : Int} (hp : 0 < pe) (h : InB st mo pe v) : ∃ t r : Int, v = st + pe * t + r ∧ 0 ≤ r ∧ r ≤ mo ∧ r < pe := by
  refine ⟨(v - st) / pe, (v - st) % pe, ?_, Int.emod_nonneg _ (by omega), h, Int.emod_lt_of_pos _ hp⟩
  have := Int.emod_add_mul_ediv (v - st) pe
  omega
theorem mul_pos_le {pe a b : Int} (hp : 0 < pe) (h : a < b) : pe * a + pe ≤ pe * b := by
  have : pe * (a + 1) ≤ pe * b := Int.mul_le_mul_of_nonneg_left (by omega) (by omega)
  rw [Int.mul_add, Int.mul_one] at this
  exact this
theorem fib_spec {st mo pe v : Int} (hp : 0 < pe) (hm : 0 ≤ mo) : v ≤ fibM st mo pe v ∧ fibM st mo pe v < v + pe ∧ InB st mo pe (fibM st mo pe v) ∧ ∀ y, v ≤ y → y < fibM st mo pe v → ¬ InB st mo pe y := by
  have r0 := Int.emod_nonneg (v - st) (show pe ≠ 0 by omega)
  have r1 := Int.emod_lt_of_pos (v - st) hp
  have ee := Int.emod_add_mul_ediv (v - st) pe
  unfold fibM
  by_cases h : (v - st) % pe ≤ mo
  · rw [if_pos h]
    exact ⟨by omega, by omega, h, fun y a b => by omega⟩
  · rw [if_neg h]
    refine ⟨by omega, by omega, ?_, fun y a b c => ?_⟩
    · refine inb_of (t := (v - st) / pe + 1) (r := 0) ?_ (by omega) hp hm
      rw [Int.mul_add]
      omega
    · obtain ⟨t, r, e1, e2, e3, e4⟩ := inb_at hp c
      rcases Int.lt_trichotomy t ((v - st) / pe) with z | z | z
      · have := mul_pos_le hp z
        omega
      · rw [z] at e1
        omega
      · have := mul_pos_le hp z
        omega
/-- the least value from v on with a property -/
def LeastI (Pr : Int → Prop) (v : Int) : Option Int → Prop
  | some x => v ≤ x ∧ Pr x ∧ ∀ y, v ≤ y → y < x → ¬ Pr y
  | none => ∀ y, v ≤ y → ¬ Pr y
theorem leastI_congr {A B : Int → Prop} {v : Int} {r : Option Int} (h : ∀ x, A x ↔ B x) (e : LeastI A v r) : LeastI B v r := by
  cases r with
  | none => exact fun y z w => e y z ((h y).mpr w)
  | some x => exact ⟨e.1, (h x).mp e.2.1, fun y y0 y1 z => e.2.2 y y0 y1 ((h y).mpr z)⟩
/-- a place of one block holds a value of the other -/
theorem place_iff {b mo os om op : Int} (hp : 0 < op) (hm : 0 ≤ mo) (ho : 0 ≤ om) : (∃ y, b ≤ y ∧ y ≤ b + mo ∧ InB os om op y) ↔ (b + mo - os) % op ≤ mo + om := by
  have r0 := Int.emod_nonneg (b + mo - os) (show op ≠ 0 by omega)
  have r1 := Int.emod_lt_of_pos (b + mo - os) hp
  have ee := Int.emod_add_mul_ediv (b + mo - os) op
  constructor
  · rintro ⟨y, h1, h2, h3⟩
    obtain ⟨t, r, e1, e2, e3, e4⟩ := inb_at hp h3
    have e5 : b + mo - os = (r + (b + mo - y)) + op * t := by omega
    rw [e5, Int.add_mul_emod_self_left]
    have := Int.emod_add_mul_ediv (r + (b + mo - y)) op
    have q0 : 0 ≤ (r + (b + mo - y)) / op := Int.ediv_nonneg (by omega) (by omega)
    have q1 : 0 ≤ op * ((r + (b + mo - y)) / op) := Int.mul_nonneg (by omega) q0
    omega
  · intro h
    by_cases e : (b + mo - os) % op ≤ om
    · exact ⟨b + mo, by omega, by omega, e⟩
    · refine ⟨b + mo - ((b + mo - os) % op - om), by omega, by omega, ?_⟩
      refine inb_of (t := (b + mo - os) / op) (r := om) ?_ ho (by omega) (by omega)
      omega
/-- first_in_both, as the program finds it -/
theorem both_near {st mo pe os om op v : Int} (hp : 0 < pe) (hm : 0 ≤ mo) (hq : 0 < op) (ho : 0 ≤ om) (hmp : mo < pe)
    (h : fibM os om op (fibM st mo pe v) ≤ fibM st mo pe v - (fibM st mo pe v - st) % pe + mo) : LeastI (fun x => InB st mo pe x ∧ InB os om op x) v (some (fibM os om op (fibM st mo pe v))) := by
  obtain ⟨a1, a2, a3, a4⟩ := fib_spec (v := v) (st := st) hp hm
  generalize fibM st mo pe v = x at *
  obtain ⟨b1, b2, b3, b4⟩ := fib_spec (v := x) (st := os) hq ho
  generalize fibM os om op x = z at *
  have r0 := Int.emod_nonneg (x - st) (show pe ≠ 0 by omega)
  have ee := Int.emod_add_mul_ediv (x - st) pe
  refine ⟨by omega, ⟨?_, b3⟩, fun y y0 y1 c => ?_⟩
  · exact inb_of (t := (x - st) / pe) (r := z - (x - (x - st) % pe)) (by omega) (by omega) (by omega) (by omega)
  · by_cases g : y < x
    · exact a4 y y0 g c.1
    · exact b4 y (by omega) y1 c.2
theorem both_far {st mo pe os om op v : Int} (hp : 0 < pe) (hm : 0 ≤ mo) (hq : 0 < op) (ho : 0 ≤ om) (hmp : mo < pe) {r : Option Nat}
    (h : fibM st mo pe v - (fibM st mo pe v - st) % pe + mo < fibM os om op (fibM st mo pe v)) (L : Least (HitS (fibM st mo pe v - (fibM st mo pe v - st) % pe + pe + mo - os) pe (mo + om) op) r) :
    LeastI (fun x => InB st mo pe x ∧ InB os om op x) v (r.map fun k : Nat => fibM os om op (fibM st mo pe v - (fibM st mo pe v - st) % pe + pe + pe * (k : Int))) := by
  obtain ⟨a1, a2, a3, a4⟩ := fib_spec (v := v) (st := st) hp hm
  generalize fibM st mo pe v = x at *
  obtain ⟨b1, b2, b3, b4⟩ := fib_spec (v := x) (st := os) hq ho
  generalize fibM os om op x = z at *
  have r0 := Int.emod_nonneg (x - st) (show pe ≠ 0 by omega)
  have r1 := Int.emod_lt_of_pos (x - st) hp
  have ee := Int.emod_add_mul_ediv (x - st) pe
  have bx : (x - st) % pe ≤ mo := a3
  -- the places behind
  have key : ∀ y, v ≤ y → InB st mo pe y → InB os om op y → ∃ j : Nat, x - (x - st) % pe + pe + pe * (j : Int) ≤ y ∧ y ≤ x - (x - st) % pe + pe + pe * (j : Int) + mo ∧ HitS (x - (x - st) % pe + pe + mo - os) pe (mo + om) op j := by
    intro y y0 c1 c2
    have yx : x ≤ y := by
      by_cases g : y < x
      · exact absurd c1 (a4 y y0 g)
      · omega
    have yz : z ≤ y := by
      by_cases g : y < z
      · exact absurd c2 (b4 y yx g)
      · omega
    obtain ⟨t, r, e1, e2, e3, e4⟩ := inb_at hp c1
    have tj : (x - st) / pe < t := by
      rcases Int.lt_trichotomy t ((x - st) / pe) with q | q | q
      · have := mul_pos_le hp q
        omega
      · rw [q] at e1
        omega
      · exact q
    refine ⟨(t - (x - st) / pe - 1).toNat, ?_⟩
    have en : (((t - (x - st) / pe - 1).toNat : Nat) : Int) = t - (x - st) / pe - 1 := Int.toNat_of_nonneg (by omega)
    rw [en]
    have ep : pe * (t - (x - st) / pe - 1) = pe * t - pe * ((x - st) / pe) - pe := by rw [Int.mul_sub, Int.mul_sub, Int.mul_one]
    have l1 : x - (x - st) % pe + pe + pe * (t - (x - st) / pe - 1) ≤ y := by omega
    have l2 : y ≤ x - (x - st) % pe + pe + pe * (t - (x - st) / pe - 1) + mo := by omega
    refine ⟨l1, l2, ?_⟩
    unfold HitS
    rw [en]
    have := (place_iff hq hm ho).mp ⟨y, l1, l2, c2⟩
    rw [show x - (x - st) % pe + pe + mo - os + pe * (t - (x - st) / pe - 1) = x - (x - st) % pe + pe + pe * (t - (x - st) / pe - 1) + mo - os by omega]
    exact this
  cases r with
  | none =>
    intro y y0 c
    obtain ⟨j, _, _, hj⟩ := key y y0 c.1 c.2
    exact L j hj
  | some k =>
    obtain ⟨L1, L2⟩ := L
    have kk : (x - (x - st) % pe + pe + pe * (k : Int) + mo - os) % op ≤ mo + om := by
      unfold HitS at L1
      rw [show x - (x - st) % pe + pe + pe * (k : Int) + mo - os = x - (x - st) % pe + pe + mo - os + pe * (k : Int) by omega]
      exact L1
    obtain ⟨y, h1, h2, h3⟩ := (place_iff hq hm ho).mpr kk
    have kp : 0 ≤ pe * (k : Int) := Int.mul_nonneg (by omega) (by omega)
    obtain ⟨d1, d2, d3, d4⟩ := fib_spec (v := x - (x - st) % pe + pe + pe * (k : Int)) (st := os) hq ho
    show LeastI _ v (some (fibM os om op (x - (x - st) % pe + pe + pe * (k : Int))))
    generalize hf : fibM os om op (x - (x - st) % pe + pe + pe * (k : Int)) = f at d1 d2 d3 d4
    have fy : f ≤ y := by
      by_cases g : y < f
      · exact absurd h3 (d4 y h1 g)
      · omega
    refine ⟨by omega, ⟨?_, d3⟩, fun w w0 w1 c => ?_⟩
    · refine inb_of (t := (x - st) / pe + 1 + (k : Int)) (r := f - (x - (x - st) % pe + pe + pe * (k : Int))) ?_ (by omega) (by omega) (by omega)
      rw [Int.mul_add, Int.mul_add, Int.mul_one]
      omega
    · obtain ⟨j, j1, j2, j3⟩ := key w w0 c.1 c.2
      have jk : k ≤ j := by
        by_cases g : j < k
        · exact absurd j3 (L2 j g)
        · omega
      have : pe * (k : Int) ≤ pe * (j : Int) := Int.mul_le_mul_of_nonneg_left (by omega) (by omega)
      exact d4 w (by omega) w1 c.2
/-- the figures of a period -/
def figsN (s : Int) (m : Str) : Int := perM s m / s
theorem figs_eq {s : Int} {m : Str} (hs : 1 ≤ s) : figsN s m = if m = "half_even" then 2 else 1 := by
  unfold figsN perM
  by_cases e : m = "half_even"
  · rw [if_pos e, if_pos e, Int.mul_ediv_cancel _ (by omega)]
  · rw [if_neg e, if_neg e, Int.ediv_self (by omega)]
theorem per_figs {s : Int} {m : Str} (hs : 1 ≤ s) : perM s m = s * figsN s m := by
  rw [figs_eq hs]
  unfold perM
  by_cases e : m = "half_even"
  · rw [if_pos e, if_pos e, Int.mul_comm]
  · rw [if_neg e, if_neg e, Int.mul_one]
theorem figs_bd {s : Int} {m : Str} (hs : 1 ≤ s) : 1 ≤ figsN s m ∧ figsN s m ≤ 2 := by
  rw [figs_eq hs]
  split <;> omega
theorem unr_iff {o s : Int} {m : Str} {v : Int} (hm : Mode m) (hs : 1 ≤ s) : dueM o s m v ≤ v ↔ ∃ k, 0 ≤ k ∧ k < figsN s m ∧ InB (o + s * k) (below (mir m) s k) (perM s m) v := by
  have fb := figs_bd (m := m) hs
  have pf := per_figs (m := m) hs
  have pp : s ≤ perM s m := by
    rw [pf]
    have : s * 1 ≤ s * figsN s m := Int.mul_le_mul_of_nonneg_left (by omega) (by omega)
    omega
  constructor
  · intro h
    have e0 := Int.emod_add_mul_ediv (figM o s m v) (figsN s m)
    refine ⟨figM o s m v % figsN s m, Int.emod_nonneg _ (by omega), Int.emod_lt_of_pos _ (by omega), ?_⟩
    generalize hk : figM o s m v % figsN s m = k at *
    generalize hj : figM o s m v / figsN s m = j at *
    have ev : v = (v - perM s m * j) + perM s m * j := by omega
    have dc := due_com (o := o) (v := v - perM s m * j) hm hs j
    rw [← ev] at dc
    have es : s * figM o s m v = s * k + perM s m * j := by
      rw [← e0, Int.mul_add, pf, Int.mul_assoc]
    have ed : dueM o s m v = o + s * k + perM s m * j := by
      unfold dueM
      omega
    have ed2 : dueM o s m (v - perM s m * j) = o + s * k := by omega
    have ef : figM o s m (v - perM s m * j) = k := by
      unfold dueM at ed2
      exact Int.eq_of_mul_eq_mul_left (show s ≠ 0 by omega) (by omega)
    have hi := ((fig_iff hm hs).mp ef).2
    unfold highM at hi
    have bb := below_bd (k := k) (mir_mode hm) hs
    exact inb_of (t := j) (r := v - perM s m * j - (o + s * k)) (by omega) (by omega) (by omega) (by omega)
  · rintro ⟨k, k0, k1, h⟩
    obtain ⟨t, r, e1, e2, e3, e4⟩ := inb_at (by omega) h
    have lh := low_high (o := o) (k := k) hm hs
    have ef : figM o s m (o + s * k + r) = k := (fig_iff hm hs).mpr ⟨by omega, by unfold highM; omega⟩
    have dc := due_com (o := o) (v := o + s * k + r) hm hs t
    rw [show o + s * k + r + perM s m * t = v by omega] at dc
    have ed : dueM o s m (o + s * k + r) = o + s * k := by
      unfold dueM
      rw [ef]
    omega
end HT
namespace HT
open PySem L2
def oV : Option Int → V
  | none => .non
  | some k => .int k
def spFH : Sp := fun vs H Q _ => ∃ st sp mo M : Int, vs = [.int st, .int sp, .int mo, .int M] ∧ 0 < M ∧ M < 2 ^ 102 ∧ 0 ≤ mo ∧ ∀ r, Least (HitS st sp mo M) r → Q (oN r) H
def blkV (st mo pe : Int) : HO := .tup [.int st, .int mo, .int pe]
structure BlkP (st mo pe : Int) : Prop where
  p0 : 0 < pe
  p1 : pe < 2 ^ 102
  m0 : 0 ≤ mo
  m1 : mo < pe
def spFIB : Sp := fun vs H Q _ => ∃ (b : Addr) (st mo pe v : Int), vs = [.ref b, .int v] ∧ H b = some (blkV st mo pe) ∧ BlkP st mo pe ∧ Q (.int (fibM st mo pe v)) H
def spFI2 : Sp := fun vs H Q _ => ∃ (a b : Addr) (st mo pe os om op v : Int), vs = [.ref a, .ref b, .int v] ∧ H a = some (blkV st mo pe) ∧ BlkP st mo pe ∧ H b = some (blkV os om op) ∧ BlkP os om op ∧ ∀ r, LeastI (fun x => InB st mo pe x ∧ InB os om op x) v r → Q (oV r) H
theorem hitS_lt {st sp mo M : Int} (hM : 0 < M) {k : Nat} (h : Least (HitS st sp mo M) (some k)) : (k : Int) < M := by
  by_cases e : (k : Int) < M
  · exact e
  · exfalso
    obtain ⟨a, c⟩ := h
    refine c (k - M.toNat) (by omega) ?_
    have e2 : st + sp * ((k - M.toNat : Nat) : Int) = st + sp * (k : Int) - M * sp := by
      rw [show ((k - M.toNat : Nat) : Int) = (k : Int) - M by omega, Int.mul_sub, Int.mul_comm M sp]
      omega
    unfold HitS
    rw [e2, Int.sub_mul_emod_self_left]
    exact a
section
variable {P : Program} {w : World} {K : PySem.W.Frag} {mg : Str → Option Value} {base : Heap} {fB fH fI : Addr} {dB dH dI : FuncData}
theorem ok_hit {f : Addr} {fd : FuncData} (F : Fun K "first_hit" "first_hit" s_first_hit f fd) (FB : Cal P w K mg base "_first_between" 103 ["step", "least", "greatest", "modulus"] (spFB 102) fB dB) : FnOk P w K mg base CX0 104 f fd ["start", "step", "most", "modulus"] spFH := by
  refine F.ok sc_first_hit (fun vs H Q E h => ?_) (fun cdv A outer s0 H vs Q E hr h => ?_)
  · obtain ⟨st, sp, mo, M, rfl, _⟩ := h
    rfl
  · obtain ⟨st, sp, mo, M, rfl, M0, M1, m0, q⟩ := h
    have nd := sc_first_hit.nd
    refine ⟨_, (pss_cons (ps_set (i := 4) nd rfl (Or.inl rfl) (pe_op op_mod (pe_un un_neg (pv 0)) (pv 3)))
      (pss_cons (ps_set (i := 5) nd rfl (Or.inl rfl) (pe_op op_add (pv 4) (pv 2)))
      (pss_cons (ps_if (PW.pt (pw_or (pt_cmpR op_eq (pv 4) pe_int (nomark _)) (pw_or1 (pt_cmpR op_ge (pv 5) (pv 3) (nomark _))))) (pss_one (ps_ret pe_int)) pss_nil)
      (pss_one (ps_ret (pcl FB hr (by decide) (by rfl) (pa_cons (pe_op op_mod (pv 1) (pv 3)) (pa_cons (pv 4) (pa_cons (pv 5) (pa_cons (pv 3) pa_nil)))))))))), ?_⟩
    have l0 := Int.emod_nonneg (-st) (show M ≠ 0 by omega)
    have l1 := Int.emod_lt_of_pos (-st) M0
    walk_at "rd"
    refine ⟨M0, ?_⟩
    walk_at "rd"
    refine ⟨rfl, ?_⟩
    walk_at "rd"
    refine ite2 (fun z => ?_) (fun z => ?_)
    · have e := int_t z
      walk_at "rd"
      exact q (some 0) (hits_zero M0 m0 (.inl e))
    have e1 := int_f z
    walk_at "rd"
    refine ite2 (fun z => ?_) (fun z => ?_)
    · have e := of_decide_eq_true z
      walk_at "rd"
      exact q (some 0) (hits_zero M0 m0 (.inr e))
    have e2 : (-st) % M + mo < M := by
      have : ¬ M ≤ (-st) % M + mo := fun y => z (decide_eq_true y)
      omega
    walk_at "rd"
    refine ⟨M0, ?_⟩
    walk_at "rd"
    refine ⟨sp % M, (-st) % M, (-st) % M + mo, M, rfl, Int.emod_nonneg _ (by omega), Int.emod_lt_of_pos _ M0, by omega, by omega, e2, M1, fun r L => ?_⟩
    exact q r (least_congr (fun k => (hits_iff M0 m0 (by omega) e2 k).symm) L)
theorem ok_fib {f : Addr} {fd : FuncData} (F : Fun K "first_in_block" "first_in_block" s_first_in_block f fd) : FnOk P w K mg base CX0 1 f fd ["block", "value"] spFIB := by
  refine F.ok sc_first_in_block (fun vs H Q E h => ?_) (fun cdv A outer s0 H vs Q E hr h => ?_)
  · obtain ⟨b, st, mo, pe, v, rfl, _⟩ := h
    rfl
  · obtain ⟨b, st, mo, pe, v, rfl, hb, BP, q⟩ := h
    have nd := sc_first_in_block.nd
    refine ⟨_, (pss_cons (ps_asg (pv 0) (pg_tup (by rfl) (pgs_cons (pg_name (i := 2) nd rfl (Or.inl rfl)) (pgs_cons (pg_name (i := 3) nd rfl (Or.inl rfl)) (pgs_cons (pg_name (i := 4) nd rfl (Or.inl rfl)) pgs_nil)))))
      (pss_cons (ps_set (i := 5) nd rfl (Or.inl rfl) (pe_op op_mod (pe_op op_sub (pv 1) (pv 2)) (pv 4)))
      (pss_cons (ps_if (pt_cmpR op_le (pv 5) (pv 3) (nomark _)) (pss_one (ps_ret (pv 1))) pss_nil)
      (pss_one (ps_ret (pe_op op_sub (pe_op op_add (pv 1) (pv 4)) (pv 5))))))), ?_⟩
    walk_at "rd"
    refine ⟨b, _, rfl, SqT.of hb, rfl, _, _, rfl, _, _, rfl, _, _, rfl, rfl, ?_⟩
    walk_at "rd"
    refine ⟨BP.p0, ?_⟩
    walk_at "rd"
    unfold fibM at q
    refine ite2 (fun z => ?_) (fun z => ?_)
    · rw [if_pos (of_decide_eq_true z)] at q
      walk_at "rd"
      exact q
    · rw [if_neg (fun y => z (decide_eq_true y))] at q
      walk_at "rd"
      exact q
theorem ok_fi2 {f : Addr} {fd : FuncData} (F : Fun K "first_in_both" "first_in_both" s_first_in_both f fd) (Fh : Cal P w K mg base "first_hit" 104 ["start", "step", "most", "modulus"] spFH fH dH) (Fi : Cal P w K mg base "first_in_block" 1 ["block", "value"] spFIB fI dI) : FnOk P w K mg base CX0 105 f fd ["one", "other", "value"] spFI2 := by
  refine F.ok sc_first_in_both (fun vs H Q E h => ?_) (fun cdv A outer s0 H vs Q E hr h => ?_)
  · obtain ⟨a, b, st, mo, pe, os, om, op, v, rfl, _⟩ := h
    rfl
  · obtain ⟨a, b, st, mo, pe, os, om, op, v, rfl, ha, BP, hb, CP, q⟩ := h
    have nd := sc_first_in_both.nd
    refine ⟨_, (pss_cons (ps_asg (pv 0) (pg_tup (by rfl) (pgs_cons (pg_name (i := 3) nd rfl (Or.inl rfl)) (pgs_cons (pg_name (i := 4) nd rfl (Or.inl rfl)) (pgs_cons (pg_name (i := 5) nd rfl (Or.inl rfl)) pgs_nil)))))
      (pss_cons (ps_set (i := 2) nd rfl (Or.inl rfl) (pcl Fi hr (by decide) (by rfl) (pa_cons (pv 0) (pa_cons (pv 2) pa_nil))))
      (pss_cons (ps_set (i := 6) nd rfl (Or.inl rfl) (pe_op op_sub (pv 2) (pe_op op_mod (pe_op op_sub (pv 2) (pv 3)) (pv 5))))
      (pss_cons (ps_set (i := 7) nd rfl (Or.inl rfl) (pcl Fi hr (by decide) (by rfl) (pa_cons (pv 1) (pa_cons (pv 2) pa_nil))))
      (pss_cons (ps_if (pt_cmpR op_le (pv 7) (pe_op op_add (pv 6) (pv 4)) (nomark _)) (pss_one (ps_ret (pv 7))) pss_nil)
      (pss_cons (ps_set (i := 6) nd rfl (Or.inl rfl) (pe_op op_add (pv 6) (pv 5)))
      (pss_cons (ps_asg (pv 1) (pg_tup (by rfl) (pgs_cons (pg_name (i := 8) nd rfl (Or.inl rfl)) (pgs_cons (pg_name (i := 9) nd rfl (Or.inl rfl)) (pgs_cons (pg_name (i := 10) nd rfl (Or.inl rfl)) pgs_nil)))))
      (pss_cons (ps_set (i := 11) nd rfl (Or.inl rfl) (pcl Fh hr (by decide) (by rfl) (pa_cons (pe_op op_sub (pe_op op_add (pv 6) (pv 4)) (pv 8)) (pa_cons (pv 5) (pa_cons (pe_op op_add (pv 4) (pv 9)) (pa_cons (pv 10) pa_nil))))))
      (pss_cons (ps_if (pt_cmpR op_isN (pv 11) pe_non (nomark _)) (pss_one (ps_ret pe_non)) pss_nil)
      (pss_one (ps_ret (pcl Fi hr (by decide) (by rfl) (pa_cons (pv 1) (pa_cons (pe_op op_add (pv 6) (pe_op op_mulW (pv 5) (pv 11))) pa_nil)))))))))))))), ?_⟩
    have p0 := BP.p0
    have p1 := BP.p1
    have o0 := CP.p0
    have o1 := CP.p1
    walk_at "rd"
    refine ⟨a, _, rfl, SqT.of ha, rfl, _, _, rfl, _, _, rfl, _, _, rfl, rfl, ?_⟩
    walk_at "rd"
    refine ⟨a, st, mo, pe, v, rfl, ha, BP, ?_⟩
    walk_at "rd"
    refine ⟨p0, ?_⟩
    walk_at "rd"
    refine ⟨b, os, om, op, fibM st mo pe v, rfl, hb, CP, ?_⟩
    walk_at "rd"
    refine ite2 (fun z => ?_) (fun z => ?_)
    · have e := of_decide_eq_true z
      walk_at "rd"
      exact q (some _) (both_near p0 BP.m0 o0 CP.m0 BP.m1 e)
    have e : fibM st mo pe v - (fibM st mo pe v - st) % pe + mo < fibM os om op (fibM st mo pe v) := by
      have : ¬ fibM os om op (fibM st mo pe v) ≤ fibM st mo pe v - (fibM st mo pe v - st) % pe + mo := fun y => z (decide_eq_true y)
      omega
    walk_at "rd"
    refine ⟨b, _, rfl, SqT.of hb, rfl, _, _, rfl, _, _, rfl, _, _, rfl, rfl, ?_⟩
    walk_at "rd"
    have m0 := BP.m0
    have n0 := CP.m0
    refine ⟨fibM st mo pe v - (fibM st mo pe v - st) % pe + pe + mo - os, pe, mo + om, op, rfl, o0, o1, by omega, fun r L => ?_⟩
    have L2 := both_far (v := v) p0 m0 o0 n0 BP.m1 e L
    walk_at "rd"
    cases r with
    | none =>
      refine ⟨rfl, ?_⟩
      walk_at "rd"
      exact q none L2
    | some k =>
      refine ⟨rfl, ?_⟩
      walk_at "rd"
      have kl := hitS_lt o0 L
      refine ⟨mulW (by omega) (by omega), ?_⟩
      walk_at "rd"
      exact ⟨b, os, om, op, _, rfl, hb, CP, q _ L2⟩
end
end HT
namespace HT
open PySem L2
/-- a def with defaults that may be called by its name -/
structure CalD (P : Program) (w : World) (K : PySem.W.Frag) (mg : Str → Option Value) (base : Heap) (x : Str) (k : Nat) (ps : List Str) (dvs : List V) (sp : Sp) (f : Addr) (fd : FuncData) : Prop where
  ok : FnOk P w K mg base CX0 k f fd ps sp
  gl : mg x = some (.ref f)
  kp : PySem.W.keepIn K (.ref f) = true
  bd : ∃ ds, Vals dvs ds ∧ Binds K fd ps ds
theorem pcd {X : Cx} {x : Str} {k j : Nat} {ps : List Str} {dvs : List V} {sp : Sp} {f : Addr} {fd : FuncData} {e : Expr} {es : List Expr} {t : TA} {p pos : Pos} (C : CalD X.prog X.w X.K X.mg X.base x k ps dvs sp f fd) (hr : Room j X.A) (hj : k ≤ j) (hg : Gl X x) (ha : PA X (e :: es) t)
    (hdb : (x == ("__debug__" : Str)) = false := by decide) (he : starEach (e :: es) X.env = (false, eval e X.env) :: starEach es X.env := by rfl) (hpl : (backTo pos (starEach es X.env)).any (·.1) = false := by rfl) : PE X (.Call (.Name x p) (e :: es) [] pos) (tCall sp dvs E0 t) := by
  obtain ⟨ds, hv, hb⟩ := C.bd
  exact pe_call C.ok (hr.mono hj) hg C.gl C.kp hb hv pass0 ha hdb he hpl
structure MaxT (mg : Str → Option Value) : Prop where
  max : mg "max" = none
  min : mg "min" = none
def BlksAt (H' : Hp) (L : Addr) (o s : Int) (m : Str) : Prop := ∃ ps : List Addr, H' L = some (.lst (ps.map V.ref)) ∧ ps.length = (figsN s m).toNat ∧ ∀ (i : Nat) (p : Addr), ps[i]? = some p → H' p = some (blkV (o + s * (i : Int)) (below (mir m) s (i : Int)) (perM s m))
def spUnr : Sp := fun vs H Q _ => ∃ (p : Addr) (o s : Int) (m : Str), vs = [.ref p, .int 1] ∧ H p = some (sideV o s m) ∧ SideP o s m ∧ ∀ (L : Addr) (H' : Hp), H L = none → Same H H' → BlksAt H' L o s m → Q (.ref L) H'
def spRs : Sp := fun vs H Q _ => ∃ (p : Addr) (o s : Int) (m : Str), vs = [.ref p] ∧ H p = some (sideV o s m) ∧ SideP o s m ∧ ∀ H', Same H H' → Q (.bl (!decide (firstM s m = "down"))) H'
theorem blkP_of {o s k : Int} {m : Str} (S : SideP o s m) : BlkP (o + s * k) (below (mir m) s k) (perM s m) := by
  have b := below_bd (k := k) (mir_mode S.md) S.s0
  have p := perM_bd S
  have pf := per_figs (m := m) S.s0
  have fb := figs_bd (m := m) S.s0
  have s0 := S.s0
  have : s * 1 ≤ s * figsN s m := Int.mul_le_mul_of_nonneg_left (by omega) (by omega)
  exact ⟨by omega, by omega, b.1, by omega⟩
section
variable {P : Program} {w : World} {K : PySem.W.Frag} {mg : Str → Option Value} {base : Heap} {fB fH fI : Addr} {dB dH dI : FuncData}
theorem ok_unr {f : Addr} {fd : FuncData} (F : FunD K "unraised" "unraised" (defArgs s_unraised) (defBody s_unraised) (defScope s_unraised) [.int 1] [] f fd) (B : Blt mg) (MT : MaxT mg) (Pe : Cal P w K mg base "period_of" 1 ["side"] spPerOf fB dB) (Sp' : Cal P w K mg base "span" 4 ["side", "figure"] spSpan fH dH) : FnOk P w K mg base CX0 5 f fd ["side", "least"] spUnr := by
  refine F.ok sc_unraised (fun vs H Q E h => ?_) (fun cdv A outer s0 H vs Q E hr h => ?_)
  · obtain ⟨p, o, s, m, rfl, _⟩ := h
    rfl
  · obtain ⟨p, o, s, m, rfl, hp, S, q⟩ := h
    have nd := sc_unraised.nd
    refine ⟨_, (pss_cons (ps_asg (pv 0) (pg_tup (by rfl) (pgs_cons (pg_name (i := 2) nd rfl (Or.inl rfl)) (pgs_cons (pg_name (i := 3) nd rfl (Or.inl rfl)) (pgs_cons (pg_name (i := 4) nd rfl (Or.inl rfl)) pgs_nil)))))
      (pss_cons (ps_set (i := 5) nd rfl (Or.inl rfl) (pcl Pe hr (by decide) (by rfl) (pa_cons (pv 0) pa_nil)))
      (pss_cons (ps_set (i := 6) nd rfl (Or.inl rfl) (pe_lst pa_nil))
      (pss_cons (ps_for (passes_of rfl) rfl (pi_range1 (by rfl) B.range (pa_cons (pe_op op_fdivW (pv 5) (pv 3)) pa_nil)) (pg_name (i := 7) nd rfl (Or.inl rfl)) (pss_cons (ps_asg (pcl Sp' hr (by decide) (by rfl) (pa_cons (pv 0) (pa_cons (pv 7) pa_nil))) (pg_tup (by rfl) (pgs_cons (pg_name (i := 8) nd rfl (Or.inl rfl)) (pgs_cons (pg_name (i := 9) nd rfl (Or.inl rfl)) pgs_nil))))
      (pss_cons (ps_set (i := 10) nd rfl (Or.inl rfl) (pe_callB (call_max2 rfl) (by rfl) MT.max (by decide +kernel) (pa_cons (pv 8) (pa_cons (pe_op op_add (pe_op op_sub (pe_op op_add (pv 2) (pe_op op_mulW (pv 3) (pv 7))) (pv 1)) pe_int) pa_nil))))
      (pss_one (ps_expr (pe_bm PySem.F.plainAttrs_list PySem.F.slot_list_append PySem.F.type_list_append mt_append (pv 6) (pa_cons (pe_tup (pa_cons (pv 10) (pa_cons (pe_op op_sub (pv 9) (pv 10)) (pa_cons (pv 5) pa_nil)))) pa_nil)))))))
      (pss_one (ps_ret (pv 6))))))), ?_⟩
    have s1 := S.s0
    have s2 := S.s1
    have o0 := S.o0
    have o1 := S.o1
    have fb := figs_bd (m := m) S.s0
    walk_at "rd"
    refine ⟨p, _, rfl, SqT.of hp, rfl, _, _, rfl, _, _, rfl, _, _, rfl, rfl, ?_⟩
    walk_at "rd"
    refine ⟨p, o, s, m, rfl, hp, S, ?_⟩
    walk_at "rd"
    refine ⟨(by show 0 ≤ sizeLine; decide), fun L nL => ?_⟩
    walk_at "rd"
    refine ⟨fdiv_ok _ (by omega) (lg_big (by omega) (by omega)), ?_⟩
    walk_at "rd"
    have ef : perM s m / s = figsN s m := rfl
    refine ⟨by omega, by omega, ?_⟩
    refine for_range (n := (perM s m / s).toNat) (fun i st H' => ∃ (x7 x8 x9 x10 : Option V) (ps : List Addr), st = [some (.ref p), some (.int 1), some (.int o), some (.int s), some (.str m), some (.int (perM s m)), some (.ref L), x7, x8, x9, x10] ∧ Same H H' ∧ H' L = some (.lst (ps.map V.ref)) ∧ ps.length = i ∧ (∀ (j : Nat) (b : Addr), ps[j]? = some b → H' b = some (blkV (o + s * (j : Int)) (below (mir m) s (j : Int)) (perM s m)))) ⟨none, none, none, none, [], rfl, fun b u z => (upd_ne (ne_of_none z nL)).trans z, upd_same, rfl, fun j b z => nomatch z⟩ ?_ ?_
    · rintro i st H' hi ⟨x7, x8, x9, x10, ps, rfl, sm, hL, lp, at_⟩
      have hi2 : i < 2 := by omega
      have hp' := sm _ _ hp
      walk_at "rd"
      refine ⟨p, o, s, m, 0 + (i : Int), rfl, hp', S, (by unfold BdK; omega), fun d H2 s2' nd2 hd => ?_⟩
      refine ⟨d, _, rfl, SqT.of hd, rfl, _, _, rfl, _, _, rfl, rfl, ?_⟩
      walk_at "rd"
      refine ⟨mulW (by omega) (by omega), ?_⟩
      walk_at "rd"
      refine ⟨_, _, rfl, ?_⟩
      walk_at "rd"
      have hL2 := s2' _ _ hL
      refine ⟨.inl ⟨rfl, _, SqL.of hL2⟩, ?_⟩
      walk_at "rd"
      refine ⟨(by show 3 ≤ sizeLine; decide), fun b nb => ?_⟩
      have nbL : b ≠ L := ne_of_none hL2 nb |>.symm
      have lh := low_high (o := o) (k := (i : Int)) S.md S.s0
      have e0 : (0 : Int) + (i : Int) = (i : Int) := by omega
      have est : (if o + s * (0 + (i : Int)) - 1 + 1 > lowM o s m (0 + (i : Int)) then o + s * (0 + (i : Int)) - 1 + 1 else lowM o s m (0 + (i : Int))) = o + s * (i : Int) := by
        rw [e0]
        split <;> omega
      refine ⟨L, _, _, rfl, rfl, (upd_ne nbL.symm).trans hL2, (by rw [List.length_map, lp]; exact Nat.lt_of_lt_of_le (by omega : i < 8) (by decide)), ?_⟩
      refine ⟨_, _, _, _, ps ++ [b], rfl, ?_, ?_, by rw [List.length_append, lp]; rfl, ?_⟩
      · intro c u z
        have z3 := s2' _ _ (sm _ _ z)
        exact (upd_ne (ne_of_none z nL)).trans ((upd_ne (ne_of_none z3 nb)).trans z3)
      · rw [List.map_append]; exact upd_same
      · intro j c hc
        rcases Nat.lt_or_ge j ps.length with y | y
        · rw [List.getElem?_append_left y] at hc
          have g := s2' _ _ (at_ j c hc)
          exact (upd_ne (ne_of g hL2 (by intro y; cases y))).trans ((upd_ne (ne_of_none g nb)).trans g)
        · rw [List.getElem?_append_right y] at hc
          have ej : j - ps.length = 0 := by
            have := (List.getElem?_eq_some_iff.mp hc).1
            simp at this
            omega
          rw [ej] at hc
          cases hc
          rw [show j = i by omega]
          refine (upd_ne nbL).trans (upd_same.trans ?_)
          have hst : highM o s m (0 + (i : Int)) - (o + s * (i : Int)) = below (mir m) s (i : Int) := by
            rw [e0]
            unfold highM
            omega
          show some (HO.tup [V.int _, V.int (highM o s m (0 + (i : Int)) - _), V.int _]) = _
          rw [est, hst]
          rfl
    · rintro st H' ⟨x7, x8, x9, x10, ps, rfl, sm, hL, lp, at_⟩
      walk_at "rd"
      exact q L H' nL sm ⟨ps, hL, by rw [lp, ef], at_⟩
theorem ok_rs {f : Addr} {fd : FuncData} (F : Fun K "_raises_some" "_raises_some" s_raises_some f fd) (Fm : Cal P w K mg base "form" 4 ["side"] spForm fH dH) : FnOk P w K mg base CX0 5 f fd ["side"] spRs := by
  refine F.ok sc_raises_some (fun vs H Q E h => ?_) (fun cdv A outer s0 H vs Q E hr h => ?_)
  · obtain ⟨p, o, s, m, rfl, _⟩ := h
    rfl
  · obtain ⟨p, o, s, m, rfl, hp, S, q⟩ := h
    have nd := sc_raises_some.nd
    refine ⟨_, (pss_cons (ps_asg (pcl Fm hr (by decide) (by rfl) (pa_cons (pv 0) pa_nil)) (pg_tup (by rfl) (pgs_cons (pg_name (i := 1) nd rfl (Or.inl rfl)) (pgs_cons (pg_name (i := 1) nd rfl (Or.inl rfl)) (pgs_cons (pg_name (i := 2) nd rfl (Or.inl rfl)) pgs_nil)))))
      (pss_one (ps_ret (pe_cmpR op_ne (pv 2) pe_str (nomark _))))), ?_⟩
    walk_at "rd"
    refine ⟨p, o, s, m, rfl, hp, S, fun d H2 s2 nd2 hd => ?_⟩
    refine ⟨d, _, rfl, SqT.of hd, rfl, _, _, rfl, _, _, rfl, _, _, rfl, rfl, ?_⟩
    walk_at "rd"
    refine ⟨rfl, ?_⟩
    have y := q H2 s2
    rw [← show decide (V.str (firstM s m) = V.str "down") = decide (firstM s m = "down") by rw [dec_str]] at y
    exact y
end
end HT
namespace HT
open PySem L2
/-- the list at l holds sides with these parts; it may be empty -/
structure SidL (H : Hp) (l : Addr) (xs : List V) (ss : List Sd) : Prop where
  hl : H l = some (.lst xs)
  len : xs.length = ss.length
  l4 : ss.length ≤ 4
  at_ : ∀ (i : Nat) (d : Sd), ss[i]? = some d → ∃ p : Addr, xs[i]? = some (V.ref p) ∧ H p = some (sideV d.o d.s d.m) ∧ SideP d.o d.s d.m
theorem SidesAt.toL {H : Hp} {l : Addr} {xs : List V} {ss : List Sd} (S : SidesAt H l xs ss) : SidL H l xs ss := ⟨S.hl, S.len, S.l4, S.at_⟩
theorem SidL.same {H H' : Hp} {l : Addr} {xs : List V} {ss : List Sd} (S : SidL H l xs ss) (e : Same H H') : SidL H' l xs ss :=
  ⟨e _ _ S.hl, S.len, S.l4, fun i d h => let ⟨p, a, b, c⟩ := S.at_ i d h; ⟨p, a, e _ _ b, c⟩⟩
theorem SidL.item {H : Hp} {l : Addr} {xs : List V} {ss : List Sd} (S : SidL H l xs ss) {i : Nat} {y : V} (h : xs[i]? = some y) : ∃ d p, ss[i]? = some d ∧ y = .ref p ∧ H p = some (sideV d.o d.s d.m) ∧ SideP d.o d.s d.m := by
  have hi : i < ss.length := by have := (List.getElem?_eq_some_iff.mp h).1; rw [S.len] at this; exact this
  obtain ⟨p, e, hp, sp⟩ := S.at_ i ss[i] (List.getElem?_eq_getElem hi)
  rw [h] at e
  exact ⟨ss[i], p, List.getElem?_eq_getElem hi, Option.some.inj e, hp, sp⟩
theorem SidL.side {H : Hp} {l : Addr} {xs : List V} {ss : List Sd} (S : SidL H l xs ss) : ∀ d ∈ ss, SideP d.o d.s d.m := fun d hd => by
  obtain ⟨i, hi, rfl⟩ := List.mem_iff_getElem.mp hd
  obtain ⟨_, _, _, sp⟩ := S.at_ i _ (List.getElem?_eq_getElem hi)
  exact sp
def upD (d : Sd) : Bool := !decide (firstM d.s d.m = "down")
def mirD (d : Sd) : Sd := ⟨-d.o, d.s, mir d.m⟩
/-- v, or what some side writes for it, and no less -/
def HiP (ss : List Sd) (v h : Int) : Prop := v ≤ h ∧ (∀ d ∈ ss, dueM d.o d.s d.m v ≤ h) ∧ (h = v ∨ ∃ d ∈ ss, h = dueM d.o d.s d.m v)
def spPerL : Sp := fun vs H Q _ => ∃ (l : Addr) (xs : List V) (ss : List Sd), vs = [.ref l] ∧ SidL H l xs ss ∧ Q (.int (comN ss : Int)) H
def spRais : Sp := fun vs H Q _ => ∃ (l : Addr) (xs : List V) (ss : List Sd), vs = [.ref l] ∧ SidL H l xs ss ∧ ∀ (L : Addr) (ys : List V) (H' : Hp), H L = none → Same H H' → SidL H' L ys (ss.filter upD) → Q (.ref L) H'
def spMirs : Sp := fun vs H Q _ => ∃ (l : Addr) (xs : List V) (ss : List Sd), vs = [.ref l] ∧ SidL H l xs ss ∧ ∀ (L : Addr) (ys : List V) (H' : Hp), H L = none → Same H H' → SidL H' L ys (ss.map mirD) → Q (.ref L) H'
def spHi : Sp := fun vs H Q _ => ∃ (l : Addr) (xs : List V) (ss : List Sd) (v : Int), vs = [.ref l, .int v] ∧ SidL H l xs ss ∧ (-2 ^ 900 < v ∧ v < 2 ^ 900) ∧ ∀ (h : Int) (H' : Hp), HiP ss v h → Same H H' → Q (.int h) H'
/-- a list of sides grows -/
theorem grow_side {H H' : Hp} {D : Addr} {ys : List V} {ts : List Sd} {p : Addr} {d : Sd} (A : ∀ (i : Nat) (e : Sd), ts[i]? = some e → ∃ p : Addr, ys[i]? = some (V.ref p) ∧ H p = some (sideV e.o e.s e.m) ∧ SideP e.o e.s e.m) (len : ys.length = ts.length)
    (k : ∀ b u, H b = some u → b ≠ D → H' b = some u) (hD : H D = some (.lst ys)) (hp : H' p = some (sideV d.o d.s d.m)) (sp : SideP d.o d.s d.m) :
    ∀ (i : Nat) (e : Sd), (ts ++ [d])[i]? = some e → ∃ p' : Addr, (ys ++ [V.ref p])[i]? = some (V.ref p') ∧ H' p' = some (sideV e.o e.s e.m) ∧ SideP e.o e.s e.m := by
  intro i e he
  rcases Nat.lt_or_ge i ts.length with z | z
  · rw [List.getElem?_append_left z] at he
    obtain ⟨p2, e1, hp2, sp2⟩ := A i e he
    exact ⟨p2, by rw [List.getElem?_append_left (by omega)]; exact e1, k _ _ hp2 (ne_of hp2 hD (by intro y; cases y)), sp2⟩
  · rw [List.getElem?_append_right z] at he
    have e0 : i - ts.length = 0 := by
      have := (List.getElem?_eq_some_iff.mp he).1
      simp at this
      omega
    rw [e0] at he
    have ee : e = d := by simpa using he.symm
    subst ee
    exact ⟨p, by rw [List.getElem?_append_right (by omega), show i - ys.length = 0 by omega]; rfl, hp, sp⟩
section
variable {P : Program} {w : World} {K : PySem.W.Frag} {mg : Str → Option Value} {base : Heap} {fB fH fI : Addr} {dB dH dI : FuncData}
theorem ok_commonL {f : Addr} {fd : FuncData} (F : Fun K "common_period" "common_period" s_common_period f fd) (A' : AmG mg) (Pe : Cal P w K mg base "period_of" 1 ["side"] spPerOf fB dB) : FnOk P w K mg base CX0 2 f fd ["sides"] spPerL := by
  refine F.ok sc_common_period (fun vs H Q E h => ?_) (fun cdv A outer s0 H vs Q E hr h => ?_)
  · obtain ⟨l, xs, ss, rfl, _⟩ := h
    rfl
  · obtain ⟨l, xs, ss, rfl, SS, q⟩ := h
    have nd := sc_common_period.nd
    refine ⟨_, pss_cons (ps_set (i := 1) nd rfl (Or.inl rfl) pe_int)
      (pss_cons (ps_for PassesOwn.never rfl (pi_list (pv 0)) (pg_name (i := 2) nd rfl (Or.inl rfl)) (pss_one (ps_set (i := 1) nd rfl (Or.inl rfl) (pe_callBfun cr_lcm2 (by rfl) A'.lcm (pa_cons (pv 1) (pa_cons (pcl Pe hr (by decide) (by rfl) (pa_cons (pv 2) pa_nil)) pa_nil))))))
      (pss_one (ps_ret (pv 1)))), ?_⟩
    walk_at "rd"
    refine ⟨⟨_, SqL.of SS.hl⟩, ?_⟩
    refine for_list (K := K) (a := l) (xs := xs) (fun i st H' => ∃ x2 : Option V, st = [some (.ref l), some (.int (comN (ss.take i) : Int)), x2] ∧ H' = H) ⟨none, rfl, rfl⟩ (fun _ _ _ _ ⟨_, _, e⟩ => e ▸ SqL.of SS.hl) ?_ ?_
    · rintro i y st H' hy ⟨x2, rfl, rfl⟩
      obtain ⟨d, p, ed, rfl, hp, sp⟩ := SS.item hy
      walk_at "rd"
      refine ⟨p, d.o, d.s, d.m, rfl, hp, sp, ?_⟩
      have pb := perM_bd sp
      have cl := com_take SS.side SS.l4 i
      have big : (2 : Nat) ^ 420 < 2 ^ 2000 := Nat.pow_lt_pow_right (by decide) (by decide)
      have big2 : (2 : Nat) ^ 120 < 2 ^ 2000 := Nat.pow_lt_pow_right (by decide) (by decide)
      have e2 : (perM d.s d.m).natAbs = perN d := by unfold perN; omega
      refine ⟨_, _, rfl, ?_, ?_, ?_⟩
      · rw [Int.natAbs_natCast]; omega
      · rw [e2]; unfold perN; omega
      · rw [Int.natAbs_natCast, e2, ← com_snoc ed]
        exact ⟨_, rfl, rfl⟩
    · rintro st H' ⟨x2, rfl, rfl⟩
      rw [SS.len, List.take_length]
      walk_at "rd"
      exact q
theorem filter_snoc {ss : List Sd} {i : Nat} {d : Sd} (h : ss[i]? = some d) : (ss.take (i + 1)).filter upD = (ss.take i).filter upD ++ (if upD d = true then [d] else []) := by
  rw [List.take_succ, h, List.filter_append]
  congr 1
  simp only [Option.toList, List.filter_cons, List.filter_nil]
theorem ok_rais {f : Addr} {fd : FuncData} (F : Fun K "raisers" "raisers" s_raisers f fd) (Rs : Cal P w K mg base "_raises_some" 5 ["side"] spRs fB dB) : FnOk P w K mg base CX0 6 f fd ["sides"] spRais := by
  refine F.ok sc_raisers (fun vs H Q E h => ?_) (fun cdv A outer s0 H vs Q E hr h => ?_)
  · obtain ⟨l, xs, ss, rfl, _⟩ := h
    rfl
  · obtain ⟨l, xs, ss, rfl, SS, q⟩ := h
    have nd := sc_raisers.nd
    refine ⟨_, (pss_one (ps_ret (pe_lc (own := [("side", 1)]) (g := gName 1) rfl nd (pi_list (pv 0)) (blkOk_by (N := ["sides", "side"]) (sc := defScope s_raisers) (by decide +kernel)) (fun _ _ _ _ _ => pg_name (i := 1) nd rfl (Or.inl rfl)) (fun _ _ _ _ _ => (pts_one (pt_val (pcl Rs hr (by decide) (by rfl) (pa_cons (pv 1) pa_nil))))) (fun _ _ _ _ _ => (pv 1))))), ?_⟩
    walk_at "rd"
    refine ⟨⟨_, SqL.of SS.hl⟩, fun L nL => ?_⟩
    refine lc_list (K := K) (a := l) (xs := xs) (fun i H3 => ∃ ys : List V, H3 L = some (.lst ys) ∧ ys.length = ((ss.take i).filter upD).length ∧ i ≤ ss.length ∧ Same H H3 ∧ (∀ (j : Nat) (d : Sd), ((ss.take i).filter upD)[j]? = some d → ∃ p : Addr, ys[j]? = some (V.ref p) ∧ H3 p = some (sideV d.o d.s d.m) ∧ SideP d.o d.s d.m))
      ⟨[], upd_same, rfl, Nat.zero_le _, fun b u z => (upd_ne (ne_of_none z nL)).trans z, fun j d z => by simp at z⟩ (fun _ _ _ ⟨_, _, _, _, sm, _⟩ => SqL.of (sm _ _ SS.hl)) ?_ ?_
    · rintro i y H3 hy ⟨ys, hD, ly, li, sm, at_⟩
      obtain ⟨d, p, ed, rfl, hp, sp⟩ := SS.item hy
      have il : i < ss.length := (List.getElem?_eq_some_iff.mp ed).1
      refine ⟨rfl, ?_⟩
      walk_at "rd"
      refine ⟨p, d.o, d.s, d.m, rfl, sm _ _ hp, sp, fun H4 s34 => ?_⟩
      refine ⟨_, rfl, ?_⟩
      have hD4 := s34 _ _ hD
      refine ite2 (fun z => ?_) (fun z => ?_)
      · have up : upD d = true := z
        walk_at "rd"
        refine ⟨_, hD4, ?_, ys ++ [.ref p], upd_same, ?_, il, ?_, ?_⟩
        · rw [ly]
          exact Nat.lt_of_le_of_lt (Nat.le_trans (List.length_filter_le _ _) (Nat.le_trans (List.length_take_le' _ _) SS.l4)) (by decide)
        · rw [filter_snoc ed, if_pos up, List.length_append, List.length_append, ly]
          rfl
        · intro b u y
          exact (upd_ne (ne_of_none y nL)).trans (s34 _ _ (sm _ _ y))
        · rw [filter_snoc ed, if_pos up]
          exact grow_side at_ ly (fun b u y nb => (upd_ne nb).trans (s34 _ _ y)) hD ((upd_ne (ne_of (s34 _ _ (sm _ _ hp)) hD4 (by intro y; cases y))).trans (s34 _ _ (sm _ _ hp))) sp
      · have up : ¬ upD d = true := z
        refine ⟨ys, hD4, ?_, il, fun b u y => s34 _ _ (sm _ _ y), ?_⟩
        · rw [filter_snoc ed, if_neg up, List.append_nil]
          exact ly
        · rw [filter_snoc ed, if_neg up, List.append_nil]
          intro j e he
          obtain ⟨p2, g1, g2, g3⟩ := at_ j e he
          exact ⟨p2, g1, s34 _ _ g2, g3⟩
    · rintro H3 ⟨ys, hD, ly, li, sm, at_⟩
      rw [SS.len, List.take_length] at ly at_
      walk_at "rd"
      exact q L ys H3 nL sm ⟨hD, ly, Nat.le_trans (List.length_filter_le _ _) SS.l4, at_⟩
theorem ok_mirs {f : Addr} {fd : FuncData} (F : Fun K "mirrors" "mirrors" s_mirrors f fd) (Mi : Cal P w K mg base "mirror" 4 ["side"] spMirror fB dB) : FnOk P w K mg base CX0 5 f fd ["sides"] spMirs := by
  refine F.ok sc_mirrors (fun vs H Q E h => ?_) (fun cdv A outer s0 H vs Q E hr h => ?_)
  · obtain ⟨l, xs, ss, rfl, _⟩ := h
    rfl
  · obtain ⟨l, xs, ss, rfl, SS, q⟩ := h
    have nd := sc_mirrors.nd
    refine ⟨_, (pss_one (ps_ret (pe_lc (own := [("side", 1)]) (g := gName 1) (tt := tYes) rfl nd (pi_list (pv 0)) (blkOk_by (N := ["sides", "side"]) (sc := defScope s_mirrors) (by decide +kernel)) (fun _ _ _ _ _ => pg_name (i := 1) nd rfl (Or.inl rfl)) (fun _ _ _ _ _ => pts_nil) (fun _ _ _ _ _ => (pcl Mi hr (by decide) (by rfl) (pa_cons (pv 1) pa_nil)))))), ?_⟩
    walk_at "rd"
    refine ⟨⟨_, SqL.of SS.hl⟩, fun L nL => ?_⟩
    refine lc_list (K := K) (a := l) (xs := xs) (fun i H3 => ∃ ys : List V, H3 L = some (.lst ys) ∧ ys.length = ((ss.take i).map mirD).length ∧ i ≤ ss.length ∧ Same H H3 ∧ (∀ (j : Nat) (d : Sd), ((ss.take i).map mirD)[j]? = some d → ∃ p : Addr, ys[j]? = some (V.ref p) ∧ H3 p = some (sideV d.o d.s d.m) ∧ SideP d.o d.s d.m))
      ⟨[], upd_same, rfl, Nat.zero_le _, fun b u z => (upd_ne (ne_of_none z nL)).trans z, fun j d z => by simp at z⟩ (fun _ _ _ ⟨_, _, _, _, sm, _⟩ => SqL.of (sm _ _ SS.hl)) ?_ ?_
    · rintro i y H3 hy ⟨ys, hD, ly, li, sm, at_⟩
      obtain ⟨d, p, ed, rfl, hp, sp⟩ := SS.item hy
      have il : i < ss.length := (List.getElem?_eq_some_iff.mp ed).1
      refine ⟨rfl, ?_⟩
      walk_at "rd"
      refine ⟨p, d.o, d.s, d.m, rfl, sm _ _ hp, sp, fun b H4 s34 nb hb => ?_⟩
      have hD4 := s34 _ _ hD
      have es : (ss.take (i + 1)).map mirD = (ss.take i).map mirD ++ [mirD d] := by
        rw [List.take_succ, ed, List.map_append]
        rfl
      walk_at "rd"
      refine ⟨_, hD4, ?_, ys ++ [.ref b], upd_same, ?_, il, ?_, ?_⟩
      · rw [ly, List.length_map]
        exact Nat.lt_of_le_of_lt (Nat.le_trans (List.length_take_le' _ _) SS.l4) (by decide)
      · rw [es, List.length_append, List.length_append, ly]
        rfl
      · intro c u y
        exact (upd_ne (ne_of_none y nL)).trans (s34 _ _ (sm _ _ y))
      · rw [es]
        exact grow_side (d := mirD d) at_ ly (fun c u y nb => (upd_ne nb).trans (s34 _ _ y)) hD ((upd_ne (ne_of hb hD4 (by intro y; cases y))).trans hb) (side_mir sp)
    · rintro H3 ⟨ys, hD, ly, li, sm, at_⟩
      rw [SS.len, List.take_length] at ly at_
      walk_at "rd"
      exact q L ys H3 nL sm ⟨hD, ly, by rw [List.length_map]; exact SS.l4, at_⟩
theorem ok_hi {f : Addr} {fd : FuncData} (F : Fun K "highest" "highest" s_highest f fd) (MT : MaxT mg) (Wr : Cal P w K mg base "written" 3 ["side", "value"] spDue fB dB) : FnOk P w K mg base CX0 4 f fd ["sides", "value"] spHi := by
  refine F.ok sc_highest (fun vs H Q E h => ?_) (fun cdv A outer s0 H vs Q E hr h => ?_)
  · obtain ⟨l, xs, ss, v, rfl, _⟩ := h
    rfl
  · obtain ⟨l, xs, ss, v, rfl, SS, hv, q⟩ := h
    have nd := sc_highest.nd
    refine ⟨_, pss_one (ps_ret (pe_callB (cr_max rfl) (by rfl) MT.max (by decide +kernel) (pa_cons (pe_op op_cat (pe_lst (pa_cons (pv 1) pa_nil)) (pe_lc (own := [("side", 2)]) (g := gName 2) (tt := tYes) rfl nd (pi_list (pv 0)) (blkOk_by (N := ["sides", "value", "side"]) (sc := defScope s_highest) (by decide +kernel)) (fun _ _ _ _ _ => pg_name (i := 2) nd rfl (Or.inl rfl)) (fun _ _ _ _ _ => pts_nil) (fun _ _ _ _ _ => pcl Wr hr (by decide) (by rfl) (pa_cons (pv 2) (pa_cons (pv 1) pa_nil))))) pa_nil))), ?_⟩
    walk_at "rd"
    refine ⟨(by show 1 ≤ sizeLine; decide), fun a na => ?_⟩
    have fa : upd H a (.lst [.int v]) a = some (.lst [.int v]) := upd_same
    have s1 : Same H (upd H a (.lst [.int v])) := fun b u z => (upd_ne (ne_of_none z na)).trans z
    generalize upd H a (.lst [.int v]) = H1 at fa s1 ⊢
    walk_at "rd"
    refine ⟨⟨_, SqL.of (s1 _ _ SS.hl)⟩, fun L nL => ?_⟩
    refine lc_list (K := K) (a := l) (xs := xs) (fun i H3 => H3 L = some (.lst (((ss.take i).map fun d => dueM d.o d.s d.m v).map V.int)) ∧ i ≤ ss.length ∧ Same H1 H3)
      ⟨upd_same, Nat.zero_le _, fun b u z => (upd_ne (ne_of_none z nL)).trans z⟩ (fun _ _ _ ⟨_, _, sm⟩ => SqL.of (sm _ _ (s1 _ _ SS.hl))) ?_ ?_
    · rintro i y H3 hy ⟨hD, li, sm⟩
      obtain ⟨d, p, ed, rfl, hp, sp⟩ := SS.item hy
      have il : i < ss.length := (List.getElem?_eq_some_iff.mp ed).1
      refine ⟨rfl, ?_⟩
      walk_at "rd"
      refine ⟨p, d.o, d.s, d.m, v, rfl, sm _ _ (s1 _ _ hp), sp, (by unfold Bd; omega), fun H4 s34 => ?_⟩
      have hD4 := s34 _ _ hD
      have es : (ss.take (i + 1)).map (fun d => dueM d.o d.s d.m v) = (ss.take i).map (fun d => dueM d.o d.s d.m v) ++ [dueM d.o d.s d.m v] := by
        rw [List.take_succ, ed, List.map_append]
        rfl
      walk_at "rd"
      refine ⟨_, hD4, ?_, ?_, il, fun b u y => (upd_ne (ne_of_none y nL)).trans (s34 _ _ (sm _ _ y))⟩
      · rw [List.length_map, List.length_map]
        exact Nat.lt_of_le_of_lt (Nat.le_trans (List.length_take_le' _ _) SS.l4) (by decide)
      · rw [es, List.map_append]
        exact upd_same
    · rintro H3 ⟨hD, li, sm⟩
      rw [SS.len, List.take_length] at hD
      have l4 := SS.l4
      walk_at "rd"
      refine ⟨a, L, _, _, rfl, rfl, sm _ _ fa, hD, (by show 1 + _ ≤ sizeLine; rw [List.length_map, List.length_map]; exact Nat.le_trans (by omega : 1 + ss.length ≤ 8) (by decide)), fun c nc => ?_⟩
      refine ⟨c, v :: ss.map fun d => dueM d.o d.s d.m v, rfl, SqL.of upd_same, Nat.succ_pos _, fun m mi mm => ?_⟩
      refine q m _ ⟨mm v List.mem_cons_self, fun d hd => mm _ (List.mem_cons_of_mem _ (List.mem_map.mpr ⟨d, hd, rfl⟩)), ?_⟩ (fun b u z => (upd_ne (ne_of_none (sm _ _ (s1 _ _ z)) nc)).trans (sm _ _ (s1 _ _ z)))
      rcases List.mem_cons.mp mi with e | e
      · exact .inl e
      · obtain ⟨d, hd, e2⟩ := List.mem_map.mp e
        exact .inr ⟨d, hd, e2.symm⟩
end
end HT
namespace L2
open PySem PySem.Spec PyProof.Rows PySem.W PySem.SeqAt
theorem reads_ints {h : Heap} : ∀ {ns : List Int} {its : List Value}, Vals (ns.map V.int) its → ∃ as, ReadsAll h its (ns.map PyData.int) as
  | [], its, r => by rw [List.map_nil] at r; cases r; exact ⟨_, .nil⟩
  | n :: ns, its, r => by
    rw [List.map_cons] at r
    cases r with
    | @cons x y xs ys h1 t =>
      obtain ⟨as, ra⟩ := reads_ints (h := h) t
      obtain ⟨tk, rfl⟩ := h1
      exact ⟨_, .cons (.int n tk) ra⟩
theorem depth_ints : ∀ ns : List Int, PyData.depthAll (ns.map PyData.int) = 0
  | [] => rfl
  | n :: ns => by
    show max 0 (PyData.depthAll (ns.map PyData.int)) = 0
    rw [depth_ints ns]; rfl
theorem alike_ints (ns : List Int) : AlikeAll (ns.map PyData.int) := by
  refine ⟨fun x hx y hy => ?_, fun x hx e => ?_⟩
  · obtain ⟨a, _, rfl⟩ := List.mem_map.mp hx
    obtain ⟨b, _, rfl⟩ := List.mem_map.mp hy
    simp [alike]
  · obtain ⟨a, _, rfl⟩ := List.mem_map.mp hx
    cases e
theorem fold_min : ∀ (ns : List Int) (n : Int), ns.foldl min n ∈ n :: ns ∧ ∀ y ∈ n :: ns, ns.foldl min n ≤ y
  | [], n => ⟨List.mem_cons_self, fun y hy => by rw [List.mem_singleton.mp hy]; exact Int.le_refl _⟩
  | k :: r, n => by
    obtain ⟨a, b⟩ := fold_min r (min n k)
    rw [List.foldl_cons]
    have m0 := b (min n k) List.mem_cons_self
    refine ⟨?_, fun y hy => ?_⟩
    · rcases List.mem_cons.mp a with e | e
      · rw [e]
        by_cases h : n ≤ k
        · rw [show min n k = n by omega]; exact List.mem_cons_self
        · rw [show min n k = k by omega]; exact List.mem_cons_of_mem _ List.mem_cons_self
      · exact List.mem_cons_of_mem _ (List.mem_cons_of_mem _ e)
    · rcases List.mem_cons.mp hy with e | e
      · omega
      · rcases List.mem_cons.mp e with e | e
        · omega
        · exact b y (List.mem_cons_of_mem _ e)
theorem fold_max : ∀ (ns : List Int) (n : Int), ns.foldl max n ∈ n :: ns ∧ ∀ y ∈ n :: ns, y ≤ ns.foldl max n
  | [], n => ⟨List.mem_cons_self, fun y hy => by rw [List.mem_singleton.mp hy]; exact Int.le_refl _⟩
  | k :: r, n => by
    obtain ⟨a, b⟩ := fold_max r (max n k)
    rw [List.foldl_cons]
    have m0 := b (max n k) List.mem_cons_self
    refine ⟨?_, fun y hy => ?_⟩
    · rcases List.mem_cons.mp a with e | e
      · rw [e]
        by_cases h : k ≤ n
        · rw [show max n k = n by omega]; exact List.mem_cons_self
        · rw [show max n k = k by omega]; exact List.mem_cons_of_mem _ List.mem_cons_self
      · exact List.mem_cons_of_mem _ (List.mem_cons_of_mem _ e)
    · rcases List.mem_cons.mp hy with e | e
      · omega
      · rcases List.mem_cons.mp e with e | e
        · omega
        · exact b y (List.mem_cons_of_mem _ e)
def rMinDf (K : PySem.W.Frag) : List V → List V → Hp → VK → Prop := fun vs zs H Q => ∃ (a : Addr) (ns : List Int) (d : V), vs = [V.ref a] ∧ zs = [d] ∧ SqL K H a (ns.map V.int) ∧ (ns = [] → Q d H) ∧ ∀ m, m ∈ ns → (∀ y, y ∈ ns → m ≤ y) → Q (.int m) H
def rMaxDf (K : PySem.W.Frag) : List V → List V → Hp → VK → Prop := fun vs zs H Q => ∃ (a : Addr) (ns : List Int) (d : V), vs = [V.ref a] ∧ zs = [d] ∧ SqL K H a (ns.map V.int) ∧ (ns = [] → Q d H) ∧ ∀ m, m ∈ ns → (∀ y, y ∈ ns → y ≤ m) → Q (.int m) H
theorem cr_minDf {X : Cx} (hc : X.calm = true) (hu : X.A.units + 64 < cLine) : CallRK X (.builtin "min") [Str.ofString "default"] (rMinDf X.K) := by
  intro pins s σ H vs zs us ws Q I r rz h
  obtain ⟨a, ns, d, rfl, rfl, hs, q0, q1⟩ := h
  obtain ⟨its, rv, hl, _⟩ := I.list hs
  obtain rfl := Vals.ref1 r
  obtain ⟨w1, rfl, e1⟩ := vals1 rz
  obtain ⟨as, ra⟩ := reads_ints (h := s.heap) rv
  refine min_list_default (I.ok.hd hc) hl.isList (by simpa using ra) (alike_ints ns) (by rw [depth_ints]; omega) (fun e h' tk hk => ?_) (fun y ys i v h' tk bs e hv rd hk => ?_)
  · cases ns with
    | nil => exact ⟨d, H, I.kept hk, e1, q0 rfl⟩
    | cons n r => cases e
  · cases ns with
    | nil => cases e
    | cons n r =>
      rw [List.map_cons] at e
      injection e with ey es
      subst ey es
      rw [minD_ints] at rd
      obtain ⟨f1, f2⟩ := fold_min r n
      cases rd with
      | int _ t => exact ⟨.int _, H, I.kept hk, ⟨t, rfl⟩, q1 _ f1 f2⟩
theorem cr_maxDf {X : Cx} (hc : X.calm = true) (hu : X.A.units + 64 < cLine) : CallRK X (.builtin "max") [Str.ofString "default"] (rMaxDf X.K) := by
  intro pins s σ H vs zs us ws Q I r rz h
  obtain ⟨a, ns, d, rfl, rfl, hs, q0, q1⟩ := h
  obtain ⟨its, rv, hl, _⟩ := I.list hs
  obtain rfl := Vals.ref1 r
  obtain ⟨w1, rfl, e1⟩ := vals1 rz
  obtain ⟨as, ra⟩ := reads_ints (h := s.heap) rv
  refine max_list_default (I.ok.hd hc) hl.isList (by simpa using ra) (alike_ints ns) (by rw [depth_ints]; omega) (fun e h' tk hk => ?_) (fun y ys i v h' tk bs e hv rd hk => ?_)
  · cases ns with
    | nil => exact ⟨d, H, I.kept hk, e1, q0 rfl⟩
    | cons n r => cases e
  · cases ns with
    | nil => cases e
    | cons n r =>
      rw [List.map_cons] at e
      injection e with ey es
      subst ey es
      rw [maxD_ints] at rd
      obtain ⟨f1, f2⟩ := fold_max r n
      cases rd with
      | int _ t => exact ⟨.int _, H, I.kept hk, ⟨t, rfl⟩, q1 _ f1 f2⟩
end L2
namespace HT
open PySem L2
theorem scal_some {x : Int} : V.int x ≠ V.non := fun z => by cases z
/-- a value that two sides do not raise -/
def UnR (d e : Sd) (x : Int) : Prop := dueM d.o d.s d.m x ≤ x ∧ dueM e.o e.s e.m x ≤ x
def BB (d e : Sd) (a b : Nat) (x : Int) : Prop := InB (d.o + d.s * (a : Int)) (below (mir d.m) d.s (a : Int)) (perM d.s d.m) x ∧ InB (e.o + e.s * (b : Int)) (below (mir e.m) e.s (b : Int)) (perM e.s e.m) x
theorem unr_bb {d e : Sd} {x : Int} (hd : SideP d.o d.s d.m) (he : SideP e.o e.s e.m) : UnR d e x ↔ ∃ a b : Nat, a < (figsN d.s d.m).toNat ∧ b < (figsN e.s e.m).toNat ∧ BB d e a b x := by
  unfold UnR BB
  rw [unr_iff hd.md hd.s0, unr_iff he.md he.s0]
  constructor
  · rintro ⟨⟨k, k0, k1, h⟩, j, j0, j1, g⟩
    refine ⟨k.toNat, j.toNat, by omega, by omega, ?_, ?_⟩
    · rw [Int.toNat_of_nonneg k0]; exact h
    · rw [Int.toNat_of_nonneg j0]; exact g
  · rintro ⟨a, b, h1, h2, h, g⟩
    exact ⟨⟨(a : Int), by omega, by omega, h⟩, (b : Int), by omega, by omega, g⟩
/-- the pairs that are looked at -/
def DoneP (n2 i j a b : Nat) : Prop := (a < i ∧ b < n2) ∨ (a = i ∧ b < j)
structure FndP (d e : Sd) (v : Int) (D : Nat → Nat → Prop) (ns : List Int) : Prop where
  from_ : ∀ n ∈ ns, ∃ a b, D a b ∧ LeastI (BB d e a b) v (some n)
  to_ : ∀ a b, D a b → ∃ r, LeastI (BB d e a b) v r ∧ ∀ x, r = some x → x ∈ ns
def spTwo : Sp := fun vs H Q _ => ∃ (p q : Addr) (d e : Sd) (v : Int), vs = [.ref p, .ref q, .int v] ∧ H p = some (sideV d.o d.s d.m) ∧ SideP d.o d.s d.m ∧ H q = some (sideV e.o e.s e.m) ∧ SideP e.o e.s e.m ∧ ∀ r H', LeastI (UnR d e) v r → Same H H' → Q (oV r) H'
theorem fnd_end {d e : Sd} {v : Int} {ns : List Int} {n1 n2 : Nat} (hd : SideP d.o d.s d.m) (he : SideP e.o e.s e.m) (e1 : n1 = (figsN d.s d.m).toNat) (e2 : n2 = (figsN e.s e.m).toNat) (F : FndP d e v (DoneP n2 n1 0) ns) :
    (ns = [] → LeastI (UnR d e) v none) ∧ ∀ m, m ∈ ns → (∀ y, y ∈ ns → m ≤ y) → LeastI (UnR d e) v (some m) := by
  have key : ∀ y, v ≤ y → UnR d e y → ∃ x ∈ ns, x ≤ y := by
    intro y y0 u
    obtain ⟨a, b, h1, h2, h⟩ := (unr_bb hd he).mp u
    obtain ⟨r, L, m⟩ := F.to_ a b (.inl ⟨by omega, by omega⟩)
    cases r with
    | none => exact absurd h (L y y0)
    | some x =>
      refine ⟨x, m x rfl, ?_⟩
      by_cases g : y < x
      · exact absurd h (L.2.2 y y0 g)
      · omega
  refine ⟨fun z y y0 u => ?_, fun m mi mm => ?_⟩
  · obtain ⟨x, hx, _⟩ := key y y0 u
    rw [z] at hx
    exact absurd hx List.not_mem_nil
  · obtain ⟨a, b, D, L⟩ := F.from_ m mi
    have ab : a < (figsN d.s d.m).toNat ∧ b < (figsN e.s e.m).toNat := by
      rcases D with ⟨x, y⟩ | ⟨x, y⟩ <;> omega
    refine ⟨L.1, (unr_bb hd he).mpr ⟨a, b, ab.1, ab.2, L.2.1⟩, fun y y0 y1 u => ?_⟩
    obtain ⟨x, hx, xy⟩ := key y y0 u
    have := mm x hx
    omega
theorem fnd_add {d e : Sd} {v : Int} {ns : List Int} {n2 i j : Nat} {r : Option Int} (F : FndP d e v (DoneP n2 i j) ns) (L : LeastI (BB d e i j) v r) : FndP d e v (DoneP n2 i (j + 1)) (ns ++ r.toList) := by
  refine ⟨fun n hn => ?_, fun a b D => ?_⟩
  · rcases List.mem_append.mp hn with h | h
    · obtain ⟨a, b, D, L'⟩ := F.from_ n h
      refine ⟨a, b, ?_, L'⟩
      rcases D with ⟨x, y⟩ | ⟨x, y⟩
      · exact .inl ⟨x, y⟩
      · exact .inr ⟨x, by omega⟩
    · cases r with
      | none => exact absurd h List.not_mem_nil
      | some x =>
        rw [List.mem_singleton.mp h]
        exact ⟨i, j, .inr ⟨rfl, by omega⟩, L⟩
  · by_cases g : a = i ∧ b = j
    · obtain ⟨rfl, rfl⟩ := g
      refine ⟨r, L, fun x hx => ?_⟩
      subst hx
      exact List.mem_append_right _ List.mem_cons_self
    · have D' : DoneP n2 i j a b := by
        rcases D with ⟨x, y⟩ | ⟨x, y⟩
        · exact .inl ⟨x, y⟩
        · exact .inr ⟨x, by omega⟩
      obtain ⟨r', L', m⟩ := F.to_ a b D'
      exact ⟨r', L', fun x hx => List.mem_append_left _ (m x hx)⟩
theorem fnd_row {d e : Sd} {v : Int} {ns : List Int} {n2 i : Nat} (F : FndP d e v (DoneP n2 i n2) ns) : FndP d e v (DoneP n2 (i + 1) 0) ns := by
  refine ⟨fun n hn => ?_, fun a b D => ?_⟩
  · obtain ⟨a, b, D, L⟩ := F.from_ n hn
    refine ⟨a, b, ?_, L⟩
    rcases D with ⟨x, y⟩ | ⟨x, y⟩
    · exact .inl ⟨by omega, y⟩
    · exact .inl ⟨by omega, y⟩
  · refine F.to_ a b ?_
    rcases D with ⟨x, y⟩ | ⟨x, y⟩
    · by_cases g : a = i
      · exact .inr ⟨g, y⟩
      · exact .inl ⟨by omega, y⟩
    · omega
section
variable {P : Program} {w : World} {K : PySem.W.Frag} {mg : Str → Option Value} {base : Heap} {fB fH fI : Addr} {dB dH dI : FuncData}
theorem ok_two {f : Addr} {fd : FuncData} (F : Fun K "_first_unraised_by_two" "_first_unraised_by_two" s_first_unraised_by_two f fd) (MT : MaxT mg) (Un : CalD P w K mg base "unraised" 5 ["side", "least"] [.int 1] spUnr fB dB) (F2 : Cal P w K mg base "first_in_both" 105 ["one", "other", "value"] spFI2 fH dH) : FnOk P w K mg base CX0 106 f fd ["first", "second", "value"] spTwo := by
  refine F.ok sc_first_unraised_by_two (fun vs H Q E h => ?_) (fun cdv A outer s0 H vs Q E hr h => ?_)
  · obtain ⟨p, q, d, e, v, rfl, _⟩ := h
    rfl
  · obtain ⟨p, q, d, e, v, rfl, hp, S, hq, T, qq⟩ := h
    have nd := sc_first_unraised_by_two.nd
    refine ⟨_, pss_cons (ps_set (i := 3) nd rfl (Or.inl rfl) (pe_lst pa_nil))
      (pss_cons (ps_for PassesOwn.never rfl (pi_list (pcd Un hr (by decide) (by rfl) (pa_cons (pv 0) pa_nil))) (pg_name (i := 4) nd rfl (Or.inl rfl))
        (pss_one (ps_for PassesOwn.never rfl (pi_list (pcd Un hr (by decide) (by rfl) (pa_cons (pv 1) pa_nil))) (pg_name (i := 5) nd rfl (Or.inl rfl))
          (pss_cons (ps_set (i := 6) nd rfl (Or.inl rfl) (pcl F2 hr (by decide) (by rfl) (pa_cons (pv 4) (pa_cons (pv 5) (pa_cons (pv 2) pa_nil)))))
          (pss_one (ps_if (pt_cmpR op_notN (pv 6) pe_non (nomark _)) (pss_one (ps_expr (pe_bm PySem.F.plainAttrs_list PySem.F.slot_list_append PySem.F.type_list_append mt_append (pv 3) (pa_cons (pv 6) pa_nil)))) pss_nil))))))
      (pss_one (ps_ret (pe_callBK (cr_minDf rfl hr.units) (by rfl) MT.min (by decide +kernel) (pa_cons (pv 3) pa_nil) (pk_cons pe_non pk_nil))))), ?_⟩
    have fb1 := figs_bd (m := d.m) S.s0
    have fb2 := figs_bd (m := e.m) T.s0
    walk_at "rd"
    refine ⟨(by show 0 ≤ sizeLine; decide), fun N nN => ?_⟩
    have s01 : Same H (upd H N (.lst [])) := fun b u z => (upd_ne (ne_of_none z nN)).trans z
    have fN : upd H N (.lst []) N = some (.lst []) := upd_same
    generalize upd H N (.lst []) = H1 at s01 fN ⊢
    walk_at "rd"
    refine ⟨p, d.o, d.s, d.m, rfl, s01 _ _ hp, S, fun L1 H2 nL1 s12 B1 => ?_⟩
    obtain ⟨ps1, hL1, lp1, at1⟩ := B1
    walk_at "rd"
    refine ⟨⟨_, SqL.of hL1⟩, ?_⟩
    have hN2 := s12 _ _ fN
    have nL1N : L1 ≠ N := fun z => by rw [z, fN] at nL1; cases nL1
    -- what stands through both loops
    have bel1 : ∀ (j : Nat) (b : Addr), ps1[j]? = some b → b ≠ N := fun j b hb z => by
      have := at1 j b hb
      rw [z, hN2] at this
      cases this
    refine for_list (K := K) (a := L1) (xs := ps1.map V.ref) (fun i st H' => ∃ (x4 x5 x6 : Option V) (ns : List Int), st = [some (.ref p), some (.ref q), some (.int v), some (.ref N), x4, x5, x6] ∧ (∀ b u, H2 b = some u → b ≠ N → H' b = some u) ∧ H' N = some (.lst (ns.map V.int)) ∧ ns.length ≤ 2 * i ∧ FndP d e v (DoneP (figsN e.s e.m).toNat i 0) ns)
      ⟨none, none, none, [], rfl, fun b u z _ => z, hN2, Nat.zero_le _, ⟨fun n h => absurd h List.not_mem_nil, fun a b D => by rcases D with ⟨x, _⟩ | ⟨_, y⟩ <;> omega⟩⟩ (fun _ _ _ _ ⟨_, _, _, _, _, pr, _⟩ => SqL.of (pr _ _ hL1 nL1N)) ?_ ?_
    · rintro i y st H3 hy ⟨x4, x5, x6, ns, rfl, pr, hN, ln, FP⟩
      obtain ⟨b1, hb1, rfl⟩ : ∃ b, ps1[i]? = some b ∧ y = .ref b := by
        rw [List.getElem?_map] at hy
        cases e : ps1[i]? with
        | none => rw [e] at hy; cases hy
        | some b => rw [e] at hy; exact ⟨b, rfl, (Option.some.inj hy).symm⟩
      have il : i < 2 := by
        have := (List.getElem?_eq_some_iff.mp hb1).1
        omega
      have hq3 : H3 q = some (sideV e.o e.s e.m) := pr _ _ (s12 _ _ (s01 _ _ hq)) (ne_of (s01 _ _ hq) fN (by intro z; cases z))
      walk_at "rd"
      refine ⟨q, e.o, e.s, e.m, rfl, hq3, T, fun L2 H4 nL2 s34 B2 => ?_⟩
      obtain ⟨ps2, hL2, lp2, at2⟩ := B2
      have hN4 := s34 _ _ hN
      have nL2N : L2 ≠ N := fun z => by rw [z, hN] at nL2; cases nL2
      walk_at "rd"
      refine ⟨⟨_, SqL.of hL2⟩, ?_⟩
      refine for_list (K := K) (a := L2) (xs := ps2.map V.ref) (fun j st H' => ∃ (x5 x6 : Option V) (ns : List Int), st = [some (.ref p), some (.ref q), some (.int v), some (.ref N), some (.ref b1), x5, x6] ∧ (∀ b u, H4 b = some u → b ≠ N → H' b = some u) ∧ H' N = some (.lst (ns.map V.int)) ∧ ns.length ≤ 2 * i + j ∧ FndP d e v (DoneP (figsN e.s e.m).toNat i j) ns)
        ⟨x5, x6, ns, rfl, fun b u z _ => z, hN4, ln, FP⟩ (fun _ _ _ _ ⟨_, _, _, _, pr, _⟩ => SqL.of (pr _ _ hL2 nL2N)) ?_ ?_
      · rintro j y st H5 hy ⟨y5, y6, ns, rfl, pr4, hN5, ln, FP⟩
        obtain ⟨b2, hb2, rfl⟩ : ∃ b, ps2[j]? = some b ∧ y = .ref b := by
          rw [List.getElem?_map] at hy
          cases e : ps2[j]? with
          | none => rw [e] at hy; cases hy
          | some b => rw [e] at hy; exact ⟨b, rfl, (Option.some.inj hy).symm⟩
        have jl : j < 2 := by
          have := (List.getElem?_eq_some_iff.mp hb2).1
          omega
        have g1 := at1 i b1 hb1
        have g1n := bel1 i b1 hb1
        have g1' := pr4 _ _ (s34 _ _ (pr _ _ g1 g1n)) g1n
        have g2 := at2 j b2 hb2
        have g2n : b2 ≠ N := fun z => by rw [z, hN4] at g2; cases g2
        have g2' := pr4 _ _ g2 g2n
        walk_at "rd"
        refine ⟨b1, b2, _, _, _, _, _, _, v, rfl, g1', blkP_of S, g2', blkP_of T, fun r L => ?_⟩
        have FP2 := fnd_add FP L
        walk_at "rd"
        cases r with
        | none =>
          refine ⟨rfl, ?_⟩
          walk_at "rd"
          rw [Option.toList_none, List.append_nil] at FP2
          exact ⟨_, _, ns, rfl, pr4, hN5, by omega, FP2⟩
        | some x =>
          refine ⟨rfl, ?_⟩
          walk_at "rd"
          refine ⟨.inl ⟨rfl, _, SqL.of hN5⟩, ?_⟩
          walk_at "rd"
          refine ⟨N, _, _, rfl, rfl, hN5, (by rw [List.length_map]; exact Nat.lt_of_le_of_lt ln (Nat.lt_of_lt_of_le (by omega : 2 * i + j < 100) (by decide))), ?_⟩
          refine ⟨_, _, ns ++ [x], rfl, fun b u z nb => (upd_ne nb).trans (pr4 _ _ z nb), ?_, by rw [List.length_append]; show ns.length + 1 ≤ _; omega, FP2⟩
          rw [List.map_append]
          exact upd_same
      · rintro st H5 ⟨y5, y6, ns, rfl, pr4, hN5, ln, FP⟩
        rw [List.length_map, lp2] at FP ln
        refine ⟨_, _, _, ns, rfl, fun b u z nb => pr4 _ _ (s34 _ _ (pr _ _ z nb)) nb, hN5, by omega, fnd_row FP⟩
    · rintro st H3 ⟨x4, x5, x6, ns, rfl, pr, hN, ln, FP⟩
      rw [List.length_map, lp1] at FP
      obtain ⟨en, em⟩ := fnd_end S T rfl rfl FP
      have sH : Same H H3 := fun b u z => pr _ _ (s12 _ _ (s01 _ _ z)) (ne_of_none z nN)
      walk_at "rd"
      refine ⟨N, ns, .non, rfl, rfl, SqL.of hN, fun z => qq none _ (en z) sH, fun m mi mm => qq (some m) _ (em m mi mm) sH⟩
end
end HT
namespace HT
open PySem L2
/-- no side raises the value -/
def UnA (ss : List Sd) (x : Int) : Prop := ∀ d ∈ ss, dueM d.o d.s d.m x ≤ x
theorem com_dvd : ∀ (ss : List Sd) (n : Nat), n ∣ ss.foldl (fun n d => n.lcm (perN d)) n ∧ ∀ d ∈ ss, perN d ∣ ss.foldl (fun n d => n.lcm (perN d)) n
  | [], n => ⟨Nat.dvd_refl _, fun d h => absurd h List.not_mem_nil⟩
  | d :: ss, n => by
    obtain ⟨a, b⟩ := com_dvd ss (n.lcm (perN d))
    rw [List.foldl_cons]
    refine ⟨Nat.dvd_trans (Nat.dvd_lcm_left _ _) a, fun e he => ?_⟩
    rcases List.mem_cons.mp he with z | z
    · rw [z]; exact Nat.dvd_trans (Nat.dvd_lcm_right _ _) a
    · exact b e z
theorem per_com {ss : List Sd} {d : Sd} (h : d ∈ ss) (hd : SideP d.o d.s d.m) : perM d.s d.m ∣ (comN ss : Int) := by
  have pa := perM_bd hd
  have ea : ((perN d : Nat) : Int) = perM d.s d.m := Int.toNat_of_nonneg (by omega)
  rw [← ea]
  exact Int.natCast_dvd_natCast.mpr ((com_dvd ss 1).2 d h)
theorem una_com {ss : List Sd} (hs : ∀ d ∈ ss, SideP d.o d.s d.m) (x t : Int) : UnA ss (x + (comN ss : Int) * t) ↔ UnA ss x := by
  have key : ∀ d ∈ ss, dueM d.o d.s d.m (x + (comN ss : Int) * t) = dueM d.o d.s d.m x + (comN ss : Int) * t := fun d hd =>
    due_dvd (hs d hd).md (hs d hd).s0 (Int.dvd_mul_of_dvd_left (per_com hd (hs d hd)))
  constructor
  · intro h d hd
    have := h d hd
    rw [key d hd] at this
    omega
  · intro h d hd
    rw [key d hd]
    have := h d hd
    omega
theorem una_none {ss : List Sd} (hs : ∀ d ∈ ss, SideP d.o d.s d.m) {v u : Int} (hu : v + (comN ss : Int) ≤ u) (no : ∀ y, v ≤ y → y < u → ¬ UnA ss y) : LeastI (UnA ss) v none := by
  intro y y0 c
  have cp : 0 < (comN ss : Int) := by
    have := com_pos ss 1 (by decide) hs
    show 0 < ((ss.foldl (fun n d => n.lcm (perN d)) 1 : Nat) : Int)
    omega
  have r0 := Int.emod_nonneg (y - v) (show (comN ss : Int) ≠ 0 by omega)
  have r1 := Int.emod_lt_of_pos (y - v) cp
  have ee := Int.emod_add_mul_ediv (y - v) (comN ss : Int)
  refine no (v + (y - v) % (comN ss : Int)) (by omega) (by omega) ?_
  have := una_com hs (v + (y - v) % (comN ss : Int)) ((y - v) / (comN ss : Int))
  rw [show v + (y - v) % (comN ss : Int) + (comN ss : Int) * ((y - v) / (comN ss : Int)) = y by omega] at this
  exact this.mp c
theorem hi_step {ss : List Sd} (hs : ∀ d ∈ ss, SideP d.o d.s d.m) {v u h : Int} (no : ∀ y, v ≤ y → y < u → ¬ UnA ss y) (hp : HiP ss u h) (ne : h ≠ u) : u < h ∧ ∀ y, v ≤ y → y < h → ¬ UnA ss y := by
  obtain ⟨a, b, c⟩ := hp
  refine ⟨by omega, fun y y0 y1 un => ?_⟩
  by_cases g : y < u
  · exact no y y0 g un
  · rcases c with e | ⟨d, hd, e⟩
    · exact ne e
    · have m := due_le (o := d.o) (hs d hd).md (hs d hd).s0 (show u ≤ y by omega)
      have := un d hd
      omega
theorem hi_bd {ss : List Sd} (hs : ∀ d ∈ ss, SideP d.o d.s d.m) {u h : Int} (hp : HiP ss u h) : h < u + 10 ^ 31 := by
  obtain ⟨a, b, c⟩ := hp
  rcases c with e | ⟨d, hd, e⟩
  · omega
  · have := due_near (o := d.o) (v := u) (hs d hd).md (hs d hd).s0
    have := (hs d hd).s1
    omega
theorem una_two {d e : Sd} {x : Int} : UnR d e x ↔ UnA [d, e] x := by
  constructor
  · rintro ⟨a, b⟩ f hf
    rcases List.mem_cons.mp hf with z | z
    · rw [z]; exact a
    · rw [List.mem_singleton.mp z]; exact b
  · intro h
    exact ⟨h d List.mem_cons_self, h e (List.mem_cons_of_mem _ List.mem_cons_self)⟩
theorem down_le {o s v : Int} (hs : 1 ≤ s) : dueM o s "down" v ≤ v := by
  have := Int.emod_add_mul_ediv (v - o) s
  have := Int.emod_nonneg (v - o) (show s ≠ 0 by omega)
  unfold dueM figM
  rw [go_down, if_neg (by decide)]
  omega
theorem una_filter {ss : List Sd} (hs : ∀ d ∈ ss, SideP d.o d.s d.m) (x : Int) : UnA (ss.filter upD) x ↔ UnA ss x := by
  constructor
  · intro h d hd
    by_cases u : upD d = true
    · exact h d (List.mem_filter.mpr ⟨hd, u⟩)
    · have e : firstM d.s d.m = "down" := by
        unfold upD at u
        simpa using u
      have f := due_form (o := d.o) x (hs d hd).md (hs d hd).s0
      rw [e] at f
      rw [← f]
      exact down_le (hs d hd).s0
  · intro h d hd
    exact h d (List.mem_filter.mp hd).1
def FewP (ss : List Sd) : Prop := (ss.filter upD).length ≤ 2 ∨ comN (ss.filter upD) ≤ 100000
def spFU : Sp := fun vs H Q _ => ∃ (l : Addr) (xs : List V) (ss : List Sd) (v : Int), vs = [.ref l, .int v] ∧ SidL H l xs ss ∧ (-2 ^ 800 < v ∧ v < 2 ^ 800) ∧ ∀ r H', LeastI (UnA ss) v r → Same H H' → Q (oV r) H'
def spCF : Sp := fun vs H Q _ => ∃ (l : Addr) (xs : List V) (ss : List Sd), vs = [.ref l] ∧ SidL H l xs ss ∧ (ss.length ≤ 2 ∨ comN ss ≤ 100000) ∧ Q .non H
def spReach : Sp := fun vs H Q _ => ∃ (l : Addr) (xs : List V) (ss : List Sd) (v : Int), vs = [.ref l, .int v] ∧ SidesAt H l xs ss ∧ (-2 ^ 790 < v ∧ v < 2 ^ 790) ∧ FewP ss ∧ FewP (ss.map mirD) ∧
  ∀ (lo hi : Option Int) (p : Addr) (H' : Hp), LeastI (UnA ss) v hi → LeastI (UnA (ss.map mirD)) (-v) lo → Same H H' → H p = none → H' p = some (.tup [oV (lo.map fun x => -x), oV hi]) → Q (.ref p) H'
section
variable {P : Program} {w : World} {K : PySem.W.Frag} {mg : Str → Option Value} {base : Heap} {fB fH fI fJ fL fM fN : Addr} {dB dH dI dJ dL dM dN : FuncData}
theorem ok_fu {f : Addr} {fd : FuncData} (F : Fun K "_first_unraised" "_first_unraised" s_first_unraised f fd) (A' : AmG mg) (Tw : Cal P w K mg base "_first_unraised_by_two" 106 ["first", "second", "value"] spTwo fB dB) (Co : Cal P w K mg base "common_period" 2 ["sides"] spPerL fH dH) (Hi : Cal P w K mg base "highest" 4 ["sides", "value"] spHi fI dI) : FnOk P w K mg base CX0 107 f fd ["raising", "value"] spFU := by
  refine F.ok sc_first_unraised (fun vs H Q E h => ?_) (fun cdv A outer s0 H vs Q E hr h => ?_)
  · obtain ⟨l, xs, ss, v, rfl, _⟩ := h
    rfl
  · obtain ⟨l, xs, ss, v, rfl, SS, hv, q⟩ := h
    have nd := sc_first_unraised.nd
    refine ⟨_, pss_cons (ps_if (pt_cmpR op_eq (pe_callB call_len_seq (by rfl) A'.len PySem.boot_len (pa_cons (pv 0) pa_nil)) pe_int (nomark _)) (pss_one (ps_ret (pcl Tw hr (by decide) (by rfl) (pa_cons (pe_ix ix_list (pv 0) pe_int (fun _ _ => rfl)) (pa_cons (pe_ix ix_list (pv 0) pe_int (fun _ _ => rfl)) (pa_cons (pv 1) pa_nil)))))) pss_nil)
      (pss_cons (ps_set (i := 2) nd rfl (Or.inl rfl) (pe_op op_add (pv 1) (pcl Co hr (by decide) (by rfl) (pa_cons (pv 0) pa_nil))))
      (pss_cons (ps_while PassesOwn.never (pt_cmpR op_lt (pv 1) (pv 2) (nomark _))
        (pss_cons (ps_set (i := 3) nd rfl (Or.inl rfl) (pcl Hi hr (by decide) (by rfl) (pa_cons (pv 0) (pa_cons (pv 1) pa_nil))))
        (pss_cons (ps_if (pt_cmpR op_eq (pv 3) (pv 1) (nomark _)) (pss_one (ps_ret (pv 1))) pss_nil)
        (pss_one (ps_set (i := 1) nd rfl (Or.inl rfl) (pv 3))))))
      (pss_one (ps_ret pe_non)))), ?_⟩
    walk_at "rd"
    refine ⟨l, _, rfl, .inl (SqL.of SS.hl), ?_⟩
    walk_at "rd"
    refine ⟨rfl, ?_⟩
    walk_at "rd"
    refine ite2 (fun z => ?_) (fun z => ?_)
    · have e1 := int_t z
      have e2 : ss.length = 2 := by
        rw [SS.len] at e1
        omega
      clear e1 z
      obtain ⟨d, e, rfl⟩ : ∃ d e, ss = [d, e] := by
        match ss, e2 with
        | [d, e], _ => exact ⟨d, e, rfl⟩
      obtain ⟨p1, x1, h1, s1⟩ := SS.at_ 0 d rfl
      obtain ⟨p2, x2, h2, s2⟩ := SS.at_ 1 e rfl
      obtain ⟨rfl⟩ : xs = [.ref p1, .ref p2] := by
        have := SS.len
        match xs, this, x1, x2 with
        | [a, b], _, x1, x2 => cases x1; cases x2; rfl
      walk_at "rd"
      refine ⟨l, _, _, _, rfl, rfl, SqL.of SS.hl, rfl, ?_⟩
      walk_at "rd"
      refine ⟨l, _, _, _, rfl, rfl, SqL.of SS.hl, rfl, ?_⟩
      walk_at "rd"
      exact ⟨p1, p2, d, e, v, rfl, h1, s1, h2, s2, fun r H' L sm => q r H' (leastI_congr (fun x => una_two) L) sm⟩
    walk_at "rd"
    refine ⟨l, xs, ss, rfl, SS, ?_⟩
    walk_at "rd"
    have cl := com_lt SS.side SS.l4
    refine ⟨fun m σ H' => ∃ (u : Int) (x3 : Option V), m = (v + (comN ss : Int) + 10 ^ 31 - u).toNat ∧ σ = [some (.ref l), some (.int u), some (.int (v + (comN ss : Int))), x3] ∧ Same H H' ∧ v ≤ u ∧ u < v + (comN ss : Int) + 10 ^ 31 ∧ ∀ y, v ≤ y → y < u → ¬ UnA ss y, ⟨_, v, none, rfl, rfl, Same.refl _, Int.le_refl _, by omega, fun y a b => by omega⟩, ?_⟩
    rintro m σ H' ⟨u, x3, rfl, rfl, sm, u0, u1, no⟩
    walk_at "rd"
    refine ite2 (fun z => ?_) (fun z => ?_)
    · have ue := of_decide_eq_true z
      refine ⟨fun σ' H'' => ∃ (u' : Int) (x3 : Option V), σ' = [some (.ref l), some (.int u'), some (.int (v + (comN ss : Int))), x3] ∧ Same H H'' ∧ u < u' ∧ u' < v + (comN ss : Int) + 10 ^ 31 ∧ ∀ y, v ≤ y → y < u' → ¬ UnA ss y, fun σ' H'' ⟨u', y3, e1, e2, e3, e4, e5⟩ => ⟨_, by omega, u', y3, rfl, e1, e2, by omega, e4, e5⟩, ?_⟩
      walk_at "rd"
      refine ⟨l, xs, ss, u, rfl, SS.same sm, by omega, fun h H2 hp s2 => ?_⟩
      walk_at "rd"
      refine ⟨rfl, ?_⟩
      walk_at "rd"
      refine ite2 (fun z => ?_) (fun z => ?_)
      · have e := int_t z
        subst e
        walk_at "rd"
        exact q (some h) _ ⟨u0, fun d hd => hp.2.1 d hd, no⟩ (sm.trans s2)
      · have ne := int_f z
        obtain ⟨n1, n2⟩ := hi_step SS.side no hp ne
        have hb := hi_bd SS.side hp
        walk_at "rd"
        exact ⟨h, _, rfl, sm.trans s2, n1, by omega, n2⟩
    · have ue : v + (comN ss : Int) ≤ u := by
        have : ¬ u < v + (comN ss : Int) := fun y => z (decide_eq_true y)
        omega
      walk_at "rd"
      exact q none _ (una_none SS.side ue no) sm
theorem ok_cf {f : Addr} {fd : FuncData} (F : Fun K "_check_few" "_check_few" s_check_few f fd) (A' : AmG mg) (Co : Cal P w K mg base "common_period" 2 ["sides"] spPerL fH dH) : FnOk P w K mg base CX0 3 f fd ["raising"] spCF := by
  refine F.ok sc_check_few (fun vs H Q E h => ?_) (fun cdv A outer s0 H vs Q E hr h => ?_)
  · obtain ⟨l, xs, ss, rfl, _⟩ := h
    rfl
  · obtain ⟨l, xs, ss, rfl, SS, few, q⟩ := h
    obtain ⟨tmp, hmp⟩ := A'.mp
    refine ⟨_, pss_one (ps_if (PW.pt (pw_and (pt_cmpR op_gt (pe_callB call_len_seq (by rfl) A'.len PySem.boot_len (pa_cons (pv 0) pa_nil)) pe_int (nomark _)) (pw_and1 (pt_cmpR op_gt (pcl Co hr (by decide) (by rfl) (pa_cons (pv 0) pa_nil)) (pe_glob (v := .int 100000) (by rfl) hmp ⟨_, rfl⟩) (nomark _))))) (pss_one ps_never) pss_nil), ?_⟩
    walk_at "rd"
    refine ⟨l, _, rfl, .inl (SqL.of SS.hl), ?_⟩
    walk_at "rd"
    refine ite2 (fun z => ?_) (fun z => ?_)
    · have gt := of_decide_eq_true z
      rw [SS.len] at gt
      walk_at "rd"
      refine ⟨l, xs, ss, rfl, SS, ?_⟩
      walk_at "rd"
      refine ite2 (fun z => ?_) (fun _ => ?_)
      · exfalso
        have := of_decide_eq_true z
        rcases few with y | y <;> omega
      · exact q
    · exact q
theorem ok_reach {f : Addr} {fd : FuncData} (F : Fun K "reach" "reach" s_reach f fd) (Ls : Cal P w K mg base "check_sides" 5 ["sides"] spSides fB dB) (Vl : Cal P w K mg base "check_value" 2 ["value"] spCheckValue fH dH) (Ra : Cal P w K mg base "raisers" 6 ["sides"] spRais fI dI) (Mi : Cal P w K mg base "mirrors" 5 ["sides"] spMirs fJ dJ)
    (Cf : Cal P w K mg base "_check_few" 3 ["raising"] spCF fL dL) (Fu : Cal P w K mg base "_first_unraised" 107 ["raising", "value"] spFU fM dM) : FnOk P w K mg base CX0 108 f fd ["sides", "value"] spReach := by
  refine F.ok sc_reach (fun vs H Q E h => ?_) (fun cdv A outer s0 H vs Q E hr h => ?_)
  · obtain ⟨l, xs, ss, v, rfl, _⟩ := h
    rfl
  · obtain ⟨l, xs, ss, v, rfl, SS, hv, f1, f2, q⟩ := h
    have nd := sc_reach.nd
    refine ⟨_, (pss_cons (ps_expr (pcl Ls hr (by decide) (by rfl) (pa_cons (pv 0) pa_nil)))
      (pss_cons (ps_expr (pcl Vl hr (by decide) (by rfl) (pa_cons (pv 1) pa_nil)))
      (pss_cons (ps_set (i := 2) nd rfl (Or.inl rfl) (pcl Ra hr (by decide) (by rfl) (pa_cons (pv 0) pa_nil)))
      (pss_cons (ps_set (i := 3) nd rfl (Or.inl rfl) (pcl Ra hr (by decide) (by rfl) (pa_cons (pcl Mi hr (by decide) (by rfl) (pa_cons (pv 0) pa_nil)) pa_nil)))
      (pss_cons (ps_expr (pcl Cf hr (by decide) (by rfl) (pa_cons (pv 2) pa_nil)))
      (pss_cons (ps_expr (pcl Cf hr (by decide) (by rfl) (pa_cons (pv 3) pa_nil)))
      (pss_cons (ps_set (i := 4) nd rfl (Or.inl rfl) (pcl Fu hr (by decide) (by rfl) (pa_cons (pv 3) (pa_cons (pe_un un_neg (pv 1)) pa_nil))))
      (pss_cons (ps_if (pt_cmpR op_notN (pv 4) pe_non (nomark _)) (pss_one (ps_set (i := 4) nd rfl (Or.inl rfl) (pe_un un_neg (pv 4)))) pss_nil)
      (pss_one (ps_ret (pe_tup (pa_cons (pv 4) (pa_cons (pcl Fu hr (by decide) (by rfl) (pa_cons (pv 2) (pa_cons (pv 1) pa_nil))) pa_nil))))))))))))), ?_⟩
    have sM : ∀ d ∈ ss.map mirD, SideP d.o d.s d.m := fun d hd => by
      obtain ⟨e, he, rfl⟩ := List.mem_map.mp hd
      exact side_mir (SS.side e he)
    walk_at "rd"
    refine ⟨l, xs, ss, rfl, SS, ?_⟩
    walk_at "rd"
    refine ⟨l, xs, ss, rfl, SS.toL, fun L1 y1 H1 n1 s1 S1 => ?_⟩
    walk_at "rd"
    refine ⟨l, xs, ss, rfl, SS.toL.same s1, fun L2 y2 H2 n2 s2 S2 => ?_⟩
    refine ⟨L2, y2, _, rfl, S2, fun L3 y3 H3 n3 s3 S3 => ?_⟩
    walk_at "rd"
    refine ⟨L1, y1, _, rfl, (S1.same s2).same s3, f1, ?_⟩
    walk_at "rd"
    refine ⟨L3, y3, _, rfl, S3, f2, ?_⟩
    walk_at "rd"
    refine ⟨L3, y3, _, -v, rfl, S3, by omega, fun lo H4 Llo s4 => ?_⟩
    have Llo2 := leastI_congr (una_filter sM) Llo
    walk_at "rd"
    cases lo with
    | none =>
      refine ⟨rfl, ?_⟩
      walk_at "rd"
      refine ⟨L1, y1, _, v, rfl, (((S1.same s2).same s3).same s4), by omega, fun hi H5 Lhi s5 => ?_⟩
      refine ⟨(by show 2 ≤ sizeLine; decide), fun p np => ?_⟩
      have sA := s1.trans (s2.trans (s3.trans (s4.trans s5)))
      exact q none hi p _ (leastI_congr (una_filter SS.side) Lhi) Llo2 (fun b u z => (upd_ne (ne_of_none (sA _ _ z) np)).trans (sA _ _ z)) (sA.free np) upd_same
    | some x =>
      refine ⟨rfl, ?_⟩
      walk_at "rd"
      refine ⟨L1, y1, _, v, rfl, (((S1.same s2).same s3).same s4), by omega, fun hi H5 Lhi s5 => ?_⟩
      refine ⟨(by show 2 ≤ sizeLine; decide), fun p np => ?_⟩
      have sA := s1.trans (s2.trans (s3.trans (s4.trans s5)))
      exact q (some x) hi p _ (leastI_congr (una_filter SS.side) Lhi) Llo2 (fun b u z => (upd_ne (ne_of_none (sA _ _ z) np)).trans (sA _ _ z)) (sA.free np) upd_same
end
end HT
namespace HT
open PySem L2
theorem gen_list {K : PySem.W.Frag} {a : Addr} {xs : List V} {R : Hp → Prop} {Body : V → Hp → (Hp → Prop) → Prop} {H0 : Hp} (Pv : Nat → Hp → Prop) (h0 : Pv 0 H0) (hl : ∀ i H, i ≤ xs.length → Pv i H → SqL K H a xs)
    (hs : ∀ i x H, xs[i]? = some x → Pv i H → Body x H (Pv (i + 1))) (hd : ∀ H, Pv xs.length H → R H) :
    ∃ W : Nat → Nat → Hp → Prop, (∃ m, W 0 m H0) ∧ ∀ i m H, W i m H → ((Itl K a).stop i H ∧ R H) ∨ ((Itl K a).go i H ∧ ∃ Nx : Hp → Prop, (∀ H', Nx H' → ∃ m', m' < m ∧ W (i + 1) m' H') ∧ ∀ x H', (Itl K a).yld i H x H' → Body x H' Nx) := by
  refine ⟨fun i m H => m = xs.length - i ∧ i ≤ xs.length ∧ Pv i H, ⟨xs.length, by simp, Nat.zero_le _, h0⟩, ?_⟩
  rintro i m H ⟨rfl, hi, p⟩
  have q := hl i H hi p
  by_cases hlt : i < xs.length
  · refine .inr ⟨⟨xs, xs[i], q, by simp [hlt]⟩, Pv (i + 1), fun H' p' => ⟨xs.length - (i + 1), by omega, rfl, hlt, p'⟩, fun x H' y => ?_⟩
    obtain ⟨e, y⟩ := y
    subst e
    exact hs i x _ (y xs q) p
  · have e : i = xs.length := by omega
    subst e
    exact .inl ⟨⟨xs, q, Nat.le_refl _⟩, hd H p⟩
theorem gen_range {lo : Int} {n : Nat} {R : Hp → Prop} {Body : V → Hp → (Hp → Prop) → Prop} {H0 : Hp} (Pv : Nat → Hp → Prop) (h0 : Pv 0 H0)
    (hs : ∀ i H, i < n → Pv i H → Body (.int (lo + i)) H (Pv (i + 1))) (hd : ∀ H, Pv n H → R H) :
    ∃ W : Nat → Nat → Hp → Prop, (∃ m, W 0 m H0) ∧ ∀ i m H, W i m H → ((Itr lo n).stop i H ∧ R H) ∨ ((Itr lo n).go i H ∧ ∃ Nx : Hp → Prop, (∀ H', Nx H' → ∃ m', m' < m ∧ W (i + 1) m' H') ∧ ∀ x H', (Itr lo n).yld i H x H' → Body x H' Nx) := by
  refine ⟨fun i m H => m = n - i ∧ i ≤ n ∧ Pv i H, ⟨n, by simp, Nat.zero_le _, h0⟩, ?_⟩
  rintro i m H ⟨rfl, hi, p⟩
  by_cases hlt : i < n
  · refine .inr ⟨hlt, Pv (i + 1), fun H' p' => ⟨n - (i + 1), by omega, rfl, hlt, p'⟩, fun x H' y => ?_⟩
    obtain ⟨e, y⟩ := y
    subst e y
    exact hs i _ hlt p
  · have e : i = n := by omega
    subst e
    exact .inl ⟨Nat.le_refl _, hd H p⟩
end HT
namespace HT
open PySem L2
/-- lists of numbers in a list, new ones -/
def OrdsAt (H0 H : Hp) (L : Addr) (os : List (List Nat)) : Prop := ∃ ps : List Addr, H L = some (.lst (ps.map V.ref)) ∧ ps.length = os.length ∧ (∀ (i : Nat) (p : Addr) (o : List Nat), ps[i]? = some p → os[i]? = some o → H p = some (.lst (o.map nV))) ∧ ∀ p ∈ ps, H0 p = none
theorem inV_nat (k : Nat) (o : List Nat) : inV (nV k) (o.map nV) = o.contains k := by
  induction o with
  | nil => rfl
  | cons j o ih =>
    have e : eqV (nV j) (nV k) = (j == k) := by
      show (((j : Int)) == ((k : Int))) = (j == k)
      by_cases h : j = k
      · subst h; simp
      · rw [beq_eq_false_iff_ne.mpr h, beq_eq_false_iff_ne.mpr (by omega)]
    show (eqV (nV j) (nV k) || inV (nV k) (o.map nV)) = _
    rw [ih, e, List.contains_cons, Bool.beq_comm]
theorem all_flat : ∀ o : List Nat, (o.map nV).all flatV = true
  | [] => rfl
  | _ :: o => by rw [List.map_cons, List.all_cons, all_flat o]; rfl
theorem OrdsAt.snoc {H0 H H' : Hp} {D q : Addr} {os : List (List Nat)} {o : List Nat} {acc : List V} (A : OrdsAt H0 H D os) (hD : H D = some (.lst acc)) (sm : Same H H') (nq : H0 q = none) (hq : H' q = some (.lst (o.map nV))) (qD : q ≠ D) :
    OrdsAt H0 (upd H' D (.lst (acc ++ [.ref q]))) D (os ++ [o]) := by
  obtain ⟨ps, hp, lp, at_, fr⟩ := A
  rw [hD] at hp
  have ea : acc = ps.map V.ref := by cases hp; rfl
  subst ea
  refine ⟨ps ++ [q], by rw [List.map_append]; exact upd_same, by rw [List.length_append, List.length_append, lp]; rfl, ?_, ?_⟩
  · intro i p o' hp' ho'
    rcases Nat.lt_or_ge i ps.length with z | z
    · rw [List.getElem?_append_left z] at hp'
      rw [List.getElem?_append_left (by omega)] at ho'
      have h1 := at_ i p o' hp' ho'
      have dp : p ≠ D := fun z => by
        rw [z, hD] at h1
        have e2 : ps.map V.ref = o'.map nV := by injection h1 with h1; injection h1
        have e3 : (ps.map V.ref)[i]? = some (V.ref p) := by rw [List.getElem?_map, hp']; rfl
        rw [e2, List.getElem?_map] at e3
        cases e4 : o'[i]? with
        | none => rw [e4] at e3; cases e3
        | some k => rw [e4] at e3; cases e3
      exact (upd_ne dp).trans (sm _ _ h1)
    · rw [List.getElem?_append_right z] at hp'
      rw [List.getElem?_append_right (by omega)] at ho'
      have e0 : i - ps.length = 0 := by
        have := (List.getElem?_eq_some_iff.mp hp').1
        simp at this
        omega
      rw [e0] at hp'
      rw [show i - os.length = 0 by omega] at ho'
      cases hp'
      cases ho'
      exact (upd_ne qD).trans hq
  · intro p hp'
    rcases List.mem_append.mp hp' with z | z
    · exact fr p z
    · rw [List.mem_singleton.mp z]; exact nq
theorem gen_enum {K : PySem.W.Frag} {a : Addr} {xs : List V} {R : Hp → Prop} {Body : V → Hp → (Hp → Prop) → Prop} {H0 : Hp} (Pv : Nat → Hp → Prop) (h0 : Pv 0 H0) (hl : ∀ i H, i ≤ xs.length → Pv i H → SqL K H a xs)
    (hs : ∀ i x H, xs[i]? = some x → Pv i H → ∀ T, H T = none → Body (.ref T) (upd H T (.tup [.int (i : Nat), x])) (Pv (i + 1))) (hd : ∀ H, Pv xs.length H → R H) :
    ∃ W : Nat → Nat → Hp → Prop, (∃ m, W 0 m H0) ∧ ∀ i m H, W i m H → ((Ite K a).stop i H ∧ R H) ∨ ((Ite K a).go i H ∧ ∃ Nx : Hp → Prop, (∀ H', Nx H' → ∃ m', m' < m ∧ W (i + 1) m' H') ∧ ∀ x H', (Ite K a).yld i H x H' → Body x H' Nx) := by
  refine ⟨fun i m H => m = xs.length - i ∧ i ≤ xs.length ∧ Pv i H, ⟨xs.length, by simp, Nat.zero_le _, h0⟩, ?_⟩
  rintro i m H ⟨rfl, hi, p⟩
  have q := hl i H hi p
  by_cases hlt : i < xs.length
  · refine .inr ⟨⟨xs, xs[i], q, by simp [hlt]⟩, Pv (i + 1), fun H' p' => ⟨xs.length - (i + 1), by omega, rfl, hlt, p'⟩, fun x H' y => ?_⟩
    obtain ⟨T, x, rfl, nT, rfl, y⟩ := y
    exact hs i x _ (y xs q) p T nT
  · have e : i = xs.length := by omega
    subst e
    exact .inl ⟨⟨xs, q, Nat.le_refl _⟩, hd H p⟩
end HT
namespace L2
open PySem PySem.Spec PyProof.Rows PySem.W PySem.SeqAt
def maxL (d : Int) : List Int → Int
  | [] => d
  | n :: r => r.foldl max n
def rMaxDi (K : PySem.W.Frag) : List V → List V → Hp → VK → Prop := fun vs zs H Q => ∃ (a : Addr) (ns : List Int) (d : Int), vs = [V.ref a] ∧ zs = [V.int d] ∧ SqL K H a (ns.map V.int) ∧ Q (.int (maxL d ns)) H
theorem cr_maxDi {X : Cx} (hc : X.calm = true) (hu : X.A.units + 64 < cLine) : CallRK X (.builtin "max") [Str.ofString "default"] (rMaxDi X.K) := by
  intro pins s σ H vs zs us ws Q I r rz h
  obtain ⟨a, ns, d, rfl, rfl, hs, q⟩ := h
  obtain ⟨its, rv, hl, _⟩ := I.list hs
  obtain rfl := Vals.ref1 r
  obtain ⟨w1, rfl, e1⟩ := vals1 rz
  obtain ⟨as, ra⟩ := reads_ints (h := s.heap) rv
  refine max_list_default (I.ok.hd hc) hl.isList (by simpa using ra) (alike_ints ns) (by rw [depth_ints]; omega) (fun e h' tk hk => ?_) (fun y ys i v h' tk bs e hv rd hk => ?_)
  · cases ns with
    | nil => exact ⟨.int d, H, I.kept hk, e1, q⟩
    | cons n r => cases e
  · cases ns with
    | nil => cases e
    | cons n r =>
      rw [List.map_cons] at e
      injection e with ey es
      subst ey es
      rw [maxD_ints] at rd
      cases rd with
      | int _ t => exact ⟨.int _, H, I.kept hk, ⟨t, rfl⟩, q⟩
end L2
namespace HT
open PySem L2
def natI (o : List Nat) : List Int := o.map fun k : Nat => (k : Int)
theorem nat_nV (o : List Nat) : o.map nV = (natI o).map V.int := by
  unfold natI
  rw [List.map_map]
  rfl
def moreB (o : List Nat) (k : Nat) : Bool := decide (maxL (-1) (natI o) < (k : Int))
def newsP (p : Nat → Bool) (j : Nat) (o : List Nat) : List (List Nat) := ((List.range j).filter p).map fun k => o ++ [k]
def moreM (n : Nat) (os : List (List Nat)) : List (List Nat) := os.flatMap fun o => newsP (moreB o) n o
def subsM (n : Nat) : Nat → List (List Nat)
  | 0 => [[]]
  | k + 1 => moreM n (subsM n k)
theorem newsP_succ (p : Nat → Bool) (j : Nat) (o : List Nat) : newsP p (j + 1) o = newsP p j o ++ (if p j = true then [o ++ [j]] else []) := by
  unfold newsP
  rw [List.range_succ, List.filter_append, List.map_append]
  congr 1
  by_cases h : p j = true
  · rw [if_pos h]
    simp only [List.filter_cons, h, if_true, List.filter_nil, List.map_cons, List.map_nil]
  · rw [if_neg h]
    simp only [List.filter_cons, h, if_false, List.filter_nil, List.map_nil, Bool.false_eq_true]
theorem newsP_len (p : Nat → Bool) (j : Nat) (o : List Nat) : (newsP p j o).length ≤ j := by
  unfold newsP
  rw [List.length_map]
  exact Nat.le_trans (List.length_filter_le _ _) (by rw [List.length_range]; exact Nat.le_refl _)
theorem flat_len {n : Nat} {f : List Nat → List (List Nat)} (hf : ∀ o, (f o).length ≤ n) : ∀ os : List (List Nat), (os.flatMap f).length ≤ os.length * n
  | [] => by simp
  | o :: os => by
    have a := flat_len hf os
    have b := hf o
    rw [List.flatMap_cons, List.length_append, List.length_cons, Nat.add_mul, Nat.one_mul]
    omega
/-- no value creeps without end -/
def CalmP (ss : List Sd) : Prop := (∃ x, UnA ss x) ∧ ∃ x, UnA (ss.map mirD) x
theorem una_ex {ss : List Sd} (hs : ∀ d ∈ ss, SideP d.o d.s d.m) {v : Int} (L : LeastI (UnA ss) v none) : ¬ ∃ x, UnA ss x := by
  rintro ⟨x, u⟩
  have cp : 0 < (comN ss : Int) := by
    have := com_pos ss 1 (by decide) hs
    show 0 < ((ss.foldl (fun n d => n.lcm (perN d)) 1 : Nat) : Int)
    omega
  refine L (x + (comN ss : Int) * ((v - x).natAbs : Int)) ?_ ((una_com hs x _).mpr u)
  have : 1 * ((v - x).natAbs : Int) ≤ (comN ss : Int) * ((v - x).natAbs : Int) := Int.mul_le_mul_of_nonneg_right (by omega) (by omega)
  omega
def spAC : Sp := fun vs H Q _ => ∃ (l : Addr) (xs : List V) (ss : List Sd), vs = [.ref l] ∧ SidesAt H l xs ss ∧ FewP ss ∧ FewP (ss.map mirD) ∧ ∀ (b : Bool) (H' : Hp), (b = true ↔ CalmP ss) → Same H H' → Q (.bl b) H'
def spOM : Sp := fun vs H Q _ => ∃ (L : Addr) (os : List (List Nat)) (n : Nat) (H0 : Hp), vs = [.ref L, .int (n : Int)] ∧ OrdsAt H0 H L os ∧ Same H0 H ∧ n ≤ 4 ∧ os.length ≤ 1000 ∧ (∀ o ∈ os, o.length ≤ 4) ∧
  ∀ (L' : Addr) (H' : Hp), Same H H' → OrdsAt H0 H' L' (moreM n os) → Q (.ref L') H'
section
variable {P : Program} {w : World} {K : PySem.W.Frag} {mg : Str → Option Value} {base : Heap} {fB fH fI fJ fL fM fN : Addr} {dB dH dI dJ dL dM dN : FuncData}
theorem ok_ac {f : Addr} {fd : FuncData} (F : Fun K "_are_calm" "_are_calm" s_are_calm f fd) (Re : Cal P w K mg base "reach" 108 ["sides", "value"] spReach fB dB) : FnOk P w K mg base CX0 109 f fd ["sides"] spAC := by
  refine F.ok sc_are_calm (fun vs H Q E h => ?_) (fun cdv A outer s0 H vs Q E hr h => ?_)
  · obtain ⟨l, xs, ss, rfl, _⟩ := h
    rfl
  · obtain ⟨l, xs, ss, rfl, SS, f1, f2, q⟩ := h
    have nd := sc_are_calm.nd
    refine ⟨_, (pss_cons (ps_asg (pcl Re hr (by decide) (by rfl) (pa_cons (pv 0) (pa_cons pe_int pa_nil))) (pg_tup (by rfl) (pgs_cons (pg_name (i := 1) nd rfl (Or.inl rfl)) (pgs_cons (pg_name (i := 2) nd rfl (Or.inl rfl)) pgs_nil))))
      (pss_one (ps_ret (pe_and (pe_cmpR op_notN (pv 1) pe_non (nomark _)) (pe_one (pe_cmpR op_notN (pv 2) pe_non (nomark _))))))), ?_⟩
    have sM : ∀ d ∈ ss.map mirD, SideP d.o d.s d.m := fun d hd => by
      obtain ⟨e, he, rfl⟩ := List.mem_map.mp hd
      exact side_mir (SS.side e he)
    walk_at "rd"
    refine ⟨l, xs, ss, 0, rfl, SS, by decide, f1, f2, fun lo hi p H' Lhi Llo sm np hp => ?_⟩
    refine ⟨p, _, rfl, SqT.of hp, rfl, _, _, rfl, _, _, rfl, rfl, ?_⟩
    walk_at "rd"
    refine ⟨rfl, ?_⟩
    cases lo with
    | none =>
      have nc : ¬ CalmP ss := fun c => una_ex sM Llo c.2
      walk_at "rd"
      exact q false H' ⟨fun z => Bool.noConfusion z, fun z => absurd z nc⟩ sm
    | some x =>
      walk_at "rd"
      refine ⟨rfl, ?_⟩
      cases hi with
      | none =>
        have nc : ¬ CalmP ss := fun c => una_ex SS.side Lhi c.1
        walk_at "rd"
        exact q false H' ⟨fun z => Bool.noConfusion z, fun z => absurd z nc⟩ sm
      | some y =>
        walk_at "rd"
        exact q true H' ⟨fun _ => ⟨⟨y, Lhi.2.1⟩, x, Llo.2.1⟩, fun _ => rfl⟩ sm
theorem ok_om {f : Addr} {fd : FuncData} (F : Fun K "_one_more" "_one_more" s_one_more f fd) (B : Blt mg) (MT : MaxT mg) : FnOk P w K mg base CX0 1 f fd ["lists", "many"] spOM := by
  refine F.ok sc_one_more (fun vs H Q E h => ?_) (fun cdv A outer s0 H vs Q E hr h => ?_)
  · obtain ⟨L, os, n, H0, rfl, _⟩ := h
    rfl
  · obtain ⟨L, os, n, H0, rfl, OA, sH0, n4, l1000, o4, q⟩ := h
    have nd := sc_one_more.nd
    refine ⟨_, pss_one (ps_ret (pe_lc2 (own := [("numbers", 2), ("number", 3)]) (vs1 := [3]) (g := gName 2) (g1 := gName 3) (tt := tYes) rfl nd (pi_list (pv 0)) (blkOk_by (N := ["lists", "many", "numbers", "number"]) (sc := defScope s_one_more) (by decide +kernel)) (by decide)
          (fun _ _ _ _ _ => pg_name (i := 2) nd rfl (Or.inl rfl)) (fun _ _ _ _ _ => pts_nil) (fun _ _ _ _ _ => pi_range1 (by rfl) B.range (pa_cons (pv 1) pa_nil)) (fun _ _ _ _ _ => pg_name (i := 3) nd rfl (Or.inl rfl))
          (fun _ _ _ _ _ => pts_one (pt_cmpR op_gt (pv 3) (pe_callBK (id := "max") (ks := [Str.ofString "default"]) (r := rMaxDi K) (by exact cr_maxDi rfl hr.units) (by rfl) MT.max (by decide +kernel) (pa_cons (pv 2) pa_nil) (pk_cons (pe_un un_neg pe_int) pk_nil)) (nomark _)))
          (fun _ _ _ _ _ => pe_op op_cat (pv 2) (pe_lst (pa_cons (pv 3) pa_nil))))), ?_⟩
    obtain ⟨ps, hL, lp, at_, fresh⟩ := id OA
    walk_at "rd"
    refine ⟨⟨_, SqL.of hL⟩, fun D nD => ?_⟩
    have hD0 : H0 D = none := sH0.free nD
    refine gen_list (xs := ps.map V.ref) (fun i1 H5 => OrdsAt H0 H5 D ((os.take i1).flatMap fun o => newsP (moreB o) n o) ∧ Same H H5 ∧ i1 ≤ os.length) ⟨⟨[], upd_same, rfl, (fun i p o hp _ => nomatch hp), fun p hp => absurd hp List.not_mem_nil⟩, fun b u z => (upd_ne (ne_of_none z nD)).trans z, Nat.zero_le _⟩ (fun i1 H5 _ ⟨_, s5, _⟩ => SqL.of (s5 _ _ hL)) ?_ ?_
    · rintro i1 x H5 hx ⟨OD, s5, _⟩
      obtain ⟨p, hp, rfl⟩ : ∃ p, ps[i1]? = some p ∧ x = .ref p := by
        rw [List.getElem?_map] at hx
        cases e : ps[i1]? with
        | none => rw [e] at hx; cases hx
        | some p => rw [e] at hx; exact ⟨p, rfl, (Option.some.inj hx).symm⟩
      have hil : i1 < os.length := by rw [← lp]; exact (List.getElem?_eq_some_iff.mp hp).1
      obtain ⟨o, ho⟩ : ∃ o, os[i1]? = some o := ⟨_, List.getElem?_eq_getElem hil⟩
      have po := at_ i1 p o hp ho
      have oi := o4 o (List.mem_of_getElem? ho)
      refine ⟨rfl, ?_⟩
      walk_at "rd"
      refine ⟨by omega, by omega, ?_⟩
      refine gen_range (lo := 0) (n := n) (fun j H6 => OrdsAt H0 H6 D (((os.take i1).flatMap fun o => newsP (moreB o) n o) ++ newsP (moreB o) j o) ∧ Same H H6) ⟨by rw [show newsP (moreB o) 0 o = [] from rfl, List.append_nil]; exact OD, s5⟩ ?_ ?_
      · rintro j H6 hj ⟨OD6, s6⟩
        have po6 := s6 _ _ po
        refine ⟨rfl, ?_⟩
        walk_at "rd"
        refine ⟨p, natI o, -1, rfl, rfl, (by rw [← nat_nV]; exact SqL.of po6), ?_⟩
        walk_at "rd"
        have ej : (0 : Int) + (j : Int) = (j : Int) := by omega
        refine ite2 (fun z => ?_) (fun z => ?_)
        · have mb : moreB o j = true := by
            unfold moreB
            rw [← ej]
            exact z
          walk_at "rd"
          refine ⟨(by show 1 ≤ sizeLine; decide), fun a1 k1 => ?_⟩
          generalize e3 : upd H6 a1 _ = H7
          have w3 : Same H6 H7 := by rw [← e3]; exact fun b u y => (upd_ne (ne_of_none y k1)).trans y
          have f3 : H7 a1 = some (.lst [V.int (0 + (j : Int))]) := by rw [← e3]; exact upd_same
          clear e3
          refine ⟨p, a1, _, _, rfl, rfl, w3 _ _ po6, f3, (by rw [List.length_map]; exact Nat.le_trans (by show o.length + 1 ≤ 8; omega) (by decide)), fun a2 k2 => ?_⟩
          generalize e4 : upd H7 a2 _ = H8
          have w4 : Same H7 H8 := by rw [← e4]; exact fun b u y => (upd_ne (ne_of_none y k2)).trans y
          have f4 : H8 a2 = some (.lst ((o ++ [j]).map nV)) := by
            rw [← e4, List.map_append]
            refine upd_same.trans ?_
            rw [ej]
            rfl
          clear e4
          obtain ⟨qs, hqs, lq, at6, fr6⟩ := id OD6
          have n2H : H0 a2 = none := (sH0.trans (s6.trans w3)).free k2
          have nD6 : a2 ≠ D := fun y => by
            rw [y, w3 _ _ hqs] at k2
            cases k2
          refine ⟨_, w4 _ _ (w3 _ _ hqs), ?_, ?_, ?_⟩
          · rw [List.length_map, lq, List.length_append]
            have c1 := flat_len (fun o => newsP_len (moreB o) n o) (os.take i1)
            have c2 : (os.take i1).length ≤ os.length := List.length_take_le' _ _
            have c3 := newsP_len (moreB o) j o
            have c4 : (os.take i1).length * n ≤ 1000 * 4 := Nat.mul_le_mul (by omega) n4
            exact Nat.lt_of_le_of_lt (by omega : _ ≤ 4004) (by decide)
          · rw [newsP_succ, if_pos mb, ← List.append_assoc]
            exact OD6.snoc hqs (w3.trans w4) n2H f4 nD6
          · intro b u y
            exact (upd_ne (ne_of_none y nD)).trans (w4 _ _ (w3 _ _ (s6 _ _ y)))
        · have mb : ¬ moreB o j = true := fun y => z (by
            unfold moreB at y
            rw [← ej] at y
            exact y)
          refine ⟨?_, s6⟩
          rw [newsP_succ, if_neg mb, List.append_nil]
          exact OD6
      · rintro H6 ⟨OD6, s6⟩
        refine ⟨?_, s6, hil⟩
        rw [List.take_succ, ho, List.flatMap_append]
        simp only [Option.toList, List.flatMap_cons, List.flatMap_nil, List.append_nil]
        exact OD6
    · rintro H5 ⟨OD, s5, _⟩
      rw [List.length_map, lp, List.take_length] at OD
      walk_at "rd"
      exact q D H5 s5 OD
end
end HT
namespace HT
open PySem L2
def keepJ (ss : List Sd) (o : List Nat) : Nat → List Sd
  | 0 => []
  | i + 1 => keepJ ss o i ++ (match ss[i]? with | some d => if o.contains i = true then [] else [d] | none => [])
/-- the sides that are not left out -/
def keep (ss : List Sd) (o : List Nat) : List Sd := keepJ ss o ss.length
theorem keepJ_succ {ss : List Sd} {o : List Nat} {i : Nat} {d : Sd} (h : ss[i]? = some d) : keepJ ss o (i + 1) = keepJ ss o i ++ (if o.contains i = true then [] else [d]) := by
  show keepJ ss o i ++ (match ss[i]? with | some d => if o.contains i = true then [] else [d] | none => []) = _
  rw [h]
theorem keepJ_sub (ss : List Sd) (o : List Nat) : ∀ i, (keepJ ss o i).Sublist (ss.take i)
  | 0 => by show List.Sublist [] _; exact List.nil_sublist _
  | i + 1 => by
    have ih := keepJ_sub ss o i
    cases h : ss[i]? with
    | none =>
      show List.Sublist (keepJ ss o i ++ (match ss[i]? with | some d => if o.contains i = true then [] else [d] | none => [])) _
      rw [h, List.take_succ, h]
      simpa using ih
    | some d =>
      rw [keepJ_succ h, List.take_succ, h]
      refine List.Sublist.append ih ?_
      show List.Sublist _ [d]
      split
      · exact List.nil_sublist _
      · exact List.Sublist.refl _
theorem keep_sub (ss : List Sd) (o : List Nat) : (keep ss o).Sublist ss := by
  have := keepJ_sub ss o ss.length
  rw [List.take_length] at this
  exact this
theorem keepJ_pos {ss : List Sd} {o : List Nat} {i : Nat} (hi : i < ss.length) (ho : o.contains i = false) : ∀ n, i < n → 1 ≤ (keepJ ss o n).length
  | 0, h => by omega
  | n + 1, h => by
    by_cases e : i = n
    · subst e
      rw [keepJ_succ (List.getElem?_eq_getElem hi), ho, if_neg (by decide), List.length_append]
      show 1 ≤ _ + 1
      omega
    · have ih := keepJ_pos hi ho n (by omega)
      show 1 ≤ (keepJ ss o n ++ _).length
      rw [List.length_append]
      omega
theorem subs_fin : ∀ n : Fin 5, ∀ k : Fin 5, k.val < n.val → (subsM n.val k.val).length ≤ 24 ∧ ∀ o ∈ subsM n.val k.val, o.length ≤ 4 ∧ (List.range n.val).any (fun i => !o.contains i) = true := by decide +kernel
theorem subs_ok {n k : Nat} (h4 : n ≤ 4) (hk : k < n) : (subsM n k).length ≤ 24 ∧ ∀ o ∈ subsM n k, o.length ≤ 4 ∧ ∃ i, i < n ∧ o.contains i = false := by
  have n5 : n < 5 := by omega
  have k5 : k < 5 := by omega
  have sf := subs_fin ⟨n, n5⟩ ⟨k, k5⟩ hk
  obtain ⟨a, b⟩ := sf
  refine ⟨a, fun o ho => ⟨(b o ho).1, ?_⟩⟩
  obtain ⟨i, hi, h⟩ := List.any_eq_true.mp (b o ho).2
  exact ⟨i, List.mem_range.mp hi, by simpa using h⟩
theorem calm_one {d : Sd} (h : SideP d.o d.s d.m) : CalmP [d] := by
  have key : ∀ {e : Sd}, SideP e.o e.s e.m → UnA [e] e.o := fun {e} he f hf => by
    rw [List.mem_singleton.mp hf]
    have := fig_at (o := e.o) (k := 0) he.md he.s0
    rw [show e.o + e.s * 0 = e.o by omega] at this
    unfold dueM
    rw [this]
    omega
  exact ⟨⟨_, key h⟩, _, key (e := mirD d) (side_mir h)⟩
theorem last_calm {ss : List Sd} (hs : ∀ d ∈ ss, SideP d.o d.s d.m) (l1 : 1 ≤ ss.length) (l4 : ss.length ≤ 4) : ∃ o ∈ subsM ss.length (ss.length - 1), CalmP (keep ss o) := by
  match ss, l1, l4, hs with
  | [a], _, _, hs => exact ⟨[], by show [] ∈ subsM 1 0; decide, calm_one (hs a (by simp))⟩
  | [a, b], _, _, hs => exact ⟨[0], by show [0] ∈ subsM 2 1; decide, calm_one (hs b (by simp))⟩
  | [a, b, c], _, _, hs => exact ⟨[0, 1], by show [0, 1] ∈ subsM 3 2; decide, calm_one (hs c (by simp))⟩
  | [a, b, c, d], _, _, hs => exact ⟨[0, 1, 2], by show [0, 1, 2] ∈ subsM 4 3; decide, calm_one (hs d (by simp))⟩
/-- the first list of the fewest -/
def FstP (ss : List Sd) (r : List Nat) : Prop := ∃ k i : Nat, k < ss.length ∧ (subsM ss.length k)[i]? = some r ∧ CalmP (keep ss r) ∧ (∀ j : Nat, j < i → ∀ o, (subsM ss.length k)[j]? = some o → ¬ CalmP (keep ss o)) ∧ ∀ k' : Nat, k' < k → ∀ o ∈ subsM ss.length k', ¬ CalmP (keep ss o)
theorem first_uniq {ss : List Sd} {r r' : List Nat} (h : FstP ss r) (h' : FstP ss r') : r = r' := by
  obtain ⟨k, i, _, a, b, c, d⟩ := h
  obtain ⟨k', i', _, a', b', c', d'⟩ := h'
  rcases Nat.lt_trichotomy k k' with e | e | e
  · exact absurd b (d' k e r (List.mem_of_getElem? a))
  · subst e
    rcases Nat.lt_trichotomy i i' with e | e | e
    · exact absurd b (c' i e r a)
    · subst e
      rw [a] at a'
      exact Option.some.inj a'
    · exact absurd b' (c i' e r' a')
  · exact absurd b' (d k' e r' (List.mem_of_getElem? a'))
/-- never too much to look at -/
def FewG (ss : List Sd) : Prop := ((ss.filter fun d : Sd => !decide (d.m = ("down" : Str))).length ≤ 2 ∧ (ss.filter fun d : Sd => !decide (d.m = ("up" : Str))).length ≤ 2) ∨ ∀ d ∈ ss, d.s ≤ 8
theorem mir_down {m : Str} (h : Mode m) (e : mir m = "down") : m = "up" := by
  rcases h with z | z | z | z | z <;> subst z
  · rw [mir_d] at e; exact absurd e d_u
  · rfl
  · rw [mir_hd] at e; exact absurd e hu_d
  · rw [mir_hu] at e; exact absurd e hd_d
  · rw [mir_he] at e; exact absurd e he_d
theorem mir_ofu : mir "up" = "down" := mir_u
theorem com_small : ∀ (ss : List Sd) (n : Nat), n ∣ 1680 → (∀ d ∈ ss, SideP d.o d.s d.m ∧ d.s ≤ 8) → ss.foldl (fun n d => n.lcm (perN d)) n ∣ 1680
  | [], n, h, _ => h
  | d :: ss, n, h, hs => by
    rw [List.foldl_cons]
    refine com_small ss _ (Nat.lcm_dvd h ?_) fun e he => hs e (List.mem_cons_of_mem _ he)
    obtain ⟨sp, s8⟩ := hs d List.mem_cons_self
    have s0 := sp.s0
    have per : perN d = d.s.toNat ∨ perN d = 2 * d.s.toNat := by
      unfold perN perM
      split
      · right; omega
      · left; rfl
    have all : ∀ a : Fin 9, 1 ≤ a.val → a.val ∣ 1680 ∧ 2 * a.val ∣ 1680 := by decide +kernel
    have l9 : d.s.toNat < 9 := by omega
    have g1 : 1 ≤ d.s.toNat := by omega
    have al := all ⟨d.s.toNat, l9⟩ g1
    obtain ⟨a, b⟩ := al
    rcases per with e | e <;> rw [e]
    · exact a
    · exact b
theorem few_sub {ss t : List Sd} (hs : ∀ d ∈ ss, SideP d.o d.s d.m) (sub : t.Sublist ss) (g : FewG ss) : FewP t ∧ FewP (t.map mirD) := by
  rcases g with ⟨g1, g2⟩ | g
  · constructor
    · refine .inl (Nat.le_trans ?_ g1)
      have e : t.filter upD = (t.filter fun d : Sd => !decide (d.m = ("down" : Str))).filter upD := by
        rw [List.filter_filter]
        refine List.filter_congr fun d _ => ?_
        by_cases z : d.m = "down"
        · have : upD d = false := by
            unfold upD
            rw [z, fi_d]
            simp
          rw [this]; rfl
        · simp [z]
      rw [e]
      exact Nat.le_trans (List.length_filter_le _ _) (List.Sublist.length_le (sub.filter _))
    · refine .inl (Nat.le_trans ?_ g2)
      rw [List.filter_map, List.length_map]
      have e : t.filter (upD ∘ mirD) = (t.filter fun d : Sd => !decide (d.m = ("up" : Str))).filter (upD ∘ mirD) := by
        rw [List.filter_filter]
        refine List.filter_congr fun d _ => ?_
        by_cases z : d.m = "up"
        · have : (upD ∘ mirD) d = false := by
            show upD (mirD d) = false
            unfold upD mirD
            show (!decide (firstM d.s (mir d.m) = "down")) = false
            rw [z, mir_u, fi_d]
            simp
          rw [this]; rfl
        · simp [z]
      rw [e]
      exact Nat.le_trans (List.length_filter_le _ _) (List.Sublist.length_le (sub.filter _))
  · have key : ∀ u : List Sd, (∀ d ∈ u, SideP d.o d.s d.m ∧ d.s ≤ 8) → comN u ≤ 100000 := fun u hu =>
      Nat.le_trans (Nat.le_of_dvd (by decide) (com_small u 1 (Nat.one_dvd _) hu)) (by decide)
    constructor
    · exact .inr (key (t.filter upD) fun d hd => ⟨hs d (sub.subset (List.mem_filter.mp hd).1), g d (sub.subset (List.mem_filter.mp hd).1)⟩)
    · refine .inr (key ((t.map mirD).filter upD) fun d hd => ?_)
      have hm := List.mem_map.mp (List.mem_filter.mp hd).1
      obtain ⟨e, he, rfl⟩ := hm
      exact ⟨side_mir (hs e (sub.subset he)), g e (sub.subset he)⟩
def spCalm : Sp := fun vs H Q _ => ∃ (l : Addr) (xs : List V) (ss : List Sd), vs = [.ref l] ∧ SidesAt H l xs ss ∧ FewG ss ∧ ∀ (R : Addr) (H' : Hp) (o : List Nat), H R = none → Same H H' → H' R = some (.lst (o.map nV)) → FstP ss o → Q (.ref R) H'
end HT
namespace HT
open PySem L2
section
variable {P : Program} {w : World} {K : PySem.W.Frag} {mg : Str → Option Value} {base : Heap} {fB fH fI fJ fL fM fN : Addr} {dB dH dI dJ dL dM dN : FuncData}
theorem ok_calm {f : Addr} {fd : FuncData} (F : Fun K "calm" "calm" s_calm f fd) (A' : AmG mg) (hen : mg "enumerate" = none) (Ls : Cal P w K mg base "check_sides" 5 ["sides"] spSides fB dB) (Ac : Cal P w K mg base "_are_calm" 109 ["sides"] spAC fH dH) (Om : Cal P w K mg base "_one_more" 1 ["lists", "many"] spOM fI dI) : FnOk P w K mg base CX0 110 f fd ["sides"] spCalm := by
  refine F.ok sc_calm (fun vs H Q E h => ?_) (fun cdv A outer s0 H vs Q E hr h => ?_)
  · obtain ⟨l, xs, ss, rfl, _⟩ := h
    rfl
  · obtain ⟨l, xs, ss, rfl, SS, fg, q⟩ := h
    have nd := sc_calm.nd
    refine ⟨_, pss_cons (ps_expr (pcl Ls hr (by decide) (by rfl) (pa_cons (pv 0) pa_nil)))
      (pss_cons (ps_set (i := 1) nd rfl (Or.inl rfl) (pe_lst (pa_cons (pe_lst pa_nil) pa_nil)))
      (pss_one (ps_while PassesOwn.never (pt_val pe_bl)
        (pss_cons (ps_for PassesOwn.never rfl (pi_list (pv 1)) (pg_name (i := 2) nd rfl (Or.inr rfl))
          (pss_one (ps_if (pt_val (pcl Ac hr (by decide) (by rfl) (pa_cons (pe_lc (own := [("number", 3), ("side", 4)]) (g := gTup K 2 (gCons (gName 3) (gCons (gName 4) gNil))) rfl nd (pi_enum (by rfl) hen (pa_cons (pv 0) pa_nil)) (blkOk_by (N := ["sides", "left_out", "numbers", "number", "side"]) (sc := defScope s_calm) (by decide +kernel))
            (fun _ _ _ _ _ => pg_tup (by rfl) (pgs_cons (pg_name (i := 3) nd rfl (Or.inl rfl)) (pgs_cons (pg_name (i := 4) nd rfl (Or.inl rfl)) pgs_nil))) (fun _ _ _ _ _ => pts_one (pt_cmpR (show OpR _ _ (rIn K true) from op_notIn_seq) (pv 3) (pv 2) (by rfl)))
            (fun _ _ _ _ _ => pv 4)) pa_nil))) (pss_one (ps_ret (pv 2))) pss_nil)))
        (pss_one (ps_set (i := 1) nd rfl (Or.inl rfl) (pcl Om hr (by decide) (by rfl) (pa_cons (pv 1) (pa_cons (pe_callB call_len_seq (by rfl) A'.len PySem.boot_len (pa_cons (pv 0) pa_nil)) pa_nil))))))))), ?_⟩
    walk_at "rd"
    refine ⟨l, xs, ss, rfl, SS, ?_⟩
    walk_at "rd"
    refine ⟨(by show 0 ≤ sizeLine; decide), fun p1 m1 => ?_⟩
    have w1 : Same H (upd H p1 (.lst [])) := fun b u z => (upd_ne (ne_of_none z m1)).trans z
    have f1 : upd H p1 (.lst []) p1 = some (.lst []) := upd_same
    generalize upd H p1 (.lst []) = H1 at w1 f1 ⊢
    walk_at "rd"
    refine ⟨(by show 1 ≤ sizeLine; decide), fun p2 m2 => ?_⟩
    have w2 : Same H1 (upd H1 p2 (.lst [.ref p1])) := fun b u z => (upd_ne (ne_of_none z m2)).trans z
    have f2 : upd H1 p2 (.lst [.ref p1]) p2 = some (.lst [.ref p1]) := upd_same
    generalize upd H1 p2 (.lst [.ref p1]) = H2 at w2 f2 ⊢
    walk_at "rd"
    have l1 := SS.l1
    have l4 := SS.l4
    refine ⟨fun m st H' => ∃ (L : Addr) (k : Nat) (x2 x3 x4 : Option V), m = ss.length - k ∧ st = [some (.ref l), some (.ref L), x2, x3, x4] ∧ Same H H' ∧ OrdsAt H H' L (subsM ss.length k) ∧ k < ss.length ∧ ∀ k', k' < k → ∀ o ∈ subsM ss.length k', ¬ CalmP (keep ss o), ⟨_, p2, 0, none, none, none, rfl, rfl, w1.trans w2, ⟨[p1], f2, rfl, ?_, ?_⟩, l1, fun k' h => absurd h (Nat.not_lt_zero _)⟩, ?_⟩
    · intro i p o hp ho
      match i, hp, ho with
      | 0, hp, ho => cases hp; cases ho; exact w2 _ _ f1
      | i + 1, hp, ho => cases hp
    · intro p hp
      rw [List.mem_singleton.mp hp]
      exact m1
    rintro m st H' ⟨L, k, x2, x3, x4, rfl, rfl, sm, OA, hk, no⟩
    obtain ⟨ps, hL, lp, at_, fr⟩ := id OA
    obtain ⟨s24, sok⟩ := subs_ok l4 hk
    walk_at "rd"
    refine ite2 (fun _ => ?_) (fun z => (z rfl).elim)
    refine ⟨fun σ' H'' => ∃ (L' : Addr) (x2 x3 x4 : Option V), σ' = [some (.ref l), some (.ref L'), x2, x3, x4] ∧ Same H H'' ∧ OrdsAt H H'' L' (subsM ss.length (k + 1)) ∧ k + 1 < ss.length ∧ ∀ k', k' < k + 1 → ∀ o ∈ subsM ss.length k', ¬ CalmP (keep ss o), fun σ' H'' ⟨L', x2, x3, x4, e1, e2, e3, e4, e5⟩ => ⟨_, by omega, L', k + 1, x2, x3, x4, rfl, e1, e2, e3, e4, e5⟩, ?_⟩
    walk_at "rd"
    refine ⟨⟨_, SqL.of hL⟩, ?_⟩
    refine for_list (K := K) (a := L) (xs := ps.map V.ref) (fun i st H3 => ∃ x2 x3 x4 : Option V, st = [some (.ref l), some (.ref L), x2, x3, x4] ∧ Same H' H3 ∧ ∀ j, j < i → ∀ o, (subsM ss.length k)[j]? = some o → ¬ CalmP (keep ss o)) ⟨x2, x3, x4, rfl, Same.refl _, fun j h => absurd h (Nat.not_lt_zero _)⟩ (fun _ _ _ _ ⟨_, _, _, _, s, _⟩ => SqL.of (s _ _ hL)) ?_ ?_
    · rintro i y st H3 hy ⟨y2, y3, y4, rfl, s3, noi⟩
      obtain ⟨p, hp, rfl⟩ : ∃ p, ps[i]? = some p ∧ y = .ref p := by
        rw [List.getElem?_map] at hy
        cases e : ps[i]? with
        | none => rw [e] at hy; cases hy
        | some p => rw [e] at hy; exact ⟨p, rfl, (Option.some.inj hy).symm⟩
      have il : i < (subsM ss.length k).length := by rw [← lp]; exact (List.getElem?_eq_some_iff.mp hp).1
      obtain ⟨o, ho⟩ : ∃ o, (subsM ss.length k)[i]? = some o := ⟨_, List.getElem?_eq_getElem il⟩
      have po := at_ i p o hp ho
      obtain ⟨o4, oi, oin, oic⟩ := sok o (List.mem_of_getElem? ho)
      have S3 := SS.same (sm.trans s3)
      walk_at "rd"
      refine ⟨l, _, rfl, SqL.of S3.hl, fun D nD => ?_⟩
      refine gen_enum (K := K) (a := l) (xs := xs) (fun i2 H5 => ∃ ys : List V, H5 D = some (.lst ys) ∧ ys.length = (keepJ ss o i2).length ∧ i2 ≤ ss.length ∧ Same H3 H5 ∧ (∀ (j : Nat) (d : Sd), (keepJ ss o i2)[j]? = some d → ∃ p : Addr, ys[j]? = some (V.ref p) ∧ H5 p = some (sideV d.o d.s d.m) ∧ SideP d.o d.s d.m))
        ⟨[], upd_same, rfl, Nat.zero_le _, fun b u z => (upd_ne (ne_of_none z nD)).trans z, fun j d z => by cases z⟩ (fun _ _ _ ⟨_, _, _, _, s5, _⟩ => SqL.of (s5 _ _ S3.hl)) ?_ ?_
      · rintro i2 y2' H5 hy2 ⟨ys, hD, ly, li, s5, at5⟩ T nT
        obtain ⟨d, p2, ed, rfl, hp2, sp⟩ := SS.item hy2
        have il2 : i2 < ss.length := (List.getElem?_eq_some_iff.mp ed).1
        have fT : upd H5 T (.tup [.int (i2 : Nat), .ref p2]) T = some (.tup [.int (i2 : Nat), .ref p2]) := upd_same
        have s56 : Same H5 (upd H5 T (.tup [.int (i2 : Nat), .ref p2])) := fun b u z => (upd_ne (ne_of_none z nT)).trans z
        generalize upd H5 T (.tup [.int (i2 : Nat), .ref p2]) = H6 at fT s56 ⊢
        have hD6 := s56 _ _ hD
        have sH6 : Same H3 H6 := s5.trans s56
        refine ⟨T, _, rfl, SqT.of fT, rfl, _, _, rfl, _, _, rfl, rfl, ?_⟩
        refine ⟨rfl, ?_⟩
        walk_at "rd"
        refine ⟨p, _, rfl, .inl (SqL.of (sH6 _ _ (s3 _ _ po))), rfl, all_flat o, ?_⟩
        rw [show inV (V.int ((i2 : Nat) : Int)) (o.map nV) = o.contains i2 from inV_nat i2 o]
        refine ⟨_, rfl, ?_⟩
        refine ite2 (fun z => ?_) (fun z => ?_)
        · have nc : ¬ o.contains i2 = true := fun y => not_t z y
          walk_at "rd"
          refine ⟨_, hD6, ?_, ys ++ [.ref p2], upd_same, ?_, il2, ?_, ?_⟩
          · rw [ly]
            exact Nat.lt_of_le_of_lt (Nat.le_trans (List.Sublist.length_le (keepJ_sub ss o i2)) (Nat.le_trans (List.length_take_le' _ _) l4)) (by decide)
          · rw [keepJ_succ ed, if_neg nc, List.length_append, List.length_append, ly]
            rfl
          · intro b u y
            exact (upd_ne (ne_of_none y nD)).trans (sH6 _ _ y)
          · rw [keepJ_succ ed, if_neg nc]
            have g := sH6 _ _ (s3 _ _ (sm _ _ hp2))
            exact grow_side at5 ly (fun b u y nb => (upd_ne nb).trans (s56 _ _ y)) hD ((upd_ne (ne_of g hD6 (by intro y; cases y))).trans g) sp
        · have hc : o.contains i2 = true := not_f z
          refine ⟨ys, hD6, ?_, il2, sH6, ?_⟩
          · rw [keepJ_succ ed, if_pos hc, List.append_nil]
            exact ly
          · rw [keepJ_succ ed, if_pos hc, List.append_nil]
            intro j e he
            obtain ⟨p3, g1, g2, g3⟩ := at5 j e he
            exact ⟨p3, g1, s56 _ _ g2, g3⟩
      · rintro H5 ⟨ys, hD, ly, li, s5, at5⟩
        rw [SS.len] at ly at5
        have kp := keepJ_pos oin oic ss.length oin
        have SK : SidesAt H5 D ys (keep ss o) := ⟨hD, ly, kp, Nat.le_trans (List.Sublist.length_le (keep_sub ss o)) l4, at5⟩
        obtain ⟨f1, f2⟩ := few_sub SS.side (keep_sub ss o) fg
        refine ⟨D, ys, keep ss o, rfl, SK, f1, f2, fun b H6 hb s6 => ?_⟩
        walk_at "rd"
        refine ite2 (fun z => ?_) (fun z => ?_)
        · walk_at "rd"
          refine q p H6 o (fr p (List.mem_of_getElem? hp)) (sm.trans (s3.trans (s5.trans s6))) (s6 _ _ (s5 _ _ (s3 _ _ po))) ⟨k, i, hk, ho, hb.mp z, noi, no⟩
        · refine ⟨_, _, _, rfl, s3.trans (s5.trans s6), fun j hj o' ho' => ?_⟩
          by_cases e : j = i
          · subst e
            rw [ho] at ho'
            cases ho'
            exact fun c => z (hb.mpr c)
          · exact noi j (by omega) o' ho'
    · rintro st H3 ⟨y2, y3, y4, rfl, s3, noi⟩
      rw [List.length_map, lp] at noi
      have noK : ∀ o ∈ subsM ss.length k, ¬ CalmP (keep ss o) := fun o ho => by
        obtain ⟨j, hj, e⟩ := List.mem_iff_getElem.mp ho
        exact noi j hj o (by rw [← e]; exact List.getElem?_eq_getElem hj)
      have k1 : k + 1 < ss.length := by
        by_cases e : k + 1 < ss.length
        · exact e
        · exfalso
          obtain ⟨o, ho, c⟩ := last_calm SS.side l1 l4
          rw [show ss.length - 1 = k by omega] at ho
          exact noK o ho c
      have OA3 : OrdsAt H H3 L (subsM ss.length k) := ⟨ps, s3 _ _ hL, lp, fun i p o a b => s3 _ _ (at_ i p o a b), fr⟩
      walk_at "rd"
      refine ⟨l, _, rfl, .inl (SqL.of (SS.same (sm.trans s3)).hl), ?_⟩
      refine ⟨L, subsM ss.length k, ss.length, H, (by show [V.ref L, V.int (xs.length : Int)] = _; rw [SS.len]), OA3, sm.trans s3, l4, by omega, fun o ho => (sok o ho).1, fun L' H4 s4 OA4 => ?_⟩
      refine ⟨L', _, _, _, rfl, sm.trans (s3.trans s4), OA4, k1, fun k' hk' o ho => ?_⟩
      by_cases e : k' = k
      · subst e; exact noK o ho
      · exact no k' (by omega) o ho
end
end HT
namespace HT
open PySem L2
section
variable {P : Program} {w : World} {K : PySem.W.Frag} {mg : Str → Option Value} {base : Heap}
/-- both promises of a def -/
theorem or_ok {CX : CXT} {k : Nat} {f : Addr} {fd : FuncData} {ps : List Str} {sp sp' : Sp} (F : FnOk P w K mg base CX k f fd ps sp) (G : FnOk P w K mg base CX k f fd ps sp') : FnOk P w K mg base CX k f fd ps (fun vs H Q E => sp vs H Q E ∨ sp' vs H Q E) :=
  ⟨fun vs H Q E h => h.elim (F.len vs H Q E) (G.len vs H Q E), fun A outer s H args us vs Q E hr he hb hv hs => hs.elim (F.run A outer s H args us vs Q E hr he hb hv) (G.run A outer s H args us vs Q E hr he hb hv)⟩
end
end HT
namespace HT
open PySem L2
section
variable {P : Program} {w : World} {K : PySem.W.Frag} {mg : Str → Option Value} {base : Heap}
/-- a def that lets nothing out keeps its promise among errors too -/
theorem to_x {k : Nat} {f : Addr} {fd : FuncData} {ps : List Str} {sp : Sp} (F : FnOk P w K mg base CX0 k f fd ps sp) : FnOk P w K mg base (L2.CX P w) k f fd ps sp :=
  ⟨F.len, fun A outer s H args us vs Q E hr he hb hv hs => codeAny_mono (F.run A outer s H args us vs Q E hr he hb hv hs) fun r s' h => by
    unfold CR at h ⊢
    split at h
    · exact h
    · exact h
    · exact h.elim⟩
def spNo : Sp := fun _ _ _ _ => False
end
end HT
namespace HT
open PySem L2
/-- a thing of any kind, with its type's name -/
inductive Th (H : Hp) : V → String → Prop where
  | int (i : Int) : Th H (.int i) "int"
  | bl (b : Bool) : Th H (.bl b) "bool"
  | non : Th H .non "NoneType"
  | str (s : Str) : Th H (.str s) "str"
  | tup {p : Addr} {xs : List V} (h : H p = some (.tup xs)) : Th H (.ref p) "tuple"
  | lst {p : Addr} {xs : List V} (h : H p = some (.lst xs)) : Th H (.ref p) "list"
  | dk {p : Addr} {kvs : List (Key × V)} (h : H p = some (.dK kvs)) : Th H (.ref p) "dict"
theorem Th.ty {K : PySem.W.Frag} {H : Hp} {x : V} {n : String} (t : Th H x n) : TyX K H x (.type n) := by
  cases t with
  | int i => exact .base (.int i)
  | bl b => exact .base (.bl b)
  | non => exact .base .non
  | str s => exact .base (.str s)
  | tup h => exact .base (.tup h)
  | lst h => exact .base (.lst h)
  | dk h => exact .base (.dK h)
theorem Th.kint {K : PySem.W.Frag} {H : Hp} {x : V} {n : String} (t : Th H x n) : PySem.W.kitOne K (.type n) (.type "int") = some (n == "int" || n == "bool") := by
  cases t <;> exact kit_ty (by decide +kernel)
theorem Th.kbool {K : PySem.W.Frag} {H : Hp} {x : V} {n : String} (t : Th H x n) : PySem.W.kitOne K (.type n) (.type "bool") = some (n == "bool") := by
  cases t <;> exact kit_ty (by decide +kernel)
theorem Th.ktup {K : PySem.W.Frag} {H : Hp} {x : V} {n : String} (t : Th H x n) : PySem.W.kitOne K (.type n) (.type "tuple") = some (n == "tuple") := by
  cases t <;> exact kit_ty (by decide +kernel)
theorem Th.klst {K : PySem.W.Frag} {H : Hp} {x : V} {n : String} (t : Th H x n) : PySem.W.kitOne K (.type n) (.type "list") = some (n == "list") := by
  cases t <;> exact kit_ty (by decide +kernel)
theorem Th.same {H H' : Hp} {x : V} {n : String} (t : Th H x n) (s : Same H H') : Th H' x n := by
  cases t with
  | int i => exact .int i
  | bl b => exact .bl b
  | non => exact .non
  | str x => exact .str x
  | tup h => exact .tup (s _ _ h)
  | lst h => exact .lst (s _ _ h)
  | dk h => exact .dk (s _ _ h)
def isI (n : String) : Bool := n == "int"
def spIsAny : Sp := fun vs H Q _ => ∃ (x : V) (n : String), vs = [x] ∧ Th H x n ∧ Q (.bl (isI n)) H
/-- an int between the ends -/
def inB (x : V) (a b : Int) : Bool := match x with
  | .int i => decide (a ≤ i) && decide (i ≤ b)
  | _ => false
def spBetAny : Sp := fun vs H Q _ => ∃ (x : V) (n : String) (a b : Int), vs = [x, .int a, .int b] ∧ Th H x n ∧ Q (.bl (inB x a b)) H
/-- the names that the text of checks does not bind -/
structure ChkT (mg : Str → Option Value) : Prop where
  isi : mg "isinstance" = none
  int : mg "int" = none
  bool : mg "bool" = none
  tuple : mg "tuple" = none
  list : mg "list" = none
  len : mg "len" = none
section
variable {P : Program} {w : World} {K : PySem.W.Frag} {mg : Str → Option Value} {base : Heap} {fI : Addr} {dI : FuncData}
theorem ok_is_any {f : Addr} {fd : FuncData} (F : Fun K "is_int" "is_int" s_is_int f fd) (T : ChkT mg) : FnOk P w K mg base CX0 1 f fd ["thing"] spIsAny := by
  refine F.ok sc_is_int (fun vs H Q E h => ?_) (fun cdv A outer s H vs Q E hr h => ?_)
  · obtain ⟨x, n, rfl, _⟩ := h
    rfl
  · obtain ⟨x, n, rfl, t, q⟩ := h
    refine ⟨_, pss_one (ps_ret (pe_and (pe_callB call_isi (by rfl) T.isi (by decide +kernel) (pa_cons (pv 0) (pa_cons (pe_bltn (v := .ty "int") (by rfl) T.int (by decide +kernel) rfl) pa_nil)))
      (pe_one (pe_not (pe_callB call_isi (by rfl) T.isi (by decide +kernel) (pa_cons (pv 0) (pa_cons (pe_bltn (v := .ty "bool") (by rfl) T.bool (by decide +kernel) rfl) pa_nil))))))), ?_⟩
    walk_at "rd"
    refine ⟨_, _, _, _, _, rfl, .ty "int", t.ty, t.kint, ?_⟩
    walk_at "rd"
    refine ite2 (fun h => ?_) (fun h => ?_)
    · walk_at "rd"
      refine ⟨_, _, _, _, _, rfl, .ty "bool", t.ty, t.kbool, ?_⟩
      walk_at "rd"
      have e : (!(n == "bool")) = isI n := by
        cases t <;> first | rfl | exact absurd h (by decide)
      rw [e]
      exact q
    · have e : isI n = false := by
        cases t <;> first | rfl | exact absurd (by decide) h
      rw [e] at q
      exact q
theorem ok_bet_any {f : Addr} {fd : FuncData} (F : Fun K "is_int_between" "is_int_between" s_is_int_between f fd) (I : Cal P w K mg base "is_int" 1 ["thing"] spIsAny fI dI) : FnOk P w K mg base CX0 2 f fd ["thing", "least", "most"] spBetAny := by
  refine F.ok sc_is_int_between (fun vs H Q E h => ?_) (fun cdv A outer s H vs Q E hr h => ?_)
  · obtain ⟨x, n, a, b, rfl, _⟩ := h
    rfl
  · obtain ⟨x, n, a, b, rfl, t, q⟩ := h
    refine ⟨_, pss_one (ps_ret (pe_and (pcl I hr (by decide) (by rfl) (pa_cons (pv 0) pa_nil)) (pe_one (pe_chain op_le op_le (pv 1) (pv 0) (pv 2))))), ?_⟩
    walk_at "rd"
    refine ⟨x, n, rfl, t, ?_⟩
    cases t with
    | int i =>
      walk_at "rd"
      refine ite2 (fun h => ?_) (fun h => ?_)
      · walk_at "rd"
        change Q (.bl (decide (a ≤ i) && decide (i ≤ b))) H at q
        rw [decide_eq_true (of_decide_eq_true h)] at q
        exact q
      · change Q (.bl (decide (a ≤ i) && decide (i ≤ b))) H at q
        rw [decide_eq_false (of_decide_eq_false (by simpa using h))] at q
        exact q
    | _ => exact ⟨_, rfl, q⟩
end
end HT
namespace HT
open PySem L2
def modesD : List PyData := [.str "down", .str "up", .str "half_down", .str "half_up", .str "half_even"]
/-- a mode's place is taken by something else -/
def NoMode (d : PyData) : Prop := SeqAt.shaped d = true ∧ (modesD.any fun z => PyData.eqv z d) = false
/-- the four classes by number, and their base class at B -/
structure Er (K : PySem.W.Frag) (mg : Str → Option Value) (C : Nat → Addr) (B : Addr) : Prop where
  isi : mg "isinstance" = none
  ve : mg "ValueError" = none
  gB : mg "HandedError" = some (.ref B)
  g0 : mg "InvalidSide" = some (.ref (C 0))
  g1 : mg "InvalidSides" = some (.ref (C 1))
  g2 : mg "TooMany" = some (.ref (C 2))
  g3 : mg "InvalidValue" = some (.ref (C 3))
  kit : ∀ i j, i < 4 → j < 4 → PySem.W.kitOne K (.ref (C i)) (.ref (C j)) = some (decide (i = j))
  kitV : ∀ i, i < 4 → PySem.W.kitOne K (.ref (C i)) (.type "ValueError") = some true
  ec : ∀ i, i < 4 → ErrC K (C i)
  eg : ErrG K
  ex : ∀ i, i < 4 → PySem.W.excIn K (C i) [.type "ValueError", .type "Exception", .type "BaseException", .type "object"] "ValueError.__new__" = true
  kp : ∀ i, i < 4 → PySem.W.keepIn K (.ref (C i)) = true
  sb : ∀ i, i < 4 → PySem.W.subIn K (.ref (C i)) (.type "BaseException") = some true
  ty : ∀ i, i < 4 → PySem.W.typeIn K (.ref (C i)) = some (.type "type")
  emB : ∀ i, i < 4 → PySem.W.exmOne K (.ref (C i)) (.ref B) = some true
  em0 : PySem.W.exmOne K (.ref (C 0)) (.ref (C 0)) = some true
/-- flat data, and a list of one text -/
inductive Fl (H : Hp) : V → PyData → Prop where
  | non : Fl H .non .none
  | bl (b : Bool) : Fl H (.bl b) (.bool b)
  | int (i : Int) : Fl H (.int i) (.int i)
  | str (s : Str) : Fl H (.str s) (.str s)
  | one {l : Addr} {s : Str} (h : H l = some (.lst [.str s])) : Fl H (.ref l) (.list [.str s])
theorem Fl.dp {K : PySem.W.Frag} {H : Hp} {c : V} {d : PyData} (f : Fl H c d) : Dp K H c d := by
  cases f with
  | non => exact .non
  | bl b => exact .bl b
  | int i => exact .int i
  | str s => exact .str s
  | one h => exact .lst (SqL.of h) (.cons (.str _) .nil)
theorem Fl.same {H H' : Hp} {c : V} {d : PyData} (f : Fl H c d) (s : Same H H') : Fl H' c d := by
  cases f with
  | non => exact .non
  | bl b => exact .bl b
  | int i => exact .int i
  | str x => exact .str x
  | one h => exact .one (s _ _ h)
/-- no side -/
inductive BadS (K : PySem.W.Frag) (H : Hp) : V → Prop where
  | kind {x : V} {n : String} (t : Th H x n) (h : (n == "tuple") = false) : BadS K H x
  | len {p : Addr} {xs : List V} (hp : H p = some (.tup xs)) (h : ¬ xs.length = 3) : BadS K H (.ref p)
  | off {p : Addr} {a b c : V} {n : String} (hp : H p = some (.tup [a, b, c])) (t : Th H a n) (h : inB a (-10 ^ 40) (10 ^ 40) = false) : BadS K H (.ref p)
  | stp {p : Addr} {a b c : V} {n m : String} (hp : H p = some (.tup [a, b, c])) (t : Th H a n) (h : inB a (-10 ^ 40) (10 ^ 40) = true) (u : Th H b m) (g : inB b 1 (10 ^ 30) = false) : BadS K H (.ref p)
  | mod {p : Addr} {a b c : V} {n m : String} {d : PyData} (hp : H p = some (.tup [a, b, c])) (t : Th H a n) (h : inB a (-10 ^ 40) (10 ^ 40) = true) (u : Th H b m) (g : inB b 1 (10 ^ 30) = true) (dp : Fl H c d) (hd : NoMode d) : BadS K H (.ref p)
theorem BadS.same {K : PySem.W.Frag} {H H' : Hp} {x : V} (b : BadS K H x) (e : Same H H') : BadS K H' x := by
  cases b with
  | kind t h => exact .kind (t.same e) h
  | len hp h => exact .len (e _ _ hp) h
  | off hp t h => exact .off (e _ _ hp) (t.same e) h
  | stp hp t h u g => exact .stp (e _ _ hp) (t.same e) h (u.same e) g
  | mod hp t h u g dp hd => exact .mod (e _ _ hp) (t.same e) h (u.same e) g (dp.same e) hd
def GoodS (H : Hp) (x : V) : Prop := ∃ (p : Addr) (o s : Int) (m : Str), x = .ref p ∧ H p = some (sideV o s m) ∧ SideP o s m
def spValX (C : Nat → Addr) : Sp := fun vs H Q E => ∃ (x : V) (n : String), vs = [x] ∧ Th H x n ∧ (isI n = true → Q .non H) ∧ (isI n = false → E (.ref (C 3)) none H)
def spSideX (K : PySem.W.Frag) (C : Nat → Addr) : Sp := fun vs H Q E => ∃ x : V, vs = [x] ∧ ((GoodS H x ∧ Q .non H) ∨ (BadS K H x ∧ E (.ref (C 0)) none H))
def rNotInT (K : PySem.W.Frag) : R2 := fun x y H Q => ∃ d ds, Dp K H x d ∧ Dp K H y (.tuple ds) ∧ SeqAt.shaped d = true ∧ PyData.canLayAll0 ds = true ∧ PyData.depthAll ds ≤ 60 ∧ Q (.bl (!ds.any fun z => PyData.eqv z d)) H
theorem op_notInT {X : Cx} (hu : X.A.units + 64 < cLine) : OpR X (compareOp .NotIn) (rNotInT X.K) := by
  intro pins sh st H x y v u Q iv rx ry h
  obtain ⟨d, ds, hd, he, sd, se, sz, q⟩ := h
  obtain ⟨as, r1⟩ := Dp.reads iv d x v hd rx
  obtain ⟨bs, r2⟩ := Dp.reads iv (.tuple ds) y u he ry
  refine SeqAt.notIn_tuple_reads r2 r1 se (SeqAt.canLay_of_shaped sd) ?_ ⟨.bl _, H, iv, rfl, q⟩
  have : min (PyData.depthAll ds) d.depth ≤ PyData.depthAll ds := Nat.min_le_left _ _
  omega
/-- the table of modes -/
structure ModT (K : PySem.W.Frag) (mg : Str → Option Value) (aM : Addr) : Prop where
  gM : mg "MODES" = some (.ref aM)
  tM : ∀ H, SqT K H aM modesV
theorem dpModes {K : PySem.W.Frag} {H : Hp} {aM : Addr} (t : SqT K H aM modesV) : Dp K H (.ref aM) (.tuple modesD) := .tup t (.cons (.str _) (.cons (.str _) (.cons (.str _) (.cons (.str _) (.cons (.str _) .nil)))))
theorem mode_inX {m : Str} (h : Mode m) : SeqAt.shaped (.str m) = true ∧ (modesD.any fun z => PyData.eqv z (.str m)) = true := by
  rcases h with e | e | e | e | e <;> subst e <;> decide +kernel
section
variable {P : Program} {w : World} {K : PySem.W.Frag} {mg : Str → Option Value} {base : Heap} {aM fI fB fV fC fL fN fW B : Addr} {dI dB dV dC dL dN dW : FuncData} {C : Nat → Addr}
theorem ok_val_x {f : Addr} {fd : FuncData} (F : Fun K "check_value" "check_value" s_check_value f fd) (R : Er K mg C B) (I : Cal P w K mg base "is_int" 1 ["thing"] spIsAny fI dI) : FnOk P w K mg base (L2.CX P w) 2 f fd ["value"] (spValX C) := by
  refine F.okX sc_check_value (fun vs H Q E h => ?_) (fun cdv A outer s H vs Q E hr h => ?_)
  · obtain ⟨x, n, rfl, _⟩ := h
    rfl
  · obtain ⟨x, n, rfl, t, q1, q2⟩ := h
    refine ⟨_, pss_one (ps_if (pt_not (pt_val (pcl I hr (by decide) (by rfl) (pa_cons (pv 0) pa_nil)))) (pss_one (ps_raise rfl (takes_of rfl rfl rfl rfl) (pmk_own PySem.F.excBase_ValueError (R.ex 3 (by decide)) R.g3 (R.kp 3 (by decide)) (raises_own (R.sb 3 (by decide)) (R.ty 3 (by decide))) (by rfl)))) pss_nil), ?_⟩
    walk_at "rd"
    refine ⟨x, n, rfl, t, ?_⟩
    walk_at "rd"
    refine ite2 (fun h => ?_) (fun h => ?_)
    · exact q2 (by simpa using h)
    · exact q1 (not_f h)
end
end HT
namespace HT
open PySem L2
section
variable {P : Program} {w : World} {K : PySem.W.Frag} {mg : Str → Option Value} {base : Heap} {aM fI fB fV fC fL fN fW B : Addr} {dI dB dV dC dL dN dW : FuncData} {C : Nat → Addr}
theorem ok_side_x {f : Addr} {fd : FuncData} (F : Fun K "check_side" "check_side" s_check_side f fd) (T : ChkT mg) (M : ModT K mg aM) (R : Er K mg C B) (Bt : Cal P w K mg base "is_int_between" 2 ["thing", "least", "most"] spBetAny fB dB) : FnOk P w K mg base (L2.CX P w) 3 f fd ["side"] (spSideX K C) := by
  refine F.okAny sc_check_side (fun vs H Q E h => ?_) (fun cdv A outer s0 H vs Q E hr h => ?_)
  · obtain ⟨x, rfl, _⟩ := h
    rfl
  · obtain ⟨x, rfl, h⟩ := h
    have nd := sc_check_side.nd
    refine ⟨_, pss_cons (ps_if (PW.pt (pw_or (pt_not (pt_val (pe_callB call_isi (by rfl) T.isi (by decide +kernel) (pa_cons (pv 0) (pa_cons (pe_bltn (v := .ty "tuple") (by rfl) T.tuple (by decide +kernel) rfl) pa_nil)))))
        (pw_or1 (pt_cmpR op_ne (pe_callB call_len_seq (by rfl) T.len PySem.boot_len (pa_cons (pv 0) pa_nil)) pe_int (nomark _))))) (pss_one (ps_raise rfl (takes_of rfl rfl rfl rfl) (pmk_own PySem.F.excBase_ValueError (R.ex 0 (by decide)) R.g0 (R.kp 0 (by decide)) (raises_own (R.sb 0 (by decide)) (R.ty 0 (by decide))) (by rfl)))) pss_nil)
      (pss_cons (ps_asg (pv 0) (pg_tup (by rfl) (pgs_cons (pg_name (i := 1) nd rfl (Or.inl rfl)) (pgs_cons (pg_name (i := 2) nd rfl (Or.inl rfl)) (pgs_cons (pg_name (i := 3) nd rfl (Or.inl rfl)) pgs_nil)))))
      (pss_cons (ps_if (pt_not (pt_val (pcl Bt hr (by decide) (by rfl) (pa_cons (pv 1) (pa_cons (pe_un un_neg (pe_op op_pow pe_int pe_int)) (pa_cons (pe_op op_pow pe_int pe_int) pa_nil)))))) (pss_one (ps_raise rfl (takes_of rfl rfl rfl rfl) (pmk_own PySem.F.excBase_ValueError (R.ex 0 (by decide)) R.g0 (R.kp 0 (by decide)) (raises_own (R.sb 0 (by decide)) (R.ty 0 (by decide))) (by rfl)))) pss_nil)
      (pss_cons (ps_if (pt_not (pt_val (pcl Bt hr (by decide) (by rfl) (pa_cons (pv 2) (pa_cons pe_int (pa_cons (pe_op op_pow pe_int pe_int) pa_nil)))))) (pss_one (ps_raise rfl (takes_of rfl rfl rfl rfl) (pmk_own PySem.F.excBase_ValueError (R.ex 0 (by decide)) R.g0 (R.kp 0 (by decide)) (raises_own (R.sb 0 (by decide)) (R.ty 0 (by decide))) (by rfl)))) pss_nil)
      (pss_one (ps_if (pt_cmpR (op_notInT hr.units) (pv 3) (pe_glob (v := .ref aM) (by rfl) M.gM rfl) (by rfl)) (pss_one (ps_raise rfl (takes_of rfl rfl rfl rfl) (pmk_own PySem.F.excBase_ValueError (R.ex 0 (by decide)) R.g0 (R.kp 0 (by decide)) (raises_own (R.sb 0 (by decide)) (R.ty 0 (by decide))) (by rfl)))) pss_nil))))), ?_⟩
    walk_at "rd"
    rcases h with ⟨⟨p, o, s, m, rfl, hp, S⟩, q⟩ | ⟨bad, q⟩
    · refine ⟨_, _, _, _, _, rfl, .ty "tuple", .base (.tup hp), kit_ty (r := true) (by decide +kernel), ?_⟩
      walk_at "rd"
      refine ⟨p, _, rfl, .inr (SqT.of hp), rfl, ?_⟩
      walk_at "rd"
      refine ⟨p, _, rfl, SqT.of hp, rfl, _, _, rfl, _, _, rfl, _, _, rfl, rfl, ?_⟩
      walk_at "rd"
      refine ⟨⟨by decide, by decide, by decide⟩, ?_⟩
      walk_at "rd"
      refine ⟨⟨by decide, by decide, by decide⟩, _, _, _, _, rfl, .int o, ?_⟩
      have e1 : inB (.int o) (-(10 : Int) ^ (40 : Int).toNat) ((10 : Int) ^ (40 : Int).toNat) = true := by
        show (decide (-(10 : Int) ^ (40 : Int).toNat ≤ o) && decide (o ≤ (10 : Int) ^ (40 : Int).toNat)) = true
        rw [decide_eq_true (show -(10 : Int) ^ (40 : Int).toNat ≤ o from S.o0), decide_eq_true (show o ≤ (10 : Int) ^ (40 : Int).toNat from S.o1)]
        rfl
      refine ⟨_, rfl, ?_⟩
      refine ite2 (fun h => (not_t h e1).elim) (fun _ => ?_)
      walk_at "rd"
      refine ⟨⟨by decide, by decide, by decide⟩, _, _, _, _, rfl, .int s, ?_⟩
      have e2 : inB (.int s) 1 ((10 : Int) ^ (30 : Int).toNat) = true := by
        show (decide ((1 : Int) ≤ s) && decide (s ≤ (10 : Int) ^ (30 : Int).toNat)) = true
        rw [decide_eq_true S.s0, decide_eq_true (show s ≤ (10 : Int) ^ (30 : Int).toNat from S.s1)]
        rfl
      refine ⟨_, rfl, ?_⟩
      refine ite2 (fun h => (not_t h e2).elim) (fun _ => ?_)
      walk_at "rd"
      refine ⟨_, _, .str m, dpModes (M.tM H), (mode_inX S.md).1, by decide +kernel, by decide +kernel, ?_⟩
      walk_at "rd"
      refine ite2 (fun h => (not_t h (mode_inX S.md).2).elim) (fun _ => ?_)
      exact q
    · cases bad with
      | kind t h =>
        refine ⟨_, _, _, _, _, rfl, .ty "tuple", t.ty, t.ktup, ?_⟩
        walk_at "rd"
        refine ite2 (fun _ => ?_) (fun z => absurd (by rw [h]; rfl) z)
        exact q
      | len hp h =>
        refine ⟨_, _, _, _, _, rfl, .ty "tuple", .base (.tup hp), kit_ty (r := true) (by decide +kernel), ?_⟩
        walk_at "rd"
        refine ⟨_, _, rfl, .inr (SqT.of hp), ?_⟩
        walk_at "rd"
        refine ⟨rfl, ?_⟩
        walk_at "rd"
        refine ite2 (fun _ => q) (fun z => absurd ?_ z)
        rw [dec_int, decide_eq_false (fun y => h (by omega))]
        rfl
      | off hp t h =>
        refine ⟨_, _, _, _, _, rfl, .ty "tuple", .base (.tup hp), kit_ty (r := true) (by decide +kernel), ?_⟩
        walk_at "rd"
        refine ⟨_, _, rfl, .inr (SqT.of hp), rfl, ?_⟩
        walk_at "rd"
        refine ⟨_, _, rfl, SqT.of hp, rfl, _, _, rfl, _, _, rfl, _, _, rfl, rfl, ?_⟩
        walk_at "rd"
        refine ⟨⟨by decide, by decide, by decide⟩, ?_⟩
        walk_at "rd"
        refine ⟨⟨by decide, by decide, by decide⟩, _, _, _, _, rfl, t, ?_⟩
        refine ⟨_, rfl, ?_⟩
        exact ite2 (fun _ => q) (fun z => absurd (by rw [show inB _ (-(10 : Int) ^ (40 : Int).toNat) ((10 : Int) ^ (40 : Int).toNat) = false from h]; rfl) z)
      | stp hp t h u g =>
        refine ⟨_, _, _, _, _, rfl, .ty "tuple", .base (.tup hp), kit_ty (r := true) (by decide +kernel), ?_⟩
        walk_at "rd"
        refine ⟨_, _, rfl, .inr (SqT.of hp), rfl, ?_⟩
        walk_at "rd"
        refine ⟨_, _, rfl, SqT.of hp, rfl, _, _, rfl, _, _, rfl, _, _, rfl, rfl, ?_⟩
        walk_at "rd"
        refine ⟨⟨by decide, by decide, by decide⟩, ?_⟩
        walk_at "rd"
        refine ⟨⟨by decide, by decide, by decide⟩, _, _, _, _, rfl, t, ?_⟩
        refine ⟨_, rfl, ?_⟩
        refine ite2 (fun z => (not_t z (show inB _ (-(10 : Int) ^ (40 : Int).toNat) ((10 : Int) ^ (40 : Int).toNat) = true from h)).elim) (fun _ => ?_)
        walk_at "rd"
        refine ⟨⟨by decide, by decide, by decide⟩, _, _, _, _, rfl, u, ?_⟩
        refine ⟨_, rfl, ?_⟩
        exact ite2 (fun _ => q) (fun z => absurd (by rw [show inB _ 1 ((10 : Int) ^ (30 : Int).toNat) = false from g]; rfl) z)
      | mod hp t h u g dp hd =>
        refine ⟨_, _, _, _, _, rfl, .ty "tuple", .base (.tup hp), kit_ty (r := true) (by decide +kernel), ?_⟩
        walk_at "rd"
        refine ⟨_, _, rfl, .inr (SqT.of hp), rfl, ?_⟩
        walk_at "rd"
        refine ⟨_, _, rfl, SqT.of hp, rfl, _, _, rfl, _, _, rfl, _, _, rfl, rfl, ?_⟩
        walk_at "rd"
        refine ⟨⟨by decide, by decide, by decide⟩, ?_⟩
        walk_at "rd"
        refine ⟨⟨by decide, by decide, by decide⟩, _, _, _, _, rfl, t, ?_⟩
        refine ⟨_, rfl, ?_⟩
        refine ite2 (fun z => (not_t z (show inB _ (-(10 : Int) ^ (40 : Int).toNat) ((10 : Int) ^ (40 : Int).toNat) = true from h)).elim) (fun _ => ?_)
        walk_at "rd"
        refine ⟨⟨by decide, by decide, by decide⟩, _, _, _, _, rfl, u, ?_⟩
        refine ⟨_, rfl, ?_⟩
        refine ite2 (fun z => (not_t z (show inB _ 1 ((10 : Int) ^ (30 : Int).toNat) = true from g)).elim) (fun _ => ?_)
        walk_at "rd"
        refine ⟨_, _, dp.dp, dpModes (M.tM H), hd.1, by decide +kernel, by decide +kernel, ?_⟩
        walk_at "rd"
        refine ite2 (fun _ => q) (fun z => absurd (by rw [hd.2]; rfl) z)
end
end HT
namespace HT
open PySem L2
def GoodL (H : Hp) (l : Addr) (xs : List V) : Prop := H l = some (.lst xs) ∧ 1 ≤ xs.length ∧ xs.length ≤ 4 ∧ ∀ y ∈ xs, GoodS H y
/-- no list of sides -/
inductive BadL (K : PySem.W.Frag) (H : Hp) : V → Prop where
  | kind {x : V} {n : String} (t : Th H x n) (h : (n == "list") = false) : BadL K H x
  | len {l : Addr} {xs : List V} (hl : H l = some (.lst xs)) (h : ¬ (1 ≤ xs.length ∧ xs.length ≤ 4)) : BadL K H (.ref l)
  | item {l : Addr} {xs : List V} {i : Nat} {y : V} (hl : H l = some (.lst xs)) (h1 : 1 ≤ xs.length) (h2 : xs.length ≤ 4) (hi : xs[i]? = some y) (bad : BadS K H y) (good : ∀ j z, j < i → xs[j]? = some z → GoodS H z) : BadL K H (.ref l)
def spIsSideX (K : PySem.W.Frag) : Sp := fun vs H Q _ => ∃ x : V, vs = [x] ∧ ((GoodS H x ∧ Q (.bl true) H) ∨ (BadS K H x ∧ Q (.bl false) H))
def spSidesX (K : PySem.W.Frag) (C : Nat → Addr) : Sp := fun vs H Q E => ∃ x : V, vs = [x] ∧ ((∃ l xs, x = .ref l ∧ GoodL H l xs ∧ Q .non H) ∨ (BadL K H x ∧ E (.ref (C 1)) none H))
/-- the numbers of among's top -/
structure AmT (mg : Str → Option Value) : Prop where
  ms : ∃ t, mg "MOST_SIDES" = some (.int 4 t)
section
variable {P : Program} {w : World} {K : PySem.W.Frag} {mg : Str → Option Value} {base : Heap} {aM fI fB fV fC fL fN fW B : Addr} {dI dB dV dC dL dN dW : FuncData} {C : Nat → Addr}
theorem ok_is_side_x {f : Addr} {fd : FuncData} (F : Fun K "is_side" "is_side" s_is_side f fd) (R : Er K mg C B) (Ck : CalX P w K mg base "check_side" 3 ["side"] (spSideX K C) fC dC) : FnOk P w K mg base CX0 4 f fd ["thing"] (spIsSideX K) := by
  refine F.ok sc_is_side (fun vs H Q E h => ?_) (fun cdv A outer s0 H vs Q E hr h => ?_)
  · obtain ⟨x, rfl, _⟩ := h
    rfl
  · obtain ⟨x, rfl, h⟩ := h
    refine ⟨_, pss_cons (ps_try_only rfl rfl ⟨rfl, by decide, .inl R.g0⟩ takes0 (fun W pn xe tk _ => pss_one (ps_expr (pcx Ck hr (by decide) (by rfl) tk (pa_cons (pv 0) pa_nil)))) (fun a oe cls d pn _ _ => pss_one (ps_ret pe_bl))) (pss_one (ps_ret pe_bl)), ?_⟩
    walk_at "rd"
    rcases h with ⟨good, q⟩ | ⟨bad, q⟩
    · refine .inl ⟨good, ?_⟩
      walk_at "rd"
      exact q
    · refine .inr ⟨bad, ?_⟩
      exact ⟨true, R.em0, fun _ a ha => q, fun z => Bool.noConfusion z⟩
theorem ok_sides_x {f : Addr} {fd : FuncData} (F : Fun K "check_sides" "check_sides" s_check_sides f fd) (T : ChkT mg) (A' : AmT mg) (R : Er K mg C B) (Ck : Cal P w K mg base "is_side" 4 ["thing"] (spIsSideX K) fC dC) : FnOk P w K mg base (L2.CX P w) 5 f fd ["sides"] (spSidesX K C) := by
  refine F.okAny sc_check_sides (fun vs H Q E h => ?_) (fun cdv A outer s0 H vs Q E hr h => ?_)
  · obtain ⟨x, rfl, _⟩ := h
    rfl
  · obtain ⟨x, rfl, h⟩ := h
    have nd := sc_check_sides.nd
    obtain ⟨tms, hms⟩ := A'.ms
    refine ⟨_, pss_cons (ps_if (PW.pt (pw_or (pt_not (pt_val (pe_callB call_isi (by rfl) T.isi (by decide +kernel) (pa_cons (pv 0) (pa_cons (pe_bltn (v := .ty "list") (by rfl) T.list (by decide +kernel) rfl) pa_nil)))))
        (pw_or1 (pt_not (pt_chain op_le op_le pe_int (pe_callB call_len_seq (by rfl) T.len PySem.boot_len (pa_cons (pv 0) pa_nil)) (pe_glob (v := .int 4) (by rfl) hms ⟨_, rfl⟩)))))) (pss_one (ps_raise rfl (takes_of rfl rfl rfl rfl) (pmk_own PySem.F.excBase_ValueError (R.ex 1 (by decide)) R.g1 (R.kp 1 (by decide)) (raises_own (R.sb 1 (by decide)) (R.ty 1 (by decide))) (by rfl)))) pss_nil)
      (pss_one (ps_for (passes_of rfl) rfl (pi_list (pv 0)) (pg_name (i := 1) nd rfl (Or.inl rfl))
        (pss_one (ps_if (pt_not (pt_val (pcl Ck hr (by decide) (by rfl) (pa_cons (pv 1) pa_nil)))) (pss_one (ps_raise rfl (takes_of rfl rfl rfl rfl) (pmk_own PySem.F.excBase_ValueError (R.ex 1 (by decide)) R.g1 (R.kp 1 (by decide)) (raises_own (R.sb 1 (by decide)) (R.ty 1 (by decide))) (by rfl)))) pss_nil)))), ?_⟩
    walk_at "rd"
    rcases h with ⟨l, xs, rfl, ⟨hl, l1, l4, good⟩, q⟩ | ⟨bad, q⟩
    · refine ⟨_, _, _, _, _, rfl, .ty "list", .base (.lst hl), kit_ty (r := true) (by decide +kernel), ?_⟩
      walk_at "rd"
      refine ⟨l, _, rfl, .inl (SqL.of hl), ?_⟩
      walk_at "rd"
      refine ite2 (fun _ => ?_) (fun z => absurd (decide_eq_true (by omega)) z)
      walk_at "rd"
      refine ite2 (fun z => ?_) (fun _ => ?_)
      · exfalso
        have e : decide ((xs.length : Int) ≤ 4) = true := decide_eq_true (by omega)
        exact not_t z e
      walk_at "rd"
      refine ⟨⟨_, SqL.of hl⟩, ?_⟩
      refine for_list (K := K) (a := l) (xs := xs) (fun i σ H' => ∃ y : Option V, σ = [some (.ref l), y] ∧ H' = H) ⟨none, rfl, rfl⟩ (fun _ _ _ _ ⟨_, _, e⟩ => e ▸ SqL.of hl) ?_ ?_
      · rintro i y σ H' hy ⟨z, rfl, rfl⟩
        walk_at "rd"
        refine .inl ⟨good y (List.mem_of_getElem? hy), _, rfl, ?_⟩
        refine ite2 (fun z => (not_t z rfl).elim) (fun _ => ?_)
        exact ⟨_, rfl, rfl⟩
      · rintro σ H' ⟨z, rfl, rfl⟩
        exact q
    · cases bad with
      | kind t h =>
        refine ⟨_, _, _, _, _, rfl, .ty "list", t.ty, t.klst, ?_⟩
        walk_at "rd"
        refine ite2 (fun _ => ?_) (fun z => absurd (by rw [h]; rfl) z)
        exact q
      | @len l xs hl h =>
        refine ⟨_, _, _, _, _, rfl, .ty "list", .base (.lst hl), kit_ty (r := true) (by decide +kernel), ?_⟩
        walk_at "rd"
        refine ⟨l, _, rfl, .inl (SqL.of hl), ?_⟩
        walk_at "rd"
        refine ite2 (fun z1 => ?_) (fun z1 => ?_)
        · have z1' := of_decide_eq_true z1
          walk_at "rd"
          refine ite2 (fun _ => q) (fun z => absurd ?_ z)
          have e : decide ((xs.length : Int) ≤ 4) = false := decide_eq_false (by omega)
          rw [e]
          rfl
        · walk_at "rd"
          exact q
      | @item l xs i0 y0 hl l1 l4 hi bad good =>
        refine ⟨_, _, _, _, _, rfl, .ty "list", .base (.lst hl), kit_ty (r := true) (by decide +kernel), ?_⟩
        walk_at "rd"
        refine ⟨l, _, rfl, .inl (SqL.of hl), ?_⟩
        walk_at "rd"
        refine ite2 (fun _ => ?_) (fun z => absurd (decide_eq_true (by omega)) z)
        walk_at "rd"
        refine ite2 (fun z => ?_) (fun _ => ?_)
        · exfalso
          have e : decide ((xs.length : Int) ≤ 4) = true := decide_eq_true (by omega)
          exact not_t z e
        walk_at "rd"
        refine ⟨⟨_, SqL.of hl⟩, ?_⟩
        have i0l : i0 < xs.length := (List.getElem?_eq_some_iff.mp hi).1
        refine for_list (K := K) (a := l) (xs := xs) (fun i σ H' => ∃ y : Option V, σ = [some (.ref l), y] ∧ H' = H ∧ i ≤ i0) ⟨none, rfl, rfl, Nat.zero_le _⟩ (fun _ _ _ _ ⟨_, _, e, _⟩ => e ▸ SqL.of hl) ?_ ?_
        · rintro i y σ H' hy ⟨z, rfl, rfl, le⟩
          walk_at "rd"
          rcases Nat.lt_or_eq_of_le le with lt | eq
          · refine .inl ⟨good i y lt hy, _, rfl, ?_⟩
            refine ite2 (fun z => (not_t z rfl).elim) (fun _ => ?_)
            exact ⟨_, rfl, rfl, lt⟩
          · subst eq
            have ey : y = y0 := by rw [hi] at hy; exact (Option.some.inj hy).symm
            subst ey
            refine .inr ⟨bad, _, rfl, ?_⟩
            refine ite2 (fun _ => ?_) (fun z => absurd rfl z)
            exact q
        · rintro σ H' ⟨z, rfl, rfl, le⟩
          omega
end
end HT
namespace HT
open PySem L2
def ManyL (ss : List Sd) : Prop := 2 < ss.length ∧ 100000 < comN ss
def ManyP (ss : List Sd) : Prop := ManyL (ss.filter upD) ∨ (FewP ss ∧ ManyL ((ss.map mirD).filter upD))
def spCFX (C : Nat → Addr) : Sp := fun vs H Q E => ∃ (l : Addr) (xs : List V) (ss : List Sd), vs = [.ref l] ∧ SidL H l xs ss ∧ (((ss.length ≤ 2 ∨ comN ss ≤ 100000) ∧ Q .non H) ∨ (ManyL ss ∧ E (.ref (C 2)) none H))
def spReachM (C : Nat → Addr) : Sp := fun vs H _ E => ∃ (l : Addr) (xs : List V) (ss : List Sd), vs = [.ref l, .int 0] ∧ SidesAt H l xs ss ∧ ManyP ss ∧ ∀ H', Same H H' → E (.ref (C 2)) none H'
def spACM (C : Nat → Addr) : Sp := fun vs H _ E => ∃ (l : Addr) (xs : List V) (ss : List Sd), vs = [.ref l] ∧ SidesAt H l xs ss ∧ ManyP ss ∧ ∀ H', Same H H' → E (.ref (C 2)) none H'
def spCalmX (K : PySem.W.Frag) (C : Nat → Addr) : Sp := fun vs H _ E => ∃ x : V, vs = [x] ∧ ((BadL K H x ∧ E (.ref (C 1)) none H) ∨ (∃ l xs ss, x = .ref l ∧ SidesAt H l xs ss ∧ ManyP ss ∧ ∀ H', Same H H' → E (.ref (C 2)) none H'))
def spTwoX (K : PySem.W.Frag) (C : Nat → Addr) : Sp := fun vs H _ E => ∃ x y : V, vs = [x, y] ∧ ((BadL K H x ∧ E (.ref (C 1)) none H) ∨ (∃ l xs n, x = .ref l ∧ GoodL H l xs ∧ Th H y n ∧ isI n = false ∧ E (.ref (C 3)) none H))
theorem good_of {H : Hp} {l : Addr} {xs : List V} {ss : List Sd} (S : SidesAt H l xs ss) : GoodL H l xs := ⟨S.hl, by have := S.l1; have := S.len; omega, by have := S.l4; have := S.len; omega, fun y hy => by
  obtain ⟨i, hi, e⟩ := List.mem_iff_getElem.mp hy
  obtain ⟨d, p, ed, e2, hp, sp⟩ := S.item (i := i) (y := y) (by rw [← e]; exact List.getElem?_eq_getElem hi)
  exact ⟨p, d.o, d.s, d.m, e2, hp, sp⟩⟩
section
variable {P : Program} {w : World} {K : PySem.W.Frag} {mg : Str → Option Value} {base : Heap} {fB fH fI fJ fL fM fN B : Addr} {dB dH dI dJ dL dM dN : FuncData} {C : Nat → Addr}
theorem ok_cf_x {f : Addr} {fd : FuncData} (F : Fun K "_check_few" "_check_few" s_check_few f fd) (A' : AmG mg) (R : Er K mg C B) (Co : Cal P w K mg base "common_period" 2 ["sides"] spPerL fH dH) : FnOk P w K mg base (L2.CX P w) 3 f fd ["raising"] (spCFX C) := by
  refine F.okAny sc_check_few (fun vs H Q E h => ?_) (fun cdv A outer s0 H vs Q E hr h => ?_)
  · obtain ⟨l, xs, ss, rfl, _⟩ := h
    rfl
  · obtain ⟨l, xs, ss, rfl, SS, few⟩ := h
    obtain ⟨tmp, hmp⟩ := A'.mp
    refine ⟨_, pss_one (ps_if (PW.pt (pw_and (pt_cmpR op_gt (pe_callB call_len_seq (by rfl) A'.len PySem.boot_len (pa_cons (pv 0) pa_nil)) pe_int (nomark _)) (pw_and1 (pt_cmpR op_gt (pcl Co hr (by decide) (by rfl) (pa_cons (pv 0) pa_nil)) (pe_glob (v := .int 100000) (by rfl) hmp ⟨_, rfl⟩) (nomark _))))) (pss_one (ps_raise rfl (takes_of rfl rfl rfl rfl) (pmk_own PySem.F.excBase_ValueError (R.ex 2 (by decide)) R.g2 (R.kp 2 (by decide)) (raises_own (R.sb 2 (by decide)) (R.ty 2 (by decide))) (by rfl)))) pss_nil), ?_⟩
    walk_at "rd"
    refine ⟨l, _, rfl, .inl (SqL.of SS.hl), ?_⟩
    walk_at "rd"
    refine ite2 (fun z => ?_) (fun z => ?_)
    · have gt := of_decide_eq_true z
      rw [SS.len] at gt
      walk_at "rd"
      refine ⟨l, xs, ss, rfl, SS, ?_⟩
      walk_at "rd"
      refine ite2 (fun z => ?_) (fun z => ?_)
      · have g2 := of_decide_eq_true z
        rcases few with ⟨y, _⟩ | ⟨_, q⟩
        · exfalso
          rcases y with y | y <;> omega
        · exact q
      · have g2 := of_decide_eq_false (by simpa using z : decide ((100000 : Int) < (comN ss : Int)) = false)
        rcases few with ⟨_, q⟩ | ⟨⟨_, y⟩, _⟩
        · exact q
        · exfalso
          omega
    · have gt := of_decide_eq_false (by simpa using z : decide ((2 : Int) < (xs.length : Int)) = false)
      rw [SS.len] at gt
      rcases few with ⟨_, q⟩ | ⟨⟨y, _⟩, _⟩
      · exact q
      · exfalso
        omega
theorem ok_reach_m {f : Addr} {fd : FuncData} (F : Fun K "reach" "reach" s_reach f fd) (Ls : Cal P w K mg base "check_sides" 5 ["sides"] spSides fB dB) (Vl : Cal P w K mg base "check_value" 2 ["value"] spCheckValue fH dH) (Ra : Cal P w K mg base "raisers" 6 ["sides"] spRais fI dI) (Mi : Cal P w K mg base "mirrors" 5 ["sides"] spMirs fJ dJ)
    (Cf : CalX P w K mg base "_check_few" 3 ["raising"] (spCFX C) fL dL) : FnOk P w K mg base (L2.CX P w) 108 f fd ["sides", "value"] (spReachM C) := by
  refine F.okAny sc_reach (fun vs H Q E h => ?_) (fun cdv A outer s0 H vs Q E hr h => ?_)
  · obtain ⟨l, xs, ss, rfl, _⟩ := h
    rfl
  · obtain ⟨l, xs, ss, rfl, SS, many, q⟩ := h
    have nd := sc_reach.nd
    refine ⟨_, pss_cons (ps_expr (pcl Ls hr (by decide) (by rfl) (pa_cons (pv 0) pa_nil)))
      (pss_cons (ps_expr (pcl Vl hr (by decide) (by rfl) (pa_cons (pv 1) pa_nil)))
      (pss_cons (ps_set (i := 2) nd rfl (Or.inl rfl) (pcl Ra hr (by decide) (by rfl) (pa_cons (pv 0) pa_nil)))
      (pss_cons (ps_set (i := 3) nd rfl (Or.inl rfl) (pcl Ra hr (by decide) (by rfl) (pa_cons (pcl Mi hr (by decide) (by rfl) (pa_cons (pv 0) pa_nil)) pa_nil)))
      (pss_cons (ps_expr (pcx Cf hr (by decide) (by rfl) (takes_of rfl rfl rfl rfl) (pa_cons (pv 2) pa_nil)))
      (pss_cons (ps_expr (pcx Cf hr (by decide) (by rfl) (takes_of rfl rfl rfl rfl) (pa_cons (pv 3) pa_nil)))
      (pss_cons ps_never (pss_cons ps_never (pss_one ps_never)))))))), ?_⟩
    walk_at "rd"
    refine ⟨l, xs, ss, rfl, SS, ?_⟩
    walk_at "rd"
    refine ⟨l, xs, ss, rfl, SS.toL, fun L1 y1 H1 n1 s1 S1 => ?_⟩
    walk_at "rd"
    refine ⟨l, xs, ss, rfl, SS.toL.same s1, fun L2 y2 H2 n2 s2 S2 => ?_⟩
    refine ⟨L2, y2, _, rfl, S2, fun L3 y3 H3 n3 s3 S3 => ?_⟩
    walk_at "rd"
    have sA := s1.trans (s2.trans s3)
    rcases many with m | ⟨f1, m⟩
    · exact ⟨L1, y1, _, rfl, (S1.same s2).same s3, .inr ⟨m, q H3 sA⟩⟩
    · refine ⟨L1, y1, _, rfl, (S1.same s2).same s3, .inl ⟨f1, ?_⟩⟩
      walk_at "rd"
      exact ⟨L3, y3, _, rfl, S3, .inr ⟨m, q H3 sA⟩⟩
theorem ok_ac_m {f : Addr} {fd : FuncData} (F : Fun K "_are_calm" "_are_calm" s_are_calm f fd) (Re : CalX P w K mg base "reach" 108 ["sides", "value"] (spReachM C) fB dB) : FnOk P w K mg base (L2.CX P w) 109 f fd ["sides"] (spACM C) := by
  refine F.okAny sc_are_calm (fun vs H Q E h => ?_) (fun cdv A outer s0 H vs Q E hr h => ?_)
  · obtain ⟨l, xs, ss, rfl, _⟩ := h
    rfl
  · obtain ⟨l, xs, ss, rfl, SS, many, q⟩ := h
    have nd := sc_are_calm.nd
    refine ⟨_, pss_cons (ps_asg (pcx Re hr (by decide) (by rfl) (takes_of rfl rfl rfl rfl) (pa_cons (pv 0) (pa_cons pe_int pa_nil))) (pg_tup (by rfl) (pgs_cons (pg_name (i := 1) nd rfl (Or.inl rfl)) (pgs_cons (pg_name (i := 2) nd rfl (Or.inl rfl)) pgs_nil)))) (pss_one ps_never), ?_⟩
    walk_at "rd"
    exact ⟨l, xs, ss, rfl, SS, many, q⟩
theorem ok_once_x {f : Addr} {fd : FuncData} (F : Fun K "once" "once" s_once f fd) (Ls : CalX P w K mg base "check_sides" 5 ["sides"] (spSidesX K C) fL dL) (Vl : CalX P w K mg base "check_value" 2 ["value"] (spValX C) fH dH) : FnOk P w K mg base (L2.CX P w) 6 f fd ["sides", "value"] (spTwoX K C) := by
  refine F.okAny sc_once (fun vs H Q E h => ?_) (fun cdv A outer s0 H vs Q E hr h => ?_)
  · obtain ⟨x, y, rfl, _⟩ := h
    rfl
  · obtain ⟨x, y, rfl, h⟩ := h
    refine ⟨_, pss_cons (ps_expr (pcx Ls hr (by decide) (by rfl) (takes_of rfl rfl rfl rfl) (pa_cons (pv 0) pa_nil)))
      (pss_cons (ps_expr (pcx Vl hr (by decide) (by rfl) (takes_of rfl rfl rfl rfl) (pa_cons (pv 1) pa_nil)))
      (pss_cons ps_never (pss_one ps_never))), ?_⟩
    walk_at "rd"
    rcases h with ⟨bad, q⟩ | ⟨l, xs, n, rfl, gl, ty, ni, q⟩
    · exact .inr ⟨bad, q⟩
    · refine .inl ⟨l, xs, rfl, gl, ?_⟩
      walk_at "rd"
      exact ⟨_, n, rfl, ty, fun z => absurd z (by rw [ni]; decide), fun _ => q⟩
theorem ok_order_x {f : Addr} {fd : FuncData} (F : Fun K "order_matters" "order_matters" s_order_matters f fd) (Ls : CalX P w K mg base "check_sides" 5 ["sides"] (spSidesX K C) fL dL) (Vl : CalX P w K mg base "check_value" 2 ["value"] (spValX C) fH dH) : FnOk P w K mg base (L2.CX P w) 6 f fd ["sides", "value"] (spTwoX K C) := by
  refine F.okAny sc_order_matters (fun vs H Q E h => ?_) (fun cdv A outer s0 H vs Q E hr h => ?_)
  · obtain ⟨x, y, rfl, _⟩ := h
    rfl
  · obtain ⟨x, y, rfl, h⟩ := h
    refine ⟨_, pss_cons (ps_expr (pcx Ls hr (by decide) (by rfl) (takes_of rfl rfl rfl rfl) (pa_cons (pv 0) pa_nil)))
      (pss_cons (ps_expr (pcx Vl hr (by decide) (by rfl) (takes_of rfl rfl rfl rfl) (pa_cons (pv 1) pa_nil)))
      (pss_cons ps_never (pss_cons ps_never (pss_cons ps_never (pss_cons ps_never (pss_one ps_never)))))), ?_⟩
    walk_at "rd"
    rcases h with ⟨bad, q⟩ | ⟨l, xs, n, rfl, gl, ty, ni, q⟩
    · exact .inr ⟨bad, q⟩
    · refine .inl ⟨l, xs, rfl, gl, ?_⟩
      walk_at "rd"
      exact ⟨_, n, rfl, ty, fun z => absurd z (by rw [ni]; decide), fun _ => q⟩
end
end HT
namespace HT
open PySem L2
theorem keepJ_nil (ss : List Sd) : ∀ i, i ≤ ss.length → keepJ ss [] i = ss.take i
  | 0, _ => rfl
  | i + 1, h => by
    have hi : i < ss.length := by omega
    rw [keepJ_succ (List.getElem?_eq_getElem hi), keepJ_nil ss i (by omega), List.take_succ, List.getElem?_eq_getElem hi]
    rfl
theorem keep_nil (ss : List Sd) : keep ss [] = ss := by
  unfold keep
  rw [keepJ_nil ss _ (Nat.le_refl _), List.take_length]
section
variable {P : Program} {w : World} {K : PySem.W.Frag} {mg : Str → Option Value} {base : Heap} {fB fH fI fJ fL fM fN B : Addr} {dB dH dI dJ dL dM dN : FuncData} {C : Nat → Addr}
theorem ok_calm_x {f : Addr} {fd : FuncData} (F : Fun K "calm" "calm" s_calm f fd) (A' : AmG mg) (hen : mg "enumerate" = none) (Ls : CalX P w K mg base "check_sides" 5 ["sides"] (spSidesX K C) fB dB) (Ac : CalX P w K mg base "_are_calm" 109 ["sides"] (spACM C) fH dH) : FnOk P w K mg base (L2.CX P w) 110 f fd ["sides"] (spCalmX K C) := by
  refine F.okAny sc_calm (fun vs H Q E h => ?_) (fun cdv A outer s0 H vs Q E hr h => ?_)
  · obtain ⟨x, rfl, _⟩ := h
    rfl
  · obtain ⟨x, rfl, h⟩ := h
    have nd := sc_calm.nd
    refine ⟨_, pss_cons (ps_expr (pcx Ls hr (by decide) (by rfl) (takes_of rfl rfl rfl rfl) (pa_cons (pv 0) pa_nil)))
      (pss_cons (ps_set (i := 1) nd rfl (Or.inl rfl) (pe_lst (pa_cons (pe_lst pa_nil) pa_nil)))
      (pss_one (ps_while (passes_of rfl) (pt_val pe_bl)
        (pss_cons (ps_for (passes_of rfl) rfl (pi_list (pv 1)) (pg_name (i := 2) nd rfl (Or.inr rfl))
          (pss_one (ps_if (pt_val (pcx Ac hr (by decide) (by rfl) (takes_of rfl rfl rfl rfl) (pa_cons (pe_lc (own := [("number", 3), ("side", 4)]) (g := gTup K 2 (gCons (gName 3) (gCons (gName 4) gNil))) rfl nd (pi_enum (by rfl) hen (pa_cons (pv 0) pa_nil)) (blkOk_by (N := ["sides", "left_out", "numbers", "number", "side"]) (sc := defScope s_calm) (by decide +kernel))
            (fun _ _ _ _ _ => pg_tup (by rfl) (pgs_cons (pg_name (i := 3) nd rfl (Or.inl rfl)) (pgs_cons (pg_name (i := 4) nd rfl (Or.inl rfl)) pgs_nil))) (fun _ _ _ _ _ => pts_one (pt_cmpR (show OpR _ _ (rIn K true) from op_notIn_seq) (pv 3) (pv 2) (by rfl)))
            (fun _ _ _ _ _ => pv 4)) pa_nil))) (pss_one (ps_ret (pv 2))) pss_nil)))
        (pss_one ps_never))))), ?_⟩
    walk_at "rd"
    rcases h with ⟨bad, q⟩ | ⟨l, xs, ss, rfl, SS, many, q⟩
    · exact .inr ⟨bad, q⟩
    refine .inl ⟨l, xs, rfl, good_of SS, ?_⟩
    walk_at "rd"
    refine ⟨(by show 0 ≤ sizeLine; decide), fun p1 np1 => ?_⟩
    generalize e_p1 : upd H p1 _ = H1
    have f1 : H1 p1 = some (.lst []) := by rw [← e_p1]; exact upd_same
    have w1 : Same H H1 := by rw [← e_p1]; exact fun b u z => (upd_ne (ne_of_none z np1)).trans z
    clear e_p1
    walk_at "rd"
    refine ⟨(by show 1 ≤ sizeLine; decide), fun p2 np2 => ?_⟩
    generalize e_p2 : upd H1 p2 _ = H2
    have f2 : H2 p2 = some (.lst [.ref p1]) := by rw [← e_p2]; exact upd_same
    have w2 : Same H1 H2 := by rw [← e_p2]; exact fun b u z => (upd_ne (ne_of_none z np2)).trans z
    clear e_p2
    walk_at "rd"
    have l1 := SS.l1
    have l4 := SS.l4
    refine ⟨fun m st H' => st = [some (.ref l), some (.ref p2), none, none, none] ∧ H2 = H', ⟨0, rfl, rfl⟩, ?_⟩
    rintro m st H' ⟨rfl, rfl⟩
    walk_at "rd"
    refine ite2 (fun _ => ?_) (fun z => (z rfl).elim)
    refine ⟨fun _ _ => False, fun _ _ h => h.elim, ?_⟩
    walk_at "rd"
    refine ⟨⟨_, SqL.of f2⟩, ?_⟩
    refine for_list (K := K) (a := p2) (xs := [.ref p1]) (fun i st H3 => i = 0 ∧ st = [some (.ref l), some (.ref p2), none, none, none] ∧ H2 = H3) ⟨rfl, rfl, rfl⟩ (fun _ _ _ _ ⟨_, _, e⟩ => e ▸ SqL.of f2) ?_ ?_
    · rintro i y st H3 hy ⟨rfl, rfl, rfl⟩
      cases hy
      have S3 := SS.same (w1.trans w2)
      have po := w2 _ _ f1
      walk_at "rd"
      refine ⟨l, _, rfl, SqL.of S3.hl, fun D nD => ?_⟩
      refine gen_enum (K := K) (a := l) (xs := xs) (fun i2 H5 => ∃ ys : List V, H5 D = some (.lst ys) ∧ ys.length = (keepJ ss [] i2).length ∧ i2 ≤ ss.length ∧ Same H2 H5 ∧ (∀ (j : Nat) (d : Sd), (keepJ ss [] i2)[j]? = some d → ∃ p : Addr, ys[j]? = some (V.ref p) ∧ H5 p = some (sideV d.o d.s d.m) ∧ SideP d.o d.s d.m))
        ⟨[], upd_same, rfl, Nat.zero_le _, fun b u z => (upd_ne (ne_of_none z nD)).trans z, fun j d z => by cases z⟩ (fun _ _ _ ⟨_, _, _, _, s5, _⟩ => SqL.of (s5 _ _ S3.hl)) ?_ ?_
      · rintro i2 y2' H5 hy2 ⟨ys, hD, ly, li, s5, at5⟩ T nT
        obtain ⟨d, p2', ed, rfl, hp2, sp⟩ := S3.item hy2
        have il2 : i2 < ss.length := (List.getElem?_eq_some_iff.mp ed).1
        have fT : upd H5 T (.tup [.int (i2 : Nat), .ref p2']) T = some (.tup [.int (i2 : Nat), .ref p2']) := upd_same
        have s56 : Same H5 (upd H5 T (.tup [.int (i2 : Nat), .ref p2'])) := fun b u z => (upd_ne (ne_of_none z nT)).trans z
        generalize upd H5 T (.tup [.int (i2 : Nat), .ref p2']) = H6 at fT s56 ⊢
        have hD6 := s56 _ _ hD
        have sH6 : Same H2 H6 := s5.trans s56
        refine ⟨T, _, rfl, SqT.of fT, rfl, _, _, rfl, _, _, rfl, rfl, ?_⟩
        refine ⟨rfl, ?_⟩
        walk_at "rd"
        refine ⟨p1, _, rfl, .inl (SqL.of (sH6 _ _ po)), rfl, rfl, ?_⟩
        refine ⟨_, rfl, ?_⟩
        refine ite2 (fun _ => ?_) (fun z => absurd (rfl : (!inV (V.int ((i2 : Nat) : Int)) []) = true) z)
        have nc : ¬ ([] : List Nat).contains i2 = true := fun y => by cases y
        walk_at "rd"
        refine ⟨_, hD6, ?_, ys ++ [.ref p2'], upd_same, ?_, il2, ?_, ?_⟩
        · rw [ly]
          exact Nat.lt_of_le_of_lt (Nat.le_trans (List.Sublist.length_le (keepJ_sub ss [] i2)) (Nat.le_trans (List.length_take_le' _ _) l4)) (by decide)
        · rw [keepJ_succ ed, if_neg nc, List.length_append, List.length_append, ly]
          rfl
        · intro b u y
          exact (upd_ne (ne_of_none y nD)).trans (sH6 _ _ y)
        · rw [keepJ_succ ed, if_neg nc]
          have g := sH6 _ _ hp2
          exact grow_side at5 ly (fun b u y nb => (upd_ne nb).trans (s56 _ _ y)) hD ((upd_ne (ne_of g hD6 (by intro y; cases y))).trans g) sp
      · rintro H5 ⟨ys, hD, ly, li, s5, at5⟩
        rw [SS.len] at ly at5
        rw [keepJ_nil ss _ (Nat.le_refl _), List.take_length] at ly at5
        have SK : SidesAt H5 D ys ss := ⟨hD, ly, l1, l4, at5⟩
        exact ⟨D, ys, ss, rfl, SK, many, fun H6 s6 => q H6 (w1.trans (w2.trans (s5.trans s6)))⟩
    · rintro st H3 ⟨h, _, _⟩
      cases h
end
end HT
namespace HQ
open PySem L2 HT
theorem gen_list {K : PySem.W.Frag} {a : Addr} {xs : List V} {R : Hp → Prop} {Body : V → Hp → (Hp → Prop) → Prop} {H0 : Hp} (Pv : Nat → Hp → Prop) (h0 : Pv 0 H0) (hl : ∀ i H, i ≤ xs.length → Pv i H → SqL K H a xs)
    (hs : ∀ i x H, xs[i]? = some x → Pv i H → Body x H (Pv (i + 1))) (hd : ∀ H, Pv xs.length H → R H) :
    ∃ W : Nat → Nat → Hp → Prop, (∃ m, W 0 m H0) ∧ ∀ i m H, W i m H → ((Itl K a).stop i H ∧ R H) ∨ ((Itl K a).go i H ∧ ∃ Nx : Hp → Prop, (∀ H', Nx H' → ∃ m', m' < m ∧ W (i + 1) m' H') ∧ ∀ x H', (Itl K a).yld i H x H' → Body x H' Nx) := by
  refine ⟨fun i m H => m = xs.length - i ∧ i ≤ xs.length ∧ Pv i H, ⟨xs.length, by simp, Nat.zero_le _, h0⟩, ?_⟩
  rintro i m H ⟨rfl, hi, p⟩
  have q := hl i H hi p
  by_cases hlt : i < xs.length
  · refine .inr ⟨⟨xs, xs[i], q, by simp [hlt]⟩, Pv (i + 1), fun H' p' => ⟨xs.length - (i + 1), by omega, rfl, hlt, p'⟩, fun x H' y => ?_⟩
    obtain ⟨e, y⟩ := y
    subst e
    exact hs i x _ (y xs q) p
  · have e : i = xs.length := by omega
    subst e
    exact .inl ⟨⟨xs, q, Nat.le_refl _⟩, hd H p⟩
theorem gen_range {lo : Int} {n : Nat} {R : Hp → Prop} {Body : V → Hp → (Hp → Prop) → Prop} {H0 : Hp} (Pv : Nat → Hp → Prop) (h0 : Pv 0 H0)
    (hs : ∀ i H, i < n → Pv i H → Body (.int (lo + i)) H (Pv (i + 1))) (hd : ∀ H, Pv n H → R H) :
    ∃ W : Nat → Nat → Hp → Prop, (∃ m, W 0 m H0) ∧ ∀ i m H, W i m H → ((Itr lo n).stop i H ∧ R H) ∨ ((Itr lo n).go i H ∧ ∃ Nx : Hp → Prop, (∀ H', Nx H' → ∃ m', m' < m ∧ W (i + 1) m' H') ∧ ∀ x H', (Itr lo n).yld i H x H' → Body x H' Nx) := by
  refine ⟨fun i m H => m = n - i ∧ i ≤ n ∧ Pv i H, ⟨n, by simp, Nat.zero_le _, h0⟩, ?_⟩
  rintro i m H ⟨rfl, hi, p⟩
  by_cases hlt : i < n
  · refine .inr ⟨hlt, Pv (i + 1), fun H' p' => ⟨n - (i + 1), by omega, rfl, hlt, p'⟩, fun x H' y => ?_⟩
    obtain ⟨e, y⟩ := y
    subst e y
    exact hs i _ hlt p
  · have e : i = n := by omega
    subst e
    exact .inl ⟨Nat.le_refl _, hd H p⟩
end HQ
namespace HQ
open PySem L2 HT
def newsO (many : Nat) (o : List Nat) : List (List Nat) := ((List.range many).filter fun n => !o.contains n).map fun n => o ++ [n]
def growO (many : Nat) (os : List (List Nat)) : List (List Nat) := os.flatMap (newsO many)
def ordI (many : Nat) : Nat → List (List Nat)
  | 0 => [[]]
  | i + 1 => growO many (ordI many i)
/-- lists of numbers in a list, new ones -/
def OrdsAt (H0 H : Hp) (L : Addr) (os : List (List Nat)) : Prop := ∃ ps : List Addr, H L = some (.lst (ps.map V.ref)) ∧ ps.length = os.length ∧ (∀ (i : Nat) (p : Addr) (o : List Nat), ps[i]? = some p → os[i]? = some o → H p = some (.lst (o.map nV))) ∧ ∀ p ∈ ps, H0 p = none
def spOrders : Sp := fun vs H Q _ => ∃ n : Nat, vs = [.int (n : Int)] ∧ 1 ≤ n ∧ n ≤ 4 ∧ ∀ (L : Addr) (H' : Hp), H L = none → Same H H' → OrdsAt H H' L (ordI n n) → Q (.ref L) H'
theorem news_len (n : Nat) (o : List Nat) : (newsO n o).length ≤ n := by
  unfold newsO
  rw [List.length_map]
  exact Nat.le_trans (List.length_filter_le _ _) (by rw [List.length_range]; exact Nat.le_refl _)
theorem grow_len (n : Nat) : ∀ os : List (List Nat), (growO n os).length ≤ os.length * n
  | [] => by simp [growO]
  | o :: os => by
    have a := grow_len n os
    have b := news_len n o
    have e : growO n (o :: os) = newsO n o ++ growO n os := rfl
    rw [e, List.length_append, List.length_cons, Nat.add_mul, Nat.one_mul]
    omega
theorem ord_len (n : Nat) (h : n ≤ 4) : ∀ i, (ordI n i).length ≤ 4 ^ i
  | 0 => Nat.le_refl _
  | i + 1 => by
    have a := ord_len n h i
    have b := grow_len n (ordI n i)
    show (growO n (ordI n i)).length ≤ 4 ^ (i + 1)
    rw [Nat.pow_succ]
    exact Nat.le_trans b (Nat.mul_le_mul a h)
theorem ord_in (n : Nat) : ∀ (i : Nat) (o : List Nat), o ∈ ordI n i → o.length = i ∧ ∀ k ∈ o, k < n
  | 0, o, h => by
    have e : o = [] := List.mem_singleton.mp h
    subst e
    exact ⟨rfl, fun k hk => absurd hk List.not_mem_nil⟩
  | i + 1, o, h => by
    obtain ⟨q, hq, ho⟩ := List.mem_flatMap.mp (show o ∈ (ordI n i).flatMap (newsO n) from h)
    obtain ⟨a, b⟩ := ord_in n i q hq
    unfold newsO at ho
    obtain ⟨k, hk, rfl⟩ := List.mem_map.mp ho
    have hk' := (List.mem_filter.mp hk).1
    rw [List.mem_range] at hk'
    refine ⟨by rw [List.length_append, a]; rfl, fun j hj => ?_⟩
    rcases List.mem_append.mp hj with z | z
    · exact b j z
    · rw [List.mem_singleton.mp z]; exact hk'
theorem inV_nat (k : Nat) (o : List Nat) : inV (nV k) (o.map nV) = o.contains k := by
  induction o with
  | nil => rfl
  | cons j o ih =>
    have e : eqV (nV j) (nV k) = (j == k) := by
      show (((j : Int)) == ((k : Int))) = (j == k)
      by_cases h : j = k
      · subst h; simp
      · rw [beq_eq_false_iff_ne.mpr h, beq_eq_false_iff_ne.mpr (by omega)]
    show (eqV (nV j) (nV k) || inV (nV k) (o.map nV)) = _
    rw [ih, e, List.contains_cons, Bool.beq_comm]
theorem all_flat : ∀ o : List Nat, (o.map nV).all flatV = true
  | [] => rfl
  | _ :: o => by rw [List.map_cons, List.all_cons, all_flat o]; rfl
def newsJ (j : Nat) (o : List Nat) : List (List Nat) := ((List.range j).filter fun n => !o.contains n).map fun n => o ++ [n]
theorem newsJ_succ (j : Nat) (o : List Nat) : newsJ (j + 1) o = newsJ j o ++ (if o.contains j = true then [] else [o ++ [j]]) := by
  unfold newsJ
  rw [List.range_succ, List.filter_append, List.map_append]
  congr 1
  by_cases h : o.contains j = true
  · rw [if_pos h]
    simp only [List.filter_cons, h, Bool.not_true, Bool.false_eq_true, if_false, List.filter_nil, List.map_nil]
  · rw [if_neg h]
    have h' : o.contains j = false := by simpa using h
    simp only [List.filter_cons, h', Bool.not_false, if_true, List.filter_nil, List.map_cons, List.map_nil]
/-- what is found so far -/
def FndAt (H0 H : Hp) (D : Addr) (os : List (List Nat)) : Prop := OrdsAt H0 H D os
theorem OrdsAt.snoc {H0 H H' : Hp} {D q : Addr} {os : List (List Nat)} {o : List Nat} {acc : List V} (A : OrdsAt H0 H D os) (hD : H D = some (.lst acc)) (sm : Same H H') (nq : H0 q = none) (hq : H' q = some (.lst (o.map nV))) (qD : q ≠ D) :
    OrdsAt H0 (upd H' D (.lst (acc ++ [.ref q]))) D (os ++ [o]) := by
  obtain ⟨ps, hp, lp, at_, fr⟩ := A
  rw [hD] at hp
  have ea : acc = ps.map V.ref := by cases hp; rfl
  subst ea
  refine ⟨ps ++ [q], by rw [List.map_append]; exact upd_same, by rw [List.length_append, List.length_append, lp]; rfl, ?_, ?_⟩
  · intro i p o' hp' ho'
    rcases Nat.lt_or_ge i ps.length with z | z
    · rw [List.getElem?_append_left z] at hp'
      rw [List.getElem?_append_left (by omega)] at ho'
      have h1 := at_ i p o' hp' ho'
      have dp : p ≠ D := fun z => by
        rw [z, hD] at h1
        have e2 : ps.map V.ref = o'.map nV := by injection h1 with h1; injection h1
        have e3 : (ps.map V.ref)[i]? = some (V.ref p) := by rw [List.getElem?_map, hp']; rfl
        rw [e2, List.getElem?_map] at e3
        cases e4 : o'[i]? with
        | none => rw [e4] at e3; cases e3
        | some k => rw [e4] at e3; cases e3
      exact (upd_ne dp).trans (sm _ _ h1)
    · rw [List.getElem?_append_right z] at hp'
      rw [List.getElem?_append_right (by omega)] at ho'
      have e0 : i - ps.length = 0 := by
        have := (List.getElem?_eq_some_iff.mp hp').1
        simp at this
        omega
      rw [e0] at hp'
      rw [show i - os.length = 0 by omega] at ho'
      cases hp'
      cases ho'
      exact (upd_ne qD).trans hq
  · intro p hp'
    rcases List.mem_append.mp hp' with z | z
    · exact fr p z
    · rw [List.mem_singleton.mp z]; exact nq
section
variable {P : Program} {w : World} {K : PySem.W.Frag} {mg : Str → Option Value} {base : Heap} {fC : Addr} {dC : FuncData}
theorem ok_orders {f : Addr} {fd : FuncData} (F : Fun K "_orders" "_orders" s_orders f fd) (B : Blt mg) : FnOk P w K mg base CX0 1 f fd ["many"] spOrders := by
  refine F.ok sc_orders (fun vs H Q E h => ?_) (fun cdv A outer s0 H vs Q E hr h => ?_)
  · obtain ⟨n, rfl, _⟩ := h
    rfl
  · obtain ⟨n, rfl, n1, n4, q⟩ := h
    have nd := sc_orders.nd
    refine ⟨_, pss_cons (ps_set (i := 1) nd rfl (Or.inl rfl) (pe_lst (pa_cons (pe_lst pa_nil) pa_nil)))
      (pss_cons (ps_for PassesOwn.never rfl (pi_range1 (by rfl) B.range (pa_cons (pv 0) pa_nil)) (pg_name (i := 2) nd rfl (Or.inl rfl))
        (pss_one (ps_setLc2 (i := 1) (own := [("order", 3), ("number", 4)]) (vs1 := [4]) (g := gName 3) (g1 := gName 4) (tt := tYes) rfl nd rfl rfl (sw_true rfl rfl rfl (by decide +kernel)) (pi_list (pv 1)) (blkOk_by (N := ["many", "orders", "_", "order", "number"]) (sc := defScope s_orders) (by decide +kernel)) (by decide)
          (fun _ _ _ _ _ => pg_name (i := 3) nd rfl (Or.inl rfl)) (fun _ _ _ _ _ => pts_nil) (fun _ _ _ _ _ => pi_range1 (by rfl) B.range (pa_cons (pv 0) pa_nil)) (fun _ _ _ _ _ => pg_name (i := 4) nd rfl (Or.inl rfl)) (fun _ _ _ _ _ => pts_one (pt_cmpR (show OpR _ _ (rIn K true) from op_notIn_seq) (pv 4) (pv 3) (by rfl)))
          (fun _ _ _ _ _ => pe_op op_cat (pv 3) (pe_lst (pa_cons (pv 4) pa_nil))))))
      (pss_one (ps_ret (pv 1)))), ?_⟩
    walk_at "rd"
    refine ⟨(by show 0 ≤ sizeLine; decide), fun p1 m1 => ?_⟩
    generalize e1 : upd H p1 _ = H1
    have w1 : Same H H1 := by rw [← e1]; exact fun b u z => (upd_ne (ne_of_none z m1)).trans z
    have f1 : H1 p1 = some (.lst []) := by rw [← e1]; exact upd_same
    clear e1
    walk_at "rd"
    refine ⟨(by show 1 ≤ sizeLine; decide), fun p2 m2 => ?_⟩
    generalize e2 : upd H1 p2 _ = H2
    have w2 : Same H1 H2 := by rw [← e2]; exact fun b u z => (upd_ne (ne_of_none z m2)).trans z
    have f2 : H2 p2 = some (.lst [.ref p1]) := by rw [← e2]; exact upd_same
    clear e2
    walk_at "rd"
    refine ⟨by omega, by omega, ?_⟩
    refine for_range (n := n) (fun i st H' => ∃ (L : Addr) (x2 : Option V), st = [some (.int (n : Int)), some (.ref L), x2, none, none] ∧ OrdsAt H H' L (ordI n i) ∧ H L = none ∧ Same H H') ⟨p2, none, rfl, ⟨[p1], f2, rfl, ?_, ?_⟩, w1.free m2, w1.trans w2⟩ ?_ ?_
    · intro i p o hp ho
      match i, hp, ho with
      | 0, hp, ho => cases hp; cases ho; exact w2 _ _ f1
      | i + 1, hp, ho => cases hp
    · intro p hp
      rw [List.mem_singleton.mp hp]
      exact m1
    · rintro i st H' hi ⟨L, x2, rfl, ⟨ps, hL, lp, at_, fresh⟩, nL, sm⟩
      walk_at "rd"
      refine ⟨⟨_, SqL.of hL⟩, fun D nD => ?_⟩
      have OA : OrdsAt H H' L (ordI n i) := ⟨ps, hL, lp, at_, fresh⟩
      have hD0 : H D = none := sm.free nD
      refine gen_list (xs := ps.map V.ref) (fun i1 H5 => OrdsAt H H5 D (((ordI n i).take i1).flatMap (newsO n)) ∧ Same H' H5 ∧ i1 ≤ (ordI n i).length) ⟨⟨[], upd_same, rfl, (fun i p o hp _ => nomatch hp), fun p hp => absurd hp List.not_mem_nil⟩, fun b u z => (upd_ne (ne_of_none z nD)).trans z, Nat.zero_le _⟩ (fun i1 H5 _ ⟨_, s5, _⟩ => SqL.of (s5 _ _ hL)) ?_ ?_
      · rintro i1 x H5 hx ⟨OD, s5, _⟩
        obtain ⟨p, hp, rfl⟩ : ∃ p, ps[i1]? = some p ∧ x = .ref p := by
          rw [List.getElem?_map] at hx
          cases e : ps[i1]? with
          | none => rw [e] at hx; cases hx
          | some p => rw [e] at hx; exact ⟨p, rfl, (Option.some.inj hx).symm⟩
        have hil : i1 < (ordI n i).length := by rw [← lp]; exact (List.getElem?_eq_some_iff.mp hp).1
        obtain ⟨o, ho⟩ : ∃ o, (ordI n i)[i1]? = some o := ⟨_, List.getElem?_eq_getElem hil⟩
        have po := at_ i1 p o hp ho
        obtain ⟨oi, on⟩ := ord_in n i o (List.mem_of_getElem? ho)
        refine ⟨rfl, ?_⟩
        walk_at "rd"
        refine ⟨by omega, by omega, ?_⟩
        refine gen_range (lo := 0) (n := n) (fun j H6 => OrdsAt H H6 D (((ordI n i).take i1).flatMap (newsO n) ++ newsJ j o) ∧ Same H' H6) ⟨by rw [show newsJ 0 o = [] from rfl, List.append_nil]; exact OD, s5⟩ ?_ ?_
        · rintro j H6 hj ⟨OD6, s6⟩
          have po6 := s6 _ _ po
          refine ⟨rfl, ?_⟩
          walk_at "rd"
          refine ⟨p, _, rfl, .inl (SqL.of po6), rfl, all_flat o, ?_⟩
          have ein : inV (V.int (0 + (j : Int))) (o.map nV) = o.contains j := by
            rw [Int.zero_add]
            exact inV_nat j o
          rw [ein]
          refine ⟨_, rfl, ?_⟩
          refine ite2 (fun z => ?_) (fun z => ?_)
          · have nc : ¬ o.contains j = true := fun y => not_t z y
            walk_at "rd"
            refine ⟨(by show 1 ≤ sizeLine; decide), fun a1 k1 => ?_⟩
            generalize e3 : upd H6 a1 _ = H7
            have w3 : Same H6 H7 := by rw [← e3]; exact fun b u y => (upd_ne (ne_of_none y k1)).trans y
            have f3 : H7 a1 = some (.lst [V.int (0 + (j : Int))]) := by rw [← e3]; exact upd_same
            clear e3
            refine ⟨p, a1, _, _, rfl, rfl, w3 _ _ po6, f3, (by rw [List.length_map, oi]; exact Nat.le_trans (by show i + 1 ≤ 8; omega) (by decide)), fun a2 k2 => ?_⟩
            generalize e4 : upd H7 a2 _ = H8
            have w4 : Same H7 H8 := by rw [← e4]; exact fun b u y => (upd_ne (ne_of_none y k2)).trans y
            have f4 : H8 a2 = some (.lst ((o ++ [j]).map nV)) := by
              rw [← e4, List.map_append]
              refine upd_same.trans ?_
              rw [Int.zero_add]
              rfl
            clear e4
            obtain ⟨qs, hqs, lq, at6, fr6⟩ := id OD6
            have n2H : H a2 = none := (sm.trans (s6.trans w3)).free k2
            have nD6 : a2 ≠ D := fun y => by
              rw [y, w3 _ _ hqs] at k2
              cases k2
            refine ⟨_, w4 _ _ (w3 _ _ hqs), ?_, ?_, ?_⟩
            · rw [List.length_map, lq]
              have l1 : (((ordI n i).take i1).flatMap (newsO n) ++ newsJ j o).length ≤ 4 ^ 4 * 4 + 4 := by
                rw [List.length_append]
                have a := grow_len n ((ordI n i).take i1)
                have b := ord_len n n4 i
                have c : ((ordI n i).take i1).length ≤ (ordI n i).length := List.length_take_le' _ _
                have d : (4 : Nat) ^ i ≤ 4 ^ 4 := Nat.pow_le_pow_right (by decide) (by omega)
                have g : (newsJ j o).length ≤ 4 := Nat.le_trans (news_len j o) (by omega)
                have e : ((ordI n i).take i1).length * n ≤ 4 ^ 4 * 4 := Nat.mul_le_mul (by omega) n4
                have f : (growO n ((ordI n i).take i1)).length = (((ordI n i).take i1).flatMap (newsO n)).length := rfl
                omega
              exact Nat.lt_of_le_of_lt l1 (by decide)
            · rw [newsJ_succ, if_neg nc, ← List.append_assoc]
              exact OD6.snoc hqs (w3.trans w4) n2H f4 nD6
            · intro b u y
              exact (upd_ne (ne_of_none y nD)).trans (w4 _ _ (w3 _ _ (s6 _ _ y)))
          · have hc : o.contains j = true := not_f z
            refine ⟨?_, s6⟩
            rw [newsJ_succ, if_pos hc, List.append_nil]
            exact OD6
        · rintro H6 ⟨OD6, s6⟩
          refine ⟨?_, s6, hil⟩
          rw [List.take_succ, ho, List.flatMap_append]
          simp only [Option.toList, List.flatMap_cons, List.flatMap_nil, List.append_nil]
          exact OD6
      · rintro H5 ⟨OD, s5, _⟩
        refine ⟨_, _, rfl, ?_, hD0, sm.trans s5⟩
        rw [List.length_map, lp, List.take_length] at OD
        exact OD
    · rintro st H' ⟨L, x2, rfl, OA, nL, sm⟩
      walk_at "rd"
      exact q L H' nL sm OA
end
end HQ
namespace HQ
open PySem L2 HT
/-- where an order leads -/
def endM (ss : List Sd) (o : List Nat) (v : Int) : Int := (walkW ss o v).2
def stepE (ss : List Sd) (v : Int) (acc : List (Int × List Nat)) (o : List Nat) : List (Int × List Nat) := if acc.any (fun z => decide (z.1 = endM ss o v)) = true then acc else acc ++ [(endM ss o v, o)]
def endsM (ss : List Sd) (os : List (List Nat)) (v : Int) : List (Int × List Nat) := os.foldl (stepE ss v) []
theorem ends_snoc {ss : List Sd} {os : List (List Nat)} {v : Int} {i : Nat} {o : List Nat} (h : os[i]? = some o) : endsM ss (os.take (i + 1)) v = stepE ss v (endsM ss (os.take i) v) o := by
  unfold endsM
  rw [List.take_succ, h, List.foldl_append]
  rfl
theorem stepE_len {ss : List Sd} {v : Int} {acc : List (Int × List Nat)} {o : List Nat} : (stepE ss v acc o).length ≤ acc.length + 1 := by
  unfold stepE
  split
  · omega
  · rw [List.length_append]; exact Nat.le_refl _
theorem ends_len {ss : List Sd} {v : Int} : ∀ (os : List (List Nat)) (acc : List (Int × List Nat)), (os.foldl (stepE ss v) acc).length ≤ acc.length + os.length
  | [], acc => Nat.le_refl _
  | o :: os, acc => by
    have a := ends_len (ss := ss) (v := v) os (stepE ss v acc o)
    have b := stepE_len (ss := ss) (v := v) (acc := acc) (o := o)
    rw [List.foldl_cons, List.length_cons]
    omega
def kvsOf (es : List (Int × List Nat)) (qs : List Addr) : List (Key × V) := (es.zip qs).map fun z => (Sum.inl z.1.1, V.ref z.2)
theorem kvs_keys : ∀ (es : List (Int × List Nat)) (qs : List Addr), qs.length = es.length → (kvsOf es qs).map (·.1) = (es.map (·.1)).map Sum.inl
  | [], [], _ => rfl
  | e :: es, q :: qs, h => by
    show Sum.inl e.1 :: (kvsOf es qs).map (·.1) = _
    rw [kvs_keys es qs (Nat.succ.inj h)]
    rfl
theorem kvs_len {es : List (Int × List Nat)} {qs : List Addr} (h : qs.length = es.length) : (kvsOf es qs).length = es.length := by
  unfold kvsOf
  rw [List.length_map, List.length_zip]
  omega
theorem kvs_val : ∀ (es : List (Int × List Nat)) (qs : List Addr) (k : Int), qs.length = es.length → (valV (kvsOf es qs) (Sum.inl k)).isSome = es.any (fun z => decide (z.1 = k))
  | [], [], k, _ => rfl
  | e :: es, q :: qs, k, h => by
    have ih := kvs_val es qs k (Nat.succ.inj h)
    have dk : decide ((Sum.inl e.1 : Key) = Sum.inl k) = decide (e.1 = k) := by
      by_cases z : e.1 = k
      · rw [decide_eq_true z, z, decide_eq_true rfl]
      · rw [decide_eq_false z, decide_eq_false fun y => z (Sum.inl.inj y)]
    show (Option.map (·.2) (List.find? (fun kv => decide (kv.1 = Sum.inl k)) ((Sum.inl e.1, V.ref q) :: kvsOf es qs))).isSome = (decide (e.1 = k) || es.any fun z => decide (z.1 = k))
    rw [List.find?_cons]
    show (Option.map (·.2) (match decide ((Sum.inl e.1 : Key) = Sum.inl k) with | true => some (Sum.inl e.1, V.ref q) | false => List.find? (fun kv => decide (kv.1 = Sum.inl k)) (kvsOf es qs))).isSome = _
    rw [dk]
    by_cases z : e.1 = k
    · rw [decide_eq_true z]; rfl
    · rw [decide_eq_false z]
      exact ih
theorem kvs_put {es : List (Int × List Nat)} {qs : List Addr} {k : Int} {o : List Nat} {q : Addr} (h : qs.length = es.length) (n : es.any (fun z => decide (z.1 = k)) = false) : putK (kvsOf es qs) (Sum.inl k) (V.ref q) = kvsOf (es ++ [(k, o)]) (qs ++ [q]) := by
  have a : ((kvsOf es qs).any fun kv => decide (kv.1 = Sum.inl k)) = false := by
    have z := kvs_val es qs k h
    rw [n] at z
    have y : valV (kvsOf es qs) (Sum.inl k) = none := by
      cases e : valV (kvsOf es qs) (Sum.inl k) with
      | none => rfl
      | some v => rw [e] at z; cases z
    unfold valV at y
    rw [Option.map_eq_none_iff] at y
    rw [List.any_eq_false]
    intro kv hkv
    have := List.find?_eq_none.mp y kv hkv
    exact this
  unfold putK
  rw [if_neg (by rw [a]; exact Bool.false_ne_true)]
  unfold kvsOf
  rw [List.zip_append h.symm, List.map_append]
  rfl
/-- a dict of ends, each with its order -/
def EndsAt (H0 H : Hp) (D : Addr) (es : List (Int × List Nat)) : Prop := ∃ qs : List Addr, H D = some (.dK (kvsOf es qs)) ∧ qs.length = es.length ∧ (∀ (i : Nat) (q : Addr) (e : Int × List Nat), qs[i]? = some q → es[i]? = some e → H q = some (.lst (e.2.map nV))) ∧ ∀ q ∈ qs, H0 q = none
theorem walk_bd {ss : List Sd} (h : ∀ d ∈ ss, SideP d.o d.s d.m) {v b : Int} (hb : -b < v ∧ v < b) : ∀ (o : List Nat) , (∀ k ∈ o, k < ss.length) → -(b + 10 ^ 30 * (o.length : Int)) < endM ss o v ∧ endM ss o v < b + 10 ^ 30 * (o.length : Int) := by
  intro o
  have gen : ∀ (o : List Nat) (a : List Int × Int) (b : Int), (∀ k ∈ o, k < ss.length) → (-b < a.2 ∧ a.2 < b) → -(b + 10 ^ 30 * (o.length : Int)) < (o.foldl (stepW ss) a).2 ∧ (o.foldl (stepW ss) a).2 < b + 10 ^ 30 * (o.length : Int) := by
    intro o
    induction o with
    | nil =>
      intro a b _ hb
      show -(b + 10 ^ 30 * ((0 : Nat) : Int)) < a.2 ∧ a.2 < b + 10 ^ 30 * ((0 : Nat) : Int)
      omega
    | cons k o ih =>
      intro a b hk hb
      have kl := hk k List.mem_cons_self
      have e : (stepW ss a k).2 = dueM ss[k].o ss[k].s ss[k].m a.2 := by
        unfold stepW
        rw [List.getElem?_eq_getElem kl]
      have far := due_far (v := a.2) (h ss[k] (List.getElem_mem kl)) hb
      rw [← e] at far
      have z := ih (stepW ss a k) (b + 10 ^ 30) (fun j hj => hk j (List.mem_cons_of_mem _ hj)) far
      rw [List.foldl_cons, List.length_cons]
      omega
  exact fun hk => gen o ([], v) b hk hb
def spEnds : Sp := fun vs H Q _ => ∃ (l : Addr) (xs : List V) (ss : List Sd) (L : Addr) (os : List (List Nat)) (v : Int) (H0 : Hp), vs = [.ref l, .ref L, .int v] ∧ SidesAt H l xs ss ∧ OrdsAt H0 H L os ∧ os.length ≤ 1000 ∧ (∀ o ∈ os, o.length ≤ 4 ∧ ∀ k ∈ o, k < ss.length) ∧ (-2 ^ 200 < v ∧ v < 2 ^ 200) ∧
  ∀ (D : Addr) (H' : Hp), H D = none → Same H H' → EndsAt H0 H' D (endsM ss os v) → Q (.ref D) H'
section
variable {P : Program} {w : World} {K : PySem.W.Frag} {mg : Str → Option Value} {base : Heap} {fW : Addr} {dW : FuncData}
theorem ok_ends {f : Addr} {fd : FuncData} (F : Fun K "_ends" "_ends" s_ends f fd) (Wr : Cal P w K mg base "written" 3 ["side", "value"] spDue fW dW) : FnOk P w K mg base CX0 4 f fd ["sides", "orders", "value"] spEnds := by
  refine F.ok sc_ends (fun vs H Q E h => ?_) (fun cdv A outer s0 H vs Q E hr h => ?_)
  · obtain ⟨l, xs, ss, L, os, v, H0, rfl, _⟩ := h
    rfl
  · obtain ⟨l, xs, ss, L, os, v, H0, rfl, SS, OA, ol, oin, hv, q⟩ := h
    have nd := sc_ends.nd
    have hu := hu_of hr
    refine ⟨_, pss_cons (ps_set (i := 3) nd rfl (Or.inl rfl) pe_dnewK)
      (pss_cons (ps_for PassesOwn.never rfl (pi_list (pv 1)) (pg_name (i := 4) nd rfl (Or.inl rfl))
        (pss_cons (ps_set (i := 5) nd rfl (Or.inl rfl) (pv 2))
        (pss_cons (ps_for PassesOwn.never rfl (pi_list (pv 4)) (pg_name (i := 6) nd rfl (Or.inl rfl)) (pss_one (ps_set (i := 5) nd rfl (Or.inl rfl) (pcl Wr hr (by decide) (by rfl) (pa_cons (pe_ix ix_list (pv 0) (pv 6) (fun _ _ => rfl)) (pa_cons (pv 5) pa_nil))))))
        (pss_one (ps_if (pt_cmp (pc_dnotin hu (pv 5) (pv 3))) (pss_one (ps_dput hu (pv 3) (pv 5) (pv 4) rfl)) pss_nil)))))
      (pss_one (ps_ret (pv 3)))), ?_⟩
    walk_at "rd"
    refine fun D nD => ?_
    walk_at "rd"
    obtain ⟨ps, hL, lp, at_, fr⟩ := id OA
    have s1 : Same H (upd H D (.dK [])) := fun b u z => (upd_ne (ne_of_none z nD)).trans z
    refine ⟨⟨_, SqL.of (s1 _ _ hL)⟩, ?_⟩
    refine for_list (K := K) (a := L) (xs := ps.map V.ref) (fun i st H' => ∃ x4 x5 x6 : Option V, st = [some (.ref l), some (.ref L), some (.int v), some (.ref D), x4, x5, x6] ∧ EndsAt H0 H' D (endsM ss (os.take i) v) ∧ Same H H') ⟨none, none, none, rfl, ⟨[], upd_same, rfl, (fun i p o hp _ => nomatch hp), fun p hp => absurd hp List.not_mem_nil⟩, s1⟩ (fun _ _ _ _ ⟨_, _, _, _, _, s⟩ => SqL.of (s _ _ hL)) ?_ ?_
    · rintro i y st H' hy ⟨x4, x5, x6, rfl, EA, sm⟩
      obtain ⟨p, hp, rfl⟩ : ∃ p, ps[i]? = some p ∧ y = .ref p := by
        rw [List.getElem?_map] at hy
        cases e : ps[i]? with
        | none => rw [e] at hy; cases hy
        | some p => rw [e] at hy; exact ⟨p, rfl, (Option.some.inj hy).symm⟩
      have il : i < os.length := by rw [← lp]; exact (List.getElem?_eq_some_iff.mp hp).1
      obtain ⟨o, ho⟩ : ∃ o, os[i]? = some o := ⟨_, List.getElem?_eq_getElem il⟩
      have po := at_ i p o hp ho
      obtain ⟨o4, on⟩ := oin o (List.mem_of_getElem? ho)
      walk_at "rd"
      refine ⟨⟨_, SqL.of (sm _ _ po)⟩, ?_⟩
      refine for_list (K := K) (a := p) (xs := o.map nV) (fun j st H'' => ∃ x6 : Option V, st = [some (.ref l), some (.ref L), some (.int v), some (.ref D), some (.ref p), some (.int (walkW ss (o.take j) v).2), x6] ∧ Same H' H'') ⟨x6, rfl, Same.refl _⟩ (fun _ _ _ _ ⟨_, _, s⟩ => SqL.of (s _ _ (sm _ _ po))) ?_ ?_
      · rintro j y2 st H'' hy2 ⟨x6, rfl, s2⟩
        obtain ⟨k, hk, rfl⟩ : ∃ k, o[j]? = some k ∧ y2 = nV k := by
          rw [List.getElem?_map] at hy2
          cases e : o[j]? with
          | none => rw [e] at hy2; cases hy2
          | some k => rw [e] at hy2; exact ⟨k, rfl, (Option.some.inj hy2).symm⟩
        have kl := on k (List.mem_of_getElem? hk)
        have S2 := (SS.same sm).same s2
        obtain ⟨pk, ek, hpk, spk⟩ := S2.at_ k ss[k] (List.getElem?_eq_getElem kl)
        have en : atI xs ((k : Nat) : Int) = some (.ref pk) := by
          unfold atI
          rw [ixN_in (by omega) (by rw [SS.len]; omega)]
          exact ek
        have bd := walk_bd SS.side hv (o.take j) fun k' hk' => on k' (List.mem_of_mem_take hk')
        have tl : (o.take j).length ≤ 4 := Nat.le_trans (List.length_take_le' _ _) o4
        walk_at "rd"
        refine ⟨l, _, _, _, rfl, rfl, SqL.of S2.hl, en, ?_⟩
        walk_at "rd"
        refine ⟨pk, ss[k].o, ss[k].s, ss[k].m, _, rfl, hpk, spk, (by unfold Bd; unfold endM at bd; omega), fun H3 s3 => ?_⟩
        refine ⟨some (nV k), ?_, s2.trans s3⟩
        rw [walk_snoc hk]
        unfold stepW
        rw [List.getElem?_eq_getElem kl]
        rfl
      · rintro st H'' ⟨x6, rfl, s2⟩
        rw [List.length_map, List.take_length]
        obtain ⟨qs, hD, lq, qat, qfr⟩ := EA
        have hD2 := s2 _ _ hD
        walk_at "rd"
        refine ⟨D, _, rfl, DGet.k (k := Sum.inl (walkW ss o v).2) hD2, _, rfl, ?_⟩
        rw [kvs_val _ _ _ lq]
        refine ite2 (fun z => ?_) (fun z => ?_)
        · have nz : (endsM ss (os.take i) v).any (fun z => decide (z.1 = (walkW ss o v).2)) = false := by simpa using z
          walk_at "rd"
          refine ⟨D, _, rfl, DPut.k (k := Sum.inl (walkW ss o v).2) hD2 ?_, ?_⟩
          · rw [kvs_len lq]
            have a := ends_len (ss := ss) (v := v) (os.take i) []
            have b : (os.take i).length ≤ os.length := List.length_take_le' _ _
            exact small1000 (by unfold endsM; have : ([] : List (Int × List Nat)).length = 0 := rfl; omega)
          · refine ⟨_, _, _, rfl, ?_, ?_⟩
            · rw [kvs_put (o := o) lq nz, ends_snoc ho]
              unfold stepE endM
              rw [if_neg (by rw [nz]; exact Bool.false_ne_true)]
              refine ⟨qs ++ [p], upd_same, by rw [List.length_append, List.length_append, lq]; rfl, ?_, ?_⟩
              · intro j q e hq he
                rcases Nat.lt_or_ge j qs.length with y | y
                · rw [List.getElem?_append_left y] at hq
                  rw [List.getElem?_append_left (by omega)] at he
                  have h1 := s2 _ _ (qat j q e hq he)
                  exact (upd_ne (ne_of h1 hD2 (by intro y; cases y))).trans h1
                · rw [List.getElem?_append_right y] at hq
                  rw [List.getElem?_append_right (by omega)] at he
                  have e0 : j - qs.length = 0 := by
                    have := (List.getElem?_eq_some_iff.mp hq).1
                    simp at this
                    omega
                  rw [e0] at hq
                  rw [show j - (endsM ss (os.take i) v).length = 0 by omega] at he
                  cases hq
                  cases he
                  have h1 := s2 _ _ (sm _ _ po)
                  exact (upd_ne (ne_of h1 hD2 (by intro y; cases y))).trans h1
              · intro q hq
                rcases List.mem_append.mp hq with y | y
                · exact qfr q y
                · rw [List.mem_singleton.mp y]; exact fr p (List.mem_of_getElem? hp)
            · intro b u y
              exact (upd_ne (ne_of_none y nD)).trans (s2 _ _ (sm _ _ y))
        · have hz : (endsM ss (os.take i) v).any (fun z => decide (z.1 = (walkW ss o v).2)) = true := by simpa using z
          refine ⟨_, _, _, rfl, ?_, sm.trans s2⟩
          rw [ends_snoc ho]
          unfold stepE endM
          rw [if_pos hz]
          exact ⟨qs, hD2, lq, fun j q e hq he => s2 _ _ (qat j q e hq he), qfr⟩
    · rintro st H' ⟨x4, x5, x6, rfl, EA, sm⟩
      rw [List.length_map, lp, List.take_length] at EA
      walk_at "rd"
      exact q D H' nD sm EA
end
end HQ
namespace HQ
open PySem L2 HT
theorem stepE_nodup {ss : List Sd} {v : Int} {acc : List (Int × List Nat)} {o : List Nat} (h : (acc.map (·.1)).Nodup) : ((stepE ss v acc o).map (·.1)).Nodup := by
  unfold stepE
  by_cases c : acc.any (fun z => decide (z.1 = endM ss o v)) = true
  · rw [if_pos c]; exact h
  · rw [if_neg c, List.map_append]
    refine List.nodup_append.mpr ⟨h, by simp, ?_⟩
    intro x hx y hy e
    subst e
    have hy' : x = endM ss o v := by simpa using hy
    obtain ⟨z, hz, ez⟩ := List.mem_map.mp hx
    refine c (List.any_eq_true.mpr ⟨z, hz, decide_eq_true ?_⟩)
    show z.1 = endM ss o v
    rw [← hy']; exact ez
theorem foldE_nodup {ss : List Sd} {v : Int} : ∀ (os : List (List Nat)) (acc : List (Int × List Nat)), (acc.map (·.1)).Nodup → ((os.foldl (stepE ss v) acc).map (·.1)).Nodup
  | [], acc, h => h
  | o :: os, acc, h => foldE_nodup os _ (stepE_nodup h)
theorem ends_nodup {ss : List Sd} {v : Int} {os : List (List Nat)} : ((endsM ss os v).map (·.1)).Nodup := foldE_nodup os [] List.nodup_nil
def ordOf (es : List (Int × List Nat)) (y : Int) : List Nat := ((es.find? fun z => decide (z.1 = y)).map (·.2)).getD []
theorem ordOf_mem : ∀ {es : List (Int × List Nat)}, (es.map (·.1)).Nodup → ∀ {e : Int × List Nat}, e ∈ es → ordOf es e.1 = e.2
  | [], _, e, h => absurd h List.not_mem_nil
  | d :: es, hn, e, h => by
    have hn' : d.1 ∉ es.map (·.1) ∧ (es.map (·.1)).Nodup := List.nodup_cons.mp hn
    unfold ordOf
    rw [List.find?_cons]
    rcases List.mem_cons.mp h with z | z
    · subst z
      rw [decide_eq_true rfl]
      rfl
    · have ne : ¬ d.1 = e.1 := fun y => hn'.1 (y ▸ List.mem_map.mpr ⟨e, z, rfl⟩)
      rw [decide_eq_false ne]
      exact ordOf_mem hn'.2 z
theorem self_map {es : List (Int × List Nat)} (hn : (es.map (·.1)).Nodup) : (es.map (·.1)).map (fun y => (y, ordOf es y)) = es := by
  rw [List.map_map]
  have : ∀ e ∈ es, ((fun y => (y, ordOf es y)) ∘ (·.1)) e = e := fun e he => by
    show (e.1, ordOf es e.1) = e
    rw [ordOf_mem hn he]
  rw [List.map_congr_left this, List.map_id'']
  exact fun _ => rfl
/-- the ends in order -/
def SortedOf (rs es : List (Int × List Nat)) : Prop := rs.Perm es ∧ rs.Pairwise fun a b => a.1 < b.1
theorem sorted_of {es : List (Int × List Nat)} {ys : List Int} (hn : (es.map (·.1)).Nodup) (p : ys.Perm (es.map (·.1))) (h : ys.Pairwise (· ≤ ·)) : SortedOf (ys.map fun y => (y, ordOf es y)) es := by
  refine ⟨?_, ?_⟩
  · have := p.map (fun y => (y, ordOf es y))
    rw [self_map hn] at this
    exact this
  · have hy : ys.Nodup := p.nodup_iff.mpr hn
    rw [List.pairwise_map]
    have := List.Pairwise.and h hy
    exact this.imp fun {a b} ⟨x, y⟩ => by
      show a < b
      omega
theorem sorted_uniq : ∀ {rs ts : List (Int × List Nat)}, rs.Perm ts → (rs.Pairwise fun a b => a.1 < b.1) → (ts.Pairwise fun a b => a.1 < b.1) → rs = ts
  | [], ts, p, _, _ => (List.nil_perm.mp p).symm
  | r :: rs, [], p, _, _ => absurd p.symm.nil_eq (by simp)
  | r :: rs, t :: ts, p, h1, h2 => by
    rw [List.pairwise_cons] at h1 h2
    have e : r = t := by
      have a : r ∈ t :: ts := p.mem_iff.mp List.mem_cons_self
      have b : t ∈ r :: rs := p.mem_iff.mpr List.mem_cons_self
      rcases List.mem_cons.mp a with x | x
      · exact x
      · rcases List.mem_cons.mp b with y | y
        · exact y.symm
        · have q1 := h2.1 r x
          have q2 := h1.1 t y
          omega
    subst e
    rw [sorted_uniq (List.perm_cons _ |>.mp p) h1.2 h2.2]
/-- rows of an end and its order -/
def OnceAt (H0 H : Hp) (R : Addr) (rs : List (Int × List Nat)) : Prop := ∃ ts : List Addr, H R = some (.lst (ts.map V.ref)) ∧ ts.length = rs.length ∧ ∀ (i : Nat) (p : Addr) (e : Int × List Nat), ts[i]? = some p → rs[i]? = some e → ∃ q : Addr, H p = some (.tup [.int e.1, .ref q]) ∧ H q = some (.lst (e.2.map nV)) ∧ H0 q = none
theorem kvs_at : ∀ (es : List (Int × List Nat)) (qs : List Addr) (k : Int), qs.length = es.length → k ∈ es.map (·.1) → ∃ (i : Nat) (q : Addr) (e : Int × List Nat), qs[i]? = some q ∧ es[i]? = some e ∧ e.1 = k ∧ valV (kvsOf es qs) (Sum.inl k) = some (.ref q)
  | [], [], k, _, h => absurd h List.not_mem_nil
  | e :: es, q :: qs, k, hl, h => by
    have val : valV (kvsOf (e :: es) (q :: qs)) (Sum.inl k) = if e.1 = k then some (.ref q) else valV (kvsOf es qs) (Sum.inl k) := by
      show Option.map (·.2) (List.find? (fun kv => decide (kv.1 = Sum.inl k)) ((Sum.inl e.1, V.ref q) :: kvsOf es qs)) = _
      rw [List.find?_cons]
      have dk : decide ((Sum.inl e.1 : Key) = Sum.inl k) = decide (e.1 = k) := by
        by_cases z : e.1 = k
        · rw [decide_eq_true z, z, decide_eq_true rfl]
        · rw [decide_eq_false z, decide_eq_false fun y => z (Sum.inl.inj y)]
      show Option.map (·.2) (match decide ((Sum.inl e.1 : Key) = Sum.inl k) with | true => some (Sum.inl e.1, V.ref q) | false => List.find? (fun kv => decide (kv.1 = Sum.inl k)) (kvsOf es qs)) = _
      rw [dk]
      by_cases z : e.1 = k
      · rw [decide_eq_true z, if_pos z]; rfl
      · rw [decide_eq_false z, if_neg z]; rfl
    by_cases z : e.1 = k
    · exact ⟨0, q, e, rfl, rfl, z, by rw [val, if_pos z]⟩
    · have hk : k ∈ es.map (·.1) := by
        rcases List.mem_cons.mp (show k ∈ e.1 :: es.map (·.1) from h) with y | y
        · exact absurd y.symm z
        · exact y
      obtain ⟨i, q2, e2, h1, h2, h3, h4⟩ := kvs_at es qs k (Nat.succ.inj hl) hk
      exact ⟨i + 1, q2, e2, h1, h2, h3, by rw [val, if_neg z]; exact h4⟩
theorem ord24 {n : Nat} (h1 : 1 ≤ n) (h4 : n ≤ 4) : (ordI n n).length ≤ 24 := by
  rcases (by omega : n = 1 ∨ n = 2 ∨ n = 3 ∨ n = 4) with e | e | e | e <;> subst e <;> decide
def spOnce : Sp := fun vs H Q _ => ∃ (l : Addr) (xs : List V) (ss : List Sd) (v : Int), vs = [.ref l, .int v] ∧ SidesAt H l xs ss ∧ (-2 ^ 200 < v ∧ v < 2 ^ 200) ∧
  ∀ (R : Addr) (H' : Hp) (rs : List (Int × List Nat)), H R = none → Same H H' → SortedOf rs (endsM ss (ordI ss.length ss.length) v) → OnceAt H H' R rs → Q (.ref R) H'
section
variable {P : Program} {w : World} {K : PySem.W.Frag} {mg : Str → Option Value} {base : Heap} {fL fV fO fE : Addr} {dL dV dO dE : FuncData}
theorem ok_once {f : Addr} {fd : FuncData} (F : Fun K "once" "once" s_once f fd) (A' : AmG mg) (Ls : Cal P w K mg base "check_sides" 5 ["sides"] spSides fL dL) (Vl : Cal P w K mg base "check_value" 2 ["value"] spCheckValue fV dV)
    (Or' : Cal P w K mg base "_orders" 1 ["many"] spOrders fO dO) (En : Cal P w K mg base "_ends" 4 ["sides", "orders", "value"] spEnds fE dE) : FnOk P w K mg base CX0 6 f fd ["sides", "value"] spOnce := by
  refine F.ok sc_once (fun vs H Q E h => ?_) (fun cdv A outer s0 H vs Q E hr h => ?_)
  · obtain ⟨l, xs, ss, v, rfl, _⟩ := h
    rfl
  · obtain ⟨l, xs, ss, v, rfl, SS, hv, q⟩ := h
    have nd := sc_once.nd
    have hu := hu_of hr
    refine ⟨_, pss_cons (ps_expr (pcl Ls hr (by decide) (by rfl) (pa_cons (pv 0) pa_nil)))
      (pss_cons (ps_expr (pcl Vl hr (by decide) (by rfl) (pa_cons (pv 1) pa_nil)))
      (pss_cons (ps_set (i := 2) nd rfl (Or.inr rfl) (pcl En hr (by decide) (by rfl) (pa_cons (pv 0) (pa_cons (pcl Or' hr (by decide) (by rfl) (pa_cons (pe_callB call_len_seq (by rfl) A'.len PySem.boot_len (pa_cons (pv 0) pa_nil)) pa_nil)) (pa_cons (pv 1) pa_nil)))))
      (pss_one (ps_ret (pe_lc (own := [("end", 3)]) (g := gName 3) (tt := tYes) rfl nd (pi_list (pe_callB (call_sortedDI rfl) (by rfl) A'.sorted (by decide +kernel) (pa_cons (pv 2) pa_nil))) (blkOk_by (N := ["sides", "value", "ends", "end"]) (sc := defScope s_once) (by decide +kernel)) (fun _ _ _ _ _ => pg_name (i := 3) nd rfl (Or.inl rfl)) (fun _ _ _ _ _ => pts_nil)
          (fun _ _ _ _ _ => pe_tup (pa_cons (pv 3) (pa_cons (pe_dget hu (pv 2) (pv 3) (fun _ _ => rfl)) pa_nil)))))))), ?_⟩
    walk_at "rd"
    refine ⟨l, xs, ss, rfl, SS, ?_⟩
    walk_at "rd"
    refine ⟨l, _, rfl, .inl (SqL.of SS.hl), ?_⟩
    refine ⟨ss.length, (by show [V.int (xs.length : Int)] = _; rw [SS.len]), SS.l1, SS.l4, fun L H1 nL s1 OA => ?_⟩
    walk_at "rd"
    have o24 := ord24 SS.l1 SS.l4
    refine ⟨l, xs, ss, L, ordI ss.length ss.length, v, H, rfl, SS.same s1, OA, by omega, fun o ho => ?_, hv, fun D H2 nD s2 EA => ?_⟩
    · obtain ⟨a, b⟩ := ord_in ss.length ss.length o ho
      exact ⟨by rw [a]; exact SS.l4, b⟩
    obtain ⟨qs, hD, lq, qat, qfr⟩ := EA
    have el : (endsM ss (ordI ss.length ss.length) v).length ≤ 24 := by
      have := ends_len (ss := ss) (v := v) (ordI ss.length ss.length) []
      unfold endsM
      have e0 : ([] : List (Int × List Nat)).length = 0 := rfl
      omega
    walk_at "rd"
    refine ⟨D, _, (endsM ss (ordI ss.length ss.length) v).map (·.1), rfl, .inl hD, kvs_keys _ _ lq, (by rw [List.length_map]; omega), fun ys p perm pw np => ?_⟩
    have hp : upd H2 p (.lst (ys.map V.int)) p = some (.lst (ys.map V.int)) := upd_same
    have s3 : Same H2 (upd H2 p (.lst (ys.map V.int))) := fun b u z => (upd_ne (ne_of_none z np)).trans z
    generalize upd H2 p (.lst (ys.map V.int)) = H3 at hp s3 ⊢
    have yl : ys.length ≤ 24 := by rw [perm.length_eq, List.length_map]; exact el
    refine ⟨p, rfl, ⟨_, SqL.of hp⟩, fun R nR => ?_⟩
    have sR : Same H H3 := s1.trans (s2.trans s3)
    refine lc_list (K := K) (a := p) (xs := ys.map V.int) (fun i H4 => ∃ ts : List Addr, H4 R = some (.lst (ts.map V.ref)) ∧ ts.length = i ∧ Same H3 H4 ∧ ∀ (j : Nat) (b : Addr) (y : Int), ts[j]? = some b → ys[j]? = some y → ∃ q : Addr, H4 b = some (.tup [.int y, .ref q]) ∧ H3 q = some (.lst ((ordOf (endsM ss (ordI ss.length ss.length) v) y).map nV)) ∧ H q = none)
      ⟨[], upd_same, rfl, (fun b u z => (upd_ne (ne_of_none z nR)).trans z), fun j b y hb => nomatch hb⟩ (fun i H4 _ ⟨_, _, _, s4, _⟩ => SqL.of (s4 _ _ hp)) ?_ ?_
    · rintro i x H4 hx ⟨ts, hR, lt, s4, tat⟩
      obtain ⟨y, hy, rfl⟩ : ∃ y, ys[i]? = some y ∧ x = .int y := by
        rw [List.getElem?_map] at hx
        cases e : ys[i]? with
        | none => rw [e] at hx; cases hx
        | some y => rw [e] at hx; exact ⟨y, rfl, (Option.some.inj hx).symm⟩
      have il : i < ys.length := (List.getElem?_eq_some_iff.mp hy).1
      have ymem : y ∈ (endsM ss (ordI ss.length ss.length) v).map (·.1) := perm.mem_iff.mp (List.mem_of_getElem? hy)
      obtain ⟨j, q2, e, h1, h2, h3, h4⟩ := kvs_at _ qs y lq ymem
      have hD4 := s4 _ _ (s3 _ _ hD)
      refine ⟨rfl, ?_⟩
      walk_at "rd"
      refine ⟨D, .ref q2, rfl, ?_, ?_⟩
      · have g := DGet.k (k := Sum.inl y) hD4
        rw [h4] at g
        exact g
      refine ⟨(by show 2 ≤ sizeLine; decide), fun b nb => ?_⟩
      have nbR : b ≠ R := fun z => by rw [z, hR] at nb; cases nb
      have q2D : H4 q2 = some (.lst (e.2.map nV)) := s4 _ _ (s3 _ _ (qat j q2 e h1 h2))
      have eo : ordOf (endsM ss (ordI ss.length ss.length) v) y = e.2 := by
        rw [← h3]
        exact ordOf_mem ends_nodup (List.mem_of_getElem? h2)
      refine ⟨_, (upd_ne (Ne.symm nbR)).trans hR, ?_, ts ++ [b], ?_, by rw [List.length_append, lt]; rfl, ?_, ?_⟩
      · rw [List.length_map, lt]; exact Nat.lt_of_lt_of_le (by omega : i < 100) (by decide)
      · rw [List.map_append]; exact upd_same
      · intro c u z
        have z4 := s4 _ _ z
        exact (upd_ne (ne_of_none z nR)).trans ((upd_ne (ne_of_none z4 nb)).trans z4)
      · intro j2 b2 y2 hb2 hy2
        rcases Nat.lt_or_ge j2 ts.length with z | z
        · rw [List.getElem?_append_left z] at hb2
          obtain ⟨q3, g1, g2, g3⟩ := tat j2 b2 y2 hb2 hy2
          have k1 : b2 ≠ R := ne_of g1 hR (by intro y; cases y)
          exact ⟨q3, (upd_ne k1).trans ((upd_ne (ne_of_none g1 nb)).trans g1), g2, g3⟩
        · rw [List.getElem?_append_right z] at hb2
          have e0 : j2 - ts.length = 0 := by
            have := (List.getElem?_eq_some_iff.mp hb2).1
            simp at this
            omega
          rw [e0] at hb2
          cases hb2
          rw [show j2 = i by omega, hy] at hy2
          cases hy2
          refine ⟨q2, (upd_ne nbR).trans upd_same, ?_, qfr q2 (List.mem_of_getElem? h1)⟩
          rw [eo]
          exact s3 _ _ (qat j q2 e h1 h2)
    · rintro H4 ⟨ts, hR, lt, s4, tat⟩
      walk_at "rd"
      have so := sorted_of ends_nodup perm pw
      refine q R H4 _ (sR.free nR) (sR.trans s4) so ⟨ts, hR, by rw [lt, List.length_map, List.length_map], ?_⟩
      intro i b e hb he
      rw [List.getElem?_map] at he
      cases ey : ys[i]? with
      | none => rw [ey] at he; cases he
      | some y =>
        rw [ey] at he
        cases he
        obtain ⟨q3, g1, g2, g3⟩ := tat i b y hb ey
        exact ⟨q3, g1, s4 _ _ g2, g3⟩
end
end HQ
namespace HT
open PySem L2
/-- what a call by its kind comes to: the word for it -/
inductive Word (K : PySem.W.Frag) (H : Hp) (kd : Nat) (x y : V) : Str → Prop where
  | sides (bad : BadL K H x) : Word K H kd x y "sides"
  | val {l : Addr} {xs : List V} {n : String} (e : x = .ref l) (S : GoodL H l xs) (k1 : kd < 2) (t : Th H y n) (ni : isI n = false) : Word K H kd x y "value"
  | once {l : Addr} {xs : List V} {ss : List Sd} {v : Int} (e : x = .ref l) (S : SidesAt H l xs ss) (k0 : kd = 0) (ey : y = .int v) (vb : -2 ^ 200 < v ∧ v < 2 ^ 200) : Word K H kd x y "good"
  | calm {l : Addr} {xs : List V} {ss : List Sd} (e : x = .ref l) (S : SidesAt H l xs ss) (k2 : kd = 2) (few : FewG ss) : Word K H kd x y "good"
  | many {l : Addr} {xs : List V} {ss : List Sd} (e : x = .ref l) (S : SidesAt H l xs ss) (k2 : kd = 2) (m : ManyP ss) : Word K H kd x y "many"
def spOnceU (K : PySem.W.Frag) (C : Nat → Addr) : Sp := fun vs H Q E => HQ.spOnce vs H Q E ∨ spTwoX K C vs H Q E
def spCalmU (K : PySem.W.Frag) (C : Nat → Addr) : Sp := fun vs H Q E => spCalm vs H Q E ∨ spCalmX K C vs H Q E
def spWord (K : PySem.W.Frag) : Sp := fun vs H Q _ => ∃ (kd : Nat) (x y : V) (r : Str), vs = [.int (kd : Int), x, y] ∧ kd < 3 ∧ Word K H kd x y r ∧ ∀ H', Same H H' → Q (.str r) H'
section
variable {P : Program} {w : World} {K : PySem.W.Frag} {mg : Str → Option Value} {base : Heap} {aM fA fB fR B : Addr} {dA dB dR : FuncData} {C : Nat → Addr}
theorem ok_word {f : Addr} {fd : FuncData} (F : Fun K "_law_word" "_law_word" s_L_word f fd) (R : Er K mg C B) (On : CalX P w K mg base "once" 6 ["sides", "value"] (spOnceU K C) fA dA) (Om : CalX P w K mg base "order_matters" 6 ["sides", "value"] (spTwoX K C) fB dB) (Ca : CalX P w K mg base "calm" 110 ["sides"] (spCalmU K C) fR dR) : FnOk P w K mg base CX0 111 f fd ["_law_kind", "_law_sides", "_law_value"] (spWord K) := by
  refine F.ok sc_L_word (fun vs H Q E h => ?_) (fun cdv A outer s0 H vs Q E hr h => ?_)
  · obtain ⟨kd, x, y, r, rfl, _⟩ := h
    rfl
  · obtain ⟨kd, x, y, r, rfl, hd, wd, q⟩ := h
    have nd := sc_L_word.nd
    refine ⟨_, pss_cons (ps_set (i := 3) nd rfl (Or.inl rfl) pe_non)
      (pss_cons (ps_try_keep (i := 4) rfl rfl rfl nd rfl rfl ⟨rfl, by decide, .inl R.gB⟩ takes0 (fun W pn xe tk _ => pss_one (ps_if (pt_cmpR op_eq (pv 0) pe_int (nomark _)) (pss_one (ps_expr (pcx On hr (by decide) (by rfl) tk (pa_cons (pv 1) (pa_cons (pv 2) pa_nil)))))
          (pss_one (ps_if (pt_cmpR op_eq (pv 0) pe_int (nomark _)) (pss_one (ps_expr (pcx Om hr (by decide) (by rfl) tk (pa_cons (pv 1) (pa_cons (pv 2) pa_nil)))))
          (pss_one (ps_expr (pcx Ca hr (by decide) (by rfl) tk (pa_cons (pv 1) pa_nil))))))))
        (fun a rc kl dd pn hz hf => pss_one (ps_set (i := 3) nd rfl (Or.inl rfl) (pv 4))))
      (pss_cons (ps_if (pt_cmpR op_isN (pv 3) pe_non (nomark _)) (pss_one (ps_ret pe_str)) pss_nil)
      (pss_cons (ps_set (i := 5) nd rfl (Or.inl rfl) (pe_lst (pa_cons (pe_callB call_isKept (by rfl) R.isi (by decide +kernel) (pa_cons (pv 3) (pa_cons (pe_glob (v := .ref (C 1)) (by rfl) R.g1 rfl) pa_nil))) (pa_cons (pe_callB call_isKept (by rfl) R.isi (by decide +kernel) (pa_cons (pv 3) (pa_cons (pe_glob (v := .ref (C 3)) (by rfl) R.g3 rfl) pa_nil))) (pa_cons (pe_callB call_isKept (by rfl) R.isi (by decide +kernel) (pa_cons (pv 3) (pa_cons (pe_glob (v := .ref (C 2)) (by rfl) R.g2 rfl) pa_nil))) pa_nil)))))
      (pss_cons (ps_if (PW.pt (pw_or (pt_cmpR op_ne (pe_bm PySem.F.plainAttrs_list PySem.F.slot_list_count PySem.F.type_list_count mt_cntV (pv 5) (pa_cons pe_bl pa_nil)) pe_int (nomark _)) (pw_or (pt_val (pe_callB call_isKept (by rfl) R.isi (by decide +kernel) (pa_cons (pv 3) (pa_cons (pe_glob (v := .ref (C 0)) (by rfl) R.g0 rfl) pa_nil)))) (pw_or1 (pt_not (pt_val (pe_callB call_isKept (by rfl) R.isi (by decide +kernel) (pa_cons (pv 3) (pa_cons (pe_bltn (v := .ty "ValueError") (by rfl) R.ve (by decide +kernel) rfl) pa_nil))))))))) (pss_one (ps_ret pe_str)) pss_nil)
      (pss_one (ps_ret (pe_ix ix_list (pe_lst (pa_cons pe_str (pa_cons pe_str (pa_cons pe_str pa_nil)))) (pe_bm PySem.F.plainAttrs_list PySem.F.slot_list_index PySem.F.type_list_index mt_index (pv 5) (pa_cons pe_bl pa_nil)) (fun _ _ => rfl)))))))), ?_⟩
    walk_at "rd"
    rcases (by omega : kd = 0 ∨ kd = 1 ∨ kd = 2) with rfl | rfl | rfl
    · cases wd with
      | sides bad =>
        refine ⟨rfl, ?_⟩
        walk_at "rd"
        refine .inr ⟨_, _, rfl, .inl ⟨bad, ?_⟩⟩
        refine ⟨true, R.emB 1 (by decide), fun _ => ⟨rfl, fun a ha => ?_⟩, fun z => Bool.noConfusion z⟩
        walk_at "rd"
        refine ⟨rfl, ?_⟩
        walk_at "rd"
        refine ⟨a, C 1, _, .ref (C 1), decide (1 = 1), rfl, .own _, upd_same, R.ec 1 (by decide), R.eg, R.kit 1 1 (by decide) (by decide), ?_⟩
        walk_at "rd"
        refine ⟨a, C 1, _, .ref (C 3), decide (1 = 3), rfl, .own _, upd_same, R.ec 1 (by decide), R.eg, R.kit 1 3 (by decide) (by decide), ?_⟩
        walk_at "rd"
        refine ⟨a, C 1, _, .ref (C 2), decide (1 = 2), rfl, .own _, upd_same, R.ec 1 (by decide), R.eg, R.kit 1 2 (by decide) (by decide), ?_⟩
        walk_at "rd"
        refine ⟨(by show 3 ≤ sizeLine; decide), fun l1 nl1 => ?_⟩
        have ea1 := (upd_ne (o := .lst [V.bl (decide (1 = 1)), .bl (decide (1 = 3)), .bl (decide (1 = 2))]) (ne_of_none upd_same nl1)).trans (upd_same (H := H) (a := a) (o := ExK (.ref (C 1)) a))
        have hl1 : upd (upd H a (ExK (.ref (C 1)) a)) l1 (.lst [V.bl (decide (1 = 1)), .bl (decide (1 = 3)), .bl (decide (1 = 2))]) l1 = some (.lst [V.bl (decide (1 = 1)), .bl (decide (1 = 3)), .bl (decide (1 = 2))]) := upd_same
        have eb1 : Same H (upd (upd H a (ExK (.ref (C 1)) a)) l1 (.lst [V.bl (decide (1 = 1)), .bl (decide (1 = 3)), .bl (decide (1 = 2))])) := fun b u e0 => by
          have e1 := (upd_ne (o := ExK (.ref (C 1)) a) (ne_of_none e0 ha)).trans e0
          exact (upd_ne (ne_of_none e1 nl1)).trans e1
        generalize upd (upd H a (ExK (.ref (C 1)) a)) l1 (.lst [V.bl (decide (1 = 1)), .bl (decide (1 = 3)), .bl (decide (1 = 2))]) = HX at ea1 eb1 hl1 ⊢
        walk_at "rd"
        refine ⟨.inl ⟨rfl, _, SqL.of hl1⟩, ?_⟩
        walk_at "rd"
        refine ⟨l1, _, .bl true, rfl, rfl, SqL.of hl1, rfl, rfl, ?_⟩
        walk_at "rd"
        refine ⟨rfl, ?_⟩
        walk_at "rd"
        refine ⟨a, C 1, _, .ref (C 0), decide (1 = 0), rfl, .own _, ea1, R.ec 1 (by decide), R.eg, R.kit 1 0 (by decide) (by decide), ?_⟩
        walk_at "rd"
        refine ⟨a, C 1, _, .type "ValueError", true, rfl, .ty _, ea1, R.ec 1 (by decide), R.eg, R.kitV 1 (by decide), ?_⟩
        walk_at "rd"
        refine ⟨(by show 3 ≤ sizeLine; decide), fun l4 nl4 => ?_⟩
        have hl4 : upd HX l4 (.lst [V.str "sides", .str "value", .str "many"]) l4 = some (.lst [V.str "sides", .str "value", .str "many"]) := upd_same
        have eb4 : Same HX (upd HX l4 (.lst [V.str "sides", .str "value", .str "many"])) := fun b u e0 => (upd_ne (ne_of_none e0 nl4)).trans e0
        generalize upd HX l4 (.lst [V.str "sides", .str "value", .str "many"]) = HY at eb4 hl4 ⊢
        walk_at "rd"
        refine ⟨.inl ⟨rfl, _, SqL.of (eb4 _ _ hl1)⟩, ?_⟩
        walk_at "rd"
        refine ⟨l1, _, .bl true, 0, .bl true, rfl, rfl, SqL.of (eb4 _ _ hl1), rfl, rfl, rfl, rfl, fun m z' hm hz => ?_, ?_⟩
        · exact absurd hm (Nat.not_lt_zero _)
        refine ⟨l4, _, _, _, rfl, rfl, SqL.of hl4, rfl, ?_⟩
        exact q _ ((Same.refl H).trans (eb1.trans eb4))
      | val e S k1 t ni =>
        subst e
        refine ⟨rfl, ?_⟩
        walk_at "rd"
        refine .inr ⟨_, _, rfl, .inr ⟨_, _, _, rfl, S, t, ni, ?_⟩⟩
        refine ⟨true, R.emB 3 (by decide), fun _ => ⟨rfl, fun a ha => ?_⟩, fun z => Bool.noConfusion z⟩
        walk_at "rd"
        refine ⟨rfl, ?_⟩
        walk_at "rd"
        refine ⟨a, C 3, _, .ref (C 1), decide (3 = 1), rfl, .own _, upd_same, R.ec 3 (by decide), R.eg, R.kit 3 1 (by decide) (by decide), ?_⟩
        walk_at "rd"
        refine ⟨a, C 3, _, .ref (C 3), decide (3 = 3), rfl, .own _, upd_same, R.ec 3 (by decide), R.eg, R.kit 3 3 (by decide) (by decide), ?_⟩
        walk_at "rd"
        refine ⟨a, C 3, _, .ref (C 2), decide (3 = 2), rfl, .own _, upd_same, R.ec 3 (by decide), R.eg, R.kit 3 2 (by decide) (by decide), ?_⟩
        walk_at "rd"
        refine ⟨(by show 3 ≤ sizeLine; decide), fun l1 nl1 => ?_⟩
        have ea1 := (upd_ne (o := .lst [V.bl (decide (3 = 1)), .bl (decide (3 = 3)), .bl (decide (3 = 2))]) (ne_of_none upd_same nl1)).trans (upd_same (H := H) (a := a) (o := ExK (.ref (C 3)) a))
        have hl1 : upd (upd H a (ExK (.ref (C 3)) a)) l1 (.lst [V.bl (decide (3 = 1)), .bl (decide (3 = 3)), .bl (decide (3 = 2))]) l1 = some (.lst [V.bl (decide (3 = 1)), .bl (decide (3 = 3)), .bl (decide (3 = 2))]) := upd_same
        have eb1 : Same H (upd (upd H a (ExK (.ref (C 3)) a)) l1 (.lst [V.bl (decide (3 = 1)), .bl (decide (3 = 3)), .bl (decide (3 = 2))])) := fun b u e0 => by
          have e1 := (upd_ne (o := ExK (.ref (C 3)) a) (ne_of_none e0 ha)).trans e0
          exact (upd_ne (ne_of_none e1 nl1)).trans e1
        generalize upd (upd H a (ExK (.ref (C 3)) a)) l1 (.lst [V.bl (decide (3 = 1)), .bl (decide (3 = 3)), .bl (decide (3 = 2))]) = HX at ea1 eb1 hl1 ⊢
        walk_at "rd"
        refine ⟨.inl ⟨rfl, _, SqL.of hl1⟩, ?_⟩
        walk_at "rd"
        refine ⟨l1, _, .bl true, rfl, rfl, SqL.of hl1, rfl, rfl, ?_⟩
        walk_at "rd"
        refine ⟨rfl, ?_⟩
        walk_at "rd"
        refine ⟨a, C 3, _, .ref (C 0), decide (3 = 0), rfl, .own _, ea1, R.ec 3 (by decide), R.eg, R.kit 3 0 (by decide) (by decide), ?_⟩
        walk_at "rd"
        refine ⟨a, C 3, _, .type "ValueError", true, rfl, .ty _, ea1, R.ec 3 (by decide), R.eg, R.kitV 3 (by decide), ?_⟩
        walk_at "rd"
        refine ⟨(by show 3 ≤ sizeLine; decide), fun l4 nl4 => ?_⟩
        have hl4 : upd HX l4 (.lst [V.str "sides", .str "value", .str "many"]) l4 = some (.lst [V.str "sides", .str "value", .str "many"]) := upd_same
        have eb4 : Same HX (upd HX l4 (.lst [V.str "sides", .str "value", .str "many"])) := fun b u e0 => (upd_ne (ne_of_none e0 nl4)).trans e0
        generalize upd HX l4 (.lst [V.str "sides", .str "value", .str "many"]) = HY at eb4 hl4 ⊢
        walk_at "rd"
        refine ⟨.inl ⟨rfl, _, SqL.of (eb4 _ _ hl1)⟩, ?_⟩
        walk_at "rd"
        refine ⟨l1, _, .bl true, 1, .bl true, rfl, rfl, SqL.of (eb4 _ _ hl1), rfl, rfl, rfl, rfl, fun m z' hm hz => ?_, ?_⟩
        · obtain rfl : m = 0 := by omega
          cases hz; rfl
        refine ⟨l4, _, _, _, rfl, rfl, SqL.of hl4, rfl, ?_⟩
        exact q _ ((Same.refl H).trans (eb1.trans eb4))
      | once e S k0 ey vb =>
        subst e ey
        refine ⟨rfl, ?_⟩
        walk_at "rd"
        refine .inl ⟨_, _, _, _, rfl, S, vb, fun R1 H1 rs nR1 sX _ _ => ?_⟩
        walk_at "rd"
        refine ⟨rfl, ?_⟩
        walk_at "rd"
        exact q _ sX
      | calm e S k2 few => exact absurd k2 (by decide)
      | many e S k2 m => exact absurd k2 (by decide)
    · cases wd with
      | sides bad =>
        refine ⟨rfl, ?_⟩
        walk_at "rd"
        refine ⟨rfl, ?_⟩
        walk_at "rd"
        refine ⟨_, _, rfl, .inl ⟨bad, ?_⟩⟩
        refine ⟨true, R.emB 1 (by decide), fun _ => ⟨rfl, fun a ha => ?_⟩, fun z => Bool.noConfusion z⟩
        walk_at "rd"
        refine ⟨rfl, ?_⟩
        walk_at "rd"
        refine ⟨a, C 1, _, .ref (C 1), decide (1 = 1), rfl, .own _, upd_same, R.ec 1 (by decide), R.eg, R.kit 1 1 (by decide) (by decide), ?_⟩
        walk_at "rd"
        refine ⟨a, C 1, _, .ref (C 3), decide (1 = 3), rfl, .own _, upd_same, R.ec 1 (by decide), R.eg, R.kit 1 3 (by decide) (by decide), ?_⟩
        walk_at "rd"
        refine ⟨a, C 1, _, .ref (C 2), decide (1 = 2), rfl, .own _, upd_same, R.ec 1 (by decide), R.eg, R.kit 1 2 (by decide) (by decide), ?_⟩
        walk_at "rd"
        refine ⟨(by show 3 ≤ sizeLine; decide), fun l1 nl1 => ?_⟩
        have ea1 := (upd_ne (o := .lst [V.bl (decide (1 = 1)), .bl (decide (1 = 3)), .bl (decide (1 = 2))]) (ne_of_none upd_same nl1)).trans (upd_same (H := H) (a := a) (o := ExK (.ref (C 1)) a))
        have hl1 : upd (upd H a (ExK (.ref (C 1)) a)) l1 (.lst [V.bl (decide (1 = 1)), .bl (decide (1 = 3)), .bl (decide (1 = 2))]) l1 = some (.lst [V.bl (decide (1 = 1)), .bl (decide (1 = 3)), .bl (decide (1 = 2))]) := upd_same
        have eb1 : Same H (upd (upd H a (ExK (.ref (C 1)) a)) l1 (.lst [V.bl (decide (1 = 1)), .bl (decide (1 = 3)), .bl (decide (1 = 2))])) := fun b u e0 => by
          have e1 := (upd_ne (o := ExK (.ref (C 1)) a) (ne_of_none e0 ha)).trans e0
          exact (upd_ne (ne_of_none e1 nl1)).trans e1
        generalize upd (upd H a (ExK (.ref (C 1)) a)) l1 (.lst [V.bl (decide (1 = 1)), .bl (decide (1 = 3)), .bl (decide (1 = 2))]) = HX at ea1 eb1 hl1 ⊢
        walk_at "rd"
        refine ⟨.inl ⟨rfl, _, SqL.of hl1⟩, ?_⟩
        walk_at "rd"
        refine ⟨l1, _, .bl true, rfl, rfl, SqL.of hl1, rfl, rfl, ?_⟩
        walk_at "rd"
        refine ⟨rfl, ?_⟩
        walk_at "rd"
        refine ⟨a, C 1, _, .ref (C 0), decide (1 = 0), rfl, .own _, ea1, R.ec 1 (by decide), R.eg, R.kit 1 0 (by decide) (by decide), ?_⟩
        walk_at "rd"
        refine ⟨a, C 1, _, .type "ValueError", true, rfl, .ty _, ea1, R.ec 1 (by decide), R.eg, R.kitV 1 (by decide), ?_⟩
        walk_at "rd"
        refine ⟨(by show 3 ≤ sizeLine; decide), fun l4 nl4 => ?_⟩
        have hl4 : upd HX l4 (.lst [V.str "sides", .str "value", .str "many"]) l4 = some (.lst [V.str "sides", .str "value", .str "many"]) := upd_same
        have eb4 : Same HX (upd HX l4 (.lst [V.str "sides", .str "value", .str "many"])) := fun b u e0 => (upd_ne (ne_of_none e0 nl4)).trans e0
        generalize upd HX l4 (.lst [V.str "sides", .str "value", .str "many"]) = HY at eb4 hl4 ⊢
        walk_at "rd"
        refine ⟨.inl ⟨rfl, _, SqL.of (eb4 _ _ hl1)⟩, ?_⟩
        walk_at "rd"
        refine ⟨l1, _, .bl true, 0, .bl true, rfl, rfl, SqL.of (eb4 _ _ hl1), rfl, rfl, rfl, rfl, fun m z' hm hz => ?_, ?_⟩
        · exact absurd hm (Nat.not_lt_zero _)
        refine ⟨l4, _, _, _, rfl, rfl, SqL.of hl4, rfl, ?_⟩
        exact q _ ((Same.refl H).trans (eb1.trans eb4))
      | val e S k1 t ni =>
        subst e
        refine ⟨rfl, ?_⟩
        walk_at "rd"
        refine ⟨rfl, ?_⟩
        walk_at "rd"
        refine ⟨_, _, rfl, .inr ⟨_, _, _, rfl, S, t, ni, ?_⟩⟩
        refine ⟨true, R.emB 3 (by decide), fun _ => ⟨rfl, fun a ha => ?_⟩, fun z => Bool.noConfusion z⟩
        walk_at "rd"
        refine ⟨rfl, ?_⟩
        walk_at "rd"
        refine ⟨a, C 3, _, .ref (C 1), decide (3 = 1), rfl, .own _, upd_same, R.ec 3 (by decide), R.eg, R.kit 3 1 (by decide) (by decide), ?_⟩
        walk_at "rd"
        refine ⟨a, C 3, _, .ref (C 3), decide (3 = 3), rfl, .own _, upd_same, R.ec 3 (by decide), R.eg, R.kit 3 3 (by decide) (by decide), ?_⟩
        walk_at "rd"
        refine ⟨a, C 3, _, .ref (C 2), decide (3 = 2), rfl, .own _, upd_same, R.ec 3 (by decide), R.eg, R.kit 3 2 (by decide) (by decide), ?_⟩
        walk_at "rd"
        refine ⟨(by show 3 ≤ sizeLine; decide), fun l1 nl1 => ?_⟩
        have ea1 := (upd_ne (o := .lst [V.bl (decide (3 = 1)), .bl (decide (3 = 3)), .bl (decide (3 = 2))]) (ne_of_none upd_same nl1)).trans (upd_same (H := H) (a := a) (o := ExK (.ref (C 3)) a))
        have hl1 : upd (upd H a (ExK (.ref (C 3)) a)) l1 (.lst [V.bl (decide (3 = 1)), .bl (decide (3 = 3)), .bl (decide (3 = 2))]) l1 = some (.lst [V.bl (decide (3 = 1)), .bl (decide (3 = 3)), .bl (decide (3 = 2))]) := upd_same
        have eb1 : Same H (upd (upd H a (ExK (.ref (C 3)) a)) l1 (.lst [V.bl (decide (3 = 1)), .bl (decide (3 = 3)), .bl (decide (3 = 2))])) := fun b u e0 => by
          have e1 := (upd_ne (o := ExK (.ref (C 3)) a) (ne_of_none e0 ha)).trans e0
          exact (upd_ne (ne_of_none e1 nl1)).trans e1
        generalize upd (upd H a (ExK (.ref (C 3)) a)) l1 (.lst [V.bl (decide (3 = 1)), .bl (decide (3 = 3)), .bl (decide (3 = 2))]) = HX at ea1 eb1 hl1 ⊢
        walk_at "rd"
        refine ⟨.inl ⟨rfl, _, SqL.of hl1⟩, ?_⟩
        walk_at "rd"
        refine ⟨l1, _, .bl true, rfl, rfl, SqL.of hl1, rfl, rfl, ?_⟩
        walk_at "rd"
        refine ⟨rfl, ?_⟩
        walk_at "rd"
        refine ⟨a, C 3, _, .ref (C 0), decide (3 = 0), rfl, .own _, ea1, R.ec 3 (by decide), R.eg, R.kit 3 0 (by decide) (by decide), ?_⟩
        walk_at "rd"
        refine ⟨a, C 3, _, .type "ValueError", true, rfl, .ty _, ea1, R.ec 3 (by decide), R.eg, R.kitV 3 (by decide), ?_⟩
        walk_at "rd"
        refine ⟨(by show 3 ≤ sizeLine; decide), fun l4 nl4 => ?_⟩
        have hl4 : upd HX l4 (.lst [V.str "sides", .str "value", .str "many"]) l4 = some (.lst [V.str "sides", .str "value", .str "many"]) := upd_same
        have eb4 : Same HX (upd HX l4 (.lst [V.str "sides", .str "value", .str "many"])) := fun b u e0 => (upd_ne (ne_of_none e0 nl4)).trans e0
        generalize upd HX l4 (.lst [V.str "sides", .str "value", .str "many"]) = HY at eb4 hl4 ⊢
        walk_at "rd"
        refine ⟨.inl ⟨rfl, _, SqL.of (eb4 _ _ hl1)⟩, ?_⟩
        walk_at "rd"
        refine ⟨l1, _, .bl true, 1, .bl true, rfl, rfl, SqL.of (eb4 _ _ hl1), rfl, rfl, rfl, rfl, fun m z' hm hz => ?_, ?_⟩
        · obtain rfl : m = 0 := by omega
          cases hz; rfl
        refine ⟨l4, _, _, _, rfl, rfl, SqL.of hl4, rfl, ?_⟩
        exact q _ ((Same.refl H).trans (eb1.trans eb4))
      | once e S k0 ey vb => exact absurd k0 (by decide)
      | calm e S k2 few => exact absurd k2 (by decide)
      | many e S k2 m => exact absurd k2 (by decide)
    · cases wd with
      | sides bad =>
        refine ⟨rfl, ?_⟩
        walk_at "rd"
        refine ⟨rfl, ?_⟩
        walk_at "rd"
        refine .inr ⟨_, rfl, .inl ⟨bad, ?_⟩⟩
        refine ⟨true, R.emB 1 (by decide), fun _ => ⟨rfl, fun a ha => ?_⟩, fun z => Bool.noConfusion z⟩
        walk_at "rd"
        refine ⟨rfl, ?_⟩
        walk_at "rd"
        refine ⟨a, C 1, _, .ref (C 1), decide (1 = 1), rfl, .own _, upd_same, R.ec 1 (by decide), R.eg, R.kit 1 1 (by decide) (by decide), ?_⟩
        walk_at "rd"
        refine ⟨a, C 1, _, .ref (C 3), decide (1 = 3), rfl, .own _, upd_same, R.ec 1 (by decide), R.eg, R.kit 1 3 (by decide) (by decide), ?_⟩
        walk_at "rd"
        refine ⟨a, C 1, _, .ref (C 2), decide (1 = 2), rfl, .own _, upd_same, R.ec 1 (by decide), R.eg, R.kit 1 2 (by decide) (by decide), ?_⟩
        walk_at "rd"
        refine ⟨(by show 3 ≤ sizeLine; decide), fun l1 nl1 => ?_⟩
        have ea1 := (upd_ne (o := .lst [V.bl (decide (1 = 1)), .bl (decide (1 = 3)), .bl (decide (1 = 2))]) (ne_of_none upd_same nl1)).trans (upd_same (H := H) (a := a) (o := ExK (.ref (C 1)) a))
        have hl1 : upd (upd H a (ExK (.ref (C 1)) a)) l1 (.lst [V.bl (decide (1 = 1)), .bl (decide (1 = 3)), .bl (decide (1 = 2))]) l1 = some (.lst [V.bl (decide (1 = 1)), .bl (decide (1 = 3)), .bl (decide (1 = 2))]) := upd_same
        have eb1 : Same H (upd (upd H a (ExK (.ref (C 1)) a)) l1 (.lst [V.bl (decide (1 = 1)), .bl (decide (1 = 3)), .bl (decide (1 = 2))])) := fun b u e0 => by
          have e1 := (upd_ne (o := ExK (.ref (C 1)) a) (ne_of_none e0 ha)).trans e0
          exact (upd_ne (ne_of_none e1 nl1)).trans e1
        generalize upd (upd H a (ExK (.ref (C 1)) a)) l1 (.lst [V.bl (decide (1 = 1)), .bl (decide (1 = 3)), .bl (decide (1 = 2))]) = HX at ea1 eb1 hl1 ⊢
        walk_at "rd"
        refine ⟨.inl ⟨rfl, _, SqL.of hl1⟩, ?_⟩
        walk_at "rd"
        refine ⟨l1, _, .bl true, rfl, rfl, SqL.of hl1, rfl, rfl, ?_⟩
        walk_at "rd"
        refine ⟨rfl, ?_⟩
        walk_at "rd"
        refine ⟨a, C 1, _, .ref (C 0), decide (1 = 0), rfl, .own _, ea1, R.ec 1 (by decide), R.eg, R.kit 1 0 (by decide) (by decide), ?_⟩
        walk_at "rd"
        refine ⟨a, C 1, _, .type "ValueError", true, rfl, .ty _, ea1, R.ec 1 (by decide), R.eg, R.kitV 1 (by decide), ?_⟩
        walk_at "rd"
        refine ⟨(by show 3 ≤ sizeLine; decide), fun l4 nl4 => ?_⟩
        have hl4 : upd HX l4 (.lst [V.str "sides", .str "value", .str "many"]) l4 = some (.lst [V.str "sides", .str "value", .str "many"]) := upd_same
        have eb4 : Same HX (upd HX l4 (.lst [V.str "sides", .str "value", .str "many"])) := fun b u e0 => (upd_ne (ne_of_none e0 nl4)).trans e0
        generalize upd HX l4 (.lst [V.str "sides", .str "value", .str "many"]) = HY at eb4 hl4 ⊢
        walk_at "rd"
        refine ⟨.inl ⟨rfl, _, SqL.of (eb4 _ _ hl1)⟩, ?_⟩
        walk_at "rd"
        refine ⟨l1, _, .bl true, 0, .bl true, rfl, rfl, SqL.of (eb4 _ _ hl1), rfl, rfl, rfl, rfl, fun m z' hm hz => ?_, ?_⟩
        · exact absurd hm (Nat.not_lt_zero _)
        refine ⟨l4, _, _, _, rfl, rfl, SqL.of hl4, rfl, ?_⟩
        exact q _ ((Same.refl H).trans (eb1.trans eb4))
      | val e S k1 t ni => exact absurd k1 (by decide)
      | once e S k0 ey vb => exact absurd k0 (by decide)
      | calm e S k2 few =>
        subst e
        refine ⟨rfl, ?_⟩
        walk_at "rd"
        refine ⟨rfl, ?_⟩
        walk_at "rd"
        refine .inl ⟨_, _, _, rfl, S, few, fun R1 H1 o nR1 sX _ _ => ?_⟩
        walk_at "rd"
        refine ⟨rfl, ?_⟩
        walk_at "rd"
        exact q _ sX
      | many e S k2 m =>
        subst e
        refine ⟨rfl, ?_⟩
        walk_at "rd"
        refine ⟨rfl, ?_⟩
        walk_at "rd"
        refine .inr ⟨_, rfl, .inr ⟨_, _, _, rfl, S, m, fun H1 sX => ?_⟩⟩
        refine ⟨true, R.emB 2 (by decide), fun _ => ⟨rfl, fun a ha => ?_⟩, fun z => Bool.noConfusion z⟩
        walk_at "rd"
        refine ⟨rfl, ?_⟩
        walk_at "rd"
        refine ⟨a, C 2, _, .ref (C 1), decide (2 = 1), rfl, .own _, upd_same, R.ec 2 (by decide), R.eg, R.kit 2 1 (by decide) (by decide), ?_⟩
        walk_at "rd"
        refine ⟨a, C 2, _, .ref (C 3), decide (2 = 3), rfl, .own _, upd_same, R.ec 2 (by decide), R.eg, R.kit 2 3 (by decide) (by decide), ?_⟩
        walk_at "rd"
        refine ⟨a, C 2, _, .ref (C 2), decide (2 = 2), rfl, .own _, upd_same, R.ec 2 (by decide), R.eg, R.kit 2 2 (by decide) (by decide), ?_⟩
        walk_at "rd"
        refine ⟨(by show 3 ≤ sizeLine; decide), fun l1 nl1 => ?_⟩
        have ea1 := (upd_ne (o := .lst [V.bl (decide (2 = 1)), .bl (decide (2 = 3)), .bl (decide (2 = 2))]) (ne_of_none upd_same nl1)).trans (upd_same (H := H1) (a := a) (o := ExK (.ref (C 2)) a))
        have hl1 : upd (upd H1 a (ExK (.ref (C 2)) a)) l1 (.lst [V.bl (decide (2 = 1)), .bl (decide (2 = 3)), .bl (decide (2 = 2))]) l1 = some (.lst [V.bl (decide (2 = 1)), .bl (decide (2 = 3)), .bl (decide (2 = 2))]) := upd_same
        have eb1 : Same H1 (upd (upd H1 a (ExK (.ref (C 2)) a)) l1 (.lst [V.bl (decide (2 = 1)), .bl (decide (2 = 3)), .bl (decide (2 = 2))])) := fun b u e0 => by
          have e1 := (upd_ne (o := ExK (.ref (C 2)) a) (ne_of_none e0 ha)).trans e0
          exact (upd_ne (ne_of_none e1 nl1)).trans e1
        generalize upd (upd H1 a (ExK (.ref (C 2)) a)) l1 (.lst [V.bl (decide (2 = 1)), .bl (decide (2 = 3)), .bl (decide (2 = 2))]) = HX at ea1 eb1 hl1 ⊢
        walk_at "rd"
        refine ⟨.inl ⟨rfl, _, SqL.of hl1⟩, ?_⟩
        walk_at "rd"
        refine ⟨l1, _, .bl true, rfl, rfl, SqL.of hl1, rfl, rfl, ?_⟩
        walk_at "rd"
        refine ⟨rfl, ?_⟩
        walk_at "rd"
        refine ⟨a, C 2, _, .ref (C 0), decide (2 = 0), rfl, .own _, ea1, R.ec 2 (by decide), R.eg, R.kit 2 0 (by decide) (by decide), ?_⟩
        walk_at "rd"
        refine ⟨a, C 2, _, .type "ValueError", true, rfl, .ty _, ea1, R.ec 2 (by decide), R.eg, R.kitV 2 (by decide), ?_⟩
        walk_at "rd"
        refine ⟨(by show 3 ≤ sizeLine; decide), fun l4 nl4 => ?_⟩
        have hl4 : upd HX l4 (.lst [V.str "sides", .str "value", .str "many"]) l4 = some (.lst [V.str "sides", .str "value", .str "many"]) := upd_same
        have eb4 : Same HX (upd HX l4 (.lst [V.str "sides", .str "value", .str "many"])) := fun b u e0 => (upd_ne (ne_of_none e0 nl4)).trans e0
        generalize upd HX l4 (.lst [V.str "sides", .str "value", .str "many"]) = HY at eb4 hl4 ⊢
        walk_at "rd"
        refine ⟨.inl ⟨rfl, _, SqL.of (eb4 _ _ hl1)⟩, ?_⟩
        walk_at "rd"
        refine ⟨l1, _, .bl true, 2, .bl true, rfl, rfl, SqL.of (eb4 _ _ hl1), rfl, rfl, rfl, rfl, fun m z' hm hz => ?_, ?_⟩
        · rcases (by omega : m = 0 ∨ m = 1) with rfl | rfl <;> (cases hz; rfl)
        refine ⟨l4, _, _, _, rfl, rfl, SqL.of hl4, rfl, ?_⟩
        exact q _ (sX.trans (eb1.trans eb4))
end
end HT
namespace HT
open PySem L2
def spLaw (K : PySem.W.Frag) : Sp := fun vs H Q _ => ∃ (l : Addr) (ns : List Int), vs = [.ref l] ∧ SqL K H l (ns.map V.int) ∧ ns.length ≤ 63 ∧ ∀ H', Q (.bl true) H'
theorem sidesAt1 {H : Hp} {l p : Addr} {o s : Int} {m : Str} (hl : H l = some (.lst [.ref p])) (h : H p = some (sideV o s m)) (S : SideP o s m) : SidesAt H l [.ref p] [⟨o, s, m⟩] :=
  ⟨hl, rfl, by show 1 ≤ 1; decide, by show 1 ≤ 4; decide, fun i d e => match i, e with
    | 0, e => by cases e; exact ⟨p, rfl, h, S⟩
    | i + 1, e => by cases e⟩
theorem sidesAt2 {H : Hp} {l p p2 : Addr} {o s o2 s2 : Int} {m m2 : Str} (hl : H l = some (.lst [.ref p, .ref p2])) (h : H p = some (sideV o s m)) (S : SideP o s m) (h2 : H p2 = some (sideV o2 s2 m2)) (S2 : SideP o2 s2 m2) : SidesAt H l [.ref p, .ref p2] [⟨o, s, m⟩, ⟨o2, s2, m2⟩] :=
  ⟨hl, rfl, by show 1 ≤ 2; decide, by show 2 ≤ 4; decide, fun i d e => match i, e with
    | 0, e => by cases e; exact ⟨p, rfl, h, S⟩
    | 1, e => by cases e; exact ⟨p2, rfl, h2, S2⟩
    | i + 2, e => by cases e⟩
theorem sidesAt3 {H : Hp} {l p p2 p3 : Addr} {o s o2 s2 o3 s3 : Int} {m m2 m3 : Str} (hl : H l = some (.lst [.ref p, .ref p2, .ref p3])) (h : H p = some (sideV o s m)) (S : SideP o s m) (h2 : H p2 = some (sideV o2 s2 m2)) (S2 : SideP o2 s2 m2) (h3 : H p3 = some (sideV o3 s3 m3)) (S3 : SideP o3 s3 m3) : SidesAt H l [.ref p, .ref p2, .ref p3] [⟨o, s, m⟩, ⟨o2, s2, m2⟩, ⟨o3, s3, m3⟩] :=
  ⟨hl, rfl, by show 1 ≤ 3; decide, by show 3 ≤ 4; decide, fun i d e => match i, e with
    | 0, e => by cases e; exact ⟨p, rfl, h, S⟩
    | 1, e => by cases e; exact ⟨p2, rfl, h2, S2⟩
    | 2, e => by cases e; exact ⟨p3, rfl, h3, S3⟩
    | i + 3, e => by cases e⟩
theorem GoodS.same {H H' : Hp} {x : V} (g : GoodS H x) (e : Same H H') : GoodS H' x := let ⟨p, o, s, m, a, b, c⟩ := g; ⟨p, o, s, m, a, e _ _ b, c⟩
theorem BadL.same {K : PySem.W.Frag} {H H' : Hp} {x : V} (b : BadL K H x) (e : Same H H') : BadL K H' x := by
  cases b with
  | kind t h => exact .kind (t.same e) h
  | len hl h => exact .len (e _ _ hl) h
  | item hl h1 h2 hi bad good => exact .item (e _ _ hl) h1 h2 hi (bad.same e) fun j z a b => (good j z a b).same e
theorem rep_snoc {α : Type} (n : Nat) (x : α) : List.replicate n x ++ [x] = List.replicate (n + 1) x := by
  rw [List.replicate_succ']
def gr (k : Nat) : Sd := ⟨0, 10 ^ 30 - (k : Int), "half_up"⟩
theorem gr_side {k : Nat} (h : k < 4) : SideP (gr k).o (gr k).s (gr k).m := ⟨by show -(10 : Int) ^ 40 ≤ 0; decide, by show (0 : Int) ≤ 10 ^ 40; decide, by show 1 ≤ (10 : Int) ^ 30 - (k : Int); omega, by show (10 : Int) ^ 30 - (k : Int) ≤ 10 ^ 30; omega, .inr (.inr (.inr (.inl rfl)))⟩
theorem many_near1 : ManyP [⟨0, 10, "half_up"⟩, ⟨5, 10, "half_up"⟩, ⟨0, 10 ^ 30 - 1, "down"⟩] := .inr ⟨.inl (by decide +kernel), by decide +kernel, by decide +kernel⟩
theorem many_near2 : ManyP [⟨0, 10, "half_down"⟩, ⟨5, 10, "half_down"⟩, ⟨0, 10 ^ 30 - 1, "up"⟩] := .inl ⟨by decide +kernel, by decide +kernel⟩
theorem many_gr3 : ManyP [gr 0, gr 1, gr 2] := .inl ⟨by decide +kernel, by decide +kernel⟩
theorem many_gr4 : ManyP [gr 0, gr 1, gr 2, gr 3] := .inl ⟨by decide +kernel, by decide +kernel⟩
def far3 : List Sd := [⟨0, 10 ^ 30, "up"⟩, ⟨0, 10 ^ 30 - 1, "up"⟩, ⟨0, 10 ^ 30 - 3, "down"⟩]
theorem sidesAt4 {H : Hp} {l p p2 p3 p4 : Addr} {o s o2 s2 o3 s3 o4 s4 : Int} {m m2 m3 m4 : Str} (hl : H l = some (.lst [.ref p, .ref p2, .ref p3, .ref p4])) (h : H p = some (sideV o s m)) (S : SideP o s m) (h2 : H p2 = some (sideV o2 s2 m2)) (S2 : SideP o2 s2 m2) (h3 : H p3 = some (sideV o3 s3 m3)) (S3 : SideP o3 s3 m3) (h4 : H p4 = some (sideV o4 s4 m4)) (S4 : SideP o4 s4 m4) : SidesAt H l [.ref p, .ref p2, .ref p3, .ref p4] [⟨o, s, m⟩, ⟨o2, s2, m2⟩, ⟨o3, s3, m3⟩, ⟨o4, s4, m4⟩] :=
  ⟨hl, rfl, by show 1 ≤ 4; decide, by show 4 ≤ 4; decide, fun i d e => match i, e with
    | 0, e => by cases e; exact ⟨p, rfl, h, S⟩
    | 1, e => by cases e; exact ⟨p2, rfl, h2, S2⟩
    | 2, e => by cases e; exact ⟨p3, rfl, h3, S3⟩
    | 3, e => by cases e; exact ⟨p4, rfl, h4, S4⟩
    | i + 4, e => by cases e⟩
theorem word_gr {K : PySem.W.Frag} {H : Hp} {N q0 q1 q2 q3 : Addr} {j : Nat} (hj : j < 4) (hN : H N = some (.lst (cutV [.ref q0, .ref q1, .ref q2, .ref q3] none (some (1 + (j : Int)))))) (h0 : H q0 = some (sideV (gr 0).o (gr 0).s (gr 0).m)) (h1 : H q1 = some (sideV (gr 1).o (gr 1).s (gr 1).m)) (h2 : H q2 = some (sideV (gr 2).o (gr 2).s (gr 2).m)) (h3 : H q3 = some (sideV (gr 3).o (gr 3).s (gr 3).m)) :
    Word K H 2 (.ref N) (.int 0) (if j < 2 then "good" else "many") := by
  have A0 := gr_side (k := 0) (by decide)
  have A1 := gr_side (k := 1) (by decide)
  have A2 := gr_side (k := 2) (by decide)
  have A3 := gr_side (k := 3) (by decide)
  rcases (by omega : j = 0 ∨ j = 1 ∨ j = 2 ∨ j = 3) with rfl | rfl | rfl | rfl
  · exact .calm rfl (sidesAt1 (show H N = some (.lst [.ref q0]) from hN) h0 A0) rfl (.inl ⟨Nat.le_trans (List.length_filter_le _ _) (by show 1 ≤ 2; decide), Nat.le_trans (List.length_filter_le _ _) (by show 1 ≤ 2; decide)⟩)
  · exact .calm rfl (sidesAt2 (show H N = some (.lst [.ref q0, .ref q1]) from hN) h0 A0 h1 A1) rfl (.inl ⟨List.length_filter_le _ _, List.length_filter_le _ _⟩)
  · exact .many rfl (sidesAt3 (show H N = some (.lst [.ref q0, .ref q1, .ref q2]) from hN) h0 A0 h1 A1 h2 A2) rfl many_gr3
  · exact .many rfl (sidesAt4 (show H N = some (.lst [.ref q0, .ref q1, .ref q2, .ref q3]) from hN) h0 A0 h1 A1 h2 A2 h3 A3) rfl many_gr4
theorem few_far : FewG far3 := .inl ⟨by decide +kernel, by decide +kernel⟩
section
variable {P : Program} {w : World} {K : PySem.W.Frag} {mg : Str → Option Value} {base : Heap} {f0 f1 f2 f3 f4 f5 : Addr} {d0 d1 d2 d3 d4 d5 : FuncData}
theorem ok_law {f : Addr} {fd : FuncData} (F : Fun K "law" "law" s_law f fd) (B : Blt mg) (T : ChkT mg) (So : Cal P w K mg base "_law_source" 1 ["_law_script"] (spSource K) f0 d0)
    (Pi : Cal P w K mg base "_law_pick" 2 ["_law_source_here", "_law_values"] spPick f2 d2) (Gr : Cal P w K mg base "_law_great" 2 ["_law_source_here", "_law_digits"] spGreat f3 d3) (Si : Cal P w K mg base "_law_side" 3 ["_law_source_here", "_law_digits"] spSide f4 d4)
    (Wd : Cal P w K mg base "_law_word" 111 ["_law_kind", "_law_sides", "_law_value"] (spWord K) f5 d5) : FnOk P w K mg base CX0 112 f fd ["_law_script"] (spLaw K) := by
  refine F.ok sc_law (fun vs H Q E h => ?_) (fun cdv A outer s H vs Q E hr h => ?_)
  · obtain ⟨l, ns, rfl, _⟩ := h
    rfl
  · obtain ⟨l, ns, rfl, hL, hn, q⟩ := h
    have nd := sc_law.nd
    refine ⟨_, (pss_cons (ps_set (i := 1) nd rfl (Or.inl rfl) (pcl So hr (by decide) (by rfl) (pa_cons (pv 0) pa_nil)))
      (pss_cons (ps_for PassesOwn.never rfl (pi_range1 (by rfl) B.range (pa_cons pe_int pa_nil)) (pg_name (i := 2) nd rfl (Or.inl rfl)) (pss_cons (ps_set (i := 3) nd rfl (Or.inl rfl) (pcl Si hr (by decide) (by rfl) (pa_cons (pv 1) (pa_cons pe_int pa_nil))))
      (pss_cons (ps_set (i := 4) nd rfl (Or.inr rfl) (pe_tup (pa_cons (pe_op op_mod (pe_ix ix_tup (pv 3) pe_int (fun _ _ => rfl)) pe_int) (pa_cons (pe_op op_add pe_int (pe_op op_mod (pe_ix ix_tup (pv 3) pe_int (fun _ _ => rfl)) pe_int)) (pa_cons (pe_ix ix_tup (pv 3) pe_int (fun _ _ => rfl)) pa_nil)))))
      (pss_cons (ps_set (i := 5) nd rfl (Or.inl rfl) (pe_lst (pa_cons pe_non (pa_cons (pe_tup pa_nil) (pa_cons (pe_lst pa_nil) (pa_cons pe_dnewK (pa_cons pe_str (pa_cons pe_int (pa_cons (pv 4) (pa_cons (pe_tup (pa_cons (pv 4) pa_nil)) (pa_cons (pe_op op_rep (pe_lst (pa_cons (pv 4) pa_nil)) pe_int) (pa_cons (pe_lst (pa_cons (pv 4) (pa_cons pe_non pa_nil))) (pa_cons (pe_lst (pa_cons (pe_callTy call_list_of (by rfl) T.list (by decide +kernel) (pa_cons (pv 4) pa_nil)) pa_nil)) (pa_cons (pe_lst (pa_cons (pe_lst (pa_cons (pv 4) pa_nil)) pa_nil)) pa_nil))))))))))))))
      (pss_cons (ps_set (i := 5) nd rfl (Or.inl rfl) (pe_op op_cat (pv 5) (pe_lst (pa_cons (pe_lst (pa_cons (pv 4) (pa_cons (pe_tup (pa_cons pe_int (pa_cons pe_int (pa_cons pe_str pa_nil)))) pa_nil))) (pa_cons (pe_lst (pa_cons (pe_tup (pa_cons pe_int (pa_cons pe_int (pa_cons pe_str pa_nil)))) pa_nil)) (pa_cons (pe_lst (pa_cons (pe_slice sl_tup (pv 4) po_none (po_some pe_int)) pa_nil)) (pa_cons (pe_lst (pa_cons (pe_op op_catT (pv 4) (pe_tup (pa_cons pe_int pa_nil))) pa_nil)) (pa_cons (pe_lst (pa_cons (pe_tup (pa_cons pe_bl (pa_cons pe_int (pa_cons pe_str pa_nil)))) pa_nil)) pa_nil))))))))
      (pss_cons (ps_expr (pe_bm PySem.F.plainAttrs_list PySem.F.slot_list_append PySem.F.type_list_append mt_append (pv 5) (pa_cons (pe_lst (pa_cons (pv 4) (pa_cons (pv 4) (pa_cons pe_int pa_nil)))) pa_nil)))
      (pss_cons (ps_set (i := 6) nd rfl (Or.inr rfl) (pcl Pi hr (by decide) (by rfl) (pa_cons (pv 1) (pa_cons (pv 5) pa_nil))))
      (pss_cons (ps_for PassesOwn.never rfl (pi_list (pe_lst (pa_cons pe_int (pa_cons pe_non (pa_cons pe_bl pa_nil))))) (pg_name (i := 7) nd rfl (Or.inr rfl)) (pss_one (ps_if (pt_cmpR (op_neD hr.units) (pe_lc (own := [("_law_kind", 8)]) (g := gName 8) (tt := tYes) rfl nd (pi_range1 (by rfl) B.range (pa_cons pe_int pa_nil)) (blkOk_by (N := ["_law_script", "_law_source_here", "_law_turn", "_law_one", "_law_small", "_law_odd", "_law_sides", "_law_value", "_law_kind", "_law_bad", "_law_k", "_law_great_here", "_law_wide", "_law_near", "_law_far", "_law_many", "_law_words"]) (sc := defScope s_law) (by decide +kernel)) (fun _ _ _ _ _ => pg_name (i := 8) nd rfl (Or.inl rfl)) (fun _ _ _ _ _ => pts_nil) (fun _ _ _ _ _ => (pcl Wd hr (by decide) (by rfl) (pa_cons (pv 8) (pa_cons (pv 6) (pa_cons (pv 7) pa_nil)))))) (pe_op op_rep (pe_lst (pa_cons pe_str pa_nil)) pe_int) (nomark _)) (pss_one (ps_ret pe_bl)) pss_nil)))
      (pss_cons (ps_set (i := 9) nd rfl (Or.inr rfl) (pcl Pi hr (by decide) (by rfl) (pa_cons (pv 1) (pa_cons (pe_lst (pa_cons pe_non (pa_cons pe_bl (pa_cons pe_bl (pa_cons pe_str (pa_cons (pe_lst pa_nil) (pa_cons (pe_tup (pa_cons pe_int pa_nil)) (pa_cons pe_dnewK pa_nil)))))))) pa_nil))))
      (pss_cons (ps_if (pt_cmpR (op_neD hr.units) (pe_lc (own := [("_law_kind", 8)]) (g := gName 8) (tt := tYes) rfl nd (pi_range1 (by rfl) B.range (pa_cons pe_int pa_nil)) (blkOk_by (N := ["_law_script", "_law_source_here", "_law_turn", "_law_one", "_law_small", "_law_odd", "_law_sides", "_law_value", "_law_kind", "_law_bad", "_law_k", "_law_great_here", "_law_wide", "_law_near", "_law_far", "_law_many", "_law_words"]) (sc := defScope s_law) (by decide +kernel)) (fun _ _ _ _ _ => pg_name (i := 8) nd rfl (Or.inl rfl)) (fun _ _ _ _ _ => pts_nil) (fun _ _ _ _ _ => (pcl Wd hr (by decide) (by rfl) (pa_cons (pv 8) (pa_cons (pe_lst (pa_cons (pv 4) (pa_cons (pv 4) pa_nil))) (pa_cons (pv 9) pa_nil)))))) (pe_lst (pa_cons pe_str (pa_cons pe_str (pa_cons pe_str pa_nil)))) (nomark _)) (pss_one (ps_ret pe_bl)) pss_nil)
      (pss_one (ps_if (pt_cmpR op_ne (pcl Wd hr (by decide) (by rfl) (pa_cons pe_int (pa_cons (pe_lst (pa_cons (pe_tup (pa_cons pe_int (pa_cons (pe_op op_add pe_int (pcl Gr hr (by decide) (by rfl) (pa_cons (pv 1) (pa_cons pe_int pa_nil)))) (pa_cons pe_str pa_nil)))) pa_nil)) (pa_cons (pv 9) pa_nil)))) pe_str (nomark _)) (pss_one (ps_ret pe_bl)) pss_nil))))))))))))
      (pss_cons (ps_set (i := 11) nd rfl (Or.inr rfl) (pe_lc (own := [("_law_k", 10)]) (g := gName 10) (tt := tYes) rfl nd (pi_range1 (by rfl) B.range (pa_cons pe_int pa_nil)) (blkOk_by (N := ["_law_script", "_law_source_here", "_law_turn", "_law_one", "_law_small", "_law_odd", "_law_sides", "_law_value", "_law_kind", "_law_bad", "_law_k", "_law_great_here", "_law_wide", "_law_near", "_law_far", "_law_many", "_law_words"]) (sc := defScope s_law) (by decide +kernel)) (fun _ _ _ _ _ => pg_name (i := 10) nd rfl (Or.inl rfl)) (fun _ _ _ _ _ => pts_nil) (fun _ _ _ _ _ => (pe_tup (pa_cons pe_int (pa_cons (pe_op op_sub (pe_op op_pow pe_int pe_int) (pv 10)) (pa_cons pe_str pa_nil)))))))
      (pss_cons (ps_if (pt_cmpR op_ne (pcl Wd hr (by decide) (by rfl) (pa_cons pe_int (pa_cons (pe_lst (pa_cons (pe_tup (pa_cons pe_int (pa_cons (pe_op op_pow pe_int pe_int) (pa_cons pe_str pa_nil)))) (pa_cons (pe_tup (pa_cons pe_int (pa_cons (pe_op op_sub (pe_op op_pow pe_int pe_int) pe_int) (pa_cons pe_str pa_nil)))) (pa_cons (pe_tup (pa_cons pe_int (pa_cons (pe_op op_sub (pe_op op_pow pe_int pe_int) pe_int) (pa_cons pe_str pa_nil)))) pa_nil)))) (pa_cons pe_int pa_nil)))) pe_str (nomark _)) (pss_one (ps_ret pe_bl)) pss_nil)
      (pss_cons (ps_set (i := 12) nd rfl (Or.inl rfl) (pe_op op_sub (pe_op op_pow pe_int pe_int) pe_int))
      (pss_cons (ps_for PassesOwn.never rfl (pi_list (pe_lst (pa_cons (pe_tup (pa_cons pe_str (pa_cons pe_str pa_nil))) (pa_cons (pe_tup (pa_cons pe_str (pa_cons pe_str pa_nil))) pa_nil)))) (pg_tup (by rfl) (pgs_cons (pg_name (i := 13) nd rfl (Or.inl rfl)) (pgs_cons (pg_name (i := 14) nd rfl (Or.inl rfl)) pgs_nil))) (pss_one (ps_if (pt_cmpR op_ne (pcl Wd hr (by decide) (by rfl) (pa_cons pe_int (pa_cons (pe_lst (pa_cons (pe_tup (pa_cons pe_int (pa_cons pe_int (pa_cons (pv 13) pa_nil)))) (pa_cons (pe_tup (pa_cons pe_int (pa_cons pe_int (pa_cons (pv 13) pa_nil)))) (pa_cons (pe_tup (pa_cons pe_int (pa_cons (pv 12) (pa_cons (pv 14) pa_nil)))) pa_nil)))) (pa_cons pe_int pa_nil)))) pe_str (nomark _)) (pss_one (ps_ret pe_bl)) pss_nil)))
      (pss_cons (ps_setLc (i := 16) (own := [("_law_many", 15)]) (g := gName 15) (tt := tYes) rfl nd rfl rfl (sw_true rfl rfl rfl (by decide +kernel)) (pi_range2 (by rfl) B.range (pa_cons pe_int (pa_cons pe_int pa_nil))) (blkOk_by (N := ["_law_script", "_law_source_here", "_law_turn", "_law_one", "_law_small", "_law_odd", "_law_sides", "_law_value", "_law_kind", "_law_bad", "_law_k", "_law_great_here", "_law_wide", "_law_near", "_law_far", "_law_many", "_law_words"]) (sc := defScope s_law) (by decide +kernel)) (fun _ _ _ _ _ => pg_name (i := 15) nd rfl (Or.inl rfl)) (fun _ _ _ _ _ => pts_nil) (fun _ _ _ _ _ => (pcl Wd hr (by decide) (by rfl) (pa_cons pe_int (pa_cons (pe_slice (show SlR _ (rSlL K) from sl_list) (pv 11) po_none (po_some (pv 15))) (pa_cons pe_int pa_nil))))))
      (pss_one (ps_ret (pe_and (pe_cmpR (op_eqD hr.units) (pv 16) (pe_lst (pa_cons pe_str (pa_cons pe_str (pa_cons pe_str (pa_cons pe_str pa_nil))))) (nomark _)) (pe_one (pe_cmpR op_eq (pcl Wd hr (by decide) (by rfl) (pa_cons pe_int (pa_cons (pv 11) (pa_cons (pe_op op_pow pe_int pe_int) pa_nil)))) pe_str (nomark _))))))))))))), ?_⟩
    walk_at "rd"
    refine ⟨l, ns, rfl, hL, hn, fun a c H0 sm na nc S0 => ?_⟩
    walk_at "rd"
    refine ⟨by decide, by decide, ?_⟩
    refine for_range (n := 15) (fun i σ H' => ∃ (x2 x3 x4 x5 x6 x7 x9 : Option V) (t : Nat), σ = [some (.ref l), some (.ref a), x2, x3, x4, x5, x6, x7, none, x9, none, none, none, none, none, none, none] ∧ t ≤ 400 * i ∧ Src H' a c t) ⟨none, none, none, none, none, none, none, 0, rfl, by omega, S0⟩ ?_ ?_
    · rintro i σ H' hi ⟨x2, x3, x4, x5, x6, x7, x9, t, rfl, ht, S'⟩
      walk_at "rd"
      refine ⟨a, c, t, 30, rfl, S', by decide, by decide, by omega, fun p o s m H1 t1 np0 hp sp ob ht1 S_H1 O1 => ?_⟩
      walk_at "rd"
      refine ⟨p, _, _, _, rfl, rfl, SqT.of hp, rfl, ?_⟩
      walk_at "rd"
      refine ⟨(by show (0 : Int) < 9; decide), ?_⟩
      walk_at "rd"
      refine ⟨p, _, _, _, rfl, rfl, SqT.of hp, rfl, ?_⟩
      walk_at "rd"
      refine ⟨(by show (0 : Int) < 9; decide), ?_⟩
      walk_at "rd"
      refine ⟨p, _, _, _, rfl, rfl, SqT.of hp, rfl, ?_⟩
      walk_at "rd"
      refine ⟨(by show 3 ≤ sizeLine; decide), fun sl nsl => ?_⟩
      obtain ⟨so, eso, so0, so1⟩ : ∃ so : Int, so = o % 9 ∧ 0 ≤ so ∧ so < 9 := ⟨_, rfl, Int.emod_nonneg _ (by decide), Int.emod_lt_of_pos _ (by decide)⟩
      obtain ⟨st, est, st0, st1⟩ : ∃ st : Int, st = 1 + s % 9 ∧ 1 ≤ st ∧ st ≤ 9 := ⟨_, rfl, by have := Int.emod_nonneg s (show (9 : Int) ≠ 0 by decide); omega, by have := Int.emod_lt_of_pos s (show (0 : Int) < 9 by decide); omega⟩
      generalize e_sl : upd H1 sl _ = H2
      have f_sl : H2 sl = some (.tup [.int so, .int st, .str m]) := by rw [← e_sl, eso, est]; exact upd_same
      have s_sl : Same H1 H2 := by rw [← e_sl]; exact fun b u z => (upd_ne (ne_of_none z nsl)).trans z
      clear e_sl
      have S_H2 := S_H1.of_same s_sl
      have x_sl := S_H1.na nsl
      have SP : SideP so st m := ⟨by show -(10 : Int) ^ 40 ≤ so; omega, by show so ≤ (10 : Int) ^ 40; omega, st0, by show st ≤ (10 : Int) ^ 30; omega, sp.md⟩
      clear hp sp ob eso est O1
      walk_at "rd"
      refine ⟨(by show 0 ≤ sizeLine; decide), fun p1 np1 => ?_⟩
      generalize e_p1 : upd H2 p1 _ = G2
      have f_p1 : G2 p1 = some (.tup []) := by rw [← e_p1]; exact upd_same
      have s_p1 : Same H2 G2 := by rw [← e_p1]; exact fun b u z => (upd_ne (ne_of_none z np1)).trans z
      clear e_p1
      have S_G2 := S_H2.of_same s_p1
      have x_p1 := S_H2.na np1
      walk_at "rd"
      refine ⟨(by show 0 ≤ sizeLine; decide), fun p3 np3 => ?_⟩
      generalize e_p3 : upd G2 p3 _ = G4
      have f_p3 : G4 p3 = some (.lst []) := by rw [← e_p3]; exact upd_same
      have s_p3 : Same G2 G4 := by rw [← e_p3]; exact fun b u z => (upd_ne (ne_of_none z np3)).trans z
      clear e_p3
      have S_G4 := S_G2.of_same s_p3
      have x_p3 := S_G2.na np3
      walk_at "rd"
      intro p5 np5
      generalize e_p5 : upd G4 p5 _ = G6
      have f_p5 : G6 p5 = some (.dK []) := by rw [← e_p5]; exact upd_same
      have s_p5 : Same G4 G6 := by rw [← e_p5]; exact fun b u z => (upd_ne (ne_of_none z np5)).trans z
      clear e_p5
      have S_G6 := S_G4.of_same s_p5
      have x_p5 := S_G4.na np5
      walk_at "rd"
      refine ⟨(by show 1 ≤ sizeLine; decide), fun p7 np7 => ?_⟩
      generalize e_p7 : upd G6 p7 _ = G8
      have f_p7 : G8 p7 = some (.tup [.ref sl]) := by rw [← e_p7]; exact upd_same
      have s_p7 : Same G6 G8 := by rw [← e_p7]; exact fun b u z => (upd_ne (ne_of_none z np7)).trans z
      clear e_p7
      have S_G8 := S_G6.of_same s_p7
      have x_p7 := S_G6.na np7
      walk_at "rd"
      refine ⟨(by show 1 ≤ sizeLine; decide), fun p9 np9 => ?_⟩
      generalize e_p9 : upd G8 p9 _ = G10
      have f_p9 : G10 p9 = some (.lst [.ref sl]) := by rw [← e_p9]; exact upd_same
      have s_p9 : Same G8 G10 := by rw [← e_p9]; exact fun b u z => (upd_ne (ne_of_none z np9)).trans z
      clear e_p9
      have S_G10 := S_G8.of_same s_p9
      have x_p9 := S_G8.na np9
      walk_at "rd"
      refine ⟨p9, 5, _, rfl, rfl, f_p9, by decide, by decide, (by show 5 ≤ sizeLine; decide), fun p11 np11 => ?_⟩
      generalize e_p11 : upd G10 p11 _ = G12
      have f_p11 : G12 p11 = some (.lst [.ref sl, .ref sl, .ref sl, .ref sl, .ref sl]) := by rw [← e_p11]; exact upd_same
      have s_p11 : Same G10 G12 := by rw [← e_p11]; exact fun b u z => (upd_ne (ne_of_none z np11)).trans z
      clear e_p11
      have S_G12 := S_G10.of_same s_p11
      have x_p11 := S_G10.na np11
      walk_at "rd"
      refine ⟨(by show 2 ≤ sizeLine; decide), fun p13 np13 => ?_⟩
      generalize e_p13 : upd G12 p13 _ = G14
      have f_p13 : G14 p13 = some (.lst [.ref sl, .non]) := by rw [← e_p13]; exact upd_same
      have s_p13 : Same G12 G14 := by rw [← e_p13]; exact fun b u z => (upd_ne (ne_of_none z np13)).trans z
      clear e_p13
      have S_G14 := S_G12.of_same s_p13
      have x_p13 := S_G12.na np13
      walk_at "rd"
      refine ⟨sl, _, rfl, .inr (SqT.of (((((((s_p1.trans s_p3).trans s_p5).trans s_p7).trans s_p9).trans s_p11).trans s_p13) _ _ f_sl)), fun p15 np15 => ?_⟩
      generalize e_p15 : upd G14 p15 _ = G16
      have f_p15 : G16 p15 = some (.lst [.int so, .int st, .str m]) := by rw [← e_p15]; exact upd_same
      have s_p15 : Same G14 G16 := by rw [← e_p15]; exact fun b u z => (upd_ne (ne_of_none z np15)).trans z
      clear e_p15
      have S_G16 := S_G14.of_same s_p15
      have x_p15 := S_G14.na np15
      walk_at "rd"
      refine ⟨(by show 1 ≤ sizeLine; decide), fun p17 np17 => ?_⟩
      generalize e_p17 : upd G16 p17 _ = G18
      have f_p17 : G18 p17 = some (.lst [.ref p15]) := by rw [← e_p17]; exact upd_same
      have s_p17 : Same G16 G18 := by rw [← e_p17]; exact fun b u z => (upd_ne (ne_of_none z np17)).trans z
      clear e_p17
      have S_G18 := S_G16.of_same s_p17
      have x_p17 := S_G16.na np17
      walk_at "rd"
      refine ⟨(by show 1 ≤ sizeLine; decide), fun p19 np19 => ?_⟩
      generalize e_p19 : upd G18 p19 _ = G20
      have f_p19 : G20 p19 = some (.lst [.ref sl]) := by rw [← e_p19]; exact upd_same
      have s_p19 : Same G18 G20 := by rw [← e_p19]; exact fun b u z => (upd_ne (ne_of_none z np19)).trans z
      clear e_p19
      have S_G20 := S_G18.of_same s_p19
      have x_p19 := S_G18.na np19
      walk_at "rd"
      refine ⟨(by show 1 ≤ sizeLine; decide), fun p21 np21 => ?_⟩
      generalize e_p21 : upd G20 p21 _ = G22
      have f_p21 : G22 p21 = some (.lst [.ref p19]) := by rw [← e_p21]; exact upd_same
      have s_p21 : Same G20 G22 := by rw [← e_p21]; exact fun b u z => (upd_ne (ne_of_none z np21)).trans z
      clear e_p21
      have S_G22 := S_G20.of_same s_p21
      have x_p21 := S_G20.na np21
      walk_at "rd"
      refine ⟨(by show 12 ≤ sizeLine; decide), fun p23 np23 => ?_⟩
      generalize e_p23 : upd G22 p23 _ = G24
      have f_p23 : G24 p23 = some (.lst [.non, .ref p1, .ref p3, .ref p5, .str "sides", .int 5, .ref sl, .ref p7, .ref p11, .ref p13, .ref p17, .ref p21]) := by rw [← e_p23]; exact upd_same
      have s_p23 : Same G22 G24 := by rw [← e_p23]; exact fun b u z => (upd_ne (ne_of_none z np23)).trans z
      clear e_p23
      have S_G24 := S_G22.of_same s_p23
      have x_p23 := S_G22.na np23
      walk_at "rd"
      refine ⟨(by show 3 ≤ sizeLine; decide), fun p25 np25 => ?_⟩
      generalize e_p25 : upd G24 p25 _ = G26
      have f_p25 : G26 p25 = some (.tup [.int 0, .int 0, .str "up"]) := by rw [← e_p25]; exact upd_same
      have s_p25 : Same G24 G26 := by rw [← e_p25]; exact fun b u z => (upd_ne (ne_of_none z np25)).trans z
      clear e_p25
      have S_G26 := S_G24.of_same s_p25
      have x_p25 := S_G24.na np25
      walk_at "rd"
      refine ⟨(by show 2 ≤ sizeLine; decide), fun p27 np27 => ?_⟩
      generalize e_p27 : upd G26 p27 _ = G28
      have f_p27 : G28 p27 = some (.lst [.ref sl, .ref p25]) := by rw [← e_p27]; exact upd_same
      have s_p27 : Same G26 G28 := by rw [← e_p27]; exact fun b u z => (upd_ne (ne_of_none z np27)).trans z
      clear e_p27
      have S_G28 := S_G26.of_same s_p27
      have x_p27 := S_G26.na np27
      walk_at "rd"
      refine ⟨(by show 3 ≤ sizeLine; decide), fun p29 np29 => ?_⟩
      generalize e_p29 : upd G28 p29 _ = G30
      have f_p29 : G30 p29 = some (.tup [.int 0, .int 5, .str "half"]) := by rw [← e_p29]; exact upd_same
      have s_p29 : Same G28 G30 := by rw [← e_p29]; exact fun b u z => (upd_ne (ne_of_none z np29)).trans z
      clear e_p29
      have S_G30 := S_G28.of_same s_p29
      have x_p29 := S_G28.na np29
      walk_at "rd"
      refine ⟨(by show 1 ≤ sizeLine; decide), fun p31 np31 => ?_⟩
      generalize e_p31 : upd G30 p31 _ = G32
      have f_p31 : G32 p31 = some (.lst [.ref p29]) := by rw [← e_p31]; exact upd_same
      have s_p31 : Same G30 G32 := by rw [← e_p31]; exact fun b u z => (upd_ne (ne_of_none z np31)).trans z
      clear e_p31
      have S_G32 := S_G30.of_same s_p31
      have x_p31 := S_G30.na np31
      walk_at "rd"
      refine ⟨sl, _, rfl, SqT.of ((((((((((((((((s_p1.trans s_p3).trans s_p5).trans s_p7).trans s_p9).trans s_p11).trans s_p13).trans s_p15).trans s_p17).trans s_p19).trans s_p21).trans s_p23).trans s_p25).trans s_p27).trans s_p29).trans s_p31) _ _ f_sl), (by show ¬ (HT.sIx 3 0 none = 0 ∧ HT.sIx 3 3 (some 2) = 3); decide), fun p33 np33 => ?_⟩
      generalize e_p33 : upd G32 p33 _ = G34
      have f_p33 : G34 p33 = some (.tup [.int so, .int st]) := by rw [← e_p33]; exact upd_same
      have s_p33 : Same G32 G34 := by rw [← e_p33]; exact fun b u z => (upd_ne (ne_of_none z np33)).trans z
      clear e_p33
      have S_G34 := S_G32.of_same s_p33
      have x_p33 := S_G32.na np33
      walk_at "rd"
      refine ⟨(by show 1 ≤ sizeLine; decide), fun p35 np35 => ?_⟩
      generalize e_p35 : upd G34 p35 _ = G36
      have f_p35 : G36 p35 = some (.lst [.ref p33]) := by rw [← e_p35]; exact upd_same
      have s_p35 : Same G34 G36 := by rw [← e_p35]; exact fun b u z => (upd_ne (ne_of_none z np35)).trans z
      clear e_p35
      have S_G36 := S_G34.of_same s_p35
      have x_p35 := S_G34.na np35
      walk_at "rd"
      refine ⟨(by show 1 ≤ sizeLine; decide), fun p37 np37 => ?_⟩
      generalize e_p37 : upd G36 p37 _ = G38
      have f_p37 : G38 p37 = some (.tup [.int 0]) := by rw [← e_p37]; exact upd_same
      have s_p37 : Same G36 G38 := by rw [← e_p37]; exact fun b u z => (upd_ne (ne_of_none z np37)).trans z
      clear e_p37
      have S_G38 := S_G36.of_same s_p37
      have x_p37 := S_G36.na np37
      walk_at "rd"
      refine ⟨sl, p37, _, _, rfl, rfl, SqT.of (((((((((((((((((((s_p1.trans s_p3).trans s_p5).trans s_p7).trans s_p9).trans s_p11).trans s_p13).trans s_p15).trans s_p17).trans s_p19).trans s_p21).trans s_p23).trans s_p25).trans s_p27).trans s_p29).trans s_p31).trans s_p33).trans s_p35).trans s_p37) _ _ f_sl), SqT.of f_p37, (fun z => nomatch z), (by show 4 ≤ sizeLine; decide), (fun z => nomatch z), fun _ p39 np39 => ?_⟩
      generalize e_p39 : upd G38 p39 _ = G40
      have f_p39 : G40 p39 = some (.tup [.int so, .int st, .str m, .int 0]) := by rw [← e_p39]; exact upd_same
      have s_p39 : Same G38 G40 := by rw [← e_p39]; exact fun b u z => (upd_ne (ne_of_none z np39)).trans z
      clear e_p39
      have S_G40 := S_G38.of_same s_p39
      have x_p39 := S_G38.na np39
      walk_at "rd"
      refine ⟨(by show 1 ≤ sizeLine; decide), fun p41 np41 => ?_⟩
      generalize e_p41 : upd G40 p41 _ = G42
      have f_p41 : G42 p41 = some (.lst [.ref p39]) := by rw [← e_p41]; exact upd_same
      have s_p41 : Same G40 G42 := by rw [← e_p41]; exact fun b u z => (upd_ne (ne_of_none z np41)).trans z
      clear e_p41
      have S_G42 := S_G40.of_same s_p41
      have x_p41 := S_G40.na np41
      walk_at "rd"
      refine ⟨(by show 3 ≤ sizeLine; decide), fun p43 np43 => ?_⟩
      generalize e_p43 : upd G42 p43 _ = G44
      have f_p43 : G44 p43 = some (.tup [.bl true, .int 5, .str "up"]) := by rw [← e_p43]; exact upd_same
      have s_p43 : Same G42 G44 := by rw [← e_p43]; exact fun b u z => (upd_ne (ne_of_none z np43)).trans z
      clear e_p43
      have S_G44 := S_G42.of_same s_p43
      have x_p43 := S_G42.na np43
      walk_at "rd"
      refine ⟨(by show 1 ≤ sizeLine; decide), fun p45 np45 => ?_⟩
      generalize e_p45 : upd G44 p45 _ = G46
      have f_p45 : G46 p45 = some (.lst [.ref p43]) := by rw [← e_p45]; exact upd_same
      have s_p45 : Same G44 G46 := by rw [← e_p45]; exact fun b u z => (upd_ne (ne_of_none z np45)).trans z
      clear e_p45
      have S_G46 := S_G44.of_same s_p45
      have x_p45 := S_G44.na np45
      walk_at "rd"
      refine ⟨(by show 5 ≤ sizeLine; decide), fun p47 np47 => ?_⟩
      generalize e_p47 : upd G46 p47 _ = G48
      have f_p47 : G48 p47 = some (.lst [.ref p27, .ref p31, .ref p35, .ref p41, .ref p45]) := by rw [← e_p47]; exact upd_same
      have s_p47 : Same G46 G48 := by rw [← e_p47]; exact fun b u z => (upd_ne (ne_of_none z np47)).trans z
      clear e_p47
      have S_G48 := S_G46.of_same s_p47
      have x_p47 := S_G46.na np47
      walk_at "rd"
      refine ⟨p23, p47, _, _, rfl, rfl, ((((((((((((s_p25.trans s_p27).trans s_p29).trans s_p31).trans s_p33).trans s_p35).trans s_p37).trans s_p39).trans s_p41).trans s_p43).trans s_p45).trans s_p47) _ _ f_p23), f_p47, (by show 17 ≤ sizeLine; decide), fun p49 np49 => ?_⟩
      generalize e_p49 : upd G48 p49 _ = G50
      have f_p49 : G50 p49 = some (.lst [.non, .ref p1, .ref p3, .ref p5, .str "sides", .int 5, .ref sl, .ref p7, .ref p11, .ref p13, .ref p17, .ref p21, .ref p27, .ref p31, .ref p35, .ref p41, .ref p45]) := by rw [← e_p49]; exact upd_same
      have s_p49 : Same G48 G50 := by rw [← e_p49]; exact fun b u z => (upd_ne (ne_of_none z np49)).trans z
      clear e_p49
      have S_G50 := S_G48.of_same s_p49
      have x_p49 := S_G48.na np49
      walk_at "rd"
      refine ⟨.inl ⟨rfl, _, SqL.of f_p49⟩, ?_⟩
      walk_at "rd"
      refine ⟨(by show 3 ≤ sizeLine; decide), fun p51 np51 => ?_⟩
      generalize e_p51 : upd G50 p51 _ = G52
      have f_p51 : G52 p51 = some (.lst [.ref sl, .ref sl, .int 7]) := by rw [← e_p51]; exact upd_same
      have s_p51 : Same G50 G52 := by rw [← e_p51]; exact fun b u z => (upd_ne (ne_of_none z np51)).trans z
      clear e_p51
      have S_G52 := S_G50.of_same s_p51
      have x_p51 := S_G50.na np51
      walk_at "rd"
      refine ⟨p49, _, _, rfl, rfl, (s_p51 _ _ f_p49), (by show 17 < sizeLine; decide), ?_⟩
      generalize e_GA : upd G52 p49 _ = GA
      have f_OL : GA p49 = some (.lst [.non, .ref p1, .ref p3, .ref p5, .str "sides", .int 5, .ref sl, .ref p7, .ref p11, .ref p13, .ref p17, .ref p21, .ref p27, .ref p31, .ref p35, .ref p41, .ref p45, .ref p51]) := by rw [← e_GA]; exact upd_same
      have s_GA : Same G48 GA := by rw [← e_GA]; exact fun b u z => (upd_ne (ne_of_none z np49)).trans ((s_p49.trans s_p51) _ _ z)
      have f_g6 : GA p51 = some (.lst [.ref sl, .ref sl, .int 7]) := by rw [← e_GA]; exact (upd_ne (ne_of_none f_p49 np51).symm).trans f_p51
      clear e_GA
      have S_GA := S_G48.of_same s_GA
      walk_at "rd"
      refine ⟨a, c, _, p49, _, rfl, S_GA, by omega, f_OL, x_p49.1, x_p49.2, (by show 0 < 18; decide), (by show 18 < 2 ^ 60; decide), fun y GP hy S_GP OP => ?_⟩
      have f_slP : GP sl = some (sideV so st m) := (OP _ _ (((((((((((((((((((((((((s_p1.trans s_p3).trans s_p5).trans s_p7).trans s_p9).trans s_p11).trans s_p13).trans s_p15).trans s_p17).trans s_p19).trans s_p21).trans s_p23).trans s_p25).trans s_p27).trans s_p29).trans s_p31).trans s_p33).trans s_p35).trans s_p37).trans s_p39).trans s_p41).trans s_p43).trans s_p45).trans s_p47).trans s_GA) _ _ f_sl) x_sl.1 x_sl.2)
      have bad : BadL K GP y := by
        simp only [List.mem_cons, List.not_mem_nil, or_false] at hy
        rcases hy with rfl | rfl | rfl | rfl | rfl | rfl | rfl | rfl | rfl | rfl | rfl | rfl | rfl | rfl | rfl | rfl | rfl | rfl
        · exact .kind .non (by decide)
        · exact .kind (.tup (OP _ _ ((((((((((((((((((((((((s_p3.trans s_p5).trans s_p7).trans s_p9).trans s_p11).trans s_p13).trans s_p15).trans s_p17).trans s_p19).trans s_p21).trans s_p23).trans s_p25).trans s_p27).trans s_p29).trans s_p31).trans s_p33).trans s_p35).trans s_p37).trans s_p39).trans s_p41).trans s_p43).trans s_p45).trans s_p47).trans s_GA) _ _ f_p1) x_p1.1 x_p1.2)) (by decide)
        · exact .len (OP _ _ (((((((((((((((((((((((s_p5.trans s_p7).trans s_p9).trans s_p11).trans s_p13).trans s_p15).trans s_p17).trans s_p19).trans s_p21).trans s_p23).trans s_p25).trans s_p27).trans s_p29).trans s_p31).trans s_p33).trans s_p35).trans s_p37).trans s_p39).trans s_p41).trans s_p43).trans s_p45).trans s_p47).trans s_GA) _ _ f_p3) x_p3.1 x_p3.2) (by show ¬ (1 ≤ 0 ∧ 0 ≤ 4); decide)
        · exact .kind (.dk (OP _ _ ((((((((((((((((((((((s_p7.trans s_p9).trans s_p11).trans s_p13).trans s_p15).trans s_p17).trans s_p19).trans s_p21).trans s_p23).trans s_p25).trans s_p27).trans s_p29).trans s_p31).trans s_p33).trans s_p35).trans s_p37).trans s_p39).trans s_p41).trans s_p43).trans s_p45).trans s_p47).trans s_GA) _ _ f_p5) x_p5.1 x_p5.2)) (by decide)
        · exact .kind (.str _) (by decide)
        · exact .kind (.int _) (by decide)
        · exact .kind (.tup (OP _ _ (((((((((((((((((((((((((s_p1.trans s_p3).trans s_p5).trans s_p7).trans s_p9).trans s_p11).trans s_p13).trans s_p15).trans s_p17).trans s_p19).trans s_p21).trans s_p23).trans s_p25).trans s_p27).trans s_p29).trans s_p31).trans s_p33).trans s_p35).trans s_p37).trans s_p39).trans s_p41).trans s_p43).trans s_p45).trans s_p47).trans s_GA) _ _ f_sl) x_sl.1 x_sl.2)) (by decide)
        · exact .kind (.tup (OP _ _ (((((((((((((((((((((s_p9.trans s_p11).trans s_p13).trans s_p15).trans s_p17).trans s_p19).trans s_p21).trans s_p23).trans s_p25).trans s_p27).trans s_p29).trans s_p31).trans s_p33).trans s_p35).trans s_p37).trans s_p39).trans s_p41).trans s_p43).trans s_p45).trans s_p47).trans s_GA) _ _ f_p7) x_p7.1 x_p7.2)) (by decide)
        · exact .len (OP _ _ (((((((((((((((((((s_p13.trans s_p15).trans s_p17).trans s_p19).trans s_p21).trans s_p23).trans s_p25).trans s_p27).trans s_p29).trans s_p31).trans s_p33).trans s_p35).trans s_p37).trans s_p39).trans s_p41).trans s_p43).trans s_p45).trans s_p47).trans s_GA) _ _ f_p11) x_p11.1 x_p11.2) (by show ¬ (1 ≤ 5 ∧ 5 ≤ 4); decide)
        · exact .item (i := 1) (OP _ _ ((((((((((((((((((s_p15.trans s_p17).trans s_p19).trans s_p21).trans s_p23).trans s_p25).trans s_p27).trans s_p29).trans s_p31).trans s_p33).trans s_p35).trans s_p37).trans s_p39).trans s_p41).trans s_p43).trans s_p45).trans s_p47).trans s_GA) _ _ f_p13) x_p13.1 x_p13.2) (by show 1 ≤ 2; decide) (by show 2 ≤ 4; decide) rfl (.kind .non (by decide)) (fun j z hj hz => by obtain rfl : j = 0 := (by omega); cases hz; exact ⟨sl, so, st, m, rfl, (OP _ _ (((((((((((((((((((((((((s_p1.trans s_p3).trans s_p5).trans s_p7).trans s_p9).trans s_p11).trans s_p13).trans s_p15).trans s_p17).trans s_p19).trans s_p21).trans s_p23).trans s_p25).trans s_p27).trans s_p29).trans s_p31).trans s_p33).trans s_p35).trans s_p37).trans s_p39).trans s_p41).trans s_p43).trans s_p45).trans s_p47).trans s_GA) _ _ f_sl) x_sl.1 x_sl.2), SP⟩)
        · exact .item (i := 0) (OP _ _ ((((((((((((((((s_p19.trans s_p21).trans s_p23).trans s_p25).trans s_p27).trans s_p29).trans s_p31).trans s_p33).trans s_p35).trans s_p37).trans s_p39).trans s_p41).trans s_p43).trans s_p45).trans s_p47).trans s_GA) _ _ f_p17) x_p17.1 x_p17.2) (by show 1 ≤ 1; decide) (by show 1 ≤ 4; decide) rfl (.kind (.lst (OP _ _ (((((((((((((((((s_p17.trans s_p19).trans s_p21).trans s_p23).trans s_p25).trans s_p27).trans s_p29).trans s_p31).trans s_p33).trans s_p35).trans s_p37).trans s_p39).trans s_p41).trans s_p43).trans s_p45).trans s_p47).trans s_GA) _ _ f_p15) x_p15.1 x_p15.2)) (by decide)) (fun j z hj _ => absurd hj (Nat.not_lt_zero _))
        · exact .item (i := 0) (OP _ _ ((((((((((((((s_p23.trans s_p25).trans s_p27).trans s_p29).trans s_p31).trans s_p33).trans s_p35).trans s_p37).trans s_p39).trans s_p41).trans s_p43).trans s_p45).trans s_p47).trans s_GA) _ _ f_p21) x_p21.1 x_p21.2) (by show 1 ≤ 1; decide) (by show 1 ≤ 4; decide) rfl (.kind (.lst (OP _ _ (((((((((((((((s_p21.trans s_p23).trans s_p25).trans s_p27).trans s_p29).trans s_p31).trans s_p33).trans s_p35).trans s_p37).trans s_p39).trans s_p41).trans s_p43).trans s_p45).trans s_p47).trans s_GA) _ _ f_p19) x_p19.1 x_p19.2)) (by decide)) (fun j z hj _ => absurd hj (Nat.not_lt_zero _))
        · exact .item (i := 1) (OP _ _ (((((((((((s_p29.trans s_p31).trans s_p33).trans s_p35).trans s_p37).trans s_p39).trans s_p41).trans s_p43).trans s_p45).trans s_p47).trans s_GA) _ _ f_p27) x_p27.1 x_p27.2) (by show 1 ≤ 2; decide) (by show 2 ≤ 4; decide) rfl (.stp (OP _ _ ((((((((((((s_p27.trans s_p29).trans s_p31).trans s_p33).trans s_p35).trans s_p37).trans s_p39).trans s_p41).trans s_p43).trans s_p45).trans s_p47).trans s_GA) _ _ f_p25) x_p25.1 x_p25.2) (.int _) (by decide +kernel) (.int _) (by decide +kernel)) (fun j z hj hz => by obtain rfl : j = 0 := (by omega); cases hz; exact ⟨sl, so, st, m, rfl, (OP _ _ (((((((((((((((((((((((((s_p1.trans s_p3).trans s_p5).trans s_p7).trans s_p9).trans s_p11).trans s_p13).trans s_p15).trans s_p17).trans s_p19).trans s_p21).trans s_p23).trans s_p25).trans s_p27).trans s_p29).trans s_p31).trans s_p33).trans s_p35).trans s_p37).trans s_p39).trans s_p41).trans s_p43).trans s_p45).trans s_p47).trans s_GA) _ _ f_sl) x_sl.1 x_sl.2), SP⟩)
        · exact .item (i := 0) (OP _ _ (((((((((s_p33.trans s_p35).trans s_p37).trans s_p39).trans s_p41).trans s_p43).trans s_p45).trans s_p47).trans s_GA) _ _ f_p31) x_p31.1 x_p31.2) (by show 1 ≤ 1; decide) (by show 1 ≤ 4; decide) rfl (.mod (OP _ _ ((((((((((s_p31.trans s_p33).trans s_p35).trans s_p37).trans s_p39).trans s_p41).trans s_p43).trans s_p45).trans s_p47).trans s_GA) _ _ f_p29) x_p29.1 x_p29.2) (.int _) (by decide +kernel) (.int _) (by decide +kernel) (.str _) ⟨by decide +kernel, by decide +kernel⟩) (fun j z hj _ => absurd hj (Nat.not_lt_zero _))
        · exact .item (i := 0) (OP _ _ (((((((s_p37.trans s_p39).trans s_p41).trans s_p43).trans s_p45).trans s_p47).trans s_GA) _ _ f_p35) x_p35.1 x_p35.2) (by show 1 ≤ 1; decide) (by show 1 ≤ 4; decide) rfl (.len (OP _ _ ((((((((s_p35.trans s_p37).trans s_p39).trans s_p41).trans s_p43).trans s_p45).trans s_p47).trans s_GA) _ _ f_p33) x_p33.1 x_p33.2) (by show ¬ 2 = 3; decide)) (fun j z hj _ => absurd hj (Nat.not_lt_zero _))
        · exact .item (i := 0) (OP _ _ ((((s_p43.trans s_p45).trans s_p47).trans s_GA) _ _ f_p41) x_p41.1 x_p41.2) (by show 1 ≤ 1; decide) (by show 1 ≤ 4; decide) rfl (.len (OP _ _ (((((s_p41.trans s_p43).trans s_p45).trans s_p47).trans s_GA) _ _ f_p39) x_p39.1 x_p39.2) (by show ¬ 4 = 3; decide)) (fun j z hj _ => absurd hj (Nat.not_lt_zero _))
        · exact .item (i := 0) (OP _ _ ((s_p47.trans s_GA) _ _ f_p45) x_p45.1 x_p45.2) (by show 1 ≤ 1; decide) (by show 1 ≤ 4; decide) rfl (.off (OP _ _ (((s_p45.trans s_p47).trans s_GA) _ _ f_p43) x_p43.1 x_p43.2) (.bl _) (by decide +kernel)) (fun j z hj _ => absurd hj (Nat.not_lt_zero _))
        · exact .item (i := 2) (OP _ _ f_g6 x_p51.1 x_p51.2) (by show 1 ≤ 3; decide) (by show 3 ≤ 4; decide) rfl (.kind (.int _) (by decide)) (fun j z hj hz => by rcases (by omega : j = 0 ∨ j = 1) with rfl | rfl <;> (cases hz; exact ⟨sl, so, st, m, rfl, (OP _ _ (((((((((((((((((((((((((s_p1.trans s_p3).trans s_p5).trans s_p7).trans s_p9).trans s_p11).trans s_p13).trans s_p15).trans s_p17).trans s_p19).trans s_p21).trans s_p23).trans s_p25).trans s_p27).trans s_p29).trans s_p31).trans s_p33).trans s_p35).trans s_p37).trans s_p39).trans s_p41).trans s_p43).trans s_p45).trans s_p47).trans s_GA) _ _ f_sl) x_sl.1 x_sl.2), SP⟩))
      clear hy x_p1 x_p3 x_p5 x_p7 x_p9 x_p11 x_p13 x_p15 x_p17 x_p19 x_p21 x_p23 x_p25 x_p27 x_p29 x_p31 x_p33 x_p35 x_p37 x_p39 x_p41 x_p43 x_p45 x_p47 x_p49 x_p51 f_g6 f_p1 f_p11 f_p13 f_p15 f_p17 f_p19 f_p21 f_p23 f_p25 f_p27 f_p29 f_p3 f_p31 f_p33 f_p35 f_p37 f_p39 f_p41 f_p43 f_p45 f_p47 f_p5 f_p7 f_p9 f_sl
      clear f_OL OP s_GA S_GA
      walk_at "rd"
      refine ⟨(by show 3 ≤ sizeLine; decide), fun p53 np53 => ?_⟩
      generalize e_p53 : upd GP p53 _ = G54
      have f_p53 : G54 p53 = some (.lst [.int 5, .non, .bl true]) := by rw [← e_p53]; exact upd_same
      have s_p53 : Same GP G54 := by rw [← e_p53]; exact fun b u z => (upd_ne (ne_of_none z np53)).trans z
      clear e_p53
      have S_G54 := S_GP.of_same s_p53
      have x_p53 := S_GP.na np53
      walk_at "rd"
      refine ⟨⟨_, SqL.of f_p53⟩, ?_⟩
      refine for_list (K := K) (a := p53) (xs := [.int 5, .non, .bl true]) (fun i2 st H7 => ∃ z7 : Option V, st = [some (.ref l), some (.ref a), some (.int (0 + (i : Int))), some (.ref p), some (.ref sl), some (.ref p49), some y, z7, none, x9, none, none, none, none, none, none, none] ∧ Same G54 H7) ⟨x7, rfl, Same.refl _⟩ (fun _ _ _ _ ⟨_, _, s7⟩ => SqL.of (s7 _ _ f_p53)) ?_ ?_
      · rintro i2 v st H7 hv ⟨z7, rfl, s7⟩
        walk_at "rd"
        refine ⟨by decide, by decide, fun D nD => ?_⟩
        have bad7 := bad.same (s_p53.trans s7)
        refine lc_range (lo := 0) (n := 3) (fun j H8 => H8 D = some (.lst (List.replicate j (V.str "sides"))) ∧ Same H7 H8) ⟨upd_same, fun b u z => (upd_ne (ne_of_none z nD)).trans z⟩ ?_ ?_
        · rintro j H8 hj ⟨hD, s8⟩
          refine ⟨rfl, ?_⟩
          walk_at "rd"
          refine ⟨j, y, v, "sides", (by rw [Int.zero_add]; rfl), hj, .sides (bad7.same s8), fun H9 s9 => ?_⟩
          refine ⟨_, s9 _ _ hD, ?_, ?_, fun b u z => (upd_ne (ne_of_none z nD)).trans ((s8.trans s9) _ _ z)⟩
          · rw [List.length_replicate]
            exact Nat.lt_of_lt_of_le (by omega : j < 8) (by decide)
          · rw [rep_snoc]
            exact upd_same
        · rintro H8 ⟨hD, s8⟩
          walk_at "rd"
          refine ⟨(by show 1 ≤ sizeLine; decide), fun r1 nr1 => ?_⟩
          generalize e_r1 : upd H8 r1 _ = H10
          have g1 : H10 r1 = some (.lst [.str "sides"]) := by rw [← e_r1]; exact upd_same
          have w1 : Same H8 H10 := by rw [← e_r1]; exact fun b u z => (upd_ne (ne_of_none z nr1)).trans z
          clear e_r1
          walk_at "rd"
          refine ⟨r1, 3, _, rfl, rfl, g1, by decide, by decide, (by show 3 ≤ sizeLine; decide), fun r2 nr2 => ?_⟩
          generalize e_r2 : upd H10 r2 _ = H11
          have g2 : H11 r2 = some (.lst [.str "sides", .str "sides", .str "sides"]) := by rw [← e_r2]; exact upd_same
          have w2 : Same H10 H11 := by rw [← e_r2]; exact fun b u z => (upd_ne (ne_of_none z nr2)).trans z
          clear e_r2
          refine ⟨.list [.str "sides", .str "sides", .str "sides"], .list [.str "sides", .str "sides", .str "sides"], .lst (SqL.of (w2 _ _ (w1 _ _ hD))) (.cons (.str _) (.cons (.str _) (.cons (.str _) .nil))), .lst (SqL.of g2) (.cons (.str _) (.cons (.str _) (.cons (.str _) .nil))), by decide +kernel, by decide +kernel, ?_⟩
          refine ⟨_, rfl, ?_⟩
          refine ite2 (fun z => (not_t z (SeqAt.eqv_refl (.list [.str "sides", .str "sides", .str "sides"]) (by decide +kernel))).elim) (fun _ => ?_)
          exact ⟨_, rfl, s7.trans (s8.trans (w1.trans w2))⟩
      rintro st H7 ⟨z7, rfl, s7⟩
      have S_H7 := S_G54.of_same s7
      have f_sl7 := s7 _ _ (s_p53 _ _ f_slP)
      clear bad
      walk_at "rd"
      refine ⟨(by show 0 ≤ sizeLine; decide), fun p55 np55 => ?_⟩
      generalize e_p55 : upd H7 p55 _ = G56
      have f_p55 : G56 p55 = some (.lst []) := by rw [← e_p55]; exact upd_same
      have s_p55 : Same H7 G56 := by rw [← e_p55]; exact fun b u z => (upd_ne (ne_of_none z np55)).trans z
      clear e_p55
      have S_G56 := S_H7.of_same s_p55
      have x_p55 := S_H7.na np55
      walk_at "rd"
      refine ⟨(by show 1 ≤ sizeLine; decide), fun p57 np57 => ?_⟩
      generalize e_p57 : upd G56 p57 _ = G58
      have f_p57 : G58 p57 = some (.tup [.int 5]) := by rw [← e_p57]; exact upd_same
      have s_p57 : Same G56 G58 := by rw [← e_p57]; exact fun b u z => (upd_ne (ne_of_none z np57)).trans z
      clear e_p57
      have S_G58 := S_G56.of_same s_p57
      have x_p57 := S_G56.na np57
      walk_at "rd"
      intro p59 np59
      generalize e_p59 : upd G58 p59 _ = G60
      have f_p59 : G60 p59 = some (.dK []) := by rw [← e_p59]; exact upd_same
      have s_p59 : Same G58 G60 := by rw [← e_p59]; exact fun b u z => (upd_ne (ne_of_none z np59)).trans z
      clear e_p59
      have S_G60 := S_G58.of_same s_p59
      have x_p59 := S_G58.na np59
      walk_at "rd"
      refine ⟨(by show 7 ≤ sizeLine; decide), fun p61 np61 => ?_⟩
      generalize e_p61 : upd G60 p61 _ = G62
      have f_p61 : G62 p61 = some (.lst [.non, .bl true, .bl false, .str "5", .ref p55, .ref p57, .ref p59]) := by rw [← e_p61]; exact upd_same
      have s_p61 : Same G60 G62 := by rw [← e_p61]; exact fun b u z => (upd_ne (ne_of_none z np61)).trans z
      clear e_p61
      have S_G62 := S_G60.of_same s_p61
      have x_p61 := S_G60.na np61
      walk_at "rd"
      refine ⟨a, c, _, p61, _, rfl, S_G62, by omega, f_p61, x_p61.1, x_p61.2, (by show 0 < 7; decide), (by show 7 < 2 ^ 60; decide), fun v GQ hv S_GQ OQ => ?_⟩
      have f_slQ : GQ sl = some (sideV so st m) := (OQ _ _ ((((s_p55.trans s_p57).trans s_p59).trans s_p61) _ _ f_sl7) x_sl.1 x_sl.2)
      obtain ⟨n, tv, ni, tvO⟩ : ∃ n : String, Th GQ v n ∧ isI n = false ∧ ∀ H9, Oth a c GQ H9 → Th H9 v n := by
        simp only [List.mem_cons, List.not_mem_nil, or_false] at hv
        rcases hv with rfl | rfl | rfl | rfl | rfl | rfl | rfl
        · exact ⟨_, .non, by decide, fun H9 O9 => .non⟩
        · exact ⟨_, .bl _, by decide, fun H9 O9 => .bl _⟩
        · exact ⟨_, .bl _, by decide, fun H9 O9 => .bl _⟩
        · exact ⟨_, .str _, by decide, fun H9 O9 => .str _⟩
        · exact ⟨_, .lst (OQ _ _ (((s_p57.trans s_p59).trans s_p61) _ _ f_p55) x_p55.1 x_p55.2), by decide, fun H9 O9 => .lst (O9 _ _ (OQ _ _ (((s_p57.trans s_p59).trans s_p61) _ _ f_p55) x_p55.1 x_p55.2) x_p55.1 x_p55.2)⟩
        · exact ⟨_, .tup (OQ _ _ ((s_p59.trans s_p61) _ _ f_p57) x_p57.1 x_p57.2), by decide, fun H9 O9 => .tup (O9 _ _ (OQ _ _ ((s_p59.trans s_p61) _ _ f_p57) x_p57.1 x_p57.2) x_p57.1 x_p57.2)⟩
        · exact ⟨_, .dk (OQ _ _ (s_p61 _ _ f_p59) x_p59.1 x_p59.2), by decide, fun H9 O9 => .dk (O9 _ _ (OQ _ _ (s_p61 _ _ f_p59) x_p59.1 x_p59.2) x_p59.1 x_p59.2)⟩
      clear hv OQ
      walk_at "rd"
      refine ⟨by decide, by decide, fun D nD => ?_⟩
      refine lc_range (lo := 0) (n := 3) (fun j H8 => H8 D = some (.lst (([.str "value", .str "value", .str "good"] : List V).take j)) ∧ Same GQ H8) ⟨upd_same, fun b u z => (upd_ne (ne_of_none z nD)).trans z⟩ ?_ ?_
      · rintro j H8 hj ⟨hD, s8⟩
        refine ⟨rfl, ?_⟩
        walk_at "rd"
        refine ⟨(by show 2 ≤ sizeLine; decide), fun N nN => ?_⟩
        generalize e_N : upd H8 N _ = H9
        have f_N : H9 N = some (.lst [.ref sl, .ref sl]) := by rw [← e_N]; exact upd_same
        have s9 : Same H8 H9 := by rw [← e_N]; exact fun b u z => (upd_ne (ne_of_none z nN)).trans z
        clear e_N
        have SS9 : SidesAt H9 N [.ref sl, .ref sl] [⟨so, st, m⟩, ⟨so, st, m⟩] := sidesAt2 f_N (s9 _ _ (s8 _ _ f_slQ)) SP (s9 _ _ (s8 _ _ f_slQ)) SP
        have wd : Word K H9 j (.ref N) v (if j < 2 then "value" else "good") := by
          by_cases z : j < 2
          · rw [if_pos z]
            exact .val rfl (good_of SS9) z (tv.same (s8.trans s9)) ni
          · rw [if_neg z]
            exact .calm rfl SS9 (by omega) (.inl ⟨List.length_filter_le _ _, List.length_filter_le _ _⟩)
        walk_at "rd"
        refine ⟨j, .ref N, v, _, (by rw [Int.zero_add]; rfl), hj, wd, fun H10 s10 => ?_⟩
        refine ⟨_, s10 _ _ (s9 _ _ hD), ?_, ?_, fun b u z => (upd_ne (ne_of_none z nD)).trans ((s8.trans (s9.trans s10)) _ _ z)⟩
        · exact Nat.lt_of_le_of_lt (List.length_take_le' _ _) (by show 3 < sizeLine; decide)
        · rcases (by omega : j = 0 ∨ j = 1 ∨ j = 2) with rfl | rfl | rfl <;> exact upd_same
      rintro H8 ⟨hD, s8⟩
      walk_at "rd"
      refine ⟨(by show 3 ≤ sizeLine; decide), fun r1 nr1 => ?_⟩
      generalize e_r1 : upd H8 r1 _ = H10
      have g1 : H10 r1 = some (.lst [.str "value", .str "value", .str "good"]) := by rw [← e_r1]; exact upd_same
      have w1 : Same H8 H10 := by rw [← e_r1]; exact fun b u z => (upd_ne (ne_of_none z nr1)).trans z
      clear e_r1
      refine ⟨.list [.str "value", .str "value", .str "good"], .list [.str "value", .str "value", .str "good"], .lst (SqL.of (w1 _ _ hD)) (.cons (.str _) (.cons (.str _) (.cons (.str _) .nil))), .lst (SqL.of g1) (.cons (.str _) (.cons (.str _) (.cons (.str _) .nil))), by decide +kernel, by decide +kernel, ?_⟩
      refine ⟨_, rfl, ?_⟩
      refine ite2 (fun z => (not_t z (SeqAt.eqv_refl (.list [.str "value", .str "value", .str "good"]) (by decide +kernel))).elim) (fun _ => ?_)
      have S_H10 := (S_GQ.of_same s8).of_same w1
      walk_at "rd"
      refine ⟨a, c, _, 20, rfl, S_H10, by decide, by omega, fun g H11 gg0 gg1 S_H11 O11 => ?_⟩
      walk_at "rd"
      have gb : g < 10 ^ 20 := gg1
      walk_at "rd"
      refine ⟨(by show 3 ≤ sizeLine; decide), fun r2 nr2 => ?_⟩
      generalize e_r2 : upd H11 r2 _ = H12
      have g2 : H12 r2 = some (.tup [.int 0, .int (2001 + g), .str "up"]) := by rw [← e_r2]; exact upd_same
      have w2 : Same H11 H12 := by rw [← e_r2]; exact fun b u z => (upd_ne (ne_of_none z nr2)).trans z
      clear e_r2
      walk_at "rd"
      refine ⟨(by show 1 ≤ sizeLine; decide), fun r3 nr3 => ?_⟩
      generalize e_r3 : upd H12 r3 _ = H13
      have g3 : H13 r3 = some (.lst [.ref r2]) := by rw [← e_r3]; exact upd_same
      have w3 : Same H12 H13 := by rw [← e_r3]; exact fun b u z => (upd_ne (ne_of_none z nr3)).trans z
      clear e_r3
      walk_at "rd"
      have SG : SideP 0 (2001 + g) "up" := ⟨by decide, by decide, by omega, by show 2001 + g ≤ (10 : Int) ^ 30; omega, .inr (.inl rfl)⟩
      have SS13 : SidesAt H13 r3 [.ref r2] [⟨0, 2001 + g, "up"⟩] := sidesAt1 g3 (w3 _ _ g2) SG
      have O13 : Oth a c GQ H13 := fun b u z na nc => w3 _ _ (w2 _ _ (O11 _ _ (w1 _ _ (s8 _ _ z)) na nc))
      refine ⟨1, .ref r3, v, "value", rfl, by decide, .val rfl (good_of SS13) (by decide) (tvO _ O13) ni, fun H14 s14 => ?_⟩
      walk_at "rd"
      refine ⟨rfl, ?_⟩
      walk_at "rd"
      refine ite2 (fun z => (not_t z (decide_eq_true rfl)).elim) (fun _ => ?_)
      exact ⟨_, _, _, _, _, _, _, _, rfl, by omega, ((S_H11.of_same w2).of_same w3).of_same s14⟩
    · rintro σ H' ⟨x2, x3, x4, x5, x6, x7, x9, t, rfl, ht, S'⟩
      clear S' S0 sm
      walk_at "rd"
      refine ⟨by decide, by decide, fun D nD => ?_⟩
      refine lc_range (lo := 0) (n := 4) (fun j H5 => ∃ ys : List V, H5 D = some (.lst ys) ∧ ys.length = j ∧ Same H' H5 ∧ ∀ (i : Nat), i < j → ∃ p : Addr, ys[i]? = some (V.ref p) ∧ H5 p = some (sideV 0 (10 ^ 30 - (i : Int)) "half_up")) ⟨[], upd_same, rfl, fun b u z => (upd_ne (ne_of_none z nD)).trans z, fun i h => absurd h (Nat.not_lt_zero _)⟩ ?_ ?_
      · rintro j H5 hj ⟨ys, hD, ly, s5, at5⟩
        refine ⟨rfl, ?_⟩
        walk_at "rd"
        refine ⟨⟨by decide, by decide, by decide⟩, ?_⟩
        walk_at "rd"
        refine ⟨(by show 3 ≤ sizeLine; decide), fun zp nzp => ?_⟩
        have ncD : D ≠ zp := ne_of_none hD nzp
        have nd7 : upd H5 zp (.tup [.int 0, .int (10 ^ (30 : Int).toNat - (0 + (j : Int))), .str "half_up"]) D = some (.lst ys) := (upd_ne ncD).trans hD
        have ej : (10 : Int) ^ (30 : Int).toNat - (0 + (j : Int)) = 10 ^ 30 - (j : Int) := by rw [Int.zero_add]; rfl
        refine ⟨_, nd7, ?_, ys ++ [.ref zp], upd_same, ?_, ?_, ?_⟩
        · rw [ly]; exact Nat.lt_of_lt_of_le (by omega : j < 8) (by decide)
        · rw [List.length_append, ly]; rfl
        · intro b u y
          have y5 := s5 _ _ y
          exact (upd_ne (ne_of_none y nD)).trans ((upd_ne (ne_of_none y5 nzp)).trans y5)
        · intro i hi
          by_cases z : i < j
          · obtain ⟨p, e1, e2⟩ := at5 i z
            refine ⟨p, by rw [List.getElem?_append_left (by omega)]; exact e1, ?_⟩
            exact (upd_ne (ne_of e2 hD (by intro y; cases y))).trans ((upd_ne (ne_of_none e2 nzp)).trans e2)
          · obtain rfl : i = j := by omega
            refine ⟨zp, by rw [List.getElem?_append_right (by omega), show i - ys.length = 0 by omega]; rfl, ?_⟩
            refine (upd_ne (Ne.symm ncD)).trans ?_
            rw [← ej]
            exact upd_same
      · rintro H5 ⟨ys, hD, ly, s5, at5⟩
        obtain ⟨q0, e0, h0⟩ := at5 0 (by decide)
        obtain ⟨q1, e1, h1⟩ := at5 1 (by decide)
        obtain ⟨q2, e2, h2⟩ := at5 2 (by decide)
        obtain ⟨q3, e3, h3⟩ := at5 3 (by decide)
        obtain rfl : ys = [.ref q0, .ref q1, .ref q2, .ref q3] := by
          match ys, ly with
          | [a, b, c, d], _ =>
            cases e0; cases e1; cases e2; cases e3
            rfl
        clear e0 e1 e2 e3 at5 ly
        replace h0 : H5 q0 = some (sideV (gr 0).o (gr 0).s (gr 0).m) := h0
        replace h1 : H5 q1 = some (sideV (gr 1).o (gr 1).s (gr 1).m) := h1
        replace h2 : H5 q2 = some (sideV (gr 2).o (gr 2).s (gr 2).m) := h2
        replace h3 : H5 q3 = some (sideV (gr 3).o (gr 3).s (gr 3).m) := h3
        have A0 := gr_side (k := 0) (by decide)
        have A1 := gr_side (k := 1) (by decide)
        have A2 := gr_side (k := 2) (by decide)
        have A3 := gr_side (k := 3) (by decide)
        walk_at "rd"
        refine ⟨⟨by decide, by decide, by decide⟩, ?_⟩
        walk_at "rd"
        refine ⟨(by show 3 ≤ sizeLine; decide), fun t1 nt1 => ?_⟩
        generalize e_t1 : upd H5 t1 _ = H6
        have g1 : H6 t1 = some (.tup [.int 0, .int (10 ^ 30), .str "up"]) := by rw [← e_t1]; exact upd_same
        have w1 : Same H5 H6 := by rw [← e_t1]; exact fun b u z => (upd_ne (ne_of_none z nt1)).trans z
        clear e_t1
        walk_at "rd"
        refine ⟨⟨by decide, by decide, by decide⟩, ?_⟩
        walk_at "rd"
        refine ⟨(by show 3 ≤ sizeLine; decide), fun t2 nt2 => ?_⟩
        generalize e_t2 : upd H6 t2 _ = H7
        have g2 : H7 t2 = some (.tup [.int 0, .int (10 ^ 30 - 1), .str "up"]) := by rw [← e_t2]; exact upd_same
        have w2 : Same H6 H7 := by rw [← e_t2]; exact fun b u z => (upd_ne (ne_of_none z nt2)).trans z
        clear e_t2
        walk_at "rd"
        refine ⟨⟨by decide, by decide, by decide⟩, ?_⟩
        walk_at "rd"
        refine ⟨(by show 3 ≤ sizeLine; decide), fun t3 nt3 => ?_⟩
        generalize e_t3 : upd H7 t3 _ = H8
        have g3 : H8 t3 = some (.tup [.int 0, .int (10 ^ 30 - 3), .str "down"]) := by rw [← e_t3]; exact upd_same
        have w3 : Same H7 H8 := by rw [← e_t3]; exact fun b u z => (upd_ne (ne_of_none z nt3)).trans z
        clear e_t3
        walk_at "rd"
        refine ⟨(by show 3 ≤ sizeLine; decide), fun t4 nt4 => ?_⟩
        generalize e_t4 : upd H8 t4 _ = H9
        have g4 : H9 t4 = some (.lst [.ref t1, .ref t2, .ref t3]) := by rw [← e_t4]; exact upd_same
        have w4 : Same H8 H9 := by rw [← e_t4]; exact fun b u z => (upd_ne (ne_of_none z nt4)).trans z
        clear e_t4
        walk_at "rd"
        have F3 : SidesAt H9 t4 [.ref t1, .ref t2, .ref t3] far3 := sidesAt3 g4 (w4 _ _ (w3 _ _ (w2 _ _ g1))) ⟨by decide, by decide, by decide, by decide, .inr (.inl rfl)⟩ (w4 _ _ (w3 _ _ g2)) ⟨by decide, by decide, by decide, by decide, .inr (.inl rfl)⟩ (w4 _ _ g3) ⟨by decide, by decide, by decide, by decide, .inl rfl⟩
        refine ⟨2, .ref t4, .int 0, "good", rfl, by decide, .calm rfl F3 rfl few_far, fun H10 s10 => ?_⟩
        walk_at "rd"
        refine ⟨rfl, ?_⟩
        walk_at "rd"
        refine ⟨⟨by decide, by decide, by decide⟩, ?_⟩
        have s510 : Same H5 H10 := w1.trans (w2.trans (w3.trans (w4.trans s10)))
        walk_at "rd"
        refine ⟨(by show 2 ≤ sizeLine; decide), fun n1 nn1 => ?_⟩
        generalize e_n1 : upd H10 n1 _ = H11
        have g11 : H11 n1 = some (.tup [.str "half_up", .str "down"]) := by rw [← e_n1]; exact upd_same
        have w11 : Same H10 H11 := by rw [← e_n1]; exact fun b u z => (upd_ne (ne_of_none z nn1)).trans z
        clear e_n1
        walk_at "rd"
        refine ⟨(by show 2 ≤ sizeLine; decide), fun n2 nn2 => ?_⟩
        generalize e_n2 : upd H11 n2 _ = H12
        have g12 : H12 n2 = some (.tup [.str "half_down", .str "up"]) := by rw [← e_n2]; exact upd_same
        have w12 : Same H11 H12 := by rw [← e_n2]; exact fun b u z => (upd_ne (ne_of_none z nn2)).trans z
        clear e_n2
        walk_at "rd"
        refine ⟨(by show 2 ≤ sizeLine; decide), fun n3 nn3 => ?_⟩
        generalize e_n3 : upd H12 n3 _ = H13
        have g13 : H13 n3 = some (.lst [.ref n1, .ref n2]) := by rw [← e_n3]; exact upd_same
        have w13 : Same H12 H13 := by rw [← e_n3]; exact fun b u z => (upd_ne (ne_of_none z nn3)).trans z
        clear e_n3
        walk_at "rd"
        refine ⟨⟨_, SqL.of g13⟩, ?_⟩
        have s513 : Same H5 H13 := s510.trans (w11.trans (w12.trans w13))
        refine for_list (K := K) (a := n3) (xs := [.ref n1, .ref n2]) (fun i2 st H14 => ∃ z13 z14 : Option V, st = [some (.ref l), some (.ref a), x2, x3, x4, x5, x6, x7, none, x9, none, some (.ref D), some (.int (10 ^ 30 - 1)), z13, z14, none, none] ∧ Same H13 H14) ⟨none, none, rfl, Same.refl _⟩ (fun _ _ _ _ ⟨_, _, _, s7⟩ => SqL.of (s7 _ _ g13)) ?_ ?_
        · rintro i2 y st H14 hy ⟨z13, z14, rfl, s14⟩
          obtain ⟨T, near, far, rfl, hT, mn, mf, mp⟩ : ∃ (T : Addr) (near far : Str), y = .ref T ∧ H14 T = some (.tup [.str near, .str far]) ∧ Mode near ∧ Mode far ∧ ManyP [⟨0, 10, near⟩, ⟨5, 10, near⟩, ⟨0, 10 ^ 30 - 1, far⟩] := by
            match i2, hy with
            | 0, hy => cases hy; exact ⟨n1, _, _, rfl, s14 _ _ (w13 _ _ (w12 _ _ g11)), .inr (.inr (.inr (.inl rfl))), .inl rfl, many_near1⟩
            | 1, hy => cases hy; exact ⟨n2, _, _, rfl, s14 _ _ (w13 _ _ g12), .inr (.inr (.inl rfl)), .inr (.inl rfl), many_near2⟩
          walk_at "rd"
          refine ⟨T, _, rfl, SqT.of hT, rfl, _, _, rfl, _, _, rfl, rfl, ?_⟩
          walk_at "rd"
          refine ⟨(by show 3 ≤ sizeLine; decide), fun t1 nt1 => ?_⟩
          generalize e_t1 : upd H14 t1 _ = H15
          have g15 : H15 t1 = some (.tup [.int 0, .int 10, .str near]) := by rw [← e_t1]; exact upd_same
          have w15 : Same H14 H15 := by rw [← e_t1]; exact fun b u z => (upd_ne (ne_of_none z nt1)).trans z
          clear e_t1
          walk_at "rd"
          refine ⟨(by show 3 ≤ sizeLine; decide), fun t2 nt2 => ?_⟩
          generalize e_t2 : upd H15 t2 _ = H16
          have g16 : H16 t2 = some (.tup [.int 5, .int 10, .str near]) := by rw [← e_t2]; exact upd_same
          have w16 : Same H15 H16 := by rw [← e_t2]; exact fun b u z => (upd_ne (ne_of_none z nt2)).trans z
          clear e_t2
          walk_at "rd"
          refine ⟨(by show 3 ≤ sizeLine; decide), fun t3 nt3 => ?_⟩
          generalize e_t3 : upd H16 t3 _ = H17
          have g17 : H17 t3 = some (.tup [.int 0, .int (10 ^ 30 - 1), .str far]) := by rw [← e_t3]; exact upd_same
          have w17 : Same H16 H17 := by rw [← e_t3]; exact fun b u z => (upd_ne (ne_of_none z nt3)).trans z
          clear e_t3
          walk_at "rd"
          refine ⟨(by show 3 ≤ sizeLine; decide), fun t4 nt4 => ?_⟩
          generalize e_t4 : upd H17 t4 _ = H18
          have g18 : H18 t4 = some (.lst [.ref t1, .ref t2, .ref t3]) := by rw [← e_t4]; exact upd_same
          have w18 : Same H17 H18 := by rw [← e_t4]; exact fun b u z => (upd_ne (ne_of_none z nt4)).trans z
          clear e_t4
          walk_at "rd"
          have F4 : SidesAt H18 t4 [.ref t1, .ref t2, .ref t3] [⟨0, 10, near⟩, ⟨5, 10, near⟩, ⟨0, 10 ^ 30 - 1, far⟩] := sidesAt3 g18 (w18 _ _ (w17 _ _ (w16 _ _ g15))) ⟨by decide, by decide, by decide, by decide, mn⟩ (w18 _ _ (w17 _ _ g16)) ⟨by decide, by decide, by decide, by decide, mn⟩ (w18 _ _ g17) ⟨by decide, by decide, by decide, by decide, mf⟩
          refine ⟨2, .ref t4, .int 0, "many", rfl, by decide, .many rfl F4 rfl mp, fun H19 s19 => ?_⟩
          walk_at "rd"
          refine ⟨rfl, ?_⟩
          walk_at "rd"
          exact ⟨_, _, rfl, s14.trans (w15.trans (w16.trans (w17.trans (w18.trans s19))))⟩
        · rintro st H14 ⟨z13, z14, rfl, s14⟩
          have s514 : Same H5 H14 := s513.trans s14
          walk_at "rd"
          refine ⟨_, _, rfl, ⟨by decide, by decide, by decide, by decide⟩, fun D2 nD2 => ?_⟩
          refine lc_range (lo := 1) (n := 4) (fun j H15 => H15 D2 = some (.lst (([.str "good", .str "good", .str "many", .str "many"] : List V).take j)) ∧ Same H14 H15) ⟨upd_same, fun b u z => (upd_ne (ne_of_none z nD2)).trans z⟩ ?_ ?_
          · rintro j H15 hj ⟨hD2, s15⟩
            refine ⟨rfl, ?_⟩
            walk_at "rd"
            have s515 : Same H5 H15 := s514.trans s15
            refine ⟨D, _, rfl, SqL.of (s515 _ _ hD), fun N nN => ?_⟩
            generalize e_N : upd H15 N _ = H16
            have f_N : H16 N = some (.lst (cutV [.ref q0, .ref q1, .ref q2, .ref q3] none (some (1 + (j : Int))))) := by rw [← e_N]; exact upd_same
            have s16 : Same H15 H16 := by rw [← e_N]; exact fun b u z => (upd_ne (ne_of_none z nN)).trans z
            clear e_N
            have s516 := s515.trans s16
            walk_at "rd"
            refine ⟨2, .ref N, .int 0, _, rfl, by decide, word_gr hj f_N (s516 _ _ h0) (s516 _ _ h1) (s516 _ _ h2) (s516 _ _ h3), fun H17 s17 => ?_⟩
            refine ⟨_, s17 _ _ (s16 _ _ hD2), ?_, ?_, fun b u z => (upd_ne (ne_of_none z nD2)).trans ((s15.trans (s16.trans s17)) _ _ z)⟩
            · exact Nat.lt_of_le_of_lt (List.length_take_le' _ _) (by show 4 < sizeLine; decide)
            · rcases (by omega : j = 0 ∨ j = 1 ∨ j = 2 ∨ j = 3) with rfl | rfl | rfl | rfl <;> exact upd_same
          · rintro H15 ⟨hD2, s15⟩
            have s515 : Same H5 H15 := s514.trans s15
            walk_at "rd"
            refine ⟨(by show 4 ≤ sizeLine; decide), fun r1 nr1 => ?_⟩
            generalize e_r1 : upd H15 r1 _ = H16
            have g16 : H16 r1 = some (.lst [.str "good", .str "good", .str "many", .str "many"]) := by rw [← e_r1]; exact upd_same
            have w16 : Same H15 H16 := by rw [← e_r1]; exact fun b u z => (upd_ne (ne_of_none z nr1)).trans z
            clear e_r1
            refine ⟨.list [.str "good", .str "good", .str "many", .str "many"], .list [.str "good", .str "good", .str "many", .str "many"], .lst (SqL.of (w16 _ _ hD2)) (.cons (.str _) (.cons (.str _) (.cons (.str _) (.cons (.str _) .nil)))), .lst (SqL.of g16) (.cons (.str _) (.cons (.str _) (.cons (.str _) (.cons (.str _) .nil)))), by decide +kernel, by decide +kernel, ?_⟩
            rw [SeqAt.eqv_refl (.list [.str "good", .str "good", .str "many", .str "many"]) (by decide +kernel)]
            walk_at "rd"
            refine ⟨⟨by decide, by decide, by decide⟩, ?_⟩
            have s516 := s515.trans w16
            walk_at "rd"
            refine ⟨0, .ref D, .int (10 ^ 60), "good", rfl, by decide, .once rfl (sidesAt4 (s516 _ _ hD) (s516 _ _ h0) A0 (s516 _ _ h1) A1 (s516 _ _ h2) A2 (s516 _ _ h3) A3) rfl rfl (by decide), fun H17 s17 => ?_⟩
            exact ⟨rfl, q H17⟩
end
end HT
namespace HT
open PySem L2
def errB (K : PySem.W.Frag) (C : Addr) : Bool := (PySem.W.clsIn K C).isSome && (decide (PySem.W.findIn K (.ref C) "__getattribute__" = some (some (.builtin "BaseException.__getattribute__"))) && (decide (PySem.W.findIn K (.ref C) "__getattr__" = some none) && (decide (PySem.W.subIn K (.ref C) (.type "BaseException") = some true) &&
  (decide (PySem.W.findIn K (.ref C) "__class__" = some (some (.builtin "object.__class__"))) && decide (PySem.W.mroIn K C (.type "object") = some true)))))
theorem errB_ok {K : PySem.W.Frag} {C : Addr} (h : errB K C = true) : ErrC K C := by
  unfold errB at h
  simp only [Bool.and_eq_true, decide_eq_true_eq] at h
  obtain ⟨a, b, c, d, e, f⟩ := h
  exact ⟨a, b, c, d, e, f⟩
def exB (K : PySem.W.Frag) (C : Addr) : Bool := PySem.W.excIn K C [.type "ValueError", .type "Exception", .type "BaseException", .type "object"] "ValueError.__new__" && PySem.W.keepIn K (.ref C)
def erT (K : PySem.W.Frag) (C : Nat → Addr) (B : Addr) (i : Nat) : Bool := errB K (C i) && (exB K (C i) && (decide (PySem.W.kitOne K (.ref (C i)) (.type "ValueError") = some true) && (decide (PySem.W.subIn K (.ref (C i)) (.type "BaseException") = some true) && (decide (PySem.W.typeIn K (.ref (C i)) = some (.type "type")) && (decide (PySem.W.exmOne K (.ref (C i)) (.ref B) = some true) &&
  (List.range 4).all fun j => decide (PySem.W.kitOne K (.ref (C i)) (.ref (C j)) = some (decide (i = j))))))))
def cAt (l : List Addr) (i : Nat) : Addr := l.getD i 0
theorem all_of {p : Nat → Bool} {n : Nat} (h : (List.range n).all p = true) {i : Nat} (hi : i < n) : p i = true := List.all_eq_true.mp h i (List.mem_range.mpr hi)
theorem all_mk {l : PySem.W.OpenLaw} {w : World} {K : PySem.W.Frag} {h : Heap} {mg : Str → Option Value} {fa aM aR aU c0 c1 c2 c3 cB f_is_int f_is_int_between f_check_value f_check_side f_is_side f_figure f_goes_up f_written f_span f_uspan f_below f_mirror f_form f_first_mode f_check_sides f_period_of f_common_period f_raisers f_raises_some f_highest f_mirrors f_first_hit f_first_between f_unraised f_first_in_block f_first_in_both f_reach f_check_few f_first_unraised f_first_unraised_by_two f_once f_order_matters f_orders f_ends f_calm f_are_calm f_one_more f_L_source f_L_draw f_L_pick f_L_great f_L_side f_L_word f_law : Addr} (X : K.In h) (G : h.Ns mainGlobals mg) (hfa : mg "law" = some (.ref fa))
    {odM odU od_is_int an_is_int od_is_int_between an_is_int_between od_check_value an_check_value od_check_side an_check_side od_is_side an_is_side od_figure an_figure od_goes_up an_goes_up od_written an_written od_span an_span od_uspan an_uspan od_below an_below od_mirror an_mirror od_form an_form od_first_mode an_first_mode od_check_sides an_check_sides od_period_of an_period_of od_common_period an_common_period od_raisers an_raisers od_raises_some an_raises_some od_highest an_highest od_mirrors an_mirrors od_first_hit an_first_hit od_first_between an_first_between od_unraised an_unraised od_first_in_block an_first_in_block od_first_in_both an_first_in_both od_reach an_reach od_check_few an_check_few od_first_unraised an_first_unraised od_first_unraised_by_two an_first_unraised_by_two od_once an_once od_order_matters an_order_matters od_orders an_orders od_ends an_ends od_calm an_calm od_are_calm an_are_calm od_one_more an_one_more od_L_source an_L_source od_L_draw an_L_draw od_L_pick an_L_pick od_L_great an_L_great od_L_side an_L_side od_L_word an_L_word od_law an_law : Option Addr} {slM slU sl_is_int sl_is_int_between sl_check_value sl_check_side sl_is_side sl_figure sl_goes_up sl_written sl_span sl_uspan sl_below sl_mirror sl_form sl_first_mode sl_check_sides sl_period_of sl_common_period sl_raisers sl_raises_some sl_highest sl_mirrors sl_first_hit sl_first_between sl_unraised sl_first_in_block sl_first_in_both sl_reach sl_check_few sl_first_unraised sl_first_unraised_by_two sl_once sl_order_matters sl_orders sl_ends sl_calm sl_are_calm sl_one_more sl_L_source sl_L_draw sl_L_pick sl_L_great sl_L_side sl_L_word sl_law : Array (Option Value)} {nM nR nU : Nat} {itsM itsU : Array Value} {esR : Array DictEntry} {tMS tMP : Tok} {u_down u_up u_half_down u_half_up u_half_even oc_is_int kV_is_int dc_is_int pm_is_int cd_is_int ct_is_int oc_is_int_between kV_is_int_between dc_is_int_between pm_is_int_between cd_is_int_between ct_is_int_between oc_check_value kV_check_value dc_check_value pm_check_value cd_check_value ct_check_value oc_check_side kV_check_side dc_check_side pm_check_side cd_check_side ct_check_side oc_is_side kV_is_side dc_is_side pm_is_side cd_is_side ct_is_side oc_figure kV_figure dc_figure pm_figure cd_figure ct_figure oc_goes_up kV_goes_up dc_goes_up pm_goes_up cd_goes_up ct_goes_up oc_written kV_written dc_written pm_written cd_written ct_written oc_span kV_span dc_span pm_span cd_span ct_span oc_uspan kV_uspan dc_uspan pm_uspan cd_uspan ct_uspan oc_below kV_below dc_below pm_below cd_below ct_below oc_mirror kV_mirror dc_mirror pm_mirror cd_mirror ct_mirror oc_form kV_form dc_form pm_form cd_form ct_form oc_first_mode kV_first_mode dc_first_mode pm_first_mode cd_first_mode ct_first_mode oc_check_sides kV_check_sides dc_check_sides pm_check_sides cd_check_sides ct_check_sides oc_period_of kV_period_of dc_period_of pm_period_of cd_period_of ct_period_of oc_common_period kV_common_period dc_common_period pm_common_period cd_common_period ct_common_period oc_raisers kV_raisers dc_raisers pm_raisers cd_raisers ct_raisers oc_raises_some kV_raises_some dc_raises_some pm_raises_some cd_raises_some ct_raises_some oc_highest kV_highest dc_highest pm_highest cd_highest ct_highest oc_mirrors kV_mirrors dc_mirrors pm_mirrors cd_mirrors ct_mirrors oc_first_hit kV_first_hit dc_first_hit pm_first_hit cd_first_hit ct_first_hit oc_first_between kV_first_between dc_first_between pm_first_between cd_first_between ct_first_between oc_unraised kV_unraised dc_unraised pm_unraised cd_unraised ct_unraised oc_first_in_block kV_first_in_block dc_first_in_block pm_first_in_block cd_first_in_block ct_first_in_block oc_first_in_both kV_first_in_both dc_first_in_both pm_first_in_both cd_first_in_both ct_first_in_both oc_reach kV_reach dc_reach pm_reach cd_reach ct_reach oc_check_few kV_check_few dc_check_few pm_check_few cd_check_few ct_check_few oc_first_unraised kV_first_unraised dc_first_unraised pm_first_unraised cd_first_unraised ct_first_unraised oc_first_unraised_by_two kV_first_unraised_by_two dc_first_unraised_by_two pm_first_unraised_by_two cd_first_unraised_by_two ct_first_unraised_by_two oc_once kV_once dc_once pm_once cd_once ct_once oc_order_matters kV_order_matters dc_order_matters pm_order_matters cd_order_matters ct_order_matters oc_orders kV_orders dc_orders pm_orders cd_orders ct_orders oc_ends kV_ends dc_ends pm_ends cd_ends ct_ends oc_calm kV_calm dc_calm pm_calm cd_calm ct_calm oc_are_calm kV_are_calm dc_are_calm pm_are_calm cd_are_calm ct_are_calm oc_one_more kV_one_more dc_one_more pm_one_more cd_one_more ct_one_more oc_L_source kV_L_source dc_L_source pm_L_source cd_L_source ct_L_source oc_L_draw kV_L_draw dc_L_draw pm_L_draw cd_L_draw ct_L_draw oc_L_pick kV_L_pick dc_L_pick pm_L_pick cd_L_pick ct_L_pick oc_L_great kV_L_great dc_L_great pm_L_great cd_L_great ct_L_great oc_L_side kV_L_side dc_L_side pm_L_side cd_L_side ct_L_side oc_L_word kV_L_word dc_L_word pm_L_word cd_L_word ct_L_word oc_law kV_law dc_law pm_law cd_law ct_law : Value}
    (a_is_int : PySem.W.nsIn K mainGlobals "is_int" = some (some (.ref f_is_int)))
    (l_is_int : K.lookup f_is_int = some ⟨oc_is_int, od_is_int, .func (PySem.W.fnOf "is_int" "is_int" (defArgs s_is_int) (defBody s_is_int) (defScope s_is_int) .none kV_is_int dc_is_int pm_is_int an_is_int cd_is_int ct_is_int), sl_is_int⟩)
    (c_is_int : PySem.W.codeIn K cd_is_int "is_int" = true) (k_is_int : PySem.W.keepIn K (.ref f_is_int) = true)
    (a_is_int_between : PySem.W.nsIn K mainGlobals "is_int_between" = some (some (.ref f_is_int_between)))
    (l_is_int_between : K.lookup f_is_int_between = some ⟨oc_is_int_between, od_is_int_between, .func (PySem.W.fnOf "is_int_between" "is_int_between" (defArgs s_is_int_between) (defBody s_is_int_between) (defScope s_is_int_between) .none kV_is_int_between dc_is_int_between pm_is_int_between an_is_int_between cd_is_int_between ct_is_int_between), sl_is_int_between⟩)
    (c_is_int_between : PySem.W.codeIn K cd_is_int_between "is_int_between" = true) (k_is_int_between : PySem.W.keepIn K (.ref f_is_int_between) = true)
    (a_check_value : PySem.W.nsIn K mainGlobals "check_value" = some (some (.ref f_check_value)))
    (l_check_value : K.lookup f_check_value = some ⟨oc_check_value, od_check_value, .func (PySem.W.fnOf "check_value" "check_value" (defArgs s_check_value) (defBody s_check_value) (defScope s_check_value) .none kV_check_value dc_check_value pm_check_value an_check_value cd_check_value ct_check_value), sl_check_value⟩)
    (c_check_value : PySem.W.codeIn K cd_check_value "check_value" = true) (k_check_value : PySem.W.keepIn K (.ref f_check_value) = true)
    (a_check_side : PySem.W.nsIn K mainGlobals "check_side" = some (some (.ref f_check_side)))
    (l_check_side : K.lookup f_check_side = some ⟨oc_check_side, od_check_side, .func (PySem.W.fnOf "check_side" "check_side" (defArgs s_check_side) (defBody s_check_side) (defScope s_check_side) .none kV_check_side dc_check_side pm_check_side an_check_side cd_check_side ct_check_side), sl_check_side⟩)
    (c_check_side : PySem.W.codeIn K cd_check_side "check_side" = true) (k_check_side : PySem.W.keepIn K (.ref f_check_side) = true)
    (a_is_side : PySem.W.nsIn K mainGlobals "is_side" = some (some (.ref f_is_side)))
    (l_is_side : K.lookup f_is_side = some ⟨oc_is_side, od_is_side, .func (PySem.W.fnOf "is_side" "is_side" (defArgs s_is_side) (defBody s_is_side) (defScope s_is_side) .none kV_is_side dc_is_side pm_is_side an_is_side cd_is_side ct_is_side), sl_is_side⟩)
    (c_is_side : PySem.W.codeIn K cd_is_side "is_side" = true) (k_is_side : PySem.W.keepIn K (.ref f_is_side) = true)
    (a_figure : PySem.W.nsIn K mainGlobals "_figure" = some (some (.ref f_figure)))
    (l_figure : K.lookup f_figure = some ⟨oc_figure, od_figure, .func (PySem.W.fnOf "_figure" "_figure" (defArgs s_figure) (defBody s_figure) (defScope s_figure) .none kV_figure dc_figure pm_figure an_figure cd_figure ct_figure), sl_figure⟩)
    (c_figure : PySem.W.codeIn K cd_figure "_figure" = true) (k_figure : PySem.W.keepIn K (.ref f_figure) = true)
    (a_goes_up : PySem.W.nsIn K mainGlobals "_goes_up" = some (some (.ref f_goes_up)))
    (l_goes_up : K.lookup f_goes_up = some ⟨oc_goes_up, od_goes_up, .func (PySem.W.fnOf "_goes_up" "_goes_up" (defArgs s_goes_up) (defBody s_goes_up) (defScope s_goes_up) .none kV_goes_up dc_goes_up pm_goes_up an_goes_up cd_goes_up ct_goes_up), sl_goes_up⟩)
    (c_goes_up : PySem.W.codeIn K cd_goes_up "_goes_up" = true) (k_goes_up : PySem.W.keepIn K (.ref f_goes_up) = true)
    (a_written : PySem.W.nsIn K mainGlobals "written" = some (some (.ref f_written)))
    (l_written : K.lookup f_written = some ⟨oc_written, od_written, .func (PySem.W.fnOf "written" "written" (defArgs s_written) (defBody s_written) (defScope s_written) .none kV_written dc_written pm_written an_written cd_written ct_written), sl_written⟩)
    (c_written : PySem.W.codeIn K cd_written "written" = true) (k_written : PySem.W.keepIn K (.ref f_written) = true)
    (a_span : PySem.W.nsIn K mainGlobals "span" = some (some (.ref f_span)))
    (l_span : K.lookup f_span = some ⟨oc_span, od_span, .func (PySem.W.fnOf "span" "span" (defArgs s_span) (defBody s_span) (defScope s_span) .none kV_span dc_span pm_span an_span cd_span ct_span), sl_span⟩)
    (c_span : PySem.W.codeIn K cd_span "span" = true) (k_span : PySem.W.keepIn K (.ref f_span) = true)
    (a_uspan : PySem.W.nsIn K mainGlobals "_span" = some (some (.ref f_uspan)))
    (l_uspan : K.lookup f_uspan = some ⟨oc_uspan, od_uspan, .func (PySem.W.fnOf "_span" "_span" (defArgs s_uspan) (defBody s_uspan) (defScope s_uspan) .none kV_uspan dc_uspan pm_uspan an_uspan cd_uspan ct_uspan), sl_uspan⟩)
    (c_uspan : PySem.W.codeIn K cd_uspan "_span" = true) (k_uspan : PySem.W.keepIn K (.ref f_uspan) = true)
    (a_below : PySem.W.nsIn K mainGlobals "_below" = some (some (.ref f_below)))
    (l_below : K.lookup f_below = some ⟨oc_below, od_below, .func (PySem.W.fnOf "_below" "_below" (defArgs s_below) (defBody s_below) (defScope s_below) .none kV_below dc_below pm_below an_below cd_below ct_below), sl_below⟩)
    (c_below : PySem.W.codeIn K cd_below "_below" = true) (k_below : PySem.W.keepIn K (.ref f_below) = true)
    (a_mirror : PySem.W.nsIn K mainGlobals "mirror" = some (some (.ref f_mirror)))
    (l_mirror : K.lookup f_mirror = some ⟨oc_mirror, od_mirror, .func (PySem.W.fnOf "mirror" "mirror" (defArgs s_mirror) (defBody s_mirror) (defScope s_mirror) .none kV_mirror dc_mirror pm_mirror an_mirror cd_mirror ct_mirror), sl_mirror⟩)
    (c_mirror : PySem.W.codeIn K cd_mirror "mirror" = true) (k_mirror : PySem.W.keepIn K (.ref f_mirror) = true)
    (a_form : PySem.W.nsIn K mainGlobals "form" = some (some (.ref f_form)))
    (l_form : K.lookup f_form = some ⟨oc_form, od_form, .func (PySem.W.fnOf "form" "form" (defArgs s_form) (defBody s_form) (defScope s_form) .none kV_form dc_form pm_form an_form cd_form ct_form), sl_form⟩)
    (c_form : PySem.W.codeIn K cd_form "form" = true) (k_form : PySem.W.keepIn K (.ref f_form) = true)
    (a_first_mode : PySem.W.nsIn K mainGlobals "_first_mode" = some (some (.ref f_first_mode)))
    (l_first_mode : K.lookup f_first_mode = some ⟨oc_first_mode, od_first_mode, .func (PySem.W.fnOf "_first_mode" "_first_mode" (defArgs s_first_mode) (defBody s_first_mode) (defScope s_first_mode) .none kV_first_mode dc_first_mode pm_first_mode an_first_mode cd_first_mode ct_first_mode), sl_first_mode⟩)
    (c_first_mode : PySem.W.codeIn K cd_first_mode "_first_mode" = true) (k_first_mode : PySem.W.keepIn K (.ref f_first_mode) = true)
    (a_check_sides : PySem.W.nsIn K mainGlobals "check_sides" = some (some (.ref f_check_sides)))
    (l_check_sides : K.lookup f_check_sides = some ⟨oc_check_sides, od_check_sides, .func (PySem.W.fnOf "check_sides" "check_sides" (defArgs s_check_sides) (defBody s_check_sides) (defScope s_check_sides) .none kV_check_sides dc_check_sides pm_check_sides an_check_sides cd_check_sides ct_check_sides), sl_check_sides⟩)
    (c_check_sides : PySem.W.codeIn K cd_check_sides "check_sides" = true) (k_check_sides : PySem.W.keepIn K (.ref f_check_sides) = true)
    (a_period_of : PySem.W.nsIn K mainGlobals "period_of" = some (some (.ref f_period_of)))
    (l_period_of : K.lookup f_period_of = some ⟨oc_period_of, od_period_of, .func (PySem.W.fnOf "period_of" "period_of" (defArgs s_period_of) (defBody s_period_of) (defScope s_period_of) .none kV_period_of dc_period_of pm_period_of an_period_of cd_period_of ct_period_of), sl_period_of⟩)
    (c_period_of : PySem.W.codeIn K cd_period_of "period_of" = true) (k_period_of : PySem.W.keepIn K (.ref f_period_of) = true)
    (a_common_period : PySem.W.nsIn K mainGlobals "common_period" = some (some (.ref f_common_period)))
    (l_common_period : K.lookup f_common_period = some ⟨oc_common_period, od_common_period, .func (PySem.W.fnOf "common_period" "common_period" (defArgs s_common_period) (defBody s_common_period) (defScope s_common_period) .none kV_common_period dc_common_period pm_common_period an_common_period cd_common_period ct_common_period), sl_common_period⟩)
    (c_common_period : PySem.W.codeIn K cd_common_period "common_period" = true) (k_common_period : PySem.W.keepIn K (.ref f_common_period) = true)
    (a_raisers : PySem.W.nsIn K mainGlobals "raisers" = some (some (.ref f_raisers)))
    (l_raisers : K.lookup f_raisers = some ⟨oc_raisers, od_raisers, .func (PySem.W.fnOf "raisers" "raisers" (defArgs s_raisers) (defBody s_raisers) (defScope s_raisers) .none kV_raisers dc_raisers pm_raisers an_raisers cd_raisers ct_raisers), sl_raisers⟩)
    (c_raisers : PySem.W.codeIn K cd_raisers "raisers" = true) (k_raisers : PySem.W.keepIn K (.ref f_raisers) = true)
    (a_raises_some : PySem.W.nsIn K mainGlobals "_raises_some" = some (some (.ref f_raises_some)))
    (l_raises_some : K.lookup f_raises_some = some ⟨oc_raises_some, od_raises_some, .func (PySem.W.fnOf "_raises_some" "_raises_some" (defArgs s_raises_some) (defBody s_raises_some) (defScope s_raises_some) .none kV_raises_some dc_raises_some pm_raises_some an_raises_some cd_raises_some ct_raises_some), sl_raises_some⟩)
    (c_raises_some : PySem.W.codeIn K cd_raises_some "_raises_some" = true) (k_raises_some : PySem.W.keepIn K (.ref f_raises_some) = true)
    (a_highest : PySem.W.nsIn K mainGlobals "highest" = some (some (.ref f_highest)))
    (l_highest : K.lookup f_highest = some ⟨oc_highest, od_highest, .func (PySem.W.fnOf "highest" "highest" (defArgs s_highest) (defBody s_highest) (defScope s_highest) .none kV_highest dc_highest pm_highest an_highest cd_highest ct_highest), sl_highest⟩)
    (c_highest : PySem.W.codeIn K cd_highest "highest" = true) (k_highest : PySem.W.keepIn K (.ref f_highest) = true)
    (a_mirrors : PySem.W.nsIn K mainGlobals "mirrors" = some (some (.ref f_mirrors)))
    (l_mirrors : K.lookup f_mirrors = some ⟨oc_mirrors, od_mirrors, .func (PySem.W.fnOf "mirrors" "mirrors" (defArgs s_mirrors) (defBody s_mirrors) (defScope s_mirrors) .none kV_mirrors dc_mirrors pm_mirrors an_mirrors cd_mirrors ct_mirrors), sl_mirrors⟩)
    (c_mirrors : PySem.W.codeIn K cd_mirrors "mirrors" = true) (k_mirrors : PySem.W.keepIn K (.ref f_mirrors) = true)
    (a_first_hit : PySem.W.nsIn K mainGlobals "first_hit" = some (some (.ref f_first_hit)))
    (l_first_hit : K.lookup f_first_hit = some ⟨oc_first_hit, od_first_hit, .func (PySem.W.fnOf "first_hit" "first_hit" (defArgs s_first_hit) (defBody s_first_hit) (defScope s_first_hit) .none kV_first_hit dc_first_hit pm_first_hit an_first_hit cd_first_hit ct_first_hit), sl_first_hit⟩)
    (c_first_hit : PySem.W.codeIn K cd_first_hit "first_hit" = true) (k_first_hit : PySem.W.keepIn K (.ref f_first_hit) = true)
    (a_first_between : PySem.W.nsIn K mainGlobals "_first_between" = some (some (.ref f_first_between)))
    (l_first_between : K.lookup f_first_between = some ⟨oc_first_between, od_first_between, .func (PySem.W.fnOf "_first_between" "_first_between" (defArgs s_first_between) (defBody s_first_between) (defScope s_first_between) .none kV_first_between dc_first_between pm_first_between an_first_between cd_first_between ct_first_between), sl_first_between⟩)
    (c_first_between : PySem.W.codeIn K cd_first_between "_first_between" = true) (k_first_between : PySem.W.keepIn K (.ref f_first_between) = true)
    (a_unraised : PySem.W.nsIn K mainGlobals "unraised" = some (some (.ref f_unraised)))
    (l_unraised : K.lookup f_unraised = some ⟨oc_unraised, od_unraised, .func (PySem.W.fnOf "unraised" "unraised" (defArgs s_unraised) (defBody s_unraised) (defScope s_unraised) (.ref aU) kV_unraised dc_unraised pm_unraised an_unraised cd_unraised ct_unraised), sl_unraised⟩)
    (c_unraised : PySem.W.codeIn K cd_unraised "unraised" = true) (k_unraised : PySem.W.keepIn K (.ref f_unraised) = true)
    (a_first_in_block : PySem.W.nsIn K mainGlobals "first_in_block" = some (some (.ref f_first_in_block)))
    (l_first_in_block : K.lookup f_first_in_block = some ⟨oc_first_in_block, od_first_in_block, .func (PySem.W.fnOf "first_in_block" "first_in_block" (defArgs s_first_in_block) (defBody s_first_in_block) (defScope s_first_in_block) .none kV_first_in_block dc_first_in_block pm_first_in_block an_first_in_block cd_first_in_block ct_first_in_block), sl_first_in_block⟩)
    (c_first_in_block : PySem.W.codeIn K cd_first_in_block "first_in_block" = true) (k_first_in_block : PySem.W.keepIn K (.ref f_first_in_block) = true)
    (a_first_in_both : PySem.W.nsIn K mainGlobals "first_in_both" = some (some (.ref f_first_in_both)))
    (l_first_in_both : K.lookup f_first_in_both = some ⟨oc_first_in_both, od_first_in_both, .func (PySem.W.fnOf "first_in_both" "first_in_both" (defArgs s_first_in_both) (defBody s_first_in_both) (defScope s_first_in_both) .none kV_first_in_both dc_first_in_both pm_first_in_both an_first_in_both cd_first_in_both ct_first_in_both), sl_first_in_both⟩)
    (c_first_in_both : PySem.W.codeIn K cd_first_in_both "first_in_both" = true) (k_first_in_both : PySem.W.keepIn K (.ref f_first_in_both) = true)
    (a_reach : PySem.W.nsIn K mainGlobals "reach" = some (some (.ref f_reach)))
    (l_reach : K.lookup f_reach = some ⟨oc_reach, od_reach, .func (PySem.W.fnOf "reach" "reach" (defArgs s_reach) (defBody s_reach) (defScope s_reach) .none kV_reach dc_reach pm_reach an_reach cd_reach ct_reach), sl_reach⟩)
    (c_reach : PySem.W.codeIn K cd_reach "reach" = true) (k_reach : PySem.W.keepIn K (.ref f_reach) = true)
    (a_check_few : PySem.W.nsIn K mainGlobals "_check_few" = some (some (.ref f_check_few)))
    (l_check_few : K.lookup f_check_few = some ⟨oc_check_few, od_check_few, .func (PySem.W.fnOf "_check_few" "_check_few" (defArgs s_check_few) (defBody s_check_few) (defScope s_check_few) .none kV_check_few dc_check_few pm_check_few an_check_few cd_check_few ct_check_few), sl_check_few⟩)
    (c_check_few : PySem.W.codeIn K cd_check_few "_check_few" = true) (k_check_few : PySem.W.keepIn K (.ref f_check_few) = true)
    (a_first_unraised : PySem.W.nsIn K mainGlobals "_first_unraised" = some (some (.ref f_first_unraised)))
    (l_first_unraised : K.lookup f_first_unraised = some ⟨oc_first_unraised, od_first_unraised, .func (PySem.W.fnOf "_first_unraised" "_first_unraised" (defArgs s_first_unraised) (defBody s_first_unraised) (defScope s_first_unraised) .none kV_first_unraised dc_first_unraised pm_first_unraised an_first_unraised cd_first_unraised ct_first_unraised), sl_first_unraised⟩)
    (c_first_unraised : PySem.W.codeIn K cd_first_unraised "_first_unraised" = true) (k_first_unraised : PySem.W.keepIn K (.ref f_first_unraised) = true)
    (a_first_unraised_by_two : PySem.W.nsIn K mainGlobals "_first_unraised_by_two" = some (some (.ref f_first_unraised_by_two)))
    (l_first_unraised_by_two : K.lookup f_first_unraised_by_two = some ⟨oc_first_unraised_by_two, od_first_unraised_by_two, .func (PySem.W.fnOf "_first_unraised_by_two" "_first_unraised_by_two" (defArgs s_first_unraised_by_two) (defBody s_first_unraised_by_two) (defScope s_first_unraised_by_two) .none kV_first_unraised_by_two dc_first_unraised_by_two pm_first_unraised_by_two an_first_unraised_by_two cd_first_unraised_by_two ct_first_unraised_by_two), sl_first_unraised_by_two⟩)
    (c_first_unraised_by_two : PySem.W.codeIn K cd_first_unraised_by_two "_first_unraised_by_two" = true) (k_first_unraised_by_two : PySem.W.keepIn K (.ref f_first_unraised_by_two) = true)
    (a_once : PySem.W.nsIn K mainGlobals "once" = some (some (.ref f_once)))
    (l_once : K.lookup f_once = some ⟨oc_once, od_once, .func (PySem.W.fnOf "once" "once" (defArgs s_once) (defBody s_once) (defScope s_once) .none kV_once dc_once pm_once an_once cd_once ct_once), sl_once⟩)
    (c_once : PySem.W.codeIn K cd_once "once" = true) (k_once : PySem.W.keepIn K (.ref f_once) = true)
    (a_order_matters : PySem.W.nsIn K mainGlobals "order_matters" = some (some (.ref f_order_matters)))
    (l_order_matters : K.lookup f_order_matters = some ⟨oc_order_matters, od_order_matters, .func (PySem.W.fnOf "order_matters" "order_matters" (defArgs s_order_matters) (defBody s_order_matters) (defScope s_order_matters) .none kV_order_matters dc_order_matters pm_order_matters an_order_matters cd_order_matters ct_order_matters), sl_order_matters⟩)
    (c_order_matters : PySem.W.codeIn K cd_order_matters "order_matters" = true) (k_order_matters : PySem.W.keepIn K (.ref f_order_matters) = true)
    (a_orders : PySem.W.nsIn K mainGlobals "_orders" = some (some (.ref f_orders)))
    (l_orders : K.lookup f_orders = some ⟨oc_orders, od_orders, .func (PySem.W.fnOf "_orders" "_orders" (defArgs s_orders) (defBody s_orders) (defScope s_orders) .none kV_orders dc_orders pm_orders an_orders cd_orders ct_orders), sl_orders⟩)
    (c_orders : PySem.W.codeIn K cd_orders "_orders" = true) (k_orders : PySem.W.keepIn K (.ref f_orders) = true)
    (a_ends : PySem.W.nsIn K mainGlobals "_ends" = some (some (.ref f_ends)))
    (l_ends : K.lookup f_ends = some ⟨oc_ends, od_ends, .func (PySem.W.fnOf "_ends" "_ends" (defArgs s_ends) (defBody s_ends) (defScope s_ends) .none kV_ends dc_ends pm_ends an_ends cd_ends ct_ends), sl_ends⟩)
    (c_ends : PySem.W.codeIn K cd_ends "_ends" = true) (k_ends : PySem.W.keepIn K (.ref f_ends) = true)
    (a_calm : PySem.W.nsIn K mainGlobals "calm" = some (some (.ref f_calm)))
    (l_calm : K.lookup f_calm = some ⟨oc_calm, od_calm, .func (PySem.W.fnOf "calm" "calm" (defArgs s_calm) (defBody s_calm) (defScope s_calm) .none kV_calm dc_calm pm_calm an_calm cd_calm ct_calm), sl_calm⟩)
    (c_calm : PySem.W.codeIn K cd_calm "calm" = true) (k_calm : PySem.W.keepIn K (.ref f_calm) = true)
    (a_are_calm : PySem.W.nsIn K mainGlobals "_are_calm" = some (some (.ref f_are_calm)))
    (l_are_calm : K.lookup f_are_calm = some ⟨oc_are_calm, od_are_calm, .func (PySem.W.fnOf "_are_calm" "_are_calm" (defArgs s_are_calm) (defBody s_are_calm) (defScope s_are_calm) .none kV_are_calm dc_are_calm pm_are_calm an_are_calm cd_are_calm ct_are_calm), sl_are_calm⟩)
    (c_are_calm : PySem.W.codeIn K cd_are_calm "_are_calm" = true) (k_are_calm : PySem.W.keepIn K (.ref f_are_calm) = true)
    (a_one_more : PySem.W.nsIn K mainGlobals "_one_more" = some (some (.ref f_one_more)))
    (l_one_more : K.lookup f_one_more = some ⟨oc_one_more, od_one_more, .func (PySem.W.fnOf "_one_more" "_one_more" (defArgs s_one_more) (defBody s_one_more) (defScope s_one_more) .none kV_one_more dc_one_more pm_one_more an_one_more cd_one_more ct_one_more), sl_one_more⟩)
    (c_one_more : PySem.W.codeIn K cd_one_more "_one_more" = true) (k_one_more : PySem.W.keepIn K (.ref f_one_more) = true)
    (a_L_source : PySem.W.nsIn K mainGlobals "_law_source" = some (some (.ref f_L_source)))
    (l_L_source : K.lookup f_L_source = some ⟨oc_L_source, od_L_source, .func (PySem.W.fnOf "_law_source" "_law_source" (defArgs s_L_source) (defBody s_L_source) (defScope s_L_source) .none kV_L_source dc_L_source pm_L_source an_L_source cd_L_source ct_L_source), sl_L_source⟩)
    (c_L_source : PySem.W.codeIn K cd_L_source "_law_source" = true) (k_L_source : PySem.W.keepIn K (.ref f_L_source) = true)
    (a_L_draw : PySem.W.nsIn K mainGlobals "_law_draw" = some (some (.ref f_L_draw)))
    (l_L_draw : K.lookup f_L_draw = some ⟨oc_L_draw, od_L_draw, .func (PySem.W.fnOf "_law_draw" "_law_draw" (defArgs s_L_draw) (defBody s_L_draw) (defScope s_L_draw) .none kV_L_draw dc_L_draw pm_L_draw an_L_draw cd_L_draw ct_L_draw), sl_L_draw⟩)
    (c_L_draw : PySem.W.codeIn K cd_L_draw "_law_draw" = true) (k_L_draw : PySem.W.keepIn K (.ref f_L_draw) = true)
    (a_L_pick : PySem.W.nsIn K mainGlobals "_law_pick" = some (some (.ref f_L_pick)))
    (l_L_pick : K.lookup f_L_pick = some ⟨oc_L_pick, od_L_pick, .func (PySem.W.fnOf "_law_pick" "_law_pick" (defArgs s_L_pick) (defBody s_L_pick) (defScope s_L_pick) .none kV_L_pick dc_L_pick pm_L_pick an_L_pick cd_L_pick ct_L_pick), sl_L_pick⟩)
    (c_L_pick : PySem.W.codeIn K cd_L_pick "_law_pick" = true) (k_L_pick : PySem.W.keepIn K (.ref f_L_pick) = true)
    (a_L_great : PySem.W.nsIn K mainGlobals "_law_great" = some (some (.ref f_L_great)))
    (l_L_great : K.lookup f_L_great = some ⟨oc_L_great, od_L_great, .func (PySem.W.fnOf "_law_great" "_law_great" (defArgs s_L_great) (defBody s_L_great) (defScope s_L_great) .none kV_L_great dc_L_great pm_L_great an_L_great cd_L_great ct_L_great), sl_L_great⟩)
    (c_L_great : PySem.W.codeIn K cd_L_great "_law_great" = true) (k_L_great : PySem.W.keepIn K (.ref f_L_great) = true)
    (a_L_side : PySem.W.nsIn K mainGlobals "_law_side" = some (some (.ref f_L_side)))
    (l_L_side : K.lookup f_L_side = some ⟨oc_L_side, od_L_side, .func (PySem.W.fnOf "_law_side" "_law_side" (defArgs s_L_side) (defBody s_L_side) (defScope s_L_side) .none kV_L_side dc_L_side pm_L_side an_L_side cd_L_side ct_L_side), sl_L_side⟩)
    (c_L_side : PySem.W.codeIn K cd_L_side "_law_side" = true) (k_L_side : PySem.W.keepIn K (.ref f_L_side) = true)
    (a_L_word : PySem.W.nsIn K mainGlobals "_law_word" = some (some (.ref f_L_word)))
    (l_L_word : K.lookup f_L_word = some ⟨oc_L_word, od_L_word, .func (PySem.W.fnOf "_law_word" "_law_word" (defArgs s_L_word) (defBody s_L_word) (defScope s_L_word) .none kV_L_word dc_L_word pm_L_word an_L_word cd_L_word ct_L_word), sl_L_word⟩)
    (c_L_word : PySem.W.codeIn K cd_L_word "_law_word" = true) (k_L_word : PySem.W.keepIn K (.ref f_L_word) = true)
    (a_law : PySem.W.nsIn K mainGlobals "law" = some (some (.ref f_law)))
    (l_law : K.lookup f_law = some ⟨oc_law, od_law, .func (PySem.W.fnOf "law" "law" (defArgs s_law) (defBody s_law) (defScope s_law) .none kV_law dc_law pm_law an_law cd_law ct_law), sl_law⟩)
    (c_law : PySem.W.codeIn K cd_law "law" = true) (k_law : PySem.W.keepIn K (.ref f_law) = true)
    (z_len : PySem.W.nsIn K mainGlobals "len" = some none)
    (z_abs : PySem.W.nsIn K mainGlobals "abs" = some none)
    (z_int : PySem.W.nsIn K mainGlobals "int" = some none)
    (z_range : PySem.W.nsIn K mainGlobals "range" = some none)
    (z_isinstance : PySem.W.nsIn K mainGlobals "isinstance" = some none)
    (z_bool : PySem.W.nsIn K mainGlobals "bool" = some none)
    (z_tuple : PySem.W.nsIn K mainGlobals "tuple" = some none)
    (z_divmod : PySem.W.nsIn K mainGlobals "divmod" = some none)
    (z_max : PySem.W.nsIn K mainGlobals "max" = some none)
    (z_min : PySem.W.nsIn K mainGlobals "min" = some none)
    (z_list : PySem.W.nsIn K mainGlobals "list" = some none)
    (z_sorted : PySem.W.nsIn K mainGlobals "sorted" = some none)
    (z_enumerate : PySem.W.nsIn K mainGlobals "enumerate" = some none)
    (z_ValueError : PySem.W.nsIn K mainGlobals "ValueError" = some none)
    (g_0 : PySem.W.nsIn K mainGlobals "InvalidSide" = some (some (.ref c0)))
    (g_1 : PySem.W.nsIn K mainGlobals "InvalidSides" = some (some (.ref c1)))
    (g_2 : PySem.W.nsIn K mainGlobals "TooMany" = some (some (.ref c2)))
    (g_3 : PySem.W.nsIn K mainGlobals "InvalidValue" = some (some (.ref c3)))
    (g_B : PySem.W.nsIn K mainGlobals "HandedError" = some (some (.ref cB)))
    (et_0 : erT K (cAt [c0, c1, c2, c3]) cB 0 = true)
    (et_1 : erT K (cAt [c0, c1, c2, c3]) cB 1 = true)
    (et_2 : erT K (cAt [c0, c1, c2, c3]) cB 2 = true)
    (et_3 : erT K (cAt [c0, c1, c2, c3]) cB 3 = true)
    (em_0 : PySem.W.exmOne K (.ref c0) (.ref c0) = some true)
    (gsp : PySem.W.specialIn K (.builtin "object.__class__") "__get__" = some (some (.builtin "getset_descriptor.__get__")))
    (gtk : PySem.W.takesIn K (.builtin "object.__class__") = some true)
    (a_MS : PySem.W.nsIn K mainGlobals "MOST_SIDES" = some (some (.int 4 tMS)))
    (a_MP : PySem.W.nsIn K mainGlobals "MOST_PERIOD" = some (some (.int 100000 tMP)))
    (a_lcm : PySem.W.nsIn K mainGlobals "lcm" = some (some (.builtin "math.lcm")))
    (l_U : K.lookup aU = some ⟨.type "tuple", odU, .seq itsU nU, slU⟩)
    (v_U : Vals [V.int 1] itsU.toList)
    (a_MODES : PySem.W.nsIn K mainGlobals "MODES" = some (some (.ref aM)))
    (l_MODES : K.lookup aM = some ⟨.type "tuple", odM, .seq itsM nM, slM⟩)
    (v_MODES : itsM.size ≤ sizeLine ∧ Vals modesV itsM.toList)
    (a_MIR : PySem.W.nsIn K mainGlobals "MIRRORED" = some (some (.ref aR)))
    (l_MIR : K.lookup aR = some ⟨.type "dict", none, .dict esR nR, #[]⟩)
    (h_MIR : PySem.W.KeysLit w.params esR.toList)
    (d_down : PySem.W.nsIn K aR "down" = some (some u_down)) (r_down : RelV (.str "up") u_down)
    (d_up : PySem.W.nsIn K aR "up" = some (some u_up)) (r_up : RelV (.str "down") u_up)
    (d_half_down : PySem.W.nsIn K aR "half_down" = some (some u_half_down)) (r_half_down : RelV (.str "half_up") u_half_down)
    (d_half_up : PySem.W.nsIn K aR "half_up" = some (some u_half_up)) (r_half_up : RelV (.str "half_down") u_half_up)
    (d_half_even : PySem.W.nsIn K aR "half_even" = some (some u_half_even)) (r_half_even : RelV (.str "half_even") u_half_even) :
    ∃ fd : FuncData, (∀ (s : Shared) (v : Value), BindsTo s fd ⟨[v], []⟩ [("_law_script", v)]) ∧ ∀ base : Heap, K.In base → base.Ns mainGlobals mg → FnOk l.prog w K mg base CX0 112 fa fd ["_law_script"] (spLaw K) := by
  have e := hfa.symm.trans (PySem.W.mg_of X G a_law)
  cases e
  have F_is_int := fun_mk (st := s_is_int) l_is_int c_is_int k_is_int
  have b_is_int := F_is_int.binds (ps := ["thing"]) fun _ _ _ _ _ _ us hl => match us, hl with | [_], _ => rfl
  have m_is_int := PySem.W.mg_of X G a_is_int
  have F_is_int_between := fun_mk (st := s_is_int_between) l_is_int_between c_is_int_between k_is_int_between
  have b_is_int_between := F_is_int_between.binds (ps := ["thing", "least", "most"]) fun _ _ _ _ _ _ us hl => match us, hl with | [_, _, _], _ => rfl
  have m_is_int_between := PySem.W.mg_of X G a_is_int_between
  have F_check_value := fun_mk (st := s_check_value) l_check_value c_check_value k_check_value
  have b_check_value := F_check_value.binds (ps := ["value"]) fun _ _ _ _ _ _ us hl => match us, hl with | [_], _ => rfl
  have m_check_value := PySem.W.mg_of X G a_check_value
  have F_check_side := fun_mk (st := s_check_side) l_check_side c_check_side k_check_side
  have b_check_side := F_check_side.binds (ps := ["side"]) fun _ _ _ _ _ _ us hl => match us, hl with | [_], _ => rfl
  have m_check_side := PySem.W.mg_of X G a_check_side
  have F_is_side := fun_mk (st := s_is_side) l_is_side c_is_side k_is_side
  have b_is_side := F_is_side.binds (ps := ["thing"]) fun _ _ _ _ _ _ us hl => match us, hl with | [_], _ => rfl
  have m_is_side := PySem.W.mg_of X G a_is_side
  have F_figure := fun_mk (st := s_figure) l_figure c_figure k_figure
  have b_figure := F_figure.binds (ps := ["side", "value"]) fun _ _ _ _ _ _ us hl => match us, hl with | [_, _], _ => rfl
  have m_figure := PySem.W.mg_of X G a_figure
  have F_goes_up := fun_mk (st := s_goes_up) l_goes_up c_goes_up k_goes_up
  have b_goes_up := F_goes_up.binds (ps := ["mode", "step", "figure", "rest"]) fun _ _ _ _ _ _ us hl => match us, hl with | [_, _, _, _], _ => rfl
  have m_goes_up := PySem.W.mg_of X G a_goes_up
  have F_written := fun_mk (st := s_written) l_written c_written k_written
  have b_written := F_written.binds (ps := ["side", "value"]) fun _ _ _ _ _ _ us hl => match us, hl with | [_, _], _ => rfl
  have m_written := PySem.W.mg_of X G a_written
  have F_span := fun_mk (st := s_span) l_span c_span k_span
  have b_span := F_span.binds (ps := ["side", "figure"]) fun _ _ _ _ _ _ us hl => match us, hl with | [_, _], _ => rfl
  have m_span := PySem.W.mg_of X G a_span
  have F_uspan := fun_mk (st := s_uspan) l_uspan c_uspan k_uspan
  have b_uspan := F_uspan.binds (ps := ["side", "figure"]) fun _ _ _ _ _ _ us hl => match us, hl with | [_, _], _ => rfl
  have m_uspan := PySem.W.mg_of X G a_uspan
  have F_below := fun_mk (st := s_below) l_below c_below k_below
  have b_below := F_below.binds (ps := ["mode", "step", "figure"]) fun _ _ _ _ _ _ us hl => match us, hl with | [_, _, _], _ => rfl
  have m_below := PySem.W.mg_of X G a_below
  have F_mirror := fun_mk (st := s_mirror) l_mirror c_mirror k_mirror
  have b_mirror := F_mirror.binds (ps := ["side"]) fun _ _ _ _ _ _ us hl => match us, hl with | [_], _ => rfl
  have m_mirror := PySem.W.mg_of X G a_mirror
  have F_form := fun_mk (st := s_form) l_form c_form k_form
  have b_form := F_form.binds (ps := ["side"]) fun _ _ _ _ _ _ us hl => match us, hl with | [_], _ => rfl
  have m_form := PySem.W.mg_of X G a_form
  have F_first_mode := fun_mk (st := s_first_mode) l_first_mode c_first_mode k_first_mode
  have b_first_mode := F_first_mode.binds (ps := ["step", "mode"]) fun _ _ _ _ _ _ us hl => match us, hl with | [_, _], _ => rfl
  have m_first_mode := PySem.W.mg_of X G a_first_mode
  have F_check_sides := fun_mk (st := s_check_sides) l_check_sides c_check_sides k_check_sides
  have b_check_sides := F_check_sides.binds (ps := ["sides"]) fun _ _ _ _ _ _ us hl => match us, hl with | [_], _ => rfl
  have m_check_sides := PySem.W.mg_of X G a_check_sides
  have F_period_of := fun_mk (st := s_period_of) l_period_of c_period_of k_period_of
  have b_period_of := F_period_of.binds (ps := ["side"]) fun _ _ _ _ _ _ us hl => match us, hl with | [_], _ => rfl
  have m_period_of := PySem.W.mg_of X G a_period_of
  have F_common_period := fun_mk (st := s_common_period) l_common_period c_common_period k_common_period
  have b_common_period := F_common_period.binds (ps := ["sides"]) fun _ _ _ _ _ _ us hl => match us, hl with | [_], _ => rfl
  have m_common_period := PySem.W.mg_of X G a_common_period
  have F_raisers := fun_mk (st := s_raisers) l_raisers c_raisers k_raisers
  have b_raisers := F_raisers.binds (ps := ["sides"]) fun _ _ _ _ _ _ us hl => match us, hl with | [_], _ => rfl
  have m_raisers := PySem.W.mg_of X G a_raisers
  have F_raises_some := fun_mk (st := s_raises_some) l_raises_some c_raises_some k_raises_some
  have b_raises_some := F_raises_some.binds (ps := ["side"]) fun _ _ _ _ _ _ us hl => match us, hl with | [_], _ => rfl
  have m_raises_some := PySem.W.mg_of X G a_raises_some
  have F_highest := fun_mk (st := s_highest) l_highest c_highest k_highest
  have b_highest := F_highest.binds (ps := ["sides", "value"]) fun _ _ _ _ _ _ us hl => match us, hl with | [_, _], _ => rfl
  have m_highest := PySem.W.mg_of X G a_highest
  have F_mirrors := fun_mk (st := s_mirrors) l_mirrors c_mirrors k_mirrors
  have b_mirrors := F_mirrors.binds (ps := ["sides"]) fun _ _ _ _ _ _ us hl => match us, hl with | [_], _ => rfl
  have m_mirrors := PySem.W.mg_of X G a_mirrors
  have F_first_hit := fun_mk (st := s_first_hit) l_first_hit c_first_hit k_first_hit
  have b_first_hit := F_first_hit.binds (ps := ["start", "step", "most", "modulus"]) fun _ _ _ _ _ _ us hl => match us, hl with | [_, _, _, _], _ => rfl
  have m_first_hit := PySem.W.mg_of X G a_first_hit
  have F_first_between := fun_mk (st := s_first_between) l_first_between c_first_between k_first_between
  have b_first_between := F_first_between.binds (ps := ["step", "least", "greatest", "modulus"]) fun _ _ _ _ _ _ us hl => match us, hl with | [_, _, _, _], _ => rfl
  have m_first_between := PySem.W.mg_of X G a_first_between
  have m_unraised := PySem.W.mg_of X G a_unraised
  have F_first_in_block := fun_mk (st := s_first_in_block) l_first_in_block c_first_in_block k_first_in_block
  have b_first_in_block := F_first_in_block.binds (ps := ["block", "value"]) fun _ _ _ _ _ _ us hl => match us, hl with | [_, _], _ => rfl
  have m_first_in_block := PySem.W.mg_of X G a_first_in_block
  have F_first_in_both := fun_mk (st := s_first_in_both) l_first_in_both c_first_in_both k_first_in_both
  have b_first_in_both := F_first_in_both.binds (ps := ["one", "other", "value"]) fun _ _ _ _ _ _ us hl => match us, hl with | [_, _, _], _ => rfl
  have m_first_in_both := PySem.W.mg_of X G a_first_in_both
  have F_reach := fun_mk (st := s_reach) l_reach c_reach k_reach
  have b_reach := F_reach.binds (ps := ["sides", "value"]) fun _ _ _ _ _ _ us hl => match us, hl with | [_, _], _ => rfl
  have m_reach := PySem.W.mg_of X G a_reach
  have F_check_few := fun_mk (st := s_check_few) l_check_few c_check_few k_check_few
  have b_check_few := F_check_few.binds (ps := ["raising"]) fun _ _ _ _ _ _ us hl => match us, hl with | [_], _ => rfl
  have m_check_few := PySem.W.mg_of X G a_check_few
  have F_first_unraised := fun_mk (st := s_first_unraised) l_first_unraised c_first_unraised k_first_unraised
  have b_first_unraised := F_first_unraised.binds (ps := ["raising", "value"]) fun _ _ _ _ _ _ us hl => match us, hl with | [_, _], _ => rfl
  have m_first_unraised := PySem.W.mg_of X G a_first_unraised
  have F_first_unraised_by_two := fun_mk (st := s_first_unraised_by_two) l_first_unraised_by_two c_first_unraised_by_two k_first_unraised_by_two
  have b_first_unraised_by_two := F_first_unraised_by_two.binds (ps := ["first", "second", "value"]) fun _ _ _ _ _ _ us hl => match us, hl with | [_, _, _], _ => rfl
  have m_first_unraised_by_two := PySem.W.mg_of X G a_first_unraised_by_two
  have F_once := fun_mk (st := s_once) l_once c_once k_once
  have b_once := F_once.binds (ps := ["sides", "value"]) fun _ _ _ _ _ _ us hl => match us, hl with | [_, _], _ => rfl
  have m_once := PySem.W.mg_of X G a_once
  have F_order_matters := fun_mk (st := s_order_matters) l_order_matters c_order_matters k_order_matters
  have b_order_matters := F_order_matters.binds (ps := ["sides", "value"]) fun _ _ _ _ _ _ us hl => match us, hl with | [_, _], _ => rfl
  have m_order_matters := PySem.W.mg_of X G a_order_matters
  have F_orders := fun_mk (st := s_orders) l_orders c_orders k_orders
  have b_orders := F_orders.binds (ps := ["many"]) fun _ _ _ _ _ _ us hl => match us, hl with | [_], _ => rfl
  have m_orders := PySem.W.mg_of X G a_orders
  have F_ends := fun_mk (st := s_ends) l_ends c_ends k_ends
  have b_ends := F_ends.binds (ps := ["sides", "orders", "value"]) fun _ _ _ _ _ _ us hl => match us, hl with | [_, _, _], _ => rfl
  have m_ends := PySem.W.mg_of X G a_ends
  have F_calm := fun_mk (st := s_calm) l_calm c_calm k_calm
  have b_calm := F_calm.binds (ps := ["sides"]) fun _ _ _ _ _ _ us hl => match us, hl with | [_], _ => rfl
  have m_calm := PySem.W.mg_of X G a_calm
  have F_are_calm := fun_mk (st := s_are_calm) l_are_calm c_are_calm k_are_calm
  have b_are_calm := F_are_calm.binds (ps := ["sides"]) fun _ _ _ _ _ _ us hl => match us, hl with | [_], _ => rfl
  have m_are_calm := PySem.W.mg_of X G a_are_calm
  have F_one_more := fun_mk (st := s_one_more) l_one_more c_one_more k_one_more
  have b_one_more := F_one_more.binds (ps := ["lists", "many"]) fun _ _ _ _ _ _ us hl => match us, hl with | [_, _], _ => rfl
  have m_one_more := PySem.W.mg_of X G a_one_more
  have F_L_source := fun_mk (st := s_L_source) l_L_source c_L_source k_L_source
  have b_L_source := F_L_source.binds (ps := ["_law_script"]) fun _ _ _ _ _ _ us hl => match us, hl with | [_], _ => rfl
  have m_L_source := PySem.W.mg_of X G a_L_source
  have F_L_draw := fun_mk (st := s_L_draw) l_L_draw c_L_draw k_L_draw
  have b_L_draw := F_L_draw.binds (ps := ["_law_source_here", "_law_limit"]) fun _ _ _ _ _ _ us hl => match us, hl with | [_, _], _ => rfl
  have m_L_draw := PySem.W.mg_of X G a_L_draw
  have F_L_pick := fun_mk (st := s_L_pick) l_L_pick c_L_pick k_L_pick
  have b_L_pick := F_L_pick.binds (ps := ["_law_source_here", "_law_values"]) fun _ _ _ _ _ _ us hl => match us, hl with | [_, _], _ => rfl
  have m_L_pick := PySem.W.mg_of X G a_L_pick
  have F_L_great := fun_mk (st := s_L_great) l_L_great c_L_great k_L_great
  have b_L_great := F_L_great.binds (ps := ["_law_source_here", "_law_digits"]) fun _ _ _ _ _ _ us hl => match us, hl with | [_, _], _ => rfl
  have m_L_great := PySem.W.mg_of X G a_L_great
  have F_L_side := fun_mk (st := s_L_side) l_L_side c_L_side k_L_side
  have b_L_side := F_L_side.binds (ps := ["_law_source_here", "_law_digits"]) fun _ _ _ _ _ _ us hl => match us, hl with | [_, _], _ => rfl
  have m_L_side := PySem.W.mg_of X G a_L_side
  have F_L_word := fun_mk (st := s_L_word) l_L_word c_L_word k_L_word
  have b_L_word := F_L_word.binds (ps := ["_law_kind", "_law_sides", "_law_value"]) fun _ _ _ _ _ _ us hl => match us, hl with | [_, _, _], _ => rfl
  have m_L_word := PySem.W.mg_of X G a_L_word
  have F_law := fun_mk (st := s_law) l_law c_law k_law
  have b_law := F_law.binds (ps := ["_law_script"]) fun _ _ _ _ _ _ us hl => match us, hl with | [_], _ => rfl
  have m_law := PySem.W.mg_of X G a_law
  have n_len := PySem.W.mg_none_of X G z_len
  have n_abs := PySem.W.mg_none_of X G z_abs
  have n_int := PySem.W.mg_none_of X G z_int
  have n_range := PySem.W.mg_none_of X G z_range
  have n_isinstance := PySem.W.mg_none_of X G z_isinstance
  have n_bool := PySem.W.mg_none_of X G z_bool
  have n_tuple := PySem.W.mg_none_of X G z_tuple
  have n_divmod := PySem.W.mg_none_of X G z_divmod
  have n_max := PySem.W.mg_none_of X G z_max
  have n_min := PySem.W.mg_none_of X G z_min
  have n_list := PySem.W.mg_none_of X G z_list
  have n_sorted := PySem.W.mg_none_of X G z_sorted
  have n_enumerate := PySem.W.mg_none_of X G z_enumerate
  have n_ValueError := PySem.W.mg_none_of X G z_ValueError
  have BL : Blt mg := ⟨n_len, n_abs, n_int, n_range⟩
  have T : SideT K mg aM := ⟨n_isinstance, n_int, n_bool, n_tuple, n_len, n_divmod, PySem.W.mg_of X G a_MODES, fun _ => .inr ⟨_, _, _, l_MODES, rfl, rfl, v_MODES.1, v_MODES.2⟩⟩
  have RT : MirT K w mg aR := ⟨PySem.W.mg_of X G a_MIR, fun m hm => by
    rcases hm with e | e | e | e | e <;> subst e
    · rw [mir_d]; exact ⟨_, _, _, l_MIR, h_MIR, d_down, r_down⟩
    · rw [mir_u]; exact ⟨_, _, _, l_MIR, h_MIR, d_up, r_up⟩
    · rw [mir_hd]; exact ⟨_, _, _, l_MIR, h_MIR, d_half_down, r_half_down⟩
    · rw [mir_hu]; exact ⟨_, _, _, l_MIR, h_MIR, d_half_up, r_half_up⟩
    · rw [mir_he]; exact ⟨_, _, _, l_MIR, h_MIR, d_half_even, r_half_even⟩⟩
  have TC : ChkT mg := ⟨n_isinstance, n_int, n_bool, n_tuple, n_list, n_len⟩
  have TM : ModT K mg aM := ⟨T.gM, T.tM⟩
  have AT : AmT mg := ⟨⟨_, PySem.W.mg_of X G a_MS⟩⟩
  have tab : ∀ i, i < 4 → erT K (cAt [c0, c1, c2, c3]) cB i = true := fun i hi => by
    rcases (by omega : i = 0 ∨ i = 1 ∨ i = 2 ∨ i = 3) with e | e | e | e <;> subst e
    · exact et_0
    · exact et_1
    · exact et_2
    · exact et_3
  have tb : ∀ i, i < 4 → errB K (cAt [c0, c1, c2, c3] i) = true ∧ (PySem.W.excIn K (cAt [c0, c1, c2, c3] i) [.type "ValueError", .type "Exception", .type "BaseException", .type "object"] "ValueError.__new__" = true ∧ PySem.W.keepIn K (.ref (cAt [c0, c1, c2, c3] i)) = true) ∧ PySem.W.kitOne K (.ref (cAt [c0, c1, c2, c3] i)) (.type "ValueError") = some true ∧ PySem.W.subIn K (.ref (cAt [c0, c1, c2, c3] i)) (.type "BaseException") = some true ∧ PySem.W.typeIn K (.ref (cAt [c0, c1, c2, c3] i)) = some (.type "type") ∧ PySem.W.exmOne K (.ref (cAt [c0, c1, c2, c3] i)) (.ref cB) = some true ∧ ∀ j, j < 4 → PySem.W.kitOne K (.ref (cAt [c0, c1, c2, c3] i)) (.ref (cAt [c0, c1, c2, c3] j)) = some (decide (i = j)) := fun i hi => by
    have z := tab i hi
    unfold erT exB at z
    simp only [Bool.and_eq_true, decide_eq_true_eq] at z
    obtain ⟨a, b, c, d, e, f, g⟩ := z
    exact ⟨a, b, c, d, e, f, fun j hj => of_decide_eq_true (all_of g hj)⟩
  have R : Er K mg (cAt [c0, c1, c2, c3]) cB := { isi := n_isinstance, ve := n_ValueError, gB := PySem.W.mg_of X G g_B, g0 := PySem.W.mg_of X G g_0, g1 := PySem.W.mg_of X G g_1, g2 := PySem.W.mg_of X G g_2, g3 := PySem.W.mg_of X G g_3, kit := fun i j hi hj => (tb i hi).2.2.2.2.2.2 j hj, kitV := fun i hi => (tb i hi).2.2.1, ec := fun i hi => errB_ok (tb i hi).1, eg := ⟨gsp, gtk⟩, ex := fun i hi => (tb i hi).2.1.1, kp := fun i hi => (tb i hi).2.1.2, sb := fun i hi => (tb i hi).2.2.2.1, ty := fun i hi => (tb i hi).2.2.2.2.1, emB := fun i hi => (tb i hi).2.2.2.2.2.1, em0 := em_0 }
  have MX : MaxT mg := ⟨n_max, n_min⟩
  have AM : AmG mg := ⟨n_isinstance, n_list, n_len, ⟨_, PySem.W.mg_of X G a_MS⟩, ⟨_, PySem.W.mg_of X G a_MP⟩, PySem.W.mg_of X G a_lcm, n_sorted⟩
  have D_unraised : FunD K "unraised" "unraised" (defArgs s_unraised) (defBody s_unraised) (defScope s_unraised) [.int 1] [] f_unraised _ := ⟨⟨_, _, _, _, _, _, _, _, _, _, rfl, l_unraised, c_unraised, .inr ⟨(fun z => nomatch z), aU, _, itsU.toList, nU, rfl, l_U, rfl, v_U⟩, .inl rfl⟩, k_unraised⟩
  have bd_unraised := D_unraised.binds1 (ps := ["side", "least"]) 1 0 (fun z => nomatch z) rfl (fun T kV doc pm an cdv ct us its h1 h2 => match us, its, h1, h2 with | [_], [_], _, _ => ⟨_, rfl, rfl⟩)
  refine ⟨PySem.W.fnOf "law" "law" (defArgs s_law) (defBody s_law) (defScope s_law) .none kV_law dc_law pm_law an_law cd_law ct_law, fun s v => .of_eq rfl, fun base _ _ => ?_⟩
  have C_is_int : Cal l.prog w K mg base "is_int" 1 ["thing"] spIsInt f_is_int _ := ⟨ok_is_int F_is_int T, m_is_int, k_is_int, b_is_int⟩
  have C_is_int_between : Cal l.prog w K mg base "is_int_between" 2 ["thing", "least", "most"] spBetween f_is_int_between _ := ⟨ok_between F_is_int_between C_is_int, m_is_int_between, k_is_int_between, b_is_int_between⟩
  have C_check_value : Cal l.prog w K mg base "check_value" 2 ["value"] spCheckValue f_check_value _ := ⟨ok_check_value F_check_value C_is_int, m_check_value, k_check_value, b_check_value⟩
  have C_check_side : Cal l.prog w K mg base "check_side" 3 ["side"] spCheckSide f_check_side _ := ⟨ok_check_side F_check_side T C_is_int_between, m_check_side, k_check_side, b_check_side⟩
  have C_goes_up : Cal l.prog w K mg base "_goes_up" 1 ["mode", "step", "figure", "rest"] spGo f_goes_up _ := ⟨ok_goes_up F_goes_up, m_goes_up, k_goes_up, b_goes_up⟩
  have C_figure : Cal l.prog w K mg base "_figure" 2 ["side", "value"] spFig f_figure _ := ⟨ok_figure F_figure T C_goes_up, m_figure, k_figure, b_figure⟩
  have C_written : Cal l.prog w K mg base "written" 3 ["side", "value"] spDue f_written _ := ⟨ok_written F_written C_figure, m_written, k_written, b_written⟩
  have C_below : Cal l.prog w K mg base "_below" 1 ["mode", "step", "figure"] spBelow f_below _ := ⟨ok_below F_below, m_below, k_below, b_below⟩
  have C_uspan : Cal l.prog w K mg base "_span" 2 ["side", "figure"] spSpan f_uspan _ := ⟨ok_uspan F_uspan RT C_below, m_uspan, k_uspan, b_uspan⟩
  have C_span : Cal l.prog w K mg base "span" 4 ["side", "figure"] spSpan f_span _ := ⟨ok_span F_span C_check_side C_check_value C_uspan, m_span, k_span, b_span⟩
  have C_mirror : Cal l.prog w K mg base "mirror" 4 ["side"] spMirror f_mirror _ := ⟨ok_mirror F_mirror RT C_check_side, m_mirror, k_mirror, b_mirror⟩
  have C_first_mode : Cal l.prog w K mg base "_first_mode" 1 ["step", "mode"] spFirst f_first_mode _ := ⟨ok_first F_first_mode, m_first_mode, k_first_mode, b_first_mode⟩
  have C_form : Cal l.prog w K mg base "form" 4 ["side"] spForm f_form _ := ⟨ok_form F_form C_check_side C_first_mode, m_form, k_form, b_form⟩
  have C_is_side : Cal l.prog w K mg base "is_side" 4 ["thing"] spIsSide f_is_side _ := ⟨ok_is_side F_is_side (PySem.W.mg_of X G g_0) C_check_side, m_is_side, k_is_side, b_is_side⟩
  have C_check_sides : Cal l.prog w K mg base "check_sides" 5 ["sides"] spSides f_check_sides _ := ⟨ok_sides F_check_sides AM C_is_side, m_check_sides, k_check_sides, b_check_sides⟩
  have C_period_of : Cal l.prog w K mg base "period_of" 1 ["side"] spPerOf f_period_of _ := ⟨ok_per F_period_of, m_period_of, k_period_of, b_period_of⟩
  have C_first_between : ∀ n, n ≤ 200 → Cal l.prog w K mg base "_first_between" (n + 1) ["step", "least", "greatest", "modulus"] (spFB n) f_first_between _ := fun n hn => ⟨ok_fb F_first_between m_first_between k_first_between b_first_between n hn, m_first_between, k_first_between, b_first_between⟩
  have C_first_hit : Cal l.prog w K mg base "first_hit" 104 ["start", "step", "most", "modulus"] spFH f_first_hit _ := ⟨ok_hit F_first_hit (C_first_between 102 (by decide)), m_first_hit, k_first_hit, b_first_hit⟩
  have C_first_in_block : Cal l.prog w K mg base "first_in_block" 1 ["block", "value"] spFIB f_first_in_block _ := ⟨ok_fib F_first_in_block, m_first_in_block, k_first_in_block, b_first_in_block⟩
  have C_first_in_both : Cal l.prog w K mg base "first_in_both" 105 ["one", "other", "value"] spFI2 f_first_in_both _ := ⟨ok_fi2 F_first_in_both C_first_hit C_first_in_block, m_first_in_both, k_first_in_both, b_first_in_both⟩
  have C_unraised : CalD l.prog w K mg base "unraised" 5 ["side", "least"] [.int 1] spUnr f_unraised _ := ⟨ok_unr D_unraised BL MX C_period_of C_span, m_unraised, k_unraised, bd_unraised⟩
  have C_raises_some : Cal l.prog w K mg base "_raises_some" 5 ["side"] spRs f_raises_some _ := ⟨ok_rs F_raises_some C_form, m_raises_some, k_raises_some, b_raises_some⟩
  have C_common_period : Cal l.prog w K mg base "common_period" 2 ["sides"] spPerL f_common_period _ := ⟨ok_commonL F_common_period AM C_period_of, m_common_period, k_common_period, b_common_period⟩
  have C_raisers : Cal l.prog w K mg base "raisers" 6 ["sides"] spRais f_raisers _ := ⟨ok_rais F_raisers C_raises_some, m_raisers, k_raisers, b_raisers⟩
  have C_mirrors : Cal l.prog w K mg base "mirrors" 5 ["sides"] spMirs f_mirrors _ := ⟨ok_mirs F_mirrors C_mirror, m_mirrors, k_mirrors, b_mirrors⟩
  have C_highest : Cal l.prog w K mg base "highest" 4 ["sides", "value"] spHi f_highest _ := ⟨ok_hi F_highest MX C_written, m_highest, k_highest, b_highest⟩
  have C_first_unraised_by_two : Cal l.prog w K mg base "_first_unraised_by_two" 106 ["first", "second", "value"] spTwo f_first_unraised_by_two _ := ⟨ok_two F_first_unraised_by_two MX C_unraised C_first_in_both, m_first_unraised_by_two, k_first_unraised_by_two, b_first_unraised_by_two⟩
  have C_first_unraised : Cal l.prog w K mg base "_first_unraised" 107 ["raising", "value"] spFU f_first_unraised _ := ⟨ok_fu F_first_unraised AM C_first_unraised_by_two C_common_period C_highest, m_first_unraised, k_first_unraised, b_first_unraised⟩
  have C_check_few : Cal l.prog w K mg base "_check_few" 3 ["raising"] spCF f_check_few _ := ⟨ok_cf F_check_few AM C_common_period, m_check_few, k_check_few, b_check_few⟩
  have C_reach : Cal l.prog w K mg base "reach" 108 ["sides", "value"] spReach f_reach _ := ⟨ok_reach F_reach C_check_sides C_check_value C_raisers C_mirrors C_check_few C_first_unraised, m_reach, k_reach, b_reach⟩
  have C_are_calm : Cal l.prog w K mg base "_are_calm" 109 ["sides"] spAC f_are_calm _ := ⟨ok_ac F_are_calm C_reach, m_are_calm, k_are_calm, b_are_calm⟩
  have C_one_more : Cal l.prog w K mg base "_one_more" 1 ["lists", "many"] spOM f_one_more _ := ⟨ok_om F_one_more BL MX, m_one_more, k_one_more, b_one_more⟩
  have C_calm : Cal l.prog w K mg base "calm" 110 ["sides"] spCalm f_calm _ := ⟨ok_calm F_calm AM n_enumerate C_check_sides C_are_calm C_one_more, m_calm, k_calm, b_calm⟩
  have C_orders : Cal l.prog w K mg base "_orders" 1 ["many"] HQ.spOrders f_orders _ := ⟨HQ.ok_orders F_orders BL, m_orders, k_orders, b_orders⟩
  have C_ends : Cal l.prog w K mg base "_ends" 4 ["sides", "orders", "value"] HQ.spEnds f_ends _ := ⟨HQ.ok_ends F_ends C_written, m_ends, k_ends, b_ends⟩
  have X_is_int : Cal l.prog w K mg base "is_int" 1 ["thing"] spIsAny f_is_int _ := ⟨ok_is_any F_is_int TC, m_is_int, k_is_int, b_is_int⟩
  have X_is_int_between : Cal l.prog w K mg base "is_int_between" 2 ["thing", "least", "most"] spBetAny f_is_int_between _ := ⟨ok_bet_any F_is_int_between X_is_int, m_is_int_between, k_is_int_between, b_is_int_between⟩
  have X_check_value : CalX l.prog w K mg base "check_value" 2 ["value"] (spValX (cAt [c0, c1, c2, c3])) f_check_value _ := ⟨ok_val_x F_check_value R X_is_int, m_check_value, k_check_value, b_check_value⟩
  have X_check_side : CalX l.prog w K mg base "check_side" 3 ["side"] (spSideX K (cAt [c0, c1, c2, c3])) f_check_side _ := ⟨ok_side_x F_check_side TC TM R X_is_int_between, m_check_side, k_check_side, b_check_side⟩
  have X_is_side : Cal l.prog w K mg base "is_side" 4 ["thing"] (spIsSideX K) f_is_side _ := ⟨ok_is_side_x F_is_side R X_check_side, m_is_side, k_is_side, b_is_side⟩
  have X_check_sides : CalX l.prog w K mg base "check_sides" 5 ["sides"] (spSidesX K (cAt [c0, c1, c2, c3])) f_check_sides _ := ⟨ok_sides_x F_check_sides TC AT R X_is_side, m_check_sides, k_check_sides, b_check_sides⟩
  have X_check_few : CalX l.prog w K mg base "_check_few" 3 ["raising"] (spCFX (cAt [c0, c1, c2, c3])) f_check_few _ := ⟨ok_cf_x F_check_few AM R C_common_period, m_check_few, k_check_few, b_check_few⟩
  have X_reach : CalX l.prog w K mg base "reach" 108 ["sides", "value"] (spReachM (cAt [c0, c1, c2, c3])) f_reach _ := ⟨ok_reach_m F_reach C_check_sides C_check_value C_raisers C_mirrors X_check_few, m_reach, k_reach, b_reach⟩
  have X_are_calm : CalX l.prog w K mg base "_are_calm" 109 ["sides"] (spACM (cAt [c0, c1, c2, c3])) f_are_calm _ := ⟨ok_ac_m F_are_calm X_reach, m_are_calm, k_are_calm, b_are_calm⟩
  have X_once : CalX l.prog w K mg base "once" 6 ["sides", "value"] (spOnceU K (cAt [c0, c1, c2, c3])) f_once _ := ⟨or_ok (to_x (HQ.ok_once F_once AM C_check_sides C_check_value C_orders C_ends)) (ok_once_x F_once X_check_sides X_check_value), m_once, k_once, b_once⟩
  have X_order_matters : CalX l.prog w K mg base "order_matters" 6 ["sides", "value"] (spTwoX K (cAt [c0, c1, c2, c3])) f_order_matters _ := ⟨ok_order_x F_order_matters X_check_sides X_check_value, m_order_matters, k_order_matters, b_order_matters⟩
  have X_calm : CalX l.prog w K mg base "calm" 110 ["sides"] (spCalmU K (cAt [c0, c1, c2, c3])) f_calm _ := ⟨or_ok (to_x C_calm.ok) (ok_calm_x F_calm AM n_enumerate X_check_sides X_are_calm), m_calm, k_calm, b_calm⟩
  have C_L_source : Cal l.prog w K mg base "_law_source" 1 ["_law_script"] (spSource K) f_L_source _ := ⟨ok_source F_L_source BL, m_L_source, k_L_source, b_L_source⟩
  have C_L_draw : Cal l.prog w K mg base "_law_draw" 1 ["_law_source_here", "_law_limit"] spDraw f_L_draw _ := ⟨ok_draw F_L_draw BL, m_L_draw, k_L_draw, b_L_draw⟩
  have C_L_pick : Cal l.prog w K mg base "_law_pick" 2 ["_law_source_here", "_law_values"] spPick f_L_pick _ := ⟨ok_pick F_L_pick BL C_L_draw, m_L_pick, k_L_pick, b_L_pick⟩
  have C_L_great : Cal l.prog w K mg base "_law_great" 2 ["_law_source_here", "_law_digits"] spGreat f_L_great _ := ⟨ok_great F_L_great BL C_L_draw, m_L_great, k_L_great, b_L_great⟩
  have C_L_side : Cal l.prog w K mg base "_law_side" 3 ["_law_source_here", "_law_digits"] spSide f_L_side _ := ⟨ok_side F_L_side BL C_L_draw C_L_pick C_L_great, m_L_side, k_L_side, b_L_side⟩
  have C_L_word : Cal l.prog w K mg base "_law_word" 111 ["_law_kind", "_law_sides", "_law_value"] (spWord K) f_L_word _ := ⟨ok_word F_L_word R X_once X_order_matters X_calm, m_L_word, k_L_word, b_L_word⟩
  exact ok_law F_law BL TC C_L_source C_L_pick C_L_great C_L_side C_L_word
theorem walk {l : PySem.W.OpenLaw} {q : Program} {loose : List Str} {XP : (Str → Option Value) → Heap → Prop} {YP : World → Heap → Prop} {d : DefRec} {K : Params → PySem.W.Frag} (hn : l.most = some 63) (hdf : d.params.defaults = [])
    (hY : ∀ (w : World) (h : Heap), YP w h → (K w.params).In h)
    (F : ∀ (w : World) (mg : Str → Option Value) (fa : Addr) (h : Heap), (K w.params).In h → h.Ns mainGlobals mg → mg d.name = some (.ref fa) →
      ∃ fd : FuncData, (∀ (s : Shared) (u : Value), BindsTo s fd ⟨[u], []⟩ [("_law_script", u)]) ∧ ∀ base : Heap, (K w.params).In base → base.Ns mainGlobals mg → FnOk l.prog w (K w.params) mg base CX0 112 fa fd ["_law_script"] (spLaw (K w.params))) :
    PySem.W.WalkO q loose XP YP l.row.toRowW d [] (fun f vs => PySem.call f vs) :=
  L2.walk_of (n := 63) (k := 112) (x := "_law_script") (CX := fun _ => CX0) (sp := fun w => spLaw (K w.params)) hn (by decide) hdf ⟨rfl, by decide, by decide⟩ hY F (fun _ _ a ns hl _ hS => ⟨a, ns, rfl, hS, hl, fun _ => rfl⟩) fun _ _ _ _ _ z => z
end HT
open PySem PySem.W PyProof.Rows
set_option maxRecDepth 100000 in
set_option maxHeartbeats 0 in
theorem PySem.Challenge.cw_handedtext_k58_doors_of_orders_holds : PySem.Challenge.rw_handedtext_k58_doors_of_orders.Holds := by
  w_on; o_law; k_head; (case hw => w_witness2)
  k_fill
  refine HT.walk (l := PySem.Challenge.rw_handedtext_k58_doors_of_orders) rfl rfl (fun w h Y => PySem.W.kIn_of Y) ?F
  case F =>
    intro w mg fa h KX G hmg
    refine' HT.all_mk KX G hmg ?a_is_int ?l_is_int ?c_is_int ?k_is_int ?a_is_int_between ?l_is_int_between ?c_is_int_between ?k_is_int_between ?a_check_value ?l_check_value ?c_check_value ?k_check_value ?a_check_side ?l_check_side ?c_check_side ?k_check_side ?a_is_side ?l_is_side ?c_is_side ?k_is_side ?a_figure ?l_figure ?c_figure ?k_figure ?a_goes_up ?l_goes_up ?c_goes_up ?k_goes_up ?a_written ?l_written ?c_written ?k_written ?a_span ?l_span ?c_span ?k_span ?a_uspan ?l_uspan ?c_uspan ?k_uspan ?a_below ?l_below ?c_below ?k_below ?a_mirror ?l_mirror ?c_mirror ?k_mirror ?a_form ?l_form ?c_form ?k_form ?a_first_mode ?l_first_mode ?c_first_mode ?k_first_mode ?a_check_sides ?l_check_sides ?c_check_sides ?k_check_sides ?a_period_of ?l_period_of ?c_period_of ?k_period_of ?a_common_period ?l_common_period ?c_common_period ?k_common_period ?a_raisers ?l_raisers ?c_raisers ?k_raisers ?a_raises_some ?l_raises_some ?c_raises_some ?k_raises_some ?a_highest ?l_highest ?c_highest ?k_highest ?a_mirrors ?l_mirrors ?c_mirrors ?k_mirrors ?a_first_hit ?l_first_hit ?c_first_hit ?k_first_hit ?a_first_between ?l_first_between ?c_first_between ?k_first_between ?a_unraised ?l_unraised ?c_unraised ?k_unraised ?a_first_in_block ?l_first_in_block ?c_first_in_block ?k_first_in_block ?a_first_in_both ?l_first_in_both ?c_first_in_both ?k_first_in_both ?a_reach ?l_reach ?c_reach ?k_reach ?a_check_few ?l_check_few ?c_check_few ?k_check_few ?a_first_unraised ?l_first_unraised ?c_first_unraised ?k_first_unraised ?a_first_unraised_by_two ?l_first_unraised_by_two ?c_first_unraised_by_two ?k_first_unraised_by_two ?a_once ?l_once ?c_once ?k_once ?a_order_matters ?l_order_matters ?c_order_matters ?k_order_matters ?a_orders ?l_orders ?c_orders ?k_orders ?a_ends ?l_ends ?c_ends ?k_ends ?a_calm ?l_calm ?c_calm ?k_calm ?a_are_calm ?l_are_calm ?c_are_calm ?k_are_calm ?a_one_more ?l_one_more ?c_one_more ?k_one_more ?a_L_source ?l_L_source ?c_L_source ?k_L_source ?a_L_draw ?l_L_draw ?c_L_draw ?k_L_draw ?a_L_pick ?l_L_pick ?c_L_pick ?k_L_pick ?a_L_great ?l_L_great ?c_L_great ?k_L_great ?a_L_side ?l_L_side ?c_L_side ?k_L_side ?a_L_word ?l_L_word ?c_L_word ?k_L_word ?a_law ?l_law ?c_law ?k_law ?z_len ?z_abs ?z_int ?z_range ?z_isinstance ?z_bool ?z_tuple ?z_divmod ?z_max ?z_min ?z_list ?z_sorted ?z_enumerate ?z_ValueError ?g_0 ?g_1 ?g_2 ?g_3 ?g_B ?et_0 ?et_1 ?et_2 ?et_3 ?em_0 ?gsp ?gtk ?a_MS ?a_MP ?a_lcm ?l_U ?v_U ?a_MODES ?l_MODES ?v_MODES ?a_MIR ?l_MIR ?h_MIR ?d_down ?r_down ?d_up ?r_up ?d_half_down ?r_half_down ?d_half_up ?r_half_up ?d_half_even ?r_half_even
    (case a_is_int => k_is)
    (case l_is_int => k_is)
    (case c_is_int => k_is)
    (case k_is_int => k_is)
    (case a_is_int_between => k_is)
    (case l_is_int_between => k_is)
    (case c_is_int_between => k_is)
    (case k_is_int_between => k_is)
    (case a_check_value => k_is)
    (case l_check_value => k_is)
    (case c_check_value => k_is)
    (case k_check_value => k_is)
    (case a_check_side => k_is)
    (case l_check_side => k_is)
    (case c_check_side => k_is)
    (case k_check_side => k_is)
    (case a_is_side => k_is)
    (case l_is_side => k_is)
    (case c_is_side => k_is)
    (case k_is_side => k_is)
    (case a_figure => k_is)
    (case l_figure => k_is)
    (case c_figure => k_is)
    (case k_figure => k_is)
    (case a_goes_up => k_is)
    (case l_goes_up => k_is)
    (case c_goes_up => k_is)
    (case k_goes_up => k_is)
    (case a_written => k_is)
    (case l_written => k_is)
    (case c_written => k_is)
    (case k_written => k_is)
    (case a_span => k_is)
    (case l_span => k_is)
    (case c_span => k_is)
    (case k_span => k_is)
    (case a_uspan => k_is)
    (case l_uspan => k_is)
    (case c_uspan => k_is)
    (case k_uspan => k_is)
    (case a_below => k_is)
    (case l_below => k_is)
    (case c_below => k_is)
    (case k_below => k_is)
    (case a_mirror => k_is)
    (case l_mirror => k_is)
    (case c_mirror => k_is)
    (case k_mirror => k_is)
    (case a_form => k_is)
    (case l_form => k_is)
    (case c_form => k_is)
    (case k_form => k_is)
    (case a_first_mode => k_is)
    (case l_first_mode => k_is)
    (case c_first_mode => k_is)
    (case k_first_mode => k_is)
    (case a_check_sides => k_is)
    (case l_check_sides => k_is)
    (case c_check_sides => k_is)
    (case k_check_sides => k_is)
    (case a_period_of => k_is)
    (case l_period_of => k_is)
    (case c_period_of => k_is)
    (case k_period_of => k_is)
    (case a_common_period => k_is)
    (case l_common_period => k_is)
    (case c_common_period => k_is)
    (case k_common_period => k_is)
    (case a_raisers => k_is)
    (case l_raisers => k_is)
    (case c_raisers => k_is)
    (case k_raisers => k_is)
    (case a_raises_some => k_is)
    (case l_raises_some => k_is)
    (case c_raises_some => k_is)
    (case k_raises_some => k_is)
    (case a_highest => k_is)
    (case l_highest => k_is)
    (case c_highest => k_is)
    (case k_highest => k_is)
    (case a_mirrors => k_is)
    (case l_mirrors => k_is)
    (case c_mirrors => k_is)
    (case k_mirrors => k_is)
    (case a_first_hit => k_is)
    (case l_first_hit => k_is)
    (case c_first_hit => k_is)
    (case k_first_hit => k_is)
    (case a_first_between => k_is)
    (case l_first_between => k_is)
    (case c_first_between => k_is)
    (case k_first_between => k_is)
    (case a_unraised => k_is)
    (case l_unraised => k_is)
    (case c_unraised => k_is)
    (case k_unraised => k_is)
    (case a_first_in_block => k_is)
    (case l_first_in_block => k_is)
    (case c_first_in_block => k_is)
    (case k_first_in_block => k_is)
    (case a_first_in_both => k_is)
    (case l_first_in_both => k_is)
    (case c_first_in_both => k_is)
    (case k_first_in_both => k_is)
    (case a_reach => k_is)
    (case l_reach => k_is)
    (case c_reach => k_is)
    (case k_reach => k_is)
    (case a_check_few => k_is)
    (case l_check_few => k_is)
    (case c_check_few => k_is)
    (case k_check_few => k_is)
    (case a_first_unraised => k_is)
    (case l_first_unraised => k_is)
    (case c_first_unraised => k_is)
    (case k_first_unraised => k_is)
    (case a_first_unraised_by_two => k_is)
    (case l_first_unraised_by_two => k_is)
    (case c_first_unraised_by_two => k_is)
    (case k_first_unraised_by_two => k_is)
    (case a_once => k_is)
    (case l_once => k_is)
    (case c_once => k_is)
    (case k_once => k_is)
    (case a_order_matters => k_is)
    (case l_order_matters => k_is)
    (case c_order_matters => k_is)
    (case k_order_matters => k_is)
    (case a_orders => k_is)
    (case l_orders => k_is)
    (case c_orders => k_is)
    (case k_orders => k_is)
    (case a_ends => k_is)
    (case l_ends => k_is)
    (case c_ends => k_is)
    (case k_ends => k_is)
    (case a_calm => k_is)
    (case l_calm => k_is)
    (case c_calm => k_is)
    (case k_calm => k_is)
    (case a_are_calm => k_is)
    (case l_are_calm => k_is)
    (case c_are_calm => k_is)
    (case k_are_calm => k_is)
    (case a_one_more => k_is)
    (case l_one_more => k_is)
    (case c_one_more => k_is)
    (case k_one_more => k_is)
    (case a_L_source => k_is)
    (case l_L_source => k_is)
    (case c_L_source => k_is)
    (case k_L_source => k_is)
    (case a_L_draw => k_is)
    (case l_L_draw => k_is)
    (case c_L_draw => k_is)
    (case k_L_draw => k_is)
    (case a_L_pick => k_is)
    (case l_L_pick => k_is)
    (case c_L_pick => k_is)
    (case k_L_pick => k_is)
    (case a_L_great => k_is)
    (case l_L_great => k_is)
    (case c_L_great => k_is)
    (case k_L_great => k_is)
    (case a_L_side => k_is)
    (case l_L_side => k_is)
    (case c_L_side => k_is)
    (case k_L_side => k_is)
    (case a_L_word => k_is)
    (case l_L_word => k_is)
    (case c_L_word => k_is)
    (case k_L_word => k_is)
    (case a_law => k_is)
    (case l_law => k_is)
    (case c_law => k_is)
    (case k_law => k_is)
    (case z_len => k_is)
    (case z_abs => k_is)
    (case z_int => k_is)
    (case z_range => k_is)
    (case z_isinstance => k_is)
    (case z_bool => k_is)
    (case z_tuple => k_is)
    (case z_divmod => k_is)
    (case z_max => k_is)
    (case z_min => k_is)
    (case z_list => k_is)
    (case z_sorted => k_is)
    (case z_enumerate => k_is)
    (case z_ValueError => k_is)
    (case g_0 => k_is)
    (case g_1 => k_is)
    (case g_2 => k_is)
    (case g_3 => k_is)
    (case g_B => k_is)
    (case et_0 => kernel_rfl)
    (case et_1 => kernel_rfl)
    (case et_2 => kernel_rfl)
    (case et_3 => kernel_rfl)
    (case em_0 => kernel_rfl)
    (case gsp => k_is)
    (case gtk => k_is)
    (case a_MS => k_is)
    (case a_MP => k_is)
    (case a_lcm => k_is)
    (case l_U => k_is)
    (case v_U => exact .cons ⟨_, rfl⟩ .nil)
    (case a_MODES => k_is)
    (case l_MODES => k_is)
    (case v_MODES => exact ⟨by decide, .cons ⟨_, rfl⟩ (.cons ⟨_, rfl⟩ (.cons ⟨_, rfl⟩ (.cons ⟨_, rfl⟩ (.cons ⟨_, rfl⟩ .nil))))⟩)
    (case a_MIR => k_is)
    (case l_MIR => k_is)
    (case h_MIR => k_keys)
    (case d_down => k_is)
    (case r_down => exact ⟨_, rfl⟩)
    (case d_up => k_is)
    (case r_up => exact ⟨_, rfl⟩)
    (case d_half_down => k_is)
    (case r_half_down => exact ⟨_, rfl⟩)
    (case d_half_up => k_is)
    (case r_half_up => exact ⟨_, rfl⟩)
    (case d_half_even => k_is)
    (case r_half_even => exact ⟨_, rfl⟩)
#print axioms PySem.Challenge.cw_handedtext_k58_doors_of_orders_holds
