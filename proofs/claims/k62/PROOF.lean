import PyProof.Rows.All
import Wide.All
import OpenK.AllK
import Wide.FinOn
import HandS.CallSlots
import HandS.Deep
import HandS.Defaults
import HandS.Exc
import HandS.ExcField
import HandS.ExcInit
import HandS.ExcIs
import HandS.ExcValue
import HandS.ForMost
import HandS.HotCalls
import HandS.IsInst
import HandS.MakeKwOnly
import HandS.More
import HandS.NoneIn
import HandS.RaiseFrom
import HandS.ReplaceLit
import HandS.StrMore
import HandS.Style
import HandS.SuiteRaise
import HandS.TryOnly
import HandS.Wide
import HandS.WideBits
import HandS.WordsExc
import KE.KEqDeep
import KE.KEqSeq
import KE.KExcIs
import HandS.Gcd
import HandS.SortKw
import KE.DataMinMax
import PySem.Challenge.RW_handedtext_k62_whole_efforts
set_option Elab.async false
set_option linter.all false
set_option maxRecDepth 100000
set_option maxHeartbeats 4000000
set_option exponentiation.threshold 9000
open PySem L2
local macro_rules | `(tactic| walk_at "rd") => `(tactic| repeat (first | refine ⟨_, rfl, ?_⟩ | refine ⟨_, _, rfl, rfl, ?_⟩ | refine .inl ⟨_, rfl, ?_⟩))
namespace L2
open PySem PySem.Spec PyProof.Rows
/-- an error that was caught and kept, at a -/
def ExK (cls : Value) (a : Addr) : HO := .ext fun hp => ∃ (rec' : Obj) (cells : Array Value), hp.get? a = some rec' ∧ Zc cls none rec' ∧ rec'.data = .fields cells
/-- wKeep: what 'except x as n' wishes, where the error stays tracked behind the suite -/
def wKeep (K : PySem.W.Frag) (c : Value) (i : Nat) (ts : Addr → Value → Option Addr → TS) (Wout : WX) (D : Ends) : WX := fun kl dd st H =>
  ∃ yes, PySem.W.exmOne K kl c = some yes ∧ (yes = true → dd = none ∧ ∀ a, H a = none → ts a kl dd { nx := fun st' H' => D.nx (st'.set i none) (upd H' a (ExK kl a)), rt := D.rt, bk := fun st' H' => D.bk (st'.set i none) H', ct := fun st' H' => D.ct (st'.set i none) H' } (st.set i (some (.ref a))) H) ∧
    (yes = false → Wout kl dd st H)
section
variable {X : Cx} {pins : List (Addr × Obj)} {st : St} {H : Hp} {sh : Shared}
theorem Inv.adopt {a : Addr} {kl : Value} {rc : Obj} {cells : Array Value} (iv : Inv X pins st H sh) (new0 : X.s_0.heap.get? a = none) (free : H a = none) (at0 : sh.heap.get? a = some rc) (zc : Zc kl none rc) (fl : rc.data = .fields cells) (nl : a ≠ X.env.locals)
    (np : ∀ p ∈ X.pn ++ pins, p.1 ≠ a) : Inv X pins st (upd H a (ExK kl a)) sh := by
  have old : ∀ c rr, X.s_0.heap.get? c = some rr → c ≠ a := fun c rr e z => by
    rw [z, new0] at e
    cases e
  have other : ∀ c u, H c = some u → upd H a (ExK kl a) c = some u := fun c u e => (upd_ne (ne_of_none e free)).trans e
  refine ⟨iv.ok, iv.os, iv.bare, ⟨iv.base.keep, iv.base.slot, fun c rr e n0 nx => ?_, iv.base.there, fun c xs e => other _ _ (iv.base.tups c xs e), fun c rr u e => other _ _ (iv.base.frzs c rr u e), fun c ps e => ?_⟩, iv.loc, iv.cell, ?_, fun y c e => ?_, fun p hp => ?_, fun c u e => ?_, iv.len⟩
  · exact (upd_ne (old c rr e)).trans (iv.base.free c rr e n0 nx)
  · obtain ⟨more, e2⟩ := iv.base.tbls c ps e
    exact ⟨more, other _ _ e2⟩
  · exact (upd_ne nl.symm).trans iv.free
  · obtain ⟨w, rr, e2, e3⟩ := iv.cell y c e
    refine (upd_ne fun z => ?_).trans (iv.freeC y c e)
    subst z
    rw [at0] at e2
    cases e2
    simp [fl] at e3
  · obtain ⟨e1, e2, e3, e4, e5⟩ := iv.pin p hp
    exact ⟨e1, (upd_ne (np p hp)).trans e2, e3, e4, e5⟩
  · by_cases ca : c = a
    · subst ca
      rw [upd_same] at e
      cases e
      exact ⟨⟨rc, cells, at0, zc, fl⟩, ⟨rc, at0⟩, fun _ _ ⟨r2, c2, e2, e3⟩ same => ⟨r2, c2, same _ e2, e3⟩⟩
    · rw [upd_ne ca] at e
      exact (iv.hok c u e).stay (fun _ _ _ e2 => e2) (fun c2 e2 => other _ _ e2) fun c2 xs e2 => other _ _ e2
end
end L2
namespace L2
open PySem PySem.Spec PyProof.Rows
section
variable {X : Cx} {x n : Str} {c : Value} {i : Nat} {body suite : List Stmt} {first : Stmt} {np pos pos' : Pos} {tb : WX → TS} {ts : Addr → Value → Option Addr → TS} {Wout : WX}
/-- try: .. except x as n: suite; the caught error stays tracked behind it -/
theorem ps_try_keep (stk : X.stack = X.env :: X.outer) (frm : X.env.frame = some X.env.locals) (noex : X.ex = []) (dist : X.N.Nodup) (slot : X.N[i]? = some n) (loc : X.env.kindOf n = some .local) (nam : Names X x c) (tk : Takes X Wout)
    (inner : ∀ (W : WX) (pn : List (Addr × Obj)) (xe : Value → Shared → Prop), Takes (X.tr pn xe) W → PassesOwn (model X.prog X.w) X.A X.env xe → PSs (X.tr pn xe) body (tb W))
    (caught : ∀ (a : Addr) (rc : Obj) (kl : Value) (dd : Option Addr) (pn : List (Addr × Obj)), Zc kl dd rc → (∃ cells, rc.data = .fields cells) → PSs (X.suite a ((a, rc) :: pn)) (first :: suite) (ts a kl dd)) :
    PS X (.Try body [.ExceptHandler (some (.Name x np)) (some n) (first :: suite) pos'] [] [] pos) (fun D st H => tb (wKeep X.K c i ts Wout D) D st H) where
  run := fun pins sh st H D iv want => by
    have fine := iv.ok
    have frames : X.A.frames = some (X.env :: X.outer) := by rw [fine.frames, stk]
    refine wpAny_Try_except (wpAny_mono ((inner (wKeep X.K c i ts Wout D) (X.pn ++ pins) _ (fun u sh' air => ?_) PassesOwn.looking).run [] sh st H D (iv.toTry _) want) ?_ fun _ _ e => e)
    · obtain ⟨a, B, shI, pins', st1, H1, kl, dd, rfl, ivT, inB, upTo, sky, freeA, sameOs, bareG, yes, dec, onYes, onNo⟩ := air
      have iv1 : Inv X pins st1 H1 shI := ivT.ofTry fine
      rw [stk] at sky
      refine Sky.land Zc.steady frames frm sky fun hp3 fly3 up3 => ?_
      have bNone : B.get? a = none := fly3.2.1
      have iv3 : Inv X pins st1 H1 { sh' with heap := hp3 } := iv1.landed inB fly3.1 (upTo.trans up3) sameOs bareG
      obtain ⟨rc3, cells3, at3, zc3, dt3⟩ := fly3.there
      have offFrames : a ∉ frs (X.env :: X.outer) := fun mem => by
        obtain ⟨_, r2, e2, bad⟩ := fly3.2.2.1.mem mem
        rw [at3] at e2
        cases e2
        exact bad _ dt3
      have offL : a ≠ X.env.locals := fun z => offFrames (List.mem_filterMap.mpr ⟨X.env, List.mem_cons_self, by rw [frm, z]⟩)
      have offF : a ∉ X.fs := fun mem => by
        obtain ⟨ee, inn, ef⟩ := List.mem_filterMap.mp mem
        exact offFrames (List.mem_filterMap.mpr ⟨ee, List.mem_cons_of_mem _ inn, ef⟩)
      have notThere : shI.heap.get? a = none := by
        cases e : shI.heap.get? a with
        | none => rfl
        | some rr =>
          have z := inB a rr e (by rw [stk]; exact offFrames)
          rw [bNone] at z
          cases z
      have new0 : X.s_0.heap.get? a = none := by
        cases e : X.s_0.heap.get? a with
        | none => rfl
        | some rr =>
          obtain ⟨r2, e2⟩ := iv1.base.there a rr e (by rw [noex]; exact List.not_mem_nil)
          rw [notThere] at e2
          cases e2
      have pinsOff : ∀ p ∈ X.pn ++ pins, p.1 ≠ a := fun p hp z => by
        have e2 := (iv1.pin p hp).1
        rw [z, notThere] at e2
        cases e2
      have inSuite := iv3.suite at3 dt3 freeA offL offF
      refine wpAny_handleBy_cons (codeAny_handlers_test ?_) (by intro q; cases q)
      have theClass : PySem.W.Looks (model X.prog X.w) hp3 (typeOf (.ref a)) kl := fun A' Q' E' s' kk qq => wpAny_typeOf_ref (kk _ _ at3) (by rw [zc3.1]; exact qq)
      have theTest := PySem.W.exm_one (M := model X.prog X.w) iv3.kIn theClass dec
      have clause : ∀ {Q' : Value → Shared → Prop} {E' : Value → Shared → Prop}, Q' c { sh' with heap := hp3 } → wpAny (model X.prog X.w) (X.A.mark (some (.ref a))) (eval (.Name x np) X.env) Q' E' { sh' with heap := hp3 } := fun {Q' E'} qq => by
        obtain ⟨g1, g2, g3 | ⟨g3, g4, g5⟩⟩ := nam
        · exact ld_glob (X := X.suite a ((a, rc3) :: (X.pn ++ pins))) inSuite g1 g3 qq g2
        · exact ld_blt (X := X.suite a ((a, rc3) :: (X.pn ++ pins))) inSuite g1 g3 g4 qq g5 g2
      refine clause (theTest.here ?_)
      cases yes with
      | true =>
        obtain ⟨rfl, go⟩ := onYes rfl
        refine codeAny_handlers_suite_as (HandSPX.lands_againZ fly3 fun hp4 fly4 up4 => ?_)
        have iv4 : Inv X pins st1 H1 { sh' with heap := hp4 } := iv1.landed inB fly4.1 ((upTo.trans up3).trans up4) sameOs bareG
        obtain ⟨rc4, cells4, at4, zc4, dt4⟩ := fly4.there
        refine store_ok (X := X.suite a ((a, rc4) :: (X.pn ++ pins))) (v := .ref a) (iv4.suite at4 dt4 freeA offL offF) dist slot (.inl loc) rfl (fun sh5 iv5 => ?_) (.inr loc)
        refine wpAny_mono ((caught a rc4 kl none (X.pn ++ pins) zc4 ⟨_, dt4⟩).run [] sh5 _ H1 _ iv5 (go a freeA)) (fun flow sh6 came => ?_) fun _ _ z => z.elim
        cases flow with
        | next =>
          obtain ⟨st6, H6, iv6, q6⟩ := came
          have more : Inv X ((a, rc4) :: pins) st6 H6 sh6 := ⟨fine, iv6.os, iv6.bare, iv6.base, iv6.loc, iv6.cell, iv6.free, iv6.freeC, fun p hp => iv6.pin p (List.mem_append_left _ ?_), iv6.hok, iv6.len⟩
          refine gone_ok more dist slot loc fun sh7 iv7 => ?_
          have there : (a, rc4) ∈ X.pn ++ (a, rc4) :: pins := List.mem_append_right _ List.mem_cons_self
          obtain ⟨e1, e2, e3, _⟩ := iv7.pin (a, rc4) there
          have less : Inv X pins (st6.set i none) H6 sh7 := ⟨fine, iv7.os, iv7.bare, iv7.base, iv7.loc, iv7.cell, iv7.free, iv7.freeC, fun p hp => iv7.pin p ?_, iv7.hok, iv7.len⟩
          · exact ⟨_, _, less.adopt new0 e2 e1 zc4 dt4 e3 pinsOff, q6⟩
          · rcases List.mem_append.mp hp with hq | hq
            · exact List.mem_append_left _ hq
            · exact List.mem_append_right _ (List.mem_cons_of_mem _ hq)
          · rcases List.mem_append.mp hp with hq | hq
            · exact List.mem_cons_of_mem _ (List.mem_append_left _ hq)
            · rcases List.mem_cons.mp hq with hr | hr
              · rw [hr]; exact List.mem_cons_self
              · exact List.mem_cons_of_mem _ (List.mem_append_right _ hr)
        | brk =>
          obtain ⟨st6, H6, iv6, q6⟩ := came
          exact gone_ok (iv6.unsuite fine) dist slot loc fun sh7 iv7 => ⟨_, _, iv7, q6⟩
        | cont =>
          obtain ⟨st6, H6, iv6, q6⟩ := came
          exact gone_ok (iv6.unsuite fine) dist slot loc fun sh7 iv7 => ⟨_, _, iv7, q6⟩
        | ret u =>
          obtain ⟨v6, st6, H6, iv6, r6, q6⟩ := came
          exact gone_ok (iv6.unsuite fine) dist slot loc fun sh7 iv7 => ⟨_, _, _, iv7, r6, q6⟩
      | false =>
        show wpAny _ X.A (handleBy (.ref a) X.env []) _ _ _
        refine wpAny_handleBy_nil ?_
        obtain ⟨_, _, _, rc5, cells5, tr5, _, _, at5, _, dt5, at1, _⟩ := id fly3
        unfold PySem.passOn
        refine wpAny_bind (wpAny_field at5 dt5 at1 ?_)
        rw [if_neg (by simp : ¬ (Value.ref tr5 == Value.none) = true)]
        have out : wpAny (model X.prog X.w) X.A (setFlight (.ref a) X.env.frame) (fun _ sh8 => wpAny (model X.prog X.w) X.A (throw (.ref a) : Sem Flow) (SP X pins D) X.xe sh8) X.xe { sh' with heap := hp3 } := by
          rw [frm]
          refine HandSPX.setFlight_upZ fly3 fun hp8 held up8 => wpAny_throw (tk _ _ ?_)
          exact ⟨a, B, shI, pins, st1, H1, kl, dd, rfl, iv1, inB, (upTo.trans up3).trans up8, .inr (.inr (by rw [stk]; exact held)), freeA, sameOs, bareG, onNo rfl⟩
        first
          | exact wpAny_bind out
          | exact wpAny_bind (wpAny_pure (wpAny_bind out))
    · intro flow sh1 came
      cases flow with
      | next =>
        obtain ⟨st1, H1, iv1, q1⟩ := came
        exact wpAny_execs_nil ⟨st1, H1, iv1.ofTry fine, q1⟩
      | brk =>
        obtain ⟨st1, H1, iv1, q1⟩ := came
        exact ⟨st1, H1, iv1.ofTry fine, q1⟩
      | cont =>
        obtain ⟨st1, H1, iv1, q1⟩ := came
        exact ⟨st1, H1, iv1.ofTry fine, q1⟩
      | ret u =>
        obtain ⟨v1, st1, H1, iv1, r1, q1⟩ := came
        exact ⟨v1, st1, H1, iv1.ofTry fine, r1, q1⟩
end
end L2
namespace L2
open PySem PySem.Spec PyProof.Rows
/-- what the written part says of an error class, for isinstance -/
structure ErrC (K : PySem.W.Frag) (C : Addr) : Prop where
  cl : (PySem.W.clsIn K C).isSome = true
  ga : PySem.W.findIn K (.ref C) "__getattribute__" = some (some (.builtin "BaseException.__getattribute__"))
  gg : PySem.W.findIn K (.ref C) "__getattr__" = some none
  sb : PySem.W.subIn K (.ref C) (.type "BaseException") = some true
  cn : PySem.W.findIn K (.ref C) "__class__" = some (some (.builtin "object.__class__"))
  mo : PySem.W.mroIn K C (.type "object") = some true
/-- .. of the attribute __class__ of all objects -/
structure ErrG (K : PySem.W.Frag) : Prop where
  sp : PySem.W.specialIn K (.builtin "object.__class__") "__get__" = some (some (.builtin "getset_descriptor.__get__"))
  tk : PySem.W.takesIn K (.builtin "object.__class__") = some true
def rIsKept (K : PySem.W.Frag) : List V → Hp → VK → Prop := fun xs H Q => ∃ (a C : Addr) (c : V) (cv : Value) (b : Bool), xs = [.ref a, c] ∧ ClsV c cv ∧ H a = some (ExK (.ref C) a) ∧ ErrC K C ∧ ErrG K ∧ PySem.W.kitOne K (.ref C) cv = some b ∧ Q (.bl b) H
theorem call_isKept {X : Cx} : CallR X (.builtin "isinstance") (rIsKept X.K) := by
  intro pins sh st H xs us Q iv r h
  obtain ⟨a, C, c, cv, b, rfl, k, at', T, G, e, q⟩ := h
  obtain ⟨u1, u2, rfl, r1, r2⟩ := vals2 r
  have e2 := k.eq r2
  subst e2
  obtain rfl : u1 = Value.ref a := r1
  obtain ⟨⟨oe, vs, ho, hz, hd⟩, _, _⟩ := iv.hok a _ at'
  have J : PySem.W.InstAt sh.heap a oe C none := by
    obtain ⟨oc, od, oda, osl⟩ := oe
    obtain ⟨h1, h2⟩ := hz
    dsimp only at h1 h2 hd
    subst h1 h2 hd
    exact ⟨ho, rfl, rfl, trivial⟩
  exact PySem.W.kia_one (PySem.W.kitx_exc T.cl T.ga T.gg T.sb T.cn G.sp G.tk T.mo) iv.kIn J e (fun z => nomatch z) fun tk => ⟨.bl b, H, iv.tok tk, rfl, q⟩
end L2
namespace L2
open PySem PySem.Spec PyProof.Rows
/-- a def of which any kind of error may come -/
theorem Fun.okAny {CX' : CXT} {P : Program} {w : World} {K : PySem.W.Frag} {mg : Str → Option Value} {base : Heap} {nm qu : Str} {row : Stmt} {at0 : Addr} {fd : FuncData} {names pars : List Str} {lev : Nat} {want : Sp} (F : Fun K nm qu row at0 fd) (S : FnScope names pars (defScope row)) (len : ∀ vs H Q E, want vs H Q E → vs.length = pars.length)
    (body : ∀ (code : Value) (A : Around) (outer : List Env) (sh : Shared) (H : Hp) (vs : List V) (Q : VK) (E : XK), Room lev (A.deeper (envOfC qu (defScope row) sh.heap.objs.size at0 code)) → want vs H Q E →
      ∃ t, PSs (cxOf CX' P w K mg base names qu (defScope row) at0 code A outer sh H E) (defBody row) t ∧ t { nx := fun _ H' => Q .non H', rt := Q } (start names vs) H) : FnOk P w K mg base CX' (lev + 1) at0 fd pars want := by
  obtain ⟨_, _, _, _, _, _, code, _, _, rfl, there, isCode⟩ := F.ex
  exact fn_of there isCode S len (body code)
/-- X('..') of an own class, for a raise .. from None -/
theorem pmk5_own {X : Cx} {C : Addr} {bmB : List Value} {B newId initId : String} {x m : Str} {j : Nat} {p p2 pos : Pos} (F : ExcBaseFacts B newId initId bmB) (q : PySem.W.excIn X.K C bmB newId = true) (gC : X.mg x = some (.ref C)) (kC : PySem.W.keepIn X.K (.ref C) = true) (r : Raises X (.ref C)) (hg : Gl X x)
    (plain : (x == ("__debug__" : Str)) = false := by decide) : L2H.PMk5 X (.Call (.Name x p) [.Constant (.str m) j p2] [] pos) (fun _ H Q => Q (.ref C) none H) := by
  intro pins sh st H Q iv want
  have arg : PA X [.Constant (.str m) j p2] (tCons (tC (.str m)) tNil) := pa_cons pe_str pa_nil
  refine wpAny_Call_Name_kw (ld_glob iv hg gC (PySem.W.callWith_K (h₀ := X.base) iv.ok.mod.kin kC (thn (arg.run pos pins sh st H (fun vs H1 => vs = [V.str m] ∧ H = H1) iv ⟨rfl, rfl⟩) ?_)) plain)
  rintro us sh1 ⟨vs, H1, iv1, rel, rfl, rfl⟩
  refine ⟨iv1.kIn, ?_⟩
  match us, rel with
  | [u], .cons _ .nil =>
    show wpAny _ _ (call (.ref C) [u]) _ _ _
    obtain ⟨_, _, _, _, _, _, _, _, _, _, _, _, _, _, _, _, _, hC, hN, hni, T⟩ := exc_obj iv1.kIn q
    exact wpAny_call_exc_subT F T hC hN hni (fun h' e made => L2H.mk_of5 iv1 made r want (iv1.hok.gone made.new)) (by show 1 ≤ sizeLine; decide)
/-- try: .. except x: suite, the suite raising: ps_try_onlyX with its reading under a name, for a loop around it -/
def tTryX (K : PySem.W.Frag) (c : Value) (ts : Addr → Value → Option Addr → TS) (Wout : WX) (tb : WX → TS) : TS := fun D st H => tb (wOnly K c ts Wout D) D st H
theorem ps_tryX {X : Cx} {x : Str} {c : Value} {body suite : List Stmt} {first : Stmt} {np pos pos' : Pos} {tb : WX → TS} {ts : Addr → Value → Option Addr → TS} {Wout : WX} (h1 : X.stack = X.env :: X.outer) (h2 : X.env.frame = some X.env.locals) (h3 : Names X x c)
    (h4 : ∀ hd : Option Value, PassesOwnAt (model X.prog X.w) (X.A.mark hd) X.A X.env X.xe) (h5 : L2.Takes X Wout)
    (h6 : ∀ (W : WX) (pn : List (Addr × Obj)) (xe : Value → Shared → Prop), L2N.Takes (X.tr pn xe) W → L2.Takes (X.tr pn xe) (L2H.wPass X.K c Wout) → PassesOwn (model X.prog X.w) X.A X.env xe → PSs (X.tr pn xe) body (tb W))
    (h7 : ∀ (a : Addr) (oe : Obj) (cls : Value) (d : Option Addr) (pn : List (Addr × Obj)), L2N.Zn cls d oe → (∃ vs, oe.data = .fields vs) → L2.Takes (L2H.suiteX X a ((a, oe) :: pn)) Wout → L2H.HotC (L2H.suiteX X a ((a, oe) :: pn)) → PSs (L2H.suiteX X a ((a, oe) :: pn)) (first :: suite) (ts a cls d)) :
    PS X (.Try body [.ExceptHandler (some (.Name x np)) none (first :: suite) pos'] [] [] pos) (tTryX X.K c ts Wout tb) := L2H.ps_try_onlyX h1 h2 h3 h4 h5 h6 h7
end L2
namespace HT
open PySem L2
def top (i : Nat) : Stmt := PySem.Challenge.pw_handedtext_k62_whole_efforts.main.body.getD i (.Pass ⟨0, 0, 0, 0⟩)
abbrev s_is_int : Stmt := top 9
abbrev s_is_int_between : Stmt := top 10
abbrev s_check_value : Stmt := top 11
abbrev s_check_side : Stmt := top 15
abbrev s_is_side : Stmt := top 16
abbrev s_figure : Stmt := top 17
abbrev s_goes_up : Stmt := top 18
abbrev s_written : Stmt := top 19
abbrev s_stands : Stmt := top 20
abbrev s_span : Stmt := top 21
abbrev s_uspan : Stmt := top 22
abbrev s_below : Stmt := top 23
abbrev s_threshold : Stmt := top 24
abbrev s_mirror : Stmt := top 25
abbrev s_form : Stmt := top 26
abbrev s_first_mode : Stmt := top 27
abbrev s_check_sides : Stmt := top 30
abbrev s_period_of : Stmt := top 31
abbrev s_common_period : Stmt := top 32
abbrev s_raisers : Stmt := top 33
abbrev s_raises_some : Stmt := top 34
abbrev s_highest : Stmt := top 35
abbrev s_mirrors : Stmt := top 36
abbrev s_first_hit : Stmt := top 38
abbrev s_first_between : Stmt := top 39
abbrev s_unraised : Stmt := top 41
abbrev s_first_in_block : Stmt := top 42
abbrev s_first_in_both : Stmt := top 43
abbrev s_wide_and_narrow : Stmt := top 45
abbrev s_rounds_up : Stmt := top 46
abbrev s_reach : Stmt := top 49
abbrev s_check_few : Stmt := top 50
abbrev s_first_unraised : Stmt := top 51
abbrev s_first_unraised_by_two : Stmt := top 52
abbrev s_within : Stmt := top 56
abbrev s_highest_within : Stmt := top 57
abbrev s_continued : Stmt := top 58
abbrev s_efforts : Stmt := top 59
abbrev s_fewest_up : Stmt := top 60
abbrev s_fewest_up_by_two : Stmt := top 61
abbrev s_L_source : Stmt := top 63
abbrev s_L_draw : Stmt := top 64
abbrev s_L_pick : Stmt := top 65
abbrev s_L_divisor : Stmt := top 66
abbrev s_L_great : Stmt := top 67
abbrev s_L_small_side : Stmt := top 68
abbrev s_L_figure : Stmt := top 69
abbrev s_L_handed : Stmt := top 70
abbrev s_L_period : Stmt := top 71
abbrev s_L_set : Stmt := top 72
abbrev s_L_written : Stmt := top 73
abbrev s_L_great_side : Stmt := top 74
abbrev s_L_count : Stmt := top 75
abbrev s_L_fits : Stmt := top 76
abbrev s_L_great_fits : Stmt := top 77
abbrev s_L_word : Stmt := top 78
abbrev s_law : Stmt := top 79
/- is_int: 0:thing -/
theorem sc_is_int : FnScope ["thing"] ["thing"] (defScope s_is_int) := ⟨rfl, rfl, rfl, by decide +kernel, rfl, by decide +kernel, by decide +kernel⟩
/- is_int_between: 0:thing 1:least 2:most -/
theorem sc_is_int_between : FnScope ["thing", "least", "most"] ["thing", "least", "most"] (defScope s_is_int_between) := ⟨rfl, rfl, rfl, by decide +kernel, rfl, by decide +kernel, by decide +kernel⟩
/- check_value: 0:value -/
theorem sc_check_value : FnScope ["value"] ["value"] (defScope s_check_value) := ⟨rfl, rfl, rfl, by decide +kernel, rfl, by decide +kernel, by decide +kernel⟩
/- check_side: 0:side 1:offset 2:step 3:mode -/
theorem sc_check_side : FnScope ["side", "offset", "step", "mode"] ["side"] (defScope s_check_side) := ⟨rfl, rfl, rfl, by decide +kernel, rfl, by decide +kernel, by decide +kernel⟩
/- is_side: 0:thing -/
theorem sc_is_side : FnScope ["thing"] ["thing"] (defScope s_is_side) := ⟨rfl, rfl, rfl, by decide +kernel, rfl, by decide +kernel, by decide +kernel⟩
/- _figure: 0:side 1:value 2:offset 3:step 4:mode 5:figure 6:rest -/
theorem sc_figure : FnScope ["side", "value", "offset", "step", "mode", "figure", "rest"] ["side", "value"] (defScope s_figure) := ⟨rfl, rfl, rfl, by decide +kernel, rfl, by decide +kernel, by decide +kernel⟩
/- _goes_up: 0:mode 1:step 2:figure 3:rest -/
theorem sc_goes_up : FnScope ["mode", "step", "figure", "rest"] ["mode", "step", "figure", "rest"] (defScope s_goes_up) := ⟨rfl, rfl, rfl, by decide +kernel, rfl, by decide +kernel, by decide +kernel⟩
/- written: 0:side 1:value 2:offset 3:step 4:_ -/
theorem sc_written : FnScope ["side", "value", "offset", "step", "_"] ["side", "value"] (defScope s_written) := ⟨rfl, rfl, rfl, by decide +kernel, rfl, by decide +kernel, by decide +kernel⟩
/- stands: 0:side 1:value 2:offset 3:step 4:_ -/
theorem sc_stands : FnScope ["side", "value", "offset", "step", "_"] ["side", "value"] (defScope s_stands) := ⟨rfl, rfl, rfl, by decide +kernel, rfl, by decide +kernel, by decide +kernel⟩
/- span: 0:side 1:figure -/
theorem sc_span : FnScope ["side", "figure"] ["side", "figure"] (defScope s_span) := ⟨rfl, rfl, rfl, by decide +kernel, rfl, by decide +kernel, by decide +kernel⟩
/- _span: 0:side 1:figure 2:offset 3:step 4:mode 5:value -/
theorem sc_uspan : FnScope ["side", "figure", "offset", "step", "mode", "value"] ["side", "figure"] (defScope s_uspan) := ⟨rfl, rfl, rfl, by decide +kernel, rfl, by decide +kernel, by decide +kernel⟩
/- _below: 0:mode 1:step 2:figure -/
theorem sc_below : FnScope ["mode", "step", "figure"] ["mode", "step", "figure"] (defScope s_below) := ⟨rfl, rfl, rfl, by decide +kernel, rfl, by decide +kernel, by decide +kernel⟩
/- threshold: 0:side 1:value 2:offset 3:step 4:mode 5:figure -/
theorem sc_threshold : FnScope ["side", "value", "offset", "step", "mode", "figure"] ["side", "value"] (defScope s_threshold) := ⟨rfl, rfl, rfl, by decide +kernel, rfl, by decide +kernel, by decide +kernel⟩
/- mirror: 0:side 1:offset 2:step 3:mode -/
theorem sc_mirror : FnScope ["side", "offset", "step", "mode"] ["side"] (defScope s_mirror) := ⟨rfl, rfl, rfl, by decide +kernel, rfl, by decide +kernel, by decide +kernel⟩
/- form: 0:side 1:offset 2:step 3:mode 4:first -/
theorem sc_form : FnScope ["side", "offset", "step", "mode", "first"] ["side"] (defScope s_form) := ⟨rfl, rfl, rfl, by decide +kernel, rfl, by decide +kernel, by decide +kernel⟩
/- _first_mode: 0:step 1:mode -/
theorem sc_first_mode : FnScope ["step", "mode"] ["step", "mode"] (defScope s_first_mode) := ⟨rfl, rfl, rfl, by decide +kernel, rfl, by decide +kernel, by decide +kernel⟩
/- check_sides: 0:sides 1:side -/
theorem sc_check_sides : FnScope ["sides", "side"] ["sides"] (defScope s_check_sides) := ⟨rfl, rfl, rfl, by decide +kernel, rfl, by decide +kernel, by decide +kernel⟩
/- period_of: 0:side 1:_ 2:step 3:mode -/
theorem sc_period_of : FnScope ["side", "_", "step", "mode"] ["side"] (defScope s_period_of) := ⟨rfl, rfl, rfl, by decide +kernel, rfl, by decide +kernel, by decide +kernel⟩
/- common_period: 0:sides 1:many 2:side -/
theorem sc_common_period : FnScope ["sides", "many", "side"] ["sides"] (defScope s_common_period) := ⟨rfl, rfl, rfl, by decide +kernel, rfl, by decide +kernel, by decide +kernel⟩
/- raisers: 0:sides 1:side -/
theorem sc_raisers : FnScope ["sides", "side"] ["sides"] (defScope s_raisers) := ⟨rfl, rfl, rfl, by decide +kernel, rfl, by decide +kernel, by decide +kernel⟩
/- _raises_some: 0:side 1:_ 2:mode -/
theorem sc_raises_some : FnScope ["side", "_", "mode"] ["side"] (defScope s_raises_some) := ⟨rfl, rfl, rfl, by decide +kernel, rfl, by decide +kernel, by decide +kernel⟩
/- highest: 0:sides 1:value 2:side -/
theorem sc_highest : FnScope ["sides", "value", "side"] ["sides", "value"] (defScope s_highest) := ⟨rfl, rfl, rfl, by decide +kernel, rfl, by decide +kernel, by decide +kernel⟩
/- mirrors: 0:sides 1:side -/
theorem sc_mirrors : FnScope ["sides", "side"] ["sides"] (defScope s_mirrors) := ⟨rfl, rfl, rfl, by decide +kernel, rfl, by decide +kernel, by decide +kernel⟩
/- first_hit: 0:start 1:step 2:most 3:modulus 4:least 5:greatest -/
theorem sc_first_hit : FnScope ["start", "step", "most", "modulus", "least", "greatest"] ["start", "step", "most", "modulus"] (defScope s_first_hit) := ⟨rfl, rfl, rfl, by decide +kernel, rfl, by decide +kernel, by decide +kernel⟩
/- _first_between: 0:step 1:least 2:greatest 3:modulus 4:many 5:rounds -/
theorem sc_first_between : FnScope ["step", "least", "greatest", "modulus", "many", "rounds"] ["step", "least", "greatest", "modulus"] (defScope s_first_between) := ⟨rfl, rfl, rfl, by decide +kernel, rfl, by decide +kernel, by decide +kernel⟩
/- unraised: 0:side 1:least 2:offset 3:step 4:_ 5:period 6:blocks 7:figure 8:low 9:high 10:start -/
theorem sc_unraised : FnScope ["side", "least", "offset", "step", "_", "period", "blocks", "figure", "low", "high", "start"] ["side", "least"] (defScope s_unraised) := ⟨rfl, rfl, rfl, by decide +kernel, rfl, by decide +kernel, by decide +kernel⟩
/- first_in_block: 0:block 1:value 2:start 3:most 4:period 5:past -/
theorem sc_first_in_block : FnScope ["block", "value", "start", "most", "period", "past"] ["block", "value"] (defScope s_first_in_block) := ⟨rfl, rfl, rfl, by decide +kernel, rfl, by decide +kernel, by decide +kernel⟩
/- first_in_both: 0:one 1:other 2:value 3:start 4:most 5:period 6:begin 7:found 8:other_start 9:other_most 10:other_period 11:many -/
theorem sc_first_in_both : FnScope ["one", "other", "value", "start", "most", "period", "begin", "found", "other_start", "other_most", "other_period", "many"] ["one", "other", "value"] (defScope s_first_in_both) := ⟨rfl, rfl, rfl, by decide +kernel, rfl, by decide +kernel, by decide +kernel⟩
/- wide_and_narrow: 0:first 1:second -/
theorem sc_wide_and_narrow : FnScope ["first", "second"] ["first", "second"] (defScope s_wide_and_narrow) := ⟨rfl, rfl, rfl, by decide +kernel, rfl, by decide +kernel, by decide +kernel⟩
/- rounds_up: 0:wide 1:narrow 2:value 3:_ 4:step 5:turns 6:found 7:turn 8:place 9:least 10:start 11:most 12:period 13:many -/
theorem sc_rounds_up : FnScope ["wide", "narrow", "value", "_", "step", "turns", "found", "turn", "place", "least", "start", "most", "period", "many"] ["wide", "narrow", "value"] (defScope s_rounds_up) := ⟨rfl, rfl, rfl, by decide +kernel, rfl, by decide +kernel, by decide +kernel⟩
/- reach: 0:sides 1:value 2:raising 3:lowering 4:least -/
theorem sc_reach : FnScope ["sides", "value", "raising", "lowering", "least"] ["sides", "value"] (defScope s_reach) := ⟨rfl, rfl, rfl, by decide +kernel, rfl, by decide +kernel, by decide +kernel⟩
/- _check_few: 0:raising -/
theorem sc_check_few : FnScope ["raising"] ["raising"] (defScope s_check_few) := ⟨rfl, rfl, rfl, by decide +kernel, rfl, by decide +kernel, by decide +kernel⟩
/- _first_unraised: 0:raising 1:value 2:end 3:worth -/
theorem sc_first_unraised : FnScope ["raising", "value", "end", "worth"] ["raising", "value"] (defScope s_first_unraised) := ⟨rfl, rfl, rfl, by decide +kernel, rfl, by decide +kernel, by decide +kernel⟩
/- _first_unraised_by_two: 0:first 1:second 2:value 3:found 4:one 5:other 6:near -/
theorem sc_first_unraised_by_two : FnScope ["first", "second", "value", "found", "one", "other", "near"] ["first", "second", "value"] (defScope s_first_unraised_by_two) := ⟨rfl, rfl, rfl, by decide +kernel, rfl, by decide +kernel, by decide +kernel⟩
/- within: 0:sides 1:value 2:many 3:greatest -/
theorem sc_within : FnScope ["sides", "value", "many", "greatest"] ["sides", "value", "many"] (defScope s_within) := ⟨rfl, rfl, rfl, by decide +kernel, rfl, by decide +kernel, by decide +kernel⟩
/- _highest_within: 0:sides 1:value 2:many 3:period 4:values 5:numbers 6:number 7:place -/
theorem sc_highest_within : FnScope ["sides", "value", "many", "period", "values", "numbers", "number", "place"] ["sides", "value", "many"] (defScope s_highest_within) := ⟨rfl, rfl, rfl, by decide +kernel, rfl, by decide +kernel, by decide +kernel⟩
/- _continued: 0:values 1:following 2:many 3:rounds 4:number -/
theorem sc_continued : FnScope ["values", "following", "many", "rounds", "number"] ["values", "following", "many"] (defScope s_continued) := ⟨rfl, rfl, rfl, by decide +kernel, rfl, by decide +kernel, by decide +kernel⟩
/- efforts: 0:sides 1:value 2:least 3:greatest 4:down 5:up -/
theorem sc_efforts : FnScope ["sides", "value", "least", "greatest", "down", "up"] ["sides", "value"] (defScope s_efforts) := ⟨rfl, rfl, rfl, by decide +kernel, rfl, by decide +kernel, by decide +kernel⟩
/- _fewest_up: 0:raising 1:value 2:many 3:worth -/
theorem sc_fewest_up : FnScope ["raising", "value", "many", "worth"] ["raising", "value"] (defScope s_fewest_up) := ⟨rfl, rfl, rfl, by decide +kernel, rfl, by decide +kernel, by decide +kernel⟩
/- _fewest_up_by_two: 0:first 1:second 2:value 3:wide 4:narrow 5:many 6:worth 7:rounds -/
theorem sc_fewest_up_by_two : FnScope ["first", "second", "value", "wide", "narrow", "many", "worth", "rounds"] ["first", "second", "value"] (defScope s_fewest_up_by_two) := ⟨rfl, rfl, rfl, by decide +kernel, rfl, by decide +kernel, by decide +kernel⟩
/- _law_source: 0:_law_script 1:_law_cells 2:_law_k -/
theorem sc_L_source : FnScope ["_law_script", "_law_cells", "_law_k"] ["_law_script"] (defScope s_L_source) := ⟨rfl, rfl, rfl, by decide +kernel, rfl, by decide +kernel, by decide +kernel⟩
/- _law_draw: 0:_law_source_here 1:_law_limit 2:_law_cells 3:_law_turn 4:_law_place 5:_law_cell 6:_law_number -/
theorem sc_L_draw : FnScope ["_law_source_here", "_law_limit", "_law_cells", "_law_turn", "_law_place", "_law_cell", "_law_number"] ["_law_source_here", "_law_limit"] (defScope s_L_draw) := ⟨rfl, rfl, rfl, by decide +kernel, rfl, by decide +kernel, by decide +kernel⟩
/- _law_pick: 0:_law_source_here 1:_law_values -/
theorem sc_L_pick : FnScope ["_law_source_here", "_law_values"] ["_law_source_here", "_law_values"] (defScope s_L_pick) := ⟨rfl, rfl, rfl, by decide +kernel, rfl, by decide +kernel, by decide +kernel⟩
/- _law_divisor: 0:_law_one 1:_law_other -/
theorem sc_L_divisor : FnScope ["_law_one", "_law_other"] ["_law_one", "_law_other"] (defScope s_L_divisor) := ⟨rfl, rfl, rfl, by decide +kernel, rfl, by decide +kernel, by decide +kernel⟩
/- _law_great: 0:_law_source_here 1:_law_digits 2:_law_number 3:_law_k -/
theorem sc_L_great : FnScope ["_law_source_here", "_law_digits", "_law_number", "_law_k"] ["_law_source_here", "_law_digits"] (defScope s_L_great) := ⟨rfl, rfl, rfl, by decide +kernel, rfl, by decide +kernel, by decide +kernel⟩
/- _law_small_side: 0:_law_source_here 1:_law_most 2:_law_offset -/
theorem sc_L_small_side : FnScope ["_law_source_here", "_law_most", "_law_offset"] ["_law_source_here", "_law_most"] (defScope s_L_small_side) := ⟨rfl, rfl, rfl, by decide +kernel, rfl, by decide +kernel, by decide +kernel⟩
/- _law_figure: 0:_law_side 1:_law_value 2:_law_offset 3:_law_step 4:_law_mode 5:_law_low 6:_law_rest -/
theorem sc_L_figure : FnScope ["_law_side", "_law_value", "_law_offset", "_law_step", "_law_mode", "_law_low", "_law_rest"] ["_law_side", "_law_value"] (defScope s_L_figure) := ⟨rfl, rfl, rfl, by decide +kernel, rfl, by decide +kernel, by decide +kernel⟩
/- _law_handed: 0:_law_side 1:_law_value -/
theorem sc_L_handed : FnScope ["_law_side", "_law_value"] ["_law_side", "_law_value"] (defScope s_L_handed) := ⟨rfl, rfl, rfl, by decide +kernel, rfl, by decide +kernel, by decide +kernel⟩
/- _law_period: 0:_law_sides 1:_law_period_here 2:_law_offset 3:_law_step 4:_law_mode 5:_law_length -/
theorem sc_L_period : FnScope ["_law_sides", "_law_period_here", "_law_offset", "_law_step", "_law_mode", "_law_length"] ["_law_sides"] (defScope s_L_period) := ⟨rfl, rfl, rfl, by decide +kernel, rfl, by decide +kernel, by decide +kernel⟩
/- _law_set: 0:_law_source_here 1:_law_most 2:_law_many 3:_law_k -/
theorem sc_L_set : FnScope ["_law_source_here", "_law_most", "_law_many", "_law_k"] ["_law_source_here", "_law_most", "_law_many"] (defScope s_L_set) := ⟨rfl, rfl, rfl, by decide +kernel, rfl, by decide +kernel, by decide +kernel⟩
/- _law_written: 0:_law_sides 1:_law_value 2:_law_one -/
theorem sc_L_written : FnScope ["_law_sides", "_law_value", "_law_one"] ["_law_sides", "_law_value"] (defScope s_L_written) := ⟨rfl, rfl, rfl, by decide +kernel, rfl, by decide +kernel, by decide +kernel⟩
/- _law_great_side: 0:_law_source_here 1:_law_step 2:_law_offset -/
theorem sc_L_great_side : FnScope ["_law_source_here", "_law_step", "_law_offset"] ["_law_source_here"] (defScope s_L_great_side) := ⟨rfl, rfl, rfl, by decide +kernel, rfl, by decide +kernel, by decide +kernel⟩
/- _law_count: 0:_law_sides 1:_law_value 2:_law_sign 3:_law_period_here 4:_law_begin 5:_law_many 6:_law_written_here 7:_law_after -/
theorem sc_L_count : FnScope ["_law_sides", "_law_value", "_law_sign", "_law_period_here", "_law_begin", "_law_many", "_law_written_here", "_law_after"] ["_law_sides", "_law_value", "_law_sign"] (defScope s_L_count) := ⟨rfl, rfl, rfl, by decide +kernel, rfl, by decide +kernel, by decide +kernel⟩
/- _law_fits: 0:_law_sides 1:_law_value 2:_law_factor 3:_law_one 4:_law_lifted 5:_law_found 6:_law_ends 7:_law_end -/
theorem sc_L_fits : FnScope ["_law_sides", "_law_value", "_law_factor", "_law_one", "_law_lifted", "_law_found", "_law_ends", "_law_end"] ["_law_sides", "_law_value", "_law_factor"] (defScope s_L_fits) := ⟨rfl, rfl, rfl, by decide +kernel, rfl, by decide +kernel, by decide +kernel⟩
/- _law_great_fits: 0:_law_sides 1:_law_value 2:_law_kept 3:_law_down 4:_law_up 5:_law_low 6:_law_high 7:_law_written_here 8:_law_many 9:_law_end 10:_law_place -/
theorem sc_L_great_fits : FnScope ["_law_sides", "_law_value", "_law_kept", "_law_down", "_law_up", "_law_low", "_law_high", "_law_written_here", "_law_many", "_law_end", "_law_place"] ["_law_sides", "_law_value"] (defScope s_L_great_fits) := ⟨rfl, rfl, rfl, by decide +kernel, rfl, by decide +kernel, by decide +kernel⟩
/- _law_word: 0:_law_sides 1:_law_value 2:_law_caught 3:e 4:_law_hits -/
theorem sc_L_word : FnScope ["_law_sides", "_law_value", "_law_caught", "e", "_law_hits"] ["_law_sides", "_law_value"] (defScope s_L_word) := ⟨rfl, rfl, rfl, by decide +kernel, rfl, by decide +kernel, by decide +kernel⟩
/- law: 0:_law_script 1:_law_source_here 2:_law_turn 3:_law_sides 4:_law_k 5:_law_value 6:_law_pair 7:_law_low 8:_law_high 9:_law_four 10:_law_at 11:_law_great_here 12:_law_bad -/
theorem sc_law : FnScope ["_law_script", "_law_source_here", "_law_turn", "_law_sides", "_law_k", "_law_value", "_law_pair", "_law_low", "_law_high", "_law_four", "_law_at", "_law_great_here", "_law_bad"] ["_law_script"] (defScope s_law) := ⟨rfl, rfl, rfl, by decide +kernel, rfl, by decide +kernel, by decide +kernel⟩

end HT
namespace L2
open PySem PySem.Spec PyProof.Rows
/-- powers of great numbers -/
def CPowW (i j : Int) : Prop := 0 ≤ j ∧ (Builtin.Int.intBits i : Int) * j ≤ 2 ^ 27
theorem op_powW {X : Cx} : OpR X (binaryOp .Pow) (rI CPowW fun i j => .int (i ^ j.toNat)) := opI fun _ _ _ _ _ _ _ hc q => pow_int hc.1 hc.2 q
end L2
namespace HT
open PySem L2
/-- the law's source of draws: a list of its cells' list and the turn -/
structure Src (H : Hp) (a c : Addr) (t : Nat) : Prop where
  ne : a ≠ c
  ob : H a = some (.lst [.ref c, .int (t : Int)])
  cl : ∃ cs : List Int, H c = some (.lst (cs.map V.int)) ∧ 0 < cs.length ∧ cs.length ≤ 63
/-- nothing else is touched -/
def Oth (a c : Addr) (H H' : Hp) : Prop := ∀ b o, H b = some o → b ≠ a → b ≠ c → H' b = some o
theorem Oth.refl (a c : Addr) (H : Hp) : Oth a c H H := fun _ _ h _ _ => h
theorem Oth.trans {a c : Addr} {H H1 H2 : Hp} (x : Oth a c H H1) (y : Oth a c H1 H2) : Oth a c H H2 := fun b o h n m => y b o (x b o h n m) n m
theorem Oth.new {a c p : Addr} {H H1 : Hp} {o : HO} (x : Oth a c H H1) (n : H1 p = none) : Oth a c H (upd H1 p o) := fun b u h na nc => by
  rw [upd_ne (ne_of_none (x b u h na nc) n)]
  exact x b u h na nc
theorem Src.new {a c p : Addr} {H : Hp} {t : Nat} {o : HO} (S : Src H a c t) (n : H p = none) : Src (upd H p o) a c t := by
  obtain ⟨cs, h, l⟩ := S.cl
  exact ⟨S.ne, by rw [upd_ne (ne_of_none S.ob n)]; exact S.ob, cs, by rw [upd_ne (ne_of_none h n)]; exact h, l⟩
theorem Src.of_same {a c : Addr} {H H' : Hp} {t : Nat} (S : Src H a c t) (e : Same H H') : Src H' a c t := by
  obtain ⟨cs, h, l⟩ := S.cl
  exact ⟨S.ne, e _ _ S.ob, cs, e _ _ h, l⟩
theorem Src.na {a c p : Addr} {H : Hp} {t : Nat} (S : Src H a c t) (n : H p = none) : p ≠ a ∧ p ≠ c := by
  obtain ⟨cs, h, l⟩ := S.cl
  exact ⟨(ne_of_none S.ob n).symm, (ne_of_none h n).symm⟩
theorem Src.nt {a c p : Addr} {H : Hp} {t : Nat} {xs : List V} (S : Src H a c t) (n : H p = some (.tup xs)) : p ≠ a ∧ p ≠ c := by
  obtain ⟨cs, h, l⟩ := S.cl
  exact ⟨ne_of n S.ob (by intro z; cases z), ne_of n h (by intro z; cases z)⟩
def spSource (K : PySem.W.Frag) : Sp := fun vs H Q _ => ∃ (l : Addr) (ns : List Int), vs = [.ref l] ∧ SqL K H l (ns.map V.int) ∧ ns.length ≤ 63 ∧
  ∀ a c H', Same H H' → H a = none → H c = none → Src H' a c 0 → Q (.ref a) H'
def spDraw : Sp := fun vs H Q _ => ∃ (a c : Addr) (t : Nat) (lim : Int), vs = [.ref a, .int lim] ∧ Src H a c t ∧ t < 2 ^ 30 ∧ 0 < lim ∧ lim.natAbs.log2 < 9000 ∧
  ∀ k H', 0 ≤ k → k < lim → Src H' a c (t + 1) → Oth a c H H' → Q (.int k) H'
/-- what the walk asks of the names that the text does not bind -/
structure Blt (mg : Str → Option Value) : Prop where
  len : mg "len" = none
  abs : mg "abs" = none
  int : mg "int" = none
  range : mg "range" = none
section
variable {P : Program} {w : World} {K : PySem.W.Frag} {mg : Str → Option Value} {base : Heap}
theorem fdiv_ok (i : Int) {j : Int} (h : 0 < j) (h9 : j.natAbs.log2 < 9000) : CDivW i j := ⟨h, h9⟩
theorem atI_in {xs : List Int} {i : Int} (h0 : 0 ≤ i) (h : i < (xs.length : Int)) : atI (xs.map V.int) i = some (.int (xs.getD i.toNat 0)) := by
  have e : ixN (xs.map V.int).length i = some i.toNat := by
    unfold ixN
    rw [List.length_map, if_pos h0, if_pos h]
  unfold atI
  rw [e]
  show (xs.map V.int)[i.toNat]? = _
  have hl : i.toNat < xs.length := by omega
  rw [List.getElem?_map, List.getElem?_eq_getElem hl, List.getD_eq_getElem?_getD, List.getElem?_eq_getElem hl]
  rfl
theorem ixN_in {n : Nat} {i : Int} (h0 : 0 ≤ i) (h : i < (n : Int)) : ixN n i = some i.toNat := by
  unfold ixN
  rw [if_pos h0, if_pos h]
theorem b_mod (x : Int) : -(2 ^ 64) < x % 2147483629 ∧ x % 2147483629 < 2 ^ 64 := by omega
theorem b_mod1 (x : Int) : -(2 ^ 64) < x % 2147483647 ∧ x % 2147483647 < 2 ^ 64 := by omega
theorem b_t {t : Nat} (h : t < 2 ^ 30) : -(2 ^ 64) < (t : Int) ∧ (t : Int) < 2 ^ 64 := by omega
theorem b_tt {t : Nat} (h : t < 2 ^ 30) : -(2 ^ 64) < (t : Int) * t ∧ (t : Int) * t < 2 ^ 64 := by
  have h1 : t * t < 2 ^ 30 * 2 ^ 30 := Nat.mul_lt_mul'' h h
  have h2 : ((t * t : Nat) : Int) = (t : Int) * t := Int.natCast_mul t t
  omega
theorem set_ints (xs : List Int) (j : Nat) (y : Int) : (xs.map V.int).set j (.int y) = (xs.set j y).map V.int := by
  rw [List.map_set]
theorem ok_draw {f : Addr} {fd : FuncData} (F : Fun K "_law_draw" "_law_draw" s_L_draw f fd) (B : Blt mg) : FnOk P w K mg base CX0 1 f fd ["_law_source_here", "_law_limit"] spDraw := by
  refine F.ok sc_L_draw (fun vs H Q E h => ?_) (fun cdv A outer s H vs Q E hr h => ?_)
  · obtain ⟨a, c, t, lim, rfl, _⟩ := h
    rfl
  · obtain ⟨a, c, t, lim, rfl, S, ht, hl0, hl9, q⟩ := h
    obtain ⟨cs, hc, hn0, hn⟩ := S.cl
    have nd := sc_L_draw.nd
    refine ⟨_, pss_cons (ps_asg (pv 0) (pg_unl (n := 2) (by rfl) (pgs_cons (pg_name (i := 2) nd rfl (Or.inl rfl)) (pgs_cons (pg_name (i := 3) nd rfl (Or.inl rfl)) pgs_nil))))
      (pss_cons (ps_set (i := 4) nd rfl (Or.inl rfl) (pe_op op_mod (pe_callTy call_int1 (by rfl) B.int (by decide +kernel) (pa_cons (pv 3) pa_nil)) (pe_callB call_len_seq (by rfl) B.len PySem.boot_len (pa_cons (pv 2) pa_nil))))
      (pss_cons (ps_set (i := 5) nd rfl (Or.inl rfl) (pe_ix ix_list (pv 2) (pv 4) (fun _ _ => rfl)))
      (pss_cons (ps_asg (pe_op op_add (pv 3) pe_int) (pg_sub (pv 0) pe_int set_list))
      (pss_cons (ps_if (pt_cmpR op_ge (pv 5) (pe_op op_pow pe_int pe_int) (nomark _))
        (pss_cons (ps_asg (pe_op op_fdivW (pv 5) (pv 1)) (pg_sub (pv 2) (pv 4) set_list))
          (pss_one (ps_ret (pe_op op_mod (pe_callTy call_int1 (by rfl) B.int (by decide +kernel) (pa_cons (pv 5) pa_nil)) (pv 1))))) pss_nil)
      (pss_cons (ps_set (i := 6) nd rfl (Or.inl rfl) (pe_op op_mod (pe_callTy call_int1 (by rfl) B.int (by decide +kernel) (pa_cons
          (pe_op op_add (pe_op op_add (pe_op op_mul (pe_op op_mod (pe_callTy call_int1 (by rfl) B.int (by decide +kernel) (pa_cons (pv 5) pa_nil)) pe_int) pe_int) (pe_op op_mul (pe_op op_mul (pv 3) (pv 3)) pe_int)) pe_int) pa_nil)) pe_int))
      (pss_cons (ps_set (i := 6) nd rfl (Or.inl rfl) (pe_op op_mod (pe_callTy call_int1 (by rfl) B.int (by decide +kernel) (pa_cons (pe_op op_mul (pv 6) (pv 6)) pa_nil)) pe_int))
      (pss_cons (ps_set (i := 6) nd rfl (Or.inl rfl) (pe_op op_mod (pe_callTy call_int1 (by rfl) B.int (by decide +kernel) (pa_cons (pe_op op_mul (pv 6) (pv 6)) pa_nil)) pe_int))
      (pss_one (ps_ret (pe_op op_mod (pe_callTy call_int1 (by rfl) B.int (by decide +kernel) (pa_cons (pv 6) pa_nil)) (pv 1))))))))))), ?_⟩
    -- _law_cells, _law_turn = _law_source_here
    walk_at "rd"
    refine ⟨a, _, rfl, SqL.of S.ob, rfl, _, _, rfl, _, _, rfl, rfl, ?_⟩
    -- _law_place
    walk_at "rd"
    have hn0' : (0 : Int) < ((cs.map V.int).length : Nat) := by rw [List.length_map]; omega
    refine ⟨c, _, rfl, .inl (SqL.of hc), _, _, rfl, rfl, hn0', ?_⟩
    have hp0 : 0 ≤ (t : Int) % ((cs.map V.int).length : Nat) := Int.emod_nonneg _ (by omega)
    have hp1 : (t : Int) % ((cs.map V.int).length : Nat) < ((cs.map V.int).length : Nat) := Int.emod_lt_of_pos _ hn0'
    have hp1' : (t : Int) % ((cs.map V.int).length : Nat) < (cs.length : Int) := by rw [List.length_map] at hp1 ⊢; exact hp1
    -- _law_cell
    walk_at "rd"
    refine ⟨c, _, _, _, rfl, rfl, SqL.of hc, atI_in hp0 hp1', ?_⟩
    -- _law_source_here[1] = _law_turn + 1
    walk_at "rd"
    refine ⟨a, _, 1, 1, rfl, rfl, S.ob, rfl, ?_⟩
    have S1 : Src (upd H a (.lst ([V.ref c, V.int t].set 1 (.int ((t : Int) + 1))))) a c (t + 1) := ⟨S.ne, by rw [upd_same]; rfl, cs, by rw [upd_ne S.ne.symm]; exact hc, hn0, hn⟩
    have O1 : Oth a c H (upd H a (.lst ([V.ref c, V.int t].set 1 (.int ((t : Int) + 1))))) := fun b o h na _ => by rw [upd_ne na]; exact h
    have hc1 : upd H a (.lst ([V.ref c, V.int t].set 1 (.int ((t : Int) + 1)))) c = some (.lst (cs.map V.int)) := by rw [upd_ne S.ne.symm]; exact hc
    generalize upd H a (.lst ([V.ref c, V.int t].set 1 (.int ((t : Int) + 1)))) = H1 at S1 O1 hc1 ⊢
    -- if _law_cell >= 10 ** 18
    walk_at "rd"
    refine ⟨⟨by decide, by decide, by decide⟩, ?_⟩
    walk_at "rd"
    refine ite2 (fun _ => ?_) (fun _ => ?_)
    · walk_at "rd"
      refine ⟨fdiv_ok _ hl0 hl9, ?_⟩
      walk_at "rd"
      refine ⟨c, _, _, _, rfl, rfl, hc1, ixN_in hp0 hp1, ?_⟩
      walk_at "rd"
      refine ⟨hl0, ?_⟩
      rw [set_ints]
      refine q _ _ (Int.emod_nonneg _ (by omega)) (Int.emod_lt_of_pos _ hl0) ⟨S1.ne, by rw [upd_ne S1.ne]; exact S1.ob, _, upd_same, by rw [List.length_set]; exact hn0, by rw [List.length_set]; exact hn⟩ fun b o h na nc => ?_
      rw [upd_ne nc]
      exact O1 b o h na nc
    · walk_at "rd"
      refine ⟨(by show (0 : Int) < 2147483629; decide), ?_⟩
      walk_at "rd"
      refine ⟨.inl (b_mod _), ?_⟩
      walk_at "rd"
      refine ⟨.inl (b_t ht), ?_⟩
      walk_at "rd"
      refine ⟨.inl (b_tt ht), ?_⟩
      walk_at "rd"
      refine ⟨(by show (0 : Int) < 2147483647; decide), ?_⟩
      walk_at "rd"
      refine ⟨.inl (b_mod1 _), ?_⟩
      walk_at "rd"
      refine ⟨(by show (0 : Int) < 2147483629; decide), ?_⟩
      walk_at "rd"
      refine ⟨.inl (b_mod _), ?_⟩
      walk_at "rd"
      refine ⟨(by show (0 : Int) < 2147483587; decide), ?_⟩
      walk_at "rd"
      refine ⟨hl0, ?_⟩
      exact q _ _ (Int.emod_nonneg _ (by omega)) (Int.emod_lt_of_pos _ hl0) S1 O1
end
end HT
namespace HT
open PySem L2
/-- a def of the text that may be called by its name, and what it promises -/
structure Cal (P : Program) (w : World) (K : PySem.W.Frag) (mg : Str → Option Value) (base : Heap) (x : Str) (k : Nat) (ps : List Str) (sp : Sp) (f : Addr) (fd : FuncData) : Prop where
  ok : FnOk P w K mg base CX0 k f fd ps sp
  gl : mg x = some (.ref f)
  kp : PySem.W.keepIn K (.ref f) = true
  bd : Binds K fd ps []
theorem pcl {X : Cx} {x : Str} {k j : Nat} {ps : List Str} {sp : Sp} {f : Addr} {fd : FuncData} {e : Expr} {es : List Expr} {t : TA} {p pos : Pos} (C : Cal X.prog X.w X.K X.mg X.base x k ps sp f fd) (hr : Room j X.A) (hj : k ≤ j) (hg : Gl X x) (ha : PA X (e :: es) t)
    (hdb : (x == ("__debug__" : Str)) = false := by decide) (he : starEach (e :: es) X.env = (false, eval e X.env) :: starEach es X.env := by rfl) (hpl : (backTo pos (starEach es X.env)).any (·.1) = false := by rfl) : PE X (.Call (.Name x p) (e :: es) [] pos) (tCall sp [] E0 t) :=
  pe_call C.ok (hr.mono hj) hg C.gl C.kp C.bd .nil pass0 ha hdb he hpl
section
variable {P : Program} {w : World} {K : PySem.W.Frag} {mg : Str → Option Value} {base : Heap}
theorem cut63 {ns : List Int} (h : ns.length ≤ 63) : cutV (ns.map V.int) none (some 63) = ns.map V.int := by
  have e1 : HT.sIx (ns.map V.int).length 0 none = 0 := rfl
  have e2 : HT.sIx (ns.map V.int).length (ns.map V.int).length (some 63) = (ns.map V.int).length := by
    have := HT.sIx_nat (ns.map V.int).length (ns.map V.int).length 63
    rw [show ((63 : Nat) : Int) = 63 from rfl] at this
    rw [this, List.length_map]
    omega
  unfold cutV
  rw [e1, e2, List.drop_zero, Nat.sub_zero, List.take_length]
theorem dpInts (H : Hp) : ∀ ns : List Int, DpAll K H (ns.map V.int) (ns.map PyData.int)
  | [] => .nil
  | n :: r => .cons (.int n) (dpInts H r)
theorem pow_ok : CPowW ((10 : Int) ^ (60 : Int).toNat) 20 := ⟨by decide, by decide +kernel⟩
theorem pow_pos' : (0 : Int) < ((10 : Int) ^ (60 : Int).toNat) ^ (20 : Int).toNat := by decide +kernel
theorem ok_source {f : Addr} {fd : FuncData} (F : Fun K "_law_source" "_law_source" s_L_source f fd) (B : Blt mg) : FnOk P w K mg base CX0 1 f fd ["_law_script"] (spSource K) := by
  refine F.ok sc_L_source (fun vs H Q E h => ?_) (fun cdv A outer s H vs Q E hr h => ?_)
  · obtain ⟨l, ns, rfl, _⟩ := h
    rfl
  · obtain ⟨l, ns, rfl, hL, hn, q⟩ := h
    have nd := sc_L_source.nd
    refine ⟨_, pss_cons (ps_set (i := 1) nd rfl (Or.inl rfl) (pe_slice sl_list (pv 0) po_none (po_some pe_int)))
      (pss_cons (ps_for PassesOwn.never rfl (pi_range1 (by rfl) B.range (pa_cons (pe_callB call_len_seq (by rfl) B.len PySem.boot_len (pa_cons (pv 1) pa_nil)) pa_nil)) (pg_name (i := 2) nd rfl (Or.inl rfl))
        (pss_one (ps_if (pt_cmpR op_ge (pe_callB call_abs (by rfl) B.abs (by decide +kernel) (pa_cons (pe_ix ix_list (pv 1) (pv 2) (fun _ _ => rfl)) pa_nil)) (pe_op op_pow pe_int pe_int) (nomark _))
          (pss_one (ps_asg (pe_op op_mod (pe_callTy call_int1 (by rfl) B.int (by decide +kernel) (pa_cons (pe_ix ix_list (pv 1) (pv 2) (fun _ _ => rfl)) pa_nil)) (pe_op op_powW (pe_op op_pow pe_int pe_int) pe_int)) (pg_sub (pv 1) (pv 2) set_list))) pss_nil)))
      (pss_cons (ps_if (pt_cmpR (op_eqD hr.units) (pv 1) (pe_lst pa_nil) (nomark _)) (pss_one (ps_set (i := 1) nd rfl (Or.inl rfl) (pe_lst (pa_cons pe_int pa_nil)))) pss_nil)
      (pss_one (ps_ret (pe_lst (pa_cons (pv 1) (pa_cons pe_int pa_nil))))))), ?_⟩
    walk_at "rd"
    refine ⟨l, _, rfl, hL, fun p np => ?_⟩
    rw [cut63 hn]
    walk_at "rd"
    refine ⟨p, _, rfl, .inl (SqL.of upd_same), _, rfl, by omega, ?_, ?_⟩
    · show ((ns.map V.int).length : Int) < 2 ^ 62
      rw [List.length_map]
      omega
    have en : ((ns.map V.int).length : Int).toNat = ns.length := by rw [List.length_map]; omega
    rw [en]
    refine for_range (fun i σ H' => ∃ (cs : List Int) (kv : Option V), σ = [some (.ref l), some (.ref p), kv] ∧ H' p = some (.lst (cs.map V.int)) ∧ cs.length = ns.length ∧ Same H H') ⟨ns, none, rfl, upd_same, rfl, fun b o e => by rw [upd_ne (ne_of_none e np)]; exact e⟩ ?_ ?_
    · rintro i σ H' hi ⟨cs, kv, rfl, hp, hl, sm⟩
      have h0 : (0 : Int) ≤ 0 + (i : Int) := by omega
      have h1 : (0 : Int) + (i : Int) < (cs.length : Int) := by omega
      walk_at "rd"
      refine ⟨p, _, _, _, rfl, rfl, SqL.of hp, atI_in h0 h1, ?_⟩
      walk_at "rd"
      refine ⟨⟨by decide, by decide, by decide⟩, ?_⟩
      walk_at "rd"
      refine ite2 (fun _ => ?_) (fun _ => ?_)
      · walk_at "rd"
        refine ⟨p, _, _, _, rfl, rfl, SqL.of hp, atI_in h0 h1, ?_⟩
        walk_at "rd"
        refine ⟨⟨by decide, by decide, by decide⟩, ?_⟩
        walk_at "rd"
        refine ⟨pow_ok, ?_⟩
        walk_at "rd"
        refine ⟨pow_pos', ?_⟩
        walk_at "rd"
        refine ⟨p, _, _, _, rfl, rfl, hp, ixN_in h0 (by rw [List.length_map]; exact h1), ?_⟩
        rw [set_ints]
        exact ⟨_, _, rfl, upd_same, by rw [List.length_set]; exact hl, fun b o e => by rw [upd_ne (ne_of_none e np)]; exact sm b o e⟩
      · exact ⟨cs, _, rfl, hp, hl, sm⟩
    · rintro σ H' ⟨cs, kv, rfl, hp, hl, sm⟩
      walk_at "rd"
      refine ⟨by decide, fun e ne => ?_⟩
      have hpe : upd H' e (.lst []) p = some (.lst (cs.map V.int)) := by rw [upd_ne (ne_of_none hp ne)]; exact hp
      have sm1 : Same H (upd H' e (.lst [])) := fun b o z => by rw [upd_ne (ne_of_none (sm b o z) ne)]; exact sm b o z
      refine ⟨_, _, .lst (SqL.of hpe) (dpInts _ cs), .lst (SqL.of upd_same) .nil, PySem.W.ke_shaped_ints cs, by decide +kernel, ?_⟩
      walk_at "rd"
      have hb : PyData.eqv (.list (cs.map PyData.int)) (.list []) = decide (cs = []) := by
        have z := PySem.W.ked_eqvAll cs []
        rw [← z]
        rfl
      rw [hb]
      refine ite2 (fun _ => ?_) (fun hne => ?_)
      · walk_at "rd"
        refine ⟨by decide, fun c nc => ?_⟩
        walk_at "rd"
        refine ⟨(by show 2 ≤ sizeLine; decide), fun a na => ?_⟩
        have sm2 : Same H (upd (upd H' e (.lst [])) c (.lst [.int 0])) := fun b o z => by rw [upd_ne (ne_of_none (sm1 b o z) nc)]; exact sm1 b o z
        have nac : a ≠ c := (ne_of_none upd_same na).symm
        refine q a c _ (fun b o z => by rw [upd_ne (ne_of_none (sm2 b o z) na)]; exact sm2 b o z) (sm2.free na) (sm1.free nc) ⟨nac, upd_same, [0], by rw [upd_ne nac.symm]; exact upd_same, by decide, by decide⟩
      · walk_at "rd"
        refine ⟨(by show 2 ≤ sizeLine; decide), fun a na => ?_⟩
        have nap : a ≠ p := (ne_of_none hpe na).symm
        refine q a p _ (fun b o z => by rw [upd_ne (ne_of_none (sm1 b o z) na)]; exact sm1 b o z) (sm1.free na) np ⟨nap, upd_same, cs, by rw [upd_ne nap.symm]; exact hpe, ?_, by omega⟩
        have : cs ≠ [] := fun z => hne (decide_eq_true z)
        exact List.length_pos_iff.mpr this
end
end HT
namespace HT
open PySem L2
/-- a def of which errors may come, and its call -/
structure CalX (P : Program) (w : World) (K : PySem.W.Frag) (mg : Str → Option Value) (base : Heap) (x : Str) (k : Nat) (ps : List Str) (sp : Sp) (f : Addr) (fd : FuncData) : Prop where
  ok : FnOk P w K mg base (L2.CX P w) k f fd ps sp
  mgf : mg x = some (.ref f)
  kp : PySem.W.keepIn K (.ref f) = true
  b : Binds K fd ps []
theorem pcx {X : Cx} {x : Str} {k j : Nat} {ps : List Str} {sp : Sp} {f : Addr} {fd : FuncData} {e : Expr} {es : List Expr} {t : TA} {p pos : Pos} {W : WX} (C : CalX X.prog X.w X.K X.mg X.base x k ps sp f fd) (hr : Room j X.A) (hj : k ≤ j) (hg : Gl X x) (tk : L2.Takes X W) (ha : PA X (e :: es) t)
    (hdb : (x == ("__debug__" : Str)) = false := by decide) (he : starEach (e :: es) X.env = (false, eval e X.env) :: starEach es X.env := by rfl) (hpl : (backTo pos (starEach es X.env)).any (·.1) = false := by rfl) : PE X (.Call (.Name x p) (e :: es) [] pos) (tCallS sp (WE W) t) :=
  pe_callS C.ok (hr.mono hj) hg C.mgf C.kp C.b (fun σ => L2.passAt tk σ) ha hdb he hpl
end HT
namespace PySem.W
open PySem PySem.Calls
theorem args_lcm3 (a b c : Value) : argsOk "math.lcm" ⟨[a, b, c], []⟩ := by unfold argsOk; kernel_rfl
theorem run_lcm3 (a : Int) (t : Tok) (b : Int) (u : Tok) (c : Int) (v : Tok) (hc0 : ¬(max 1 a.natAbs).log2 / 30 + 1 > 450) (hc1 : ¬(max a.natAbs b.natAbs).log2 / 30 + 1 > 450)
    (hc2 : ¬(max ((Nat.lcm 1 a.natAbs).lcm b.natAbs) c.natAbs).log2 / 30 + 1 > 450)
    (hsz : (((((Nat.lcm 1 a.natAbs).lcm b.natAbs).lcm c.natAbs : Nat) : Int)).natAbs.log2 < bitsLine) :
    Gives (Builtin.«math.lcm» ⟨[.int a t, .int b u, .int c v], []⟩) (.int (((((Nat.lcm 1 a.natAbs).lcm b.natAbs).lcm c.natAbs : Nat) : Int))) :=
  .of_wp fun M A E s Q h => by obtain ⟨hp, g, d, tk, os⟩ := s; wp_walk; refine wpAny_ite_false (decide_eq_false hc2) ?_; wp_walk; (try (refine wpAny_ite_false (decide_eq_false (Nat.not_le.mpr hsz)) ?_; wp_walk)); exact ⟨_, rfl, h⟩
end PySem.W
namespace L2
open PySem PySem.Spec PyProof.Rows
/-- xs.count(y) of flat things -/
def rCntV (K : PySem.W.Frag) : V → List V → Hp → VK → Prop := fun x xs H Q => ∃ (p : Addr) (ys : List V) (y : V), x = .ref p ∧ xs = [y] ∧ SqL K H p ys ∧ flatV y = true ∧ ys.all flatV = true ∧ Q (.int (ys.countP (fun z => eqV z y) : Nat)) H
theorem count_eqU {x : V} : ∀ {xs : List V} {us : List Value}, Vals xs us → xs.all flatV = true → us.countP (eqU x) = xs.countP fun y => eqV y x
  | _, _, .nil, _ => rfl
  | y :: xs, u :: us, .cons r t, f => by
    obtain ⟨f1, f2⟩ := Bool.and_eq_true_iff.mp (List.all_cons ▸ f)
    rw [List.countP_cons, List.countP_cons, eqU_of r f1, count_eqU t f2]
theorem mt_cntV {X : Cx} : MtR X "list.count" (rCntV X.K) := by
  intro pins sh st H x xs v us Q iv rx rxs h
  obtain ⟨p, ys, y, rfl, rfl, hs, fy, fys, q⟩ := h
  cases rx
  obtain ⟨u, rfl, ru⟩ := rxs.one
  obtain ⟨its, rv, ⟨⟨cls, dd, data, sl⟩, n, ho, hc, hdn, hd⟩, hlen⟩ := iv.list hs
  dsimp only at hc hd
  subst hc hd
  refine call_meets PySem.F.slot_list_count ⟨_, ho, rfl⟩ PySem.F.entry_list_count (PySem.F.args_list_count_2 _ _) (SeqAt.list_countAt p its.toArray n dd sl u (eqU y)) ⟨ho, fun w hw => mem_eqAt ru fy rv fys w (by simpa using hw), ?_⟩
  refine ⟨.int (ys.countP (fun z => eqV z y) : Nat), H, iv.tok _, ⟨sh.toks, ?_⟩, q⟩
  rw [show its.toArray.toList.countP (eqU y) = ys.countP (fun z => eqV z y) from count_eqU rv fys]
end L2
namespace HT
open PySem L2
/-! ### pick, great, side -/
def spPick : Sp := fun vs H Q _ => ∃ (a c : Addr) (t : Nat) (l : Addr) (xs : List V), vs = [.ref a, .ref l] ∧ Src H a c t ∧ t < 2 ^ 30 ∧ H l = some (.lst xs) ∧ l ≠ a ∧ l ≠ c ∧ 0 < xs.length ∧ xs.length < 2 ^ 60 ∧
  ∀ x H', x ∈ xs → Src H' a c (t + 1) → Oth a c H H' → Q x H'
def spGreat : Sp := fun vs H Q _ => ∃ (a c : Addr) (t n : Nat), vs = [.ref a, .int (n : Int)] ∧ Src H a c t ∧ n ≤ 1000 ∧ t + n < 2 ^ 30 ∧
  ∀ k H', 0 ≤ k → k < 10 ^ n → Src H' a c (t + n) → Oth a c H H' → Q (.int k) H'
/-- the modes -/
def Mode (m : Str) : Prop := m = "down" ∨ m = "up" ∨ m = "half_down" ∨ m = "half_up" ∨ m = "half_even"
/-- a side's parts -/
structure SideP (o s : Int) (m : Str) : Prop where
  o0 : -10 ^ 40 ≤ o
  o1 : o ≤ 10 ^ 40
  s0 : 1 ≤ s
  s1 : s ≤ 10 ^ 30
  md : Mode m
def sideV (o s : Int) (m : Str) : HO := .tup [.int o, .int s, .str m]
def spSide : Sp := fun vs H Q _ => ∃ (a c : Addr) (t n : Nat), vs = [.ref a, .int (n : Int)] ∧ Src H a c t ∧ 1 ≤ n ∧ n ≤ 40 ∧ t + 200 < 2 ^ 30 ∧
  ∀ p o s m H' t', H p = none → H' p = some (sideV o s m) → SideP o s m → t' ≤ t + 200 → Src H' a c t' → Oth a c H H' → Q (.ref p) H'
theorem lg_nat {n : Nat} (h : n < 2 ^ 200) : ((n : Int)).natAbs.log2 < 9000 := by
  rw [Int.natAbs_natCast]
  by_cases e : n = 0
  · rw [e]; decide
  · have := (Nat.log2_lt e).mpr h
    omega
theorem lg_small {n : Int} (h0 : 0 ≤ n) (h : n < 2 ^ 64) : n.natAbs.log2 < 9000 := by
  obtain ⟨m, rfl⟩ := Int.eq_ofNat_of_zero_le h0
  exact lg_nat (Nat.lt_of_lt_of_le (by omega : m < 2 ^ 64) (Nat.pow_le_pow_right (by decide) (by decide)))
section
variable {P : Program} {w : World} {K : PySem.W.Frag} {mg : Str → Option Value} {base : Heap} {fD fP fG : Addr} {dD dP dG : FuncData}
theorem ok_pick {f : Addr} {fd : FuncData} (F : Fun K "_law_pick" "_law_pick" s_L_pick f fd) (B : Blt mg) (D : Cal P w K mg base "_law_draw" 1 ["_law_source_here", "_law_limit"] spDraw fD dD) :
    FnOk P w K mg base CX0 2 f fd ["_law_source_here", "_law_values"] spPick := by
  refine F.ok sc_L_pick (fun vs H Q E h => ?_) (fun cdv A outer s H vs Q E hr h => ?_)
  · obtain ⟨a, c, t, l, xs, rfl, _⟩ := h
    rfl
  · obtain ⟨a, c, t, l, xs, rfl, S, ht, hl, na, nc, h0, h1, q⟩ := h
    refine ⟨_, pss_one (ps_ret (pe_ix ix_list (pv 1) (pcl D hr (by decide) (by rfl) (pa_cons (pv 0) (pa_cons (pe_callB call_len_seq (by rfl) B.len PySem.boot_len (pa_cons (pv 1) pa_nil)) pa_nil))) (fun _ _ => rfl))), ?_⟩
    walk_at "rd"
    refine ⟨l, _, rfl, .inl (SqL.of hl), ?_⟩
    have p1 : (0 : Int) < (xs.length : Int) := by omega
    refine ⟨a, c, t, _, rfl, S, ht, p1, lg_nat (Nat.lt_of_lt_of_le h1 (Nat.pow_le_pow_right (by decide) (by decide))), fun k H' k0 k1 S' O => ?_⟩
    have hl' : k.toNat < xs.length := by omega
    have e : atI xs k = some xs[k.toNat] := by
      unfold atI
      rw [ixN_in k0 k1]
      exact List.getElem?_eq_getElem hl'
    refine ⟨l, _, _, _, rfl, rfl, SqL.of (O _ _ hl na nc), e, ?_⟩
    exact q _ _ (List.getElem_mem hl') S' O
theorem ok_great {f : Addr} {fd : FuncData} (F : Fun K "_law_great" "_law_great" s_L_great f fd) (B : Blt mg) (D : Cal P w K mg base "_law_draw" 1 ["_law_source_here", "_law_limit"] spDraw fD dD) :
    FnOk P w K mg base CX0 2 f fd ["_law_source_here", "_law_digits"] spGreat := by
  refine F.ok sc_L_great (fun vs H Q E h => ?_) (fun cdv A outer s H vs Q E hr h => ?_)
  · obtain ⟨a, c, t, n, rfl, _⟩ := h
    rfl
  · obtain ⟨a, c, t, n, rfl, S, hn, ht, q⟩ := h
    have nd := sc_L_great.nd
    refine ⟨_, pss_cons (ps_set (i := 2) nd rfl (Or.inl rfl) pe_int)
      (pss_cons (ps_for PassesOwn.never rfl (pi_range1 (by rfl) B.range (pa_cons (pv 1) pa_nil)) (pg_name (i := 3) nd rfl (Or.inl rfl))
        (pss_one (ps_set (i := 2) nd rfl (Or.inl rfl) (pe_op op_add (pe_op op_mul (pv 2) pe_int) (pcl D hr (by decide) (by rfl) (pa_cons (pv 0) (pa_cons pe_int pa_nil)))))))
      (pss_one (ps_ret (pv 2)))), ?_⟩
    walk_at "rd"
    refine ⟨by omega, by omega, ?_⟩
    rw [Int.toNat_natCast]
    refine for_range (fun i σ H' => ∃ (k : Int) (kv : Option V), σ = [some (.ref a), some (.int (n : Int)), some (.int k), kv] ∧ 0 ≤ k ∧ k < 10 ^ i ∧ Src H' a c (t + i) ∧ Oth a c H H') ⟨0, none, rfl, by decide, by decide, S, Oth.refl _ _ _⟩ ?_ ?_
    · rintro i σ H' hi ⟨k, kv, rfl, k0, k1, S', O⟩
      walk_at "rd"
      refine ⟨.inr ⟨by decide, by decide⟩, ?_⟩
      walk_at "rd"
      refine ⟨a, c, t + i, _, rfl, S', by omega, (by show (0 : Int) < 10; decide), (by show (10 : Int).natAbs.log2 < 9000; decide), fun y H2 y0 y1 S2 O2 => ?_⟩
      walk_at "rd"
      have y1' : y < 10 := y1
      refine ⟨_, _, rfl, (by show 0 ≤ k * 10 + y; omega), (by show k * 10 + y < 10 ^ (i + 1); rw [Int.pow_succ]; omega), S2, O.trans O2⟩
    · rintro σ H' ⟨k, kv, rfl, k0, k1, S', O⟩
      walk_at "rd"
      exact q _ _ k0 k1 S' O
theorem mode_of {x : V} (h : x ∈ [V.str "down", .str "up", .str "half_down", .str "half_up", .str "half_even"]) : ∃ m : Str, x = .str m ∧ Mode m := by
  simp only [List.mem_cons, List.not_mem_nil, or_false] at h
  rcases h with h | h | h | h | h
  · exact ⟨_, h, .inl rfl⟩
  · exact ⟨_, h, .inr (.inl rfl)⟩
  · exact ⟨_, h, .inr (.inr (.inl rfl))⟩
  · exact ⟨_, h, .inr (.inr (.inr (.inl rfl)))⟩
  · exact ⟨_, h, .inr (.inr (.inr (.inr rfl)))⟩
end
end HT
namespace HT
open PySem L2
/-! ### the mathematics of a side -/
def goesUp (m : Str) (s q r : Int) : Bool := if m = "down" then false else if m = "up" then decide (0 < r) else if 2 * r = s then (if m = "half_even" then decide (q % 2 = 1) else decide (m = "half_up")) else decide (s < 2 * r)
/-- the figure to which v comes -/
def figM (o s : Int) (m : Str) (v : Int) : Int := if goesUp m s ((v - o) / s) ((v - o) % s) = true then (v - o) / s + 1 else (v - o) / s
def dueM (o s : Int) (m : Str) (v : Int) : Int := o + s * figM o s m v
theorem d_u : ¬ (("up" : Str) = "down") := by decide +kernel
theorem hd_d : ¬ (("half_down" : Str) = "down") := by decide +kernel
theorem hd_u : ¬ (("half_down" : Str) = "up") := by decide +kernel
theorem hu_d : ¬ (("half_up" : Str) = "down") := by decide +kernel
theorem hu_u : ¬ (("half_up" : Str) = "up") := by decide +kernel
theorem he_d : ¬ (("half_even" : Str) = "down") := by decide +kernel
theorem he_u : ¬ (("half_even" : Str) = "up") := by decide +kernel
theorem hd_e : ¬ (("half_down" : Str) = "half_even") := by decide +kernel
theorem hu_e : ¬ (("half_up" : Str) = "half_even") := by decide +kernel
theorem hd_hu : ¬ (("half_down" : Str) = "half_up") := by decide +kernel
theorem he_hu : ¬ (("half_even" : Str) = "half_up") := by decide +kernel
theorem u_hd : ¬ (("up" : Str) = "half_down") := by decide +kernel
theorem hu_hd : ¬ (("half_up" : Str) = "half_down") := by decide +kernel
theorem he_hd : ¬ (("half_even" : Str) = "half_down") := by decide +kernel
theorem go_down (s q r : Int) : goesUp "down" s q r = false := by unfold goesUp; rw [if_pos rfl]
theorem go_up (s q r : Int) : goesUp "up" s q r = decide (0 < r) := by unfold goesUp; rw [if_neg d_u, if_pos rfl]
theorem go_hd (s q r : Int) : goesUp "half_down" s q r = decide (s < 2 * r) := by
  unfold goesUp
  rw [if_neg hd_d, if_neg hd_u, if_neg hd_e, decide_eq_false hd_hu]
  by_cases h : 2 * r = s
  · rw [if_pos h, decide_eq_false (by omega)]
  · rw [if_neg h]
theorem go_hu (s q r : Int) : goesUp "half_up" s q r = decide (s ≤ 2 * r) := by
  unfold goesUp
  rw [if_neg hu_d, if_neg hu_u, if_neg hu_e, decide_eq_true rfl]
  by_cases h : 2 * r = s
  · rw [if_pos h, decide_eq_true (by omega)]
  · rw [if_neg h]
    by_cases g : s < 2 * r
    · rw [decide_eq_true g, decide_eq_true (by omega)]
    · rw [decide_eq_false g, decide_eq_false (by omega)]
theorem go_he (s q r : Int) : goesUp "half_even" s q r = (decide (s < 2 * r) || (decide (2 * r = s) && decide (q % 2 = 1))) := by
  unfold goesUp
  rw [if_neg he_d, if_neg he_u, if_pos rfl]
  by_cases h : 2 * r = s
  · rw [if_pos h, decide_eq_false (show ¬ s < 2 * r by omega), decide_eq_true h]
    rfl
  · rw [if_neg h, decide_eq_false h]
    simp
/-- what is known of a figure -/
structure Fig (o s : Int) (m : Str) (v q r k : Int) : Prop where
  eq : v - o = s * q + r
  r0 : 0 ≤ r
  r1 : r < s
  wh : (goesUp m s q r = true ∧ k = q + 1) ∨ (goesUp m s q r = false ∧ k = q)
theorem fig_of {o s : Int} {m : Str} {v : Int} (hs : 1 ≤ s) : Fig o s m v ((v - o) / s) ((v - o) % s) (figM o s m v) := by
  refine ⟨?_, Int.emod_nonneg _ (by omega), Int.emod_lt_of_pos _ (by omega), ?_⟩
  · have := Int.mul_ediv_add_emod (v - o) s
    omega
  · unfold figM
    cases h : goesUp m s ((v - o) / s) ((v - o) % s)
    · exact .inr ⟨rfl, by simp⟩
    · exact .inl ⟨rfl, by simp⟩
theorem divmod_eq {s q r x : Int} (hs : 1 ≤ s) (h : x = s * q + r) (r0 : 0 ≤ r) (r1 : r < s) : x / s = q ∧ x % s = r := by
  subst h
  constructor
  · rw [Int.add_comm, Int.add_mul_ediv_left _ _ (by omega), Int.ediv_eq_zero_of_lt r0 r1]
    omega
  · rw [Int.add_comm, Int.add_mul_emod_self_left]
    exact Int.emod_eq_of_lt r0 r1
theorem fig_uniq {o s : Int} {m : Str} {v q r k : Int} (hs : 1 ≤ s) (F : Fig o s m v q r k) : figM o s m v = k := by
  obtain ⟨e1, e2⟩ := divmod_eq hs F.eq F.r0 F.r1
  unfold figM
  rw [e1, e2]
  rcases F.wh with ⟨h, e⟩ | ⟨h, e⟩
  · rw [h, if_pos rfl, e]
  · rw [h, if_neg (by decide), e]
/-- going up wants a rest, and not going up a small one -/
theorem go_pos {m : Str} {s q r : Int} (hm : Mode m) (hs : 1 ≤ s) (r0 : 0 ≤ r) (h : goesUp m s q r = true) : 0 < r := by
  rcases hm with e | e | e | e | e <;> subst e
  · rw [go_down] at h; cases h
  · rw [go_up] at h; exact of_decide_eq_true h
  · rw [go_hd] at h; have := of_decide_eq_true h; omega
  · rw [go_hu] at h; have := of_decide_eq_true h; omega
  · rw [go_he, Bool.or_eq_true, Bool.and_eq_true] at h
    rcases h with h | ⟨h, _⟩ <;> have := of_decide_eq_true h <;> omega
theorem due_near {o s : Int} {m : Str} {v : Int} (hm : Mode m) (hs : 1 ≤ s) : dueM o s m v - v < s ∧ v - dueM o s m v < s := by
  have F := fig_of (o := o) (m := m) (v := v) hs
  unfold dueM
  generalize (v - o) / s = q at F
  generalize (v - o) % s = r at F
  obtain ⟨eq, r0, r1, wh⟩ := F
  rcases wh with ⟨h, e⟩ | ⟨h, e⟩
  · have := go_pos hm hs r0 h
    rw [e, Int.mul_add, Int.mul_one]
    generalize s * q = z at eq ⊢
    omega
  · rw [e]
    generalize s * q = z at eq ⊢
    omega
def half (m : Str) : Prop := m = "half_down" ∨ m = "half_up" ∨ m = "half_even"
theorem due_half {o s : Int} {m : Str} {v : Int} (hm : half m) (hs : 1 ≤ s) : 2 * (dueM o s m v - v) ≤ s ∧ 2 * (v - dueM o s m v) ≤ s := by
  have F := fig_of (o := o) (m := m) (v := v) hs
  unfold dueM
  generalize (v - o) / s = q at F
  generalize (v - o) % s = r at F
  obtain ⟨eq, r0, r1, wh⟩ := F
  have hb : (goesUp m s q r = true → s ≤ 2 * r) ∧ (goesUp m s q r = false → 2 * r ≤ s) := by
    rcases hm with e | e | e <;> subst e
    · rw [go_hd]; exact ⟨fun h => by have := of_decide_eq_true h; omega, fun h => by have := of_decide_eq_false h; omega⟩
    · rw [go_hu]; exact ⟨fun h => by have := of_decide_eq_true h; omega, fun h => by have := of_decide_eq_false h; omega⟩
    · rw [go_he]
      refine ⟨fun h => ?_, fun h => ?_⟩
      · rw [Bool.or_eq_true, Bool.and_eq_true] at h
        rcases h with h | ⟨h, _⟩ <;> have := of_decide_eq_true h <;> omega
      · rw [Bool.or_eq_false_iff] at h
        have := of_decide_eq_false h.1
        omega
  rcases wh with ⟨h, e⟩ | ⟨h, e⟩
  · have := hb.1 h
    rw [e, Int.mul_add, Int.mul_one]
    generalize s * q = z at eq ⊢
    omega
  · have := hb.2 h
    rw [e]
    generalize s * q = z at eq ⊢
    omega
theorem go_zero {m : Str} {s q : Int} (hm : Mode m) (hs : 1 ≤ s) : goesUp m s q 0 = false := by
  cases h : goesUp m s q 0 with
  | false => rfl
  | true => exact absurd (go_pos hm hs (Int.le_refl _) h) (by omega)
/-- what is written stands and is written as it is -/
theorem fig_at {o s k : Int} {m : Str} (hm : Mode m) (hs : 1 ≤ s) : figM o s m (o + s * k) = k :=
  fig_uniq (q := k) (r := 0) hs ⟨by omega, Int.le_refl _, by omega, .inr ⟨go_zero hm hs, rfl⟩⟩
theorem stands_at {o s k : Int} : (o + s * k - o) % s = 0 := by
  rw [show o + s * k - o = s * k by omega]
  exact Int.mul_emod_right s k
theorem due_eq {o s : Int} {m : Str} {v : Int} (hm : Mode m) (hs : 1 ≤ s) : (v - o) % s = 0 ↔ dueM o s m v = v := by
  have F := fig_of (o := o) (m := m) (v := v) hs
  unfold dueM
  generalize (v - o) / s = q at F
  generalize (v - o) % s = r at F ⊢
  obtain ⟨eq, r0, r1, wh⟩ := F
  rcases wh with ⟨h, e⟩ | ⟨h, e⟩
  · have := go_pos hm hs r0 h
    rw [e, Int.mul_add, Int.mul_one]
    generalize s * q = z at eq ⊢
    omega
  · rw [e]
    generalize s * q = z at eq ⊢
    omega
theorem go_mono {m : Str} {s q r : Int} (hm : Mode m) (h : goesUp m s q r = true) : goesUp m s q (r + 1) = true := by
  rcases hm with e | e | e | e | e <;> subst e
  · rw [go_down] at h; cases h
  · rw [go_up] at h ⊢; have := of_decide_eq_true h; exact decide_eq_true (by omega)
  · rw [go_hd] at h ⊢; have := of_decide_eq_true h; exact decide_eq_true (by omega)
  · rw [go_hu] at h ⊢; have := of_decide_eq_true h; exact decide_eq_true (by omega)
  · rw [go_he] at h ⊢
    have : s ≤ 2 * r := by
      rw [Bool.or_eq_true, Bool.and_eq_true] at h
      rcases h with h | ⟨h, _⟩ <;> have := of_decide_eq_true h <;> omega
    rw [decide_eq_true (show s < 2 * (r + 1) by omega)]
    rfl
theorem fig_mono {o s : Int} {m : Str} {v : Int} (hm : Mode m) (hs : 1 ≤ s) : figM o s m v ≤ figM o s m (v + 1) := by
  have F := fig_of (o := o) (m := m) (v := v) hs
  generalize (v - o) / s = q at F
  generalize (v - o) % s = r at F
  obtain ⟨eq, r0, r1, wh⟩ := F
  by_cases hr : r + 1 < s
  · cases g : goesUp m s q (r + 1) with
    | true =>
      rw [fig_uniq (v := v + 1) (q := q) (r := r + 1) (k := q + 1) hs ⟨by omega, by omega, hr, .inl ⟨g, rfl⟩⟩]
      rcases wh with ⟨_, e⟩ | ⟨_, e⟩ <;> omega
    | false =>
      rw [fig_uniq (v := v + 1) (q := q) (r := r + 1) (k := q) hs ⟨by omega, by omega, hr, .inr ⟨g, rfl⟩⟩]
      rcases wh with ⟨h, e⟩ | ⟨_, e⟩
      · rw [go_mono hm h] at g
        cases g
      · omega
  · rw [fig_uniq (v := v + 1) (q := q + 1) (r := 0) (k := q + 1) hs ⟨by rw [Int.mul_add, Int.mul_one]; omega, by omega, by omega, .inr ⟨go_zero hm hs, rfl⟩⟩]
    rcases wh with ⟨_, e⟩ | ⟨_, e⟩ <;> omega
theorem due_mono {o s : Int} {m : Str} {v : Int} (hm : Mode m) (hs : 1 ≤ s) : dueM o s m v ≤ dueM o s m (v + 1) := by
  unfold dueM
  have := Int.mul_le_mul_of_nonneg_left (fig_mono (o := o) (v := v) hm hs) (show 0 ≤ s by omega)
  omega
theorem go_two {m : Str} {s q r : Int} (hm : Mode m) : goesUp m s (q + 2) r = goesUp m s q r := by
  rcases hm with e | e | e | e | e <;> subst e
  · rw [go_down, go_down]
  · rw [go_up, go_up]
  · rw [go_hd, go_hd]
  · rw [go_hu, go_hu]
  · rw [go_he, go_he, show (q + 2) % 2 = q % 2 by omega]
theorem due_two {o s : Int} {m : Str} {v : Int} (hm : Mode m) (hs : 1 ≤ s) : dueM o s m (v + s * 2) = dueM o s m v + s * 2 := by
  have F := fig_of (o := o) (m := m) (v := v) hs
  unfold dueM
  generalize (v - o) / s = q at F
  generalize (v - o) % s = r at F
  obtain ⟨eq, r0, r1, wh⟩ := F
  rw [fig_uniq (v := v + s * 2) (q := q + 2) (r := r) (k := figM o s m v + 2) hs ⟨by rw [Int.mul_add]; omega, r0, r1, ?_⟩, Int.mul_add]
  · omega
  · rw [go_two hm]
    rcases wh with ⟨h, e⟩ | ⟨h, e⟩
    · exact .inl ⟨h, by omega⟩
    · exact .inr ⟨h, by omega⟩
/-! ### bounds -/
def Bd (x : Int) : Prop := -2 ^ 1000 < x ∧ x < 2 ^ 1000
theorem div_bd {x s b : Int} (hs : 1 ≤ s) (h0 : -b < x) (h1 : x < b) : -b < x / s ∧ x / s < b := by
  by_cases hx : 0 ≤ x
  · have a := Int.ediv_nonneg hx (show 0 ≤ s by omega)
    have c := Int.ediv_le_self s hx
    omega
  · have a : x ≤ x / s := by
      rw [Int.le_ediv_iff_mul_le (by omega)]
      have := Int.mul_le_mul_of_nonpos_left (show x ≤ 0 by omega) hs
      omega
    have c : x / s < 0 := Int.ediv_neg_of_neg_of_pos (by omega) (by omega)
    omega
end HT
namespace HT
open PySem L2
/-! ### spans -/
def below (m : Str) (s k : Int) : Int := if m = "down" then 0 else if m = "up" then s - 1 else if m = "half_up" ∨ (m = "half_even" ∧ k % 2 = 0) then s / 2 else (s - 1) / 2
def mir (m : Str) : Str := if m = "down" then "up" else if m = "up" then "down" else if m = "half_down" then "half_up" else if m = "half_up" then "half_down" else "half_even"
def lowM (o s : Int) (m : Str) (k : Int) : Int := o + s * k - below m s k
def highM (o s : Int) (m : Str) (k : Int) : Int := o + s * k + below (mir m) s k
theorem mir_d : mir "down" = "up" := by unfold mir; rw [if_pos rfl]
theorem mir_u : mir "up" = "down" := by unfold mir; rw [if_neg d_u, if_pos rfl]
theorem mir_hd : mir "half_down" = "half_up" := by unfold mir; rw [if_neg hd_d, if_neg hd_u, if_pos rfl]
theorem mir_hu : mir "half_up" = "half_down" := by unfold mir; rw [if_neg hu_d, if_neg hu_u, if_neg hu_hd, if_pos rfl]
theorem mir_he : mir "half_even" = "half_even" := by unfold mir; rw [if_neg he_d, if_neg he_u, if_neg he_hd, if_neg he_hu]
theorem be_d (s k : Int) : below "down" s k = 0 := by unfold below; rw [if_pos rfl]
theorem be_u (s k : Int) : below "up" s k = s - 1 := by unfold below; rw [if_neg d_u, if_pos rfl]
theorem be_hd (s k : Int) : below "half_down" s k = (s - 1) / 2 := by
  unfold below
  rw [if_neg hd_d, if_neg hd_u, if_neg]
  rintro (z | ⟨z, _⟩)
  · exact hd_hu z
  · exact hd_e z
theorem be_hu (s k : Int) : below "half_up" s k = s / 2 := by unfold below; rw [if_neg hu_d, if_neg hu_u, if_pos (.inl rfl)]
theorem be_he (s k : Int) : below "half_even" s k = if k % 2 = 0 then s / 2 else (s - 1) / 2 := by
  unfold below
  rw [if_neg he_d, if_neg he_u]
  by_cases h : k % 2 = 0
  · rw [if_pos (.inr ⟨rfl, h⟩), if_pos h]
  · rw [if_neg h, if_neg]
    rintro (z | ⟨_, z⟩)
    · exact he_hu z
    · exact h z
theorem mir_mode {m : Str} (h : Mode m) : Mode (mir m) := by
  rcases h with e | e | e | e | e <;> subst e
  · rw [mir_d]; exact .inr (.inl rfl)
  · rw [mir_u]; exact .inl rfl
  · rw [mir_hd]; exact .inr (.inr (.inr (.inl rfl)))
  · rw [mir_hu]; exact .inr (.inr (.inl rfl))
  · rw [mir_he]; exact .inr (.inr (.inr (.inr rfl)))
theorem below_bd {m : Str} {s k : Int} (h : Mode m) (hs : 1 ≤ s) : 0 ≤ below m s k ∧ below m s k < s := by
  rcases h with e | e | e | e | e <;> subst e
  · rw [be_d]; omega
  · rw [be_u]; omega
  · rw [be_hd]; omega
  · rw [be_hu]; omega
  · rw [be_he]; split <;> omega
theorem up_iff {m : Str} {s q r : Int} (h : Mode m) (r0 : 0 ≤ r) (r1 : r < s) : goesUp m s q r = true ↔ below (mir m) s q < r := by
  rcases h with e | e | e | e | e <;> subst e
  · rw [go_down, mir_d, be_u]
    exact ⟨fun z => (Bool.false_ne_true z).elim, fun z => absurd z (by omega)⟩
  · rw [go_up, mir_u, be_d, decide_eq_true_eq]
  · rw [go_hd, mir_hd, be_hu, decide_eq_true_eq]; omega
  · rw [go_hu, mir_hu, be_hd, decide_eq_true_eq]; omega
  · rw [go_he, mir_he, be_he, Bool.or_eq_true, Bool.and_eq_true, decide_eq_true_eq, decide_eq_true_eq, decide_eq_true_eq]
    split <;> omega
theorem touch {m : Str} {s : Int} (q : Int) (h : Mode m) (hs : 1 ≤ s) : below m s (q + 1) + below (mir m) s q = s - 1 := by
  rcases h with e | e | e | e | e <;> subst e
  · rw [be_d, mir_d, be_u]; omega
  · rw [be_u, mir_u, be_d]; omega
  · rw [be_hd, mir_hd, be_hu]; omega
  · rw [be_hu, mir_hu, be_hd]; omega
  · rw [be_he, mir_he, be_he]; split <;> split <;> omega
theorem mul_lt_step {s q k : Int} (hs : 1 ≤ s) (h : q < k) : s * q + s ≤ s * k := by
  have := Int.mul_le_mul_of_nonneg_left (show q + 1 ≤ k by omega) (show 0 ≤ s by omega)
  rw [Int.mul_add, Int.mul_one] at this
  exact this
/-- a value comes to k just between the ends -/
theorem fig_iff {o s : Int} {m : Str} {v k : Int} (h : Mode m) (hs : 1 ≤ s) : figM o s m v = k ↔ lowM o s m k ≤ v ∧ v ≤ highM o s m k := by
  have F := fig_of (o := o) (m := m) (v := v) hs
  generalize (v - o) / s = q at F
  generalize (v - o) % s = r at F
  generalize figM o s m v = f at F ⊢
  obtain ⟨eq, r0, r1, wh⟩ := F
  have ui := up_iff (q := q) h r0 r1
  have t1 := touch (k - 1) h hs
  rw [show k - 1 + 1 = k by omega] at t1
  have bk := below_bd (k := k) (mir_mode h) hs
  have bk1 := below_bd (k := k - 1) (mir_mode h) hs
  have bq := below_bd (k := q) (mir_mode h) hs
  unfold lowM highM
  have hf : (f = q + 1 ∧ below (mir m) s q < r) ∨ (f = q ∧ r ≤ below (mir m) s q) := by
    rcases wh with ⟨g, e⟩ | ⟨g, e⟩
    · exact .inl ⟨e, ui.mp g⟩
    · refine .inr ⟨e, ?_⟩
      have : ¬ below (mir m) s q < r := fun z => by rw [ui.mpr z] at g; cases g
      omega
  rcases Int.lt_trichotomy q k with hq | hq | hq
  · rcases Int.lt_trichotomy (q + 1) k with hq1 | hq1 | hq1
    · have := mul_lt_step hs (show q + 1 < k from hq1)
      rw [Int.mul_add, Int.mul_one] at this
      generalize s * q = a at *
      generalize s * k = b at *
      constructor
      · intro z; omega
      · intro z; omega
    · have e : q = k - 1 := by omega
      subst e
      have : s * (k - 1) = s * k - s := by rw [Int.mul_sub, Int.mul_one]
      generalize s * (k - 1) = a at *
      generalize s * k = b at *
      constructor
      · intro z; omega
      · intro z; omega
    · omega
  · subst hq
    generalize s * q = a at *
    constructor
    · intro z; omega
    · intro z; omega
  · have := mul_lt_step hs hq
    generalize s * q = a at *
    generalize s * k = b at *
    constructor
    · intro z; omega
    · intro z; omega
theorem low_high {o s : Int} {m : Str} {k : Int} (h : Mode m) (hs : 1 ≤ s) : lowM o s m k ≤ o + s * k ∧ o + s * k ≤ highM o s m k := by
  have a := below_bd (k := k) h hs
  have b := below_bd (k := k) (mir_mode h) hs
  unfold lowM highM
  omega
theorem low_next {o s : Int} {m : Str} (k : Int) (h : Mode m) (hs : 1 ≤ s) : lowM o s m (k + 1) = highM o s m k + 1 := by
  have := touch k h hs
  unfold lowM highM
  rw [Int.mul_add, Int.mul_one]
  omega
theorem high_prev {o s : Int} {m : Str} (k : Int) (h : Mode m) (hs : 1 ≤ s) : highM o s m (k - 1) = lowM o s m k - 1 := by
  have := low_next (o := o) (k - 1) h hs
  rw [show k - 1 + 1 = k by omega] at this
  omega
theorem fig_low {o s : Int} {m : Str} (k : Int) (h : Mode m) (hs : 1 ≤ s) : figM o s m (lowM o s m k) = k := by
  have a := low_high (o := o) (k := k) h hs
  exact (fig_iff h hs).mpr ⟨by omega, by omega⟩
theorem fig_high {o s : Int} {m : Str} (k : Int) (h : Mode m) (hs : 1 ≤ s) : figM o s m (highM o s m k) = k := by
  have a := low_high (o := o) (k := k) h hs
  exact (fig_iff h hs).mpr ⟨by omega, by omega⟩
theorem fig_low1 {o s : Int} {m : Str} (k : Int) (h : Mode m) (hs : 1 ≤ s) : figM o s m (lowM o s m k - 1) = k - 1 := by
  rw [← high_prev k h hs]
  exact fig_high _ h hs
theorem fig_high1 {o s : Int} {m : Str} (k : Int) (h : Mode m) (hs : 1 ≤ s) : figM o s m (highM o s m k + 1) = k + 1 := by
  rw [← low_next k h hs]
  exact fig_low _ h hs
/-- the figure of the least standing value that is not less -/
def ceilM (o s v : Int) : Int := -((o - v) / s)
theorem ceil_eq {o s v : Int} (hs : 1 ≤ s) : v ≤ o + s * ceilM o s v ∧ o + s * (ceilM o s v - 1) < v := by
  have a := Int.mul_ediv_add_emod (o - v) s
  have b := Int.emod_nonneg (o - v) (show s ≠ 0 by omega)
  have c := Int.emod_lt_of_pos (o - v) (show 0 < s by omega)
  unfold ceilM
  rw [Int.mul_sub, Int.mul_one, Int.mul_neg]
  omega
def backM (o s : Int) (m : Str) (v : Int) : Int := lowM o s m (ceilM o s v)
theorem back_ge {o s : Int} {m : Str} {v : Int} (h : Mode m) (hs : 1 ≤ s) : v ≤ dueM o s m (backM o s m v) := by
  unfold dueM backM
  rw [fig_low _ h hs]
  exact (ceil_eq hs).1
theorem back_lt {o s : Int} {m : Str} {v : Int} (h : Mode m) (hs : 1 ≤ s) : dueM o s m (backM o s m v - 1) < v := by
  unfold dueM backM
  rw [fig_low1 _ h hs]
  exact (ceil_eq hs).2
theorem mul_b {s k : Int} (s0 : 1 ≤ s) (s1 : s ≤ 10 ^ 30) (h : -2 ^ 720 < k ∧ k < 2 ^ 720) : -2 ^ 820 < s * k ∧ s * k < 2 ^ 820 := by
  have h1 : (s * k).natAbs < 2 ^ (100 + 720) := wide_lt (a := 100) (b := 720) (by omega) (by omega)
  omega
end HT
namespace HT
open PySem L2
theorem lg_big {n : Int} (h0 : 0 ≤ n) (h : n < 2 ^ 200) : n.natAbs.log2 < 9000 := by
  obtain ⟨m, rfl⟩ := Int.eq_ofNat_of_zero_le h0
  exact lg_nat (by omega)
def modesV : List V := [.str "down", .str "up", .str "half_down", .str "half_up", .str "half_even"]
/-- the further names that the text of sides does not bind, and its table of modes -/
structure SideT (K : PySem.W.Frag) (mg : Str → Option Value) (aM : Addr) : Prop where
  isi : mg "isinstance" = none
  int : mg "int" = none
  bool : mg "bool" = none
  tuple : mg "tuple" = none
  len : mg "len" = none
  dm : mg "divmod" = none
  gM : mg "MODES" = some (.ref aM)
  tM : ∀ H, SqT K H aM modesV
def spIsInt : Sp := fun vs H Q _ => ∃ i : Int, vs = [.int i] ∧ Q (.bl true) H
def spBetween : Sp := fun vs H Q _ => ∃ i a b : Int, vs = [.int i, .int a, .int b] ∧ Q (.bl (decide (a ≤ i) && decide (i ≤ b))) H
def spCheckValue : Sp := fun vs H Q _ => ∃ i : Int, vs = [.int i] ∧ Q .non H
def spCheckSide : Sp := fun vs H Q _ => ∃ (p : Addr) (o s : Int) (m : Str), vs = [.ref p] ∧ H p = some (sideV o s m) ∧ SideP o s m ∧ Q .non H
def spGo : Sp := fun vs H Q _ => ∃ (m : Str) (s q r : Int), vs = [.str m, .int s, .int q, .int r] ∧ Q (.bl (goesUp m s q r)) H
def spSV (f : Int → Int → Str → Int → V) : Sp := fun vs H Q _ => ∃ (p : Addr) (o s : Int) (m : Str) (v : Int), vs = [.ref p, .int v] ∧ H p = some (sideV o s m) ∧ SideP o s m ∧ Bd v ∧ ∀ H', Same H H' → Q (f o s m v) H'
def spFig : Sp := spSV fun o s m v => .int (figM o s m v)
def spDue : Sp := spSV fun o s m v => .int (dueM o s m v)
def spStands : Sp := spSV fun o s m v => .bl (decide ((v - o) % s = 0))
theorem dec_int (a b : Int) : decide (V.int a = V.int b) = decide (a = b) := by
  by_cases h : a = b
  · rw [decide_eq_true h, h, decide_eq_true rfl]
  · rw [decide_eq_false h, decide_eq_false (fun z => h (V.int.inj z))]
theorem dec_str (a b : Str) : decide (V.str a = V.str b) = decide (a = b) := by
  by_cases h : a = b
  · rw [decide_eq_true h, h, decide_eq_true rfl]
  · rw [decide_eq_false h, decide_eq_false (fun z => h (V.str.inj z))]
theorem dec_bl (a b : Bool) : decide (V.bl a = V.bl b) = decide (a = b) := by
  by_cases h : a = b
  · rw [decide_eq_true h, h, decide_eq_true rfl]
  · rw [decide_eq_false h, decide_eq_false (fun z => h (V.bl.inj z))]
theorem str_t {a b : Str} (h : decide (V.str a = V.str b) = true) : a = b := V.str.inj (of_decide_eq_true h)
theorem str_f {a b : Str} (h : ¬ decide (V.str a = V.str b) = true) : ¬ a = b := fun z => h (decide_eq_true (congrArg V.str z))
theorem int_t {a b : Int} (h : decide (V.int a = V.int b) = true) : a = b := V.int.inj (of_decide_eq_true h)
theorem int_f {a b : Int} (h : ¬ decide (V.int a = V.int b) = true) : ¬ a = b := fun z => h (decide_eq_true (congrArg V.int z))
theorem not_t {b : Bool} (h : (!b) = true) : ¬ b = true := by cases b <;> simp_all
theorem not_f {b : Bool} (h : ¬ (!b) = true) : b = true := by cases b <;> simp_all
theorem mode_in {m : Str} (h : Mode m) : inV (.str m) modesV = true := by
  rcases h with e | e | e | e | e <;> subst e <;> decide +kernel
theorem divp {o v s : Int} (hs : 1 ≤ s) (ho : -10 ^ 40 ≤ o ∧ o ≤ 10 ^ 40) (hv : Bd v) : CDivP (v - o) s := by
  refine divp_ok (by omega) ?_
  have h : (v - o).natAbs < 2 ^ 1010 := by
    have h1 := hv.1
    have h2 := hv.2
    omega
  have h2 : Builtin.Int.intBits (v - o) ≤ 1011 := by
    unfold Builtin.Int.intBits
    split
    · omega
    · have := PySem.Flt.log2_lt_of (by decide) h
      omega
  omega
theorem mulW {i j : Int} (hi : -2 ^ 1010 < i ∧ i < 2 ^ 1010) (hj : -2 ^ 1010 < j ∧ j < 2 ^ 1010) : CMulW i j := wide_mul (a := 1010) (b := 1010) (by omega) (by omega) (by decide) (by decide) (by decide)
theorem fig_bd {o s : Int} {m : Str} {v : Int} (S : SideP o s m) (hv : Bd v) : -2 ^ 1001 < figM o s m v ∧ figM o s m v < 2 ^ 1001 := by
  obtain ⟨h1, h2⟩ := hv
  obtain ⟨o0, o1, s0, s1, _⟩ := S
  have := div_bd (x := v - o) (b := 2 ^ 1000 + 10 ^ 40) s0 (by omega) (by omega)
  unfold figM
  split <;> omega
section
variable {P : Program} {w : World} {K : PySem.W.Frag} {mg : Str → Option Value} {base : Heap} {aM fI fB fV fC fG fF : Addr} {dI dB dV dC dG dF : FuncData}
theorem ok_is_int {f : Addr} {fd : FuncData} (F : Fun K "is_int" "is_int" s_is_int f fd) (T : SideT K mg aM) : FnOk P w K mg base CX0 1 f fd ["thing"] spIsInt := by
  refine F.ok sc_is_int (fun vs H Q E h => ?_) (fun cdv A outer s H vs Q E hr h => ?_)
  · obtain ⟨i, rfl, _⟩ := h
    rfl
  · obtain ⟨i, rfl, q⟩ := h
    refine ⟨_, pss_one (ps_ret (pe_and (pe_callB call_isi (by rfl) T.isi (by decide +kernel) (pa_cons (pv 0) (pa_cons (pe_bltn (v := .ty "int") (by rfl) T.int (by decide +kernel) rfl) pa_nil)))
      (pe_one (pe_not (pe_callB call_isi (by rfl) T.isi (by decide +kernel) (pa_cons (pv 0) (pa_cons (pe_bltn (v := .ty "bool") (by rfl) T.bool (by decide +kernel) rfl) pa_nil))))))), ?_⟩
    walk_at "rd"
    refine ⟨_, _, _, _, _, rfl, .ty "int", .base (.int _), kit_ty (r := true) (by decide +kernel), ?_⟩
    walk_at "rd"
    refine ⟨_, _, _, _, _, rfl, .ty "bool", .base (.int _), kit_ty (r := false) (by decide +kernel), ?_⟩
    walk_at "rd"
    exact q
theorem ok_between {f : Addr} {fd : FuncData} (F : Fun K "is_int_between" "is_int_between" s_is_int_between f fd) (I : Cal P w K mg base "is_int" 1 ["thing"] spIsInt fI dI) : FnOk P w K mg base CX0 2 f fd ["thing", "least", "most"] spBetween := by
  refine F.ok sc_is_int_between (fun vs H Q E h => ?_) (fun cdv A outer s H vs Q E hr h => ?_)
  · obtain ⟨i, a, b, rfl, _⟩ := h
    rfl
  · obtain ⟨i, a, b, rfl, q⟩ := h
    refine ⟨_, pss_one (ps_ret (pe_and (pcl I hr (by decide) (by rfl) (pa_cons (pv 0) pa_nil)) (pe_one (pe_chain op_le op_le (pv 1) (pv 0) (pv 2))))), ?_⟩
    walk_at "rd"
    refine ite2 (fun h => ?_) (fun h => ?_)
    · walk_at "rd"
      rw [decide_eq_true (of_decide_eq_true h)] at q
      exact q
    · rw [decide_eq_false (of_decide_eq_false (by simpa using h))] at q
      exact q
theorem ok_check_value {f : Addr} {fd : FuncData} (F : Fun K "check_value" "check_value" s_check_value f fd) (I : Cal P w K mg base "is_int" 1 ["thing"] spIsInt fI dI) : FnOk P w K mg base CX0 2 f fd ["value"] spCheckValue := by
  refine F.ok sc_check_value (fun vs H Q E h => ?_) (fun cdv A outer s H vs Q E hr h => ?_)
  · obtain ⟨i, rfl, _⟩ := h
    rfl
  · obtain ⟨i, rfl, q⟩ := h
    refine ⟨_, pss_one (ps_if (pt_not (pt_val (pcl I hr (by decide) (by rfl) (pa_cons (pv 0) pa_nil)))) (pss_one ps_never) pss_nil), ?_⟩
    walk_at "rd"
    exact q
theorem ok_check_side {f : Addr} {fd : FuncData} (F : Fun K "check_side" "check_side" s_check_side f fd) (T : SideT K mg aM) (B : Cal P w K mg base "is_int_between" 2 ["thing", "least", "most"] spBetween fB dB) : FnOk P w K mg base CX0 3 f fd ["side"] spCheckSide := by
  refine F.ok sc_check_side (fun vs H Q E h => ?_) (fun cdv A outer s H vs Q E hr h => ?_)
  · obtain ⟨p, o, s, m, rfl, _⟩ := h
    rfl
  · obtain ⟨p, o, s, m, rfl, hp, S, q⟩ := h
    have nd := sc_check_side.nd
    refine ⟨_, pss_cons (ps_if (PW.pt (pw_or (pt_not (pt_val (pe_callB call_isi (by rfl) T.isi (by decide +kernel) (pa_cons (pv 0) (pa_cons (pe_bltn (v := .ty "tuple") (by rfl) T.tuple (by decide +kernel) rfl) pa_nil)))))
        (pw_or1 (pt_cmpR op_ne (pe_callB call_len_seq (by rfl) T.len PySem.boot_len (pa_cons (pv 0) pa_nil)) pe_int (nomark _))))) (pss_one ps_never) pss_nil)
      (pss_cons (ps_asg (pv 0) (pg_tup (by rfl) (pgs_cons (pg_name (i := 1) nd rfl (Or.inl rfl)) (pgs_cons (pg_name (i := 2) nd rfl (Or.inl rfl)) (pgs_cons (pg_name (i := 3) nd rfl (Or.inl rfl)) pgs_nil)))))
      (pss_cons (ps_if (pt_not (pt_val (pcl B hr (by decide) (by rfl) (pa_cons (pv 1) (pa_cons (pe_un un_neg (pe_op op_pow pe_int pe_int)) (pa_cons (pe_op op_pow pe_int pe_int) pa_nil)))))) (pss_one ps_never) pss_nil)
      (pss_cons (ps_if (pt_not (pt_val (pcl B hr (by decide) (by rfl) (pa_cons (pv 2) (pa_cons pe_int (pa_cons (pe_op op_pow pe_int pe_int) pa_nil)))))) (pss_one ps_never) pss_nil)
      (pss_one (ps_if (pt_cmpR op_notIn_seq (pv 3) (pe_glob (v := .ref aM) (by rfl) T.gM rfl) (by rfl)) (pss_one ps_never) pss_nil))))), ?_⟩
    walk_at "rd"
    refine ⟨_, _, _, _, _, rfl, .ty "tuple", .base (.tup hp), kit_ty (r := true) (by decide +kernel), ?_⟩
    walk_at "rd"
    refine ⟨p, _, rfl, .inr (SqT.of hp), rfl, ?_⟩
    walk_at "rd"
    refine ⟨p, _, rfl, SqT.of hp, rfl, _, _, rfl, _, _, rfl, _, _, rfl, rfl, ?_⟩
    walk_at "rd"
    refine ⟨⟨by decide, by decide, by decide⟩, ?_⟩
    walk_at "rd"
    refine ⟨⟨by decide, by decide, by decide⟩, _, _, _, rfl, ?_⟩
    have e1 : (decide (-(10 : Int) ^ (40 : Int).toNat ≤ o) && decide (o ≤ (10 : Int) ^ (40 : Int).toNat)) = true := by
      rw [decide_eq_true (show -(10 : Int) ^ (40 : Int).toNat ≤ o from S.o0), decide_eq_true (show o ≤ (10 : Int) ^ (40 : Int).toNat from S.o1)]
      rfl
    refine ⟨_, rfl, ?_⟩
    refine ite2 (fun h => (not_t h e1).elim) (fun _ => ?_)
    walk_at "rd"
    refine ⟨⟨by decide, by decide, by decide⟩, _, _, _, rfl, ?_⟩
    have e2 : (decide ((1 : Int) ≤ s) && decide (s ≤ (10 : Int) ^ (30 : Int).toNat)) = true := by
      rw [decide_eq_true S.s0, decide_eq_true (show s ≤ (10 : Int) ^ (30 : Int).toNat from S.s1)]
      rfl
    refine ⟨_, rfl, ?_⟩
    refine ite2 (fun h => (not_t h e2).elim) (fun _ => ?_)
    walk_at "rd"
    refine ⟨aM, _, rfl, .inr (T.tM H), rfl, by decide, ?_⟩
    walk_at "rd"
    refine ite2 (fun h => (not_t h (mode_in S.md)).elim) (fun _ => ?_)
    exact q
end
end HT
namespace HT
open PySem L2
section
variable {P : Program} {w : World} {K : PySem.W.Frag} {mg : Str → Option Value} {base : Heap} {aM fI fB fV fC fG fF : Addr} {dI dB dV dC dG dF : FuncData}
theorem ok_goes_up {f : Addr} {fd : FuncData} (F : Fun K "_goes_up" "_goes_up" s_goes_up f fd) : FnOk P w K mg base CX0 1 f fd ["mode", "step", "figure", "rest"] spGo := by
  refine F.ok sc_goes_up (fun vs H Q E h => ?_) (fun cdv A outer s H vs Q E hr h => ?_)
  · obtain ⟨m, s, q, r, rfl, _⟩ := h
    rfl
  · obtain ⟨m, s, fg, r, rfl, q⟩ := h
    refine ⟨_, pss_cons (ps_if (pt_cmpR op_eq (pv 0) pe_str (nomark _)) (pss_one (ps_ret pe_bl)) pss_nil)
      (pss_cons (ps_if (pt_cmpR op_eq (pv 0) pe_str (nomark _)) (pss_one (ps_ret (pe_cmpR op_gt (pv 3) pe_int (nomark _)))) pss_nil)
      (pss_cons (ps_if (pt_cmpR op_ne (pe_op op_mul pe_int (pv 3)) (pv 1) (nomark _)) (pss_one (ps_ret (pe_cmpR op_gt (pe_op op_mul pe_int (pv 3)) (pv 1) (nomark _)))) pss_nil)
      (pss_cons (ps_if (pt_cmpR op_eq (pv 0) pe_str (nomark _)) (pss_one (ps_ret (pe_cmpR op_eq (pe_op op_mod (pv 2) pe_int) pe_int (nomark _)))) pss_nil)
      (pss_one (ps_ret (pe_cmpR op_eq (pv 0) pe_str (nomark _))))))), ?_⟩
    unfold goesUp at q
    walk_at "rd"
    refine ⟨rfl, ?_⟩
    walk_at "rd"
    refine ite2 (fun h => ?_) (fun h1 => ?_)
    · rw [if_pos (str_t h)] at q
      exact q
    rw [if_neg (str_f h1)] at q
    walk_at "rd"
    refine ⟨rfl, ?_⟩
    walk_at "rd"
    refine ite2 (fun h => ?_) (fun h2 => ?_)
    · rw [if_pos (str_t h)] at q
      walk_at "rd"
      exact q
    rw [if_neg (str_f h2)] at q
    walk_at "rd"
    refine ⟨.inl ⟨by decide, by decide⟩, ?_⟩
    walk_at "rd"
    refine ⟨rfl, ?_⟩
    walk_at "rd"
    refine ite2 (fun h => ?_) (fun h3 => ?_)
    · rw [if_neg (int_f (not_t h))] at q
      walk_at "rd"
      refine ⟨.inl ⟨by decide, by decide⟩, ?_⟩
      walk_at "rd"
      exact q
    rw [if_pos (int_t (not_f h3))] at q
    walk_at "rd"
    refine ⟨rfl, ?_⟩
    walk_at "rd"
    refine ite2 (fun h => ?_) (fun h4 => ?_)
    · rw [if_pos (str_t h), ← dec_int] at q
      walk_at "rd"
      refine ⟨(by show (0 : Int) < 2; decide), ?_⟩
      walk_at "rd"
      exact ⟨rfl, q⟩
    · rw [if_neg (str_f h4), ← dec_str] at q
      walk_at "rd"
      exact ⟨rfl, q⟩
theorem ok_figure {f : Addr} {fd : FuncData} (F : Fun K "_figure" "_figure" s_figure f fd) (T : SideT K mg aM)
    (G : Cal P w K mg base "_goes_up" 1 ["mode", "step", "figure", "rest"] spGo fG dG) : FnOk P w K mg base CX0 2 f fd ["side", "value"] spFig := by
  refine F.ok sc_figure (fun vs H Q E h => ?_) (fun cdv A outer s H vs Q E hr h => ?_)
  · obtain ⟨p, o, s, m, v, rfl, _⟩ := h
    rfl
  · obtain ⟨p, o, s, m, v, rfl, hp, S, hv, q⟩ := h
    have nd := sc_figure.nd
    refine ⟨_, pss_cons (ps_asg (pv 0) (pg_tup (by rfl) (pgs_cons (pg_name (i := 2) nd rfl (Or.inl rfl)) (pgs_cons (pg_name (i := 3) nd rfl (Or.inl rfl)) (pgs_cons (pg_name (i := 4) nd rfl (Or.inl rfl)) pgs_nil)))))
      (pss_cons (ps_asg (pe_callB call_divmodW (by rfl) T.dm (by decide +kernel) (pa_cons (pe_op op_sub (pv 1) (pv 2)) (pa_cons (pv 3) pa_nil))) (pg_tup (by rfl) (pgs_cons (pg_name (i := 5) nd rfl (Or.inl rfl)) (pgs_cons (pg_name (i := 6) nd rfl (Or.inl rfl)) pgs_nil))))
      (pss_cons (ps_if (pt_val (pcl G hr (by decide) (by rfl) (pa_cons (pv 4) (pa_cons (pv 3) (pa_cons (pv 5) (pa_cons (pv 6) pa_nil)))))) (pss_one (ps_ret (pe_op op_add (pv 5) pe_int))) pss_nil)
      (pss_one (ps_ret (pv 5))))), ?_⟩
    walk_at "rd"
    refine ⟨p, _, rfl, SqT.of hp, rfl, _, _, rfl, _, _, rfl, _, _, rfl, rfl, ?_⟩
    walk_at "rd"
    refine ⟨_, _, rfl, divp S.s0 ⟨S.o0, S.o1⟩ hv, fun d nd' => ?_⟩
    refine ⟨d, _, rfl, SqT.of upd_same, rfl, _, _, rfl, _, _, rfl, rfl, ?_⟩
    have sm : Same H (upd H d (.tup [.int ((v - o) / s), .int ((v - o) % s)])) := fun b u z => by rw [upd_ne (ne_of_none z nd')]; exact z
    have q' : Q (.int (figM o s m v)) (upd H d (.tup [.int ((v - o) / s), .int ((v - o) % s)])) := q _ sm
    unfold figM at q'
    walk_at "rd"
    refine ⟨_, _, _, _, rfl, ?_⟩
    walk_at "rd"
    refine ite2 (fun h => ?_) (fun h => ?_)
    · rw [if_pos h] at q'
      walk_at "rd"
      exact q'
    · rw [if_neg h] at q'
      walk_at "rd"
      exact q'
end
end HT
namespace HT
open PySem L2
section
variable {P : Program} {w : World} {K : PySem.W.Frag} {mg : Str → Option Value} {base : Heap} {fF : Addr} {dF : FuncData}
theorem ok_written {f : Addr} {fd : FuncData} (F : Fun K "written" "written" s_written f fd) (G : Cal P w K mg base "_figure" 2 ["side", "value"] spFig fF dF) : FnOk P w K mg base CX0 3 f fd ["side", "value"] spDue := by
  refine F.ok sc_written (fun vs H Q E h => ?_) (fun cdv A outer s H vs Q E hr h => ?_)
  · obtain ⟨p, o, s, m, v, rfl, _⟩ := h
    rfl
  · obtain ⟨p, o, s, m, v, rfl, hp, S, hv, q⟩ := h
    have nd := sc_written.nd
    refine ⟨_, pss_cons (ps_asg (pv 0) (pg_tup (by rfl) (pgs_cons (pg_name (i := 2) nd rfl (Or.inl rfl)) (pgs_cons (pg_name (i := 3) nd rfl (Or.inl rfl)) (pgs_cons (pg_name (i := 4) nd rfl (Or.inl rfl)) pgs_nil)))))
      (pss_one (ps_ret (pe_op op_add (pv 2) (pe_op op_mulW (pv 3) (pcl G hr (by decide) (by rfl) (pa_cons (pv 0) (pa_cons (pv 1) pa_nil))))))), ?_⟩
    walk_at "rd"
    refine ⟨p, _, rfl, SqT.of hp, rfl, _, _, rfl, _, _, rfl, _, _, rfl, rfl, ?_⟩
    walk_at "rd"
    refine ⟨p, o, s, m, v, rfl, hp, S, hv, fun H' sm => ?_⟩
    walk_at "rd"
    have b1 := fig_bd S hv
    have b2 := S.s0
    have b3 := S.s1
    refine ⟨mulW (by omega) (by omega), ?_⟩
    walk_at "rd"
    exact q H' sm
end
end HT
namespace HT
open PySem L2
structure MirT (K : PySem.W.Frag) (w : World) (mg : Str → Option Value) (aR : Addr) : Prop where
  gR : mg "MIRRORED" = some (.ref aR)
  dR : ∀ m, Mode m → KDct K w aR m (.str (mir m))
def BdK (x : Int) : Prop := -2 ^ 720 < x ∧ x < 2 ^ 720
def spBelow : Sp := fun vs H Q _ => ∃ (m : Str) (s k : Int), vs = [.str m, .int s, .int k] ∧ Mode m ∧ Q (.int (below m s k)) H
def spSpan : Sp := fun vs H Q _ => ∃ (p : Addr) (o s : Int) (m : Str) (k : Int), vs = [.ref p, .int k] ∧ H p = some (sideV o s m) ∧ SideP o s m ∧ BdK k ∧
  ∀ (d : Addr) (H' : Hp), Same H H' → H d = none → H' d = some (.tup [.int (lowM o s m k), .int (highM o s m k)]) → Q (.ref d) H'
def spBack : Sp := fun vs H Q _ => ∃ (p : Addr) (o s : Int) (m : Str) (v : Int), vs = [.ref p, .int v] ∧ H p = some (sideV o s m) ∧ SideP o s m ∧ -2 ^ 700 < v ∧ v < 2 ^ 700 ∧
  ∀ H' : Hp, Same H H' → Q (.int (backM o s m v)) H'
theorem bdK_bd {x : Int} (h : BdK x) : Bd x := by
  unfold BdK at h
  unfold Bd
  omega
section
variable {P : Program} {w : World} {K : PySem.W.Frag} {mg : Str → Option Value} {base : Heap} {aM aR fV fC fB fS : Addr} {dV dC dB dS : FuncData}
theorem ok_below {f : Addr} {fd : FuncData} (F : Fun K "_below" "_below" s_below f fd) : FnOk P w K mg base CX0 1 f fd ["mode", "step", "figure"] spBelow := by
  refine F.ok sc_below (fun vs H Q E h => ?_) (fun cdv A outer s H vs Q E hr h => ?_)
  · obtain ⟨m, s, k, rfl, _⟩ := h
    rfl
  · obtain ⟨m, s, k, rfl, hm, q⟩ := h
    refine ⟨_, pss_cons (ps_if (pt_cmpR op_eq (pv 0) pe_str (nomark _)) (pss_one (ps_ret pe_int)) pss_nil)
      (pss_cons (ps_if (pt_cmpR op_eq (pv 0) pe_str (nomark _)) (pss_one (ps_ret (pe_op op_sub (pv 1) pe_int))) pss_nil)
      (pss_cons (ps_if (PW.pt (pw_or (pt_cmpR op_eq (pv 0) pe_str (nomark _)) (pw_or1 (PW.pt (pw_and (pt_cmpR op_eq (pv 0) pe_str (nomark _)) (pw_and1 (pt_cmpR op_eq (pe_op op_mod (pv 2) pe_int) pe_int (nomark _)))))))) (pss_one (ps_ret (pe_op op_fdiv (pv 1) pe_int))) pss_nil)
      (pss_one (ps_ret (pe_op op_fdiv (pe_op op_sub (pv 1) pe_int) pe_int))))), ?_⟩
    have d2 : ∀ (i : Int), CDiv i 2 := fun _ => ⟨by decide, by decide⟩
    unfold below at q
    walk_at "rd"
    refine ⟨rfl, ?_⟩
    walk_at "rd"
    refine ite2 (fun h => ?_) (fun h1 => ?_)
    · rw [if_pos (str_t h)] at q
      walk_at "rd"
      exact q
    rw [if_neg (str_f h1)] at q
    walk_at "rd"
    refine ⟨rfl, ?_⟩
    walk_at "rd"
    refine ite2 (fun h => ?_) (fun h2 => ?_)
    · rw [if_pos (str_t h)] at q
      walk_at "rd"
      exact q
    rw [if_neg (str_f h2)] at q
    walk_at "rd"
    refine ⟨rfl, ?_⟩
    walk_at "rd"
    refine ite2 (fun h => ?_) (fun h3 => ?_)
    · rw [if_pos (.inl (str_t h))] at q
      walk_at "rd"
      refine ⟨d2 _, ?_⟩
      walk_at "rd"
      exact q
    walk_at "rd"
    refine ⟨rfl, ?_⟩
    walk_at "rd"
    refine ite2 (fun h => ?_) (fun h4 => ?_)
    · walk_at "rd"
      refine ⟨(by show (0 : Int) < 2; decide), ?_⟩
      walk_at "rd"
      refine ⟨rfl, ?_⟩
      walk_at "rd"
      refine ite2 (fun g => ?_) (fun g => ?_)
      · rw [if_pos (.inr ⟨str_t h, int_t g⟩)] at q
        walk_at "rd"
        refine ⟨d2 _, ?_⟩
        walk_at "rd"
        exact q
      · rw [if_neg (by rintro (z | ⟨_, z⟩); exact str_f h3 z; exact int_f g z)] at q
        walk_at "rd"
        refine ⟨d2 _, ?_⟩
        walk_at "rd"
        exact q
    · rw [if_neg (by rintro (z | ⟨z, _⟩); exact str_f h3 z; exact str_f h4 z)] at q
      walk_at "rd"
      refine ⟨d2 _, ?_⟩
      walk_at "rd"
      exact q
theorem ok_uspan {f : Addr} {fd : FuncData} (F : Fun K "_span" "_span" s_uspan f fd) (R : MirT K w mg aR)
    (B : Cal P w K mg base "_below" 1 ["mode", "step", "figure"] spBelow fB dB) : FnOk P w K mg base CX0 2 f fd ["side", "figure"] spSpan := by
  refine F.ok sc_uspan (fun vs H Q E h => ?_) (fun cdv A outer s H vs Q E hr h => ?_)
  · obtain ⟨p, o, s, m, k, rfl, _⟩ := h
    rfl
  · obtain ⟨p, o, s, m, k, rfl, hp, S, hk, q⟩ := h
    have nd := sc_uspan.nd
    refine ⟨_, pss_cons (ps_asg (pv 0) (pg_tup (by rfl) (pgs_cons (pg_name (i := 2) nd rfl (Or.inl rfl)) (pgs_cons (pg_name (i := 3) nd rfl (Or.inl rfl)) (pgs_cons (pg_name (i := 4) nd rfl (Or.inl rfl)) pgs_nil)))))
      (pss_cons (ps_set (i := 5) nd rfl (Or.inl rfl) (pe_op op_add (pv 2) (pe_op op_mulW (pv 3) (pv 1))))
      (pss_one (ps_ret (pe_tup (pa_cons (pe_op op_sub (pv 5) (pcl B hr (by decide) (by rfl) (pa_cons (pv 4) (pa_cons (pv 3) (pa_cons (pv 1) pa_nil)))))
        (pa_cons (pe_op op_add (pv 5) (pcl B hr (by decide) (by rfl) (pa_cons (pe_ix ix_kdict (pe_glob (v := .ref aR) (by rfl) R.gR rfl) (pv 4) (fun _ _ => rfl)) (pa_cons (pv 3) (pa_cons (pv 1) pa_nil))))) pa_nil)))))), ?_⟩
    walk_at "rd"
    refine ⟨p, _, rfl, SqT.of hp, rfl, _, _, rfl, _, _, rfl, _, _, rfl, rfl, ?_⟩
    have s0 := S.s0
    have s1 := S.s1
    have hk' := hk
    unfold BdK at hk'
    walk_at "rd"
    refine ⟨mulW (by omega) (by omega), ?_⟩
    walk_at "rd"
    refine ⟨m, s, k, rfl, S.md, ?_⟩
    walk_at "rd"
    refine ⟨aR, m, _, rfl, rfl, R.dR m S.md, ?_⟩
    walk_at "rd"
    refine ⟨mir m, s, k, rfl, mir_mode S.md, ?_⟩
    walk_at "rd"
    refine ⟨(by show 2 ≤ sizeLine; decide), fun d nd' => ?_⟩
    exact q d _ (fun b u z => (upd_ne (ne_of_none z nd')).trans z) nd' upd_same
theorem ok_span {f : Addr} {fd : FuncData} (F : Fun K "span" "span" s_span f fd) (C : Cal P w K mg base "check_side" 3 ["side"] spCheckSide fC dC) (V' : Cal P w K mg base "check_value" 2 ["value"] spCheckValue fV dV)
    (G : Cal P w K mg base "_span" 2 ["side", "figure"] spSpan fS dS) : FnOk P w K mg base CX0 4 f fd ["side", "figure"] spSpan := by
  refine F.ok sc_span (fun vs H Q E h => ?_) (fun cdv A outer s H vs Q E hr h => ?_)
  · obtain ⟨p, o, s, m, v, rfl, _⟩ := h
    rfl
  · obtain ⟨p, o, s, m, v, rfl, hp, S, q⟩ := h
    refine ⟨_, pss_cons (ps_expr (pcl C hr (by decide) (by rfl) (pa_cons (pv 0) pa_nil)))
      (pss_cons (ps_expr (pcl V' hr (by decide) (by rfl) (pa_cons (pv 1) pa_nil)))
      (pss_one (ps_ret (pcl G hr (by decide) (by rfl) (pa_cons (pv 0) (pa_cons (pv 1) pa_nil)))))), ?_⟩
    walk_at "rd"
    refine ⟨p, o, s, m, rfl, hp, S, ?_⟩
    walk_at "rd"
    exact ⟨p, o, s, m, v, rfl, hp, S, q⟩
theorem ok_threshold {f : Addr} {fd : FuncData} (F : Fun K "threshold" "threshold" s_threshold f fd) (B : Cal P w K mg base "_below" 1 ["mode", "step", "figure"] spBelow fB dB) : FnOk P w K mg base CX0 3 f fd ["side", "value"] spBack := by
  refine F.ok sc_threshold (fun vs H Q E h => ?_) (fun cdv A outer s H vs Q E hr h => ?_)
  · obtain ⟨p, o, s, m, v, rfl, _⟩ := h
    rfl
  · obtain ⟨p, o, s, m, v, rfl, hp, S, hv0, hv1, q⟩ := h
    have nd := sc_threshold.nd
    refine ⟨_, pss_cons (ps_asg (pv 0) (pg_tup (by rfl) (pgs_cons (pg_name (i := 2) nd rfl (Or.inl rfl)) (pgs_cons (pg_name (i := 3) nd rfl (Or.inl rfl)) (pgs_cons (pg_name (i := 4) nd rfl (Or.inl rfl)) pgs_nil)))))
      (pss_cons (ps_set (i := 5) nd rfl (Or.inl rfl) (pe_un un_neg (pe_op op_fdivW (pe_op op_sub (pv 2) (pv 1)) (pv 3))))
      (pss_one (ps_ret (pe_op op_sub (pe_op op_add (pv 2) (pe_op op_mulW (pv 3) (pv 5))) (pcl B hr (by decide) (by rfl) (pa_cons (pv 4) (pa_cons (pv 3) (pa_cons (pv 5) pa_nil)))))))), ?_⟩
    walk_at "rd"
    refine ⟨p, _, rfl, SqT.of hp, rfl, _, _, rfl, _, _, rfl, _, _, rfl, rfl, ?_⟩
    have s0 := S.s0
    have s1 := S.s1
    have o0 := S.o0
    have o1 := S.o1
    walk_at "rd"
    refine ⟨fdiv_ok _ (by omega) (lg_big (by omega) (by omega)), ?_⟩
    walk_at "rd"
    have db := div_bd (x := o - v) (b := 2 ^ 701) s0 (by omega) (by omega)
    refine ⟨mulW (by omega) (by omega), ?_⟩
    walk_at "rd"
    refine ⟨m, s, ceilM o s v, rfl, S.md, ?_⟩
    walk_at "rd"
    exact q H (fun _ _ z => z)
end
end HT
namespace HT
open PySem L2
/-! ### mirrors and forms -/
theorem mir_mir {m : Str} (h : Mode m) : mir (mir m) = m := by
  rcases h with e | e | e | e | e <;> subst e
  · rw [mir_d, mir_u]
  · rw [mir_u, mir_d]
  · rw [mir_hd, mir_hu]
  · rw [mir_hu, mir_hd]
  · rw [mir_he, mir_he]
theorem below_neg {m : Str} {s : Int} (k : Int) (h : Mode m) : below m s (-k) = below m s k := by
  rcases h with e | e | e | e | e <;> subst e
  · rw [be_d, be_d]
  · rw [be_u, be_u]
  · rw [be_hd, be_hd]
  · rw [be_hu, be_hu]
  · rw [be_he, be_he]; split <;> split <;> omega
theorem due_mirror {o s : Int} {m : Str} {v : Int} (h : Mode m) (hs : 1 ≤ s) : dueM (-o) s (mir m) (-v) = -dueM o s m v := by
  have f := (fig_iff (o := o) (v := v) (k := figM o s m v) h hs).mp rfl
  generalize figM o s m v = k at f
  have e : figM o s m v = k := (fig_iff h hs).mpr f
  have e2 : figM (-o) s (mir m) (-v) = -k := by
    refine (fig_iff (mir_mode h) hs).mpr ?_
    unfold lowM highM at f ⊢
    rw [mir_mir h, below_neg k h, below_neg k (mir_mode h), Int.mul_neg]
    omega
  unfold dueM
  rw [e, e2, Int.mul_neg]
  omega
def firstM (s : Int) (m : Str) : Str := if s = 1 then "down" else if s = 2 ∧ m = "half_down" then "down" else if s = 2 ∧ m = "half_up" then "up" else if s % 2 = 1 ∧ (m = "half_up" ∨ m = "half_even") then "half_down" else m
def formO (o s : Int) (f : Str) : Int := if f = "half_even" then o % (2 * s) else o % s
def ordM (m : Str) : Nat := if m = "down" then 0 else if m = "up" then 1 else if m = "half_down" then 2 else if m = "half_up" then 3 else 4
theorem ord_d : ordM "down" = 0 := by unfold ordM; rw [if_pos rfl]
theorem ord_u : ordM "up" = 1 := by unfold ordM; rw [if_neg d_u, if_pos rfl]
theorem ord_hd : ordM "half_down" = 2 := by unfold ordM; rw [if_neg hd_d, if_neg hd_u, if_pos rfl]
theorem ord_hu : ordM "half_up" = 3 := by unfold ordM; rw [if_neg hu_d, if_neg hu_u, if_neg hu_hd, if_pos rfl]
theorem ord_he : ordM "half_even" = 4 := by unfold ordM; rw [if_neg he_d, if_neg he_u, if_neg he_hd, if_neg he_hu]
theorem u_hu : ¬ (("up" : Str) = "half_up") := by decide +kernel
theorem u_he : ¬ (("up" : Str) = "half_even") := by decide +kernel
theorem dn_hd : ¬ (("down" : Str) = "half_down") := by decide +kernel
theorem dn_hu : ¬ (("down" : Str) = "half_up") := by decide +kernel
theorem dn_he : ¬ (("down" : Str) = "half_even") := by decide +kernel
theorem dn_u : ¬ (("down" : Str) = "up") := by decide +kernel
/-- the first modes, mode by mode -/
theorem fi_one (m : Str) : firstM 1 m = "down" := by unfold firstM; rw [if_pos rfl]
theorem fi_d (s : Int) : firstM s "down" = "down" := by
  unfold firstM
  by_cases h : s = 1
  · rw [if_pos h]
  · rw [if_neg h, if_neg (fun z => dn_hd z.2), if_neg (fun z => dn_hu z.2), if_neg (fun z => z.2.elim dn_hu dn_he)]
theorem fi_u {s : Int} (h : s ≠ 1) : firstM s "up" = "up" := by
  unfold firstM
  rw [if_neg h, if_neg (fun z => u_hd z.2), if_neg (fun z => u_hu z.2), if_neg (fun z => z.2.elim u_hu u_he)]
theorem fi_hd2 : firstM 2 "half_down" = "down" := by unfold firstM; rw [if_neg (by decide), if_pos ⟨rfl, rfl⟩]
theorem fi_hd {s : Int} (h : s ≠ 1) (h2 : s ≠ 2) : firstM s "half_down" = "half_down" := by
  unfold firstM
  rw [if_neg h, if_neg (fun z => h2 z.1), if_neg (fun z => h2 z.1), if_neg (fun z => z.2.elim hd_hu hd_e)]
theorem fi_hu2 : firstM 2 "half_up" = "up" := by unfold firstM; rw [if_neg (by decide), if_neg (fun z => hu_hd z.2), if_pos ⟨rfl, rfl⟩]
theorem fi_huO {s : Int} (h : s ≠ 1) (h2 : s % 2 = 1) : firstM s "half_up" = "half_down" := by
  unfold firstM
  rw [if_neg h, if_neg (fun z => hu_hd z.2), if_neg (fun z => by have := z.1; omega), if_pos ⟨h2, .inl rfl⟩]
theorem fi_huE {s : Int} (h : s ≠ 2) (h2 : s % 2 = 0) : firstM s "half_up" = "half_up" := by
  unfold firstM
  rw [if_neg (by omega), if_neg (fun z => hu_hd z.2), if_neg (fun z => h z.1), if_neg (fun z => by have := z.1; omega)]
theorem fi_heO {s : Int} (h : s ≠ 1) (h2 : s % 2 = 1) : firstM s "half_even" = "half_down" := by
  unfold firstM
  rw [if_neg h, if_neg (fun z => he_hd z.2), if_neg (fun z => he_hu z.2), if_pos ⟨h2, .inr rfl⟩]
theorem fi_heE {s : Int} (h2 : s % 2 = 0) : firstM s "half_even" = "half_even" := by
  unfold firstM
  rw [if_neg (by omega), if_neg (fun z => he_hd z.2), if_neg (fun z => he_hu z.2), if_neg (fun z => by have := z.1; omega)]
/-- what is known of the first mode -/
structure FirstP (s : Int) (m : Str) : Prop where
  md : Mode (firstM s m)
  id : firstM s (firstM s m) = firstM s m
  od : ordM (firstM s m) ≤ ordM m
  go : ∀ q r, 0 ≤ r → r < s → goesUp (firstM s m) s q r = goesUp m s q r
  ev : firstM s m = "half_even" → s % 2 = 0
theorem first_ok {s : Int} {m : Str} (h : Mode m) (hs : 1 ≤ s) : FirstP s m := by
  have D : Mode "down" := .inl rfl
  have U : Mode "up" := .inr (.inl rfl)
  have HD : Mode "half_down" := .inr (.inr (.inl rfl))
  by_cases s1 : s = 1
  · subst s1
    refine ⟨by rw [fi_one]; exact D, by rw [fi_one, fi_one], by rw [fi_one, ord_d]; omega, fun q r r0 r1 => ?_, by rw [fi_one]; exact fun z => (dn_he z).elim⟩
    have : r = 0 := by omega
    subst this
    rw [fi_one, go_zero D (by decide), go_zero h (by decide)]
  rcases h with e | e | e | e | e <;> subst e
  · exact ⟨by rw [fi_d]; exact D, by rw [fi_d, fi_d], by rw [fi_d]; omega, fun q r _ _ => by rw [fi_d], by rw [fi_d]; exact fun z => (dn_he z).elim⟩
  · exact ⟨by rw [fi_u s1]; exact U, by rw [fi_u s1, fi_u s1], by rw [fi_u s1]; omega, fun q r _ _ => by rw [fi_u s1], by rw [fi_u s1]; exact fun z => (u_he z).elim⟩
  · by_cases s2 : s = 2
    · subst s2
      refine ⟨by rw [fi_hd2]; exact D, by rw [fi_hd2, fi_d], by rw [fi_hd2, ord_d]; omega, fun q r r0 r1 => ?_, by rw [fi_hd2]; exact fun z => (dn_he z).elim⟩
      rw [fi_hd2, go_down, go_hd, decide_eq_false (by omega)]
    · exact ⟨by rw [fi_hd s1 s2]; exact HD, by rw [fi_hd s1 s2, fi_hd s1 s2], by rw [fi_hd s1 s2]; omega, fun q r _ _ => by rw [fi_hd s1 s2], by rw [fi_hd s1 s2]; exact fun z => (hd_e z).elim⟩
  · by_cases s2 : s = 2
    · subst s2
      refine ⟨by rw [fi_hu2]; exact U, by rw [fi_hu2, fi_u s1], by rw [fi_hu2, ord_u, ord_hu]; omega, fun q r r0 r1 => ?_, by rw [fi_hu2]; exact fun z => (u_he z).elim⟩
      rw [fi_hu2, go_up, go_hu]
      exact decide_eq_decide.mpr (by omega)
    · by_cases od : s % 2 = 1
      · refine ⟨by rw [fi_huO s1 od]; exact HD, by rw [fi_huO s1 od, fi_hd s1 s2], by rw [fi_huO s1 od, ord_hd, ord_hu]; omega, fun q r r0 r1 => ?_, by rw [fi_huO s1 od]; exact fun z => (hd_e z).elim⟩
        rw [fi_huO s1 od, go_hd, go_hu]
        exact decide_eq_decide.mpr (by omega)
      · have ev : s % 2 = 0 := by omega
        exact ⟨by rw [fi_huE s2 ev]; exact .inr (.inr (.inr (.inl rfl))), by rw [fi_huE s2 ev, fi_huE s2 ev], by rw [fi_huE s2 ev]; omega, fun q r _ _ => by rw [fi_huE s2 ev], by rw [fi_huE s2 ev]; exact fun z => (hu_e z).elim⟩
  · by_cases od : s % 2 = 1
    · refine ⟨by rw [fi_heO s1 od]; exact HD, by rw [fi_heO s1 od, fi_hd s1 (by omega)], by rw [fi_heO s1 od, ord_hd, ord_he]; omega, fun q r r0 r1 => ?_, by rw [fi_heO s1 od]; exact fun z => (hd_e z).elim⟩
      rw [fi_heO s1 od, go_hd, go_he, decide_eq_false (show ¬ 2 * r = s by omega), Bool.false_and, Bool.or_false]
    · have ev : s % 2 = 0 := by omega
      exact ⟨by rw [fi_heE ev]; exact .inr (.inr (.inr (.inr rfl))), by rw [fi_heE ev, fi_heE ev], by rw [fi_heE ev]; omega, fun q r _ _ => by rw [fi_heE ev], fun _ => ev⟩
theorem go_shift {m : Str} {s q r j : Int} (h : Mode m) (hj : m ≠ "half_even" ∨ j % 2 = 0) : goesUp m s (q + j) r = goesUp m s q r := by
  rcases h with e | e | e | e | e <;> subst e
  · rw [go_down, go_down]
  · rw [go_up, go_up]
  · rw [go_hd, go_hd]
  · rw [go_hu, go_hu]
  · have z : j % 2 = 0 := hj.resolve_left (fun z => z rfl)
    rw [go_he, go_he, show (q + j) % 2 = q % 2 by omega]
/-- an offset moved by whole steps, by two of them for the even -/
theorem due_shift {o s j : Int} {m : Str} {v : Int} (h : Mode m) (hs : 1 ≤ s) (hj : m ≠ "half_even" ∨ j % 2 = 0) : dueM (o + s * j) s m v = dueM o s m v := by
  have F := fig_of (o := o + s * j) (m := m) (v := v) hs
  generalize (v - (o + s * j)) / s = q at F
  generalize (v - (o + s * j)) % s = r at F
  generalize hk : figM (o + s * j) s m v = k at F
  obtain ⟨eq, r0, r1, wh⟩ := F
  have e : figM o s m v = k + j := by
    refine fig_uniq (q := q + j) (r := r) hs ⟨by rw [Int.mul_add]; omega, r0, r1, ?_⟩
    rw [go_shift h hj]
    rcases wh with ⟨g, e⟩ | ⟨g, e⟩
    · exact .inl ⟨g, by omega⟩
    · exact .inr ⟨g, by omega⟩
  unfold dueM
  rw [e, hk, Int.mul_add]
  omega
theorem due_go {o s : Int} {m m' : Str} {v : Int} (hs : 1 ≤ s) (h : ∀ q r, 0 ≤ r → r < s → goesUp m s q r = goesUp m' s q r) : dueM o s m v = dueM o s m' v := by
  unfold dueM figM
  rw [h _ _ (Int.emod_nonneg _ (by omega)) (Int.emod_lt_of_pos _ (by omega))]
theorem due_form {o s : Int} {m : Str} (v : Int) (h : Mode m) (hs : 1 ≤ s) : dueM (formO o s (firstM s m)) s (firstM s m) v = dueM o s m v := by
  have P := first_ok h hs
  rw [← due_go hs P.go]
  unfold formO
  by_cases e : firstM s m = "half_even"
  · rw [if_pos e]
    have a := Int.mul_ediv_add_emod o (2 * s)
    have b : o % (2 * s) = o + s * (-(2 * (o / (2 * s)))) := by
      rw [Int.mul_neg, ← Int.mul_assoc, Int.mul_comm s 2]
      omega
    rw [b]
    exact due_shift P.md hs (.inr (by omega))
  · rw [if_neg e]
    have a := Int.mul_ediv_add_emod o s
    have b : o % s = o + s * (-(o / s)) := by
      rw [Int.mul_neg]
      omega
    rw [b]
    exact due_shift P.md hs (.inl e)
theorem form_bd {o s : Int} {f : Str} (hs : 1 ≤ s) : 0 ≤ formO o s f ∧ formO o s f < 2 * s ∧ (f ≠ "half_even" → formO o s f < s) := by
  unfold formO
  by_cases e : f = "half_even"
  · rw [if_pos e]
    exact ⟨Int.emod_nonneg _ (by omega), Int.emod_lt_of_pos _ (by omega), fun z => absurd e z⟩
  · rw [if_neg e]
    have := Int.emod_lt_of_pos o (show 0 < s by omega)
    exact ⟨Int.emod_nonneg _ (by omega), by omega, fun _ => this⟩
theorem form_idem {o s : Int} {f : Str} : formO (formO o s f) s f = formO o s f := by
  unfold formO
  by_cases e : f = "half_even"
  · rw [if_pos e, if_pos e, Int.emod_emod_of_dvd _ (Int.dvd_refl _)]
  · rw [if_neg e, if_neg e, Int.emod_emod_of_dvd _ (Int.dvd_refl _)]
/-- a value told by its figure and rest -/
theorem due_at {o s q r : Int} {m : Str} (hs : 1 ≤ s) (r0 : 0 ≤ r) (r1 : r < s) : dueM o s m (o + s * q + r) = o + s * q + (if goesUp m s q r = true then s else 0) := by
  unfold dueM
  by_cases g : goesUp m s q r = true
  · rw [fig_uniq (q := q) (r := r) (k := q + 1) hs ⟨by omega, r0, r1, .inl ⟨g, rfl⟩⟩, if_pos g, Int.mul_add]
    omega
  · have g' : goesUp m s q r = false := by cases h : goesUp m s q r <;> simp_all
    rw [fig_uniq (q := q) (r := r) (k := q) hs ⟨by omega, r0, r1, .inr ⟨g', rfl⟩⟩, if_neg g]
    omega
end HT
namespace HT
open PySem L2
def spMirror : Sp := fun vs H Q _ => ∃ (p : Addr) (o s : Int) (m : Str), vs = [.ref p] ∧ H p = some (sideV o s m) ∧ SideP o s m ∧
  ∀ (d : Addr) (H' : Hp), Same H H' → H d = none → H' d = some (sideV (-o) s (mir m)) → Q (.ref d) H'
def spFirst : Sp := fun vs H Q _ => ∃ (s : Int) (m : Str), vs = [.int s, .str m] ∧ 1 ≤ s ∧ Mode m ∧ ∀ H' : Hp, Same H H' → Q (.str (firstM s m)) H'
def spForm : Sp := fun vs H Q _ => ∃ (p : Addr) (o s : Int) (m : Str), vs = [.ref p] ∧ H p = some (sideV o s m) ∧ SideP o s m ∧
  ∀ (d : Addr) (H' : Hp), Same H H' → H d = none → H' d = some (sideV (formO o s (firstM s m)) s (firstM s m)) → Q (.ref d) H'
theorem side_mir {o s : Int} {m : Str} (S : SideP o s m) : SideP (-o) s (mir m) := by
  obtain ⟨o0, o1, s0, s1, md⟩ := S
  exact ⟨by omega, by omega, s0, s1, mir_mode md⟩
theorem side_form {o s : Int} {m : Str} (S : SideP o s m) : SideP (formO o s (firstM s m)) s (firstM s m) := by
  obtain ⟨o0, o1, s0, s1, md⟩ := S
  obtain ⟨a, b, _⟩ := form_bd (o := o) (f := firstM s m) s0
  exact ⟨by omega, by omega, s0, s1, (first_ok md s0).md⟩
theorem in_two (m : Str) : inV (.str m) [V.str "half_up", .str "half_even"] = decide (m = "half_up" ∨ m = "half_even") := by
  show (eqV (V.str "half_up") (V.str m) || (eqV (V.str "half_even") (V.str m) || false)) = _
  have e : ∀ a b : Str, eqV (V.str a) (V.str b) = decide (a = b) := fun a b => by
    show (a == b) = decide (a = b)
    by_cases h : a = b
    · rw [decide_eq_true h, h, beq_self_eq_true]
    · rw [decide_eq_false h]
      exact beq_eq_false_iff_ne.mpr h
  rw [e, e, Bool.or_false]
  by_cases a : m = "half_up"
  · rw [decide_eq_true a.symm, decide_eq_true (Or.inl a)]
    rfl
  · by_cases b : m = "half_even"
    · rw [decide_eq_true b.symm, decide_eq_true (Or.inr b), Bool.or_true]
    · rw [decide_eq_false (fun z => a z.symm), decide_eq_false (fun z => b z.symm), decide_eq_false (fun z => z.elim a b)]
      rfl
section
variable {P : Program} {w : World} {K : PySem.W.Frag} {mg : Str → Option Value} {base : Heap} {aM aR fV fC fB fS : Addr} {dV dC dB dS : FuncData}
theorem ok_mirror {f : Addr} {fd : FuncData} (F : Fun K "mirror" "mirror" s_mirror f fd) (R : MirT K w mg aR) (C : Cal P w K mg base "check_side" 3 ["side"] spCheckSide fC dC) : FnOk P w K mg base CX0 4 f fd ["side"] spMirror := by
  refine F.ok sc_mirror (fun vs H Q E h => ?_) (fun cdv A outer s H vs Q E hr h => ?_)
  · obtain ⟨p, o, s, m, rfl, _⟩ := h
    rfl
  · obtain ⟨p, o, s, m, rfl, hp, S, q⟩ := h
    have nd := sc_mirror.nd
    refine ⟨_, pss_cons (ps_expr (pcl C hr (by decide) (by rfl) (pa_cons (pv 0) pa_nil)))
      (pss_cons (ps_asg (pv 0) (pg_tup (by rfl) (pgs_cons (pg_name (i := 1) nd rfl (Or.inl rfl)) (pgs_cons (pg_name (i := 2) nd rfl (Or.inl rfl)) (pgs_cons (pg_name (i := 3) nd rfl (Or.inl rfl)) pgs_nil)))))
      (pss_one (ps_ret (pe_tup (pa_cons (pe_un un_neg (pv 1)) (pa_cons (pv 2) (pa_cons (pe_ix ix_kdict (pe_glob (v := .ref aR) (by rfl) R.gR rfl) (pv 3) (fun _ _ => rfl)) pa_nil))))))), ?_⟩
    walk_at "rd"
    refine ⟨p, o, s, m, rfl, hp, S, ?_⟩
    walk_at "rd"
    refine ⟨p, _, rfl, SqT.of hp, rfl, _, _, rfl, _, _, rfl, _, _, rfl, rfl, ?_⟩
    walk_at "rd"
    refine ⟨aR, m, _, rfl, rfl, R.dR m S.md, ?_⟩
    refine ⟨(by show 3 ≤ sizeLine; decide), fun d nd' => ?_⟩
    exact q d _ (fun b u z => (upd_ne (ne_of_none z nd')).trans z) nd' upd_same
theorem ok_first {f : Addr} {fd : FuncData} (F : Fun K "_first_mode" "_first_mode" s_first_mode f fd) : FnOk P w K mg base CX0 1 f fd ["step", "mode"] spFirst := by
  refine F.ok sc_first_mode (fun vs H Q E h => ?_) (fun cdv A outer s H vs Q E hr h => ?_)
  · obtain ⟨s, m, rfl, _⟩ := h
    rfl
  · obtain ⟨s, m, rfl, s0, md, q⟩ := h
    refine ⟨_, pss_cons (ps_if (pt_cmpR op_eq (pv 0) pe_int (nomark _)) (pss_one (ps_ret pe_str)) pss_nil)
      (pss_cons (ps_if (PW.pt (pw_and (pt_cmpR op_eq (pv 0) pe_int (nomark _)) (pw_and1 (pt_cmpR op_eq (pv 1) pe_str (nomark _))))) (pss_one (ps_ret pe_str)) pss_nil)
      (pss_cons (ps_if (PW.pt (pw_and (pt_cmpR op_eq (pv 0) pe_int (nomark _)) (pw_and1 (pt_cmpR op_eq (pv 1) pe_str (nomark _))))) (pss_one (ps_ret pe_str)) pss_nil)
      (pss_cons (ps_if (PW.pt (pw_and (pt_cmpR op_eq (pe_op op_mod (pv 0) pe_int) pe_int (nomark _)) (pw_and1 (pt_cmpR op_in_seq (pv 1) (pe_tup (pa_cons pe_str (pa_cons pe_str pa_nil))) (by rfl))))) (pss_one (ps_ret pe_str)) pss_nil)
      (pss_one (ps_ret (pv 1)))))), ?_⟩
    have fin : ∀ (x : Str) (H' : Hp), firstM s m = x → Same H H' → Q (.str x) H' := fun x H' e sm => by
      rw [← e]
      exact q H' sm
    walk_at "rd"
    refine ⟨rfl, ?_⟩
    walk_at "rd"
    refine ite2 (fun h => ?_) (fun h1 => ?_)
    · walk_at "rd"
      exact fin "down" H (by rw [int_t h]; exact fi_one m) (Same.refl H)
    have n1 := int_f h1
    walk_at "rd"
    refine ⟨rfl, ?_⟩
    walk_at "rd"
    refine ite2 (fun h => ?_) (fun h2 => ?_)
    · have e2 := int_t h
      walk_at "rd"
      refine ⟨rfl, ?_⟩
      walk_at "rd"
      refine ite2 (fun g => ?_) (fun g1 => ?_)
      · walk_at "rd"
        exact fin "down" H (by rw [str_t g, e2]; exact fi_hd2) (Same.refl H)
      walk_at "rd"
      refine ⟨rfl, ?_⟩
      walk_at "rd"
      refine ite2 (fun _ => ?_) (fun z => absurd h z)
      walk_at "rd"
      refine ⟨rfl, ?_⟩
      walk_at "rd"
      refine ite2 (fun g => ?_) (fun g2 => ?_)
      · walk_at "rd"
        exact fin "up" H (by rw [str_t g, e2]; exact fi_hu2) (Same.refl H)
      walk_at "rd"
      refine ⟨(by show (0 : Int) < 2; decide), ?_⟩
      walk_at "rd"
      refine ⟨rfl, ?_⟩
      walk_at "rd"
      refine ite2 (fun g => absurd (int_t g) (by omega)) (fun _ => ?_)
      walk_at "rd"
      refine fin m H ?_ (Same.refl H)
      unfold firstM
      rw [if_neg n1, if_neg (fun z => str_f g1 z.2), if_neg (fun z => str_f g2 z.2), if_neg (fun z => by have := z.1; omega)]
    · have n2 := int_f h2
      walk_at "rd"
      refine ⟨rfl, ?_⟩
      walk_at "rd"
      refine ite2 (fun z => absurd z h2) (fun _ => ?_)
      walk_at "rd"
      refine ⟨(by show (0 : Int) < 2; decide), ?_⟩
      walk_at "rd"
      refine ⟨rfl, ?_⟩
      walk_at "rd"
      refine ite2 (fun g => ?_) (fun g => ?_)
      · have od := int_t g
        walk_at "rd"
        refine ⟨(by show 2 ≤ sizeLine; decide), fun d nd' => ?_⟩
        refine ⟨d, _, rfl, .inr (SqT.of upd_same), rfl, by decide, ?_⟩
        walk_at "rd"
        have sm : ∀ o, Same H (upd H d o) := fun o b u z => (upd_ne (ne_of_none z nd')).trans z
        refine ite2 (fun k => ?_) (fun k => ?_)
        · walk_at "rd"
          have k' : inV (.str m) [V.str "half_up", .str "half_even"] = true := k
          rw [in_two] at k'
          refine fin "half_down" _ ?_ (sm _)
          unfold firstM
          rw [if_neg n1, if_neg (fun z => n2 z.1), if_neg (fun z => n2 z.1), if_pos ⟨od, of_decide_eq_true k'⟩]
        · walk_at "rd"
          have k' : ¬ inV (.str m) [V.str "half_up", .str "half_even"] = true := k
          rw [in_two] at k'
          refine fin m _ ?_ (sm _)
          unfold firstM
          rw [if_neg n1, if_neg (fun z => n2 z.1), if_neg (fun z => n2 z.1), if_neg (fun z => k' (decide_eq_true z.2))]
      · have od := int_f g
        walk_at "rd"
        refine fin m H ?_ (Same.refl H)
        unfold firstM
        rw [if_neg n1, if_neg (fun z => n2 z.1), if_neg (fun z => n2 z.1), if_neg (fun z => od z.1)]
theorem ok_form {f : Addr} {fd : FuncData} (F : Fun K "form" "form" s_form f fd) (C : Cal P w K mg base "check_side" 3 ["side"] spCheckSide fC dC) (M : Cal P w K mg base "_first_mode" 1 ["step", "mode"] spFirst fB dB) : FnOk P w K mg base CX0 4 f fd ["side"] spForm := by
  refine F.ok sc_form (fun vs H Q E h => ?_) (fun cdv A outer s H vs Q E hr h => ?_)
  · obtain ⟨p, o, s, m, rfl, _⟩ := h
    rfl
  · obtain ⟨p, o, s, m, rfl, hp, S, q⟩ := h
    have nd := sc_form.nd
    refine ⟨_, pss_cons (ps_expr (pcl C hr (by decide) (by rfl) (pa_cons (pv 0) pa_nil)))
      (pss_cons (ps_asg (pv 0) (pg_tup (by rfl) (pgs_cons (pg_name (i := 1) nd rfl (Or.inl rfl)) (pgs_cons (pg_name (i := 2) nd rfl (Or.inl rfl)) (pgs_cons (pg_name (i := 3) nd rfl (Or.inl rfl)) pgs_nil)))))
      (pss_cons (ps_set (i := 4) nd rfl (Or.inl rfl) (pcl M hr (by decide) (by rfl) (pa_cons (pv 2) (pa_cons (pv 3) pa_nil))))
      (pss_cons (ps_if (pt_cmpR op_eq (pv 4) pe_str (nomark _)) (pss_one (ps_ret (pe_tup (pa_cons (pe_op op_mod (pv 1) (pe_op op_mul pe_int (pv 2))) (pa_cons (pv 2) (pa_cons (pv 4) pa_nil)))))) pss_nil)
      (pss_one (ps_ret (pe_tup (pa_cons (pe_op op_mod (pv 1) (pv 2)) (pa_cons (pv 2) (pa_cons (pv 4) pa_nil))))))))), ?_⟩
    have s0 := S.s0
    walk_at "rd"
    refine ⟨p, o, s, m, rfl, hp, S, ?_⟩
    walk_at "rd"
    refine ⟨p, _, rfl, SqT.of hp, rfl, _, _, rfl, _, _, rfl, _, _, rfl, rfl, ?_⟩
    walk_at "rd"
    refine ⟨s, m, rfl, s0, S.md, fun H1 m1 => ?_⟩
    walk_at "rd"
    refine ⟨rfl, ?_⟩
    walk_at "rd"
    refine ite2 (fun h => ?_) (fun h => ?_)
    · have e := str_t h
      walk_at "rd"
      refine ⟨.inl ⟨by decide, by decide⟩, ?_⟩
      walk_at "rd"
      refine ⟨(by show (0 : Int) < 2 * s; omega), ?_⟩
      walk_at "rd"
      refine ⟨(by show 3 ≤ sizeLine; decide), fun d nd' => ?_⟩
      have e2 : formO o s (firstM s m) = o % (2 * s) := by unfold formO; rw [if_pos e]
      refine q d _ (fun b u z => (upd_ne (ne_of_none (m1 _ _ z) nd')).trans (m1 _ _ z)) (m1.free nd') ?_
      rw [e2]
      exact upd_same
    · have e := str_f h
      walk_at "rd"
      refine ⟨(by omega), ?_⟩
      walk_at "rd"
      refine ⟨(by show 3 ≤ sizeLine; decide), fun d nd' => ?_⟩
      have e2 : formO o s (firstM s m) = o % s := by unfold formO; rw [if_neg e]
      refine q d _ (fun b u z => (upd_ne (ne_of_none (m1 _ _ z) nd')).trans (m1 _ _ z)) (m1.free nd') ?_
      rw [e2]
      exact upd_same
end
end HT
namespace HT
open PySem L2
section
variable {P : Program} {w : World} {K : PySem.W.Frag} {mg : Str → Option Value} {base : Heap} {aM fD fP fG fL fA fF fH fS : Addr} {dD dP dG dL dA dF dH dS : FuncData}
theorem ok_L_figure {f : Addr} {fd : FuncData} (F : Fun K "_law_figure" "_law_figure" s_L_figure f fd) (B : Blt mg) : FnOk P w K mg base CX0 1 f fd ["_law_side", "_law_value"] spFig := by
  refine F.ok sc_L_figure (fun vs H Q E h => ?_) (fun cdv A outer s H vs Q E hr h => ?_)
  · obtain ⟨p, o, s, m, v, rfl, _⟩ := h
    rfl
  · obtain ⟨p, o, s, m, v, rfl, hp, S, hv, q⟩ := h
    have nd := sc_L_figure.nd
    have q' : Q (.int (figM o s m v)) H := q H (Same.refl H)
    have Fg := fig_of (o := o) (m := m) (v := v) S.s0
    refine ⟨_, pss_cons (ps_asg (pv 0) (pg_tup (by rfl) (pgs_cons (pg_name (i := 2) nd rfl (Or.inl rfl)) (pgs_cons (pg_name (i := 3) nd rfl (Or.inl rfl)) (pgs_cons (pg_name (i := 4) nd rfl (Or.inl rfl)) pgs_nil)))))
      (pss_cons (ps_set (i := 5) nd rfl (Or.inl rfl) (pe_op op_fdivW (pe_callTy call_int1 (by rfl) B.int (by decide +kernel) (pa_cons (pe_op op_sub (pv 1) (pv 2)) pa_nil)) (pv 3)))
      (pss_cons (ps_set (i := 6) nd rfl (Or.inl rfl) (pe_op op_sub (pe_op op_sub (pv 1) (pv 2)) (pe_op op_mulW (pv 3) (pv 5))))
      (pss_cons (ps_if (PW.pt (pw_or (pt_cmpR op_eq (pv 4) pe_str (nomark _)) (pw_or1 (pt_cmpR op_eq (pv 6) pe_int (nomark _))))) (pss_one (ps_ret (pv 5))) pss_nil)
      (pss_cons (ps_if (PW.pt (pw_or (pt_cmpR op_eq (pv 4) pe_str (nomark _)) (pw_or1 (pt_cmpR op_gt (pe_op op_mul pe_int (pv 6)) (pv 3) (nomark _))))) (pss_one (ps_ret (pe_op op_add (pv 5) pe_int))) pss_nil)
      (pss_cons (ps_if (PW.pt (pw_or (pt_cmpR op_lt (pe_op op_mul pe_int (pv 6)) (pv 3) (nomark _)) (pw_or1 (pt_cmpR op_eq (pv 4) pe_str (nomark _))))) (pss_one (ps_ret (pv 5))) pss_nil)
      (pss_one (ps_ret (pe_op op_add (pv 5) (pe_callTy call_int1 (by rfl) B.int (by decide +kernel) (pa_cons (pe_or (pe_cmpR op_eq (pv 4) pe_str (nomark _)) (pe_one (pe_cmpR op_eq (pe_op op_mod (pv 5) pe_int) pe_int (nomark _)))) pa_nil)))))))))), ?_⟩
    have b0 := S.s0
    have b1 := S.s1
    have b2 := S.o0
    have b3 := S.o1
    have b4 := hv.1
    have b5 := hv.2
    have b6 := div_bd (x := v - o) (b := 2 ^ 1001) S.s0 (by omega) (by omega)
    have rr : v - o - s * ((v - o) / s) = (v - o) % s := by
      have := Fg.eq
      omega
    walk_at "rd"
    refine ⟨p, _, rfl, SqT.of hp, rfl, _, _, rfl, _, _, rfl, _, _, rfl, rfl, ?_⟩
    walk_at "rd"
    refine ⟨fdiv_ok _ (by omega) (lg_big (by omega) (by omega)), ?_⟩
    walk_at "rd"
    refine ⟨mulW (by omega) (by omega), ?_⟩
    walk_at "rd"
    refine ⟨rfl, ?_⟩
    walk_at "rd"
    obtain ⟨_, r0, r1, wh⟩ := Fg
    generalize figM o s m v = k at q' wh
    -- the three ways of a mode
    have fin0 : k = ((v - o) / s) → Q (.int ((v - o) / s)) H := fun e => by rw [← e]; exact q'
    have fin1 : k = ((v - o) / s) + 1 → Q (.int (((v - o) / s) + 1)) H := fun e => by rw [← e]; exact q'
    have low : goesUp m s ((v - o) / s) ((v - o) % s) = false → k = ((v - o) / s) := fun h => by
      rcases wh with ⟨g, _⟩ | ⟨_, e⟩
      · rw [h] at g; cases g
      · exact e
    have up : goesUp m s ((v - o) / s) ((v - o) % s) = true → k = ((v - o) / s) + 1 := fun h => by
      rcases wh with ⟨_, e⟩ | ⟨g, _⟩
      · exact e
      · rw [h] at g; cases g
    refine ite2 (fun h => ?_) (fun h1 => ?_)
    · walk_at "rd"
      refine fin0 (low ?_)
      rw [str_t h, go_down]
    walk_at "rd"
    refine ⟨rfl, ?_⟩
    walk_at "rd"
    refine ite2 (fun h => ?_) (fun h2 => ?_)
    · walk_at "rd"
      refine fin0 (low ?_)
      have e : ((v - o) % s) = 0 := by have := int_t h; omega
      rw [e]
      exact go_zero S.md S.s0
    have n1 := str_f h1
    have n2 : ¬ ((v - o) % s) = 0 := fun z => int_f h2 (by omega)
    walk_at "rd"
    refine ⟨rfl, ?_⟩
    walk_at "rd"
    refine ite2 (fun h => ?_) (fun h3 => ?_)
    · walk_at "rd"
      refine fin1 (up ?_)
      rw [str_t h, go_up]
      exact decide_eq_true (by omega)
    have n3 := str_f h3
    walk_at "rd"
    refine ⟨.inl ⟨by decide, by decide⟩, ?_⟩
    walk_at "rd"
    have hh : half m := by
      rcases S.md with e | e | e
      · exact absurd e n1
      · exact absurd e n3
      · exact e
    refine ite2 (fun h => ?_) (fun h4 => ?_)
    · walk_at "rd"
      have g : s < 2 * ((v - o) % s) := by have := of_decide_eq_true h; omega
      refine fin1 (up ?_)
      unfold goesUp
      rw [if_neg n1, if_neg n3, if_neg (by omega)]
      exact decide_eq_true g
    have n4 : ¬ s < 2 * ((v - o) % s) := fun z => h4 (decide_eq_true (by omega))
    walk_at "rd"
    refine ⟨.inl ⟨by decide, by decide⟩, ?_⟩
    walk_at "rd"
    refine ite2 (fun h => ?_) (fun h5 => ?_)
    · walk_at "rd"
      have g : 2 * ((v - o) % s) < s := by have := of_decide_eq_true h; omega
      refine fin0 (low ?_)
      unfold goesUp
      rw [if_neg n1, if_neg n3, if_neg (by omega)]
      exact decide_eq_false n4
    have n5 : 2 * ((v - o) % s) = s := by
      have : ¬ 2 * ((v - o) % s) < s := fun z => h5 (decide_eq_true (by omega))
      omega
    walk_at "rd"
    refine ⟨rfl, ?_⟩
    walk_at "rd"
    refine ite2 (fun h => ?_) (fun h6 => ?_)
    · walk_at "rd"
      refine fin0 (low ?_)
      rw [str_t h, go_hd]
      exact decide_eq_false n4
    have n6 := str_f h6
    have kk : k = ((v - o) / s) + (if m = "half_up" then 1 else if ((v - o) / s) % 2 = 1 then 1 else 0) := by
      rcases hh with e | e | e
      · exact absurd e n6
      · rw [if_pos e]
        refine up ?_
        rw [e, go_hu]
        exact decide_eq_true (by omega)
      · have e2 : goesUp m s ((v - o) / s) ((v - o) % s) = decide (((v - o) / s) % 2 = 1) := by
          rw [e, go_he, decide_eq_false n4, decide_eq_true n5]
          rfl
        rw [if_neg (by rw [e]; exact he_hu)]
        by_cases z : ((v - o) / s) % 2 = 1
        · rw [if_pos z]
          exact up (by rw [e2]; exact decide_eq_true z)
        · rw [if_neg z, Int.add_zero]
          exact low (by rw [e2]; exact decide_eq_false z)
    walk_at "rd"
    refine ⟨rfl, ?_⟩
    walk_at "rd"
    refine ite2 (fun h => ?_) (fun h7 => ?_)
    · refine .inr ⟨true, rfl, ?_⟩
      walk_at "rd"
      rw [if_pos (str_t h)] at kk
      exact fin1 kk
    · rw [if_neg (str_f h7)] at kk
      walk_at "rd"
      refine ⟨(by show (0 : Int) < 2; decide), ?_⟩
      walk_at "rd"
      refine ⟨rfl, .inr ⟨_, rfl, ?_⟩⟩
      walk_at "rd"
      show Q (.int (((v - o) / s) + if decide (V.int (((v - o) / s) % 2) = V.int 1) = true then 1 else 0)) H
      rw [dec_int]
      by_cases z : ((v - o) / s) % 2 = 1
      · rw [if_pos z] at kk
        rw [if_pos (decide_eq_true z)]
        exact fin1 kk
      · rw [if_neg z, Int.add_zero] at kk
        rw [if_neg (by rw [decide_eq_false z]; decide), Int.add_zero]
        exact fin0 kk
theorem ok_L_handed {f : Addr} {fd : FuncData} (F : Fun K "_law_handed" "_law_handed" s_L_handed f fd) (L : Cal P w K mg base "_law_figure" 1 ["_law_side", "_law_value"] spFig fL dL) : FnOk P w K mg base CX0 2 f fd ["_law_side", "_law_value"] spDue := by
  refine F.ok sc_L_handed (fun vs H Q E h => ?_) (fun cdv A outer s H vs Q E hr h => ?_)
  · obtain ⟨p, o, s, m, v, rfl, _⟩ := h
    rfl
  · obtain ⟨p, o, s, m, v, rfl, hp, S, hv, q⟩ := h
    refine ⟨_, pss_one (ps_ret (pe_op op_add (pe_ix ix_tup (pv 0) pe_int (fun _ _ => rfl)) (pe_op op_mulW (pe_ix ix_tup (pv 0) pe_int (fun _ _ => rfl)) (pcl L hr (by decide) (by rfl) (pa_cons (pv 0) (pa_cons (pv 1) pa_nil)))))), ?_⟩
    walk_at "rd"
    refine ⟨p, _, 0, _, rfl, rfl, SqT.of hp, rfl, ?_⟩
    walk_at "rd"
    refine ⟨p, _, 1, _, rfl, rfl, SqT.of hp, rfl, ?_⟩
    walk_at "rd"
    refine ⟨p, o, s, m, v, rfl, hp, S, hv, fun H' sm => ?_⟩
    walk_at "rd"
    have b1 := fig_bd S hv
    have b2 := S.s0
    have b3 := S.s1
    refine ⟨mulW (by omega) (by omega), ?_⟩
    walk_at "rd"
    exact q H' sm
end
end HT
namespace HT
open PySem L2
def spDiv : Sp := fun vs H Q _ => ∃ a b : Nat, vs = [.int (a : Int), .int (b : Int)] ∧ Q (.int ((Nat.gcd a b : Nat) : Int)) H
section
variable {P : Program} {w : World} {K : PySem.W.Frag} {mg : Str → Option Value} {base : Heap} {fW fF : Addr} {dW dF : FuncData}
theorem ok_div {f : Addr} {fd : FuncData} (F : Fun K "_law_divisor" "_law_divisor" s_L_divisor f fd) (B : Blt mg) : FnOk P w K mg base CX0 1 f fd ["_law_one", "_law_other"] spDiv := by
  refine F.ok sc_L_divisor (fun vs H Q E h => ?_) (fun cdv A outer s0 H vs Q E hr h => ?_)
  · obtain ⟨a, b, rfl, _⟩ := h
    rfl
  · obtain ⟨a, b, rfl, q⟩ := h
    have nd := sc_L_divisor.nd
    refine ⟨_, pss_cons (ps_while PassesOwn.never (pt_cmpR op_ne (pv 1) pe_int (nomark _)) (pss_one (ps_par (i := 0) (j := 1) rfl nd rfl rfl (by decide) rfl rfl (pa_cons (pv 1) (pa_cons (pe_op op_mod (pe_callTy call_int1 (by rfl) B.int (by decide +kernel) (pa_cons (pv 0) pa_nil)) (pv 1)) pa_nil)) (by rfl))))
      (pss_one (ps_ret (pv 0))), ?_⟩
    refine ⟨fun m σ H' => ∃ c d : Nat, m = d ∧ σ = [some (.int (c : Int)), some (.int (d : Int))] ∧ H' = H ∧ Nat.gcd c d = Nat.gcd a b, ⟨b, a, b, rfl, rfl, rfl, rfl⟩, ?_⟩
    rintro d σ H' ⟨c, _, rfl, rfl, rfl, hg⟩
    walk_at "rd"
    refine ⟨rfl, ?_⟩
    rw [dec_int]
    by_cases e : d = 0
    · subst e
      walk_at "rd"
      show Q (.int (c : Int)) H'
      rw [Nat.gcd_zero_right] at hg
      rw [hg]
      exact q
    · have e2 : (!decide ((d : Int) = 0)) = true := by
        rw [decide_eq_false (by omega)]
        rfl
      rw [e2]
      refine ⟨true, rfl, fun σ' H'' => ∃ c' d' : Nat, d' < d ∧ σ' = [some (V.int (c' : Int)), some (V.int (d' : Int))] ∧ H'' = H' ∧ Nat.gcd c' d' = Nat.gcd a b, fun σ' H'' ⟨c', d', l, e1, e2, e3⟩ => ⟨d', l, c', d', rfl, e1, e2, e3⟩, ?_⟩
      walk_at "rd"
      refine ⟨(by show (0 : Int) < (d : Int); omega), ?_⟩
      refine ⟨_, _, rfl, d, c % d, Nat.mod_lt _ (by omega), ?_, rfl, ?_⟩
      · rw [Int.natCast_emod]
        rfl
      · rw [← hg, Nat.gcd_comm c d, Nat.gcd_rec d c, Nat.gcd_comm]
end
end HT
namespace HT
open PySem L2
structure Sd where
  o : Int
  s : Int
  m : Str
/-- the list at l holds sides with these parts -/
structure SidesAt (H : Hp) (l : Addr) (xs : List V) (ss : List Sd) : Prop where
  hl : H l = some (.lst xs)
  len : xs.length = ss.length
  l1 : 1 ≤ ss.length
  l4 : ss.length ≤ 4
  at_ : ∀ (i : Nat) (d : Sd), ss[i]? = some d → ∃ p : Addr, xs[i]? = some (V.ref p) ∧ H p = some (sideV d.o d.s d.m) ∧ SideP d.o d.s d.m
theorem SidesAt.same {H H' : Hp} {l : Addr} {xs : List V} {ss : List Sd} (S : SidesAt H l xs ss) (e : Same H H') : SidesAt H' l xs ss :=
  ⟨e _ _ S.hl, S.len, S.l1, S.l4, fun i d h => let ⟨p, a, b, c⟩ := S.at_ i d h; ⟨p, a, e _ _ b, c⟩⟩
theorem SidesAt.oth {a c : Addr} {t : Nat} {H H' : Hp} {l : Addr} {xs : List V} {ss : List Sd} (S : SidesAt H l xs ss) (R : Src H a c t) (la : l ≠ a) (lc : l ≠ c) (e : Oth a c H H') : SidesAt H' l xs ss :=
  ⟨e _ _ S.hl la lc, S.len, S.l1, S.l4, fun i d h => let ⟨p, x, b, y⟩ := S.at_ i d h; let z := R.nt b; ⟨p, x, e _ _ b z.1 z.2, y⟩⟩
theorem SidesAt.item {H : Hp} {l : Addr} {xs : List V} {ss : List Sd} (S : SidesAt H l xs ss) {i : Nat} {y : V} (h : xs[i]? = some y) : ∃ d p, ss[i]? = some d ∧ y = .ref p ∧ H p = some (sideV d.o d.s d.m) ∧ SideP d.o d.s d.m := by
  have hi : i < ss.length := by have := (List.getElem?_eq_some_iff.mp h).1; rw [S.len] at this; exact this
  obtain ⟨p, e, hp, sp⟩ := S.at_ i ss[i] (List.getElem?_eq_getElem hi)
  rw [h] at e
  exact ⟨ss[i], p, List.getElem?_eq_getElem hi, Option.some.inj e, hp, sp⟩
/-- a side's period -/
def perM (s : Int) (m : Str) : Int := if m = "half_even" then 2 * s else s
theorem perM_bd {o s : Int} {m : Str} (S : SideP o s m) : 1 ≤ perM s m ∧ perM s m ≤ 2 * 10 ^ 30 := by
  have a := S.s0
  have b := S.s1
  unfold perM
  split <;> omega
def perN (d : Sd) : Nat := (perM d.s d.m).toNat
/-- the common period -/
def comN (ss : List Sd) : Nat := ss.foldl (fun n d => n.lcm (perN d)) 1
theorem com_snoc {ss : List Sd} {i : Nat} {d : Sd} (h : ss[i]? = some d) : comN (ss.take (i + 1)) = (comN (ss.take i)).lcm (perN d) := by
  unfold comN
  rw [List.take_succ, h, List.foldl_append]
  rfl
theorem lcm_le {a b : Nat} : a.lcm b ≤ a * b := Nat.div_le_self _ _
theorem com_le : ∀ (ss : List Sd) (n : Nat), (∀ d ∈ ss, SideP d.o d.s d.m) → ss.foldl (fun n d => n.lcm (perN d)) n ≤ n * (2 * 10 ^ 30) ^ ss.length
  | [], n, _ => by simp
  | d :: ss, n, h => by
    have z := com_le ss (n.lcm (perN d)) fun e he => h e (List.mem_cons_of_mem _ he)
    have b := perM_bd (h d List.mem_cons_self)
    have y : perN d ≤ 2 * 10 ^ 30 := by unfold perN; omega
    refine Nat.le_trans z ?_
    generalize (2 * 10 ^ 30 : Nat) = k at y
    rw [List.length_cons, Nat.pow_succ, Nat.mul_comm (k ^ ss.length), ← Nat.mul_assoc]
    exact Nat.mul_le_mul_right _ (Nat.le_trans lcm_le (Nat.mul_le_mul_left _ y))
theorem SidesAt.side {H : Hp} {l : Addr} {xs : List V} {ss : List Sd} (S : SidesAt H l xs ss) : ∀ d ∈ ss, SideP d.o d.s d.m := fun d hd => by
  obtain ⟨i, hi, rfl⟩ := List.mem_iff_getElem.mp hd
  obtain ⟨_, _, _, sp⟩ := S.at_ i _ (List.getElem?_eq_getElem hi)
  exact sp
theorem com_lt {ss : List Sd} (h : ∀ d ∈ ss, SideP d.o d.s d.m) (l4 : ss.length ≤ 4) : comN ss < 2 ^ 420 := by
  have z := com_le ss 1 h
  rw [Nat.one_mul] at z
  refine Nat.lt_of_le_of_lt z (Nat.lt_of_le_of_lt (Nat.pow_le_pow_right (by decide) l4) ?_)
  decide
theorem com_take {ss : List Sd} (h : ∀ d ∈ ss, SideP d.o d.s d.m) (l4 : ss.length ≤ 4) (i : Nat) : comN (ss.take i) < 2 ^ 420 :=
  com_lt (fun d hd => h d (List.mem_of_mem_take hd)) (Nat.le_trans (List.length_take_le' _ _) l4)
theorem com_pos : ∀ (ss : List Sd) (n : Nat), 0 < n → (∀ d ∈ ss, SideP d.o d.s d.m) → 0 < ss.foldl (fun n d => n.lcm (perN d)) n
  | [], n, hn, _ => hn
  | d :: ss, n, hn, h => by
    have b := perM_bd (h d List.mem_cons_self)
    have y : 0 < perN d := by unfold perN; omega
    exact com_pos ss _ (Nat.lcm_pos hn y) fun e he => h e (List.mem_cons_of_mem _ he)
/-- as the law has it -/
theorem lcm_div (a b : Nat) : a / Nat.gcd a b * b = a.lcm b := by
  unfold Nat.lcm
  rw [Nat.mul_comm (a / Nat.gcd a b), ← Nat.mul_div_assoc _ (Nat.gcd_dvd_left a b), Nat.mul_comm]
end HT
namespace HT
open PySem L2
theorem lg_any {n : Nat} (h : n < 2 ^ 500) : ((n : Int)).natAbs.log2 < 9000 := by
  rw [Int.natAbs_natCast]
  by_cases e : n = 0
  · rw [e]; decide
  · have := (Nat.log2_lt e).mpr h
    omega
def spSmall : Sp := fun vs H Q _ => ∃ (a c : Addr) (t most : Nat), vs = [.ref a, .int (most : Int)] ∧ Src H a c t ∧ 1 ≤ most ∧ most ≤ 1000 ∧ t + 5 < 2 ^ 30 ∧
  ∀ (p : Addr) (o s : Int) (m : Str) (H' : Hp) (t' : Nat), H' p = some (sideV o s m) → -30 ≤ o → o ≤ 29 → 1 ≤ s → s ≤ (most : Int) → Mode m → t' ≤ t + 3 → Src H' a c t' → Oth a c H H' → Q (.ref p) H'
def spPer : Sp := fun vs H Q _ => ∃ (l : Addr) (xs : List V) (ss : List Sd), vs = [.ref l] ∧ SidesAt H l xs ss ∧ Q (.int (comN ss : Int)) H
def spSet : Sp := fun vs H Q _ => ∃ (a c : Addr) (t most many : Nat), vs = [.ref a, .int (most : Int), .int (many : Int)] ∧ Src H a c t ∧ 1 ≤ most ∧ most ≤ 1000 ∧ 1 ≤ many ∧ many ≤ 4 ∧ t + 50 < 2 ^ 30 ∧
  ∀ (l : Addr) (xs : List V) (ss : List Sd) (H' : Hp) (t' : Nat), SidesAt H' l xs ss → (∀ d ∈ ss, -30 ≤ d.o ∧ d.o ≤ 29 ∧ d.s ≤ (most : Int)) → l ≠ a → l ≠ c → t' ≤ t + 20 → Src H' a c t' → Oth a c H H' → Q (.ref l) H'
section
variable {P : Program} {w : World} {K : PySem.W.Frag} {mg : Str → Option Value} {base : Heap} {fD fP fS fV : Addr} {dD dP dS dV : FuncData}
theorem ok_small {f : Addr} {fd : FuncData} (F : Fun K "_law_small_side" "_law_small_side" s_L_small_side f fd) (D : Cal P w K mg base "_law_draw" 1 ["_law_source_here", "_law_limit"] spDraw fD dD)
    (Pk : Cal P w K mg base "_law_pick" 2 ["_law_source_here", "_law_values"] spPick fP dP) : FnOk P w K mg base CX0 3 f fd ["_law_source_here", "_law_most"] spSmall := by
  refine F.ok sc_L_small_side (fun vs H Q E h => ?_) (fun cdv A outer s0 H vs Q E hr h => ?_)
  · obtain ⟨a, c, t, most, rfl, _⟩ := h
    rfl
  · obtain ⟨a, c, t, most, rfl, S, m1, m2, ht, q⟩ := h
    have nd := sc_L_small_side.nd
    refine ⟨_, (pss_cons (ps_set (i := 2) nd rfl (Or.inl rfl) (pe_op op_sub (pcl D hr (by decide) (by rfl) (pa_cons (pv 0) (pa_cons pe_int pa_nil))) pe_int))
      (pss_one (ps_ret (pe_tup (pa_cons (pv 2) (pa_cons (pe_op op_add pe_int (pcl D hr (by decide) (by rfl) (pa_cons (pv 0) (pa_cons (pv 1) pa_nil)))) (pa_cons (pcl Pk hr (by decide) (by rfl) (pa_cons (pv 0) (pa_cons (pe_lst (pa_cons pe_str (pa_cons pe_str (pa_cons pe_str (pa_cons pe_str (pa_cons pe_str pa_nil)))))) pa_nil))) pa_nil))))))), ?_⟩
    walk_at "rd"
    refine ⟨a, c, t, 60, rfl, S, by omega, by decide, by decide, fun k1 H1 k10 k11 S1 O1 => ?_⟩
    walk_at "rd"
    refine ⟨a, c, t + 1, (most : Int), rfl, S1, by omega, by omega, lg_small (by omega) (by omega), fun k2 H2 k20 k21 S2 O2 => ?_⟩
    walk_at "rd"
    refine ⟨(by show 5 ≤ sizeLine; decide), fun l nl => ?_⟩
    obtain ⟨la, lc⟩ := S2.na nl
    refine ⟨a, c, _, l, _, rfl, S2.new nl, by omega, upd_same, la, lc, by decide, by decide, fun x H3 hx S3 O3 => ?_⟩
    obtain ⟨md, rfl, hmd⟩ := mode_of hx
    refine ⟨(by show 3 ≤ sizeLine; decide), fun p np => ?_⟩
    exact q p _ _ md _ (t + 1 + 1 + 1) upd_same (by omega) (by omega) (by omega) (by omega) hmd (by omega) (S3.new np) ((((O1.trans O2).new nl).trans O3).new np)
theorem ok_period {f : Addr} {fd : FuncData} (F : Fun K "_law_period" "_law_period" s_L_period f fd) (B : Blt mg) (Dv : Cal P w K mg base "_law_divisor" 1 ["_law_one", "_law_other"] spDiv fV dV) : FnOk P w K mg base CX0 2 f fd ["_law_sides"] spPer := by
  refine F.ok sc_L_period (fun vs H Q E h => ?_) (fun cdv A outer s0 H vs Q E hr h => ?_)
  · obtain ⟨l, xs, ss, rfl, _⟩ := h
    rfl
  · obtain ⟨l, xs, ss, rfl, SS, q⟩ := h
    have nd := sc_L_period.nd
    refine ⟨_, (pss_cons (ps_set (i := 1) nd rfl (Or.inl rfl) pe_int)
      (pss_cons (ps_for PassesOwn.never rfl (pi_list (pv 0)) (pg_tup (by rfl) (pgs_cons (pg_name (i := 2) nd rfl (Or.inl rfl)) (pgs_cons (pg_name (i := 3) nd rfl (Or.inl rfl)) (pgs_cons (pg_name (i := 4) nd rfl (Or.inl rfl)) pgs_nil)))) (pss_cons (ps_set (i := 5) nd rfl (Or.inl rfl) (pe_op op_mulW (pv 3) (pe_op op_add pe_int (pe_callTy call_int1 (by rfl) B.int (by decide +kernel) (pa_cons (pe_cmpR op_eq (pv 4) pe_str (nomark _)) pa_nil)))))
      (pss_one (ps_set (i := 1) nd rfl (Or.inl rfl) (pe_op op_mulW (pe_op op_fdivW (pv 1) (pcl Dv hr (by decide) (by rfl) (pa_cons (pv 1) (pa_cons (pv 5) pa_nil)))) (pv 5))))))
      (pss_one (ps_ret (pv 1))))), ?_⟩
    walk_at "rd"
    refine ⟨⟨_, SqL.of SS.hl⟩, ?_⟩
    refine for_list (K := K) (a := l) (xs := xs) (fun i st H' => ∃ x2 x3 x4 x5 : Option V, st = [some (.ref l), some (.int (comN (ss.take i) : Int)), x2, x3, x4, x5] ∧ H' = H) ⟨none, none, none, none, rfl, rfl⟩ (fun _ _ _ _ ⟨_, _, _, _, _, e⟩ => e ▸ SqL.of SS.hl) ?_ ?_
    · rintro i y st H' hy ⟨x2, x3, x4, x5, rfl, rfl⟩
      obtain ⟨d, p, ed, rfl, hp, sp⟩ := SS.item hy
      walk_at "rd"
      refine ⟨p, _, rfl, SqT.of hp, rfl, _, _, rfl, _, _, rfl, _, _, rfl, rfl, ?_⟩
      walk_at "rd"
      refine ⟨rfl, ?_⟩
      walk_at "rd"
      refine .inr ⟨_, rfl, ?_⟩
      have s0 := sp.s0
      have s1 := sp.s1
      have pb := perM_bd sp
      have eN : ((perN d : Nat) : Int) = perM d.s d.m := Int.toNat_of_nonneg (by omega)
      have eL : d.s * (1 + if decide (V.str d.m = V.str "half_even") = true then 1 else 0) = ((perN d : Nat) : Int) := by
        rw [eN, dec_str]
        unfold perM
        by_cases h : d.m = "half_even"
        · rw [if_pos (decide_eq_true h), if_pos h]; omega
        · rw [if_neg (fun z => h (of_decide_eq_true z)), if_neg h]; omega
      have bb : ∀ b : Bool, -2 ^ 1010 < (1 + if b = true then (1 : Int) else 0) ∧ (1 + if b = true then (1 : Int) else 0) < 2 ^ 1010 := by
        intro b
        cases b <;> decide +kernel
      replace bb := bb (decide (V.str d.m = V.str "half_even"))
      generalize (if decide (V.str d.m = V.str "half_even") = true then (1 : Int) else 0) = bI at eL bb
      walk_at "rd"
      refine ⟨mulW (by omega) bb, ?_⟩
      walk_at "rd"
      refine ⟨comN (ss.take i), perN d, (by show [V.int _, V.int (d.s * (1 + bI))] = _; rw [eL]), ?_⟩
      have cp : 0 < comN (ss.take i) := com_pos _ 1 (by decide) fun e he => SS.side e (List.mem_of_mem_take he)
      have cl := com_take SS.side SS.l4 i
      have gp : 0 < Nat.gcd (comN (ss.take i)) (perN d) := Nat.gcd_pos_of_pos_left _ cp
      have gl : Nat.gcd (comN (ss.take i)) (perN d) ≤ comN (ss.take i) := Nat.gcd_le_left _ cp
      walk_at "rd"
      refine ⟨fdiv_ok _ (by omega) (lg_any (Nat.lt_of_le_of_lt gl (Nat.lt_trans cl (Nat.pow_lt_pow_right (by decide) (by decide))))), ?_⟩
      walk_at "rd"
      have ed2 : (comN (ss.take i) : Int) / ((Nat.gcd (comN (ss.take i)) (perN d) : Nat) : Int) = ((comN (ss.take i) / Nat.gcd (comN (ss.take i)) (perN d) : Nat) : Int) := (Int.natCast_ediv _ _).symm
      have dl : comN (ss.take i) / Nat.gcd (comN (ss.take i)) (perN d) ≤ comN (ss.take i) := Nat.div_le_self _ _
      have big : (2 : Nat) ^ 420 < 2 ^ 1010 := Nat.pow_lt_pow_right (by decide) (by decide)
      have dn : (0 : Int) ≤ ((comN (ss.take i) / Nat.gcd (comN (ss.take i)) (perN d) : Nat) : Int) := Int.natCast_nonneg _
      have ml : CMulW ((comN (ss.take i) : Int) / ((Nat.gcd (comN (ss.take i)) (perN d) : Nat) : Int)) (d.s * (1 + bI)) := by
        rw [ed2, eL]
        exact mulW (by omega) (by omega)
      refine ⟨ml, ?_⟩
      refine ⟨some (.int d.o), some (.int d.s), some (.str d.m), some (.int (d.s * (1 + bI))), ?_, rfl⟩
      have e9 : (comN (ss.take i) : Int) / ((Nat.gcd (comN (ss.take i)) (perN d) : Nat) : Int) * (d.s * (1 + bI)) = (comN (ss.take (i + 1)) : Int) := by
        rw [eL, ed2, com_snoc ed, ← lcm_div, Int.natCast_mul]
      rw [← e9]
      rfl
    · rintro st H' ⟨x2, x3, x4, x5, rfl, rfl⟩
      rw [SS.len, List.take_length]
      walk_at "rd"
      exact q
theorem ok_set {f : Addr} {fd : FuncData} (F : Fun K "_law_set" "_law_set" s_L_set f fd) (B : Blt mg) (D : Cal P w K mg base "_law_draw" 1 ["_law_source_here", "_law_limit"] spDraw fD dD)
    (Sm : Cal P w K mg base "_law_small_side" 3 ["_law_source_here", "_law_most"] spSmall fS dS) : FnOk P w K mg base CX0 4 f fd ["_law_source_here", "_law_most", "_law_many"] spSet := by
  refine F.ok sc_L_set (fun vs H Q E h => ?_) (fun cdv A outer s0 H vs Q E hr h => ?_)
  · obtain ⟨a, c, t, most, many, rfl, _⟩ := h
    rfl
  · obtain ⟨a, c, t, most, many, rfl, S, m1, m2, n1, n2, ht, q⟩ := h
    have nd := sc_L_set.nd
    refine ⟨_, (pss_one (ps_ret (pe_lc (own := [("_law_k", 3)]) (g := gName 3) (tt := tYes) rfl nd (pi_range1 (by rfl) B.range (pa_cons (pe_op op_add pe_int (pcl D hr (by decide) (by rfl) (pa_cons (pv 0) (pa_cons (pv 2) pa_nil)))) pa_nil)) (blkOk_by (N := ["_law_source_here", "_law_most", "_law_many", "_law_k"]) (sc := defScope s_L_set) (by decide +kernel)) (fun _ _ _ _ _ => pg_name (i := 3) nd rfl (Or.inl rfl)) (fun _ _ _ _ _ => pts_nil) (fun _ _ _ _ _ => (pcl Sm hr (by decide) (by rfl) (pa_cons (pv 0) (pa_cons (pv 1) pa_nil))))))), ?_⟩
    walk_at "rd"
    refine ⟨a, c, t, (many : Int), rfl, S, by omega, by omega, lg_small (by omega) (by omega), fun y H1 y0 y1 S1 O1 => ?_⟩
    walk_at "rd"
    refine ⟨by omega, by omega, fun L nL => ?_⟩
    obtain ⟨La, Lc⟩ := S1.na nL
    refine lc_range (lo := 0) (n := (1 + y).toNat) (fun j H5 => ∃ (xs : List V) (ss : List Sd) (t' : Nat), H5 L = some (.lst xs) ∧ xs.length = j ∧ ss.length = j ∧ (∀ (i : Nat) (d : Sd), ss[i]? = some d → ∃ p : Addr, xs[i]? = some (V.ref p) ∧ H5 p = some (sideV d.o d.s d.m) ∧ SideP d.o d.s d.m) ∧ (∀ d ∈ ss, -30 ≤ d.o ∧ d.o ≤ 29 ∧ d.s ≤ (most : Int)) ∧ t' ≤ t + 1 + 3 * j ∧ Src H5 a c t' ∧ Oth a c H H5)
      ⟨[], [], t + 1, upd_same, rfl, rfl, (fun i d h => nomatch h), (fun d hd => absurd hd List.not_mem_nil), by omega, S1.new nL, O1.new nL⟩ ?_ ?_
    · rintro j H5 hj ⟨xs, ss, t', hL, lx, ls, at_, small, ht', S5, O5⟩
      refine ⟨rfl, ?_⟩
      walk_at "rd"
      refine ⟨a, c, t', most, rfl, S5, m1, m2, by omega, fun p o s m H6 t6 hp b1 b2 b3 b4 md ht6 S6 O6 => ?_⟩
      have hL6 := O6 _ _ hL La Lc
      refine ⟨_, hL6, (by rw [lx]; exact Nat.lt_of_lt_of_le (by omega : j < 100) (by decide)), xs ++ [.ref p], ss ++ [⟨o, s, m⟩], t6, upd_same, by rw [List.length_append, lx]; rfl, by rw [List.length_append, ls]; rfl, ?_, ?_, by omega, ?_, ?_⟩
      · intro i d hd
        rcases Nat.lt_or_ge i ss.length with z | z
        · rw [List.getElem?_append_left z] at hd
          obtain ⟨p2, e1, hp2, sp⟩ := at_ i d hd
          obtain ⟨z1, z2⟩ := S5.nt hp2
          have hp6 := O6 _ _ hp2 z1 z2
          exact ⟨p2, by rw [List.getElem?_append_left (by omega)]; exact e1, (upd_ne (ne_of hp6 hL6 (by intro y; cases y))).trans hp6, sp⟩
        · rw [List.getElem?_append_right z] at hd
          have e0 : i - ss.length = 0 := by
            have := (List.getElem?_eq_some_iff.mp hd).1
            simp at this
            omega
          rw [e0] at hd
          have ed : d = ⟨o, s, m⟩ := by simpa using hd.symm
          subst ed
          exact ⟨p, by rw [List.getElem?_append_right (by omega), show i - xs.length = 0 by omega]; rfl, (upd_ne (ne_of hp hL6 (by intro y; cases y))).trans hp, ⟨by show -(10 : Int) ^ 40 ≤ o; omega, by show o ≤ (10 : Int) ^ 40; omega, b3, by show s ≤ (10 : Int) ^ 30; omega, md⟩⟩
      · intro d hd
        rcases List.mem_append.mp hd with h | h
        · exact small d h
        · rw [List.mem_singleton.mp h]; exact ⟨b1, b2, b4⟩
      · obtain ⟨cs, hcs, hl2⟩ := S6.cl
        exact ⟨S6.ne, (upd_ne La.symm).trans S6.ob, cs, (upd_ne Lc.symm).trans hcs, hl2⟩
      · intro b u z na nc
        have z5 := O5 b u z na nc
        have z6 := O6 b u z5 na nc
        exact (upd_ne (ne_of_none (O1 b u z na nc) nL)).trans z6
    · rintro H5 ⟨xs, ss, t', hL, lx, ls, at_, small, ht', S5, O5⟩
      exact q L xs ss H5 t' ⟨hL, by omega, by omega, by omega, at_⟩ small La Lc (by omega) S5 O5
end
end HT
namespace HT
open PySem L2
def nV (k : Nat) : V := .int (k : Int)
structure AmG (mg : Str → Option Value) : Prop where
  isi : mg "isinstance" = none
  list : mg "list" = none
  len : mg "len" = none
  ms : ∃ t, mg "MOST_SIDES" = some (.int 4 t)
  mp : ∃ t, mg "MOST_PERIOD" = some (.int 100000 t)
  lcm : mg "lcm" = some (.builtin "math.lcm")
  sorted : mg "sorted" = none
def spIsSide : Sp := fun vs H Q _ => ∃ (p : Addr) (o s : Int) (m : Str), vs = [.ref p] ∧ H p = some (sideV o s m) ∧ SideP o s m ∧ Q (.bl true) H
def spSides : Sp := fun vs H Q _ => ∃ (l : Addr) (xs : List V) (ss : List Sd), vs = [.ref l] ∧ SidesAt H l xs ss ∧ Q .non H
def spPerOf : Sp := fun vs H Q _ => ∃ (p : Addr) (o s : Int) (m : Str), vs = [.ref p] ∧ H p = some (sideV o s m) ∧ SideP o s m ∧ Q (.int (perM s m)) H
def spNums : Sp := fun vs H Q _ => ∃ (kl : Addr) (ks : List Nat) (n : Nat), vs = [.ref kl, .int (n : Int)] ∧ H kl = some (.lst (ks.map nV)) ∧ ks.length ≤ 1000 ∧ (∀ k ∈ ks, k < n) ∧ Q .non H
/-- one hand-over more -/
def stepW (ss : List Sd) (a : List Int × Int) (k : Nat) : List Int × Int :=
  match ss[k]? with
  | some d => (a.1 ++ [dueM d.o d.s d.m a.2], dueM d.o d.s d.m a.2)
  | none => (a.1 ++ [a.2], a.2)
def walkW (ss : List Sd) (ks : List Nat) (v : Int) : List Int × Int := ks.foldl (stepW ss) ([], v)
theorem walk_snoc {ss : List Sd} {ks : List Nat} {v : Int} {i k : Nat} (h : ks[i]? = some k) : walkW ss (ks.take (i + 1)) v = stepW ss (walkW ss (ks.take i) v) k := by
  unfold walkW
  rw [List.take_succ, h, List.foldl_append]
  rfl
theorem due_far {o s v b : Int} {m : Str} (S : SideP o s m) (h : -b < v ∧ v < b) : -(b + 10 ^ 30) < dueM o s m v ∧ dueM o s m v < b + 10 ^ 30 := by
  have h1 := due_near (o := o) (v := v) S.md S.s0
  have h2 := S.s1
  omega
def spAlong : Sp := fun vs H Q _ => ∃ (l : Addr) (xs : List V) (ss : List Sd) (kl : Addr) (ks : List Nat) (v : Int), vs = [.ref l, .ref kl, .int v] ∧ SidesAt H l xs ss ∧ H kl = some (.lst (ks.map nV)) ∧ ks.length ≤ 1000 ∧ (∀ k ∈ ks, k < ss.length) ∧ (-2 ^ 200 < v ∧ v < 2 ^ 200) ∧
  ∀ (d : Addr) (H' : Hp), H d = none → Same H H' → H' d = some (.lst ((walkW ss ks v).1.map V.int)) → Q (.ref d) H'
section
variable {P : Program} {w : World} {K : PySem.W.Frag} {mg : Str → Option Value} {base : Heap} {aM c0 fC fB fV fN fW fS : Addr} {dC dB dV dN dW dS : FuncData}
theorem ok_is_side {f : Addr} {fd : FuncData} (F : Fun K "is_side" "is_side" s_is_side f fd) (g0 : mg "InvalidSide" = some (.ref c0)) (Ck : Cal P w K mg base "check_side" 3 ["side"] spCheckSide fC dC) : FnOk P w K mg base CX0 4 f fd ["thing"] spIsSide := by
  refine F.ok sc_is_side (fun vs H Q E h => ?_) (fun cdv A outer s0 H vs Q E hr h => ?_)
  · obtain ⟨p, o, s, m, rfl, _⟩ := h
    rfl
  · obtain ⟨p, o, s, m, rfl, hp, S, q⟩ := h
    refine ⟨_, pss_cons (ps_try_only rfl rfl ⟨rfl, by decide, .inl g0⟩ takes0 (fun W pn xe tk _ => pss_one (ps_expr (pcl Ck hr (by decide) (by rfl) (pa_cons (pv 0) pa_nil)))) (fun a oe cls d pn _ _ => pss_one (ps_ret pe_bl))) (pss_one (ps_ret pe_bl)), ?_⟩
    walk_at "rd"
    refine ⟨p, o, s, m, rfl, hp, S, ?_⟩
    walk_at "rd"
    exact q
theorem ok_sides {f : Addr} {fd : FuncData} (F : Fun K "check_sides" "check_sides" s_check_sides f fd) (A' : AmG mg) (Ck : Cal P w K mg base "is_side" 4 ["thing"] spIsSide fC dC) : FnOk P w K mg base CX0 5 f fd ["sides"] spSides := by
  refine F.ok sc_check_sides (fun vs H Q E h => ?_) (fun cdv A outer s0 H vs Q E hr h => ?_)
  · obtain ⟨l, xs, ss, rfl, _⟩ := h
    rfl
  · obtain ⟨l, xs, ss, rfl, SS, q⟩ := h
    have nd := sc_check_sides.nd
    obtain ⟨tms, hms⟩ := A'.ms
    refine ⟨_, pss_cons (ps_if (PW.pt (pw_or (pt_not (pt_val (pe_callB call_isi (by rfl) A'.isi (by decide +kernel) (pa_cons (pv 0) (pa_cons (pe_bltn (v := .ty "list") (by rfl) A'.list (by decide +kernel) rfl) pa_nil)))))
        (pw_or1 (pt_not (pt_chain op_le op_le pe_int (pe_callB call_len_seq (by rfl) A'.len PySem.boot_len (pa_cons (pv 0) pa_nil)) (pe_glob (v := .int 4) (by rfl) hms ⟨_, rfl⟩)))))) (pss_one ps_never) pss_nil)
      (pss_one (ps_for PassesOwn.never rfl (pi_list (pv 0)) (pg_name (i := 1) nd rfl (Or.inl rfl))
        (pss_one (ps_if (pt_not (pt_val (pcl Ck hr (by decide) (by rfl) (pa_cons (pv 1) pa_nil)))) (pss_one ps_never) pss_nil)))), ?_⟩
    walk_at "rd"
    refine ⟨_, _, _, _, _, rfl, .ty "list", .base (.lst SS.hl), kit_ty (r := true) (by decide +kernel), ?_⟩
    walk_at "rd"
    refine ⟨l, _, rfl, .inl (SqL.of SS.hl), ?_⟩
    have l1 := SS.l1
    have l4 := SS.l4
    have ln := SS.len
    walk_at "rd"
    refine ite2 (fun _ => ?_) (fun z => absurd (decide_eq_true (by omega)) z)
    walk_at "rd"
    refine ite2 (fun z => ?_) (fun _ => ?_)
    · exfalso
      have e : decide ((xs.length : Int) ≤ 4) = true := decide_eq_true (by omega)
      exact not_t z e
    walk_at "rd"
    refine ⟨⟨_, SqL.of SS.hl⟩, ?_⟩
    refine for_list (K := K) (a := l) (xs := xs) (fun i σ H' => ∃ y : Option V, σ = [some (.ref l), y] ∧ H' = H) ⟨none, rfl, rfl⟩ (fun _ _ _ _ ⟨_, _, e⟩ => e ▸ SqL.of SS.hl) ?_ ?_
    · rintro i y σ H' hy ⟨z, rfl, rfl⟩
      obtain ⟨d, p, ed, rfl, hp, sp⟩ := SS.item hy
      walk_at "rd"
      refine ⟨p, d.o, d.s, d.m, rfl, hp, sp, _, rfl, ?_⟩
      refine ite2 (fun z => (not_t z rfl).elim) (fun _ => ?_)
      exact ⟨_, rfl, rfl⟩
    · rintro σ H' ⟨z, rfl, rfl⟩
      exact q
theorem ok_per {f : Addr} {fd : FuncData} (F : Fun K "period_of" "period_of" s_period_of f fd) : FnOk P w K mg base CX0 1 f fd ["side"] spPerOf := by
  refine F.ok sc_period_of (fun vs H Q E h => ?_) (fun cdv A outer s0 H vs Q E hr h => ?_)
  · obtain ⟨p, o, s, m, rfl, _⟩ := h
    rfl
  · obtain ⟨p, o, s, m, rfl, hp, S, q⟩ := h
    have nd := sc_period_of.nd
    refine ⟨_, (pss_cons (ps_asg (pv 0) (pg_tup (by rfl) (pgs_cons (pg_name (i := 1) nd rfl (Or.inl rfl)) (pgs_cons (pg_name (i := 2) nd rfl (Or.inl rfl)) (pgs_cons (pg_name (i := 3) nd rfl (Or.inl rfl)) pgs_nil)))))
      (pss_cons (ps_if (pt_cmpR op_eq (pv 3) pe_str (nomark _)) (pss_one (ps_ret (pe_op op_mul pe_int (pv 2)))) pss_nil)
      (pss_one (ps_ret (pv 2))))), ?_⟩
    walk_at "rd"
    refine ⟨p, _, rfl, SqT.of hp, rfl, _, _, rfl, _, _, rfl, _, _, rfl, rfl, ?_⟩
    walk_at "rd"
    refine ⟨rfl, ?_⟩
    walk_at "rd"
    unfold perM at q
    refine ite2 (fun h => ?_) (fun h => ?_)
    · rw [if_pos (str_t h)] at q
      walk_at "rd"
      refine ⟨.inl ⟨by decide, by decide⟩, ?_⟩
      exact q
    · rw [if_neg (str_f h)] at q
      walk_at "rd"
      exact q
end
end HT
namespace HT
open PySem L2
theorem log_lt {n k : Nat} (h : n < 2 ^ (k + 1)) : n.log2 ≤ k := by
  by_cases h0 : n = 0
  · subst h0
    rw [Nat.log2_zero]
    exact Nat.zero_le _
  · exact Nat.le_of_lt_succ ((Nat.log2_lt h0).mpr h)
theorem lcm_lt {a b i j : Nat} (ha : a < 2 ^ i) (hb : b < 2 ^ j) : a.lcm b < 2 ^ (i + j) := by
  rw [Nat.pow_add]
  exact Nat.lt_of_le_of_lt (PySem.W.mc_lcm_le a b) (Nat.mul_lt_mul'' ha hb)
def rLcm2 : List V → Hp → VK → Prop := fun vs H Q => ∃ a b : Int, vs = [.int a, .int b] ∧ a.natAbs < 2 ^ 2000 ∧ b.natAbs < 2 ^ 2000 ∧ Q (.int (((a.natAbs.lcm b.natAbs : Nat) : Int))) H
theorem cr_lcm2 {X : Cx} : CallR X (.builtin "math.lcm") rLcm2 := by
  intro pins s σ H vs us Q I r h
  obtain ⟨a, b, rfl, ha, hb, q⟩ := h
  obtain ⟨u1, u2, rfl, r1, r2⟩ := vals2 r
  obtain ⟨t, rfl⟩ := r1
  obtain ⟨u, rfl⟩ := r2
  have hab := lcm_lt ha hb
  have e1 : Nat.lcm 1 a.natAbs = a.natAbs := PySem.W.mc_lcm_one _
  have two : ∀ {k : Nat}, 1 < 2 ^ (k + 1) := fun {k} => Nat.one_lt_two_pow (by omega)
  have g := PySem.W.mg_run_lcm a t b u
    (by have := log_lt (n := max 1 a.natAbs) (k := 1999) (Nat.max_lt.mpr ⟨two, ha⟩); omega)
    (by have := log_lt (n := max a.natAbs b.natAbs) (k := 1999) (Nat.max_lt.mpr ⟨ha, hb⟩); omega)
    (by rw [e1]; exact PySem.W.mc_size (k := 100) (Nat.le_trans (Nat.le_of_lt hab) (Nat.pow_le_pow_right (by decide) (by decide))) (by decide))
  rw [e1] at g
  exact PySem.call_function_meets PySem.W.MGF.kind_lcm PySem.W.MGF.plain_lcm PySem.W.MGF.entry_lcm (PySem.W.MGF.args_lcm _ _) g.meets ⟨.int _, H, I.tok _, ⟨_, rfl⟩, q⟩
section
variable {P : Program} {w : World} {K : PySem.W.Frag} {mg : Str → Option Value} {base : Heap} {aM c0 fC fB fV fN fW fS : Addr} {dC dB dV dN dW dS : FuncData}
theorem ok_common {f : Addr} {fd : FuncData} (F : Fun K "common_period" "common_period" s_common_period f fd) (A' : AmG mg) (Pe : Cal P w K mg base "period_of" 1 ["side"] spPerOf fC dC) : FnOk P w K mg base CX0 2 f fd ["sides"] spPer := by
  refine F.ok sc_common_period (fun vs H Q E h => ?_) (fun cdv A outer s0 H vs Q E hr h => ?_)
  · obtain ⟨l, xs, ss, rfl, _⟩ := h
    rfl
  · obtain ⟨l, xs, ss, rfl, SS, q⟩ := h
    have nd := sc_common_period.nd
    refine ⟨_, pss_cons (ps_set (i := 1) nd rfl (Or.inl rfl) pe_int)
      (pss_cons (ps_for PassesOwn.never rfl (pi_list (pv 0)) (pg_name (i := 2) nd rfl (Or.inl rfl)) (pss_one (ps_set (i := 1) nd rfl (Or.inl rfl) (pe_callBfun cr_lcm2 (by rfl) A'.lcm (pa_cons (pv 1) (pa_cons (pcl Pe hr (by decide) (by rfl) (pa_cons (pv 2) pa_nil)) pa_nil))))))
      (pss_one (ps_ret (pv 1)))), ?_⟩
    walk_at "rd"
    refine ⟨⟨_, SqL.of SS.hl⟩, ?_⟩
    refine for_list (K := K) (a := l) (xs := xs) (fun i st H' => ∃ x2 : Option V, st = [some (.ref l), some (.int (comN (ss.take i) : Int)), x2] ∧ H' = H) ⟨none, rfl, rfl⟩ (fun _ _ _ _ ⟨_, _, e⟩ => e ▸ SqL.of SS.hl) ?_ ?_
    · rintro i y st H' hy ⟨x2, rfl, rfl⟩
      obtain ⟨d, p, ed, rfl, hp, sp⟩ := SS.item hy
      walk_at "rd"
      refine ⟨p, d.o, d.s, d.m, rfl, hp, sp, ?_⟩
      have pb := perM_bd sp
      have cl := com_take SS.side SS.l4 i
      have big : (2 : Nat) ^ 420 < 2 ^ 2000 := Nat.pow_lt_pow_right (by decide) (by decide)
      have big2 : (2 : Nat) ^ 120 < 2 ^ 2000 := Nat.pow_lt_pow_right (by decide) (by decide)
      have e2 : (perM d.s d.m).natAbs = perN d := by unfold perN; omega
      refine ⟨_, _, rfl, ?_, ?_, ?_⟩
      · rw [Int.natAbs_natCast]; omega
      · rw [e2]; unfold perN; omega
      · rw [Int.natAbs_natCast, e2, ← com_snoc ed]
        exact ⟨_, rfl, rfl⟩
    · rintro st H' ⟨x2, rfl, rfl⟩
      rw [SS.len, List.take_length]
      walk_at "rd"
      exact q
end
end HT
namespace HT
/-- k steps come to a place between two -/
def Hit (step least greatest M : Int) (k : Nat) : Prop := least ≤ (step * (k : Int)) % M ∧ (step * (k : Int)) % M ≤ greatest
/-- the least number with a property, or none -/
def Least (Pr : Nat → Prop) : Option Nat → Prop
  | some k => Pr k ∧ ∀ j, j < k → ¬ Pr j
  | none => ∀ k, ¬ Pr k
theorem least_uniq {Pr : Nat → Prop} {a b : Option Nat} (ha : Least Pr a) (hb : Least Pr b) : a = b := by
  cases a with
  | none =>
    cases b with
    | none => rfl
    | some k => exact absurd hb.1 (ha k)
  | some j =>
    cases b with
    | none => exact absurd ha.1 (hb j)
    | some k =>
      rcases Nat.lt_trichotomy j k with h | h | h
      · exact absurd ha.1 (hb.2 j h)
      · rw [h]
      · exact absurd hb.1 (ha.2 k h)
theorem least_congr {A B : Nat → Prop} (h : ∀ k, A k ↔ B k) {r : Option Nat} (l : Least A r) : Least B r := by
  cases r with
  | none => exact fun k z => l k ((h k).mpr z)
  | some k => exact ⟨(h k).mp l.1, fun j hj z => l.2 j hj ((h j).mpr z)⟩
/-- seen from the other side -/
theorem hit_flip {step least greatest M : Int} (hM : 0 < M) (h0 : 0 < least) (h1 : greatest < M) (k : Nat) : Hit (M - step) (M - greatest) (M - least) M k ↔ Hit step least greatest M k := by
  have e : ((M - step) * (k : Int)) % M = (-(step * (k : Int))) % M := by
    rw [Int.sub_mul, show M * (k : Int) - step * (k : Int) = -(step * (k : Int)) + M * (k : Int) by omega, Int.add_mul_emod_self_left]
  unfold Hit
  rw [e]
  generalize step * (k : Int) = x
  have a := Int.emod_nonneg x (by omega : M ≠ 0)
  have b := Int.emod_lt_of_pos x hM
  have c := Int.emod_nonneg (-x) (by omega : M ≠ 0)
  have d := Int.emod_lt_of_pos (-x) hM
  have e1 := Int.emod_add_mul_ediv x M
  have e2 := Int.emod_add_mul_ediv (-x) M
  -- x % M + (-x) % M is 0 or M
  have s : (x % M + (-x) % M) % M = 0 := by
    rw [← Int.add_emod]
    rw [show x + -x = 0 by omega]
    exact Int.zero_emod M
  have s2 : x % M + (-x) % M = 0 ∨ x % M + (-x) % M = M := by
    have f := Int.emod_add_mul_ediv (x % M + (-x) % M) M
    rw [s] at f
    have g1 : (x % M + (-x) % M) / M = 0 ∨ (x % M + (-x) % M) / M = 1 := by
      have h1 : 0 ≤ (x % M + (-x) % M) / M := Int.ediv_nonneg (by omega) (by omega)
      have h2 : (x % M + (-x) % M) / M < 2 := Int.ediv_lt_of_lt_mul hM (by omega)
      omega
    rcases g1 with g | g
    · rw [g] at f; left; omega
    · rw [g] at f; right; omega
  constructor
  · rintro ⟨p, q⟩
    omega
  · rintro ⟨p, q⟩
    omega
def ceilD (a s : Int) : Int := -((-a) / s)
theorem ceilD_spec {a s : Int} (hs : 0 < s) : a ≤ s * ceilD a s ∧ s * (ceilD a s - 1) < a := by
  unfold ceilD
  have e := Int.emod_add_mul_ediv (-a) s
  have a0 := Int.emod_nonneg (-a) (by omega : s ≠ 0)
  have a1 := Int.emod_lt_of_pos (-a) hs
  generalize (-a) / s = t at e
  have m1 : s * (-t) = -(s * t) := Int.mul_neg s t
  have m2 : s * (-t - 1) = -(s * t) - s := by rw [Int.mul_sub, m1, Int.mul_one]
  rw [m1, m2]
  omega
end HT
namespace HT
theorem mod_small {x M : Int} (h0 : 0 ≤ x) (h1 : x < M) : x % M = x := Int.emod_eq_of_lt h0 h1
theorem divmod_eq' {s q r x : Int} (hs : 0 < s) (h : x = s * q + r) (r0 : 0 ≤ r) (r1 : r < s) : x / s = q ∧ x % s = r := by
  subst h
  constructor
  · rw [Int.add_comm, Int.add_mul_ediv_left _ _ (by omega : s ≠ 0), Int.ediv_eq_zero_of_lt r0 r1, Int.zero_add]
  · rw [Int.add_comm, Int.add_mul_emod_self_left, Int.emod_eq_of_lt r0 r1]
theorem hit_zero {least greatest M : Int} (h0 : 0 < least) (k : Nat) : ¬ Hit 0 least greatest M k := by
  rintro ⟨a, _⟩
  rw [Int.zero_mul, Int.zero_emod] at a
  omega
theorem ceil_le {a s k : Int} (hs : 0 < s) (h : a ≤ s * k) : ceilD a s ≤ k := by
  have c := (ceilD_spec (a := a) hs).2
  refine Decidable.byContradiction fun z => ?_
  have h2 : s * k ≤ s * (ceilD a s - 1) := Int.mul_le_mul_of_nonneg_left (by omega) (by omega)
  omega
theorem ceil_pos {a s : Int} (hs : 0 < s) (ha : 0 < a) : 0 < ceilD a s := by
  have c := (ceilD_spec (a := a) hs).1
  refine Decidable.byContradiction fun z => ?_
  have h2 : s * ceilD a s ≤ s * 0 := Int.mul_le_mul_of_nonneg_left (by omega) (by omega)
  omega
/-- the first round reaches a place -/
theorem hit_direct {s l g M : Int} (hs : 0 < s) (h0 : 0 < l) (h1 : g < M) (h : s * ceilD l s ≤ g) : Least (Hit s l g M) (some (ceilD l s).toNat) := by
  have c := ceilD_spec (a := l) hs
  have cp := ceil_pos hs h0
  have e : (((ceilD l s).toNat : Nat) : Int) = ceilD l s := Int.toNat_of_nonneg (by omega)
  refine ⟨?_, fun j hj => ?_⟩
  · unfold Hit
    rw [e, mod_small (by omega) (by omega)]
    exact ⟨c.1, h⟩
  · rintro ⟨a, b⟩
    have hj' : (j : Int) ≤ ceilD l s - 1 := by omega
    have h2 : s * (j : Int) ≤ s * (ceilD l s - 1) := Int.mul_le_mul_of_nonneg_left hj' (by omega)
    have h3 : 0 ≤ s * (j : Int) := Int.mul_nonneg (by omega) (by omega)
    rw [mod_small h3 (by omega)] at a
    omega
/-- both ends lie in one cell -/
theorem one_cell {s l g : Int} (hs : 0 < s) (h : g < s * ceilD l s) (hl : l ≤ g) : l / s = g / s ∧ 0 < l % s ∧ l % s ≤ g % s := by
  have c := ceilD_spec (a := l) hs
  generalize ceilD l s = t at c h
  have e1 : s * (t - 1) = s * t - s := by rw [Int.mul_sub, Int.mul_one]
  have q1 : l / s = t - 1 := by
    refine (divmod_eq' hs (q := t - 1) (r := l - s * (t - 1)) (by omega) (by omega) (by omega)).1
  have q2 : g / s = t - 1 := by
    refine (divmod_eq' hs (q := t - 1) (r := g - s * (t - 1)) (by omega) (by omega) (by omega)).1
  have m1 := Int.emod_add_mul_ediv l s
  have m2 := Int.emod_add_mul_ediv g s
  rw [q1] at m1
  rw [q2] at m2
  exact ⟨by rw [q1, q2], by omega, by omega⟩
end HT
namespace HT
theorem hit_round {s l g M : Int} (hM : 0 < M) (hs : 0 ≤ s) (h0 : 0 < l) (h1 : g < M) (k : Nat) : Hit s l g M k ↔ ∃ n : Nat, l + M * (n : Int) ≤ s * (k : Int) ∧ s * (k : Int) ≤ g + M * (n : Int) := by
  have p : 0 ≤ s * (k : Int) := Int.mul_nonneg hs (by omega)
  unfold Hit
  generalize s * (k : Int) = x at p
  have e := Int.emod_add_mul_ediv x M
  have q0 : 0 ≤ x / M := Int.ediv_nonneg p (by omega)
  constructor
  · rintro ⟨a, b⟩
    refine ⟨(x / M).toNat, ?_, ?_⟩ <;> rw [Int.toNat_of_nonneg q0] <;> omega
  · rintro ⟨n, a, b⟩
    have d := (divmod_eq' hM (q := (n : Int)) (r := x - M * (n : Int)) (x := x) (by omega) (by omega) (by omega)).2
    rw [d]
    omega
theorem hit_cell {s l g M : Int} (hs : 0 < s) (hl : l ≤ g) (h : g < s * ceilD l s) (n : Nat) : Hit ((-M) % s) (l % s) (g % s) s n ↔ ∃ k : Int, l + M * (n : Int) ≤ s * k ∧ s * k ≤ g + M * (n : Int) := by
  obtain ⟨c1, c2, c3⟩ := one_cell hs h hl
  have el := Int.emod_add_mul_ediv l s
  have eg := Int.emod_add_mul_ediv g s
  rw [← c1] at eg
  have e : (((-M) % s) * (n : Int)) % s = (-(M * (n : Int))) % s := by
    rw [Int.mul_emod, Int.emod_emod, ← Int.mul_emod, Int.neg_mul]
  unfold Hit
  rw [e]
  generalize M * (n : Int) = y
  have ew := Int.emod_add_mul_ediv (-y) s
  have w0 := Int.emod_nonneg (-y) (by omega : s ≠ 0)
  have w1 := Int.emod_lt_of_pos (-y) hs
  have lm := Int.emod_lt_of_pos g hs
  have ll := Int.emod_nonneg l (by omega : s ≠ 0)
  constructor
  · rintro ⟨a, b⟩
    refine ⟨l / s - (-y) / s, ?_, ?_⟩ <;> rw [Int.mul_sub] <;> omega
  · rintro ⟨k, a, b⟩
    -- s k - y lies in the cell of l
    have d := divmod_eq' hs (q := l / s) (r := s * k - y - s * (l / s)) (x := s * k - y) (by omega) (by omega) (by omega)
    have f : (s * k - y) % s = (-y) % s := by
      rw [show s * k - y = -y + s * k by omega, Int.add_mul_emod_self_left]
    rw [f] at d
    omega
theorem mono_mul {M : Int} (hM : 0 < M) {a b : Nat} (h : a ≤ b) : M * (a : Int) ≤ M * (b : Int) := Int.mul_le_mul_of_nonneg_left (by omega) (by omega)
/-- behind the rounds that leap over the places -/
theorem hit_rec {s l g M : Int} (hs : 0 < s) (hM : 0 < M) (h0 : 0 < l) (hl : l ≤ g) (h1 : g < M) (h : g < s * ceilD l s) {r : Option Nat} (L : Least (Hit ((-M) % s) (l % s) (g % s) s) r) :
    Least (Hit s l g M) (r.map fun n => (ceilD (l + M * (n : Int)) s).toNat) := by
  cases r with
  | none =>
    intro k hk
    obtain ⟨n, a, b⟩ := (hit_round hM (by omega) h0 h1 k).mp hk
    exact L n ((hit_cell hs hl h n).mpr ⟨k, a, b⟩)
  | some n =>
    obtain ⟨L1, L2⟩ := L
    obtain ⟨k, a, b⟩ := (hit_cell hs hl h n).mp L1
    have nn : 0 ≤ M * (n : Int) := Int.mul_nonneg (by omega) (by omega)
    have cs := ceilD_spec (a := l + M * (n : Int)) hs
    have cp := ceil_pos hs (show 0 < l + M * (n : Int) by omega)
    have ck := ceil_le hs a
    have e : ((((ceilD (l + M * (n : Int)) s).toNat) : Nat) : Int) = ceilD (l + M * (n : Int)) s := Int.toNat_of_nonneg (by omega)
    refine ⟨?_, fun j hj hit => ?_⟩
    · refine (hit_round hM (by omega) h0 h1 _).mpr ⟨n, ?_, ?_⟩
      · rw [e]; exact cs.1
      · rw [e]
        have : s * ceilD (l + M * (n : Int)) s ≤ s * k := Int.mul_le_mul_of_nonneg_left ck (by omega)
        omega
    · obtain ⟨n2, a2, b2⟩ := (hit_round hM (by omega) h0 h1 j).mp hit
      have nle : n ≤ n2 := Decidable.byContradiction fun z => L2 n2 (by omega) ((hit_cell hs hl h n2).mpr ⟨j, a2, b2⟩)
      have m := mono_mul hM nle
      have := ceil_le hs (show l + M * (n : Int) ≤ s * (j : Int) by omega)
      have hj' : j < (ceilD (l + M * (n : Int)) s).toNat := hj
      omega
/-- the places from start on by their remainder -/
def HitS (start step most M : Int) (k : Nat) : Prop := (start + step * (k : Int)) % M ≤ most
theorem hits_iff {start step most M : Int} (hM : 0 < M) (h0 : 0 ≤ most) (hl : 0 < (-start) % M) (h1 : (-start) % M + most < M) (k : Nat) : HitS start step most M k ↔ Hit (step % M) ((-start) % M) ((-start) % M + most) M k := by
  have e : ((step % M) * (k : Int)) % M = (step * (k : Int)) % M := by
    rw [Int.mul_emod, Int.emod_emod, ← Int.mul_emod]
  unfold HitS Hit
  rw [e]
  generalize step * (k : Int) = x
  have l1 := Int.emod_lt_of_pos (-start) hM
  generalize el : (-start) % M = l at hl h1 l1
  have es : ∃ t, start = -l + M * t := by
    have := Int.emod_add_mul_ediv (-start) M
    rw [el] at this
    exact ⟨-((-start) / M), by rw [Int.mul_neg]; omega⟩
  obtain ⟨t, rfl⟩ := es
  have e2 : (-l + M * t + x) % M = (x - l) % M := by
    rw [show -l + M * t + x = x - l + M * t by omega, Int.add_mul_emod_self_left]
  rw [e2]
  have ex := Int.emod_add_mul_ediv x M
  have x0 := Int.emod_nonneg x (by omega : M ≠ 0)
  have x1 := Int.emod_lt_of_pos x hM
  generalize x % M = r at ex x0 x1
  generalize x / M = qq at ex
  by_cases c : l ≤ r
  · have d := (divmod_eq' hM (q := qq) (r := r - l) (x := x - l) (by omega) (by omega) (by omega)).2
    rw [d]
    omega
  · have d := (divmod_eq' hM (q := qq - 1) (r := r - l + M) (x := x - l) (by rw [Int.mul_sub, Int.mul_one]; omega) (by omega) (by omega)).2
    rw [d]
    omega
theorem hits_zero {start step most M : Int} (hM : 0 < M) (h0 : 0 ≤ most) (h : (-start) % M = 0 ∨ M ≤ (-start) % M + most) : Least (HitS start step most M) (some 0) := by
  refine ⟨?_, fun j hj => absurd hj (Nat.not_lt_zero _)⟩
  unfold HitS
  rw [show start + step * ((0 : Nat) : Int) = start by omega]
  have e := Int.emod_add_mul_ediv (-start) M
  have l0 := Int.emod_nonneg (-start) (by omega : M ≠ 0)
  have l1 := Int.emod_lt_of_pos (-start) hM
  generalize (-start) / M = t at e
  generalize (-start) % M = l at e l0 l1 h
  by_cases c : l = 0
  · have d := (divmod_eq' hM (q := -t) (r := 0) (x := start) (by rw [Int.mul_neg]; omega) (by omega) (by omega)).2
    rw [d]
    exact h0
  · have d := (divmod_eq' hM (q := -t - 1) (r := M - l) (x := start) (by rw [Int.mul_sub, Int.mul_neg, Int.mul_one]; omega) (by omega) (by omega)).2
    rw [d]
    omega
end HT
namespace HT
open PySem L2
def oN : Option Nat → V
  | none => .non
  | some k => .int (k : Int)
def spFB (n : Nat) : Sp := fun vs H Q _ => ∃ s l g M : Int, vs = [.int s, .int l, .int g, .int M] ∧ 0 ≤ s ∧ s < M ∧ 0 < l ∧ l ≤ g ∧ g < M ∧ M < 2 ^ n ∧ ∀ r, Least (Hit s l g M) r → Q (oN r) H
theorem hit_lt {s l g M : Int} (hM : 0 < M) {k : Nat} (h : Least (Hit s l g M) (some k)) : (k : Int) < M := by
  by_cases e : (k : Int) < M
  · exact e
  · exfalso
    obtain ⟨⟨a, b⟩, c⟩ := h
    refine c (k - M.toNat) (by omega) ?_
    have e2 : s * ((k - M.toNat : Nat) : Int) = s * (k : Int) - M * s := by
      rw [show ((k - M.toNat : Nat) : Int) = (k : Int) - M by omega, Int.mul_sub, Int.mul_comm M s]
    unfold Hit
    rw [e2, Int.sub_mul_emod_self_left]
    exact ⟨a, b⟩
section
variable {P : Program} {w : World} {K : PySem.W.Frag} {mg : Str → Option Value} {base : Heap} {fC : Addr} {dC : FuncData}
theorem ok_fb0 {f : Addr} {fd : FuncData} (F : Fun K "_first_between" "_first_between" s_first_between f fd) : FnOk P w K mg base CX0 1 f fd ["step", "least", "greatest", "modulus"] (spFB 0) := by
  refine F.ok sc_first_between (fun vs H Q E h => ?_) (fun cdv A outer s0 H vs Q E hr h => ?_)
  · obtain ⟨s, l, g, M, rfl, _⟩ := h
    rfl
  · exfalso
    obtain ⟨s, l, g, M, rfl, s0, s1, l0, lg, g1, M1, q⟩ := h
    rw [Int.pow_zero] at M1
    omega
theorem ok_fbS {f : Addr} {fd : FuncData} {n : Nat} (F : Fun K "_first_between" "_first_between" s_first_between f fd) (hn : n ≤ 200) (Se : Cal P w K mg base "_first_between" (n + 1) ["step", "least", "greatest", "modulus"] (spFB n) f fd) : FnOk P w K mg base CX0 (n + 2) f fd ["step", "least", "greatest", "modulus"] (spFB (n + 1)) := by
  refine F.ok sc_first_between (fun vs H Q E h => ?_) (fun cdv A outer s0 H vs Q E hr h => ?_)
  · obtain ⟨s, l, g, M, rfl, _⟩ := h
    rfl
  · obtain ⟨s, l, g, M, rfl, s0, s1, l0, lg, g1, M1, q⟩ := h
    have nd := sc_first_between.nd
    refine ⟨_, (pss_cons (ps_if (pt_cmpR op_eq (pv 0) pe_int (nomark _)) (pss_one (ps_ret pe_non)) pss_nil)
      (pss_cons (ps_if (pt_cmpR op_gt (pe_op op_mul pe_int (pv 0)) (pv 3) (nomark _)) (pss_one (ps_par3 (i := 0) (j := 1) (l := 2) (by rfl) nd rfl rfl rfl (by decide) (by decide) (by decide) rfl rfl rfl (pa_cons (pe_op op_sub (pv 3) (pv 0)) (pa_cons (pe_op op_sub (pv 3) (pv 2)) (pa_cons (pe_op op_sub (pv 3) (pv 1)) pa_nil))) (by rfl))) pss_nil)
      (pss_cons (ps_set (i := 4) nd rfl (Or.inl rfl) (pe_un un_neg (pe_op op_fdivW (pe_un un_neg (pv 1)) (pv 0))))
      (pss_cons (ps_if (pt_cmpR op_le (pe_op op_mulW (pv 0) (pv 4)) (pv 2) (nomark _)) (pss_one (ps_ret (pv 4))) pss_nil)
      (pss_cons (ps_set (i := 5) nd rfl (Or.inl rfl) (pcl Se hr (Nat.le_refl _) (by rfl) (pa_cons (pe_op op_mod (pe_un un_neg (pv 3)) (pv 0)) (pa_cons (pe_op op_mod (pv 1) (pv 0)) (pa_cons (pe_op op_mod (pv 2) (pv 0)) (pa_cons (pv 0) pa_nil))))))
      (pss_cons (ps_if (pt_cmpR op_isN (pv 5) pe_non (nomark _)) (pss_one (ps_ret pe_non)) pss_nil)
      (pss_one (ps_ret (pe_un un_neg (pe_op op_fdivW (pe_un un_neg (pe_op op_add (pv 1) (pe_op op_mulW (pv 3) (pv 5)))) (pv 0))))))))))), ?_⟩
    have pw : (2 : Int) ^ (n + 1) = 2 * 2 ^ n := by rw [Int.pow_succ]; omega
    have bigN : (2 : Nat) ^ (n + 1) ≤ 2 ^ 201 := Nat.pow_le_pow_right (by decide) (by omega)
    have big : (2 : Int) ^ (n + 1) ≤ 2 ^ 201 := by exact_mod_cast bigN
    have hM : 0 < M := by omega
    walk_at "rd"
    refine ⟨rfl, ?_⟩
    walk_at "rd"
    refine ite2 (fun z => ?_) (fun z => ?_)
    · have e := int_t z
      subst e
      walk_at "rd"
      exact q none fun k hk => hit_zero l0 k hk
    have sp : 0 < s := by have := int_f z; omega
    walk_at "rd"
    refine ⟨.inl ⟨by decide, by decide⟩, ?_⟩
    walk_at "rd"
    refine ite2 (fun z => ?a) (fun z => ?b)
    case' a =>
      have fl : M < 2 * s := by have := of_decide_eq_true z; omega
      walk_at "rd"
      refine ⟨_, _, _, rfl, ?_⟩
      dsimp only
      have q2 : ∀ r, Least (Hit (M - s) (M - g) (M - l) M) r → Q (oN r) H := fun r L => q r (least_congr (fun k => hit_flip hM l0 g1 k) L)
      have t1 : 0 < M - s := by omega
      have t2 : 2 * (M - s) ≤ M := by omega
      have t3 : 0 < M - g := by omega
      have t4 : M - g ≤ M - l := by omega
      have t5 : M - l < M := by omega
      generalize M - s = s' at q2 t1 t2 ⊢
      generalize M - g = l' at q2 t3 t4 ⊢
      generalize M - l = g' at q2 t4 t5 ⊢
    case' b =>
      have q2 := q
      have t1 := sp
      have t2 : 2 * s ≤ M := by
        have : ¬ M < 2 * s := fun y => z (decide_eq_true (by omega))
        omega
      have t3 := l0
      have t4 := lg
      have t5 := g1
      generalize s = s' at q2 t1 t2 ⊢
      generalize l = l' at q2 t3 t4 ⊢
      generalize g = g' at q2 t4 t5 ⊢
    all_goals
      walk_at "rd"
      refine ⟨fdiv_ok _ t1 (lg_big (by omega) (by omega)), ?_⟩
      walk_at "rd"
      have cp := ceil_pos t1 t3
      have cl : ceilD l' s' ≤ l' := ceil_le t1 (by
        have : 1 * l' ≤ s' * l' := Int.mul_le_mul_of_nonneg_right (by omega) (by omega)
        omega)
      have ec : -((-l') / s') = ceilD l' s' := rfl
      rw [ec]
      refine ⟨mulW (by omega) (by omega), ?_⟩
      walk_at "rd"
      refine ite2 (fun z => ?_) (fun z => ?_)
      · walk_at "rd"
        have y : Q (.int (((ceilD l' s').toNat : Nat) : Int)) H := q2 _ (hit_direct t1 t3 t5 (of_decide_eq_true z))
        have e2 : (((ceilD l' s').toNat : Nat) : Int) = ceilD l' s' := Int.toNat_of_nonneg (by omega)
        rw [e2] at y
        exact y
      · have hh : g' < s' * ceilD l' s' := by
          have : ¬ s' * ceilD l' s' ≤ g' := fun y => z (decide_eq_true y)
          omega
        obtain ⟨o1, o2, o3⟩ := one_cell t1 hh t4
        walk_at "rd"
        refine ⟨t1, ?_⟩
        walk_at "rd"
        refine ⟨t1, ?_⟩
        walk_at "rd"
        refine ⟨t1, ?_⟩
        walk_at "rd"
        refine ⟨(-M) % s', l' % s', g' % s', s', rfl, Int.emod_nonneg _ (by omega), Int.emod_lt_of_pos _ t1, o2, o3, Int.emod_lt_of_pos _ t1, by omega, fun r L => ?_⟩
        have L2 := hit_rec t1 hM t3 t4 t5 hh L
        walk_at "rd"
        cases r with
        | none =>
          refine ⟨rfl, ?_⟩
          walk_at "rd"
          exact q2 none L2
        | some n =>
          have nl := hit_lt t1 L
          refine ⟨rfl, ?_⟩
          walk_at "rd"
          refine ⟨mulW (by omega) (by omega), ?_⟩
          walk_at "rd"
          refine ⟨fdiv_ok _ t1 (lg_big (by omega) (by omega)), ?_⟩
          walk_at "rd"
          have y : Q (.int (((ceilD (l' + M * (n : Int)) s').toNat : Nat) : Int)) H := q2 _ L2
          have mn : 0 ≤ M * (n : Int) := Int.mul_nonneg (by omega) (by omega)
          have c2 := ceil_pos t1 (show 0 < l' + M * (n : Int) by omega)
          have e2 : (((ceilD (l' + M * (n : Int)) s').toNat : Nat) : Int) = ceilD (l' + M * (n : Int)) s' := Int.toNat_of_nonneg (by omega)
          rw [e2] at y
          exact y
theorem ok_fb {f : Addr} {fd : FuncData} (F : Fun K "_first_between" "_first_between" s_first_between f fd) (m : mg "_first_between" = some (.ref f)) (k : PySem.W.keepIn K (.ref f) = true) (b : Binds K fd ["step", "least", "greatest", "modulus"] []) : ∀ n, n ≤ 200 → FnOk P w K mg base CX0 (n + 1) f fd ["step", "least", "greatest", "modulus"] (spFB n)
  | 0, _ => ok_fb0 F
  | n + 1, h => ok_fbS F (by omega) ⟨ok_fb F m k b n (by omega), m, k, b⟩
end
end HT
namespace HT
open PySem L2
theorem due_more {o s : Int} {m : Str} {v : Int} (hm : Mode m) (hs : 1 ≤ s) (n : Nat) : dueM o s m (v + s * 2 * (n : Int)) = dueM o s m v + s * 2 * (n : Int) := by
  induction n with
  | zero => rw [show v + s * 2 * ((0 : Nat) : Int) = v by simp]; simp
  | succ n ih =>
    have e : s * 2 * ((n + 1 : Nat) : Int) = s * 2 * (n : Int) + s * 2 := by
      rw [show ((n + 1 : Nat) : Int) = (n : Int) + 1 by omega, Int.mul_add, Int.mul_one]
    rw [e, show v + (s * 2 * (n : Int) + s * 2) = v + s * 2 * (n : Int) + s * 2 by omega, due_two hm hs, ih]
    omega
theorem due_per {o s : Int} {m : Str} {v : Int} (hm : Mode m) (hs : 1 ≤ s) (t : Int) : dueM o s m (v + s * 2 * t) = dueM o s m v + s * 2 * t := by
  rcases Int.le_total 0 t with h | h
  · obtain ⟨n, rfl⟩ := Int.eq_ofNat_of_zero_le h
    exact due_more hm hs n
  · obtain ⟨n, hn⟩ := Int.eq_ofNat_of_zero_le (show 0 ≤ -t by omega)
    have := due_more (o := o) (v := v + s * 2 * t) hm hs n
    have e : s * 2 * (n : Int) = -(s * 2 * t) := by rw [← hn, Int.mul_neg]
    rw [e, show v + s * 2 * t + -(s * 2 * t) = v by omega] at this
    omega
/-- the order of the sides (o, s, m) and (p, u, q) matters for x -/
def diffX (o s : Int) (m : Str) (p u : Int) (q : Str) (x : Int) : Prop := dueM p u q (dueM o s m x) ≠ dueM o s m (dueM p u q x)
theorem due_com {o s : Int} {m : Str} {v : Int} (hm : Mode m) (hs : 1 ≤ s) (t : Int) : dueM o s m (v + perM s m * t) = dueM o s m v + perM s m * t := by
  unfold perM
  by_cases e : m = "half_even"
  · rw [if_pos e, Int.mul_comm 2 s]
    exact due_per hm hs t
  · rw [if_neg e]
    obtain ⟨eq, r0, r1, wh⟩ := fig_of (o := o) (m := m) (v := v) hs
    generalize (v - o) / s = q at eq wh
    generalize (v - o) % s = r at eq r0 r1 wh
    have g : goesUp m s (q + t) r = goesUp m s q r := by
      unfold goesUp
      rw [if_neg e, if_neg e]
    have F2 : Fig o s m (v + s * t) (q + t) r (figM o s m v + t) := by
      refine ⟨?_, r0, r1, ?_⟩
      · rw [Int.mul_add]; omega
      · rw [g]
        rcases wh with ⟨a, b⟩ | ⟨a, b⟩
        · exact .inl ⟨a, by omega⟩
        · exact .inr ⟨a, by omega⟩
    have z := fig_uniq hs F2
    unfold dueM
    rw [z, Int.mul_add]
    omega
theorem due_dvd {o s : Int} {m : Str} {v L : Int} (hm : Mode m) (hs : 1 ≤ s) (h : perM s m ∣ L) : dueM o s m (v + L) = dueM o s m v + L := by
  obtain ⟨t, rfl⟩ := h
  exact due_com hm hs t
theorem due_monoN {o s : Int} {m : Str} {v : Int} (hm : Mode m) (hs : 1 ≤ s) : ∀ n : Nat, dueM o s m v ≤ dueM o s m (v + (n : Int))
  | 0 => by rw [show v + ((0 : Nat) : Int) = v by omega]; exact Int.le_refl _
  | n + 1 => by
    have a := due_monoN hm hs n (o := o) (v := v)
    have b := due_mono hm hs (o := o) (v := v + (n : Int))
    rw [show v + ((n + 1 : Nat) : Int) = v + (n : Int) + 1 by omega]
    omega
theorem due_le {o s : Int} {m : Str} {v y : Int} (hm : Mode m) (hs : 1 ≤ s) (h : v ≤ y) : dueM o s m v ≤ dueM o s m y := by
  have := due_monoN hm hs (y - v).toNat (o := o) (v := v)
  rw [show v + (((y - v).toNat : Nat) : Int) = y by omega] at this
  exact this
/-- the values of a block -/
def InB (st mo pe v : Int) : Prop := (v - st) % pe ≤ mo
instance (st mo pe v : Int) : Decidable (InB st mo pe v) := by unfold InB; exact inferInstance
def fibM (st mo pe v : Int) : Int := if (v - st) % pe ≤ mo then v else v + pe - (v - st) % pe
theorem inb_add {st mo pe v t : Int} : InB st mo pe (v + pe * t) ↔ InB st mo pe v := by
  unfold InB
  rw [show v + pe * t - st = v - st + pe * t by omega, Int.add_mul_emod_self_left]
theorem inb_of {st mo pe v r t : Int} (h : v = st + pe * t + r) (r0 : 0 ≤ r) (r1 : r < pe) (rm : r ≤ mo) : InB st mo pe v := by
  unfold InB
  rw [show v - st = r + pe * t by omega, Int.add_mul_emod_self_left, Int.emod_eq_of_lt r0 r1]
  exact rm
theorem inb_at {st mo pe v : Int} (hp : 0 < pe) (h : InB st mo pe v) : ∃ t r : Int, v = st + pe * t + r ∧ 0 ≤ r ∧ r ≤ mo ∧ r < pe := by
  refine ⟨(v - st) / pe, (v - st) % pe, ?_, Int.emod_nonneg _ (by omega), h, Int.emod_lt_of_pos _ hp⟩
  have := Int.emod_add_mul_ediv (v - st) pe
  omega
theorem mul_pos_le {pe a b : Int} (hp : 0 < pe) (h : a < b) : pe * a + pe ≤ pe * b := by
  have : pe * (a + 1) ≤ pe * b := Int.mul_le_mul_of_nonneg_left (by omega) (by omega)
  rw [Int.mul_add, Int.mul_one] at this
  exact this
theorem fib_spec {st mo pe v : Int} (hp : 0 < pe) (hm : 0 ≤ mo) : v ≤ fibM st mo pe v ∧ fibM st mo pe v < v + pe ∧ InB st mo pe (fibM st mo pe v) ∧ ∀ y, v ≤ y → y < fibM st mo pe v → ¬ InB st mo pe y := by
  have r0 := Int.emod_nonneg (v - st) (show pe ≠ 0 by omega)
  have r1 := Int.emod_lt_of_pos (v - st) hp
  have ee := Int.emod_add_mul_ediv (v - st) pe
  unfold fibM
  by_cases h : (v - st) % pe ≤ mo
  · rw [if_pos h]
    exact ⟨by omega, by omega, h, fun y a b => by omega⟩
  · rw [if_neg h]
    refine ⟨by omega, by omega, ?_, fun y a b c => ?_⟩
    · refine inb_of (t := (v - st) / pe + 1) (r := 0) ?_ (by omega) hp hm
      rw [Int.mul_add]
      omega
    · obtain ⟨t, r, e1, e2, e3, e4⟩ := inb_at hp c
      rcases Int.lt_trichotomy t ((v - st) / pe) with z | z | z
      · have := mul_pos_le hp z
        omega
      · rw [z] at e1
        omega
      · have := mul_pos_le hp z
        omega
/-- the least value from v on with a property -/
def LeastI (Pr : Int → Prop) (v : Int) : Option Int → Prop
  | some x => v ≤ x ∧ Pr x ∧ ∀ y, v ≤ y → y < x → ¬ Pr y
  | none => ∀ y, v ≤ y → ¬ Pr y
theorem leastI_congr {A B : Int → Prop} {v : Int} {r : Option Int} (h : ∀ x, A x ↔ B x) (e : LeastI A v r) : LeastI B v r := by
  cases r with
  | none => exact fun y z w => e y z ((h y).mpr w)
  | some x => exact ⟨e.1, (h x).mp e.2.1, fun y y0 y1 z => e.2.2 y y0 y1 ((h y).mpr z)⟩
/-- a place of one block holds a value of the other -/
theorem place_iff {b mo os om op : Int} (hp : 0 < op) (hm : 0 ≤ mo) (ho : 0 ≤ om) : (∃ y, b ≤ y ∧ y ≤ b + mo ∧ InB os om op y) ↔ (b + mo - os) % op ≤ mo + om := by
  have r0 := Int.emod_nonneg (b + mo - os) (show op ≠ 0 by omega)
  have r1 := Int.emod_lt_of_pos (b + mo - os) hp
  have ee := Int.emod_add_mul_ediv (b + mo - os) op
  constructor
  · rintro ⟨y, h1, h2, h3⟩
    obtain ⟨t, r, e1, e2, e3, e4⟩ := inb_at hp h3
    have e5 : b + mo - os = (r + (b + mo - y)) + op * t := by omega
    rw [e5, Int.add_mul_emod_self_left]
    have := Int.emod_add_mul_ediv (r + (b + mo - y)) op
    have q0 : 0 ≤ (r + (b + mo - y)) / op := Int.ediv_nonneg (by omega) (by omega)
    have q1 : 0 ≤ op * ((r + (b + mo - y)) / op) := Int.mul_nonneg (by omega) q0
    omega
  · intro h
    by_cases e : (b + mo - os) % op ≤ om
    · exact ⟨b + mo, by omega, by omega, e⟩
    · refine ⟨b + mo - ((b + mo - os) % op - om), by omega, by omega, ?_⟩
      refine inb_of (t := (b + mo - os) / op) (r := om) ?_ ho (by omega) (by omega)
      omega
/-- first_in_both, as the program finds it -/
theorem both_near {st mo pe os om op v : Int} (hp : 0 < pe) (hm : 0 ≤ mo) (hq : 0 < op) (ho : 0 ≤ om) (hmp : mo < pe)
    (h : fibM os om op (fibM st mo pe v) ≤ fibM st mo pe v - (fibM st mo pe v - st) % pe + mo) : LeastI (fun x => InB st mo pe x ∧ InB os om op x) v (some (fibM os om op (fibM st mo pe v))) := by
  obtain ⟨a1, a2, a3, a4⟩ := fib_spec (v := v) (st := st) hp hm
  generalize fibM st mo pe v = x at *
  obtain ⟨b1, b2, b3, b4⟩ := fib_spec (v := x) (st := os) hq ho
  generalize fibM os om op x = z at *
  have r0 := Int.emod_nonneg (x - st) (show pe ≠ 0 by omega)
  have ee := Int.emod_add_mul_ediv (x - st) pe
  refine ⟨by omega, ⟨?_, b3⟩, fun y y0 y1 c => ?_⟩
  · exact inb_of (t := (x - st) / pe) (r := z - (x - (x - st) % pe)) (by omega) (by omega) (by omega) (by omega)
  · by_cases g : y < x
    · exact a4 y y0 g c.1
    · exact b4 y (by omega) y1 c.2
theorem both_far {st mo pe os om op v : Int} (hp : 0 < pe) (hm : 0 ≤ mo) (hq : 0 < op) (ho : 0 ≤ om) (hmp : mo < pe) {r : Option Nat}
    (h : fibM st mo pe v - (fibM st mo pe v - st) % pe + mo < fibM os om op (fibM st mo pe v)) (L : Least (HitS (fibM st mo pe v - (fibM st mo pe v - st) % pe + pe + mo - os) pe (mo + om) op) r) :
    LeastI (fun x => InB st mo pe x ∧ InB os om op x) v (r.map fun k : Nat => fibM os om op (fibM st mo pe v - (fibM st mo pe v - st) % pe + pe + pe * (k : Int))) := by
  obtain ⟨a1, a2, a3, a4⟩ := fib_spec (v := v) (st := st) hp hm
  generalize fibM st mo pe v = x at *
  obtain ⟨b1, b2, b3, b4⟩ := fib_spec (v := x) (st := os) hq ho
  generalize fibM os om op x = z at *
  have r0 := Int.emod_nonneg (x - st) (show pe ≠ 0 by omega)
  have r1 := Int.emod_lt_of_pos (x - st) hp
  have ee := Int.emod_add_mul_ediv (x - st) pe
  have bx : (x - st) % pe ≤ mo := a3
  -- the places behind
  have key : ∀ y, v ≤ y → InB st mo pe y → InB os om op y → ∃ j : Nat, x - (x - st) % pe + pe + pe * (j : Int) ≤ y ∧ y ≤ x - (x - st) % pe + pe + pe * (j : Int) + mo ∧ HitS (x - (x - st) % pe + pe + mo - os) pe (mo + om) op j := by
    intro y y0 c1 c2
    have yx : x ≤ y := by
      by_cases g : y < x
      · exact absurd c1 (a4 y y0 g)
      · omega
    have yz : z ≤ y := by
      by_cases g : y < z
      · exact absurd c2 (b4 y yx g)
      · omega
    obtain ⟨t, r, e1, e2, e3, e4⟩ := inb_at hp c1
    have tj : (x - st) / pe < t := by
      rcases Int.lt_trichotomy t ((x - st) / pe) with q | q | q
      · have := mul_pos_le hp q
        omega
      · rw [q] at e1
        omega
      · exact q
    refine ⟨(t - (x - st) / pe - 1).toNat, ?_⟩
    have en : (((t - (x - st) / pe - 1).toNat : Nat) : Int) = t - (x - st) / pe - 1 := Int.toNat_of_nonneg (by omega)
    rw [en]
    have ep : pe * (t - (x - st) / pe - 1) = pe * t - pe * ((x - st) / pe) - pe := by rw [Int.mul_sub, Int.mul_sub, Int.mul_one]
    have l1 : x - (x - st) % pe + pe + pe * (t - (x - st) / pe - 1) ≤ y := by omega
    have l2 : y ≤ x - (x - st) % pe + pe + pe * (t - (x - st) / pe - 1) + mo := by omega
    refine ⟨l1, l2, ?_⟩
    unfold HitS
    rw [en]
    have := (place_iff hq hm ho).mp ⟨y, l1, l2, c2⟩
    rw [show x - (x - st) % pe + pe + mo - os + pe * (t - (x - st) / pe - 1) = x - (x - st) % pe + pe + pe * (t - (x - st) / pe - 1) + mo - os by omega]
    exact this
  cases r with
  | none =>
    intro y y0 c
    obtain ⟨j, _, _, hj⟩ := key y y0 c.1 c.2
    exact L j hj
  | some k =>
    obtain ⟨L1, L2⟩ := L
    have kk : (x - (x - st) % pe + pe + pe * (k : Int) + mo - os) % op ≤ mo + om := by
      unfold HitS at L1
      rw [show x - (x - st) % pe + pe + pe * (k : Int) + mo - os = x - (x - st) % pe + pe + mo - os + pe * (k : Int) by omega]
      exact L1
    obtain ⟨y, h1, h2, h3⟩ := (place_iff hq hm ho).mpr kk
    have kp : 0 ≤ pe * (k : Int) := Int.mul_nonneg (by omega) (by omega)
    obtain ⟨d1, d2, d3, d4⟩ := fib_spec (v := x - (x - st) % pe + pe + pe * (k : Int)) (st := os) hq ho
    show LeastI _ v (some (fibM os om op (x - (x - st) % pe + pe + pe * (k : Int))))
    generalize hf : fibM os om op (x - (x - st) % pe + pe + pe * (k : Int)) = f at d1 d2 d3 d4
    have fy : f ≤ y := by
      by_cases g : y < f
      · exact absurd h3 (d4 y h1 g)
      · omega
    refine ⟨by omega, ⟨?_, d3⟩, fun w w0 w1 c => ?_⟩
    · refine inb_of (t := (x - st) / pe + 1 + (k : Int)) (r := f - (x - (x - st) % pe + pe + pe * (k : Int))) ?_ (by omega) (by omega) (by omega)
      rw [Int.mul_add, Int.mul_add, Int.mul_one]
      omega
    · obtain ⟨j, j1, j2, j3⟩ := key w w0 c.1 c.2
      have jk : k ≤ j := by
        by_cases g : j < k
        · exact absurd j3 (L2 j g)
        · omega
      have : pe * (k : Int) ≤ pe * (j : Int) := Int.mul_le_mul_of_nonneg_left (by omega) (by omega)
      exact d4 w (by omega) w1 c.2
/-- the figures of a period -/
def figsN (s : Int) (m : Str) : Int := perM s m / s
theorem figs_eq {s : Int} {m : Str} (hs : 1 ≤ s) : figsN s m = if m = "half_even" then 2 else 1 := by
  unfold figsN perM
  by_cases e : m = "half_even"
  · rw [if_pos e, if_pos e, Int.mul_ediv_cancel _ (by omega)]
  · rw [if_neg e, if_neg e, Int.ediv_self (by omega)]
theorem per_figs {s : Int} {m : Str} (hs : 1 ≤ s) : perM s m = s * figsN s m := by
  rw [figs_eq hs]
  unfold perM
  by_cases e : m = "half_even"
  · rw [if_pos e, if_pos e, Int.mul_comm]
  · rw [if_neg e, if_neg e, Int.mul_one]
theorem figs_bd {s : Int} {m : Str} (hs : 1 ≤ s) : 1 ≤ figsN s m ∧ figsN s m ≤ 2 := by
  rw [figs_eq hs]
  split <;> omega
theorem unr_iff {o s : Int} {m : Str} {v : Int} (hm : Mode m) (hs : 1 ≤ s) : dueM o s m v ≤ v ↔ ∃ k, 0 ≤ k ∧ k < figsN s m ∧ InB (o + s * k) (below (mir m) s k) (perM s m) v := by
  have fb := figs_bd (m := m) hs
  have pf := per_figs (m := m) hs
  have pp : s ≤ perM s m := by
    rw [pf]
    have : s * 1 ≤ s * figsN s m := Int.mul_le_mul_of_nonneg_left (by omega) (by omega)
    omega
  constructor
  · intro h
    have e0 := Int.emod_add_mul_ediv (figM o s m v) (figsN s m)
    refine ⟨figM o s m v % figsN s m, Int.emod_nonneg _ (by omega), Int.emod_lt_of_pos _ (by omega), ?_⟩
    generalize hk : figM o s m v % figsN s m = k at *
    generalize hj : figM o s m v / figsN s m = j at *
    have ev : v = (v - perM s m * j) + perM s m * j := by omega
    have dc := due_com (o := o) (v := v - perM s m * j) hm hs j
    rw [← ev] at dc
    have es : s * figM o s m v = s * k + perM s m * j := by
      rw [← e0, Int.mul_add, pf, Int.mul_assoc]
    have ed : dueM o s m v = o + s * k + perM s m * j := by
      unfold dueM
      omega
    have ed2 : dueM o s m (v - perM s m * j) = o + s * k := by omega
    have ef : figM o s m (v - perM s m * j) = k := by
      unfold dueM at ed2
      exact Int.eq_of_mul_eq_mul_left (show s ≠ 0 by omega) (by omega)
    have hi := ((fig_iff hm hs).mp ef).2
    unfold highM at hi
    have bb := below_bd (k := k) (mir_mode hm) hs
    exact inb_of (t := j) (r := v - perM s m * j - (o + s * k)) (by omega) (by omega) (by omega) (by omega)
  · rintro ⟨k, k0, k1, h⟩
    obtain ⟨t, r, e1, e2, e3, e4⟩ := inb_at (by omega) h
    have lh := low_high (o := o) (k := k) hm hs
    have ef : figM o s m (o + s * k + r) = k := (fig_iff hm hs).mpr ⟨by omega, by unfold highM; omega⟩
    have dc := due_com (o := o) (v := o + s * k + r) hm hs t
    rw [show o + s * k + r + perM s m * t = v by omega] at dc
    have ed : dueM o s m (o + s * k + r) = o + s * k := by
      unfold dueM
      rw [ef]
    omega
end HT
namespace HT
open PySem L2
def oV : Option Int → V
  | none => .non
  | some k => .int k
def spFH : Sp := fun vs H Q _ => ∃ st sp mo M : Int, vs = [.int st, .int sp, .int mo, .int M] ∧ 0 < M ∧ M < 2 ^ 102 ∧ 0 ≤ mo ∧ ∀ r, Least (HitS st sp mo M) r → Q (oN r) H
def blkV (st mo pe : Int) : HO := .tup [.int st, .int mo, .int pe]
structure BlkP (st mo pe : Int) : Prop where
  p0 : 0 < pe
  p1 : pe < 2 ^ 102
  m0 : 0 ≤ mo
  m1 : mo < pe
def spFIB : Sp := fun vs H Q _ => ∃ (b : Addr) (st mo pe v : Int), vs = [.ref b, .int v] ∧ H b = some (blkV st mo pe) ∧ BlkP st mo pe ∧ Q (.int (fibM st mo pe v)) H
def spFI2 : Sp := fun vs H Q _ => ∃ (a b : Addr) (st mo pe os om op v : Int), vs = [.ref a, .ref b, .int v] ∧ H a = some (blkV st mo pe) ∧ BlkP st mo pe ∧ H b = some (blkV os om op) ∧ BlkP os om op ∧ ∀ r, LeastI (fun x => InB st mo pe x ∧ InB os om op x) v r → Q (oV r) H
theorem hitS_lt {st sp mo M : Int} (hM : 0 < M) {k : Nat} (h : Least (HitS st sp mo M) (some k)) : (k : Int) < M := by
  by_cases e : (k : Int) < M
  · exact e
  · exfalso
    obtain ⟨a, c⟩ := h
    refine c (k - M.toNat) (by omega) ?_
    have e2 : st + sp * ((k - M.toNat : Nat) : Int) = st + sp * (k : Int) - M * sp := by
      rw [show ((k - M.toNat : Nat) : Int) = (k : Int) - M by omega, Int.mul_sub, Int.mul_comm M sp]
      omega
    unfold HitS
    rw [e2, Int.sub_mul_emod_self_left]
    exact a
section
variable {P : Program} {w : World} {K : PySem.W.Frag} {mg : Str → Option Value} {base : Heap} {fB fH fI : Addr} {dB dH dI : FuncData}
theorem ok_hit {f : Addr} {fd : FuncData} (F : Fun K "first_hit" "first_hit" s_first_hit f fd) (FB : Cal P w K mg base "_first_between" 103 ["step", "least", "greatest", "modulus"] (spFB 102) fB dB) : FnOk P w K mg base CX0 104 f fd ["start", "step", "most", "modulus"] spFH := by
  refine F.ok sc_first_hit (fun vs H Q E h => ?_) (fun cdv A outer s0 H vs Q E hr h => ?_)
  · obtain ⟨st, sp, mo, M, rfl, _⟩ := h
    rfl
  · obtain ⟨st, sp, mo, M, rfl, M0, M1, m0, q⟩ := h
    have nd := sc_first_hit.nd
    refine ⟨_, (pss_cons (ps_set (i := 4) nd rfl (Or.inl rfl) (pe_op op_mod (pe_un un_neg (pv 0)) (pv 3)))
      (pss_cons (ps_set (i := 5) nd rfl (Or.inl rfl) (pe_op op_add (pv 4) (pv 2)))
      (pss_cons (ps_if (PW.pt (pw_or (pt_cmpR op_eq (pv 4) pe_int (nomark _)) (pw_or1 (pt_cmpR op_ge (pv 5) (pv 3) (nomark _))))) (pss_one (ps_ret pe_int)) pss_nil)
      (pss_one (ps_ret (pcl FB hr (by decide) (by rfl) (pa_cons (pe_op op_mod (pv 1) (pv 3)) (pa_cons (pv 4) (pa_cons (pv 5) (pa_cons (pv 3) pa_nil)))))))))), ?_⟩
    have l0 := Int.emod_nonneg (-st) (show M ≠ 0 by omega)
    have l1 := Int.emod_lt_of_pos (-st) M0
    walk_at "rd"
    refine ⟨M0, ?_⟩
    walk_at "rd"
    refine ⟨rfl, ?_⟩
    walk_at "rd"
    refine ite2 (fun z => ?_) (fun z => ?_)
    · have e := int_t z
      walk_at "rd"
      exact q (some 0) (hits_zero M0 m0 (.inl e))
    have e1 := int_f z
    walk_at "rd"
    refine ite2 (fun z => ?_) (fun z => ?_)
    · have e := of_decide_eq_true z
      walk_at "rd"
      exact q (some 0) (hits_zero M0 m0 (.inr e))
    have e2 : (-st) % M + mo < M := by
      have : ¬ M ≤ (-st) % M + mo := fun y => z (decide_eq_true y)
      omega
    walk_at "rd"
    refine ⟨M0, ?_⟩
    walk_at "rd"
    refine ⟨sp % M, (-st) % M, (-st) % M + mo, M, rfl, Int.emod_nonneg _ (by omega), Int.emod_lt_of_pos _ M0, by omega, by omega, e2, M1, fun r L => ?_⟩
    exact q r (least_congr (fun k => (hits_iff M0 m0 (by omega) e2 k).symm) L)
theorem ok_fib {f : Addr} {fd : FuncData} (F : Fun K "first_in_block" "first_in_block" s_first_in_block f fd) : FnOk P w K mg base CX0 1 f fd ["block", "value"] spFIB := by
  refine F.ok sc_first_in_block (fun vs H Q E h => ?_) (fun cdv A outer s0 H vs Q E hr h => ?_)
  · obtain ⟨b, st, mo, pe, v, rfl, _⟩ := h
    rfl
  · obtain ⟨b, st, mo, pe, v, rfl, hb, BP, q⟩ := h
    have nd := sc_first_in_block.nd
    refine ⟨_, (pss_cons (ps_asg (pv 0) (pg_tup (by rfl) (pgs_cons (pg_name (i := 2) nd rfl (Or.inl rfl)) (pgs_cons (pg_name (i := 3) nd rfl (Or.inl rfl)) (pgs_cons (pg_name (i := 4) nd rfl (Or.inl rfl)) pgs_nil)))))
      (pss_cons (ps_set (i := 5) nd rfl (Or.inl rfl) (pe_op op_mod (pe_op op_sub (pv 1) (pv 2)) (pv 4)))
      (pss_cons (ps_if (pt_cmpR op_le (pv 5) (pv 3) (nomark _)) (pss_one (ps_ret (pv 1))) pss_nil)
      (pss_one (ps_ret (pe_op op_sub (pe_op op_add (pv 1) (pv 4)) (pv 5))))))), ?_⟩
    walk_at "rd"
    refine ⟨b, _, rfl, SqT.of hb, rfl, _, _, rfl, _, _, rfl, _, _, rfl, rfl, ?_⟩
    walk_at "rd"
    refine ⟨BP.p0, ?_⟩
    walk_at "rd"
    unfold fibM at q
    refine ite2 (fun z => ?_) (fun z => ?_)
    · rw [if_pos (of_decide_eq_true z)] at q
      walk_at "rd"
      exact q
    · rw [if_neg (fun y => z (decide_eq_true y))] at q
      walk_at "rd"
      exact q
theorem ok_fi2 {f : Addr} {fd : FuncData} (F : Fun K "first_in_both" "first_in_both" s_first_in_both f fd) (Fh : Cal P w K mg base "first_hit" 104 ["start", "step", "most", "modulus"] spFH fH dH) (Fi : Cal P w K mg base "first_in_block" 1 ["block", "value"] spFIB fI dI) : FnOk P w K mg base CX0 105 f fd ["one", "other", "value"] spFI2 := by
  refine F.ok sc_first_in_both (fun vs H Q E h => ?_) (fun cdv A outer s0 H vs Q E hr h => ?_)
  · obtain ⟨a, b, st, mo, pe, os, om, op, v, rfl, _⟩ := h
    rfl
  · obtain ⟨a, b, st, mo, pe, os, om, op, v, rfl, ha, BP, hb, CP, q⟩ := h
    have nd := sc_first_in_both.nd
    refine ⟨_, (pss_cons (ps_asg (pv 0) (pg_tup (by rfl) (pgs_cons (pg_name (i := 3) nd rfl (Or.inl rfl)) (pgs_cons (pg_name (i := 4) nd rfl (Or.inl rfl)) (pgs_cons (pg_name (i := 5) nd rfl (Or.inl rfl)) pgs_nil)))))
      (pss_cons (ps_set (i := 2) nd rfl (Or.inl rfl) (pcl Fi hr (by decide) (by rfl) (pa_cons (pv 0) (pa_cons (pv 2) pa_nil))))
      (pss_cons (ps_set (i := 6) nd rfl (Or.inl rfl) (pe_op op_sub (pv 2) (pe_op op_mod (pe_op op_sub (pv 2) (pv 3)) (pv 5))))
      (pss_cons (ps_set (i := 7) nd rfl (Or.inl rfl) (pcl Fi hr (by decide) (by rfl) (pa_cons (pv 1) (pa_cons (pv 2) pa_nil))))
      (pss_cons (ps_if (pt_cmpR op_le (pv 7) (pe_op op_add (pv 6) (pv 4)) (nomark _)) (pss_one (ps_ret (pv 7))) pss_nil)
      (pss_cons (ps_set (i := 6) nd rfl (Or.inl rfl) (pe_op op_add (pv 6) (pv 5)))
      (pss_cons (ps_asg (pv 1) (pg_tup (by rfl) (pgs_cons (pg_name (i := 8) nd rfl (Or.inl rfl)) (pgs_cons (pg_name (i := 9) nd rfl (Or.inl rfl)) (pgs_cons (pg_name (i := 10) nd rfl (Or.inl rfl)) pgs_nil)))))
      (pss_cons (ps_set (i := 11) nd rfl (Or.inl rfl) (pcl Fh hr (by decide) (by rfl) (pa_cons (pe_op op_sub (pe_op op_add (pv 6) (pv 4)) (pv 8)) (pa_cons (pv 5) (pa_cons (pe_op op_add (pv 4) (pv 9)) (pa_cons (pv 10) pa_nil))))))
      (pss_cons (ps_if (pt_cmpR op_isN (pv 11) pe_non (nomark _)) (pss_one (ps_ret pe_non)) pss_nil)
      (pss_one (ps_ret (pcl Fi hr (by decide) (by rfl) (pa_cons (pv 1) (pa_cons (pe_op op_add (pv 6) (pe_op op_mulW (pv 5) (pv 11))) pa_nil)))))))))))))), ?_⟩
    have p0 := BP.p0
    have p1 := BP.p1
    have o0 := CP.p0
    have o1 := CP.p1
    walk_at "rd"
    refine ⟨a, _, rfl, SqT.of ha, rfl, _, _, rfl, _, _, rfl, _, _, rfl, rfl, ?_⟩
    walk_at "rd"
    refine ⟨a, st, mo, pe, v, rfl, ha, BP, ?_⟩
    walk_at "rd"
    refine ⟨p0, ?_⟩
    walk_at "rd"
    refine ⟨b, os, om, op, fibM st mo pe v, rfl, hb, CP, ?_⟩
    walk_at "rd"
    refine ite2 (fun z => ?_) (fun z => ?_)
    · have e := of_decide_eq_true z
      walk_at "rd"
      exact q (some _) (both_near p0 BP.m0 o0 CP.m0 BP.m1 e)
    have e : fibM st mo pe v - (fibM st mo pe v - st) % pe + mo < fibM os om op (fibM st mo pe v) := by
      have : ¬ fibM os om op (fibM st mo pe v) ≤ fibM st mo pe v - (fibM st mo pe v - st) % pe + mo := fun y => z (decide_eq_true y)
      omega
    walk_at "rd"
    refine ⟨b, _, rfl, SqT.of hb, rfl, _, _, rfl, _, _, rfl, _, _, rfl, rfl, ?_⟩
    walk_at "rd"
    have m0 := BP.m0
    have n0 := CP.m0
    refine ⟨fibM st mo pe v - (fibM st mo pe v - st) % pe + pe + mo - os, pe, mo + om, op, rfl, o0, o1, by omega, fun r L => ?_⟩
    have L2 := both_far (v := v) p0 m0 o0 n0 BP.m1 e L
    walk_at "rd"
    cases r with
    | none =>
      refine ⟨rfl, ?_⟩
      walk_at "rd"
      exact q none L2
    | some k =>
      refine ⟨rfl, ?_⟩
      walk_at "rd"
      have kl := hitS_lt o0 L
      refine ⟨mulW (by omega) (by omega), ?_⟩
      walk_at "rd"
      exact ⟨b, os, om, op, _, rfl, hb, CP, q _ L2⟩
end
end HT
namespace HT
open PySem L2
/-- a def with defaults that may be called by its name -/
structure CalD (P : Program) (w : World) (K : PySem.W.Frag) (mg : Str → Option Value) (base : Heap) (x : Str) (k : Nat) (ps : List Str) (dvs : List V) (sp : Sp) (f : Addr) (fd : FuncData) : Prop where
  ok : FnOk P w K mg base CX0 k f fd ps sp
  gl : mg x = some (.ref f)
  kp : PySem.W.keepIn K (.ref f) = true
  bd : ∃ ds, Vals dvs ds ∧ Binds K fd ps ds
theorem pcd {X : Cx} {x : Str} {k j : Nat} {ps : List Str} {dvs : List V} {sp : Sp} {f : Addr} {fd : FuncData} {e : Expr} {es : List Expr} {t : TA} {p pos : Pos} (C : CalD X.prog X.w X.K X.mg X.base x k ps dvs sp f fd) (hr : Room j X.A) (hj : k ≤ j) (hg : Gl X x) (ha : PA X (e :: es) t)
    (hdb : (x == ("__debug__" : Str)) = false := by decide) (he : starEach (e :: es) X.env = (false, eval e X.env) :: starEach es X.env := by rfl) (hpl : (backTo pos (starEach es X.env)).any (·.1) = false := by rfl) : PE X (.Call (.Name x p) (e :: es) [] pos) (tCall sp dvs E0 t) := by
  obtain ⟨ds, hv, hb⟩ := C.bd
  exact pe_call C.ok (hr.mono hj) hg C.gl C.kp hb hv pass0 ha hdb he hpl
structure MaxT (mg : Str → Option Value) : Prop where
  max : mg "max" = none
  min : mg "min" = none
def BlksAt (H' : Hp) (L : Addr) (o s : Int) (m : Str) : Prop := ∃ ps : List Addr, H' L = some (.lst (ps.map V.ref)) ∧ ps.length = (figsN s m).toNat ∧ ∀ (i : Nat) (p : Addr), ps[i]? = some p → H' p = some (blkV (o + s * (i : Int)) (below (mir m) s (i : Int)) (perM s m))
def spUnr : Sp := fun vs H Q _ => ∃ (p : Addr) (o s : Int) (m : Str), vs = [.ref p, .int 1] ∧ H p = some (sideV o s m) ∧ SideP o s m ∧ ∀ (L : Addr) (H' : Hp), H L = none → Same H H' → BlksAt H' L o s m → Q (.ref L) H'
def spRs : Sp := fun vs H Q _ => ∃ (p : Addr) (o s : Int) (m : Str), vs = [.ref p] ∧ H p = some (sideV o s m) ∧ SideP o s m ∧ ∀ H', Same H H' → Q (.bl (!decide (firstM s m = "down"))) H'
theorem blkP_of {o s k : Int} {m : Str} (S : SideP o s m) : BlkP (o + s * k) (below (mir m) s k) (perM s m) := by
  have b := below_bd (k := k) (mir_mode S.md) S.s0
  have p := perM_bd S
  have pf := per_figs (m := m) S.s0
  have fb := figs_bd (m := m) S.s0
  have s0 := S.s0
  have : s * 1 ≤ s * figsN s m := Int.mul_le_mul_of_nonneg_left (by omega) (by omega)
  exact ⟨by omega, by omega, b.1, by omega⟩
section
variable {P : Program} {w : World} {K : PySem.W.Frag} {mg : Str → Option Value} {base : Heap} {fB fH fI : Addr} {dB dH dI : FuncData}
theorem ok_unr {f : Addr} {fd : FuncData} (F : FunD K "unraised" "unraised" (defArgs s_unraised) (defBody s_unraised) (defScope s_unraised) [.int 1] [] f fd) (B : Blt mg) (MT : MaxT mg) (Pe : Cal P w K mg base "period_of" 1 ["side"] spPerOf fB dB) (Sp' : Cal P w K mg base "span" 4 ["side", "figure"] spSpan fH dH) : FnOk P w K mg base CX0 5 f fd ["side", "least"] spUnr := by
  refine F.ok sc_unraised (fun vs H Q E h => ?_) (fun cdv A outer s0 H vs Q E hr h => ?_)
  · obtain ⟨p, o, s, m, rfl, _⟩ := h
    rfl
  · obtain ⟨p, o, s, m, rfl, hp, S, q⟩ := h
    have nd := sc_unraised.nd
    refine ⟨_, (pss_cons (ps_asg (pv 0) (pg_tup (by rfl) (pgs_cons (pg_name (i := 2) nd rfl (Or.inl rfl)) (pgs_cons (pg_name (i := 3) nd rfl (Or.inl rfl)) (pgs_cons (pg_name (i := 4) nd rfl (Or.inl rfl)) pgs_nil)))))
      (pss_cons (ps_set (i := 5) nd rfl (Or.inl rfl) (pcl Pe hr (by decide) (by rfl) (pa_cons (pv 0) pa_nil)))
      (pss_cons (ps_set (i := 6) nd rfl (Or.inl rfl) (pe_lst pa_nil))
      (pss_cons (ps_for (passes_of rfl) rfl (pi_range1 (by rfl) B.range (pa_cons (pe_op op_fdivW (pv 5) (pv 3)) pa_nil)) (pg_name (i := 7) nd rfl (Or.inl rfl)) (pss_cons (ps_asg (pcl Sp' hr (by decide) (by rfl) (pa_cons (pv 0) (pa_cons (pv 7) pa_nil))) (pg_tup (by rfl) (pgs_cons (pg_name (i := 8) nd rfl (Or.inl rfl)) (pgs_cons (pg_name (i := 9) nd rfl (Or.inl rfl)) pgs_nil))))
      (pss_cons (ps_set (i := 10) nd rfl (Or.inl rfl) (pe_callB (call_max2 rfl) (by rfl) MT.max (by decide +kernel) (pa_cons (pv 8) (pa_cons (pe_op op_add (pe_op op_sub (pe_op op_add (pv 2) (pe_op op_mulW (pv 3) (pv 7))) (pv 1)) pe_int) pa_nil))))
      (pss_one (ps_expr (pe_bm PySem.F.plainAttrs_list PySem.F.slot_list_append PySem.F.type_list_append mt_append (pv 6) (pa_cons (pe_tup (pa_cons (pv 10) (pa_cons (pe_op op_sub (pv 9) (pv 10)) (pa_cons (pv 5) pa_nil)))) pa_nil)))))))
      (pss_one (ps_ret (pv 6))))))), ?_⟩
    have s1 := S.s0
    have s2 := S.s1
    have o0 := S.o0
    have o1 := S.o1
    have fb := figs_bd (m := m) S.s0
    walk_at "rd"
    refine ⟨p, _, rfl, SqT.of hp, rfl, _, _, rfl, _, _, rfl, _, _, rfl, rfl, ?_⟩
    walk_at "rd"
    refine ⟨p, o, s, m, rfl, hp, S, ?_⟩
    walk_at "rd"
    refine ⟨(by show 0 ≤ sizeLine; decide), fun L nL => ?_⟩
    walk_at "rd"
    refine ⟨fdiv_ok _ (by omega) (lg_big (by omega) (by omega)), ?_⟩
    walk_at "rd"
    have ef : perM s m / s = figsN s m := rfl
    refine ⟨by omega, by omega, ?_⟩
    refine for_range (n := (perM s m / s).toNat) (fun i st H' => ∃ (x7 x8 x9 x10 : Option V) (ps : List Addr), st = [some (.ref p), some (.int 1), some (.int o), some (.int s), some (.str m), some (.int (perM s m)), some (.ref L), x7, x8, x9, x10] ∧ Same H H' ∧ H' L = some (.lst (ps.map V.ref)) ∧ ps.length = i ∧ (∀ (j : Nat) (b : Addr), ps[j]? = some b → H' b = some (blkV (o + s * (j : Int)) (below (mir m) s (j : Int)) (perM s m)))) ⟨none, none, none, none, [], rfl, fun b u z => (upd_ne (ne_of_none z nL)).trans z, upd_same, rfl, fun j b z => nomatch z⟩ ?_ ?_
    · rintro i st H' hi ⟨x7, x8, x9, x10, ps, rfl, sm, hL, lp, at_⟩
      have hi2 : i < 2 := by omega
      have hp' := sm _ _ hp
      walk_at "rd"
      refine ⟨p, o, s, m, 0 + (i : Int), rfl, hp', S, (by unfold BdK; omega), fun d H2 s2' nd2 hd => ?_⟩
      refine ⟨d, _, rfl, SqT.of hd, rfl, _, _, rfl, _, _, rfl, rfl, ?_⟩
      walk_at "rd"
      refine ⟨mulW (by omega) (by omega), ?_⟩
      walk_at "rd"
      refine ⟨_, _, rfl, ?_⟩
      walk_at "rd"
      have hL2 := s2' _ _ hL
      refine ⟨.inl ⟨rfl, _, SqL.of hL2⟩, ?_⟩
      walk_at "rd"
      refine ⟨(by show 3 ≤ sizeLine; decide), fun b nb => ?_⟩
      have nbL : b ≠ L := ne_of_none hL2 nb |>.symm
      have lh := low_high (o := o) (k := (i : Int)) S.md S.s0
      have e0 : (0 : Int) + (i : Int) = (i : Int) := by omega
      have est : (if o + s * (0 + (i : Int)) - 1 + 1 > lowM o s m (0 + (i : Int)) then o + s * (0 + (i : Int)) - 1 + 1 else lowM o s m (0 + (i : Int))) = o + s * (i : Int) := by
        rw [e0]
        split <;> omega
      refine ⟨L, _, _, rfl, rfl, (upd_ne nbL.symm).trans hL2, (by rw [List.length_map, lp]; exact Nat.lt_of_lt_of_le (by omega : i < 8) (by decide)), ?_⟩
      refine ⟨_, _, _, _, ps ++ [b], rfl, ?_, ?_, by rw [List.length_append, lp]; rfl, ?_⟩
      · intro c u z
        have z3 := s2' _ _ (sm _ _ z)
        exact (upd_ne (ne_of_none z nL)).trans ((upd_ne (ne_of_none z3 nb)).trans z3)
      · rw [List.map_append]; exact upd_same
      · intro j c hc
        rcases Nat.lt_or_ge j ps.length with y | y
        · rw [List.getElem?_append_left y] at hc
          have g := s2' _ _ (at_ j c hc)
          exact (upd_ne (ne_of g hL2 (by intro y; cases y))).trans ((upd_ne (ne_of_none g nb)).trans g)
        · rw [List.getElem?_append_right y] at hc
          have ej : j - ps.length = 0 := by
            have := (List.getElem?_eq_some_iff.mp hc).1
            simp at this
            omega
          rw [ej] at hc
          cases hc
          rw [show j = i by omega]
          refine (upd_ne nbL).trans (upd_same.trans ?_)
          have hst : highM o s m (0 + (i : Int)) - (o + s * (i : Int)) = below (mir m) s (i : Int) := by
            rw [e0]
            unfold highM
            omega
          show some (HO.tup [V.int _, V.int (highM o s m (0 + (i : Int)) - _), V.int _]) = _
          rw [est, hst]
          rfl
    · rintro st H' ⟨x7, x8, x9, x10, ps, rfl, sm, hL, lp, at_⟩
      walk_at "rd"
      exact q L H' nL sm ⟨ps, hL, by rw [lp, ef], at_⟩
theorem ok_rs {f : Addr} {fd : FuncData} (F : Fun K "_raises_some" "_raises_some" s_raises_some f fd) (Fm : Cal P w K mg base "form" 4 ["side"] spForm fH dH) : FnOk P w K mg base CX0 5 f fd ["side"] spRs := by
  refine F.ok sc_raises_some (fun vs H Q E h => ?_) (fun cdv A outer s0 H vs Q E hr h => ?_)
  · obtain ⟨p, o, s, m, rfl, _⟩ := h
    rfl
  · obtain ⟨p, o, s, m, rfl, hp, S, q⟩ := h
    have nd := sc_raises_some.nd
    refine ⟨_, (pss_cons (ps_asg (pcl Fm hr (by decide) (by rfl) (pa_cons (pv 0) pa_nil)) (pg_tup (by rfl) (pgs_cons (pg_name (i := 1) nd rfl (Or.inl rfl)) (pgs_cons (pg_name (i := 1) nd rfl (Or.inl rfl)) (pgs_cons (pg_name (i := 2) nd rfl (Or.inl rfl)) pgs_nil)))))
      (pss_one (ps_ret (pe_cmpR op_ne (pv 2) pe_str (nomark _))))), ?_⟩
    walk_at "rd"
    refine ⟨p, o, s, m, rfl, hp, S, fun d H2 s2 nd2 hd => ?_⟩
    refine ⟨d, _, rfl, SqT.of hd, rfl, _, _, rfl, _, _, rfl, _, _, rfl, rfl, ?_⟩
    walk_at "rd"
    refine ⟨rfl, ?_⟩
    have y := q H2 s2
    rw [← show decide (V.str (firstM s m) = V.str "down") = decide (firstM s m = "down") by rw [dec_str]] at y
    exact y
end
end HT
namespace HT
open PySem L2
/-- the list at l holds sides with these parts; it may be empty -/
structure SidL (H : Hp) (l : Addr) (xs : List V) (ss : List Sd) : Prop where
  hl : H l = some (.lst xs)
  len : xs.length = ss.length
  l4 : ss.length ≤ 4
  at_ : ∀ (i : Nat) (d : Sd), ss[i]? = some d → ∃ p : Addr, xs[i]? = some (V.ref p) ∧ H p = some (sideV d.o d.s d.m) ∧ SideP d.o d.s d.m
theorem SidesAt.toL {H : Hp} {l : Addr} {xs : List V} {ss : List Sd} (S : SidesAt H l xs ss) : SidL H l xs ss := ⟨S.hl, S.len, S.l4, S.at_⟩
theorem SidL.same {H H' : Hp} {l : Addr} {xs : List V} {ss : List Sd} (S : SidL H l xs ss) (e : Same H H') : SidL H' l xs ss :=
  ⟨e _ _ S.hl, S.len, S.l4, fun i d h => let ⟨p, a, b, c⟩ := S.at_ i d h; ⟨p, a, e _ _ b, c⟩⟩
theorem SidL.item {H : Hp} {l : Addr} {xs : List V} {ss : List Sd} (S : SidL H l xs ss) {i : Nat} {y : V} (h : xs[i]? = some y) : ∃ d p, ss[i]? = some d ∧ y = .ref p ∧ H p = some (sideV d.o d.s d.m) ∧ SideP d.o d.s d.m := by
  have hi : i < ss.length := by have := (List.getElem?_eq_some_iff.mp h).1; rw [S.len] at this; exact this
  obtain ⟨p, e, hp, sp⟩ := S.at_ i ss[i] (List.getElem?_eq_getElem hi)
  rw [h] at e
  exact ⟨ss[i], p, List.getElem?_eq_getElem hi, Option.some.inj e, hp, sp⟩
theorem SidL.side {H : Hp} {l : Addr} {xs : List V} {ss : List Sd} (S : SidL H l xs ss) : ∀ d ∈ ss, SideP d.o d.s d.m := fun d hd => by
  obtain ⟨i, hi, rfl⟩ := List.mem_iff_getElem.mp hd
  obtain ⟨_, _, _, sp⟩ := S.at_ i _ (List.getElem?_eq_getElem hi)
  exact sp
def upD (d : Sd) : Bool := !decide (firstM d.s d.m = "down")
def mirD (d : Sd) : Sd := ⟨-d.o, d.s, mir d.m⟩
/-- v, or what some side writes for it, and no less -/
def HiP (ss : List Sd) (v h : Int) : Prop := v ≤ h ∧ (∀ d ∈ ss, dueM d.o d.s d.m v ≤ h) ∧ (h = v ∨ ∃ d ∈ ss, h = dueM d.o d.s d.m v)
def spPerL : Sp := fun vs H Q _ => ∃ (l : Addr) (xs : List V) (ss : List Sd), vs = [.ref l] ∧ SidL H l xs ss ∧ Q (.int (comN ss : Int)) H
def spRais : Sp := fun vs H Q _ => ∃ (l : Addr) (xs : List V) (ss : List Sd), vs = [.ref l] ∧ SidL H l xs ss ∧ ∀ (L : Addr) (ys : List V) (H' : Hp), H L = none → Same H H' → SidL H' L ys (ss.filter upD) → Q (.ref L) H'
def spMirs : Sp := fun vs H Q _ => ∃ (l : Addr) (xs : List V) (ss : List Sd), vs = [.ref l] ∧ SidL H l xs ss ∧ ∀ (L : Addr) (ys : List V) (H' : Hp), H L = none → Same H H' → SidL H' L ys (ss.map mirD) → Q (.ref L) H'
def spHi : Sp := fun vs H Q _ => ∃ (l : Addr) (xs : List V) (ss : List Sd) (v : Int), vs = [.ref l, .int v] ∧ SidL H l xs ss ∧ (-2 ^ 900 < v ∧ v < 2 ^ 900) ∧ ∀ (h : Int) (H' : Hp), HiP ss v h → Same H H' → Q (.int h) H'
/-- a list of sides grows -/
theorem grow_side {H H' : Hp} {D : Addr} {ys : List V} {ts : List Sd} {p : Addr} {d : Sd} (A : ∀ (i : Nat) (e : Sd), ts[i]? = some e → ∃ p : Addr, ys[i]? = some (V.ref p) ∧ H p = some (sideV e.o e.s e.m) ∧ SideP e.o e.s e.m) (len : ys.length = ts.length)
    (k : ∀ b u, H b = some u → b ≠ D → H' b = some u) (hD : H D = some (.lst ys)) (hp : H' p = some (sideV d.o d.s d.m)) (sp : SideP d.o d.s d.m) :
    ∀ (i : Nat) (e : Sd), (ts ++ [d])[i]? = some e → ∃ p' : Addr, (ys ++ [V.ref p])[i]? = some (V.ref p') ∧ H' p' = some (sideV e.o e.s e.m) ∧ SideP e.o e.s e.m := by
  intro i e he
  rcases Nat.lt_or_ge i ts.length with z | z
  · rw [List.getElem?_append_left z] at he
    obtain ⟨p2, e1, hp2, sp2⟩ := A i e he
    exact ⟨p2, by rw [List.getElem?_append_left (by omega)]; exact e1, k _ _ hp2 (ne_of hp2 hD (by intro y; cases y)), sp2⟩
  · rw [List.getElem?_append_right z] at he
    have e0 : i - ts.length = 0 := by
      have := (List.getElem?_eq_some_iff.mp he).1
      simp at this
      omega
    rw [e0] at he
    have ee : e = d := by simpa using he.symm
    subst ee
    exact ⟨p, by rw [List.getElem?_append_right (by omega), show i - ys.length = 0 by omega]; rfl, hp, sp⟩
section
variable {P : Program} {w : World} {K : PySem.W.Frag} {mg : Str → Option Value} {base : Heap} {fB fH fI : Addr} {dB dH dI : FuncData}
theorem ok_commonL {f : Addr} {fd : FuncData} (F : Fun K "common_period" "common_period" s_common_period f fd) (A' : AmG mg) (Pe : Cal P w K mg base "period_of" 1 ["side"] spPerOf fB dB) : FnOk P w K mg base CX0 2 f fd ["sides"] spPerL := by
  refine F.ok sc_common_period (fun vs H Q E h => ?_) (fun cdv A outer s0 H vs Q E hr h => ?_)
  · obtain ⟨l, xs, ss, rfl, _⟩ := h
    rfl
  · obtain ⟨l, xs, ss, rfl, SS, q⟩ := h
    have nd := sc_common_period.nd
    refine ⟨_, pss_cons (ps_set (i := 1) nd rfl (Or.inl rfl) pe_int)
      (pss_cons (ps_for PassesOwn.never rfl (pi_list (pv 0)) (pg_name (i := 2) nd rfl (Or.inl rfl)) (pss_one (ps_set (i := 1) nd rfl (Or.inl rfl) (pe_callBfun cr_lcm2 (by rfl) A'.lcm (pa_cons (pv 1) (pa_cons (pcl Pe hr (by decide) (by rfl) (pa_cons (pv 2) pa_nil)) pa_nil))))))
      (pss_one (ps_ret (pv 1)))), ?_⟩
    walk_at "rd"
    refine ⟨⟨_, SqL.of SS.hl⟩, ?_⟩
    refine for_list (K := K) (a := l) (xs := xs) (fun i st H' => ∃ x2 : Option V, st = [some (.ref l), some (.int (comN (ss.take i) : Int)), x2] ∧ H' = H) ⟨none, rfl, rfl⟩ (fun _ _ _ _ ⟨_, _, e⟩ => e ▸ SqL.of SS.hl) ?_ ?_
    · rintro i y st H' hy ⟨x2, rfl, rfl⟩
      obtain ⟨d, p, ed, rfl, hp, sp⟩ := SS.item hy
      walk_at "rd"
      refine ⟨p, d.o, d.s, d.m, rfl, hp, sp, ?_⟩
      have pb := perM_bd sp
      have cl := com_take SS.side SS.l4 i
      have big : (2 : Nat) ^ 420 < 2 ^ 2000 := Nat.pow_lt_pow_right (by decide) (by decide)
      have big2 : (2 : Nat) ^ 120 < 2 ^ 2000 := Nat.pow_lt_pow_right (by decide) (by decide)
      have e2 : (perM d.s d.m).natAbs = perN d := by unfold perN; omega
      refine ⟨_, _, rfl, ?_, ?_, ?_⟩
      · rw [Int.natAbs_natCast]; omega
      · rw [e2]; unfold perN; omega
      · rw [Int.natAbs_natCast, e2, ← com_snoc ed]
        exact ⟨_, rfl, rfl⟩
    · rintro st H' ⟨x2, rfl, rfl⟩
      rw [SS.len, List.take_length]
      walk_at "rd"
      exact q
theorem filter_snoc {ss : List Sd} {i : Nat} {d : Sd} (h : ss[i]? = some d) : (ss.take (i + 1)).filter upD = (ss.take i).filter upD ++ (if upD d = true then [d] else []) := by
  rw [List.take_succ, h, List.filter_append]
  congr 1
  simp only [Option.toList, List.filter_cons, List.filter_nil]
theorem ok_rais {f : Addr} {fd : FuncData} (F : Fun K "raisers" "raisers" s_raisers f fd) (Rs : Cal P w K mg base "_raises_some" 5 ["side"] spRs fB dB) : FnOk P w K mg base CX0 6 f fd ["sides"] spRais := by
  refine F.ok sc_raisers (fun vs H Q E h => ?_) (fun cdv A outer s0 H vs Q E hr h => ?_)
  · obtain ⟨l, xs, ss, rfl, _⟩ := h
    rfl
  · obtain ⟨l, xs, ss, rfl, SS, q⟩ := h
    have nd := sc_raisers.nd
    refine ⟨_, (pss_one (ps_ret (pe_lc (own := [("side", 1)]) (g := gName 1) rfl nd (pi_list (pv 0)) (blkOk_by (N := ["sides", "side"]) (sc := defScope s_raisers) (by decide +kernel)) (fun _ _ _ _ _ => pg_name (i := 1) nd rfl (Or.inl rfl)) (fun _ _ _ _ _ => (pts_one (pt_val (pcl Rs hr (by decide) (by rfl) (pa_cons (pv 1) pa_nil))))) (fun _ _ _ _ _ => (pv 1))))), ?_⟩
    walk_at "rd"
    refine ⟨⟨_, SqL.of SS.hl⟩, fun L nL => ?_⟩
    refine lc_list (K := K) (a := l) (xs := xs) (fun i H3 => ∃ ys : List V, H3 L = some (.lst ys) ∧ ys.length = ((ss.take i).filter upD).length ∧ i ≤ ss.length ∧ Same H H3 ∧ (∀ (j : Nat) (d : Sd), ((ss.take i).filter upD)[j]? = some d → ∃ p : Addr, ys[j]? = some (V.ref p) ∧ H3 p = some (sideV d.o d.s d.m) ∧ SideP d.o d.s d.m))
      ⟨[], upd_same, rfl, Nat.zero_le _, fun b u z => (upd_ne (ne_of_none z nL)).trans z, fun j d z => by simp at z⟩ (fun _ _ _ ⟨_, _, _, _, sm, _⟩ => SqL.of (sm _ _ SS.hl)) ?_ ?_
    · rintro i y H3 hy ⟨ys, hD, ly, li, sm, at_⟩
      obtain ⟨d, p, ed, rfl, hp, sp⟩ := SS.item hy
      have il : i < ss.length := (List.getElem?_eq_some_iff.mp ed).1
      refine ⟨rfl, ?_⟩
      walk_at "rd"
      refine ⟨p, d.o, d.s, d.m, rfl, sm _ _ hp, sp, fun H4 s34 => ?_⟩
      refine ⟨_, rfl, ?_⟩
      have hD4 := s34 _ _ hD
      refine ite2 (fun z => ?_) (fun z => ?_)
      · have up : upD d = true := z
        walk_at "rd"
        refine ⟨_, hD4, ?_, ys ++ [.ref p], upd_same, ?_, il, ?_, ?_⟩
        · rw [ly]
          exact Nat.lt_of_le_of_lt (Nat.le_trans (List.length_filter_le _ _) (Nat.le_trans (List.length_take_le' _ _) SS.l4)) (by decide)
        · rw [filter_snoc ed, if_pos up, List.length_append, List.length_append, ly]
          rfl
        · intro b u y
          exact (upd_ne (ne_of_none y nL)).trans (s34 _ _ (sm _ _ y))
        · rw [filter_snoc ed, if_pos up]
          exact grow_side at_ ly (fun b u y nb => (upd_ne nb).trans (s34 _ _ y)) hD ((upd_ne (ne_of (s34 _ _ (sm _ _ hp)) hD4 (by intro y; cases y))).trans (s34 _ _ (sm _ _ hp))) sp
      · have up : ¬ upD d = true := z
        refine ⟨ys, hD4, ?_, il, fun b u y => s34 _ _ (sm _ _ y), ?_⟩
        · rw [filter_snoc ed, if_neg up, List.append_nil]
          exact ly
        · rw [filter_snoc ed, if_neg up, List.append_nil]
          intro j e he
          obtain ⟨p2, g1, g2, g3⟩ := at_ j e he
          exact ⟨p2, g1, s34 _ _ g2, g3⟩
    · rintro H3 ⟨ys, hD, ly, li, sm, at_⟩
      rw [SS.len, List.take_length] at ly at_
      walk_at "rd"
      exact q L ys H3 nL sm ⟨hD, ly, Nat.le_trans (List.length_filter_le _ _) SS.l4, at_⟩
theorem ok_mirs {f : Addr} {fd : FuncData} (F : Fun K "mirrors" "mirrors" s_mirrors f fd) (Mi : Cal P w K mg base "mirror" 4 ["side"] spMirror fB dB) : FnOk P w K mg base CX0 5 f fd ["sides"] spMirs := by
  refine F.ok sc_mirrors (fun vs H Q E h => ?_) (fun cdv A outer s0 H vs Q E hr h => ?_)
  · obtain ⟨l, xs, ss, rfl, _⟩ := h
    rfl
  · obtain ⟨l, xs, ss, rfl, SS, q⟩ := h
    have nd := sc_mirrors.nd
    refine ⟨_, (pss_one (ps_ret (pe_lc (own := [("side", 1)]) (g := gName 1) (tt := tYes) rfl nd (pi_list (pv 0)) (blkOk_by (N := ["sides", "side"]) (sc := defScope s_mirrors) (by decide +kernel)) (fun _ _ _ _ _ => pg_name (i := 1) nd rfl (Or.inl rfl)) (fun _ _ _ _ _ => pts_nil) (fun _ _ _ _ _ => (pcl Mi hr (by decide) (by rfl) (pa_cons (pv 1) pa_nil)))))), ?_⟩
    walk_at "rd"
    refine ⟨⟨_, SqL.of SS.hl⟩, fun L nL => ?_⟩
    refine lc_list (K := K) (a := l) (xs := xs) (fun i H3 => ∃ ys : List V, H3 L = some (.lst ys) ∧ ys.length = ((ss.take i).map mirD).length ∧ i ≤ ss.length ∧ Same H H3 ∧ (∀ (j : Nat) (d : Sd), ((ss.take i).map mirD)[j]? = some d → ∃ p : Addr, ys[j]? = some (V.ref p) ∧ H3 p = some (sideV d.o d.s d.m) ∧ SideP d.o d.s d.m))
      ⟨[], upd_same, rfl, Nat.zero_le _, fun b u z => (upd_ne (ne_of_none z nL)).trans z, fun j d z => by simp at z⟩ (fun _ _ _ ⟨_, _, _, _, sm, _⟩ => SqL.of (sm _ _ SS.hl)) ?_ ?_
    · rintro i y H3 hy ⟨ys, hD, ly, li, sm, at_⟩
      obtain ⟨d, p, ed, rfl, hp, sp⟩ := SS.item hy
      have il : i < ss.length := (List.getElem?_eq_some_iff.mp ed).1
      refine ⟨rfl, ?_⟩
      walk_at "rd"
      refine ⟨p, d.o, d.s, d.m, rfl, sm _ _ hp, sp, fun b H4 s34 nb hb => ?_⟩
      have hD4 := s34 _ _ hD
      have es : (ss.take (i + 1)).map mirD = (ss.take i).map mirD ++ [mirD d] := by
        rw [List.take_succ, ed, List.map_append]
        rfl
      walk_at "rd"
      refine ⟨_, hD4, ?_, ys ++ [.ref b], upd_same, ?_, il, ?_, ?_⟩
      · rw [ly, List.length_map]
        exact Nat.lt_of_le_of_lt (Nat.le_trans (List.length_take_le' _ _) SS.l4) (by decide)
      · rw [es, List.length_append, List.length_append, ly]
        rfl
      · intro c u y
        exact (upd_ne (ne_of_none y nL)).trans (s34 _ _ (sm _ _ y))
      · rw [es]
        exact grow_side (d := mirD d) at_ ly (fun c u y nb => (upd_ne nb).trans (s34 _ _ y)) hD ((upd_ne (ne_of hb hD4 (by intro y; cases y))).trans hb) (side_mir sp)
    · rintro H3 ⟨ys, hD, ly, li, sm, at_⟩
      rw [SS.len, List.take_length] at ly at_
      walk_at "rd"
      exact q L ys H3 nL sm ⟨hD, ly, by rw [List.length_map]; exact SS.l4, at_⟩
theorem ok_hi {f : Addr} {fd : FuncData} (F : Fun K "highest" "highest" s_highest f fd) (MT : MaxT mg) (Wr : Cal P w K mg base "written" 3 ["side", "value"] spDue fB dB) : FnOk P w K mg base CX0 4 f fd ["sides", "value"] spHi := by
  refine F.ok sc_highest (fun vs H Q E h => ?_) (fun cdv A outer s0 H vs Q E hr h => ?_)
  · obtain ⟨l, xs, ss, v, rfl, _⟩ := h
    rfl
  · obtain ⟨l, xs, ss, v, rfl, SS, hv, q⟩ := h
    have nd := sc_highest.nd
    refine ⟨_, pss_one (ps_ret (pe_callB (cr_max rfl) (by rfl) MT.max (by decide +kernel) (pa_cons (pe_op op_cat (pe_lst (pa_cons (pv 1) pa_nil)) (pe_lc (own := [("side", 2)]) (g := gName 2) (tt := tYes) rfl nd (pi_list (pv 0)) (blkOk_by (N := ["sides", "value", "side"]) (sc := defScope s_highest) (by decide +kernel)) (fun _ _ _ _ _ => pg_name (i := 2) nd rfl (Or.inl rfl)) (fun _ _ _ _ _ => pts_nil) (fun _ _ _ _ _ => pcl Wr hr (by decide) (by rfl) (pa_cons (pv 2) (pa_cons (pv 1) pa_nil))))) pa_nil))), ?_⟩
    walk_at "rd"
    refine ⟨(by show 1 ≤ sizeLine; decide), fun a na => ?_⟩
    have fa : upd H a (.lst [.int v]) a = some (.lst [.int v]) := upd_same
    have s1 : Same H (upd H a (.lst [.int v])) := fun b u z => (upd_ne (ne_of_none z na)).trans z
    generalize upd H a (.lst [.int v]) = H1 at fa s1 ⊢
    walk_at "rd"
    refine ⟨⟨_, SqL.of (s1 _ _ SS.hl)⟩, fun L nL => ?_⟩
    refine lc_list (K := K) (a := l) (xs := xs) (fun i H3 => H3 L = some (.lst (((ss.take i).map fun d => dueM d.o d.s d.m v).map V.int)) ∧ i ≤ ss.length ∧ Same H1 H3)
      ⟨upd_same, Nat.zero_le _, fun b u z => (upd_ne (ne_of_none z nL)).trans z⟩ (fun _ _ _ ⟨_, _, sm⟩ => SqL.of (sm _ _ (s1 _ _ SS.hl))) ?_ ?_
    · rintro i y H3 hy ⟨hD, li, sm⟩
      obtain ⟨d, p, ed, rfl, hp, sp⟩ := SS.item hy
      have il : i < ss.length := (List.getElem?_eq_some_iff.mp ed).1
      refine ⟨rfl, ?_⟩
      walk_at "rd"
      refine ⟨p, d.o, d.s, d.m, v, rfl, sm _ _ (s1 _ _ hp), sp, (by unfold Bd; omega), fun H4 s34 => ?_⟩
      have hD4 := s34 _ _ hD
      have es : (ss.take (i + 1)).map (fun d => dueM d.o d.s d.m v) = (ss.take i).map (fun d => dueM d.o d.s d.m v) ++ [dueM d.o d.s d.m v] := by
        rw [List.take_succ, ed, List.map_append]
        rfl
      walk_at "rd"
      refine ⟨_, hD4, ?_, ?_, il, fun b u y => (upd_ne (ne_of_none y nL)).trans (s34 _ _ (sm _ _ y))⟩
      · rw [List.length_map, List.length_map]
        exact Nat.lt_of_le_of_lt (Nat.le_trans (List.length_take_le' _ _) SS.l4) (by decide)
      · rw [es, List.map_append]
        exact upd_same
    · rintro H3 ⟨hD, li, sm⟩
      rw [SS.len, List.take_length] at hD
      have l4 := SS.l4
      walk_at "rd"
      refine ⟨a, L, _, _, rfl, rfl, sm _ _ fa, hD, (by show 1 + _ ≤ sizeLine; rw [List.length_map, List.length_map]; exact Nat.le_trans (by omega : 1 + ss.length ≤ 8) (by decide)), fun c nc => ?_⟩
      refine ⟨c, v :: ss.map fun d => dueM d.o d.s d.m v, rfl, SqL.of upd_same, Nat.succ_pos _, fun m mi mm => ?_⟩
      refine q m _ ⟨mm v List.mem_cons_self, fun d hd => mm _ (List.mem_cons_of_mem _ (List.mem_map.mpr ⟨d, hd, rfl⟩)), ?_⟩ (fun b u z => (upd_ne (ne_of_none (sm _ _ (s1 _ _ z)) nc)).trans (sm _ _ (s1 _ _ z)))
      rcases List.mem_cons.mp mi with e | e
      · exact .inl e
      · obtain ⟨d, hd, e2⟩ := List.mem_map.mp e
        exact .inr ⟨d, hd, e2.symm⟩
end
end HT
namespace L2
open PySem PySem.Spec PyProof.Rows PySem.W PySem.SeqAt
theorem reads_ints {h : Heap} : ∀ {ns : List Int} {its : List Value}, Vals (ns.map V.int) its → ∃ as, ReadsAll h its (ns.map PyData.int) as
  | [], its, r => by rw [List.map_nil] at r; cases r; exact ⟨_, .nil⟩
  | n :: ns, its, r => by
    rw [List.map_cons] at r
    cases r with
    | @cons x y xs ys h1 t =>
      obtain ⟨as, ra⟩ := reads_ints (h := h) t
      obtain ⟨tk, rfl⟩ := h1
      exact ⟨_, .cons (.int n tk) ra⟩
theorem depth_ints : ∀ ns : List Int, PyData.depthAll (ns.map PyData.int) = 0
  | [] => rfl
  | n :: ns => by
    show max 0 (PyData.depthAll (ns.map PyData.int)) = 0
    rw [depth_ints ns]; rfl
theorem alike_ints (ns : List Int) : AlikeAll (ns.map PyData.int) := by
  refine ⟨fun x hx y hy => ?_, fun x hx e => ?_⟩
  · obtain ⟨a, _, rfl⟩ := List.mem_map.mp hx
    obtain ⟨b, _, rfl⟩ := List.mem_map.mp hy
    simp [alike]
  · obtain ⟨a, _, rfl⟩ := List.mem_map.mp hx
    cases e
theorem fold_min : ∀ (ns : List Int) (n : Int), ns.foldl min n ∈ n :: ns ∧ ∀ y ∈ n :: ns, ns.foldl min n ≤ y
  | [], n => ⟨List.mem_cons_self, fun y hy => by rw [List.mem_singleton.mp hy]; exact Int.le_refl _⟩
  | k :: r, n => by
    obtain ⟨a, b⟩ := fold_min r (min n k)
    rw [List.foldl_cons]
    have m0 := b (min n k) List.mem_cons_self
    refine ⟨?_, fun y hy => ?_⟩
    · rcases List.mem_cons.mp a with e | e
      · rw [e]
        by_cases h : n ≤ k
        · rw [show min n k = n by omega]; exact List.mem_cons_self
        · rw [show min n k = k by omega]; exact List.mem_cons_of_mem _ List.mem_cons_self
      · exact List.mem_cons_of_mem _ (List.mem_cons_of_mem _ e)
    · rcases List.mem_cons.mp hy with e | e
      · omega
      · rcases List.mem_cons.mp e with e | e
        · omega
        · exact b y (List.mem_cons_of_mem _ e)
theorem fold_max : ∀ (ns : List Int) (n : Int), ns.foldl max n ∈ n :: ns ∧ ∀ y ∈ n :: ns, y ≤ ns.foldl max n
  | [], n => ⟨List.mem_cons_self, fun y hy => by rw [List.mem_singleton.mp hy]; exact Int.le_refl _⟩
  | k :: r, n => by
    obtain ⟨a, b⟩ := fold_max r (max n k)
    rw [List.foldl_cons]
    have m0 := b (max n k) List.mem_cons_self
    refine ⟨?_, fun y hy => ?_⟩
    · rcases List.mem_cons.mp a with e | e
      · rw [e]
        by_cases h : k ≤ n
        · rw [show max n k = n by omega]; exact List.mem_cons_self
        · rw [show max n k = k by omega]; exact List.mem_cons_of_mem _ List.mem_cons_self
      · exact List.mem_cons_of_mem _ (List.mem_cons_of_mem _ e)
    · rcases List.mem_cons.mp hy with e | e
      · omega
      · rcases List.mem_cons.mp e with e | e
        · omega
        · exact b y (List.mem_cons_of_mem _ e)
def rMinDf (K : PySem.W.Frag) : List V → List V → Hp → VK → Prop := fun vs zs H Q => ∃ (a : Addr) (ns : List Int) (d : V), vs = [V.ref a] ∧ zs = [d] ∧ SqL K H a (ns.map V.int) ∧ (ns = [] → Q d H) ∧ ∀ m, m ∈ ns → (∀ y, y ∈ ns → m ≤ y) → Q (.int m) H
def rMaxDf (K : PySem.W.Frag) : List V → List V → Hp → VK → Prop := fun vs zs H Q => ∃ (a : Addr) (ns : List Int) (d : V), vs = [V.ref a] ∧ zs = [d] ∧ SqL K H a (ns.map V.int) ∧ (ns = [] → Q d H) ∧ ∀ m, m ∈ ns → (∀ y, y ∈ ns → y ≤ m) → Q (.int m) H
theorem cr_minDf {X : Cx} (hc : X.calm = true) (hu : X.A.units + 64 < cLine) : CallRK X (.builtin "min") [Str.ofString "default"] (rMinDf X.K) := by
  intro pins s σ H vs zs us ws Q I r rz h
  obtain ⟨a, ns, d, rfl, rfl, hs, q0, q1⟩ := h
  obtain ⟨its, rv, hl, _⟩ := I.list hs
  obtain rfl := Vals.ref1 r
  obtain ⟨w1, rfl, e1⟩ := vals1 rz
  obtain ⟨as, ra⟩ := reads_ints (h := s.heap) rv
  refine min_list_default (I.ok.hd hc) hl.isList (by simpa using ra) (alike_ints ns) (by rw [depth_ints]; omega) (fun e h' tk hk => ?_) (fun y ys i v h' tk bs e hv rd hk => ?_)
  · cases ns with
    | nil => exact ⟨d, H, I.kept hk, e1, q0 rfl⟩
    | cons n r => cases e
  · cases ns with
    | nil => cases e
    | cons n r =>
      rw [List.map_cons] at e
      injection e with ey es
      subst ey es
      rw [minD_ints] at rd
      obtain ⟨f1, f2⟩ := fold_min r n
      cases rd with
      | int _ t => exact ⟨.int _, H, I.kept hk, ⟨t, rfl⟩, q1 _ f1 f2⟩
theorem cr_maxDf {X : Cx} (hc : X.calm = true) (hu : X.A.units + 64 < cLine) : CallRK X (.builtin "max") [Str.ofString "default"] (rMaxDf X.K) := by
  intro pins s σ H vs zs us ws Q I r rz h
  obtain ⟨a, ns, d, rfl, rfl, hs, q0, q1⟩ := h
  obtain ⟨its, rv, hl, _⟩ := I.list hs
  obtain rfl := Vals.ref1 r
  obtain ⟨w1, rfl, e1⟩ := vals1 rz
  obtain ⟨as, ra⟩ := reads_ints (h := s.heap) rv
  refine max_list_default (I.ok.hd hc) hl.isList (by simpa using ra) (alike_ints ns) (by rw [depth_ints]; omega) (fun e h' tk hk => ?_) (fun y ys i v h' tk bs e hv rd hk => ?_)
  · cases ns with
    | nil => exact ⟨d, H, I.kept hk, e1, q0 rfl⟩
    | cons n r => cases e
  · cases ns with
    | nil => cases e
    | cons n r =>
      rw [List.map_cons] at e
      injection e with ey es
      subst ey es
      rw [maxD_ints] at rd
      obtain ⟨f1, f2⟩ := fold_max r n
      cases rd with
      | int _ t => exact ⟨.int _, H, I.kept hk, ⟨t, rfl⟩, q1 _ f1 f2⟩
end L2
namespace HT
open PySem L2
theorem scal_some {x : Int} : V.int x ≠ V.non := fun z => by cases z
/-- a value that two sides do not raise -/
def UnR (d e : Sd) (x : Int) : Prop := dueM d.o d.s d.m x ≤ x ∧ dueM e.o e.s e.m x ≤ x
def BB (d e : Sd) (a b : Nat) (x : Int) : Prop := InB (d.o + d.s * (a : Int)) (below (mir d.m) d.s (a : Int)) (perM d.s d.m) x ∧ InB (e.o + e.s * (b : Int)) (below (mir e.m) e.s (b : Int)) (perM e.s e.m) x
theorem unr_bb {d e : Sd} {x : Int} (hd : SideP d.o d.s d.m) (he : SideP e.o e.s e.m) : UnR d e x ↔ ∃ a b : Nat, a < (figsN d.s d.m).toNat ∧ b < (figsN e.s e.m).toNat ∧ BB d e a b x := by
  unfold UnR BB
  rw [unr_iff hd.md hd.s0, unr_iff he.md he.s0]
  constructor
  · rintro ⟨⟨k, k0, k1, h⟩, j, j0, j1, g⟩
    refine ⟨k.toNat, j.toNat, by omega, by omega, ?_, ?_⟩
    · rw [Int.toNat_of_nonneg k0]; exact h
    · rw [Int.toNat_of_nonneg j0]; exact g
  · rintro ⟨a, b, h1, h2, h, g⟩
    exact ⟨⟨(a : Int), by omega, by omega, h⟩, (b : Int), by omega, by omega, g⟩
/-- the pairs that are looked at -/
def DoneP (n2 i j a b : Nat) : Prop := (a < i ∧ b < n2) ∨ (a = i ∧ b < j)
structure FndP (d e : Sd) (v : Int) (D : Nat → Nat → Prop) (ns : List Int) : Prop where
  from_ : ∀ n ∈ ns, ∃ a b, D a b ∧ LeastI (BB d e a b) v (some n)
  to_ : ∀ a b, D a b → ∃ r, LeastI (BB d e a b) v r ∧ ∀ x, r = some x → x ∈ ns
def spTwo : Sp := fun vs H Q _ => ∃ (p q : Addr) (d e : Sd) (v : Int), vs = [.ref p, .ref q, .int v] ∧ H p = some (sideV d.o d.s d.m) ∧ SideP d.o d.s d.m ∧ H q = some (sideV e.o e.s e.m) ∧ SideP e.o e.s e.m ∧ ∀ r H', LeastI (UnR d e) v r → Same H H' → Q (oV r) H'
theorem fnd_end {d e : Sd} {v : Int} {ns : List Int} {n1 n2 : Nat} (hd : SideP d.o d.s d.m) (he : SideP e.o e.s e.m) (e1 : n1 = (figsN d.s d.m).toNat) (e2 : n2 = (figsN e.s e.m).toNat) (F : FndP d e v (DoneP n2 n1 0) ns) :
    (ns = [] → LeastI (UnR d e) v none) ∧ ∀ m, m ∈ ns → (∀ y, y ∈ ns → m ≤ y) → LeastI (UnR d e) v (some m) := by
  have key : ∀ y, v ≤ y → UnR d e y → ∃ x ∈ ns, x ≤ y := by
    intro y y0 u
    obtain ⟨a, b, h1, h2, h⟩ := (unr_bb hd he).mp u
    obtain ⟨r, L, m⟩ := F.to_ a b (.inl ⟨by omega, by omega⟩)
    cases r with
    | none => exact absurd h (L y y0)
    | some x =>
      refine ⟨x, m x rfl, ?_⟩
      by_cases g : y < x
      · exact absurd h (L.2.2 y y0 g)
      · omega
  refine ⟨fun z y y0 u => ?_, fun m mi mm => ?_⟩
  · obtain ⟨x, hx, _⟩ := key y y0 u
    rw [z] at hx
    exact absurd hx List.not_mem_nil
  · obtain ⟨a, b, D, L⟩ := F.from_ m mi
    have ab : a < (figsN d.s d.m).toNat ∧ b < (figsN e.s e.m).toNat := by
      rcases D with ⟨x, y⟩ | ⟨x, y⟩ <;> omega
    refine ⟨L.1, (unr_bb hd he).mpr ⟨a, b, ab.1, ab.2, L.2.1⟩, fun y y0 y1 u => ?_⟩
    obtain ⟨x, hx, xy⟩ := key y y0 u
    have := mm x hx
    omega
theorem fnd_add {d e : Sd} {v : Int} {ns : List Int} {n2 i j : Nat} {r : Option Int} (F : FndP d e v (DoneP n2 i j) ns) (L : LeastI (BB d e i j) v r) : FndP d e v (DoneP n2 i (j + 1)) (ns ++ r.toList) := by
  refine ⟨fun n hn => ?_, fun a b D => ?_⟩
  · rcases List.mem_append.mp hn with h | h
    · obtain ⟨a, b, D, L'⟩ := F.from_ n h
      refine ⟨a, b, ?_, L'⟩
      rcases D with ⟨x, y⟩ | ⟨x, y⟩
      · exact .inl ⟨x, y⟩
      · exact .inr ⟨x, by omega⟩
    · cases r with
      | none => exact absurd h List.not_mem_nil
      | some x =>
        rw [List.mem_singleton.mp h]
        exact ⟨i, j, .inr ⟨rfl, by omega⟩, L⟩
  · by_cases g : a = i ∧ b = j
    · obtain ⟨rfl, rfl⟩ := g
      refine ⟨r, L, fun x hx => ?_⟩
      subst hx
      exact List.mem_append_right _ List.mem_cons_self
    · have D' : DoneP n2 i j a b := by
        rcases D with ⟨x, y⟩ | ⟨x, y⟩
        · exact .inl ⟨x, y⟩
        · exact .inr ⟨x, by omega⟩
      obtain ⟨r', L', m⟩ := F.to_ a b D'
      exact ⟨r', L', fun x hx => List.mem_append_left _ (m x hx)⟩
theorem fnd_row {d e : Sd} {v : Int} {ns : List Int} {n2 i : Nat} (F : FndP d e v (DoneP n2 i n2) ns) : FndP d e v (DoneP n2 (i + 1) 0) ns := by
  refine ⟨fun n hn => ?_, fun a b D => ?_⟩
  · obtain ⟨a, b, D, L⟩ := F.from_ n hn
    refine ⟨a, b, ?_, L⟩
    rcases D with ⟨x, y⟩ | ⟨x, y⟩
    · exact .inl ⟨by omega, y⟩
    · exact .inl ⟨by omega, y⟩
  · refine F.to_ a b ?_
    rcases D with ⟨x, y⟩ | ⟨x, y⟩
    · by_cases g : a = i
      · exact .inr ⟨g, y⟩
      · exact .inl ⟨by omega, y⟩
    · omega
section
variable {P : Program} {w : World} {K : PySem.W.Frag} {mg : Str → Option Value} {base : Heap} {fB fH fI : Addr} {dB dH dI : FuncData}
theorem ok_two {f : Addr} {fd : FuncData} (F : Fun K "_first_unraised_by_two" "_first_unraised_by_two" s_first_unraised_by_two f fd) (MT : MaxT mg) (Un : CalD P w K mg base "unraised" 5 ["side", "least"] [.int 1] spUnr fB dB) (F2 : Cal P w K mg base "first_in_both" 105 ["one", "other", "value"] spFI2 fH dH) : FnOk P w K mg base CX0 106 f fd ["first", "second", "value"] spTwo := by
  refine F.ok sc_first_unraised_by_two (fun vs H Q E h => ?_) (fun cdv A outer s0 H vs Q E hr h => ?_)
  · obtain ⟨p, q, d, e, v, rfl, _⟩ := h
    rfl
  · obtain ⟨p, q, d, e, v, rfl, hp, S, hq, T, qq⟩ := h
    have nd := sc_first_unraised_by_two.nd
    refine ⟨_, pss_cons (ps_set (i := 3) nd rfl (Or.inl rfl) (pe_lst pa_nil))
      (pss_cons (ps_for PassesOwn.never rfl (pi_list (pcd Un hr (by decide) (by rfl) (pa_cons (pv 0) pa_nil))) (pg_name (i := 4) nd rfl (Or.inl rfl))
        (pss_one (ps_for PassesOwn.never rfl (pi_list (pcd Un hr (by decide) (by rfl) (pa_cons (pv 1) pa_nil))) (pg_name (i := 5) nd rfl (Or.inl rfl))
          (pss_cons (ps_set (i := 6) nd rfl (Or.inl rfl) (pcl F2 hr (by decide) (by rfl) (pa_cons (pv 4) (pa_cons (pv 5) (pa_cons (pv 2) pa_nil)))))
          (pss_one (ps_if (pt_cmpR op_notN (pv 6) pe_non (nomark _)) (pss_one (ps_expr (pe_bm PySem.F.plainAttrs_list PySem.F.slot_list_append PySem.F.type_list_append mt_append (pv 3) (pa_cons (pv 6) pa_nil)))) pss_nil))))))
      (pss_one (ps_ret (pe_callBK (cr_minDf rfl hr.units) (by rfl) MT.min (by decide +kernel) (pa_cons (pv 3) pa_nil) (pk_cons pe_non pk_nil))))), ?_⟩
    have fb1 := figs_bd (m := d.m) S.s0
    have fb2 := figs_bd (m := e.m) T.s0
    walk_at "rd"
    refine ⟨(by show 0 ≤ sizeLine; decide), fun N nN => ?_⟩
    have s01 : Same H (upd H N (.lst [])) := fun b u z => (upd_ne (ne_of_none z nN)).trans z
    have fN : upd H N (.lst []) N = some (.lst []) := upd_same
    generalize upd H N (.lst []) = H1 at s01 fN ⊢
    walk_at "rd"
    refine ⟨p, d.o, d.s, d.m, rfl, s01 _ _ hp, S, fun L1 H2 nL1 s12 B1 => ?_⟩
    obtain ⟨ps1, hL1, lp1, at1⟩ := B1
    walk_at "rd"
    refine ⟨⟨_, SqL.of hL1⟩, ?_⟩
    have hN2 := s12 _ _ fN
    have nL1N : L1 ≠ N := fun z => by rw [z, fN] at nL1; cases nL1
    -- what stands through both loops
    have bel1 : ∀ (j : Nat) (b : Addr), ps1[j]? = some b → b ≠ N := fun j b hb z => by
      have := at1 j b hb
      rw [z, hN2] at this
      cases this
    refine for_list (K := K) (a := L1) (xs := ps1.map V.ref) (fun i st H' => ∃ (x4 x5 x6 : Option V) (ns : List Int), st = [some (.ref p), some (.ref q), some (.int v), some (.ref N), x4, x5, x6] ∧ (∀ b u, H2 b = some u → b ≠ N → H' b = some u) ∧ H' N = some (.lst (ns.map V.int)) ∧ ns.length ≤ 2 * i ∧ FndP d e v (DoneP (figsN e.s e.m).toNat i 0) ns)
      ⟨none, none, none, [], rfl, fun b u z _ => z, hN2, Nat.zero_le _, ⟨fun n h => absurd h List.not_mem_nil, fun a b D => by rcases D with ⟨x, _⟩ | ⟨_, y⟩ <;> omega⟩⟩ (fun _ _ _ _ ⟨_, _, _, _, _, pr, _⟩ => SqL.of (pr _ _ hL1 nL1N)) ?_ ?_
    · rintro i y st H3 hy ⟨x4, x5, x6, ns, rfl, pr, hN, ln, FP⟩
      obtain ⟨b1, hb1, rfl⟩ : ∃ b, ps1[i]? = some b ∧ y = .ref b := by
        rw [List.getElem?_map] at hy
        cases e : ps1[i]? with
        | none => rw [e] at hy; cases hy
        | some b => rw [e] at hy; exact ⟨b, rfl, (Option.some.inj hy).symm⟩
      have il : i < 2 := by
        have := (List.getElem?_eq_some_iff.mp hb1).1
        omega
      have hq3 : H3 q = some (sideV e.o e.s e.m) := pr _ _ (s12 _ _ (s01 _ _ hq)) (ne_of (s01 _ _ hq) fN (by intro z; cases z))
      walk_at "rd"
      refine ⟨q, e.o, e.s, e.m, rfl, hq3, T, fun L2 H4 nL2 s34 B2 => ?_⟩
      obtain ⟨ps2, hL2, lp2, at2⟩ := B2
      have hN4 := s34 _ _ hN
      have nL2N : L2 ≠ N := fun z => by rw [z, hN] at nL2; cases nL2
      walk_at "rd"
      refine ⟨⟨_, SqL.of hL2⟩, ?_⟩
      refine for_list (K := K) (a := L2) (xs := ps2.map V.ref) (fun j st H' => ∃ (x5 x6 : Option V) (ns : List Int), st = [some (.ref p), some (.ref q), some (.int v), some (.ref N), some (.ref b1), x5, x6] ∧ (∀ b u, H4 b = some u → b ≠ N → H' b = some u) ∧ H' N = some (.lst (ns.map V.int)) ∧ ns.length ≤ 2 * i + j ∧ FndP d e v (DoneP (figsN e.s e.m).toNat i j) ns)
        ⟨x5, x6, ns, rfl, fun b u z _ => z, hN4, ln, FP⟩ (fun _ _ _ _ ⟨_, _, _, _, pr, _⟩ => SqL.of (pr _ _ hL2 nL2N)) ?_ ?_
      · rintro j y st H5 hy ⟨y5, y6, ns, rfl, pr4, hN5, ln, FP⟩
        obtain ⟨b2, hb2, rfl⟩ : ∃ b, ps2[j]? = some b ∧ y = .ref b := by
          rw [List.getElem?_map] at hy
          cases e : ps2[j]? with
          | none => rw [e] at hy; cases hy
          | some b => rw [e] at hy; exact ⟨b, rfl, (Option.some.inj hy).symm⟩
        have jl : j < 2 := by
          have := (List.getElem?_eq_some_iff.mp hb2).1
          omega
        have g1 := at1 i b1 hb1
        have g1n := bel1 i b1 hb1
        have g1' := pr4 _ _ (s34 _ _ (pr _ _ g1 g1n)) g1n
        have g2 := at2 j b2 hb2
        have g2n : b2 ≠ N := fun z => by rw [z, hN4] at g2; cases g2
        have g2' := pr4 _ _ g2 g2n
        walk_at "rd"
        refine ⟨b1, b2, _, _, _, _, _, _, v, rfl, g1', blkP_of S, g2', blkP_of T, fun r L => ?_⟩
        have FP2 := fnd_add FP L
        walk_at "rd"
        cases r with
        | none =>
          refine ⟨rfl, ?_⟩
          walk_at "rd"
          rw [Option.toList_none, List.append_nil] at FP2
          exact ⟨_, _, ns, rfl, pr4, hN5, by omega, FP2⟩
        | some x =>
          refine ⟨rfl, ?_⟩
          walk_at "rd"
          refine ⟨.inl ⟨rfl, _, SqL.of hN5⟩, ?_⟩
          walk_at "rd"
          refine ⟨N, _, _, rfl, rfl, hN5, (by rw [List.length_map]; exact Nat.lt_of_le_of_lt ln (Nat.lt_of_lt_of_le (by omega : 2 * i + j < 100) (by decide))), ?_⟩
          refine ⟨_, _, ns ++ [x], rfl, fun b u z nb => (upd_ne nb).trans (pr4 _ _ z nb), ?_, by rw [List.length_append]; show ns.length + 1 ≤ _; omega, FP2⟩
          rw [List.map_append]
          exact upd_same
      · rintro st H5 ⟨y5, y6, ns, rfl, pr4, hN5, ln, FP⟩
        rw [List.length_map, lp2] at FP ln
        refine ⟨_, _, _, ns, rfl, fun b u z nb => pr4 _ _ (s34 _ _ (pr _ _ z nb)) nb, hN5, by omega, fnd_row FP⟩
    · rintro st H3 ⟨x4, x5, x6, ns, rfl, pr, hN, ln, FP⟩
      rw [List.length_map, lp1] at FP
      obtain ⟨en, em⟩ := fnd_end S T rfl rfl FP
      have sH : Same H H3 := fun b u z => pr _ _ (s12 _ _ (s01 _ _ z)) (ne_of_none z nN)
      walk_at "rd"
      refine ⟨N, ns, .non, rfl, rfl, SqL.of hN, fun z => qq none _ (en z) sH, fun m mi mm => qq (some m) _ (em m mi mm) sH⟩
end
end HT
namespace HT
open PySem L2
/-- no side raises the value -/
def UnA (ss : List Sd) (x : Int) : Prop := ∀ d ∈ ss, dueM d.o d.s d.m x ≤ x
theorem com_dvd : ∀ (ss : List Sd) (n : Nat), n ∣ ss.foldl (fun n d => n.lcm (perN d)) n ∧ ∀ d ∈ ss, perN d ∣ ss.foldl (fun n d => n.lcm (perN d)) n
  | [], n => ⟨Nat.dvd_refl _, fun d h => absurd h List.not_mem_nil⟩
  | d :: ss, n => by
    obtain ⟨a, b⟩ := com_dvd ss (n.lcm (perN d))
    rw [List.foldl_cons]
    refine ⟨Nat.dvd_trans (Nat.dvd_lcm_left _ _) a, fun e he => ?_⟩
    rcases List.mem_cons.mp he with z | z
    · rw [z]; exact Nat.dvd_trans (Nat.dvd_lcm_right _ _) a
    · exact b e z
theorem per_com {ss : List Sd} {d : Sd} (h : d ∈ ss) (hd : SideP d.o d.s d.m) : perM d.s d.m ∣ (comN ss : Int) := by
  have pa := perM_bd hd
  have ea : ((perN d : Nat) : Int) = perM d.s d.m := Int.toNat_of_nonneg (by omega)
  rw [← ea]
  exact Int.natCast_dvd_natCast.mpr ((com_dvd ss 1).2 d h)
theorem una_com {ss : List Sd} (hs : ∀ d ∈ ss, SideP d.o d.s d.m) (x t : Int) : UnA ss (x + (comN ss : Int) * t) ↔ UnA ss x := by
  have key : ∀ d ∈ ss, dueM d.o d.s d.m (x + (comN ss : Int) * t) = dueM d.o d.s d.m x + (comN ss : Int) * t := fun d hd =>
    due_dvd (hs d hd).md (hs d hd).s0 (Int.dvd_mul_of_dvd_left (per_com hd (hs d hd)))
  constructor
  · intro h d hd
    have := h d hd
    rw [key d hd] at this
    omega
  · intro h d hd
    rw [key d hd]
    have := h d hd
    omega
theorem una_none {ss : List Sd} (hs : ∀ d ∈ ss, SideP d.o d.s d.m) {v u : Int} (hu : v + (comN ss : Int) ≤ u) (no : ∀ y, v ≤ y → y < u → ¬ UnA ss y) : LeastI (UnA ss) v none := by
  intro y y0 c
  have cp : 0 < (comN ss : Int) := by
    have := com_pos ss 1 (by decide) hs
    show 0 < ((ss.foldl (fun n d => n.lcm (perN d)) 1 : Nat) : Int)
    omega
  have r0 := Int.emod_nonneg (y - v) (show (comN ss : Int) ≠ 0 by omega)
  have r1 := Int.emod_lt_of_pos (y - v) cp
  have ee := Int.emod_add_mul_ediv (y - v) (comN ss : Int)
  refine no (v + (y - v) % (comN ss : Int)) (by omega) (by omega) ?_
  have := una_com hs (v + (y - v) % (comN ss : Int)) ((y - v) / (comN ss : Int))
  rw [show v + (y - v) % (comN ss : Int) + (comN ss : Int) * ((y - v) / (comN ss : Int)) = y by omega] at this
  exact this.mp c
theorem hi_step {ss : List Sd} (hs : ∀ d ∈ ss, SideP d.o d.s d.m) {v u h : Int} (no : ∀ y, v ≤ y → y < u → ¬ UnA ss y) (hp : HiP ss u h) (ne : h ≠ u) : u < h ∧ ∀ y, v ≤ y → y < h → ¬ UnA ss y := by
  obtain ⟨a, b, c⟩ := hp
  refine ⟨by omega, fun y y0 y1 un => ?_⟩
  by_cases g : y < u
  · exact no y y0 g un
  · rcases c with e | ⟨d, hd, e⟩
    · exact ne e
    · have m := due_le (o := d.o) (hs d hd).md (hs d hd).s0 (show u ≤ y by omega)
      have := un d hd
      omega
theorem hi_bd {ss : List Sd} (hs : ∀ d ∈ ss, SideP d.o d.s d.m) {u h : Int} (hp : HiP ss u h) : h < u + 10 ^ 31 := by
  obtain ⟨a, b, c⟩ := hp
  rcases c with e | ⟨d, hd, e⟩
  · omega
  · have := due_near (o := d.o) (v := u) (hs d hd).md (hs d hd).s0
    have := (hs d hd).s1
    omega
theorem una_two {d e : Sd} {x : Int} : UnR d e x ↔ UnA [d, e] x := by
  constructor
  · rintro ⟨a, b⟩ f hf
    rcases List.mem_cons.mp hf with z | z
    · rw [z]; exact a
    · rw [List.mem_singleton.mp z]; exact b
  · intro h
    exact ⟨h d List.mem_cons_self, h e (List.mem_cons_of_mem _ List.mem_cons_self)⟩
theorem down_le {o s v : Int} (hs : 1 ≤ s) : dueM o s "down" v ≤ v := by
  have := Int.emod_add_mul_ediv (v - o) s
  have := Int.emod_nonneg (v - o) (show s ≠ 0 by omega)
  unfold dueM figM
  rw [go_down, if_neg (by decide)]
  omega
theorem una_filter {ss : List Sd} (hs : ∀ d ∈ ss, SideP d.o d.s d.m) (x : Int) : UnA (ss.filter upD) x ↔ UnA ss x := by
  constructor
  · intro h d hd
    by_cases u : upD d = true
    · exact h d (List.mem_filter.mpr ⟨hd, u⟩)
    · have e : firstM d.s d.m = "down" := by
        unfold upD at u
        simpa using u
      have f := due_form (o := d.o) x (hs d hd).md (hs d hd).s0
      rw [e] at f
      rw [← f]
      exact down_le (hs d hd).s0
  · intro h d hd
    exact h d (List.mem_filter.mp hd).1
def FewP (ss : List Sd) : Prop := (ss.filter upD).length ≤ 2 ∨ comN (ss.filter upD) ≤ 100000
def spFU : Sp := fun vs H Q _ => ∃ (l : Addr) (xs : List V) (ss : List Sd) (v : Int), vs = [.ref l, .int v] ∧ SidL H l xs ss ∧ (-2 ^ 800 < v ∧ v < 2 ^ 800) ∧ ∀ r H', LeastI (UnA ss) v r → Same H H' → Q (oV r) H'
def spCF : Sp := fun vs H Q _ => ∃ (l : Addr) (xs : List V) (ss : List Sd), vs = [.ref l] ∧ SidL H l xs ss ∧ (ss.length ≤ 2 ∨ comN ss ≤ 100000) ∧ Q .non H
def spReach : Sp := fun vs H Q _ => ∃ (l : Addr) (xs : List V) (ss : List Sd) (v : Int), vs = [.ref l, .int v] ∧ SidesAt H l xs ss ∧ (-2 ^ 790 < v ∧ v < 2 ^ 790) ∧ FewP ss ∧ FewP (ss.map mirD) ∧
  ∀ (lo hi : Option Int) (p : Addr) (H' : Hp), LeastI (UnA ss) v hi → LeastI (UnA (ss.map mirD)) (-v) lo → Same H H' → H p = none → H' p = some (.tup [oV (lo.map fun x => -x), oV hi]) → Q (.ref p) H'
section
variable {P : Program} {w : World} {K : PySem.W.Frag} {mg : Str → Option Value} {base : Heap} {fB fH fI fJ fL fM fN : Addr} {dB dH dI dJ dL dM dN : FuncData}
theorem ok_fu {f : Addr} {fd : FuncData} (F : Fun K "_first_unraised" "_first_unraised" s_first_unraised f fd) (A' : AmG mg) (Tw : Cal P w K mg base "_first_unraised_by_two" 106 ["first", "second", "value"] spTwo fB dB) (Co : Cal P w K mg base "common_period" 2 ["sides"] spPerL fH dH) (Hi : Cal P w K mg base "highest" 4 ["sides", "value"] spHi fI dI) : FnOk P w K mg base CX0 107 f fd ["raising", "value"] spFU := by
  refine F.ok sc_first_unraised (fun vs H Q E h => ?_) (fun cdv A outer s0 H vs Q E hr h => ?_)
  · obtain ⟨l, xs, ss, v, rfl, _⟩ := h
    rfl
  · obtain ⟨l, xs, ss, v, rfl, SS, hv, q⟩ := h
    have nd := sc_first_unraised.nd
    refine ⟨_, pss_cons (ps_if (pt_cmpR op_eq (pe_callB call_len_seq (by rfl) A'.len PySem.boot_len (pa_cons (pv 0) pa_nil)) pe_int (nomark _)) (pss_one (ps_ret (pcl Tw hr (by decide) (by rfl) (pa_cons (pe_ix ix_list (pv 0) pe_int (fun _ _ => rfl)) (pa_cons (pe_ix ix_list (pv 0) pe_int (fun _ _ => rfl)) (pa_cons (pv 1) pa_nil)))))) pss_nil)
      (pss_cons (ps_set (i := 2) nd rfl (Or.inl rfl) (pe_op op_add (pv 1) (pcl Co hr (by decide) (by rfl) (pa_cons (pv 0) pa_nil))))
      (pss_cons (ps_while PassesOwn.never (pt_cmpR op_lt (pv 1) (pv 2) (nomark _))
        (pss_cons (ps_set (i := 3) nd rfl (Or.inl rfl) (pcl Hi hr (by decide) (by rfl) (pa_cons (pv 0) (pa_cons (pv 1) pa_nil))))
        (pss_cons (ps_if (pt_cmpR op_eq (pv 3) (pv 1) (nomark _)) (pss_one (ps_ret (pv 1))) pss_nil)
        (pss_one (ps_set (i := 1) nd rfl (Or.inl rfl) (pv 3))))))
      (pss_one (ps_ret pe_non)))), ?_⟩
    walk_at "rd"
    refine ⟨l, _, rfl, .inl (SqL.of SS.hl), ?_⟩
    walk_at "rd"
    refine ⟨rfl, ?_⟩
    walk_at "rd"
    refine ite2 (fun z => ?_) (fun z => ?_)
    · have e1 := int_t z
      have e2 : ss.length = 2 := by
        rw [SS.len] at e1
        omega
      clear e1 z
      obtain ⟨d, e, rfl⟩ : ∃ d e, ss = [d, e] := by
        match ss, e2 with
        | [d, e], _ => exact ⟨d, e, rfl⟩
      obtain ⟨p1, x1, h1, s1⟩ := SS.at_ 0 d rfl
      obtain ⟨p2, x2, h2, s2⟩ := SS.at_ 1 e rfl
      obtain ⟨rfl⟩ : xs = [.ref p1, .ref p2] := by
        have := SS.len
        match xs, this, x1, x2 with
        | [a, b], _, x1, x2 => cases x1; cases x2; rfl
      walk_at "rd"
      refine ⟨l, _, _, _, rfl, rfl, SqL.of SS.hl, rfl, ?_⟩
      walk_at "rd"
      refine ⟨l, _, _, _, rfl, rfl, SqL.of SS.hl, rfl, ?_⟩
      walk_at "rd"
      exact ⟨p1, p2, d, e, v, rfl, h1, s1, h2, s2, fun r H' L sm => q r H' (leastI_congr (fun x => una_two) L) sm⟩
    walk_at "rd"
    refine ⟨l, xs, ss, rfl, SS, ?_⟩
    walk_at "rd"
    have cl := com_lt SS.side SS.l4
    refine ⟨fun m σ H' => ∃ (u : Int) (x3 : Option V), m = (v + (comN ss : Int) + 10 ^ 31 - u).toNat ∧ σ = [some (.ref l), some (.int u), some (.int (v + (comN ss : Int))), x3] ∧ Same H H' ∧ v ≤ u ∧ u < v + (comN ss : Int) + 10 ^ 31 ∧ ∀ y, v ≤ y → y < u → ¬ UnA ss y, ⟨_, v, none, rfl, rfl, Same.refl _, Int.le_refl _, by omega, fun y a b => by omega⟩, ?_⟩
    rintro m σ H' ⟨u, x3, rfl, rfl, sm, u0, u1, no⟩
    walk_at "rd"
    refine ite2 (fun z => ?_) (fun z => ?_)
    · have ue := of_decide_eq_true z
      refine ⟨fun σ' H'' => ∃ (u' : Int) (x3 : Option V), σ' = [some (.ref l), some (.int u'), some (.int (v + (comN ss : Int))), x3] ∧ Same H H'' ∧ u < u' ∧ u' < v + (comN ss : Int) + 10 ^ 31 ∧ ∀ y, v ≤ y → y < u' → ¬ UnA ss y, fun σ' H'' ⟨u', y3, e1, e2, e3, e4, e5⟩ => ⟨_, by omega, u', y3, rfl, e1, e2, by omega, e4, e5⟩, ?_⟩
      walk_at "rd"
      refine ⟨l, xs, ss, u, rfl, SS.same sm, by omega, fun h H2 hp s2 => ?_⟩
      walk_at "rd"
      refine ⟨rfl, ?_⟩
      walk_at "rd"
      refine ite2 (fun z => ?_) (fun z => ?_)
      · have e := int_t z
        subst e
        walk_at "rd"
        exact q (some h) _ ⟨u0, fun d hd => hp.2.1 d hd, no⟩ (sm.trans s2)
      · have ne := int_f z
        obtain ⟨n1, n2⟩ := hi_step SS.side no hp ne
        have hb := hi_bd SS.side hp
        walk_at "rd"
        exact ⟨h, _, rfl, sm.trans s2, n1, by omega, n2⟩
    · have ue : v + (comN ss : Int) ≤ u := by
        have : ¬ u < v + (comN ss : Int) := fun y => z (decide_eq_true y)
        omega
      walk_at "rd"
      exact q none _ (una_none SS.side ue no) sm
theorem ok_cf {f : Addr} {fd : FuncData} (F : Fun K "_check_few" "_check_few" s_check_few f fd) (A' : AmG mg) (Co : Cal P w K mg base "common_period" 2 ["sides"] spPerL fH dH) : FnOk P w K mg base CX0 3 f fd ["raising"] spCF := by
  refine F.ok sc_check_few (fun vs H Q E h => ?_) (fun cdv A outer s0 H vs Q E hr h => ?_)
  · obtain ⟨l, xs, ss, rfl, _⟩ := h
    rfl
  · obtain ⟨l, xs, ss, rfl, SS, few, q⟩ := h
    obtain ⟨tmp, hmp⟩ := A'.mp
    refine ⟨_, pss_one (ps_if (PW.pt (pw_and (pt_cmpR op_gt (pe_callB call_len_seq (by rfl) A'.len PySem.boot_len (pa_cons (pv 0) pa_nil)) pe_int (nomark _)) (pw_and1 (pt_cmpR op_gt (pcl Co hr (by decide) (by rfl) (pa_cons (pv 0) pa_nil)) (pe_glob (v := .int 100000) (by rfl) hmp ⟨_, rfl⟩) (nomark _))))) (pss_one ps_never) pss_nil), ?_⟩
    walk_at "rd"
    refine ⟨l, _, rfl, .inl (SqL.of SS.hl), ?_⟩
    walk_at "rd"
    refine ite2 (fun z => ?_) (fun z => ?_)
    · have gt := of_decide_eq_true z
      rw [SS.len] at gt
      walk_at "rd"
      refine ⟨l, xs, ss, rfl, SS, ?_⟩
      walk_at "rd"
      refine ite2 (fun z => ?_) (fun _ => ?_)
      · exfalso
        have := of_decide_eq_true z
        rcases few with y | y <;> omega
      · exact q
    · exact q
theorem ok_reach {f : Addr} {fd : FuncData} (F : Fun K "reach" "reach" s_reach f fd) (Ls : Cal P w K mg base "check_sides" 5 ["sides"] spSides fB dB) (Vl : Cal P w K mg base "check_value" 2 ["value"] spCheckValue fH dH) (Ra : Cal P w K mg base "raisers" 6 ["sides"] spRais fI dI) (Mi : Cal P w K mg base "mirrors" 5 ["sides"] spMirs fJ dJ)
    (Cf : Cal P w K mg base "_check_few" 3 ["raising"] spCF fL dL) (Fu : Cal P w K mg base "_first_unraised" 107 ["raising", "value"] spFU fM dM) : FnOk P w K mg base CX0 108 f fd ["sides", "value"] spReach := by
  refine F.ok sc_reach (fun vs H Q E h => ?_) (fun cdv A outer s0 H vs Q E hr h => ?_)
  · obtain ⟨l, xs, ss, v, rfl, _⟩ := h
    rfl
  · obtain ⟨l, xs, ss, v, rfl, SS, hv, f1, f2, q⟩ := h
    have nd := sc_reach.nd
    refine ⟨_, (pss_cons (ps_expr (pcl Ls hr (by decide) (by rfl) (pa_cons (pv 0) pa_nil)))
      (pss_cons (ps_expr (pcl Vl hr (by decide) (by rfl) (pa_cons (pv 1) pa_nil)))
      (pss_cons (ps_set (i := 2) nd rfl (Or.inl rfl) (pcl Ra hr (by decide) (by rfl) (pa_cons (pv 0) pa_nil)))
      (pss_cons (ps_set (i := 3) nd rfl (Or.inl rfl) (pcl Ra hr (by decide) (by rfl) (pa_cons (pcl Mi hr (by decide) (by rfl) (pa_cons (pv 0) pa_nil)) pa_nil)))
      (pss_cons (ps_expr (pcl Cf hr (by decide) (by rfl) (pa_cons (pv 2) pa_nil)))
      (pss_cons (ps_expr (pcl Cf hr (by decide) (by rfl) (pa_cons (pv 3) pa_nil)))
      (pss_cons (ps_set (i := 4) nd rfl (Or.inl rfl) (pcl Fu hr (by decide) (by rfl) (pa_cons (pv 3) (pa_cons (pe_un un_neg (pv 1)) pa_nil))))
      (pss_cons (ps_if (pt_cmpR op_notN (pv 4) pe_non (nomark _)) (pss_one (ps_set (i := 4) nd rfl (Or.inl rfl) (pe_un un_neg (pv 4)))) pss_nil)
      (pss_one (ps_ret (pe_tup (pa_cons (pv 4) (pa_cons (pcl Fu hr (by decide) (by rfl) (pa_cons (pv 2) (pa_cons (pv 1) pa_nil))) pa_nil))))))))))))), ?_⟩
    have sM : ∀ d ∈ ss.map mirD, SideP d.o d.s d.m := fun d hd => by
      obtain ⟨e, he, rfl⟩ := List.mem_map.mp hd
      exact side_mir (SS.side e he)
    walk_at "rd"
    refine ⟨l, xs, ss, rfl, SS, ?_⟩
    walk_at "rd"
    refine ⟨l, xs, ss, rfl, SS.toL, fun L1 y1 H1 n1 s1 S1 => ?_⟩
    walk_at "rd"
    refine ⟨l, xs, ss, rfl, SS.toL.same s1, fun L2 y2 H2 n2 s2 S2 => ?_⟩
    refine ⟨L2, y2, _, rfl, S2, fun L3 y3 H3 n3 s3 S3 => ?_⟩
    walk_at "rd"
    refine ⟨L1, y1, _, rfl, (S1.same s2).same s3, f1, ?_⟩
    walk_at "rd"
    refine ⟨L3, y3, _, rfl, S3, f2, ?_⟩
    walk_at "rd"
    refine ⟨L3, y3, _, -v, rfl, S3, by omega, fun lo H4 Llo s4 => ?_⟩
    have Llo2 := leastI_congr (una_filter sM) Llo
    walk_at "rd"
    cases lo with
    | none =>
      refine ⟨rfl, ?_⟩
      walk_at "rd"
      refine ⟨L1, y1, _, v, rfl, (((S1.same s2).same s3).same s4), by omega, fun hi H5 Lhi s5 => ?_⟩
      refine ⟨(by show 2 ≤ sizeLine; decide), fun p np => ?_⟩
      have sA := s1.trans (s2.trans (s3.trans (s4.trans s5)))
      exact q none hi p _ (leastI_congr (una_filter SS.side) Lhi) Llo2 (fun b u z => (upd_ne (ne_of_none (sA _ _ z) np)).trans (sA _ _ z)) (sA.free np) upd_same
    | some x =>
      refine ⟨rfl, ?_⟩
      walk_at "rd"
      refine ⟨L1, y1, _, v, rfl, (((S1.same s2).same s3).same s4), by omega, fun hi H5 Lhi s5 => ?_⟩
      refine ⟨(by show 2 ≤ sizeLine; decide), fun p np => ?_⟩
      have sA := s1.trans (s2.trans (s3.trans (s4.trans s5)))
      exact q (some x) hi p _ (leastI_congr (una_filter SS.side) Lhi) Llo2 (fun b u z => (upd_ne (ne_of_none (sA _ _ z) np)).trans (sA _ _ z)) (sA.free np) upd_same
end
end HT
namespace HT
open PySem L2
theorem back_iff {o s v y : Int} {m : Str} (hm : Mode m) (hs : 1 ≤ s) : backM o s m v ≤ y ↔ v ≤ dueM o s m y := by
  constructor
  · intro h
    exact Int.le_trans (back_ge hm hs) (due_le hm hs h)
  · intro h
    by_cases z : backM o s m v ≤ y
    · exact z
    · exfalso
      have h1 := due_le (o := o) (m := m) hm hs (show y ≤ backM o s m v - 1 by omega)
      have h2 := back_lt (o := o) (v := v) hm hs
      omega
theorem back_com {o s v : Int} {m : Str} (hm : Mode m) (hs : 1 ≤ s) (t : Int) : backM o s m (v + perM s m * t) = backM o s m v + perM s m * t := by
  have key : ∀ y, backM o s m (v + perM s m * t) ≤ y ↔ backM o s m v + perM s m * t ≤ y := fun y => by
    rw [back_iff hm hs]
    have h := due_com (o := o) (v := y - perM s m * t) hm hs t
    rw [show y - perM s m * t + perM s m * t = y by omega] at h
    rw [h]
    have h2 := back_iff (o := o) (v := v) (y := y - perM s m * t) hm hs
    omega
  have a := (key (backM o s m (v + perM s m * t))).mp (Int.le_refl _)
  have b := (key (backM o s m v + perM s m * t)).mpr (Int.le_refl _)
  omega
theorem back_pos {o s v : Int} {m : Str} (hm : Mode m) (hs : 1 ≤ s) : v + 1 ≤ backM o s m (v + s) := by
  by_cases z : backM o s m (v + s) ≤ v
  · exfalso
    have h := (back_iff hm hs).mp z
    have h2 := due_near (o := o) (v := v) hm hs
    omega
  · omega
theorem back_le {o s v : Int} {m : Str} (hm : Mode m) (hs : 1 ≤ s) : backM o s m v ≤ v + s := by
  have h := due_near (o := o) (v := v + s) hm hs
  exact (back_iff hm hs).mpr (by omega)
def dW (d : Sd) (x : Int) : Int := dueM d.o d.s d.m x
/-- there and back: by e, then by d -/
def Rd (d e : Sd) (x : Int) : Int := dW d (dW e x)
/-- the value of a figure -/
def atK (d : Sd) (k : Int) : Int := d.o + d.s * k
theorem dW_at {d : Sd} (h : SideP d.o d.s d.m) (k : Int) : dW d (atK d k) = atK d k := by
  unfold dW dueM atK
  rw [fig_at h.md h.s0]
theorem dW_is (d : Sd) (x : Int) : ∃ k, dW d x = atK d k := ⟨figM d.o d.s d.m x, rfl⟩
theorem atK_lt {d : Sd} (h : SideP d.o d.s d.m) {j k : Int} : atK d j < atK d k ↔ j < k := by
  have s0 := h.s0
  unfold atK
  constructor
  · intro z
    by_cases y : j < k
    · exact y
    · have : d.s * k ≤ d.s * j := Int.mul_le_mul_of_nonneg_left (by omega) (by omega)
      omega
  · intro z
    have : d.s * (j + 1) ≤ d.s * k := Int.mul_le_mul_of_nonneg_left (by omega) (by omega)
    rw [Int.mul_add, Int.mul_one] at this
    omega
theorem atK_le {d : Sd} (h : SideP d.o d.s d.m) {j k : Int} : atK d j ≤ atK d k ↔ j ≤ k := by
  have := atK_lt h (j := k) (k := j)
  omega
theorem atK_succ (d : Sd) (k : Int) : atK d (k + 1) = atK d k + d.s := by
  unfold atK
  rw [Int.mul_add, Int.mul_one]
  omega
theorem atK_add (d : Sd) (k n : Int) : atK d (k + n) = atK d k + d.s * n := by
  unfold atK
  rw [Int.mul_add]
  omega
theorem dW_le {d : Sd} (h : SideP d.o d.s d.m) {x y : Int} (z : x ≤ y) : dW d x ≤ dW d y := due_le h.md h.s0 z
/-- the round raises no value by a step of the wide side -/
def NotUp (d e : Sd) (x : Int) : Prop := dW e x < backM d.o d.s d.m (x + d.s)
instance (d e : Sd) (x : Int) : Decidable (NotUp d e x) := by unfold NotUp; exact inferInstance
theorem notup_iff {d e : Sd} (h : SideP d.o d.s d.m) (k : Int) : NotUp d e (atK d k) ↔ Rd d e (atK d k) ≤ atK d k := by
  unfold NotUp
  have b := back_iff (o := d.o) (v := atK d k + d.s) (y := dW e (atK d k)) h.md h.s0
  have r : dueM d.o d.s d.m (dW e (atK d k)) = Rd d e (atK d k) := rfl
  rw [r, ← atK_succ] at b
  rw [← atK_succ]
  obtain ⟨j, hj⟩ := dW_is d (dW e (atK d k))
  have hj2 : Rd d e (atK d k) = atK d j := hj
  rw [hj2] at b ⊢
  rw [atK_le h] at b
  rw [atK_le h]
  omega
theorem rd_up {d e : Sd} (h : SideP d.o d.s d.m) (he : SideP e.o e.s e.m) (le : e.s ≤ d.s) {k : Int} (z : ¬ NotUp d e (atK d k)) : Rd d e (atK d k) = atK d (k + 1) := by
  have h1 : ¬ Rd d e (atK d k) ≤ atK d k := fun y => z ((notup_iff h k).mpr y)
  have h2 : dW e (atK d k) ≤ atK d (k + 1) := by
    rw [atK_succ]
    have := due_near (o := e.o) (v := atK d k) he.md he.s0
    unfold dW
    omega
  have h3 := dW_le h h2
  rw [dW_at h] at h3
  obtain ⟨j, hj⟩ := dW_is d (dW e (atK d k))
  have hj2 : Rd d e (atK d k) = atK d j := hj
  rw [hj2] at h1 ⊢
  rw [hj] at h3
  rw [atK_le h] at h1 h3
  rw [show j = k + 1 by omega]
theorem rd_mono {d e : Sd} (h : SideP d.o d.s d.m) (he : SideP e.o e.s e.m) {x y : Int} (z : x ≤ y) : Rd d e x ≤ Rd d e y := dW_le h (dW_le he z)
def mirS (d : Sd) : Sd := ⟨-d.o, d.s, mir d.m⟩
theorem mirS_side {d : Sd} (h : SideP d.o d.s d.m) : SideP (mirS d).o (mirS d).s (mirS d).m := by
  obtain ⟨a, b, c, e, f⟩ := h
  exact ⟨by show -10 ^ 40 ≤ -d.o; omega, by show -d.o ≤ 10 ^ 40; omega, c, e, mir_mode f⟩
theorem mirS_dW {d : Sd} (h : SideP d.o d.s d.m) (x : Int) : dW (mirS d) (-x) = -dW d x := due_mirror h.md h.s0
theorem mirS_at (d : Sd) (k : Int) : atK (mirS d) k = -atK d (-k) := by
  unfold atK mirS
  show -d.o + d.s * k = -(d.o + d.s * -k)
  rw [Int.mul_neg]
  omega
theorem mirS_Rd {d e : Sd} (h : SideP d.o d.s d.m) (he : SideP e.o e.s e.m) (x : Int) : Rd (mirS d) (mirS e) (-x) = -Rd d e x := by
  unfold Rd
  rw [mirS_dW he, mirS_dW h]
/-- the figures of the blocks of what e does not raise by so much -/
def stL (e : Sd) (L f : Int) : Int := if e.o + e.s * f - L + 1 > lowM e.o e.s e.m f then e.o + e.s * f - L + 1 else lowM e.o e.s e.m f
def moL (e : Sd) (L f : Int) : Int := highM e.o e.s e.m f - stL e L f
theorem moL_pos {e : Sd} (h : SideP e.o e.s e.m) {L : Int} (hL : 1 ≤ L) (f : Int) : 0 ≤ moL e L f ∧ moL e L f < perM e.s e.m := by
  have lh := low_high (o := e.o) (k := f) h.md h.s0
  have fb := figs_bd (m := e.m) h.s0
  have pf := per_figs (m := e.m) h.s0
  have b1 := below_bd (k := f) h.md h.s0
  have b2 := below_bd (k := f) (mir_mode h.md) h.s0
  have t := touch (f - 1) h.md h.s0
  have nx := low_next (o := e.o) f h.md h.s0
  have p1 : e.s * 1 ≤ e.s * figsN e.s e.m := Int.mul_le_mul_of_nonneg_left (by omega) (by have := h.s0; omega)
  have wid : highM e.o e.s e.m f - lowM e.o e.s e.m f < perM e.s e.m := by
    rw [figs_eq h.s0] at pf
    unfold highM lowM
    by_cases he : e.m = "half_even"
    · rw [if_pos he] at pf
      omega
    · rw [if_neg he] at pf
      have tt := touch f h.md h.s0
      have bb : below e.m e.s (f + 1) = below e.m e.s f := by
        unfold below
        by_cases h1 : e.m = "down"
        · rw [if_pos h1, if_pos h1]
        · by_cases h2 : e.m = "up"
          · rw [if_neg h1, if_pos h2, if_neg h1, if_pos h2]
          · rw [if_neg h1, if_neg h2, if_neg h1, if_neg h2]
            have i1 : ∀ z : Int, (e.m = "half_up" ∨ (e.m = "half_even" ∧ z % 2 = 0)) ↔ e.m = "half_up" := fun z => ⟨fun y => y.elim id fun w => absurd w.1 he, .inl⟩
            by_cases h3 : e.m = "half_up"
            · rw [if_pos (.inl h3), if_pos (.inl h3)]
            · rw [if_neg (fun y => h3 ((i1 _).mp y)), if_neg (fun y => h3 ((i1 _).mp y))]
      omega
  unfold moL stL
  split <;> constructor <;> omega
theorem unrL_iff {e : Sd} (h : SideP e.o e.s e.m) {L v : Int} (hL : 1 ≤ L) : dW e v < v + L ↔ ∃ k, 0 ≤ k ∧ k < figsN e.s e.m ∧ InB (stL e L k) (moL e L k) (perM e.s e.m) v := by
  have hm := h.md
  have hs := h.s0
  have fb := figs_bd (m := e.m) hs
  have pf := per_figs (m := e.m) hs
  have pp : e.s ≤ perM e.s e.m := by
    rw [pf]
    have : e.s * 1 ≤ e.s * figsN e.s e.m := Int.mul_le_mul_of_nonneg_left (by omega) (by omega)
    omega
  constructor
  · intro hh
    have hh : dueM e.o e.s e.m v < v + L := hh
    have e0 := Int.emod_add_mul_ediv (figM e.o e.s e.m v) (figsN e.s e.m)
    refine ⟨figM e.o e.s e.m v % figsN e.s e.m, Int.emod_nonneg _ (by omega), Int.emod_lt_of_pos _ (by omega), ?_⟩
    generalize hk : figM e.o e.s e.m v % figsN e.s e.m = k at *
    generalize hj : figM e.o e.s e.m v / figsN e.s e.m = j at *
    have ev : v = (v - perM e.s e.m * j) + perM e.s e.m * j := by omega
    have dc := due_com (o := e.o) (v := v - perM e.s e.m * j) hm hs j
    rw [← ev] at dc
    have es : e.s * figM e.o e.s e.m v = e.s * k + perM e.s e.m * j := by
      rw [← e0, Int.mul_add, pf, Int.mul_assoc]
    have ed : dueM e.o e.s e.m v = e.o + e.s * k + perM e.s e.m * j := by
      unfold dueM
      omega
    have ed2 : dueM e.o e.s e.m (v - perM e.s e.m * j) = e.o + e.s * k := by omega
    have ef : figM e.o e.s e.m (v - perM e.s e.m * j) = k := by
      unfold dueM at ed2
      exact Int.eq_of_mul_eq_mul_left (show e.s ≠ 0 by omega) (by omega)
    obtain ⟨lo, hi⟩ := (fig_iff hm hs).mp ef
    have mp := moL_pos h hL k
    have sl : stL e L k ≤ v - perM e.s e.m * j := by
      unfold stL
      split <;> omega
    have sh : v - perM e.s e.m * j - stL e L k ≤ moL e L k := by
      unfold moL
      omega
    exact inb_of (t := j) (r := v - perM e.s e.m * j - stL e L k) (by omega) (by omega) (by omega) sh
  · rintro ⟨k, k0, k1, hh⟩
    obtain ⟨t, r, e1, e2, e3, e4⟩ := inb_at (by omega) hh
    have lh := low_high (o := e.o) (k := k) hm hs
    have sl : lowM e.o e.s e.m k ≤ stL e L k ∧ e.o + e.s * k - L + 1 ≤ stL e L k := by
      unfold stL
      split <;> omega
    have sh : stL e L k + r ≤ highM e.o e.s e.m k := by
      unfold moL at e3
      omega
    have ef : figM e.o e.s e.m (stL e L k + r) = k := (fig_iff hm hs).mpr ⟨by omega, sh⟩
    have dc := due_com (o := e.o) (v := stL e L k + r) hm hs t
    rw [show stL e L k + r + perM e.s e.m * t = v by omega] at dc
    have ed : dueM e.o e.s e.m (stL e L k + r) = e.o + e.s * k := by
      unfold dueM
      rw [ef]
    show dueM e.o e.s e.m v < v + L
    omega
end HT
namespace HT
open PySem L2
/-- the values as far as n steps of the wide side -/
def upP (d e : Sd) (v : Int) (n : Nat) : Prop := NotUp d e (v + d.s * (n : Int))
/-- what rounds_up has found so far -/
structure RuF (d e : Sd) (v : Int) (ys : List Int) (done : Nat → Nat → Prop) : Prop where
  tr : ∀ y ∈ ys, ∃ n : Nat, y = (n : Int) ∧ upP d e v n
  al : ∀ t f k : Nat, done t f → HitS (v + d.s * (t : Int) - stL e (backM d.o d.s d.m (v + d.s * (t : Int) + d.s) - (v + d.s * (t : Int))) (f : Int)) (figsN d.s d.m * d.s) (moL e (backM d.o d.s d.m (v + d.s * (t : Int) + d.s) - (v + d.s * (t : Int))) (f : Int)) (perM e.s e.m) k → ∃ y ∈ ys, y ≤ (t : Int) + figsN d.s d.m * (k : Int)
def lessT (d : Sd) (v : Int) (t : Nat) : Int := backM d.o d.s d.m (v + d.s * (t : Int) + d.s) - (v + d.s * (t : Int))
theorem less_pos {d : Sd} (h : SideP d.o d.s d.m) (v : Int) (t : Nat) : 1 ≤ lessT d v t ∧ lessT d v t ≤ 2 * d.s := by
  have a := back_pos (o := d.o) (v := v + d.s * (t : Int)) h.md h.s0
  have b := back_le (o := d.o) (v := v + d.s * (t : Int) + d.s) h.md h.s0
  unfold lessT
  omega
/-- a hit is a value that the round does not raise -/
theorem hit_up {d e : Sd} (h : SideP d.o d.s d.m) (he : SideP e.o e.s e.m) (v : Int) (t k : Nat) : upP d e v (t + (figsN d.s d.m).toNat * k) ↔ ∃ f : Nat, (f : Int) < figsN e.s e.m ∧ HitS (v + d.s * (t : Int) - stL e (lessT d v t) (f : Int)) (figsN d.s d.m * d.s) (moL e (lessT d v t) (f : Int)) (perM e.s e.m) k := by
  have fb := figs_bd (m := d.m) h.s0
  have pf := per_figs (m := d.m) h.s0
  obtain ⟨l1, _⟩ := less_pos h v t
  have ex : v + d.s * ((t + (figsN d.s d.m).toNat * k : Nat) : Int) = v + d.s * (t : Int) + perM d.s d.m * (k : Int) := by
    have e1 : ((t + (figsN d.s d.m).toNat * k : Nat) : Int) = (t : Int) + figsN d.s d.m * (k : Int) := by
      rw [Int.natCast_add, Int.natCast_mul, Int.toNat_of_nonneg (by omega)]
    rw [e1, Int.mul_add, pf, ← Int.mul_assoc]
    omega
  have bc := back_com (o := d.o) (v := v + d.s * (t : Int) + d.s) h.md h.s0 (k : Int)
  have e2 : backM d.o d.s d.m (v + d.s * (t : Int) + perM d.s d.m * (k : Int) + d.s) = v + d.s * (t : Int) + perM d.s d.m * (k : Int) + lessT d v t := by
    rw [show v + d.s * (t : Int) + perM d.s d.m * (k : Int) + d.s = v + d.s * (t : Int) + d.s + perM d.s d.m * (k : Int) by omega, bc]
    unfold lessT
    omega
  have e5 : figsN d.s d.m * d.s * (k : Int) = perM d.s d.m * (k : Int) := by rw [pf, Int.mul_comm d.s (figsN d.s d.m)]
  unfold upP NotUp
  rw [ex, e2, unrL_iff he l1]
  constructor
  · rintro ⟨f, f0, f1, hh⟩
    obtain ⟨n, rfl⟩ := Int.eq_ofNat_of_zero_le f0
    refine ⟨n, f1, ?_⟩
    unfold HitS
    unfold InB at hh
    rw [show v + d.s * (t : Int) - stL e (lessT d v t) (n : Int) + figsN d.s d.m * d.s * (k : Int) = v + d.s * (t : Int) + perM d.s d.m * (k : Int) - stL e (lessT d v t) (n : Int) by rw [e5]; omega]
    exact hh
  · rintro ⟨n, f1, hh⟩
    refine ⟨n, by omega, f1, ?_⟩
    unfold InB
    unfold HitS at hh
    rw [show v + d.s * (t : Int) - stL e (lessT d v t) (n : Int) + figsN d.s d.m * d.s * (k : Int) = v + d.s * (t : Int) + perM d.s d.m * (k : Int) - stL e (lessT d v t) (n : Int) by rw [e5]; omega] at hh
    exact hh
/-- the least of what is found -/
theorem ru_least {d e : Sd} (h : SideP d.o d.s d.m) (he : SideP e.o e.s e.m) {v : Int} {ys : List Int} (R : RuF d e v ys fun t f => (t : Int) < figsN d.s d.m ∧ (f : Int) < figsN e.s e.m) : (ys = [] → Least (upP d e v) none) ∧ ∀ y ∈ ys, (∀ z ∈ ys, y ≤ z) → Least (upP d e v) (some y.toNat) ∧ 0 ≤ y := by
  have fb := figs_bd (m := d.m) h.s0
  have key : ∀ n, upP d e v n → ∃ y ∈ ys, y ≤ (n : Int) := by
    intro n hn
    have e0 := Nat.mod_add_div n (figsN d.s d.m).toNat
    have lt := Nat.mod_lt n (show 0 < (figsN d.s d.m).toNat by omega)
    rw [← e0] at hn
    obtain ⟨f, f1, hh⟩ := (hit_up h he v _ _).mp hn
    obtain ⟨y, hy, le⟩ := R.al _ f _ ⟨by omega, f1⟩ hh
    refine ⟨y, hy, ?_⟩
    have e1 : (n : Int) = ((n % (figsN d.s d.m).toNat : Nat) : Int) + figsN d.s d.m * ((n / (figsN d.s d.m).toNat : Nat) : Int) := by
      have e2 : ((figsN d.s d.m).toNat : Int) = figsN d.s d.m := Int.toNat_of_nonneg (by omega)
      have e3 : ((n % (figsN d.s d.m).toNat + (figsN d.s d.m).toNat * (n / (figsN d.s d.m).toNat) : Nat) : Int) = (n : Int) := by rw [e0]
      rw [Int.natCast_add, Int.natCast_mul, e2] at e3
      exact e3.symm
    omega
  constructor
  · rintro rfl n hn
    obtain ⟨y, hy, _⟩ := key n hn
    exact List.not_mem_nil hy
  · intro y hy mn
    obtain ⟨n, rfl, hn⟩ := R.tr y hy
    refine ⟨⟨by rw [Int.toNat_natCast]; exact hn, fun j hj c => ?_⟩, by omega⟩
    obtain ⟨z, hz, le⟩ := key j c
    have := mn z hz
    omega
end HT
namespace HT
open PySem L2
def it (f : Int → Int) : Nat → Int → Int
  | 0, x => x
  | n + 1, x => f (it f n x)
/-- it settles at E behind r rounds -/
def Stl (f : Int → Int) (v E : Int) (r : Nat) : Prop := it f r v = E ∧ f E = E ∧ ∀ i, i < r → it f (i + 1) v ≠ it f i v
theorem it_fix {f : Int → Int} {v : Int} {n : Nat} (h : it f (n + 1) v = it f n v) : ∀ m, it f (n + m) v = it f n v
  | 0 => rfl
  | m + 1 => by
    have ih := it_fix h m
    show f (it f (n + m) v) = _
    rw [ih]
    exact h
theorem stl_uniq {f : Int → Int} {v E E' : Int} {r r' : Nat} (h : Stl f v E r) (h' : Stl f v E' r') : E = E' ∧ r = r' := by
  have key : ∀ {E E' : Int} {r r' : Nat}, Stl f v E r → Stl f v E' r' → ¬ r < r' := by
    intro E E' r r' h h' lt
    obtain ⟨a, b, _⟩ := h
    refine h'.2.2 r lt ?_
    show f (it f r v) = it f r v
    rw [a]
    exact b
  have e : r = r' := by
    have a := key h h'
    have b := key h' h
    omega
  subst e
  exact ⟨h.1.symm.trans h'.1, rfl⟩
/-- a remainder comes again -/
def RepP (f : Int → Int) (L v c : Int) : Prop := ∃ (j i : Nat) (t : Int), j < i ∧ it f i v = it f j v + L * t ∧ c = (it f i v - it f j v) / ((i - j : Nat) : Int) ∧ ∀ k, k < i → it f (k + 1) v ≠ it f k v
/-- it creeps -/
def Crp (f : Int → Int) (L v c : Int) : Prop := c ≠ 0 ∧ ∃ g : Int → Int, (∀ x t, g (x + L * t) = g x + L * t) ∧ ∀ i : Nat, g (it f i v) = g v + c * (i : Int)
theorem it_shift {f : Int → Int} {L : Int} (hf : ∀ x t, f (x + L * t) = f x + L * t) {v : Int} {i j : Nat} {t : Int} (h : it f i v = it f j v + L * t) : ∀ k, it f (i + k) v = it f (j + k) v + L * t
  | 0 => h
  | k + 1 => by
    show f (it f (i + k) v) = f (it f (j + k) v) + L * t
    rw [it_shift hf h k, hf]
theorem stl_rep {f : Int → Int} {L v E c : Int} {r : Nat} (hf : ∀ x t, f (x + L * t) = f x + L * t) (h : Stl f v E r) (h' : RepP f L v c) : False := by
  obtain ⟨j, i, t, ji, e, _, ne⟩ := h'
  obtain ⟨a, b, d⟩ := h
  have ri : i ≤ r := by
    by_cases z : i ≤ r
    · exact z
    · exfalso
      refine ne r (by omega) ?_
      show f (it f r v) = it f r v
      rw [a]
      exact b
  have s1 := it_shift hf e (r - i)
  have s2 := it_shift hf e (r - i + 1)
  rw [show i + (r - i) = r by omega] at s1
  rw [show i + (r - i + 1) = r + 1 by omega] at s2
  have s3 : it f (r + 1) v = it f r v := by
    show f (it f r v) = it f r v
    rw [a]
    exact b
  refine d (j + (r - i)) (by omega) ?_
  show it f (j + (r - i) + 1) v = _
  rw [show j + (r - i) + 1 = j + (r - i + 1) by omega]
  omega
theorem stl_crp {f : Int → Int} {L v E c : Int} {r : Nat} (h : Stl f v E r) (h' : Crp f L v c) : False := by
  obtain ⟨c0, g, _, hg⟩ := h'
  obtain ⟨a, b, _⟩ := h
  have s3 : it f (r + 1) v = it f r v := by
    show f (it f r v) = it f r v
    rw [a]
    exact b
  have h1 := hg r
  have h2 := hg (r + 1)
  rw [s3, h1, show ((r + 1 : Nat) : Int) = (r : Int) + 1 by omega, Int.mul_add, Int.mul_one] at h2
  omega
theorem rep_crp {f : Int → Int} {L v c c' : Int} (h : RepP f L v c') (h' : Crp f L v c) : c' = c := by
  obtain ⟨j, i, t, ji, e, ec, _⟩ := h
  obtain ⟨c0, g, gp, hg⟩ := h'
  have h1 := hg i
  rw [e, gp, hg j] at h1
  have e2 : it f i v - it f j v = c * ((i - j : Nat) : Int) := by
    rw [show ((i - j : Nat) : Int) = (i : Int) - (j : Int) by omega, Int.mul_sub]
    omega
  rw [ec, e2, Int.mul_ediv_cancel _ (by omega)]
theorem crp_ne {f : Int → Int} {L v c : Int} (h : Crp f L v c) (k : Nat) : it f (k + 1) v ≠ it f k v := by
  intro z
  obtain ⟨c0, g, _, hg⟩ := h
  have h1 := hg k
  have h2 := hg (k + 1)
  rw [z, h1, show ((k + 1 : Nat) : Int) = (k : Int) + 1 by omega, Int.mul_add, Int.mul_one] at h2
  omega
theorem least_ex {P : Nat → Prop} : (∃ n, P n) → ∃ r, Least P (some r) := by
  rintro ⟨n, hn⟩
  induction n using Nat.strongRecOn with
  | _ n ih =>
    by_cases z : ∃ m, m < n ∧ P m
    · obtain ⟨m, lt, hm⟩ := z
      exact ih m lt hm
    · exact ⟨n, hn, fun j hj c => z ⟨j, hj, c⟩⟩
/-! ### the two sides -/
def perL (d e : Sd) : Int := ((comN [d, e] : Nat) : Int)
theorem perL_pos {d e : Sd} (h : SideP d.o d.s d.m) (he : SideP e.o e.s e.m) : 0 < perL d e := by
  have := com_pos [d, e] 1 (by decide) (fun x hx => by
    simp only [List.mem_cons, List.not_mem_nil, or_false] at hx
    rcases hx with rfl | rfl
    · exact h
    · exact he)
  show 0 < (([d, e].foldl (fun n d => n.lcm (perN d)) 1 : Nat) : Int)
  omega
theorem comD : ∀ (ss : List Sd) (n : Nat), n ∣ ss.foldl (fun n d => n.lcm (perN d)) n ∧ ∀ d ∈ ss, perN d ∣ ss.foldl (fun n d => n.lcm (perN d)) n
  | [], n => ⟨Nat.dvd_refl _, fun d h => absurd h List.not_mem_nil⟩
  | d :: ss, n => by
    obtain ⟨a, b⟩ := comD ss (n.lcm (perN d))
    rw [List.foldl_cons]
    refine ⟨Nat.dvd_trans (Nat.dvd_lcm_left _ _) a, fun e he => ?_⟩
    rcases List.mem_cons.mp he with z | z
    · rw [z]; exact Nat.dvd_trans (Nat.dvd_lcm_right _ _) a
    · exact b e z
theorem per_in {ss : List Sd} {d : Sd} (h : d ∈ ss) (hd : SideP d.o d.s d.m) : perM d.s d.m ∣ (comN ss : Int) := by
  have pa := perM_bd hd
  have ea : ((perN d : Nat) : Int) = perM d.s d.m := Int.toNat_of_nonneg (by omega)
  rw [← ea]
  exact Int.natCast_dvd_natCast.mpr ((comD ss 1).2 d h)
theorem dW_per {d : Sd} {ss : List Sd} (h : SideP d.o d.s d.m) (hin : d ∈ ss) (x t : Int) : dW d (x + (comN ss : Int) * t) = dW d x + (comN ss : Int) * t :=
  due_dvd h.md h.s0 (Int.dvd_mul_of_dvd_left (per_in hin h))
theorem rd_per {d e : Sd} {ss : List Sd} (h : SideP d.o d.s d.m) (he : SideP e.o e.s e.m) (hd : d ∈ ss) (hee : e ∈ ss) (x t : Int) : Rd d e (x + (comN ss : Int) * t) = Rd d e x + (comN ss : Int) * t := by
  unfold Rd
  rw [dW_per he hee, dW_per h hd]
theorem step_in {d e : Sd} (h : SideP d.o d.s d.m) (he : SideP e.o e.s e.m) : ∃ j : Int, 1 ≤ j ∧ perL d e = d.s * j := by
  have s0 := h.s0
  obtain ⟨t, ht⟩ := per_in (ss := [d, e]) List.mem_cons_self h
  have pf := per_figs (m := d.m) h.s0
  have pp := perL_pos h he
  refine ⟨figsN d.s d.m * t, ?_, ?_⟩
  · by_cases z : 1 ≤ figsN d.s d.m * t
    · exact z
    · exfalso
      have : d.s * (figsN d.s d.m * t) ≤ d.s * 0 := Int.mul_le_mul_of_nonneg_left (by omega) (by omega)
      rw [← Int.mul_assoc, ← pf] at this
      have e2 : perL d e = perM d.s d.m * t := ht
      omega
  · show (comN [d, e] : Int) = _
    rw [ht, pf, Int.mul_assoc]
/-- what pace tells, of the wide and the narrow one -/
def CreepP (d e : Sd) (c : Int) : Prop := (c = d.s ∧ ∀ k, Rd d e (atK d k) = atK d (k + 1)) ∨ (c = -d.s ∧ ∀ k, Rd d e (atK d k) = atK d (k - 1)) ∨ (c = 0 ∧ (∃ k, Rd d e (atK d k) ≤ atK d k) ∧ ∃ k, atK d k ≤ Rd d e (atK d k))
theorem far {k j : Int} (hj : 1 ≤ j) (k0 : Int) : ∃ t : Int, 0 ≤ t ∧ k0 ≤ k + j * t := by
  refine ⟨((k0 - k).natAbs : Int), by omega, ?_⟩
  have : 1 * ((k0 - k).natAbs : Int) ≤ j * ((k0 - k).natAbs : Int) := Int.mul_le_mul_of_nonneg_right hj (by omega)
  omega
theorem rd_at {d e : Sd} (h : SideP d.o d.s d.m) (he : SideP e.o e.s e.m) {j : Int} (hj : perL d e = d.s * j) (k t : Int) : Rd d e (atK d (k + j * t)) = Rd d e (atK d k) + d.s * (j * t) := by
  have := rd_per (ss := [d, e]) h he (by simp) (by simp) (atK d k) t
  have e1 : (comN [d, e] : Int) * t = d.s * (j * t) := by
    show perL d e * t = _
    rw [hj, Int.mul_assoc]
  rw [e1] at this
  rw [atK_add]
  exact this
theorem creep_up {d e : Sd} (h : SideP d.o d.s d.m) (he : SideP e.o e.s e.m) (le : e.s ≤ d.s) (no : Least (upP d e d.o) none) (k : Int) : Rd d e (atK d k) = atK d (k + 1) := by
  obtain ⟨j, j1, hj⟩ := step_in h he
  obtain ⟨t, t0, ht⟩ := far (k := k) j1 0
  obtain ⟨n, hn⟩ := Int.eq_ofNat_of_zero_le ht
  have h1 : ¬ NotUp d e (atK d (n : Int)) := no n
  have h2 := rd_up h he le h1
  rw [← hn, rd_at h he hj, show k + j * t + 1 = k + 1 + j * t by omega, atK_add d (k + 1)] at h2
  omega
theorem not_creep {d e : Sd} (h : SideP d.o d.s d.m) (he : SideP e.o e.s e.m) {k1 : Int} (no : Rd d e (atK d k1) ≤ atK d k1) (k0 : Int) : ∃ n, upP d e (atK d k0) n := by
  obtain ⟨j, j1, hj⟩ := step_in h he
  obtain ⟨t, t0, ht⟩ := far (k := k1) j1 k0
  refine ⟨(k1 + j * t - k0).toNat, ?_⟩
  unfold upP
  rw [← atK_add, Int.toNat_of_nonneg (by omega), show k0 + (k1 + j * t - k0) = k1 + j * t by omega, notup_iff h, rd_at h he hj, atK_add]
  omega
/-- it settles on the wide side -/
def SetW (d e : Sd) (v E : Int) (r : Nat) : Prop := ∃ c : Int, (c = d.s ∨ c = -d.s) ∧ E = v + c * (r : Int) ∧ (∀ i : Nat, i < r → Rd d e (v + c * (i : Int)) = v + c * (i : Int) + c) ∧ Rd d e E = E
theorem up_set {d e : Sd} (h : SideP d.o d.s d.m) (he : SideP e.o e.s e.m) (le : e.s ≤ d.s) {k : Int} {r : Nat} (nl : atK d k ≤ Rd d e (atK d k)) (L : Least (upP d e (atK d k)) (some r)) : SetW d e (atK d k) (atK d k + d.s * (r : Int)) r := by
  have st : ∀ i : Nat, i < r → Rd d e (atK d k + d.s * (i : Int)) = atK d k + d.s * (i : Int) + d.s := fun i hi => by
    have h1 := L.2 i hi
    unfold upP at h1
    rw [← atK_add] at h1 ⊢
    rw [rd_up h he le h1, atK_succ]
  refine ⟨d.s, .inl rfl, rfl, st, ?_⟩
  have h1 := L.1
  unfold upP at h1
  rw [← atK_add] at h1 ⊢
  have h2 := (notup_iff h _).mp h1
  have h3 : atK d (k + (r : Int)) ≤ Rd d e (atK d (k + (r : Int))) := by
    cases r with
    | zero =>
      rw [show k + ((0 : Nat) : Int) = k by omega]
      exact nl
    | succ n =>
      have h4 := st n (by omega)
      rw [← atK_add, ← atK_succ] at h4
      have h5 := rd_mono h he (show atK d (k + (n : Int)) ≤ atK d (k + ((n + 1 : Nat) : Int)) from (atK_le h).mpr (by omega))
      rw [h4] at h5
      rw [show k + ((n + 1 : Nat) : Int) = k + (n : Int) + 1 by omega] at h5 ⊢
      exact h5
  omega
theorem down_set {d e : Sd} (h : SideP d.o d.s d.m) (he : SideP e.o e.s e.m) (le : e.s ≤ d.s) {k : Int} {r : Nat} (nl : Rd d e (atK d k) ≤ atK d k) (L : Least (upP (mirS d) (mirS e) (-atK d k)) (some r)) : SetW d e (atK d k) (atK d k - d.s * (r : Int)) r := by
  have ea : -atK d k = atK (mirS d) (-k) := by rw [mirS_at, Int.neg_neg]
  rw [ea] at L
  have nl2 : atK (mirS d) (-k) ≤ Rd (mirS d) (mirS e) (atK (mirS d) (-k)) := by
    rw [← ea, mirS_Rd h he]
    omega
  obtain ⟨c, hc, eE, st, fx⟩ := up_set (mirS_side h) (mirS_side he) le nl2 L
  have c' : c = d.s ∨ c = -d.s := hc
  have eE2 : atK (mirS d) (-k) + (mirS d).s * (r : Int) = atK (mirS d) (-k) + c * (r : Int) := eE
  have ms : (mirS d).s = d.s := rfl
  rw [ms] at eE2 fx
  rw [← ea] at st fx eE2
  refine ⟨-c, by omega, ?_, fun i hi => ?_, ?_⟩
  · rw [Int.neg_mul]
    omega
  · have h1 := st i hi
    rw [show -atK d k + c * (i : Int) = -(atK d k + -c * (i : Int)) by rw [Int.neg_mul]; omega, mirS_Rd h he] at h1
    omega
  · rw [show -atK d k + d.s * (r : Int) = -(atK d k - d.s * (r : Int)) by omega, mirS_Rd h he] at fx
    omega
theorem setw_it {d e : Sd} {v E : Int} {r : Nat} {c : Int} (st : ∀ i : Nat, i < r → Rd d e (v + c * (i : Int)) = v + c * (i : Int) + c) : ∀ i : Nat, i ≤ r → it (Rd d e) i v = v + c * (i : Int)
  | 0, _ => by show v = _; simp
  | i + 1, h => by
    show Rd d e (it (Rd d e) i v) = _
    rw [setw_it (E := E) st i (by omega), st i (by omega), show ((i + 1 : Nat) : Int) = (i : Int) + 1 by omega, Int.mul_add, Int.mul_one]
    omega
theorem setw_stl {d e : Sd} (h : SideP d.o d.s d.m) {v E : Int} {r : Nat} (S : SetW d e v E r) : Stl (Rd d e) v E r := by
  obtain ⟨c, hc, eE, st, fx⟩ := S
  have s0 := h.s0
  have ei := setw_it (E := E) st
  refine ⟨by rw [ei r (Nat.le_refl _)]; exact eE.symm, fx, fun i hi => ?_⟩
  rw [ei i (by omega), ei (i + 1) (by omega), show ((i + 1 : Nat) : Int) = (i : Int) + 1 by omega, Int.mul_add, Int.mul_one]
  rcases hc with e1 | e1 <;> omega
/-- the narrow side is the first one -/
def fT (a b : Sd) (x : Int) : Int := dW a (dW b x)
def lastN (d e : Sd) (y w0 E : Int) : Int := if w0 < E then dW e (E - d.s) else if E < w0 then dW e (E + d.s) else y
theorem setn_stl {d e : Sd} (h : SideP d.o d.s d.m) {y E : Int} {r : Nat} (S : SetW d e (dW d y) E r) : Stl (fT e d) y (dW e E) (if lastN d e y (dW d y) E = dW e E then r else r + 1) := by
  obtain ⟨c, hc, eE, st, fx⟩ := S
  have s0 := h.s0
  have ei : ∀ i : Nat, i ≤ r → dW d (it (fT e d) i y) = dW d y + c * (i : Int) := by
    intro i
    induction i with
    | zero => intro _; show dW d y = _; simp
    | succ i ih =>
      intro hi
      show dW d (dW e (dW d (it (fT e d) i y))) = _
      rw [ih (by omega)]
      have := st i (by omega)
      unfold Rd at this
      rw [this, show ((i + 1 : Nat) : Int) = (i : Int) + 1 by omega, Int.mul_add, Int.mul_one]
      omega
  have e1 : it (fT e d) (r + 1) y = dW e E := by
    show dW e (dW d (it (fT e d) r y)) = _
    rw [ei r (Nat.le_refl _), ← eE]
  have fx2 : fT e d (dW e E) = dW e E := by
    show dW e (dW d (dW e E)) = _
    have : dW d (dW e E) = E := fx
    rw [this]
  have ne : ∀ i, i < r → it (fT e d) (i + 1) y ≠ it (fT e d) i y := by
    intro i hi z
    have h1 := ei i (by omega)
    have h2 := ei (i + 1) (by omega)
    rw [z, h1, show ((i + 1 : Nat) : Int) = (i : Int) + 1 by omega, Int.mul_add, Int.mul_one] at h2
    rcases hc with e1 | e1 <;> omega
  have el : it (fT e d) r y = lastN d e y (dW d y) E := by
    unfold lastN
    cases r with
    | zero =>
      have : E = dW d y := by rw [eE]; simp
      rw [if_neg (by omega), if_neg (by omega)]
      rfl
    | succ n =>
      have h1 : it (fT e d) (n + 1) y = dW e (dW d y + c * (n : Int)) := by
        show dW e (dW d (it (fT e d) n y)) = _
        rw [ei n (by omega)]
      have h2 : E = dW d y + c * (n : Int) + c := by
        rw [eE, show ((n + 1 : Nat) : Int) = (n : Int) + 1 by omega, Int.mul_add, Int.mul_one]
        omega
      rw [h1]
      rcases hc with e1 | e1
      · have p : 0 ≤ c * (n : Int) := Int.mul_nonneg (by omega) (by omega)
        rw [if_pos (by omega)]
        congr 1
        omega
      · have p : (-c) * (n : Int) ≥ 0 := Int.mul_nonneg (by omega) (by omega)
        rw [Int.neg_mul] at p
        rw [if_neg (by omega), if_pos (by omega)]
        congr 1
        omega
  by_cases z : lastN d e y (dW d y) E = dW e E
  · rw [if_pos z]
    exact ⟨el.trans z, fx2, ne⟩
  · rw [if_neg z]
    refine ⟨e1, fx2, fun i hi => ?_⟩
    by_cases y' : i < r
    · exact ne i y'
    · obtain rfl : i = r := by omega
      rw [e1, el]
      exact fun w => z w.symm
/-- a creeping value creeps from each side -/
theorem creep_crp {d e : Sd} (h : SideP d.o d.s d.m) {c : Int} (ch : (c = d.s ∧ ∀ k, Rd d e (atK d k) = atK d (k + 1)) ∨ (c = -d.s ∧ ∀ k, Rd d e (atK d k) = atK d (k - 1))) : c ≠ 0 ∧ ∀ k, Rd d e (atK d k) = atK d k + c := by
  have s0 := h.s0
  rcases ch with ⟨e1, st⟩ | ⟨e1, st⟩
  · exact ⟨by omega, fun k => by rw [st, atK_succ, e1]⟩
  · refine ⟨by omega, fun k => ?_⟩
    rw [st]
    have := atK_succ d (k - 1)
    rw [show k - 1 + 1 = k by omega] at this
    omega
theorem crp_wide {d e : Sd} (h : SideP d.o d.s d.m) {ss : List Sd} (hd : d ∈ ss) {c : Int} (ch : c ≠ 0 ∧ ∀ k, Rd d e (atK d k) = atK d k + c) (v : Int) : Crp (fT d e) (comN ss : Int) (dW d v) c := by
  obtain ⟨c0, st⟩ := ch
  refine ⟨c0, dW d, dW_per h hd, fun i => ?_⟩
  obtain ⟨k, hk⟩ := dW_is d v
  have ei : ∀ i : Nat, ∃ k', it (fT d e) i (dW d v) = atK d k' ∧ atK d k' = dW d v + c * (i : Int) := by
    intro i
    induction i with
    | zero => exact ⟨k, hk, by rw [← hk]; simp⟩
    | succ i ih =>
      obtain ⟨k', e1, e2⟩ := ih
      have h1 : it (fT d e) (i + 1) (dW d v) = Rd d e (atK d k') := by
        show fT d e (it (fT d e) i (dW d v)) = _
        rw [e1]
        rfl
      rw [h1]
      obtain ⟨k2, hk2⟩ := dW_is d (dW e (atK d k'))
      have hk3 : Rd d e (atK d k') = atK d k2 := hk2
      refine ⟨k2, hk3, ?_⟩
      rw [← hk3, st, e2, show ((i + 1 : Nat) : Int) = (i : Int) + 1 by omega, Int.mul_add, Int.mul_one]
      omega
  obtain ⟨k', e1, e2⟩ := ei i
  rw [e1, dW_at h, e2, hk, dW_at h]
theorem crp_narrow {d e : Sd} (h : SideP d.o d.s d.m) {ss : List Sd} (hd : d ∈ ss) {c : Int} (ch : c ≠ 0 ∧ ∀ k, Rd d e (atK d k) = atK d k + c) (y : Int) : Crp (fT e d) (comN ss : Int) y c := by
  obtain ⟨c0, st⟩ := ch
  refine ⟨c0, dW d, dW_per h hd, fun i => ?_⟩
  induction i with
  | zero => show dW d y = _; simp
  | succ i ih =>
    show dW d (dW e (dW d (it (fT e d) i y))) = _
    obtain ⟨k, hk⟩ := dW_is d (it (fT e d) i y)
    have h1 := st k
    unfold Rd at h1
    rw [hk, h1, ← hk, ih, show ((i + 1 : Nat) : Int) = (i : Int) + 1 by omega, Int.mul_add, Int.mul_one]
    omega
theorem creep_uniq {d e : Sd} (h : SideP d.o d.s d.m) {c c' : Int} (a : CreepP d e c) (b : CreepP d e c') : c = c' := by
  have s0 := h.s0
  have two : ∀ {c c' : Int}, CreepP d e c → CreepP d e c' → c ≠ c' → (c = d.s ∨ c = -d.s) → (c' = d.s ∨ c' = -d.s) → False := by
    intro c c' a b ne _ _
    rcases a with ⟨e1, st⟩ | ⟨e1, st⟩ | ⟨e1, _⟩ <;> rcases b with ⟨e2, st2⟩ | ⟨e2, st2⟩ | ⟨e2, _⟩ <;> try omega
    · have h1 := st 0
      rw [st2 0] at h1
      have := (atK_lt h (j := 0 - 1) (k := 0 + 1)).mpr (by omega)
      omega
    · have h1 := st 0
      rw [st2 0] at h1
      have := (atK_lt h (j := 0 - 1) (k := 0 + 1)).mpr (by omega)
      omega
  have zero : ∀ {c : Int}, CreepP d e c → (∃ k, Rd d e (atK d k) ≤ atK d k) → (∃ k, atK d k ≤ Rd d e (atK d k)) → c = 0 := by
    intro c a ⟨k1, h1⟩ ⟨k2, h2⟩
    rcases a with ⟨e1, st⟩ | ⟨e1, st⟩ | ⟨e1, _⟩
    · exfalso
      rw [st, atK_le h] at h1
      omega
    · exfalso
      rw [st, atK_le h] at h2
      omega
    · exact e1
  have a2 := a
  have b2 := b
  rcases a2 with ⟨e1, st⟩ | ⟨e1, st⟩ | ⟨e1, x, y⟩
  · rcases b2 with ⟨e2, st2⟩ | ⟨e2, st2⟩ | ⟨e2, x, y⟩
    · omega
    · by_cases z : c = c'
      · exact z
      · exact (two a b z (.inl e1) (.inr e2)).elim
    · rw [e2]; exact zero a x y
  · rcases b2 with ⟨e2, st2⟩ | ⟨e2, st2⟩ | ⟨e2, x, y⟩
    · by_cases z : c = c'
      · exact z
      · exact (two a b z (.inr e1) (.inl e2)).elim
    · omega
    · rw [e2]; exact zero a x y
  · rw [e1]; exact (zero b x y).symm
end HT
namespace HT
open PySem L2
def BlksL (H' : Hp) (A : Addr) (d : Sd) (L : Int) : Prop := ∃ ps : List Addr, H' A = some (.lst (ps.map V.ref)) ∧ ps.length = (figsN d.s d.m).toNat ∧ ∀ (i : Nat) (b : Addr), ps[i]? = some b → H' b = some (blkV (stL d L (i : Int)) (moL d L (i : Int)) (perM d.s d.m))
def spUnrL : Sp := fun vs H Q _ => ∃ (p : Addr) (d : Sd) (L : Int), vs = [.ref p, .int L] ∧ H p = some (sideV d.o d.s d.m) ∧ SideP d.o d.s d.m ∧ 1 ≤ L ∧ L < 2 ^ 200 ∧ ∀ (A : Addr) (H' : Hp), H A = none → Same H H' → BlksL H' A d L → Q (.ref A) H'
section
variable {P : Program} {w : World} {K : PySem.W.Frag} {mg : Str → Option Value} {base : Heap} {fB fH fI : Addr} {dB dH dI : FuncData}
theorem ok_unrL {f : Addr} {fd : FuncData} (F : FunD K "unraised" "unraised" (defArgs s_unraised) (defBody s_unraised) (defScope s_unraised) [.int 1] [] f fd) (B : Blt mg) (MT : MaxT mg) (Pe : Cal P w K mg base "period_of" 1 ["side"] spPerOf fB dB) (Sp' : Cal P w K mg base "span" 4 ["side", "figure"] spSpan fH dH) : FnOk P w K mg base CX0 5 f fd ["side", "least"] spUnrL := by
  refine F.ok sc_unraised (fun vs H Q E h => ?_) (fun cdv A outer s0 H vs Q E hr h => ?_)
  · obtain ⟨p, d, L0, rfl, _⟩ := h
    rfl
  · obtain ⟨p, ⟨o, s, m⟩, L0, rfl, hp, S, l1, l2, q⟩ := h
    dsimp only at hp S
    have nd := sc_unraised.nd
    refine ⟨_, (pss_cons (ps_asg (pv 0) (pg_tup (by rfl) (pgs_cons (pg_name (i := 2) nd rfl (Or.inl rfl)) (pgs_cons (pg_name (i := 3) nd rfl (Or.inl rfl)) (pgs_cons (pg_name (i := 4) nd rfl (Or.inl rfl)) pgs_nil)))))
      (pss_cons (ps_set (i := 5) nd rfl (Or.inl rfl) (pcl Pe hr (by decide) (by rfl) (pa_cons (pv 0) pa_nil)))
      (pss_cons (ps_set (i := 6) nd rfl (Or.inl rfl) (pe_lst pa_nil))
      (pss_cons (ps_for (passes_of rfl) rfl (pi_range1 (by rfl) B.range (pa_cons (pe_op op_fdivW (pv 5) (pv 3)) pa_nil)) (pg_name (i := 7) nd rfl (Or.inl rfl)) (pss_cons (ps_asg (pcl Sp' hr (by decide) (by rfl) (pa_cons (pv 0) (pa_cons (pv 7) pa_nil))) (pg_tup (by rfl) (pgs_cons (pg_name (i := 8) nd rfl (Or.inl rfl)) (pgs_cons (pg_name (i := 9) nd rfl (Or.inl rfl)) pgs_nil))))
      (pss_cons (ps_set (i := 10) nd rfl (Or.inl rfl) (pe_callB (call_max2 rfl) (by rfl) MT.max (by decide +kernel) (pa_cons (pv 8) (pa_cons (pe_op op_add (pe_op op_sub (pe_op op_add (pv 2) (pe_op op_mulW (pv 3) (pv 7))) (pv 1)) pe_int) pa_nil))))
      (pss_one (ps_expr (pe_bm PySem.F.plainAttrs_list PySem.F.slot_list_append PySem.F.type_list_append mt_append (pv 6) (pa_cons (pe_tup (pa_cons (pv 10) (pa_cons (pe_op op_sub (pv 9) (pv 10)) (pa_cons (pv 5) pa_nil)))) pa_nil)))))))
      (pss_one (ps_ret (pv 6))))))), ?_⟩
    have s1 := S.s0
    have s2 := S.s1
    have o0 := S.o0
    have o1 := S.o1
    have fb := figs_bd (m := m) S.s0
    walk_at "rd"
    refine ⟨p, _, rfl, SqT.of hp, rfl, _, _, rfl, _, _, rfl, _, _, rfl, rfl, ?_⟩
    walk_at "rd"
    refine ⟨p, o, s, m, rfl, hp, S, ?_⟩
    walk_at "rd"
    refine ⟨(by show 0 ≤ sizeLine; decide), fun L nL => ?_⟩
    walk_at "rd"
    refine ⟨fdiv_ok _ (by omega) (lg_big (by omega) (by omega)), ?_⟩
    walk_at "rd"
    have ef : perM s m / s = figsN s m := rfl
    refine ⟨by omega, by omega, ?_⟩
    refine for_range (n := (perM s m / s).toNat) (fun i st H' => ∃ (x7 x8 x9 x10 : Option V) (ps : List Addr), st = [some (.ref p), some (.int L0), some (.int o), some (.int s), some (.str m), some (.int (perM s m)), some (.ref L), x7, x8, x9, x10] ∧ Same H H' ∧ H' L = some (.lst (ps.map V.ref)) ∧ ps.length = i ∧ (∀ (j : Nat) (b : Addr), ps[j]? = some b → H' b = some (blkV (stL ⟨o, s, m⟩ L0 (j : Int)) (moL ⟨o, s, m⟩ L0 (j : Int)) (perM s m)))) ⟨none, none, none, none, [], rfl, fun b u z => (upd_ne (ne_of_none z nL)).trans z, upd_same, rfl, fun j b z => nomatch z⟩ ?_ ?_
    · rintro i st H' hi ⟨x7, x8, x9, x10, ps, rfl, sm, hL, lp, at_⟩
      have hi2 : i < 2 := by omega
      have hp' := sm _ _ hp
      walk_at "rd"
      refine ⟨p, o, s, m, 0 + (i : Int), rfl, hp', S, (by unfold BdK; omega), fun d H2 s2' nd2 hd => ?_⟩
      refine ⟨d, _, rfl, SqT.of hd, rfl, _, _, rfl, _, _, rfl, rfl, ?_⟩
      walk_at "rd"
      refine ⟨mulW (by omega) (by omega), ?_⟩
      walk_at "rd"
      refine ⟨_, _, rfl, ?_⟩
      walk_at "rd"
      have hL2 := s2' _ _ hL
      refine ⟨.inl ⟨rfl, _, SqL.of hL2⟩, ?_⟩
      walk_at "rd"
      refine ⟨(by show 3 ≤ sizeLine; decide), fun b nb => ?_⟩
      have nbL : b ≠ L := ne_of_none hL2 nb |>.symm
      have lh := low_high (o := o) (k := (i : Int)) S.md S.s0
      have e0 : (0 : Int) + (i : Int) = (i : Int) := by omega
      refine ⟨L, _, _, rfl, rfl, (upd_ne nbL.symm).trans hL2, (by rw [List.length_map, lp]; exact Nat.lt_of_lt_of_le (by omega : i < 8) (by decide)), ?_⟩
      refine ⟨_, _, _, _, ps ++ [b], rfl, ?_, ?_, by rw [List.length_append, lp]; rfl, ?_⟩
      · intro c u z
        have z3 := s2' _ _ (sm _ _ z)
        exact (upd_ne (ne_of_none z nL)).trans ((upd_ne (ne_of_none z3 nb)).trans z3)
      · rw [List.map_append]; exact upd_same
      · intro j c hc
        rcases Nat.lt_or_ge j ps.length with y | y
        · rw [List.getElem?_append_left y] at hc
          have g := s2' _ _ (at_ j c hc)
          exact (upd_ne (ne_of g hL2 (by intro y; cases y))).trans ((upd_ne (ne_of_none g nb)).trans g)
        · rw [List.getElem?_append_right y] at hc
          have ej : j - ps.length = 0 := by
            have := (List.getElem?_eq_some_iff.mp hc).1
            simp at this
            omega
          rw [ej] at hc
          cases hc
          rw [show j = i by omega]
          refine (upd_ne nbL).trans (upd_same.trans ?_)
          rw [e0]
          rfl
    · rintro st H' ⟨x7, x8, x9, x10, ps, rfl, sm, hL, lp, at_⟩
      walk_at "rd"
      exact q L H' nL sm ⟨ps, hL, by rw [lp, ef], at_⟩
end
end HT
namespace HT
open PySem L2
def spWN : Sp := fun vs H Q _ => ∃ (a b : Addr) (d e : Sd), vs = [.ref a, .ref b] ∧ H a = some (sideV d.o d.s d.m) ∧ H b = some (sideV e.o e.s e.m) ∧ ∀ (T : Addr) (H' : Hp), H T = none → Same H H' → H' T = some (.tup (if e.s < d.s then [.ref a, .ref b] else [.ref b, .ref a])) → Q (.ref T) H'
def spRU : Sp := fun vs H Q _ => ∃ (a b : Addr) (d e : Sd) (v : Int), vs = [.ref a, .ref b, .int v] ∧ H a = some (sideV d.o d.s d.m) ∧ SideP d.o d.s d.m ∧ H b = some (sideV e.o e.s e.m) ∧ SideP e.o e.s e.m ∧ (-2 ^ 600 < v ∧ v < 2 ^ 600) ∧ ∀ r H', Least (upP d e v) r → Same H H' → Q (oN r) H'
theorem ru_nil {d e : Sd} {v : Int} : RuF d e v [] fun t f => (t : Int) < (0 : Int) ∧ (f : Int) < figsN e.s e.m := ⟨fun y h => absurd h List.not_mem_nil, fun t f k h => by omega⟩
def doneP (e : Sd) (i j : Nat) (t f : Nat) : Prop := (t < i ∧ (f : Int) < figsN e.s e.m) ∨ (t = i ∧ f < j)
theorem ru_add {d e : Sd} (h : SideP d.o d.s d.m) (he : SideP e.o e.s e.m) {v : Int} {ys : List Int} {i j : Nat} (hj : (j : Int) < figsN e.s e.m) (R : RuF d e v ys (doneP e i j)) {r : Option Nat}
    (L : Least (HitS (v + d.s * (i : Int) - stL e (lessT d v i) (j : Int)) (figsN d.s d.m * d.s) (moL e (lessT d v i) (j : Int)) (perM e.s e.m)) r) : RuF d e v (ys ++ (r.map fun k : Nat => (i : Int) + figsN d.s d.m * (k : Int)).toList) (doneP e i (j + 1)) := by
  have fb := figs_bd (m := d.m) h.s0
  refine ⟨fun y hy => ?_, fun t f k D hk => ?_⟩
  · rcases List.mem_append.mp hy with z | z
    · exact R.tr y z
    · cases r with
      | none => exact absurd z List.not_mem_nil
      | some k =>
        have ey : y = (i : Int) + figsN d.s d.m * (k : Int) := List.mem_singleton.mp z
        refine ⟨i + (figsN d.s d.m).toNat * k, ?_, (hit_up h he v i k).mpr ⟨j, hj, L.1⟩⟩
        rw [ey, Int.natCast_add, Int.natCast_mul, Int.toNat_of_nonneg (by omega)]
  · have D2 : doneP e i j t f ∨ (t = i ∧ f = j) := by
      rcases D with z | ⟨z1, z2⟩
      · exact .inl (.inl z)
      · by_cases g : f = j
        · exact .inr ⟨z1, g⟩
        · exact .inl (.inr ⟨z1, by omega⟩)
    rcases D2 with z | ⟨rfl, rfl⟩
    · obtain ⟨y, hy, le⟩ := R.al t f k z hk
      exact ⟨y, List.mem_append_left _ hy, le⟩
    · cases r with
      | none => exact absurd hk (L k)
      | some k0 =>
        refine ⟨(t : Int) + figsN d.s d.m * (k0 : Int), List.mem_append_right _ (List.mem_singleton.mpr rfl), ?_⟩
        have : k0 ≤ k := by
          by_cases g : k < k0
          · exact absurd hk (L.2 k g)
          · omega
        have := Int.mul_le_mul_of_nonneg_left (show (k0 : Int) ≤ (k : Int) by omega) (show (0 : Int) ≤ figsN d.s d.m by omega)
        omega
theorem ru_row {d e : Sd} {v : Int} {ys : List Int} {i : Nat} (he : 1 ≤ figsN e.s e.m) (R : RuF d e v ys (doneP e i (figsN e.s e.m).toNat)) : RuF d e v ys (doneP e (i + 1) 0) :=
  ⟨R.tr, fun t f k D hk => R.al t f k (by
    rcases D with ⟨z1, z2⟩ | ⟨_, z2⟩
    · by_cases g : t = i
      · exact .inr ⟨g, by omega⟩
      · exact .inl ⟨by omega, z2⟩
    · omega) hk⟩
section
variable {P : Program} {w : World} {K : PySem.W.Frag} {mg : Str → Option Value} {base : Heap} {fB fH fI fJ fL : Addr} {dB dH dI dJ dL : FuncData}
theorem ok_wn {f : Addr} {fd : FuncData} (F : Fun K "wide_and_narrow" "wide_and_narrow" s_wide_and_narrow f fd) : FnOk P w K mg base CX0 1 f fd ["first", "second"] spWN := by
  refine F.ok sc_wide_and_narrow (fun vs H Q E h => ?_) (fun cdv A outer s0 H vs Q E hr h => ?_)
  · obtain ⟨a, b, d, e, rfl, _⟩ := h
    rfl
  · obtain ⟨a, b, d, e, rfl, ha, hb, q⟩ := h
    refine ⟨_, (pss_cons (ps_if (pt_cmpR op_gt (pe_ix ix_tup (pv 0) pe_int (fun _ _ => rfl)) (pe_ix ix_tup (pv 1) pe_int (fun _ _ => rfl)) (nomark _)) (pss_one (ps_ret (pe_tup (pa_cons (pv 0) (pa_cons (pv 1) pa_nil))))) pss_nil)
      (pss_one (ps_ret (pe_tup (pa_cons (pv 1) (pa_cons (pv 0) pa_nil)))))), ?_⟩
    walk_at "rd"
    refine ⟨a, _, _, _, rfl, rfl, SqT.of ha, rfl, ?_⟩
    walk_at "rd"
    refine ⟨b, _, _, _, rfl, rfl, SqT.of hb, rfl, ?_⟩
    walk_at "rd"
    refine ite2 (fun z => ?_) (fun z => ?_)
    · have lt := of_decide_eq_true z
      walk_at "rd"
      refine ⟨(by show 2 ≤ sizeLine; decide), fun T nT => ?_⟩
      exact q T _ nT (fun b u z => (upd_ne (ne_of_none z nT)).trans z) (by rw [if_pos lt]; exact upd_same)
    · have lt : ¬ e.s < d.s := fun y => z (decide_eq_true y)
      walk_at "rd"
      refine ⟨(by show 2 ≤ sizeLine; decide), fun T nT => ?_⟩
      exact q T _ nT (fun b u z => (upd_ne (ne_of_none z nT)).trans z) (by rw [if_neg lt]; exact upd_same)
theorem ok_ru {f : Addr} {fd : FuncData} (F : Fun K "rounds_up" "rounds_up" s_rounds_up f fd) (B : Blt mg) (MT : MaxT mg) (Pe : Cal P w K mg base "period_of" 1 ["side"] spPerOf fB dB) (Th : Cal P w K mg base "threshold" 3 ["side", "value"] spBack fH dH) (Un : Cal P w K mg base "unraised" 5 ["side", "least"] spUnrL fI dI) (Fh : Cal P w K mg base "first_hit" 104 ["start", "step", "most", "modulus"] spFH fJ dJ) : FnOk P w K mg base CX0 105 f fd ["wide", "narrow", "value"] spRU := by
  refine F.ok sc_rounds_up (fun vs H Q E h => ?_) (fun cdv A outer s0 H vs Q E hr h => ?_)
  · obtain ⟨a, b, d, e, v, rfl, _⟩ := h
    rfl
  · obtain ⟨a, b, d, e, v, rfl, ha, S, hb, T, hv, q⟩ := h
    have nd := sc_rounds_up.nd
    refine ⟨_, (pss_cons (ps_asg (pv 0) (pg_tup (by rfl) (pgs_cons (pg_name (i := 3) nd rfl (Or.inl rfl)) (pgs_cons (pg_name (i := 4) nd rfl (Or.inl rfl)) (pgs_cons (pg_name (i := 3) nd rfl (Or.inl rfl)) pgs_nil)))))
      (pss_cons (ps_set (i := 5) nd rfl (Or.inl rfl) (pe_op op_fdivW (pcl Pe hr (by decide) (by rfl) (pa_cons (pv 0) pa_nil)) (pv 4)))
      (pss_cons (ps_set (i := 6) nd rfl (Or.inl rfl) (pe_lst pa_nil))
      (pss_cons (ps_for PassesOwn.never rfl (pi_range1 (by rfl) B.range (pa_cons (pv 5) pa_nil)) (pg_name (i := 7) nd rfl (Or.inl rfl)) (pss_cons (ps_set (i := 8) nd rfl (Or.inl rfl) (pe_op op_add (pv 2) (pe_op op_mulW (pv 4) (pv 7))))
      (pss_cons (ps_set (i := 9) nd rfl (Or.inl rfl) (pe_op op_sub (pcl Th hr (by decide) (by rfl) (pa_cons (pv 0) (pa_cons (pe_op op_add (pv 8) (pv 4)) pa_nil))) (pv 8)))
      (pss_one (ps_for PassesOwn.never rfl (pi_list (pcl Un hr (by decide) (by rfl) (pa_cons (pv 1) (pa_cons (pv 9) pa_nil)))) (pg_tup (by rfl) (pgs_cons (pg_name (i := 10) nd rfl (Or.inl rfl)) (pgs_cons (pg_name (i := 11) nd rfl (Or.inl rfl)) (pgs_cons (pg_name (i := 12) nd rfl (Or.inl rfl)) pgs_nil)))) (pss_cons (ps_set (i := 13) nd rfl (Or.inl rfl) (pcl Fh hr (by decide) (by rfl) (pa_cons (pe_op op_sub (pv 8) (pv 10)) (pa_cons (pe_op op_mulW (pv 5) (pv 4)) (pa_cons (pv 11) (pa_cons (pv 12) pa_nil))))))
      (pss_one (ps_if (pt_cmpR op_notN (pv 13) pe_non (nomark _)) (pss_one (ps_expr (pe_bm PySem.F.plainAttrs_list PySem.F.slot_list_append PySem.F.type_list_append mt_append (pv 6) (pa_cons (pe_op op_add (pv 7) (pe_op op_mulW (pv 5) (pv 13))) pa_nil)))) pss_nil))))))))
      (pss_one (ps_ret (pe_callBK (cr_minDf rfl hr.units) (by rfl) MT.min (by decide +kernel) (pa_cons (pv 6) pa_nil) (pk_cons pe_non pk_nil)))))))), ?_⟩
    have s1 := S.s0
    have s2 := S.s1
    have o0 := S.o0
    have o1 := S.o1
    have fb := figs_bd (m := d.m) S.s0
    have fe := figs_bd (m := e.m) T.s0
    walk_at "rd"
    refine ⟨a, _, rfl, SqT.of ha, rfl, _, _, rfl, _, _, rfl, _, _, rfl, rfl, ?_⟩
    walk_at "rd"
    refine ⟨a, d.o, d.s, d.m, rfl, ha, S, ?_⟩
    walk_at "rd"
    refine ⟨fdiv_ok _ (by omega) (lg_big (by omega) (by omega)), ?_⟩
    walk_at "rd"
    walk_at "rd"
    refine ⟨(by show 0 ≤ sizeLine; decide), fun N nN => ?_⟩
    generalize e_N : upd H N _ = H1
    have fN : H1 N = some (.lst []) := by rw [← e_N]; exact upd_same
    have s01 : Same H H1 := by rw [← e_N]; exact fun b u z => (upd_ne (ne_of_none z nN)).trans z
    clear e_N
    walk_at "rd"
    have ef : perM d.s d.m / d.s = figsN d.s d.m := rfl
    rw [ef]
    refine ⟨by omega, by omega, ?_⟩
    refine for_range (n := (figsN d.s d.m).toNat) (fun i st H' => ∃ (x7 x8 x9 x10 x11 x12 x13 : Option V) (ys : List Int), st = [some (.ref a), some (.ref b), some (.int v), some (.str d.m), some (.int d.s), some (.int (figsN d.s d.m)), some (.ref N), x7, x8, x9, x10, x11, x12, x13] ∧ Same H H' ∧ H' N = some (.lst (ys.map V.int)) ∧ ys.length ≤ 2 * i ∧ RuF d e v ys (doneP e i 0))
      ⟨none, none, none, none, none, none, none, [], rfl, s01, fN, Nat.zero_le _, ⟨fun y h => absurd h List.not_mem_nil, fun t f k D => by rcases D with ⟨x, _⟩ | ⟨_, y⟩ <;> omega⟩⟩ ?_ ?_
    · rintro i st H' hi ⟨x7, x8, x9, x10, x11, x12, x13, ys, rfl, sm, hN, ln, R⟩
      have hi2 : i < 2 := by omega
      have ha' := sm _ _ ha
      have hb' := sm _ _ hb
      have ei : (0 : Int) + (i : Int) = (i : Int) := by omega
      obtain ⟨lp, lq⟩ := less_pos S v i
      have si : d.s * (i : Int) ≤ d.s * 1 := Int.mul_le_mul_of_nonneg_left (by omega) (by omega)
      have si0 : 0 ≤ d.s * (i : Int) := Int.mul_nonneg (by omega) (by omega)
      walk_at "rd"
      refine ⟨mulW (by omega) (by omega), ?_⟩
      rw [ei]
      walk_at "rd"
      refine ⟨a, d.o, d.s, d.m, v + d.s * (i : Int) + d.s, rfl, ha', S, by omega, by omega, fun H2 s12 => ?_⟩
      walk_at "rd"
      refine ⟨b, e, lessT d v i, rfl, s12 _ _ hb', T, lp, by omega, fun L2 H4 nL2 s34 B2 => ?_⟩
      obtain ⟨ps2, hL2, lp2, at2⟩ := B2
      have hN4 := s34 _ _ (s12 _ _ hN)
      have nL2N : L2 ≠ N := fun z => by rw [z, s12 _ _ hN] at nL2; cases nL2
      have nNH : H N = none := nN
      walk_at "rd"
      refine ⟨⟨_, SqL.of hL2⟩, ?_⟩
      refine for_list (K := K) (a := L2) (xs := ps2.map V.ref) (fun j st H5 => ∃ (y10 y11 y12 y13 : Option V) (ys : List Int), st = [some (.ref a), some (.ref b), some (.int v), some (.str d.m), some (.int d.s), some (.int (figsN d.s d.m)), some (.ref N), some (.int (i : Int)), some (.int (v + d.s * (i : Int))), some (.int (lessT d v i)), y10, y11, y12, y13] ∧ (∀ b u, H4 b = some u → b ≠ N → H5 b = some u) ∧ H5 N = some (.lst (ys.map V.int)) ∧ ys.length ≤ 2 * i + j ∧ RuF d e v ys (doneP e i j))
        ⟨x10, x11, x12, x13, ys, rfl, fun b u z _ => z, hN4, ln, R⟩ (fun _ _ _ _ ⟨_, _, _, _, _, _, pr, _⟩ => SqL.of (pr _ _ hL2 nL2N)) ?_ ?_
      · rintro j y st H5 hy ⟨y10, y11, y12, y13, ys, rfl, pr4, hN5, ln, R⟩
        obtain ⟨b2, hb2, rfl⟩ : ∃ b, ps2[j]? = some b ∧ y = .ref b := by
          rw [List.getElem?_map] at hy
          cases e : ps2[j]? with
          | none => rw [e] at hy; cases hy
          | some b => rw [e] at hy; exact ⟨b, rfl, (Option.some.inj hy).symm⟩
        have jl : j < 2 := by
          have := (List.getElem?_eq_some_iff.mp hb2).1
          omega
        have jf : (j : Int) < figsN e.s e.m := by
          have := (List.getElem?_eq_some_iff.mp hb2).1
          omega
        have g2 := at2 j b2 hb2
        have g2n : b2 ≠ N := fun z => by rw [z, hN4] at g2; cases g2
        have g2' := pr4 _ _ g2 g2n
        have pe := perM_bd T
        obtain ⟨m0, m1⟩ := moL_pos T lp (j : Int)
        walk_at "rd"
        refine ⟨b2, _, rfl, SqT.of g2', rfl, _, _, rfl, _, _, rfl, _, _, rfl, rfl, ?_⟩
        walk_at "rd"
        refine ⟨mulW (by omega) (by omega), ?_⟩
        walk_at "rd"
        refine ⟨_, _, _, _, rfl, by omega, by omega, m0, fun r L => ?_⟩
        have R2 := ru_add S T jf R L
        walk_at "rd"
        cases r with
        | none =>
          refine ⟨rfl, ?_⟩
          walk_at "rd"
          rw [Option.map_none, Option.toList_none, List.append_nil] at R2
          exact ⟨_, _, _, _, ys, rfl, pr4, hN5, by omega, R2⟩
        | some k =>
          refine ⟨rfl, ?_⟩
          walk_at "rd"
          have kl := hitS_lt (show 0 < perM e.s e.m by omega) L
          refine ⟨.inl ⟨rfl, _, SqL.of hN5⟩, ?_⟩
          walk_at "rd"
          refine ⟨mulW (by omega) (by omega), ?_⟩
          walk_at "rd"
          refine ⟨N, _, _, rfl, rfl, hN5, (by rw [List.length_map]; exact Nat.lt_of_le_of_lt ln (Nat.lt_of_lt_of_le (by omega : 2 * i + j < 100) (by decide))), ?_⟩
          refine ⟨_, _, _, _, ys ++ [(i : Int) + figsN d.s d.m * (k : Int)], rfl, fun b u z nb => (upd_ne nb).trans (pr4 _ _ z nb), ?_, by rw [List.length_append]; show ys.length + 1 ≤ _; omega, R2⟩
          rw [List.map_append]
          exact upd_same
      · rintro st H5 ⟨y10, y11, y12, y13, ys, rfl, pr4, hN5, ln, R⟩
        rw [List.length_map, lp2] at R ln
        refine ⟨_, _, _, _, _, _, _, ys, rfl, fun b u z => ?_, hN5, by omega, ru_row (by omega) R⟩
        exact pr4 _ _ (s34 _ _ (s12 _ _ (sm _ _ z))) (ne_of_none z nNH)
    · rintro st H' ⟨x7, x8, x9, x10, x11, x12, x13, ys, rfl, sm, hN, ln, R⟩
      have R2 : RuF d e v ys fun t f => (t : Int) < figsN d.s d.m ∧ (f : Int) < figsN e.s e.m := ⟨R.tr, fun t f k D hk => R.al t f k (.inl ⟨by omega, D.2⟩) hk⟩
      obtain ⟨r1, r2⟩ := ru_least S T R2
      walk_at "rd"
      refine ⟨N, ys, .non, rfl, rfl, SqL.of hN, fun z => q none H' (r1 z) sm, fun m mi mm => ?_⟩
      obtain ⟨L, m0⟩ := r2 m mi mm
      have := q (some m.toNat) H' L sm
      rw [show oN (some m.toNat) = V.int m from congrArg V.int (Int.toNat_of_nonneg m0)] at this
      exact this
end
end HT
namespace HT
open PySem L2
theorem dueN {d : Sd} {x : Int} (h : SideP d.o d.s d.m) : dueM (mirD d).o (mirD d).s (mirD d).m (-x) = -dueM d.o d.s d.m x := due_mirror h.md h.s0
theorem una_mir {ss : List Sd} (hs : ∀ d ∈ ss, SideP d.o d.s d.m) {x : Int} : UnA (ss.map mirD) (-x) ↔ ∀ d ∈ ss, x ≤ dueM d.o d.s d.m x := by
  constructor
  · intro h d hd
    have := h (mirD d) (List.mem_map.mpr ⟨d, hd, rfl⟩)
    rw [dueN (hs d hd)] at this
    omega
  · intro h e he
    obtain ⟨d, hd, rfl⟩ := List.mem_map.mp he
    rw [dueN (hs d hd)]
    have := h d hd
    omega
theorem dwn_com {ss : List Sd} (hs : ∀ d ∈ ss, SideP d.o d.s d.m) (x t : Int) : (∀ d ∈ ss, x + (comN ss : Int) * t ≤ dueM d.o d.s d.m (x + (comN ss : Int) * t)) ↔ ∀ d ∈ ss, x ≤ dueM d.o d.s d.m x := by
  have key : ∀ d ∈ ss, dueM d.o d.s d.m (x + (comN ss : Int) * t) = dueM d.o d.s d.m x + (comN ss : Int) * t := fun d hd =>
    due_dvd (hs d hd).md (hs d hd).s0 (Int.dvd_mul_of_dvd_left (per_com hd (hs d hd)))
  constructor
  · intro h d hd
    have := h d hd
    rw [key d hd] at this
    omega
  · intro h d hd
    rw [key d hd]
    have := h d hd
    omega
theorem in_period {c x : Int} (hc : 0 < c) : ∃ y t : Int, x = y + c * t ∧ 0 ≤ y ∧ y < c := by
  refine ⟨x % c, x / c, ?_, Int.emod_nonneg _ (by omega), Int.emod_lt_of_pos _ hc⟩
  have := Int.emod_add_mul_ediv x c
  omega
def spWrL : Sp := fun vs H Q _ => ∃ (l : Addr) (xs : List V) (ss : List Sd) (v : Int), vs = [.ref l, .int v] ∧ SidesAt H l xs ss ∧ (-2 ^ 900 < v ∧ v < 2 ^ 900) ∧ ∀ (L : Addr) (H' : Hp), H L = none → Same H H' → H' L = some (.lst ((ss.map fun d => dueM d.o d.s d.m v).map V.int)) → Q (.ref L) H'
section
variable {P : Program} {w : World} {K : PySem.W.Frag} {mg : Str → Option Value} {base : Heap} {fB fH fI fJ fL fM fN : Addr} {dB dH dI dJ dL dM dN : FuncData}
theorem ok_wrl {f : Addr} {fd : FuncData} (F : Fun K "_law_written" "_law_written" s_L_written f fd) (Wr : Cal P w K mg base "_law_handed" 2 ["_law_side", "_law_value"] spDue fB dB) : FnOk P w K mg base CX0 3 f fd ["_law_sides", "_law_value"] spWrL := by
  refine F.ok sc_L_written (fun vs H Q E h => ?_) (fun cdv A outer s0 H vs Q E hr h => ?_)
  · obtain ⟨l, xs, ss, v, rfl, _⟩ := h
    rfl
  · obtain ⟨l, xs, ss, v, rfl, SS, hv, q⟩ := h
    have nd := sc_L_written.nd
    refine ⟨_, (pss_one (ps_ret (pe_lc (own := [("_law_one", 2)]) (g := gName 2) (tt := tYes) rfl nd (pi_list (pv 0)) (blkOk_by (N := ["_law_sides", "_law_value", "_law_one"]) (sc := defScope s_L_written) (by decide +kernel)) (fun _ _ _ _ _ => pg_name (i := 2) nd rfl (Or.inl rfl)) (fun _ _ _ _ _ => pts_nil) (fun _ _ _ _ _ => (pcl Wr hr (by decide) (by rfl) (pa_cons (pv 2) (pa_cons (pv 1) pa_nil))))))), ?_⟩
    walk_at "rd"
    refine ⟨⟨_, SqL.of SS.hl⟩, fun L nL => ?_⟩
    refine lc_list (K := K) (a := l) (xs := xs) (fun i H3 => H3 L = some (.lst (((ss.take i).map fun d => dueM d.o d.s d.m v).map V.int)) ∧ i ≤ ss.length ∧ Same H H3)
      ⟨upd_same, Nat.zero_le _, fun b u z => (upd_ne (ne_of_none z nL)).trans z⟩ (fun _ _ _ ⟨_, _, sm⟩ => SqL.of (sm _ _ SS.hl)) ?_ ?_
    · rintro i y H3 hy ⟨hD, li, sm⟩
      obtain ⟨d, p, ed, rfl, hp, sp⟩ := SS.item hy
      have il : i < ss.length := (List.getElem?_eq_some_iff.mp ed).1
      refine ⟨rfl, ?_⟩
      walk_at "rd"
      refine ⟨p, d.o, d.s, d.m, v, rfl, sm _ _ hp, sp, (by unfold Bd; omega), fun H4 s34 => ?_⟩
      have hD4 := s34 _ _ hD
      have es : (ss.take (i + 1)).map (fun d => dueM d.o d.s d.m v) = (ss.take i).map (fun d => dueM d.o d.s d.m v) ++ [dueM d.o d.s d.m v] := by
        rw [List.take_succ, ed, List.map_append]
        rfl
      walk_at "rd"
      refine ⟨_, hD4, ?_, ?_, il, fun b u y => (upd_ne (ne_of_none y nL)).trans (s34 _ _ (sm _ _ y))⟩
      · rw [List.length_map, List.length_map]
        exact Nat.lt_of_le_of_lt (Nat.le_trans (List.length_take_le' _ _) SS.l4) (by decide)
      · rw [es, List.map_append]
        exact upd_same
    · rintro H3 ⟨hD, li, sm⟩
      rw [SS.len, List.take_length] at hD
      walk_at "rd"
      exact q L H3 nL sm hD
theorem max_iff {ns : List Int} {m u : Int} (mi : m ∈ ns) (mm : ∀ y ∈ ns, y ≤ m) : m ≤ u ↔ ∀ y ∈ ns, y ≤ u :=
  ⟨fun h y hy => Int.le_trans (mm y hy) h, fun h => h m mi⟩
theorem min_iff {ns : List Int} {m u : Int} (mi : m ∈ ns) (mm : ∀ y ∈ ns, m ≤ y) : u ≤ m ↔ ∀ y ∈ ns, u ≤ y :=
  ⟨fun h y hy => Int.le_trans h (mm y hy), fun h => h m mi⟩
theorem all_due {ss : List Sd} {v : Int} {R : Int → Prop} : (∀ y ∈ ss.map fun d => dueM d.o d.s d.m v, R y) ↔ ∀ d ∈ ss, R (dueM d.o d.s d.m v) := by
  constructor
  · intro h d hd
    exact h _ (List.mem_map.mpr ⟨d, hd, rfl⟩)
  · intro h y hy
    obtain ⟨d, hd, rfl⟩ := List.mem_map.mp hy
    exact h d hd
end
end HT
namespace HT
open PySem L2
theorem it_add (f : Int → Int) (x : Int) : ∀ n, it f n (f x) = it f (n + 1) x
  | 0 => rfl
  | n + 1 => by
    show f (it f n (f x)) = f (it f (n + 1) x)
    rw [it_add f x n]
/-- one hand-over ahead -/
theorem stl_cons {f : Int → Int} {h E : Int} {r : Nat} (ne : f h ≠ h) (s : Stl f (f h) E r) : Stl f h E (r + 1) := by
  obtain ⟨a, b, c⟩ := s
  refine ⟨by rw [← it_add]; exact a, b, fun i hi => ?_⟩
  cases i with
  | zero => exact ne
  | succ i =>
    have := c i (by omega)
    rw [it_add, it_add] at this
    exact this
theorem stl_fix {f : Int → Int} {h : Int} (e : f h = h) : Stl f h h 0 := ⟨rfl, e, fun i hi => absurd hi (Nat.not_lt_zero _)⟩
/-- the greatest writer of two, or the value -/
def hi2 (d e : Sd) (x : Int) : Int := max x (max (dW d x) (dW e x))
theorem hi2_comm (d e : Sd) (x : Int) : hi2 d e x = hi2 e d x := by
  unfold hi2
  rw [Int.max_comm (dW d x)]
theorem dW_dW {d : Sd} (h : SideP d.o d.s d.m) (x : Int) : dW d (dW d x) = dW d x := by
  obtain ⟨k, hk⟩ := dW_is d x
  rw [hk, dW_at h]
/-- a round that raises: first by the narrow one, then by the wide one -/
theorem hi_two {d e : Sd} (h : SideP d.o d.s d.m) (he : SideP e.o e.s e.m) (le : e.s ≤ d.s) {k : Int} (z : ¬ NotUp d e (atK d k)) : hi2 d e (atK d k) ≠ atK d k ∧ hi2 d e (hi2 d e (atK d k)) = atK d (k + 1) ∧ hi2 d e (hi2 d e (atK d k)) ≠ hi2 d e (atK d k) := by
  have r := rd_up h he le z
  have w0 := dW_at h k
  have bp := back_pos (o := d.o) (v := atK d k) h.md h.s0
  have ge : backM d.o d.s d.m (atK d k + d.s) ≤ dW e (atK d k) := by
    unfold NotUp at z
    omega
  have near := due_near (o := e.o) (v := atK d k) he.md he.s0
  have near' : dW e (atK d k) - atK d k < e.s := near.1
  have as := atK_succ d k
  have e1 : hi2 d e (atK d k) = dW e (atK d k) := by
    unfold hi2
    rw [w0]
    omega
  have r2 : dW d (dW e (atK d k)) = atK d (k + 1) := r
  have e2 : hi2 d e (dW e (atK d k)) = atK d (k + 1) := by
    unfold hi2
    rw [r2, dW_dW he]
    omega
  rw [e1, e2]
  exact ⟨by omega, rfl, by omega⟩
/-- behind the last round that raises -/
def lastE (d e : Sd) (z : Int) : Nat := if z < dW e z then 1 else 0
theorem hi_last {d e : Sd} (h : SideP d.o d.s d.m) (he : SideP e.o e.s e.m) {k : Int} (z : NotUp d e (atK d k)) : ∃ E, Stl (hi2 d e) (atK d k) E (lastE d e (atK d k)) := by
  have w0 := dW_at h k
  unfold lastE
  by_cases y : atK d k < dW e (atK d k)
  · rw [if_pos y]
    have e1 : hi2 d e (atK d k) = dW e (atK d k) := by
      unfold hi2
      rw [w0]
      omega
    have r := (notup_iff h k).mp z
    have r2 : dW d (dW e (atK d k)) ≤ atK d k := r
    have e2 : hi2 d e (dW e (atK d k)) = dW e (atK d k) := by
      have hh := dW_dW he (atK d k)
      unfold hi2
      rw [hh]
      omega
    refine ⟨dW e (atK d k), stl_cons (r := 0) (by rw [e1]; omega) ?_⟩
    rw [e1]
    exact stl_fix e2
  · rw [if_neg y]
    refine ⟨atK d k, stl_fix ?_⟩
    unfold hi2
    rw [w0]
    omega
theorem two_stl {d e : Sd} (h : SideP d.o d.s d.m) (he : SideP e.o e.s e.m) (le : e.s ≤ d.s) : ∀ (r : Nat) (k : Int), Least (upP d e (atK d k)) (some r) → ∃ E, Stl (hi2 d e) (atK d k) E (2 * r + lastE d e (atK d k + d.s * (r : Int)))
  | 0, k, L => by
    have h1 := L.1
    unfold upP at h1
    rw [← atK_add, show k + ((0 : Nat) : Int) = k by omega] at h1
    obtain ⟨E, s⟩ := hi_last h he h1
    refine ⟨E, ?_⟩
    rw [← atK_add, show k + ((0 : Nat) : Int) = k by omega, show 2 * 0 + lastE d e (atK d k) = lastE d e (atK d k) by omega]
    exact s
  | r + 1, k, L => by
    have z : ¬ NotUp d e (atK d k) := by
      have := L.2 0 (by omega)
      unfold upP at this
      rw [← atK_add, show k + ((0 : Nat) : Int) = k by omega] at this
      exact this
    have up : ∀ n : Nat, upP d e (atK d (k + 1)) n ↔ upP d e (atK d k) (n + 1) := fun n => by
      unfold upP
      rw [← atK_add, ← atK_add, show k + 1 + (n : Int) = k + ((n + 1 : Nat) : Int) by omega]
    have L2 : Least (upP d e (atK d (k + 1))) (some r) := ⟨(up r).mpr L.1, fun j hj c => L.2 (j + 1) (by omega) ((up j).mp c)⟩
    obtain ⟨E, s⟩ := two_stl h he le r (k + 1) L2
    obtain ⟨n1, e2, n2⟩ := hi_two h he le z
    refine ⟨E, ?_⟩
    rw [← atK_add, show k + ((r + 1 : Nat) : Int) = k + 1 + (r : Int) by omega, atK_add, show 2 * (r + 1) + lastE d e (atK d (k + 1) + d.s * (r : Int)) = (2 * r + lastE d e (atK d (k + 1) + d.s * (r : Int))) + 1 + 1 by omega]
    refine stl_cons n1 (stl_cons n2 ?_)
    rw [e2]
    exact s
end HT
namespace HT
open PySem L2
section
variable {P : Program} {w : World} {K : PySem.W.Frag} {mg : Str → Option Value} {base : Heap} {fC fV : Addr} {dC dV : FuncData}
theorem ok_stands {f : Addr} {fd : FuncData} (F : Fun K "stands" "stands" s_stands f fd) (C : Cal P w K mg base "check_side" 3 ["side"] spCheckSide fC dC) (V' : Cal P w K mg base "check_value" 2 ["value"] spCheckValue fV dV) : FnOk P w K mg base CX0 4 f fd ["side", "value"] spStands := by
  refine F.ok sc_stands (fun vs H Q E h => ?_) (fun cdv A outer s H vs Q E hr h => ?_)
  · obtain ⟨p, o, s, m, v, rfl, _⟩ := h
    rfl
  · obtain ⟨p, o, s, m, v, rfl, hp, S, hv, q⟩ := h
    have nd := sc_stands.nd
    refine ⟨_, pss_cons (ps_expr (pcl C hr (by decide) (by rfl) (pa_cons (pv 0) pa_nil)))
      (pss_cons (ps_expr (pcl V' hr (by decide) (by rfl) (pa_cons (pv 1) pa_nil)))
      (pss_cons (ps_asg (pv 0) (pg_tup (by rfl) (pgs_cons (pg_name (i := 2) nd rfl (Or.inl rfl)) (pgs_cons (pg_name (i := 3) nd rfl (Or.inl rfl)) (pgs_cons (pg_name (i := 4) nd rfl (Or.inl rfl)) pgs_nil)))))
      (pss_one (ps_ret (pe_cmpR op_eq (pe_op op_mod (pe_op op_sub (pv 1) (pv 2)) (pv 3)) pe_int (nomark _)))))), ?_⟩
    walk_at "rd"
    refine ⟨p, o, s, m, rfl, hp, S, ?_⟩
    walk_at "rd"
    refine ⟨p, _, rfl, SqT.of hp, rfl, _, _, rfl, _, _, rfl, _, _, rfl, rfl, ?_⟩
    walk_at "rd"
    have b2 := S.s0
    refine ⟨(by omega), ?_⟩
    walk_at "rd"
    have q' : Q (.bl (decide ((v - o) % s = 0))) H := q H (Same.refl H)
    rw [← dec_int] at q'
    exact ⟨rfl, q'⟩
end
end HT
namespace HT
open PySem L2
theorem sidesAt1 {H : Hp} {l p : Addr} {o s : Int} {m : Str} (hl : H l = some (.lst [.ref p])) (h : H p = some (sideV o s m)) (S : SideP o s m) : SidesAt H l [.ref p] [⟨o, s, m⟩] :=
  ⟨hl, rfl, by show 1 ≤ 1; decide, by show 1 ≤ 4; decide, fun i d e => match i, e with
    | 0, e => by cases e; exact ⟨p, rfl, h, S⟩
    | i + 1, e => by cases e⟩
theorem sidesAt2 {H : Hp} {l p p2 : Addr} {o s o2 s2 : Int} {m m2 : Str} (hl : H l = some (.lst [.ref p, .ref p2])) (h : H p = some (sideV o s m)) (S : SideP o s m) (h2 : H p2 = some (sideV o2 s2 m2)) (S2 : SideP o2 s2 m2) : SidesAt H l [.ref p, .ref p2] [⟨o, s, m⟩, ⟨o2, s2, m2⟩] :=
  ⟨hl, rfl, by show 1 ≤ 2; decide, by show 2 ≤ 4; decide, fun i d e => match i, e with
    | 0, e => by cases e; exact ⟨p, rfl, h, S⟩
    | 1, e => by cases e; exact ⟨p2, rfl, h2, S2⟩
    | i + 2, e => by cases e⟩
theorem sidesAt3 {H : Hp} {l p p2 p3 : Addr} {o s o2 s2 o3 s3 : Int} {m m2 m3 : Str} (hl : H l = some (.lst [.ref p, .ref p2, .ref p3])) (h : H p = some (sideV o s m)) (S : SideP o s m) (h2 : H p2 = some (sideV o2 s2 m2)) (S2 : SideP o2 s2 m2) (h3 : H p3 = some (sideV o3 s3 m3)) (S3 : SideP o3 s3 m3) : SidesAt H l [.ref p, .ref p2, .ref p3] [⟨o, s, m⟩, ⟨o2, s2, m2⟩, ⟨o3, s3, m3⟩] :=
  ⟨hl, rfl, by show 1 ≤ 3; decide, by show 3 ≤ 4; decide, fun i d e => match i, e with
    | 0, e => by cases e; exact ⟨p, rfl, h, S⟩
    | 1, e => by cases e; exact ⟨p2, rfl, h2, S2⟩
    | 2, e => by cases e; exact ⟨p3, rfl, h3, S3⟩
    | i + 3, e => by cases e⟩
theorem stl_it {f : Int → Int} {v E : Int} {n : Nat} : ∀ m : Nat, (∀ i, i < m → it f (i + 1) v ≠ it f i v) → Stl f (it f m v) E n → Stl f v E (m + n)
  | 0, _, s => by rw [Nat.zero_add]; exact s
  | m + 1, h, s => by
    have s2 : Stl f (it f m v) E (n + 1) := stl_cons (h m (by omega)) s
    have := stl_it m (fun i hi => h i (by omega)) s2
    rw [show m + 1 + n = m + (n + 1) by omega]
    exact this
theorem hip_two {d e : Sd} {v h : Int} (hp : HiP [d, e] v h) : h = hi2 d e v := by
  obtain ⟨a, b, c⟩ := hp
  have b1 : dW d v ≤ h := b d (by simp)
  have b2 : dW e v ≤ h := b e (by simp)
  unfold hi2
  rcases c with e1 | ⟨x, hx, e1⟩
  · omega
  · simp only [List.mem_cons, List.not_mem_nil, or_false] at hx
    rcases hx with rfl | rfl
    · have e2 : h = dW x v := e1
      omega
    · have e2 : h = dW x v := e1
      omega
theorem hi2_mono {d e : Sd} (h : SideP d.o d.s d.m) (he : SideP e.o e.s e.m) {x y : Int} (z : x ≤ y) : hi2 d e x ≤ hi2 d e y := by
  have a := dW_le h z
  have b := dW_le he z
  unfold hi2
  omega
theorem hi2_ge (d e : Sd) (x : Int) : x ≤ hi2 d e x := by unfold hi2; omega
/-- no value is raised past one that neither side raises -/
theorem it_le {d e : Sd} (h : SideP d.o d.s d.m) (he : SideP e.o e.s e.m) {X v : Int} (u : hi2 d e X = X) (le : v ≤ X) : ∀ n, it (hi2 d e) n v ≤ X
  | 0 => le
  | n + 1 => by
    have := hi2_mono h he (it_le h he u le n)
    rw [u] at this
    exact this
theorem up_some {d e : Sd} (h : SideP d.o d.s d.m) (he : SideP e.o e.s e.m) (le : e.s ≤ d.s) {X : Int} (u : hi2 d e X = X) {k : Int} (kx : atK d k ≤ X) {r : Option Nat} (L : Least (upP d e (atK d k)) r) : ∃ n, r = some n := by
  cases r with
  | some n => exact ⟨n, rfl⟩
  | none =>
    exfalso
    have key : ∀ n : Nat, atK d (k + (n : Int)) ≤ X := by
      intro n
      induction n with
      | zero => rw [show k + ((0 : Nat) : Int) = k by omega]; exact kx
      | succ n ih =>
        have z : ¬ NotUp d e (atK d (k + (n : Int))) := by
          have := L n
          unfold upP at this
          rw [← atK_add] at this
          exact this
        obtain ⟨_, e2, _⟩ := hi_two h he le z
        have b := it_le h he u ih 2
        have b2 : hi2 d e (hi2 d e (atK d (k + (n : Int)))) ≤ X := b
        rw [e2] at b2
        rw [show k + ((n + 1 : Nat) : Int) = k + (n : Int) + 1 by omega]
        exact b2
    have kk := key ((X - atK d k).toNat + 1)
    rw [atK_add] at kk
    have s0 := h.s0
    have : 1 * (((X - atK d k).toNat + 1 : Nat) : Int) ≤ d.s * (((X - atK d k).toNat + 1 : Nat) : Int) := Int.mul_le_mul_of_nonneg_right s0 (by omega)
    omega
theorem perL_lt {d e : Sd} (h : SideP d.o d.s d.m) (he : SideP e.o e.s e.m) : perL d e < 2 ^ 420 := by
  have := com_lt (ss := [d, e]) (fun x hx => by
    simp only [List.mem_cons, List.not_mem_nil, or_false] at hx
    rcases hx with rfl | rfl
    · exact h
    · exact he) (by show 2 ≤ 4; decide)
  show ((comN [d, e] : Nat) : Int) < 2 ^ 420
  exact_mod_cast this
theorem least_bd {d e : Sd} (h : SideP d.o d.s d.m) (he : SideP e.o e.s e.m) {k : Int} {r : Nat} (L : Least (upP d e (atK d k)) (some r)) : d.s * (r : Int) < 2 ^ 420 := by
  obtain ⟨j, j1, hj⟩ := step_in h he
  have s0 := h.s0
  have pl := perL_lt h he
  by_cases z : (r : Int) < j
  · have : d.s * (r : Int) ≤ d.s * j := Int.mul_le_mul_of_nonneg_left (by omega) (by omega)
    omega
  · exfalso
    refine L.2 (r - j.toNat) (by omega) ?_
    have h1 := L.1
    unfold upP at h1 ⊢
    rw [← atK_add] at h1 ⊢
    rw [notup_iff h] at h1 ⊢
    have e1 : k + (r : Int) = k + ((r - j.toNat : Nat) : Int) + j * 1 := by omega
    rw [e1, rd_at h he hj, atK_add d (k + ((r - j.toNat : Nat) : Int))] at h1
    omega
def spF2 : Sp := fun vs H Q _ => ∃ (a b : Addr) (A B : Sd) (v X : Int), vs = [.ref a, .ref b, .int v] ∧ H a = some (sideV A.o A.s A.m) ∧ SideP A.o A.s A.m ∧ H b = some (sideV B.o B.s B.m) ∧ SideP B.o B.s B.m ∧ (-2 ^ 590 < v ∧ v ≤ X ∧ X < 2 ^ 590) ∧ hi2 A B X = X ∧ ∀ (n : Nat) (E : Int) (H' : Hp), Stl (hi2 A B) v E n → Same H H' → Q (.int (n : Int)) H'
section
variable {P : Program} {w : World} {K : PySem.W.Frag} {mg : Str → Option Value} {base : Heap} {fB fH fI fJ fL fM : Addr} {dB dH dI dJ dL dM : FuncData}
theorem ok_f2 {f : Addr} {fd : FuncData} (F : Fun K "_fewest_up_by_two" "_fewest_up_by_two" s_fewest_up_by_two f fd) (WN : Cal P w K mg base "wide_and_narrow" 1 ["first", "second"] spWN fB dB) (St : Cal P w K mg base "stands" 4 ["side", "value"] spStands fH dH) (Hi : Cal P w K mg base "highest" 4 ["sides", "value"] spHi fI dI) (Ru : Cal P w K mg base "rounds_up" 105 ["wide", "narrow", "value"] spRU fJ dJ) (Wr : Cal P w K mg base "written" 3 ["side", "value"] spDue fL dL) : FnOk P w K mg base CX0 106 f fd ["first", "second", "value"] spF2 := by
  refine F.ok sc_fewest_up_by_two (fun vs H Q E h => ?_) (fun cdv A outer s0 H vs Q E hr h => ?_)
  · obtain ⟨a, b, A, B, v, X, rfl, _⟩ := h
    rfl
  · obtain ⟨a, b, A1, B1, v, X, rfl, ha, S, hb, T, vb, ux, q⟩ := h
    have nd := sc_fewest_up_by_two.nd
    refine ⟨_, (pss_cons (ps_asg (pcl WN hr (by decide) (by rfl) (pa_cons (pv 0) (pa_cons (pv 1) pa_nil))) (pg_tup (by rfl) (pgs_cons (pg_name (i := 3) nd rfl (Or.inl rfl)) (pgs_cons (pg_name (i := 4) nd rfl (Or.inl rfl)) pgs_nil))))
      (pss_cons (ps_set (i := 5) nd rfl (Or.inl rfl) pe_int)
      (pss_cons (ps_while PassesOwn.never (pt_not (pt_val (pcl St hr (by decide) (by rfl) (pa_cons (pv 3) (pa_cons (pv 2) pa_nil))))) (pss_cons (ps_set (i := 6) nd rfl (Or.inl rfl) (pcl Hi hr (by decide) (by rfl) (pa_cons (pe_lst (pa_cons (pv 3) (pa_cons (pv 4) pa_nil))) (pa_cons (pv 2) pa_nil))))
      (pss_cons (ps_if (pt_cmpR op_eq (pv 6) (pv 2) (nomark _)) (pss_one (ps_ret (pv 5))) pss_nil)
      (pss_cons (ps_aug (i := 5) nd rfl (Or.inl rfl) pe_int ip_add)
      (pss_one (ps_set (i := 2) nd rfl (Or.inl rfl) (pv 6)))))))
      (pss_cons (ps_set (i := 7) nd rfl (Or.inl rfl) (pcl Ru hr (by decide) (by rfl) (pa_cons (pv 3) (pa_cons (pv 4) (pa_cons (pv 2) pa_nil)))))
      (pss_cons (ps_set (i := 2) nd rfl (Or.inl rfl) (pe_op op_add (pv 2) (pe_op op_mulW (pe_ix ix_tup (pv 3) pe_int (fun _ _ => rfl)) (pv 7))))
      (pss_cons (ps_set (i := 5) nd rfl (Or.inl rfl) (pe_op op_add (pv 5) (pe_op op_mulW pe_int (pv 7))))
      (pss_cons (ps_if (pt_cmpR op_gt (pcl Wr hr (by decide) (by rfl) (pa_cons (pv 4) (pa_cons (pv 2) pa_nil))) (pv 2) (nomark _)) (pss_one (ps_ret (pe_op op_add (pv 5) pe_int))) pss_nil)
      (pss_one (ps_ret (pv 5)))))))))), ?_⟩
    walk_at "rd"
    refine ⟨a, b, A1, B1, rfl, ha, hb, fun T1 H1 nT1 s1 hT1 => ?_⟩
    obtain ⟨wa, na, d, e, hT, hw, hn, Sd', Se', le, ef⟩ : ∃ (wa na : Addr) (d e : Sd), H1 T1 = some (.tup [.ref wa, .ref na]) ∧ H1 wa = some (sideV d.o d.s d.m) ∧ H1 na = some (sideV e.o e.s e.m) ∧ SideP d.o d.s d.m ∧ SideP e.o e.s e.m ∧ e.s ≤ d.s ∧ hi2 A1 B1 = hi2 d e := by
      by_cases z : B1.s < A1.s
      · rw [if_pos z] at hT1
        exact ⟨a, b, A1, B1, hT1, s1 _ _ ha, s1 _ _ hb, S, T, by omega, rfl⟩
      · rw [if_neg z] at hT1
        exact ⟨b, a, B1, A1, hT1, s1 _ _ hb, s1 _ _ ha, T, S, by omega, funext fun x => hi2_comm A1 B1 x⟩
    rw [ef] at q ux
    clear hT1 ef
    refine ⟨T1, _, rfl, SqT.of hT, rfl, _, _, rfl, _, _, rfl, rfl, ?_⟩
    walk_at "rd"
    refine ⟨fun μ st H' => ∃ (m : Nat) (x6 : Option V), μ = (X - it (hi2 d e) m v).toNat ∧ st = [some (.ref a), some (.ref b), some (.int (it (hi2 d e) m v)), some (.ref wa), some (.ref na), some (.int (m : Int)), x6, none] ∧ Same H1 H' ∧ (v ≤ it (hi2 d e) m v ∧ v + (m : Int) ≤ it (hi2 d e) m v) ∧ ∀ i, i < m → it (hi2 d e) (i + 1) v ≠ it (hi2 d e) i v,
      ⟨_, 0, none, rfl, rfl, Same.refl _, ⟨Int.le_refl _, by show v + 0 ≤ v; omega⟩, fun i hi => absurd hi (Nat.not_lt_zero _)⟩, ?_⟩
    rintro μ st H' ⟨m, x6, rfl, rfl, sm, ⟨vx, vm⟩, nst⟩
    have xX := it_le Sd' Se' ux vb.2.1 m
    obtain ⟨x, ex⟩ : ∃ x, x = it (hi2 d e) m v := ⟨_, rfl⟩
    rw [← ex] at xX vx vm
    walk_at "rd"
    refine ⟨wa, d.o, d.s, d.m, _, rfl, sm _ _ hw, Sd', (by unfold Bd; rw [← ex]; omega), fun H2 s2 => ?_⟩
    walk_at "rd"
    refine ite2 (fun z => ?_) (fun z => ?_)
    · refine ⟨fun σ' H'' => ∃ (x6 : Option V), σ' = [some (.ref a), some (.ref b), some (.int (it (hi2 d e) (m + 1) v)), some (.ref wa), some (.ref na), some (.int ((m + 1 : Nat) : Int)), x6, none] ∧ Same H1 H'' ∧ it (hi2 d e) (m + 1) v ≠ it (hi2 d e) m v,
        fun σ' H'' ⟨x6, e1, e2, e3⟩ => ⟨(X - it (hi2 d e) (m + 1) v).toNat, ?_, m + 1, x6, rfl, e1, e2, ?_, fun i hi => ?_⟩, ?_⟩
      · have g := hi2_ge d e (it (hi2 d e) m v)
        have e4 : it (hi2 d e) (m + 1) v = hi2 d e (it (hi2 d e) m v) := rfl
        have xX2 := it_le Sd' Se' ux vb.2.1 (m + 1)
        omega
      · have g := hi2_ge d e (it (hi2 d e) m v)
        have e4 : it (hi2 d e) (m + 1) v = hi2 d e (it (hi2 d e) m v) := rfl
        omega
      · by_cases y : i < m
        · exact nst i y
        · obtain rfl : i = m := by omega
          exact e3
      have sm2 := sm.trans s2
      walk_at "rd"
      refine ⟨(by show 2 ≤ sizeLine; decide), fun L2 nL2 => ?_⟩
      generalize e_L2 : upd H2 L2 _ = H3
      have g3 : H3 L2 = some (.lst [.ref wa, .ref na]) := by rw [← e_L2]; exact upd_same
      have w3 : Same H2 H3 := by rw [← e_L2]; exact fun b u z => (upd_ne (ne_of_none z nL2)).trans z
      clear e_L2
      walk_at "rd"
      have SL : SidesAt H3 L2 [.ref wa, .ref na] [d, e] := sidesAt2 g3 (w3 _ _ (sm2 _ _ hw)) Sd' (w3 _ _ (sm2 _ _ hn)) Se'
      refine ⟨L2, _, [d, e], _, rfl, SL.toL, (by rw [← ex]; omega), fun h H4 hp s4 => ?_⟩
      have eh := hip_two hp
      have s14 := sm2.trans (w3.trans s4)
      walk_at "rd"
      refine ⟨rfl, ?_⟩
      walk_at "rd"
      refine ite2 (fun y => ?_) (fun y => ?_)
      · have ey : h = it (hi2 d e) m v := int_t y
        walk_at "rd"
        exact q m _ H4 (stl_it m nst (stl_fix (eh.symm.trans ey))) (s1.trans s14)
      · have ey : ¬ h = it (hi2 d e) m v := int_f y
        walk_at "rd"
        refine ⟨some (.int h), ?_, sm.trans ((s2.trans w3).trans s4), ?_⟩
        · have e4 : it (hi2 d e) (m + 1) v = hi2 d e (it (hi2 d e) m v) := rfl
          rw [e4, ← eh]
          rfl
        · have e4 : it (hi2 d e) (m + 1) v = hi2 d e (it (hi2 d e) m v) := rfl
          rw [e4, ← eh]
          exact ey
    · have z2 := of_decide_eq_true (not_f z)
      have wx : dW d (it (hi2 d e) m v) = it (hi2 d e) m v := (due_eq Sd'.md Sd'.s0).mp z2
      obtain ⟨k, hk⟩ := dW_is d (it (hi2 d e) m v)
      rw [wx] at hk
      have sm2 := sm.trans s2
      walk_at "rd"
      refine ⟨wa, na, d, e, _, rfl, sm2 _ _ hw, Sd', sm2 _ _ hn, Se', (by rw [← ex]; omega), fun r H3 L s3 => ?_⟩
      rw [hk] at L
      obtain ⟨n, rfl⟩ := up_some Sd' Se' le ux (by rw [← hk, ← ex]; exact xX) L
      have lb := least_bd Sd' Se' L
      obtain ⟨E, st⟩ := two_stl Sd' Se' le n k L
      have sm3 := sm2.trans s3
      have s0 := Sd'.s0
      have nb : (n : Int) < 2 ^ 420 := by
        have : 1 * (n : Int) ≤ d.s * (n : Int) := Int.mul_le_mul_of_nonneg_right s0 (by omega)
        omega
      walk_at "rd"
      refine ⟨wa, _, _, _, rfl, rfl, SqT.of (sm3 _ _ hw), rfl, ?_⟩
      have s9 := Sd'.s1
      have dn : 0 ≤ d.s * (n : Int) := Int.mul_nonneg (by omega) (by omega)
      have st2 := stl_it (E := E) m nst (by rw [hk]; exact st)
      walk_at "rd"
      refine ⟨mulW (by omega) (by omega), ?_⟩
      walk_at "rd"
      refine ⟨mulW (by omega) (by omega), ?_⟩
      walk_at "rd"
      refine ⟨na, e.o, e.s, e.m, _, rfl, sm3 _ _ hn, Se', (by unfold Bd; rw [← ex]; omega), fun H4 s4 => ?_⟩
      have s14 := s1.trans (sm3.trans s4)
      rw [hk]
      walk_at "rd"
      refine ite2 (fun y => ?_) (fun y => ?_)
      · have y2 : atK d k + d.s * (n : Int) < dW e (atK d k + d.s * (n : Int)) := of_decide_eq_true y
        unfold lastE at st2
        rw [if_pos y2] at st2
        have e9 : ((m + (2 * n + 1) : Nat) : Int) = (m : Int) + 2 * (n : Int) + 1 := by omega
        walk_at "rd"
        have q2 := q _ _ H4 st2 s14
        rw [e9] at q2
        exact q2
      · have y2 : ¬ atK d k + d.s * (n : Int) < dW e (atK d k + d.s * (n : Int)) := fun c => y (decide_eq_true c)
        unfold lastE at st2
        rw [if_neg y2] at st2
        have e9 : ((m + (2 * n + 0) : Nat) : Int) = (m : Int) + 2 * (n : Int) := by omega
        walk_at "rd"
        have q2 := q _ _ H4 st2 s14
        rw [e9] at q2
        exact q2
end
end HT
namespace HT
open PySem L2
/-- the greatest writer of some, or the value -/
def hiL : List Sd → Int → Int
  | [], x => x
  | d :: ss, x => max (dW d x) (hiL ss x)
theorem hiL_hip : ∀ (ss : List Sd) (x : Int), HiP ss x (hiL ss x)
  | [], x => ⟨Int.le_refl _, fun d h => absurd h List.not_mem_nil, .inl rfl⟩
  | d :: ss, x => by
    obtain ⟨a, b, c⟩ := hiL_hip ss x
    have e : hiL (d :: ss) x = max (dW d x) (hiL ss x) := rfl
    refine ⟨by omega, fun y hy => ?_, ?_⟩
    · rcases List.mem_cons.mp hy with z | hy
      · rw [z]
        show dW d x ≤ _
        omega
      · have := b y hy
        omega
    · by_cases z : dW d x ≤ hiL ss x
      · rcases c with c | ⟨y, hy, c⟩
        · exact .inl (by omega)
        · exact .inr ⟨y, List.mem_cons_of_mem _ hy, by omega⟩
      · exact .inr ⟨d, List.mem_cons_self, by show _ = dW d x; omega⟩
theorem hip_le {ss : List Sd} {v h g : Int} (p : HiP ss v h) (q : HiP ss v g) : h ≤ g := by
  obtain ⟨a, b, c⟩ := p
  obtain ⟨a2, b2, c2⟩ := q
  rcases c with c | ⟨y, hy, c⟩
  · omega
  · have := b2 y hy
    omega
theorem hip_eq {ss : List Sd} {v h : Int} (p : HiP ss v h) : h = hiL ss v := Int.le_antisymm (hip_le p (hiL_hip ss v)) (hip_le (hiL_hip ss v) p)
theorem hiL_two (d e : Sd) : hiL [d, e] = hi2 d e := funext fun x => by
  show max (dW d x) (max (dW e x) x) = _
  unfold hi2
  omega
theorem hiL_ge (ss : List Sd) (x : Int) : x ≤ hiL ss x := (hiL_hip ss x).1
theorem hiL_mono {ss : List Sd} (hs : ∀ d ∈ ss, SideP d.o d.s d.m) {x y : Int} (z : x ≤ y) : hiL ss x ≤ hiL ss y := by
  obtain ⟨a, b, c⟩ := hiL_hip ss x
  obtain ⟨a2, b2, c2⟩ := hiL_hip ss y
  rcases c with c | ⟨d, hd, c⟩
  · omega
  · have e : dW d x ≤ dW d y := dW_le (hs d hd) z
    have f : dW d y ≤ hiL ss y := b2 d hd
    have g : hiL ss x = dW d x := c
    omega
theorem itL_le {ss : List Sd} (hs : ∀ d ∈ ss, SideP d.o d.s d.m) {X v : Int} (u : hiL ss X = X) (le : v ≤ X) : ∀ n, it (hiL ss) n v ≤ X
  | 0 => le
  | n + 1 => by
    have := hiL_mono hs (itL_le hs u le n)
    rw [u] at this
    exact this
theorem una_hi {ss : List Sd} {x : Int} : UnA ss x ↔ hiL ss x = x := by
  obtain ⟨a, b, c⟩ := hiL_hip ss x
  constructor
  · intro h
    rcases c with c | ⟨d, hd, c⟩
    · exact c
    · have := h d hd
      omega
  · intro h d hd
    have := b d hd
    omega
end HT
namespace HT
open PySem L2
def spFew : Sp := fun vs H Q _ => ∃ (l : Addr) (xs : List V) (ss : List Sd) (v X : Int), vs = [.ref l, .int v] ∧ SidL H l xs ss ∧ (-2 ^ 590 < v ∧ v ≤ X ∧ X < 2 ^ 590) ∧ hiL ss X = X ∧ ∀ (n : Nat) (E : Int) (H' : Hp), Stl (hiL ss) v E n → Same H H' → Q (.int (n : Int)) H'
section
variable {P : Program} {w : World} {K : PySem.W.Frag} {mg : Str → Option Value} {base : Heap} {fB fH fI fJ fL fM : Addr} {dB dH dI dJ dL dM : FuncData}
theorem ok_few {f : Addr} {fd : FuncData} (F : Fun K "_fewest_up" "_fewest_up" s_fewest_up f fd) (A' : AmG mg) (Tw : Cal P w K mg base "_fewest_up_by_two" 106 ["first", "second", "value"] spF2 fB dB) (Hi : Cal P w K mg base "highest" 4 ["sides", "value"] spHi fI dI) : FnOk P w K mg base CX0 107 f fd ["raising", "value"] spFew := by
  refine F.ok sc_fewest_up (fun vs H Q E h => ?_) (fun cdv A outer s0 H vs Q E hr h => ?_)
  · obtain ⟨l, xs, ss, v, X, rfl, _⟩ := h
    rfl
  · obtain ⟨l, xs, ss, v, X, rfl, SS, vb, ux, q⟩ := h
    have nd := sc_fewest_up.nd
    refine ⟨_, pss_cons (ps_if (pt_cmpR op_eq (pe_callB call_len_seq (by rfl) A'.len PySem.boot_len (pa_cons (pv 0) pa_nil)) pe_int (nomark _)) (pss_one (ps_ret (pcl Tw hr (by decide) (by rfl) (pa_cons (pe_ix ix_list (pv 0) pe_int (fun _ _ => rfl)) (pa_cons (pe_ix ix_list (pv 0) pe_int (fun _ _ => rfl)) (pa_cons (pv 1) pa_nil)))))) pss_nil)
      (pss_cons (ps_set (i := 2) nd rfl (Or.inl rfl) pe_int)
      (pss_cons (ps_set (i := 3) nd rfl (Or.inl rfl) (pcl Hi hr (by decide) (by rfl) (pa_cons (pv 0) (pa_cons (pv 1) pa_nil))))
      (pss_cons (ps_while PassesOwn.never (pt_cmpR op_gt (pv 3) (pv 1) (nomark _))
        (pss_cons (ps_aug (i := 2) nd rfl (Or.inl rfl) pe_int ip_add)
        (pss_cons (ps_set (i := 1) nd rfl (Or.inl rfl) (pv 3))
        (pss_one (ps_set (i := 3) nd rfl (Or.inl rfl) (pcl Hi hr (by decide) (by rfl) (pa_cons (pv 0) (pa_cons (pv 1) pa_nil))))))))
      (pss_one (ps_ret (pv 2)))))), ?_⟩
    walk_at "rd"
    refine ⟨l, _, rfl, .inl (SqL.of SS.hl), ?_⟩
    walk_at "rd"
    refine ⟨rfl, ?_⟩
    walk_at "rd"
    refine ite2 (fun z => ?_) (fun z => ?_)
    · have e1 := int_t z
      have e2 : ss.length = 2 := by
        rw [SS.len] at e1
        omega
      clear e1 z
      obtain ⟨d, e, rfl⟩ : ∃ d e, ss = [d, e] := by
        match ss, e2 with
        | [d, e], _ => exact ⟨d, e, rfl⟩
      obtain ⟨p1, x1, h1, s1⟩ := SS.at_ 0 d rfl
      obtain ⟨p2, x2, h2, s2⟩ := SS.at_ 1 e rfl
      obtain ⟨rfl⟩ : xs = [.ref p1, .ref p2] := by
        have := SS.len
        match xs, this, x1, x2 with
        | [a, b], _, x1, x2 => cases x1; cases x2; rfl
      rw [hiL_two] at ux q
      walk_at "rd"
      refine ⟨l, _, _, _, rfl, rfl, SqL.of SS.hl, rfl, ?_⟩
      walk_at "rd"
      refine ⟨l, _, _, _, rfl, rfl, SqL.of SS.hl, rfl, ?_⟩
      walk_at "rd"
      exact ⟨p1, p2, d, e, v, X, rfl, h1, s1, h2, s2, vb, ux, q⟩
    walk_at "rd"
    refine ⟨l, xs, ss, v, rfl, SS, by omega, fun h H2 hp s2 => ?_⟩
    obtain rfl := hip_eq hp
    walk_at "rd"
    refine ⟨fun μ st H' => ∃ (m : Nat), μ = (X - it (hiL ss) m v).toNat ∧ st = [some (.ref l), some (.int (it (hiL ss) m v)), some (.int (m : Int)), some (.int (hiL ss (it (hiL ss) m v)))] ∧ Same H H' ∧ v ≤ it (hiL ss) m v ∧ ∀ i, i < m → it (hiL ss) (i + 1) v ≠ it (hiL ss) i v,
      ⟨_, 0, rfl, rfl, s2, Int.le_refl _, fun i hi => absurd hi (Nat.not_lt_zero _)⟩, ?_⟩
    rintro μ st H' ⟨m, rfl, rfl, sm, vx, nst⟩
    have xX := itL_le SS.side ux vb.2.1 m
    have xX2 : hiL ss (it (hiL ss) m v) ≤ X := itL_le SS.side ux vb.2.1 (m + 1)
    walk_at "rd"
    refine ite2 (fun z => ?_) (fun z => ?_)
    · have z2 : it (hiL ss) m v < hiL ss (it (hiL ss) m v) := of_decide_eq_true z
      refine ⟨fun σ' H'' => σ' = [some (.ref l), some (.int (hiL ss (it (hiL ss) m v))), some (.int ((m + 1 : Nat) : Int)), some (.int (hiL ss (hiL ss (it (hiL ss) m v))))] ∧ Same H H'',
        fun σ' H'' ⟨e1, e2⟩ => ⟨(X - it (hiL ss) (m + 1) v).toNat, ?_, m + 1, rfl, e1, e2, ?_, fun i hi => ?_⟩, ?_⟩
      · have e4 : it (hiL ss) (m + 1) v = hiL ss (it (hiL ss) m v) := rfl
        omega
      · have e4 : it (hiL ss) (m + 1) v = hiL ss (it (hiL ss) m v) := rfl
        omega
      · by_cases y : i < m
        · exact nst i y
        · obtain rfl : i = m := by omega
          show hiL ss (it (hiL ss) i v) ≠ _
          omega
      walk_at "rd"
      refine ⟨l, xs, ss, _, rfl, SS.same sm, by omega, fun h H3 hp s3 => ?_⟩
      obtain rfl := hip_eq hp
      walk_at "rd"
      exact ⟨rfl, sm.trans s3⟩
    · have z2 : ¬ it (hiL ss) m v < hiL ss (it (hiL ss) m v) := fun c => z (decide_eq_true c)
      have ge := hiL_ge ss (it (hiL ss) m v)
      walk_at "rd"
      exact q m _ H' (stl_it m nst (stl_fix (by omega))) sm
end
end HT
namespace HT
open PySem L2
theorem hiL_filter {ss : List Sd} (hs : ∀ d ∈ ss, SideP d.o d.s d.m) (x : Int) : hiL (ss.filter upD) x = hiL ss x := by
  obtain ⟨a, b, c⟩ := hiL_hip (ss.filter upD) x
  refine hip_eq ⟨a, fun d hd => ?_, ?_⟩
  · by_cases u : upD d = true
    · exact b d (List.mem_filter.mpr ⟨hd, u⟩)
    · have e : firstM d.s d.m = "down" := by
        unfold upD at u
        simpa using u
      have f := due_form (o := d.o) x (hs d hd).md (hs d hd).s0
      rw [e] at f
      rw [← f]
      exact Int.le_trans (down_le (hs d hd).s0) a
  · rcases c with c | ⟨d, hd, c⟩
    · exact .inl c
    · exact .inr ⟨d, (List.mem_filter.mp hd).1, c⟩
theorem hiL_filter' {ss : List Sd} (hs : ∀ d ∈ ss, SideP d.o d.s d.m) : hiL (ss.filter upD) = hiL ss := funext (hiL_filter hs)
theorem up_bd {ss : List Sd} (hs : ∀ d ∈ ss, SideP d.o d.s d.m) (l4 : ss.length ≤ 4) {v X : Int} (L : LeastI (UnA ss) v (some X)) : v ≤ X ∧ X < v + 2 ^ 420 := by
  obtain ⟨a, b, c⟩ := L
  refine ⟨a, ?_⟩
  by_cases z : X < v + 2 ^ 420
  · exact z
  · exfalso
    have cl := com_lt hs l4
    have cl2 : ((comN ss : Nat) : Int) < 2 ^ 420 := by exact_mod_cast cl
    have cp := com_pos ss 1 (by decide) hs
    have cp2 : 1 ≤ ((comN ss : Nat) : Int) := by
      show 1 ≤ ((ss.foldl (fun n d => n.lcm (perN d)) 1 : Nat) : Int)
      omega
    have u := (una_com hs X (-1)).mpr b
    exact c _ (by omega) (by omega) u
/-- the fewest hand-overs upwards, none where there is no end -/
def EndN (ss : List Sd) (v : Int) : Option Nat → Prop
  | none => LeastI (UnA ss) v none
  | some n => ∃ E, Stl (hiL ss) v E n ∧ LeastI (UnA ss) v (some E)
theorem stl_least {ss : List Sd} (hs : ∀ d ∈ ss, SideP d.o d.s d.m) {v E X : Int} {n : Nat} (s : Stl (hiL ss) v E n) (L : LeastI (UnA ss) v (some X)) : E = X := by
  obtain ⟨a, b, c⟩ := s
  obtain ⟨a2, b2, c2⟩ := L
  have le := itL_le hs (una_hi.mp b2) a2 n
  rw [a] at le
  by_cases z : E < X
  · refine absurd (una_hi.mpr b) (c2 E ?_ z)
    have key : ∀ m, v ≤ it (hiL ss) m v := fun m => by
      induction m with
      | zero => exact Int.le_refl _
      | succ m ih => exact Int.le_trans ih (hiL_ge ss _)
    rw [← a]
    exact key n
  · omega
end HT
namespace HT
open PySem L2
def spEff : Sp := fun vs H Q _ => ∃ (l : Addr) (xs : List V) (ss : List Sd) (v : Int), vs = [.ref l, .int v] ∧ SidesAt H l xs ss ∧ (-2 ^ 580 < v ∧ v < 2 ^ 580) ∧ FewP ss ∧ FewP (ss.map mirD) ∧
  ∀ (dn up : Option Nat) (p : Addr) (H' : Hp), EndN ss v up → EndN (ss.map mirD) (-v) dn → Same H H' → H p = none → H' p = some (.tup [oN dn, oN up]) → Q (.ref p) H'
section
variable {P : Program} {w : World} {K : PySem.W.Frag} {mg : Str → Option Value} {base : Heap} {fB fH fI fJ fL fM : Addr} {dB dH dI dJ dL dM : FuncData}
theorem ok_eff {f : Addr} {fd : FuncData} (F : Fun K "efforts" "efforts" s_efforts f fd) (Re : Cal P w K mg base "reach" 108 ["sides", "value"] spReach fB dB) (Ra : Cal P w K mg base "raisers" 6 ["sides"] spRais fI dI) (Mi : Cal P w K mg base "mirrors" 5 ["sides"] spMirs fJ dJ)
    (Fe : Cal P w K mg base "_fewest_up" 107 ["raising", "value"] spFew fM dM) : FnOk P w K mg base CX0 109 f fd ["sides", "value"] spEff := by
  refine F.ok sc_efforts (fun vs H Q E h => ?_) (fun cdv A outer s0 H vs Q E hr h => ?_)
  · obtain ⟨l, xs, ss, v, rfl, _⟩ := h
    rfl
  · obtain ⟨l, xs, ss, v, rfl, SS, hv, f1, f2, q⟩ := h
    have nd := sc_efforts.nd
    refine ⟨_, (pss_cons (ps_asg (pcl Re hr (by decide) (by rfl) (pa_cons (pv 0) (pa_cons (pv 1) pa_nil))) (pg_tup (by rfl) (pgs_cons (pg_name (i := 2) nd rfl (Or.inl rfl)) (pgs_cons (pg_name (i := 3) nd rfl (Or.inl rfl)) pgs_nil))))
      (pss_cons (ps_set (i := 4) nd rfl (Or.inl rfl) (pe_ifExp (pt_cmpR op_isN (pv 2) pe_non (nomark _)) pe_non (pcl Fe hr (by decide) (by rfl) (pa_cons (pcl Ra hr (by decide) (by rfl) (pa_cons (pcl Mi hr (by decide) (by rfl) (pa_cons (pv 0) pa_nil)) pa_nil)) (pa_cons (pe_un un_neg (pv 1)) pa_nil)))))
      (pss_cons (ps_set (i := 5) nd rfl (Or.inl rfl) (pe_ifExp (pt_cmpR op_isN (pv 3) pe_non (nomark _)) pe_non (pcl Fe hr (by decide) (by rfl) (pa_cons (pcl Ra hr (by decide) (by rfl) (pa_cons (pv 0) pa_nil)) (pa_cons (pv 1) pa_nil)))))
      (pss_one (ps_ret (pe_tup (pa_cons (pv 4) (pa_cons (pv 5) pa_nil)))))))), ?_⟩
    have sM : ∀ d ∈ ss.map mirD, SideP d.o d.s d.m := fun d hd => by
      obtain ⟨e, he, rfl⟩ := List.mem_map.mp hd
      exact side_mir (SS.side e he)
    walk_at "rd"
    refine ⟨l, xs, ss, v, rfl, SS, by omega, f1, f2, fun lo hi p H1 Lhi Llo s1 n1 hp => ?_⟩
    refine ⟨p, _, rfl, SqT.of hp, rfl, _, _, rfl, _, _, rfl, rfl, ?_⟩
    walk_at "rd"
    rcases lo with _ | x
    · refine ⟨rfl, ?_⟩
      walk_at "rd"
      rcases hi with _ | y
      · refine ⟨rfl, ?_⟩
        walk_at "rd"
        refine ⟨(by show 2 ≤ sizeLine; decide), fun T nT => ?_⟩
        have sA := s1
        exact q none none T _ Lhi Llo (fun b u z => (upd_ne (ne_of_none (sA _ _ z) nT)).trans (sA _ _ z)) (sA.free nT) upd_same
      · refine ⟨rfl, ?_⟩
        obtain ⟨y0, y1⟩ := up_bd SS.side SS.l4 Lhi
        walk_at "rd"
        refine ⟨l, xs, ss, rfl, SS.toL.same s1, fun L8 y8 H8 n8 s8 S8 => ?_⟩
        walk_at "rd"
        refine ⟨L8, y8, _, v, y, rfl, S8, by omega, by rw [hiL_filter' SS.side]; exact una_hi.mp Lhi.2.1, fun n E H9 st s9 => ?_⟩
        rw [hiL_filter' SS.side] at st
        have eE := stl_least SS.side st Lhi
        subst eE
        walk_at "rd"
        refine ⟨(by show 2 ≤ sizeLine; decide), fun T nT => ?_⟩
        have sA := (s1).trans (s8.trans s9)
        exact q none (some n) T _ ⟨_, st, Lhi⟩ Llo (fun b u z => (upd_ne (ne_of_none (sA _ _ z) nT)).trans (sA _ _ z)) (sA.free nT) upd_same
    · refine ⟨rfl, ?_⟩
      obtain ⟨x0, x1⟩ := up_bd sM (by rw [List.length_map]; exact SS.l4) Llo
      walk_at "rd"
      refine ⟨l, xs, ss, rfl, SS.toL.same s1, fun L2 y2 H2 n2 s2 S2 => ?_⟩
      walk_at "rd"
      refine ⟨L2, y2, _, rfl, S2, fun L3 y3 H3 n3 s3 S3 => ?_⟩
      walk_at "rd"
      refine ⟨L3, y3, _, -v, x, rfl, S3, by omega, by rw [hiL_filter' sM]; exact una_hi.mp Llo.2.1, fun m D H4 sd s4 => ?_⟩
      rw [hiL_filter' sM] at sd
      have eD := stl_least sM sd Llo
      subst eD
      have s14 := s1.trans (s2.trans (s3.trans s4))
      walk_at "rd"
      rcases hi with _ | y
      · refine ⟨rfl, ?_⟩
        walk_at "rd"
        refine ⟨(by show 2 ≤ sizeLine; decide), fun T nT => ?_⟩
        have sA := s14
        exact q (some m) none T _ Lhi ⟨_, sd, Llo⟩ (fun b u z => (upd_ne (ne_of_none (sA _ _ z) nT)).trans (sA _ _ z)) (sA.free nT) upd_same
      · refine ⟨rfl, ?_⟩
        obtain ⟨y0, y1⟩ := up_bd SS.side SS.l4 Lhi
        walk_at "rd"
        refine ⟨l, xs, ss, rfl, SS.toL.same s14, fun L8 y8 H8 n8 s8 S8 => ?_⟩
        walk_at "rd"
        refine ⟨L8, y8, _, v, y, rfl, S8, by omega, by rw [hiL_filter' SS.side]; exact una_hi.mp Lhi.2.1, fun n E H9 st s9 => ?_⟩
        rw [hiL_filter' SS.side] at st
        have eE := stl_least SS.side st Lhi
        subst eE
        walk_at "rd"
        refine ⟨(by show 2 ≤ sizeLine; decide), fun T nT => ?_⟩
        have sA := (s14).trans (s8.trans s9)
        exact q (some m) (some n) T _ ⟨_, st, Lhi⟩ ⟨_, sd, Llo⟩ (fun b u z => (upd_ne (ne_of_none (sA _ _ z) nT)).trans (sA _ _ z)) (sA.free nT) upd_same
end
end HT
namespace HT
open PySem L2
theorem hiL_com {ss : List Sd} (hs : ∀ d ∈ ss, SideP d.o d.s d.m) (x : Int) {c : Int} (hc : ((comN ss : Nat) : Int) ∣ c) : hiL ss (x + c) = hiL ss x + c := by
  have key : ∀ d ∈ ss, dueM d.o d.s d.m (x + c) = dueM d.o d.s d.m x + c := fun d hd =>
    due_dvd (hs d hd).md (hs d hd).s0 (Int.dvd_trans (per_com hd (hs d hd)) hc)
  obtain ⟨a, b, e⟩ := hiL_hip ss x
  refine (hip_eq ⟨by omega, fun d hd => ?_, ?_⟩).symm
  · rw [key d hd]
    have := b d hd
    omega
  · rcases e with e | ⟨d, hd, e⟩
    · exact .inl (by omega)
    · exact .inr ⟨d, hd, by rw [key d hd]; omega⟩
theorem itL_com {ss : List Sd} (hs : ∀ d ∈ ss, SideP d.o d.s d.m) (x : Int) {c : Int} (hc : ((comN ss : Nat) : Int) ∣ c) : ∀ n, it (hiL ss) n (x + c) = it (hiL ss) n x + c
  | 0 => rfl
  | n + 1 => by
    show hiL ss (it (hiL ss) n (x + c)) = hiL ss (it (hiL ss) n x) + c
    rw [itL_com hs x hc n, hiL_com hs _ hc]
theorem it_plus (f : Int → Int) (x : Int) (m : Nat) : ∀ n, it f (m + n) x = it f n (it f m x)
  | 0 => rfl
  | n + 1 => by
    show f (it f (m + n) x) = f (it f n (it f m x))
    rw [it_plus f x m n]
/-- behind a remainder that has come again all goes on alike -/
theorem it_again {ss : List Sd} (hs : ∀ d ∈ ss, SideP d.o d.s d.m) {v c : Int} {j p : Nat} (hc : ((comN ss : Nat) : Int) ∣ c) (e : it (hiL ss) (j + p) v = it (hiL ss) j v + c) (r : Nat) : ∀ k : Nat, it (hiL ss) (j + r + p * k) v = it (hiL ss) (j + r) v + (k : Int) * c
  | 0 => by
    show it (hiL ss) (j + r) v = _
    rw [show ((0 : Nat) : Int) * c = 0 from Int.zero_mul c]
    omega
  | k + 1 => by
    have ih := it_again hs hc e r k
    have e1 : j + r + p * (k + 1) = j + p + (r + p * k) := by rw [Nat.mul_add]; omega
    have e2 : j + r + p * k = j + (r + p * k) := by omega
    rw [e1, it_plus, e, itL_com hs _ hc, ← it_plus, ← e2, ih, Int.natCast_add, Int.add_mul]
    omega
theorem itL_bd {ss : List Sd} (hs : ∀ d ∈ ss, SideP d.o d.s d.m) (v : Int) : ∀ n : Nat, v ≤ it (hiL ss) n v ∧ it (hiL ss) n v ≤ v + 10 ^ 31 * (n : Int)
  | 0 => ⟨Int.le_refl _, by show v ≤ _; omega⟩
  | n + 1 => by
    obtain ⟨a, b⟩ := itL_bd hs v n
    have g := hiL_ge ss (it (hiL ss) n v)
    have h := hi_bd hs (hiL_hip ss (it (hiL ss) n v))
    have e : it (hiL ss) (n + 1) v = hiL ss (it (hiL ss) n v) := rfl
    omega
end HT
namespace HT
open PySem L2
structure LimG (mg : Str → Option Value) : Prop where
  dm : mg "divmod" = none
  mn : ∃ t, mg "MOST_NUMBER" = some (.int (10 ^ 40) t)
  mr : ∃ t, mg "MOST_ROWS" = some (.int 10000 t)
def spCont : Sp := fun vs H Q _ => ∃ (l : Addr) (ys : List Int) (fo : Int) (n : Nat), vs = [.ref l, .int fo, .int (n : Int)] ∧ H l = some (.lst (ys.map V.int)) ∧ 0 < ys.length ∧ n ≤ 100000 ∧ ys.length ≤ 100000 ∧ (-2 ^ 800 < fo ∧ fo < 2 ^ 800) ∧ (-2 ^ 800 < ys.getD 0 0 ∧ ys.getD 0 0 < 2 ^ 800) ∧
  ∀ H', Same H H' → Q (.int (ys.getD (n % ys.length) 0 + ((n / ys.length : Nat) : Int) * (fo - ys.getD 0 0))) H'
section
variable {P : Program} {w : World} {K : PySem.W.Frag} {mg : Str → Option Value} {base : Heap} {fB fH fI fJ fL fM : Addr} {dB dH dI dJ dL dM : FuncData}
theorem ok_cont {f : Addr} {fd : FuncData} (F : Fun K "_continued" "_continued" s_continued f fd) (A' : AmG mg) (G : LimG mg) : FnOk P w K mg base CX0 1 f fd ["values", "following", "many"] spCont := by
  refine F.ok sc_continued (fun vs H Q E h => ?_) (fun cdv A outer s0 H vs Q E hr h => ?_)
  · obtain ⟨l, ys, fo, n, rfl, _⟩ := h
    rfl
  · obtain ⟨l, ys, fo, n, rfl, hl, y0, n1, y1, fb, vb, q⟩ := h
    have nd := sc_continued.nd
    refine ⟨_, pss_cons (ps_asg (pe_callB call_divmod (by rfl) G.dm (by decide +kernel) (pa_cons (pv 2) (pa_cons (pe_callB call_len_seq (by rfl) A'.len PySem.boot_len (pa_cons (pv 0) pa_nil)) pa_nil))) (pg_tup (by rfl) (pgs_cons (pg_name (i := 3) nd rfl (Or.inl rfl)) (pgs_cons (pg_name (i := 4) nd rfl (Or.inl rfl)) pgs_nil))))
      (pss_one (ps_ret (pe_op op_add (pe_ix ix_list (pv 0) (pv 4) (fun _ _ => rfl)) (pe_op op_mulW (pv 3) (pe_op op_sub (pv 1) (pe_ix ix_list (pv 0) pe_int (fun _ _ => rfl))))))), ?_⟩
    walk_at "rd"
    refine ⟨l, _, rfl, .inl (SqL.of hl), ?_⟩
    rw [List.length_map]
    refine ⟨_, _, rfl, ⟨by omega, by omega⟩, fun T nT => ?_⟩
    rw [← Int.natCast_ediv, ← Int.natCast_emod]
    generalize e_T : upd H T _ = H1
    have hT : H1 T = some (.tup [.int ((n / ys.length : Nat) : Int), .int ((n % ys.length : Nat) : Int)]) := by rw [← e_T]; exact upd_same
    have s1 : Same H H1 := by rw [← e_T]; exact fun b u z => (upd_ne (ne_of_none z nT)).trans z
    clear e_T
    have ml := Nat.mod_lt n y0
    have dl := Nat.div_le_self n ys.length
    generalize n / ys.length = k at q hT dl
    generalize n % ys.length = r at q hT ml
    walk_at "rd"
    refine ⟨T, _, rfl, SqT.of hT, rfl, _, _, rfl, _, _, rfl, rfl, ?_⟩
    walk_at "rd"
    refine ⟨l, _, _, _, rfl, rfl, SqL.of (s1 _ _ hl), atI_in (by omega) (by omega), ?_⟩
    walk_at "rd"
    refine ⟨l, _, _, _, rfl, rfl, SqL.of (s1 _ _ hl), atI_in (by decide) (by omega), ?_⟩
    walk_at "rd"
    refine ⟨mulW (by omega) (by show _ < fo - ys.getD 0 0 ∧ fo - ys.getD 0 0 < _; omega), ?_⟩
    walk_at "rd"
    exact q _ s1
end
end HT
namespace HT
open PySem L2
def spHW : Sp := fun vs H Q _ => ∃ (l : Addr) (xs : List V) (ss : List Sd) (v : Int) (n : Nat), vs = [.ref l, .int v, .int (n : Int)] ∧ SidL H l xs ss ∧ (-2 ^ 590 < v ∧ v < 2 ^ 590) ∧ n ≤ 1000 ∧ ∀ H', Same H H' → Q (.int (it (hiL ss) n v)) H'
theorem lt1 {n c : Nat} (h : n + 64 < c) : n + 1 < c := by omega
/-- the first values of a walk -/
def valsI (ss : List Sd) (v : Int) (i : Nat) : List Int := (List.range (i + 1)).map fun k => it (hiL ss) k v
theorem valsI_len (ss : List Sd) (v : Int) (i : Nat) : (valsI ss v i).length = i + 1 := by unfold valsI; rw [List.length_map, List.length_range]
theorem valsI_succ (ss : List Sd) (v : Int) (i : Nat) : valsI ss v (i + 1) = valsI ss v i ++ [it (hiL ss) (i + 1) v] := by
  unfold valsI
  rw [List.range_succ (n := i + 1), List.map_append]
  rfl
theorem valsI_get {ss : List Sd} {v : Int} {i j r : Nat} (h : j + r ≤ i) : ((valsI ss v i).drop j).getD r 0 = it (hiL ss) (j + r) v := by
  unfold valsI
  rw [List.getD_eq_getElem?_getD, List.getElem?_drop, List.getElem?_map, List.getElem?_range (by omega)]
  rfl
theorem cutV_drop (xs : List V) {j : Nat} (h : j ≤ xs.length) : cutV xs (some (j : Int)) none = xs.drop j := by
  unfold cutV
  rw [HT.sIx_nat, HT.sIx_none, Nat.min_eq_left h]
  exact List.take_of_length_le (by rw [List.length_drop]; exact Nat.le_refl _)
/-- the numbers at which remainders came first -/
def NumsP (ss : List Sd) (v : Int) (i : Nat) (kvs : List (Key × V)) : Prop := kvs.length ≤ i + 1 ∧ ∀ (p : Int) (y : V), valV kvs (.inl p) = some y → ∃ j : Nat, y = .int (j : Int) ∧ j ≤ i ∧ it (hiL ss) j v % ((comN ss : Nat) : Int) = p
theorem numsP_put {ss : List Sd} {v : Int} {i : Nat} {kvs : List (Key × V)} (N : NumsP ss v i kvs) : NumsP ss v (i + 1) (putK kvs (.inl (it (hiL ss) (i + 1) v % ((comN ss : Nat) : Int))) (.int ((i + 1 : Nat) : Int))) := by
  refine ⟨Nat.le_trans (length_putK _ _ _) (by have := N.1; omega), fun p y h => ?_⟩
  rw [valV_put] at h
  split at h
  · rename_i e
    cases h
    refine ⟨i + 1, rfl, Nat.le_refl _, ?_⟩
    injection e with e
    exact e.symm
  · obtain ⟨j, a, b, c⟩ := N.2 p y h
    exact ⟨j, a, by omega, c⟩
/-- what the walk tells where a remainder has come again -/
theorem walk_end {ss : List Sd} (hs : ∀ d ∈ ss, SideP d.o d.s d.m) {v : Int} {i j n : Nat} (ji : j ≤ i) (ni : i < n) (e : it (hiL ss) j v % ((comN ss : Nat) : Int) = it (hiL ss) (i + 1) v % ((comN ss : Nat) : Int)) :
    ((valsI ss v i).drop j).getD ((n - j) % (i + 1 - j)) 0 + (((n - j) / (i + 1 - j) : Nat) : Int) * (it (hiL ss) (i + 1) v - ((valsI ss v i).drop j).getD 0 0) = it (hiL ss) n v := by
  have ml := Nat.mod_lt (n - j) (show 0 < i + 1 - j by omega)
  have dm := Nat.mod_add_div (n - j) (i + 1 - j)
  rw [valsI_get (by omega), valsI_get (by omega)]
  have hc : ((comN ss : Nat) : Int) ∣ it (hiL ss) (i + 1) v - it (hiL ss) j v := Int.dvd_of_emod_eq_zero (Int.emod_eq_emod_iff_emod_sub_eq_zero.mp e.symm)
  have g := it_again hs (v := v) (j := j) (p := i + 1 - j) hc (by rw [show j + (i + 1 - j) = i + 1 by omega]; omega) ((n - j) % (i + 1 - j)) ((n - j) / (i + 1 - j))
  rw [show j + (n - j) % (i + 1 - j) + (i + 1 - j) * ((n - j) / (i + 1 - j)) = n by omega] at g
  rw [g]
  rfl
section
variable {P : Program} {w : World} {K : PySem.W.Frag} {mg : Str → Option Value} {base : Heap} {fB fH fI fJ fL fM : Addr} {dB dH dI dJ dL dM : FuncData}
theorem ok_hw {f : Addr} {fd : FuncData} (F : Fun K "_highest_within" "_highest_within" s_highest_within f fd) (B : Blt mg) (MT : MaxT mg) (G : LimG mg) (Cp : Cal P w K mg base "common_period" 2 ["sides"] spPerL fH dH) (Hi : Cal P w K mg base "highest" 4 ["sides", "value"] spHi fI dI) (Co : Cal P w K mg base "_continued" 1 ["values", "following", "many"] spCont fJ dJ) : FnOk P w K mg base CX0 5 f fd ["sides", "value", "many"] spHW := by
  refine F.ok sc_highest_within (fun vs H Q E h => ?_) (fun cdv A outer s0 H vs Q E hr h => ?_)
  · obtain ⟨l, xs, ss, v, n, rfl, _⟩ := h
    rfl
  · obtain ⟨l, xs, ss, v, n, rfl, SS, hv, hn, q⟩ := h
    have nd := sc_highest_within.nd
    obtain ⟨tmr, hmr⟩ := G.mr
    refine ⟨_, pss_cons (ps_set (i := 3) nd rfl (Or.inl rfl) (pcl Cp hr (by decide) (by rfl) (pa_cons (pv 0) pa_nil)))
      (pss_cons (ps_set (i := 4) nd rfl (Or.inl rfl) (pe_lst (pa_cons (pv 1) pa_nil)))
      (pss_cons (ps_set (i := 5) nd rfl (Or.inl rfl) (pe_disp (pps_cons (pe_op op_mod (pv 1) (pv 3)) pe_int pps_nil) rfl rfl nofun (by decide)))
      (pss_cons (ps_for PassesOwn.never rfl (pi_range2 (by rfl) B.range (pa_cons pe_int (pa_cons (pe_op op_add (pe_callB (call_min2 rfl) (by rfl) MT.min (by decide +kernel) (pa_cons (pv 2) (pa_cons (pe_glob (v := .int 10000) (by rfl) hmr ⟨_, rfl⟩) pa_nil))) pe_int) pa_nil))) (pg_name (i := 6) nd rfl (Or.inl rfl))
        (pss_cons (ps_set (i := 1) nd rfl (Or.inl rfl) (pcl Hi hr (by decide) (by rfl) (pa_cons (pv 0) (pa_cons (pv 1) pa_nil))))
        (pss_cons (ps_set (i := 7) nd rfl (Or.inl rfl) (pe_op op_mod (pv 1) (pv 3)))
        (pss_cons (ps_if (pt_cmp (pc_din (lt1 hr.units) (pv 7) (pv 5)) (by rfl)) (pss_one (ps_ret (pcl Co hr (by decide) (by rfl) (pa_cons (pe_slice sl_list (pv 4) (po_some (pe_dget (lt1 hr.units) (pv 5) (pv 7) (fun _ _ => rfl))) po_none) (pa_cons (pv 1) (pa_cons (pe_op op_sub (pv 2) (pe_dget (lt1 hr.units) (pv 5) (pv 7) (fun _ _ => rfl))) pa_nil)))))) pss_nil)
        (pss_cons (ps_dput (lt1 hr.units) (pv 5) (pv 7) (pv 6) rfl)
        (pss_one (ps_expr (pe_bm PySem.F.plainAttrs_list PySem.F.slot_list_append PySem.F.type_list_append mt_append (pv 4) (pa_cons (pv 1) pa_nil)))))))))
      (pss_cons (ps_if (pt_cmpR op_gt (pv 2) (pe_glob (v := .int 10000) (by rfl) hmr ⟨_, rfl⟩) (nomark _)) (pss_one ps_never) pss_nil)
      (pss_one (ps_ret (pv 1))))))), ?_⟩
    walk_at "rd"
    refine ⟨l, xs, ss, rfl, SS, ?_⟩
    have cp := com_pos ss 1 (by decide) SS.side
    have cp2 : 0 < ((comN ss : Nat) : Int) := by
      show 0 < ((ss.foldl (fun n d => n.lcm (perN d)) 1 : Nat) : Int)
      omega
    walk_at "rd"
    refine ⟨(by show 1 ≤ sizeLine; decide), fun L nL => ?_⟩
    generalize e_L : upd H L _ = H1
    have g1 : H1 L = some (.lst [.int v]) := by rw [← e_L]; exact upd_same
    have w1 : Same H H1 := by rw [← e_L]; exact fun b u z => (upd_ne (ne_of_none z nL)).trans z
    clear e_L
    walk_at "rd"
    refine fun D nD => ?_
    walk_at "rd"
    refine ⟨cp2, ?_⟩
    walk_at "rd"
    refine ⟨upd_same, [(.inl (v % ((comN ss : Nat) : Int)), .int 0)], rfl, (by show 1 ≤ 15; decide), ?_⟩
    generalize e_D : upd (upd H1 D _) D _ = H2
    have g2 : H2 D = some (.dK [(.inl (v % ((comN ss : Nat) : Int)), .int 0)]) := by rw [← e_D]; exact upd_same
    have w2 : Same H1 H2 := by rw [← e_D]; exact fun b u z => (upd_ne (ne_of_none z nD)).trans ((upd_ne (ne_of_none z nD)).trans z)
    clear e_D
    have nLD : L ≠ D := fun z => by rw [← z, g1] at nD; cases nD
    walk_at "rd"
    refine ⟨_, _, rfl, ?_⟩
    rw [if_neg (by omega)]
    walk_at "rd"
    refine ⟨_, _, rfl, ⟨by decide, by decide, by omega, by omega⟩, ?_⟩
    rw [show ((n : Int) + 1 - 1).toNat = n by omega]
    refine for_range (n := n) (fun i st H' => ∃ (x6 x7 : Option V) (kvs : List (Key × V)), st = [some (.ref l), some (.int (it (hiL ss) i v)), some (.int (n : Int)), some (.int ((comN ss : Nat) : Int)), some (.ref L), some (.ref D), x6, x7] ∧ Same H H' ∧ H' L = some (.lst ((valsI ss v i).map V.int)) ∧ H' D = some (.dK kvs) ∧ NumsP ss v i kvs)
      ⟨none, none, _, rfl, w1.trans w2, w2 _ _ g1, g2, ⟨Nat.le_refl _, fun p y h => ?_⟩⟩ ?_ ?_
    · by_cases e : v % ((comN ss : Nat) : Int) = p
      · rw [valV_pos (by rw [e])] at h
        cases h
        exact ⟨0, rfl, Nat.le_refl _, e⟩
      · rw [valV_neg (fun z => e (by injection z))] at h
        cases h
    · rintro i st H' hi ⟨x6, x7, kvs, rfl, sm, hL, hD, N⟩
      have e1 : it (hiL ss) (i + 1) v = hiL ss (it (hiL ss) i v) := rfl
      obtain ⟨b0, b1⟩ := itL_bd SS.side v i
      obtain ⟨b2, b3⟩ := itL_bd SS.side v (i + 1)
      walk_at "rd"
      refine ⟨l, xs, ss, _, rfl, SS.same sm, by omega, fun h H3 hp s3 => ?_⟩
      obtain rfl := hip_eq hp
      rw [← e1]
      walk_at "rd"
      refine ⟨cp2, ?_⟩
      walk_at "rd"
      refine ⟨D, _, rfl, DGet.k (k := .inl _) (s3 _ _ hD), ?_⟩
      walk_at "rd"
      refine ite2 (fun z => ?_) (fun z => ?_)
      · obtain ⟨y, hy⟩ := Option.isSome_iff_exists.mp z
        obtain ⟨j, rfl, ji, ej⟩ := N.2 _ y hy
        have dg := DGet.k (k := .inl (it (hiL ss) (i + 1) v % ((comN ss : Nat) : Int))) (s3 _ _ hD)
        rw [hy] at dg
        obtain ⟨b4, b5⟩ := itL_bd SS.side v j
        walk_at "rd"
        refine ⟨D, _, rfl, dg, ?_⟩
        walk_at "rd"
        refine ⟨L, _, rfl, SqL.of (s3 _ _ hL), fun T nT => ?_⟩
        rw [cutV_drop _ (by rw [List.length_map, valsI_len]; omega), ← List.map_drop]
        generalize e_T : upd H3 T _ = H4
        have gT : H4 T = some (.lst (((valsI ss v i).drop j).map V.int)) := by rw [← e_T]; exact upd_same
        have w4 : Same H3 H4 := by rw [← e_T]; exact fun b u z => (upd_ne (ne_of_none z nT)).trans z
        clear e_T
        have dg4 : DGet H4 D (kV (.inl (it (hiL ss) (i + 1) v % ((comN ss : Nat) : Int)))) (valV kvs (.inl (it (hiL ss) (i + 1) v % ((comN ss : Nat) : Int)))) := DGet.k (k := .inl _) (w4 _ _ (s3 _ _ hD))
        rw [hy] at dg4
        walk_at "rd"
        refine ⟨D, _, rfl, dg4, ?_⟩
        walk_at "rd"
        have we := walk_end SS.side (n := n) ji hi ej
        have g0 := valsI_get (ss := ss) (v := v) (i := i) (j := j) (r := 0) (by omega)
        have gl : ((valsI ss v i).drop j).length = i + 1 - j := by rw [List.length_drop, valsI_len]
        have g0' : ((valsI ss v i).drop j).getD 0 0 = it (hiL ss) j v := g0
        refine ⟨T, (valsI ss v i).drop j, _, n - j, (by show _ = [V.ref T, V.int (it (hiL ss) (i + 1) v), V.int ((n - j : Nat) : Int)]; rw [show ((n - j : Nat) : Int) = (n : Int) - (j : Int) by omega]; rfl), gT, by rw [gl]; omega, by omega, by rw [gl]; omega, by omega, by rw [g0']; omega, fun H5 s5 => ?_⟩
        rw [gl, we]
        exact q _ (sm.trans (s3.trans (w4.trans s5)))
      · have nD0 : H D = none := w1.free nD
        walk_at "rd"
        refine ⟨D, _, rfl, DPut.k (k := .inl _) (s3 _ _ hD) (Nat.lt_of_le_of_lt N.1 (Nat.lt_of_lt_of_le (by omega : i + 1 < 2000) (by decide))), ?_⟩
        walk_at "rd"
        have hL3 := s3 _ _ hL
        refine ⟨.inl ⟨rfl, _, SqL.of ((upd_ne nLD).trans hL3)⟩, ?_⟩
        walk_at "rd"
        refine ⟨L, _, _, rfl, rfl, (upd_ne nLD).trans hL3, (by rw [List.length_map, valsI_len]; exact Nat.lt_of_lt_of_le (by omega : i + 1 < 2000) (by decide)), ?_⟩
        refine ⟨_, _, _, rfl, fun b u z => (upd_ne (ne_of_none z nL)).trans ((upd_ne (ne_of_none z nD0)).trans (s3 _ _ (sm _ _ z))), ?_, (upd_ne (Ne.symm nLD)).trans upd_same, ?_⟩
        · rw [valsI_succ, List.map_append]
          exact upd_same
        · have np := numsP_put N
          rw [show ((i + 1 : Nat) : Int) = 1 + (i : Int) by omega] at np
          exact np
    · rintro st H' ⟨x6, x7, kvs, rfl, sm, hL, hD, N⟩
      walk_at "rd"
      refine ite2 (fun z => ?_) (fun z => ?_)
      · have := of_decide_eq_true z
        omega
      · walk_at "rd"
        exact q _ sm
end
end HT
namespace HT
open PySem L2
def spWi : Sp := fun vs H Q _ => ∃ (l : Addr) (xs : List V) (ss : List Sd) (v : Int) (n : Nat), vs = [.ref l, .int v, .int (n : Int)] ∧ SidesAt H l xs ss ∧ (-2 ^ 590 < v ∧ v < 2 ^ 590) ∧ n ≤ 1000 ∧
  ∀ (p : Addr) (H' : Hp), Same H H' → H p = none → H' p = some (.tup [.int (-(it (hiL (ss.map mirD)) n (-v))), .int (it (hiL ss) n v)]) → Q (.ref p) H'
section
variable {P : Program} {w : World} {K : PySem.W.Frag} {mg : Str → Option Value} {base : Heap} {fB fH fI fJ fL fM : Addr} {dB dH dI dJ dL dM : FuncData}
theorem ok_within {f : Addr} {fd : FuncData} (F : Fun K "within" "within" s_within f fd) (G : LimG mg) (Ls : Cal P w K mg base "check_sides" 5 ["sides"] spSides fB dB) (Vl : Cal P w K mg base "check_value" 2 ["value"] spCheckValue fH dH) (Bw : Cal P w K mg base "is_int_between" 2 ["thing", "least", "most"] spBetween fI dI) (Mi : Cal P w K mg base "mirrors" 5 ["sides"] spMirs fJ dJ)
    (Hw : Cal P w K mg base "_highest_within" 5 ["sides", "value", "many"] spHW fL dL) : FnOk P w K mg base CX0 6 f fd ["sides", "value", "many"] spWi := by
  refine F.ok sc_within (fun vs H Q E h => ?_) (fun cdv A outer s0 H vs Q E hr h => ?_)
  · obtain ⟨l, xs, ss, v, n, rfl, _⟩ := h
    rfl
  · obtain ⟨l, xs, ss, v, n, rfl, SS, hv, hn, q⟩ := h
    have nd := sc_within.nd
    obtain ⟨tmn, hmn⟩ := G.mn
    refine ⟨_, (pss_cons (ps_expr (pcl Ls hr (by decide) (by rfl) (pa_cons (pv 0) pa_nil)))
      (pss_cons (ps_expr (pcl Vl hr (by decide) (by rfl) (pa_cons (pv 1) pa_nil)))
      (pss_cons (ps_if (pt_not (pt_val (pcl Bw hr (by decide) (by rfl) (pa_cons (pv 2) (pa_cons pe_int (pa_cons (pe_glob (v := .int (10 ^ 40)) (by rfl) hmn ⟨_, rfl⟩) pa_nil)))))) (pss_one ps_never) pss_nil)
      (pss_cons (ps_set (i := 3) nd rfl (Or.inl rfl) (pcl Hw hr (by decide) (by rfl) (pa_cons (pv 0) (pa_cons (pv 1) (pa_cons (pv 2) pa_nil)))))
      (pss_one (ps_ret (pe_tup (pa_cons (pe_un un_neg (pcl Hw hr (by decide) (by rfl) (pa_cons (pcl Mi hr (by decide) (by rfl) (pa_cons (pv 0) pa_nil)) (pa_cons (pe_un un_neg (pv 1)) (pa_cons (pv 2) pa_nil))))) (pa_cons (pv 3) pa_nil))))))))), ?_⟩
    have sM : ∀ d ∈ ss.map mirD, SideP d.o d.s d.m := fun d hd => by
      obtain ⟨e, he, rfl⟩ := List.mem_map.mp hd
      exact side_mir (SS.side e he)
    walk_at "rd"
    refine ⟨l, xs, ss, rfl, SS, ?_⟩
    walk_at "rd"
    refine ⟨_, _, _, rfl, ?_⟩
    walk_at "rd"
    refine ite2 (fun z => ?_) (fun _ => ?_)
    · exfalso
      have a1 : decide ((0 : Int) ≤ (n : Int)) = true := decide_eq_true (by omega)
      have a2 : decide ((n : Int) ≤ 10 ^ 40) = true := decide_eq_true (by omega)
      rw [a1, a2] at z
      exact absurd z (by decide)
    walk_at "rd"
    refine ⟨l, xs, ss, v, n, rfl, SS.toL, hv, hn, fun H1 s1 => ?_⟩
    walk_at "rd"
    refine ⟨l, xs, ss, rfl, SS.toL.same s1, fun L2 y2 H2 n2 s2 S2 => ?_⟩
    walk_at "rd"
    refine ⟨L2, y2, _, -v, n, rfl, S2, by omega, hn, fun H3 s3 => ?_⟩
    walk_at "rd"
    refine ⟨(by show 2 ≤ sizeLine; decide), fun T nT => ?_⟩
    have sA := s1.trans (s2.trans s3)
    exact q T _ (fun b u z => (upd_ne (ne_of_none (sA _ _ z) nT)).trans (sA _ _ z)) (sA.free nT) upd_same
end
end HT
namespace HT
open PySem L2
/-- the sides as they are, or their mirrors, by the sign -/
def Sgn (sg : Int) (ss tt : List Sd) : Prop := (sg = 1 ∧ tt = ss) ∨ (sg = -1 ∧ tt = ss.map mirD)
theorem sgn_side {sg : Int} {ss tt : List Sd} (S : Sgn sg ss tt) (hs : ∀ d ∈ ss, SideP d.o d.s d.m) : ∀ d ∈ tt, SideP d.o d.s d.m := by
  rcases S with ⟨_, rfl⟩ | ⟨_, rfl⟩
  · exact hs
  · intro d hd
    obtain ⟨e, he, rfl⟩ := List.mem_map.mp hd
    exact side_mir (hs e he)
theorem hi_max {ss : List Sd} {y M : Int} (mi : ∃ d ∈ ss, M = dueM d.o d.s d.m y) (mm : ∀ d ∈ ss, dueM d.o d.s d.m y ≤ M) : hiL ss y = max y M := by
  refine (hip_eq ⟨by omega, fun d hd => ?_, ?_⟩).symm
  · have := mm d hd
    omega
  · by_cases z : M ≤ y
    · exact .inl (by omega)
    · obtain ⟨d, hd, e⟩ := mi
      exact .inr ⟨d, hd, by omega⟩
/-- what the greater of the writers tells, or the smaller one for the other sign -/
theorem sgn_after {sg : Int} {ss tt : List Sd} (S : Sgn sg ss tt) (hs : ∀ d ∈ ss, SideP d.o d.s d.m) {y m M : Int}
    (m1 : m ∈ ss.map fun d => dueM d.o d.s d.m (sg * y)) (m2 : ∀ z ∈ ss.map fun d => dueM d.o d.s d.m (sg * y), m ≤ z) (M1 : M ∈ ss.map fun d => dueM d.o d.s d.m (sg * y)) (M2 : ∀ z ∈ ss.map fun d => dueM d.o d.s d.m (sg * y), z ≤ M) :
    ((if 0 < sg then M else m) - sg * y) * sg ≤ 0 ∧ hiL tt y = y ∨ ¬ ((if 0 < sg then M else m) - sg * y) * sg ≤ 0 ∧ hiL tt y ≠ y ∧ (if 0 < sg then M else m) = sg * hiL tt y := by
  rcases S with ⟨rfl, rfl⟩ | ⟨rfl, rfl⟩
  · rw [Int.one_mul] at m1 m2 M1 M2
    obtain ⟨d, hd, e⟩ := List.mem_map.mp M1
    have h := hi_max (ss := tt) ⟨d, hd, e.symm⟩ (all_due.mp M2)
    rw [if_pos (by decide), h]
    omega
  · rw [show -1 * y = -y by omega] at m1 m2 M1 M2
    obtain ⟨d, hd, e⟩ := List.mem_map.mp m1
    have key : ∀ e ∈ ss, dueM (mirD e).o (mirD e).s (mirD e).m y = -dueM e.o e.s e.m (-y) := fun e he => by
      have := dueN (x := -y) (hs e he)
      rw [Int.neg_neg] at this
      exact this
    have h := hi_max (ss := ss.map mirD) (y := y) (M := -m) ⟨mirD d, List.mem_map.mpr ⟨d, hd, rfl⟩, by rw [key d hd, e]⟩ (fun e he => by
      obtain ⟨e2, he2, rfl⟩ := List.mem_map.mp he
      rw [key e2 he2]
      have := m2 _ (List.mem_map.mpr ⟨e2, he2, rfl⟩)
      omega)
    rw [if_neg (by decide), h]
    omega
theorem per_mir {m : Str} {s : Int} (h : Mode m) : perM s (mir m) = perM s m := by
  rcases h with rfl | rfl | rfl | rfl | rfl <;> rfl
/-- no value on the way rests -/
theorem una_way {ss : List Sd} (hs : ∀ d ∈ ss, SideP d.o d.s d.m) {v : Int} : ∀ {m : Nat}, (∀ i, i < m → it (hiL ss) (i + 1) v ≠ it (hiL ss) i v) → ∀ y, v ≤ y → y < it (hiL ss) m v → ¬ UnA ss y
  | 0, _, y, a, b, _ => by
    have : it (hiL ss) 0 v = v := rfl
    omega
  | m + 1, h, y, a, b, u => by
    by_cases z : y < it (hiL ss) m v
    · exact una_way hs (fun i hi => h i (by omega)) y a z u
    · have e : it (hiL ss) (m + 1) v = hiL ss (it (hiL ss) m v) := rfl
      have := hiL_mono hs (show it (hiL ss) m v ≤ y by omega)
      rw [una_hi.mp u] at this
      omega
theorem end_uniq {ss : List Sd} (hs : ∀ d ∈ ss, SideP d.o d.s d.m) {v : Int} {a b : Option Nat} (h : EndN ss v a) (g : EndN ss v b) : a = b := by
  cases a with
  | none => cases b with
    | none => rfl
    | some n => obtain ⟨E, s, L⟩ := g; exact absurd L.2.1 (h E L.1)
  | some n => cases b with
    | none => obtain ⟨E, s, L⟩ := h; exact absurd L.2.1 (g E L.1)
    | some m =>
      obtain ⟨E, ⟨a1, b1, c1⟩, _⟩ := h
      obtain ⟨D, ⟨a2, b2, c2⟩, _⟩ := g
      have step : ∀ i j E, it (hiL ss) i v = E → hiL ss E = E → i < j → it (hiL ss) (i + 1) v = it (hiL ss) i v := fun i j E h1 h2 _ => by
        show hiL ss (it (hiL ss) i v) = _
        rw [h1, h2]
      by_cases x : n < m
      · exact absurd (step n m E a1 b1 x) (c2 n x)
      · by_cases y : m < n
        · exact absurd (step m n D a2 b2 y) (c1 m y)
        · rw [show n = m by omega]
end HT
namespace HT
open PySem L2
theorem com_mirF : ∀ (ss : List Sd) (n : Nat), (∀ d ∈ ss, SideP d.o d.s d.m) → (ss.map mirD).foldl (fun n d => n.lcm (perN d)) n = ss.foldl (fun n d => n.lcm (perN d)) n
  | [], n, _ => rfl
  | d :: ss, n, h => by
    have e : perN (mirD d) = perN d := congrArg Int.toNat (per_mir (s := d.s) (h d List.mem_cons_self).md)
    rw [List.map_cons, List.foldl_cons, List.foldl_cons, e]
    exact com_mirF ss _ fun x hx => h x (List.mem_cons_of_mem _ hx)
theorem sgn_com {sg : Int} {ss tt : List Sd} (S : Sgn sg ss tt) (hs : ∀ d ∈ ss, SideP d.o d.s d.m) : comN tt = comN ss := by
  rcases S with ⟨_, rfl⟩ | ⟨_, rfl⟩
  · rfl
  · exact com_mirF ss 1 hs
theorem sgn_sq {sg : Int} {ss tt : List Sd} (S : Sgn sg ss tt) (x : Int) : sg * (sg * x) = x := by
  rcases S with ⟨rfl, _⟩ | ⟨rfl, _⟩ <;> omega
theorem sgn_abs {sg : Int} {ss tt : List Sd} (S : Sgn sg ss tt) {y w : Int} (h : w ≤ y) : (if sg * y - sg * w < 0 then -(sg * y - sg * w) else sg * y - sg * w) = y - w := by
  rcases S with ⟨rfl, _⟩ | ⟨rfl, _⟩ <;> omega
theorem sgn_bd {sg : Int} {ss tt : List Sd} (S : Sgn sg ss tt) {y b : Int} (h : -b < y ∧ y < b) : -b < sg * y ∧ sg * y < b := by
  rcases S with ⟨rfl, _⟩ | ⟨rfl, _⟩ <;> omega
end HT
namespace HT
open PySem L2
def spCnt : Sp := fun vs H Q _ => ∃ (l : Addr) (xs : List V) (ss tt : List Sd) (v sg : Int), vs = [.ref l, .int v, .int sg] ∧ SidesAt H l xs ss ∧ (-2 ^ 580 < v ∧ v < 2 ^ 580) ∧ Sgn sg ss tt ∧ ∀ (r : Option Nat) (H' : Hp), EndN tt (sg * v) r → Same H H' → Q (oN r) H'
section
variable {P : Program} {w : World} {K : PySem.W.Frag} {mg : Str → Option Value} {base : Heap} {fB fH fI fJ fL fM fN : Addr} {dB dH dI dJ dL dM dN : FuncData}
theorem ok_cnt {f : Addr} {fd : FuncData} (F : Fun K "_law_count" "_law_count" s_L_count f fd) (B : Blt mg) (MT : MaxT mg) (Pe : Cal P w K mg base "_law_period" 2 ["_law_sides"] spPer fB dB) (Wr : Cal P w K mg base "_law_written" 3 ["_law_sides", "_law_value"] spWrL fH dH) : FnOk P w K mg base CX0 4 f fd ["_law_sides", "_law_value", "_law_sign"] spCnt := by
  refine F.ok sc_L_count (fun vs H Q E h => ?_) (fun cdv A outer s0 H vs Q E hr h => ?_)
  · obtain ⟨l, xs, ss, tt, v, sg, rfl, _⟩ := h
    rfl
  · obtain ⟨l, xs, ss, tt, v, sg, rfl, SS, hv, SG, q⟩ := h
    have nd := sc_L_count.nd
    refine ⟨_, (pss_cons (ps_par3 (i := 3) (j := 4) (l := 5) (by rfl) nd rfl rfl rfl (by decide) (by decide) (by decide) rfl rfl rfl (pa_cons (pcl Pe hr (by decide) (by rfl) (pa_cons (pv 0) pa_nil)) (pa_cons (pv 1) (pa_cons pe_int pa_nil))) (by rfl))
      (pss_cons (ps_while PassesOwn.never (pt_cmpR op_lt (pe_callB call_abs (by rfl) B.abs (by decide +kernel) (pa_cons (pe_op op_sub (pv 1) (pv 4)) pa_nil)) (pv 3) (nomark _)) (pss_cons (ps_set (i := 6) nd rfl (Or.inl rfl) (pcl Wr hr (by decide) (by rfl) (pa_cons (pv 0) (pa_cons (pv 1) pa_nil))))
      (pss_cons (ps_set (i := 7) nd rfl (Or.inl rfl) (pe_ix ix_list (pe_lst (pa_cons (pe_callB (cr_min rfl) (by rfl) MT.min (by decide +kernel) (pa_cons (pv 6) pa_nil)) (pa_cons (pe_callB (cr_max rfl) (by rfl) MT.max (by decide +kernel) (pa_cons (pv 6) pa_nil)) pa_nil))) (pe_callTy call_int1 (by rfl) B.int (by decide +kernel) (pa_cons (pe_cmpR op_gt (pv 2) pe_int (nomark _)) pa_nil)) (fun _ _ => rfl)))
      (pss_cons (ps_if (pt_cmpR op_le (pe_op op_mulW (pe_op op_sub (pv 7) (pv 1)) (pv 2)) pe_int (nomark _)) (pss_one (ps_ret (pv 5))) pss_nil)
      (pss_one (ps_par (i := 1) (j := 5) (by rfl) nd rfl rfl (by decide) rfl rfl (pa_cons (pv 7) (pa_cons (pe_op op_add (pv 5) pe_int) pa_nil)) (by rfl)))))))
      (pss_one (ps_ret pe_non)))), ?_⟩
    obtain ⟨u, hu⟩ : ∃ u, v = sg * u := ⟨sg * v, (sgn_sq SG v).symm⟩
    have ub := sgn_bd SG hv
    subst hu
    rw [sgn_sq SG] at q ub
    have hs := sgn_side SG SS.side
    have ec := sgn_com SG SS.side
    have cp := com_pos ss 1 (by decide) SS.side
    have cp2 : 0 < ((comN ss : Nat) : Int) := by
      show 0 < ((ss.foldl (fun n d => n.lcm (perN d)) 1 : Nat) : Int)
      omega
    have cl := com_lt SS.side SS.l4
    have cl2 : ((comN ss : Nat) : Int) < 2 ^ 420 := by exact_mod_cast cl
    walk_at "rd"
    refine ⟨l, xs, ss, rfl, SS, ?_⟩
    walk_at "rd"
    refine ⟨_, _, _, rfl, ?_⟩
    walk_at "rd"
    refine ⟨fun μ st H' => ∃ (m : Nat) (x6 x7 : Option V), μ = (u + (comN ss : Int) + 10 ^ 31 - it (hiL tt) m u).toNat ∧ st = [some (.ref l), some (.int (sg * it (hiL tt) m u)), some (.int sg), some (.int (comN ss : Int)), some (.int (sg * u)), some (.int (m : Int)), x6, x7] ∧ Same H H' ∧ (u ≤ it (hiL tt) m u ∧ it (hiL tt) m u < u + (comN ss : Int) + 10 ^ 31) ∧ ∀ i, i < m → it (hiL tt) (i + 1) u ≠ it (hiL tt) i u,
      ⟨_, 0, none, none, rfl, rfl, Same.refl _, ⟨Int.le_refl _, by show u < _; omega⟩, fun i hi => absurd hi (Nat.not_lt_zero _)⟩, ?_⟩
    rintro μ st H' ⟨m, x6, x7, rfl, rfl, sm, ⟨y0, y1⟩, nst⟩
    have yb := sgn_bd (y := it (hiL tt) m u) (b := 2 ^ 800) SG ⟨by omega, by omega⟩
    walk_at "rd"
    rw [sgn_abs SG y0]
    walk_at "rd"
    refine ite2 (fun z => ?_) (fun z => ?_)
    · have z2 : it (hiL tt) m u - u < (comN ss : Int) := of_decide_eq_true z
      refine ⟨fun σ' H'' => ∃ (x6 x7 : Option V), σ' = [some (.ref l), some (.int (sg * it (hiL tt) (m + 1) u)), some (.int sg), some (.int (comN ss : Int)), some (.int (sg * u)), some (.int ((m + 1 : Nat) : Int)), x6, x7] ∧ Same H H'' ∧ it (hiL tt) (m + 1) u ≠ it (hiL tt) m u,
        fun σ' H'' ⟨x6, x7, e1, e2, e3⟩ => ⟨_, ?_, m + 1, x6, x7, rfl, e1, e2, ?_, fun i hi => ?_⟩, ?_⟩
      · have e4 : it (hiL tt) (m + 1) u = hiL tt (it (hiL tt) m u) := rfl
        have g := hiL_ge tt (it (hiL tt) m u)
        omega
      · have e4 : it (hiL tt) (m + 1) u = hiL tt (it (hiL tt) m u) := rfl
        have g := hiL_ge tt (it (hiL tt) m u)
        have h := hi_bd hs (hiL_hip tt (it (hiL tt) m u))
        omega
      · by_cases y : i < m
        · exact nst i y
        · obtain rfl : i = m := by omega
          exact e3
      walk_at "rd"
      refine ⟨l, xs, ss, _, rfl, SS.same sm, by omega, fun W H3 nW s3 hW => ?_⟩
      have hne : 0 < (ss.map fun d => dueM d.o d.s d.m (sg * it (hiL tt) m u)).length := by rw [List.length_map]; exact SS.l1
      walk_at "rd"
      refine ⟨W, _, rfl, SqL.of hW, hne, fun m2 mi2 mm2 => ?_⟩
      walk_at "rd"
      refine ⟨W, _, rfl, SqL.of hW, hne, fun M2 Mi2 Mm2 => ?_⟩
      have af := sgn_after SG SS.side mi2 mm2 Mi2 Mm2
      have bd : ∀ z ∈ ss.map (fun d => dueM d.o d.s d.m (sg * it (hiL tt) m u)), -2 ^ 900 < z ∧ z < 2 ^ 900 := by
        intro z hz
        obtain ⟨d, hd, rfl⟩ := List.mem_map.mp hz
        have := due_near (o := d.o) (v := sg * it (hiL tt) m u) (SS.side d hd).md (SS.side d hd).s0
        have := (SS.side d hd).s1
        omega
      have ix : atI [V.int m2, .int M2] (if decide (0 < sg) = true then 1 else 0) = some (.int (if 0 < sg then M2 else m2)) := by
        by_cases z : 0 < sg
        · rw [if_pos (decide_eq_true z), if_pos z]
          rfl
        · rw [if_neg (fun c => z (of_decide_eq_true c)), if_neg z]
          rfl
      have ab : -2 ^ 900 < (if 0 < sg then M2 else m2) ∧ (if 0 < sg then M2 else m2) < 2 ^ 900 := by
        split
        · exact bd _ Mi2
        · exact bd _ mi2
      have sb : -2 ^ 1010 < sg ∧ sg < 2 ^ 1010 := by rcases SG with ⟨rfl, _⟩ | ⟨rfl, _⟩ <;> omega
      generalize (if 0 < sg then M2 else m2) = a at af ix ab
      walk_at "rd"
      refine ⟨(by show 2 ≤ sizeLine; decide), fun L9 nL9 => ?_⟩
      generalize e_L9 : upd H3 L9 _ = H4
      have g9 : H4 L9 = some (.lst [.int m2, .int M2]) := by rw [← e_L9]; exact upd_same
      have w4 : Same H3 H4 := by rw [← e_L9]; exact fun b u z => (upd_ne (ne_of_none z nL9)).trans z
      clear e_L9
      walk_at "rd"
      refine .inr ⟨_, rfl, ?_⟩
      refine ⟨L9, _, _, _, rfl, rfl, SqL.of g9, ix, ?_⟩
      walk_at "rd"
      refine ⟨mulW (by omega) sb, ?_⟩
      walk_at "rd"
      refine ite2 (fun zz => ?_) (fun zz => ?_)
      · have z3 : (a - sg * it (hiL tt) m u) * sg ≤ 0 := of_decide_eq_true zz
        have fx : hiL tt (it (hiL tt) m u) = it (hiL tt) m u := by
          rcases af with ⟨_, e⟩ | ⟨e, _⟩
          · exact e
          · exact absurd z3 e
        walk_at "rd"
        exact q (some m) _ ⟨_, ⟨rfl, fx, nst⟩, y0, una_hi.mpr fx, una_way hs nst⟩ (sm.trans (s3.trans w4))
      · have z3 : ¬ (a - sg * it (hiL tt) m u) * sg ≤ 0 := fun c => zz (decide_eq_true c)
        obtain ⟨ne, ea⟩ : hiL tt (it (hiL tt) m u) ≠ it (hiL tt) m u ∧ a = sg * hiL tt (it (hiL tt) m u) := by
          rcases af with ⟨e, _⟩ | ⟨_, e1, e2⟩
          · exact absurd e z3
          · exact ⟨e1, e2⟩
        subst ea
        walk_at "rd"
        refine ⟨_, _, rfl, ?_⟩
        exact ⟨_, _, rfl, sm.trans (s3.trans w4), ne⟩
    · have z2 : ¬ it (hiL tt) m u - u < (comN ss : Int) := fun c => z (decide_eq_true c)
      walk_at "rd"
      refine q none H' (una_none hs (u := it (hiL tt) m u) (by rw [ec]; omega) (una_way hs nst)) sm
end
end HT
namespace HT
open PySem L2
theorem goes_scale {m : Str} {s q r f : Int} (h : Mode m) (hf : 1 ≤ f) : goesUp m (s * f) q (r * f) = goesUp m s q r := by
  have key : ∀ a b : Int, a * f < b * f ↔ a < b := fun a b => Int.mul_lt_mul_right (by omega)
  have key2 : ∀ a b : Int, a * f ≤ b * f ↔ a ≤ b := fun a b => by
    rw [← Int.not_lt, key, Int.not_lt]
  have e0 : (0 : Int) < r * f ↔ 0 < r := by
    have := key 0 r
    rw [Int.zero_mul] at this
    exact this
  have e1 : s * f < 2 * (r * f) ↔ s < 2 * r := by
    have := key s (2 * r)
    rw [Int.mul_assoc] at this
    exact this
  have e2 : s * f ≤ 2 * (r * f) ↔ s ≤ 2 * r := by
    have := key2 s (2 * r)
    rw [Int.mul_assoc] at this
    exact this
  have e3 : 2 * (r * f) = s * f ↔ 2 * r = s := by
    rw [← Int.mul_assoc]
    exact Int.mul_eq_mul_right_iff (by omega)
  rcases h with e | e | e | e | e <;> subst e
  · rw [go_down, go_down]
  · rw [go_up, go_up]; exact decide_eq_decide.mpr e0
  · rw [go_hd, go_hd]; exact decide_eq_decide.mpr e1
  · rw [go_hu, go_hu]; exact decide_eq_decide.mpr e2
  · rw [go_he, go_he, decide_eq_decide.mpr e1, decide_eq_decide.mpr e3]
theorem due_scale {o s v f : Int} {m : Str} (h : Mode m) (hs : 1 ≤ s) (hf : 1 ≤ f) : dueM (o * f) (s * f) m (v * f) = dueM o s m v * f := by
  have F := fig_of (o := o) (m := m) (v := v) hs
  have sf : 1 ≤ s * f := Int.mul_pos (by omega) (by omega)
  obtain ⟨eq, r0, r1, wh⟩ := F
  generalize (v - o) / s = q at eq wh
  generalize (v - o) % s = r at eq r0 r1 wh
  have F2 : Fig (o * f) (s * f) m (v * f) q (r * f) (figM o s m v) := by
    refine ⟨?_, Int.mul_nonneg r0 (by omega), (Int.mul_lt_mul_right (by omega)).mpr r1, ?_⟩
    · rw [← Int.sub_mul, eq, Int.add_mul, Int.mul_assoc, Int.mul_assoc, Int.mul_comm q f]
    · rw [goes_scale h hf]; exact wh
  have e := fig_uniq sf F2
  unfold dueM
  rw [e, Int.add_mul, Int.mul_assoc, Int.mul_assoc, Int.mul_comm f]
def lift (f : Int) (d : Sd) : Sd := ⟨d.o * f, d.s * f, d.m⟩
theorem due_lift {d : Sd} (h : SideP d.o d.s d.m) {f : Int} (hf : 1 ≤ f) (v : Int) : dueM (lift f d).o (lift f d).s (lift f d).m (v * f) = dueM d.o d.s d.m v * f := due_scale h.md h.s0 hf
theorem mir_lift (f : Int) (ss : List Sd) : (ss.map (lift f)).map mirD = (ss.map mirD).map (lift f) := by
  rw [List.map_map, List.map_map]
  refine List.map_congr_left fun d _ => ?_
  show (⟨-(d.o * f), d.s * f, mir d.m⟩ : Sd) = ⟨-d.o * f, d.s * f, mir d.m⟩
  rw [Int.neg_mul]
theorem side_mirs {ss : List Sd} (hs : ∀ d ∈ ss, SideP d.o d.s d.m) : ∀ d ∈ ss.map mirD, SideP d.o d.s d.m := fun d hd => by
  obtain ⟨e, he, rfl⟩ := List.mem_map.mp hd
  exact side_mir (hs e he)
theorem max_mul {a b f : Int} (hf : 1 ≤ f) : max (a * f) (b * f) = max a b * f := by
  rcases Int.le_total a b with h | h
  · have := Int.mul_le_mul_of_nonneg_right h (show 0 ≤ f by omega)
    rw [Int.max_eq_right h, Int.max_eq_right this]
  · have := Int.mul_le_mul_of_nonneg_right h (show 0 ≤ f by omega)
    rw [Int.max_eq_left h, Int.max_eq_left this]
theorem hiL_lift {f : Int} (hf : 1 ≤ f) : ∀ {ss : List Sd}, (∀ d ∈ ss, SideP d.o d.s d.m) → ∀ x, hiL (ss.map (lift f)) (x * f) = hiL ss x * f
  | [], _, x => rfl
  | d :: ss, h, x => by
    have e1 : dW (lift f d) (x * f) = dW d x * f := due_lift (h d List.mem_cons_self) hf x
    have e2 := hiL_lift hf (fun y hy => h y (List.mem_cons_of_mem _ hy)) x (ss := ss)
    show max (dW (lift f d) (x * f)) (hiL (ss.map (lift f)) (x * f)) = max (dW d x) (hiL ss x) * f
    rw [e1, e2, max_mul hf]
theorem itL_lift {f : Int} (hf : 1 ≤ f) {ss : List Sd} (hs : ∀ d ∈ ss, SideP d.o d.s d.m) (x : Int) : ∀ n, it (hiL (ss.map (lift f))) n (x * f) = it (hiL ss) n x * f
  | 0 => rfl
  | n + 1 => by
    show hiL (ss.map (lift f)) (it (hiL (ss.map (lift f))) n (x * f)) = hiL ss (it (hiL ss) n x) * f
    rw [itL_lift hf hs x n, hiL_lift hf hs]
theorem mulf_inj {a b f : Int} (hf : 1 ≤ f) (e : a * f = b * f) : a = b := Int.eq_of_mul_eq_mul_right (by omega) e
/-- the fewest hand-overs of lifted sides -/
theorem endN_lift {f : Int} (hf : 1 ≤ f) {ss : List Sd} (hs : ∀ d ∈ ss, SideP d.o d.s d.m) {v : Int} {r : Option Nat} (h : EndN (ss.map (lift f)) (v * f) r) : EndN ss v r := by
  cases r with
  | none =>
    intro y y0 u
    have le := Int.mul_le_mul_of_nonneg_right y0 (show 0 ≤ f by omega)
    refine h (y * f) le fun e he => ?_
    obtain ⟨d, hd, rfl⟩ := List.mem_map.mp he
    rw [due_lift (hs d hd) hf]
    exact Int.mul_le_mul_of_nonneg_right (u d hd) (by omega)
  | some n =>
    obtain ⟨E, ⟨a, b, c⟩, _⟩ := h
    rw [itL_lift hf hs] at a
    subst a
    rw [hiL_lift hf hs] at b
    have fx := mulf_inj hf b
    have nst : ∀ i, i < n → it (hiL ss) (i + 1) v ≠ it (hiL ss) i v := fun i hi e => c i hi (by rw [itL_lift hf hs, itL_lift hf hs, e])
    refine ⟨_, ⟨rfl, fx, nst⟩, ?_, una_hi.mpr fx, una_way hs nst⟩
    exact (itL_bd hs v n).1
end HT
namespace HT
open PySem L2
theorem com_dvd_of {N : Nat} : ∀ (ts : List Sd) (n : Nat), n ∣ N → (∀ d ∈ ts, perN d ∣ N) → ts.foldl (fun n d => n.lcm (perN d)) n ∣ N
  | [], n, h, _ => h
  | d :: ts, n, h, k => by
    rw [List.foldl_cons]
    exact com_dvd_of ts _ (Nat.lcm_dvd h (k d List.mem_cons_self)) fun x hx => k x (List.mem_cons_of_mem _ hx)
theorem com_filter {ss : List Sd} (hs : ∀ d ∈ ss, SideP d.o d.s d.m) (p : Sd → Bool) : comN (ss.filter p) ≤ comN ss :=
  Nat.le_of_dvd (com_pos ss 1 (by decide) hs) (com_dvd_of _ 1 (Nat.one_dvd _) fun d hd => (com_dvd ss 1).2 d (List.mem_filter.mp hd).1)
theorem few_of {ss : List Sd} (hs : ∀ d ∈ ss, SideP d.o d.s d.m) (h : ss.length ≤ 2 ∨ comN ss ≤ 100000) : FewP ss := by
  rcases h with h | h
  · exact .inl (Nat.le_trans (List.length_filter_le _ _) h)
  · exact .inr (Nat.le_trans (com_filter hs upD) h)
theorem few_both {ss : List Sd} (hs : ∀ d ∈ ss, SideP d.o d.s d.m) (h : ss.length ≤ 2 ∨ comN ss ≤ 100000) : FewP ss ∧ FewP (ss.map mirD) := by
  refine ⟨few_of hs h, few_of (side_mirs hs) ?_⟩
  rw [List.length_map, show comN (ss.map mirD) = comN ss from com_mirF ss 1 hs]
  exact h
theorem lift_one (ss : List Sd) : ss.map (lift 1) = ss := by
  have : lift 1 = id := funext fun d => by unfold lift; rw [Int.mul_one, Int.mul_one]; rfl
  rw [this, List.map_id]
theorem few_lift {ss : List Sd} {f : Int} (hl : ∀ d ∈ ss.map (lift f), SideP d.o d.s d.m) (h : ss.length ≤ 2 ∨ (f = 1 ∧ comN ss ≤ 100000)) : FewP (ss.map (lift f)) ∧ FewP ((ss.map (lift f)).map mirD) := by
  refine few_both hl ?_
  rcases h with h | ⟨rfl, h⟩
  · exact .inl (by rw [List.length_map]; exact h)
  · exact .inr (by rw [lift_one]; exact h)
theorem lift_bd {d : Sd} {f : Int} (sp : SideP d.o d.s d.m) (b : -30 ≤ d.o ∧ d.o ≤ 29 ∧ d.s ≤ 12) (h1 : 1 ≤ f) (h2 : f ≤ 10 ^ 27) : SideP (d.o * f) (d.s * f) d.m := by
  obtain ⟨o0, o1, s0, s1, md⟩ := sp
  obtain ⟨b1, b2, b3⟩ := b
  have x1 : (-30) * f ≤ d.o * f := Int.mul_le_mul_of_nonneg_right b1 (by omega)
  have x2 : d.o * f ≤ 29 * f := Int.mul_le_mul_of_nonneg_right b2 (by omega)
  have x3 : d.s * f ≤ 12 * f := Int.mul_le_mul_of_nonneg_right b3 (by omega)
  have x4 : 1 * f ≤ d.s * f := Int.mul_le_mul_of_nonneg_right s0 (by omega)
  refine ⟨?_, ?_, ?_, ?_, md⟩ <;> omega
theorem mulF {i f : Int} (hi : -10 ^ 300 ≤ i ∧ i ≤ 10 ^ 300) (h1 : 1 ≤ f) (h2 : f ≤ 10 ^ 27) : CMulW i f := by
  refine mulW ?_ ?_
  · have : (10 ^ 300 : Int) < 2 ^ 1010 := by decide +kernel
    omega
  · have : (10 ^ 27 : Int) < 2 ^ 1010 := by decide +kernel
    omega
end HT
namespace HT
open PySem L2
def dO : Option Nat → PyData
  | none => .none
  | some n => .int (n : Int)
theorem dpO {K : PySem.W.Frag} {H : Hp} (r : Option Nat) : Dp K H (oN r) (dO r) := by
  cases r with
  | none => exact .non
  | some n => exact .int _
theorem shaped_oo (a b : Option Nat) : SeqAt.shaped (.tuple [dO a, dO b]) = true := by
  cases a <;> cases b <;> simp [dO, SeqAt.shaped, PyData.canLayAll0, PyData.canLay0, PyData.depth, PyData.depthAll]
theorem shaped_bb (a b : Bool) : SeqAt.shaped (.list [.bool a, .bool b]) = true := by
  simp [SeqAt.shaped, PyData.canLayAll0, PyData.canLay0, PyData.depth, PyData.depthAll]
def isN (x : V) : V := .bl (decide (x = .non))
theorem take_isN {xs : List V} {i : Nat} {x : V} (h : xs[i]? = some x) : (xs.take (i + 1)).map isN = (xs.take i).map isN ++ [isN x] := by
  rw [List.take_succ, h, List.map_append]
  rfl
theorem end_least {ss : List Sd} {v : Int} {r : Option Nat} {q : Option Int} (h : EndN ss v r) (L : LeastI (UnA ss) v q) : decide (oN r = V.non) = decide (oV q = V.non) := by
  cases r with
  | none => cases q with
    | none => rfl
    | some x => exact absurd L.2.1 (h x L.1)
  | some n => cases q with
    | none => obtain ⟨E, _, M⟩ := h; exact absurd M.2.1 (L E M.1)
    | some x => rfl
theorem neg_non (q : Option Int) : decide (oV (q.map fun x => -x) = V.non) = decide (oV q = V.non) := by cases q <;> rfl
def spFits : Sp := fun vs H Q _ => ∃ (l : Addr) (xs : List V) (ss : List Sd) (v f : Int), vs = [.ref l, .int v, .int f] ∧ SidesAt H l xs ss ∧ (∀ d ∈ ss, -30 ≤ d.o ∧ d.o ≤ 29 ∧ d.s ≤ 12) ∧ (-1000 < v ∧ v < 1000) ∧ 1 ≤ f ∧ f ≤ 10 ^ 27 ∧ (ss.length ≤ 2 ∨ (f = 1 ∧ comN ss ≤ 100000)) ∧
  ∀ (H' : Hp), Same H H' → Q (.bl true) H'
section
variable {P : Program} {w : World} {K : PySem.W.Frag} {mg : Str → Option Value} {base : Heap} {fB fH fI fJ fL fM fN : Addr} {dB dH dI dJ dL dM dN : FuncData}
theorem ok_fits {f : Addr} {fd : FuncData} (F : Fun K "_law_fits" "_law_fits" s_L_fits f fd) (B : Blt mg) (Ef : Cal P w K mg base "efforts" 109 ["sides", "value"] spEff fB dB) (Re : Cal P w K mg base "reach" 108 ["sides", "value"] spReach fH dH) (Cn : Cal P w K mg base "_law_count" 4 ["_law_sides", "_law_value", "_law_sign"] spCnt fI dI) : FnOk P w K mg base CX0 110 f fd ["_law_sides", "_law_value", "_law_factor"] spFits := by
  refine F.ok sc_L_fits (fun vs H Q E h => ?_) (fun cdv A outer s0 H vs Q E hr h => ?_)
  · obtain ⟨l, xs, ss, v, f, rfl, _⟩ := h
    rfl
  · obtain ⟨l, xs, ss, v, f, rfl, SS, small, hv, f1, f2, few, q⟩ := h
    have nd := sc_L_fits.nd
    refine ⟨_, (pss_cons (ps_setLc (i := 4) (own := [("_law_one", 3)]) (g := gName 3) (tt := tYes) rfl nd rfl rfl (sw_true rfl rfl rfl (by decide +kernel)) (pi_list (pv 0)) (blkOk_by (N := ["_law_sides", "_law_value", "_law_factor", "_law_one", "_law_lifted", "_law_found", "_law_ends", "_law_end"]) (sc := defScope s_L_fits) (by decide +kernel)) (fun _ _ _ _ _ => pg_name (i := 3) nd rfl (Or.inl rfl)) (fun _ _ _ _ _ => pts_nil) (fun _ _ _ _ _ => (pe_tup (pa_cons (pe_op op_mulW (pe_ix (r := rIxT K) (by exact ix_tup) (pv 3) pe_int (fun _ _ => rfl)) (pv 2)) (pa_cons (pe_op op_mulW (pe_ix (r := rIxT K) (by exact ix_tup) (pv 3) pe_int (fun _ _ => rfl)) (pv 2)) (pa_cons (pe_ix (r := rIxT K) (by exact ix_tup) (pv 3) pe_int (fun _ _ => rfl)) pa_nil))))))
      (pss_cons (ps_set (i := 5) nd rfl (Or.inl rfl) (pcl Ef hr (by decide) (by rfl) (pa_cons (pv 4) (pa_cons (pe_op op_mulW (pv 1) (pv 2)) pa_nil))))
      (pss_cons (ps_set (i := 6) nd rfl (Or.inl rfl) (pcl Re hr (by decide) (by rfl) (pa_cons (pv 4) (pa_cons (pe_op op_mulW (pv 1) (pv 2)) pa_nil))))
      (pss_cons (ps_if (pt_cmpR (op_neD hr.units) (pv 5) (pe_tup (pa_cons (pcl Cn hr (by decide) (by rfl) (pa_cons (pv 0) (pa_cons (pv 1) (pa_cons (pe_un un_neg pe_int) pa_nil)))) (pa_cons (pcl Cn hr (by decide) (by rfl) (pa_cons (pv 0) (pa_cons (pv 1) (pa_cons pe_int pa_nil)))) pa_nil))) (nomark _)) (pss_one (ps_ret pe_bl)) pss_nil)
      (pss_one (ps_ret (pe_cmpR (op_eqD hr.units) (pe_lc (own := [("_law_end", 7)]) (g := gName 7) (tt := tYes) rfl nd (pi_tup (pv 5)) (blkOk_by (N := ["_law_sides", "_law_value", "_law_factor", "_law_one", "_law_lifted", "_law_found", "_law_ends", "_law_end"]) (sc := defScope s_L_fits) (by decide +kernel)) (fun _ _ _ _ _ => pg_name (i := 7) nd rfl (Or.inl rfl)) (fun _ _ _ _ _ => pts_nil) (fun _ _ _ _ _ => (pe_cmpR op_isN (pv 7) pe_non (nomark _)))) (pe_lc (own := [("_law_end", 7)]) (g := gName 7) (tt := tYes) rfl nd (pi_tup (pv 6)) (blkOk_by (N := ["_law_sides", "_law_value", "_law_factor", "_law_one", "_law_lifted", "_law_found", "_law_ends", "_law_end"]) (sc := defScope s_L_fits) (by decide +kernel)) (fun _ _ _ _ _ => pg_name (i := 7) nd rfl (Or.inl rfl)) (fun _ _ _ _ _ => pts_nil) (fun _ _ _ _ _ => (pe_cmpR op_isN (pv 7) pe_non (nomark _)))) (nomark _)))))))), ?_⟩
    have l4 := SS.l4
    walk_at "rd"
    refine ⟨⟨_, SqL.of SS.hl⟩, fun L nL => ?_⟩
    refine lc_list (K := K) (a := l) (xs := xs) (fun i H3 => ∃ ps : List Addr, ps.length = i ∧ H3 L = some (.lst (ps.map V.ref)) ∧ Same H H3 ∧ (∀ (j : Nat) (d : Sd) (p : Addr), ss[j]? = some d → ps[j]? = some p → H3 p = some (sideV (d.o * f) (d.s * f) d.m)))
      ⟨[], rfl, upd_same, fun b u z => (upd_ne (ne_of_none z nL)).trans z, fun j u p _ z => by cases z⟩ (fun _ _ _ ⟨_, _, _, sm, _⟩ => SqL.of (sm _ _ SS.hl)) ?_ ?_
    · rintro i y H3 hy ⟨ps, hn, hD, sm, hps⟩
      obtain ⟨d, p, ed, rfl, hp, sp⟩ := SS.item hy
      have il : i < ss.length := (List.getElem?_eq_some_iff.mp ed).1
      obtain ⟨b1, b2, b3⟩ := small d (List.mem_of_getElem? ed)
      have s0 := sp.s0
      have hp3 := sm _ _ hp
      refine ⟨rfl, ?_⟩
      walk_at "rd"
      refine ⟨p, _, _, _, rfl, rfl, SqT.of hp3, rfl, ?_⟩
      walk_at "rd"
      refine ⟨mulF (by omega) f1 f2, ?_⟩
      walk_at "rd"
      refine ⟨p, _, _, _, rfl, rfl, SqT.of hp3, rfl, ?_⟩
      walk_at "rd"
      refine ⟨mulF (by omega) f1 f2, ?_⟩
      walk_at "rd"
      refine ⟨p, _, _, _, rfl, rfl, SqT.of hp3, rfl, ?_⟩
      walk_at "rd"
      refine ⟨(by show 3 ≤ sizeLine; decide), fun z nz => ?_⟩
      have ncD : L ≠ z := ne_of_none hD nz
      refine ⟨_, (upd_ne ncD).trans hD, ?_, ps ++ [z], ?_, ?_, ?_, ?_⟩
      · rw [List.length_map, hn]; exact Nat.lt_of_lt_of_le (by omega : i < 8) (by decide)
      · rw [List.length_append, hn]; rfl
      · rw [List.map_append]; exact upd_same
      · intro b u y
        have y3 := sm _ _ y
        exact (upd_ne (ne_of_none y nL)).trans ((upd_ne (ne_of_none y3 nz)).trans y3)
      · intro j e p2 he hp2
        rcases Nat.lt_or_ge j ps.length with y | y
        · rw [List.getElem?_append_left y] at hp2
          have g := hps j e p2 he hp2
          exact (upd_ne (ne_of g hD (by intro y; cases y))).trans ((upd_ne (ne_of_none g nz)).trans g)
        · rw [List.getElem?_append_right y] at hp2
          have e0 : j - ps.length = 0 := by
            have := (List.getElem?_eq_some_iff.mp hp2).1
            simp at this
            omega
          rw [e0] at hp2
          cases hp2
          rw [show j = i by omega, ed] at he
          cases he
          exact (upd_ne (Ne.symm ncD)).trans upd_same
    · rintro H3 ⟨ps, hn, hD, sm, hps⟩
      have SL : SidesAt H3 L (ps.map V.ref) (ss.map (lift f)) := by
        refine ⟨hD, by rw [List.length_map, List.length_map, hn, SS.len], by rw [List.length_map]; exact SS.l1, by rw [List.length_map]; exact SS.l4, fun i d h => ?_⟩
        rw [List.getElem?_map] at h
        cases e : ss[i]? with
        | none => rw [e] at h; cases h
        | some d0 =>
          rw [e] at h
          cases h
          have il : i < ps.length := by rw [hn, SS.len]; exact (List.getElem?_eq_some_iff.mp e).1
          refine ⟨ps[i], by rw [List.getElem?_map, List.getElem?_eq_getElem il]; rfl, hps i d0 ps[i] e (List.getElem?_eq_getElem il), ?_⟩
          exact lift_bd (SS.side d0 (List.mem_of_getElem? e)) (small d0 (List.mem_of_getElem? e)) f1 f2
      have fg := few_lift SL.side few
      have en : ∀ r, EndN (ss.map (lift f)) (v * f) r → EndN ss v r := fun r h => endN_lift f1 SS.side h
      have em : ∀ r, EndN ((ss.map (lift f)).map mirD) (-(v * f)) r → EndN (ss.map mirD) (-v) r := fun r h => by
        rw [mir_lift, ← Int.neg_mul] at h
        exact endN_lift f1 (side_mirs SS.side) h
      generalize eys : ps.map V.ref = ys at SL
      generalize ets : ss.map (lift f) = ts at SL fg en em
      clear hD hps hn eys ets
      have vf : -2 ^ 500 < v * f ∧ v * f < 2 ^ 500 := by
        have a1 : v * f ≤ 1000 * f := Int.mul_le_mul_of_nonneg_right (by omega) (by omega)
        have a2 : -1000 * f ≤ v * f := Int.mul_le_mul_of_nonneg_right (by omega) (by omega)
        omega
      walk_at "rd"
      refine ⟨mulF (by omega) f1 f2, ?_⟩
      walk_at "rd"
      refine ⟨L, ys, ts, _, rfl, SL, by omega, fg.1, fg.2, fun dn up p H4 eu ed s4 n4 hp => ?_⟩
      walk_at "rd"
      refine ⟨mulF (by omega) f1 f2, ?_⟩
      walk_at "rd"
      refine ⟨L, ys, ts, _, rfl, SL.same s4, by omega, fg.1, fg.2, fun lo hi p2 H5 Lhi Llo s5 n5 hp2 => ?_⟩
      have sA := sm.trans (s4.trans s5)
      walk_at "rd"
      refine ⟨l, xs, ss, ss.map mirD, v, -1, rfl, SS.same sA, by omega, .inr ⟨rfl, rfl⟩, fun r1 H6 e1 s6 => ?_⟩
      walk_at "rd"
      refine ⟨l, xs, ss, ss, v, 1, rfl, SS.same (sA.trans s6), by omega, .inl ⟨rfl, rfl⟩, fun r2 H7 e2 s7 => ?_⟩
      rw [show -1 * v = -v by omega] at e1
      rw [Int.one_mul] at e2
      have x1 := end_uniq (side_mirs SS.side) e1 (em _ ed)
      have x2 := end_uniq SS.side e2 (en _ eu)
      subst x1 x2
      walk_at "rd"
      refine ⟨(by show 2 ≤ sizeLine; decide), fun T7 nT7 => ?_⟩
      generalize e_T7 : upd H7 T7 _ = H8
      have g8 : H8 T7 = some (.tup [oN r1, oN r2]) := by rw [← e_T7]; exact upd_same
      have w8 : Same H7 H8 := by rw [← e_T7]; exact fun b u z => (upd_ne (ne_of_none z nT7)).trans z
      clear e_T7
      walk_at "rd"
      refine ⟨_, _, .tup (SqT.of (w8 _ _ (s7 _ _ (s6 _ _ (s5 _ _ hp))))) (.cons (dpO r1) (.cons (dpO r2) .nil)), .tup (SqT.of g8) (.cons (dpO r1) (.cons (dpO r2) .nil)), shaped_oo r1 r2, shaped_oo r1 r2, ?_⟩
      walk_at "rd"
      refine ite2 (fun z => (not_t z (SeqAt.eqv_refl _ (SeqAt.canLay_of_shaped (shaped_oo r1 r2)))).elim) (fun _ => ?_)
      walk_at "rd"
      have hp8 := w8 _ _ (s7 _ _ (s6 _ _ (s5 _ _ hp)))
      have hp28 := w8 _ _ (s7 _ _ (s6 _ _ hp2))
      have sB := sA.trans (s6.trans (s7.trans w8))
      refine ⟨⟨_, SqT.of hp8⟩, fun D1 nD1 => ?_⟩
      refine lc_tup (K := K) (a := p) (xs := [oN r1, oN r2]) (fun i H3 => H3 D1 = some (.lst (([oN r1, oN r2].take i).map isN)) ∧ Same H8 H3)
        ⟨upd_same, fun b u z => (upd_ne (ne_of_none z nD1)).trans z⟩ (fun _ _ _ ⟨_, sm⟩ => SqT.of (sm _ _ hp8)) ?_ ?_
      · rintro i y H9 hy ⟨hD, s9⟩
        have il : i < 2 := (List.getElem?_eq_some_iff.mp hy).1
        refine ⟨rfl, ?_⟩
        walk_at "rd"
        refine ⟨rfl, ?_⟩
        refine ⟨_, hD, ?_, ?_, fun b u z => (upd_ne (ne_of_none z nD1)).trans (s9 _ _ z)⟩
        · rw [List.length_map]
          exact Nat.lt_of_le_of_lt (List.length_take_le' _ _) (by show 2 < sizeLine; decide)
        · rw [take_isN hy]
          exact upd_same
      rintro H9 ⟨hD, s9⟩
      walk_at "rd"
      refine ⟨⟨_, SqT.of (s9 _ _ hp28)⟩, fun D2 nD2 => ?_⟩
      refine lc_tup (K := K) (a := p2) (xs := [oV (lo.map fun x => -x), oV hi]) (fun i H3 => H3 D2 = some (.lst (([oV (lo.map fun x => -x), oV hi].take i).map isN)) ∧ Same H9 H3)
        ⟨upd_same, fun b u z => (upd_ne (ne_of_none z nD2)).trans z⟩ (fun _ _ _ ⟨_, sm⟩ => SqT.of (sm _ _ (s9 _ _ hp28))) ?_ ?_
      · rintro i y HA hy ⟨hDA, sA2⟩
        have il : i < 2 := (List.getElem?_eq_some_iff.mp hy).1
        refine ⟨rfl, ?_⟩
        walk_at "rd"
        refine ⟨rfl, ?_⟩
        refine ⟨_, hDA, ?_, ?_, fun b u z => (upd_ne (ne_of_none z nD2)).trans (sA2 _ _ z)⟩
        · rw [List.length_map]
          exact Nat.lt_of_le_of_lt (List.length_take_le' _ _) (by show 2 < sizeLine; decide)
        · rw [take_isN hy]
          exact upd_same
      rintro HA ⟨hDA, sA2⟩
      have hD9 := sA2 _ _ hD
      have c1 := end_least ed Llo
      have c2 := end_least eu Lhi
      rw [← neg_non] at c1
      have eq2 : ([oV (lo.map fun x => -x), oV hi].take 2).map isN = [V.bl (decide (oN r1 = V.non)), V.bl (decide (oN r2 = V.non))] := by
        rw [c1, c2]
        rfl
      have hDA2 : HA D2 = some (.lst [V.bl (decide (oN r1 = V.non)), V.bl (decide (oN r2 = V.non))]) := by rw [← eq2]; exact hDA
      have hD92 : HA D1 = some (.lst [V.bl (decide (oN r1 = V.non)), V.bl (decide (oN r2 = V.non))]) := hD9
      walk_at "rd"
      refine ⟨_, _, .lst (SqL.of hD92) (.cons (.bl _) (.cons (.bl _) .nil)), .lst (SqL.of hDA2) (.cons (.bl _) (.cons (.bl _) .nil)), shaped_bb _ _, shaped_bb _ _, ?_⟩
      have qq := q HA (sB.trans (s9.trans sA2))
      rw [show PyData.eqv (.list [.bool (decide (oN r1 = V.non)), .bool (decide (oN r2 = V.non))]) (.list [.bool (decide (oN r1 = V.non)), .bool (decide (oN r2 = V.non))]) = true from SeqAt.eqv_refl _ (SeqAt.canLay_of_shaped (shaped_bb _ _))]
      exact qq
end
end HT
namespace HT
open PySem L2
theorem p10_mono {a b : Nat} (h : a ≤ b) : (10 : Int) ^ a ≤ 10 ^ b := by
  have : (10 : Nat) ^ a ≤ 10 ^ b := Nat.pow_le_pow_right (by decide) h
  exact_mod_cast this
theorem digs_of {x : V} (h : x ∈ [V.int 1, .int 12, .int 40]) : ∃ n : Nat, x = .int (n : Int) ∧ n ≤ 40 := by
  simp only [List.mem_cons, List.not_mem_nil, or_false] at h
  rcases h with h | h | h
  · exact ⟨1, h, by decide⟩
  · exact ⟨12, h, by decide⟩
  · exact ⟨40, h, by decide⟩
theorem digs_of2 {x : V} (h : x ∈ [V.int 1, .int 30, .int 40]) : ∃ n : Nat, x = .int (n : Int) ∧ n ≤ 40 := by
  simp only [List.mem_cons, List.not_mem_nil, or_false] at h
  rcases h with h | h | h
  · exact ⟨1, h, by decide⟩
  · exact ⟨30, h, by decide⟩
  · exact ⟨40, h, by decide⟩
theorem sg_of {x : V} (h : x ∈ [V.int 1, .int (-1)]) : ∃ j : Int, x = .int j ∧ (j = 1 ∨ j = -1) := by
  simp only [List.mem_cons, List.not_mem_nil, or_false] at h
  rcases h with h | h
  · exact ⟨_, h, .inl rfl⟩
  · exact ⟨_, h, .inr rfl⟩
theorem md_of {x : V} (h : x ∈ [V.str "down", .str "up", .str "half_down", .str "half_up", .str "half_even"]) : ∃ m : Str, x = .str m ∧ Mode m := by
  simp only [List.mem_cons, List.not_mem_nil, or_false] at h
  rcases h with h | h | h | h | h
  · exact ⟨_, h, .inl rfl⟩
  · exact ⟨_, h, .inr (.inl rfl)⟩
  · exact ⟨_, h, .inr (.inr (.inl rfl))⟩
  · exact ⟨_, h, .inr (.inr (.inr (.inl rfl)))⟩
  · exact ⟨_, h, .inr (.inr (.inr (.inr rfl)))⟩
def spGS : Sp := fun vs H Q _ => ∃ (a c : Addr) (t : Nat), vs = [.ref a] ∧ Src H a c t ∧ t + 200 < 2 ^ 30 ∧ ∀ (p : Addr) (d : Sd) (H' : Hp) (t' : Nat), H' p = some (sideV d.o d.s d.m) → SideP d.o d.s d.m → t' ≤ t + 90 → Src H' a c t' → Oth a c H H' → Q (.ref p) H'
section
variable {P : Program} {w : World} {K : PySem.W.Frag} {mg : Str → Option Value} {base : Heap} {fB fH fI fJ : Addr} {dB dH dI dJ : FuncData}
theorem ok_gs {f : Addr} {fd : FuncData} (F : Fun K "_law_great_side" "_law_great_side" s_L_great_side f fd) (D : Cal P w K mg base "_law_draw" 1 ["_law_source_here", "_law_limit"] spDraw fB dB) (Pi : Cal P w K mg base "_law_pick" 2 ["_law_source_here", "_law_values"] spPick fH dH) (Gr : Cal P w K mg base "_law_great" 2 ["_law_source_here", "_law_digits"] spGreat fI dI) : FnOk P w K mg base CX0 3 f fd ["_law_source_here"] spGS := by
  refine F.ok sc_L_great_side (fun vs H Q E h => ?_) (fun cdv A outer s0 H vs Q E hr h => ?_)
  · obtain ⟨a, c, t, rfl, _⟩ := h
    rfl
  · obtain ⟨a, c, t, rfl, S, ht, q⟩ := h
    have nd := sc_L_great_side.nd
    refine ⟨_, (pss_cons (ps_set (i := 1) nd rfl (Or.inl rfl) (pe_op op_add pe_int (pe_op op_mod (pcl Gr hr (by decide) (by rfl) (pa_cons (pv 0) (pa_cons (pe_op op_add pe_int (pcl D hr (by decide) (by rfl) (pa_cons (pv 0) (pa_cons pe_int pa_nil)))) pa_nil))) (pe_op op_pow pe_int pe_int))))
      (pss_cons (ps_set (i := 2) nd rfl (Or.inl rfl) (pe_op op_mulW (pcl Gr hr (by decide) (by rfl) (pa_cons (pv 0) (pa_cons (pcl Pi hr (by decide) (by rfl) (pa_cons (pv 0) (pa_cons (pe_lst (pa_cons pe_int (pa_cons pe_int (pa_cons pe_int pa_nil)))) pa_nil))) pa_nil))) (pcl Pi hr (by decide) (by rfl) (pa_cons (pv 0) (pa_cons (pe_lst (pa_cons pe_int (pa_cons (pe_un un_neg pe_int) pa_nil))) pa_nil)))))
      (pss_one (ps_ret (pe_tup (pa_cons (pv 2) (pa_cons (pv 1) (pa_cons (pcl Pi hr (by decide) (by rfl) (pa_cons (pv 0) (pa_cons (pe_lst (pa_cons pe_str (pa_cons pe_str (pa_cons pe_str (pa_cons pe_str (pa_cons pe_str pa_nil)))))) pa_nil))) pa_nil)))))))), ?_⟩
    walk_at "rd"
    refine ⟨a, c, t, 30, rfl, S, by omega, by decide, by decide, fun k1 H1 k10 k11 S1 O1 => ?_⟩
    obtain ⟨m1, rfl⟩ := Int.eq_ofNat_of_zero_le k10
    walk_at "rd"
    have g1 : (1 : Int) + (m1 : Int) = ((m1 + 1 : Nat) : Int) := by omega
    refine ⟨a, c, t + 1, m1 + 1, (by show [V.ref a, V.int (1 + (m1 : Int))] = _; rw [g1]), S1, by omega, by omega, fun k2 H2 k20 k21 S2 O2 => ?_⟩
    walk_at "rd"
    refine ⟨⟨by decide, by decide, by decide⟩, ?_⟩
    walk_at "rd"
    refine ⟨(by show (0 : Int) < 10 ^ (30 : Int).toNat; decide), ?_⟩
    have st0 : (1 : Int) ≤ 1 + k2 % 10 ^ (30 : Int).toNat := by
      have := Int.emod_nonneg k2 (show (10 : Int) ^ (30 : Int).toNat ≠ 0 by decide)
      omega
    have st1 : 1 + k2 % (10 : Int) ^ (30 : Int).toNat ≤ 10 ^ 30 := by
      have := Int.emod_lt_of_pos k2 (show (0 : Int) < 10 ^ (30 : Int).toNat by decide)
      have e : (10 : Int) ^ (30 : Int).toNat = 10 ^ 30 := by decide
      omega
    walk_at "rd"
    refine ⟨(by show 3 ≤ sizeLine; decide), fun l1 nl1 => ?_⟩
    obtain ⟨la1, lc1⟩ := S2.na nl1
    refine ⟨a, c, _, l1, _, rfl, S2.new nl1, by omega, upd_same, la1, lc1, by decide, by decide, fun x3 H3 hx3 S3 O3 => ?_⟩
    obtain ⟨n3, rfl, n40⟩ := digs_of hx3
    walk_at "rd"
    refine ⟨a, c, _, n3, rfl, S3, by omega, by omega, fun k4 H4 k40 k41 S4 O4 => ?_⟩
    walk_at "rd"
    refine ⟨(by show 2 ≤ sizeLine; decide), fun l2 nl2 => ?_⟩
    obtain ⟨la2, lc2⟩ := S4.na nl2
    refine ⟨a, c, _, l2, _, rfl, S4.new nl2, by omega, upd_same, la2, lc2, by decide, by decide, fun x5 H5 hx5 S5 O5 => ?_⟩
    obtain ⟨j, rfl, hj⟩ := sg_of hx5
    have z4 : k4 < 10 ^ 40 := Int.lt_of_lt_of_le k41 (p10_mono n40)
    walk_at "rd"
    refine ⟨mulW (by omega) (by rcases hj with e | e <;> subst e <;> omega), ?_⟩
    have of0 : -10 ^ 40 ≤ k4 * j ∧ k4 * j ≤ 10 ^ 40 := by rcases hj with e | e <;> subst e <;> omega
    walk_at "rd"
    refine ⟨(by show 5 ≤ sizeLine; decide), fun l3 nl3 => ?_⟩
    obtain ⟨la3, lc3⟩ := S5.na nl3
    refine ⟨a, c, _, l3, _, rfl, S5.new nl3, by omega, upd_same, la3, lc3, by decide, by decide, fun x6 H6 hx6 S6 O6 => ?_⟩
    obtain ⟨md, rfl, hmd⟩ := md_of hx6
    have O06 : Oth a c H H6 := (((((((O1.trans O2).new nl1).trans O3).trans O4).new nl2).trans O5).new nl3).trans O6
    refine ⟨(by show 3 ≤ sizeLine; decide), fun p np => ?_⟩
    exact q p ⟨k4 * j, 1 + k2 % 10 ^ (30 : Int).toNat, md⟩ _ _ upd_same ⟨of0.1, of0.2, st0, st1, hmd⟩ (by omega) (S6.new np) (O06.new np)
end
end HT
namespace HT
open PySem L2
theorem endN_stl {ss : List Sd} (hs : ∀ d ∈ ss, SideP d.o d.s d.m) {v E : Int} {n : Nat} (s : Stl (hiL ss) v E n) : EndN ss v (some n) := by
  obtain ⟨rfl, fx, nst⟩ := s
  exact ⟨_, ⟨rfl, fx, nst⟩, (itL_bd hs v n).1, una_hi.mpr fx, una_way hs nst⟩
/-- one hand-over of the greatest writer leaves one less to go -/
theorem endN_next {ss : List Sd} (hs : ∀ d ∈ ss, SideP d.o d.s d.m) {v : Int} {n : Nat} (h : EndN ss v (some (n + 1))) : hiL ss v ≠ v ∧ EndN ss (hiL ss v) (some n) := by
  obtain ⟨E, ⟨a, b, c⟩, _⟩ := h
  refine ⟨c 0 (by omega), endN_stl hs (E := E) ⟨?_, b, fun i hi => ?_⟩⟩
  · rw [it_add]
    exact a
  · rw [it_add, it_add]
    exact c (i + 1) (by omega)
theorem endN_fact {ss : List Sd} (hs : ∀ d ∈ ss, SideP d.o d.s d.m) {v X : Int} {n : Nat} (h : EndN ss v (some n)) (L : LeastI (UnA ss) v (some X)) : (n = 0 ↔ X = v) ∧ it (hiL ss) n v = X ∧ (0 < n → it (hiL ss) (n - 1) v ≠ X) := by
  obtain ⟨E, s, _⟩ := h
  have e := stl_least hs s L
  subst e
  obtain ⟨a, b, c⟩ := s
  refine ⟨⟨fun z => ?_, fun z => ?_⟩, a, fun z q => ?_⟩
  · subst z
    exact a.symm
  · by_cases y : n = 0
    · exact y
    · exfalso
      refine c 0 (by omega) ?_
      show hiL ss v = v
      rw [z] at b
      exact b
  · refine c (n - 1) (by omega) ?_
    rw [show n - 1 + 1 = n by omega, a, q]
/-- what the greatest and the smallest of the written values are -/
theorem wr_max {ss : List Sd} (hs : ∀ d ∈ ss, SideP d.o d.s d.m) {v M : Int} (M1 : M ∈ ss.map fun d => dueM d.o d.s d.m v) (M2 : ∀ z ∈ ss.map fun d => dueM d.o d.s d.m v, z ≤ M) (ne : hiL ss v ≠ v) : M = hiL ss v := by
  obtain ⟨d, hd, e⟩ := List.mem_map.mp M1
  have h := hi_max (ss := ss) ⟨d, hd, e.symm⟩ (all_due.mp M2)
  omega
theorem wr_min {ss : List Sd} (hs : ∀ d ∈ ss, SideP d.o d.s d.m) {v m : Int} (m1 : m ∈ ss.map fun d => dueM d.o d.s d.m v) (m2 : ∀ z ∈ ss.map fun d => dueM d.o d.s d.m v, m ≤ z) (ne : hiL (ss.map mirD) (-v) ≠ -v) : -m = hiL (ss.map mirD) (-v) := by
  obtain ⟨d, hd, e⟩ := List.mem_map.mp m1
  have h := hi_max (ss := ss.map mirD) (y := -v) (M := -m) ⟨mirD d, List.mem_map.mpr ⟨d, hd, rfl⟩, by rw [dueN (hs d hd), e]⟩ (fun e he => by
    obtain ⟨e2, he2, rfl⟩ := List.mem_map.mp he
    rw [dueN (hs e2 he2)]
    have := m2 _ (List.mem_map.mpr ⟨e2, he2, rfl⟩)
    omega)
  omega
theorem upD_down {x : Sd} (h : x.m = "down") : upD x = false := by
  unfold upD
  rw [h, fi_d]
  rfl
theorem len_two {p : Sd → Bool} {a b c d : Sd} (hb : p b = false) (hd : p d = false) : ([a, b, c, d].filter p).length ≤ 2 := by
  rw [List.filter_cons, List.filter_cons, List.filter_cons, List.filter_cons, hb, hd, List.filter_nil]
  cases p a <;> cases p c <;> simp
theorem len_two' {p : Sd → Bool} {a b c d : Sd} (ha : p a = false) (hc : p c = false) : ([a, b, c, d].filter p).length ≤ 2 := by
  rw [List.filter_cons, List.filter_cons, List.filter_cons, List.filter_cons, ha, hc, List.filter_nil]
  cases p b <;> cases p d <;> simp
/-- up, down, up, down: few raise, and few lower -/
theorem few_ud {a b c d : Sd} (ha : a.m = "up") (hb : b.m = "down") (hc : c.m = "up") (hd : d.m = "down") : FewP [a, b, c, d] ∧ FewP ([a, b, c, d].map mirD) :=
  ⟨.inl (len_two (upD_down hb) (upD_down hd)), .inl (len_two' (a := mirD a) (b := mirD b) (c := mirD c) (d := mirD d) (upD_down (show mir a.m = _ by rw [ha]; rfl)) (upD_down (show mir c.m = _ by rw [hc]; rfl)))⟩
theorem few_du {a b c d : Sd} (ha : a.m = "down") (hb : b.m = "up") (hc : c.m = "down") (hd : d.m = "up") : FewP [a, b, c, d] ∧ FewP ([a, b, c, d].map mirD) :=
  ⟨.inl (len_two' (upD_down ha) (upD_down hc)), .inl (len_two (a := mirD a) (b := mirD b) (c := mirD c) (d := mirD d) (upD_down (show mir b.m = _ by rw [hb]; rfl)) (upD_down (show mir d.m = _ by rw [hd]; rfl)))⟩
end HT
namespace HT
open PySem L2
def sdD (d : Sd) : PyData := .tuple [.int d.o, .int d.s, .str d.m]
theorem modes_ok {m : Str} (h : Mode m) : PyData.strOk m = true := by
  rcases h with e | e | e | e | e <;> subst e <;> decide +kernel
theorem can_sides : ∀ {ss : List Sd}, (∀ d ∈ ss, Mode d.m) → PyData.canLayAll0 (ss.map sdD) = true ∧ PyData.depthAll (ss.map sdD) ≤ 2
  | [], _ => ⟨rfl, Nat.zero_le _⟩
  | u :: us, h => by
    obtain ⟨a, b⟩ := can_sides fun d hd => h d (List.mem_cons_of_mem _ hd)
    have c := modes_ok (h u List.mem_cons_self)
    refine ⟨?_, ?_⟩
    · simp [PyData.canLayAll0, sdD, PyData.canLay0, c, a]
    · show max (PyData.depth (sdD u)) (PyData.depthAll (us.map sdD)) ≤ 2
      refine Nat.max_le.mpr ⟨?_, b⟩
      show PyData.depth (.tuple [.int _, .int _, .str _]) ≤ 2
      simp [PyData.depth, PyData.depthAll]
theorem shaped_sides {ss : List Sd} (h : ∀ d ∈ ss, Mode d.m) : SeqAt.shaped (.list (ss.map sdD)) = true := by
  obtain ⟨a, b⟩ := can_sides h
  unfold SeqAt.shaped
  rw [Bool.and_eq_true]
  refine ⟨a, decide_eq_true ?_⟩
  show PyData.depthAll (ss.map sdD) + 1 ≤ 64
  omega
theorem sidesDp {K : PySem.W.Frag} {H : Hp} : ∀ {xs : List V} {ss : List Sd}, xs.length = ss.length → (∀ (i : Nat) (d : Sd), ss[i]? = some d → ∃ p : Addr, xs[i]? = some (V.ref p) ∧ H p = some (sideV d.o d.s d.m) ∧ SideP d.o d.s d.m) → DpAll K H xs (ss.map sdD)
  | [], [], _, _ => .nil
  | [], _ :: _, l, _ => nomatch l
  | _ :: _, [], l, _ => nomatch l
  | x :: xs, d :: ss, l, S => by
    obtain ⟨p, e, hp, _⟩ := S 0 d rfl
    cases e
    exact .cons (.tup (SqT.of hp) (.cons (.int _) (.cons (.int _) (.cons (.str _) .nil)))) (sidesDp (Nat.succ.inj l) fun i e h => S (i + 1) e h)
theorem SidesAt.dp {K : PySem.W.Frag} {H : Hp} {l : Addr} {xs : List V} {ss : List Sd} (S : SidesAt H l xs ss) : Dp K H (.ref l) (.list (ss.map sdD)) := .lst (SqL.of S.hl) (sidesDp S.len S.at_)
end HT
namespace HT
open PySem L2
/-- a test whose ways are joined by a statement of the heap -/
def tMidT (t : TT) : TT := fun σ H Q => ∃ M : Bool → Hp → Prop, t σ H M ∧ ∀ b H', M b H' → Q b H'
def tMidE (t : TE) : TE := fun σ H Q => ∃ M : V → Hp → Prop, t σ H M ∧ ∀ v H', M v H' → Q v H'
def tMidS (t : TS) : TS := fun D σ H => ∃ M : St → Hp → Prop, t { D with nx := M } σ H ∧ ∀ σ' H', M σ' H' → D.nx σ' H'
theorem pt_mid {X : Cx} {e : Expr} {t : TT} (h : PT X e t) : PT X e (tMidT t) :=
  ⟨fun pins s σ H _ I ⟨M, a, b⟩ => thn (h.run pins s σ H M I a) fun c _ ⟨H1, I1, q1⟩ => ⟨H1, I1, b c H1 q1⟩⟩
theorem pe_mid {X : Cx} {e : Expr} {t : TE} (h : PE X e t) : PE X e (tMidE t) :=
  ⟨fun pins s σ H _ I ⟨M, a, b⟩ => thn (h.run pins s σ H M I a) fun _ _ ⟨v, H1, I1, r, q1⟩ => ⟨v, H1, I1, r, b v H1 q1⟩⟩
theorem ps_mid {X : Cx} {st : Stmt} {t : TS} (h : PS X st t) : PS X st (tMidS t) :=
  ⟨fun pins s σ H D I ⟨M, a, b⟩ => thn (h.run pins s σ H { D with nx := M } I a) fun f _ q => by
    cases f with
    | next => obtain ⟨σ', H', I', q⟩ := q; exact ⟨σ', H', I', b σ' H' q⟩
    | brk => exact q
    | cont => exact q
    | ret v => exact q⟩
end HT
namespace HT
open PySem L2
theorem decide_iff {a b : Prop} [Decidable a] [Decidable b] (h : a ↔ b) : decide a = decide b := by
  by_cases x : a
  · rw [decide_eq_true x, decide_eq_true (h.mp x)]
  · rw [decide_eq_false x, decide_eq_false (fun z => x (h.mpr z))]
def dI : Option Int → PyData
  | none => .none
  | some n => .int n
theorem dpI {K : PySem.W.Frag} {H : Hp} (r : Option Int) : Dp K H (oV r) (dI r) := by
  cases r with
  | none => exact .non
  | some n => exact .int _
theorem shaped_I (r : Option Int) : SeqAt.shaped (dI r) = true := by
  cases r <;> simp [dI, SeqAt.shaped, PyData.canLayAll0, PyData.canLay0, PyData.depth, PyData.depthAll]
theorem shaped_O (r : Option Nat) : SeqAt.shaped (dO r) = true := by
  cases r <;> simp [dO, SeqAt.shaped, PyData.canLayAll0, PyData.canLay0, PyData.depth, PyData.depthAll]
theorem eqv_int (a b : Int) : PyData.eqv (.int a) (.int b) = decide (a = b) := by
  rw [PyData.eqv]
  exact Bool.beq_eq_decide_eq a b
theorem eqv_non (b : Int) : PyData.eqv .none (.int b) = false := by rw [PyData.eqv]
/-- the end is there at once just if no hand-over leads to it -/
theorem zero_end {ss : List Sd} (hs : ∀ d ∈ ss, SideP d.o d.s d.m) {v : Int} {r : Option Nat} {q : Option Int} (h : EndN ss v r) (L : LeastI (UnA ss) v q) : PyData.eqv (dO r) (.int 0) = PyData.eqv (dI q) (.int v) := by
  cases r with
  | none => cases q with
    | none => show PyData.eqv .none _ = PyData.eqv .none _; rw [eqv_non, eqv_non]
    | some x => exact absurd L.2.1 (h x L.1)
  | some n => cases q with
    | none => obtain ⟨E, _, M⟩ := h; exact absurd M.2.1 (L E M.1)
    | some x =>
      obtain ⟨a, _⟩ := endN_fact hs h L
      show PyData.eqv (.int (n : Int)) _ = PyData.eqv (.int x) _
      rw [eqv_int, eqv_int]
      exact decide_iff ⟨fun z => a.mp (by omega), fun z => by have := a.mpr z; omega⟩
theorem neg_eqv (q : Option Int) (v : Int) : PyData.eqv (dI (q.map fun x => -x)) (.int v) = PyData.eqv (dI q) (.int (-v)) := by
  cases q with
  | none => show PyData.eqv .none _ = PyData.eqv .none _; rw [eqv_non, eqv_non]
  | some x =>
    show PyData.eqv (.int (-x)) _ = PyData.eqv (.int x) _
    rw [eqv_int, eqv_int]
    exact decide_iff ⟨fun z => by omega, fun z => by omega⟩
theorem end_at {ss : List Sd} (hs : ∀ d ∈ ss, SideP d.o d.s d.m) {v : Int} {r : Option Nat} {q : Option Int} (h : EndN ss v r) (L : LeastI (UnA ss) v q) {n : Nat} (e : r = some n) (n0 : 0 < n) : ∃ X, q = some X ∧ it (hiL ss) n v = X ∧ it (hiL ss) (n - 1) v ≠ X := by
  subst e
  cases q with
  | none => obtain ⟨E, _, M⟩ := h; exact absurd M.2.1 (L E M.1)
  | some X =>
    obtain ⟨_, a, b⟩ := endN_fact hs h L
    exact ⟨X, rfl, a, b n0⟩
theorem bl_ne {b : Bool} (z : (!decide (V.bl b = V.bl b)) = true) : False := by simp at z
def spGF : Sp := fun vs H Q _ => ∃ (l : Addr) (xs : List V) (ss : List Sd) (v : Int), vs = [.ref l, .int v] ∧ SidesAt H l xs ss ∧ (-2 ^ 500 < v ∧ v < 2 ^ 500) ∧ FewP ss ∧ FewP (ss.map mirD) ∧ ∀ (H' : Hp), Same H H' → Q (.bl true) H'
section
variable {P : Program} {w : World} {K : PySem.W.Frag} {mg : Str → Option Value} {base : Heap} {fB fH fI fJ fL fM fN : Addr} {dB dH dI dJ dL dM dN : FuncData}
theorem ok_gf {f : Addr} {fd : FuncData} (F : Fun K "_law_great_fits" "_law_great_fits" s_L_great_fits f fd) (B : Blt mg) (A' : AmG mg) (MT : MaxT mg) (Ef : Cal P w K mg base "efforts" 109 ["sides", "value"] spEff fB dB) (Re : Cal P w K mg base "reach" 108 ["sides", "value"] spReach fH dH) (Wr : Cal P w K mg base "_law_written" 3 ["_law_sides", "_law_value"] spWrL fI dI) (Wi : Cal P w K mg base "within" 6 ["sides", "value", "many"] spWi fJ dJ) : FnOk P w K mg base CX0 110 f fd ["_law_sides", "_law_value"] spGF := by
  refine F.ok sc_L_great_fits (fun vs H Q E h => ?_) (fun cdv A outer s0 H vs Q E hr h => ?_)
  · obtain ⟨l, xs, ss, v, rfl, _⟩ := h
    rfl
  · obtain ⟨l, xs, ss, v, rfl, SS, hv, fw1, fw2, q⟩ := h
    have nd := sc_L_great_fits.nd
    refine ⟨_, (pss_cons (ps_set (i := 2) nd rfl (Or.inl rfl) (pe_callTy call_list_of (by rfl) A'.list (by decide +kernel) (pa_cons (pv 0) pa_nil)))
      (pss_cons (ps_asg (pcl Ef hr (by decide) (by rfl) (pa_cons (pv 0) (pa_cons (pv 1) pa_nil))) (pg_tup (by rfl) (pgs_cons (pg_name (i := 3) nd rfl (Or.inl rfl)) (pgs_cons (pg_name (i := 4) nd rfl (Or.inl rfl)) pgs_nil))))
      (pss_cons (ps_if (pt_cmpR (op_neD hr.units) (pv 0) (pv 2) (nomark _)) (pss_one (ps_ret pe_bl)) pss_nil)
      (pss_cons (ps_asg (pcl Re hr (by decide) (by rfl) (pa_cons (pv 0) (pa_cons (pv 1) pa_nil))) (pg_tup (by rfl) (pgs_cons (pg_name (i := 5) nd rfl (Or.inl rfl)) (pgs_cons (pg_name (i := 6) nd rfl (Or.inl rfl)) pgs_nil))))
      (pss_cons (ps_if (PW.pt (pw_or (pt_cmpR op_ne (pe_cmpR op_isN (pv 3) pe_non (nomark _)) (pe_cmpR op_isN (pv 5) pe_non (nomark _)) (nomark _)) (pw_or1 (pt_cmpR op_ne (pe_cmpR op_isN (pv 4) pe_non (nomark _)) (pe_cmpR op_isN (pv 6) pe_non (nomark _)) (nomark _))))) (pss_one (ps_ret pe_bl)) pss_nil)
      (pss_cons (ps_set (i := 7) nd rfl (Or.inl rfl) (pcl Wr hr (by decide) (by rfl) (pa_cons (pv 0) (pa_cons (pv 1) pa_nil))))
      (pss_cons (ps_if (pt_mid (PW.pt (pw_and (pt_cmpR op_notN (pv 3) pe_non (nomark _)) (pw_and (pt_cmpR op_gt (pv 3) pe_int (nomark _)) (pw_and1 (pt_cmpR op_ne (pe_ix ix_tup (pcl Ef hr (by decide) (by rfl) (pa_cons (pv 0) (pa_cons (pe_callB (cr_min rfl) (by rfl) MT.min (by decide +kernel) (pa_cons (pv 7) pa_nil)) pa_nil))) pe_int (fun _ _ => rfl)) (pe_op op_sub (pv 3) pe_int) (nomark _))))))) (pss_one (ps_ret pe_bl)) pss_nil)
      (pss_cons (ps_if (pt_mid (PW.pt (pw_and (pt_cmpR op_notN (pv 4) pe_non (nomark _)) (pw_and (pt_cmpR op_gt (pv 4) pe_int (nomark _)) (pw_and1 (pt_cmpR op_ne (pe_ix ix_tup (pcl Ef hr (by decide) (by rfl) (pa_cons (pv 0) (pa_cons (pe_callB (cr_max rfl) (by rfl) MT.max (by decide +kernel) (pa_cons (pv 7) pa_nil)) pa_nil))) pe_int (fun _ _ => rfl)) (pe_op op_sub (pv 4) pe_int) (nomark _))))))) (pss_one (ps_ret pe_bl)) pss_nil)
      (pss_cons (ps_if (PW.pt (pw_or (pt_cmpR op_ne (pe_cmpR (op_eqD hr.units) (pv 3) pe_int (nomark _)) (pe_cmpR (op_eqD hr.units) (pv 5) (pv 1) (nomark _)) (nomark _)) (pw_or1 (pt_cmpR op_ne (pe_cmpR (op_eqD hr.units) (pv 4) pe_int (nomark _)) (pe_cmpR (op_eqD hr.units) (pv 6) (pv 1) (nomark _)) (nomark _))))) (pss_one (ps_ret pe_bl)) pss_nil)
      (pss_cons (ps_for PassesOwn.never rfl (pi_list (pe_lst (pa_cons (pe_tup (pa_cons (pv 3) (pa_cons (pv 5) (pa_cons pe_int pa_nil)))) (pa_cons (pe_tup (pa_cons (pv 4) (pa_cons (pv 6) (pa_cons pe_int pa_nil)))) pa_nil)))) (pg_tup (by rfl) (pgs_cons (pg_name (i := 8) nd rfl (Or.inl rfl)) (pgs_cons (pg_name (i := 9) nd rfl (Or.inl rfl)) (pgs_cons (pg_name (i := 10) nd rfl (Or.inl rfl)) pgs_nil)))) (pss_one (ps_if (PW.pt (pw_and (pt_cmpR op_notN (pv 8) pe_non (nomark _)) (pw_and (pt_cmpR op_gt (pv 8) pe_int (nomark _)) (pw_and1 (pt_cmpR op_lt (pv 8) pe_int (nomark _)))))) (pss_one (ps_if (pt_mid (PW.pt (pw_or (pt_cmpR (op_neD hr.units) (pe_ix ix_tup (pcl Wi hr (by decide) (by rfl) (pa_cons (pv 0) (pa_cons (pv 1) (pa_cons (pv 8) pa_nil)))) (pv 10) (fun _ _ => rfl)) (pv 9) (nomark _)) (pw_or1 (pt_cmpR (op_eqD hr.units) (pe_ix ix_tup (pcl Wi hr (by decide) (by rfl) (pa_cons (pv 0) (pa_cons (pv 1) (pa_cons (pe_op op_sub (pv 8) pe_int) pa_nil)))) (pv 10) (fun _ _ => rfl)) (pv 9) (nomark _)))))) (pss_one (ps_ret pe_bl)) pss_nil)) pss_nil)))
      (pss_one (ps_ret pe_bl)))))))))))), ?_⟩
    have md : ∀ d ∈ ss, Mode d.m := fun d hd => (SS.side d hd).md
    walk_at "rd"
    refine ⟨l, _, rfl, .inl (SqL.of SS.hl), fun Kp nK => ?_⟩
    generalize e_K : upd H Kp _ = H1
    have gK : H1 Kp = some (.lst xs) := by rw [← e_K]; exact upd_same
    have s1 : Same H H1 := by rw [← e_K]; exact fun b u z => (upd_ne (ne_of_none z nK)).trans z
    clear e_K
    have SK : SidesAt H1 Kp xs ss := ⟨gK, SS.len, SS.l1, SS.l4, fun i d e => let ⟨p, a, b, c⟩ := SS.at_ i d e; ⟨p, a, s1 _ _ b, c⟩⟩
    walk_at "rd"
    refine ⟨l, xs, ss, v, rfl, SS.same s1, by omega, fw1, fw2, fun dn up p H2 eu ed s2 n2 hp => ?_⟩
    refine ⟨p, _, rfl, SqT.of hp, rfl, _, _, rfl, _, _, rfl, rfl, ?_⟩
    have s02 := s1.trans s2
    walk_at "rd"
    refine ⟨_, _, (SS.same s02).dp, (SK.same s2).dp, shaped_sides md, shaped_sides md, ?_⟩
    walk_at "rd"
    refine ite2 (fun z => (not_t z (SeqAt.eqv_refl _ (SeqAt.canLay_of_shaped (shaped_sides md)))).elim) (fun _ => ?_)
    walk_at "rd"
    refine ⟨l, xs, ss, v, rfl, SS.same s02, by omega, fw1, fw2, fun lo hi p2 H3 Lhi Llo s3 n3 hp2 => ?_⟩
    refine ⟨p2, _, rfl, SqT.of hp2, rfl, _, _, rfl, _, _, rfl, rfl, ?_⟩
    have s03 := s02.trans s3
    have c1 := end_least ed Llo
    have c2 := end_least eu Lhi
    rw [← neg_non] at c1
    walk_at "rd"
    refine ⟨rfl, ?_⟩
    walk_at "rd"
    refine ⟨rfl, ?_⟩
    walk_at "rd"
    rw [c1]
    refine ⟨rfl, ?_⟩
    walk_at "rd"
    refine ite2 (fun z => (bl_ne z).elim) (fun _ => ?_)
    walk_at "rd"
    refine ⟨rfl, ?_⟩
    walk_at "rd"
    refine ⟨rfl, ?_⟩
    walk_at "rd"
    rw [c2]
    refine ⟨rfl, ?_⟩
    walk_at "rd"
    refine ite2 (fun z => (bl_ne z).elim) (fun _ => ?_)
    walk_at "rd"
    refine ⟨l, xs, ss, v, rfl, SS.same s03, by omega, fun W H4 nW s4 hW => ?_⟩
    have s04 := s03.trans s4
    have hne : 0 < (ss.map fun d => dueM d.o d.s d.m v).length := by rw [List.length_map]; exact SS.l1

    have bd : ∀ z ∈ ss.map (fun d => dueM d.o d.s d.m v), -2 ^ 560 < z ∧ z < 2 ^ 560 := by
      intro z hz
      obtain ⟨d, hd, rfl⟩ := List.mem_map.mp hz
      have := due_near (o := d.o) (v := v) (SS.side d hd).md (SS.side d hd).s0
      have := (SS.side d hd).s1
      omega
    walk_at "rd"
    refine ⟨fun b H' => b = false ∧ Same H4 H', ?_, ?_⟩
    · walk_at "rd"
      refine ⟨rfl, ?_⟩
      walk_at "rd"
      cases dn with
      | none => exact ite2 (fun z => absurd z (by decide)) (fun _ => ⟨rfl, Same.refl _⟩)
      | some n =>
        refine ite2 (fun _ => ?_) (fun z => absurd rfl z)
        walk_at "rd"
        refine ite2 (fun z => ?_) (fun _ => ⟨rfl, Same.refl _⟩)
        have n0 : (0 : Int) < (n : Int) := of_decide_eq_true z
        obtain ⟨m, rfl⟩ : ∃ m, n = m + 1 := ⟨n - 1, by omega⟩
        obtain ⟨ne, ed2⟩ := endN_next (side_mirs SS.side) ed
        walk_at "rd"
        refine ⟨W, _, rfl, SqL.of hW, hne, fun m2 mi2 mm2 => ?_⟩
        walk_at "rd"
        have mb := bd _ mi2
        refine ⟨l, xs, ss, m2, rfl, SS.same s04, by omega, fw1, fw2, fun dn2 up2 p3 H5 eu3 ed3 s5 n5 hp3 => ?_⟩
        rw [wr_min SS.side mi2 mm2 ne] at ed3
        have x := end_uniq (side_mirs SS.side) ed3 ed2
        subst x
        walk_at "rd"
        refine ⟨p3, _, _, _, rfl, rfl, SqT.of hp3, rfl, ?_⟩
        walk_at "rd"
        refine ⟨rfl, _, rfl, ?_, s5⟩
        show (!decide (V.int (m : Int) = V.int (((m + 1 : Nat) : Int) - 1))) = false
        rw [show ((m + 1 : Nat) : Int) - 1 = (m : Int) by omega, decide_eq_true rfl]
        rfl
    rintro b H5 ⟨rfl, s5⟩
    have s05 := s04.trans s5
    have hW5 := s5 _ _ hW
    refine ite2 (fun z => absurd z (by decide)) (fun _ => ?_)
    refine ⟨fun b H' => b = false ∧ Same H5 H', ?_, ?_⟩
    · walk_at "rd"
      refine ⟨rfl, ?_⟩
      walk_at "rd"
      cases up with
      | none => exact ite2 (fun z => absurd z (by decide)) (fun _ => ⟨rfl, Same.refl _⟩)
      | some n =>
        refine ite2 (fun _ => ?_) (fun z => absurd rfl z)
        walk_at "rd"
        refine ite2 (fun z => ?_) (fun _ => ⟨rfl, Same.refl _⟩)
        have n0 : (0 : Int) < (n : Int) := of_decide_eq_true z
        obtain ⟨m, rfl⟩ : ∃ m, n = m + 1 := ⟨n - 1, by omega⟩
        obtain ⟨ne, eu2⟩ := endN_next SS.side eu
        walk_at "rd"
        refine ⟨W, _, rfl, SqL.of hW5, hne, fun M2 Mi2 Mm2 => ?_⟩
        walk_at "rd"
        have mb := bd _ Mi2
        refine ⟨l, xs, ss, M2, rfl, SS.same s05, by omega, fw1, fw2, fun dn2 up2 p3 H6 eu3 ed3 s6 n6 hp3 => ?_⟩
        rw [wr_max SS.side Mi2 Mm2 ne] at eu3
        have x := end_uniq SS.side eu3 eu2
        subst x
        walk_at "rd"
        refine ⟨p3, _, _, _, rfl, rfl, SqT.of hp3, rfl, ?_⟩
        walk_at "rd"
        refine ⟨rfl, _, rfl, ?_, s6⟩
        show (!decide (V.int (m : Int) = V.int (((m + 1 : Nat) : Int) - 1))) = false
        rw [show ((m + 1 : Nat) : Int) - 1 = (m : Int) by omega, decide_eq_true rfl]
        rfl
    rintro b H6 ⟨rfl, s6⟩
    have s06 := s05.trans s6
    refine ite2 (fun z => absurd z (by decide)) (fun _ => ?_)
    walk_at "rd"
    have z1 := zero_end (side_mirs SS.side) ed Llo
    rw [← neg_eqv] at z1
    have z2 := zero_end SS.side eu Lhi
    refine ⟨_, _, dpO dn, .int 0, shaped_O dn, rfl, ?_⟩
    walk_at "rd"
    refine ⟨_, _, dpI _, .int v, shaped_I _, rfl, ?_⟩
    rw [← z1]
    walk_at "rd"
    refine ⟨rfl, _, rfl, ?_⟩
    refine ite2 (fun z => (bl_ne z).elim) (fun _ => ?_)
    walk_at "rd"
    refine ⟨_, _, dpO up, .int 0, shaped_O up, rfl, ?_⟩
    walk_at "rd"
    refine ⟨_, _, dpI hi, .int v, shaped_I hi, rfl, ?_⟩
    rw [← z2]
    walk_at "rd"
    refine ⟨rfl, _, rfl, ?_⟩
    refine ite2 (fun z => (bl_ne z).elim) (fun _ => ?_)
    walk_at "rd"
    refine ⟨(by show 3 ≤ sizeLine; decide), fun p1 np1 => ?_⟩
    generalize e_p1 : upd H6 p1 _ = H7
    have f1 : H7 p1 = some (.tup [oN dn, oV (lo.map fun x => -x), .int 0]) := by rw [← e_p1]; exact upd_same
    have w1 : Same H6 H7 := by rw [← e_p1]; exact fun b u z => (upd_ne (ne_of_none z np1)).trans z
    clear e_p1
    walk_at "rd"
    refine ⟨(by show 3 ≤ sizeLine; decide), fun p2 np2 => ?_⟩
    generalize e_p2 : upd H7 p2 _ = H8
    have f2 : H8 p2 = some (.tup [oN up, oV hi, .int 1]) := by rw [← e_p2]; exact upd_same
    have w2 : Same H7 H8 := by rw [← e_p2]; exact fun b u z => (upd_ne (ne_of_none z np2)).trans z
    clear e_p2
    walk_at "rd"
    refine ⟨(by show 2 ≤ sizeLine; decide), fun l9 nl9 => ?_⟩
    generalize e_l9 : upd H8 l9 _ = H9
    have f9 : H9 l9 = some (.lst [.ref p1, .ref p2]) := by rw [← e_l9]; exact upd_same
    have w9 : Same H8 H9 := by rw [← e_l9]; exact fun b u z => (upd_ne (ne_of_none z nl9)).trans z
    clear e_l9
    have key : ∀ (i : Nat) (x : V), [V.ref p1, .ref p2][i]? = some x → ∃ (p : Addr) (m : Option Nat) (e : Option Int) (j : Int) (wv : Nat → Int), x = .ref p ∧ H9 p = some (.tup [oN m, oV e, .int j]) ∧
        (∀ n, atI [V.int (-(it (hiL (ss.map mirD)) n (-v))), .int (it (hiL ss) n v)] j = some (.int (wv n))) ∧ ∀ n, m = some n → 0 < n → ∃ E, e = some E ∧ wv n = E ∧ wv (n - 1) ≠ E := by
      intro i x hx
      rcases i with _ | _ | i
      · cases hx
        refine ⟨p1, dn, lo.map fun x => -x, 0, fun n => -(it (hiL (ss.map mirD)) n (-v)), rfl, w9 _ _ (w2 _ _ f1), fun n => rfl, fun n en n0 => ?_⟩
        obtain ⟨X, e1, e2, e3⟩ := end_at (side_mirs SS.side) ed Llo en n0
        exact ⟨-X, by rw [e1]; rfl, by show -(it (hiL (ss.map mirD)) n (-v)) = -X; omega, by show -(it (hiL (ss.map mirD)) (n - 1) (-v)) ≠ -X; omega⟩
      · cases hx
        refine ⟨p2, up, hi, 1, fun n => it (hiL ss) n v, rfl, w9 _ _ f2, fun n => rfl, fun n en n0 => ?_⟩
        exact end_at SS.side eu Lhi en n0
      · cases hx
    have s09 := s06.trans (w1.trans (w2.trans w9))
    refine ⟨l9, rfl, ⟨_, SqL.of f9⟩, ?_⟩
    refine for_list (K := K) (a := l9) (xs := [.ref p1, .ref p2]) (fun i st H' => ∃ x8 x9 x10 : Option V, st = [some (.ref l), some (.int v), some (.ref Kp), some (oN dn), some (oN up), some (oV (lo.map fun x => -x)), some (oV hi), some (.ref W), x8, x9, x10] ∧ Same H9 H') ⟨none, none, none, rfl, Same.refl _⟩ (fun _ _ _ _ ⟨_, _, _, _, s7⟩ => SqL.of (s7 _ _ f9)) ?_ ?_
    · rintro i x st H' hx ⟨x8, x9, x10, rfl, s10⟩
      obtain ⟨p, m, e, j, wv, rfl, hp9, hat, fact⟩ := key i x hx
      refine ⟨p, _, rfl, SqT.of (s10 _ _ hp9), rfl, _, _, rfl, _, _, rfl, _, _, rfl, rfl, ?_⟩
      walk_at "rd"
      refine ⟨rfl, ?_⟩
      walk_at "rd"
      have out : ∃ x8 x9 x10 : Option V, [some (V.ref l), some (.int v), some (.ref Kp), some (oN dn), some (oN up), some (oV (lo.map fun x => -x)), some (oV hi), some (.ref W), some (oN m), some (oV e), some (.int j)] = [some (.ref l), some (.int v), some (.ref Kp), some (oN dn), some (oN up), some (oV (lo.map fun x => -x)), some (oV hi), some (.ref W), x8, x9, x10] ∧ Same H9 H' := ⟨_, _, _, rfl, s10⟩
      cases m with
      | none =>
        refine ite2 (fun z => absurd z (by decide)) (fun _ => ?_)
        exact out
      | some n =>
        refine ite2 (fun _ => ?_) (fun z => absurd rfl z)
        walk_at "rd"
        refine ite2 (fun z => ?_) (fun _ => out)
        have n0 : (0 : Int) < (n : Int) := of_decide_eq_true z
        walk_at "rd"
        refine ite2 (fun z => ?_) (fun _ => out)
        have n1 : (n : Int) < 1000 := of_decide_eq_true z
        obtain ⟨E, rfl, e1, e2⟩ := fact n rfl (by omega)
        have s0a := s09.trans s10
        refine ⟨fun b H'' => b = false ∧ Same H' H'', ?_, ?_⟩
        · walk_at "rd"
          refine ⟨l, xs, ss, v, n, rfl, SS.same s0a, by omega, by omega, fun p3 H11 s11 n11 hp11 => ?_⟩
          walk_at "rd"
          refine ⟨p3, _, _, _, rfl, rfl, SqT.of hp11, hat n, ?_⟩
          walk_at "rd"
          refine ⟨_, _, .int _, .int _, rfl, rfl, ?_⟩
          rw [eqv_int, decide_eq_true e1]
          walk_at "rd"
          refine ⟨l, xs, ss, v, n - 1, (by show [V.ref l, V.int v, V.int ((n : Int) - 1)] = _; rw [show (n : Int) - 1 = ((n - 1 : Nat) : Int) by omega]), SS.same (s0a.trans s11), by omega, by omega, fun p4 H12 s12 n12 hp12 => ?_⟩
          walk_at "rd"
          refine ⟨p4, _, _, _, rfl, rfl, SqT.of hp12, hat (n - 1), ?_⟩
          walk_at "rd"
          refine ⟨_, _, .int _, .int _, rfl, rfl, ?_⟩
          rw [eqv_int, decide_eq_false e2]
          exact ⟨_, rfl, rfl, s11.trans s12⟩
        · rintro b H11 ⟨rfl, s11⟩
          refine ite2 (fun z => absurd z (by decide)) (fun _ => ?_)
          exact ⟨_, _, _, rfl, s10.trans s11⟩
    · rintro st H' ⟨x8, x9, x10, rfl, s10⟩
      walk_at "rd"
      exact q H' (s09.trans s10)
end
end HT
namespace HT
open PySem L2
section
variable {P : Program} {w : World} {K : PySem.W.Frag} {mg : Str → Option Value} {base : Heap}
/-- both promises of a def -/
theorem or_ok {CX : CXT} {k : Nat} {f : Addr} {fd : FuncData} {ps : List Str} {sp sp' : Sp} (F : FnOk P w K mg base CX k f fd ps sp) (G : FnOk P w K mg base CX k f fd ps sp') : FnOk P w K mg base CX k f fd ps (fun vs H Q E => sp vs H Q E ∨ sp' vs H Q E) :=
  ⟨fun vs H Q E h => h.elim (F.len vs H Q E) (G.len vs H Q E), fun A outer s H args us vs Q E hr he hb hv hs => hs.elim (F.run A outer s H args us vs Q E hr he hb hv) (G.run A outer s H args us vs Q E hr he hb hv)⟩
end
end HT
namespace HT
open PySem L2
section
variable {P : Program} {w : World} {K : PySem.W.Frag} {mg : Str → Option Value} {base : Heap}
/-- a def that lets nothing out keeps its promise among errors too -/
theorem to_x {k : Nat} {f : Addr} {fd : FuncData} {ps : List Str} {sp : Sp} (F : FnOk P w K mg base CX0 k f fd ps sp) : FnOk P w K mg base (L2.CX P w) k f fd ps sp :=
  ⟨F.len, fun A outer s H args us vs Q E hr he hb hv hs => codeAny_mono (F.run A outer s H args us vs Q E hr he hb hv hs) fun r s' h => by
    unfold CR at h ⊢
    split at h
    · exact h
    · exact h
    · exact h.elim⟩
def spNo : Sp := fun _ _ _ _ => False
end
end HT
namespace HT
open PySem L2
/-- a thing of any kind, with its type's name -/
inductive Th (H : Hp) : V → String → Prop where
  | int (i : Int) : Th H (.int i) "int"
  | bl (b : Bool) : Th H (.bl b) "bool"
  | non : Th H .non "NoneType"
  | str (s : Str) : Th H (.str s) "str"
  | tup {p : Addr} {xs : List V} (h : H p = some (.tup xs)) : Th H (.ref p) "tuple"
  | lst {p : Addr} {xs : List V} (h : H p = some (.lst xs)) : Th H (.ref p) "list"
  | dk {p : Addr} {kvs : List (Key × V)} (h : H p = some (.dK kvs)) : Th H (.ref p) "dict"
theorem Th.ty {K : PySem.W.Frag} {H : Hp} {x : V} {n : String} (t : Th H x n) : TyX K H x (.type n) := by
  cases t with
  | int i => exact .base (.int i)
  | bl b => exact .base (.bl b)
  | non => exact .base .non
  | str s => exact .base (.str s)
  | tup h => exact .base (.tup h)
  | lst h => exact .base (.lst h)
  | dk h => exact .base (.dK h)
theorem Th.kint {K : PySem.W.Frag} {H : Hp} {x : V} {n : String} (t : Th H x n) : PySem.W.kitOne K (.type n) (.type "int") = some (n == "int" || n == "bool") := by
  cases t <;> exact kit_ty (by decide +kernel)
theorem Th.kbool {K : PySem.W.Frag} {H : Hp} {x : V} {n : String} (t : Th H x n) : PySem.W.kitOne K (.type n) (.type "bool") = some (n == "bool") := by
  cases t <;> exact kit_ty (by decide +kernel)
theorem Th.ktup {K : PySem.W.Frag} {H : Hp} {x : V} {n : String} (t : Th H x n) : PySem.W.kitOne K (.type n) (.type "tuple") = some (n == "tuple") := by
  cases t <;> exact kit_ty (by decide +kernel)
theorem Th.klst {K : PySem.W.Frag} {H : Hp} {x : V} {n : String} (t : Th H x n) : PySem.W.kitOne K (.type n) (.type "list") = some (n == "list") := by
  cases t <;> exact kit_ty (by decide +kernel)
theorem Th.same {H H' : Hp} {x : V} {n : String} (t : Th H x n) (s : Same H H') : Th H' x n := by
  cases t with
  | int i => exact .int i
  | bl b => exact .bl b
  | non => exact .non
  | str x => exact .str x
  | tup h => exact .tup (s _ _ h)
  | lst h => exact .lst (s _ _ h)
  | dk h => exact .dk (s _ _ h)
def isI (n : String) : Bool := n == "int"
def spIsAny : Sp := fun vs H Q _ => ∃ (x : V) (n : String), vs = [x] ∧ Th H x n ∧ Q (.bl (isI n)) H
/-- an int between the ends -/
def inB (x : V) (a b : Int) : Bool := match x with
  | .int i => decide (a ≤ i) && decide (i ≤ b)
  | _ => false
def spBetAny : Sp := fun vs H Q _ => ∃ (x : V) (n : String) (a b : Int), vs = [x, .int a, .int b] ∧ Th H x n ∧ Q (.bl (inB x a b)) H
/-- the names that the text of checks does not bind -/
structure ChkT (mg : Str → Option Value) : Prop where
  isi : mg "isinstance" = none
  int : mg "int" = none
  bool : mg "bool" = none
  tuple : mg "tuple" = none
  list : mg "list" = none
  len : mg "len" = none
section
variable {P : Program} {w : World} {K : PySem.W.Frag} {mg : Str → Option Value} {base : Heap} {fI : Addr} {dI : FuncData}
theorem ok_is_any {f : Addr} {fd : FuncData} (F : Fun K "is_int" "is_int" s_is_int f fd) (T : ChkT mg) : FnOk P w K mg base CX0 1 f fd ["thing"] spIsAny := by
  refine F.ok sc_is_int (fun vs H Q E h => ?_) (fun cdv A outer s H vs Q E hr h => ?_)
  · obtain ⟨x, n, rfl, _⟩ := h
    rfl
  · obtain ⟨x, n, rfl, t, q⟩ := h
    refine ⟨_, pss_one (ps_ret (pe_and (pe_callB call_isi (by rfl) T.isi (by decide +kernel) (pa_cons (pv 0) (pa_cons (pe_bltn (v := .ty "int") (by rfl) T.int (by decide +kernel) rfl) pa_nil)))
      (pe_one (pe_not (pe_callB call_isi (by rfl) T.isi (by decide +kernel) (pa_cons (pv 0) (pa_cons (pe_bltn (v := .ty "bool") (by rfl) T.bool (by decide +kernel) rfl) pa_nil))))))), ?_⟩
    walk_at "rd"
    refine ⟨_, _, _, _, _, rfl, .ty "int", t.ty, t.kint, ?_⟩
    walk_at "rd"
    refine ite2 (fun h => ?_) (fun h => ?_)
    · walk_at "rd"
      refine ⟨_, _, _, _, _, rfl, .ty "bool", t.ty, t.kbool, ?_⟩
      walk_at "rd"
      have e : (!(n == "bool")) = isI n := by
        cases t <;> first | rfl | exact absurd h (by decide)
      rw [e]
      exact q
    · have e : isI n = false := by
        cases t <;> first | rfl | exact absurd (by decide) h
      rw [e] at q
      exact q
theorem ok_bet_any {f : Addr} {fd : FuncData} (F : Fun K "is_int_between" "is_int_between" s_is_int_between f fd) (I : Cal P w K mg base "is_int" 1 ["thing"] spIsAny fI dI) : FnOk P w K mg base CX0 2 f fd ["thing", "least", "most"] spBetAny := by
  refine F.ok sc_is_int_between (fun vs H Q E h => ?_) (fun cdv A outer s H vs Q E hr h => ?_)
  · obtain ⟨x, n, a, b, rfl, _⟩ := h
    rfl
  · obtain ⟨x, n, a, b, rfl, t, q⟩ := h
    refine ⟨_, pss_one (ps_ret (pe_and (pcl I hr (by decide) (by rfl) (pa_cons (pv 0) pa_nil)) (pe_one (pe_chain op_le op_le (pv 1) (pv 0) (pv 2))))), ?_⟩
    walk_at "rd"
    refine ⟨x, n, rfl, t, ?_⟩
    cases t with
    | int i =>
      walk_at "rd"
      refine ite2 (fun h => ?_) (fun h => ?_)
      · walk_at "rd"
        change Q (.bl (decide (a ≤ i) && decide (i ≤ b))) H at q
        rw [decide_eq_true (of_decide_eq_true h)] at q
        exact q
      · change Q (.bl (decide (a ≤ i) && decide (i ≤ b))) H at q
        rw [decide_eq_false (of_decide_eq_false (by simpa using h))] at q
        exact q
    | _ => exact ⟨_, rfl, q⟩
end
end HT
namespace HT
open PySem L2
def modesD : List PyData := [.str "down", .str "up", .str "half_down", .str "half_up", .str "half_even"]
/-- a mode's place is taken by something else -/
def NoMode (d : PyData) : Prop := SeqAt.shaped d = true ∧ (modesD.any fun z => PyData.eqv z d) = false
/-- the four classes by number, and their base class at B -/
structure Er (K : PySem.W.Frag) (mg : Str → Option Value) (C : Nat → Addr) (B : Addr) : Prop where
  isi : mg "isinstance" = none
  ve : mg "ValueError" = none
  gB : mg "HandedError" = some (.ref B)
  g0 : mg "InvalidSide" = some (.ref (C 0))
  g1 : mg "InvalidSides" = some (.ref (C 1))
  g2 : mg "TooMany" = some (.ref (C 2))
  g3 : mg "InvalidValue" = some (.ref (C 3))
  kit : ∀ i j, i < 4 → j < 4 → PySem.W.kitOne K (.ref (C i)) (.ref (C j)) = some (decide (i = j))
  kitV : ∀ i, i < 4 → PySem.W.kitOne K (.ref (C i)) (.type "ValueError") = some true
  ec : ∀ i, i < 4 → ErrC K (C i)
  eg : ErrG K
  ex : ∀ i, i < 4 → PySem.W.excIn K (C i) [.type "ValueError", .type "Exception", .type "BaseException", .type "object"] "ValueError.__new__" = true
  kp : ∀ i, i < 4 → PySem.W.keepIn K (.ref (C i)) = true
  sb : ∀ i, i < 4 → PySem.W.subIn K (.ref (C i)) (.type "BaseException") = some true
  ty : ∀ i, i < 4 → PySem.W.typeIn K (.ref (C i)) = some (.type "type")
  emB : ∀ i, i < 4 → PySem.W.exmOne K (.ref (C i)) (.ref B) = some true
  em0 : PySem.W.exmOne K (.ref (C 0)) (.ref (C 0)) = some true
/-- flat data, and a list of one text -/
inductive Fl (H : Hp) : V → PyData → Prop where
  | non : Fl H .non .none
  | bl (b : Bool) : Fl H (.bl b) (.bool b)
  | int (i : Int) : Fl H (.int i) (.int i)
  | str (s : Str) : Fl H (.str s) (.str s)
  | one {l : Addr} {s : Str} (h : H l = some (.lst [.str s])) : Fl H (.ref l) (.list [.str s])
theorem Fl.dp {K : PySem.W.Frag} {H : Hp} {c : V} {d : PyData} (f : Fl H c d) : Dp K H c d := by
  cases f with
  | non => exact .non
  | bl b => exact .bl b
  | int i => exact .int i
  | str s => exact .str s
  | one h => exact .lst (SqL.of h) (.cons (.str _) .nil)
theorem Fl.same {H H' : Hp} {c : V} {d : PyData} (f : Fl H c d) (s : Same H H') : Fl H' c d := by
  cases f with
  | non => exact .non
  | bl b => exact .bl b
  | int i => exact .int i
  | str x => exact .str x
  | one h => exact .one (s _ _ h)
/-- no side -/
inductive BadS (K : PySem.W.Frag) (H : Hp) : V → Prop where
  | kind {x : V} {n : String} (t : Th H x n) (h : (n == "tuple") = false) : BadS K H x
  | len {p : Addr} {xs : List V} (hp : H p = some (.tup xs)) (h : ¬ xs.length = 3) : BadS K H (.ref p)
  | off {p : Addr} {a b c : V} {n : String} (hp : H p = some (.tup [a, b, c])) (t : Th H a n) (h : inB a (-10 ^ 40) (10 ^ 40) = false) : BadS K H (.ref p)
  | stp {p : Addr} {a b c : V} {n m : String} (hp : H p = some (.tup [a, b, c])) (t : Th H a n) (h : inB a (-10 ^ 40) (10 ^ 40) = true) (u : Th H b m) (g : inB b 1 (10 ^ 30) = false) : BadS K H (.ref p)
  | mod {p : Addr} {a b c : V} {n m : String} {d : PyData} (hp : H p = some (.tup [a, b, c])) (t : Th H a n) (h : inB a (-10 ^ 40) (10 ^ 40) = true) (u : Th H b m) (g : inB b 1 (10 ^ 30) = true) (dp : Fl H c d) (hd : NoMode d) : BadS K H (.ref p)
theorem BadS.same {K : PySem.W.Frag} {H H' : Hp} {x : V} (b : BadS K H x) (e : Same H H') : BadS K H' x := by
  cases b with
  | kind t h => exact .kind (t.same e) h
  | len hp h => exact .len (e _ _ hp) h
  | off hp t h => exact .off (e _ _ hp) (t.same e) h
  | stp hp t h u g => exact .stp (e _ _ hp) (t.same e) h (u.same e) g
  | mod hp t h u g dp hd => exact .mod (e _ _ hp) (t.same e) h (u.same e) g (dp.same e) hd
def GoodS (H : Hp) (x : V) : Prop := ∃ (p : Addr) (o s : Int) (m : Str), x = .ref p ∧ H p = some (sideV o s m) ∧ SideP o s m
def spValX (C : Nat → Addr) : Sp := fun vs H Q E => ∃ (x : V) (n : String), vs = [x] ∧ Th H x n ∧ (isI n = true → Q .non H) ∧ (isI n = false → E (.ref (C 3)) none H)
def spSideX (K : PySem.W.Frag) (C : Nat → Addr) : Sp := fun vs H Q E => ∃ x : V, vs = [x] ∧ ((GoodS H x ∧ Q .non H) ∨ (BadS K H x ∧ E (.ref (C 0)) none H))
def rNotInT (K : PySem.W.Frag) : R2 := fun x y H Q => ∃ d ds, Dp K H x d ∧ Dp K H y (.tuple ds) ∧ SeqAt.shaped d = true ∧ PyData.canLayAll0 ds = true ∧ PyData.depthAll ds ≤ 60 ∧ Q (.bl (!ds.any fun z => PyData.eqv z d)) H
theorem op_notInT {X : Cx} (hu : X.A.units + 64 < cLine) : OpR X (compareOp .NotIn) (rNotInT X.K) := by
  intro pins sh st H x y v u Q iv rx ry h
  obtain ⟨d, ds, hd, he, sd, se, sz, q⟩ := h
  obtain ⟨as, r1⟩ := Dp.reads iv d x v hd rx
  obtain ⟨bs, r2⟩ := Dp.reads iv (.tuple ds) y u he ry
  refine SeqAt.notIn_tuple_reads r2 r1 se (SeqAt.canLay_of_shaped sd) ?_ ⟨.bl _, H, iv, rfl, q⟩
  have : min (PyData.depthAll ds) d.depth ≤ PyData.depthAll ds := Nat.min_le_left _ _
  omega
/-- the table of modes -/
structure ModT (K : PySem.W.Frag) (mg : Str → Option Value) (aM : Addr) : Prop where
  gM : mg "MODES" = some (.ref aM)
  tM : ∀ H, SqT K H aM modesV
theorem dpModes {K : PySem.W.Frag} {H : Hp} {aM : Addr} (t : SqT K H aM modesV) : Dp K H (.ref aM) (.tuple modesD) := .tup t (.cons (.str _) (.cons (.str _) (.cons (.str _) (.cons (.str _) (.cons (.str _) .nil)))))
theorem mode_inX {m : Str} (h : Mode m) : SeqAt.shaped (.str m) = true ∧ (modesD.any fun z => PyData.eqv z (.str m)) = true := by
  rcases h with e | e | e | e | e <;> subst e <;> decide +kernel
section
variable {P : Program} {w : World} {K : PySem.W.Frag} {mg : Str → Option Value} {base : Heap} {aM fI fB fV fC fL fN fW B : Addr} {dI dB dV dC dL dN dW : FuncData} {C : Nat → Addr}
theorem ok_val_x {f : Addr} {fd : FuncData} (F : Fun K "check_value" "check_value" s_check_value f fd) (R : Er K mg C B) (I : Cal P w K mg base "is_int" 1 ["thing"] spIsAny fI dI) : FnOk P w K mg base (L2.CX P w) 2 f fd ["value"] (spValX C) := by
  refine F.okX sc_check_value (fun vs H Q E h => ?_) (fun cdv A outer s H vs Q E hr h => ?_)
  · obtain ⟨x, n, rfl, _⟩ := h
    rfl
  · obtain ⟨x, n, rfl, t, q1, q2⟩ := h
    refine ⟨_, pss_one (ps_if (pt_not (pt_val (pcl I hr (by decide) (by rfl) (pa_cons (pv 0) pa_nil)))) (pss_one (ps_raise rfl (takes_of rfl rfl rfl rfl) (pmk_own PySem.F.excBase_ValueError (R.ex 3 (by decide)) R.g3 (R.kp 3 (by decide)) (raises_own (R.sb 3 (by decide)) (R.ty 3 (by decide))) (by rfl)))) pss_nil), ?_⟩
    walk_at "rd"
    refine ⟨x, n, rfl, t, ?_⟩
    walk_at "rd"
    refine ite2 (fun h => ?_) (fun h => ?_)
    · exact q2 (by simpa using h)
    · exact q1 (not_f h)
end
end HT
namespace HT
open PySem L2
section
variable {P : Program} {w : World} {K : PySem.W.Frag} {mg : Str → Option Value} {base : Heap} {aM fI fB fV fC fL fN fW B : Addr} {dI dB dV dC dL dN dW : FuncData} {C : Nat → Addr}
theorem ok_side_x {f : Addr} {fd : FuncData} (F : Fun K "check_side" "check_side" s_check_side f fd) (T : ChkT mg) (M : ModT K mg aM) (R : Er K mg C B) (Bt : Cal P w K mg base "is_int_between" 2 ["thing", "least", "most"] spBetAny fB dB) : FnOk P w K mg base (L2.CX P w) 3 f fd ["side"] (spSideX K C) := by
  refine F.okAny sc_check_side (fun vs H Q E h => ?_) (fun cdv A outer s0 H vs Q E hr h => ?_)
  · obtain ⟨x, rfl, _⟩ := h
    rfl
  · obtain ⟨x, rfl, h⟩ := h
    have nd := sc_check_side.nd
    refine ⟨_, pss_cons (ps_if (PW.pt (pw_or (pt_not (pt_val (pe_callB call_isi (by rfl) T.isi (by decide +kernel) (pa_cons (pv 0) (pa_cons (pe_bltn (v := .ty "tuple") (by rfl) T.tuple (by decide +kernel) rfl) pa_nil)))))
        (pw_or1 (pt_cmpR op_ne (pe_callB call_len_seq (by rfl) T.len PySem.boot_len (pa_cons (pv 0) pa_nil)) pe_int (nomark _))))) (pss_one (ps_raise rfl (takes_of rfl rfl rfl rfl) (pmk_own PySem.F.excBase_ValueError (R.ex 0 (by decide)) R.g0 (R.kp 0 (by decide)) (raises_own (R.sb 0 (by decide)) (R.ty 0 (by decide))) (by rfl)))) pss_nil)
      (pss_cons (ps_asg (pv 0) (pg_tup (by rfl) (pgs_cons (pg_name (i := 1) nd rfl (Or.inl rfl)) (pgs_cons (pg_name (i := 2) nd rfl (Or.inl rfl)) (pgs_cons (pg_name (i := 3) nd rfl (Or.inl rfl)) pgs_nil)))))
      (pss_cons (ps_if (pt_not (pt_val (pcl Bt hr (by decide) (by rfl) (pa_cons (pv 1) (pa_cons (pe_un un_neg (pe_op op_pow pe_int pe_int)) (pa_cons (pe_op op_pow pe_int pe_int) pa_nil)))))) (pss_one (ps_raise rfl (takes_of rfl rfl rfl rfl) (pmk_own PySem.F.excBase_ValueError (R.ex 0 (by decide)) R.g0 (R.kp 0 (by decide)) (raises_own (R.sb 0 (by decide)) (R.ty 0 (by decide))) (by rfl)))) pss_nil)
      (pss_cons (ps_if (pt_not (pt_val (pcl Bt hr (by decide) (by rfl) (pa_cons (pv 2) (pa_cons pe_int (pa_cons (pe_op op_pow pe_int pe_int) pa_nil)))))) (pss_one (ps_raise rfl (takes_of rfl rfl rfl rfl) (pmk_own PySem.F.excBase_ValueError (R.ex 0 (by decide)) R.g0 (R.kp 0 (by decide)) (raises_own (R.sb 0 (by decide)) (R.ty 0 (by decide))) (by rfl)))) pss_nil)
      (pss_one (ps_if (pt_cmpR (op_notInT hr.units) (pv 3) (pe_glob (v := .ref aM) (by rfl) M.gM rfl) (by rfl)) (pss_one (ps_raise rfl (takes_of rfl rfl rfl rfl) (pmk_own PySem.F.excBase_ValueError (R.ex 0 (by decide)) R.g0 (R.kp 0 (by decide)) (raises_own (R.sb 0 (by decide)) (R.ty 0 (by decide))) (by rfl)))) pss_nil))))), ?_⟩
    walk_at "rd"
    rcases h with ⟨⟨p, o, s, m, rfl, hp, S⟩, q⟩ | ⟨bad, q⟩
    · refine ⟨_, _, _, _, _, rfl, .ty "tuple", .base (.tup hp), kit_ty (r := true) (by decide +kernel), ?_⟩
      walk_at "rd"
      refine ⟨p, _, rfl, .inr (SqT.of hp), rfl, ?_⟩
      walk_at "rd"
      refine ⟨p, _, rfl, SqT.of hp, rfl, _, _, rfl, _, _, rfl, _, _, rfl, rfl, ?_⟩
      walk_at "rd"
      refine ⟨⟨by decide, by decide, by decide⟩, ?_⟩
      walk_at "rd"
      refine ⟨⟨by decide, by decide, by decide⟩, _, _, _, _, rfl, .int o, ?_⟩
      have e1 : inB (.int o) (-(10 : Int) ^ (40 : Int).toNat) ((10 : Int) ^ (40 : Int).toNat) = true := by
        show (decide (-(10 : Int) ^ (40 : Int).toNat ≤ o) && decide (o ≤ (10 : Int) ^ (40 : Int).toNat)) = true
        rw [decide_eq_true (show -(10 : Int) ^ (40 : Int).toNat ≤ o from S.o0), decide_eq_true (show o ≤ (10 : Int) ^ (40 : Int).toNat from S.o1)]
        rfl
      refine ⟨_, rfl, ?_⟩
      refine ite2 (fun h => (not_t h e1).elim) (fun _ => ?_)
      walk_at "rd"
      refine ⟨⟨by decide, by decide, by decide⟩, _, _, _, _, rfl, .int s, ?_⟩
      have e2 : inB (.int s) 1 ((10 : Int) ^ (30 : Int).toNat) = true := by
        show (decide ((1 : Int) ≤ s) && decide (s ≤ (10 : Int) ^ (30 : Int).toNat)) = true
        rw [decide_eq_true S.s0, decide_eq_true (show s ≤ (10 : Int) ^ (30 : Int).toNat from S.s1)]
        rfl
      refine ⟨_, rfl, ?_⟩
      refine ite2 (fun h => (not_t h e2).elim) (fun _ => ?_)
      walk_at "rd"
      refine ⟨_, _, .str m, dpModes (M.tM H), (mode_inX S.md).1, by decide +kernel, by decide +kernel, ?_⟩
      walk_at "rd"
      refine ite2 (fun h => (not_t h (mode_inX S.md).2).elim) (fun _ => ?_)
      exact q
    · cases bad with
      | kind t h =>
        refine ⟨_, _, _, _, _, rfl, .ty "tuple", t.ty, t.ktup, ?_⟩
        walk_at "rd"
        refine ite2 (fun _ => ?_) (fun z => absurd (by rw [h]; rfl) z)
        exact q
      | len hp h =>
        refine ⟨_, _, _, _, _, rfl, .ty "tuple", .base (.tup hp), kit_ty (r := true) (by decide +kernel), ?_⟩
        walk_at "rd"
        refine ⟨_, _, rfl, .inr (SqT.of hp), ?_⟩
        walk_at "rd"
        refine ⟨rfl, ?_⟩
        walk_at "rd"
        refine ite2 (fun _ => q) (fun z => absurd ?_ z)
        rw [dec_int, decide_eq_false (fun y => h (by omega))]
        rfl
      | off hp t h =>
        refine ⟨_, _, _, _, _, rfl, .ty "tuple", .base (.tup hp), kit_ty (r := true) (by decide +kernel), ?_⟩
        walk_at "rd"
        refine ⟨_, _, rfl, .inr (SqT.of hp), rfl, ?_⟩
        walk_at "rd"
        refine ⟨_, _, rfl, SqT.of hp, rfl, _, _, rfl, _, _, rfl, _, _, rfl, rfl, ?_⟩
        walk_at "rd"
        refine ⟨⟨by decide, by decide, by decide⟩, ?_⟩
        walk_at "rd"
        refine ⟨⟨by decide, by decide, by decide⟩, _, _, _, _, rfl, t, ?_⟩
        refine ⟨_, rfl, ?_⟩
        exact ite2 (fun _ => q) (fun z => absurd (by rw [show inB _ (-(10 : Int) ^ (40 : Int).toNat) ((10 : Int) ^ (40 : Int).toNat) = false from h]; rfl) z)
      | stp hp t h u g =>
        refine ⟨_, _, _, _, _, rfl, .ty "tuple", .base (.tup hp), kit_ty (r := true) (by decide +kernel), ?_⟩
        walk_at "rd"
        refine ⟨_, _, rfl, .inr (SqT.of hp), rfl, ?_⟩
        walk_at "rd"
        refine ⟨_, _, rfl, SqT.of hp, rfl, _, _, rfl, _, _, rfl, _, _, rfl, rfl, ?_⟩
        walk_at "rd"
        refine ⟨⟨by decide, by decide, by decide⟩, ?_⟩
        walk_at "rd"
        refine ⟨⟨by decide, by decide, by decide⟩, _, _, _, _, rfl, t, ?_⟩
        refine ⟨_, rfl, ?_⟩
        refine ite2 (fun z => (not_t z (show inB _ (-(10 : Int) ^ (40 : Int).toNat) ((10 : Int) ^ (40 : Int).toNat) = true from h)).elim) (fun _ => ?_)
        walk_at "rd"
        refine ⟨⟨by decide, by decide, by decide⟩, _, _, _, _, rfl, u, ?_⟩
        refine ⟨_, rfl, ?_⟩
        exact ite2 (fun _ => q) (fun z => absurd (by rw [show inB _ 1 ((10 : Int) ^ (30 : Int).toNat) = false from g]; rfl) z)
      | mod hp t h u g dp hd =>
        refine ⟨_, _, _, _, _, rfl, .ty "tuple", .base (.tup hp), kit_ty (r := true) (by decide +kernel), ?_⟩
        walk_at "rd"
        refine ⟨_, _, rfl, .inr (SqT.of hp), rfl, ?_⟩
        walk_at "rd"
        refine ⟨_, _, rfl, SqT.of hp, rfl, _, _, rfl, _, _, rfl, _, _, rfl, rfl, ?_⟩
        walk_at "rd"
        refine ⟨⟨by decide, by decide, by decide⟩, ?_⟩
        walk_at "rd"
        refine ⟨⟨by decide, by decide, by decide⟩, _, _, _, _, rfl, t, ?_⟩
        refine ⟨_, rfl, ?_⟩
        refine ite2 (fun z => (not_t z (show inB _ (-(10 : Int) ^ (40 : Int).toNat) ((10 : Int) ^ (40 : Int).toNat) = true from h)).elim) (fun _ => ?_)
        walk_at "rd"
        refine ⟨⟨by decide, by decide, by decide⟩, _, _, _, _, rfl, u, ?_⟩
        refine ⟨_, rfl, ?_⟩
        refine ite2 (fun z => (not_t z (show inB _ 1 ((10 : Int) ^ (30 : Int).toNat) = true from g)).elim) (fun _ => ?_)
        walk_at "rd"
        refine ⟨_, _, dp.dp, dpModes (M.tM H), hd.1, by decide +kernel, by decide +kernel, ?_⟩
        walk_at "rd"
        refine ite2 (fun _ => q) (fun z => absurd (by rw [hd.2]; rfl) z)
end
end HT
namespace HT
open PySem L2
def GoodL (H : Hp) (l : Addr) (xs : List V) : Prop := H l = some (.lst xs) ∧ 1 ≤ xs.length ∧ xs.length ≤ 4 ∧ ∀ y ∈ xs, GoodS H y
/-- no list of sides -/
inductive BadL (K : PySem.W.Frag) (H : Hp) : V → Prop where
  | kind {x : V} {n : String} (t : Th H x n) (h : (n == "list") = false) : BadL K H x
  | len {l : Addr} {xs : List V} (hl : H l = some (.lst xs)) (h : ¬ (1 ≤ xs.length ∧ xs.length ≤ 4)) : BadL K H (.ref l)
  | item {l : Addr} {xs : List V} {i : Nat} {y : V} (hl : H l = some (.lst xs)) (h1 : 1 ≤ xs.length) (h2 : xs.length ≤ 4) (hi : xs[i]? = some y) (bad : BadS K H y) (good : ∀ j z, j < i → xs[j]? = some z → GoodS H z) : BadL K H (.ref l)
def spIsSideX (K : PySem.W.Frag) : Sp := fun vs H Q _ => ∃ x : V, vs = [x] ∧ ((GoodS H x ∧ Q (.bl true) H) ∨ (BadS K H x ∧ Q (.bl false) H))
def spSidesX (K : PySem.W.Frag) (C : Nat → Addr) : Sp := fun vs H Q E => ∃ x : V, vs = [x] ∧ ((∃ l xs, x = .ref l ∧ GoodL H l xs ∧ Q .non H) ∨ (BadL K H x ∧ E (.ref (C 1)) none H))
/-- the numbers of among's top -/
structure AmT (mg : Str → Option Value) : Prop where
  ms : ∃ t, mg "MOST_SIDES" = some (.int 4 t)
section
variable {P : Program} {w : World} {K : PySem.W.Frag} {mg : Str → Option Value} {base : Heap} {aM fI fB fV fC fL fN fW B : Addr} {dI dB dV dC dL dN dW : FuncData} {C : Nat → Addr}
theorem ok_is_side_x {f : Addr} {fd : FuncData} (F : Fun K "is_side" "is_side" s_is_side f fd) (R : Er K mg C B) (Ck : CalX P w K mg base "check_side" 3 ["side"] (spSideX K C) fC dC) : FnOk P w K mg base CX0 4 f fd ["thing"] (spIsSideX K) := by
  refine F.ok sc_is_side (fun vs H Q E h => ?_) (fun cdv A outer s0 H vs Q E hr h => ?_)
  · obtain ⟨x, rfl, _⟩ := h
    rfl
  · obtain ⟨x, rfl, h⟩ := h
    refine ⟨_, pss_cons (ps_try_only rfl rfl ⟨rfl, by decide, .inl R.g0⟩ takes0 (fun W pn xe tk _ => pss_one (ps_expr (pcx Ck hr (by decide) (by rfl) tk (pa_cons (pv 0) pa_nil)))) (fun a oe cls d pn _ _ => pss_one (ps_ret pe_bl))) (pss_one (ps_ret pe_bl)), ?_⟩
    walk_at "rd"
    rcases h with ⟨good, q⟩ | ⟨bad, q⟩
    · refine .inl ⟨good, ?_⟩
      walk_at "rd"
      exact q
    · refine .inr ⟨bad, ?_⟩
      exact ⟨true, R.em0, fun _ a ha => q, fun z => Bool.noConfusion z⟩
theorem ok_sides_x {f : Addr} {fd : FuncData} (F : Fun K "check_sides" "check_sides" s_check_sides f fd) (T : ChkT mg) (A' : AmT mg) (R : Er K mg C B) (Ck : Cal P w K mg base "is_side" 4 ["thing"] (spIsSideX K) fC dC) : FnOk P w K mg base (L2.CX P w) 5 f fd ["sides"] (spSidesX K C) := by
  refine F.okAny sc_check_sides (fun vs H Q E h => ?_) (fun cdv A outer s0 H vs Q E hr h => ?_)
  · obtain ⟨x, rfl, _⟩ := h
    rfl
  · obtain ⟨x, rfl, h⟩ := h
    have nd := sc_check_sides.nd
    obtain ⟨tms, hms⟩ := A'.ms
    refine ⟨_, pss_cons (ps_if (PW.pt (pw_or (pt_not (pt_val (pe_callB call_isi (by rfl) T.isi (by decide +kernel) (pa_cons (pv 0) (pa_cons (pe_bltn (v := .ty "list") (by rfl) T.list (by decide +kernel) rfl) pa_nil)))))
        (pw_or1 (pt_not (pt_chain op_le op_le pe_int (pe_callB call_len_seq (by rfl) T.len PySem.boot_len (pa_cons (pv 0) pa_nil)) (pe_glob (v := .int 4) (by rfl) hms ⟨_, rfl⟩)))))) (pss_one (ps_raise rfl (takes_of rfl rfl rfl rfl) (pmk_own PySem.F.excBase_ValueError (R.ex 1 (by decide)) R.g1 (R.kp 1 (by decide)) (raises_own (R.sb 1 (by decide)) (R.ty 1 (by decide))) (by rfl)))) pss_nil)
      (pss_one (ps_for (passes_of rfl) rfl (pi_list (pv 0)) (pg_name (i := 1) nd rfl (Or.inl rfl))
        (pss_one (ps_if (pt_not (pt_val (pcl Ck hr (by decide) (by rfl) (pa_cons (pv 1) pa_nil)))) (pss_one (ps_raise rfl (takes_of rfl rfl rfl rfl) (pmk_own PySem.F.excBase_ValueError (R.ex 1 (by decide)) R.g1 (R.kp 1 (by decide)) (raises_own (R.sb 1 (by decide)) (R.ty 1 (by decide))) (by rfl)))) pss_nil)))), ?_⟩
    walk_at "rd"
    rcases h with ⟨l, xs, rfl, ⟨hl, l1, l4, good⟩, q⟩ | ⟨bad, q⟩
    · refine ⟨_, _, _, _, _, rfl, .ty "list", .base (.lst hl), kit_ty (r := true) (by decide +kernel), ?_⟩
      walk_at "rd"
      refine ⟨l, _, rfl, .inl (SqL.of hl), ?_⟩
      walk_at "rd"
      refine ite2 (fun _ => ?_) (fun z => absurd (decide_eq_true (by omega)) z)
      walk_at "rd"
      refine ite2 (fun z => ?_) (fun _ => ?_)
      · exfalso
        have e : decide ((xs.length : Int) ≤ 4) = true := decide_eq_true (by omega)
        exact not_t z e
      walk_at "rd"
      refine ⟨⟨_, SqL.of hl⟩, ?_⟩
      refine for_list (K := K) (a := l) (xs := xs) (fun i σ H' => ∃ y : Option V, σ = [some (.ref l), y] ∧ H' = H) ⟨none, rfl, rfl⟩ (fun _ _ _ _ ⟨_, _, e⟩ => e ▸ SqL.of hl) ?_ ?_
      · rintro i y σ H' hy ⟨z, rfl, rfl⟩
        walk_at "rd"
        refine .inl ⟨good y (List.mem_of_getElem? hy), _, rfl, ?_⟩
        refine ite2 (fun z => (not_t z rfl).elim) (fun _ => ?_)
        exact ⟨_, rfl, rfl⟩
      · rintro σ H' ⟨z, rfl, rfl⟩
        exact q
    · cases bad with
      | kind t h =>
        refine ⟨_, _, _, _, _, rfl, .ty "list", t.ty, t.klst, ?_⟩
        walk_at "rd"
        refine ite2 (fun _ => ?_) (fun z => absurd (by rw [h]; rfl) z)
        exact q
      | @len l xs hl h =>
        refine ⟨_, _, _, _, _, rfl, .ty "list", .base (.lst hl), kit_ty (r := true) (by decide +kernel), ?_⟩
        walk_at "rd"
        refine ⟨l, _, rfl, .inl (SqL.of hl), ?_⟩
        walk_at "rd"
        refine ite2 (fun z1 => ?_) (fun z1 => ?_)
        · have z1' := of_decide_eq_true z1
          walk_at "rd"
          refine ite2 (fun _ => q) (fun z => absurd ?_ z)
          have e : decide ((xs.length : Int) ≤ 4) = false := decide_eq_false (by omega)
          rw [e]
          rfl
        · walk_at "rd"
          exact q
      | @item l xs i0 y0 hl l1 l4 hi bad good =>
        refine ⟨_, _, _, _, _, rfl, .ty "list", .base (.lst hl), kit_ty (r := true) (by decide +kernel), ?_⟩
        walk_at "rd"
        refine ⟨l, _, rfl, .inl (SqL.of hl), ?_⟩
        walk_at "rd"
        refine ite2 (fun _ => ?_) (fun z => absurd (decide_eq_true (by omega)) z)
        walk_at "rd"
        refine ite2 (fun z => ?_) (fun _ => ?_)
        · exfalso
          have e : decide ((xs.length : Int) ≤ 4) = true := decide_eq_true (by omega)
          exact not_t z e
        walk_at "rd"
        refine ⟨⟨_, SqL.of hl⟩, ?_⟩
        have i0l : i0 < xs.length := (List.getElem?_eq_some_iff.mp hi).1
        refine for_list (K := K) (a := l) (xs := xs) (fun i σ H' => ∃ y : Option V, σ = [some (.ref l), y] ∧ H' = H ∧ i ≤ i0) ⟨none, rfl, rfl, Nat.zero_le _⟩ (fun _ _ _ _ ⟨_, _, e, _⟩ => e ▸ SqL.of hl) ?_ ?_
        · rintro i y σ H' hy ⟨z, rfl, rfl, le⟩
          walk_at "rd"
          rcases Nat.lt_or_eq_of_le le with lt | eq
          · refine .inl ⟨good i y lt hy, _, rfl, ?_⟩
            refine ite2 (fun z => (not_t z rfl).elim) (fun _ => ?_)
            exact ⟨_, rfl, rfl, lt⟩
          · subst eq
            have ey : y = y0 := by rw [hi] at hy; exact (Option.some.inj hy).symm
            subst ey
            refine .inr ⟨bad, _, rfl, ?_⟩
            refine ite2 (fun _ => ?_) (fun z => absurd rfl z)
            exact q
        · rintro σ H' ⟨z, rfl, rfl, le⟩
          omega
end
end HT
namespace HT
open PySem L2
def ManyL (ss : List Sd) : Prop := 2 < ss.length ∧ 100000 < comN ss
def ManyP (ss : List Sd) : Prop := ManyL (ss.filter upD) ∨ (FewP ss ∧ ManyL ((ss.map mirD).filter upD))
def spCFX (C : Nat → Addr) : Sp := fun vs H Q E => ∃ (l : Addr) (xs : List V) (ss : List Sd), vs = [.ref l] ∧ SidL H l xs ss ∧ (((ss.length ≤ 2 ∨ comN ss ≤ 100000) ∧ Q .non H) ∨ (ManyL ss ∧ E (.ref (C 2)) none H))
def spReachX (K : PySem.W.Frag) (C : Nat → Addr) : Sp := fun vs H _ E => ∃ x y : V, vs = [x, y] ∧ ((BadL K H x ∧ E (.ref (C 1)) none H) ∨ (∃ l xs n, x = .ref l ∧ GoodL H l xs ∧ Th H y n ∧ isI n = false ∧ E (.ref (C 3)) none H) ∨
  (∃ l xs ss, x = .ref l ∧ SidesAt H l xs ss ∧ y = .int 0 ∧ ManyP ss ∧ ∀ H', Same H H' → E (.ref (C 2)) none H'))
theorem good_of {H : Hp} {l : Addr} {xs : List V} {ss : List Sd} (S : SidesAt H l xs ss) : GoodL H l xs := ⟨S.hl, by have := S.l1; have := S.len; omega, by have := S.l4; have := S.len; omega, fun y hy => by
  obtain ⟨i, hi, e⟩ := List.mem_iff_getElem.mp hy
  obtain ⟨d, p, ed, e2, hp, sp⟩ := S.item (i := i) (y := y) (by rw [← e]; exact List.getElem?_eq_getElem hi)
  exact ⟨p, d.o, d.s, d.m, e2, hp, sp⟩⟩
section
variable {P : Program} {w : World} {K : PySem.W.Frag} {mg : Str → Option Value} {base : Heap} {fB fH fI fJ fL fM fN B : Addr} {dB dH dI dJ dL dM dN : FuncData} {C : Nat → Addr}
theorem ok_cf_x {f : Addr} {fd : FuncData} (F : Fun K "_check_few" "_check_few" s_check_few f fd) (A' : AmG mg) (R : Er K mg C B) (Co : Cal P w K mg base "common_period" 2 ["sides"] spPerL fH dH) : FnOk P w K mg base (L2.CX P w) 3 f fd ["raising"] (spCFX C) := by
  refine F.okAny sc_check_few (fun vs H Q E h => ?_) (fun cdv A outer s0 H vs Q E hr h => ?_)
  · obtain ⟨l, xs, ss, rfl, _⟩ := h
    rfl
  · obtain ⟨l, xs, ss, rfl, SS, few⟩ := h
    obtain ⟨tmp, hmp⟩ := A'.mp
    refine ⟨_, pss_one (ps_if (PW.pt (pw_and (pt_cmpR op_gt (pe_callB call_len_seq (by rfl) A'.len PySem.boot_len (pa_cons (pv 0) pa_nil)) pe_int (nomark _)) (pw_and1 (pt_cmpR op_gt (pcl Co hr (by decide) (by rfl) (pa_cons (pv 0) pa_nil)) (pe_glob (v := .int 100000) (by rfl) hmp ⟨_, rfl⟩) (nomark _))))) (pss_one (ps_raise rfl (takes_of rfl rfl rfl rfl) (pmk_own PySem.F.excBase_ValueError (R.ex 2 (by decide)) R.g2 (R.kp 2 (by decide)) (raises_own (R.sb 2 (by decide)) (R.ty 2 (by decide))) (by rfl)))) pss_nil), ?_⟩
    walk_at "rd"
    refine ⟨l, _, rfl, .inl (SqL.of SS.hl), ?_⟩
    walk_at "rd"
    refine ite2 (fun z => ?_) (fun z => ?_)
    · have gt := of_decide_eq_true z
      rw [SS.len] at gt
      walk_at "rd"
      refine ⟨l, xs, ss, rfl, SS, ?_⟩
      walk_at "rd"
      refine ite2 (fun z => ?_) (fun z => ?_)
      · have g2 := of_decide_eq_true z
        rcases few with ⟨y, _⟩ | ⟨_, q⟩
        · exfalso
          rcases y with y | y <;> omega
        · exact q
      · have g2 := of_decide_eq_false (by simpa using z : decide ((100000 : Int) < (comN ss : Int)) = false)
        rcases few with ⟨_, q⟩ | ⟨⟨_, y⟩, _⟩
        · exact q
        · exfalso
          omega
    · have gt := of_decide_eq_false (by simpa using z : decide ((2 : Int) < (xs.length : Int)) = false)
      rw [SS.len] at gt
      rcases few with ⟨_, q⟩ | ⟨⟨y, _⟩, _⟩
      · exact q
      · exfalso
        omega
theorem ok_reach_x {f : Addr} {fd : FuncData} (F : Fun K "reach" "reach" s_reach f fd) (Ls : CalX P w K mg base "check_sides" 5 ["sides"] (spSidesX K C) fB dB) (Vl : CalX P w K mg base "check_value" 2 ["value"] (spValX C) fH dH) (Ra : Cal P w K mg base "raisers" 6 ["sides"] spRais fI dI) (Mi : Cal P w K mg base "mirrors" 5 ["sides"] spMirs fJ dJ)
    (Cf : CalX P w K mg base "_check_few" 3 ["raising"] (spCFX C) fL dL) : FnOk P w K mg base (L2.CX P w) 108 f fd ["sides", "value"] (spReachX K C) := by
  refine F.okAny sc_reach (fun vs H Q E h => ?_) (fun cdv A outer s0 H vs Q E hr h => ?_)
  · obtain ⟨x, y, rfl, _⟩ := h
    rfl
  · obtain ⟨x, y, rfl, h⟩ := h
    have nd := sc_reach.nd
    refine ⟨_, pss_cons (ps_expr (pcx Ls hr (by decide) (by rfl) (takes_of rfl rfl rfl rfl) (pa_cons (pv 0) pa_nil)))
      (pss_cons (ps_expr (pcx Vl hr (by decide) (by rfl) (takes_of rfl rfl rfl rfl) (pa_cons (pv 1) pa_nil)))
      (pss_cons (ps_set (i := 2) nd rfl (Or.inl rfl) (pcl Ra hr (by decide) (by rfl) (pa_cons (pv 0) pa_nil)))
      (pss_cons (ps_set (i := 3) nd rfl (Or.inl rfl) (pcl Ra hr (by decide) (by rfl) (pa_cons (pcl Mi hr (by decide) (by rfl) (pa_cons (pv 0) pa_nil)) pa_nil)))
      (pss_cons (ps_expr (pcx Cf hr (by decide) (by rfl) (takes_of rfl rfl rfl rfl) (pa_cons (pv 2) pa_nil)))
      (pss_cons (ps_expr (pcx Cf hr (by decide) (by rfl) (takes_of rfl rfl rfl rfl) (pa_cons (pv 3) pa_nil)))
      (pss_cons ps_never (pss_cons ps_never (pss_one ps_never)))))))), ?_⟩
    walk_at "rd"
    rcases h with ⟨bad, q⟩ | ⟨l, xs, n, rfl, gl, ty, ni, q⟩ | ⟨l, xs, ss, rfl, SS, rfl, many, q⟩
    · exact .inr ⟨bad, q⟩
    · refine .inl ⟨l, xs, rfl, gl, ?_⟩
      walk_at "rd"
      exact ⟨_, n, rfl, ty, fun z => absurd z (by rw [ni]; decide), fun _ => q⟩
    refine .inl ⟨l, xs, rfl, good_of SS, ?_⟩
    walk_at "rd"
    refine ⟨_, _, rfl, .int _, fun _ => ?_, fun z => absurd z (by decide)⟩
    walk_at "rd"
    refine ⟨l, xs, ss, rfl, SS.toL, fun L1 y1 H1 n1 s1 S1 => ?_⟩
    walk_at "rd"
    refine ⟨l, xs, ss, rfl, SS.toL.same s1, fun L2 y2 H2 n2 s2 S2 => ?_⟩
    refine ⟨L2, y2, _, rfl, S2, fun L3 y3 H3 n3 s3 S3 => ?_⟩
    walk_at "rd"
    have sA := s1.trans (s2.trans s3)
    rcases many with m | ⟨f1, m⟩
    · exact ⟨L1, y1, _, rfl, (S1.same s2).same s3, .inr ⟨m, q H3 sA⟩⟩
    · refine ⟨L1, y1, _, rfl, (S1.same s2).same s3, .inl ⟨f1, ?_⟩⟩
      walk_at "rd"
      exact ⟨L3, y3, _, rfl, S3, .inr ⟨m, q H3 sA⟩⟩
theorem ok_eff_x {f : Addr} {fd : FuncData} (F : Fun K "efforts" "efforts" s_efforts f fd) (Re : CalX P w K mg base "reach" 108 ["sides", "value"] (spReachX K C) fB dB) : FnOk P w K mg base (L2.CX P w) 109 f fd ["sides", "value"] (spReachX K C) := by
  refine F.okAny sc_efforts (fun vs H Q E h => ?_) (fun cdv A outer s0 H vs Q E hr h => ?_)
  · obtain ⟨x, y, rfl, _⟩ := h
    rfl
  · obtain ⟨x, y, rfl, h⟩ := h
    have nd := sc_efforts.nd
    refine ⟨_, pss_cons (ps_asg (pcx Re hr (by decide) (by rfl) (takes_of rfl rfl rfl rfl) (pa_cons (pv 0) (pa_cons (pv 1) pa_nil))) (pg_tup (by rfl) (pgs_cons (pg_name (i := 2) nd rfl (Or.inl rfl)) (pgs_cons (pg_name (i := 3) nd rfl (Or.inl rfl)) pgs_nil)))) (pss_cons ps_never (pss_cons ps_never (pss_one ps_never))), ?_⟩
    walk_at "rd"
    exact ⟨x, y, rfl, h⟩
end
end HT
namespace HT
open PySem L2
/-- what a call comes to: the word for it -/
inductive Word (K : PySem.W.Frag) (H : Hp) (x y : V) : Str → Prop where
  | sides (bad : BadL K H x) : Word K H x y "sides"
  | val {l : Addr} {xs : List V} {n : String} (e : x = .ref l) (S : GoodL H l xs) (t : Th H y n) (ni : isI n = false) : Word K H x y "value"
  | many {l : Addr} {xs : List V} {ss : List Sd} (e : x = .ref l) (S : SidesAt H l xs ss) (ey : y = .int 0) (m : ManyP ss) : Word K H x y "many"
def spWord (K : PySem.W.Frag) : Sp := fun vs H Q _ => ∃ (x y : V) (r : Str), vs = [x, y] ∧ Word K H x y r ∧ ∀ H', Same H H' → Q (.str r) H'
section
variable {P : Program} {w : World} {K : PySem.W.Frag} {mg : Str → Option Value} {base : Heap} {aM fA fB fR B : Addr} {dA dB dR : FuncData} {C : Nat → Addr}
theorem ok_word {f : Addr} {fd : FuncData} (F : Fun K "_law_word" "_law_word" s_L_word f fd) (R : Er K mg C B) (Ef : CalX P w K mg base "efforts" 109 ["sides", "value"] (spReachX K C) fA dA) : FnOk P w K mg base CX0 110 f fd ["_law_sides", "_law_value"] (spWord K) := by
  refine F.ok sc_L_word (fun vs H Q E h => ?_) (fun cdv A outer s0 H vs Q E hr h => ?_)
  · obtain ⟨x, y, r, rfl, _⟩ := h
    rfl
  · obtain ⟨x, y, r, rfl, wd, q⟩ := h
    have nd := sc_L_word.nd
    refine ⟨_, pss_cons (ps_set (i := 2) nd rfl (Or.inl rfl) pe_non)
      (pss_cons (ps_try_keep (i := 3) rfl rfl rfl nd rfl rfl ⟨rfl, by decide, .inl R.gB⟩ takes0 (fun W pn xe tk _ => pss_one (ps_expr (pcx Ef hr (by decide) (by rfl) tk (pa_cons (pv 0) (pa_cons (pv 1) pa_nil)))))
        (fun a rc kl dd pn hz hf => pss_one (ps_set (i := 2) nd rfl (Or.inl rfl) (pv 3))))
      (pss_cons (ps_if (pt_cmpR op_isN (pv 2) pe_non (nomark _)) (pss_one (ps_ret pe_str)) pss_nil)
      (pss_cons (ps_set (i := 4) nd rfl (Or.inl rfl) (pe_lst (pa_cons (pe_callB call_isKept (by rfl) R.isi (by decide +kernel) (pa_cons (pv 2) (pa_cons (pe_glob (v := .ref (C 1)) (by rfl) R.g1 rfl) pa_nil))) (pa_cons (pe_callB call_isKept (by rfl) R.isi (by decide +kernel) (pa_cons (pv 2) (pa_cons (pe_glob (v := .ref (C 3)) (by rfl) R.g3 rfl) pa_nil))) (pa_cons (pe_callB call_isKept (by rfl) R.isi (by decide +kernel) (pa_cons (pv 2) (pa_cons (pe_glob (v := .ref (C 2)) (by rfl) R.g2 rfl) pa_nil))) pa_nil)))))
      (pss_cons (ps_if (pt_cmpR op_ne (pe_bm PySem.F.plainAttrs_list PySem.F.slot_list_count PySem.F.type_list_count mt_cntV (pv 4) (pa_cons pe_bl pa_nil)) pe_int (nomark _)) (pss_one (ps_ret pe_str)) pss_nil)
      (pss_one (ps_ret (pe_ix ix_list (pe_lst (pa_cons pe_str (pa_cons pe_str (pa_cons pe_str pa_nil)))) (pe_bm PySem.F.plainAttrs_list PySem.F.slot_list_index PySem.F.type_list_index mt_index (pv 4) (pa_cons pe_bl pa_nil)) (fun _ _ => rfl)))))))), ?_⟩
    walk_at "rd"
    cases wd with
    | sides bad =>
      refine ⟨_, _, rfl, .inl ⟨bad, ?_⟩⟩
      refine ⟨true, R.emB 1 (by decide), fun _ => ⟨rfl, fun a ha => ?_⟩, fun z => Bool.noConfusion z⟩
      walk_at "rd"
      refine ⟨rfl, ?_⟩
      walk_at "rd"
      refine ⟨a, C 1, _, .ref (C 1), decide (1 = 1), rfl, .own _, upd_same, R.ec 1 (by decide), R.eg, R.kit 1 1 (by decide) (by decide), ?_⟩
      walk_at "rd"
      refine ⟨a, C 1, _, .ref (C 3), decide (1 = 3), rfl, .own _, upd_same, R.ec 1 (by decide), R.eg, R.kit 1 3 (by decide) (by decide), ?_⟩
      walk_at "rd"
      refine ⟨a, C 1, _, .ref (C 2), decide (1 = 2), rfl, .own _, upd_same, R.ec 1 (by decide), R.eg, R.kit 1 2 (by decide) (by decide), ?_⟩
      walk_at "rd"
      refine ⟨(by show 3 ≤ sizeLine; decide), fun l1 nl1 => ?_⟩
      have ea1 := (upd_ne (o := .lst [V.bl (decide (1 = 1)), .bl (decide (1 = 3)), .bl (decide (1 = 2))]) (ne_of_none upd_same nl1)).trans (upd_same (H := H) (a := a) (o := ExK (.ref (C 1)) a))
      have hl1 : upd (upd H a (ExK (.ref (C 1)) a)) l1 (.lst [V.bl (decide (1 = 1)), .bl (decide (1 = 3)), .bl (decide (1 = 2))]) l1 = some (.lst [V.bl (decide (1 = 1)), .bl (decide (1 = 3)), .bl (decide (1 = 2))]) := upd_same
      have eb1 : Same H (upd (upd H a (ExK (.ref (C 1)) a)) l1 (.lst [V.bl (decide (1 = 1)), .bl (decide (1 = 3)), .bl (decide (1 = 2))])) := fun b u e0 => by
        have e1 := (upd_ne (o := ExK (.ref (C 1)) a) (ne_of_none e0 ha)).trans e0
        exact (upd_ne (ne_of_none e1 nl1)).trans e1
      generalize upd (upd H a (ExK (.ref (C 1)) a)) l1 (.lst [V.bl (decide (1 = 1)), .bl (decide (1 = 3)), .bl (decide (1 = 2))]) = HX at ea1 eb1 hl1 ⊢
      walk_at "rd"
      refine ⟨.inl ⟨rfl, _, SqL.of hl1⟩, ?_⟩
      walk_at "rd"
      refine ⟨l1, _, .bl true, rfl, rfl, SqL.of hl1, rfl, rfl, ?_⟩
      walk_at "rd"
      refine ⟨rfl, ?_⟩
      walk_at "rd"
      walk_at "rd"
      refine ⟨(by show 3 ≤ sizeLine; decide), fun l4 nl4 => ?_⟩
      have hl4 : upd HX l4 (.lst [V.str "sides", .str "value", .str "many"]) l4 = some (.lst [V.str "sides", .str "value", .str "many"]) := upd_same
      have eb4 : Same HX (upd HX l4 (.lst [V.str "sides", .str "value", .str "many"])) := fun b u e0 => (upd_ne (ne_of_none e0 nl4)).trans e0
      generalize upd HX l4 (.lst [V.str "sides", .str "value", .str "many"]) = HY at eb4 hl4 ⊢
      walk_at "rd"
      refine ⟨.inl ⟨rfl, _, SqL.of (eb4 _ _ hl1)⟩, ?_⟩
      walk_at "rd"
      refine ⟨l1, _, .bl true, 0, .bl true, rfl, rfl, SqL.of (eb4 _ _ hl1), rfl, rfl, rfl, rfl, fun m z' hm hz => ?_, ?_⟩
      · exact absurd hm (Nat.not_lt_zero _)
      refine ⟨l4, _, _, _, rfl, rfl, SqL.of hl4, rfl, ?_⟩
      exact q _ ((Same.refl H).trans (eb1.trans eb4))
    | val e S t ni =>
      subst e
      refine ⟨_, _, rfl, .inr (.inl ⟨_, _, _, rfl, S, t, ni, ?_⟩)⟩
      refine ⟨true, R.emB 3 (by decide), fun _ => ⟨rfl, fun a ha => ?_⟩, fun z => Bool.noConfusion z⟩
      walk_at "rd"
      refine ⟨rfl, ?_⟩
      walk_at "rd"
      refine ⟨a, C 3, _, .ref (C 1), decide (3 = 1), rfl, .own _, upd_same, R.ec 3 (by decide), R.eg, R.kit 3 1 (by decide) (by decide), ?_⟩
      walk_at "rd"
      refine ⟨a, C 3, _, .ref (C 3), decide (3 = 3), rfl, .own _, upd_same, R.ec 3 (by decide), R.eg, R.kit 3 3 (by decide) (by decide), ?_⟩
      walk_at "rd"
      refine ⟨a, C 3, _, .ref (C 2), decide (3 = 2), rfl, .own _, upd_same, R.ec 3 (by decide), R.eg, R.kit 3 2 (by decide) (by decide), ?_⟩
      walk_at "rd"
      refine ⟨(by show 3 ≤ sizeLine; decide), fun l1 nl1 => ?_⟩
      have ea1 := (upd_ne (o := .lst [V.bl (decide (3 = 1)), .bl (decide (3 = 3)), .bl (decide (3 = 2))]) (ne_of_none upd_same nl1)).trans (upd_same (H := H) (a := a) (o := ExK (.ref (C 3)) a))
      have hl1 : upd (upd H a (ExK (.ref (C 3)) a)) l1 (.lst [V.bl (decide (3 = 1)), .bl (decide (3 = 3)), .bl (decide (3 = 2))]) l1 = some (.lst [V.bl (decide (3 = 1)), .bl (decide (3 = 3)), .bl (decide (3 = 2))]) := upd_same
      have eb1 : Same H (upd (upd H a (ExK (.ref (C 3)) a)) l1 (.lst [V.bl (decide (3 = 1)), .bl (decide (3 = 3)), .bl (decide (3 = 2))])) := fun b u e0 => by
        have e1 := (upd_ne (o := ExK (.ref (C 3)) a) (ne_of_none e0 ha)).trans e0
        exact (upd_ne (ne_of_none e1 nl1)).trans e1
      generalize upd (upd H a (ExK (.ref (C 3)) a)) l1 (.lst [V.bl (decide (3 = 1)), .bl (decide (3 = 3)), .bl (decide (3 = 2))]) = HX at ea1 eb1 hl1 ⊢
      walk_at "rd"
      refine ⟨.inl ⟨rfl, _, SqL.of hl1⟩, ?_⟩
      walk_at "rd"
      refine ⟨l1, _, .bl true, rfl, rfl, SqL.of hl1, rfl, rfl, ?_⟩
      walk_at "rd"
      refine ⟨rfl, ?_⟩
      walk_at "rd"
      walk_at "rd"
      refine ⟨(by show 3 ≤ sizeLine; decide), fun l4 nl4 => ?_⟩
      have hl4 : upd HX l4 (.lst [V.str "sides", .str "value", .str "many"]) l4 = some (.lst [V.str "sides", .str "value", .str "many"]) := upd_same
      have eb4 : Same HX (upd HX l4 (.lst [V.str "sides", .str "value", .str "many"])) := fun b u e0 => (upd_ne (ne_of_none e0 nl4)).trans e0
      generalize upd HX l4 (.lst [V.str "sides", .str "value", .str "many"]) = HY at eb4 hl4 ⊢
      walk_at "rd"
      refine ⟨.inl ⟨rfl, _, SqL.of (eb4 _ _ hl1)⟩, ?_⟩
      walk_at "rd"
      refine ⟨l1, _, .bl true, 1, .bl true, rfl, rfl, SqL.of (eb4 _ _ hl1), rfl, rfl, rfl, rfl, fun m z' hm hz => ?_, ?_⟩
      · obtain rfl : m = 0 := by omega
        cases hz; rfl
      refine ⟨l4, _, _, _, rfl, rfl, SqL.of hl4, rfl, ?_⟩
      exact q _ ((Same.refl H).trans (eb1.trans eb4))
    | many e S ey m =>
      subst e ey
      refine ⟨_, _, rfl, .inr (.inr ⟨_, _, _, rfl, S, rfl, m, fun H1 sX => ?_⟩)⟩
      refine ⟨true, R.emB 2 (by decide), fun _ => ⟨rfl, fun a ha => ?_⟩, fun z => Bool.noConfusion z⟩
      walk_at "rd"
      refine ⟨rfl, ?_⟩
      walk_at "rd"
      refine ⟨a, C 2, _, .ref (C 1), decide (2 = 1), rfl, .own _, upd_same, R.ec 2 (by decide), R.eg, R.kit 2 1 (by decide) (by decide), ?_⟩
      walk_at "rd"
      refine ⟨a, C 2, _, .ref (C 3), decide (2 = 3), rfl, .own _, upd_same, R.ec 2 (by decide), R.eg, R.kit 2 3 (by decide) (by decide), ?_⟩
      walk_at "rd"
      refine ⟨a, C 2, _, .ref (C 2), decide (2 = 2), rfl, .own _, upd_same, R.ec 2 (by decide), R.eg, R.kit 2 2 (by decide) (by decide), ?_⟩
      walk_at "rd"
      refine ⟨(by show 3 ≤ sizeLine; decide), fun l1 nl1 => ?_⟩
      have ea1 := (upd_ne (o := .lst [V.bl (decide (2 = 1)), .bl (decide (2 = 3)), .bl (decide (2 = 2))]) (ne_of_none upd_same nl1)).trans (upd_same (H := H1) (a := a) (o := ExK (.ref (C 2)) a))
      have hl1 : upd (upd H1 a (ExK (.ref (C 2)) a)) l1 (.lst [V.bl (decide (2 = 1)), .bl (decide (2 = 3)), .bl (decide (2 = 2))]) l1 = some (.lst [V.bl (decide (2 = 1)), .bl (decide (2 = 3)), .bl (decide (2 = 2))]) := upd_same
      have eb1 : Same H1 (upd (upd H1 a (ExK (.ref (C 2)) a)) l1 (.lst [V.bl (decide (2 = 1)), .bl (decide (2 = 3)), .bl (decide (2 = 2))])) := fun b u e0 => by
        have e1 := (upd_ne (o := ExK (.ref (C 2)) a) (ne_of_none e0 ha)).trans e0
        exact (upd_ne (ne_of_none e1 nl1)).trans e1
      generalize upd (upd H1 a (ExK (.ref (C 2)) a)) l1 (.lst [V.bl (decide (2 = 1)), .bl (decide (2 = 3)), .bl (decide (2 = 2))]) = HX at ea1 eb1 hl1 ⊢
      walk_at "rd"
      refine ⟨.inl ⟨rfl, _, SqL.of hl1⟩, ?_⟩
      walk_at "rd"
      refine ⟨l1, _, .bl true, rfl, rfl, SqL.of hl1, rfl, rfl, ?_⟩
      walk_at "rd"
      refine ⟨rfl, ?_⟩
      walk_at "rd"
      walk_at "rd"
      refine ⟨(by show 3 ≤ sizeLine; decide), fun l4 nl4 => ?_⟩
      have hl4 : upd HX l4 (.lst [V.str "sides", .str "value", .str "many"]) l4 = some (.lst [V.str "sides", .str "value", .str "many"]) := upd_same
      have eb4 : Same HX (upd HX l4 (.lst [V.str "sides", .str "value", .str "many"])) := fun b u e0 => (upd_ne (ne_of_none e0 nl4)).trans e0
      generalize upd HX l4 (.lst [V.str "sides", .str "value", .str "many"]) = HY at eb4 hl4 ⊢
      walk_at "rd"
      refine ⟨.inl ⟨rfl, _, SqL.of (eb4 _ _ hl1)⟩, ?_⟩
      walk_at "rd"
      refine ⟨l1, _, .bl true, 2, .bl true, rfl, rfl, SqL.of (eb4 _ _ hl1), rfl, rfl, rfl, rfl, fun m z' hm hz => ?_, ?_⟩
      · rcases (by omega : m = 0 ∨ m = 1) with rfl | rfl <;> (cases hz; rfl)
      refine ⟨l4, _, _, _, rfl, rfl, SqL.of hl4, rfl, ?_⟩
      exact q _ (sX.trans (eb1.trans eb4))
end
end HT
namespace HT
open PySem L2
def wd2 : List Sd := [⟨0, 501, "up"⟩, ⟨1, 502, "up"⟩]
theorem wd2_side : ∀ d ∈ wd2, SideP d.o d.s d.m := by
  intro d hd
  unfold wd2 at hd
  simp only [List.mem_cons, List.not_mem_nil, or_false] at hd
  rcases hd with rfl | rfl
  · exact ⟨by decide, by decide, by decide, by decide, .inr (.inl rfl)⟩
  · exact ⟨by decide, by decide, by decide, by decide, .inr (.inl rfl)⟩
theorem up_in {o s q r x y : Int} (hs : 1 ≤ s) (r0 : 0 < r) (r1 : r < s) (e : x = o + s * q + r) (e2 : y = o + s * q + s) : dueM o s "up" x = y := by
  rw [e, due_at hs (by omega) r1, go_up, if_pos (decide_eq_true r0), e2]
theorem up_on {o s q x : Int} (hs : 1 ≤ s) (e : x = o + s * q + 0) : dueM o s "up" x = x := by
  rw [e, due_at hs (by omega) (by omega), go_up, if_neg (by decide)]
theorem wd2_hi (x a b : Int) (ha : dueM 0 501 "up" x = a) (hb : dueM 1 502 "up" x = b) : hiL wd2 x = max a (max b x) := by
  show max (dueM 0 501 "up" x) (max (dueM 1 502 "up" x) x) = _
  rw [ha, hb]
theorem wd2_a {j : Int} (j0 : 0 ≤ j) (j1 : j < 500) : hiL wd2 (502 * (501 + j) + 1) = 501 * (503 + j) := by
  rw [wd2_hi _ (501 * (503 + j)) (502 * (501 + j) + 1) (up_in (q := 502 + j) (r := j + 1) (by decide) (by omega) (by omega) (by omega) (by omega)) (up_on (q := 501 + j) (by decide) (by omega))]
  omega
theorem wd2_b {j : Int} (j0 : 0 ≤ j) (j1 : j < 500) : hiL wd2 (501 * (503 + j)) = 502 * (502 + j) + 1 := by
  rw [wd2_hi _ (501 * (503 + j)) (502 * (502 + j) + 1) (up_on (q := 503 + j) (by decide) (by omega)) (up_in (q := 501 + j) (r := 500 - j) (by decide) (by omega) (by omega) (by omega) (by omega))]
  omega
theorem wd2_end : hiL wd2 502503 = 502503 := by
  rw [wd2_hi _ 502503 502503 (up_on (q := 1003) (by decide) (by decide)) (up_on (q := 1001) (by decide) (by decide))]
  omega
theorem wd2_stl : ∀ n : Nat, n ≤ 500 → Stl (hiL wd2) (502 * (501 + (500 - (n : Int))) + 1) 502503 (2 * n)
  | 0, _ => ⟨rfl, wd2_end, fun i hi => absurd hi (Nat.not_lt_zero _)⟩
  | n + 1, h => by
    have ih := wd2_stl n (by omega)
    have a := wd2_a (j := 500 - ((n + 1 : Nat) : Int)) (by omega) (by omega)
    have b := wd2_b (j := 500 - ((n + 1 : Nat) : Int)) (by omega) (by omega)
    rw [show 2 * (n + 1) = 2 * n + 1 + 1 by omega]
    refine stl_cons (by rw [a]; omega) ?_
    rw [a]
    refine stl_cons (by rw [b]; omega) ?_
    rw [b, show 502 * (502 + (500 - ((n + 1 : Nat) : Int))) + 1 = 502 * (501 + (500 - (n : Int))) + 1 by omega]
    exact ih
theorem wd2_up : EndN wd2 251503 (some 1000) := endN_stl wd2_side (wd2_stl 500 (by decide))
theorem wd2_down : EndN (wd2.map mirD) (-251503) (some 0) := endN_stl (side_mirs wd2_side) (E := -251503) ⟨rfl, by decide +kernel, fun i hi => absurd hi (Nat.not_lt_zero _)⟩
theorem wd2_few : FewP wd2 ∧ FewP (wd2.map mirD) := ⟨.inl (List.length_filter_le _ _), .inl (List.length_filter_le _ _)⟩
end HT
namespace HT
open PySem L2
def spLaw (K : PySem.W.Frag) : Sp := fun vs H Q _ => ∃ (l : Addr) (ns : List Int), vs = [.ref l] ∧ SqL K H l (ns.map V.int) ∧ ns.length ≤ 63 ∧ ∀ H', Q (.bl true) H'
theorem most_of {x : V} (h : x ∈ [V.int 4, .int 8, .int 12]) : ∃ n : Nat, x = .int (n : Int) ∧ 1 ≤ n ∧ n ≤ 12 := by
  simp only [List.mem_cons, List.not_mem_nil, or_false] at h
  rcases h with h | h | h
  · exact ⟨4, h, by decide, by decide⟩
  · exact ⟨8, h, by decide, by decide⟩
  · exact ⟨12, h, by decide, by decide⟩
theorem sidesAt4 {H : Hp} {l p p2 p3 p4 : Addr} {o s o2 s2 o3 s3 o4 s4 : Int} {m m2 m3 m4 : Str} (hl : H l = some (.lst [.ref p, .ref p2, .ref p3, .ref p4])) (h : H p = some (sideV o s m)) (S : SideP o s m) (h2 : H p2 = some (sideV o2 s2 m2)) (S2 : SideP o2 s2 m2) (h3 : H p3 = some (sideV o3 s3 m3)) (S3 : SideP o3 s3 m3) (h4 : H p4 = some (sideV o4 s4 m4)) (S4 : SideP o4 s4 m4) : SidesAt H l [.ref p, .ref p2, .ref p3, .ref p4] [⟨o, s, m⟩, ⟨o2, s2, m2⟩, ⟨o3, s3, m3⟩, ⟨o4, s4, m4⟩] :=
  ⟨hl, rfl, by show 1 ≤ 4; decide, by show 4 ≤ 4; decide, fun i d e => match i, e with
    | 0, e => by cases e; exact ⟨p, rfl, h, S⟩
    | 1, e => by cases e; exact ⟨p2, rfl, h2, S2⟩
    | 2, e => by cases e; exact ⟨p3, rfl, h3, S3⟩
    | 3, e => by cases e; exact ⟨p4, rfl, h4, S4⟩
    | i + 4, e => by cases e⟩
theorem GoodS.same {H H' : Hp} {x : V} (g : GoodS H x) (e : Same H H') : GoodS H' x := let ⟨p, o, s, m, a, b, c⟩ := g; ⟨p, o, s, m, a, e _ _ b, c⟩
theorem BadL.same {K : PySem.W.Frag} {H H' : Hp} {x : V} (b : BadL K H x) (e : Same H H') : BadL K H' x := by
  cases b with
  | kind t h => exact .kind (t.same e) h
  | len hl h => exact .len (e _ _ hl) h
  | item hl h1 h2 hi bad good => exact .item (e _ _ hl) h1 h2 hi (bad.same e) fun j z a b => (good j z a b).same e
theorem rep_snoc {α : Type} (n : Nat) (x : α) : List.replicate n x ++ [x] = List.replicate (n + 1) x := by
  rw [List.replicate_succ']
def gr (k : Nat) : Sd := ⟨0, 10 ^ 30 - (k : Int), "half_up"⟩
theorem gr_side {k : Nat} (h : k < 4) : SideP (gr k).o (gr k).s (gr k).m := ⟨by show -(10 : Int) ^ 40 ≤ 0; decide, by show (0 : Int) ≤ 10 ^ 40; decide, by show 1 ≤ (10 : Int) ^ 30 - (k : Int); omega, by show (10 : Int) ^ 30 - (k : Int) ≤ 10 ^ 30; omega, .inr (.inr (.inr (.inl rfl)))⟩
theorem many_gr3 : ManyP [gr 0, gr 1, gr 2] := .inl ⟨by decide +kernel, by decide +kernel⟩
section
variable {P : Program} {w : World} {K : PySem.W.Frag} {mg : Str → Option Value} {base : Heap} {f0 f1 f2 f3 f4 f5 f6 f7 f8 f9 fA : Addr} {d0 d1 d2 d3 d4 d5 d6 d7 d8 d9 dA : FuncData}
theorem ok_law {f : Addr} {fd : FuncData} (F : Fun K "law" "law" s_law f fd) (B : Blt mg) (So : Cal P w K mg base "_law_source" 1 ["_law_script"] (spSource K) f0 d0) (D : Cal P w K mg base "_law_draw" 1 ["_law_source_here", "_law_limit"] spDraw f1 d1)
    (Pi : Cal P w K mg base "_law_pick" 2 ["_law_source_here", "_law_values"] spPick f2 d2) (Gr : Cal P w K mg base "_law_great" 2 ["_law_source_here", "_law_digits"] spGreat f3 d3) (Se : Cal P w K mg base "_law_set" 4 ["_law_source_here", "_law_most", "_law_many"] spSet f4 d4)
    (Pe : Cal P w K mg base "_law_period" 2 ["_law_sides"] spPer f5 d5) (Fi : Cal P w K mg base "_law_fits" 110 ["_law_sides", "_law_value", "_law_factor"] spFits f6 d6) (Gs : Cal P w K mg base "_law_great_side" 3 ["_law_source_here"] spGS f7 d7)
    (Gf : Cal P w K mg base "_law_great_fits" 110 ["_law_sides", "_law_value"] spGF f8 d8) (Wd : Cal P w K mg base "_law_word" 110 ["_law_sides", "_law_value"] (spWord K) f9 d9) (Ef : Cal P w K mg base "efforts" 109 ["sides", "value"] spEff fA dA) : FnOk P w K mg base CX0 111 f fd ["_law_script"] (spLaw K) := by
  refine F.ok sc_law (fun vs H Q E h => ?_) (fun cdv A outer s H vs Q E hr h => ?_)
  · obtain ⟨l, ns, rfl, _⟩ := h
    rfl
  · obtain ⟨l, ns, rfl, hL, hn, q⟩ := h
    have nd := sc_law.nd
    refine ⟨_, (pss_cons (ps_set (i := 1) nd rfl (Or.inl rfl) (pcl So hr (by decide) (by rfl) (pa_cons (pv 0) pa_nil)))
      (pss_cons (ps_for PassesOwn.never rfl (pi_range1 (by rfl) B.range (pa_cons pe_int pa_nil)) (pg_name (i := 2) nd rfl (Or.inl rfl)) (pss_cons (ps_set (i := 3) nd rfl (Or.inl rfl) (pcl Se hr (by decide) (by rfl) (pa_cons (pv 1) (pa_cons (pcl Pi hr (by decide) (by rfl) (pa_cons (pv 1) (pa_cons (pe_lst (pa_cons pe_int (pa_cons pe_int (pa_cons pe_int pa_nil)))) pa_nil))) (pa_cons pe_int pa_nil)))))
      (pss_cons (ps_for PassesOwn.never rfl (pi_range1 (by rfl) B.range (pa_cons pe_int pa_nil)) (pg_name (i := 4) nd rfl (Or.inl rfl)) (pss_cons (ps_set (i := 5) nd rfl (Or.inl rfl) (pe_op op_sub (pcl D hr (by decide) (by rfl) (pa_cons (pv 1) (pa_cons pe_int pa_nil))) pe_int))
      (pss_cons (ps_if (pt_mid (PW.pt (pw_and (pt_cmpR op_le (pcl Pe hr (by decide) (by rfl) (pa_cons (pv 3) pa_nil)) pe_int (nomark _)) (pw_and1 (pt_not (pt_val (pcl Fi hr (by decide) (by rfl) (pa_cons (pv 3) (pa_cons (pv 5) (pa_cons pe_int pa_nil)))))))))) (pss_one (ps_ret pe_bl)) pss_nil)
      (pss_one (ps_if (pt_mid (PW.pt (pw_and (pt_cmpR op_lt (pe_callB call_len_seq (by rfl) B.len PySem.boot_len (pa_cons (pv 3) pa_nil)) pe_int (nomark _)) (pw_and1 (pt_not (pt_val (pcl Fi hr (by decide) (by rfl) (pa_cons (pv 3) (pa_cons (pv 5) (pa_cons (pe_op op_add pe_int (pcl Gr hr (by decide) (by rfl) (pa_cons (pv 1) (pa_cons pe_int pa_nil)))) pa_nil)))))))))) (pss_one (ps_ret pe_bl)) pss_nil)))))
      (pss_cons (ps_set (i := 6) nd rfl (Or.inl rfl) (pe_lst (pa_cons (pcl Gs hr (by decide) (by rfl) (pa_cons (pv 1) pa_nil)) (pa_cons (pcl Gs hr (by decide) (by rfl) (pa_cons (pv 1) pa_nil)) pa_nil))))
      (pss_cons (ps_set (i := 5) nd rfl (Or.inl rfl) (pe_op op_mulW (pcl Gr hr (by decide) (by rfl) (pa_cons (pv 1) (pa_cons (pcl Pi hr (by decide) (by rfl) (pa_cons (pv 1) (pa_cons (pe_lst (pa_cons pe_int (pa_cons pe_int (pa_cons pe_int pa_nil)))) pa_nil))) pa_nil))) (pcl Pi hr (by decide) (by rfl) (pa_cons (pv 1) (pa_cons (pe_lst (pa_cons pe_int (pa_cons (pe_un un_neg pe_int) pa_nil))) pa_nil)))))
      (pss_cons (ps_if (pt_not (pt_val (pcl Gf hr (by decide) (by rfl) (pa_cons (pv 6) (pa_cons (pv 5) pa_nil))))) (pss_one (ps_ret pe_bl)) pss_nil)
      (pss_cons (ps_par (i := 7) (j := 8) (by rfl) nd rfl rfl (by decide) rfl rfl (pa_cons (pcl Gs hr (by decide) (by rfl) (pa_cons (pv 1) pa_nil)) (pa_cons (pcl Gs hr (by decide) (by rfl) (pa_cons (pv 1) pa_nil)) pa_nil)) (by rfl))
      (pss_cons (ps_set (i := 9) nd rfl (Or.inl rfl) (pe_lst (pa_cons (pe_op op_catT (pe_slice sl_tup (pe_ix ix_list (pv 6) pe_int (fun _ _ => rfl)) po_none (po_some pe_int)) (pe_tup (pa_cons pe_str pa_nil))) (pa_cons (pe_op op_catT (pe_slice sl_tup (pv 7) po_none (po_some pe_int)) (pe_tup (pa_cons pe_str pa_nil))) (pa_cons (pe_op op_catT (pe_slice sl_tup (pe_ix ix_list (pv 6) pe_int (fun _ _ => rfl)) po_none (po_some pe_int)) (pe_tup (pa_cons pe_str pa_nil))) (pa_cons (pe_op op_catT (pe_slice sl_tup (pv 8) po_none (po_some pe_int)) (pe_tup (pa_cons pe_str pa_nil))) pa_nil))))))
      (pss_cons (ps_set (i := 10) nd rfl (Or.inl rfl) (pcl D hr (by decide) (by rfl) (pa_cons (pv 1) (pa_cons pe_int pa_nil))))
      (pss_one (ps_if (pt_not (pt_val (pcl Gf hr (by decide) (by rfl) (pa_cons (pe_op op_cat (pe_slice sl_list (pv 9) (po_some (pv 10)) po_none) (pe_slice sl_list (pv 9) po_none (po_some (pv 10)))) (pa_cons (pv 5) pa_nil))))) (pss_one (ps_ret pe_bl)) pss_nil)))))))))))
      (pss_cons (ps_if (PW.pt (pw_or (pt_cmpR op_ne (pcl Wd hr (by decide) (by rfl) (pa_cons (pe_op op_rep (pe_lst (pa_cons (pe_tup (pa_cons pe_int (pa_cons pe_int (pa_cons pe_str pa_nil)))) pa_nil)) pe_int) (pa_cons pe_int pa_nil))) pe_str (nomark _)) (pw_or1 (pt_cmpR op_ne (pcl Wd hr (by decide) (by rfl) (pa_cons (pe_lst pa_nil) (pa_cons pe_non pa_nil))) pe_str (nomark _))))) (pss_one (ps_ret pe_bl)) pss_nil)
      (pss_cons (ps_setLc (i := 11) (own := [("_law_k", 4)]) (g := gName 4) (tt := tYes) rfl nd rfl rfl (sw_true rfl rfl rfl (by decide +kernel)) (pi_range1 (by rfl) B.range (pa_cons pe_int pa_nil)) (blkOk_by (N := ["_law_script", "_law_source_here", "_law_turn", "_law_sides", "_law_k", "_law_value", "_law_pair", "_law_low", "_law_high", "_law_four", "_law_at", "_law_great_here", "_law_bad"]) (sc := defScope s_law) (by decide +kernel)) (fun _ _ _ _ _ => pg_name (i := 4) nd rfl (Or.inl rfl)) (fun _ _ _ _ _ => pts_nil) (fun _ _ _ _ _ => (pe_tup (pa_cons pe_int (pa_cons (pe_op op_sub (pe_op op_pow pe_int pe_int) (pv 4)) (pa_cons pe_str pa_nil))))))
      (pss_cons (ps_for PassesOwn.never rfl (pi_list (pe_lst (pa_cons pe_non (pa_cons pe_bl (pa_cons pe_bl (pa_cons pe_str (pa_cons (pe_lst pa_nil) (pa_cons (pe_tup (pa_cons pe_int pa_nil)) (pa_cons pe_dnewK pa_nil))))))))) (pg_name (i := 12) nd rfl (Or.inr rfl)) (pss_one (ps_if (pt_cmpR (op_neD hr.units) (pe_lc (own := [("_law_sides", 3)]) (g := gName 3) (tt := tYes) rfl nd (pi_list (pe_lst (pa_cons (pe_lst (pa_cons (pe_tup (pa_cons pe_int (pa_cons pe_int (pa_cons pe_str pa_nil)))) pa_nil)) (pa_cons (pv 11) pa_nil)))) (blkOk_by (N := ["_law_script", "_law_source_here", "_law_turn", "_law_sides", "_law_k", "_law_value", "_law_pair", "_law_low", "_law_high", "_law_four", "_law_at", "_law_great_here", "_law_bad"]) (sc := defScope s_law) (by decide +kernel)) (fun _ _ _ _ _ => pg_name (i := 3) nd rfl (Or.inl rfl)) (fun _ _ _ _ _ => pts_nil) (fun _ _ _ _ _ => (pcl Wd hr (by decide) (by rfl) (pa_cons (pv 3) (pa_cons (pv 12) pa_nil))))) (pe_op op_rep (pe_lst (pa_cons pe_str pa_nil)) pe_int) (nomark _)) (pss_one (ps_ret pe_bl)) pss_nil)))
      (pss_cons (ps_for PassesOwn.never rfl (pi_list (pe_lst (pa_cons pe_non (pa_cons (pe_tup pa_nil) (pa_cons pe_dnewK (pa_cons pe_int (pa_cons pe_str (pa_cons (pe_lst (pa_cons pe_non pa_nil)) (pa_cons (pe_lst (pa_cons (pe_tup (pa_cons pe_int (pa_cons pe_int (pa_cons pe_str pa_nil)))) pa_nil)) (pa_cons (pe_tup (pa_cons (pe_tup (pa_cons pe_int (pa_cons pe_int (pa_cons pe_str pa_nil)))) pa_nil)) (pa_cons (pe_lst (pa_cons (pe_tup (pa_cons pe_int (pa_cons pe_int pa_nil))) pa_nil)) (pa_cons (pe_lst (pa_cons (pe_lst (pa_cons (pe_tup (pa_cons pe_int (pa_cons pe_int (pa_cons pe_str pa_nil)))) pa_nil)) pa_nil)) pa_nil)))))))))))) (pg_name (i := 12) nd rfl (Or.inr rfl)) (pss_one (ps_if (PW.pt (pw_or (pt_cmpR op_ne (pcl Wd hr (by decide) (by rfl) (pa_cons (pv 12) (pa_cons pe_int pa_nil))) pe_str (nomark _)) (pw_or1 (pt_cmpR op_ne (pcl Wd hr (by decide) (by rfl) (pa_cons (pv 12) (pa_cons pe_non pa_nil))) pe_str (nomark _))))) (pss_one (ps_ret pe_bl)) pss_nil)))
      (pss_one (ps_ret (pe_and (pe_cmpR op_eq (pcl Wd hr (by decide) (by rfl) (pa_cons (pv 11) (pa_cons pe_int pa_nil))) pe_str (nomark _)) (pe_one (pe_cmpR (op_eqD hr.units) (pcl Ef hr (by decide) (by rfl) (pa_cons (pe_lst (pa_cons (pe_tup (pa_cons pe_int (pa_cons pe_int (pa_cons pe_str pa_nil)))) (pa_cons (pe_tup (pa_cons pe_int (pa_cons pe_int (pa_cons pe_str pa_nil)))) pa_nil))) (pa_cons pe_int pa_nil))) (pe_tup (pa_cons pe_int (pa_cons pe_int pa_nil))) (nomark _)))))))))))), ?_⟩
    walk_at "rd"
    refine ⟨l, ns, rfl, hL, hn, fun a c H0 sm na nc S0 => ?_⟩
    walk_at "rd"
    refine ⟨by decide, by decide, ?_⟩
    refine for_range (n := 15) (fun i σ H' => ∃ (x2 x3 x4 x5 x6 x7 x8 x9 x10 : Option V) (t : Nat), σ = [some (.ref l), some (.ref a), x2, x3, x4, x5, x6, x7, x8, x9, x10, none, none] ∧ t ≤ 1000 * i ∧ Src H' a c t) ⟨none, none, none, none, none, none, none, none, none, 0, rfl, by omega, S0⟩ ?_ ?_
    · rintro i σ H' hi ⟨x2, x3, x4, x5, x6, x7, x8, x9, x10, t, rfl, ht, S'⟩
      walk_at "rd"
      refine ⟨(by show 3 ≤ sizeLine; decide), fun L1 nL1 => ?_⟩
      obtain ⟨la1, lc1⟩ := S'.na nL1
      refine ⟨a, c, t, L1, _, rfl, S'.new nL1, by omega, upd_same, la1, lc1, by decide, by decide, fun x H1 hx S1 O1 => ?_⟩
      obtain ⟨n, rfl, n1, n12⟩ := most_of hx
      walk_at "rd"
      refine ⟨a, c, t + 1, n, 4, rfl, S1, n1, by omega, by decide, by decide, by omega, fun l0 xs0 ss0 H2 t2 SS2 sml0 la0 lc0 ht2 S2 O2 => ?_⟩
      have sm0 : ∀ d ∈ ss0, -30 ≤ d.o ∧ d.o ≤ 29 ∧ d.s ≤ 12 := fun d hd => by
        obtain ⟨b1, b2, b3⟩ := sml0 d hd
        exact ⟨b1, b2, by omega⟩
      clear sml0
      walk_at "rd"
      refine ⟨by decide, by decide, ?_⟩
      refine for_range (n := 3) (fun j σ H3 => ∃ (y4 y5 : Option V) (t3 : Nat), σ = [some (.ref l), some (.ref a), some (.int (0 + (i : Int))), some (.ref l0), y4, y5, x6, x7, x8, x9, x10, none, none] ∧ t3 ≤ t + 21 + 40 * j ∧ Src H3 a c t3 ∧ SidesAt H3 l0 xs0 ss0) ⟨x4, x5, t2, rfl, by omega, S2, SS2⟩ ?_ ?_
      · rintro j σ H3 hj ⟨y4, y5, t3, rfl, ht3, S3, SS3⟩
        walk_at "rd"
        refine ⟨a, c, t3, 300, rfl, S3, by omega, by decide, by decide, fun k4 H4 k40 k41 S4 O4 => ?_⟩
        have SS4 := SS3.oth S3 la0 lc0 O4
        walk_at "rd"
        refine ⟨fun b H' => b = false ∧ Same H4 H', ?_, ?_⟩
        · walk_at "rd"
          refine ⟨l0, xs0, ss0, rfl, SS4, ?_⟩
          walk_at "rd"
          refine ite2 (fun z => ?_) (fun _ => ⟨rfl, Same.refl _⟩)
          have cm : (comN ss0 : Int) ≤ 5000 := of_decide_eq_true z
          walk_at "rd"
          refine ⟨l0, xs0, ss0, _, 1, rfl, SS4, sm0, by omega, by decide, by decide, .inr ⟨rfl, by omega⟩, fun H5 s5 => ?_⟩
          exact ⟨_, rfl, rfl, s5⟩
        rintro b H5 ⟨rfl, s5⟩
        have S5 := S4.of_same s5
        have SS5 := SS4.same s5
        refine ite2 (fun z => absurd z (by decide)) (fun _ => ?_)
        walk_at "rd"
        refine ⟨fun b H' => b = false ∧ ∃ t6 : Nat, t6 ≤ t3 + 30 ∧ Src H' a c t6 ∧ SidesAt H' l0 xs0 ss0, ?_, ?_⟩
        · walk_at "rd"
          refine ⟨l0, _, rfl, .inl (SqL.of SS5.hl), ?_⟩
          walk_at "rd"
          refine ite2 (fun z => ?_) (fun _ => ⟨rfl, _, by omega, S5, SS5⟩)
          have lm := of_decide_eq_true z
          rw [SS5.len] at lm
          walk_at "rd"
          refine ⟨a, c, t3 + 1, 27, rfl, S5, by decide, by omega, fun g H6 g0 g1 S6 O6 => ?_⟩
          have SS6 := SS5.oth S5 la0 lc0 O6
          have g2 : g < 10 ^ 27 := g1
          walk_at "rd"
          refine ⟨l0, xs0, ss0, _, 1 + g, rfl, SS6, sm0, by omega, by omega, by omega, .inl (by omega), fun H7 s7 => ?_⟩
          exact ⟨_, rfl, rfl, _, by omega, S6.of_same s7, SS6.same s7⟩
        rintro b H6 ⟨rfl, t6, ht6, S6, SS6⟩
        refine ite2 (fun z => absurd z (by decide)) (fun _ => ?_)
        exact ⟨_, _, _, rfl, by omega, S6, SS6⟩
      rintro σ H3 ⟨y4, y5, t3, rfl, ht3, S3, SS3⟩
      clear SS3 SS2
      walk_at "rd"
      refine ⟨a, c, t3, rfl, S3, by omega, fun p1 e1 H4 t4 hp1 sp1 ht4 S4 O4 => ?_⟩
      obtain ⟨a1, c1⟩ := S4.nt hp1
      walk_at "rd"
      refine ⟨a, c, t4, rfl, S4, by omega, fun p2 e2 H5 t5 hp2 sp2 ht5 S_H5 O5 => ?_⟩
      obtain ⟨a2, c2⟩ := S_H5.nt hp2
      have hp1 := O5 _ _ hp1 a1 c1
      walk_at "rd"
      refine ⟨(by show 2 ≤ sizeLine; decide), fun pl npl => ?_⟩
      generalize e_pl : upd H5 pl _ = H6
      have g6 : H6 pl = some (.lst [.ref p1, .ref p2]) := by rw [← e_pl]; exact upd_same
      have w6 : Same H5 H6 := by rw [← e_pl]; exact fun b u z => (upd_ne (ne_of_none z npl)).trans z
      clear e_pl
      have S_H6 := S_H5.of_same w6
      have x_pl := S_H5.na npl
      have hp1 := w6 _ _ hp1
      have hp2 := w6 _ _ hp2
      have SP6 : SidesAt H6 pl [.ref p1, .ref p2] [e1, e2] := sidesAt2 g6 hp1 sp1 hp2 sp2
      walk_at "rd"
      refine ⟨(by show 3 ≤ sizeLine; decide), fun l1 nl1 => ?_⟩
      obtain ⟨la1, lc1⟩ := S_H6.na nl1
      refine ⟨a, c, _, l1, _, rfl, S_H6.new nl1, by omega, upd_same, la1, lc1, by decide, by decide, fun x7 H7 hx7 S7 O7 => ?_⟩
      obtain ⟨n7, rfl, n70⟩ := digs_of2 hx7
      walk_at "rd"
      refine ⟨a, c, _, n7, rfl, S7, by omega, by omega, fun k8 H8 k80 k81 S8 O8 => ?_⟩
      walk_at "rd"
      refine ⟨(by show 2 ≤ sizeLine; decide), fun l2 nl2 => ?_⟩
      obtain ⟨la2, lc2⟩ := S8.na nl2
      refine ⟨a, c, _, l2, _, rfl, S8.new nl2, by omega, upd_same, la2, lc2, by decide, by decide, fun x9 H9 hx9 S9 O9 => ?_⟩
      obtain ⟨sj, rfl, hsj⟩ := sg_of hx9
      have z8 : k8 < 10 ^ 40 := Int.lt_of_lt_of_le k81 (p10_mono n70)
      walk_at "rd"
      refine ⟨mulW (by omega) (by rcases hsj with e | e <;> subst e <;> omega), ?_⟩
      have vb : -2 ^ 500 < k8 * sj ∧ k8 * sj < 2 ^ 500 := by rcases hsj with e | e <;> subst e <;> omega
      clear hsj z8
      have O69 : Oth a c H6 H9 := (((((Oth.refl a c H6).new nl1).trans O7).trans O8).new nl2).trans O9
      have hp1 := O69 _ _ hp1 a1 c1
      have hp2 := O69 _ _ hp2 a2 c2
      have SP9 := SP6.oth S_H6 x_pl.1 x_pl.2 O69
      walk_at "rd"
      refine ⟨pl, _, [e1, e2], _, rfl, SP9, vb, .inl (List.length_filter_le _ _), .inl (List.length_filter_le _ _), fun H10 s10 => ?_⟩
      have S10 := S9.of_same s10
      have hp1 := s10 _ _ hp1
      have hp2 := s10 _ _ hp2
      have SP10 := SP9.same s10
      walk_at "rd"
      refine ⟨a, c, _, rfl, S10, by omega, fun p3 e3 H11 t11 hp3 sp3 ht11 S11 O11 => ?_⟩
      obtain ⟨a3, c3⟩ := S11.nt hp3
      walk_at "rd"
      refine ⟨a, c, t11, rfl, S11, by omega, fun p4 e4 H12 t12 hp4 sp4 ht12 S_H12 O12 => ?_⟩
      obtain ⟨a4, c4⟩ := S_H12.nt hp4
      have OB := O11.trans O12
      have hp1 := OB _ _ hp1 a1 c1
      have hp2 := OB _ _ hp2 a2 c2
      have hp3 := O12 _ _ hp3 a3 c3
      have SP12 := SP10.oth S10 x_pl.1 x_pl.2 OB
      walk_at "rd"
      refine ⟨_, _, rfl, ?_⟩
      walk_at "rd"
      refine ⟨pl, _, _, _, rfl, rfl, SqL.of SP12.hl, rfl, ?_⟩
      walk_at "rd"
      refine ⟨p1, _, rfl, SqT.of hp1, (by show ¬ (HT.sIx 3 0 none = 0 ∧ HT.sIx 3 3 (some 2) = 3); decide), fun q0 nq0 => ?_⟩
      generalize e_q0 : upd H12 q0 _ = H13
      have g_q0 : H13 q0 = some (.tup [.int e1.o, .int e1.s]) := by rw [← e_q0]; exact upd_same
      have w_q0 : Same H12 H13 := by rw [← e_q0]; exact fun b u z => (upd_ne (ne_of_none z nq0)).trans z
      clear e_q0
      have S_H13 := S_H12.of_same w_q0
      have x_q0 := S_H12.na nq0
      have hp1 := w_q0 _ _ hp1
      have hp2 := w_q0 _ _ hp2
      have hp3 := w_q0 _ _ hp3
      have hp4 := w_q0 _ _ hp4
      have SP12 := SP12.same w_q0
      walk_at "rd"
      refine ⟨(by show 1 ≤ sizeLine; decide), fun m0 nm0 => ?_⟩
      generalize e_m0 : upd H13 m0 _ = H14
      have g_m0 : H14 m0 = some (.tup [.str "up"]) := by rw [← e_m0]; exact upd_same
      have w_m0 : Same H13 H14 := by rw [← e_m0]; exact fun b u z => (upd_ne (ne_of_none z nm0)).trans z
      clear e_m0
      have S_H14 := S_H13.of_same w_m0
      have x_m0 := S_H13.na nm0
      have hp1 := w_m0 _ _ hp1
      have hp2 := w_m0 _ _ hp2
      have hp3 := w_m0 _ _ hp3
      have hp4 := w_m0 _ _ hp4
      have g_q0 := w_m0 _ _ g_q0
      have SP12 := SP12.same w_m0
      refine ⟨q0, m0, _, _, rfl, rfl, SqT.of g_q0, SqT.of g_m0, (fun z => nomatch z), (by show 3 ≤ sizeLine; decide), (fun z => nomatch z), fun _ r0 nr0 => ?_⟩
      generalize e_r0 : upd H14 r0 _ = H15
      have g_r0 : H15 r0 = some (.tup [.int e1.o, .int e1.s, .str "up"]) := by rw [← e_r0]; exact upd_same
      have w_r0 : Same H14 H15 := by rw [← e_r0]; exact fun b u z => (upd_ne (ne_of_none z nr0)).trans z
      clear e_r0
      have S_H15 := S_H14.of_same w_r0
      have x_r0 := S_H14.na nr0
      have hp1 := w_r0 _ _ hp1
      have hp2 := w_r0 _ _ hp2
      have hp3 := w_r0 _ _ hp3
      have hp4 := w_r0 _ _ hp4
      have SP12 := SP12.same w_r0
      walk_at "rd"
      refine ⟨p3, _, rfl, SqT.of hp3, (by show ¬ (HT.sIx 3 0 none = 0 ∧ HT.sIx 3 3 (some 2) = 3); decide), fun q1 nq1 => ?_⟩
      generalize e_q1 : upd H15 q1 _ = H16
      have g_q1 : H16 q1 = some (.tup [.int e3.o, .int e3.s]) := by rw [← e_q1]; exact upd_same
      have w_q1 : Same H15 H16 := by rw [← e_q1]; exact fun b u z => (upd_ne (ne_of_none z nq1)).trans z
      clear e_q1
      have S_H16 := S_H15.of_same w_q1
      have x_q1 := S_H15.na nq1
      have hp1 := w_q1 _ _ hp1
      have hp2 := w_q1 _ _ hp2
      have hp3 := w_q1 _ _ hp3
      have hp4 := w_q1 _ _ hp4
      have g_r0 := w_q1 _ _ g_r0
      have SP12 := SP12.same w_q1
      walk_at "rd"
      refine ⟨(by show 1 ≤ sizeLine; decide), fun m1 nm1 => ?_⟩
      generalize e_m1 : upd H16 m1 _ = H17
      have g_m1 : H17 m1 = some (.tup [.str "down"]) := by rw [← e_m1]; exact upd_same
      have w_m1 : Same H16 H17 := by rw [← e_m1]; exact fun b u z => (upd_ne (ne_of_none z nm1)).trans z
      clear e_m1
      have S_H17 := S_H16.of_same w_m1
      have x_m1 := S_H16.na nm1
      have hp1 := w_m1 _ _ hp1
      have hp2 := w_m1 _ _ hp2
      have hp3 := w_m1 _ _ hp3
      have hp4 := w_m1 _ _ hp4
      have g_r0 := w_m1 _ _ g_r0
      have g_q1 := w_m1 _ _ g_q1
      have SP12 := SP12.same w_m1
      refine ⟨q1, m1, _, _, rfl, rfl, SqT.of g_q1, SqT.of g_m1, (fun z => nomatch z), (by show 3 ≤ sizeLine; decide), (fun z => nomatch z), fun _ r1 nr1 => ?_⟩
      generalize e_r1 : upd H17 r1 _ = H18
      have g_r1 : H18 r1 = some (.tup [.int e3.o, .int e3.s, .str "down"]) := by rw [← e_r1]; exact upd_same
      have w_r1 : Same H17 H18 := by rw [← e_r1]; exact fun b u z => (upd_ne (ne_of_none z nr1)).trans z
      clear e_r1
      have S_H18 := S_H17.of_same w_r1
      have x_r1 := S_H17.na nr1
      have hp1 := w_r1 _ _ hp1
      have hp2 := w_r1 _ _ hp2
      have hp3 := w_r1 _ _ hp3
      have hp4 := w_r1 _ _ hp4
      have g_r0 := w_r1 _ _ g_r0
      have SP12 := SP12.same w_r1
      walk_at "rd"
      refine ⟨pl, _, _, _, rfl, rfl, SqL.of SP12.hl, rfl, ?_⟩
      walk_at "rd"
      refine ⟨p2, _, rfl, SqT.of hp2, (by show ¬ (HT.sIx 3 0 none = 0 ∧ HT.sIx 3 3 (some 2) = 3); decide), fun q2 nq2 => ?_⟩
      generalize e_q2 : upd H18 q2 _ = H19
      have g_q2 : H19 q2 = some (.tup [.int e2.o, .int e2.s]) := by rw [← e_q2]; exact upd_same
      have w_q2 : Same H18 H19 := by rw [← e_q2]; exact fun b u z => (upd_ne (ne_of_none z nq2)).trans z
      clear e_q2
      have S_H19 := S_H18.of_same w_q2
      have x_q2 := S_H18.na nq2
      have hp1 := w_q2 _ _ hp1
      have hp2 := w_q2 _ _ hp2
      have hp3 := w_q2 _ _ hp3
      have hp4 := w_q2 _ _ hp4
      have g_r0 := w_q2 _ _ g_r0
      have g_r1 := w_q2 _ _ g_r1
      have SP12 := SP12.same w_q2
      walk_at "rd"
      refine ⟨(by show 1 ≤ sizeLine; decide), fun m2 nm2 => ?_⟩
      generalize e_m2 : upd H19 m2 _ = H20
      have g_m2 : H20 m2 = some (.tup [.str "up"]) := by rw [← e_m2]; exact upd_same
      have w_m2 : Same H19 H20 := by rw [← e_m2]; exact fun b u z => (upd_ne (ne_of_none z nm2)).trans z
      clear e_m2
      have S_H20 := S_H19.of_same w_m2
      have x_m2 := S_H19.na nm2
      have hp1 := w_m2 _ _ hp1
      have hp2 := w_m2 _ _ hp2
      have hp3 := w_m2 _ _ hp3
      have hp4 := w_m2 _ _ hp4
      have g_r0 := w_m2 _ _ g_r0
      have g_r1 := w_m2 _ _ g_r1
      have g_q2 := w_m2 _ _ g_q2
      have SP12 := SP12.same w_m2
      refine ⟨q2, m2, _, _, rfl, rfl, SqT.of g_q2, SqT.of g_m2, (fun z => nomatch z), (by show 3 ≤ sizeLine; decide), (fun z => nomatch z), fun _ r2 nr2 => ?_⟩
      generalize e_r2 : upd H20 r2 _ = H21
      have g_r2 : H21 r2 = some (.tup [.int e2.o, .int e2.s, .str "up"]) := by rw [← e_r2]; exact upd_same
      have w_r2 : Same H20 H21 := by rw [← e_r2]; exact fun b u z => (upd_ne (ne_of_none z nr2)).trans z
      clear e_r2
      have S_H21 := S_H20.of_same w_r2
      have x_r2 := S_H20.na nr2
      have hp1 := w_r2 _ _ hp1
      have hp2 := w_r2 _ _ hp2
      have hp3 := w_r2 _ _ hp3
      have hp4 := w_r2 _ _ hp4
      have g_r0 := w_r2 _ _ g_r0
      have g_r1 := w_r2 _ _ g_r1
      have SP12 := SP12.same w_r2
      walk_at "rd"
      refine ⟨p4, _, rfl, SqT.of hp4, (by show ¬ (HT.sIx 3 0 none = 0 ∧ HT.sIx 3 3 (some 2) = 3); decide), fun q3 nq3 => ?_⟩
      generalize e_q3 : upd H21 q3 _ = H22
      have g_q3 : H22 q3 = some (.tup [.int e4.o, .int e4.s]) := by rw [← e_q3]; exact upd_same
      have w_q3 : Same H21 H22 := by rw [← e_q3]; exact fun b u z => (upd_ne (ne_of_none z nq3)).trans z
      clear e_q3
      have S_H22 := S_H21.of_same w_q3
      have x_q3 := S_H21.na nq3
      have hp1 := w_q3 _ _ hp1
      have hp2 := w_q3 _ _ hp2
      have hp3 := w_q3 _ _ hp3
      have hp4 := w_q3 _ _ hp4
      have g_r0 := w_q3 _ _ g_r0
      have g_r1 := w_q3 _ _ g_r1
      have g_r2 := w_q3 _ _ g_r2
      have SP12 := SP12.same w_q3
      walk_at "rd"
      refine ⟨(by show 1 ≤ sizeLine; decide), fun m3 nm3 => ?_⟩
      generalize e_m3 : upd H22 m3 _ = H23
      have g_m3 : H23 m3 = some (.tup [.str "down"]) := by rw [← e_m3]; exact upd_same
      have w_m3 : Same H22 H23 := by rw [← e_m3]; exact fun b u z => (upd_ne (ne_of_none z nm3)).trans z
      clear e_m3
      have S_H23 := S_H22.of_same w_m3
      have x_m3 := S_H22.na nm3
      have hp1 := w_m3 _ _ hp1
      have hp2 := w_m3 _ _ hp2
      have hp3 := w_m3 _ _ hp3
      have hp4 := w_m3 _ _ hp4
      have g_r0 := w_m3 _ _ g_r0
      have g_r1 := w_m3 _ _ g_r1
      have g_r2 := w_m3 _ _ g_r2
      have g_q3 := w_m3 _ _ g_q3
      have SP12 := SP12.same w_m3
      refine ⟨q3, m3, _, _, rfl, rfl, SqT.of g_q3, SqT.of g_m3, (fun z => nomatch z), (by show 3 ≤ sizeLine; decide), (fun z => nomatch z), fun _ r3 nr3 => ?_⟩
      generalize e_r3 : upd H23 r3 _ = H24
      have g_r3 : H24 r3 = some (.tup [.int e4.o, .int e4.s, .str "down"]) := by rw [← e_r3]; exact upd_same
      have w_r3 : Same H23 H24 := by rw [← e_r3]; exact fun b u z => (upd_ne (ne_of_none z nr3)).trans z
      clear e_r3
      have S_H24 := S_H23.of_same w_r3
      have x_r3 := S_H23.na nr3
      have hp1 := w_r3 _ _ hp1
      have hp2 := w_r3 _ _ hp2
      have hp3 := w_r3 _ _ hp3
      have hp4 := w_r3 _ _ hp4
      have g_r0 := w_r3 _ _ g_r0
      have g_r1 := w_r3 _ _ g_r1
      have g_r2 := w_r3 _ _ g_r2
      have SP12 := SP12.same w_r3
      walk_at "rd"
      refine ⟨(by show 4 ≤ sizeLine; decide), fun fo nfo => ?_⟩
      generalize e_fo : upd H24 fo _ = H25
      have g_fo : H25 fo = some (.lst [.ref r0, .ref r1, .ref r2, .ref r3]) := by rw [← e_fo]; exact upd_same
      have w_fo : Same H24 H25 := by rw [← e_fo]; exact fun b u z => (upd_ne (ne_of_none z nfo)).trans z
      clear e_fo
      have S_H25 := S_H24.of_same w_fo
      have x_fo := S_H24.na nfo
      have g_r0 := w_fo _ _ g_r0
      have g_r1 := w_fo _ _ g_r1
      have g_r2 := w_fo _ _ g_r2
      have g_r3 := w_fo _ _ g_r3
      have SP12 := SP12.same w_fo
      walk_at "rd"
      refine ⟨a, c, _, 4, rfl, S_H25, by omega, by decide, by decide, fun k HD k0 k1 S_HD OD => ?_⟩
      have g_r0 := OD _ _ g_r0 x_r0.1 x_r0.2
      have g_r1 := OD _ _ g_r1 x_r1.1 x_r1.2
      have g_r2 := OD _ _ g_r2 x_r2.1 x_r2.2
      have g_r3 := OD _ _ g_r3 x_r3.1 x_r3.2
      have g_fo := OD _ _ g_fo x_fo.1 x_fo.2
      have t0 : SideP e1.o e1.s "up" := ⟨sp1.o0, sp1.o1, sp1.s0, sp1.s1, .inr (.inl rfl)⟩
      have t1 : SideP e3.o e3.s "down" := ⟨sp3.o0, sp3.o1, sp3.s0, sp3.s1, .inl rfl⟩
      have t2 : SideP e2.o e2.s "up" := ⟨sp2.o0, sp2.o1, sp2.s0, sp2.s1, .inr (.inl rfl)⟩
      have t3 : SideP e4.o e4.s "down" := ⟨sp4.o0, sp4.o1, sp4.s0, sp4.s1, .inl rfl⟩
      have cases4 : k = 0 ∨ k = 1 ∨ k = 2 ∨ k = 3 := by omega
      clear k0 k1
      rcases cases4 with rfl | rfl | rfl | rfl
      · walk_at "rd"
        refine ⟨fo, _, rfl, SqL.of g_fo, fun u1 nu1 => ?_⟩
        generalize e_u1 : upd HD u1 _ = HE
        have g_u1 : HE u1 = some (.lst [.ref r0, .ref r1, .ref r2, .ref r3]) := by rw [← e_u1]; exact upd_same
        have w_u1 : Same HD HE := by rw [← e_u1]; exact fun b u z => (upd_ne (ne_of_none z nu1)).trans z
        clear e_u1
        walk_at "rd"
        refine ⟨fo, _, rfl, SqL.of (w_u1 _ _ g_fo), fun u2 nu2 => ?_⟩
        generalize e_u2 : upd HE u2 _ = HF
        have g_u2 : HF u2 = some (.lst []) := by rw [← e_u2]; exact upd_same
        have w_u2 : Same HE HF := by rw [← e_u2]; exact fun b u z => (upd_ne (ne_of_none z nu2)).trans z
        clear e_u2
        refine ⟨u1, u2, _, _, rfl, rfl, w_u2 _ _ g_u1, g_u2, (by show 4 ≤ sizeLine; decide), fun u3 nu3 => ?_⟩
        generalize e_u3 : upd HF u3 _ = HG
        have g_u3 : HG u3 = some (.lst [.ref r0, .ref r1, .ref r2, .ref r3]) := by rw [← e_u3]; exact upd_same
        have w_u3 : Same HF HG := by rw [← e_u3]; exact fun b u z => (upd_ne (ne_of_none z nu3)).trans z
        clear e_u3
        have sG := w_u1.trans (w_u2.trans w_u3)
        have SU : SidesAt HG u3 [.ref r0, .ref r1, .ref r2, .ref r3] [⟨e1.o, e1.s, "up"⟩, ⟨e3.o, e3.s, "down"⟩, ⟨e2.o, e2.s, "up"⟩, ⟨e4.o, e4.s, "down"⟩] := sidesAt4 g_u3 (sG _ _ g_r0) t0 (sG _ _ g_r1) t1 (sG _ _ g_r2) t2 (sG _ _ g_r3) t3
        walk_at "rd"
        have fw := few_ud (a := ⟨e1.o, e1.s, "up"⟩) (b := ⟨e3.o, e3.s, "down"⟩) (c := ⟨e2.o, e2.s, "up"⟩) (d := ⟨e4.o, e4.s, "down"⟩) rfl rfl rfl rfl
        refine ⟨u3, _, _, _, rfl, SU, vb, fw.1, fw.2, fun HI sI => ?_⟩
        walk_at "rd"
        exact ⟨_, _, _, _, _, _, _, _, _, _, rfl, by omega, (S_HD.of_same sG).of_same sI⟩
      · walk_at "rd"
        refine ⟨fo, _, rfl, SqL.of g_fo, fun u1 nu1 => ?_⟩
        generalize e_u1 : upd HD u1 _ = HE
        have g_u1 : HE u1 = some (.lst [.ref r1, .ref r2, .ref r3]) := by rw [← e_u1]; exact upd_same
        have w_u1 : Same HD HE := by rw [← e_u1]; exact fun b u z => (upd_ne (ne_of_none z nu1)).trans z
        clear e_u1
        walk_at "rd"
        refine ⟨fo, _, rfl, SqL.of (w_u1 _ _ g_fo), fun u2 nu2 => ?_⟩
        generalize e_u2 : upd HE u2 _ = HF
        have g_u2 : HF u2 = some (.lst [.ref r0]) := by rw [← e_u2]; exact upd_same
        have w_u2 : Same HE HF := by rw [← e_u2]; exact fun b u z => (upd_ne (ne_of_none z nu2)).trans z
        clear e_u2
        refine ⟨u1, u2, _, _, rfl, rfl, w_u2 _ _ g_u1, g_u2, (by show 4 ≤ sizeLine; decide), fun u3 nu3 => ?_⟩
        generalize e_u3 : upd HF u3 _ = HG
        have g_u3 : HG u3 = some (.lst [.ref r1, .ref r2, .ref r3, .ref r0]) := by rw [← e_u3]; exact upd_same
        have w_u3 : Same HF HG := by rw [← e_u3]; exact fun b u z => (upd_ne (ne_of_none z nu3)).trans z
        clear e_u3
        have sG := w_u1.trans (w_u2.trans w_u3)
        have SU : SidesAt HG u3 [.ref r1, .ref r2, .ref r3, .ref r0] [⟨e3.o, e3.s, "down"⟩, ⟨e2.o, e2.s, "up"⟩, ⟨e4.o, e4.s, "down"⟩, ⟨e1.o, e1.s, "up"⟩] := sidesAt4 g_u3 (sG _ _ g_r1) t1 (sG _ _ g_r2) t2 (sG _ _ g_r3) t3 (sG _ _ g_r0) t0
        walk_at "rd"
        have fw := few_du (a := ⟨e3.o, e3.s, "down"⟩) (b := ⟨e2.o, e2.s, "up"⟩) (c := ⟨e4.o, e4.s, "down"⟩) (d := ⟨e1.o, e1.s, "up"⟩) rfl rfl rfl rfl
        refine ⟨u3, _, _, _, rfl, SU, vb, fw.1, fw.2, fun HI sI => ?_⟩
        walk_at "rd"
        exact ⟨_, _, _, _, _, _, _, _, _, _, rfl, by omega, (S_HD.of_same sG).of_same sI⟩
      · walk_at "rd"
        refine ⟨fo, _, rfl, SqL.of g_fo, fun u1 nu1 => ?_⟩
        generalize e_u1 : upd HD u1 _ = HE
        have g_u1 : HE u1 = some (.lst [.ref r2, .ref r3]) := by rw [← e_u1]; exact upd_same
        have w_u1 : Same HD HE := by rw [← e_u1]; exact fun b u z => (upd_ne (ne_of_none z nu1)).trans z
        clear e_u1
        walk_at "rd"
        refine ⟨fo, _, rfl, SqL.of (w_u1 _ _ g_fo), fun u2 nu2 => ?_⟩
        generalize e_u2 : upd HE u2 _ = HF
        have g_u2 : HF u2 = some (.lst [.ref r0, .ref r1]) := by rw [← e_u2]; exact upd_same
        have w_u2 : Same HE HF := by rw [← e_u2]; exact fun b u z => (upd_ne (ne_of_none z nu2)).trans z
        clear e_u2
        refine ⟨u1, u2, _, _, rfl, rfl, w_u2 _ _ g_u1, g_u2, (by show 4 ≤ sizeLine; decide), fun u3 nu3 => ?_⟩
        generalize e_u3 : upd HF u3 _ = HG
        have g_u3 : HG u3 = some (.lst [.ref r2, .ref r3, .ref r0, .ref r1]) := by rw [← e_u3]; exact upd_same
        have w_u3 : Same HF HG := by rw [← e_u3]; exact fun b u z => (upd_ne (ne_of_none z nu3)).trans z
        clear e_u3
        have sG := w_u1.trans (w_u2.trans w_u3)
        have SU : SidesAt HG u3 [.ref r2, .ref r3, .ref r0, .ref r1] [⟨e2.o, e2.s, "up"⟩, ⟨e4.o, e4.s, "down"⟩, ⟨e1.o, e1.s, "up"⟩, ⟨e3.o, e3.s, "down"⟩] := sidesAt4 g_u3 (sG _ _ g_r2) t2 (sG _ _ g_r3) t3 (sG _ _ g_r0) t0 (sG _ _ g_r1) t1
        walk_at "rd"
        have fw := few_ud (a := ⟨e2.o, e2.s, "up"⟩) (b := ⟨e4.o, e4.s, "down"⟩) (c := ⟨e1.o, e1.s, "up"⟩) (d := ⟨e3.o, e3.s, "down"⟩) rfl rfl rfl rfl
        refine ⟨u3, _, _, _, rfl, SU, vb, fw.1, fw.2, fun HI sI => ?_⟩
        walk_at "rd"
        exact ⟨_, _, _, _, _, _, _, _, _, _, rfl, by omega, (S_HD.of_same sG).of_same sI⟩
      · walk_at "rd"
        refine ⟨fo, _, rfl, SqL.of g_fo, fun u1 nu1 => ?_⟩
        generalize e_u1 : upd HD u1 _ = HE
        have g_u1 : HE u1 = some (.lst [.ref r3]) := by rw [← e_u1]; exact upd_same
        have w_u1 : Same HD HE := by rw [← e_u1]; exact fun b u z => (upd_ne (ne_of_none z nu1)).trans z
        clear e_u1
        walk_at "rd"
        refine ⟨fo, _, rfl, SqL.of (w_u1 _ _ g_fo), fun u2 nu2 => ?_⟩
        generalize e_u2 : upd HE u2 _ = HF
        have g_u2 : HF u2 = some (.lst [.ref r0, .ref r1, .ref r2]) := by rw [← e_u2]; exact upd_same
        have w_u2 : Same HE HF := by rw [← e_u2]; exact fun b u z => (upd_ne (ne_of_none z nu2)).trans z
        clear e_u2
        refine ⟨u1, u2, _, _, rfl, rfl, w_u2 _ _ g_u1, g_u2, (by show 4 ≤ sizeLine; decide), fun u3 nu3 => ?_⟩
        generalize e_u3 : upd HF u3 _ = HG
        have g_u3 : HG u3 = some (.lst [.ref r3, .ref r0, .ref r1, .ref r2]) := by rw [← e_u3]; exact upd_same
        have w_u3 : Same HF HG := by rw [← e_u3]; exact fun b u z => (upd_ne (ne_of_none z nu3)).trans z
        clear e_u3
        have sG := w_u1.trans (w_u2.trans w_u3)
        have SU : SidesAt HG u3 [.ref r3, .ref r0, .ref r1, .ref r2] [⟨e4.o, e4.s, "down"⟩, ⟨e1.o, e1.s, "up"⟩, ⟨e3.o, e3.s, "down"⟩, ⟨e2.o, e2.s, "up"⟩] := sidesAt4 g_u3 (sG _ _ g_r3) t3 (sG _ _ g_r0) t0 (sG _ _ g_r1) t1 (sG _ _ g_r2) t2
        walk_at "rd"
        have fw := few_du (a := ⟨e4.o, e4.s, "down"⟩) (b := ⟨e1.o, e1.s, "up"⟩) (c := ⟨e3.o, e3.s, "down"⟩) (d := ⟨e2.o, e2.s, "up"⟩) rfl rfl rfl rfl
        refine ⟨u3, _, _, _, rfl, SU, vb, fw.1, fw.2, fun HI sI => ?_⟩
        walk_at "rd"
        exact ⟨_, _, _, _, _, _, _, _, _, _, rfl, by omega, (S_HD.of_same sG).of_same sI⟩
    · rintro σ H' ⟨x2, x3, x4, x5, x6, x7, x8, x9, x10, t, rfl, ht, S'⟩
      clear S' S0 sm
      walk_at "rd"
      refine ⟨(by show 3 ≤ sizeLine; decide), fun p1 np1 => ?_⟩
      generalize e_p1 : upd H' p1 _ = G2
      have f_p1 : G2 p1 = some (.tup [.int 0, .int 5, .str "up"]) := by rw [← e_p1]; exact upd_same
      have s_p1 : Same H' G2 := by rw [← e_p1]; exact fun b u z => (upd_ne (ne_of_none z np1)).trans z
      clear e_p1
      walk_at "rd"
      refine ⟨(by show 1 ≤ sizeLine; decide), fun p3 np3 => ?_⟩
      generalize e_p3 : upd G2 p3 _ = G4
      have f_p3 : G4 p3 = some (.lst [.ref p1]) := by rw [← e_p3]; exact upd_same
      have s_p3 : Same G2 G4 := by rw [← e_p3]; exact fun b u z => (upd_ne (ne_of_none z np3)).trans z
      clear e_p3
      walk_at "rd"
      refine ⟨p3, 5, _, rfl, rfl, f_p3, by decide, by decide, (by show 5 ≤ sizeLine; decide), fun p5 np5 => ?_⟩
      generalize e_p5 : upd G4 p5 _ = G6
      have f_p5 : G6 p5 = some (.lst [.ref p1, .ref p1, .ref p1, .ref p1, .ref p1]) := by rw [← e_p5]; exact upd_same
      have s_p5 : Same G4 G6 := by rw [← e_p5]; exact fun b u z => (upd_ne (ne_of_none z np5)).trans z
      clear e_p5
      walk_at "rd"
      refine ⟨.ref p5, .int 0, "sides", rfl, .sides (.len f_p5 (by show ¬ (1 ≤ 5 ∧ 5 ≤ 4); decide)), fun G7 sG7 => ?_⟩
      walk_at "rd"
      refine ⟨rfl, ?_⟩
      walk_at "rd"
      refine ⟨(by show 0 ≤ sizeLine; decide), fun p8 np8 => ?_⟩
      generalize e_p8 : upd G7 p8 _ = G9
      have f_p8 : G9 p8 = some (.lst []) := by rw [← e_p8]; exact upd_same
      have s_p8 : Same G7 G9 := by rw [← e_p8]; exact fun b u z => (upd_ne (ne_of_none z np8)).trans z
      clear e_p8
      walk_at "rd"
      refine ⟨.ref p8, .non, "sides", rfl, .sides (.len f_p8 (by show ¬ (1 ≤ 0 ∧ 0 ≤ 4); decide)), fun G10 sG10 => ?_⟩
      walk_at "rd"
      refine ⟨rfl, ?_⟩
      walk_at "rd"
      clear f_p1 f_p3 f_p5 f_p8 s_p1 s_p3 s_p5 sG7 s_p8 sG10
      refine ⟨by decide, by decide, fun D nD => ?_⟩
      refine lc_range (lo := 0) (n := 3) (fun j H5 => ∃ ys : List V, H5 D = some (.lst ys) ∧ ys.length = j ∧ Same G10 H5 ∧ ∀ (i : Nat), i < j → ∃ p : Addr, ys[i]? = some (V.ref p) ∧ H5 p = some (sideV 0 (10 ^ 30 - (i : Int)) "half_up")) ⟨[], upd_same, rfl, fun b u z => (upd_ne (ne_of_none z nD)).trans z, fun i h => absurd h (Nat.not_lt_zero _)⟩ ?_ ?_
      · rintro j H5 hj ⟨ys, hD, ly, s5, at5⟩
        refine ⟨rfl, ?_⟩
        walk_at "rd"
        refine ⟨⟨by decide, by decide, by decide⟩, ?_⟩
        walk_at "rd"
        refine ⟨(by show 3 ≤ sizeLine; decide), fun zp nzp => ?_⟩
        have ncD : D ≠ zp := ne_of_none hD nzp
        have nd7 : upd H5 zp (.tup [.int 0, .int (10 ^ (30 : Int).toNat - (0 + (j : Int))), .str "half_up"]) D = some (.lst ys) := (upd_ne ncD).trans hD
        have ej : (10 : Int) ^ (30 : Int).toNat - (0 + (j : Int)) = 10 ^ 30 - (j : Int) := by rw [Int.zero_add]; rfl
        refine ⟨_, nd7, ?_, ys ++ [.ref zp], upd_same, ?_, ?_, ?_⟩
        · rw [ly]; exact Nat.lt_of_lt_of_le (by omega : j < 8) (by decide)
        · rw [List.length_append, ly]; rfl
        · intro b u y
          have y5 := s5 _ _ y
          exact (upd_ne (ne_of_none y nD)).trans ((upd_ne (ne_of_none y5 nzp)).trans y5)
        · intro i hi
          by_cases z : i < j
          · obtain ⟨p, e1, e2⟩ := at5 i z
            refine ⟨p, by rw [List.getElem?_append_left (by omega)]; exact e1, ?_⟩
            exact (upd_ne (ne_of e2 hD (by intro y; cases y))).trans ((upd_ne (ne_of_none e2 nzp)).trans e2)
          · obtain rfl : i = j := by omega
            refine ⟨zp, by rw [List.getElem?_append_right (by omega), show i - ys.length = 0 by omega]; rfl, ?_⟩
            refine (upd_ne (Ne.symm ncD)).trans ?_
            rw [← ej]
            exact upd_same
      · rintro H5 ⟨ys, hD, ly, s5, at5⟩
        obtain ⟨q0, e0, h0⟩ := at5 0 (by decide)
        obtain ⟨q1, e1, h1⟩ := at5 1 (by decide)
        obtain ⟨q2, e2, h2⟩ := at5 2 (by decide)
        obtain rfl : ys = [.ref q0, .ref q1, .ref q2] := by
          match ys, ly with
          | [a, b, c], _ =>
            cases e0; cases e1; cases e2
            rfl
        clear e0 e1 e2 at5 ly
        replace h0 : H5 q0 = some (sideV (gr 0).o (gr 0).s (gr 0).m) := h0
        replace h1 : H5 q1 = some (sideV (gr 1).o (gr 1).s (gr 1).m) := h1
        replace h2 : H5 q2 = some (sideV (gr 2).o (gr 2).s (gr 2).m) := h2
        have A0 := gr_side (k := 0) (by decide)
        have A1 := gr_side (k := 1) (by decide)
        have A2 := gr_side (k := 2) (by decide)
        have SG5 : SidesAt H5 D [.ref q0, .ref q1, .ref q2] [gr 0, gr 1, gr 2] := sidesAt3 hD h0 A0 h1 A1 h2 A2
        clear h0 h1 h2 hD s5
        walk_at "rd"
        refine ⟨(by show 0 ≤ sizeLine; decide), fun p11 np11 => ?_⟩
        generalize e_p11 : upd H5 p11 _ = G12
        have f_p11 : G12 p11 = some (.lst []) := by rw [← e_p11]; exact upd_same
        have s_p11 : Same H5 G12 := by rw [← e_p11]; exact fun b u z => (upd_ne (ne_of_none z np11)).trans z
        clear e_p11
        walk_at "rd"
        refine ⟨(by show 1 ≤ sizeLine; decide), fun p13 np13 => ?_⟩
        generalize e_p13 : upd G12 p13 _ = G14
        have f_p13 : G14 p13 = some (.tup [.int 5]) := by rw [← e_p13]; exact upd_same
        have s_p13 : Same G12 G14 := by rw [← e_p13]; exact fun b u z => (upd_ne (ne_of_none z np13)).trans z
        clear e_p13
        walk_at "rd"
        intro p15 np15
        generalize e_p15 : upd G14 p15 _ = G16
        have f_p15 : G16 p15 = some (.dK []) := by rw [← e_p15]; exact upd_same
        have s_p15 : Same G14 G16 := by rw [← e_p15]; exact fun b u z => (upd_ne (ne_of_none z np15)).trans z
        clear e_p15
        walk_at "rd"
        refine ⟨(by show 7 ≤ sizeLine; decide), fun p17 np17 => ?_⟩
        generalize e_p17 : upd G16 p17 _ = G18
        have f_p17 : G18 p17 = some (.lst [.non, .bl true, .bl false, .str "5", .ref p11, .ref p13, .ref p15]) := by rw [← e_p17]; exact upd_same
        have s_p17 : Same G16 G18 := by rw [← e_p17]; exact fun b u z => (upd_ne (ne_of_none z np17)).trans z
        clear e_p17
        walk_at "rd"
        refine ⟨⟨_, SqL.of f_p17⟩, ?_⟩
        have tys : ∀ (i : Nat) (y : V), ([.non, .bl true, .bl false, .str "5", .ref p11, .ref p13, .ref p15] : List V)[i]? = some y → ∃ n : String, Th G18 y n ∧ isI n = false := by
          intro i y hy
          rcases i with _ | _ | _ | _ | _ | _ | _ | i <;> first | (cases hy; done) | skip
          · cases hy; exact ⟨_, .non, by decide⟩
          · cases hy; exact ⟨_, .bl _, by decide⟩
          · cases hy; exact ⟨_, .bl _, by decide⟩
          · cases hy; exact ⟨_, .str _, by decide⟩
          · cases hy; exact ⟨_, .lst (((s_p13.trans s_p15).trans s_p17) _ _ f_p11), by decide⟩
          · cases hy; exact ⟨_, .tup ((s_p15.trans s_p17) _ _ f_p13), by decide⟩
          · cases hy; exact ⟨_, .dk (s_p17 _ _ f_p15), by decide⟩
        refine for_list (K := K) (a := p17) (xs := [.non, .bl true, .bl false, .str "5", .ref p11, .ref p13, .ref p15]) (fun i2 st H7 => ∃ y2 y3 y4 y5 y6 y7 y8 y9 y10 y12 : Option V, st = [some (.ref l), some (.ref a), y2, y3, y4, y5, y6, y7, y8, y9, y10, some (.ref D), y12] ∧ Same G18 H7) ⟨_, _, _, _, _, _, _, _, _, _, rfl, Same.refl _⟩ (fun _ _ _ _ ⟨_, _, _, _, _, _, _, _, _, _, _, s7⟩ => SqL.of (s7 _ _ f_p17)) ?_ ?_
        · rintro i2 v st H7 hv ⟨y2, y3, y4, y5, y6, y7, y8, y9, y10, y12, rfl, s7⟩
          obtain ⟨n, tv, ni⟩ := tys i2 v hv
          walk_at "rd"
          refine ⟨(by show 3 ≤ sizeLine; decide), fun p19 np19 => ?_⟩
          generalize e_p19 : upd H7 p19 _ = G20
          have f_p19 : G20 p19 = some (.tup [.int 0, .int 5, .str "up"]) := by rw [← e_p19]; exact upd_same
          have s_p19 : Same H7 G20 := by rw [← e_p19]; exact fun b u z => (upd_ne (ne_of_none z np19)).trans z
          clear e_p19
          walk_at "rd"
          refine ⟨(by show 1 ≤ sizeLine; decide), fun p21 np21 => ?_⟩
          generalize e_p21 : upd G20 p21 _ = G22
          have f_p21 : G22 p21 = some (.lst [.ref p19]) := by rw [← e_p21]; exact upd_same
          have s_p21 : Same G20 G22 := by rw [← e_p21]; exact fun b u z => (upd_ne (ne_of_none z np21)).trans z
          clear e_p21
          walk_at "rd"
          refine ⟨(by show 2 ≤ sizeLine; decide), fun p23 np23 => ?_⟩
          generalize e_p23 : upd G22 p23 _ = G24
          have f_p23 : G24 p23 = some (.lst [.ref p21, .ref D]) := by rw [← e_p23]; exact upd_same
          have s_p23 : Same G22 G24 := by rw [← e_p23]; exact fun b u z => (upd_ne (ne_of_none z np23)).trans z
          clear e_p23
          walk_at "rd"
          refine ⟨⟨_, SqL.of f_p23⟩, fun D2 nD2 => ?_⟩
          have goods : ∀ (j : Nat) (y : V), ([.ref p21, .ref D] : List V)[j]? = some y → ∃ (p : Addr) (ys : List V), y = .ref p ∧ GoodL G24 p ys := by
            intro j y hy
            rcases j with _ | _ | j
            · cases hy; exact ⟨_, _, rfl, good_of (sidesAt1 (s_p23 _ _ f_p21) ((s_p21.trans s_p23) _ _ f_p19) ⟨by decide, by decide, by decide, by decide, .inr (.inl rfl)⟩)⟩
            · cases hy; exact ⟨_, _, rfl, good_of (SG5.same (((((((s_p11.trans s_p13).trans s_p15).trans s_p17).trans s7).trans s_p19).trans s_p21).trans s_p23))⟩
            · cases hy
          refine lc_list (K := K) (a := p23) (xs := [.ref p21, .ref D]) (fun j H8 => H8 D2 = some (.lst (List.replicate j (V.str "value"))) ∧ Same G24 H8) ⟨upd_same, fun b u z => (upd_ne (ne_of_none z nD2)).trans z⟩ (fun _ _ _ ⟨_, s8⟩ => SqL.of (s8 _ _ f_p23)) ?_ ?_
          · rintro j y H8 hy ⟨hD2, s8⟩
            have jl : j < 2 := (List.getElem?_eq_some_iff.mp hy).1
            obtain ⟨p, ys, rfl, gl⟩ := goods j y hy
            refine ⟨rfl, ?_⟩
            walk_at "rd"
            refine ⟨.ref p, v, "value", rfl, .val rfl (show GoodL H8 p ys from ⟨s8 _ _ gl.1, gl.2.1, gl.2.2.1, fun y hy => (gl.2.2.2 y hy).same s8⟩) (tv.same ((((s7.trans s_p19).trans s_p21).trans s_p23).trans s8)) ni, fun H9 s9 => ?_⟩
            refine ⟨_, s9 _ _ hD2, ?_, ?_, fun b u z => (upd_ne (ne_of_none z nD2)).trans ((s8.trans s9) _ _ z)⟩
            · rw [List.length_replicate]
              exact Nat.lt_of_lt_of_le (by omega : j < 8) (by decide)
            · rw [rep_snoc]
              exact upd_same
          · rintro H8 ⟨hD2, s8⟩
            walk_at "rd"
            refine ⟨(by show 1 ≤ sizeLine; decide), fun r1 nr1 => ?_⟩
            generalize e_r1 : upd H8 r1 _ = H10
            have g1 : H10 r1 = some (.lst [.str "value"]) := by rw [← e_r1]; exact upd_same
            have w1 : Same H8 H10 := by rw [← e_r1]; exact fun b u z => (upd_ne (ne_of_none z nr1)).trans z
            clear e_r1
            walk_at "rd"
            refine ⟨r1, 2, _, rfl, rfl, g1, by decide, by decide, (by show 2 ≤ sizeLine; decide), fun r2 nr2 => ?_⟩
            generalize e_r2 : upd H10 r2 _ = H11
            have g2 : H11 r2 = some (.lst [.str "value", .str "value"]) := by rw [← e_r2]; exact upd_same
            have w2 : Same H10 H11 := by rw [← e_r2]; exact fun b u z => (upd_ne (ne_of_none z nr2)).trans z
            clear e_r2
            refine ⟨.list [.str "value", .str "value"], .list [.str "value", .str "value"], .lst (SqL.of (w2 _ _ (w1 _ _ hD2))) (.cons (.str _) (.cons (.str _) .nil)), .lst (SqL.of g2) (.cons (.str _) (.cons (.str _) .nil)), by decide +kernel, by decide +kernel, ?_⟩
            refine ⟨_, rfl, ?_⟩
            refine ite2 (fun z => (not_t z (SeqAt.eqv_refl (.list [.str "value", .str "value"]) (by decide +kernel))).elim) (fun _ => ?_)
            exact ⟨_, _, _, _, _, _, _, _, _, _, rfl, s7.trans (((s_p19.trans s_p21).trans s_p23).trans (s8.trans (w1.trans w2)))⟩
        rintro st H7 ⟨y2, y3, y4, y5, y6, y7, y8, y9, y10, y12, rfl, s7⟩
        have SG7 := SG5.same ((((s_p11.trans s_p13).trans s_p15).trans s_p17).trans s7)
        walk_at "rd"
        refine ⟨(by show 0 ≤ sizeLine; decide), fun p25 np25 => ?_⟩
        generalize e_p25 : upd H7 p25 _ = G26
        have f_p25 : G26 p25 = some (.tup []) := by rw [← e_p25]; exact upd_same
        have s_p25 : Same H7 G26 := by rw [← e_p25]; exact fun b u z => (upd_ne (ne_of_none z np25)).trans z
        clear e_p25
        walk_at "rd"
        intro p27 np27
        generalize e_p27 : upd G26 p27 _ = G28
        have f_p27 : G28 p27 = some (.dK []) := by rw [← e_p27]; exact upd_same
        have s_p27 : Same G26 G28 := by rw [← e_p27]; exact fun b u z => (upd_ne (ne_of_none z np27)).trans z
        clear e_p27
        walk_at "rd"
        refine ⟨(by show 1 ≤ sizeLine; decide), fun p29 np29 => ?_⟩
        generalize e_p29 : upd G28 p29 _ = G30
        have f_p29 : G30 p29 = some (.lst [.non]) := by rw [← e_p29]; exact upd_same
        have s_p29 : Same G28 G30 := by rw [← e_p29]; exact fun b u z => (upd_ne (ne_of_none z np29)).trans z
        clear e_p29
        walk_at "rd"
        refine ⟨(by show 3 ≤ sizeLine; decide), fun p31 np31 => ?_⟩
        generalize e_p31 : upd G30 p31 _ = G32
        have f_p31 : G32 p31 = some (.tup [.int 0, .int 0, .str "up"]) := by rw [← e_p31]; exact upd_same
        have s_p31 : Same G30 G32 := by rw [← e_p31]; exact fun b u z => (upd_ne (ne_of_none z np31)).trans z
        clear e_p31
        walk_at "rd"
        refine ⟨(by show 1 ≤ sizeLine; decide), fun p33 np33 => ?_⟩
        generalize e_p33 : upd G32 p33 _ = G34
        have f_p33 : G34 p33 = some (.lst [.ref p31]) := by rw [← e_p33]; exact upd_same
        have s_p33 : Same G32 G34 := by rw [← e_p33]; exact fun b u z => (upd_ne (ne_of_none z np33)).trans z
        clear e_p33
        walk_at "rd"
        refine ⟨(by show 3 ≤ sizeLine; decide), fun p35 np35 => ?_⟩
        generalize e_p35 : upd G34 p35 _ = G36
        have f_p35 : G36 p35 = some (.tup [.int 0, .int 5, .str "up"]) := by rw [← e_p35]; exact upd_same
        have s_p35 : Same G34 G36 := by rw [← e_p35]; exact fun b u z => (upd_ne (ne_of_none z np35)).trans z
        clear e_p35
        walk_at "rd"
        refine ⟨(by show 1 ≤ sizeLine; decide), fun p37 np37 => ?_⟩
        generalize e_p37 : upd G36 p37 _ = G38
        have f_p37 : G38 p37 = some (.tup [.ref p35]) := by rw [← e_p37]; exact upd_same
        have s_p37 : Same G36 G38 := by rw [← e_p37]; exact fun b u z => (upd_ne (ne_of_none z np37)).trans z
        clear e_p37
        walk_at "rd"
        refine ⟨(by show 2 ≤ sizeLine; decide), fun p39 np39 => ?_⟩
        generalize e_p39 : upd G38 p39 _ = G40
        have f_p39 : G40 p39 = some (.tup [.int 0, .int 5]) := by rw [← e_p39]; exact upd_same
        have s_p39 : Same G38 G40 := by rw [← e_p39]; exact fun b u z => (upd_ne (ne_of_none z np39)).trans z
        clear e_p39
        walk_at "rd"
        refine ⟨(by show 1 ≤ sizeLine; decide), fun p41 np41 => ?_⟩
        generalize e_p41 : upd G40 p41 _ = G42
        have f_p41 : G42 p41 = some (.lst [.ref p39]) := by rw [← e_p41]; exact upd_same
        have s_p41 : Same G40 G42 := by rw [← e_p41]; exact fun b u z => (upd_ne (ne_of_none z np41)).trans z
        clear e_p41
        walk_at "rd"
        refine ⟨(by show 3 ≤ sizeLine; decide), fun p43 np43 => ?_⟩
        generalize e_p43 : upd G42 p43 _ = G44
        have f_p43 : G44 p43 = some (.tup [.int 0, .int 5, .str "up"]) := by rw [← e_p43]; exact upd_same
        have s_p43 : Same G42 G44 := by rw [← e_p43]; exact fun b u z => (upd_ne (ne_of_none z np43)).trans z
        clear e_p43
        walk_at "rd"
        refine ⟨(by show 1 ≤ sizeLine; decide), fun p45 np45 => ?_⟩
        generalize e_p45 : upd G44 p45 _ = G46
        have f_p45 : G46 p45 = some (.lst [.ref p43]) := by rw [← e_p45]; exact upd_same
        have s_p45 : Same G44 G46 := by rw [← e_p45]; exact fun b u z => (upd_ne (ne_of_none z np45)).trans z
        clear e_p45
        walk_at "rd"
        refine ⟨(by show 1 ≤ sizeLine; decide), fun p47 np47 => ?_⟩
        generalize e_p47 : upd G46 p47 _ = G48
        have f_p47 : G48 p47 = some (.lst [.ref p45]) := by rw [← e_p47]; exact upd_same
        have s_p47 : Same G46 G48 := by rw [← e_p47]; exact fun b u z => (upd_ne (ne_of_none z np47)).trans z
        clear e_p47
        walk_at "rd"
        refine ⟨(by show 10 ≤ sizeLine; decide), fun p49 np49 => ?_⟩
        generalize e_p49 : upd G48 p49 _ = G50
        have f_p49 : G50 p49 = some (.lst [.non, .ref p25, .ref p27, .int 5, .str "sides", .ref p29, .ref p33, .ref p37, .ref p41, .ref p47]) := by rw [← e_p49]; exact upd_same
        have s_p49 : Same G48 G50 := by rw [← e_p49]; exact fun b u z => (upd_ne (ne_of_none z np49)).trans z
        clear e_p49
        walk_at "rd"
        refine ⟨⟨_, SqL.of f_p49⟩, ?_⟩
        have bds : ∀ (i : Nat) (y : V), ([.non, .ref p25, .ref p27, .int 5, .str "sides", .ref p29, .ref p33, .ref p37, .ref p41, .ref p47] : List V)[i]? = some y → BadL K G50 y := by
          intro i y hy
          rcases i with _ | _ | _ | _ | _ | _ | _ | _ | _ | _ | i <;> first | (cases hy; done) | skip
          · cases hy; exact .kind .non (by decide)
          · cases hy; exact .kind (.tup ((((((((((((s_p27.trans s_p29).trans s_p31).trans s_p33).trans s_p35).trans s_p37).trans s_p39).trans s_p41).trans s_p43).trans s_p45).trans s_p47).trans s_p49) _ _ f_p25)) (by decide)
          · cases hy; exact .kind (.dk (((((((((((s_p29.trans s_p31).trans s_p33).trans s_p35).trans s_p37).trans s_p39).trans s_p41).trans s_p43).trans s_p45).trans s_p47).trans s_p49) _ _ f_p27)) (by decide)
          · cases hy; exact .kind (.int _) (by decide)
          · cases hy; exact .kind (.str _) (by decide)
          · cases hy; exact .item (i := 0) ((((((((((s_p31.trans s_p33).trans s_p35).trans s_p37).trans s_p39).trans s_p41).trans s_p43).trans s_p45).trans s_p47).trans s_p49) _ _ f_p29) (by show 1 ≤ 1; decide) (by show 1 ≤ 4; decide) rfl (.kind .non (by decide)) (fun j z hj _ => absurd hj (Nat.not_lt_zero _))
          · cases hy; exact .item (i := 0) ((((((((s_p35.trans s_p37).trans s_p39).trans s_p41).trans s_p43).trans s_p45).trans s_p47).trans s_p49) _ _ f_p33) (by show 1 ≤ 1; decide) (by show 1 ≤ 4; decide) rfl (.stp (((((((((s_p33.trans s_p35).trans s_p37).trans s_p39).trans s_p41).trans s_p43).trans s_p45).trans s_p47).trans s_p49) _ _ f_p31) (.int _) (by decide +kernel) (.int _) (by decide +kernel)) (fun j z hj _ => absurd hj (Nat.not_lt_zero _))
          · cases hy; exact .kind (.tup ((((((s_p39.trans s_p41).trans s_p43).trans s_p45).trans s_p47).trans s_p49) _ _ f_p37)) (by decide)
          · cases hy; exact .item (i := 0) ((((s_p43.trans s_p45).trans s_p47).trans s_p49) _ _ f_p41) (by show 1 ≤ 1; decide) (by show 1 ≤ 4; decide) rfl (.len (((((s_p41.trans s_p43).trans s_p45).trans s_p47).trans s_p49) _ _ f_p39) (by show ¬ 2 = 3; decide)) (fun j z hj _ => absurd hj (Nat.not_lt_zero _))
          · cases hy; exact .item (i := 0) (s_p49 _ _ f_p47) (by show 1 ≤ 1; decide) (by show 1 ≤ 4; decide) rfl (.kind (.lst ((s_p47.trans s_p49) _ _ f_p45)) (by decide)) (fun j z hj _ => absurd hj (Nat.not_lt_zero _))
        refine for_list (K := K) (a := p49) (xs := [.non, .ref p25, .ref p27, .int 5, .str "sides", .ref p29, .ref p33, .ref p37, .ref p41, .ref p47]) (fun i2 st H8 => ∃ y2 y3 y4 y5 y6 y7 y8 y9 y10 y12 : Option V, st = [some (.ref l), some (.ref a), y2, y3, y4, y5, y6, y7, y8, y9, y10, some (.ref D), y12] ∧ Same G50 H8) ⟨_, _, _, _, _, _, _, _, _, _, rfl, Same.refl _⟩ (fun _ _ _ _ ⟨_, _, _, _, _, _, _, _, _, _, _, s8⟩ => SqL.of (s8 _ _ f_p49)) ?_ ?_
        · rintro i2 v st H8 hv ⟨y2, y3, y4, y5, y6, y7, y8, y9, y10, y12, rfl, s8⟩
          have bad := (bds i2 v hv).same s8
          walk_at "rd"
          refine ⟨v, .int 0, "sides", rfl, .sides bad, fun H9 s9 => ?_⟩
          walk_at "rd"
          refine ⟨rfl, ?_⟩
          walk_at "rd"
          refine ⟨v, .non, "sides", rfl, .sides (bad.same s9), fun H10 s10 => ?_⟩
          walk_at "rd"
          refine ⟨rfl, ?_⟩
          walk_at "rd"
          exact ⟨_, _, _, _, _, _, _, _, _, _, rfl, s8.trans (s9.trans s10)⟩
        rintro st H8 ⟨y2, y3, y4, y5, y6, y7, y8, y9, y10, y12, rfl, s8⟩
        have SG8 := SG7.same (((((((((((((s_p25.trans s_p27).trans s_p29).trans s_p31).trans s_p33).trans s_p35).trans s_p37).trans s_p39).trans s_p41).trans s_p43).trans s_p45).trans s_p47).trans s_p49).trans s8)
        walk_at "rd"
        refine ⟨.ref D, .int 0, "many", rfl, .many rfl SG8 rfl many_gr3, fun H9 s9 => ?_⟩
        walk_at "rd"
        refine ⟨rfl, ?_⟩
        walk_at "rd"
        refine ⟨(by show 3 ≤ sizeLine; decide), fun p51 np51 => ?_⟩
        generalize e_p51 : upd H9 p51 _ = G52
        have f_p51 : G52 p51 = some (.tup [.int 0, .int 501, .str "up"]) := by rw [← e_p51]; exact upd_same
        have s_p51 : Same H9 G52 := by rw [← e_p51]; exact fun b u z => (upd_ne (ne_of_none z np51)).trans z
        clear e_p51
        walk_at "rd"
        refine ⟨(by show 3 ≤ sizeLine; decide), fun p53 np53 => ?_⟩
        generalize e_p53 : upd G52 p53 _ = G54
        have f_p53 : G54 p53 = some (.tup [.int 1, .int 502, .str "up"]) := by rw [← e_p53]; exact upd_same
        have s_p53 : Same G52 G54 := by rw [← e_p53]; exact fun b u z => (upd_ne (ne_of_none z np53)).trans z
        clear e_p53
        walk_at "rd"
        refine ⟨(by show 2 ≤ sizeLine; decide), fun p55 np55 => ?_⟩
        generalize e_p55 : upd G54 p55 _ = G56
        have f_p55 : G56 p55 = some (.lst [.ref p51, .ref p53]) := by rw [← e_p55]; exact upd_same
        have s_p55 : Same G54 G56 := by rw [← e_p55]; exact fun b u z => (upd_ne (ne_of_none z np55)).trans z
        clear e_p55
        walk_at "rd"
        have SW : SidesAt G56 p55 [.ref p51, .ref p53] wd2 := sidesAt2 f_p55 ((s_p53.trans s_p55) _ _ f_p51) ⟨by decide, by decide, by decide, by decide, .inr (.inl rfl)⟩ (s_p55 _ _ f_p53) ⟨by decide, by decide, by decide, by decide, .inr (.inl rfl)⟩
        refine ⟨p55, _, wd2, 251503, rfl, SW, by decide, wd2_few.1, wd2_few.2, fun dn up pp HE eu ed sE nE hp => ?_⟩
        have x1 := end_uniq wd2_side eu wd2_up
        have x2 := end_uniq (side_mirs wd2_side) ed wd2_down
        subst x1 x2
        walk_at "rd"
        refine ⟨(by show 2 ≤ sizeLine; decide), fun pz npz => ?_⟩
        generalize e_pz : upd HE pz _ = HZ
        have gz : HZ pz = some (.tup [.int 0, .int 1000]) := by rw [← e_pz]; exact upd_same
        have wz : Same HE HZ := by rw [← e_pz]; exact fun b u z => (upd_ne (ne_of_none z npz)).trans z
        clear e_pz
        walk_at "rd"
        refine ⟨.tuple [.int 0, .int 1000], .tuple [.int 0, .int 1000], .tup (SqT.of (wz _ _ hp)) (.cons (.int _) (.cons (.int _) .nil)), .tup (SqT.of gz) (.cons (.int _) (.cons (.int _) .nil)), by decide +kernel, by decide +kernel, ?_⟩
        rw [SeqAt.eqv_refl (.tuple [.int 0, .int 1000]) (by decide +kernel)]
        exact q HZ
end
end HT
namespace HT
open PySem L2
def errB (K : PySem.W.Frag) (C : Addr) : Bool := (PySem.W.clsIn K C).isSome && (decide (PySem.W.findIn K (.ref C) "__getattribute__" = some (some (.builtin "BaseException.__getattribute__"))) && (decide (PySem.W.findIn K (.ref C) "__getattr__" = some none) && (decide (PySem.W.subIn K (.ref C) (.type "BaseException") = some true) &&
  (decide (PySem.W.findIn K (.ref C) "__class__" = some (some (.builtin "object.__class__"))) && decide (PySem.W.mroIn K C (.type "object") = some true)))))
theorem errB_ok {K : PySem.W.Frag} {C : Addr} (h : errB K C = true) : ErrC K C := by
  unfold errB at h
  simp only [Bool.and_eq_true, decide_eq_true_eq] at h
  obtain ⟨a, b, c, d, e, f⟩ := h
  exact ⟨a, b, c, d, e, f⟩
def exB (K : PySem.W.Frag) (C : Addr) : Bool := PySem.W.excIn K C [.type "ValueError", .type "Exception", .type "BaseException", .type "object"] "ValueError.__new__" && PySem.W.keepIn K (.ref C)
def erT (K : PySem.W.Frag) (C : Nat → Addr) (B : Addr) (i : Nat) : Bool := errB K (C i) && (exB K (C i) && (decide (PySem.W.kitOne K (.ref (C i)) (.type "ValueError") = some true) && (decide (PySem.W.subIn K (.ref (C i)) (.type "BaseException") = some true) && (decide (PySem.W.typeIn K (.ref (C i)) = some (.type "type")) && (decide (PySem.W.exmOne K (.ref (C i)) (.ref B) = some true) &&
  (List.range 4).all fun j => decide (PySem.W.kitOne K (.ref (C i)) (.ref (C j)) = some (decide (i = j))))))))
def cAt (l : List Addr) (i : Nat) : Addr := l.getD i 0
theorem all_of {p : Nat → Bool} {n : Nat} (h : (List.range n).all p = true) {i : Nat} (hi : i < n) : p i = true := List.all_eq_true.mp h i (List.mem_range.mpr hi)
theorem all_mk {l : PySem.W.OpenLaw} {w : World} {K : PySem.W.Frag} {h : Heap} {mg : Str → Option Value} {fa aM aR aU c0 c1 c2 c3 cB f_is_int f_is_int_between f_check_value f_check_side f_is_side f_figure f_goes_up f_written f_stands f_span f_uspan f_below f_threshold f_mirror f_form f_first_mode f_check_sides f_period_of f_common_period f_raisers f_raises_some f_highest f_mirrors f_first_hit f_first_between f_unraised f_first_in_block f_first_in_both f_wide_and_narrow f_rounds_up f_reach f_check_few f_first_unraised f_first_unraised_by_two f_within f_highest_within f_continued f_efforts f_fewest_up f_fewest_up_by_two f_L_source f_L_draw f_L_pick f_L_divisor f_L_great f_L_small_side f_L_figure f_L_handed f_L_period f_L_set f_L_written f_L_great_side f_L_count f_L_fits f_L_great_fits f_L_word f_law : Addr} (X : K.In h) (G : h.Ns mainGlobals mg) (hfa : mg "law" = some (.ref fa))
    {odM odU od_is_int an_is_int od_is_int_between an_is_int_between od_check_value an_check_value od_check_side an_check_side od_is_side an_is_side od_figure an_figure od_goes_up an_goes_up od_written an_written od_stands an_stands od_span an_span od_uspan an_uspan od_below an_below od_threshold an_threshold od_mirror an_mirror od_form an_form od_first_mode an_first_mode od_check_sides an_check_sides od_period_of an_period_of od_common_period an_common_period od_raisers an_raisers od_raises_some an_raises_some od_highest an_highest od_mirrors an_mirrors od_first_hit an_first_hit od_first_between an_first_between od_unraised an_unraised od_first_in_block an_first_in_block od_first_in_both an_first_in_both od_wide_and_narrow an_wide_and_narrow od_rounds_up an_rounds_up od_reach an_reach od_check_few an_check_few od_first_unraised an_first_unraised od_first_unraised_by_two an_first_unraised_by_two od_within an_within od_highest_within an_highest_within od_continued an_continued od_efforts an_efforts od_fewest_up an_fewest_up od_fewest_up_by_two an_fewest_up_by_two od_L_source an_L_source od_L_draw an_L_draw od_L_pick an_L_pick od_L_divisor an_L_divisor od_L_great an_L_great od_L_small_side an_L_small_side od_L_figure an_L_figure od_L_handed an_L_handed od_L_period an_L_period od_L_set an_L_set od_L_written an_L_written od_L_great_side an_L_great_side od_L_count an_L_count od_L_fits an_L_fits od_L_great_fits an_L_great_fits od_L_word an_L_word od_law an_law : Option Addr} {slM slU sl_is_int sl_is_int_between sl_check_value sl_check_side sl_is_side sl_figure sl_goes_up sl_written sl_stands sl_span sl_uspan sl_below sl_threshold sl_mirror sl_form sl_first_mode sl_check_sides sl_period_of sl_common_period sl_raisers sl_raises_some sl_highest sl_mirrors sl_first_hit sl_first_between sl_unraised sl_first_in_block sl_first_in_both sl_wide_and_narrow sl_rounds_up sl_reach sl_check_few sl_first_unraised sl_first_unraised_by_two sl_within sl_highest_within sl_continued sl_efforts sl_fewest_up sl_fewest_up_by_two sl_L_source sl_L_draw sl_L_pick sl_L_divisor sl_L_great sl_L_small_side sl_L_figure sl_L_handed sl_L_period sl_L_set sl_L_written sl_L_great_side sl_L_count sl_L_fits sl_L_great_fits sl_L_word sl_law : Array (Option Value)} {nM nR nU : Nat} {itsM itsU : Array Value} {esR : Array DictEntry} {tMS tMP tMN tMR : Tok} {u_down u_up u_half_down u_half_up u_half_even oc_is_int kV_is_int dc_is_int pm_is_int cd_is_int ct_is_int oc_is_int_between kV_is_int_between dc_is_int_between pm_is_int_between cd_is_int_between ct_is_int_between oc_check_value kV_check_value dc_check_value pm_check_value cd_check_value ct_check_value oc_check_side kV_check_side dc_check_side pm_check_side cd_check_side ct_check_side oc_is_side kV_is_side dc_is_side pm_is_side cd_is_side ct_is_side oc_figure kV_figure dc_figure pm_figure cd_figure ct_figure oc_goes_up kV_goes_up dc_goes_up pm_goes_up cd_goes_up ct_goes_up oc_written kV_written dc_written pm_written cd_written ct_written oc_stands kV_stands dc_stands pm_stands cd_stands ct_stands oc_span kV_span dc_span pm_span cd_span ct_span oc_uspan kV_uspan dc_uspan pm_uspan cd_uspan ct_uspan oc_below kV_below dc_below pm_below cd_below ct_below oc_threshold kV_threshold dc_threshold pm_threshold cd_threshold ct_threshold oc_mirror kV_mirror dc_mirror pm_mirror cd_mirror ct_mirror oc_form kV_form dc_form pm_form cd_form ct_form oc_first_mode kV_first_mode dc_first_mode pm_first_mode cd_first_mode ct_first_mode oc_check_sides kV_check_sides dc_check_sides pm_check_sides cd_check_sides ct_check_sides oc_period_of kV_period_of dc_period_of pm_period_of cd_period_of ct_period_of oc_common_period kV_common_period dc_common_period pm_common_period cd_common_period ct_common_period oc_raisers kV_raisers dc_raisers pm_raisers cd_raisers ct_raisers oc_raises_some kV_raises_some dc_raises_some pm_raises_some cd_raises_some ct_raises_some oc_highest kV_highest dc_highest pm_highest cd_highest ct_highest oc_mirrors kV_mirrors dc_mirrors pm_mirrors cd_mirrors ct_mirrors oc_first_hit kV_first_hit dc_first_hit pm_first_hit cd_first_hit ct_first_hit oc_first_between kV_first_between dc_first_between pm_first_between cd_first_between ct_first_between oc_unraised kV_unraised dc_unraised pm_unraised cd_unraised ct_unraised oc_first_in_block kV_first_in_block dc_first_in_block pm_first_in_block cd_first_in_block ct_first_in_block oc_first_in_both kV_first_in_both dc_first_in_both pm_first_in_both cd_first_in_both ct_first_in_both oc_wide_and_narrow kV_wide_and_narrow dc_wide_and_narrow pm_wide_and_narrow cd_wide_and_narrow ct_wide_and_narrow oc_rounds_up kV_rounds_up dc_rounds_up pm_rounds_up cd_rounds_up ct_rounds_up oc_reach kV_reach dc_reach pm_reach cd_reach ct_reach oc_check_few kV_check_few dc_check_few pm_check_few cd_check_few ct_check_few oc_first_unraised kV_first_unraised dc_first_unraised pm_first_unraised cd_first_unraised ct_first_unraised oc_first_unraised_by_two kV_first_unraised_by_two dc_first_unraised_by_two pm_first_unraised_by_two cd_first_unraised_by_two ct_first_unraised_by_two oc_within kV_within dc_within pm_within cd_within ct_within oc_highest_within kV_highest_within dc_highest_within pm_highest_within cd_highest_within ct_highest_within oc_continued kV_continued dc_continued pm_continued cd_continued ct_continued oc_efforts kV_efforts dc_efforts pm_efforts cd_efforts ct_efforts oc_fewest_up kV_fewest_up dc_fewest_up pm_fewest_up cd_fewest_up ct_fewest_up oc_fewest_up_by_two kV_fewest_up_by_two dc_fewest_up_by_two pm_fewest_up_by_two cd_fewest_up_by_two ct_fewest_up_by_two oc_L_source kV_L_source dc_L_source pm_L_source cd_L_source ct_L_source oc_L_draw kV_L_draw dc_L_draw pm_L_draw cd_L_draw ct_L_draw oc_L_pick kV_L_pick dc_L_pick pm_L_pick cd_L_pick ct_L_pick oc_L_divisor kV_L_divisor dc_L_divisor pm_L_divisor cd_L_divisor ct_L_divisor oc_L_great kV_L_great dc_L_great pm_L_great cd_L_great ct_L_great oc_L_small_side kV_L_small_side dc_L_small_side pm_L_small_side cd_L_small_side ct_L_small_side oc_L_figure kV_L_figure dc_L_figure pm_L_figure cd_L_figure ct_L_figure oc_L_handed kV_L_handed dc_L_handed pm_L_handed cd_L_handed ct_L_handed oc_L_period kV_L_period dc_L_period pm_L_period cd_L_period ct_L_period oc_L_set kV_L_set dc_L_set pm_L_set cd_L_set ct_L_set oc_L_written kV_L_written dc_L_written pm_L_written cd_L_written ct_L_written oc_L_great_side kV_L_great_side dc_L_great_side pm_L_great_side cd_L_great_side ct_L_great_side oc_L_count kV_L_count dc_L_count pm_L_count cd_L_count ct_L_count oc_L_fits kV_L_fits dc_L_fits pm_L_fits cd_L_fits ct_L_fits oc_L_great_fits kV_L_great_fits dc_L_great_fits pm_L_great_fits cd_L_great_fits ct_L_great_fits oc_L_word kV_L_word dc_L_word pm_L_word cd_L_word ct_L_word oc_law kV_law dc_law pm_law cd_law ct_law : Value}
    (a_is_int : PySem.W.nsIn K mainGlobals "is_int" = some (some (.ref f_is_int)))
    (l_is_int : K.lookup f_is_int = some ⟨oc_is_int, od_is_int, .func (PySem.W.fnOf "is_int" "is_int" (defArgs s_is_int) (defBody s_is_int) (defScope s_is_int) .none kV_is_int dc_is_int pm_is_int an_is_int cd_is_int ct_is_int), sl_is_int⟩)
    (c_is_int : PySem.W.codeIn K cd_is_int "is_int" = true) (k_is_int : PySem.W.keepIn K (.ref f_is_int) = true)
    (a_is_int_between : PySem.W.nsIn K mainGlobals "is_int_between" = some (some (.ref f_is_int_between)))
    (l_is_int_between : K.lookup f_is_int_between = some ⟨oc_is_int_between, od_is_int_between, .func (PySem.W.fnOf "is_int_between" "is_int_between" (defArgs s_is_int_between) (defBody s_is_int_between) (defScope s_is_int_between) .none kV_is_int_between dc_is_int_between pm_is_int_between an_is_int_between cd_is_int_between ct_is_int_between), sl_is_int_between⟩)
    (c_is_int_between : PySem.W.codeIn K cd_is_int_between "is_int_between" = true) (k_is_int_between : PySem.W.keepIn K (.ref f_is_int_between) = true)
    (a_check_value : PySem.W.nsIn K mainGlobals "check_value" = some (some (.ref f_check_value)))
    (l_check_value : K.lookup f_check_value = some ⟨oc_check_value, od_check_value, .func (PySem.W.fnOf "check_value" "check_value" (defArgs s_check_value) (defBody s_check_value) (defScope s_check_value) .none kV_check_value dc_check_value pm_check_value an_check_value cd_check_value ct_check_value), sl_check_value⟩)
    (c_check_value : PySem.W.codeIn K cd_check_value "check_value" = true) (k_check_value : PySem.W.keepIn K (.ref f_check_value) = true)
    (a_check_side : PySem.W.nsIn K mainGlobals "check_side" = some (some (.ref f_check_side)))
    (l_check_side : K.lookup f_check_side = some ⟨oc_check_side, od_check_side, .func (PySem.W.fnOf "check_side" "check_side" (defArgs s_check_side) (defBody s_check_side) (defScope s_check_side) .none kV_check_side dc_check_side pm_check_side an_check_side cd_check_side ct_check_side), sl_check_side⟩)
    (c_check_side : PySem.W.codeIn K cd_check_side "check_side" = true) (k_check_side : PySem.W.keepIn K (.ref f_check_side) = true)
    (a_is_side : PySem.W.nsIn K mainGlobals "is_side" = some (some (.ref f_is_side)))
    (l_is_side : K.lookup f_is_side = some ⟨oc_is_side, od_is_side, .func (PySem.W.fnOf "is_side" "is_side" (defArgs s_is_side) (defBody s_is_side) (defScope s_is_side) .none kV_is_side dc_is_side pm_is_side an_is_side cd_is_side ct_is_side), sl_is_side⟩)
    (c_is_side : PySem.W.codeIn K cd_is_side "is_side" = true) (k_is_side : PySem.W.keepIn K (.ref f_is_side) = true)
    (a_figure : PySem.W.nsIn K mainGlobals "_figure" = some (some (.ref f_figure)))
    (l_figure : K.lookup f_figure = some ⟨oc_figure, od_figure, .func (PySem.W.fnOf "_figure" "_figure" (defArgs s_figure) (defBody s_figure) (defScope s_figure) .none kV_figure dc_figure pm_figure an_figure cd_figure ct_figure), sl_figure⟩)
    (c_figure : PySem.W.codeIn K cd_figure "_figure" = true) (k_figure : PySem.W.keepIn K (.ref f_figure) = true)
    (a_goes_up : PySem.W.nsIn K mainGlobals "_goes_up" = some (some (.ref f_goes_up)))
    (l_goes_up : K.lookup f_goes_up = some ⟨oc_goes_up, od_goes_up, .func (PySem.W.fnOf "_goes_up" "_goes_up" (defArgs s_goes_up) (defBody s_goes_up) (defScope s_goes_up) .none kV_goes_up dc_goes_up pm_goes_up an_goes_up cd_goes_up ct_goes_up), sl_goes_up⟩)
    (c_goes_up : PySem.W.codeIn K cd_goes_up "_goes_up" = true) (k_goes_up : PySem.W.keepIn K (.ref f_goes_up) = true)
    (a_written : PySem.W.nsIn K mainGlobals "written" = some (some (.ref f_written)))
    (l_written : K.lookup f_written = some ⟨oc_written, od_written, .func (PySem.W.fnOf "written" "written" (defArgs s_written) (defBody s_written) (defScope s_written) .none kV_written dc_written pm_written an_written cd_written ct_written), sl_written⟩)
    (c_written : PySem.W.codeIn K cd_written "written" = true) (k_written : PySem.W.keepIn K (.ref f_written) = true)
    (a_stands : PySem.W.nsIn K mainGlobals "stands" = some (some (.ref f_stands)))
    (l_stands : K.lookup f_stands = some ⟨oc_stands, od_stands, .func (PySem.W.fnOf "stands" "stands" (defArgs s_stands) (defBody s_stands) (defScope s_stands) .none kV_stands dc_stands pm_stands an_stands cd_stands ct_stands), sl_stands⟩)
    (c_stands : PySem.W.codeIn K cd_stands "stands" = true) (k_stands : PySem.W.keepIn K (.ref f_stands) = true)
    (a_span : PySem.W.nsIn K mainGlobals "span" = some (some (.ref f_span)))
    (l_span : K.lookup f_span = some ⟨oc_span, od_span, .func (PySem.W.fnOf "span" "span" (defArgs s_span) (defBody s_span) (defScope s_span) .none kV_span dc_span pm_span an_span cd_span ct_span), sl_span⟩)
    (c_span : PySem.W.codeIn K cd_span "span" = true) (k_span : PySem.W.keepIn K (.ref f_span) = true)
    (a_uspan : PySem.W.nsIn K mainGlobals "_span" = some (some (.ref f_uspan)))
    (l_uspan : K.lookup f_uspan = some ⟨oc_uspan, od_uspan, .func (PySem.W.fnOf "_span" "_span" (defArgs s_uspan) (defBody s_uspan) (defScope s_uspan) .none kV_uspan dc_uspan pm_uspan an_uspan cd_uspan ct_uspan), sl_uspan⟩)
    (c_uspan : PySem.W.codeIn K cd_uspan "_span" = true) (k_uspan : PySem.W.keepIn K (.ref f_uspan) = true)
    (a_below : PySem.W.nsIn K mainGlobals "_below" = some (some (.ref f_below)))
    (l_below : K.lookup f_below = some ⟨oc_below, od_below, .func (PySem.W.fnOf "_below" "_below" (defArgs s_below) (defBody s_below) (defScope s_below) .none kV_below dc_below pm_below an_below cd_below ct_below), sl_below⟩)
    (c_below : PySem.W.codeIn K cd_below "_below" = true) (k_below : PySem.W.keepIn K (.ref f_below) = true)
    (a_threshold : PySem.W.nsIn K mainGlobals "threshold" = some (some (.ref f_threshold)))
    (l_threshold : K.lookup f_threshold = some ⟨oc_threshold, od_threshold, .func (PySem.W.fnOf "threshold" "threshold" (defArgs s_threshold) (defBody s_threshold) (defScope s_threshold) .none kV_threshold dc_threshold pm_threshold an_threshold cd_threshold ct_threshold), sl_threshold⟩)
    (c_threshold : PySem.W.codeIn K cd_threshold "threshold" = true) (k_threshold : PySem.W.keepIn K (.ref f_threshold) = true)
    (a_mirror : PySem.W.nsIn K mainGlobals "mirror" = some (some (.ref f_mirror)))
    (l_mirror : K.lookup f_mirror = some ⟨oc_mirror, od_mirror, .func (PySem.W.fnOf "mirror" "mirror" (defArgs s_mirror) (defBody s_mirror) (defScope s_mirror) .none kV_mirror dc_mirror pm_mirror an_mirror cd_mirror ct_mirror), sl_mirror⟩)
    (c_mirror : PySem.W.codeIn K cd_mirror "mirror" = true) (k_mirror : PySem.W.keepIn K (.ref f_mirror) = true)
    (a_form : PySem.W.nsIn K mainGlobals "form" = some (some (.ref f_form)))
    (l_form : K.lookup f_form = some ⟨oc_form, od_form, .func (PySem.W.fnOf "form" "form" (defArgs s_form) (defBody s_form) (defScope s_form) .none kV_form dc_form pm_form an_form cd_form ct_form), sl_form⟩)
    (c_form : PySem.W.codeIn K cd_form "form" = true) (k_form : PySem.W.keepIn K (.ref f_form) = true)
    (a_first_mode : PySem.W.nsIn K mainGlobals "_first_mode" = some (some (.ref f_first_mode)))
    (l_first_mode : K.lookup f_first_mode = some ⟨oc_first_mode, od_first_mode, .func (PySem.W.fnOf "_first_mode" "_first_mode" (defArgs s_first_mode) (defBody s_first_mode) (defScope s_first_mode) .none kV_first_mode dc_first_mode pm_first_mode an_first_mode cd_first_mode ct_first_mode), sl_first_mode⟩)
    (c_first_mode : PySem.W.codeIn K cd_first_mode "_first_mode" = true) (k_first_mode : PySem.W.keepIn K (.ref f_first_mode) = true)
    (a_check_sides : PySem.W.nsIn K mainGlobals "check_sides" = some (some (.ref f_check_sides)))
    (l_check_sides : K.lookup f_check_sides = some ⟨oc_check_sides, od_check_sides, .func (PySem.W.fnOf "check_sides" "check_sides" (defArgs s_check_sides) (defBody s_check_sides) (defScope s_check_sides) .none kV_check_sides dc_check_sides pm_check_sides an_check_sides cd_check_sides ct_check_sides), sl_check_sides⟩)
    (c_check_sides : PySem.W.codeIn K cd_check_sides "check_sides" = true) (k_check_sides : PySem.W.keepIn K (.ref f_check_sides) = true)
    (a_period_of : PySem.W.nsIn K mainGlobals "period_of" = some (some (.ref f_period_of)))
    (l_period_of : K.lookup f_period_of = some ⟨oc_period_of, od_period_of, .func (PySem.W.fnOf "period_of" "period_of" (defArgs s_period_of) (defBody s_period_of) (defScope s_period_of) .none kV_period_of dc_period_of pm_period_of an_period_of cd_period_of ct_period_of), sl_period_of⟩)
    (c_period_of : PySem.W.codeIn K cd_period_of "period_of" = true) (k_period_of : PySem.W.keepIn K (.ref f_period_of) = true)
    (a_common_period : PySem.W.nsIn K mainGlobals "common_period" = some (some (.ref f_common_period)))
    (l_common_period : K.lookup f_common_period = some ⟨oc_common_period, od_common_period, .func (PySem.W.fnOf "common_period" "common_period" (defArgs s_common_period) (defBody s_common_period) (defScope s_common_period) .none kV_common_period dc_common_period pm_common_period an_common_period cd_common_period ct_common_period), sl_common_period⟩)
    (c_common_period : PySem.W.codeIn K cd_common_period "common_period" = true) (k_common_period : PySem.W.keepIn K (.ref f_common_period) = true)
    (a_raisers : PySem.W.nsIn K mainGlobals "raisers" = some (some (.ref f_raisers)))
    (l_raisers : K.lookup f_raisers = some ⟨oc_raisers, od_raisers, .func (PySem.W.fnOf "raisers" "raisers" (defArgs s_raisers) (defBody s_raisers) (defScope s_raisers) .none kV_raisers dc_raisers pm_raisers an_raisers cd_raisers ct_raisers), sl_raisers⟩)
    (c_raisers : PySem.W.codeIn K cd_raisers "raisers" = true) (k_raisers : PySem.W.keepIn K (.ref f_raisers) = true)
    (a_raises_some : PySem.W.nsIn K mainGlobals "_raises_some" = some (some (.ref f_raises_some)))
    (l_raises_some : K.lookup f_raises_some = some ⟨oc_raises_some, od_raises_some, .func (PySem.W.fnOf "_raises_some" "_raises_some" (defArgs s_raises_some) (defBody s_raises_some) (defScope s_raises_some) .none kV_raises_some dc_raises_some pm_raises_some an_raises_some cd_raises_some ct_raises_some), sl_raises_some⟩)
    (c_raises_some : PySem.W.codeIn K cd_raises_some "_raises_some" = true) (k_raises_some : PySem.W.keepIn K (.ref f_raises_some) = true)
    (a_highest : PySem.W.nsIn K mainGlobals "highest" = some (some (.ref f_highest)))
    (l_highest : K.lookup f_highest = some ⟨oc_highest, od_highest, .func (PySem.W.fnOf "highest" "highest" (defArgs s_highest) (defBody s_highest) (defScope s_highest) .none kV_highest dc_highest pm_highest an_highest cd_highest ct_highest), sl_highest⟩)
    (c_highest : PySem.W.codeIn K cd_highest "highest" = true) (k_highest : PySem.W.keepIn K (.ref f_highest) = true)
    (a_mirrors : PySem.W.nsIn K mainGlobals "mirrors" = some (some (.ref f_mirrors)))
    (l_mirrors : K.lookup f_mirrors = some ⟨oc_mirrors, od_mirrors, .func (PySem.W.fnOf "mirrors" "mirrors" (defArgs s_mirrors) (defBody s_mirrors) (defScope s_mirrors) .none kV_mirrors dc_mirrors pm_mirrors an_mirrors cd_mirrors ct_mirrors), sl_mirrors⟩)
    (c_mirrors : PySem.W.codeIn K cd_mirrors "mirrors" = true) (k_mirrors : PySem.W.keepIn K (.ref f_mirrors) = true)
    (a_first_hit : PySem.W.nsIn K mainGlobals "first_hit" = some (some (.ref f_first_hit)))
    (l_first_hit : K.lookup f_first_hit = some ⟨oc_first_hit, od_first_hit, .func (PySem.W.fnOf "first_hit" "first_hit" (defArgs s_first_hit) (defBody s_first_hit) (defScope s_first_hit) .none kV_first_hit dc_first_hit pm_first_hit an_first_hit cd_first_hit ct_first_hit), sl_first_hit⟩)
    (c_first_hit : PySem.W.codeIn K cd_first_hit "first_hit" = true) (k_first_hit : PySem.W.keepIn K (.ref f_first_hit) = true)
    (a_first_between : PySem.W.nsIn K mainGlobals "_first_between" = some (some (.ref f_first_between)))
    (l_first_between : K.lookup f_first_between = some ⟨oc_first_between, od_first_between, .func (PySem.W.fnOf "_first_between" "_first_between" (defArgs s_first_between) (defBody s_first_between) (defScope s_first_between) .none kV_first_between dc_first_between pm_first_between an_first_between cd_first_between ct_first_between), sl_first_between⟩)
    (c_first_between : PySem.W.codeIn K cd_first_between "_first_between" = true) (k_first_between : PySem.W.keepIn K (.ref f_first_between) = true)
    (a_unraised : PySem.W.nsIn K mainGlobals "unraised" = some (some (.ref f_unraised)))
    (l_unraised : K.lookup f_unraised = some ⟨oc_unraised, od_unraised, .func (PySem.W.fnOf "unraised" "unraised" (defArgs s_unraised) (defBody s_unraised) (defScope s_unraised) (.ref aU) kV_unraised dc_unraised pm_unraised an_unraised cd_unraised ct_unraised), sl_unraised⟩)
    (c_unraised : PySem.W.codeIn K cd_unraised "unraised" = true) (k_unraised : PySem.W.keepIn K (.ref f_unraised) = true)
    (a_first_in_block : PySem.W.nsIn K mainGlobals "first_in_block" = some (some (.ref f_first_in_block)))
    (l_first_in_block : K.lookup f_first_in_block = some ⟨oc_first_in_block, od_first_in_block, .func (PySem.W.fnOf "first_in_block" "first_in_block" (defArgs s_first_in_block) (defBody s_first_in_block) (defScope s_first_in_block) .none kV_first_in_block dc_first_in_block pm_first_in_block an_first_in_block cd_first_in_block ct_first_in_block), sl_first_in_block⟩)
    (c_first_in_block : PySem.W.codeIn K cd_first_in_block "first_in_block" = true) (k_first_in_block : PySem.W.keepIn K (.ref f_first_in_block) = true)
    (a_first_in_both : PySem.W.nsIn K mainGlobals "first_in_both" = some (some (.ref f_first_in_both)))
    (l_first_in_both : K.lookup f_first_in_both = some ⟨oc_first_in_both, od_first_in_both, .func (PySem.W.fnOf "first_in_both" "first_in_both" (defArgs s_first_in_both) (defBody s_first_in_both) (defScope s_first_in_both) .none kV_first_in_both dc_first_in_both pm_first_in_both an_first_in_both cd_first_in_both ct_first_in_both), sl_first_in_both⟩)
    (c_first_in_both : PySem.W.codeIn K cd_first_in_both "first_in_both" = true) (k_first_in_both : PySem.W.keepIn K (.ref f_first_in_both) = true)
    (a_wide_and_narrow : PySem.W.nsIn K mainGlobals "wide_and_narrow" = some (some (.ref f_wide_and_narrow)))
    (l_wide_and_narrow : K.lookup f_wide_and_narrow = some ⟨oc_wide_and_narrow, od_wide_and_narrow, .func (PySem.W.fnOf "wide_and_narrow" "wide_and_narrow" (defArgs s_wide_and_narrow) (defBody s_wide_and_narrow) (defScope s_wide_and_narrow) .none kV_wide_and_narrow dc_wide_and_narrow pm_wide_and_narrow an_wide_and_narrow cd_wide_and_narrow ct_wide_and_narrow), sl_wide_and_narrow⟩)
    (c_wide_and_narrow : PySem.W.codeIn K cd_wide_and_narrow "wide_and_narrow" = true) (k_wide_and_narrow : PySem.W.keepIn K (.ref f_wide_and_narrow) = true)
    (a_rounds_up : PySem.W.nsIn K mainGlobals "rounds_up" = some (some (.ref f_rounds_up)))
    (l_rounds_up : K.lookup f_rounds_up = some ⟨oc_rounds_up, od_rounds_up, .func (PySem.W.fnOf "rounds_up" "rounds_up" (defArgs s_rounds_up) (defBody s_rounds_up) (defScope s_rounds_up) .none kV_rounds_up dc_rounds_up pm_rounds_up an_rounds_up cd_rounds_up ct_rounds_up), sl_rounds_up⟩)
    (c_rounds_up : PySem.W.codeIn K cd_rounds_up "rounds_up" = true) (k_rounds_up : PySem.W.keepIn K (.ref f_rounds_up) = true)
    (a_reach : PySem.W.nsIn K mainGlobals "reach" = some (some (.ref f_reach)))
    (l_reach : K.lookup f_reach = some ⟨oc_reach, od_reach, .func (PySem.W.fnOf "reach" "reach" (defArgs s_reach) (defBody s_reach) (defScope s_reach) .none kV_reach dc_reach pm_reach an_reach cd_reach ct_reach), sl_reach⟩)
    (c_reach : PySem.W.codeIn K cd_reach "reach" = true) (k_reach : PySem.W.keepIn K (.ref f_reach) = true)
    (a_check_few : PySem.W.nsIn K mainGlobals "_check_few" = some (some (.ref f_check_few)))
    (l_check_few : K.lookup f_check_few = some ⟨oc_check_few, od_check_few, .func (PySem.W.fnOf "_check_few" "_check_few" (defArgs s_check_few) (defBody s_check_few) (defScope s_check_few) .none kV_check_few dc_check_few pm_check_few an_check_few cd_check_few ct_check_few), sl_check_few⟩)
    (c_check_few : PySem.W.codeIn K cd_check_few "_check_few" = true) (k_check_few : PySem.W.keepIn K (.ref f_check_few) = true)
    (a_first_unraised : PySem.W.nsIn K mainGlobals "_first_unraised" = some (some (.ref f_first_unraised)))
    (l_first_unraised : K.lookup f_first_unraised = some ⟨oc_first_unraised, od_first_unraised, .func (PySem.W.fnOf "_first_unraised" "_first_unraised" (defArgs s_first_unraised) (defBody s_first_unraised) (defScope s_first_unraised) .none kV_first_unraised dc_first_unraised pm_first_unraised an_first_unraised cd_first_unraised ct_first_unraised), sl_first_unraised⟩)
    (c_first_unraised : PySem.W.codeIn K cd_first_unraised "_first_unraised" = true) (k_first_unraised : PySem.W.keepIn K (.ref f_first_unraised) = true)
    (a_first_unraised_by_two : PySem.W.nsIn K mainGlobals "_first_unraised_by_two" = some (some (.ref f_first_unraised_by_two)))
    (l_first_unraised_by_two : K.lookup f_first_unraised_by_two = some ⟨oc_first_unraised_by_two, od_first_unraised_by_two, .func (PySem.W.fnOf "_first_unraised_by_two" "_first_unraised_by_two" (defArgs s_first_unraised_by_two) (defBody s_first_unraised_by_two) (defScope s_first_unraised_by_two) .none kV_first_unraised_by_two dc_first_unraised_by_two pm_first_unraised_by_two an_first_unraised_by_two cd_first_unraised_by_two ct_first_unraised_by_two), sl_first_unraised_by_two⟩)
    (c_first_unraised_by_two : PySem.W.codeIn K cd_first_unraised_by_two "_first_unraised_by_two" = true) (k_first_unraised_by_two : PySem.W.keepIn K (.ref f_first_unraised_by_two) = true)
    (a_within : PySem.W.nsIn K mainGlobals "within" = some (some (.ref f_within)))
    (l_within : K.lookup f_within = some ⟨oc_within, od_within, .func (PySem.W.fnOf "within" "within" (defArgs s_within) (defBody s_within) (defScope s_within) .none kV_within dc_within pm_within an_within cd_within ct_within), sl_within⟩)
    (c_within : PySem.W.codeIn K cd_within "within" = true) (k_within : PySem.W.keepIn K (.ref f_within) = true)
    (a_highest_within : PySem.W.nsIn K mainGlobals "_highest_within" = some (some (.ref f_highest_within)))
    (l_highest_within : K.lookup f_highest_within = some ⟨oc_highest_within, od_highest_within, .func (PySem.W.fnOf "_highest_within" "_highest_within" (defArgs s_highest_within) (defBody s_highest_within) (defScope s_highest_within) .none kV_highest_within dc_highest_within pm_highest_within an_highest_within cd_highest_within ct_highest_within), sl_highest_within⟩)
    (c_highest_within : PySem.W.codeIn K cd_highest_within "_highest_within" = true) (k_highest_within : PySem.W.keepIn K (.ref f_highest_within) = true)
    (a_continued : PySem.W.nsIn K mainGlobals "_continued" = some (some (.ref f_continued)))
    (l_continued : K.lookup f_continued = some ⟨oc_continued, od_continued, .func (PySem.W.fnOf "_continued" "_continued" (defArgs s_continued) (defBody s_continued) (defScope s_continued) .none kV_continued dc_continued pm_continued an_continued cd_continued ct_continued), sl_continued⟩)
    (c_continued : PySem.W.codeIn K cd_continued "_continued" = true) (k_continued : PySem.W.keepIn K (.ref f_continued) = true)
    (a_efforts : PySem.W.nsIn K mainGlobals "efforts" = some (some (.ref f_efforts)))
    (l_efforts : K.lookup f_efforts = some ⟨oc_efforts, od_efforts, .func (PySem.W.fnOf "efforts" "efforts" (defArgs s_efforts) (defBody s_efforts) (defScope s_efforts) .none kV_efforts dc_efforts pm_efforts an_efforts cd_efforts ct_efforts), sl_efforts⟩)
    (c_efforts : PySem.W.codeIn K cd_efforts "efforts" = true) (k_efforts : PySem.W.keepIn K (.ref f_efforts) = true)
    (a_fewest_up : PySem.W.nsIn K mainGlobals "_fewest_up" = some (some (.ref f_fewest_up)))
    (l_fewest_up : K.lookup f_fewest_up = some ⟨oc_fewest_up, od_fewest_up, .func (PySem.W.fnOf "_fewest_up" "_fewest_up" (defArgs s_fewest_up) (defBody s_fewest_up) (defScope s_fewest_up) .none kV_fewest_up dc_fewest_up pm_fewest_up an_fewest_up cd_fewest_up ct_fewest_up), sl_fewest_up⟩)
    (c_fewest_up : PySem.W.codeIn K cd_fewest_up "_fewest_up" = true) (k_fewest_up : PySem.W.keepIn K (.ref f_fewest_up) = true)
    (a_fewest_up_by_two : PySem.W.nsIn K mainGlobals "_fewest_up_by_two" = some (some (.ref f_fewest_up_by_two)))
    (l_fewest_up_by_two : K.lookup f_fewest_up_by_two = some ⟨oc_fewest_up_by_two, od_fewest_up_by_two, .func (PySem.W.fnOf "_fewest_up_by_two" "_fewest_up_by_two" (defArgs s_fewest_up_by_two) (defBody s_fewest_up_by_two) (defScope s_fewest_up_by_two) .none kV_fewest_up_by_two dc_fewest_up_by_two pm_fewest_up_by_two an_fewest_up_by_two cd_fewest_up_by_two ct_fewest_up_by_two), sl_fewest_up_by_two⟩)
    (c_fewest_up_by_two : PySem.W.codeIn K cd_fewest_up_by_two "_fewest_up_by_two" = true) (k_fewest_up_by_two : PySem.W.keepIn K (.ref f_fewest_up_by_two) = true)
    (a_L_source : PySem.W.nsIn K mainGlobals "_law_source" = some (some (.ref f_L_source)))
    (l_L_source : K.lookup f_L_source = some ⟨oc_L_source, od_L_source, .func (PySem.W.fnOf "_law_source" "_law_source" (defArgs s_L_source) (defBody s_L_source) (defScope s_L_source) .none kV_L_source dc_L_source pm_L_source an_L_source cd_L_source ct_L_source), sl_L_source⟩)
    (c_L_source : PySem.W.codeIn K cd_L_source "_law_source" = true) (k_L_source : PySem.W.keepIn K (.ref f_L_source) = true)
    (a_L_draw : PySem.W.nsIn K mainGlobals "_law_draw" = some (some (.ref f_L_draw)))
    (l_L_draw : K.lookup f_L_draw = some ⟨oc_L_draw, od_L_draw, .func (PySem.W.fnOf "_law_draw" "_law_draw" (defArgs s_L_draw) (defBody s_L_draw) (defScope s_L_draw) .none kV_L_draw dc_L_draw pm_L_draw an_L_draw cd_L_draw ct_L_draw), sl_L_draw⟩)
    (c_L_draw : PySem.W.codeIn K cd_L_draw "_law_draw" = true) (k_L_draw : PySem.W.keepIn K (.ref f_L_draw) = true)
    (a_L_pick : PySem.W.nsIn K mainGlobals "_law_pick" = some (some (.ref f_L_pick)))
    (l_L_pick : K.lookup f_L_pick = some ⟨oc_L_pick, od_L_pick, .func (PySem.W.fnOf "_law_pick" "_law_pick" (defArgs s_L_pick) (defBody s_L_pick) (defScope s_L_pick) .none kV_L_pick dc_L_pick pm_L_pick an_L_pick cd_L_pick ct_L_pick), sl_L_pick⟩)
    (c_L_pick : PySem.W.codeIn K cd_L_pick "_law_pick" = true) (k_L_pick : PySem.W.keepIn K (.ref f_L_pick) = true)
    (a_L_divisor : PySem.W.nsIn K mainGlobals "_law_divisor" = some (some (.ref f_L_divisor)))
    (l_L_divisor : K.lookup f_L_divisor = some ⟨oc_L_divisor, od_L_divisor, .func (PySem.W.fnOf "_law_divisor" "_law_divisor" (defArgs s_L_divisor) (defBody s_L_divisor) (defScope s_L_divisor) .none kV_L_divisor dc_L_divisor pm_L_divisor an_L_divisor cd_L_divisor ct_L_divisor), sl_L_divisor⟩)
    (c_L_divisor : PySem.W.codeIn K cd_L_divisor "_law_divisor" = true) (k_L_divisor : PySem.W.keepIn K (.ref f_L_divisor) = true)
    (a_L_great : PySem.W.nsIn K mainGlobals "_law_great" = some (some (.ref f_L_great)))
    (l_L_great : K.lookup f_L_great = some ⟨oc_L_great, od_L_great, .func (PySem.W.fnOf "_law_great" "_law_great" (defArgs s_L_great) (defBody s_L_great) (defScope s_L_great) .none kV_L_great dc_L_great pm_L_great an_L_great cd_L_great ct_L_great), sl_L_great⟩)
    (c_L_great : PySem.W.codeIn K cd_L_great "_law_great" = true) (k_L_great : PySem.W.keepIn K (.ref f_L_great) = true)
    (a_L_small_side : PySem.W.nsIn K mainGlobals "_law_small_side" = some (some (.ref f_L_small_side)))
    (l_L_small_side : K.lookup f_L_small_side = some ⟨oc_L_small_side, od_L_small_side, .func (PySem.W.fnOf "_law_small_side" "_law_small_side" (defArgs s_L_small_side) (defBody s_L_small_side) (defScope s_L_small_side) .none kV_L_small_side dc_L_small_side pm_L_small_side an_L_small_side cd_L_small_side ct_L_small_side), sl_L_small_side⟩)
    (c_L_small_side : PySem.W.codeIn K cd_L_small_side "_law_small_side" = true) (k_L_small_side : PySem.W.keepIn K (.ref f_L_small_side) = true)
    (a_L_figure : PySem.W.nsIn K mainGlobals "_law_figure" = some (some (.ref f_L_figure)))
    (l_L_figure : K.lookup f_L_figure = some ⟨oc_L_figure, od_L_figure, .func (PySem.W.fnOf "_law_figure" "_law_figure" (defArgs s_L_figure) (defBody s_L_figure) (defScope s_L_figure) .none kV_L_figure dc_L_figure pm_L_figure an_L_figure cd_L_figure ct_L_figure), sl_L_figure⟩)
    (c_L_figure : PySem.W.codeIn K cd_L_figure "_law_figure" = true) (k_L_figure : PySem.W.keepIn K (.ref f_L_figure) = true)
    (a_L_handed : PySem.W.nsIn K mainGlobals "_law_handed" = some (some (.ref f_L_handed)))
    (l_L_handed : K.lookup f_L_handed = some ⟨oc_L_handed, od_L_handed, .func (PySem.W.fnOf "_law_handed" "_law_handed" (defArgs s_L_handed) (defBody s_L_handed) (defScope s_L_handed) .none kV_L_handed dc_L_handed pm_L_handed an_L_handed cd_L_handed ct_L_handed), sl_L_handed⟩)
    (c_L_handed : PySem.W.codeIn K cd_L_handed "_law_handed" = true) (k_L_handed : PySem.W.keepIn K (.ref f_L_handed) = true)
    (a_L_period : PySem.W.nsIn K mainGlobals "_law_period" = some (some (.ref f_L_period)))
    (l_L_period : K.lookup f_L_period = some ⟨oc_L_period, od_L_period, .func (PySem.W.fnOf "_law_period" "_law_period" (defArgs s_L_period) (defBody s_L_period) (defScope s_L_period) .none kV_L_period dc_L_period pm_L_period an_L_period cd_L_period ct_L_period), sl_L_period⟩)
    (c_L_period : PySem.W.codeIn K cd_L_period "_law_period" = true) (k_L_period : PySem.W.keepIn K (.ref f_L_period) = true)
    (a_L_set : PySem.W.nsIn K mainGlobals "_law_set" = some (some (.ref f_L_set)))
    (l_L_set : K.lookup f_L_set = some ⟨oc_L_set, od_L_set, .func (PySem.W.fnOf "_law_set" "_law_set" (defArgs s_L_set) (defBody s_L_set) (defScope s_L_set) .none kV_L_set dc_L_set pm_L_set an_L_set cd_L_set ct_L_set), sl_L_set⟩)
    (c_L_set : PySem.W.codeIn K cd_L_set "_law_set" = true) (k_L_set : PySem.W.keepIn K (.ref f_L_set) = true)
    (a_L_written : PySem.W.nsIn K mainGlobals "_law_written" = some (some (.ref f_L_written)))
    (l_L_written : K.lookup f_L_written = some ⟨oc_L_written, od_L_written, .func (PySem.W.fnOf "_law_written" "_law_written" (defArgs s_L_written) (defBody s_L_written) (defScope s_L_written) .none kV_L_written dc_L_written pm_L_written an_L_written cd_L_written ct_L_written), sl_L_written⟩)
    (c_L_written : PySem.W.codeIn K cd_L_written "_law_written" = true) (k_L_written : PySem.W.keepIn K (.ref f_L_written) = true)
    (a_L_great_side : PySem.W.nsIn K mainGlobals "_law_great_side" = some (some (.ref f_L_great_side)))
    (l_L_great_side : K.lookup f_L_great_side = some ⟨oc_L_great_side, od_L_great_side, .func (PySem.W.fnOf "_law_great_side" "_law_great_side" (defArgs s_L_great_side) (defBody s_L_great_side) (defScope s_L_great_side) .none kV_L_great_side dc_L_great_side pm_L_great_side an_L_great_side cd_L_great_side ct_L_great_side), sl_L_great_side⟩)
    (c_L_great_side : PySem.W.codeIn K cd_L_great_side "_law_great_side" = true) (k_L_great_side : PySem.W.keepIn K (.ref f_L_great_side) = true)
    (a_L_count : PySem.W.nsIn K mainGlobals "_law_count" = some (some (.ref f_L_count)))
    (l_L_count : K.lookup f_L_count = some ⟨oc_L_count, od_L_count, .func (PySem.W.fnOf "_law_count" "_law_count" (defArgs s_L_count) (defBody s_L_count) (defScope s_L_count) .none kV_L_count dc_L_count pm_L_count an_L_count cd_L_count ct_L_count), sl_L_count⟩)
    (c_L_count : PySem.W.codeIn K cd_L_count "_law_count" = true) (k_L_count : PySem.W.keepIn K (.ref f_L_count) = true)
    (a_L_fits : PySem.W.nsIn K mainGlobals "_law_fits" = some (some (.ref f_L_fits)))
    (l_L_fits : K.lookup f_L_fits = some ⟨oc_L_fits, od_L_fits, .func (PySem.W.fnOf "_law_fits" "_law_fits" (defArgs s_L_fits) (defBody s_L_fits) (defScope s_L_fits) .none kV_L_fits dc_L_fits pm_L_fits an_L_fits cd_L_fits ct_L_fits), sl_L_fits⟩)
    (c_L_fits : PySem.W.codeIn K cd_L_fits "_law_fits" = true) (k_L_fits : PySem.W.keepIn K (.ref f_L_fits) = true)
    (a_L_great_fits : PySem.W.nsIn K mainGlobals "_law_great_fits" = some (some (.ref f_L_great_fits)))
    (l_L_great_fits : K.lookup f_L_great_fits = some ⟨oc_L_great_fits, od_L_great_fits, .func (PySem.W.fnOf "_law_great_fits" "_law_great_fits" (defArgs s_L_great_fits) (defBody s_L_great_fits) (defScope s_L_great_fits) .none kV_L_great_fits dc_L_great_fits pm_L_great_fits an_L_great_fits cd_L_great_fits ct_L_great_fits), sl_L_great_fits⟩)
    (c_L_great_fits : PySem.W.codeIn K cd_L_great_fits "_law_great_fits" = true) (k_L_great_fits : PySem.W.keepIn K (.ref f_L_great_fits) = true)
    (a_L_word : PySem.W.nsIn K mainGlobals "_law_word" = some (some (.ref f_L_word)))
    (l_L_word : K.lookup f_L_word = some ⟨oc_L_word, od_L_word, .func (PySem.W.fnOf "_law_word" "_law_word" (defArgs s_L_word) (defBody s_L_word) (defScope s_L_word) .none kV_L_word dc_L_word pm_L_word an_L_word cd_L_word ct_L_word), sl_L_word⟩)
    (c_L_word : PySem.W.codeIn K cd_L_word "_law_word" = true) (k_L_word : PySem.W.keepIn K (.ref f_L_word) = true)
    (a_law : PySem.W.nsIn K mainGlobals "law" = some (some (.ref f_law)))
    (l_law : K.lookup f_law = some ⟨oc_law, od_law, .func (PySem.W.fnOf "law" "law" (defArgs s_law) (defBody s_law) (defScope s_law) .none kV_law dc_law pm_law an_law cd_law ct_law), sl_law⟩)
    (c_law : PySem.W.codeIn K cd_law "law" = true) (k_law : PySem.W.keepIn K (.ref f_law) = true)
    (z_len : PySem.W.nsIn K mainGlobals "len" = some none)
    (z_abs : PySem.W.nsIn K mainGlobals "abs" = some none)
    (z_int : PySem.W.nsIn K mainGlobals "int" = some none)
    (z_range : PySem.W.nsIn K mainGlobals "range" = some none)
    (z_isinstance : PySem.W.nsIn K mainGlobals "isinstance" = some none)
    (z_bool : PySem.W.nsIn K mainGlobals "bool" = some none)
    (z_tuple : PySem.W.nsIn K mainGlobals "tuple" = some none)
    (z_divmod : PySem.W.nsIn K mainGlobals "divmod" = some none)
    (z_max : PySem.W.nsIn K mainGlobals "max" = some none)
    (z_min : PySem.W.nsIn K mainGlobals "min" = some none)
    (z_list : PySem.W.nsIn K mainGlobals "list" = some none)
    (z_sorted : PySem.W.nsIn K mainGlobals "sorted" = some none)
    (z_enumerate : PySem.W.nsIn K mainGlobals "enumerate" = some none)
    (z_ValueError : PySem.W.nsIn K mainGlobals "ValueError" = some none)
    (g_0 : PySem.W.nsIn K mainGlobals "InvalidSide" = some (some (.ref c0)))
    (g_1 : PySem.W.nsIn K mainGlobals "InvalidSides" = some (some (.ref c1)))
    (g_2 : PySem.W.nsIn K mainGlobals "TooMany" = some (some (.ref c2)))
    (g_3 : PySem.W.nsIn K mainGlobals "InvalidValue" = some (some (.ref c3)))
    (g_B : PySem.W.nsIn K mainGlobals "HandedError" = some (some (.ref cB)))
    (et_0 : erT K (cAt [c0, c1, c2, c3]) cB 0 = true)
    (et_1 : erT K (cAt [c0, c1, c2, c3]) cB 1 = true)
    (et_2 : erT K (cAt [c0, c1, c2, c3]) cB 2 = true)
    (et_3 : erT K (cAt [c0, c1, c2, c3]) cB 3 = true)
    (em_0 : PySem.W.exmOne K (.ref c0) (.ref c0) = some true)
    (gsp : PySem.W.specialIn K (.builtin "object.__class__") "__get__" = some (some (.builtin "getset_descriptor.__get__")))
    (gtk : PySem.W.takesIn K (.builtin "object.__class__") = some true)
    (a_MS : PySem.W.nsIn K mainGlobals "MOST_SIDES" = some (some (.int 4 tMS)))
    (a_MP : PySem.W.nsIn K mainGlobals "MOST_PERIOD" = some (some (.int 100000 tMP)))
    (a_MN : PySem.W.nsIn K mainGlobals "MOST_NUMBER" = some (some (.int (10 ^ 40) tMN)))
    (a_MR : PySem.W.nsIn K mainGlobals "MOST_ROWS" = some (some (.int 10000 tMR)))
    (a_lcm : PySem.W.nsIn K mainGlobals "lcm" = some (some (.builtin "math.lcm")))
    (l_U : K.lookup aU = some ⟨.type "tuple", odU, .seq itsU nU, slU⟩)
    (v_U : Vals [V.int 1] itsU.toList)
    (a_MODES : PySem.W.nsIn K mainGlobals "MODES" = some (some (.ref aM)))
    (l_MODES : K.lookup aM = some ⟨.type "tuple", odM, .seq itsM nM, slM⟩)
    (v_MODES : itsM.size ≤ sizeLine ∧ Vals modesV itsM.toList)
    (a_MIR : PySem.W.nsIn K mainGlobals "MIRRORED" = some (some (.ref aR)))
    (l_MIR : K.lookup aR = some ⟨.type "dict", none, .dict esR nR, #[]⟩)
    (h_MIR : PySem.W.KeysLit w.params esR.toList)
    (d_down : PySem.W.nsIn K aR "down" = some (some u_down)) (r_down : RelV (.str "up") u_down)
    (d_up : PySem.W.nsIn K aR "up" = some (some u_up)) (r_up : RelV (.str "down") u_up)
    (d_half_down : PySem.W.nsIn K aR "half_down" = some (some u_half_down)) (r_half_down : RelV (.str "half_up") u_half_down)
    (d_half_up : PySem.W.nsIn K aR "half_up" = some (some u_half_up)) (r_half_up : RelV (.str "half_down") u_half_up)
    (d_half_even : PySem.W.nsIn K aR "half_even" = some (some u_half_even)) (r_half_even : RelV (.str "half_even") u_half_even) :
    ∃ fd : FuncData, (∀ (s : Shared) (v : Value), BindsTo s fd ⟨[v], []⟩ [("_law_script", v)]) ∧ ∀ base : Heap, K.In base → base.Ns mainGlobals mg → FnOk l.prog w K mg base CX0 111 fa fd ["_law_script"] (spLaw K) := by
  have e := hfa.symm.trans (PySem.W.mg_of X G a_law)
  cases e
  have F_is_int := fun_mk (st := s_is_int) l_is_int c_is_int k_is_int
  have b_is_int := F_is_int.binds (ps := ["thing"]) fun _ _ _ _ _ _ us hl => match us, hl with | [_], _ => rfl
  have m_is_int := PySem.W.mg_of X G a_is_int
  have F_is_int_between := fun_mk (st := s_is_int_between) l_is_int_between c_is_int_between k_is_int_between
  have b_is_int_between := F_is_int_between.binds (ps := ["thing", "least", "most"]) fun _ _ _ _ _ _ us hl => match us, hl with | [_, _, _], _ => rfl
  have m_is_int_between := PySem.W.mg_of X G a_is_int_between
  have F_check_value := fun_mk (st := s_check_value) l_check_value c_check_value k_check_value
  have b_check_value := F_check_value.binds (ps := ["value"]) fun _ _ _ _ _ _ us hl => match us, hl with | [_], _ => rfl
  have m_check_value := PySem.W.mg_of X G a_check_value
  have F_check_side := fun_mk (st := s_check_side) l_check_side c_check_side k_check_side
  have b_check_side := F_check_side.binds (ps := ["side"]) fun _ _ _ _ _ _ us hl => match us, hl with | [_], _ => rfl
  have m_check_side := PySem.W.mg_of X G a_check_side
  have F_is_side := fun_mk (st := s_is_side) l_is_side c_is_side k_is_side
  have b_is_side := F_is_side.binds (ps := ["thing"]) fun _ _ _ _ _ _ us hl => match us, hl with | [_], _ => rfl
  have m_is_side := PySem.W.mg_of X G a_is_side
  have F_figure := fun_mk (st := s_figure) l_figure c_figure k_figure
  have b_figure := F_figure.binds (ps := ["side", "value"]) fun _ _ _ _ _ _ us hl => match us, hl with | [_, _], _ => rfl
  have m_figure := PySem.W.mg_of X G a_figure
  have F_goes_up := fun_mk (st := s_goes_up) l_goes_up c_goes_up k_goes_up
  have b_goes_up := F_goes_up.binds (ps := ["mode", "step", "figure", "rest"]) fun _ _ _ _ _ _ us hl => match us, hl with | [_, _, _, _], _ => rfl
  have m_goes_up := PySem.W.mg_of X G a_goes_up
  have F_written := fun_mk (st := s_written) l_written c_written k_written
  have b_written := F_written.binds (ps := ["side", "value"]) fun _ _ _ _ _ _ us hl => match us, hl with | [_, _], _ => rfl
  have m_written := PySem.W.mg_of X G a_written
  have F_stands := fun_mk (st := s_stands) l_stands c_stands k_stands
  have b_stands := F_stands.binds (ps := ["side", "value"]) fun _ _ _ _ _ _ us hl => match us, hl with | [_, _], _ => rfl
  have m_stands := PySem.W.mg_of X G a_stands
  have F_span := fun_mk (st := s_span) l_span c_span k_span
  have b_span := F_span.binds (ps := ["side", "figure"]) fun _ _ _ _ _ _ us hl => match us, hl with | [_, _], _ => rfl
  have m_span := PySem.W.mg_of X G a_span
  have F_uspan := fun_mk (st := s_uspan) l_uspan c_uspan k_uspan
  have b_uspan := F_uspan.binds (ps := ["side", "figure"]) fun _ _ _ _ _ _ us hl => match us, hl with | [_, _], _ => rfl
  have m_uspan := PySem.W.mg_of X G a_uspan
  have F_below := fun_mk (st := s_below) l_below c_below k_below
  have b_below := F_below.binds (ps := ["mode", "step", "figure"]) fun _ _ _ _ _ _ us hl => match us, hl with | [_, _, _], _ => rfl
  have m_below := PySem.W.mg_of X G a_below
  have F_threshold := fun_mk (st := s_threshold) l_threshold c_threshold k_threshold
  have b_threshold := F_threshold.binds (ps := ["side", "value"]) fun _ _ _ _ _ _ us hl => match us, hl with | [_, _], _ => rfl
  have m_threshold := PySem.W.mg_of X G a_threshold
  have F_mirror := fun_mk (st := s_mirror) l_mirror c_mirror k_mirror
  have b_mirror := F_mirror.binds (ps := ["side"]) fun _ _ _ _ _ _ us hl => match us, hl with | [_], _ => rfl
  have m_mirror := PySem.W.mg_of X G a_mirror
  have F_form := fun_mk (st := s_form) l_form c_form k_form
  have b_form := F_form.binds (ps := ["side"]) fun _ _ _ _ _ _ us hl => match us, hl with | [_], _ => rfl
  have m_form := PySem.W.mg_of X G a_form
  have F_first_mode := fun_mk (st := s_first_mode) l_first_mode c_first_mode k_first_mode
  have b_first_mode := F_first_mode.binds (ps := ["step", "mode"]) fun _ _ _ _ _ _ us hl => match us, hl with | [_, _], _ => rfl
  have m_first_mode := PySem.W.mg_of X G a_first_mode
  have F_check_sides := fun_mk (st := s_check_sides) l_check_sides c_check_sides k_check_sides
  have b_check_sides := F_check_sides.binds (ps := ["sides"]) fun _ _ _ _ _ _ us hl => match us, hl with | [_], _ => rfl
  have m_check_sides := PySem.W.mg_of X G a_check_sides
  have F_period_of := fun_mk (st := s_period_of) l_period_of c_period_of k_period_of
  have b_period_of := F_period_of.binds (ps := ["side"]) fun _ _ _ _ _ _ us hl => match us, hl with | [_], _ => rfl
  have m_period_of := PySem.W.mg_of X G a_period_of
  have F_common_period := fun_mk (st := s_common_period) l_common_period c_common_period k_common_period
  have b_common_period := F_common_period.binds (ps := ["sides"]) fun _ _ _ _ _ _ us hl => match us, hl with | [_], _ => rfl
  have m_common_period := PySem.W.mg_of X G a_common_period
  have F_raisers := fun_mk (st := s_raisers) l_raisers c_raisers k_raisers
  have b_raisers := F_raisers.binds (ps := ["sides"]) fun _ _ _ _ _ _ us hl => match us, hl with | [_], _ => rfl
  have m_raisers := PySem.W.mg_of X G a_raisers
  have F_raises_some := fun_mk (st := s_raises_some) l_raises_some c_raises_some k_raises_some
  have b_raises_some := F_raises_some.binds (ps := ["side"]) fun _ _ _ _ _ _ us hl => match us, hl with | [_], _ => rfl
  have m_raises_some := PySem.W.mg_of X G a_raises_some
  have F_highest := fun_mk (st := s_highest) l_highest c_highest k_highest
  have b_highest := F_highest.binds (ps := ["sides", "value"]) fun _ _ _ _ _ _ us hl => match us, hl with | [_, _], _ => rfl
  have m_highest := PySem.W.mg_of X G a_highest
  have F_mirrors := fun_mk (st := s_mirrors) l_mirrors c_mirrors k_mirrors
  have b_mirrors := F_mirrors.binds (ps := ["sides"]) fun _ _ _ _ _ _ us hl => match us, hl with | [_], _ => rfl
  have m_mirrors := PySem.W.mg_of X G a_mirrors
  have F_first_hit := fun_mk (st := s_first_hit) l_first_hit c_first_hit k_first_hit
  have b_first_hit := F_first_hit.binds (ps := ["start", "step", "most", "modulus"]) fun _ _ _ _ _ _ us hl => match us, hl with | [_, _, _, _], _ => rfl
  have m_first_hit := PySem.W.mg_of X G a_first_hit
  have F_first_between := fun_mk (st := s_first_between) l_first_between c_first_between k_first_between
  have b_first_between := F_first_between.binds (ps := ["step", "least", "greatest", "modulus"]) fun _ _ _ _ _ _ us hl => match us, hl with | [_, _, _, _], _ => rfl
  have m_first_between := PySem.W.mg_of X G a_first_between
  have m_unraised := PySem.W.mg_of X G a_unraised
  have F_first_in_block := fun_mk (st := s_first_in_block) l_first_in_block c_first_in_block k_first_in_block
  have b_first_in_block := F_first_in_block.binds (ps := ["block", "value"]) fun _ _ _ _ _ _ us hl => match us, hl with | [_, _], _ => rfl
  have m_first_in_block := PySem.W.mg_of X G a_first_in_block
  have F_first_in_both := fun_mk (st := s_first_in_both) l_first_in_both c_first_in_both k_first_in_both
  have b_first_in_both := F_first_in_both.binds (ps := ["one", "other", "value"]) fun _ _ _ _ _ _ us hl => match us, hl with | [_, _, _], _ => rfl
  have m_first_in_both := PySem.W.mg_of X G a_first_in_both
  have F_wide_and_narrow := fun_mk (st := s_wide_and_narrow) l_wide_and_narrow c_wide_and_narrow k_wide_and_narrow
  have b_wide_and_narrow := F_wide_and_narrow.binds (ps := ["first", "second"]) fun _ _ _ _ _ _ us hl => match us, hl with | [_, _], _ => rfl
  have m_wide_and_narrow := PySem.W.mg_of X G a_wide_and_narrow
  have F_rounds_up := fun_mk (st := s_rounds_up) l_rounds_up c_rounds_up k_rounds_up
  have b_rounds_up := F_rounds_up.binds (ps := ["wide", "narrow", "value"]) fun _ _ _ _ _ _ us hl => match us, hl with | [_, _, _], _ => rfl
  have m_rounds_up := PySem.W.mg_of X G a_rounds_up
  have F_reach := fun_mk (st := s_reach) l_reach c_reach k_reach
  have b_reach := F_reach.binds (ps := ["sides", "value"]) fun _ _ _ _ _ _ us hl => match us, hl with | [_, _], _ => rfl
  have m_reach := PySem.W.mg_of X G a_reach
  have F_check_few := fun_mk (st := s_check_few) l_check_few c_check_few k_check_few
  have b_check_few := F_check_few.binds (ps := ["raising"]) fun _ _ _ _ _ _ us hl => match us, hl with | [_], _ => rfl
  have m_check_few := PySem.W.mg_of X G a_check_few
  have F_first_unraised := fun_mk (st := s_first_unraised) l_first_unraised c_first_unraised k_first_unraised
  have b_first_unraised := F_first_unraised.binds (ps := ["raising", "value"]) fun _ _ _ _ _ _ us hl => match us, hl with | [_, _], _ => rfl
  have m_first_unraised := PySem.W.mg_of X G a_first_unraised
  have F_first_unraised_by_two := fun_mk (st := s_first_unraised_by_two) l_first_unraised_by_two c_first_unraised_by_two k_first_unraised_by_two
  have b_first_unraised_by_two := F_first_unraised_by_two.binds (ps := ["first", "second", "value"]) fun _ _ _ _ _ _ us hl => match us, hl with | [_, _, _], _ => rfl
  have m_first_unraised_by_two := PySem.W.mg_of X G a_first_unraised_by_two
  have F_within := fun_mk (st := s_within) l_within c_within k_within
  have b_within := F_within.binds (ps := ["sides", "value", "many"]) fun _ _ _ _ _ _ us hl => match us, hl with | [_, _, _], _ => rfl
  have m_within := PySem.W.mg_of X G a_within
  have F_highest_within := fun_mk (st := s_highest_within) l_highest_within c_highest_within k_highest_within
  have b_highest_within := F_highest_within.binds (ps := ["sides", "value", "many"]) fun _ _ _ _ _ _ us hl => match us, hl with | [_, _, _], _ => rfl
  have m_highest_within := PySem.W.mg_of X G a_highest_within
  have F_continued := fun_mk (st := s_continued) l_continued c_continued k_continued
  have b_continued := F_continued.binds (ps := ["values", "following", "many"]) fun _ _ _ _ _ _ us hl => match us, hl with | [_, _, _], _ => rfl
  have m_continued := PySem.W.mg_of X G a_continued
  have F_efforts := fun_mk (st := s_efforts) l_efforts c_efforts k_efforts
  have b_efforts := F_efforts.binds (ps := ["sides", "value"]) fun _ _ _ _ _ _ us hl => match us, hl with | [_, _], _ => rfl
  have m_efforts := PySem.W.mg_of X G a_efforts
  have F_fewest_up := fun_mk (st := s_fewest_up) l_fewest_up c_fewest_up k_fewest_up
  have b_fewest_up := F_fewest_up.binds (ps := ["raising", "value"]) fun _ _ _ _ _ _ us hl => match us, hl with | [_, _], _ => rfl
  have m_fewest_up := PySem.W.mg_of X G a_fewest_up
  have F_fewest_up_by_two := fun_mk (st := s_fewest_up_by_two) l_fewest_up_by_two c_fewest_up_by_two k_fewest_up_by_two
  have b_fewest_up_by_two := F_fewest_up_by_two.binds (ps := ["first", "second", "value"]) fun _ _ _ _ _ _ us hl => match us, hl with | [_, _, _], _ => rfl
  have m_fewest_up_by_two := PySem.W.mg_of X G a_fewest_up_by_two
  have F_L_source := fun_mk (st := s_L_source) l_L_source c_L_source k_L_source
  have b_L_source := F_L_source.binds (ps := ["_law_script"]) fun _ _ _ _ _ _ us hl => match us, hl with | [_], _ => rfl
  have m_L_source := PySem.W.mg_of X G a_L_source
  have F_L_draw := fun_mk (st := s_L_draw) l_L_draw c_L_draw k_L_draw
  have b_L_draw := F_L_draw.binds (ps := ["_law_source_here", "_law_limit"]) fun _ _ _ _ _ _ us hl => match us, hl with | [_, _], _ => rfl
  have m_L_draw := PySem.W.mg_of X G a_L_draw
  have F_L_pick := fun_mk (st := s_L_pick) l_L_pick c_L_pick k_L_pick
  have b_L_pick := F_L_pick.binds (ps := ["_law_source_here", "_law_values"]) fun _ _ _ _ _ _ us hl => match us, hl with | [_, _], _ => rfl
  have m_L_pick := PySem.W.mg_of X G a_L_pick
  have F_L_divisor := fun_mk (st := s_L_divisor) l_L_divisor c_L_divisor k_L_divisor
  have b_L_divisor := F_L_divisor.binds (ps := ["_law_one", "_law_other"]) fun _ _ _ _ _ _ us hl => match us, hl with | [_, _], _ => rfl
  have m_L_divisor := PySem.W.mg_of X G a_L_divisor
  have F_L_great := fun_mk (st := s_L_great) l_L_great c_L_great k_L_great
  have b_L_great := F_L_great.binds (ps := ["_law_source_here", "_law_digits"]) fun _ _ _ _ _ _ us hl => match us, hl with | [_, _], _ => rfl
  have m_L_great := PySem.W.mg_of X G a_L_great
  have F_L_small_side := fun_mk (st := s_L_small_side) l_L_small_side c_L_small_side k_L_small_side
  have b_L_small_side := F_L_small_side.binds (ps := ["_law_source_here", "_law_most"]) fun _ _ _ _ _ _ us hl => match us, hl with | [_, _], _ => rfl
  have m_L_small_side := PySem.W.mg_of X G a_L_small_side
  have F_L_figure := fun_mk (st := s_L_figure) l_L_figure c_L_figure k_L_figure
  have b_L_figure := F_L_figure.binds (ps := ["_law_side", "_law_value"]) fun _ _ _ _ _ _ us hl => match us, hl with | [_, _], _ => rfl
  have m_L_figure := PySem.W.mg_of X G a_L_figure
  have F_L_handed := fun_mk (st := s_L_handed) l_L_handed c_L_handed k_L_handed
  have b_L_handed := F_L_handed.binds (ps := ["_law_side", "_law_value"]) fun _ _ _ _ _ _ us hl => match us, hl with | [_, _], _ => rfl
  have m_L_handed := PySem.W.mg_of X G a_L_handed
  have F_L_period := fun_mk (st := s_L_period) l_L_period c_L_period k_L_period
  have b_L_period := F_L_period.binds (ps := ["_law_sides"]) fun _ _ _ _ _ _ us hl => match us, hl with | [_], _ => rfl
  have m_L_period := PySem.W.mg_of X G a_L_period
  have F_L_set := fun_mk (st := s_L_set) l_L_set c_L_set k_L_set
  have b_L_set := F_L_set.binds (ps := ["_law_source_here", "_law_most", "_law_many"]) fun _ _ _ _ _ _ us hl => match us, hl with | [_, _, _], _ => rfl
  have m_L_set := PySem.W.mg_of X G a_L_set
  have F_L_written := fun_mk (st := s_L_written) l_L_written c_L_written k_L_written
  have b_L_written := F_L_written.binds (ps := ["_law_sides", "_law_value"]) fun _ _ _ _ _ _ us hl => match us, hl with | [_, _], _ => rfl
  have m_L_written := PySem.W.mg_of X G a_L_written
  have F_L_great_side := fun_mk (st := s_L_great_side) l_L_great_side c_L_great_side k_L_great_side
  have b_L_great_side := F_L_great_side.binds (ps := ["_law_source_here"]) fun _ _ _ _ _ _ us hl => match us, hl with | [_], _ => rfl
  have m_L_great_side := PySem.W.mg_of X G a_L_great_side
  have F_L_count := fun_mk (st := s_L_count) l_L_count c_L_count k_L_count
  have b_L_count := F_L_count.binds (ps := ["_law_sides", "_law_value", "_law_sign"]) fun _ _ _ _ _ _ us hl => match us, hl with | [_, _, _], _ => rfl
  have m_L_count := PySem.W.mg_of X G a_L_count
  have F_L_fits := fun_mk (st := s_L_fits) l_L_fits c_L_fits k_L_fits
  have b_L_fits := F_L_fits.binds (ps := ["_law_sides", "_law_value", "_law_factor"]) fun _ _ _ _ _ _ us hl => match us, hl with | [_, _, _], _ => rfl
  have m_L_fits := PySem.W.mg_of X G a_L_fits
  have F_L_great_fits := fun_mk (st := s_L_great_fits) l_L_great_fits c_L_great_fits k_L_great_fits
  have b_L_great_fits := F_L_great_fits.binds (ps := ["_law_sides", "_law_value"]) fun _ _ _ _ _ _ us hl => match us, hl with | [_, _], _ => rfl
  have m_L_great_fits := PySem.W.mg_of X G a_L_great_fits
  have F_L_word := fun_mk (st := s_L_word) l_L_word c_L_word k_L_word
  have b_L_word := F_L_word.binds (ps := ["_law_sides", "_law_value"]) fun _ _ _ _ _ _ us hl => match us, hl with | [_, _], _ => rfl
  have m_L_word := PySem.W.mg_of X G a_L_word
  have F_law := fun_mk (st := s_law) l_law c_law k_law
  have b_law := F_law.binds (ps := ["_law_script"]) fun _ _ _ _ _ _ us hl => match us, hl with | [_], _ => rfl
  have m_law := PySem.W.mg_of X G a_law
  have n_len := PySem.W.mg_none_of X G z_len
  have n_abs := PySem.W.mg_none_of X G z_abs
  have n_int := PySem.W.mg_none_of X G z_int
  have n_range := PySem.W.mg_none_of X G z_range
  have n_isinstance := PySem.W.mg_none_of X G z_isinstance
  have n_bool := PySem.W.mg_none_of X G z_bool
  have n_tuple := PySem.W.mg_none_of X G z_tuple
  have n_divmod := PySem.W.mg_none_of X G z_divmod
  have n_max := PySem.W.mg_none_of X G z_max
  have n_min := PySem.W.mg_none_of X G z_min
  have n_list := PySem.W.mg_none_of X G z_list
  have n_sorted := PySem.W.mg_none_of X G z_sorted
  have n_enumerate := PySem.W.mg_none_of X G z_enumerate
  have n_ValueError := PySem.W.mg_none_of X G z_ValueError
  have BL : Blt mg := ⟨n_len, n_abs, n_int, n_range⟩
  have T : SideT K mg aM := ⟨n_isinstance, n_int, n_bool, n_tuple, n_len, n_divmod, PySem.W.mg_of X G a_MODES, fun _ => .inr ⟨_, _, _, l_MODES, rfl, rfl, v_MODES.1, v_MODES.2⟩⟩
  have RT : MirT K w mg aR := ⟨PySem.W.mg_of X G a_MIR, fun m hm => by
    rcases hm with e | e | e | e | e <;> subst e
    · rw [mir_d]; exact ⟨_, _, _, l_MIR, h_MIR, d_down, r_down⟩
    · rw [mir_u]; exact ⟨_, _, _, l_MIR, h_MIR, d_up, r_up⟩
    · rw [mir_hd]; exact ⟨_, _, _, l_MIR, h_MIR, d_half_down, r_half_down⟩
    · rw [mir_hu]; exact ⟨_, _, _, l_MIR, h_MIR, d_half_up, r_half_up⟩
    · rw [mir_he]; exact ⟨_, _, _, l_MIR, h_MIR, d_half_even, r_half_even⟩⟩
  have TC : ChkT mg := ⟨n_isinstance, n_int, n_bool, n_tuple, n_list, n_len⟩
  have TM : ModT K mg aM := ⟨T.gM, T.tM⟩
  have AT : AmT mg := ⟨⟨_, PySem.W.mg_of X G a_MS⟩⟩
  have tab : ∀ i, i < 4 → erT K (cAt [c0, c1, c2, c3]) cB i = true := fun i hi => by
    rcases (by omega : i = 0 ∨ i = 1 ∨ i = 2 ∨ i = 3) with e | e | e | e <;> subst e
    · exact et_0
    · exact et_1
    · exact et_2
    · exact et_3
  have tb : ∀ i, i < 4 → errB K (cAt [c0, c1, c2, c3] i) = true ∧ (PySem.W.excIn K (cAt [c0, c1, c2, c3] i) [.type "ValueError", .type "Exception", .type "BaseException", .type "object"] "ValueError.__new__" = true ∧ PySem.W.keepIn K (.ref (cAt [c0, c1, c2, c3] i)) = true) ∧ PySem.W.kitOne K (.ref (cAt [c0, c1, c2, c3] i)) (.type "ValueError") = some true ∧ PySem.W.subIn K (.ref (cAt [c0, c1, c2, c3] i)) (.type "BaseException") = some true ∧ PySem.W.typeIn K (.ref (cAt [c0, c1, c2, c3] i)) = some (.type "type") ∧ PySem.W.exmOne K (.ref (cAt [c0, c1, c2, c3] i)) (.ref cB) = some true ∧ ∀ j, j < 4 → PySem.W.kitOne K (.ref (cAt [c0, c1, c2, c3] i)) (.ref (cAt [c0, c1, c2, c3] j)) = some (decide (i = j)) := fun i hi => by
    have z := tab i hi
    unfold erT exB at z
    simp only [Bool.and_eq_true, decide_eq_true_eq] at z
    obtain ⟨a, b, c, d, e, f, g⟩ := z
    exact ⟨a, b, c, d, e, f, fun j hj => of_decide_eq_true (all_of g hj)⟩
  have R : Er K mg (cAt [c0, c1, c2, c3]) cB := { isi := n_isinstance, ve := n_ValueError, gB := PySem.W.mg_of X G g_B, g0 := PySem.W.mg_of X G g_0, g1 := PySem.W.mg_of X G g_1, g2 := PySem.W.mg_of X G g_2, g3 := PySem.W.mg_of X G g_3, kit := fun i j hi hj => (tb i hi).2.2.2.2.2.2 j hj, kitV := fun i hi => (tb i hi).2.2.1, ec := fun i hi => errB_ok (tb i hi).1, eg := ⟨gsp, gtk⟩, ex := fun i hi => (tb i hi).2.1.1, kp := fun i hi => (tb i hi).2.1.2, sb := fun i hi => (tb i hi).2.2.2.1, ty := fun i hi => (tb i hi).2.2.2.2.1, emB := fun i hi => (tb i hi).2.2.2.2.2.1, em0 := em_0 }
  have MX : MaxT mg := ⟨n_max, n_min⟩
  have AM : AmG mg := ⟨n_isinstance, n_list, n_len, ⟨_, PySem.W.mg_of X G a_MS⟩, ⟨_, PySem.W.mg_of X G a_MP⟩, PySem.W.mg_of X G a_lcm, n_sorted⟩
  have D_unraised : FunD K "unraised" "unraised" (defArgs s_unraised) (defBody s_unraised) (defScope s_unraised) [.int 1] [] f_unraised _ := ⟨⟨_, _, _, _, _, _, _, _, _, _, rfl, l_unraised, c_unraised, .inr ⟨(fun z => nomatch z), aU, _, itsU.toList, nU, rfl, l_U, rfl, v_U⟩, .inl rfl⟩, k_unraised⟩
  have bd_unraised := D_unraised.binds1 (ps := ["side", "least"]) 1 0 (fun z => nomatch z) rfl (fun T kV doc pm an cdv ct us its h1 h2 => match us, its, h1, h2 with | [_], [_], _, _ => ⟨_, rfl, rfl⟩)
  obtain ⟨ds_u, vz_u, bf_unraised⟩ := D_unraised.binds1 (ps := ["side", "least"]) 2 1 (fun z => nomatch z) rfl (fun T kV doc pm an cdv ct us its h1 h2 => match us, its, h1, h2 with | [_, _], [_], _, _ => ⟨_, rfl, rfl⟩)
  have ez_u : ds_u = [] := by cases (show Vals [] ds_u from vz_u); rfl
  subst ez_u
  have LG : LimG mg := ⟨n_divmod, ⟨_, PySem.W.mg_of X G a_MN⟩, ⟨_, PySem.W.mg_of X G a_MR⟩⟩
  refine ⟨PySem.W.fnOf "law" "law" (defArgs s_law) (defBody s_law) (defScope s_law) .none kV_law dc_law pm_law an_law cd_law ct_law, fun s v => .of_eq rfl, fun base _ _ => ?_⟩
  have C_is_int : Cal l.prog w K mg base "is_int" 1 ["thing"] spIsInt f_is_int _ := ⟨ok_is_int F_is_int T, m_is_int, k_is_int, b_is_int⟩
  have C_is_int_between : Cal l.prog w K mg base "is_int_between" 2 ["thing", "least", "most"] spBetween f_is_int_between _ := ⟨ok_between F_is_int_between C_is_int, m_is_int_between, k_is_int_between, b_is_int_between⟩
  have C_check_value : Cal l.prog w K mg base "check_value" 2 ["value"] spCheckValue f_check_value _ := ⟨ok_check_value F_check_value C_is_int, m_check_value, k_check_value, b_check_value⟩
  have C_check_side : Cal l.prog w K mg base "check_side" 3 ["side"] spCheckSide f_check_side _ := ⟨ok_check_side F_check_side T C_is_int_between, m_check_side, k_check_side, b_check_side⟩
  have C_goes_up : Cal l.prog w K mg base "_goes_up" 1 ["mode", "step", "figure", "rest"] spGo f_goes_up _ := ⟨ok_goes_up F_goes_up, m_goes_up, k_goes_up, b_goes_up⟩
  have C_figure : Cal l.prog w K mg base "_figure" 2 ["side", "value"] spFig f_figure _ := ⟨ok_figure F_figure T C_goes_up, m_figure, k_figure, b_figure⟩
  have C_written : Cal l.prog w K mg base "written" 3 ["side", "value"] spDue f_written _ := ⟨ok_written F_written C_figure, m_written, k_written, b_written⟩
  have C_below : Cal l.prog w K mg base "_below" 1 ["mode", "step", "figure"] spBelow f_below _ := ⟨ok_below F_below, m_below, k_below, b_below⟩
  have C_uspan : Cal l.prog w K mg base "_span" 2 ["side", "figure"] spSpan f_uspan _ := ⟨ok_uspan F_uspan RT C_below, m_uspan, k_uspan, b_uspan⟩
  have C_span : Cal l.prog w K mg base "span" 4 ["side", "figure"] spSpan f_span _ := ⟨ok_span F_span C_check_side C_check_value C_uspan, m_span, k_span, b_span⟩
  have C_mirror : Cal l.prog w K mg base "mirror" 4 ["side"] spMirror f_mirror _ := ⟨ok_mirror F_mirror RT C_check_side, m_mirror, k_mirror, b_mirror⟩
  have C_first_mode : Cal l.prog w K mg base "_first_mode" 1 ["step", "mode"] spFirst f_first_mode _ := ⟨ok_first F_first_mode, m_first_mode, k_first_mode, b_first_mode⟩
  have C_form : Cal l.prog w K mg base "form" 4 ["side"] spForm f_form _ := ⟨ok_form F_form C_check_side C_first_mode, m_form, k_form, b_form⟩
  have C_is_side : Cal l.prog w K mg base "is_side" 4 ["thing"] spIsSide f_is_side _ := ⟨ok_is_side F_is_side (PySem.W.mg_of X G g_0) C_check_side, m_is_side, k_is_side, b_is_side⟩
  have C_check_sides : Cal l.prog w K mg base "check_sides" 5 ["sides"] spSides f_check_sides _ := ⟨ok_sides F_check_sides AM C_is_side, m_check_sides, k_check_sides, b_check_sides⟩
  have C_period_of : Cal l.prog w K mg base "period_of" 1 ["side"] spPerOf f_period_of _ := ⟨ok_per F_period_of, m_period_of, k_period_of, b_period_of⟩
  have C_first_between : ∀ n, n ≤ 200 → Cal l.prog w K mg base "_first_between" (n + 1) ["step", "least", "greatest", "modulus"] (spFB n) f_first_between _ := fun n hn => ⟨ok_fb F_first_between m_first_between k_first_between b_first_between n hn, m_first_between, k_first_between, b_first_between⟩
  have C_first_hit : Cal l.prog w K mg base "first_hit" 104 ["start", "step", "most", "modulus"] spFH f_first_hit _ := ⟨ok_hit F_first_hit (C_first_between 102 (by decide)), m_first_hit, k_first_hit, b_first_hit⟩
  have C_first_in_block : Cal l.prog w K mg base "first_in_block" 1 ["block", "value"] spFIB f_first_in_block _ := ⟨ok_fib F_first_in_block, m_first_in_block, k_first_in_block, b_first_in_block⟩
  have C_first_in_both : Cal l.prog w K mg base "first_in_both" 105 ["one", "other", "value"] spFI2 f_first_in_both _ := ⟨ok_fi2 F_first_in_both C_first_hit C_first_in_block, m_first_in_both, k_first_in_both, b_first_in_both⟩
  have C_unraised : CalD l.prog w K mg base "unraised" 5 ["side", "least"] [.int 1] spUnr f_unraised _ := ⟨ok_unr D_unraised BL MX C_period_of C_span, m_unraised, k_unraised, bd_unraised⟩
  have C_raises_some : Cal l.prog w K mg base "_raises_some" 5 ["side"] spRs f_raises_some _ := ⟨ok_rs F_raises_some C_form, m_raises_some, k_raises_some, b_raises_some⟩
  have C_common_period : Cal l.prog w K mg base "common_period" 2 ["sides"] spPerL f_common_period _ := ⟨ok_commonL F_common_period AM C_period_of, m_common_period, k_common_period, b_common_period⟩
  have C_raisers : Cal l.prog w K mg base "raisers" 6 ["sides"] spRais f_raisers _ := ⟨ok_rais F_raisers C_raises_some, m_raisers, k_raisers, b_raisers⟩
  have C_mirrors : Cal l.prog w K mg base "mirrors" 5 ["sides"] spMirs f_mirrors _ := ⟨ok_mirs F_mirrors C_mirror, m_mirrors, k_mirrors, b_mirrors⟩
  have C_highest : Cal l.prog w K mg base "highest" 4 ["sides", "value"] spHi f_highest _ := ⟨ok_hi F_highest MX C_written, m_highest, k_highest, b_highest⟩
  have C_first_unraised_by_two : Cal l.prog w K mg base "_first_unraised_by_two" 106 ["first", "second", "value"] spTwo f_first_unraised_by_two _ := ⟨ok_two F_first_unraised_by_two MX C_unraised C_first_in_both, m_first_unraised_by_two, k_first_unraised_by_two, b_first_unraised_by_two⟩
  have C_first_unraised : Cal l.prog w K mg base "_first_unraised" 107 ["raising", "value"] spFU f_first_unraised _ := ⟨ok_fu F_first_unraised AM C_first_unraised_by_two C_common_period C_highest, m_first_unraised, k_first_unraised, b_first_unraised⟩
  have C_check_few : Cal l.prog w K mg base "_check_few" 3 ["raising"] spCF f_check_few _ := ⟨ok_cf F_check_few AM C_common_period, m_check_few, k_check_few, b_check_few⟩
  have C_reach : Cal l.prog w K mg base "reach" 108 ["sides", "value"] spReach f_reach _ := ⟨ok_reach F_reach C_check_sides C_check_value C_raisers C_mirrors C_check_few C_first_unraised, m_reach, k_reach, b_reach⟩
  have U_unraised : Cal l.prog w K mg base "unraised" 5 ["side", "least"] spUnrL f_unraised _ := ⟨ok_unrL D_unraised BL MX C_period_of C_span, m_unraised, k_unraised, bf_unraised⟩
  have C_threshold : Cal l.prog w K mg base "threshold" 3 ["side", "value"] spBack f_threshold _ := ⟨ok_threshold F_threshold C_below, m_threshold, k_threshold, b_threshold⟩
  have C_stands : Cal l.prog w K mg base "stands" 4 ["side", "value"] spStands f_stands _ := ⟨ok_stands F_stands C_check_side C_check_value, m_stands, k_stands, b_stands⟩
  have C_wide_and_narrow : Cal l.prog w K mg base "wide_and_narrow" 1 ["first", "second"] spWN f_wide_and_narrow _ := ⟨ok_wn F_wide_and_narrow, m_wide_and_narrow, k_wide_and_narrow, b_wide_and_narrow⟩
  have C_rounds_up : Cal l.prog w K mg base "rounds_up" 105 ["wide", "narrow", "value"] spRU f_rounds_up _ := ⟨ok_ru F_rounds_up BL MX C_period_of C_threshold U_unraised C_first_hit, m_rounds_up, k_rounds_up, b_rounds_up⟩
  have C_fewest_up_by_two : Cal l.prog w K mg base "_fewest_up_by_two" 106 ["first", "second", "value"] spF2 f_fewest_up_by_two _ := ⟨ok_f2 F_fewest_up_by_two C_wide_and_narrow C_stands C_highest C_rounds_up C_written, m_fewest_up_by_two, k_fewest_up_by_two, b_fewest_up_by_two⟩
  have C_fewest_up : Cal l.prog w K mg base "_fewest_up" 107 ["raising", "value"] spFew f_fewest_up _ := ⟨ok_few F_fewest_up AM C_fewest_up_by_two C_highest, m_fewest_up, k_fewest_up, b_fewest_up⟩
  have C_efforts : Cal l.prog w K mg base "efforts" 109 ["sides", "value"] spEff f_efforts _ := ⟨ok_eff F_efforts C_reach C_raisers C_mirrors C_fewest_up, m_efforts, k_efforts, b_efforts⟩
  have C_continued : Cal l.prog w K mg base "_continued" 1 ["values", "following", "many"] spCont f_continued _ := ⟨ok_cont F_continued AM LG, m_continued, k_continued, b_continued⟩
  have C_highest_within : Cal l.prog w K mg base "_highest_within" 5 ["sides", "value", "many"] spHW f_highest_within _ := ⟨ok_hw F_highest_within BL MX LG C_common_period C_highest C_continued, m_highest_within, k_highest_within, b_highest_within⟩
  have C_within : Cal l.prog w K mg base "within" 6 ["sides", "value", "many"] spWi f_within _ := ⟨ok_within F_within LG C_check_sides C_check_value C_is_int_between C_mirrors C_highest_within, m_within, k_within, b_within⟩
  have X_is_int : Cal l.prog w K mg base "is_int" 1 ["thing"] spIsAny f_is_int _ := ⟨ok_is_any F_is_int TC, m_is_int, k_is_int, b_is_int⟩
  have X_is_int_between : Cal l.prog w K mg base "is_int_between" 2 ["thing", "least", "most"] spBetAny f_is_int_between _ := ⟨ok_bet_any F_is_int_between X_is_int, m_is_int_between, k_is_int_between, b_is_int_between⟩
  have X_check_value : CalX l.prog w K mg base "check_value" 2 ["value"] (spValX (cAt [c0, c1, c2, c3])) f_check_value _ := ⟨ok_val_x F_check_value R X_is_int, m_check_value, k_check_value, b_check_value⟩
  have X_check_side : CalX l.prog w K mg base "check_side" 3 ["side"] (spSideX K (cAt [c0, c1, c2, c3])) f_check_side _ := ⟨ok_side_x F_check_side TC TM R X_is_int_between, m_check_side, k_check_side, b_check_side⟩
  have X_is_side : Cal l.prog w K mg base "is_side" 4 ["thing"] (spIsSideX K) f_is_side _ := ⟨ok_is_side_x F_is_side R X_check_side, m_is_side, k_is_side, b_is_side⟩
  have X_check_sides : CalX l.prog w K mg base "check_sides" 5 ["sides"] (spSidesX K (cAt [c0, c1, c2, c3])) f_check_sides _ := ⟨ok_sides_x F_check_sides TC AT R X_is_side, m_check_sides, k_check_sides, b_check_sides⟩
  have X_check_few : CalX l.prog w K mg base "_check_few" 3 ["raising"] (spCFX (cAt [c0, c1, c2, c3])) f_check_few _ := ⟨ok_cf_x F_check_few AM R C_common_period, m_check_few, k_check_few, b_check_few⟩
  have X_reach : CalX l.prog w K mg base "reach" 108 ["sides", "value"] (spReachX K (cAt [c0, c1, c2, c3])) f_reach _ := ⟨ok_reach_x F_reach X_check_sides X_check_value C_raisers C_mirrors X_check_few, m_reach, k_reach, b_reach⟩
  have X_efforts : CalX l.prog w K mg base "efforts" 109 ["sides", "value"] (spReachX K (cAt [c0, c1, c2, c3])) f_efforts _ := ⟨ok_eff_x F_efforts X_reach, m_efforts, k_efforts, b_efforts⟩
  have C_L_source : Cal l.prog w K mg base "_law_source" 1 ["_law_script"] (spSource K) f_L_source _ := ⟨ok_source F_L_source BL, m_L_source, k_L_source, b_L_source⟩
  have C_L_draw : Cal l.prog w K mg base "_law_draw" 1 ["_law_source_here", "_law_limit"] spDraw f_L_draw _ := ⟨ok_draw F_L_draw BL, m_L_draw, k_L_draw, b_L_draw⟩
  have C_L_pick : Cal l.prog w K mg base "_law_pick" 2 ["_law_source_here", "_law_values"] spPick f_L_pick _ := ⟨ok_pick F_L_pick BL C_L_draw, m_L_pick, k_L_pick, b_L_pick⟩
  have C_L_divisor : Cal l.prog w K mg base "_law_divisor" 1 ["_law_one", "_law_other"] spDiv f_L_divisor _ := ⟨ok_div F_L_divisor BL, m_L_divisor, k_L_divisor, b_L_divisor⟩
  have C_L_great : Cal l.prog w K mg base "_law_great" 2 ["_law_source_here", "_law_digits"] spGreat f_L_great _ := ⟨ok_great F_L_great BL C_L_draw, m_L_great, k_L_great, b_L_great⟩
  have C_L_small_side : Cal l.prog w K mg base "_law_small_side" 3 ["_law_source_here", "_law_most"] spSmall f_L_small_side _ := ⟨ok_small F_L_small_side C_L_draw C_L_pick, m_L_small_side, k_L_small_side, b_L_small_side⟩
  have C_L_figure : Cal l.prog w K mg base "_law_figure" 1 ["_law_side", "_law_value"] spFig f_L_figure _ := ⟨ok_L_figure F_L_figure BL, m_L_figure, k_L_figure, b_L_figure⟩
  have C_L_handed : Cal l.prog w K mg base "_law_handed" 2 ["_law_side", "_law_value"] spDue f_L_handed _ := ⟨ok_L_handed F_L_handed C_L_figure, m_L_handed, k_L_handed, b_L_handed⟩
  have C_L_period : Cal l.prog w K mg base "_law_period" 2 ["_law_sides"] spPer f_L_period _ := ⟨ok_period F_L_period BL C_L_divisor, m_L_period, k_L_period, b_L_period⟩
  have C_L_set : Cal l.prog w K mg base "_law_set" 4 ["_law_source_here", "_law_most", "_law_many"] spSet f_L_set _ := ⟨ok_set F_L_set BL C_L_draw C_L_small_side, m_L_set, k_L_set, b_L_set⟩
  have C_L_written : Cal l.prog w K mg base "_law_written" 3 ["_law_sides", "_law_value"] spWrL f_L_written _ := ⟨ok_wrl F_L_written C_L_handed, m_L_written, k_L_written, b_L_written⟩
  have C_L_count : Cal l.prog w K mg base "_law_count" 4 ["_law_sides", "_law_value", "_law_sign"] spCnt f_L_count _ := ⟨ok_cnt F_L_count BL MX C_L_period C_L_written, m_L_count, k_L_count, b_L_count⟩
  have C_L_fits : Cal l.prog w K mg base "_law_fits" 110 ["_law_sides", "_law_value", "_law_factor"] spFits f_L_fits _ := ⟨ok_fits F_L_fits BL C_efforts C_reach C_L_count, m_L_fits, k_L_fits, b_L_fits⟩
  have C_L_great_side : Cal l.prog w K mg base "_law_great_side" 3 ["_law_source_here"] spGS f_L_great_side _ := ⟨ok_gs F_L_great_side C_L_draw C_L_pick C_L_great, m_L_great_side, k_L_great_side, b_L_great_side⟩
  have C_L_great_fits : Cal l.prog w K mg base "_law_great_fits" 110 ["_law_sides", "_law_value"] spGF f_L_great_fits _ := ⟨ok_gf F_L_great_fits BL AM MX C_efforts C_reach C_L_written C_within, m_L_great_fits, k_L_great_fits, b_L_great_fits⟩
  have C_L_word : Cal l.prog w K mg base "_law_word" 110 ["_law_sides", "_law_value"] (spWord K) f_L_word _ := ⟨ok_word F_L_word R X_efforts, m_L_word, k_L_word, b_L_word⟩
  exact ok_law F_law BL C_L_source C_L_draw C_L_pick C_L_great C_L_set C_L_period C_L_fits C_L_great_side C_L_great_fits C_L_word C_efforts
theorem walk {l : PySem.W.OpenLaw} {q : Program} {loose : List Str} {XP : (Str → Option Value) → Heap → Prop} {YP : World → Heap → Prop} {d : DefRec} {K : Params → PySem.W.Frag} (hn : l.most = some 63) (hdf : d.params.defaults = [])
    (hY : ∀ (w : World) (h : Heap), YP w h → (K w.params).In h)
    (F : ∀ (w : World) (mg : Str → Option Value) (fa : Addr) (h : Heap), (K w.params).In h → h.Ns mainGlobals mg → mg d.name = some (.ref fa) →
      ∃ fd : FuncData, (∀ (s : Shared) (u : Value), BindsTo s fd ⟨[u], []⟩ [("_law_script", u)]) ∧ ∀ base : Heap, (K w.params).In base → base.Ns mainGlobals mg → FnOk l.prog w (K w.params) mg base CX0 111 fa fd ["_law_script"] (spLaw (K w.params))) :
    PySem.W.WalkO q loose XP YP l.row.toRowW d [] (fun f vs => PySem.call f vs) :=
  L2.walk_of (n := 63) (k := 111) (x := "_law_script") (CX := fun _ => CX0) (sp := fun w => spLaw (K w.params)) hn (by decide) hdf ⟨rfl, by decide, by decide⟩ hY F (fun _ _ a ns hl _ hS => ⟨a, ns, rfl, hS, hl, fun _ => rfl⟩) fun _ _ _ _ _ z => z
end HT
open PySem PySem.W PyProof.Rows
set_option maxRecDepth 100000 in
set_option maxHeartbeats 0 in
theorem PySem.Challenge.cw_handedtext_k62_whole_efforts_holds : PySem.Challenge.rw_handedtext_k62_whole_efforts.Holds := by
  w_on; o_law; k_head; (case hw => w_witness2)
  k_fill
  refine HT.walk (l := PySem.Challenge.rw_handedtext_k62_whole_efforts) rfl rfl (fun w h Y => PySem.W.kIn_of Y) ?F
  case F =>
    intro w mg fa h KX G hmg
    refine' HT.all_mk KX G hmg ?a_is_int ?l_is_int ?c_is_int ?k_is_int ?a_is_int_between ?l_is_int_between ?c_is_int_between ?k_is_int_between ?a_check_value ?l_check_value ?c_check_value ?k_check_value ?a_check_side ?l_check_side ?c_check_side ?k_check_side ?a_is_side ?l_is_side ?c_is_side ?k_is_side ?a_figure ?l_figure ?c_figure ?k_figure ?a_goes_up ?l_goes_up ?c_goes_up ?k_goes_up ?a_written ?l_written ?c_written ?k_written ?a_stands ?l_stands ?c_stands ?k_stands ?a_span ?l_span ?c_span ?k_span ?a_uspan ?l_uspan ?c_uspan ?k_uspan ?a_below ?l_below ?c_below ?k_below ?a_threshold ?l_threshold ?c_threshold ?k_threshold ?a_mirror ?l_mirror ?c_mirror ?k_mirror ?a_form ?l_form ?c_form ?k_form ?a_first_mode ?l_first_mode ?c_first_mode ?k_first_mode ?a_check_sides ?l_check_sides ?c_check_sides ?k_check_sides ?a_period_of ?l_period_of ?c_period_of ?k_period_of ?a_common_period ?l_common_period ?c_common_period ?k_common_period ?a_raisers ?l_raisers ?c_raisers ?k_raisers ?a_raises_some ?l_raises_some ?c_raises_some ?k_raises_some ?a_highest ?l_highest ?c_highest ?k_highest ?a_mirrors ?l_mirrors ?c_mirrors ?k_mirrors ?a_first_hit ?l_first_hit ?c_first_hit ?k_first_hit ?a_first_between ?l_first_between ?c_first_between ?k_first_between ?a_unraised ?l_unraised ?c_unraised ?k_unraised ?a_first_in_block ?l_first_in_block ?c_first_in_block ?k_first_in_block ?a_first_in_both ?l_first_in_both ?c_first_in_both ?k_first_in_both ?a_wide_and_narrow ?l_wide_and_narrow ?c_wide_and_narrow ?k_wide_and_narrow ?a_rounds_up ?l_rounds_up ?c_rounds_up ?k_rounds_up ?a_reach ?l_reach ?c_reach ?k_reach ?a_check_few ?l_check_few ?c_check_few ?k_check_few ?a_first_unraised ?l_first_unraised ?c_first_unraised ?k_first_unraised ?a_first_unraised_by_two ?l_first_unraised_by_two ?c_first_unraised_by_two ?k_first_unraised_by_two ?a_within ?l_within ?c_within ?k_within ?a_highest_within ?l_highest_within ?c_highest_within ?k_highest_within ?a_continued ?l_continued ?c_continued ?k_continued ?a_efforts ?l_efforts ?c_efforts ?k_efforts ?a_fewest_up ?l_fewest_up ?c_fewest_up ?k_fewest_up ?a_fewest_up_by_two ?l_fewest_up_by_two ?c_fewest_up_by_two ?k_fewest_up_by_two ?a_L_source ?l_L_source ?c_L_source ?k_L_source ?a_L_draw ?l_L_draw ?c_L_draw ?k_L_draw ?a_L_pick ?l_L_pick ?c_L_pick ?k_L_pick ?a_L_divisor ?l_L_divisor ?c_L_divisor ?k_L_divisor ?a_L_great ?l_L_great ?c_L_great ?k_L_great ?a_L_small_side ?l_L_small_side ?c_L_small_side ?k_L_small_side ?a_L_figure ?l_L_figure ?c_L_figure ?k_L_figure ?a_L_handed ?l_L_handed ?c_L_handed ?k_L_handed ?a_L_period ?l_L_period ?c_L_period ?k_L_period ?a_L_set ?l_L_set ?c_L_set ?k_L_set ?a_L_written ?l_L_written ?c_L_written ?k_L_written ?a_L_great_side ?l_L_great_side ?c_L_great_side ?k_L_great_side ?a_L_count ?l_L_count ?c_L_count ?k_L_count ?a_L_fits ?l_L_fits ?c_L_fits ?k_L_fits ?a_L_great_fits ?l_L_great_fits ?c_L_great_fits ?k_L_great_fits ?a_L_word ?l_L_word ?c_L_word ?k_L_word ?a_law ?l_law ?c_law ?k_law ?z_len ?z_abs ?z_int ?z_range ?z_isinstance ?z_bool ?z_tuple ?z_divmod ?z_max ?z_min ?z_list ?z_sorted ?z_enumerate ?z_ValueError ?g_0 ?g_1 ?g_2 ?g_3 ?g_B ?et_0 ?et_1 ?et_2 ?et_3 ?em_0 ?gsp ?gtk ?a_MS ?a_MP ?a_MN ?a_MR ?a_lcm ?l_U ?v_U ?a_MODES ?l_MODES ?v_MODES ?a_MIR ?l_MIR ?h_MIR ?d_down ?r_down ?d_up ?r_up ?d_half_down ?r_half_down ?d_half_up ?r_half_up ?d_half_even ?r_half_even
    (case a_is_int => k_is)
    (case l_is_int => k_is)
    (case c_is_int => k_is)
    (case k_is_int => k_is)
    (case a_is_int_between => k_is)
    (case l_is_int_between => k_is)
    (case c_is_int_between => k_is)
    (case k_is_int_between => k_is)
    (case a_check_value => k_is)
    (case l_check_value => k_is)
    (case c_check_value => k_is)
    (case k_check_value => k_is)
    (case a_check_side => k_is)
    (case l_check_side => k_is)
    (case c_check_side => k_is)
    (case k_check_side => k_is)
    (case a_is_side => k_is)
    (case l_is_side => k_is)
    (case c_is_side => k_is)
    (case k_is_side => k_is)
    (case a_figure => k_is)
    (case l_figure => k_is)
    (case c_figure => k_is)
    (case k_figure => k_is)
    (case a_goes_up => k_is)
    (case l_goes_up => k_is)
    (case c_goes_up => k_is)
    (case k_goes_up => k_is)
    (case a_written => k_is)
    (case l_written => k_is)
    (case c_written => k_is)
    (case k_written => k_is)
    (case a_stands => k_is)
    (case l_stands => k_is)
    (case c_stands => k_is)
    (case k_stands => k_is)
    (case a_span => k_is)
    (case l_span => k_is)
    (case c_span => k_is)
    (case k_span => k_is)
    (case a_uspan => k_is)
    (case l_uspan => k_is)
    (case c_uspan => k_is)
    (case k_uspan => k_is)
    (case a_below => k_is)
    (case l_below => k_is)
    (case c_below => k_is)
    (case k_below => k_is)
    (case a_threshold => k_is)
    (case l_threshold => k_is)
    (case c_threshold => k_is)
    (case k_threshold => k_is)
    (case a_mirror => k_is)
    (case l_mirror => k_is)
    (case c_mirror => k_is)
    (case k_mirror => k_is)
    (case a_form => k_is)
    (case l_form => k_is)
    (case c_form => k_is)
    (case k_form => k_is)
    (case a_first_mode => k_is)
    (case l_first_mode => k_is)
    (case c_first_mode => k_is)
    (case k_first_mode => k_is)
    (case a_check_sides => k_is)
    (case l_check_sides => k_is)
    (case c_check_sides => k_is)
    (case k_check_sides => k_is)
    (case a_period_of => k_is)
    (case l_period_of => k_is)
    (case c_period_of => k_is)
    (case k_period_of => k_is)
    (case a_common_period => k_is)
    (case l_common_period => k_is)
    (case c_common_period => k_is)
    (case k_common_period => k_is)
    (case a_raisers => k_is)
    (case l_raisers => k_is)
    (case c_raisers => k_is)
    (case k_raisers => k_is)
    (case a_raises_some => k_is)
    (case l_raises_some => k_is)
    (case c_raises_some => k_is)
    (case k_raises_some => k_is)
    (case a_highest => k_is)
    (case l_highest => k_is)
    (case c_highest => k_is)
    (case k_highest => k_is)
    (case a_mirrors => k_is)
    (case l_mirrors => k_is)
    (case c_mirrors => k_is)
    (case k_mirrors => k_is)
    (case a_first_hit => k_is)
    (case l_first_hit => k_is)
    (case c_first_hit => k_is)
    (case k_first_hit => k_is)
    (case a_first_between => k_is)
    (case l_first_between => k_is)
    (case c_first_between => k_is)
    (case k_first_between => k_is)
    (case a_unraised => k_is)
    (case l_unraised => k_is)
    (case c_unraised => k_is)
    (case k_unraised => k_is)
    (case a_first_in_block => k_is)
    (case l_first_in_block => k_is)
    (case c_first_in_block => k_is)
    (case k_first_in_block => k_is)
    (case a_first_in_both => k_is)
    (case l_first_in_both => k_is)
    (case c_first_in_both => k_is)
    (case k_first_in_both => k_is)
    (case a_wide_and_narrow => k_is)
    (case l_wide_and_narrow => k_is)
    (case c_wide_and_narrow => k_is)
    (case k_wide_and_narrow => k_is)
    (case a_rounds_up => k_is)
    (case l_rounds_up => k_is)
    (case c_rounds_up => k_is)
    (case k_rounds_up => k_is)
    (case a_reach => k_is)
    (case l_reach => k_is)
    (case c_reach => k_is)
    (case k_reach => k_is)
    (case a_check_few => k_is)
    (case l_check_few => k_is)
    (case c_check_few => k_is)
    (case k_check_few => k_is)
    (case a_first_unraised => k_is)
    (case l_first_unraised => k_is)
    (case c_first_unraised => k_is)
    (case k_first_unraised => k_is)
    (case a_first_unraised_by_two => k_is)
    (case l_first_unraised_by_two => k_is)
    (case c_first_unraised_by_two => k_is)
    (case k_first_unraised_by_two => k_is)
    (case a_within => k_is)
    (case l_within => k_is)
    (case c_within => k_is)
    (case k_within => k_is)
    (case a_highest_within => k_is)
    (case l_highest_within => k_is)
    (case c_highest_within => k_is)
    (case k_highest_within => k_is)
    (case a_continued => k_is)
    (case l_continued => k_is)
    (case c_continued => k_is)
    (case k_continued => k_is)
    (case a_efforts => k_is)
    (case l_efforts => k_is)
    (case c_efforts => k_is)
    (case k_efforts => k_is)
    (case a_fewest_up => k_is)
    (case l_fewest_up => k_is)
    (case c_fewest_up => k_is)
    (case k_fewest_up => k_is)
    (case a_fewest_up_by_two => k_is)
    (case l_fewest_up_by_two => k_is)
    (case c_fewest_up_by_two => k_is)
    (case k_fewest_up_by_two => k_is)
    (case a_L_source => k_is)
    (case l_L_source => k_is)
    (case c_L_source => k_is)
    (case k_L_source => k_is)
    (case a_L_draw => k_is)
    (case l_L_draw => k_is)
    (case c_L_draw => k_is)
    (case k_L_draw => k_is)
    (case a_L_pick => k_is)
    (case l_L_pick => k_is)
    (case c_L_pick => k_is)
    (case k_L_pick => k_is)
    (case a_L_divisor => k_is)
    (case l_L_divisor => k_is)
    (case c_L_divisor => k_is)
    (case k_L_divisor => k_is)
    (case a_L_great => k_is)
    (case l_L_great => k_is)
    (case c_L_great => k_is)
    (case k_L_great => k_is)
    (case a_L_small_side => k_is)
    (case l_L_small_side => k_is)
    (case c_L_small_side => k_is)
    (case k_L_small_side => k_is)
    (case a_L_figure => k_is)
    (case l_L_figure => k_is)
    (case c_L_figure => k_is)
    (case k_L_figure => k_is)
    (case a_L_handed => k_is)
    (case l_L_handed => k_is)
    (case c_L_handed => k_is)
    (case k_L_handed => k_is)
    (case a_L_period => k_is)
    (case l_L_period => k_is)
    (case c_L_period => k_is)
    (case k_L_period => k_is)
    (case a_L_set => k_is)
    (case l_L_set => k_is)
    (case c_L_set => k_is)
    (case k_L_set => k_is)
    (case a_L_written => k_is)
    (case l_L_written => k_is)
    (case c_L_written => k_is)
    (case k_L_written => k_is)
    (case a_L_great_side => k_is)
    (case l_L_great_side => k_is)
    (case c_L_great_side => k_is)
    (case k_L_great_side => k_is)
    (case a_L_count => k_is)
    (case l_L_count => k_is)
    (case c_L_count => k_is)
    (case k_L_count => k_is)
    (case a_L_fits => k_is)
    (case l_L_fits => k_is)
    (case c_L_fits => k_is)
    (case k_L_fits => k_is)
    (case a_L_great_fits => k_is)
    (case l_L_great_fits => k_is)
    (case c_L_great_fits => k_is)
    (case k_L_great_fits => k_is)
    (case a_L_word => k_is)
    (case l_L_word => k_is)
    (case c_L_word => k_is)
    (case k_L_word => k_is)
    (case a_law => k_is)
    (case l_law => k_is)
    (case c_law => k_is)
    (case k_law => k_is)
    (case z_len => k_is)
    (case z_abs => k_is)
    (case z_int => k_is)
    (case z_range => k_is)
    (case z_isinstance => k_is)
    (case z_bool => k_is)
    (case z_tuple => k_is)
    (case z_divmod => k_is)
    (case z_max => k_is)
    (case z_min => k_is)
    (case z_list => k_is)
    (case z_sorted => k_is)
    (case z_enumerate => k_is)
    (case z_ValueError => k_is)
    (case g_0 => k_is)
    (case g_1 => k_is)
    (case g_2 => k_is)
    (case g_3 => k_is)
    (case g_B => k_is)
    (case et_0 => kernel_rfl)
    (case et_1 => kernel_rfl)
    (case et_2 => kernel_rfl)
    (case et_3 => kernel_rfl)
    (case em_0 => kernel_rfl)
    (case gsp => k_is)
    (case gtk => k_is)
    (case a_MS => k_is)
    (case a_MP => k_is)
    (case a_MN => k_is)
    (case a_MR => k_is)
    (case a_lcm => k_is)
    (case l_U => k_is)
    (case v_U => exact .cons ⟨_, rfl⟩ .nil)
    (case a_MODES => k_is)
    (case l_MODES => k_is)
    (case v_MODES => exact ⟨by decide, .cons ⟨_, rfl⟩ (.cons ⟨_, rfl⟩ (.cons ⟨_, rfl⟩ (.cons ⟨_, rfl⟩ (.cons ⟨_, rfl⟩ .nil))))⟩)
    (case a_MIR => k_is)
    (case l_MIR => k_is)
    (case h_MIR => k_keys)
    (case d_down => k_is)
    (case r_down => exact ⟨_, rfl⟩)
    (case d_up => k_is)
    (case r_up => exact ⟨_, rfl⟩)
    (case d_half_down => k_is)
    (case r_half_down => exact ⟨_, rfl⟩)
    (case d_half_up => k_is)
    (case r_half_up => exact ⟨_, rfl⟩)
    (case d_half_even => k_is)
    (case r_half_even => exact ⟨_, rfl⟩)
#print axioms PySem.Challenge.cw_handedtext_k62_whole_efforts_holds
