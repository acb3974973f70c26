import PyProof.Rows.All
import Wide.All
import OpenK.AllK
import Wide.FinOn
import HandS.CallSlots
import HandS.Deep
import HandS.Defaults
import HandS.Exc
import HandS.ExcField
import HandS.ExcInit
import HandS.ExcIs
import HandS.ExcValue
import HandS.ForMost
import HandS.HotCalls
import HandS.IsInst
import HandS.MakeKwOnly
import HandS.More
import HandS.NoneIn
import HandS.RaiseFrom
import HandS.ReplaceLit
import HandS.StrMore
import HandS.Style
import HandS.SuiteRaise
import HandS.TryOnly
import HandS.Wide
import HandS.WideBits
import HandS.WordsExc
import KE.KEqDeep
import KE.KEqSeq
import KE.KExcIs
import HandS.Gcd
import HandS.SortKw
import KE.DataMinMax
import PySem.Challenge.RW_handedtext_k57_whole_calm_sides
set_option Elab.async false
set_option linter.all false
set_option maxRecDepth 100000
set_option maxHeartbeats 4000000
set_option exponentiation.threshold 9000
open PySem L2
local macro_rules | `(tactic| walk_at "rd") => `(tactic| repeat (first | refine ⟨_, rfl, ?_⟩ | refine ⟨_, _, rfl, rfl, ?_⟩ | refine .inl ⟨_, rfl, ?_⟩))
namespace L2
open PySem PySem.Spec PyProof.Rows
/-- an error that was caught and kept, at a -/
def ExK (cls : Value) (a : Addr) : HO := .ext fun hp => ∃ (rec' : Obj) (cells : Array Value), hp.get? a = some rec' ∧ Zc cls none rec' ∧ rec'.data = .fields cells
/-- wKeep: what 'except x as n' wishes, where the error stays tracked behind the suite -/
def wKeep (K : PySem.W.Frag) (c : Value) (i : Nat) (ts : Addr → Value → Option Addr → TS) (Wout : WX) (D : Ends) : WX := fun kl dd st H =>
  ∃ yes, PySem.W.exmOne K kl c = some yes ∧ (yes = true → dd = none ∧ ∀ a, H a = none → ts a kl dd { nx := fun st' H' => D.nx (st'.set i none) (upd H' a (ExK kl a)), rt := D.rt, bk := fun st' H' => D.bk (st'.set i none) H', ct := fun st' H' => D.ct (st'.set i none) H' } (st.set i (some (.ref a))) H) ∧
    (yes = false → Wout kl dd st H)
section
variable {X : Cx} {pins : List (Addr × Obj)} {st : St} {H : Hp} {sh : Shared}
theorem Inv.adopt {a : Addr} {kl : Value} {rc : Obj} {cells : Array Value} (iv : Inv X pins st H sh) (new0 : X.s_0.heap.get? a = none) (free : H a = none) (at0 : sh.heap.get? a = some rc) (zc : Zc kl none rc) (fl : rc.data = .fields cells) (nl : a ≠ X.env.locals)
    (np : ∀ p ∈ X.pn ++ pins, p.1 ≠ a) : Inv X pins st (upd H a (ExK kl a)) sh := by
  have old : ∀ c rr, X.s_0.heap.get? c = some rr → c ≠ a := fun c rr e z => by
    rw [z, new0] at e
    cases e
  have other : ∀ c u, H c = some u → upd H a (ExK kl a) c = some u := fun c u e => (upd_ne (ne_of_none e free)).trans e
  refine ⟨iv.ok, iv.os, iv.bare, ⟨iv.base.keep, iv.base.slot, fun c rr e n0 nx => ?_, iv.base.there, fun c xs e => other _ _ (iv.base.tups c xs e), fun c rr u e => other _ _ (iv.base.frzs c rr u e), fun c ps e => ?_⟩, iv.loc, iv.cell, ?_, fun y c e => ?_, fun p hp => ?_, fun c u e => ?_, iv.len⟩
  · exact (upd_ne (old c rr e)).trans (iv.base.free c rr e n0 nx)
  · obtain ⟨more, e2⟩ := iv.base.tbls c ps e
    exact ⟨more, other _ _ e2⟩
  · exact (upd_ne nl.symm).trans iv.free
  · obtain ⟨w, rr, e2, e3⟩ := iv.cell y c e
    refine (upd_ne fun z => ?_).trans (iv.freeC y c e)
    subst z
    rw [at0] at e2
    cases e2
    simp [fl] at e3
  · obtain ⟨e1, e2, e3, e4, e5⟩ := iv.pin p hp
    exact ⟨e1, (upd_ne (np p hp)).trans e2, e3, e4, e5⟩
  · by_cases ca : c = a
    · subst ca
      rw [upd_same] at e
      cases e
      exact ⟨⟨rc, cells, at0, zc, fl⟩, ⟨rc, at0⟩, fun _ _ ⟨r2, c2, e2, e3⟩ same => ⟨r2, c2, same _ e2, e3⟩⟩
    · rw [upd_ne ca] at e
      exact (iv.hok c u e).stay (fun _ _ _ e2 => e2) (fun c2 e2 => other _ _ e2) fun c2 xs e2 => other _ _ e2
end
end L2
namespace L2
open PySem PySem.Spec PyProof.Rows
section
variable {X : Cx} {x n : Str} {c : Value} {i : Nat} {body suite : List Stmt} {first : Stmt} {np pos pos' : Pos} {tb : WX → TS} {ts : Addr → Value → Option Addr → TS} {Wout : WX}
/-- try: .. except x as n: suite; the caught error stays tracked behind it -/
theorem ps_try_keep (stk : X.stack = X.env :: X.outer) (frm : X.env.frame = some X.env.locals) (noex : X.ex = []) (dist : X.N.Nodup) (slot : X.N[i]? = some n) (loc : X.env.kindOf n = some .local) (nam : Names X x c) (tk : Takes X Wout)
    (inner : ∀ (W : WX) (pn : List (Addr × Obj)) (xe : Value → Shared → Prop), Takes (X.tr pn xe) W → PassesOwn (model X.prog X.w) X.A X.env xe → PSs (X.tr pn xe) body (tb W))
    (caught : ∀ (a : Addr) (rc : Obj) (kl : Value) (dd : Option Addr) (pn : List (Addr × Obj)), Zc kl dd rc → (∃ cells, rc.data = .fields cells) → PSs (X.suite a ((a, rc) :: pn)) (first :: suite) (ts a kl dd)) :
    PS X (.Try body [.ExceptHandler (some (.Name x np)) (some n) (first :: suite) pos'] [] [] pos) (fun D st H => tb (wKeep X.K c i ts Wout D) D st H) where
  run := fun pins sh st H D iv want => by
    have fine := iv.ok
    have frames : X.A.frames = some (X.env :: X.outer) := by rw [fine.frames, stk]
    refine wpAny_Try_except (wpAny_mono ((inner (wKeep X.K c i ts Wout D) (X.pn ++ pins) _ (fun u sh' air => ?_) PassesOwn.looking).run [] sh st H D (iv.toTry _) want) ?_ fun _ _ e => e)
    · obtain ⟨a, B, shI, pins', st1, H1, kl, dd, rfl, ivT, inB, upTo, sky, freeA, sameOs, bareG, yes, dec, onYes, onNo⟩ := air
      have iv1 : Inv X pins st1 H1 shI := ivT.ofTry fine
      rw [stk] at sky
      refine Sky.land Zc.steady frames frm sky fun hp3 fly3 up3 => ?_
      have bNone : B.get? a = none := fly3.2.1
      have iv3 : Inv X pins st1 H1 { sh' with heap := hp3 } := iv1.landed inB fly3.1 (upTo.trans up3) sameOs bareG
      obtain ⟨rc3, cells3, at3, zc3, dt3⟩ := fly3.there
      have offFrames : a ∉ frs (X.env :: X.outer) := fun mem => by
        obtain ⟨_, r2, e2, bad⟩ := fly3.2.2.1.mem mem
        rw [at3] at e2
        cases e2
        exact bad _ dt3
      have offL : a ≠ X.env.locals := fun z => offFrames (List.mem_filterMap.mpr ⟨X.env, List.mem_cons_self, by rw [frm, z]⟩)
      have offF : a ∉ X.fs := fun mem => by
        obtain ⟨ee, inn, ef⟩ := List.mem_filterMap.mp mem
        exact offFrames (List.mem_filterMap.mpr ⟨ee, List.mem_cons_of_mem _ inn, ef⟩)
      have notThere : shI.heap.get? a = none := by
        cases e : shI.heap.get? a with
        | none => rfl
        | some rr =>
          have z := inB a rr e (by rw [stk]; exact offFrames)
          rw [bNone] at z
          cases z
      have new0 : X.s_0.heap.get? a = none := by
        cases e : X.s_0.heap.get? a with
        | none => rfl
        | some rr =>
          obtain ⟨r2, e2⟩ := iv1.base.there a rr e (by rw [noex]; exact List.not_mem_nil)
          rw [notThere] at e2
          cases e2
      have pinsOff : ∀ p ∈ X.pn ++ pins, p.1 ≠ a := fun p hp z => by
        have e2 := (iv1.pin p hp).1
        rw [z, notThere] at e2
        cases e2
      have inSuite := iv3.suite at3 dt3 freeA offL offF
      refine wpAny_handleBy_cons (codeAny_handlers_test ?_) (by intro q; cases q)
      have theClass : PySem.W.Looks (model X.prog X.w) hp3 (typeOf (.ref a)) kl := fun A' Q' E' s' kk qq => wpAny_typeOf_ref (kk _ _ at3) (by rw [zc3.1]; exact qq)
      have theTest := PySem.W.exm_one (M := model X.prog X.w) iv3.kIn theClass dec
      have clause : ∀ {Q' : Value → Shared → Prop} {E' : Value → Shared → Prop}, Q' c { sh' with heap := hp3 } → wpAny (model X.prog X.w) (X.A.mark (some (.ref a))) (eval (.Name x np) X.env) Q' E' { sh' with heap := hp3 } := fun {Q' E'} qq => by
        obtain ⟨g1, g2, g3 | ⟨g3, g4, g5⟩⟩ := nam
        · exact ld_glob (X := X.suite a ((a, rc3) :: (X.pn ++ pins))) inSuite g1 g3 qq g2
        · exact ld_blt (X := X.suite a ((a, rc3) :: (X.pn ++ pins))) inSuite g1 g3 g4 qq g5 g2
      refine clause (theTest.here ?_)
      cases yes with
      | true =>
        obtain ⟨rfl, go⟩ := onYes rfl
        refine codeAny_handlers_suite_as (HandSPX.lands_againZ fly3 fun hp4 fly4 up4 => ?_)
        have iv4 : Inv X pins st1 H1 { sh' with heap := hp4 } := iv1.landed inB fly4.1 ((upTo.trans up3).trans up4) sameOs bareG
        obtain ⟨rc4, cells4, at4, zc4, dt4⟩ := fly4.there
        refine store_ok (X := X.suite a ((a, rc4) :: (X.pn ++ pins))) (v := .ref a) (iv4.suite at4 dt4 freeA offL offF) dist slot (.inl loc) rfl (fun sh5 iv5 => ?_) (.inr loc)
        refine wpAny_mono ((caught a rc4 kl none (X.pn ++ pins) zc4 ⟨_, dt4⟩).run [] sh5 _ H1 _ iv5 (go a freeA)) (fun flow sh6 came => ?_) fun _ _ z => z.elim
        cases flow with
        | next =>
          obtain ⟨st6, H6, iv6, q6⟩ := came
          have more : Inv X ((a, rc4) :: pins) st6 H6 sh6 := ⟨fine, iv6.os, iv6.bare, iv6.base, iv6.loc, iv6.cell, iv6.free, iv6.freeC, fun p hp => iv6.pin p (List.mem_append_left _ ?_), iv6.hok, iv6.len⟩
          refine gone_ok more dist slot loc fun sh7 iv7 => ?_
          have there : (a, rc4) ∈ X.pn ++ (a, rc4) :: pins := List.mem_append_right _ List.mem_cons_self
          obtain ⟨e1, e2, e3, _⟩ := iv7.pin (a, rc4) there
          have less : Inv X pins (st6.set i none) H6 sh7 := ⟨fine, iv7.os, iv7.bare, iv7.base, iv7.loc, iv7.cell, iv7.free, iv7.freeC, fun p hp => iv7.pin p ?_, iv7.hok, iv7.len⟩
          · exact ⟨_, _, less.adopt new0 e2 e1 zc4 dt4 e3 pinsOff, q6⟩
          · rcases List.mem_append.mp hp with hq | hq
            · exact List.mem_append_left _ hq
            · exact List.mem_append_right _ (List.mem_cons_of_mem _ hq)
          · rcases List.mem_append.mp hp with hq | hq
            · exact List.mem_cons_of_mem _ (List.mem_append_left _ hq)
            · rcases List.mem_cons.mp hq with hr | hr
              · rw [hr]; exact List.mem_cons_self
              · exact List.mem_cons_of_mem _ (List.mem_append_right _ hr)
        | brk =>
          obtain ⟨st6, H6, iv6, q6⟩ := came
          exact gone_ok (iv6.unsuite fine) dist slot loc fun sh7 iv7 => ⟨_, _, iv7, q6⟩
        | cont =>
          obtain ⟨st6, H6, iv6, q6⟩ := came
          exact gone_ok (iv6.unsuite fine) dist slot loc fun sh7 iv7 => ⟨_, _, iv7, q6⟩
        | ret u =>
          obtain ⟨v6, st6, H6, iv6, r6, q6⟩ := came
          exact gone_ok (iv6.unsuite fine) dist slot loc fun sh7 iv7 => ⟨_, _, _, iv7, r6, q6⟩
      | false =>
        show wpAny _ X.A (handleBy (.ref a) X.env []) _ _ _
        refine wpAny_handleBy_nil ?_
        obtain ⟨_, _, _, rc5, cells5, tr5, _, _, at5, _, dt5, at1, _⟩ := id fly3
        unfold PySem.passOn
        refine wpAny_bind (wpAny_field at5 dt5 at1 ?_)
        rw [if_neg (by simp : ¬ (Value.ref tr5 == Value.none) = true)]
        have out : wpAny (model X.prog X.w) X.A (setFlight (.ref a) X.env.frame) (fun _ sh8 => wpAny (model X.prog X.w) X.A (throw (.ref a) : Sem Flow) (SP X pins D) X.xe sh8) X.xe { sh' with heap := hp3 } := by
          rw [frm]
          refine HandSPX.setFlight_upZ fly3 fun hp8 held up8 => wpAny_throw (tk _ _ ?_)
          exact ⟨a, B, shI, pins, st1, H1, kl, dd, rfl, iv1, inB, (upTo.trans up3).trans up8, .inr (.inr (by rw [stk]; exact held)), freeA, sameOs, bareG, onNo rfl⟩
        first
          | exact wpAny_bind out
          | exact wpAny_bind (wpAny_pure (wpAny_bind out))
    · intro flow sh1 came
      cases flow with
      | next =>
        obtain ⟨st1, H1, iv1, q1⟩ := came
        exact wpAny_execs_nil ⟨st1, H1, iv1.ofTry fine, q1⟩
      | brk =>
        obtain ⟨st1, H1, iv1, q1⟩ := came
        exact ⟨st1, H1, iv1.ofTry fine, q1⟩
      | cont =>
        obtain ⟨st1, H1, iv1, q1⟩ := came
        exact ⟨st1, H1, iv1.ofTry fine, q1⟩
      | ret u =>
        obtain ⟨v1, st1, H1, iv1, r1, q1⟩ := came
        exact ⟨v1, st1, H1, iv1.ofTry fine, r1, q1⟩
end
end L2
namespace L2
open PySem PySem.Spec PyProof.Rows
/-- what the written part says of an error class, for isinstance -/
structure ErrC (K : PySem.W.Frag) (C : Addr) : Prop where
  cl : (PySem.W.clsIn K C).isSome = true
  ga : PySem.W.findIn K (.ref C) "__getattribute__" = some (some (.builtin "BaseException.__getattribute__"))
  gg : PySem.W.findIn K (.ref C) "__getattr__" = some none
  sb : PySem.W.subIn K (.ref C) (.type "BaseException") = some true
  cn : PySem.W.findIn K (.ref C) "__class__" = some (some (.builtin "object.__class__"))
  mo : PySem.W.mroIn K C (.type "object") = some true
/-- .. of the attribute __class__ of all objects -/
structure ErrG (K : PySem.W.Frag) : Prop where
  sp : PySem.W.specialIn K (.builtin "object.__class__") "__get__" = some (some (.builtin "getset_descriptor.__get__"))
  tk : PySem.W.takesIn K (.builtin "object.__class__") = some true
def rIsKept (K : PySem.W.Frag) : List V → Hp → VK → Prop := fun xs H Q => ∃ (a C : Addr) (c : V) (cv : Value) (b : Bool), xs = [.ref a, c] ∧ ClsV c cv ∧ H a = some (ExK (.ref C) a) ∧ ErrC K C ∧ ErrG K ∧ PySem.W.kitOne K (.ref C) cv = some b ∧ Q (.bl b) H
theorem call_isKept {X : Cx} : CallR X (.builtin "isinstance") (rIsKept X.K) := by
  intro pins sh st H xs us Q iv r h
  obtain ⟨a, C, c, cv, b, rfl, k, at', T, G, e, q⟩ := h
  obtain ⟨u1, u2, rfl, r1, r2⟩ := vals2 r
  have e2 := k.eq r2
  subst e2
  obtain rfl : u1 = Value.ref a := r1
  obtain ⟨⟨oe, vs, ho, hz, hd⟩, _, _⟩ := iv.hok a _ at'
  have J : PySem.W.InstAt sh.heap a oe C none := by
    obtain ⟨oc, od, oda, osl⟩ := oe
    obtain ⟨h1, h2⟩ := hz
    dsimp only at h1 h2 hd
    subst h1 h2 hd
    exact ⟨ho, rfl, rfl, trivial⟩
  exact PySem.W.kia_one (PySem.W.kitx_exc T.cl T.ga T.gg T.sb T.cn G.sp G.tk T.mo) iv.kIn J e (fun z => nomatch z) fun tk => ⟨.bl b, H, iv.tok tk, rfl, q⟩
end L2
namespace L2
open PySem PySem.Spec PyProof.Rows
/-- a def of which any kind of error may come -/
theorem Fun.okAny {CX' : CXT} {P : Program} {w : World} {K : PySem.W.Frag} {mg : Str → Option Value} {base : Heap} {nm qu : Str} {row : Stmt} {at0 : Addr} {fd : FuncData} {names pars : List Str} {lev : Nat} {want : Sp} (F : Fun K nm qu row at0 fd) (S : FnScope names pars (defScope row)) (len : ∀ vs H Q E, want vs H Q E → vs.length = pars.length)
    (body : ∀ (code : Value) (A : Around) (outer : List Env) (sh : Shared) (H : Hp) (vs : List V) (Q : VK) (E : XK), Room lev (A.deeper (envOfC qu (defScope row) sh.heap.objs.size at0 code)) → want vs H Q E →
      ∃ t, PSs (cxOf CX' P w K mg base names qu (defScope row) at0 code A outer sh H E) (defBody row) t ∧ t { nx := fun _ H' => Q .non H', rt := Q } (start names vs) H) : FnOk P w K mg base CX' (lev + 1) at0 fd pars want := by
  obtain ⟨_, _, _, _, _, _, code, _, _, rfl, there, isCode⟩ := F.ex
  exact fn_of there isCode S len (body code)
/-- X('..') of an own class, for a raise .. from None -/
theorem pmk5_own {X : Cx} {C : Addr} {bmB : List Value} {B newId initId : String} {x m : Str} {j : Nat} {p p2 pos : Pos} (F : ExcBaseFacts B newId initId bmB) (q : PySem.W.excIn X.K C bmB newId = true) (gC : X.mg x = some (.ref C)) (kC : PySem.W.keepIn X.K (.ref C) = true) (r : Raises X (.ref C)) (hg : Gl X x)
    (plain : (x == ("__debug__" : Str)) = false := by decide) : L2H.PMk5 X (.Call (.Name x p) [.Constant (.str m) j p2] [] pos) (fun _ H Q => Q (.ref C) none H) := by
  intro pins sh st H Q iv want
  have arg : PA X [.Constant (.str m) j p2] (tCons (tC (.str m)) tNil) := pa_cons pe_str pa_nil
  refine wpAny_Call_Name_kw (ld_glob iv hg gC (PySem.W.callWith_K (h₀ := X.base) iv.ok.mod.kin kC (thn (arg.run pos pins sh st H (fun vs H1 => vs = [V.str m] ∧ H = H1) iv ⟨rfl, rfl⟩) ?_)) plain)
  rintro us sh1 ⟨vs, H1, iv1, rel, rfl, rfl⟩
  refine ⟨iv1.kIn, ?_⟩
  match us, rel with
  | [u], .cons _ .nil =>
    show wpAny _ _ (call (.ref C) [u]) _ _ _
    obtain ⟨_, _, _, _, _, _, _, _, _, _, _, _, _, _, _, _, _, hC, hN, hni, T⟩ := exc_obj iv1.kIn q
    exact wpAny_call_exc_subT F T hC hN hni (fun h' e made => L2H.mk_of5 iv1 made r want (iv1.hok.gone made.new)) (by show 1 ≤ sizeLine; decide)
/-- try: .. except x: suite, the suite raising: ps_try_onlyX with its reading under a name, for a loop around it -/
def tTryX (K : PySem.W.Frag) (c : Value) (ts : Addr → Value → Option Addr → TS) (Wout : WX) (tb : WX → TS) : TS := fun D st H => tb (wOnly K c ts Wout D) D st H
theorem ps_tryX {X : Cx} {x : Str} {c : Value} {body suite : List Stmt} {first : Stmt} {np pos pos' : Pos} {tb : WX → TS} {ts : Addr → Value → Option Addr → TS} {Wout : WX} (h1 : X.stack = X.env :: X.outer) (h2 : X.env.frame = some X.env.locals) (h3 : Names X x c)
    (h4 : ∀ hd : Option Value, PassesOwnAt (model X.prog X.w) (X.A.mark hd) X.A X.env X.xe) (h5 : L2.Takes X Wout)
    (h6 : ∀ (W : WX) (pn : List (Addr × Obj)) (xe : Value → Shared → Prop), L2N.Takes (X.tr pn xe) W → L2.Takes (X.tr pn xe) (L2H.wPass X.K c Wout) → PassesOwn (model X.prog X.w) X.A X.env xe → PSs (X.tr pn xe) body (tb W))
    (h7 : ∀ (a : Addr) (oe : Obj) (cls : Value) (d : Option Addr) (pn : List (Addr × Obj)), L2N.Zn cls d oe → (∃ vs, oe.data = .fields vs) → L2.Takes (L2H.suiteX X a ((a, oe) :: pn)) Wout → L2H.HotC (L2H.suiteX X a ((a, oe) :: pn)) → PSs (L2H.suiteX X a ((a, oe) :: pn)) (first :: suite) (ts a cls d)) :
    PS X (.Try body [.ExceptHandler (some (.Name x np)) none (first :: suite) pos'] [] [] pos) (tTryX X.K c ts Wout tb) := L2H.ps_try_onlyX h1 h2 h3 h4 h5 h6 h7
end L2
namespace HT
open PySem L2
def top (i : Nat) : Stmt := PySem.Challenge.pw_handedtext_k57_whole_calm_sides.main.body.getD i (.Pass ⟨0, 0, 0, 0⟩)
abbrev s_is_int : Stmt := top 8
abbrev s_is_int_between : Stmt := top 9
abbrev s_check_value : Stmt := top 10
abbrev s_check_side : Stmt := top 14
abbrev s_is_side : Stmt := top 15
abbrev s_figure : Stmt := top 16
abbrev s_goes_up : Stmt := top 17
abbrev s_written : Stmt := top 18
abbrev s_span : Stmt := top 19
abbrev s_uspan : Stmt := top 20
abbrev s_below : Stmt := top 21
abbrev s_mirror : Stmt := top 22
abbrev s_form : Stmt := top 23
abbrev s_first_mode : Stmt := top 24
abbrev s_check_sides : Stmt := top 27
abbrev s_period_of : Stmt := top 28
abbrev s_common_period : Stmt := top 29
abbrev s_raisers : Stmt := top 30
abbrev s_raises_some : Stmt := top 31
abbrev s_highest : Stmt := top 32
abbrev s_mirrors : Stmt := top 33
abbrev s_first_hit : Stmt := top 35
abbrev s_first_between : Stmt := top 36
abbrev s_unraised : Stmt := top 38
abbrev s_first_in_block : Stmt := top 39
abbrev s_first_in_both : Stmt := top 40
abbrev s_reach : Stmt := top 43
abbrev s_check_few : Stmt := top 44
abbrev s_first_unraised : Stmt := top 45
abbrev s_first_unraised_by_two : Stmt := top 46
abbrev s_calm : Stmt := top 48
abbrev s_are_calm : Stmt := top 49
abbrev s_one_more : Stmt := top 50
abbrev s_L_source : Stmt := top 52
abbrev s_L_draw : Stmt := top 53
abbrev s_L_pick : Stmt := top 54
abbrev s_L_divisor : Stmt := top 55
abbrev s_L_great : Stmt := top 56
abbrev s_L_small_side : Stmt := top 57
abbrev s_L_figure : Stmt := top 58
abbrev s_L_handed : Stmt := top 59
abbrev s_L_period : Stmt := top 60
abbrev s_L_set : Stmt := top 61
abbrev s_L_written : Stmt := top 62
abbrev s_L_is_calm : Stmt := top 63
abbrev s_L_lists : Stmt := top 64
abbrev s_L_due : Stmt := top 65
abbrev s_L_is_few : Stmt := top 66
abbrev s_L_fits : Stmt := top 67
abbrev s_law : Stmt := top 68
/- is_int: 0:thing -/
theorem sc_is_int : FnScope ["thing"] ["thing"] (defScope s_is_int) := ⟨rfl, rfl, rfl, by decide +kernel, rfl, by decide +kernel, by decide +kernel⟩
/- is_int_between: 0:thing 1:least 2:most -/
theorem sc_is_int_between : FnScope ["thing", "least", "most"] ["thing", "least", "most"] (defScope s_is_int_between) := ⟨rfl, rfl, rfl, by decide +kernel, rfl, by decide +kernel, by decide +kernel⟩
/- check_value: 0:value -/
theorem sc_check_value : FnScope ["value"] ["value"] (defScope s_check_value) := ⟨rfl, rfl, rfl, by decide +kernel, rfl, by decide +kernel, by decide +kernel⟩
/- check_side: 0:side 1:offset 2:step 3:mode -/
theorem sc_check_side : FnScope ["side", "offset", "step", "mode"] ["side"] (defScope s_check_side) := ⟨rfl, rfl, rfl, by decide +kernel, rfl, by decide +kernel, by decide +kernel⟩
/- is_side: 0:thing -/
theorem sc_is_side : FnScope ["thing"] ["thing"] (defScope s_is_side) := ⟨rfl, rfl, rfl, by decide +kernel, rfl, by decide +kernel, by decide +kernel⟩
/- _figure: 0:side 1:value 2:offset 3:step 4:mode 5:figure 6:rest -/
theorem sc_figure : FnScope ["side", "value", "offset", "step", "mode", "figure", "rest"] ["side", "value"] (defScope s_figure) := ⟨rfl, rfl, rfl, by decide +kernel, rfl, by decide +kernel, by decide +kernel⟩
/- _goes_up: 0:mode 1:step 2:figure 3:rest -/
theorem sc_goes_up : FnScope ["mode", "step", "figure", "rest"] ["mode", "step", "figure", "rest"] (defScope s_goes_up) := ⟨rfl, rfl, rfl, by decide +kernel, rfl, by decide +kernel, by decide +kernel⟩
/- written: 0:side 1:value 2:offset 3:step 4:_ -/
theorem sc_written : FnScope ["side", "value", "offset", "step", "_"] ["side", "value"] (defScope s_written) := ⟨rfl, rfl, rfl, by decide +kernel, rfl, by decide +kernel, by decide +kernel⟩
/- span: 0:side 1:figure -/
theorem sc_span : FnScope ["side", "figure"] ["side", "figure"] (defScope s_span) := ⟨rfl, rfl, rfl, by decide +kernel, rfl, by decide +kernel, by decide +kernel⟩
/- _span: 0:side 1:figure 2:offset 3:step 4:mode 5:value -/
theorem sc_uspan : FnScope ["side", "figure", "offset", "step", "mode", "value"] ["side", "figure"] (defScope s_uspan) := ⟨rfl, rfl, rfl, by decide +kernel, rfl, by decide +kernel, by decide +kernel⟩
/- _below: 0:mode 1:step 2:figure -/
theorem sc_below : FnScope ["mode", "step", "figure"] ["mode", "step", "figure"] (defScope s_below) := ⟨rfl, rfl, rfl, by decide +kernel, rfl, by decide +kernel, by decide +kernel⟩
/- mirror: 0:side 1:offset 2:step 3:mode -/
theorem sc_mirror : FnScope ["side", "offset", "step", "mode"] ["side"] (defScope s_mirror) := ⟨rfl, rfl, rfl, by decide +kernel, rfl, by decide +kernel, by decide +kernel⟩
/- form: 0:side 1:offset 2:step 3:mode 4:first -/
theorem sc_form : FnScope ["side", "offset", "step", "mode", "first"] ["side"] (defScope s_form) := ⟨rfl, rfl, rfl, by decide +kernel, rfl, by decide +kernel, by decide +kernel⟩
/- _first_mode: 0:step 1:mode -/
theorem sc_first_mode : FnScope ["step", "mode"] ["step", "mode"] (defScope s_first_mode) := ⟨rfl, rfl, rfl, by decide +kernel, rfl, by decide +kernel, by decide +kernel⟩
/- check_sides: 0:sides 1:side -/
theorem sc_check_sides : FnScope ["sides", "side"] ["sides"] (defScope s_check_sides) := ⟨rfl, rfl, rfl, by decide +kernel, rfl, by decide +kernel, by decide +kernel⟩
/- period_of: 0:side 1:_ 2:step 3:mode -/
theorem sc_period_of : FnScope ["side", "_", "step", "mode"] ["side"] (defScope s_period_of) := ⟨rfl, rfl, rfl, by decide +kernel, rfl, by decide +kernel, by decide +kernel⟩
/- common_period: 0:sides 1:many 2:side -/
theorem sc_common_period : FnScope ["sides", "many", "side"] ["sides"] (defScope s_common_period) := ⟨rfl, rfl, rfl, by decide +kernel, rfl, by decide +kernel, by decide +kernel⟩
/- raisers: 0:sides 1:side -/
theorem sc_raisers : FnScope ["sides", "side"] ["sides"] (defScope s_raisers) := ⟨rfl, rfl, rfl, by decide +kernel, rfl, by decide +kernel, by decide +kernel⟩
/- _raises_some: 0:side 1:_ 2:mode -/
theorem sc_raises_some : FnScope ["side", "_", "mode"] ["side"] (defScope s_raises_some) := ⟨rfl, rfl, rfl, by decide +kernel, rfl, by decide +kernel, by decide +kernel⟩
/- highest: 0:sides 1:value 2:side -/
theorem sc_highest : FnScope ["sides", "value", "side"] ["sides", "value"] (defScope s_highest) := ⟨rfl, rfl, rfl, by decide +kernel, rfl, by decide +kernel, by decide +kernel⟩
/- mirrors: 0:sides 1:side -/
theorem sc_mirrors : FnScope ["sides", "side"] ["sides"] (defScope s_mirrors) := ⟨rfl, rfl, rfl, by decide +kernel, rfl, by decide +kernel, by decide +kernel⟩
/- first_hit: 0:start 1:step 2:most 3:modulus 4:least 5:greatest -/
theorem sc_first_hit : FnScope ["start", "step", "most", "modulus", "least", "greatest"] ["start", "step", "most", "modulus"] (defScope s_first_hit) := ⟨rfl, rfl, rfl, by decide +kernel, rfl, by decide +kernel, by decide +kernel⟩
/- _first_between: 0:step 1:least 2:greatest 3:modulus 4:many 5:rounds -/
theorem sc_first_between : FnScope ["step", "least", "greatest", "modulus", "many", "rounds"] ["step", "least", "greatest", "modulus"] (defScope s_first_between) := ⟨rfl, rfl, rfl, by decide +kernel, rfl, by decide +kernel, by decide +kernel⟩
/- unraised: 0:side 1:least 2:offset 3:step 4:_ 5:period 6:blocks 7:figure 8:low 9:high 10:start -/
theorem sc_unraised : FnScope ["side", "least", "offset", "step", "_", "period", "blocks", "figure", "low", "high", "start"] ["side", "least"] (defScope s_unraised) := ⟨rfl, rfl, rfl, by decide +kernel, rfl, by decide +kernel, by decide +kernel⟩
/- first_in_block: 0:block 1:value 2:start 3:most 4:period 5:past -/
theorem sc_first_in_block : FnScope ["block", "value", "start", "most", "period", "past"] ["block", "value"] (defScope s_first_in_block) := ⟨rfl, rfl, rfl, by decide +kernel, rfl, by decide +kernel, by decide +kernel⟩
/- first_in_both: 0:one 1:other 2:value 3:start 4:most 5:period 6:begin 7:found 8:other_start 9:other_most 10:other_period 11:many -/
theorem sc_first_in_both : FnScope ["one", "other", "value", "start", "most", "period", "begin", "found", "other_start", "other_most", "other_period", "many"] ["one", "other", "value"] (defScope s_first_in_both) := ⟨rfl, rfl, rfl, by decide +kernel, rfl, by decide +kernel, by decide +kernel⟩
/- reach: 0:sides 1:value 2:raising 3:lowering 4:least -/
theorem sc_reach : FnScope ["sides", "value", "raising", "lowering", "least"] ["sides", "value"] (defScope s_reach) := ⟨rfl, rfl, rfl, by decide +kernel, rfl, by decide +kernel, by decide +kernel⟩
/- _check_few: 0:raising -/
theorem sc_check_few : FnScope ["raising"] ["raising"] (defScope s_check_few) := ⟨rfl, rfl, rfl, by decide +kernel, rfl, by decide +kernel, by decide +kernel⟩
/- _first_unraised: 0:raising 1:value 2:end 3:worth -/
theorem sc_first_unraised : FnScope ["raising", "value", "end", "worth"] ["raising", "value"] (defScope s_first_unraised) := ⟨rfl, rfl, rfl, by decide +kernel, rfl, by decide +kernel, by decide +kernel⟩
/- _first_unraised_by_two: 0:first 1:second 2:value 3:found 4:one 5:other 6:near -/
theorem sc_first_unraised_by_two : FnScope ["first", "second", "value", "found", "one", "other", "near"] ["first", "second", "value"] (defScope s_first_unraised_by_two) := ⟨rfl, rfl, rfl, by decide +kernel, rfl, by decide +kernel, by decide +kernel⟩
/- calm: 0:sides 1:left_out 2:numbers 3:number 4:side -/
theorem sc_calm : FnScope ["sides", "left_out", "numbers", "number", "side"] ["sides"] (defScope s_calm) := ⟨rfl, rfl, rfl, by decide +kernel, rfl, by decide +kernel, by decide +kernel⟩
/- _are_calm: 0:sides 1:least 2:greatest -/
theorem sc_are_calm : FnScope ["sides", "least", "greatest"] ["sides"] (defScope s_are_calm) := ⟨rfl, rfl, rfl, by decide +kernel, rfl, by decide +kernel, by decide +kernel⟩
/- _one_more: 0:lists 1:many 2:numbers 3:number -/
theorem sc_one_more : FnScope ["lists", "many", "numbers", "number"] ["lists", "many"] (defScope s_one_more) := ⟨rfl, rfl, rfl, by decide +kernel, rfl, by decide +kernel, by decide +kernel⟩
/- _law_source: 0:_law_script 1:_law_cells 2:_law_k -/
theorem sc_L_source : FnScope ["_law_script", "_law_cells", "_law_k"] ["_law_script"] (defScope s_L_source) := ⟨rfl, rfl, rfl, by decide +kernel, rfl, by decide +kernel, by decide +kernel⟩
/- _law_draw: 0:_law_source_here 1:_law_limit 2:_law_cells 3:_law_turn 4:_law_place 5:_law_cell 6:_law_number -/
theorem sc_L_draw : FnScope ["_law_source_here", "_law_limit", "_law_cells", "_law_turn", "_law_place", "_law_cell", "_law_number"] ["_law_source_here", "_law_limit"] (defScope s_L_draw) := ⟨rfl, rfl, rfl, by decide +kernel, rfl, by decide +kernel, by decide +kernel⟩
/- _law_pick: 0:_law_source_here 1:_law_values -/
theorem sc_L_pick : FnScope ["_law_source_here", "_law_values"] ["_law_source_here", "_law_values"] (defScope s_L_pick) := ⟨rfl, rfl, rfl, by decide +kernel, rfl, by decide +kernel, by decide +kernel⟩
/- _law_divisor: 0:_law_one 1:_law_other -/
theorem sc_L_divisor : FnScope ["_law_one", "_law_other"] ["_law_one", "_law_other"] (defScope s_L_divisor) := ⟨rfl, rfl, rfl, by decide +kernel, rfl, by decide +kernel, by decide +kernel⟩
/- _law_great: 0:_law_source_here 1:_law_digits 2:_law_number 3:_law_k -/
theorem sc_L_great : FnScope ["_law_source_here", "_law_digits", "_law_number", "_law_k"] ["_law_source_here", "_law_digits"] (defScope s_L_great) := ⟨rfl, rfl, rfl, by decide +kernel, rfl, by decide +kernel, by decide +kernel⟩
/- _law_small_side: 0:_law_source_here 1:_law_most 2:_law_offset -/
theorem sc_L_small_side : FnScope ["_law_source_here", "_law_most", "_law_offset"] ["_law_source_here", "_law_most"] (defScope s_L_small_side) := ⟨rfl, rfl, rfl, by decide +kernel, rfl, by decide +kernel, by decide +kernel⟩
/- _law_figure: 0:_law_side 1:_law_value 2:_law_offset 3:_law_step 4:_law_mode 5:_law_low 6:_law_rest -/
theorem sc_L_figure : FnScope ["_law_side", "_law_value", "_law_offset", "_law_step", "_law_mode", "_law_low", "_law_rest"] ["_law_side", "_law_value"] (defScope s_L_figure) := ⟨rfl, rfl, rfl, by decide +kernel, rfl, by decide +kernel, by decide +kernel⟩
/- _law_handed: 0:_law_side 1:_law_value -/
theorem sc_L_handed : FnScope ["_law_side", "_law_value"] ["_law_side", "_law_value"] (defScope s_L_handed) := ⟨rfl, rfl, rfl, by decide +kernel, rfl, by decide +kernel, by decide +kernel⟩
/- _law_period: 0:_law_sides 1:_law_period_here 2:_law_offset 3:_law_step 4:_law_mode 5:_law_length -/
theorem sc_L_period : FnScope ["_law_sides", "_law_period_here", "_law_offset", "_law_step", "_law_mode", "_law_length"] ["_law_sides"] (defScope s_L_period) := ⟨rfl, rfl, rfl, by decide +kernel, rfl, by decide +kernel, by decide +kernel⟩
/- _law_set: 0:_law_source_here 1:_law_most 2:_law_many 3:_law_k -/
theorem sc_L_set : FnScope ["_law_source_here", "_law_most", "_law_many", "_law_k"] ["_law_source_here", "_law_most", "_law_many"] (defScope s_L_set) := ⟨rfl, rfl, rfl, by decide +kernel, rfl, by decide +kernel, by decide +kernel⟩
/- _law_written: 0:_law_sides 1:_law_value 2:_law_one -/
theorem sc_L_written : FnScope ["_law_sides", "_law_value", "_law_one"] ["_law_sides", "_law_value"] (defScope s_L_written) := ⟨rfl, rfl, rfl, by decide +kernel, rfl, by decide +kernel, by decide +kernel⟩
/- _law_is_calm: 0:_law_sides 1:_law_up 2:_law_down 3:_law_value 4:_law_written_here -/
theorem sc_L_is_calm : FnScope ["_law_sides", "_law_up", "_law_down", "_law_value", "_law_written_here"] ["_law_sides"] (defScope s_L_is_calm) := ⟨rfl, rfl, rfl, by decide +kernel, rfl, by decide +kernel, by decide +kernel⟩
/- _law_lists: 0:_law_many 1:_law_length 2:_law_found 3:_law_k 4:_law_more 5:_law_one 6:_law_number -/
theorem sc_L_lists : FnScope ["_law_many", "_law_length", "_law_found", "_law_k", "_law_more", "_law_one", "_law_number"] ["_law_many", "_law_length"] (defScope s_L_lists) := ⟨rfl, rfl, rfl, by decide +kernel, rfl, by decide +kernel, by decide +kernel⟩
/- _law_due: 0:_law_sides 1:_law_length 2:_law_out 3:_law_k -/
theorem sc_L_due : FnScope ["_law_sides", "_law_length", "_law_out", "_law_k"] ["_law_sides"] (defScope s_L_due) := ⟨rfl, rfl, rfl, by decide +kernel, rfl, by decide +kernel, by decide +kernel⟩
/- _law_is_few: 0:_law_sides 1:_law_one 2:_law_low 3:_law_high -/
theorem sc_L_is_few : FnScope ["_law_sides", "_law_one", "_law_low", "_law_high"] ["_law_sides"] (defScope s_L_is_few) := ⟨rfl, rfl, rfl, by decide +kernel, rfl, by decide +kernel, by decide +kernel⟩
/- _law_fits: 0:_law_sides 1:_law_factor 2:_law_due_here 3:_law_one 4:_law_lifted 5:_law_found 6:_law_k 7:_law_left 8:_law_value -/
theorem sc_L_fits : FnScope ["_law_sides", "_law_factor", "_law_due_here", "_law_one", "_law_lifted", "_law_found", "_law_k", "_law_left", "_law_value"] ["_law_sides", "_law_factor", "_law_due_here"] (defScope s_L_fits) := ⟨rfl, rfl, rfl, by decide +kernel, rfl, by decide +kernel, by decide +kernel⟩
/- law: 0:_law_script 1:_law_source_here 2:_law_turn 3:_law_sides 4:_law_one 5:_law_modes 6:_law_k 7:_law_due_here 8:_law_rows -/
theorem sc_law : FnScope ["_law_script", "_law_source_here", "_law_turn", "_law_sides", "_law_one", "_law_modes", "_law_k", "_law_due_here", "_law_rows"] ["_law_script"] (defScope s_law) := ⟨rfl, rfl, rfl, by decide +kernel, rfl, by decide +kernel, by decide +kernel⟩

end HT
namespace L2
open PySem PySem.Spec PyProof.Rows
/-- powers of great numbers -/
def CPowW (i j : Int) : Prop := 0 ≤ j ∧ (Builtin.Int.intBits i : Int) * j ≤ 2 ^ 27
theorem op_powW {X : Cx} : OpR X (binaryOp .Pow) (rI CPowW fun i j => .int (i ^ j.toNat)) := opI fun _ _ _ _ _ _ _ hc q => pow_int hc.1 hc.2 q
end L2
namespace HT
open PySem L2
/-- the law's source of draws: a list of its cells' list and the turn -/
structure Src (H : Hp) (a c : Addr) (t : Nat) : Prop where
  ne : a ≠ c
  ob : H a = some (.lst [.ref c, .int (t : Int)])
  cl : ∃ cs : List Int, H c = some (.lst (cs.map V.int)) ∧ 0 < cs.length ∧ cs.length ≤ 63
/-- nothing else is touched -/
def Oth (a c : Addr) (H H' : Hp) : Prop := ∀ b o, H b = some o → b ≠ a → b ≠ c → H' b = some o
theorem Oth.refl (a c : Addr) (H : Hp) : Oth a c H H := fun _ _ h _ _ => h
theorem Oth.trans {a c : Addr} {H H1 H2 : Hp} (x : Oth a c H H1) (y : Oth a c H1 H2) : Oth a c H H2 := fun b o h n m => y b o (x b o h n m) n m
theorem Oth.new {a c p : Addr} {H H1 : Hp} {o : HO} (x : Oth a c H H1) (n : H1 p = none) : Oth a c H (upd H1 p o) := fun b u h na nc => by
  rw [upd_ne (ne_of_none (x b u h na nc) n)]
  exact x b u h na nc
theorem Src.new {a c p : Addr} {H : Hp} {t : Nat} {o : HO} (S : Src H a c t) (n : H p = none) : Src (upd H p o) a c t := by
  obtain ⟨cs, h, l⟩ := S.cl
  exact ⟨S.ne, by rw [upd_ne (ne_of_none S.ob n)]; exact S.ob, cs, by rw [upd_ne (ne_of_none h n)]; exact h, l⟩
theorem Src.of_same {a c : Addr} {H H' : Hp} {t : Nat} (S : Src H a c t) (e : Same H H') : Src H' a c t := by
  obtain ⟨cs, h, l⟩ := S.cl
  exact ⟨S.ne, e _ _ S.ob, cs, e _ _ h, l⟩
theorem Src.na {a c p : Addr} {H : Hp} {t : Nat} (S : Src H a c t) (n : H p = none) : p ≠ a ∧ p ≠ c := by
  obtain ⟨cs, h, l⟩ := S.cl
  exact ⟨(ne_of_none S.ob n).symm, (ne_of_none h n).symm⟩
theorem Src.nt {a c p : Addr} {H : Hp} {t : Nat} {xs : List V} (S : Src H a c t) (n : H p = some (.tup xs)) : p ≠ a ∧ p ≠ c := by
  obtain ⟨cs, h, l⟩ := S.cl
  exact ⟨ne_of n S.ob (by intro z; cases z), ne_of n h (by intro z; cases z)⟩
def spSource (K : PySem.W.Frag) : Sp := fun vs H Q _ => ∃ (l : Addr) (ns : List Int), vs = [.ref l] ∧ SqL K H l (ns.map V.int) ∧ ns.length ≤ 63 ∧
  ∀ a c H', Same H H' → H a = none → H c = none → Src H' a c 0 → Q (.ref a) H'
def spDraw : Sp := fun vs H Q _ => ∃ (a c : Addr) (t : Nat) (lim : Int), vs = [.ref a, .int lim] ∧ Src H a c t ∧ t < 2 ^ 30 ∧ 0 < lim ∧ lim.natAbs.log2 < 9000 ∧
  ∀ k H', 0 ≤ k → k < lim → Src H' a c (t + 1) → Oth a c H H' → Q (.int k) H'
/-- what the walk asks of the names that the text does not bind -/
structure Blt (mg : Str → Option Value) : Prop where
  len : mg "len" = none
  abs : mg "abs" = none
  int : mg "int" = none
  range : mg "range" = none
section
variable {P : Program} {w : World} {K : PySem.W.Frag} {mg : Str → Option Value} {base : Heap}
theorem fdiv_ok (i : Int) {j : Int} (h : 0 < j) (h9 : j.natAbs.log2 < 9000) : CDivW i j := ⟨h, h9⟩
theorem atI_in {xs : List Int} {i : Int} (h0 : 0 ≤ i) (h : i < (xs.length : Int)) : atI (xs.map V.int) i = some (.int (xs.getD i.toNat 0)) := by
  have e : ixN (xs.map V.int).length i = some i.toNat := by
    unfold ixN
    rw [List.length_map, if_pos h0, if_pos h]
  unfold atI
  rw [e]
  show (xs.map V.int)[i.toNat]? = _
  have hl : i.toNat < xs.length := by omega
  rw [List.getElem?_map, List.getElem?_eq_getElem hl, List.getD_eq_getElem?_getD, List.getElem?_eq_getElem hl]
  rfl
theorem ixN_in {n : Nat} {i : Int} (h0 : 0 ≤ i) (h : i < (n : Int)) : ixN n i = some i.toNat := by
  unfold ixN
  rw [if_pos h0, if_pos h]
theorem b_mod (x : Int) : -(2 ^ 64) < x % 2147483629 ∧ x % 2147483629 < 2 ^ 64 := by omega
theorem b_mod1 (x : Int) : -(2 ^ 64) < x % 2147483647 ∧ x % 2147483647 < 2 ^ 64 := by omega
theorem b_t {t : Nat} (h : t < 2 ^ 30) : -(2 ^ 64) < (t : Int) ∧ (t : Int) < 2 ^ 64 := by omega
theorem b_tt {t : Nat} (h : t < 2 ^ 30) : -(2 ^ 64) < (t : Int) * t ∧ (t : Int) * t < 2 ^ 64 := by
  have h1 : t * t < 2 ^ 30 * 2 ^ 30 := Nat.mul_lt_mul'' h h
  have h2 : ((t * t : Nat) : Int) = (t : Int) * t := Int.natCast_mul t t
  omega
theorem set_ints (xs : List Int) (j : Nat) (y : Int) : (xs.map V.int).set j (.int y) = (xs.set j y).map V.int := by
  rw [List.map_set]
theorem ok_draw {f : Addr} {fd : FuncData} (F : Fun K "_law_draw" "_law_draw" s_L_draw f fd) (B : Blt mg) : FnOk P w K mg base CX0 1 f fd ["_law_source_here", "_law_limit"] spDraw := by
  refine F.ok sc_L_draw (fun vs H Q E h => ?_) (fun cdv A outer s H vs Q E hr h => ?_)
  · obtain ⟨a, c, t, lim, rfl, _⟩ := h
    rfl
  · obtain ⟨a, c, t, lim, rfl, S, ht, hl0, hl9, q⟩ := h
    obtain ⟨cs, hc, hn0, hn⟩ := S.cl
    have nd := sc_L_draw.nd
    refine ⟨_, pss_cons (ps_asg (pv 0) (pg_unl (n := 2) (by rfl) (pgs_cons (pg_name (i := 2) nd rfl (Or.inl rfl)) (pgs_cons (pg_name (i := 3) nd rfl (Or.inl rfl)) pgs_nil))))
      (pss_cons (ps_set (i := 4) nd rfl (Or.inl rfl) (pe_op op_mod (pe_callTy call_int1 (by rfl) B.int (by decide +kernel) (pa_cons (pv 3) pa_nil)) (pe_callB call_len_seq (by rfl) B.len PySem.boot_len (pa_cons (pv 2) pa_nil))))
      (pss_cons (ps_set (i := 5) nd rfl (Or.inl rfl) (pe_ix ix_list (pv 2) (pv 4) (fun _ _ => rfl)))
      (pss_cons (ps_asg (pe_op op_add (pv 3) pe_int) (pg_sub (pv 0) pe_int set_list))
      (pss_cons (ps_if (pt_cmpR op_ge (pv 5) (pe_op op_pow pe_int pe_int) (nomark _))
        (pss_cons (ps_asg (pe_op op_fdivW (pv 5) (pv 1)) (pg_sub (pv 2) (pv 4) set_list))
          (pss_one (ps_ret (pe_op op_mod (pe_callTy call_int1 (by rfl) B.int (by decide +kernel) (pa_cons (pv 5) pa_nil)) (pv 1))))) pss_nil)
      (pss_cons (ps_set (i := 6) nd rfl (Or.inl rfl) (pe_op op_mod (pe_callTy call_int1 (by rfl) B.int (by decide +kernel) (pa_cons
          (pe_op op_add (pe_op op_add (pe_op op_mul (pe_op op_mod (pe_callTy call_int1 (by rfl) B.int (by decide +kernel) (pa_cons (pv 5) pa_nil)) pe_int) pe_int) (pe_op op_mul (pe_op op_mul (pv 3) (pv 3)) pe_int)) pe_int) pa_nil)) pe_int))
      (pss_cons (ps_set (i := 6) nd rfl (Or.inl rfl) (pe_op op_mod (pe_callTy call_int1 (by rfl) B.int (by decide +kernel) (pa_cons (pe_op op_mul (pv 6) (pv 6)) pa_nil)) pe_int))
      (pss_cons (ps_set (i := 6) nd rfl (Or.inl rfl) (pe_op op_mod (pe_callTy call_int1 (by rfl) B.int (by decide +kernel) (pa_cons (pe_op op_mul (pv 6) (pv 6)) pa_nil)) pe_int))
      (pss_one (ps_ret (pe_op op_mod (pe_callTy call_int1 (by rfl) B.int (by decide +kernel) (pa_cons (pv 6) pa_nil)) (pv 1))))))))))), ?_⟩
    -- _law_cells, _law_turn = _law_source_here
    walk_at "rd"
    refine ⟨a, _, rfl, SqL.of S.ob, rfl, _, _, rfl, _, _, rfl, rfl, ?_⟩
    -- _law_place
    walk_at "rd"
    have hn0' : (0 : Int) < ((cs.map V.int).length : Nat) := by rw [List.length_map]; omega
    refine ⟨c, _, rfl, .inl (SqL.of hc), _, _, rfl, rfl, hn0', ?_⟩
    have hp0 : 0 ≤ (t : Int) % ((cs.map V.int).length : Nat) := Int.emod_nonneg _ (by omega)
    have hp1 : (t : Int) % ((cs.map V.int).length : Nat) < ((cs.map V.int).length : Nat) := Int.emod_lt_of_pos _ hn0'
    have hp1' : (t : Int) % ((cs.map V.int).length : Nat) < (cs.length : Int) := by rw [List.length_map] at hp1 ⊢; exact hp1
    -- _law_cell
    walk_at "rd"
    refine ⟨c, _, _, _, rfl, rfl, SqL.of hc, atI_in hp0 hp1', ?_⟩
    -- _law_source_here[1] = _law_turn + 1
    walk_at "rd"
    refine ⟨a, _, 1, 1, rfl, rfl, S.ob, rfl, ?_⟩
    have S1 : Src (upd H a (.lst ([V.ref c, V.int t].set 1 (.int ((t : Int) + 1))))) a c (t + 1) := ⟨S.ne, by rw [upd_same]; rfl, cs, by rw [upd_ne S.ne.symm]; exact hc, hn0, hn⟩
    have O1 : Oth a c H (upd H a (.lst ([V.ref c, V.int t].set 1 (.int ((t : Int) + 1))))) := fun b o h na _ => by rw [upd_ne na]; exact h
    have hc1 : upd H a (.lst ([V.ref c, V.int t].set 1 (.int ((t : Int) + 1)))) c = some (.lst (cs.map V.int)) := by rw [upd_ne S.ne.symm]; exact hc
    generalize upd H a (.lst ([V.ref c, V.int t].set 1 (.int ((t : Int) + 1)))) = H1 at S1 O1 hc1 ⊢
    -- if _law_cell >= 10 ** 18
    walk_at "rd"
    refine ⟨⟨by decide, by decide, by decide⟩, ?_⟩
    walk_at "rd"
    refine ite2 (fun _ => ?_) (fun _ => ?_)
    · walk_at "rd"
      refine ⟨fdiv_ok _ hl0 hl9, ?_⟩
      walk_at "rd"
      refine ⟨c, _, _, _, rfl, rfl, hc1, ixN_in hp0 hp1, ?_⟩
      walk_at "rd"
      refine ⟨hl0, ?_⟩
      rw [set_ints]
      refine q _ _ (Int.emod_nonneg _ (by omega)) (Int.emod_lt_of_pos _ hl0) ⟨S1.ne, by rw [upd_ne S1.ne]; exact S1.ob, _, upd_same, by rw [List.length_set]; exact hn0, by rw [List.length_set]; exact hn⟩ fun b o h na nc => ?_
      rw [upd_ne nc]
      exact O1 b o h na nc
    · walk_at "rd"
      refine ⟨(by show (0 : Int) < 2147483629; decide), ?_⟩
      walk_at "rd"
      refine ⟨.inl (b_mod _), ?_⟩
      walk_at "rd"
      refine ⟨.inl (b_t ht), ?_⟩
      walk_at "rd"
      refine ⟨.inl (b_tt ht), ?_⟩
      walk_at "rd"
      refine ⟨(by show (0 : Int) < 2147483647; decide), ?_⟩
      walk_at "rd"
      refine ⟨.inl (b_mod1 _), ?_⟩
      walk_at "rd"
      refine ⟨(by show (0 : Int) < 2147483629; decide), ?_⟩
      walk_at "rd"
      refine ⟨.inl (b_mod _), ?_⟩
      walk_at "rd"
      refine ⟨(by show (0 : Int) < 2147483587; decide), ?_⟩
      walk_at "rd"
      refine ⟨hl0, ?_⟩
      exact q _ _ (Int.emod_nonneg _ (by omega)) (Int.emod_lt_of_pos _ hl0) S1 O1
end
end HT
namespace HT
open PySem L2
/-- a def of the text that may be called by its name, and what it promises -/
structure Cal (P : Program) (w : World) (K : PySem.W.Frag) (mg : Str → Option Value) (base : Heap) (x : Str) (k : Nat) (ps : List Str) (sp : Sp) (f : Addr) (fd : FuncData) : Prop where
  ok : FnOk P w K mg base CX0 k f fd ps sp
  gl : mg x = some (.ref f)
  kp : PySem.W.keepIn K (.ref f) = true
  bd : Binds K fd ps []
theorem pcl {X : Cx} {x : Str} {k j : Nat} {ps : List Str} {sp : Sp} {f : Addr} {fd : FuncData} {e : Expr} {es : List Expr} {t : TA} {p pos : Pos} (C : Cal X.prog X.w X.K X.mg X.base x k ps sp f fd) (hr : Room j X.A) (hj : k ≤ j) (hg : Gl X x) (ha : PA X (e :: es) t)
    (hdb : (x == ("__debug__" : Str)) = false := by decide) (he : starEach (e :: es) X.env = (false, eval e X.env) :: starEach es X.env := by rfl) (hpl : (backTo pos (starEach es X.env)).any (·.1) = false := by rfl) : PE X (.Call (.Name x p) (e :: es) [] pos) (tCall sp [] E0 t) :=
  pe_call C.ok (hr.mono hj) hg C.gl C.kp C.bd .nil pass0 ha hdb he hpl
section
variable {P : Program} {w : World} {K : PySem.W.Frag} {mg : Str → Option Value} {base : Heap}
theorem cut63 {ns : List Int} (h : ns.length ≤ 63) : cutV (ns.map V.int) none (some 63) = ns.map V.int := by
  have e1 : HT.sIx (ns.map V.int).length 0 none = 0 := rfl
  have e2 : HT.sIx (ns.map V.int).length (ns.map V.int).length (some 63) = (ns.map V.int).length := by
    have := HT.sIx_nat (ns.map V.int).length (ns.map V.int).length 63
    rw [show ((63 : Nat) : Int) = 63 from rfl] at this
    rw [this, List.length_map]
    omega
  unfold cutV
  rw [e1, e2, List.drop_zero, Nat.sub_zero, List.take_length]
theorem dpInts (H : Hp) : ∀ ns : List Int, DpAll K H (ns.map V.int) (ns.map PyData.int)
  | [] => .nil
  | n :: r => .cons (.int n) (dpInts H r)
theorem pow_ok : CPowW ((10 : Int) ^ (60 : Int).toNat) 20 := ⟨by decide, by decide +kernel⟩
theorem pow_pos' : (0 : Int) < ((10 : Int) ^ (60 : Int).toNat) ^ (20 : Int).toNat := by decide +kernel
theorem ok_source {f : Addr} {fd : FuncData} (F : Fun K "_law_source" "_law_source" s_L_source f fd) (B : Blt mg) : FnOk P w K mg base CX0 1 f fd ["_law_script"] (spSource K) := by
  refine F.ok sc_L_source (fun vs H Q E h => ?_) (fun cdv A outer s H vs Q E hr h => ?_)
  · obtain ⟨l, ns, rfl, _⟩ := h
    rfl
  · obtain ⟨l, ns, rfl, hL, hn, q⟩ := h
    have nd := sc_L_source.nd
    refine ⟨_, pss_cons (ps_set (i := 1) nd rfl (Or.inl rfl) (pe_slice sl_list (pv 0) po_none (po_some pe_int)))
      (pss_cons (ps_for PassesOwn.never rfl (pi_range1 (by rfl) B.range (pa_cons (pe_callB call_len_seq (by rfl) B.len PySem.boot_len (pa_cons (pv 1) pa_nil)) pa_nil)) (pg_name (i := 2) nd rfl (Or.inl rfl))
        (pss_one (ps_if (pt_cmpR op_ge (pe_callB call_abs (by rfl) B.abs (by decide +kernel) (pa_cons (pe_ix ix_list (pv 1) (pv 2) (fun _ _ => rfl)) pa_nil)) (pe_op op_pow pe_int pe_int) (nomark _))
          (pss_one (ps_asg (pe_op op_mod (pe_callTy call_int1 (by rfl) B.int (by decide +kernel) (pa_cons (pe_ix ix_list (pv 1) (pv 2) (fun _ _ => rfl)) pa_nil)) (pe_op op_powW (pe_op op_pow pe_int pe_int) pe_int)) (pg_sub (pv 1) (pv 2) set_list))) pss_nil)))
      (pss_cons (ps_if (pt_cmpR (op_eqD hr.units) (pv 1) (pe_lst pa_nil) (nomark _)) (pss_one (ps_set (i := 1) nd rfl (Or.inl rfl) (pe_lst (pa_cons pe_int pa_nil)))) pss_nil)
      (pss_one (ps_ret (pe_lst (pa_cons (pv 1) (pa_cons pe_int pa_nil))))))), ?_⟩
    walk_at "rd"
    refine ⟨l, _, rfl, hL, fun p np => ?_⟩
    rw [cut63 hn]
    walk_at "rd"
    refine ⟨p, _, rfl, .inl (SqL.of upd_same), _, rfl, by omega, ?_, ?_⟩
    · show ((ns.map V.int).length : Int) < 2 ^ 62
      rw [List.length_map]
      omega
    have en : ((ns.map V.int).length : Int).toNat = ns.length := by rw [List.length_map]; omega
    rw [en]
    refine for_range (fun i σ H' => ∃ (cs : List Int) (kv : Option V), σ = [some (.ref l), some (.ref p), kv] ∧ H' p = some (.lst (cs.map V.int)) ∧ cs.length = ns.length ∧ Same H H') ⟨ns, none, rfl, upd_same, rfl, fun b o e => by rw [upd_ne (ne_of_none e np)]; exact e⟩ ?_ ?_
    · rintro i σ H' hi ⟨cs, kv, rfl, hp, hl, sm⟩
      have h0 : (0 : Int) ≤ 0 + (i : Int) := by omega
      have h1 : (0 : Int) + (i : Int) < (cs.length : Int) := by omega
      walk_at "rd"
      refine ⟨p, _, _, _, rfl, rfl, SqL.of hp, atI_in h0 h1, ?_⟩
      walk_at "rd"
      refine ⟨⟨by decide, by decide, by decide⟩, ?_⟩
      walk_at "rd"
      refine ite2 (fun _ => ?_) (fun _ => ?_)
      · walk_at "rd"
        refine ⟨p, _, _, _, rfl, rfl, SqL.of hp, atI_in h0 h1, ?_⟩
        walk_at "rd"
        refine ⟨⟨by decide, by decide, by decide⟩, ?_⟩
        walk_at "rd"
        refine ⟨pow_ok, ?_⟩
        walk_at "rd"
        refine ⟨pow_pos', ?_⟩
        walk_at "rd"
        refine ⟨p, _, _, _, rfl, rfl, hp, ixN_in h0 (by rw [List.length_map]; exact h1), ?_⟩
        rw [set_ints]
        exact ⟨_, _, rfl, upd_same, by rw [List.length_set]; exact hl, fun b o e => by rw [upd_ne (ne_of_none e np)]; exact sm b o e⟩
      · exact ⟨cs, _, rfl, hp, hl, sm⟩
    · rintro σ H' ⟨cs, kv, rfl, hp, hl, sm⟩
      walk_at "rd"
      refine ⟨by decide, fun e ne => ?_⟩
      have hpe : upd H' e (.lst []) p = some (.lst (cs.map V.int)) := by rw [upd_ne (ne_of_none hp ne)]; exact hp
      have sm1 : Same H (upd H' e (.lst [])) := fun b o z => by rw [upd_ne (ne_of_none (sm b o z) ne)]; exact sm b o z
      refine ⟨_, _, .lst (SqL.of hpe) (dpInts _ cs), .lst (SqL.of upd_same) .nil, PySem.W.ke_shaped_ints cs, by decide +kernel, ?_⟩
      walk_at "rd"
      have hb : PyData.eqv (.list (cs.map PyData.int)) (.list []) = decide (cs = []) := by
        have z := PySem.W.ked_eqvAll cs []
        rw [← z]
        rfl
      rw [hb]
      refine ite2 (fun _ => ?_) (fun hne => ?_)
      · walk_at "rd"
        refine ⟨by decide, fun c nc => ?_⟩
        walk_at "rd"
        refine ⟨(by show 2 ≤ sizeLine; decide), fun a na => ?_⟩
        have sm2 : Same H (upd (upd H' e (.lst [])) c (.lst [.int 0])) := fun b o z => by rw [upd_ne (ne_of_none (sm1 b o z) nc)]; exact sm1 b o z
        have nac : a ≠ c := (ne_of_none upd_same na).symm
        refine q a c _ (fun b o z => by rw [upd_ne (ne_of_none (sm2 b o z) na)]; exact sm2 b o z) (sm2.free na) (sm1.free nc) ⟨nac, upd_same, [0], by rw [upd_ne nac.symm]; exact upd_same, by decide, by decide⟩
      · walk_at "rd"
        refine ⟨(by show 2 ≤ sizeLine; decide), fun a na => ?_⟩
        have nap : a ≠ p := (ne_of_none hpe na).symm
        refine q a p _ (fun b o z => by rw [upd_ne (ne_of_none (sm1 b o z) na)]; exact sm1 b o z) (sm1.free na) np ⟨nap, upd_same, cs, by rw [upd_ne nap.symm]; exact hpe, ?_, by omega⟩
        have : cs ≠ [] := fun z => hne (decide_eq_true z)
        exact List.length_pos_iff.mpr this
end
end HT
namespace HT
open PySem L2
/-- a def of which errors may come, and its call -/
structure CalX (P : Program) (w : World) (K : PySem.W.Frag) (mg : Str → Option Value) (base : Heap) (x : Str) (k : Nat) (ps : List Str) (sp : Sp) (f : Addr) (fd : FuncData) : Prop where
  ok : FnOk P w K mg base (L2.CX P w) k f fd ps sp
  mgf : mg x = some (.ref f)
  kp : PySem.W.keepIn K (.ref f) = true
  b : Binds K fd ps []
theorem pcx {X : Cx} {x : Str} {k j : Nat} {ps : List Str} {sp : Sp} {f : Addr} {fd : FuncData} {e : Expr} {es : List Expr} {t : TA} {p pos : Pos} {W : WX} (C : CalX X.prog X.w X.K X.mg X.base x k ps sp f fd) (hr : Room j X.A) (hj : k ≤ j) (hg : Gl X x) (tk : L2.Takes X W) (ha : PA X (e :: es) t)
    (hdb : (x == ("__debug__" : Str)) = false := by decide) (he : starEach (e :: es) X.env = (false, eval e X.env) :: starEach es X.env := by rfl) (hpl : (backTo pos (starEach es X.env)).any (·.1) = false := by rfl) : PE X (.Call (.Name x p) (e :: es) [] pos) (tCallS sp (WE W) t) :=
  pe_callS C.ok (hr.mono hj) hg C.mgf C.kp C.b (fun σ => L2.passAt tk σ) ha hdb he hpl
end HT
namespace PySem.W
open PySem PySem.Calls
theorem args_lcm3 (a b c : Value) : argsOk "math.lcm" ⟨[a, b, c], []⟩ := by unfold argsOk; kernel_rfl
theorem run_lcm3 (a : Int) (t : Tok) (b : Int) (u : Tok) (c : Int) (v : Tok) (hc0 : ¬(max 1 a.natAbs).log2 / 30 + 1 > 450) (hc1 : ¬(max a.natAbs b.natAbs).log2 / 30 + 1 > 450)
    (hc2 : ¬(max ((Nat.lcm 1 a.natAbs).lcm b.natAbs) c.natAbs).log2 / 30 + 1 > 450)
    (hsz : (((((Nat.lcm 1 a.natAbs).lcm b.natAbs).lcm c.natAbs : Nat) : Int)).natAbs.log2 < bitsLine) :
    Gives (Builtin.«math.lcm» ⟨[.int a t, .int b u, .int c v], []⟩) (.int (((((Nat.lcm 1 a.natAbs).lcm b.natAbs).lcm c.natAbs : Nat) : Int))) :=
  .of_wp fun M A E s Q h => by obtain ⟨hp, g, d, tk, os⟩ := s; wp_walk; refine wpAny_ite_false (decide_eq_false hc2) ?_; wp_walk; (try (refine wpAny_ite_false (decide_eq_false (Nat.not_le.mpr hsz)) ?_; wp_walk)); exact ⟨_, rfl, h⟩
end PySem.W
namespace L2
open PySem PySem.Spec PyProof.Rows
/-- xs.count(y) of flat things -/
def rCntV (K : PySem.W.Frag) : V → List V → Hp → VK → Prop := fun x xs H Q => ∃ (p : Addr) (ys : List V) (y : V), x = .ref p ∧ xs = [y] ∧ SqL K H p ys ∧ flatV y = true ∧ ys.all flatV = true ∧ Q (.int (ys.countP (fun z => eqV z y) : Nat)) H
theorem count_eqU {x : V} : ∀ {xs : List V} {us : List Value}, Vals xs us → xs.all flatV = true → us.countP (eqU x) = xs.countP fun y => eqV y x
  | _, _, .nil, _ => rfl
  | y :: xs, u :: us, .cons r t, f => by
    obtain ⟨f1, f2⟩ := Bool.and_eq_true_iff.mp (List.all_cons ▸ f)
    rw [List.countP_cons, List.countP_cons, eqU_of r f1, count_eqU t f2]
theorem mt_cntV {X : Cx} : MtR X "list.count" (rCntV X.K) := by
  intro pins sh st H x xs v us Q iv rx rxs h
  obtain ⟨p, ys, y, rfl, rfl, hs, fy, fys, q⟩ := h
  cases rx
  obtain ⟨u, rfl, ru⟩ := rxs.one
  obtain ⟨its, rv, ⟨⟨cls, dd, data, sl⟩, n, ho, hc, hdn, hd⟩, hlen⟩ := iv.list hs
  dsimp only at hc hd
  subst hc hd
  refine call_meets PySem.F.slot_list_count ⟨_, ho, rfl⟩ PySem.F.entry_list_count (PySem.F.args_list_count_2 _ _) (SeqAt.list_countAt p its.toArray n dd sl u (eqU y)) ⟨ho, fun w hw => mem_eqAt ru fy rv fys w (by simpa using hw), ?_⟩
  refine ⟨.int (ys.countP (fun z => eqV z y) : Nat), H, iv.tok _, ⟨sh.toks, ?_⟩, q⟩
  rw [show its.toArray.toList.countP (eqU y) = ys.countP (fun z => eqV z y) from count_eqU rv fys]
end L2
namespace HT
open PySem L2
/-! ### pick, great, side -/
def spPick : Sp := fun vs H Q _ => ∃ (a c : Addr) (t : Nat) (l : Addr) (xs : List V), vs = [.ref a, .ref l] ∧ Src H a c t ∧ t < 2 ^ 30 ∧ H l = some (.lst xs) ∧ l ≠ a ∧ l ≠ c ∧ 0 < xs.length ∧ xs.length < 2 ^ 60 ∧
  ∀ x H', x ∈ xs → Src H' a c (t + 1) → Oth a c H H' → Q x H'
def spGreat : Sp := fun vs H Q _ => ∃ (a c : Addr) (t n : Nat), vs = [.ref a, .int (n : Int)] ∧ Src H a c t ∧ n ≤ 1000 ∧ t + n < 2 ^ 30 ∧
  ∀ k H', 0 ≤ k → k < 10 ^ n → Src H' a c (t + n) → Oth a c H H' → Q (.int k) H'
/-- the modes -/
def Mode (m : Str) : Prop := m = "down" ∨ m = "up" ∨ m = "half_down" ∨ m = "half_up" ∨ m = "half_even"
/-- a side's parts -/
structure SideP (o s : Int) (m : Str) : Prop where
  o0 : -10 ^ 40 ≤ o
  o1 : o ≤ 10 ^ 40
  s0 : 1 ≤ s
  s1 : s ≤ 10 ^ 30
  md : Mode m
def sideV (o s : Int) (m : Str) : HO := .tup [.int o, .int s, .str m]
def spSide : Sp := fun vs H Q _ => ∃ (a c : Addr) (t n : Nat), vs = [.ref a, .int (n : Int)] ∧ Src H a c t ∧ 1 ≤ n ∧ n ≤ 40 ∧ t + 200 < 2 ^ 30 ∧
  ∀ p o s m H' t', H p = none → H' p = some (sideV o s m) → SideP o s m → t' ≤ t + 200 → Src H' a c t' → Oth a c H H' → Q (.ref p) H'
theorem lg_nat {n : Nat} (h : n < 2 ^ 200) : ((n : Int)).natAbs.log2 < 9000 := by
  rw [Int.natAbs_natCast]
  by_cases e : n = 0
  · rw [e]; decide
  · have := (Nat.log2_lt e).mpr h
    omega
theorem lg_small {n : Int} (h0 : 0 ≤ n) (h : n < 2 ^ 64) : n.natAbs.log2 < 9000 := by
  obtain ⟨m, rfl⟩ := Int.eq_ofNat_of_zero_le h0
  exact lg_nat (Nat.lt_of_lt_of_le (by omega : m < 2 ^ 64) (Nat.pow_le_pow_right (by decide) (by decide)))
section
variable {P : Program} {w : World} {K : PySem.W.Frag} {mg : Str → Option Value} {base : Heap} {fD fP fG : Addr} {dD dP dG : FuncData}
theorem ok_pick {f : Addr} {fd : FuncData} (F : Fun K "_law_pick" "_law_pick" s_L_pick f fd) (B : Blt mg) (D : Cal P w K mg base "_law_draw" 1 ["_law_source_here", "_law_limit"] spDraw fD dD) :
    FnOk P w K mg base CX0 2 f fd ["_law_source_here", "_law_values"] spPick := by
  refine F.ok sc_L_pick (fun vs H Q E h => ?_) (fun cdv A outer s H vs Q E hr h => ?_)
  · obtain ⟨a, c, t, l, xs, rfl, _⟩ := h
    rfl
  · obtain ⟨a, c, t, l, xs, rfl, S, ht, hl, na, nc, h0, h1, q⟩ := h
    refine ⟨_, pss_one (ps_ret (pe_ix ix_list (pv 1) (pcl D hr (by decide) (by rfl) (pa_cons (pv 0) (pa_cons (pe_callB call_len_seq (by rfl) B.len PySem.boot_len (pa_cons (pv 1) pa_nil)) pa_nil))) (fun _ _ => rfl))), ?_⟩
    walk_at "rd"
    refine ⟨l, _, rfl, .inl (SqL.of hl), ?_⟩
    have p1 : (0 : Int) < (xs.length : Int) := by omega
    refine ⟨a, c, t, _, rfl, S, ht, p1, lg_nat (Nat.lt_of_lt_of_le h1 (Nat.pow_le_pow_right (by decide) (by decide))), fun k H' k0 k1 S' O => ?_⟩
    have hl' : k.toNat < xs.length := by omega
    have e : atI xs k = some xs[k.toNat] := by
      unfold atI
      rw [ixN_in k0 k1]
      exact List.getElem?_eq_getElem hl'
    refine ⟨l, _, _, _, rfl, rfl, SqL.of (O _ _ hl na nc), e, ?_⟩
    exact q _ _ (List.getElem_mem hl') S' O
theorem ok_great {f : Addr} {fd : FuncData} (F : Fun K "_law_great" "_law_great" s_L_great f fd) (B : Blt mg) (D : Cal P w K mg base "_law_draw" 1 ["_law_source_here", "_law_limit"] spDraw fD dD) :
    FnOk P w K mg base CX0 2 f fd ["_law_source_here", "_law_digits"] spGreat := by
  refine F.ok sc_L_great (fun vs H Q E h => ?_) (fun cdv A outer s H vs Q E hr h => ?_)
  · obtain ⟨a, c, t, n, rfl, _⟩ := h
    rfl
  · obtain ⟨a, c, t, n, rfl, S, hn, ht, q⟩ := h
    have nd := sc_L_great.nd
    refine ⟨_, pss_cons (ps_set (i := 2) nd rfl (Or.inl rfl) pe_int)
      (pss_cons (ps_for PassesOwn.never rfl (pi_range1 (by rfl) B.range (pa_cons (pv 1) pa_nil)) (pg_name (i := 3) nd rfl (Or.inl rfl))
        (pss_one (ps_set (i := 2) nd rfl (Or.inl rfl) (pe_op op_add (pe_op op_mul (pv 2) pe_int) (pcl D hr (by decide) (by rfl) (pa_cons (pv 0) (pa_cons pe_int pa_nil)))))))
      (pss_one (ps_ret (pv 2)))), ?_⟩
    walk_at "rd"
    refine ⟨by omega, by omega, ?_⟩
    rw [Int.toNat_natCast]
    refine for_range (fun i σ H' => ∃ (k : Int) (kv : Option V), σ = [some (.ref a), some (.int (n : Int)), some (.int k), kv] ∧ 0 ≤ k ∧ k < 10 ^ i ∧ Src H' a c (t + i) ∧ Oth a c H H') ⟨0, none, rfl, by decide, by decide, S, Oth.refl _ _ _⟩ ?_ ?_
    · rintro i σ H' hi ⟨k, kv, rfl, k0, k1, S', O⟩
      walk_at "rd"
      refine ⟨.inr ⟨by decide, by decide⟩, ?_⟩
      walk_at "rd"
      refine ⟨a, c, t + i, _, rfl, S', by omega, (by show (0 : Int) < 10; decide), (by show (10 : Int).natAbs.log2 < 9000; decide), fun y H2 y0 y1 S2 O2 => ?_⟩
      walk_at "rd"
      have y1' : y < 10 := y1
      refine ⟨_, _, rfl, (by show 0 ≤ k * 10 + y; omega), (by show k * 10 + y < 10 ^ (i + 1); rw [Int.pow_succ]; omega), S2, O.trans O2⟩
    · rintro σ H' ⟨k, kv, rfl, k0, k1, S', O⟩
      walk_at "rd"
      exact q _ _ k0 k1 S' O
theorem mode_of {x : V} (h : x ∈ [V.str "down", .str "up", .str "half_down", .str "half_up", .str "half_even"]) : ∃ m : Str, x = .str m ∧ Mode m := by
  simp only [List.mem_cons, List.not_mem_nil, or_false] at h
  rcases h with h | h | h | h | h
  · exact ⟨_, h, .inl rfl⟩
  · exact ⟨_, h, .inr (.inl rfl)⟩
  · exact ⟨_, h, .inr (.inr (.inl rfl))⟩
  · exact ⟨_, h, .inr (.inr (.inr (.inl rfl)))⟩
  · exact ⟨_, h, .inr (.inr (.inr (.inr rfl)))⟩
end
end HT
namespace HT
open PySem L2
/-! ### the mathematics of a side -/
def goesUp (m : Str) (s q r : Int) : Bool := if m = "down" then false else if m = "up" then decide (0 < r) else if 2 * r = s then (if m = "half_even" then decide (q % 2 = 1) else decide (m = "half_up")) else decide (s < 2 * r)
/-- the figure to which v comes -/
def figM (o s : Int) (m : Str) (v : Int) : Int := if goesUp m s ((v - o) / s) ((v - o) % s) = true then (v - o) / s + 1 else (v - o) / s
def dueM (o s : Int) (m : Str) (v : Int) : Int := o + s * figM o s m v
theorem d_u : ¬ (("up" : Str) = "down") := by decide +kernel
theorem hd_d : ¬ (("half_down" : Str) = "down") := by decide +kernel
theorem hd_u : ¬ (("half_down" : Str) = "up") := by decide +kernel
theorem hu_d : ¬ (("half_up" : Str) = "down") := by decide +kernel
theorem hu_u : ¬ (("half_up" : Str) = "up") := by decide +kernel
theorem he_d : ¬ (("half_even" : Str) = "down") := by decide +kernel
theorem he_u : ¬ (("half_even" : Str) = "up") := by decide +kernel
theorem hd_e : ¬ (("half_down" : Str) = "half_even") := by decide +kernel
theorem hu_e : ¬ (("half_up" : Str) = "half_even") := by decide +kernel
theorem hd_hu : ¬ (("half_down" : Str) = "half_up") := by decide +kernel
theorem he_hu : ¬ (("half_even" : Str) = "half_up") := by decide +kernel
theorem u_hd : ¬ (("up" : Str) = "half_down") := by decide +kernel
theorem hu_hd : ¬ (("half_up" : Str) = "half_down") := by decide +kernel
theorem he_hd : ¬ (("half_even" : Str) = "half_down") := by decide +kernel
theorem go_down (s q r : Int) : goesUp "down" s q r = false := by unfold goesUp; rw [if_pos rfl]
theorem go_up (s q r : Int) : goesUp "up" s q r = decide (0 < r) := by unfold goesUp; rw [if_neg d_u, if_pos rfl]
theorem go_hd (s q r : Int) : goesUp "half_down" s q r = decide (s < 2 * r) := by
  unfold goesUp
  rw [if_neg hd_d, if_neg hd_u, if_neg hd_e, decide_eq_false hd_hu]
  by_cases h : 2 * r = s
  · rw [if_pos h, decide_eq_false (by omega)]
  · rw [if_neg h]
theorem go_hu (s q r : Int) : goesUp "half_up" s q r = decide (s ≤ 2 * r) := by
  unfold goesUp
  rw [if_neg hu_d, if_neg hu_u, if_neg hu_e, decide_eq_true rfl]
  by_cases h : 2 * r = s
  · rw [if_pos h, decide_eq_true (by omega)]
  · rw [if_neg h]
    by_cases g : s < 2 * r
    · rw [decide_eq_true g, decide_eq_true (by omega)]
    · rw [decide_eq_false g, decide_eq_false (by omega)]
theorem go_he (s q r : Int) : goesUp "half_even" s q r = (decide (s < 2 * r) || (decide (2 * r = s) && decide (q % 2 = 1))) := by
  unfold goesUp
  rw [if_neg he_d, if_neg he_u, if_pos rfl]
  by_cases h : 2 * r = s
  · rw [if_pos h, decide_eq_false (show ¬ s < 2 * r by omega), decide_eq_true h]
    rfl
  · rw [if_neg h, decide_eq_false h]
    simp
/-- what is known of a figure -/
structure Fig (o s : Int) (m : Str) (v q r k : Int) : Prop where
  eq : v - o = s * q + r
  r0 : 0 ≤ r
  r1 : r < s
  wh : (goesUp m s q r = true ∧ k = q + 1) ∨ (goesUp m s q r = false ∧ k = q)
theorem fig_of {o s : Int} {m : Str} {v : Int} (hs : 1 ≤ s) : Fig o s m v ((v - o) / s) ((v - o) % s) (figM o s m v) := by
  refine ⟨?_, Int.emod_nonneg _ (by omega), Int.emod_lt_of_pos _ (by omega), ?_⟩
  · have := Int.mul_ediv_add_emod (v - o) s
    omega
  · unfold figM
    cases h : goesUp m s ((v - o) / s) ((v - o) % s)
    · exact .inr ⟨rfl, by simp⟩
    · exact .inl ⟨rfl, by simp⟩
theorem divmod_eq {s q r x : Int} (hs : 1 ≤ s) (h : x = s * q + r) (r0 : 0 ≤ r) (r1 : r < s) : x / s = q ∧ x % s = r := by
  subst h
  constructor
  · rw [Int.add_comm, Int.add_mul_ediv_left _ _ (by omega), Int.ediv_eq_zero_of_lt r0 r1]
    omega
  · rw [Int.add_comm, Int.add_mul_emod_self_left]
    exact Int.emod_eq_of_lt r0 r1
theorem fig_uniq {o s : Int} {m : Str} {v q r k : Int} (hs : 1 ≤ s) (F : Fig o s m v q r k) : figM o s m v = k := by
  obtain ⟨e1, e2⟩ := divmod_eq hs F.eq F.r0 F.r1
  unfold figM
  rw [e1, e2]
  rcases F.wh with ⟨h, e⟩ | ⟨h, e⟩
  · rw [h, if_pos rfl, e]
  · rw [h, if_neg (by decide), e]
/-- going up wants a rest, and not going up a small one -/
theorem go_pos {m : Str} {s q r : Int} (hm : Mode m) (hs : 1 ≤ s) (r0 : 0 ≤ r) (h : goesUp m s q r = true) : 0 < r := by
  rcases hm with e | e | e | e | e <;> subst e
  · rw [go_down] at h; cases h
  · rw [go_up] at h; exact of_decide_eq_true h
  · rw [go_hd] at h; have := of_decide_eq_true h; omega
  · rw [go_hu] at h; have := of_decide_eq_true h; omega
  · rw [go_he, Bool.or_eq_true, Bool.and_eq_true] at h
    rcases h with h | ⟨h, _⟩ <;> have := of_decide_eq_true h <;> omega
theorem due_near {o s : Int} {m : Str} {v : Int} (hm : Mode m) (hs : 1 ≤ s) : dueM o s m v - v < s ∧ v - dueM o s m v < s := by
  have F := fig_of (o := o) (m := m) (v := v) hs
  unfold dueM
  generalize (v - o) / s = q at F
  generalize (v - o) % s = r at F
  obtain ⟨eq, r0, r1, wh⟩ := F
  rcases wh with ⟨h, e⟩ | ⟨h, e⟩
  · have := go_pos hm hs r0 h
    rw [e, Int.mul_add, Int.mul_one]
    generalize s * q = z at eq ⊢
    omega
  · rw [e]
    generalize s * q = z at eq ⊢
    omega
def half (m : Str) : Prop := m = "half_down" ∨ m = "half_up" ∨ m = "half_even"
theorem due_half {o s : Int} {m : Str} {v : Int} (hm : half m) (hs : 1 ≤ s) : 2 * (dueM o s m v - v) ≤ s ∧ 2 * (v - dueM o s m v) ≤ s := by
  have F := fig_of (o := o) (m := m) (v := v) hs
  unfold dueM
  generalize (v - o) / s = q at F
  generalize (v - o) % s = r at F
  obtain ⟨eq, r0, r1, wh⟩ := F
  have hb : (goesUp m s q r = true → s ≤ 2 * r) ∧ (goesUp m s q r = false → 2 * r ≤ s) := by
    rcases hm with e | e | e <;> subst e
    · rw [go_hd]; exact ⟨fun h => by have := of_decide_eq_true h; omega, fun h => by have := of_decide_eq_false h; omega⟩
    · rw [go_hu]; exact ⟨fun h => by have := of_decide_eq_true h; omega, fun h => by have := of_decide_eq_false h; omega⟩
    · rw [go_he]
      refine ⟨fun h => ?_, fun h => ?_⟩
      · rw [Bool.or_eq_true, Bool.and_eq_true] at h
        rcases h with h | ⟨h, _⟩ <;> have := of_decide_eq_true h <;> omega
      · rw [Bool.or_eq_false_iff] at h
        have := of_decide_eq_false h.1
        omega
  rcases wh with ⟨h, e⟩ | ⟨h, e⟩
  · have := hb.1 h
    rw [e, Int.mul_add, Int.mul_one]
    generalize s * q = z at eq ⊢
    omega
  · have := hb.2 h
    rw [e]
    generalize s * q = z at eq ⊢
    omega
theorem go_zero {m : Str} {s q : Int} (hm : Mode m) (hs : 1 ≤ s) : goesUp m s q 0 = false := by
  cases h : goesUp m s q 0 with
  | false => rfl
  | true => exact absurd (go_pos hm hs (Int.le_refl _) h) (by omega)
/-- what is written stands and is written as it is -/
theorem fig_at {o s k : Int} {m : Str} (hm : Mode m) (hs : 1 ≤ s) : figM o s m (o + s * k) = k :=
  fig_uniq (q := k) (r := 0) hs ⟨by omega, Int.le_refl _, by omega, .inr ⟨go_zero hm hs, rfl⟩⟩
theorem stands_at {o s k : Int} : (o + s * k - o) % s = 0 := by
  rw [show o + s * k - o = s * k by omega]
  exact Int.mul_emod_right s k
theorem due_eq {o s : Int} {m : Str} {v : Int} (hm : Mode m) (hs : 1 ≤ s) : (v - o) % s = 0 ↔ dueM o s m v = v := by
  have F := fig_of (o := o) (m := m) (v := v) hs
  unfold dueM
  generalize (v - o) / s = q at F
  generalize (v - o) % s = r at F ⊢
  obtain ⟨eq, r0, r1, wh⟩ := F
  rcases wh with ⟨h, e⟩ | ⟨h, e⟩
  · have := go_pos hm hs r0 h
    rw [e, Int.mul_add, Int.mul_one]
    generalize s * q = z at eq ⊢
    omega
  · rw [e]
    generalize s * q = z at eq ⊢
    omega
theorem go_mono {m : Str} {s q r : Int} (hm : Mode m) (h : goesUp m s q r = true) : goesUp m s q (r + 1) = true := by
  rcases hm with e | e | e | e | e <;> subst e
  · rw [go_down] at h; cases h
  · rw [go_up] at h ⊢; have := of_decide_eq_true h; exact decide_eq_true (by omega)
  · rw [go_hd] at h ⊢; have := of_decide_eq_true h; exact decide_eq_true (by omega)
  · rw [go_hu] at h ⊢; have := of_decide_eq_true h; exact decide_eq_true (by omega)
  · rw [go_he] at h ⊢
    have : s ≤ 2 * r := by
      rw [Bool.or_eq_true, Bool.and_eq_true] at h
      rcases h with h | ⟨h, _⟩ <;> have := of_decide_eq_true h <;> omega
    rw [decide_eq_true (show s < 2 * (r + 1) by omega)]
    rfl
theorem fig_mono {o s : Int} {m : Str} {v : Int} (hm : Mode m) (hs : 1 ≤ s) : figM o s m v ≤ figM o s m (v + 1) := by
  have F := fig_of (o := o) (m := m) (v := v) hs
  generalize (v - o) / s = q at F
  generalize (v - o) % s = r at F
  obtain ⟨eq, r0, r1, wh⟩ := F
  by_cases hr : r + 1 < s
  · cases g : goesUp m s q (r + 1) with
    | true =>
      rw [fig_uniq (v := v + 1) (q := q) (r := r + 1) (k := q + 1) hs ⟨by omega, by omega, hr, .inl ⟨g, rfl⟩⟩]
      rcases wh with ⟨_, e⟩ | ⟨_, e⟩ <;> omega
    | false =>
      rw [fig_uniq (v := v + 1) (q := q) (r := r + 1) (k := q) hs ⟨by omega, by omega, hr, .inr ⟨g, rfl⟩⟩]
      rcases wh with ⟨h, e⟩ | ⟨_, e⟩
      · rw [go_mono hm h] at g
        cases g
      · omega
  · rw [fig_uniq (v := v + 1) (q := q + 1) (r := 0) (k := q + 1) hs ⟨by rw [Int.mul_add, Int.mul_one]; omega, by omega, by omega, .inr ⟨go_zero hm hs, rfl⟩⟩]
    rcases wh with ⟨_, e⟩ | ⟨_, e⟩ <;> omega
theorem due_mono {o s : Int} {m : Str} {v : Int} (hm : Mode m) (hs : 1 ≤ s) : dueM o s m v ≤ dueM o s m (v + 1) := by
  unfold dueM
  have := Int.mul_le_mul_of_nonneg_left (fig_mono (o := o) (v := v) hm hs) (show 0 ≤ s by omega)
  omega
theorem go_two {m : Str} {s q r : Int} (hm : Mode m) : goesUp m s (q + 2) r = goesUp m s q r := by
  rcases hm with e | e | e | e | e <;> subst e
  · rw [go_down, go_down]
  · rw [go_up, go_up]
  · rw [go_hd, go_hd]
  · rw [go_hu, go_hu]
  · rw [go_he, go_he, show (q + 2) % 2 = q % 2 by omega]
theorem due_two {o s : Int} {m : Str} {v : Int} (hm : Mode m) (hs : 1 ≤ s) : dueM o s m (v + s * 2) = dueM o s m v + s * 2 := by
  have F := fig_of (o := o) (m := m) (v := v) hs
  unfold dueM
  generalize (v - o) / s = q at F
  generalize (v - o) % s = r at F
  obtain ⟨eq, r0, r1, wh⟩ := F
  rw [fig_uniq (v := v + s * 2) (q := q + 2) (r := r) (k := figM o s m v + 2) hs ⟨by rw [Int.mul_add]; omega, r0, r1, ?_⟩, Int.mul_add]
  · omega
  · rw [go_two hm]
    rcases wh with ⟨h, e⟩ | ⟨h, e⟩
    · exact .inl ⟨h, by omega⟩
    · exact .inr ⟨h, by omega⟩
/-! ### bounds -/
def Bd (x : Int) : Prop := -2 ^ 1000 < x ∧ x < 2 ^ 1000
theorem div_bd {x s b : Int} (hs : 1 ≤ s) (h0 : -b < x) (h1 : x < b) : -b < x / s ∧ x / s < b := by
  by_cases hx : 0 ≤ x
  · have a := Int.ediv_nonneg hx (show 0 ≤ s by omega)
    have c := Int.ediv_le_self s hx
    omega
  · have a : x ≤ x / s := by
      rw [Int.le_ediv_iff_mul_le (by omega)]
      have := Int.mul_le_mul_of_nonpos_left (show x ≤ 0 by omega) hs
      omega
    have c : x / s < 0 := Int.ediv_neg_of_neg_of_pos (by omega) (by omega)
    omega
end HT
namespace HT
open PySem L2
/-! ### spans -/
def below (m : Str) (s k : Int) : Int := if m = "down" then 0 else if m = "up" then s - 1 else if m = "half_up" ∨ (m = "half_even" ∧ k % 2 = 0) then s / 2 else (s - 1) / 2
def mir (m : Str) : Str := if m = "down" then "up" else if m = "up" then "down" else if m = "half_down" then "half_up" else if m = "half_up" then "half_down" else "half_even"
def lowM (o s : Int) (m : Str) (k : Int) : Int := o + s * k - below m s k
def highM (o s : Int) (m : Str) (k : Int) : Int := o + s * k + below (mir m) s k
theorem mir_d : mir "down" = "up" := by unfold mir; rw [if_pos rfl]
theorem mir_u : mir "up" = "down" := by unfold mir; rw [if_neg d_u, if_pos rfl]
theorem mir_hd : mir "half_down" = "half_up" := by unfold mir; rw [if_neg hd_d, if_neg hd_u, if_pos rfl]
theorem mir_hu : mir "half_up" = "half_down" := by unfold mir; rw [if_neg hu_d, if_neg hu_u, if_neg hu_hd, if_pos rfl]
theorem mir_he : mir "half_even" = "half_even" := by unfold mir; rw [if_neg he_d, if_neg he_u, if_neg he_hd, if_neg he_hu]
theorem be_d (s k : Int) : below "down" s k = 0 := by unfold below; rw [if_pos rfl]
theorem be_u (s k : Int) : below "up" s k = s - 1 := by unfold below; rw [if_neg d_u, if_pos rfl]
theorem be_hd (s k : Int) : below "half_down" s k = (s - 1) / 2 := by
  unfold below
  rw [if_neg hd_d, if_neg hd_u, if_neg]
  rintro (z | ⟨z, _⟩)
  · exact hd_hu z
  · exact hd_e z
theorem be_hu (s k : Int) : below "half_up" s k = s / 2 := by unfold below; rw [if_neg hu_d, if_neg hu_u, if_pos (.inl rfl)]
theorem be_he (s k : Int) : below "half_even" s k = if k % 2 = 0 then s / 2 else (s - 1) / 2 := by
  unfold below
  rw [if_neg he_d, if_neg he_u]
  by_cases h : k % 2 = 0
  · rw [if_pos (.inr ⟨rfl, h⟩), if_pos h]
  · rw [if_neg h, if_neg]
    rintro (z | ⟨_, z⟩)
    · exact he_hu z
    · exact h z
theorem mir_mode {m : Str} (h : Mode m) : Mode (mir m) := by
  rcases h with e | e | e | e | e <;> subst e
  · rw [mir_d]; exact .inr (.inl rfl)
  · rw [mir_u]; exact .inl rfl
  · rw [mir_hd]; exact .inr (.inr (.inr (.inl rfl)))
  · rw [mir_hu]; exact .inr (.inr (.inl rfl))
  · rw [mir_he]; exact .inr (.inr (.inr (.inr rfl)))
theorem below_bd {m : Str} {s k : Int} (h : Mode m) (hs : 1 ≤ s) : 0 ≤ below m s k ∧ below m s k < s := by
  rcases h with e | e | e | e | e <;> subst e
  · rw [be_d]; omega
  · rw [be_u]; omega
  · rw [be_hd]; omega
  · rw [be_hu]; omega
  · rw [be_he]; split <;> omega
theorem up_iff {m : Str} {s q r : Int} (h : Mode m) (r0 : 0 ≤ r) (r1 : r < s) : goesUp m s q r = true ↔ below (mir m) s q < r := by
  rcases h with e | e | e | e | e <;> subst e
  · rw [go_down, mir_d, be_u]
    exact ⟨fun z => (Bool.false_ne_true z).elim, fun z => absurd z (by omega)⟩
  · rw [go_up, mir_u, be_d, decide_eq_true_eq]
  · rw [go_hd, mir_hd, be_hu, decide_eq_true_eq]; omega
  · rw [go_hu, mir_hu, be_hd, decide_eq_true_eq]; omega
  · rw [go_he, mir_he, be_he, Bool.or_eq_true, Bool.and_eq_true, decide_eq_true_eq, decide_eq_true_eq, decide_eq_true_eq]
    split <;> omega
theorem touch {m : Str} {s : Int} (q : Int) (h : Mode m) (hs : 1 ≤ s) : below m s (q + 1) + below (mir m) s q = s - 1 := by
  rcases h with e | e | e | e | e <;> subst e
  · rw [be_d, mir_d, be_u]; omega
  · rw [be_u, mir_u, be_d]; omega
  · rw [be_hd, mir_hd, be_hu]; omega
  · rw [be_hu, mir_hu, be_hd]; omega
  · rw [be_he, mir_he, be_he]; split <;> split <;> omega
theorem mul_lt_step {s q k : Int} (hs : 1 ≤ s) (h : q < k) : s * q + s ≤ s * k := by
  have := Int.mul_le_mul_of_nonneg_left (show q + 1 ≤ k by omega) (show 0 ≤ s by omega)
  rw [Int.mul_add, Int.mul_one] at this
  exact this
/-- a value comes to k just between the ends -/
theorem fig_iff {o s : Int} {m : Str} {v k : Int} (h : Mode m) (hs : 1 ≤ s) : figM o s m v = k ↔ lowM o s m k ≤ v ∧ v ≤ highM o s m k := by
  have F := fig_of (o := o) (m := m) (v := v) hs
  generalize (v - o) / s = q at F
  generalize (v - o) % s = r at F
  generalize figM o s m v = f at F ⊢
  obtain ⟨eq, r0, r1, wh⟩ := F
  have ui := up_iff (q := q) h r0 r1
  have t1 := touch (k - 1) h hs
  rw [show k - 1 + 1 = k by omega] at t1
  have bk := below_bd (k := k) (mir_mode h) hs
  have bk1 := below_bd (k := k - 1) (mir_mode h) hs
  have bq := below_bd (k := q) (mir_mode h) hs
  unfold lowM highM
  have hf : (f = q + 1 ∧ below (mir m) s q < r) ∨ (f = q ∧ r ≤ below (mir m) s q) := by
    rcases wh with ⟨g, e⟩ | ⟨g, e⟩
    · exact .inl ⟨e, ui.mp g⟩
    · refine .inr ⟨e, ?_⟩
      have : ¬ below (mir m) s q < r := fun z => by rw [ui.mpr z] at g; cases g
      omega
  rcases Int.lt_trichotomy q k with hq | hq | hq
  · rcases Int.lt_trichotomy (q + 1) k with hq1 | hq1 | hq1
    · have := mul_lt_step hs (show q + 1 < k from hq1)
      rw [Int.mul_add, Int.mul_one] at this
      generalize s * q = a at *
      generalize s * k = b at *
      constructor
      · intro z; omega
      · intro z; omega
    · have e : q = k - 1 := by omega
      subst e
      have : s * (k - 1) = s * k - s := by rw [Int.mul_sub, Int.mul_one]
      generalize s * (k - 1) = a at *
      generalize s * k = b at *
      constructor
      · intro z; omega
      · intro z; omega
    · omega
  · subst hq
    generalize s * q = a at *
    constructor
    · intro z; omega
    · intro z; omega
  · have := mul_lt_step hs hq
    generalize s * q = a at *
    generalize s * k = b at *
    constructor
    · intro z; omega
    · intro z; omega
theorem low_high {o s : Int} {m : Str} {k : Int} (h : Mode m) (hs : 1 ≤ s) : lowM o s m k ≤ o + s * k ∧ o + s * k ≤ highM o s m k := by
  have a := below_bd (k := k) h hs
  have b := below_bd (k := k) (mir_mode h) hs
  unfold lowM highM
  omega
theorem low_next {o s : Int} {m : Str} (k : Int) (h : Mode m) (hs : 1 ≤ s) : lowM o s m (k + 1) = highM o s m k + 1 := by
  have := touch k h hs
  unfold lowM highM
  rw [Int.mul_add, Int.mul_one]
  omega
theorem high_prev {o s : Int} {m : Str} (k : Int) (h : Mode m) (hs : 1 ≤ s) : highM o s m (k - 1) = lowM o s m k - 1 := by
  have := low_next (o := o) (k - 1) h hs
  rw [show k - 1 + 1 = k by omega] at this
  omega
theorem fig_low {o s : Int} {m : Str} (k : Int) (h : Mode m) (hs : 1 ≤ s) : figM o s m (lowM o s m k) = k := by
  have a := low_high (o := o) (k := k) h hs
  exact (fig_iff h hs).mpr ⟨by omega, by omega⟩
theorem fig_high {o s : Int} {m : Str} (k : Int) (h : Mode m) (hs : 1 ≤ s) : figM o s m (highM o s m k) = k := by
  have a := low_high (o := o) (k := k) h hs
  exact (fig_iff h hs).mpr ⟨by omega, by omega⟩
theorem fig_low1 {o s : Int} {m : Str} (k : Int) (h : Mode m) (hs : 1 ≤ s) : figM o s m (lowM o s m k - 1) = k - 1 := by
  rw [← high_prev k h hs]
  exact fig_high _ h hs
theorem fig_high1 {o s : Int} {m : Str} (k : Int) (h : Mode m) (hs : 1 ≤ s) : figM o s m (highM o s m k + 1) = k + 1 := by
  rw [← low_next k h hs]
  exact fig_low _ h hs
/-- the figure of the least standing value that is not less -/
def ceilM (o s v : Int) : Int := -((o - v) / s)
theorem ceil_eq {o s v : Int} (hs : 1 ≤ s) : v ≤ o + s * ceilM o s v ∧ o + s * (ceilM o s v - 1) < v := by
  have a := Int.mul_ediv_add_emod (o - v) s
  have b := Int.emod_nonneg (o - v) (show s ≠ 0 by omega)
  have c := Int.emod_lt_of_pos (o - v) (show 0 < s by omega)
  unfold ceilM
  rw [Int.mul_sub, Int.mul_one, Int.mul_neg]
  omega
def backM (o s : Int) (m : Str) (v : Int) : Int := lowM o s m (ceilM o s v)
theorem back_ge {o s : Int} {m : Str} {v : Int} (h : Mode m) (hs : 1 ≤ s) : v ≤ dueM o s m (backM o s m v) := by
  unfold dueM backM
  rw [fig_low _ h hs]
  exact (ceil_eq hs).1
theorem back_lt {o s : Int} {m : Str} {v : Int} (h : Mode m) (hs : 1 ≤ s) : dueM o s m (backM o s m v - 1) < v := by
  unfold dueM backM
  rw [fig_low1 _ h hs]
  exact (ceil_eq hs).2
theorem mul_b {s k : Int} (s0 : 1 ≤ s) (s1 : s ≤ 10 ^ 30) (h : -2 ^ 720 < k ∧ k < 2 ^ 720) : -2 ^ 820 < s * k ∧ s * k < 2 ^ 820 := by
  have h1 : (s * k).natAbs < 2 ^ (100 + 720) := wide_lt (a := 100) (b := 720) (by omega) (by omega)
  omega
end HT
namespace HT
open PySem L2
theorem lg_big {n : Int} (h0 : 0 ≤ n) (h : n < 2 ^ 200) : n.natAbs.log2 < 9000 := by
  obtain ⟨m, rfl⟩ := Int.eq_ofNat_of_zero_le h0
  exact lg_nat (by omega)
def modesV : List V := [.str "down", .str "up", .str "half_down", .str "half_up", .str "half_even"]
/-- the further names that the text of sides does not bind, and its table of modes -/
structure SideT (K : PySem.W.Frag) (mg : Str → Option Value) (aM : Addr) : Prop where
  isi : mg "isinstance" = none
  int : mg "int" = none
  bool : mg "bool" = none
  tuple : mg "tuple" = none
  len : mg "len" = none
  dm : mg "divmod" = none
  gM : mg "MODES" = some (.ref aM)
  tM : ∀ H, SqT K H aM modesV
def spIsInt : Sp := fun vs H Q _ => ∃ i : Int, vs = [.int i] ∧ Q (.bl true) H
def spBetween : Sp := fun vs H Q _ => ∃ i a b : Int, vs = [.int i, .int a, .int b] ∧ Q (.bl (decide (a ≤ i) && decide (i ≤ b))) H
def spCheckValue : Sp := fun vs H Q _ => ∃ i : Int, vs = [.int i] ∧ Q .non H
def spCheckSide : Sp := fun vs H Q _ => ∃ (p : Addr) (o s : Int) (m : Str), vs = [.ref p] ∧ H p = some (sideV o s m) ∧ SideP o s m ∧ Q .non H
def spGo : Sp := fun vs H Q _ => ∃ (m : Str) (s q r : Int), vs = [.str m, .int s, .int q, .int r] ∧ Q (.bl (goesUp m s q r)) H
def spSV (f : Int → Int → Str → Int → V) : Sp := fun vs H Q _ => ∃ (p : Addr) (o s : Int) (m : Str) (v : Int), vs = [.ref p, .int v] ∧ H p = some (sideV o s m) ∧ SideP o s m ∧ Bd v ∧ ∀ H', Same H H' → Q (f o s m v) H'
def spFig : Sp := spSV fun o s m v => .int (figM o s m v)
def spDue : Sp := spSV fun o s m v => .int (dueM o s m v)
def spStands : Sp := spSV fun o s m v => .bl (decide ((v - o) % s = 0))
theorem dec_int (a b : Int) : decide (V.int a = V.int b) = decide (a = b) := by
  by_cases h : a = b
  · rw [decide_eq_true h, h, decide_eq_true rfl]
  · rw [decide_eq_false h, decide_eq_false (fun z => h (V.int.inj z))]
theorem dec_str (a b : Str) : decide (V.str a = V.str b) = decide (a = b) := by
  by_cases h : a = b
  · rw [decide_eq_true h, h, decide_eq_true rfl]
  · rw [decide_eq_false h, decide_eq_false (fun z => h (V.str.inj z))]
theorem dec_bl (a b : Bool) : decide (V.bl a = V.bl b) = decide (a = b) := by
  by_cases h : a = b
  · rw [decide_eq_true h, h, decide_eq_true rfl]
  · rw [decide_eq_false h, decide_eq_false (fun z => h (V.bl.inj z))]
theorem str_t {a b : Str} (h : decide (V.str a = V.str b) = true) : a = b := V.str.inj (of_decide_eq_true h)
theorem str_f {a b : Str} (h : ¬ decide (V.str a = V.str b) = true) : ¬ a = b := fun z => h (decide_eq_true (congrArg V.str z))
theorem int_t {a b : Int} (h : decide (V.int a = V.int b) = true) : a = b := V.int.inj (of_decide_eq_true h)
theorem int_f {a b : Int} (h : ¬ decide (V.int a = V.int b) = true) : ¬ a = b := fun z => h (decide_eq_true (congrArg V.int z))
theorem not_t {b : Bool} (h : (!b) = true) : ¬ b = true := by cases b <;> simp_all
theorem not_f {b : Bool} (h : ¬ (!b) = true) : b = true := by cases b <;> simp_all
theorem mode_in {m : Str} (h : Mode m) : inV (.str m) modesV = true := by
  rcases h with e | e | e | e | e <;> subst e <;> decide +kernel
theorem divp {o v s : Int} (hs : 1 ≤ s) (ho : -10 ^ 40 ≤ o ∧ o ≤ 10 ^ 40) (hv : Bd v) : CDivP (v - o) s := by
  refine divp_ok (by omega) ?_
  have h : (v - o).natAbs < 2 ^ 1010 := by
    have h1 := hv.1
    have h2 := hv.2
    omega
  have h2 : Builtin.Int.intBits (v - o) ≤ 1011 := by
    unfold Builtin.Int.intBits
    split
    · omega
    · have := PySem.Flt.log2_lt_of (by decide) h
      omega
  omega
theorem mulW {i j : Int} (hi : -2 ^ 1010 < i ∧ i < 2 ^ 1010) (hj : -2 ^ 1010 < j ∧ j < 2 ^ 1010) : CMulW i j := wide_mul (a := 1010) (b := 1010) (by omega) (by omega) (by decide) (by decide) (by decide)
theorem fig_bd {o s : Int} {m : Str} {v : Int} (S : SideP o s m) (hv : Bd v) : -2 ^ 1001 < figM o s m v ∧ figM o s m v < 2 ^ 1001 := by
  obtain ⟨h1, h2⟩ := hv
  obtain ⟨o0, o1, s0, s1, _⟩ := S
  have := div_bd (x := v - o) (b := 2 ^ 1000 + 10 ^ 40) s0 (by omega) (by omega)
  unfold figM
  split <;> omega
section
variable {P : Program} {w : World} {K : PySem.W.Frag} {mg : Str → Option Value} {base : Heap} {aM fI fB fV fC fG fF : Addr} {dI dB dV dC dG dF : FuncData}
theorem ok_is_int {f : Addr} {fd : FuncData} (F : Fun K "is_int" "is_int" s_is_int f fd) (T : SideT K mg aM) : FnOk P w K mg base CX0 1 f fd ["thing"] spIsInt := by
  refine F.ok sc_is_int (fun vs H Q E h => ?_) (fun cdv A outer s H vs Q E hr h => ?_)
  · obtain ⟨i, rfl, _⟩ := h
    rfl
  · obtain ⟨i, rfl, q⟩ := h
    refine ⟨_, pss_one (ps_ret (pe_and (pe_callB call_isi (by rfl) T.isi (by decide +kernel) (pa_cons (pv 0) (pa_cons (pe_bltn (v := .ty "int") (by rfl) T.int (by decide +kernel) rfl) pa_nil)))
      (pe_one (pe_not (pe_callB call_isi (by rfl) T.isi (by decide +kernel) (pa_cons (pv 0) (pa_cons (pe_bltn (v := .ty "bool") (by rfl) T.bool (by decide +kernel) rfl) pa_nil))))))), ?_⟩
    walk_at "rd"
    refine ⟨_, _, _, _, _, rfl, .ty "int", .base (.int _), kit_ty (r := true) (by decide +kernel), ?_⟩
    walk_at "rd"
    refine ⟨_, _, _, _, _, rfl, .ty "bool", .base (.int _), kit_ty (r := false) (by decide +kernel), ?_⟩
    walk_at "rd"
    exact q
theorem ok_between {f : Addr} {fd : FuncData} (F : Fun K "is_int_between" "is_int_between" s_is_int_between f fd) (I : Cal P w K mg base "is_int" 1 ["thing"] spIsInt fI dI) : FnOk P w K mg base CX0 2 f fd ["thing", "least", "most"] spBetween := by
  refine F.ok sc_is_int_between (fun vs H Q E h => ?_) (fun cdv A outer s H vs Q E hr h => ?_)
  · obtain ⟨i, a, b, rfl, _⟩ := h
    rfl
  · obtain ⟨i, a, b, rfl, q⟩ := h
    refine ⟨_, pss_one (ps_ret (pe_and (pcl I hr (by decide) (by rfl) (pa_cons (pv 0) pa_nil)) (pe_one (pe_chain op_le op_le (pv 1) (pv 0) (pv 2))))), ?_⟩
    walk_at "rd"
    refine ite2 (fun h => ?_) (fun h => ?_)
    · walk_at "rd"
      rw [decide_eq_true (of_decide_eq_true h)] at q
      exact q
    · rw [decide_eq_false (of_decide_eq_false (by simpa using h))] at q
      exact q
theorem ok_check_value {f : Addr} {fd : FuncData} (F : Fun K "check_value" "check_value" s_check_value f fd) (I : Cal P w K mg base "is_int" 1 ["thing"] spIsInt fI dI) : FnOk P w K mg base CX0 2 f fd ["value"] spCheckValue := by
  refine F.ok sc_check_value (fun vs H Q E h => ?_) (fun cdv A outer s H vs Q E hr h => ?_)
  · obtain ⟨i, rfl, _⟩ := h
    rfl
  · obtain ⟨i, rfl, q⟩ := h
    refine ⟨_, pss_one (ps_if (pt_not (pt_val (pcl I hr (by decide) (by rfl) (pa_cons (pv 0) pa_nil)))) (pss_one ps_never) pss_nil), ?_⟩
    walk_at "rd"
    exact q
theorem ok_check_side {f : Addr} {fd : FuncData} (F : Fun K "check_side" "check_side" s_check_side f fd) (T : SideT K mg aM) (B : Cal P w K mg base "is_int_between" 2 ["thing", "least", "most"] spBetween fB dB) : FnOk P w K mg base CX0 3 f fd ["side"] spCheckSide := by
  refine F.ok sc_check_side (fun vs H Q E h => ?_) (fun cdv A outer s H vs Q E hr h => ?_)
  · obtain ⟨p, o, s, m, rfl, _⟩ := h
    rfl
  · obtain ⟨p, o, s, m, rfl, hp, S, q⟩ := h
    have nd := sc_check_side.nd
    refine ⟨_, pss_cons (ps_if (PW.pt (pw_or (pt_not (pt_val (pe_callB call_isi (by rfl) T.isi (by decide +kernel) (pa_cons (pv 0) (pa_cons (pe_bltn (v := .ty "tuple") (by rfl) T.tuple (by decide +kernel) rfl) pa_nil)))))
        (pw_or1 (pt_cmpR op_ne (pe_callB call_len_seq (by rfl) T.len PySem.boot_len (pa_cons (pv 0) pa_nil)) pe_int (nomark _))))) (pss_one ps_never) pss_nil)
      (pss_cons (ps_asg (pv 0) (pg_tup (by rfl) (pgs_cons (pg_name (i := 1) nd rfl (Or.inl rfl)) (pgs_cons (pg_name (i := 2) nd rfl (Or.inl rfl)) (pgs_cons (pg_name (i := 3) nd rfl (Or.inl rfl)) pgs_nil)))))
      (pss_cons (ps_if (pt_not (pt_val (pcl B hr (by decide) (by rfl) (pa_cons (pv 1) (pa_cons (pe_un un_neg (pe_op op_pow pe_int pe_int)) (pa_cons (pe_op op_pow pe_int pe_int) pa_nil)))))) (pss_one ps_never) pss_nil)
      (pss_cons (ps_if (pt_not (pt_val (pcl B hr (by decide) (by rfl) (pa_cons (pv 2) (pa_cons pe_int (pa_cons (pe_op op_pow pe_int pe_int) pa_nil)))))) (pss_one ps_never) pss_nil)
      (pss_one (ps_if (pt_cmpR op_notIn_seq (pv 3) (pe_glob (v := .ref aM) (by rfl) T.gM rfl) (by rfl)) (pss_one ps_never) pss_nil))))), ?_⟩
    walk_at "rd"
    refine ⟨_, _, _, _, _, rfl, .ty "tuple", .base (.tup hp), kit_ty (r := true) (by decide +kernel), ?_⟩
    walk_at "rd"
    refine ⟨p, _, rfl, .inr (SqT.of hp), rfl, ?_⟩
    walk_at "rd"
    refine ⟨p, _, rfl, SqT.of hp, rfl, _, _, rfl, _, _, rfl, _, _, rfl, rfl, ?_⟩
    walk_at "rd"
    refine ⟨⟨by decide, by decide, by decide⟩, ?_⟩
    walk_at "rd"
    refine ⟨⟨by decide, by decide, by decide⟩, _, _, _, rfl, ?_⟩
    have e1 : (decide (-(10 : Int) ^ (40 : Int).toNat ≤ o) && decide (o ≤ (10 : Int) ^ (40 : Int).toNat)) = true := by
      rw [decide_eq_true (show -(10 : Int) ^ (40 : Int).toNat ≤ o from S.o0), decide_eq_true (show o ≤ (10 : Int) ^ (40 : Int).toNat from S.o1)]
      rfl
    refine ⟨_, rfl, ?_⟩
    refine ite2 (fun h => (not_t h e1).elim) (fun _ => ?_)
    walk_at "rd"
    refine ⟨⟨by decide, by decide, by decide⟩, _, _, _, rfl, ?_⟩
    have e2 : (decide ((1 : Int) ≤ s) && decide (s ≤ (10 : Int) ^ (30 : Int).toNat)) = true := by
      rw [decide_eq_true S.s0, decide_eq_true (show s ≤ (10 : Int) ^ (30 : Int).toNat from S.s1)]
      rfl
    refine ⟨_, rfl, ?_⟩
    refine ite2 (fun h => (not_t h e2).elim) (fun _ => ?_)
    walk_at "rd"
    refine ⟨aM, _, rfl, .inr (T.tM H), rfl, by decide, ?_⟩
    walk_at "rd"
    refine ite2 (fun h => (not_t h (mode_in S.md)).elim) (fun _ => ?_)
    exact q
end
end HT
namespace HT
open PySem L2
section
variable {P : Program} {w : World} {K : PySem.W.Frag} {mg : Str → Option Value} {base : Heap} {aM fI fB fV fC fG fF : Addr} {dI dB dV dC dG dF : FuncData}
theorem ok_goes_up {f : Addr} {fd : FuncData} (F : Fun K "_goes_up" "_goes_up" s_goes_up f fd) : FnOk P w K mg base CX0 1 f fd ["mode", "step", "figure", "rest"] spGo := by
  refine F.ok sc_goes_up (fun vs H Q E h => ?_) (fun cdv A outer s H vs Q E hr h => ?_)
  · obtain ⟨m, s, q, r, rfl, _⟩ := h
    rfl
  · obtain ⟨m, s, fg, r, rfl, q⟩ := h
    refine ⟨_, pss_cons (ps_if (pt_cmpR op_eq (pv 0) pe_str (nomark _)) (pss_one (ps_ret pe_bl)) pss_nil)
      (pss_cons (ps_if (pt_cmpR op_eq (pv 0) pe_str (nomark _)) (pss_one (ps_ret (pe_cmpR op_gt (pv 3) pe_int (nomark _)))) pss_nil)
      (pss_cons (ps_if (pt_cmpR op_ne (pe_op op_mul pe_int (pv 3)) (pv 1) (nomark _)) (pss_one (ps_ret (pe_cmpR op_gt (pe_op op_mul pe_int (pv 3)) (pv 1) (nomark _)))) pss_nil)
      (pss_cons (ps_if (pt_cmpR op_eq (pv 0) pe_str (nomark _)) (pss_one (ps_ret (pe_cmpR op_eq (pe_op op_mod (pv 2) pe_int) pe_int (nomark _)))) pss_nil)
      (pss_one (ps_ret (pe_cmpR op_eq (pv 0) pe_str (nomark _))))))), ?_⟩
    unfold goesUp at q
    walk_at "rd"
    refine ⟨rfl, ?_⟩
    walk_at "rd"
    refine ite2 (fun h => ?_) (fun h1 => ?_)
    · rw [if_pos (str_t h)] at q
      exact q
    rw [if_neg (str_f h1)] at q
    walk_at "rd"
    refine ⟨rfl, ?_⟩
    walk_at "rd"
    refine ite2 (fun h => ?_) (fun h2 => ?_)
    · rw [if_pos (str_t h)] at q
      walk_at "rd"
      exact q
    rw [if_neg (str_f h2)] at q
    walk_at "rd"
    refine ⟨.inl ⟨by decide, by decide⟩, ?_⟩
    walk_at "rd"
    refine ⟨rfl, ?_⟩
    walk_at "rd"
    refine ite2 (fun h => ?_) (fun h3 => ?_)
    · rw [if_neg (int_f (not_t h))] at q
      walk_at "rd"
      refine ⟨.inl ⟨by decide, by decide⟩, ?_⟩
      walk_at "rd"
      exact q
    rw [if_pos (int_t (not_f h3))] at q
    walk_at "rd"
    refine ⟨rfl, ?_⟩
    walk_at "rd"
    refine ite2 (fun h => ?_) (fun h4 => ?_)
    · rw [if_pos (str_t h), ← dec_int] at q
      walk_at "rd"
      refine ⟨(by show (0 : Int) < 2; decide), ?_⟩
      walk_at "rd"
      exact ⟨rfl, q⟩
    · rw [if_neg (str_f h4), ← dec_str] at q
      walk_at "rd"
      exact ⟨rfl, q⟩
theorem ok_figure {f : Addr} {fd : FuncData} (F : Fun K "_figure" "_figure" s_figure f fd) (T : SideT K mg aM)
    (G : Cal P w K mg base "_goes_up" 1 ["mode", "step", "figure", "rest"] spGo fG dG) : FnOk P w K mg base CX0 2 f fd ["side", "value"] spFig := by
  refine F.ok sc_figure (fun vs H Q E h => ?_) (fun cdv A outer s H vs Q E hr h => ?_)
  · obtain ⟨p, o, s, m, v, rfl, _⟩ := h
    rfl
  · obtain ⟨p, o, s, m, v, rfl, hp, S, hv, q⟩ := h
    have nd := sc_figure.nd
    refine ⟨_, pss_cons (ps_asg (pv 0) (pg_tup (by rfl) (pgs_cons (pg_name (i := 2) nd rfl (Or.inl rfl)) (pgs_cons (pg_name (i := 3) nd rfl (Or.inl rfl)) (pgs_cons (pg_name (i := 4) nd rfl (Or.inl rfl)) pgs_nil)))))
      (pss_cons (ps_asg (pe_callB call_divmodW (by rfl) T.dm (by decide +kernel) (pa_cons (pe_op op_sub (pv 1) (pv 2)) (pa_cons (pv 3) pa_nil))) (pg_tup (by rfl) (pgs_cons (pg_name (i := 5) nd rfl (Or.inl rfl)) (pgs_cons (pg_name (i := 6) nd rfl (Or.inl rfl)) pgs_nil))))
      (pss_cons (ps_if (pt_val (pcl G hr (by decide) (by rfl) (pa_cons (pv 4) (pa_cons (pv 3) (pa_cons (pv 5) (pa_cons (pv 6) pa_nil)))))) (pss_one (ps_ret (pe_op op_add (pv 5) pe_int))) pss_nil)
      (pss_one (ps_ret (pv 5))))), ?_⟩
    walk_at "rd"
    refine ⟨p, _, rfl, SqT.of hp, rfl, _, _, rfl, _, _, rfl, _, _, rfl, rfl, ?_⟩
    walk_at "rd"
    refine ⟨_, _, rfl, divp S.s0 ⟨S.o0, S.o1⟩ hv, fun d nd' => ?_⟩
    refine ⟨d, _, rfl, SqT.of upd_same, rfl, _, _, rfl, _, _, rfl, rfl, ?_⟩
    have sm : Same H (upd H d (.tup [.int ((v - o) / s), .int ((v - o) % s)])) := fun b u z => by rw [upd_ne (ne_of_none z nd')]; exact z
    have q' : Q (.int (figM o s m v)) (upd H d (.tup [.int ((v - o) / s), .int ((v - o) % s)])) := q _ sm
    unfold figM at q'
    walk_at "rd"
    refine ⟨_, _, _, _, rfl, ?_⟩
    walk_at "rd"
    refine ite2 (fun h => ?_) (fun h => ?_)
    · rw [if_pos h] at q'
      walk_at "rd"
      exact q'
    · rw [if_neg h] at q'
      walk_at "rd"
      exact q'
end
end HT
namespace HT
open PySem L2
section
variable {P : Program} {w : World} {K : PySem.W.Frag} {mg : Str → Option Value} {base : Heap} {fF : Addr} {dF : FuncData}
theorem ok_written {f : Addr} {fd : FuncData} (F : Fun K "written" "written" s_written f fd) (G : Cal P w K mg base "_figure" 2 ["side", "value"] spFig fF dF) : FnOk P w K mg base CX0 3 f fd ["side", "value"] spDue := by
  refine F.ok sc_written (fun vs H Q E h => ?_) (fun cdv A outer s H vs Q E hr h => ?_)
  · obtain ⟨p, o, s, m, v, rfl, _⟩ := h
    rfl
  · obtain ⟨p, o, s, m, v, rfl, hp, S, hv, q⟩ := h
    have nd := sc_written.nd
    refine ⟨_, pss_cons (ps_asg (pv 0) (pg_tup (by rfl) (pgs_cons (pg_name (i := 2) nd rfl (Or.inl rfl)) (pgs_cons (pg_name (i := 3) nd rfl (Or.inl rfl)) (pgs_cons (pg_name (i := 4) nd rfl (Or.inl rfl)) pgs_nil)))))
      (pss_one (ps_ret (pe_op op_add (pv 2) (pe_op op_mulW (pv 3) (pcl G hr (by decide) (by rfl) (pa_cons (pv 0) (pa_cons (pv 1) pa_nil))))))), ?_⟩
    walk_at "rd"
    refine ⟨p, _, rfl, SqT.of hp, rfl, _, _, rfl, _, _, rfl, _, _, rfl, rfl, ?_⟩
    walk_at "rd"
    refine ⟨p, o, s, m, v, rfl, hp, S, hv, fun H' sm => ?_⟩
    walk_at "rd"
    have b1 := fig_bd S hv
    have b2 := S.s0
    have b3 := S.s1
    refine ⟨mulW (by omega) (by omega), ?_⟩
    walk_at "rd"
    exact q H' sm
end
end HT
namespace HT
open PySem L2
structure MirT (K : PySem.W.Frag) (w : World) (mg : Str → Option Value) (aR : Addr) : Prop where
  gR : mg "MIRRORED" = some (.ref aR)
  dR : ∀ m, Mode m → KDct K w aR m (.str (mir m))
def BdK (x : Int) : Prop := -2 ^ 720 < x ∧ x < 2 ^ 720
def spBelow : Sp := fun vs H Q _ => ∃ (m : Str) (s k : Int), vs = [.str m, .int s, .int k] ∧ Mode m ∧ Q (.int (below m s k)) H
def spSpan : Sp := fun vs H Q _ => ∃ (p : Addr) (o s : Int) (m : Str) (k : Int), vs = [.ref p, .int k] ∧ H p = some (sideV o s m) ∧ SideP o s m ∧ BdK k ∧
  ∀ (d : Addr) (H' : Hp), Same H H' → H d = none → H' d = some (.tup [.int (lowM o s m k), .int (highM o s m k)]) → Q (.ref d) H'
def spBack : Sp := fun vs H Q _ => ∃ (p : Addr) (o s : Int) (m : Str) (v : Int), vs = [.ref p, .int v] ∧ H p = some (sideV o s m) ∧ SideP o s m ∧ -2 ^ 700 < v ∧ v < 2 ^ 700 ∧
  ∀ H' : Hp, Same H H' → Q (.int (backM o s m v)) H'
theorem bdK_bd {x : Int} (h : BdK x) : Bd x := by
  unfold BdK at h
  unfold Bd
  omega
section
variable {P : Program} {w : World} {K : PySem.W.Frag} {mg : Str → Option Value} {base : Heap} {aM aR fV fC fB fS : Addr} {dV dC dB dS : FuncData}
theorem ok_below {f : Addr} {fd : FuncData} (F : Fun K "_below" "_below" s_below f fd) : FnOk P w K mg base CX0 1 f fd ["mode", "step", "figure"] spBelow := by
  refine F.ok sc_below (fun vs H Q E h => ?_) (fun cdv A outer s H vs Q E hr h => ?_)
  · obtain ⟨m, s, k, rfl, _⟩ := h
    rfl
  · obtain ⟨m, s, k, rfl, hm, q⟩ := h
    refine ⟨_, pss_cons (ps_if (pt_cmpR op_eq (pv 0) pe_str (nomark _)) (pss_one (ps_ret pe_int)) pss_nil)
      (pss_cons (ps_if (pt_cmpR op_eq (pv 0) pe_str (nomark _)) (pss_one (ps_ret (pe_op op_sub (pv 1) pe_int))) pss_nil)
      (pss_cons (ps_if (PW.pt (pw_or (pt_cmpR op_eq (pv 0) pe_str (nomark _)) (pw_or1 (PW.pt (pw_and (pt_cmpR op_eq (pv 0) pe_str (nomark _)) (pw_and1 (pt_cmpR op_eq (pe_op op_mod (pv 2) pe_int) pe_int (nomark _)))))))) (pss_one (ps_ret (pe_op op_fdiv (pv 1) pe_int))) pss_nil)
      (pss_one (ps_ret (pe_op op_fdiv (pe_op op_sub (pv 1) pe_int) pe_int))))), ?_⟩
    have d2 : ∀ (i : Int), CDiv i 2 := fun _ => ⟨by decide, by decide⟩
    unfold below at q
    walk_at "rd"
    refine ⟨rfl, ?_⟩
    walk_at "rd"
    refine ite2 (fun h => ?_) (fun h1 => ?_)
    · rw [if_pos (str_t h)] at q
      walk_at "rd"
      exact q
    rw [if_neg (str_f h1)] at q
    walk_at "rd"
    refine ⟨rfl, ?_⟩
    walk_at "rd"
    refine ite2 (fun h => ?_) (fun h2 => ?_)
    · rw [if_pos (str_t h)] at q
      walk_at "rd"
      exact q
    rw [if_neg (str_f h2)] at q
    walk_at "rd"
    refine ⟨rfl, ?_⟩
    walk_at "rd"
    refine ite2 (fun h => ?_) (fun h3 => ?_)
    · rw [if_pos (.inl (str_t h))] at q
      walk_at "rd"
      refine ⟨d2 _, ?_⟩
      walk_at "rd"
      exact q
    walk_at "rd"
    refine ⟨rfl, ?_⟩
    walk_at "rd"
    refine ite2 (fun h => ?_) (fun h4 => ?_)
    · walk_at "rd"
      refine ⟨(by show (0 : Int) < 2; decide), ?_⟩
      walk_at "rd"
      refine ⟨rfl, ?_⟩
      walk_at "rd"
      refine ite2 (fun g => ?_) (fun g => ?_)
      · rw [if_pos (.inr ⟨str_t h, int_t g⟩)] at q
        walk_at "rd"
        refine ⟨d2 _, ?_⟩
        walk_at "rd"
        exact q
      · rw [if_neg (by rintro (z | ⟨_, z⟩); exact str_f h3 z; exact int_f g z)] at q
        walk_at "rd"
        refine ⟨d2 _, ?_⟩
        walk_at "rd"
        exact q
    · rw [if_neg (by rintro (z | ⟨z, _⟩); exact str_f h3 z; exact str_f h4 z)] at q
      walk_at "rd"
      refine ⟨d2 _, ?_⟩
      walk_at "rd"
      exact q
theorem ok_uspan {f : Addr} {fd : FuncData} (F : Fun K "_span" "_span" s_uspan f fd) (R : MirT K w mg aR)
    (B : Cal P w K mg base "_below" 1 ["mode", "step", "figure"] spBelow fB dB) : FnOk P w K mg base CX0 2 f fd ["side", "figure"] spSpan := by
  refine F.ok sc_uspan (fun vs H Q E h => ?_) (fun cdv A outer s H vs Q E hr h => ?_)
  · obtain ⟨p, o, s, m, k, rfl, _⟩ := h
    rfl
  · obtain ⟨p, o, s, m, k, rfl, hp, S, hk, q⟩ := h
    have nd := sc_uspan.nd
    refine ⟨_, pss_cons (ps_asg (pv 0) (pg_tup (by rfl) (pgs_cons (pg_name (i := 2) nd rfl (Or.inl rfl)) (pgs_cons (pg_name (i := 3) nd rfl (Or.inl rfl)) (pgs_cons (pg_name (i := 4) nd rfl (Or.inl rfl)) pgs_nil)))))
      (pss_cons (ps_set (i := 5) nd rfl (Or.inl rfl) (pe_op op_add (pv 2) (pe_op op_mulW (pv 3) (pv 1))))
      (pss_one (ps_ret (pe_tup (pa_cons (pe_op op_sub (pv 5) (pcl B hr (by decide) (by rfl) (pa_cons (pv 4) (pa_cons (pv 3) (pa_cons (pv 1) pa_nil)))))
        (pa_cons (pe_op op_add (pv 5) (pcl B hr (by decide) (by rfl) (pa_cons (pe_ix ix_kdict (pe_glob (v := .ref aR) (by rfl) R.gR rfl) (pv 4) (fun _ _ => rfl)) (pa_cons (pv 3) (pa_cons (pv 1) pa_nil))))) pa_nil)))))), ?_⟩
    walk_at "rd"
    refine ⟨p, _, rfl, SqT.of hp, rfl, _, _, rfl, _, _, rfl, _, _, rfl, rfl, ?_⟩
    have s0 := S.s0
    have s1 := S.s1
    have hk' := hk
    unfold BdK at hk'
    walk_at "rd"
    refine ⟨mulW (by omega) (by omega), ?_⟩
    walk_at "rd"
    refine ⟨m, s, k, rfl, S.md, ?_⟩
    walk_at "rd"
    refine ⟨aR, m, _, rfl, rfl, R.dR m S.md, ?_⟩
    walk_at "rd"
    refine ⟨mir m, s, k, rfl, mir_mode S.md, ?_⟩
    walk_at "rd"
    refine ⟨(by show 2 ≤ sizeLine; decide), fun d nd' => ?_⟩
    exact q d _ (fun b u z => (upd_ne (ne_of_none z nd')).trans z) nd' upd_same
theorem ok_span {f : Addr} {fd : FuncData} (F : Fun K "span" "span" s_span f fd) (C : Cal P w K mg base "check_side" 3 ["side"] spCheckSide fC dC) (V' : Cal P w K mg base "check_value" 2 ["value"] spCheckValue fV dV)
    (G : Cal P w K mg base "_span" 2 ["side", "figure"] spSpan fS dS) : FnOk P w K mg base CX0 4 f fd ["side", "figure"] spSpan := by
  refine F.ok sc_span (fun vs H Q E h => ?_) (fun cdv A outer s H vs Q E hr h => ?_)
  · obtain ⟨p, o, s, m, v, rfl, _⟩ := h
    rfl
  · obtain ⟨p, o, s, m, v, rfl, hp, S, q⟩ := h
    refine ⟨_, pss_cons (ps_expr (pcl C hr (by decide) (by rfl) (pa_cons (pv 0) pa_nil)))
      (pss_cons (ps_expr (pcl V' hr (by decide) (by rfl) (pa_cons (pv 1) pa_nil)))
      (pss_one (ps_ret (pcl G hr (by decide) (by rfl) (pa_cons (pv 0) (pa_cons (pv 1) pa_nil)))))), ?_⟩
    walk_at "rd"
    refine ⟨p, o, s, m, rfl, hp, S, ?_⟩
    walk_at "rd"
    exact ⟨p, o, s, m, v, rfl, hp, S, q⟩
end
end HT
namespace HT
open PySem L2
/-! ### mirrors and forms -/
theorem mir_mir {m : Str} (h : Mode m) : mir (mir m) = m := by
  rcases h with e | e | e | e | e <;> subst e
  · rw [mir_d, mir_u]
  · rw [mir_u, mir_d]
  · rw [mir_hd, mir_hu]
  · rw [mir_hu, mir_hd]
  · rw [mir_he, mir_he]
theorem below_neg {m : Str} {s : Int} (k : Int) (h : Mode m) : below m s (-k) = below m s k := by
  rcases h with e | e | e | e | e <;> subst e
  · rw [be_d, be_d]
  · rw [be_u, be_u]
  · rw [be_hd, be_hd]
  · rw [be_hu, be_hu]
  · rw [be_he, be_he]; split <;> split <;> omega
theorem due_mirror {o s : Int} {m : Str} {v : Int} (h : Mode m) (hs : 1 ≤ s) : dueM (-o) s (mir m) (-v) = -dueM o s m v := by
  have f := (fig_iff (o := o) (v := v) (k := figM o s m v) h hs).mp rfl
  generalize figM o s m v = k at f
  have e : figM o s m v = k := (fig_iff h hs).mpr f
  have e2 : figM (-o) s (mir m) (-v) = -k := by
    refine (fig_iff (mir_mode h) hs).mpr ?_
    unfold lowM highM at f ⊢
    rw [mir_mir h, below_neg k h, below_neg k (mir_mode h), Int.mul_neg]
    omega
  unfold dueM
  rw [e, e2, Int.mul_neg]
  omega
def firstM (s : Int) (m : Str) : Str := if s = 1 then "down" else if s = 2 ∧ m = "half_down" then "down" else if s = 2 ∧ m = "half_up" then "up" else if s % 2 = 1 ∧ (m = "half_up" ∨ m = "half_even") then "half_down" else m
def formO (o s : Int) (f : Str) : Int := if f = "half_even" then o % (2 * s) else o % s
def ordM (m : Str) : Nat := if m = "down" then 0 else if m = "up" then 1 else if m = "half_down" then 2 else if m = "half_up" then 3 else 4
theorem ord_d : ordM "down" = 0 := by unfold ordM; rw [if_pos rfl]
theorem ord_u : ordM "up" = 1 := by unfold ordM; rw [if_neg d_u, if_pos rfl]
theorem ord_hd : ordM "half_down" = 2 := by unfold ordM; rw [if_neg hd_d, if_neg hd_u, if_pos rfl]
theorem ord_hu : ordM "half_up" = 3 := by unfold ordM; rw [if_neg hu_d, if_neg hu_u, if_neg hu_hd, if_pos rfl]
theorem ord_he : ordM "half_even" = 4 := by unfold ordM; rw [if_neg he_d, if_neg he_u, if_neg he_hd, if_neg he_hu]
theorem u_hu : ¬ (("up" : Str) = "half_up") := by decide +kernel
theorem u_he : ¬ (("up" : Str) = "half_even") := by decide +kernel
theorem dn_hd : ¬ (("down" : Str) = "half_down") := by decide +kernel
theorem dn_hu : ¬ (("down" : Str) = "half_up") := by decide +kernel
theorem dn_he : ¬ (("down" : Str) = "half_even") := by decide +kernel
theorem dn_u : ¬ (("down" : Str) = "up") := by decide +kernel
/-- the first modes, mode by mode -/
theorem fi_one (m : Str) : firstM 1 m = "down" := by unfold firstM; rw [if_pos rfl]
theorem fi_d (s : Int) : firstM s "down" = "down" := by
  unfold firstM
  by_cases h : s = 1
  · rw [if_pos h]
  · rw [if_neg h, if_neg (fun z => dn_hd z.2), if_neg (fun z => dn_hu z.2), if_neg (fun z => z.2.elim dn_hu dn_he)]
theorem fi_u {s : Int} (h : s ≠ 1) : firstM s "up" = "up" := by
  unfold firstM
  rw [if_neg h, if_neg (fun z => u_hd z.2), if_neg (fun z => u_hu z.2), if_neg (fun z => z.2.elim u_hu u_he)]
theorem fi_hd2 : firstM 2 "half_down" = "down" := by unfold firstM; rw [if_neg (by decide), if_pos ⟨rfl, rfl⟩]
theorem fi_hd {s : Int} (h : s ≠ 1) (h2 : s ≠ 2) : firstM s "half_down" = "half_down" := by
  unfold firstM
  rw [if_neg h, if_neg (fun z => h2 z.1), if_neg (fun z => h2 z.1), if_neg (fun z => z.2.elim hd_hu hd_e)]
theorem fi_hu2 : firstM 2 "half_up" = "up" := by unfold firstM; rw [if_neg (by decide), if_neg (fun z => hu_hd z.2), if_pos ⟨rfl, rfl⟩]
theorem fi_huO {s : Int} (h : s ≠ 1) (h2 : s % 2 = 1) : firstM s "half_up" = "half_down" := by
  unfold firstM
  rw [if_neg h, if_neg (fun z => hu_hd z.2), if_neg (fun z => by have := z.1; omega), if_pos ⟨h2, .inl rfl⟩]
theorem fi_huE {s : Int} (h : s ≠ 2) (h2 : s % 2 = 0) : firstM s "half_up" = "half_up" := by
  unfold firstM
  rw [if_neg (by omega), if_neg (fun z => hu_hd z.2), if_neg (fun z => h z.1), if_neg (fun z => by have := z.1; omega)]
theorem fi_heO {s : Int} (h : s ≠ 1) (h2 : s % 2 = 1) : firstM s "half_even" = "half_down" := by
  unfold firstM
  rw [if_neg h, if_neg (fun z => he_hd z.2), if_neg (fun z => he_hu z.2), if_pos ⟨h2, .inr rfl⟩]
theorem fi_heE {s : Int} (h2 : s % 2 = 0) : firstM s "half_even" = "half_even" := by
  unfold firstM
  rw [if_neg (by omega), if_neg (fun z => he_hd z.2), if_neg (fun z => he_hu z.2), if_neg (fun z => by have := z.1; omega)]
/-- what is known of the first mode -/
structure FirstP (s : Int) (m : Str) : Prop where
  md : Mode (firstM s m)
  id : firstM s (firstM s m) = firstM s m
  od : ordM (firstM s m) ≤ ordM m
  go : ∀ q r, 0 ≤ r → r < s → goesUp (firstM s m) s q r = goesUp m s q r
  ev : firstM s m = "half_even" → s % 2 = 0
theorem first_ok {s : Int} {m : Str} (h : Mode m) (hs : 1 ≤ s) : FirstP s m := by
  have D : Mode "down" := .inl rfl
  have U : Mode "up" := .inr (.inl rfl)
  have HD : Mode "half_down" := .inr (.inr (.inl rfl))
  by_cases s1 : s = 1
  · subst s1
    refine ⟨by rw [fi_one]; exact D, by rw [fi_one, fi_one], by rw [fi_one, ord_d]; omega, fun q r r0 r1 => ?_, by rw [fi_one]; exact fun z => (dn_he z).elim⟩
    have : r = 0 := by omega
    subst this
    rw [fi_one, go_zero D (by decide), go_zero h (by decide)]
  rcases h with e | e | e | e | e <;> subst e
  · exact ⟨by rw [fi_d]; exact D, by rw [fi_d, fi_d], by rw [fi_d]; omega, fun q r _ _ => by rw [fi_d], by rw [fi_d]; exact fun z => (dn_he z).elim⟩
  · exact ⟨by rw [fi_u s1]; exact U, by rw [fi_u s1, fi_u s1], by rw [fi_u s1]; omega, fun q r _ _ => by rw [fi_u s1], by rw [fi_u s1]; exact fun z => (u_he z).elim⟩
  · by_cases s2 : s = 2
    · subst s2
      refine ⟨by rw [fi_hd2]; exact D, by rw [fi_hd2, fi_d], by rw [fi_hd2, ord_d]; omega, fun q r r0 r1 => ?_, by rw [fi_hd2]; exact fun z => (dn_he z).elim⟩
      rw [fi_hd2, go_down, go_hd, decide_eq_false (by omega)]
    · exact ⟨by rw [fi_hd s1 s2]; exact HD, by rw [fi_hd s1 s2, fi_hd s1 s2], by rw [fi_hd s1 s2]; omega, fun q r _ _ => by rw [fi_hd s1 s2], by rw [fi_hd s1 s2]; exact fun z => (hd_e z).elim⟩
  · by_cases s2 : s = 2
    · subst s2
      refine ⟨by rw [fi_hu2]; exact U, by rw [fi_hu2, fi_u s1], by rw [fi_hu2, ord_u, ord_hu]; omega, fun q r r0 r1 => ?_, by rw [fi_hu2]; exact fun z => (u_he z).elim⟩
      rw [fi_hu2, go_up, go_hu]
      exact decide_eq_decide.mpr (by omega)
    · by_cases od : s % 2 = 1
      · refine ⟨by rw [fi_huO s1 od]; exact HD, by rw [fi_huO s1 od, fi_hd s1 s2], by rw [fi_huO s1 od, ord_hd, ord_hu]; omega, fun q r r0 r1 => ?_, by rw [fi_huO s1 od]; exact fun z => (hd_e z).elim⟩
        rw [fi_huO s1 od, go_hd, go_hu]
        exact decide_eq_decide.mpr (by omega)
      · have ev : s % 2 = 0 := by omega
        exact ⟨by rw [fi_huE s2 ev]; exact .inr (.inr (.inr (.inl rfl))), by rw [fi_huE s2 ev, fi_huE s2 ev], by rw [fi_huE s2 ev]; omega, fun q r _ _ => by rw [fi_huE s2 ev], by rw [fi_huE s2 ev]; exact fun z => (hu_e z).elim⟩
  · by_cases od : s % 2 = 1
    · refine ⟨by rw [fi_heO s1 od]; exact HD, by rw [fi_heO s1 od, fi_hd s1 (by omega)], by rw [fi_heO s1 od, ord_hd, ord_he]; omega, fun q r r0 r1 => ?_, by rw [fi_heO s1 od]; exact fun z => (hd_e z).elim⟩
      rw [fi_heO s1 od, go_hd, go_he, decide_eq_false (show ¬ 2 * r = s by omega), Bool.false_and, Bool.or_false]
    · have ev : s % 2 = 0 := by omega
      exact ⟨by rw [fi_heE ev]; exact .inr (.inr (.inr (.inr rfl))), by rw [fi_heE ev, fi_heE ev], by rw [fi_heE ev]; omega, fun q r _ _ => by rw [fi_heE ev], fun _ => ev⟩
theorem go_shift {m : Str} {s q r j : Int} (h : Mode m) (hj : m ≠ "half_even" ∨ j % 2 = 0) : goesUp m s (q + j) r = goesUp m s q r := by
  rcases h with e | e | e | e | e <;> subst e
  · rw [go_down, go_down]
  · rw [go_up, go_up]
  · rw [go_hd, go_hd]
  · rw [go_hu, go_hu]
  · have z : j % 2 = 0 := hj.resolve_left (fun z => z rfl)
    rw [go_he, go_he, show (q + j) % 2 = q % 2 by omega]
/-- an offset moved by whole steps, by two of them for the even -/
theorem due_shift {o s j : Int} {m : Str} {v : Int} (h : Mode m) (hs : 1 ≤ s) (hj : m ≠ "half_even" ∨ j % 2 = 0) : dueM (o + s * j) s m v = dueM o s m v := by
  have F := fig_of (o := o + s * j) (m := m) (v := v) hs
  generalize (v - (o + s * j)) / s = q at F
  generalize (v - (o + s * j)) % s = r at F
  generalize hk : figM (o + s * j) s m v = k at F
  obtain ⟨eq, r0, r1, wh⟩ := F
  have e : figM o s m v = k + j := by
    refine fig_uniq (q := q + j) (r := r) hs ⟨by rw [Int.mul_add]; omega, r0, r1, ?_⟩
    rw [go_shift h hj]
    rcases wh with ⟨g, e⟩ | ⟨g, e⟩
    · exact .inl ⟨g, by omega⟩
    · exact .inr ⟨g, by omega⟩
  unfold dueM
  rw [e, hk, Int.mul_add]
  omega
theorem due_go {o s : Int} {m m' : Str} {v : Int} (hs : 1 ≤ s) (h : ∀ q r, 0 ≤ r → r < s → goesUp m s q r = goesUp m' s q r) : dueM o s m v = dueM o s m' v := by
  unfold dueM figM
  rw [h _ _ (Int.emod_nonneg _ (by omega)) (Int.emod_lt_of_pos _ (by omega))]
theorem due_form {o s : Int} {m : Str} (v : Int) (h : Mode m) (hs : 1 ≤ s) : dueM (formO o s (firstM s m)) s (firstM s m) v = dueM o s m v := by
  have P := first_ok h hs
  rw [← due_go hs P.go]
  unfold formO
  by_cases e : firstM s m = "half_even"
  · rw [if_pos e]
    have a := Int.mul_ediv_add_emod o (2 * s)
    have b : o % (2 * s) = o + s * (-(2 * (o / (2 * s)))) := by
      rw [Int.mul_neg, ← Int.mul_assoc, Int.mul_comm s 2]
      omega
    rw [b]
    exact due_shift P.md hs (.inr (by omega))
  · rw [if_neg e]
    have a := Int.mul_ediv_add_emod o s
    have b : o % s = o + s * (-(o / s)) := by
      rw [Int.mul_neg]
      omega
    rw [b]
    exact due_shift P.md hs (.inl e)
theorem form_bd {o s : Int} {f : Str} (hs : 1 ≤ s) : 0 ≤ formO o s f ∧ formO o s f < 2 * s ∧ (f ≠ "half_even" → formO o s f < s) := by
  unfold formO
  by_cases e : f = "half_even"
  · rw [if_pos e]
    exact ⟨Int.emod_nonneg _ (by omega), Int.emod_lt_of_pos _ (by omega), fun z => absurd e z⟩
  · rw [if_neg e]
    have := Int.emod_lt_of_pos o (show 0 < s by omega)
    exact ⟨Int.emod_nonneg _ (by omega), by omega, fun _ => this⟩
theorem form_idem {o s : Int} {f : Str} : formO (formO o s f) s f = formO o s f := by
  unfold formO
  by_cases e : f = "half_even"
  · rw [if_pos e, if_pos e, Int.emod_emod_of_dvd _ (Int.dvd_refl _)]
  · rw [if_neg e, if_neg e, Int.emod_emod_of_dvd _ (Int.dvd_refl _)]
/-- a value told by its figure and rest -/
theorem due_at {o s q r : Int} {m : Str} (hs : 1 ≤ s) (r0 : 0 ≤ r) (r1 : r < s) : dueM o s m (o + s * q + r) = o + s * q + (if goesUp m s q r = true then s else 0) := by
  unfold dueM
  by_cases g : goesUp m s q r = true
  · rw [fig_uniq (q := q) (r := r) (k := q + 1) hs ⟨by omega, r0, r1, .inl ⟨g, rfl⟩⟩, if_pos g, Int.mul_add]
    omega
  · have g' : goesUp m s q r = false := by cases h : goesUp m s q r <;> simp_all
    rw [fig_uniq (q := q) (r := r) (k := q) hs ⟨by omega, r0, r1, .inr ⟨g', rfl⟩⟩, if_neg g]
    omega
end HT
namespace HT
open PySem L2
def spMirror : Sp := fun vs H Q _ => ∃ (p : Addr) (o s : Int) (m : Str), vs = [.ref p] ∧ H p = some (sideV o s m) ∧ SideP o s m ∧
  ∀ (d : Addr) (H' : Hp), Same H H' → H d = none → H' d = some (sideV (-o) s (mir m)) → Q (.ref d) H'
def spFirst : Sp := fun vs H Q _ => ∃ (s : Int) (m : Str), vs = [.int s, .str m] ∧ 1 ≤ s ∧ Mode m ∧ ∀ H' : Hp, Same H H' → Q (.str (firstM s m)) H'
def spForm : Sp := fun vs H Q _ => ∃ (p : Addr) (o s : Int) (m : Str), vs = [.ref p] ∧ H p = some (sideV o s m) ∧ SideP o s m ∧
  ∀ (d : Addr) (H' : Hp), Same H H' → H d = none → H' d = some (sideV (formO o s (firstM s m)) s (firstM s m)) → Q (.ref d) H'
theorem side_mir {o s : Int} {m : Str} (S : SideP o s m) : SideP (-o) s (mir m) := by
  obtain ⟨o0, o1, s0, s1, md⟩ := S
  exact ⟨by omega, by omega, s0, s1, mir_mode md⟩
theorem side_form {o s : Int} {m : Str} (S : SideP o s m) : SideP (formO o s (firstM s m)) s (firstM s m) := by
  obtain ⟨o0, o1, s0, s1, md⟩ := S
  obtain ⟨a, b, _⟩ := form_bd (o := o) (f := firstM s m) s0
  exact ⟨by omega, by omega, s0, s1, (first_ok md s0).md⟩
theorem in_two (m : Str) : inV (.str m) [V.str "half_up", .str "half_even"] = decide (m = "half_up" ∨ m = "half_even") := by
  show (eqV (V.str "half_up") (V.str m) || (eqV (V.str "half_even") (V.str m) || false)) = _
  have e : ∀ a b : Str, eqV (V.str a) (V.str b) = decide (a = b) := fun a b => by
    show (a == b) = decide (a = b)
    by_cases h : a = b
    · rw [decide_eq_true h, h, beq_self_eq_true]
    · rw [decide_eq_false h]
      exact beq_eq_false_iff_ne.mpr h
  rw [e, e, Bool.or_false]
  by_cases a : m = "half_up"
  · rw [decide_eq_true a.symm, decide_eq_true (Or.inl a)]
    rfl
  · by_cases b : m = "half_even"
    · rw [decide_eq_true b.symm, decide_eq_true (Or.inr b), Bool.or_true]
    · rw [decide_eq_false (fun z => a z.symm), decide_eq_false (fun z => b z.symm), decide_eq_false (fun z => z.elim a b)]
      rfl
section
variable {P : Program} {w : World} {K : PySem.W.Frag} {mg : Str → Option Value} {base : Heap} {aM aR fV fC fB fS : Addr} {dV dC dB dS : FuncData}
theorem ok_mirror {f : Addr} {fd : FuncData} (F : Fun K "mirror" "mirror" s_mirror f fd) (R : MirT K w mg aR) (C : Cal P w K mg base "check_side" 3 ["side"] spCheckSide fC dC) : FnOk P w K mg base CX0 4 f fd ["side"] spMirror := by
  refine F.ok sc_mirror (fun vs H Q E h => ?_) (fun cdv A outer s H vs Q E hr h => ?_)
  · obtain ⟨p, o, s, m, rfl, _⟩ := h
    rfl
  · obtain ⟨p, o, s, m, rfl, hp, S, q⟩ := h
    have nd := sc_mirror.nd
    refine ⟨_, pss_cons (ps_expr (pcl C hr (by decide) (by rfl) (pa_cons (pv 0) pa_nil)))
      (pss_cons (ps_asg (pv 0) (pg_tup (by rfl) (pgs_cons (pg_name (i := 1) nd rfl (Or.inl rfl)) (pgs_cons (pg_name (i := 2) nd rfl (Or.inl rfl)) (pgs_cons (pg_name (i := 3) nd rfl (Or.inl rfl)) pgs_nil)))))
      (pss_one (ps_ret (pe_tup (pa_cons (pe_un un_neg (pv 1)) (pa_cons (pv 2) (pa_cons (pe_ix ix_kdict (pe_glob (v := .ref aR) (by rfl) R.gR rfl) (pv 3) (fun _ _ => rfl)) pa_nil))))))), ?_⟩
    walk_at "rd"
    refine ⟨p, o, s, m, rfl, hp, S, ?_⟩
    walk_at "rd"
    refine ⟨p, _, rfl, SqT.of hp, rfl, _, _, rfl, _, _, rfl, _, _, rfl, rfl, ?_⟩
    walk_at "rd"
    refine ⟨aR, m, _, rfl, rfl, R.dR m S.md, ?_⟩
    refine ⟨(by show 3 ≤ sizeLine; decide), fun d nd' => ?_⟩
    exact q d _ (fun b u z => (upd_ne (ne_of_none z nd')).trans z) nd' upd_same
theorem ok_first {f : Addr} {fd : FuncData} (F : Fun K "_first_mode" "_first_mode" s_first_mode f fd) : FnOk P w K mg base CX0 1 f fd ["step", "mode"] spFirst := by
  refine F.ok sc_first_mode (fun vs H Q E h => ?_) (fun cdv A outer s H vs Q E hr h => ?_)
  · obtain ⟨s, m, rfl, _⟩ := h
    rfl
  · obtain ⟨s, m, rfl, s0, md, q⟩ := h
    refine ⟨_, pss_cons (ps_if (pt_cmpR op_eq (pv 0) pe_int (nomark _)) (pss_one (ps_ret pe_str)) pss_nil)
      (pss_cons (ps_if (PW.pt (pw_and (pt_cmpR op_eq (pv 0) pe_int (nomark _)) (pw_and1 (pt_cmpR op_eq (pv 1) pe_str (nomark _))))) (pss_one (ps_ret pe_str)) pss_nil)
      (pss_cons (ps_if (PW.pt (pw_and (pt_cmpR op_eq (pv 0) pe_int (nomark _)) (pw_and1 (pt_cmpR op_eq (pv 1) pe_str (nomark _))))) (pss_one (ps_ret pe_str)) pss_nil)
      (pss_cons (ps_if (PW.pt (pw_and (pt_cmpR op_eq (pe_op op_mod (pv 0) pe_int) pe_int (nomark _)) (pw_and1 (pt_cmpR op_in_seq (pv 1) (pe_tup (pa_cons pe_str (pa_cons pe_str pa_nil))) (by rfl))))) (pss_one (ps_ret pe_str)) pss_nil)
      (pss_one (ps_ret (pv 1)))))), ?_⟩
    have fin : ∀ (x : Str) (H' : Hp), firstM s m = x → Same H H' → Q (.str x) H' := fun x H' e sm => by
      rw [← e]
      exact q H' sm
    walk_at "rd"
    refine ⟨rfl, ?_⟩
    walk_at "rd"
    refine ite2 (fun h => ?_) (fun h1 => ?_)
    · walk_at "rd"
      exact fin "down" H (by rw [int_t h]; exact fi_one m) (Same.refl H)
    have n1 := int_f h1
    walk_at "rd"
    refine ⟨rfl, ?_⟩
    walk_at "rd"
    refine ite2 (fun h => ?_) (fun h2 => ?_)
    · have e2 := int_t h
      walk_at "rd"
      refine ⟨rfl, ?_⟩
      walk_at "rd"
      refine ite2 (fun g => ?_) (fun g1 => ?_)
      · walk_at "rd"
        exact fin "down" H (by rw [str_t g, e2]; exact fi_hd2) (Same.refl H)
      walk_at "rd"
      refine ⟨rfl, ?_⟩
      walk_at "rd"
      refine ite2 (fun _ => ?_) (fun z => absurd h z)
      walk_at "rd"
      refine ⟨rfl, ?_⟩
      walk_at "rd"
      refine ite2 (fun g => ?_) (fun g2 => ?_)
      · walk_at "rd"
        exact fin "up" H (by rw [str_t g, e2]; exact fi_hu2) (Same.refl H)
      walk_at "rd"
      refine ⟨(by show (0 : Int) < 2; decide), ?_⟩
      walk_at "rd"
      refine ⟨rfl, ?_⟩
      walk_at "rd"
      refine ite2 (fun g => absurd (int_t g) (by omega)) (fun _ => ?_)
      walk_at "rd"
      refine fin m H ?_ (Same.refl H)
      unfold firstM
      rw [if_neg n1, if_neg (fun z => str_f g1 z.2), if_neg (fun z => str_f g2 z.2), if_neg (fun z => by have := z.1; omega)]
    · have n2 := int_f h2
      walk_at "rd"
      refine ⟨rfl, ?_⟩
      walk_at "rd"
      refine ite2 (fun z => absurd z h2) (fun _ => ?_)
      walk_at "rd"
      refine ⟨(by show (0 : Int) < 2; decide), ?_⟩
      walk_at "rd"
      refine ⟨rfl, ?_⟩
      walk_at "rd"
      refine ite2 (fun g => ?_) (fun g => ?_)
      · have od := int_t g
        walk_at "rd"
        refine ⟨(by show 2 ≤ sizeLine; decide), fun d nd' => ?_⟩
        refine ⟨d, _, rfl, .inr (SqT.of upd_same), rfl, by decide, ?_⟩
        walk_at "rd"
        have sm : ∀ o, Same H (upd H d o) := fun o b u z => (upd_ne (ne_of_none z nd')).trans z
        refine ite2 (fun k => ?_) (fun k => ?_)
        · walk_at "rd"
          have k' : inV (.str m) [V.str "half_up", .str "half_even"] = true := k
          rw [in_two] at k'
          refine fin "half_down" _ ?_ (sm _)
          unfold firstM
          rw [if_neg n1, if_neg (fun z => n2 z.1), if_neg (fun z => n2 z.1), if_pos ⟨od, of_decide_eq_true k'⟩]
        · walk_at "rd"
          have k' : ¬ inV (.str m) [V.str "half_up", .str "half_even"] = true := k
          rw [in_two] at k'
          refine fin m _ ?_ (sm _)
          unfold firstM
          rw [if_neg n1, if_neg (fun z => n2 z.1), if_neg (fun z => n2 z.1), if_neg (fun z => k' (decide_eq_true z.2))]
      · have od := int_f g
        walk_at "rd"
        refine fin m H ?_ (Same.refl H)
        unfold firstM
        rw [if_neg n1, if_neg (fun z => n2 z.1), if_neg (fun z => n2 z.1), if_neg (fun z => od z.1)]
theorem ok_form {f : Addr} {fd : FuncData} (F : Fun K "form" "form" s_form f fd) (C : Cal P w K mg base "check_side" 3 ["side"] spCheckSide fC dC) (M : Cal P w K mg base "_first_mode" 1 ["step", "mode"] spFirst fB dB) : FnOk P w K mg base CX0 4 f fd ["side"] spForm := by
  refine F.ok sc_form (fun vs H Q E h => ?_) (fun cdv A outer s H vs Q E hr h => ?_)
  · obtain ⟨p, o, s, m, rfl, _⟩ := h
    rfl
  · obtain ⟨p, o, s, m, rfl, hp, S, q⟩ := h
    have nd := sc_form.nd
    refine ⟨_, pss_cons (ps_expr (pcl C hr (by decide) (by rfl) (pa_cons (pv 0) pa_nil)))
      (pss_cons (ps_asg (pv 0) (pg_tup (by rfl) (pgs_cons (pg_name (i := 1) nd rfl (Or.inl rfl)) (pgs_cons (pg_name (i := 2) nd rfl (Or.inl rfl)) (pgs_cons (pg_name (i := 3) nd rfl (Or.inl rfl)) pgs_nil)))))
      (pss_cons (ps_set (i := 4) nd rfl (Or.inl rfl) (pcl M hr (by decide) (by rfl) (pa_cons (pv 2) (pa_cons (pv 3) pa_nil))))
      (pss_cons (ps_if (pt_cmpR op_eq (pv 4) pe_str (nomark _)) (pss_one (ps_ret (pe_tup (pa_cons (pe_op op_mod (pv 1) (pe_op op_mul pe_int (pv 2))) (pa_cons (pv 2) (pa_cons (pv 4) pa_nil)))))) pss_nil)
      (pss_one (ps_ret (pe_tup (pa_cons (pe_op op_mod (pv 1) (pv 2)) (pa_cons (pv 2) (pa_cons (pv 4) pa_nil))))))))), ?_⟩
    have s0 := S.s0
    walk_at "rd"
    refine ⟨p, o, s, m, rfl, hp, S, ?_⟩
    walk_at "rd"
    refine ⟨p, _, rfl, SqT.of hp, rfl, _, _, rfl, _, _, rfl, _, _, rfl, rfl, ?_⟩
    walk_at "rd"
    refine ⟨s, m, rfl, s0, S.md, fun H1 m1 => ?_⟩
    walk_at "rd"
    refine ⟨rfl, ?_⟩
    walk_at "rd"
    refine ite2 (fun h => ?_) (fun h => ?_)
    · have e := str_t h
      walk_at "rd"
      refine ⟨.inl ⟨by decide, by decide⟩, ?_⟩
      walk_at "rd"
      refine ⟨(by show (0 : Int) < 2 * s; omega), ?_⟩
      walk_at "rd"
      refine ⟨(by show 3 ≤ sizeLine; decide), fun d nd' => ?_⟩
      have e2 : formO o s (firstM s m) = o % (2 * s) := by unfold formO; rw [if_pos e]
      refine q d _ (fun b u z => (upd_ne (ne_of_none (m1 _ _ z) nd')).trans (m1 _ _ z)) (m1.free nd') ?_
      rw [e2]
      exact upd_same
    · have e := str_f h
      walk_at "rd"
      refine ⟨(by omega), ?_⟩
      walk_at "rd"
      refine ⟨(by show 3 ≤ sizeLine; decide), fun d nd' => ?_⟩
      have e2 : formO o s (firstM s m) = o % s := by unfold formO; rw [if_neg e]
      refine q d _ (fun b u z => (upd_ne (ne_of_none (m1 _ _ z) nd')).trans (m1 _ _ z)) (m1.free nd') ?_
      rw [e2]
      exact upd_same
end
end HT
namespace HT
open PySem L2
section
variable {P : Program} {w : World} {K : PySem.W.Frag} {mg : Str → Option Value} {base : Heap} {aM fD fP fG fL fA fF fH fS : Addr} {dD dP dG dL dA dF dH dS : FuncData}
theorem ok_L_figure {f : Addr} {fd : FuncData} (F : Fun K "_law_figure" "_law_figure" s_L_figure f fd) (B : Blt mg) : FnOk P w K mg base CX0 1 f fd ["_law_side", "_law_value"] spFig := by
  refine F.ok sc_L_figure (fun vs H Q E h => ?_) (fun cdv A outer s H vs Q E hr h => ?_)
  · obtain ⟨p, o, s, m, v, rfl, _⟩ := h
    rfl
  · obtain ⟨p, o, s, m, v, rfl, hp, S, hv, q⟩ := h
    have nd := sc_L_figure.nd
    have q' : Q (.int (figM o s m v)) H := q H (Same.refl H)
    have Fg := fig_of (o := o) (m := m) (v := v) S.s0
    refine ⟨_, pss_cons (ps_asg (pv 0) (pg_tup (by rfl) (pgs_cons (pg_name (i := 2) nd rfl (Or.inl rfl)) (pgs_cons (pg_name (i := 3) nd rfl (Or.inl rfl)) (pgs_cons (pg_name (i := 4) nd rfl (Or.inl rfl)) pgs_nil)))))
      (pss_cons (ps_set (i := 5) nd rfl (Or.inl rfl) (pe_op op_fdivW (pe_callTy call_int1 (by rfl) B.int (by decide +kernel) (pa_cons (pe_op op_sub (pv 1) (pv 2)) pa_nil)) (pv 3)))
      (pss_cons (ps_set (i := 6) nd rfl (Or.inl rfl) (pe_op op_sub (pe_op op_sub (pv 1) (pv 2)) (pe_op op_mulW (pv 3) (pv 5))))
      (pss_cons (ps_if (PW.pt (pw_or (pt_cmpR op_eq (pv 4) pe_str (nomark _)) (pw_or1 (pt_cmpR op_eq (pv 6) pe_int (nomark _))))) (pss_one (ps_ret (pv 5))) pss_nil)
      (pss_cons (ps_if (PW.pt (pw_or (pt_cmpR op_eq (pv 4) pe_str (nomark _)) (pw_or1 (pt_cmpR op_gt (pe_op op_mul pe_int (pv 6)) (pv 3) (nomark _))))) (pss_one (ps_ret (pe_op op_add (pv 5) pe_int))) pss_nil)
      (pss_cons (ps_if (PW.pt (pw_or (pt_cmpR op_lt (pe_op op_mul pe_int (pv 6)) (pv 3) (nomark _)) (pw_or1 (pt_cmpR op_eq (pv 4) pe_str (nomark _))))) (pss_one (ps_ret (pv 5))) pss_nil)
      (pss_one (ps_ret (pe_op op_add (pv 5) (pe_callTy call_int1 (by rfl) B.int (by decide +kernel) (pa_cons (pe_or (pe_cmpR op_eq (pv 4) pe_str (nomark _)) (pe_one (pe_cmpR op_eq (pe_op op_mod (pv 5) pe_int) pe_int (nomark _)))) pa_nil)))))))))), ?_⟩
    have b0 := S.s0
    have b1 := S.s1
    have b2 := S.o0
    have b3 := S.o1
    have b4 := hv.1
    have b5 := hv.2
    have b6 := div_bd (x := v - o) (b := 2 ^ 1001) S.s0 (by omega) (by omega)
    have rr : v - o - s * ((v - o) / s) = (v - o) % s := by
      have := Fg.eq
      omega
    walk_at "rd"
    refine ⟨p, _, rfl, SqT.of hp, rfl, _, _, rfl, _, _, rfl, _, _, rfl, rfl, ?_⟩
    walk_at "rd"
    refine ⟨fdiv_ok _ (by omega) (lg_big (by omega) (by omega)), ?_⟩
    walk_at "rd"
    refine ⟨mulW (by omega) (by omega), ?_⟩
    walk_at "rd"
    refine ⟨rfl, ?_⟩
    walk_at "rd"
    obtain ⟨_, r0, r1, wh⟩ := Fg
    generalize figM o s m v = k at q' wh
    -- the three ways of a mode
    have fin0 : k = ((v - o) / s) → Q (.int ((v - o) / s)) H := fun e => by rw [← e]; exact q'
    have fin1 : k = ((v - o) / s) + 1 → Q (.int (((v - o) / s) + 1)) H := fun e => by rw [← e]; exact q'
    have low : goesUp m s ((v - o) / s) ((v - o) % s) = false → k = ((v - o) / s) := fun h => by
      rcases wh with ⟨g, _⟩ | ⟨_, e⟩
      · rw [h] at g; cases g
      · exact e
    have up : goesUp m s ((v - o) / s) ((v - o) % s) = true → k = ((v - o) / s) + 1 := fun h => by
      rcases wh with ⟨_, e⟩ | ⟨g, _⟩
      · exact e
      · rw [h] at g; cases g
    refine ite2 (fun h => ?_) (fun h1 => ?_)
    · walk_at "rd"
      refine fin0 (low ?_)
      rw [str_t h, go_down]
    walk_at "rd"
    refine ⟨rfl, ?_⟩
    walk_at "rd"
    refine ite2 (fun h => ?_) (fun h2 => ?_)
    · walk_at "rd"
      refine fin0 (low ?_)
      have e : ((v - o) % s) = 0 := by have := int_t h; omega
      rw [e]
      exact go_zero S.md S.s0
    have n1 := str_f h1
    have n2 : ¬ ((v - o) % s) = 0 := fun z => int_f h2 (by omega)
    walk_at "rd"
    refine ⟨rfl, ?_⟩
    walk_at "rd"
    refine ite2 (fun h => ?_) (fun h3 => ?_)
    · walk_at "rd"
      refine fin1 (up ?_)
      rw [str_t h, go_up]
      exact decide_eq_true (by omega)
    have n3 := str_f h3
    walk_at "rd"
    refine ⟨.inl ⟨by decide, by decide⟩, ?_⟩
    walk_at "rd"
    have hh : half m := by
      rcases S.md with e | e | e
      · exact absurd e n1
      · exact absurd e n3
      · exact e
    refine ite2 (fun h => ?_) (fun h4 => ?_)
    · walk_at "rd"
      have g : s < 2 * ((v - o) % s) := by have := of_decide_eq_true h; omega
      refine fin1 (up ?_)
      unfold goesUp
      rw [if_neg n1, if_neg n3, if_neg (by omega)]
      exact decide_eq_true g
    have n4 : ¬ s < 2 * ((v - o) % s) := fun z => h4 (decide_eq_true (by omega))
    walk_at "rd"
    refine ⟨.inl ⟨by decide, by decide⟩, ?_⟩
    walk_at "rd"
    refine ite2 (fun h => ?_) (fun h5 => ?_)
    · walk_at "rd"
      have g : 2 * ((v - o) % s) < s := by have := of_decide_eq_true h; omega
      refine fin0 (low ?_)
      unfold goesUp
      rw [if_neg n1, if_neg n3, if_neg (by omega)]
      exact decide_eq_false n4
    have n5 : 2 * ((v - o) % s) = s := by
      have : ¬ 2 * ((v - o) % s) < s := fun z => h5 (decide_eq_true (by omega))
      omega
    walk_at "rd"
    refine ⟨rfl, ?_⟩
    walk_at "rd"
    refine ite2 (fun h => ?_) (fun h6 => ?_)
    · walk_at "rd"
      refine fin0 (low ?_)
      rw [str_t h, go_hd]
      exact decide_eq_false n4
    have n6 := str_f h6
    have kk : k = ((v - o) / s) + (if m = "half_up" then 1 else if ((v - o) / s) % 2 = 1 then 1 else 0) := by
      rcases hh with e | e | e
      · exact absurd e n6
      · rw [if_pos e]
        refine up ?_
        rw [e, go_hu]
        exact decide_eq_true (by omega)
      · have e2 : goesUp m s ((v - o) / s) ((v - o) % s) = decide (((v - o) / s) % 2 = 1) := by
          rw [e, go_he, decide_eq_false n4, decide_eq_true n5]
          rfl
        rw [if_neg (by rw [e]; exact he_hu)]
        by_cases z : ((v - o) / s) % 2 = 1
        · rw [if_pos z]
          exact up (by rw [e2]; exact decide_eq_true z)
        · rw [if_neg z, Int.add_zero]
          exact low (by rw [e2]; exact decide_eq_false z)
    walk_at "rd"
    refine ⟨rfl, ?_⟩
    walk_at "rd"
    refine ite2 (fun h => ?_) (fun h7 => ?_)
    · refine .inr ⟨true, rfl, ?_⟩
      walk_at "rd"
      rw [if_pos (str_t h)] at kk
      exact fin1 kk
    · rw [if_neg (str_f h7)] at kk
      walk_at "rd"
      refine ⟨(by show (0 : Int) < 2; decide), ?_⟩
      walk_at "rd"
      refine ⟨rfl, .inr ⟨_, rfl, ?_⟩⟩
      walk_at "rd"
      show Q (.int (((v - o) / s) + if decide (V.int (((v - o) / s) % 2) = V.int 1) = true then 1 else 0)) H
      rw [dec_int]
      by_cases z : ((v - o) / s) % 2 = 1
      · rw [if_pos z] at kk
        rw [if_pos (decide_eq_true z)]
        exact fin1 kk
      · rw [if_neg z, Int.add_zero] at kk
        rw [if_neg (by rw [decide_eq_false z]; decide), Int.add_zero]
        exact fin0 kk
theorem ok_L_handed {f : Addr} {fd : FuncData} (F : Fun K "_law_handed" "_law_handed" s_L_handed f fd) (L : Cal P w K mg base "_law_figure" 1 ["_law_side", "_law_value"] spFig fL dL) : FnOk P w K mg base CX0 2 f fd ["_law_side", "_law_value"] spDue := by
  refine F.ok sc_L_handed (fun vs H Q E h => ?_) (fun cdv A outer s H vs Q E hr h => ?_)
  · obtain ⟨p, o, s, m, v, rfl, _⟩ := h
    rfl
  · obtain ⟨p, o, s, m, v, rfl, hp, S, hv, q⟩ := h
    refine ⟨_, pss_one (ps_ret (pe_op op_add (pe_ix ix_tup (pv 0) pe_int (fun _ _ => rfl)) (pe_op op_mulW (pe_ix ix_tup (pv 0) pe_int (fun _ _ => rfl)) (pcl L hr (by decide) (by rfl) (pa_cons (pv 0) (pa_cons (pv 1) pa_nil)))))), ?_⟩
    walk_at "rd"
    refine ⟨p, _, 0, _, rfl, rfl, SqT.of hp, rfl, ?_⟩
    walk_at "rd"
    refine ⟨p, _, 1, _, rfl, rfl, SqT.of hp, rfl, ?_⟩
    walk_at "rd"
    refine ⟨p, o, s, m, v, rfl, hp, S, hv, fun H' sm => ?_⟩
    walk_at "rd"
    have b1 := fig_bd S hv
    have b2 := S.s0
    have b3 := S.s1
    refine ⟨mulW (by omega) (by omega), ?_⟩
    walk_at "rd"
    exact q H' sm
end
end HT
namespace HT
open PySem L2
def spDiv : Sp := fun vs H Q _ => ∃ a b : Nat, vs = [.int (a : Int), .int (b : Int)] ∧ Q (.int ((Nat.gcd a b : Nat) : Int)) H
section
variable {P : Program} {w : World} {K : PySem.W.Frag} {mg : Str → Option Value} {base : Heap} {fW fF : Addr} {dW dF : FuncData}
theorem ok_div {f : Addr} {fd : FuncData} (F : Fun K "_law_divisor" "_law_divisor" s_L_divisor f fd) (B : Blt mg) : FnOk P w K mg base CX0 1 f fd ["_law_one", "_law_other"] spDiv := by
  refine F.ok sc_L_divisor (fun vs H Q E h => ?_) (fun cdv A outer s0 H vs Q E hr h => ?_)
  · obtain ⟨a, b, rfl, _⟩ := h
    rfl
  · obtain ⟨a, b, rfl, q⟩ := h
    have nd := sc_L_divisor.nd
    refine ⟨_, pss_cons (ps_while PassesOwn.never (pt_cmpR op_ne (pv 1) pe_int (nomark _)) (pss_one (ps_par (i := 0) (j := 1) rfl nd rfl rfl (by decide) rfl rfl (pa_cons (pv 1) (pa_cons (pe_op op_mod (pe_callTy call_int1 (by rfl) B.int (by decide +kernel) (pa_cons (pv 0) pa_nil)) (pv 1)) pa_nil)) (by rfl))))
      (pss_one (ps_ret (pv 0))), ?_⟩
    refine ⟨fun m σ H' => ∃ c d : Nat, m = d ∧ σ = [some (.int (c : Int)), some (.int (d : Int))] ∧ H' = H ∧ Nat.gcd c d = Nat.gcd a b, ⟨b, a, b, rfl, rfl, rfl, rfl⟩, ?_⟩
    rintro d σ H' ⟨c, _, rfl, rfl, rfl, hg⟩
    walk_at "rd"
    refine ⟨rfl, ?_⟩
    rw [dec_int]
    by_cases e : d = 0
    · subst e
      walk_at "rd"
      show Q (.int (c : Int)) H'
      rw [Nat.gcd_zero_right] at hg
      rw [hg]
      exact q
    · have e2 : (!decide ((d : Int) = 0)) = true := by
        rw [decide_eq_false (by omega)]
        rfl
      rw [e2]
      refine ⟨true, rfl, fun σ' H'' => ∃ c' d' : Nat, d' < d ∧ σ' = [some (V.int (c' : Int)), some (V.int (d' : Int))] ∧ H'' = H' ∧ Nat.gcd c' d' = Nat.gcd a b, fun σ' H'' ⟨c', d', l, e1, e2, e3⟩ => ⟨d', l, c', d', rfl, e1, e2, e3⟩, ?_⟩
      walk_at "rd"
      refine ⟨(by show (0 : Int) < (d : Int); omega), ?_⟩
      refine ⟨_, _, rfl, d, c % d, Nat.mod_lt _ (by omega), ?_, rfl, ?_⟩
      · rw [Int.natCast_emod]
        rfl
      · rw [← hg, Nat.gcd_comm c d, Nat.gcd_rec d c, Nat.gcd_comm]
end
end HT
namespace HT
open PySem L2
structure Sd where
  o : Int
  s : Int
  m : Str
/-- the list at l holds sides with these parts -/
structure SidesAt (H : Hp) (l : Addr) (xs : List V) (ss : List Sd) : Prop where
  hl : H l = some (.lst xs)
  len : xs.length = ss.length
  l1 : 1 ≤ ss.length
  l4 : ss.length ≤ 4
  at_ : ∀ (i : Nat) (d : Sd), ss[i]? = some d → ∃ p : Addr, xs[i]? = some (V.ref p) ∧ H p = some (sideV d.o d.s d.m) ∧ SideP d.o d.s d.m
theorem SidesAt.same {H H' : Hp} {l : Addr} {xs : List V} {ss : List Sd} (S : SidesAt H l xs ss) (e : Same H H') : SidesAt H' l xs ss :=
  ⟨e _ _ S.hl, S.len, S.l1, S.l4, fun i d h => let ⟨p, a, b, c⟩ := S.at_ i d h; ⟨p, a, e _ _ b, c⟩⟩
theorem SidesAt.oth {a c : Addr} {t : Nat} {H H' : Hp} {l : Addr} {xs : List V} {ss : List Sd} (S : SidesAt H l xs ss) (R : Src H a c t) (la : l ≠ a) (lc : l ≠ c) (e : Oth a c H H') : SidesAt H' l xs ss :=
  ⟨e _ _ S.hl la lc, S.len, S.l1, S.l4, fun i d h => let ⟨p, x, b, y⟩ := S.at_ i d h; let z := R.nt b; ⟨p, x, e _ _ b z.1 z.2, y⟩⟩
theorem SidesAt.item {H : Hp} {l : Addr} {xs : List V} {ss : List Sd} (S : SidesAt H l xs ss) {i : Nat} {y : V} (h : xs[i]? = some y) : ∃ d p, ss[i]? = some d ∧ y = .ref p ∧ H p = some (sideV d.o d.s d.m) ∧ SideP d.o d.s d.m := by
  have hi : i < ss.length := by have := (List.getElem?_eq_some_iff.mp h).1; rw [S.len] at this; exact this
  obtain ⟨p, e, hp, sp⟩ := S.at_ i ss[i] (List.getElem?_eq_getElem hi)
  rw [h] at e
  exact ⟨ss[i], p, List.getElem?_eq_getElem hi, Option.some.inj e, hp, sp⟩
/-- a side's period -/
def perM (s : Int) (m : Str) : Int := if m = "half_even" then 2 * s else s
theorem perM_bd {o s : Int} {m : Str} (S : SideP o s m) : 1 ≤ perM s m ∧ perM s m ≤ 2 * 10 ^ 30 := by
  have a := S.s0
  have b := S.s1
  unfold perM
  split <;> omega
def perN (d : Sd) : Nat := (perM d.s d.m).toNat
/-- the common period -/
def comN (ss : List Sd) : Nat := ss.foldl (fun n d => n.lcm (perN d)) 1
theorem com_snoc {ss : List Sd} {i : Nat} {d : Sd} (h : ss[i]? = some d) : comN (ss.take (i + 1)) = (comN (ss.take i)).lcm (perN d) := by
  unfold comN
  rw [List.take_succ, h, List.foldl_append]
  rfl
theorem lcm_le {a b : Nat} : a.lcm b ≤ a * b := Nat.div_le_self _ _
theorem com_le : ∀ (ss : List Sd) (n : Nat), (∀ d ∈ ss, SideP d.o d.s d.m) → ss.foldl (fun n d => n.lcm (perN d)) n ≤ n * (2 * 10 ^ 30) ^ ss.length
  | [], n, _ => by simp
  | d :: ss, n, h => by
    have z := com_le ss (n.lcm (perN d)) fun e he => h e (List.mem_cons_of_mem _ he)
    have b := perM_bd (h d List.mem_cons_self)
    have y : perN d ≤ 2 * 10 ^ 30 := by unfold perN; omega
    refine Nat.le_trans z ?_
    generalize (2 * 10 ^ 30 : Nat) = k at y
    rw [List.length_cons, Nat.pow_succ, Nat.mul_comm (k ^ ss.length), ← Nat.mul_assoc]
    exact Nat.mul_le_mul_right _ (Nat.le_trans lcm_le (Nat.mul_le_mul_left _ y))
theorem SidesAt.side {H : Hp} {l : Addr} {xs : List V} {ss : List Sd} (S : SidesAt H l xs ss) : ∀ d ∈ ss, SideP d.o d.s d.m := fun d hd => by
  obtain ⟨i, hi, rfl⟩ := List.mem_iff_getElem.mp hd
  obtain ⟨_, _, _, sp⟩ := S.at_ i _ (List.getElem?_eq_getElem hi)
  exact sp
theorem com_lt {ss : List Sd} (h : ∀ d ∈ ss, SideP d.o d.s d.m) (l4 : ss.length ≤ 4) : comN ss < 2 ^ 420 := by
  have z := com_le ss 1 h
  rw [Nat.one_mul] at z
  refine Nat.lt_of_le_of_lt z (Nat.lt_of_le_of_lt (Nat.pow_le_pow_right (by decide) l4) ?_)
  decide
theorem com_take {ss : List Sd} (h : ∀ d ∈ ss, SideP d.o d.s d.m) (l4 : ss.length ≤ 4) (i : Nat) : comN (ss.take i) < 2 ^ 420 :=
  com_lt (fun d hd => h d (List.mem_of_mem_take hd)) (Nat.le_trans (List.length_take_le' _ _) l4)
theorem com_pos : ∀ (ss : List Sd) (n : Nat), 0 < n → (∀ d ∈ ss, SideP d.o d.s d.m) → 0 < ss.foldl (fun n d => n.lcm (perN d)) n
  | [], n, hn, _ => hn
  | d :: ss, n, hn, h => by
    have b := perM_bd (h d List.mem_cons_self)
    have y : 0 < perN d := by unfold perN; omega
    exact com_pos ss _ (Nat.lcm_pos hn y) fun e he => h e (List.mem_cons_of_mem _ he)
/-- as the law has it -/
theorem lcm_div (a b : Nat) : a / Nat.gcd a b * b = a.lcm b := by
  unfold Nat.lcm
  rw [Nat.mul_comm (a / Nat.gcd a b), ← Nat.mul_div_assoc _ (Nat.gcd_dvd_left a b), Nat.mul_comm]
end HT
namespace HT
open PySem L2
theorem lg_any {n : Nat} (h : n < 2 ^ 500) : ((n : Int)).natAbs.log2 < 9000 := by
  rw [Int.natAbs_natCast]
  by_cases e : n = 0
  · rw [e]; decide
  · have := (Nat.log2_lt e).mpr h
    omega
def spSmall : Sp := fun vs H Q _ => ∃ (a c : Addr) (t most : Nat), vs = [.ref a, .int (most : Int)] ∧ Src H a c t ∧ 1 ≤ most ∧ most ≤ 1000 ∧ t + 5 < 2 ^ 30 ∧
  ∀ (p : Addr) (o s : Int) (m : Str) (H' : Hp) (t' : Nat), H' p = some (sideV o s m) → -30 ≤ o → o ≤ 29 → 1 ≤ s → s ≤ (most : Int) → Mode m → t' ≤ t + 3 → Src H' a c t' → Oth a c H H' → Q (.ref p) H'
def spPer : Sp := fun vs H Q _ => ∃ (l : Addr) (xs : List V) (ss : List Sd), vs = [.ref l] ∧ SidesAt H l xs ss ∧ Q (.int (comN ss : Int)) H
def spSet : Sp := fun vs H Q _ => ∃ (a c : Addr) (t most many : Nat), vs = [.ref a, .int (most : Int), .int (many : Int)] ∧ Src H a c t ∧ 1 ≤ most ∧ most ≤ 1000 ∧ 1 ≤ many ∧ many ≤ 4 ∧ t + 50 < 2 ^ 30 ∧
  ∀ (l : Addr) (xs : List V) (ss : List Sd) (H' : Hp) (t' : Nat), SidesAt H' l xs ss → (∀ d ∈ ss, -30 ≤ d.o ∧ d.o ≤ 29 ∧ d.s ≤ (most : Int)) → l ≠ a → l ≠ c → t' ≤ t + 20 → Src H' a c t' → Oth a c H H' → Q (.ref l) H'
section
variable {P : Program} {w : World} {K : PySem.W.Frag} {mg : Str → Option Value} {base : Heap} {fD fP fS fV : Addr} {dD dP dS dV : FuncData}
theorem ok_small {f : Addr} {fd : FuncData} (F : Fun K "_law_small_side" "_law_small_side" s_L_small_side f fd) (D : Cal P w K mg base "_law_draw" 1 ["_law_source_here", "_law_limit"] spDraw fD dD)
    (Pk : Cal P w K mg base "_law_pick" 2 ["_law_source_here", "_law_values"] spPick fP dP) : FnOk P w K mg base CX0 3 f fd ["_law_source_here", "_law_most"] spSmall := by
  refine F.ok sc_L_small_side (fun vs H Q E h => ?_) (fun cdv A outer s0 H vs Q E hr h => ?_)
  · obtain ⟨a, c, t, most, rfl, _⟩ := h
    rfl
  · obtain ⟨a, c, t, most, rfl, S, m1, m2, ht, q⟩ := h
    have nd := sc_L_small_side.nd
    refine ⟨_, (pss_cons (ps_set (i := 2) nd rfl (Or.inl rfl) (pe_op op_sub (pcl D hr (by decide) (by rfl) (pa_cons (pv 0) (pa_cons pe_int pa_nil))) pe_int))
      (pss_one (ps_ret (pe_tup (pa_cons (pv 2) (pa_cons (pe_op op_add pe_int (pcl D hr (by decide) (by rfl) (pa_cons (pv 0) (pa_cons (pv 1) pa_nil)))) (pa_cons (pcl Pk hr (by decide) (by rfl) (pa_cons (pv 0) (pa_cons (pe_lst (pa_cons pe_str (pa_cons pe_str (pa_cons pe_str (pa_cons pe_str (pa_cons pe_str pa_nil)))))) pa_nil))) pa_nil))))))), ?_⟩
    walk_at "rd"
    refine ⟨a, c, t, 60, rfl, S, by omega, by decide, by decide, fun k1 H1 k10 k11 S1 O1 => ?_⟩
    walk_at "rd"
    refine ⟨a, c, t + 1, (most : Int), rfl, S1, by omega, by omega, lg_small (by omega) (by omega), fun k2 H2 k20 k21 S2 O2 => ?_⟩
    walk_at "rd"
    refine ⟨(by show 5 ≤ sizeLine; decide), fun l nl => ?_⟩
    obtain ⟨la, lc⟩ := S2.na nl
    refine ⟨a, c, _, l, _, rfl, S2.new nl, by omega, upd_same, la, lc, by decide, by decide, fun x H3 hx S3 O3 => ?_⟩
    obtain ⟨md, rfl, hmd⟩ := mode_of hx
    refine ⟨(by show 3 ≤ sizeLine; decide), fun p np => ?_⟩
    exact q p _ _ md _ (t + 1 + 1 + 1) upd_same (by omega) (by omega) (by omega) (by omega) hmd (by omega) (S3.new np) ((((O1.trans O2).new nl).trans O3).new np)
theorem ok_period {f : Addr} {fd : FuncData} (F : Fun K "_law_period" "_law_period" s_L_period f fd) (B : Blt mg) (Dv : Cal P w K mg base "_law_divisor" 1 ["_law_one", "_law_other"] spDiv fV dV) : FnOk P w K mg base CX0 2 f fd ["_law_sides"] spPer := by
  refine F.ok sc_L_period (fun vs H Q E h => ?_) (fun cdv A outer s0 H vs Q E hr h => ?_)
  · obtain ⟨l, xs, ss, rfl, _⟩ := h
    rfl
  · obtain ⟨l, xs, ss, rfl, SS, q⟩ := h
    have nd := sc_L_period.nd
    refine ⟨_, (pss_cons (ps_set (i := 1) nd rfl (Or.inl rfl) pe_int)
      (pss_cons (ps_for PassesOwn.never rfl (pi_list (pv 0)) (pg_tup (by rfl) (pgs_cons (pg_name (i := 2) nd rfl (Or.inl rfl)) (pgs_cons (pg_name (i := 3) nd rfl (Or.inl rfl)) (pgs_cons (pg_name (i := 4) nd rfl (Or.inl rfl)) pgs_nil)))) (pss_cons (ps_set (i := 5) nd rfl (Or.inl rfl) (pe_op op_mulW (pv 3) (pe_op op_add pe_int (pe_callTy call_int1 (by rfl) B.int (by decide +kernel) (pa_cons (pe_cmpR op_eq (pv 4) pe_str (nomark _)) pa_nil)))))
      (pss_one (ps_set (i := 1) nd rfl (Or.inl rfl) (pe_op op_mulW (pe_op op_fdivW (pv 1) (pcl Dv hr (by decide) (by rfl) (pa_cons (pv 1) (pa_cons (pv 5) pa_nil)))) (pv 5))))))
      (pss_one (ps_ret (pv 1))))), ?_⟩
    walk_at "rd"
    refine ⟨⟨_, SqL.of SS.hl⟩, ?_⟩
    refine for_list (K := K) (a := l) (xs := xs) (fun i st H' => ∃ x2 x3 x4 x5 : Option V, st = [some (.ref l), some (.int (comN (ss.take i) : Int)), x2, x3, x4, x5] ∧ H' = H) ⟨none, none, none, none, rfl, rfl⟩ (fun _ _ _ _ ⟨_, _, _, _, _, e⟩ => e ▸ SqL.of SS.hl) ?_ ?_
    · rintro i y st H' hy ⟨x2, x3, x4, x5, rfl, rfl⟩
      obtain ⟨d, p, ed, rfl, hp, sp⟩ := SS.item hy
      walk_at "rd"
      refine ⟨p, _, rfl, SqT.of hp, rfl, _, _, rfl, _, _, rfl, _, _, rfl, rfl, ?_⟩
      walk_at "rd"
      refine ⟨rfl, ?_⟩
      walk_at "rd"
      refine .inr ⟨_, rfl, ?_⟩
      have s0 := sp.s0
      have s1 := sp.s1
      have pb := perM_bd sp
      have eN : ((perN d : Nat) : Int) = perM d.s d.m := Int.toNat_of_nonneg (by omega)
      have eL : d.s * (1 + if decide (V.str d.m = V.str "half_even") = true then 1 else 0) = ((perN d : Nat) : Int) := by
        rw [eN, dec_str]
        unfold perM
        by_cases h : d.m = "half_even"
        · rw [if_pos (decide_eq_true h), if_pos h]; omega
        · rw [if_neg (fun z => h (of_decide_eq_true z)), if_neg h]; omega
      have bb : ∀ b : Bool, -2 ^ 1010 < (1 + if b = true then (1 : Int) else 0) ∧ (1 + if b = true then (1 : Int) else 0) < 2 ^ 1010 := by
        intro b
        cases b <;> decide +kernel
      replace bb := bb (decide (V.str d.m = V.str "half_even"))
      generalize (if decide (V.str d.m = V.str "half_even") = true then (1 : Int) else 0) = bI at eL bb
      walk_at "rd"
      refine ⟨mulW (by omega) bb, ?_⟩
      walk_at "rd"
      refine ⟨comN (ss.take i), perN d, (by show [V.int _, V.int (d.s * (1 + bI))] = _; rw [eL]), ?_⟩
      have cp : 0 < comN (ss.take i) := com_pos _ 1 (by decide) fun e he => SS.side e (List.mem_of_mem_take he)
      have cl := com_take SS.side SS.l4 i
      have gp : 0 < Nat.gcd (comN (ss.take i)) (perN d) := Nat.gcd_pos_of_pos_left _ cp
      have gl : Nat.gcd (comN (ss.take i)) (perN d) ≤ comN (ss.take i) := Nat.gcd_le_left _ cp
      walk_at "rd"
      refine ⟨fdiv_ok _ (by omega) (lg_any (Nat.lt_of_le_of_lt gl (Nat.lt_trans cl (Nat.pow_lt_pow_right (by decide) (by decide))))), ?_⟩
      walk_at "rd"
      have ed2 : (comN (ss.take i) : Int) / ((Nat.gcd (comN (ss.take i)) (perN d) : Nat) : Int) = ((comN (ss.take i) / Nat.gcd (comN (ss.take i)) (perN d) : Nat) : Int) := (Int.natCast_ediv _ _).symm
      have dl : comN (ss.take i) / Nat.gcd (comN (ss.take i)) (perN d) ≤ comN (ss.take i) := Nat.div_le_self _ _
      have big : (2 : Nat) ^ 420 < 2 ^ 1010 := Nat.pow_lt_pow_right (by decide) (by decide)
      have dn : (0 : Int) ≤ ((comN (ss.take i) / Nat.gcd (comN (ss.take i)) (perN d) : Nat) : Int) := Int.natCast_nonneg _
      have ml : CMulW ((comN (ss.take i) : Int) / ((Nat.gcd (comN (ss.take i)) (perN d) : Nat) : Int)) (d.s * (1 + bI)) := by
        rw [ed2, eL]
        exact mulW (by omega) (by omega)
      refine ⟨ml, ?_⟩
      refine ⟨some (.int d.o), some (.int d.s), some (.str d.m), some (.int (d.s * (1 + bI))), ?_, rfl⟩
      have e9 : (comN (ss.take i) : Int) / ((Nat.gcd (comN (ss.take i)) (perN d) : Nat) : Int) * (d.s * (1 + bI)) = (comN (ss.take (i + 1)) : Int) := by
        rw [eL, ed2, com_snoc ed, ← lcm_div, Int.natCast_mul]
      rw [← e9]
      rfl
    · rintro st H' ⟨x2, x3, x4, x5, rfl, rfl⟩
      rw [SS.len, List.take_length]
      walk_at "rd"
      exact q
theorem ok_set {f : Addr} {fd : FuncData} (F : Fun K "_law_set" "_law_set" s_L_set f fd) (B : Blt mg) (D : Cal P w K mg base "_law_draw" 1 ["_law_source_here", "_law_limit"] spDraw fD dD)
    (Sm : Cal P w K mg base "_law_small_side" 3 ["_law_source_here", "_law_most"] spSmall fS dS) : FnOk P w K mg base CX0 4 f fd ["_law_source_here", "_law_most", "_law_many"] spSet := by
  refine F.ok sc_L_set (fun vs H Q E h => ?_) (fun cdv A outer s0 H vs Q E hr h => ?_)
  · obtain ⟨a, c, t, most, many, rfl, _⟩ := h
    rfl
  · obtain ⟨a, c, t, most, many, rfl, S, m1, m2, n1, n2, ht, q⟩ := h
    have nd := sc_L_set.nd
    refine ⟨_, (pss_one (ps_ret (pe_lc (own := [("_law_k", 3)]) (g := gName 3) (tt := tYes) rfl nd (pi_range1 (by rfl) B.range (pa_cons (pe_op op_add pe_int (pcl D hr (by decide) (by rfl) (pa_cons (pv 0) (pa_cons (pv 2) pa_nil)))) pa_nil)) (blkOk_by (N := ["_law_source_here", "_law_most", "_law_many", "_law_k"]) (sc := defScope s_L_set) (by decide +kernel)) (fun _ _ _ _ _ => pg_name (i := 3) nd rfl (Or.inl rfl)) (fun _ _ _ _ _ => pts_nil) (fun _ _ _ _ _ => (pcl Sm hr (by decide) (by rfl) (pa_cons (pv 0) (pa_cons (pv 1) pa_nil))))))), ?_⟩
    walk_at "rd"
    refine ⟨a, c, t, (many : Int), rfl, S, by omega, by omega, lg_small (by omega) (by omega), fun y H1 y0 y1 S1 O1 => ?_⟩
    walk_at "rd"
    refine ⟨by omega, by omega, fun L nL => ?_⟩
    obtain ⟨La, Lc⟩ := S1.na nL
    refine lc_range (lo := 0) (n := (1 + y).toNat) (fun j H5 => ∃ (xs : List V) (ss : List Sd) (t' : Nat), H5 L = some (.lst xs) ∧ xs.length = j ∧ ss.length = j ∧ (∀ (i : Nat) (d : Sd), ss[i]? = some d → ∃ p : Addr, xs[i]? = some (V.ref p) ∧ H5 p = some (sideV d.o d.s d.m) ∧ SideP d.o d.s d.m) ∧ (∀ d ∈ ss, -30 ≤ d.o ∧ d.o ≤ 29 ∧ d.s ≤ (most : Int)) ∧ t' ≤ t + 1 + 3 * j ∧ Src H5 a c t' ∧ Oth a c H H5)
      ⟨[], [], t + 1, upd_same, rfl, rfl, (fun i d h => nomatch h), (fun d hd => absurd hd List.not_mem_nil), by omega, S1.new nL, O1.new nL⟩ ?_ ?_
    · rintro j H5 hj ⟨xs, ss, t', hL, lx, ls, at_, small, ht', S5, O5⟩
      refine ⟨rfl, ?_⟩
      walk_at "rd"
      refine ⟨a, c, t', most, rfl, S5, m1, m2, by omega, fun p o s m H6 t6 hp b1 b2 b3 b4 md ht6 S6 O6 => ?_⟩
      have hL6 := O6 _ _ hL La Lc
      refine ⟨_, hL6, (by rw [lx]; exact Nat.lt_of_lt_of_le (by omega : j < 100) (by decide)), xs ++ [.ref p], ss ++ [⟨o, s, m⟩], t6, upd_same, by rw [List.length_append, lx]; rfl, by rw [List.length_append, ls]; rfl, ?_, ?_, by omega, ?_, ?_⟩
      · intro i d hd
        rcases Nat.lt_or_ge i ss.length with z | z
        · rw [List.getElem?_append_left z] at hd
          obtain ⟨p2, e1, hp2, sp⟩ := at_ i d hd
          obtain ⟨z1, z2⟩ := S5.nt hp2
          have hp6 := O6 _ _ hp2 z1 z2
          exact ⟨p2, by rw [List.getElem?_append_left (by omega)]; exact e1, (upd_ne (ne_of hp6 hL6 (by intro y; cases y))).trans hp6, sp⟩
        · rw [List.getElem?_append_right z] at hd
          have e0 : i - ss.length = 0 := by
            have := (List.getElem?_eq_some_iff.mp hd).1
            simp at this
            omega
          rw [e0] at hd
          have ed : d = ⟨o, s, m⟩ := by simpa using hd.symm
          subst ed
          exact ⟨p, by rw [List.getElem?_append_right (by omega), show i - xs.length = 0 by omega]; rfl, (upd_ne (ne_of hp hL6 (by intro y; cases y))).trans hp, ⟨by show -(10 : Int) ^ 40 ≤ o; omega, by show o ≤ (10 : Int) ^ 40; omega, b3, by show s ≤ (10 : Int) ^ 30; omega, md⟩⟩
      · intro d hd
        rcases List.mem_append.mp hd with h | h
        · exact small d h
        · rw [List.mem_singleton.mp h]; exact ⟨b1, b2, b4⟩
      · obtain ⟨cs, hcs, hl2⟩ := S6.cl
        exact ⟨S6.ne, (upd_ne La.symm).trans S6.ob, cs, (upd_ne Lc.symm).trans hcs, hl2⟩
      · intro b u z na nc
        have z5 := O5 b u z na nc
        have z6 := O6 b u z5 na nc
        exact (upd_ne (ne_of_none (O1 b u z na nc) nL)).trans z6
    · rintro H5 ⟨xs, ss, t', hL, lx, ls, at_, small, ht', S5, O5⟩
      exact q L xs ss H5 t' ⟨hL, by omega, by omega, by omega, at_⟩ small La Lc (by omega) S5 O5
end
end HT
namespace HT
open PySem L2
def nV (k : Nat) : V := .int (k : Int)
structure AmG (mg : Str → Option Value) : Prop where
  isi : mg "isinstance" = none
  list : mg "list" = none
  len : mg "len" = none
  ms : ∃ t, mg "MOST_SIDES" = some (.int 4 t)
  mp : ∃ t, mg "MOST_PERIOD" = some (.int 100000 t)
  lcm : mg "lcm" = some (.builtin "math.lcm")
  sorted : mg "sorted" = none
def spIsSide : Sp := fun vs H Q _ => ∃ (p : Addr) (o s : Int) (m : Str), vs = [.ref p] ∧ H p = some (sideV o s m) ∧ SideP o s m ∧ Q (.bl true) H
def spSides : Sp := fun vs H Q _ => ∃ (l : Addr) (xs : List V) (ss : List Sd), vs = [.ref l] ∧ SidesAt H l xs ss ∧ Q .non H
def spPerOf : Sp := fun vs H Q _ => ∃ (p : Addr) (o s : Int) (m : Str), vs = [.ref p] ∧ H p = some (sideV o s m) ∧ SideP o s m ∧ Q (.int (perM s m)) H
def spNums : Sp := fun vs H Q _ => ∃ (kl : Addr) (ks : List Nat) (n : Nat), vs = [.ref kl, .int (n : Int)] ∧ H kl = some (.lst (ks.map nV)) ∧ ks.length ≤ 1000 ∧ (∀ k ∈ ks, k < n) ∧ Q .non H
/-- one hand-over more -/
def stepW (ss : List Sd) (a : List Int × Int) (k : Nat) : List Int × Int :=
  match ss[k]? with
  | some d => (a.1 ++ [dueM d.o d.s d.m a.2], dueM d.o d.s d.m a.2)
  | none => (a.1 ++ [a.2], a.2)
def walkW (ss : List Sd) (ks : List Nat) (v : Int) : List Int × Int := ks.foldl (stepW ss) ([], v)
theorem walk_snoc {ss : List Sd} {ks : List Nat} {v : Int} {i k : Nat} (h : ks[i]? = some k) : walkW ss (ks.take (i + 1)) v = stepW ss (walkW ss (ks.take i) v) k := by
  unfold walkW
  rw [List.take_succ, h, List.foldl_append]
  rfl
theorem due_far {o s v b : Int} {m : Str} (S : SideP o s m) (h : -b < v ∧ v < b) : -(b + 10 ^ 30) < dueM o s m v ∧ dueM o s m v < b + 10 ^ 30 := by
  have h1 := due_near (o := o) (v := v) S.md S.s0
  have h2 := S.s1
  omega
def spAlong : Sp := fun vs H Q _ => ∃ (l : Addr) (xs : List V) (ss : List Sd) (kl : Addr) (ks : List Nat) (v : Int), vs = [.ref l, .ref kl, .int v] ∧ SidesAt H l xs ss ∧ H kl = some (.lst (ks.map nV)) ∧ ks.length ≤ 1000 ∧ (∀ k ∈ ks, k < ss.length) ∧ (-2 ^ 200 < v ∧ v < 2 ^ 200) ∧
  ∀ (d : Addr) (H' : Hp), H d = none → Same H H' → H' d = some (.lst ((walkW ss ks v).1.map V.int)) → Q (.ref d) H'
section
variable {P : Program} {w : World} {K : PySem.W.Frag} {mg : Str → Option Value} {base : Heap} {aM c0 fC fB fV fN fW fS : Addr} {dC dB dV dN dW dS : FuncData}
theorem ok_is_side {f : Addr} {fd : FuncData} (F : Fun K "is_side" "is_side" s_is_side f fd) (g0 : mg "InvalidSide" = some (.ref c0)) (Ck : Cal P w K mg base "check_side" 3 ["side"] spCheckSide fC dC) : FnOk P w K mg base CX0 4 f fd ["thing"] spIsSide := by
  refine F.ok sc_is_side (fun vs H Q E h => ?_) (fun cdv A outer s0 H vs Q E hr h => ?_)
  · obtain ⟨p, o, s, m, rfl, _⟩ := h
    rfl
  · obtain ⟨p, o, s, m, rfl, hp, S, q⟩ := h
    refine ⟨_, pss_cons (ps_try_only rfl rfl ⟨rfl, by decide, .inl g0⟩ takes0 (fun W pn xe tk _ => pss_one (ps_expr (pcl Ck hr (by decide) (by rfl) (pa_cons (pv 0) pa_nil)))) (fun a oe cls d pn _ _ => pss_one (ps_ret pe_bl))) (pss_one (ps_ret pe_bl)), ?_⟩
    walk_at "rd"
    refine ⟨p, o, s, m, rfl, hp, S, ?_⟩
    walk_at "rd"
    exact q
theorem ok_sides {f : Addr} {fd : FuncData} (F : Fun K "check_sides" "check_sides" s_check_sides f fd) (A' : AmG mg) (Ck : Cal P w K mg base "is_side" 4 ["thing"] spIsSide fC dC) : FnOk P w K mg base CX0 5 f fd ["sides"] spSides := by
  refine F.ok sc_check_sides (fun vs H Q E h => ?_) (fun cdv A outer s0 H vs Q E hr h => ?_)
  · obtain ⟨l, xs, ss, rfl, _⟩ := h
    rfl
  · obtain ⟨l, xs, ss, rfl, SS, q⟩ := h
    have nd := sc_check_sides.nd
    obtain ⟨tms, hms⟩ := A'.ms
    refine ⟨_, pss_cons (ps_if (PW.pt (pw_or (pt_not (pt_val (pe_callB call_isi (by rfl) A'.isi (by decide +kernel) (pa_cons (pv 0) (pa_cons (pe_bltn (v := .ty "list") (by rfl) A'.list (by decide +kernel) rfl) pa_nil)))))
        (pw_or1 (pt_not (pt_chain op_le op_le pe_int (pe_callB call_len_seq (by rfl) A'.len PySem.boot_len (pa_cons (pv 0) pa_nil)) (pe_glob (v := .int 4) (by rfl) hms ⟨_, rfl⟩)))))) (pss_one ps_never) pss_nil)
      (pss_one (ps_for PassesOwn.never rfl (pi_list (pv 0)) (pg_name (i := 1) nd rfl (Or.inl rfl))
        (pss_one (ps_if (pt_not (pt_val (pcl Ck hr (by decide) (by rfl) (pa_cons (pv 1) pa_nil)))) (pss_one ps_never) pss_nil)))), ?_⟩
    walk_at "rd"
    refine ⟨_, _, _, _, _, rfl, .ty "list", .base (.lst SS.hl), kit_ty (r := true) (by decide +kernel), ?_⟩
    walk_at "rd"
    refine ⟨l, _, rfl, .inl (SqL.of SS.hl), ?_⟩
    have l1 := SS.l1
    have l4 := SS.l4
    have ln := SS.len
    walk_at "rd"
    refine ite2 (fun _ => ?_) (fun z => absurd (decide_eq_true (by omega)) z)
    walk_at "rd"
    refine ite2 (fun z => ?_) (fun _ => ?_)
    · exfalso
      have e : decide ((xs.length : Int) ≤ 4) = true := decide_eq_true (by omega)
      exact not_t z e
    walk_at "rd"
    refine ⟨⟨_, SqL.of SS.hl⟩, ?_⟩
    refine for_list (K := K) (a := l) (xs := xs) (fun i σ H' => ∃ y : Option V, σ = [some (.ref l), y] ∧ H' = H) ⟨none, rfl, rfl⟩ (fun _ _ _ _ ⟨_, _, e⟩ => e ▸ SqL.of SS.hl) ?_ ?_
    · rintro i y σ H' hy ⟨z, rfl, rfl⟩
      obtain ⟨d, p, ed, rfl, hp, sp⟩ := SS.item hy
      walk_at "rd"
      refine ⟨p, d.o, d.s, d.m, rfl, hp, sp, _, rfl, ?_⟩
      refine ite2 (fun z => (not_t z rfl).elim) (fun _ => ?_)
      exact ⟨_, rfl, rfl⟩
    · rintro σ H' ⟨z, rfl, rfl⟩
      exact q
theorem ok_per {f : Addr} {fd : FuncData} (F : Fun K "period_of" "period_of" s_period_of f fd) : FnOk P w K mg base CX0 1 f fd ["side"] spPerOf := by
  refine F.ok sc_period_of (fun vs H Q E h => ?_) (fun cdv A outer s0 H vs Q E hr h => ?_)
  · obtain ⟨p, o, s, m, rfl, _⟩ := h
    rfl
  · obtain ⟨p, o, s, m, rfl, hp, S, q⟩ := h
    have nd := sc_period_of.nd
    refine ⟨_, (pss_cons (ps_asg (pv 0) (pg_tup (by rfl) (pgs_cons (pg_name (i := 1) nd rfl (Or.inl rfl)) (pgs_cons (pg_name (i := 2) nd rfl (Or.inl rfl)) (pgs_cons (pg_name (i := 3) nd rfl (Or.inl rfl)) pgs_nil)))))
      (pss_cons (ps_if (pt_cmpR op_eq (pv 3) pe_str (nomark _)) (pss_one (ps_ret (pe_op op_mul pe_int (pv 2)))) pss_nil)
      (pss_one (ps_ret (pv 2))))), ?_⟩
    walk_at "rd"
    refine ⟨p, _, rfl, SqT.of hp, rfl, _, _, rfl, _, _, rfl, _, _, rfl, rfl, ?_⟩
    walk_at "rd"
    refine ⟨rfl, ?_⟩
    walk_at "rd"
    unfold perM at q
    refine ite2 (fun h => ?_) (fun h => ?_)
    · rw [if_pos (str_t h)] at q
      walk_at "rd"
      refine ⟨.inl ⟨by decide, by decide⟩, ?_⟩
      exact q
    · rw [if_neg (str_f h)] at q
      walk_at "rd"
      exact q
end
end HT
namespace HT
open PySem L2
theorem log_lt {n k : Nat} (h : n < 2 ^ (k + 1)) : n.log2 ≤ k := by
  by_cases h0 : n = 0
  · subst h0
    rw [Nat.log2_zero]
    exact Nat.zero_le _
  · exact Nat.le_of_lt_succ ((Nat.log2_lt h0).mpr h)
theorem lcm_lt {a b i j : Nat} (ha : a < 2 ^ i) (hb : b < 2 ^ j) : a.lcm b < 2 ^ (i + j) := by
  rw [Nat.pow_add]
  exact Nat.lt_of_le_of_lt (PySem.W.mc_lcm_le a b) (Nat.mul_lt_mul'' ha hb)
def rLcm2 : List V → Hp → VK → Prop := fun vs H Q => ∃ a b : Int, vs = [.int a, .int b] ∧ a.natAbs < 2 ^ 2000 ∧ b.natAbs < 2 ^ 2000 ∧ Q (.int (((a.natAbs.lcm b.natAbs : Nat) : Int))) H
theorem cr_lcm2 {X : Cx} : CallR X (.builtin "math.lcm") rLcm2 := by
  intro pins s σ H vs us Q I r h
  obtain ⟨a, b, rfl, ha, hb, q⟩ := h
  obtain ⟨u1, u2, rfl, r1, r2⟩ := vals2 r
  obtain ⟨t, rfl⟩ := r1
  obtain ⟨u, rfl⟩ := r2
  have hab := lcm_lt ha hb
  have e1 : Nat.lcm 1 a.natAbs = a.natAbs := PySem.W.mc_lcm_one _
  have two : ∀ {k : Nat}, 1 < 2 ^ (k + 1) := fun {k} => Nat.one_lt_two_pow (by omega)
  have g := PySem.W.mg_run_lcm a t b u
    (by have := log_lt (n := max 1 a.natAbs) (k := 1999) (Nat.max_lt.mpr ⟨two, ha⟩); omega)
    (by have := log_lt (n := max a.natAbs b.natAbs) (k := 1999) (Nat.max_lt.mpr ⟨ha, hb⟩); omega)
    (by rw [e1]; exact PySem.W.mc_size (k := 100) (Nat.le_trans (Nat.le_of_lt hab) (Nat.pow_le_pow_right (by decide) (by decide))) (by decide))
  rw [e1] at g
  exact PySem.call_function_meets PySem.W.MGF.kind_lcm PySem.W.MGF.plain_lcm PySem.W.MGF.entry_lcm (PySem.W.MGF.args_lcm _ _) g.meets ⟨.int _, H, I.tok _, ⟨_, rfl⟩, q⟩
section
variable {P : Program} {w : World} {K : PySem.W.Frag} {mg : Str → Option Value} {base : Heap} {aM c0 fC fB fV fN fW fS : Addr} {dC dB dV dN dW dS : FuncData}
theorem ok_common {f : Addr} {fd : FuncData} (F : Fun K "common_period" "common_period" s_common_period f fd) (A' : AmG mg) (Pe : Cal P w K mg base "period_of" 1 ["side"] spPerOf fC dC) : FnOk P w K mg base CX0 2 f fd ["sides"] spPer := by
  refine F.ok sc_common_period (fun vs H Q E h => ?_) (fun cdv A outer s0 H vs Q E hr h => ?_)
  · obtain ⟨l, xs, ss, rfl, _⟩ := h
    rfl
  · obtain ⟨l, xs, ss, rfl, SS, q⟩ := h
    have nd := sc_common_period.nd
    refine ⟨_, pss_cons (ps_set (i := 1) nd rfl (Or.inl rfl) pe_int)
      (pss_cons (ps_for PassesOwn.never rfl (pi_list (pv 0)) (pg_name (i := 2) nd rfl (Or.inl rfl)) (pss_one (ps_set (i := 1) nd rfl (Or.inl rfl) (pe_callBfun cr_lcm2 (by rfl) A'.lcm (pa_cons (pv 1) (pa_cons (pcl Pe hr (by decide) (by rfl) (pa_cons (pv 2) pa_nil)) pa_nil))))))
      (pss_one (ps_ret (pv 1)))), ?_⟩
    walk_at "rd"
    refine ⟨⟨_, SqL.of SS.hl⟩, ?_⟩
    refine for_list (K := K) (a := l) (xs := xs) (fun i st H' => ∃ x2 : Option V, st = [some (.ref l), some (.int (comN (ss.take i) : Int)), x2] ∧ H' = H) ⟨none, rfl, rfl⟩ (fun _ _ _ _ ⟨_, _, e⟩ => e ▸ SqL.of SS.hl) ?_ ?_
    · rintro i y st H' hy ⟨x2, rfl, rfl⟩
      obtain ⟨d, p, ed, rfl, hp, sp⟩ := SS.item hy
      walk_at "rd"
      refine ⟨p, d.o, d.s, d.m, rfl, hp, sp, ?_⟩
      have pb := perM_bd sp
      have cl := com_take SS.side SS.l4 i
      have big : (2 : Nat) ^ 420 < 2 ^ 2000 := Nat.pow_lt_pow_right (by decide) (by decide)
      have big2 : (2 : Nat) ^ 120 < 2 ^ 2000 := Nat.pow_lt_pow_right (by decide) (by decide)
      have e2 : (perM d.s d.m).natAbs = perN d := by unfold perN; omega
      refine ⟨_, _, rfl, ?_, ?_, ?_⟩
      · rw [Int.natAbs_natCast]; omega
      · rw [e2]; unfold perN; omega
      · rw [Int.natAbs_natCast, e2, ← com_snoc ed]
        exact ⟨_, rfl, rfl⟩
    · rintro st H' ⟨x2, rfl, rfl⟩
      rw [SS.len, List.take_length]
      walk_at "rd"
      exact q
end
end HT
namespace HT
/-- k steps come to a place between two -/
def Hit (step least greatest M : Int) (k : Nat) : Prop := least ≤ (step * (k : Int)) % M ∧ (step * (k : Int)) % M ≤ greatest
/-- the least number with a property, or none -/
def Least (Pr : Nat → Prop) : Option Nat → Prop
  | some k => Pr k ∧ ∀ j, j < k → ¬ Pr j
  | none => ∀ k, ¬ Pr k
theorem least_uniq {Pr : Nat → Prop} {a b : Option Nat} (ha : Least Pr a) (hb : Least Pr b) : a = b := by
  cases a with
  | none =>
    cases b with
    | none => rfl
    | some k => exact absurd hb.1 (ha k)
  | some j =>
    cases b with
    | none => exact absurd ha.1 (hb j)
    | some k =>
      rcases Nat.lt_trichotomy j k with h | h | h
      · exact absurd ha.1 (hb.2 j h)
      · rw [h]
      · exact absurd hb.1 (ha.2 k h)
theorem least_congr {A B : Nat → Prop} (h : ∀ k, A k ↔ B k) {r : Option Nat} (l : Least A r) : Least B r := by
  cases r with
  | none => exact fun k z => l k ((h k).mpr z)
  | some k => exact ⟨(h k).mp l.1, fun j hj z => l.2 j hj ((h j).mpr z)⟩
/-- seen from the other side -/
theorem hit_flip {step least greatest M : Int} (hM : 0 < M) (h0 : 0 < least) (h1 : greatest < M) (k : Nat) : Hit (M - step) (M - greatest) (M - least) M k ↔ Hit step least greatest M k := by
  have e : ((M - step) * (k : Int)) % M = (-(step * (k : Int))) % M := by
    rw [Int.sub_mul, show M * (k : Int) - step * (k : Int) = -(step * (k : Int)) + M * (k : Int) by omega, Int.add_mul_emod_self_left]
  unfold Hit
  rw [e]
  generalize step * (k : Int) = x
  have a := Int.emod_nonneg x (by omega : M ≠ 0)
  have b := Int.emod_lt_of_pos x hM
  have c := Int.emod_nonneg (-x) (by omega : M ≠ 0)
  have d := Int.emod_lt_of_pos (-x) hM
  have e1 := Int.emod_add_mul_ediv x M
  have e2 := Int.emod_add_mul_ediv (-x) M
  -- x % M + (-x) % M is 0 or M
  have s : (x % M + (-x) % M) % M = 0 := by
    rw [← Int.add_emod]
    rw [show x + -x = 0 by omega]
    exact Int.zero_emod M
  have s2 : x % M + (-x) % M = 0 ∨ x % M + (-x) % M = M := by
    have f := Int.emod_add_mul_ediv (x % M + (-x) % M) M
    rw [s] at f
    have g1 : (x % M + (-x) % M) / M = 0 ∨ (x % M + (-x) % M) / M = 1 := by
      have h1 : 0 ≤ (x % M + (-x) % M) / M := Int.ediv_nonneg (by omega) (by omega)
      have h2 : (x % M + (-x) % M) / M < 2 := Int.ediv_lt_of_lt_mul hM (by omega)
      omega
    rcases g1 with g | g
    · rw [g] at f; left; omega
    · rw [g] at f; right; omega
  constructor
  · rintro ⟨p, q⟩
    omega
  · rintro ⟨p, q⟩
    omega
def ceilD (a s : Int) : Int := -((-a) / s)
theorem ceilD_spec {a s : Int} (hs : 0 < s) : a ≤ s * ceilD a s ∧ s * (ceilD a s - 1) < a := by
  unfold ceilD
  have e := Int.emod_add_mul_ediv (-a) s
  have a0 := Int.emod_nonneg (-a) (by omega : s ≠ 0)
  have a1 := Int.emod_lt_of_pos (-a) hs
  generalize (-a) / s = t at e
  have m1 : s * (-t) = -(s * t) := Int.mul_neg s t
  have m2 : s * (-t - 1) = -(s * t) - s := by rw [Int.mul_sub, m1, Int.mul_one]
  rw [m1, m2]
  omega
end HT
namespace HT
theorem mod_small {x M : Int} (h0 : 0 ≤ x) (h1 : x < M) : x % M = x := Int.emod_eq_of_lt h0 h1
theorem divmod_eq' {s q r x : Int} (hs : 0 < s) (h : x = s * q + r) (r0 : 0 ≤ r) (r1 : r < s) : x / s = q ∧ x % s = r := by
  subst h
  constructor
  · rw [Int.add_comm, Int.add_mul_ediv_left _ _ (by omega : s ≠ 0), Int.ediv_eq_zero_of_lt r0 r1, Int.zero_add]
  · rw [Int.add_comm, Int.add_mul_emod_self_left, Int.emod_eq_of_lt r0 r1]
theorem hit_zero {least greatest M : Int} (h0 : 0 < least) (k : Nat) : ¬ Hit 0 least greatest M k := by
  rintro ⟨a, _⟩
  rw [Int.zero_mul, Int.zero_emod] at a
  omega
theorem ceil_le {a s k : Int} (hs : 0 < s) (h : a ≤ s * k) : ceilD a s ≤ k := by
  have c := (ceilD_spec (a := a) hs).2
  refine Decidable.byContradiction fun z => ?_
  have h2 : s * k ≤ s * (ceilD a s - 1) := Int.mul_le_mul_of_nonneg_left (by omega) (by omega)
  omega
theorem ceil_pos {a s : Int} (hs : 0 < s) (ha : 0 < a) : 0 < ceilD a s := by
  have c := (ceilD_spec (a := a) hs).1
  refine Decidable.byContradiction fun z => ?_
  have h2 : s * ceilD a s ≤ s * 0 := Int.mul_le_mul_of_nonneg_left (by omega) (by omega)
  omega
/-- the first round reaches a place -/
theorem hit_direct {s l g M : Int} (hs : 0 < s) (h0 : 0 < l) (h1 : g < M) (h : s * ceilD l s ≤ g) : Least (Hit s l g M) (some (ceilD l s).toNat) := by
  have c := ceilD_spec (a := l) hs
  have cp := ceil_pos hs h0
  have e : (((ceilD l s).toNat : Nat) : Int) = ceilD l s := Int.toNat_of_nonneg (by omega)
  refine ⟨?_, fun j hj => ?_⟩
  · unfold Hit
    rw [e, mod_small (by omega) (by omega)]
    exact ⟨c.1, h⟩
  · rintro ⟨a, b⟩
    have hj' : (j : Int) ≤ ceilD l s - 1 := by omega
    have h2 : s * (j : Int) ≤ s * (ceilD l s - 1) := Int.mul_le_mul_of_nonneg_left hj' (by omega)
    have h3 : 0 ≤ s * (j : Int) := Int.mul_nonneg (by omega) (by omega)
    rw [mod_small h3 (by omega)] at a
    omega
/-- both ends lie in one cell -/
theorem one_cell {s l g : Int} (hs : 0 < s) (h : g < s * ceilD l s) (hl : l ≤ g) : l / s = g / s ∧ 0 < l % s ∧ l % s ≤ g % s := by
  have c := ceilD_spec (a := l) hs
  generalize ceilD l s = t at c h
  have e1 : s * (t - 1) = s * t - s := by rw [Int.mul_sub, Int.mul_one]
  have q1 : l / s = t - 1 := by
    refine (divmod_eq' hs (q := t - 1) (r := l - s * (t - 1)) (by omega) (by omega) (by omega)).1
  have q2 : g / s = t - 1 := by
    refine (divmod_eq' hs (q := t - 1) (r := g - s * (t - 1)) (by omega) (by omega) (by omega)).1
  have m1 := Int.emod_add_mul_ediv l s
  have m2 := Int.emod_add_mul_ediv g s
  rw [q1] at m1
  rw [q2] at m2
  exact ⟨by rw [q1, q2], by omega, by omega⟩
end HT
namespace HT
theorem hit_round {s l g M : Int} (hM : 0 < M) (hs : 0 ≤ s) (h0 : 0 < l) (h1 : g < M) (k : Nat) : Hit s l g M k ↔ ∃ n : Nat, l + M * (n : Int) ≤ s * (k : Int) ∧ s * (k : Int) ≤ g + M * (n : Int) := by
  have p : 0 ≤ s * (k : Int) := Int.mul_nonneg hs (by omega)
  unfold Hit
  generalize s * (k : Int) = x at p
  have e := Int.emod_add_mul_ediv x M
  have q0 : 0 ≤ x / M := Int.ediv_nonneg p (by omega)
  constructor
  · rintro ⟨a, b⟩
    refine ⟨(x / M).toNat, ?_, ?_⟩ <;> rw [Int.toNat_of_nonneg q0] <;> omega
  · rintro ⟨n, a, b⟩
    have d := (divmod_eq' hM (q := (n : Int)) (r := x - M * (n : Int)) (x := x) (by omega) (by omega) (by omega)).2
    rw [d]
    omega
theorem hit_cell {s l g M : Int} (hs : 0 < s) (hl : l ≤ g) (h : g < s * ceilD l s) (n : Nat) : Hit ((-M) % s) (l % s) (g % s) s n ↔ ∃ k : Int, l + M * (n : Int) ≤ s * k ∧ s * k ≤ g + M * (n : Int) := by
  obtain ⟨c1, c2, c3⟩ := one_cell hs h hl
  have el := Int.emod_add_mul_ediv l s
  have eg := Int.emod_add_mul_ediv g s
  rw [← c1] at eg
  have e : (((-M) % s) * (n : Int)) % s = (-(M * (n : Int))) % s := by
    rw [Int.mul_emod, Int.emod_emod, ← Int.mul_emod, Int.neg_mul]
  unfold Hit
  rw [e]
  generalize M * (n : Int) = y
  have ew := Int.emod_add_mul_ediv (-y) s
  have w0 := Int.emod_nonneg (-y) (by omega : s ≠ 0)
  have w1 := Int.emod_lt_of_pos (-y) hs
  have lm := Int.emod_lt_of_pos g hs
  have ll := Int.emod_nonneg l (by omega : s ≠ 0)
  constructor
  · rintro ⟨a, b⟩
    refine ⟨l / s - (-y) / s, ?_, ?_⟩ <;> rw [Int.mul_sub] <;> omega
  · rintro ⟨k, a, b⟩
    -- s k - y lies in the cell of l
    have d := divmod_eq' hs (q := l / s) (r := s * k - y - s * (l / s)) (x := s * k - y) (by omega) (by omega) (by omega)
    have f : (s * k - y) % s = (-y) % s := by
      rw [show s * k - y = -y + s * k by omega, Int.add_mul_emod_self_left]
    rw [f] at d
    omega
theorem mono_mul {M : Int} (hM : 0 < M) {a b : Nat} (h : a ≤ b) : M * (a : Int) ≤ M * (b : Int) := Int.mul_le_mul_of_nonneg_left (by omega) (by omega)
/-- behind the rounds that leap over the places -/
theorem hit_rec {s l g M : Int} (hs : 0 < s) (hM : 0 < M) (h0 : 0 < l) (hl : l ≤ g) (h1 : g < M) (h : g < s * ceilD l s) {r : Option Nat} (L : Least (Hit ((-M) % s) (l % s) (g % s) s) r) :
    Least (Hit s l g M) (r.map fun n => (ceilD (l + M * (n : Int)) s).toNat) := by
  cases r with
  | none =>
    intro k hk
    obtain ⟨n, a, b⟩ := (hit_round hM (by omega) h0 h1 k).mp hk
    exact L n ((hit_cell hs hl h n).mpr ⟨k, a, b⟩)
  | some n =>
    obtain ⟨L1, L2⟩ := L
    obtain ⟨k, a, b⟩ := (hit_cell hs hl h n).mp L1
    have nn : 0 ≤ M * (n : Int) := Int.mul_nonneg (by omega) (by omega)
    have cs := ceilD_spec (a := l + M * (n : Int)) hs
    have cp := ceil_pos hs (show 0 < l + M * (n : Int) by omega)
    have ck := ceil_le hs a
    have e : ((((ceilD (l + M * (n : Int)) s).toNat) : Nat) : Int) = ceilD (l + M * (n : Int)) s := Int.toNat_of_nonneg (by omega)
    refine ⟨?_, fun j hj hit => ?_⟩
    · refine (hit_round hM (by omega) h0 h1 _).mpr ⟨n, ?_, ?_⟩
      · rw [e]; exact cs.1
      · rw [e]
        have : s * ceilD (l + M * (n : Int)) s ≤ s * k := Int.mul_le_mul_of_nonneg_left ck (by omega)
        omega
    · obtain ⟨n2, a2, b2⟩ := (hit_round hM (by omega) h0 h1 j).mp hit
      have nle : n ≤ n2 := Decidable.byContradiction fun z => L2 n2 (by omega) ((hit_cell hs hl h n2).mpr ⟨j, a2, b2⟩)
      have m := mono_mul hM nle
      have := ceil_le hs (show l + M * (n : Int) ≤ s * (j : Int) by omega)
      have hj' : j < (ceilD (l + M * (n : Int)) s).toNat := hj
      omega
/-- the places from start on by their remainder -/
def HitS (start step most M : Int) (k : Nat) : Prop := (start + step * (k : Int)) % M ≤ most
theorem hits_iff {start step most M : Int} (hM : 0 < M) (h0 : 0 ≤ most) (hl : 0 < (-start) % M) (h1 : (-start) % M + most < M) (k : Nat) : HitS start step most M k ↔ Hit (step % M) ((-start) % M) ((-start) % M + most) M k := by
  have e : ((step % M) * (k : Int)) % M = (step * (k : Int)) % M := by
    rw [Int.mul_emod, Int.emod_emod, ← Int.mul_emod]
  unfold HitS Hit
  rw [e]
  generalize step * (k : Int) = x
  have l1 := Int.emod_lt_of_pos (-start) hM
  generalize el : (-start) % M = l at hl h1 l1
  have es : ∃ t, start = -l + M * t := by
    have := Int.emod_add_mul_ediv (-start) M
    rw [el] at this
    exact ⟨-((-start) / M), by rw [Int.mul_neg]; omega⟩
  obtain ⟨t, rfl⟩ := es
  have e2 : (-l + M * t + x) % M = (x - l) % M := by
    rw [show -l + M * t + x = x - l + M * t by omega, Int.add_mul_emod_self_left]
  rw [e2]
  have ex := Int.emod_add_mul_ediv x M
  have x0 := Int.emod_nonneg x (by omega : M ≠ 0)
  have x1 := Int.emod_lt_of_pos x hM
  generalize x % M = r at ex x0 x1
  generalize x / M = qq at ex
  by_cases c : l ≤ r
  · have d := (divmod_eq' hM (q := qq) (r := r - l) (x := x - l) (by omega) (by omega) (by omega)).2
    rw [d]
    omega
  · have d := (divmod_eq' hM (q := qq - 1) (r := r - l + M) (x := x - l) (by rw [Int.mul_sub, Int.mul_one]; omega) (by omega) (by omega)).2
    rw [d]
    omega
theorem hits_zero {start step most M : Int} (hM : 0 < M) (h0 : 0 ≤ most) (h : (-start) % M = 0 ∨ M ≤ (-start) % M + most) : Least (HitS start step most M) (some 0) := by
  refine ⟨?_, fun j hj => absurd hj (Nat.not_lt_zero _)⟩
  unfold HitS
  rw [show start + step * ((0 : Nat) : Int) = start by omega]
  have e := Int.emod_add_mul_ediv (-start) M
  have l0 := Int.emod_nonneg (-start) (by omega : M ≠ 0)
  have l1 := Int.emod_lt_of_pos (-start) hM
  generalize (-start) / M = t at e
  generalize (-start) % M = l at e l0 l1 h
  by_cases c : l = 0
  · have d := (divmod_eq' hM (q := -t) (r := 0) (x := start) (by rw [Int.mul_neg]; omega) (by omega) (by omega)).2
    rw [d]
    exact h0
  · have d := (divmod_eq' hM (q := -t - 1) (r := M - l) (x := start) (by rw [Int.mul_sub, Int.mul_neg, Int.mul_one]; omega) (by omega) (by omega)).2
    rw [d]
    omega
end HT
namespace HT
open PySem L2
def oN : Option Nat → V
  | none => .non
  | some k => .int (k : Int)
def spFB (n : Nat) : Sp := fun vs H Q _ => ∃ s l g M : Int, vs = [.int s, .int l, .int g, .int M] ∧ 0 ≤ s ∧ s < M ∧ 0 < l ∧ l ≤ g ∧ g < M ∧ M < 2 ^ n ∧ ∀ r, Least (Hit s l g M) r → Q (oN r) H
theorem hit_lt {s l g M : Int} (hM : 0 < M) {k : Nat} (h : Least (Hit s l g M) (some k)) : (k : Int) < M := by
  by_cases e : (k : Int) < M
  · exact e
  · exfalso
    obtain ⟨⟨a, b⟩, c⟩ := h
    refine c (k - M.toNat) (by omega) ?_
    have e2 : s * ((k - M.toNat : Nat) : Int) = s * (k : Int) - M * s := by
      rw [show ((k - M.toNat : Nat) : Int) = (k : Int) - M by omega, Int.mul_sub, Int.mul_comm M s]
    unfold Hit
    rw [e2, Int.sub_mul_emod_self_left]
    exact ⟨a, b⟩
section
variable {P : Program} {w : World} {K : PySem.W.Frag} {mg : Str → Option Value} {base : Heap} {fC : Addr} {dC : FuncData}
theorem ok_fb0 {f : Addr} {fd : FuncData} (F : Fun K "_first_between" "_first_between" s_first_between f fd) : FnOk P w K mg base CX0 1 f fd ["step", "least", "greatest", "modulus"] (spFB 0) := by
  refine F.ok sc_first_between (fun vs H Q E h => ?_) (fun cdv A outer s0 H vs Q E hr h => ?_)
  · obtain ⟨s, l, g, M, rfl, _⟩ := h
    rfl
  · exfalso
    obtain ⟨s, l, g, M, rfl, s0, s1, l0, lg, g1, M1, q⟩ := h
    rw [Int.pow_zero] at M1
    omega
theorem ok_fbS {f : Addr} {fd : FuncData} {n : Nat} (F : Fun K "_first_between" "_first_between" s_first_between f fd) (hn : n ≤ 200) (Se : Cal P w K mg base "_first_between" (n + 1) ["step", "least", "greatest", "modulus"] (spFB n) f fd) : FnOk P w K mg base CX0 (n + 2) f fd ["step", "least", "greatest", "modulus"] (spFB (n + 1)) := by
  refine F.ok sc_first_between (fun vs H Q E h => ?_) (fun cdv A outer s0 H vs Q E hr h => ?_)
  · obtain ⟨s, l, g, M, rfl, _⟩ := h
    rfl
  · obtain ⟨s, l, g, M, rfl, s0, s1, l0, lg, g1, M1, q⟩ := h
    have nd := sc_first_between.nd
    refine ⟨_, (pss_cons (ps_if (pt_cmpR op_eq (pv 0) pe_int (nomark _)) (pss_one (ps_ret pe_non)) pss_nil)
      (pss_cons (ps_if (pt_cmpR op_gt (pe_op op_mul pe_int (pv 0)) (pv 3) (nomark _)) (pss_one (ps_par3 (i := 0) (j := 1) (l := 2) (by rfl) nd rfl rfl rfl (by decide) (by decide) (by decide) rfl rfl rfl (pa_cons (pe_op op_sub (pv 3) (pv 0)) (pa_cons (pe_op op_sub (pv 3) (pv 2)) (pa_cons (pe_op op_sub (pv 3) (pv 1)) pa_nil))) (by rfl))) pss_nil)
      (pss_cons (ps_set (i := 4) nd rfl (Or.inl rfl) (pe_un un_neg (pe_op op_fdivW (pe_un un_neg (pv 1)) (pv 0))))
      (pss_cons (ps_if (pt_cmpR op_le (pe_op op_mulW (pv 0) (pv 4)) (pv 2) (nomark _)) (pss_one (ps_ret (pv 4))) pss_nil)
      (pss_cons (ps_set (i := 5) nd rfl (Or.inl rfl) (pcl Se hr (Nat.le_refl _) (by rfl) (pa_cons (pe_op op_mod (pe_un un_neg (pv 3)) (pv 0)) (pa_cons (pe_op op_mod (pv 1) (pv 0)) (pa_cons (pe_op op_mod (pv 2) (pv 0)) (pa_cons (pv 0) pa_nil))))))
      (pss_cons (ps_if (pt_cmpR op_isN (pv 5) pe_non (nomark _)) (pss_one (ps_ret pe_non)) pss_nil)
      (pss_one (ps_ret (pe_un un_neg (pe_op op_fdivW (pe_un un_neg (pe_op op_add (pv 1) (pe_op op_mulW (pv 3) (pv 5)))) (pv 0))))))))))), ?_⟩
    have pw : (2 : Int) ^ (n + 1) = 2 * 2 ^ n := by rw [Int.pow_succ]; omega
    have bigN : (2 : Nat) ^ (n + 1) ≤ 2 ^ 201 := Nat.pow_le_pow_right (by decide) (by omega)
    have big : (2 : Int) ^ (n + 1) ≤ 2 ^ 201 := by exact_mod_cast bigN
    have hM : 0 < M := by omega
    walk_at "rd"
    refine ⟨rfl, ?_⟩
    walk_at "rd"
    refine ite2 (fun z => ?_) (fun z => ?_)
    · have e := int_t z
      subst e
      walk_at "rd"
      exact q none fun k hk => hit_zero l0 k hk
    have sp : 0 < s := by have := int_f z; omega
    walk_at "rd"
    refine ⟨.inl ⟨by decide, by decide⟩, ?_⟩
    walk_at "rd"
    refine ite2 (fun z => ?a) (fun z => ?b)
    case' a =>
      have fl : M < 2 * s := by have := of_decide_eq_true z; omega
      walk_at "rd"
      refine ⟨_, _, _, rfl, ?_⟩
      dsimp only
      have q2 : ∀ r, Least (Hit (M - s) (M - g) (M - l) M) r → Q (oN r) H := fun r L => q r (least_congr (fun k => hit_flip hM l0 g1 k) L)
      have t1 : 0 < M - s := by omega
      have t2 : 2 * (M - s) ≤ M := by omega
      have t3 : 0 < M - g := by omega
      have t4 : M - g ≤ M - l := by omega
      have t5 : M - l < M := by omega
      generalize M - s = s' at q2 t1 t2 ⊢
      generalize M - g = l' at q2 t3 t4 ⊢
      generalize M - l = g' at q2 t4 t5 ⊢
    case' b =>
      have q2 := q
      have t1 := sp
      have t2 : 2 * s ≤ M := by
        have : ¬ M < 2 * s := fun y => z (decide_eq_true (by omega))
        omega
      have t3 := l0
      have t4 := lg
      have t5 := g1
      generalize s = s' at q2 t1 t2 ⊢
      generalize l = l' at q2 t3 t4 ⊢
      generalize g = g' at q2 t4 t5 ⊢
    all_goals
      walk_at "rd"
      refine ⟨fdiv_ok _ t1 (lg_big (by omega) (by omega)), ?_⟩
      walk_at "rd"
      have cp := ceil_pos t1 t3
      have cl : ceilD l' s' ≤ l' := ceil_le t1 (by
        have : 1 * l' ≤ s' * l' := Int.mul_le_mul_of_nonneg_right (by omega) (by omega)
        omega)
      have ec : -((-l') / s') = ceilD l' s' := rfl
      rw [ec]
      refine ⟨mulW (by omega) (by omega), ?_⟩
      walk_at "rd"
      refine ite2 (fun z => ?_) (fun z => ?_)
      · walk_at "rd"
        have y : Q (.int (((ceilD l' s').toNat : Nat) : Int)) H := q2 _ (hit_direct t1 t3 t5 (of_decide_eq_true z))
        have e2 : (((ceilD l' s').toNat : Nat) : Int) = ceilD l' s' := Int.toNat_of_nonneg (by omega)
        rw [e2] at y
        exact y
      · have hh : g' < s' * ceilD l' s' := by
          have : ¬ s' * ceilD l' s' ≤ g' := fun y => z (decide_eq_true y)
          omega
        obtain ⟨o1, o2, o3⟩ := one_cell t1 hh t4
        walk_at "rd"
        refine ⟨t1, ?_⟩
        walk_at "rd"
        refine ⟨t1, ?_⟩
        walk_at "rd"
        refine ⟨t1, ?_⟩
        walk_at "rd"
        refine ⟨(-M) % s', l' % s', g' % s', s', rfl, Int.emod_nonneg _ (by omega), Int.emod_lt_of_pos _ t1, o2, o3, Int.emod_lt_of_pos _ t1, by omega, fun r L => ?_⟩
        have L2 := hit_rec t1 hM t3 t4 t5 hh L
        walk_at "rd"
        cases r with
        | none =>
          refine ⟨rfl, ?_⟩
          walk_at "rd"
          exact q2 none L2
        | some n =>
          have nl := hit_lt t1 L
          refine ⟨rfl, ?_⟩
          walk_at "rd"
          refine ⟨mulW (by omega) (by omega), ?_⟩
          walk_at "rd"
          refine ⟨fdiv_ok _ t1 (lg_big (by omega) (by omega)), ?_⟩
          walk_at "rd"
          have y : Q (.int (((ceilD (l' + M * (n : Int)) s').toNat : Nat) : Int)) H := q2 _ L2
          have mn : 0 ≤ M * (n : Int) := Int.mul_nonneg (by omega) (by omega)
          have c2 := ceil_pos t1 (show 0 < l' + M * (n : Int) by omega)
          have e2 : (((ceilD (l' + M * (n : Int)) s').toNat : Nat) : Int) = ceilD (l' + M * (n : Int)) s' := Int.toNat_of_nonneg (by omega)
          rw [e2] at y
          exact y
theorem ok_fb {f : Addr} {fd : FuncData} (F : Fun K "_first_between" "_first_between" s_first_between f fd) (m : mg "_first_between" = some (.ref f)) (k : PySem.W.keepIn K (.ref f) = true) (b : Binds K fd ["step", "least", "greatest", "modulus"] []) : ∀ n, n ≤ 200 → FnOk P w K mg base CX0 (n + 1) f fd ["step", "least", "greatest", "modulus"] (spFB n)
  | 0, _ => ok_fb0 F
  | n + 1, h => ok_fbS F (by omega) ⟨ok_fb F m k b n (by omega), m, k, b⟩
end
end HT
namespace HT
open PySem L2
theorem due_more {o s : Int} {m : Str} {v : Int} (hm : Mode m) (hs : 1 ≤ s) (n : Nat) : dueM o s m (v + s * 2 * (n : Int)) = dueM o s m v + s * 2 * (n : Int) := by
  induction n with
  | zero => rw [show v + s * 2 * ((0 : Nat) : Int) = v by simp]; simp
  | succ n ih =>
    have e : s * 2 * ((n + 1 : Nat) : Int) = s * 2 * (n : Int) + s * 2 := by
      rw [show ((n + 1 : Nat) : Int) = (n : Int) + 1 by omega, Int.mul_add, Int.mul_one]
    rw [e, show v + (s * 2 * (n : Int) + s * 2) = v + s * 2 * (n : Int) + s * 2 by omega, due_two hm hs, ih]
    omega
theorem due_per {o s : Int} {m : Str} {v : Int} (hm : Mode m) (hs : 1 ≤ s) (t : Int) : dueM o s m (v + s * 2 * t) = dueM o s m v + s * 2 * t := by
  rcases Int.le_total 0 t with h | h
  · obtain ⟨n, rfl⟩ := Int.eq_ofNat_of_zero_le h
    exact due_more hm hs n
  · obtain ⟨n, hn⟩ := Int.eq_ofNat_of_zero_le (show 0 ≤ -t by omega)
    have := due_more (o := o) (v := v + s * 2 * t) hm hs n
    have e : s * 2 * (n : Int) = -(s * 2 * t) := by rw [← hn, Int.mul_neg]
    rw [e, show v + s * 2 * t + -(s * 2 * t) = v by omega] at this
    omega
/-- the order of the sides (o, s, m) and (p, u, q) matters for x -/
def diffX (o s : Int) (m : Str) (p u : Int) (q : Str) (x : Int) : Prop := dueM p u q (dueM o s m x) ≠ dueM o s m (dueM p u q x)
theorem due_com {o s : Int} {m : Str} {v : Int} (hm : Mode m) (hs : 1 ≤ s) (t : Int) : dueM o s m (v + perM s m * t) = dueM o s m v + perM s m * t := by
  unfold perM
  by_cases e : m = "half_even"
  · rw [if_pos e, Int.mul_comm 2 s]
    exact due_per hm hs t
  · rw [if_neg e]
    obtain ⟨eq, r0, r1, wh⟩ := fig_of (o := o) (m := m) (v := v) hs
    generalize (v - o) / s = q at eq wh
    generalize (v - o) % s = r at eq r0 r1 wh
    have g : goesUp m s (q + t) r = goesUp m s q r := by
      unfold goesUp
      rw [if_neg e, if_neg e]
    have F2 : Fig o s m (v + s * t) (q + t) r (figM o s m v + t) := by
      refine ⟨?_, r0, r1, ?_⟩
      · rw [Int.mul_add]; omega
      · rw [g]
        rcases wh with ⟨a, b⟩ | ⟨a, b⟩
        · exact .inl ⟨a, by omega⟩
        · exact .inr ⟨a, by omega⟩
    have z := fig_uniq hs F2
    unfold dueM
    rw [z, Int.mul_add]
    omega
theorem due_dvd {o s : Int} {m : Str} {v L : Int} (hm : Mode m) (hs : 1 ≤ s) (h : perM s m ∣ L) : dueM o s m (v + L) = dueM o s m v + L := by
  obtain ⟨t, rfl⟩ := h
  exact due_com hm hs t
theorem due_monoN {o s : Int} {m : Str} {v : Int} (hm : Mode m) (hs : 1 ≤ s) : ∀ n : Nat, dueM o s m v ≤ dueM o s m (v + (n : Int))
  | 0 => by rw [show v + ((0 : Nat) : Int) = v by omega]; exact Int.le_refl _
  | n + 1 => by
    have a := due_monoN hm hs n (o := o) (v := v)
    have b := due_mono hm hs (o := o) (v := v + (n : Int))
    rw [show v + ((n + 1 : Nat) : Int) = v + (n : Int) + 1 by omega]
    omega
theorem due_le {o s : Int} {m : Str} {v y : Int} (hm : Mode m) (hs : 1 ≤ s) (h : v ≤ y) : dueM o s m v ≤ dueM o s m y := by
  have := due_monoN hm hs (y - v).toNat (o := o) (v := v)
  rw [show v + (((y - v).toNat : Nat) : Int) = y by omega] at this
  exact this
/-- the values of a block -/
def InB (st mo pe v : Int) : Prop := (v - st) % pe ≤ mo
instance (st mo pe v : Int) : Decidable (InB st mo pe v) := by unfold InB; exact inferInstance
def fibM (st mo pe v : Int) : Int := if (v - st) % pe ≤ mo then v else v + pe - (v - st) % pe
theorem inb_add {st mo pe v t : Int} : InB st mo pe (v + pe * t) ↔ InB st mo pe v := by
  unfold InB
  rw [show v + pe * t - st = v - st + pe * t by omega, Int.add_mul_emod_self_left]
theorem inb_of {st mo pe v r t : Int} (h : v = st + pe * t + r) (r0 : 0 ≤ r) (r1 : r < pe) (rm : r ≤ mo) : InB st mo pe v := by
  unfold InB
  rw [show v - st = r + pe * t by omega, Int.add_mul_emod_self_left, Int.emod_eq_of_lt r0 r1]
  exact rm
theorem inb_at {st mo pe v : Int} (hp : 0 < pe) (h : InB st mo pe v) : ∃ t r : Int, v = st + pe * t + r ∧ 0 ≤ r ∧ r ≤ mo ∧ r < pe := by
  refine ⟨(v - st) / pe, (v - st) % pe, ?_, Int.emod_nonneg _ (by omega), h, Int.emod_lt_of_pos _ hp⟩
  have := Int.emod_add_mul_ediv (v - st) pe
  omega
theorem mul_pos_le {pe a b : Int} (hp : 0 < pe) (h : a < b) : pe * a + pe ≤ pe * b := by
  have : pe * (a + 1) ≤ pe * b := Int.mul_le_mul_of_nonneg_left (by omega) (by omega)
  rw [Int.mul_add, Int.mul_one] at this
  exact this
theorem fib_spec {st mo pe v : Int} (hp : 0 < pe) (hm : 0 ≤ mo) : v ≤ fibM st mo pe v ∧ fibM st mo pe v < v + pe ∧ InB st mo pe (fibM st mo pe v) ∧ ∀ y, v ≤ y → y < fibM st mo pe v → ¬ InB st mo pe y := by
  have r0 := Int.emod_nonneg (v - st) (show pe ≠ 0 by omega)
  have r1 := Int.emod_lt_of_pos (v - st) hp
  have ee := Int.emod_add_mul_ediv (v - st) pe
  unfold fibM
  by_cases h : (v - st) % pe ≤ mo
  · rw [if_pos h]
    exact ⟨by omega, by omega, h, fun y a b => by omega⟩
  · rw [if_neg h]
    refine ⟨by omega, by omega, ?_, fun y a b c => ?_⟩
    · refine inb_of (t := (v - st) / pe + 1) (r := 0) ?_ (by omega) hp hm
      rw [Int.mul_add]
      omega
    · obtain ⟨t, r, e1, e2, e3, e4⟩ := inb_at hp c
      rcases Int.lt_trichotomy t ((v - st) / pe) with z | z | z
      · have := mul_pos_le hp z
        omega
      · rw [z] at e1
        omega
      · have := mul_pos_le hp z
        omega
/-- the least value from v on with a property -/
def LeastI (Pr : Int → Prop) (v : Int) : Option Int → Prop
  | some x => v ≤ x ∧ Pr x ∧ ∀ y, v ≤ y → y < x → ¬ Pr y
  | none => ∀ y, v ≤ y → ¬ Pr y
theorem leastI_congr {A B : Int → Prop} {v : Int} {r : Option Int} (h : ∀ x, A x ↔ B x) (e : LeastI A v r) : LeastI B v r := by
  cases r with
  | none => exact fun y z w => e y z ((h y).mpr w)
  | some x => exact ⟨e.1, (h x).mp e.2.1, fun y y0 y1 z => e.2.2 y y0 y1 ((h y).mpr z)⟩
/-- a place of one block holds a value of the other -/
theorem place_iff {b mo os om op : Int} (hp : 0 < op) (hm : 0 ≤ mo) (ho : 0 ≤ om) : (∃ y, b ≤ y ∧ y ≤ b + mo ∧ InB os om op y) ↔ (b + mo - os) % op ≤ mo + om := by
  have r0 := Int.emod_nonneg (b + mo - os) (show op ≠ 0 by omega)
  have r1 := Int.emod_lt_of_pos (b + mo - os) hp
  have ee := Int.emod_add_mul_ediv (b + mo - os) op
  constructor
  · rintro ⟨y, h1, h2, h3⟩
    obtain ⟨t, r, e1, e2, e3, e4⟩ := inb_at hp h3
    have e5 : b + mo - os = (r + (b + mo - y)) + op * t := by omega
    rw [e5, Int.add_mul_emod_self_left]
    have := Int.emod_add_mul_ediv (r + (b + mo - y)) op
    have q0 : 0 ≤ (r + (b + mo - y)) / op := Int.ediv_nonneg (by omega) (by omega)
    have q1 : 0 ≤ op * ((r + (b + mo - y)) / op) := Int.mul_nonneg (by omega) q0
    omega
  · intro h
    by_cases e : (b + mo - os) % op ≤ om
    · exact ⟨b + mo, by omega, by omega, e⟩
    · refine ⟨b + mo - ((b + mo - os) % op - om), by omega, by omega, ?_⟩
      refine inb_of (t := (b + mo - os) / op) (r := om) ?_ ho (by omega) (by omega)
      omega
/-- first_in_both, as the program finds it -/
theorem both_near {st mo pe os om op v : Int} (hp : 0 < pe) (hm : 0 ≤ mo) (hq : 0 < op) (ho : 0 ≤ om) (hmp : mo < pe)
    (h : fibM os om op (fibM st mo pe v) ≤ fibM st mo pe v - (fibM st mo pe v - st) % pe + mo) : LeastI (fun x => InB st mo pe x ∧ InB os om op x) v (some (fibM os om op (fibM st mo pe v))) := by
  obtain ⟨a1, a2, a3, a4⟩ := fib_spec (v := v) (st := st) hp hm
  generalize fibM st mo pe v = x at *
  obtain ⟨b1, b2, b3, b4⟩ := fib_spec (v := x) (st := os) hq ho
  generalize fibM os om op x = z at *
  have r0 := Int.emod_nonneg (x - st) (show pe ≠ 0 by omega)
  have ee := Int.emod_add_mul_ediv (x - st) pe
  refine ⟨by omega, ⟨?_, b3⟩, fun y y0 y1 c => ?_⟩
  · exact inb_of (t := (x - st) / pe) (r := z - (x - (x - st) % pe)) (by omega) (by omega) (by omega) (by omega)
  · by_cases g : y < x
    · exact a4 y y0 g c.1
    · exact b4 y (by omega) y1 c.2
theorem both_far {st mo pe os om op v : Int} (hp : 0 < pe) (hm : 0 ≤ mo) (hq : 0 < op) (ho : 0 ≤ om) (hmp : mo < pe) {r : Option Nat}
    (h : fibM st mo pe v - (fibM st mo pe v - st) % pe + mo < fibM os om op (fibM st mo pe v)) (L : Least (HitS (fibM st mo pe v - (fibM st mo pe v - st) % pe + pe + mo - os) pe (mo + om) op) r) :
    LeastI (fun x => InB st mo pe x ∧ InB os om op x) v (r.map fun k : Nat => fibM os om op (fibM st mo pe v - (fibM st mo pe v - st) % pe + pe + pe * (k : Int))) := by
  obtain ⟨a1, a2, a3, a4⟩ := fib_spec (v := v) (st := st) hp hm
  generalize fibM st mo pe v = x at *
  obtain ⟨b1, b2, b3, b4⟩ := fib_spec (v := x) (st := os) hq ho
  generalize fibM os om op x = z at *
  have r0 := Int.emod_nonneg (x - st) (show pe ≠ 0 by omega)
  have r1 := Int.emod_lt_of_pos (x - st) hp
  have ee := Int.emod_add_mul_ediv (x - st) pe
  have bx : (x - st) % pe ≤ mo := a3
  -- the places behind
  have key : ∀ y, v ≤ y → InB st mo pe y → InB os om op y → ∃ j : Nat, x - (x - st) % pe + pe + pe * (j : Int) ≤ y ∧ y ≤ x - (x - st) % pe + pe + pe * (j : Int) + mo ∧ HitS (x - (x - st) % pe + pe + mo - os) pe (mo + om) op j := by
    intro y y0 c1 c2
    have yx : x ≤ y := by
      by_cases g : y < x
      · exact absurd c1 (a4 y y0 g)
      · omega
    have yz : z ≤ y := by
      by_cases g : y < z
      · exact absurd c2 (b4 y yx g)
      · omega
    obtain ⟨t, r, e1, e2, e3, e4⟩ := inb_at hp c1
    have tj : (x - st) / pe < t := by
      rcases Int.lt_trichotomy t ((x - st) / pe) with q | q | q
      · have := mul_pos_le hp q
        omega
      · rw [q] at e1
        omega
      · exact q
    refine ⟨(t - (x - st) / pe - 1).toNat, ?_⟩
    have en : (((t - (x - st) / pe - 1).toNat : Nat) : Int) = t - (x - st) / pe - 1 := Int.toNat_of_nonneg (by omega)
    rw [en]
    have ep : pe * (t - (x - st) / pe - 1) = pe * t - pe * ((x - st) / pe) - pe := by rw [Int.mul_sub, Int.mul_sub, Int.mul_one]
    have l1 : x - (x - st) % pe + pe + pe * (t - (x - st) / pe - 1) ≤ y := by omega
    have l2 : y ≤ x - (x - st) % pe + pe + pe * (t - (x - st) / pe - 1) + mo := by omega
    refine ⟨l1, l2, ?_⟩
    unfold HitS
    rw [en]
    have := (place_iff hq hm ho).mp ⟨y, l1, l2, c2⟩
    rw [show x - (x - st) % pe + pe + mo - os + pe * (t - (x - st) / pe - 1) = x - (x - st) % pe + pe + pe * (t - (x - st) / pe - 1) + mo - os by omega]
    exact this
  cases r with
  | none =>
    intro y y0 c
    obtain ⟨j, _, _, hj⟩ := key y y0 c.1 c.2
    exact L j hj
  | some k =>
    obtain ⟨L1, L2⟩ := L
    have kk : (x - (x - st) % pe + pe + pe * (k : Int) + mo - os) % op ≤ mo + om := by
      unfold HitS at L1
      rw [show x - (x - st) % pe + pe + pe * (k : Int) + mo - os = x - (x - st) % pe + pe + mo - os + pe * (k : Int) by omega]
      exact L1
    obtain ⟨y, h1, h2, h3⟩ := (place_iff hq hm ho).mpr kk
    have kp : 0 ≤ pe * (k : Int) := Int.mul_nonneg (by omega) (by omega)
    obtain ⟨d1, d2, d3, d4⟩ := fib_spec (v := x - (x - st) % pe + pe + pe * (k : Int)) (st := os) hq ho
    show LeastI _ v (some (fibM os om op (x - (x - st) % pe + pe + pe * (k : Int))))
    generalize hf : fibM os om op (x - (x - st) % pe + pe + pe * (k : Int)) = f at d1 d2 d3 d4
    have fy : f ≤ y := by
      by_cases g : y < f
      · exact absurd h3 (d4 y h1 g)
      · omega
    refine ⟨by omega, ⟨?_, d3⟩, fun w w0 w1 c => ?_⟩
    · refine inb_of (t := (x - st) / pe + 1 + (k : Int)) (r := f - (x - (x - st) % pe + pe + pe * (k : Int))) ?_ (by omega) (by omega) (by omega)
      rw [Int.mul_add, Int.mul_add, Int.mul_one]
      omega
    · obtain ⟨j, j1, j2, j3⟩ := key w w0 c.1 c.2
      have jk : k ≤ j := by
        by_cases g : j < k
        · exact absurd j3 (L2 j g)
        · omega
      have : pe * (k : Int) ≤ pe * (j : Int) := Int.mul_le_mul_of_nonneg_left (by omega) (by omega)
      exact d4 w (by omega) w1 c.2
/-- the figures of a period -/
def figsN (s : Int) (m : Str) : Int := perM s m / s
theorem figs_eq {s : Int} {m : Str} (hs : 1 ≤ s) : figsN s m = if m = "half_even" then 2 else 1 := by
  unfold figsN perM
  by_cases e : m = "half_even"
  · rw [if_pos e, if_pos e, Int.mul_ediv_cancel _ (by omega)]
  · rw [if_neg e, if_neg e, Int.ediv_self (by omega)]
theorem per_figs {s : Int} {m : Str} (hs : 1 ≤ s) : perM s m = s * figsN s m := by
  rw [figs_eq hs]
  unfold perM
  by_cases e : m = "half_even"
  · rw [if_pos e, if_pos e, Int.mul_comm]
  · rw [if_neg e, if_neg e, Int.mul_one]
theorem figs_bd {s : Int} {m : Str} (hs : 1 ≤ s) : 1 ≤ figsN s m ∧ figsN s m ≤ 2 := by
  rw [figs_eq hs]
  split <;> omega
theorem unr_iff {o s : Int} {m : Str} {v : Int} (hm : Mode m) (hs : 1 ≤ s) : dueM o s m v ≤ v ↔ ∃ k, 0 ≤ k ∧ k < figsN s m ∧ InB (o + s * k) (below (mir m) s k) (perM s m) v := by
  have fb := figs_bd (m := m) hs
  have pf := per_figs (m := m) hs
  have pp : s ≤ perM s m := by
    rw [pf]
    have : s * 1 ≤ s * figsN s m := Int.mul_le_mul_of_nonneg_left (by omega) (by omega)
    omega
  constructor
  · intro h
    have e0 := Int.emod_add_mul_ediv (figM o s m v) (figsN s m)
    refine ⟨figM o s m v % figsN s m, Int.emod_nonneg _ (by omega), Int.emod_lt_of_pos _ (by omega), ?_⟩
    generalize hk : figM o s m v % figsN s m = k at *
    generalize hj : figM o s m v / figsN s m = j at *
    have ev : v = (v - perM s m * j) + perM s m * j := by omega
    have dc := due_com (o := o) (v := v - perM s m * j) hm hs j
    rw [← ev] at dc
    have es : s * figM o s m v = s * k + perM s m * j := by
      rw [← e0, Int.mul_add, pf, Int.mul_assoc]
    have ed : dueM o s m v = o + s * k + perM s m * j := by
      unfold dueM
      omega
    have ed2 : dueM o s m (v - perM s m * j) = o + s * k := by omega
    have ef : figM o s m (v - perM s m * j) = k := by
      unfold dueM at ed2
      exact Int.eq_of_mul_eq_mul_left (show s ≠ 0 by omega) (by omega)
    have hi := ((fig_iff hm hs).mp ef).2
    unfold highM at hi
    have bb := below_bd (k := k) (mir_mode hm) hs
    exact inb_of (t := j) (r := v - perM s m * j - (o + s * k)) (by omega) (by omega) (by omega) (by omega)
  · rintro ⟨k, k0, k1, h⟩
    obtain ⟨t, r, e1, e2, e3, e4⟩ := inb_at (by omega) h
    have lh := low_high (o := o) (k := k) hm hs
    have ef : figM o s m (o + s * k + r) = k := (fig_iff hm hs).mpr ⟨by omega, by unfold highM; omega⟩
    have dc := due_com (o := o) (v := o + s * k + r) hm hs t
    rw [show o + s * k + r + perM s m * t = v by omega] at dc
    have ed : dueM o s m (o + s * k + r) = o + s * k := by
      unfold dueM
      rw [ef]
    omega
end HT
namespace HT
open PySem L2
def oV : Option Int → V
  | none => .non
  | some k => .int k
def spFH : Sp := fun vs H Q _ => ∃ st sp mo M : Int, vs = [.int st, .int sp, .int mo, .int M] ∧ 0 < M ∧ M < 2 ^ 102 ∧ 0 ≤ mo ∧ ∀ r, Least (HitS st sp mo M) r → Q (oN r) H
def blkV (st mo pe : Int) : HO := .tup [.int st, .int mo, .int pe]
structure BlkP (st mo pe : Int) : Prop where
  p0 : 0 < pe
  p1 : pe < 2 ^ 102
  m0 : 0 ≤ mo
  m1 : mo < pe
def spFIB : Sp := fun vs H Q _ => ∃ (b : Addr) (st mo pe v : Int), vs = [.ref b, .int v] ∧ H b = some (blkV st mo pe) ∧ BlkP st mo pe ∧ Q (.int (fibM st mo pe v)) H
def spFI2 : Sp := fun vs H Q _ => ∃ (a b : Addr) (st mo pe os om op v : Int), vs = [.ref a, .ref b, .int v] ∧ H a = some (blkV st mo pe) ∧ BlkP st mo pe ∧ H b = some (blkV os om op) ∧ BlkP os om op ∧ ∀ r, LeastI (fun x => InB st mo pe x ∧ InB os om op x) v r → Q (oV r) H
theorem hitS_lt {st sp mo M : Int} (hM : 0 < M) {k : Nat} (h : Least (HitS st sp mo M) (some k)) : (k : Int) < M := by
  by_cases e : (k : Int) < M
  · exact e
  · exfalso
    obtain ⟨a, c⟩ := h
    refine c (k - M.toNat) (by omega) ?_
    have e2 : st + sp * ((k - M.toNat : Nat) : Int) = st + sp * (k : Int) - M * sp := by
      rw [show ((k - M.toNat : Nat) : Int) = (k : Int) - M by omega, Int.mul_sub, Int.mul_comm M sp]
      omega
    unfold HitS
    rw [e2, Int.sub_mul_emod_self_left]
    exact a
section
variable {P : Program} {w : World} {K : PySem.W.Frag} {mg : Str → Option Value} {base : Heap} {fB fH fI : Addr} {dB dH dI : FuncData}
theorem ok_hit {f : Addr} {fd : FuncData} (F : Fun K "first_hit" "first_hit" s_first_hit f fd) (FB : Cal P w K mg base "_first_between" 103 ["step", "least", "greatest", "modulus"] (spFB 102) fB dB) : FnOk P w K mg base CX0 104 f fd ["start", "step", "most", "modulus"] spFH := by
  refine F.ok sc_first_hit (fun vs H Q E h => ?_) (fun cdv A outer s0 H vs Q E hr h => ?_)
  · obtain ⟨st, sp, mo, M, rfl, _⟩ := h
    rfl
  · obtain ⟨st, sp, mo, M, rfl, M0, M1, m0, q⟩ := h
    have nd := sc_first_hit.nd
    refine ⟨_, (pss_cons (ps_set (i := 4) nd rfl (Or.inl rfl) (pe_op op_mod (pe_un un_neg (pv 0)) (pv 3)))
      (pss_cons (ps_set (i := 5) nd rfl (Or.inl rfl) (pe_op op_add (pv 4) (pv 2)))
      (pss_cons (ps_if (PW.pt (pw_or (pt_cmpR op_eq (pv 4) pe_int (nomark _)) (pw_or1 (pt_cmpR op_ge (pv 5) (pv 3) (nomark _))))) (pss_one (ps_ret pe_int)) pss_nil)
      (pss_one (ps_ret (pcl FB hr (by decide) (by rfl) (pa_cons (pe_op op_mod (pv 1) (pv 3)) (pa_cons (pv 4) (pa_cons (pv 5) (pa_cons (pv 3) pa_nil)))))))))), ?_⟩
    have l0 := Int.emod_nonneg (-st) (show M ≠ 0 by omega)
    have l1 := Int.emod_lt_of_pos (-st) M0
    walk_at "rd"
    refine ⟨M0, ?_⟩
    walk_at "rd"
    refine ⟨rfl, ?_⟩
    walk_at "rd"
    refine ite2 (fun z => ?_) (fun z => ?_)
    · have e := int_t z
      walk_at "rd"
      exact q (some 0) (hits_zero M0 m0 (.inl e))
    have e1 := int_f z
    walk_at "rd"
    refine ite2 (fun z => ?_) (fun z => ?_)
    · have e := of_decide_eq_true z
      walk_at "rd"
      exact q (some 0) (hits_zero M0 m0 (.inr e))
    have e2 : (-st) % M + mo < M := by
      have : ¬ M ≤ (-st) % M + mo := fun y => z (decide_eq_true y)
      omega
    walk_at "rd"
    refine ⟨M0, ?_⟩
    walk_at "rd"
    refine ⟨sp % M, (-st) % M, (-st) % M + mo, M, rfl, Int.emod_nonneg _ (by omega), Int.emod_lt_of_pos _ M0, by omega, by omega, e2, M1, fun r L => ?_⟩
    exact q r (least_congr (fun k => (hits_iff M0 m0 (by omega) e2 k).symm) L)
theorem ok_fib {f : Addr} {fd : FuncData} (F : Fun K "first_in_block" "first_in_block" s_first_in_block f fd) : FnOk P w K mg base CX0 1 f fd ["block", "value"] spFIB := by
  refine F.ok sc_first_in_block (fun vs H Q E h => ?_) (fun cdv A outer s0 H vs Q E hr h => ?_)
  · obtain ⟨b, st, mo, pe, v, rfl, _⟩ := h
    rfl
  · obtain ⟨b, st, mo, pe, v, rfl, hb, BP, q⟩ := h
    have nd := sc_first_in_block.nd
    refine ⟨_, (pss_cons (ps_asg (pv 0) (pg_tup (by rfl) (pgs_cons (pg_name (i := 2) nd rfl (Or.inl rfl)) (pgs_cons (pg_name (i := 3) nd rfl (Or.inl rfl)) (pgs_cons (pg_name (i := 4) nd rfl (Or.inl rfl)) pgs_nil)))))
      (pss_cons (ps_set (i := 5) nd rfl (Or.inl rfl) (pe_op op_mod (pe_op op_sub (pv 1) (pv 2)) (pv 4)))
      (pss_cons (ps_if (pt_cmpR op_le (pv 5) (pv 3) (nomark _)) (pss_one (ps_ret (pv 1))) pss_nil)
      (pss_one (ps_ret (pe_op op_sub (pe_op op_add (pv 1) (pv 4)) (pv 5))))))), ?_⟩
    walk_at "rd"
    refine ⟨b, _, rfl, SqT.of hb, rfl, _, _, rfl, _, _, rfl, _, _, rfl, rfl, ?_⟩
    walk_at "rd"
    refine ⟨BP.p0, ?_⟩
    walk_at "rd"
    unfold fibM at q
    refine ite2 (fun z => ?_) (fun z => ?_)
    · rw [if_pos (of_decide_eq_true z)] at q
      walk_at "rd"
      exact q
    · rw [if_neg (fun y => z (decide_eq_true y))] at q
      walk_at "rd"
      exact q
theorem ok_fi2 {f : Addr} {fd : FuncData} (F : Fun K "first_in_both" "first_in_both" s_first_in_both f fd) (Fh : Cal P w K mg base "first_hit" 104 ["start", "step", "most", "modulus"] spFH fH dH) (Fi : Cal P w K mg base "first_in_block" 1 ["block", "value"] spFIB fI dI) : FnOk P w K mg base CX0 105 f fd ["one", "other", "value"] spFI2 := by
  refine F.ok sc_first_in_both (fun vs H Q E h => ?_) (fun cdv A outer s0 H vs Q E hr h => ?_)
  · obtain ⟨a, b, st, mo, pe, os, om, op, v, rfl, _⟩ := h
    rfl
  · obtain ⟨a, b, st, mo, pe, os, om, op, v, rfl, ha, BP, hb, CP, q⟩ := h
    have nd := sc_first_in_both.nd
    refine ⟨_, (pss_cons (ps_asg (pv 0) (pg_tup (by rfl) (pgs_cons (pg_name (i := 3) nd rfl (Or.inl rfl)) (pgs_cons (pg_name (i := 4) nd rfl (Or.inl rfl)) (pgs_cons (pg_name (i := 5) nd rfl (Or.inl rfl)) pgs_nil)))))
      (pss_cons (ps_set (i := 2) nd rfl (Or.inl rfl) (pcl Fi hr (by decide) (by rfl) (pa_cons (pv 0) (pa_cons (pv 2) pa_nil))))
      (pss_cons (ps_set (i := 6) nd rfl (Or.inl rfl) (pe_op op_sub (pv 2) (pe_op op_mod (pe_op op_sub (pv 2) (pv 3)) (pv 5))))
      (pss_cons (ps_set (i := 7) nd rfl (Or.inl rfl) (pcl Fi hr (by decide) (by rfl) (pa_cons (pv 1) (pa_cons (pv 2) pa_nil))))
      (pss_cons (ps_if (pt_cmpR op_le (pv 7) (pe_op op_add (pv 6) (pv 4)) (nomark _)) (pss_one (ps_ret (pv 7))) pss_nil)
      (pss_cons (ps_set (i := 6) nd rfl (Or.inl rfl) (pe_op op_add (pv 6) (pv 5)))
      (pss_cons (ps_asg (pv 1) (pg_tup (by rfl) (pgs_cons (pg_name (i := 8) nd rfl (Or.inl rfl)) (pgs_cons (pg_name (i := 9) nd rfl (Or.inl rfl)) (pgs_cons (pg_name (i := 10) nd rfl (Or.inl rfl)) pgs_nil)))))
      (pss_cons (ps_set (i := 11) nd rfl (Or.inl rfl) (pcl Fh hr (by decide) (by rfl) (pa_cons (pe_op op_sub (pe_op op_add (pv 6) (pv 4)) (pv 8)) (pa_cons (pv 5) (pa_cons (pe_op op_add (pv 4) (pv 9)) (pa_cons (pv 10) pa_nil))))))
      (pss_cons (ps_if (pt_cmpR op_isN (pv 11) pe_non (nomark _)) (pss_one (ps_ret pe_non)) pss_nil)
      (pss_one (ps_ret (pcl Fi hr (by decide) (by rfl) (pa_cons (pv 1) (pa_cons (pe_op op_add (pv 6) (pe_op op_mulW (pv 5) (pv 11))) pa_nil)))))))))))))), ?_⟩
    have p0 := BP.p0
    have p1 := BP.p1
    have o0 := CP.p0
    have o1 := CP.p1
    walk_at "rd"
    refine ⟨a, _, rfl, SqT.of ha, rfl, _, _, rfl, _, _, rfl, _, _, rfl, rfl, ?_⟩
    walk_at "rd"
    refine ⟨a, st, mo, pe, v, rfl, ha, BP, ?_⟩
    walk_at "rd"
    refine ⟨p0, ?_⟩
    walk_at "rd"
    refine ⟨b, os, om, op, fibM st mo pe v, rfl, hb, CP, ?_⟩
    walk_at "rd"
    refine ite2 (fun z => ?_) (fun z => ?_)
    · have e := of_decide_eq_true z
      walk_at "rd"
      exact q (some _) (both_near p0 BP.m0 o0 CP.m0 BP.m1 e)
    have e : fibM st mo pe v - (fibM st mo pe v - st) % pe + mo < fibM os om op (fibM st mo pe v) := by
      have : ¬ fibM os om op (fibM st mo pe v) ≤ fibM st mo pe v - (fibM st mo pe v - st) % pe + mo := fun y => z (decide_eq_true y)
      omega
    walk_at "rd"
    refine ⟨b, _, rfl, SqT.of hb, rfl, _, _, rfl, _, _, rfl, _, _, rfl, rfl, ?_⟩
    walk_at "rd"
    have m0 := BP.m0
    have n0 := CP.m0
    refine ⟨fibM st mo pe v - (fibM st mo pe v - st) % pe + pe + mo - os, pe, mo + om, op, rfl, o0, o1, by omega, fun r L => ?_⟩
    have L2 := both_far (v := v) p0 m0 o0 n0 BP.m1 e L
    walk_at "rd"
    cases r with
    | none =>
      refine ⟨rfl, ?_⟩
      walk_at "rd"
      exact q none L2
    | some k =>
      refine ⟨rfl, ?_⟩
      walk_at "rd"
      have kl := hitS_lt o0 L
      refine ⟨mulW (by omega) (by omega), ?_⟩
      walk_at "rd"
      exact ⟨b, os, om, op, _, rfl, hb, CP, q _ L2⟩
end
end HT
namespace HT
open PySem L2
/-- a def with defaults that may be called by its name -/
structure CalD (P : Program) (w : World) (K : PySem.W.Frag) (mg : Str → Option Value) (base : Heap) (x : Str) (k : Nat) (ps : List Str) (dvs : List V) (sp : Sp) (f : Addr) (fd : FuncData) : Prop where
  ok : FnOk P w K mg base CX0 k f fd ps sp
  gl : mg x = some (.ref f)
  kp : PySem.W.keepIn K (.ref f) = true
  bd : ∃ ds, Vals dvs ds ∧ Binds K fd ps ds
theorem pcd {X : Cx} {x : Str} {k j : Nat} {ps : List Str} {dvs : List V} {sp : Sp} {f : Addr} {fd : FuncData} {e : Expr} {es : List Expr} {t : TA} {p pos : Pos} (C : CalD X.prog X.w X.K X.mg X.base x k ps dvs sp f fd) (hr : Room j X.A) (hj : k ≤ j) (hg : Gl X x) (ha : PA X (e :: es) t)
    (hdb : (x == ("__debug__" : Str)) = false := by decide) (he : starEach (e :: es) X.env = (false, eval e X.env) :: starEach es X.env := by rfl) (hpl : (backTo pos (starEach es X.env)).any (·.1) = false := by rfl) : PE X (.Call (.Name x p) (e :: es) [] pos) (tCall sp dvs E0 t) := by
  obtain ⟨ds, hv, hb⟩ := C.bd
  exact pe_call C.ok (hr.mono hj) hg C.gl C.kp hb hv pass0 ha hdb he hpl
structure MaxT (mg : Str → Option Value) : Prop where
  max : mg "max" = none
  min : mg "min" = none
def BlksAt (H' : Hp) (L : Addr) (o s : Int) (m : Str) : Prop := ∃ ps : List Addr, H' L = some (.lst (ps.map V.ref)) ∧ ps.length = (figsN s m).toNat ∧ ∀ (i : Nat) (p : Addr), ps[i]? = some p → H' p = some (blkV (o + s * (i : Int)) (below (mir m) s (i : Int)) (perM s m))
def spUnr : Sp := fun vs H Q _ => ∃ (p : Addr) (o s : Int) (m : Str), vs = [.ref p, .int 1] ∧ H p = some (sideV o s m) ∧ SideP o s m ∧ ∀ (L : Addr) (H' : Hp), H L = none → Same H H' → BlksAt H' L o s m → Q (.ref L) H'
def spRs : Sp := fun vs H Q _ => ∃ (p : Addr) (o s : Int) (m : Str), vs = [.ref p] ∧ H p = some (sideV o s m) ∧ SideP o s m ∧ ∀ H', Same H H' → Q (.bl (!decide (firstM s m = "down"))) H'
theorem blkP_of {o s k : Int} {m : Str} (S : SideP o s m) : BlkP (o + s * k) (below (mir m) s k) (perM s m) := by
  have b := below_bd (k := k) (mir_mode S.md) S.s0
  have p := perM_bd S
  have pf := per_figs (m := m) S.s0
  have fb := figs_bd (m := m) S.s0
  have s0 := S.s0
  have : s * 1 ≤ s * figsN s m := Int.mul_le_mul_of_nonneg_left (by omega) (by omega)
  exact ⟨by omega, by omega, b.1, by omega⟩
section
variable {P : Program} {w : World} {K : PySem.W.Frag} {mg : Str → Option Value} {base : Heap} {fB fH fI : Addr} {dB dH dI : FuncData}
theorem ok_unr {f : Addr} {fd : FuncData} (F : FunD K "unraised" "unraised" (defArgs s_unraised) (defBody s_unraised) (defScope s_unraised) [.int 1] [] f fd) (B : Blt mg) (MT : MaxT mg) (Pe : Cal P w K mg base "period_of" 1 ["side"] spPerOf fB dB) (Sp' : Cal P w K mg base "span" 4 ["side", "figure"] spSpan fH dH) : FnOk P w K mg base CX0 5 f fd ["side", "least"] spUnr := by
  refine F.ok sc_unraised (fun vs H Q E h => ?_) (fun cdv A outer s0 H vs Q E hr h => ?_)
  · obtain ⟨p, o, s, m, rfl, _⟩ := h
    rfl
  · obtain ⟨p, o, s, m, rfl, hp, S, q⟩ := h
    have nd := sc_unraised.nd
    refine ⟨_, (pss_cons (ps_asg (pv 0) (pg_tup (by rfl) (pgs_cons (pg_name (i := 2) nd rfl (Or.inl rfl)) (pgs_cons (pg_name (i := 3) nd rfl (Or.inl rfl)) (pgs_cons (pg_name (i := 4) nd rfl (Or.inl rfl)) pgs_nil)))))
      (pss_cons (ps_set (i := 5) nd rfl (Or.inl rfl) (pcl Pe hr (by decide) (by rfl) (pa_cons (pv 0) pa_nil)))
      (pss_cons (ps_set (i := 6) nd rfl (Or.inl rfl) (pe_lst pa_nil))
      (pss_cons (ps_for (passes_of rfl) rfl (pi_range1 (by rfl) B.range (pa_cons (pe_op op_fdivW (pv 5) (pv 3)) pa_nil)) (pg_name (i := 7) nd rfl (Or.inl rfl)) (pss_cons (ps_asg (pcl Sp' hr (by decide) (by rfl) (pa_cons (pv 0) (pa_cons (pv 7) pa_nil))) (pg_tup (by rfl) (pgs_cons (pg_name (i := 8) nd rfl (Or.inl rfl)) (pgs_cons (pg_name (i := 9) nd rfl (Or.inl rfl)) pgs_nil))))
      (pss_cons (ps_set (i := 10) nd rfl (Or.inl rfl) (pe_callB (call_max2 rfl) (by rfl) MT.max (by decide +kernel) (pa_cons (pv 8) (pa_cons (pe_op op_add (pe_op op_sub (pe_op op_add (pv 2) (pe_op op_mulW (pv 3) (pv 7))) (pv 1)) pe_int) pa_nil))))
      (pss_one (ps_expr (pe_bm PySem.F.plainAttrs_list PySem.F.slot_list_append PySem.F.type_list_append mt_append (pv 6) (pa_cons (pe_tup (pa_cons (pv 10) (pa_cons (pe_op op_sub (pv 9) (pv 10)) (pa_cons (pv 5) pa_nil)))) pa_nil)))))))
      (pss_one (ps_ret (pv 6))))))), ?_⟩
    have s1 := S.s0
    have s2 := S.s1
    have o0 := S.o0
    have o1 := S.o1
    have fb := figs_bd (m := m) S.s0
    walk_at "rd"
    refine ⟨p, _, rfl, SqT.of hp, rfl, _, _, rfl, _, _, rfl, _, _, rfl, rfl, ?_⟩
    walk_at "rd"
    refine ⟨p, o, s, m, rfl, hp, S, ?_⟩
    walk_at "rd"
    refine ⟨(by show 0 ≤ sizeLine; decide), fun L nL => ?_⟩
    walk_at "rd"
    refine ⟨fdiv_ok _ (by omega) (lg_big (by omega) (by omega)), ?_⟩
    walk_at "rd"
    have ef : perM s m / s = figsN s m := rfl
    refine ⟨by omega, by omega, ?_⟩
    refine for_range (n := (perM s m / s).toNat) (fun i st H' => ∃ (x7 x8 x9 x10 : Option V) (ps : List Addr), st = [some (.ref p), some (.int 1), some (.int o), some (.int s), some (.str m), some (.int (perM s m)), some (.ref L), x7, x8, x9, x10] ∧ Same H H' ∧ H' L = some (.lst (ps.map V.ref)) ∧ ps.length = i ∧ (∀ (j : Nat) (b : Addr), ps[j]? = some b → H' b = some (blkV (o + s * (j : Int)) (below (mir m) s (j : Int)) (perM s m)))) ⟨none, none, none, none, [], rfl, fun b u z => (upd_ne (ne_of_none z nL)).trans z, upd_same, rfl, fun j b z => nomatch z⟩ ?_ ?_
    · rintro i st H' hi ⟨x7, x8, x9, x10, ps, rfl, sm, hL, lp, at_⟩
      have hi2 : i < 2 := by omega
      have hp' := sm _ _ hp
      walk_at "rd"
      refine ⟨p, o, s, m, 0 + (i : Int), rfl, hp', S, (by unfold BdK; omega), fun d H2 s2' nd2 hd => ?_⟩
      refine ⟨d, _, rfl, SqT.of hd, rfl, _, _, rfl, _, _, rfl, rfl, ?_⟩
      walk_at "rd"
      refine ⟨mulW (by omega) (by omega), ?_⟩
      walk_at "rd"
      refine ⟨_, _, rfl, ?_⟩
      walk_at "rd"
      have hL2 := s2' _ _ hL
      refine ⟨.inl ⟨rfl, _, SqL.of hL2⟩, ?_⟩
      walk_at "rd"
      refine ⟨(by show 3 ≤ sizeLine; decide), fun b nb => ?_⟩
      have nbL : b ≠ L := ne_of_none hL2 nb |>.symm
      have lh := low_high (o := o) (k := (i : Int)) S.md S.s0
      have e0 : (0 : Int) + (i : Int) = (i : Int) := by omega
      have est : (if o + s * (0 + (i : Int)) - 1 + 1 > lowM o s m (0 + (i : Int)) then o + s * (0 + (i : Int)) - 1 + 1 else lowM o s m (0 + (i : Int))) = o + s * (i : Int) := by
        rw [e0]
        split <;> omega
      refine ⟨L, _, _, rfl, rfl, (upd_ne nbL.symm).trans hL2, (by rw [List.length_map, lp]; exact Nat.lt_of_lt_of_le (by omega : i < 8) (by decide)), ?_⟩
      refine ⟨_, _, _, _, ps ++ [b], rfl, ?_, ?_, by rw [List.length_append, lp]; rfl, ?_⟩
      · intro c u z
        have z3 := s2' _ _ (sm _ _ z)
        exact (upd_ne (ne_of_none z nL)).trans ((upd_ne (ne_of_none z3 nb)).trans z3)
      · rw [List.map_append]; exact upd_same
      · intro j c hc
        rcases Nat.lt_or_ge j ps.length with y | y
        · rw [List.getElem?_append_left y] at hc
          have g := s2' _ _ (at_ j c hc)
          exact (upd_ne (ne_of g hL2 (by intro y; cases y))).trans ((upd_ne (ne_of_none g nb)).trans g)
        · rw [List.getElem?_append_right y] at hc
          have ej : j - ps.length = 0 := by
            have := (List.getElem?_eq_some_iff.mp hc).1
            simp at this
            omega
          rw [ej] at hc
          cases hc
          rw [show j = i by omega]
          refine (upd_ne nbL).trans (upd_same.trans ?_)
          have hst : highM o s m (0 + (i : Int)) - (o + s * (i : Int)) = below (mir m) s (i : Int) := by
            rw [e0]
            unfold highM
            omega
          show some (HO.tup [V.int _, V.int (highM o s m (0 + (i : Int)) - _), V.int _]) = _
          rw [est, hst]
          rfl
    · rintro st H' ⟨x7, x8, x9, x10, ps, rfl, sm, hL, lp, at_⟩
      walk_at "rd"
      exact q L H' nL sm ⟨ps, hL, by rw [lp, ef], at_⟩
theorem ok_rs {f : Addr} {fd : FuncData} (F : Fun K "_raises_some" "_raises_some" s_raises_some f fd) (Fm : Cal P w K mg base "form" 4 ["side"] spForm fH dH) : FnOk P w K mg base CX0 5 f fd ["side"] spRs := by
  refine F.ok sc_raises_some (fun vs H Q E h => ?_) (fun cdv A outer s0 H vs Q E hr h => ?_)
  · obtain ⟨p, o, s, m, rfl, _⟩ := h
    rfl
  · obtain ⟨p, o, s, m, rfl, hp, S, q⟩ := h
    have nd := sc_raises_some.nd
    refine ⟨_, (pss_cons (ps_asg (pcl Fm hr (by decide) (by rfl) (pa_cons (pv 0) pa_nil)) (pg_tup (by rfl) (pgs_cons (pg_name (i := 1) nd rfl (Or.inl rfl)) (pgs_cons (pg_name (i := 1) nd rfl (Or.inl rfl)) (pgs_cons (pg_name (i := 2) nd rfl (Or.inl rfl)) pgs_nil)))))
      (pss_one (ps_ret (pe_cmpR op_ne (pv 2) pe_str (nomark _))))), ?_⟩
    walk_at "rd"
    refine ⟨p, o, s, m, rfl, hp, S, fun d H2 s2 nd2 hd => ?_⟩
    refine ⟨d, _, rfl, SqT.of hd, rfl, _, _, rfl, _, _, rfl, _, _, rfl, rfl, ?_⟩
    walk_at "rd"
    refine ⟨rfl, ?_⟩
    have y := q H2 s2
    rw [← show decide (V.str (firstM s m) = V.str "down") = decide (firstM s m = "down") by rw [dec_str]] at y
    exact y
end
end HT
namespace HT
open PySem L2
/-- the list at l holds sides with these parts; it may be empty -/
structure SidL (H : Hp) (l : Addr) (xs : List V) (ss : List Sd) : Prop where
  hl : H l = some (.lst xs)
  len : xs.length = ss.length
  l4 : ss.length ≤ 4
  at_ : ∀ (i : Nat) (d : Sd), ss[i]? = some d → ∃ p : Addr, xs[i]? = some (V.ref p) ∧ H p = some (sideV d.o d.s d.m) ∧ SideP d.o d.s d.m
theorem SidesAt.toL {H : Hp} {l : Addr} {xs : List V} {ss : List Sd} (S : SidesAt H l xs ss) : SidL H l xs ss := ⟨S.hl, S.len, S.l4, S.at_⟩
theorem SidL.same {H H' : Hp} {l : Addr} {xs : List V} {ss : List Sd} (S : SidL H l xs ss) (e : Same H H') : SidL H' l xs ss :=
  ⟨e _ _ S.hl, S.len, S.l4, fun i d h => let ⟨p, a, b, c⟩ := S.at_ i d h; ⟨p, a, e _ _ b, c⟩⟩
theorem SidL.item {H : Hp} {l : Addr} {xs : List V} {ss : List Sd} (S : SidL H l xs ss) {i : Nat} {y : V} (h : xs[i]? = some y) : ∃ d p, ss[i]? = some d ∧ y = .ref p ∧ H p = some (sideV d.o d.s d.m) ∧ SideP d.o d.s d.m := by
  have hi : i < ss.length := by have := (List.getElem?_eq_some_iff.mp h).1; rw [S.len] at this; exact this
  obtain ⟨p, e, hp, sp⟩ := S.at_ i ss[i] (List.getElem?_eq_getElem hi)
  rw [h] at e
  exact ⟨ss[i], p, List.getElem?_eq_getElem hi, Option.some.inj e, hp, sp⟩
theorem SidL.side {H : Hp} {l : Addr} {xs : List V} {ss : List Sd} (S : SidL H l xs ss) : ∀ d ∈ ss, SideP d.o d.s d.m := fun d hd => by
  obtain ⟨i, hi, rfl⟩ := List.mem_iff_getElem.mp hd
  obtain ⟨_, _, _, sp⟩ := S.at_ i _ (List.getElem?_eq_getElem hi)
  exact sp
def upD (d : Sd) : Bool := !decide (firstM d.s d.m = "down")
def mirD (d : Sd) : Sd := ⟨-d.o, d.s, mir d.m⟩
/-- v, or what some side writes for it, and no less -/
def HiP (ss : List Sd) (v h : Int) : Prop := v ≤ h ∧ (∀ d ∈ ss, dueM d.o d.s d.m v ≤ h) ∧ (h = v ∨ ∃ d ∈ ss, h = dueM d.o d.s d.m v)
def spPerL : Sp := fun vs H Q _ => ∃ (l : Addr) (xs : List V) (ss : List Sd), vs = [.ref l] ∧ SidL H l xs ss ∧ Q (.int (comN ss : Int)) H
def spRais : Sp := fun vs H Q _ => ∃ (l : Addr) (xs : List V) (ss : List Sd), vs = [.ref l] ∧ SidL H l xs ss ∧ ∀ (L : Addr) (ys : List V) (H' : Hp), H L = none → Same H H' → SidL H' L ys (ss.filter upD) → Q (.ref L) H'
def spMirs : Sp := fun vs H Q _ => ∃ (l : Addr) (xs : List V) (ss : List Sd), vs = [.ref l] ∧ SidL H l xs ss ∧ ∀ (L : Addr) (ys : List V) (H' : Hp), H L = none → Same H H' → SidL H' L ys (ss.map mirD) → Q (.ref L) H'
def spHi : Sp := fun vs H Q _ => ∃ (l : Addr) (xs : List V) (ss : List Sd) (v : Int), vs = [.ref l, .int v] ∧ SidL H l xs ss ∧ (-2 ^ 900 < v ∧ v < 2 ^ 900) ∧ ∀ (h : Int) (H' : Hp), HiP ss v h → Same H H' → Q (.int h) H'
/-- a list of sides grows -/
theorem grow_side {H H' : Hp} {D : Addr} {ys : List V} {ts : List Sd} {p : Addr} {d : Sd} (A : ∀ (i : Nat) (e : Sd), ts[i]? = some e → ∃ p : Addr, ys[i]? = some (V.ref p) ∧ H p = some (sideV e.o e.s e.m) ∧ SideP e.o e.s e.m) (len : ys.length = ts.length)
    (k : ∀ b u, H b = some u → b ≠ D → H' b = some u) (hD : H D = some (.lst ys)) (hp : H' p = some (sideV d.o d.s d.m)) (sp : SideP d.o d.s d.m) :
    ∀ (i : Nat) (e : Sd), (ts ++ [d])[i]? = some e → ∃ p' : Addr, (ys ++ [V.ref p])[i]? = some (V.ref p') ∧ H' p' = some (sideV e.o e.s e.m) ∧ SideP e.o e.s e.m := by
  intro i e he
  rcases Nat.lt_or_ge i ts.length with z | z
  · rw [List.getElem?_append_left z] at he
    obtain ⟨p2, e1, hp2, sp2⟩ := A i e he
    exact ⟨p2, by rw [List.getElem?_append_left (by omega)]; exact e1, k _ _ hp2 (ne_of hp2 hD (by intro y; cases y)), sp2⟩
  · rw [List.getElem?_append_right z] at he
    have e0 : i - ts.length = 0 := by
      have := (List.getElem?_eq_some_iff.mp he).1
      simp at this
      omega
    rw [e0] at he
    have ee : e = d := by simpa using he.symm
    subst ee
    exact ⟨p, by rw [List.getElem?_append_right (by omega), show i - ys.length = 0 by omega]; rfl, hp, sp⟩
section
variable {P : Program} {w : World} {K : PySem.W.Frag} {mg : Str → Option Value} {base : Heap} {fB fH fI : Addr} {dB dH dI : FuncData}
theorem ok_commonL {f : Addr} {fd : FuncData} (F : Fun K "common_period" "common_period" s_common_period f fd) (A' : AmG mg) (Pe : Cal P w K mg base "period_of" 1 ["side"] spPerOf fB dB) : FnOk P w K mg base CX0 2 f fd ["sides"] spPerL := by
  refine F.ok sc_common_period (fun vs H Q E h => ?_) (fun cdv A outer s0 H vs Q E hr h => ?_)
  · obtain ⟨l, xs, ss, rfl, _⟩ := h
    rfl
  · obtain ⟨l, xs, ss, rfl, SS, q⟩ := h
    have nd := sc_common_period.nd
    refine ⟨_, pss_cons (ps_set (i := 1) nd rfl (Or.inl rfl) pe_int)
      (pss_cons (ps_for PassesOwn.never rfl (pi_list (pv 0)) (pg_name (i := 2) nd rfl (Or.inl rfl)) (pss_one (ps_set (i := 1) nd rfl (Or.inl rfl) (pe_callBfun cr_lcm2 (by rfl) A'.lcm (pa_cons (pv 1) (pa_cons (pcl Pe hr (by decide) (by rfl) (pa_cons (pv 2) pa_nil)) pa_nil))))))
      (pss_one (ps_ret (pv 1)))), ?_⟩
    walk_at "rd"
    refine ⟨⟨_, SqL.of SS.hl⟩, ?_⟩
    refine for_list (K := K) (a := l) (xs := xs) (fun i st H' => ∃ x2 : Option V, st = [some (.ref l), some (.int (comN (ss.take i) : Int)), x2] ∧ H' = H) ⟨none, rfl, rfl⟩ (fun _ _ _ _ ⟨_, _, e⟩ => e ▸ SqL.of SS.hl) ?_ ?_
    · rintro i y st H' hy ⟨x2, rfl, rfl⟩
      obtain ⟨d, p, ed, rfl, hp, sp⟩ := SS.item hy
      walk_at "rd"
      refine ⟨p, d.o, d.s, d.m, rfl, hp, sp, ?_⟩
      have pb := perM_bd sp
      have cl := com_take SS.side SS.l4 i
      have big : (2 : Nat) ^ 420 < 2 ^ 2000 := Nat.pow_lt_pow_right (by decide) (by decide)
      have big2 : (2 : Nat) ^ 120 < 2 ^ 2000 := Nat.pow_lt_pow_right (by decide) (by decide)
      have e2 : (perM d.s d.m).natAbs = perN d := by unfold perN; omega
      refine ⟨_, _, rfl, ?_, ?_, ?_⟩
      · rw [Int.natAbs_natCast]; omega
      · rw [e2]; unfold perN; omega
      · rw [Int.natAbs_natCast, e2, ← com_snoc ed]
        exact ⟨_, rfl, rfl⟩
    · rintro st H' ⟨x2, rfl, rfl⟩
      rw [SS.len, List.take_length]
      walk_at "rd"
      exact q
theorem filter_snoc {ss : List Sd} {i : Nat} {d : Sd} (h : ss[i]? = some d) : (ss.take (i + 1)).filter upD = (ss.take i).filter upD ++ (if upD d = true then [d] else []) := by
  rw [List.take_succ, h, List.filter_append]
  congr 1
  simp only [Option.toList, List.filter_cons, List.filter_nil]
theorem ok_rais {f : Addr} {fd : FuncData} (F : Fun K "raisers" "raisers" s_raisers f fd) (Rs : Cal P w K mg base "_raises_some" 5 ["side"] spRs fB dB) : FnOk P w K mg base CX0 6 f fd ["sides"] spRais := by
  refine F.ok sc_raisers (fun vs H Q E h => ?_) (fun cdv A outer s0 H vs Q E hr h => ?_)
  · obtain ⟨l, xs, ss, rfl, _⟩ := h
    rfl
  · obtain ⟨l, xs, ss, rfl, SS, q⟩ := h
    have nd := sc_raisers.nd
    refine ⟨_, (pss_one (ps_ret (pe_lc (own := [("side", 1)]) (g := gName 1) rfl nd (pi_list (pv 0)) (blkOk_by (N := ["sides", "side"]) (sc := defScope s_raisers) (by decide +kernel)) (fun _ _ _ _ _ => pg_name (i := 1) nd rfl (Or.inl rfl)) (fun _ _ _ _ _ => (pts_one (pt_val (pcl Rs hr (by decide) (by rfl) (pa_cons (pv 1) pa_nil))))) (fun _ _ _ _ _ => (pv 1))))), ?_⟩
    walk_at "rd"
    refine ⟨⟨_, SqL.of SS.hl⟩, fun L nL => ?_⟩
    refine lc_list (K := K) (a := l) (xs := xs) (fun i H3 => ∃ ys : List V, H3 L = some (.lst ys) ∧ ys.length = ((ss.take i).filter upD).length ∧ i ≤ ss.length ∧ Same H H3 ∧ (∀ (j : Nat) (d : Sd), ((ss.take i).filter upD)[j]? = some d → ∃ p : Addr, ys[j]? = some (V.ref p) ∧ H3 p = some (sideV d.o d.s d.m) ∧ SideP d.o d.s d.m))
      ⟨[], upd_same, rfl, Nat.zero_le _, fun b u z => (upd_ne (ne_of_none z nL)).trans z, fun j d z => by simp at z⟩ (fun _ _ _ ⟨_, _, _, _, sm, _⟩ => SqL.of (sm _ _ SS.hl)) ?_ ?_
    · rintro i y H3 hy ⟨ys, hD, ly, li, sm, at_⟩
      obtain ⟨d, p, ed, rfl, hp, sp⟩ := SS.item hy
      have il : i < ss.length := (List.getElem?_eq_some_iff.mp ed).1
      refine ⟨rfl, ?_⟩
      walk_at "rd"
      refine ⟨p, d.o, d.s, d.m, rfl, sm _ _ hp, sp, fun H4 s34 => ?_⟩
      refine ⟨_, rfl, ?_⟩
      have hD4 := s34 _ _ hD
      refine ite2 (fun z => ?_) (fun z => ?_)
      · have up : upD d = true := z
        walk_at "rd"
        refine ⟨_, hD4, ?_, ys ++ [.ref p], upd_same, ?_, il, ?_, ?_⟩
        · rw [ly]
          exact Nat.lt_of_le_of_lt (Nat.le_trans (List.length_filter_le _ _) (Nat.le_trans (List.length_take_le' _ _) SS.l4)) (by decide)
        · rw [filter_snoc ed, if_pos up, List.length_append, List.length_append, ly]
          rfl
        · intro b u y
          exact (upd_ne (ne_of_none y nL)).trans (s34 _ _ (sm _ _ y))
        · rw [filter_snoc ed, if_pos up]
          exact grow_side at_ ly (fun b u y nb => (upd_ne nb).trans (s34 _ _ y)) hD ((upd_ne (ne_of (s34 _ _ (sm _ _ hp)) hD4 (by intro y; cases y))).trans (s34 _ _ (sm _ _ hp))) sp
      · have up : ¬ upD d = true := z
        refine ⟨ys, hD4, ?_, il, fun b u y => s34 _ _ (sm _ _ y), ?_⟩
        · rw [filter_snoc ed, if_neg up, List.append_nil]
          exact ly
        · rw [filter_snoc ed, if_neg up, List.append_nil]
          intro j e he
          obtain ⟨p2, g1, g2, g3⟩ := at_ j e he
          exact ⟨p2, g1, s34 _ _ g2, g3⟩
    · rintro H3 ⟨ys, hD, ly, li, sm, at_⟩
      rw [SS.len, List.take_length] at ly at_
      walk_at "rd"
      exact q L ys H3 nL sm ⟨hD, ly, Nat.le_trans (List.length_filter_le _ _) SS.l4, at_⟩
theorem ok_mirs {f : Addr} {fd : FuncData} (F : Fun K "mirrors" "mirrors" s_mirrors f fd) (Mi : Cal P w K mg base "mirror" 4 ["side"] spMirror fB dB) : FnOk P w K mg base CX0 5 f fd ["sides"] spMirs := by
  refine F.ok sc_mirrors (fun vs H Q E h => ?_) (fun cdv A outer s0 H vs Q E hr h => ?_)
  · obtain ⟨l, xs, ss, rfl, _⟩ := h
    rfl
  · obtain ⟨l, xs, ss, rfl, SS, q⟩ := h
    have nd := sc_mirrors.nd
    refine ⟨_, (pss_one (ps_ret (pe_lc (own := [("side", 1)]) (g := gName 1) (tt := tYes) rfl nd (pi_list (pv 0)) (blkOk_by (N := ["sides", "side"]) (sc := defScope s_mirrors) (by decide +kernel)) (fun _ _ _ _ _ => pg_name (i := 1) nd rfl (Or.inl rfl)) (fun _ _ _ _ _ => pts_nil) (fun _ _ _ _ _ => (pcl Mi hr (by decide) (by rfl) (pa_cons (pv 1) pa_nil)))))), ?_⟩
    walk_at "rd"
    refine ⟨⟨_, SqL.of SS.hl⟩, fun L nL => ?_⟩
    refine lc_list (K := K) (a := l) (xs := xs) (fun i H3 => ∃ ys : List V, H3 L = some (.lst ys) ∧ ys.length = ((ss.take i).map mirD).length ∧ i ≤ ss.length ∧ Same H H3 ∧ (∀ (j : Nat) (d : Sd), ((ss.take i).map mirD)[j]? = some d → ∃ p : Addr, ys[j]? = some (V.ref p) ∧ H3 p = some (sideV d.o d.s d.m) ∧ SideP d.o d.s d.m))
      ⟨[], upd_same, rfl, Nat.zero_le _, fun b u z => (upd_ne (ne_of_none z nL)).trans z, fun j d z => by simp at z⟩ (fun _ _ _ ⟨_, _, _, _, sm, _⟩ => SqL.of (sm _ _ SS.hl)) ?_ ?_
    · rintro i y H3 hy ⟨ys, hD, ly, li, sm, at_⟩
      obtain ⟨d, p, ed, rfl, hp, sp⟩ := SS.item hy
      have il : i < ss.length := (List.getElem?_eq_some_iff.mp ed).1
      refine ⟨rfl, ?_⟩
      walk_at "rd"
      refine ⟨p, d.o, d.s, d.m, rfl, sm _ _ hp, sp, fun b H4 s34 nb hb => ?_⟩
      have hD4 := s34 _ _ hD
      have es : (ss.take (i + 1)).map mirD = (ss.take i).map mirD ++ [mirD d] := by
        rw [List.take_succ, ed, List.map_append]
        rfl
      walk_at "rd"
      refine ⟨_, hD4, ?_, ys ++ [.ref b], upd_same, ?_, il, ?_, ?_⟩
      · rw [ly, List.length_map]
        exact Nat.lt_of_le_of_lt (Nat.le_trans (List.length_take_le' _ _) SS.l4) (by decide)
      · rw [es, List.length_append, List.length_append, ly]
        rfl
      · intro c u y
        exact (upd_ne (ne_of_none y nL)).trans (s34 _ _ (sm _ _ y))
      · rw [es]
        exact grow_side (d := mirD d) at_ ly (fun c u y nb => (upd_ne nb).trans (s34 _ _ y)) hD ((upd_ne (ne_of hb hD4 (by intro y; cases y))).trans hb) (side_mir sp)
    · rintro H3 ⟨ys, hD, ly, li, sm, at_⟩
      rw [SS.len, List.take_length] at ly at_
      walk_at "rd"
      exact q L ys H3 nL sm ⟨hD, ly, by rw [List.length_map]; exact SS.l4, at_⟩
theorem ok_hi {f : Addr} {fd : FuncData} (F : Fun K "highest" "highest" s_highest f fd) (MT : MaxT mg) (Wr : Cal P w K mg base "written" 3 ["side", "value"] spDue fB dB) : FnOk P w K mg base CX0 4 f fd ["sides", "value"] spHi := by
  refine F.ok sc_highest (fun vs H Q E h => ?_) (fun cdv A outer s0 H vs Q E hr h => ?_)
  · obtain ⟨l, xs, ss, v, rfl, _⟩ := h
    rfl
  · obtain ⟨l, xs, ss, v, rfl, SS, hv, q⟩ := h
    have nd := sc_highest.nd
    refine ⟨_, pss_one (ps_ret (pe_callB (cr_max rfl) (by rfl) MT.max (by decide +kernel) (pa_cons (pe_op op_cat (pe_lst (pa_cons (pv 1) pa_nil)) (pe_lc (own := [("side", 2)]) (g := gName 2) (tt := tYes) rfl nd (pi_list (pv 0)) (blkOk_by (N := ["sides", "value", "side"]) (sc := defScope s_highest) (by decide +kernel)) (fun _ _ _ _ _ => pg_name (i := 2) nd rfl (Or.inl rfl)) (fun _ _ _ _ _ => pts_nil) (fun _ _ _ _ _ => pcl Wr hr (by decide) (by rfl) (pa_cons (pv 2) (pa_cons (pv 1) pa_nil))))) pa_nil))), ?_⟩
    walk_at "rd"
    refine ⟨(by show 1 ≤ sizeLine; decide), fun a na => ?_⟩
    have fa : upd H a (.lst [.int v]) a = some (.lst [.int v]) := upd_same
    have s1 : Same H (upd H a (.lst [.int v])) := fun b u z => (upd_ne (ne_of_none z na)).trans z
    generalize upd H a (.lst [.int v]) = H1 at fa s1 ⊢
    walk_at "rd"
    refine ⟨⟨_, SqL.of (s1 _ _ SS.hl)⟩, fun L nL => ?_⟩
    refine lc_list (K := K) (a := l) (xs := xs) (fun i H3 => H3 L = some (.lst (((ss.take i).map fun d => dueM d.o d.s d.m v).map V.int)) ∧ i ≤ ss.length ∧ Same H1 H3)
      ⟨upd_same, Nat.zero_le _, fun b u z => (upd_ne (ne_of_none z nL)).trans z⟩ (fun _ _ _ ⟨_, _, sm⟩ => SqL.of (sm _ _ (s1 _ _ SS.hl))) ?_ ?_
    · rintro i y H3 hy ⟨hD, li, sm⟩
      obtain ⟨d, p, ed, rfl, hp, sp⟩ := SS.item hy
      have il : i < ss.length := (List.getElem?_eq_some_iff.mp ed).1
      refine ⟨rfl, ?_⟩
      walk_at "rd"
      refine ⟨p, d.o, d.s, d.m, v, rfl, sm _ _ (s1 _ _ hp), sp, (by unfold Bd; omega), fun H4 s34 => ?_⟩
      have hD4 := s34 _ _ hD
      have es : (ss.take (i + 1)).map (fun d => dueM d.o d.s d.m v) = (ss.take i).map (fun d => dueM d.o d.s d.m v) ++ [dueM d.o d.s d.m v] := by
        rw [List.take_succ, ed, List.map_append]
        rfl
      walk_at "rd"
      refine ⟨_, hD4, ?_, ?_, il, fun b u y => (upd_ne (ne_of_none y nL)).trans (s34 _ _ (sm _ _ y))⟩
      · rw [List.length_map, List.length_map]
        exact Nat.lt_of_le_of_lt (Nat.le_trans (List.length_take_le' _ _) SS.l4) (by decide)
      · rw [es, List.map_append]
        exact upd_same
    · rintro H3 ⟨hD, li, sm⟩
      rw [SS.len, List.take_length] at hD
      have l4 := SS.l4
      walk_at "rd"
      refine ⟨a, L, _, _, rfl, rfl, sm _ _ fa, hD, (by show 1 + _ ≤ sizeLine; rw [List.length_map, List.length_map]; exact Nat.le_trans (by omega : 1 + ss.length ≤ 8) (by decide)), fun c nc => ?_⟩
      refine ⟨c, v :: ss.map fun d => dueM d.o d.s d.m v, rfl, SqL.of upd_same, Nat.succ_pos _, fun m mi mm => ?_⟩
      refine q m _ ⟨mm v List.mem_cons_self, fun d hd => mm _ (List.mem_cons_of_mem _ (List.mem_map.mpr ⟨d, hd, rfl⟩)), ?_⟩ (fun b u z => (upd_ne (ne_of_none (sm _ _ (s1 _ _ z)) nc)).trans (sm _ _ (s1 _ _ z)))
      rcases List.mem_cons.mp mi with e | e
      · exact .inl e
      · obtain ⟨d, hd, e2⟩ := List.mem_map.mp e
        exact .inr ⟨d, hd, e2.symm⟩
end
end HT
namespace L2
open PySem PySem.Spec PyProof.Rows PySem.W PySem.SeqAt
theorem reads_ints {h : Heap} : ∀ {ns : List Int} {its : List Value}, Vals (ns.map V.int) its → ∃ as, ReadsAll h its (ns.map PyData.int) as
  | [], its, r => by rw [List.map_nil] at r; cases r; exact ⟨_, .nil⟩
  | n :: ns, its, r => by
    rw [List.map_cons] at r
    cases r with
    | @cons x y xs ys h1 t =>
      obtain ⟨as, ra⟩ := reads_ints (h := h) t
      obtain ⟨tk, rfl⟩ := h1
      exact ⟨_, .cons (.int n tk) ra⟩
theorem depth_ints : ∀ ns : List Int, PyData.depthAll (ns.map PyData.int) = 0
  | [] => rfl
  | n :: ns => by
    show max 0 (PyData.depthAll (ns.map PyData.int)) = 0
    rw [depth_ints ns]; rfl
theorem alike_ints (ns : List Int) : AlikeAll (ns.map PyData.int) := by
  refine ⟨fun x hx y hy => ?_, fun x hx e => ?_⟩
  · obtain ⟨a, _, rfl⟩ := List.mem_map.mp hx
    obtain ⟨b, _, rfl⟩ := List.mem_map.mp hy
    simp [alike]
  · obtain ⟨a, _, rfl⟩ := List.mem_map.mp hx
    cases e
theorem fold_min : ∀ (ns : List Int) (n : Int), ns.foldl min n ∈ n :: ns ∧ ∀ y ∈ n :: ns, ns.foldl min n ≤ y
  | [], n => ⟨List.mem_cons_self, fun y hy => by rw [List.mem_singleton.mp hy]; exact Int.le_refl _⟩
  | k :: r, n => by
    obtain ⟨a, b⟩ := fold_min r (min n k)
    rw [List.foldl_cons]
    have m0 := b (min n k) List.mem_cons_self
    refine ⟨?_, fun y hy => ?_⟩
    · rcases List.mem_cons.mp a with e | e
      · rw [e]
        by_cases h : n ≤ k
        · rw [show min n k = n by omega]; exact List.mem_cons_self
        · rw [show min n k = k by omega]; exact List.mem_cons_of_mem _ List.mem_cons_self
      · exact List.mem_cons_of_mem _ (List.mem_cons_of_mem _ e)
    · rcases List.mem_cons.mp hy with e | e
      · omega
      · rcases List.mem_cons.mp e with e | e
        · omega
        · exact b y (List.mem_cons_of_mem _ e)
theorem fold_max : ∀ (ns : List Int) (n : Int), ns.foldl max n ∈ n :: ns ∧ ∀ y ∈ n :: ns, y ≤ ns.foldl max n
  | [], n => ⟨List.mem_cons_self, fun y hy => by rw [List.mem_singleton.mp hy]; exact Int.le_refl _⟩
  | k :: r, n => by
    obtain ⟨a, b⟩ := fold_max r (max n k)
    rw [List.foldl_cons]
    have m0 := b (max n k) List.mem_cons_self
    refine ⟨?_, fun y hy => ?_⟩
    · rcases List.mem_cons.mp a with e | e
      · rw [e]
        by_cases h : k ≤ n
        · rw [show max n k = n by omega]; exact List.mem_cons_self
        · rw [show max n k = k by omega]; exact List.mem_cons_of_mem _ List.mem_cons_self
      · exact List.mem_cons_of_mem _ (List.mem_cons_of_mem _ e)
    · rcases List.mem_cons.mp hy with e | e
      · omega
      · rcases List.mem_cons.mp e with e | e
        · omega
        · exact b y (List.mem_cons_of_mem _ e)
def rMinDf (K : PySem.W.Frag) : List V → List V → Hp → VK → Prop := fun vs zs H Q => ∃ (a : Addr) (ns : List Int) (d : V), vs = [V.ref a] ∧ zs = [d] ∧ SqL K H a (ns.map V.int) ∧ (ns = [] → Q d H) ∧ ∀ m, m ∈ ns → (∀ y, y ∈ ns → m ≤ y) → Q (.int m) H
def rMaxDf (K : PySem.W.Frag) : List V → List V → Hp → VK → Prop := fun vs zs H Q => ∃ (a : Addr) (ns : List Int) (d : V), vs = [V.ref a] ∧ zs = [d] ∧ SqL K H a (ns.map V.int) ∧ (ns = [] → Q d H) ∧ ∀ m, m ∈ ns → (∀ y, y ∈ ns → y ≤ m) → Q (.int m) H
theorem cr_minDf {X : Cx} (hc : X.calm = true) (hu : X.A.units + 64 < cLine) : CallRK X (.builtin "min") [Str.ofString "default"] (rMinDf X.K) := by
  intro pins s σ H vs zs us ws Q I r rz h
  obtain ⟨a, ns, d, rfl, rfl, hs, q0, q1⟩ := h
  obtain ⟨its, rv, hl, _⟩ := I.list hs
  obtain rfl := Vals.ref1 r
  obtain ⟨w1, rfl, e1⟩ := vals1 rz
  obtain ⟨as, ra⟩ := reads_ints (h := s.heap) rv
  refine min_list_default (I.ok.hd hc) hl.isList (by simpa using ra) (alike_ints ns) (by rw [depth_ints]; omega) (fun e h' tk hk => ?_) (fun y ys i v h' tk bs e hv rd hk => ?_)
  · cases ns with
    | nil => exact ⟨d, H, I.kept hk, e1, q0 rfl⟩
    | cons n r => cases e
  · cases ns with
    | nil => cases e
    | cons n r =>
      rw [List.map_cons] at e
      injection e with ey es
      subst ey es
      rw [minD_ints] at rd
      obtain ⟨f1, f2⟩ := fold_min r n
      cases rd with
      | int _ t => exact ⟨.int _, H, I.kept hk, ⟨t, rfl⟩, q1 _ f1 f2⟩
theorem cr_maxDf {X : Cx} (hc : X.calm = true) (hu : X.A.units + 64 < cLine) : CallRK X (.builtin "max") [Str.ofString "default"] (rMaxDf X.K) := by
  intro pins s σ H vs zs us ws Q I r rz h
  obtain ⟨a, ns, d, rfl, rfl, hs, q0, q1⟩ := h
  obtain ⟨its, rv, hl, _⟩ := I.list hs
  obtain rfl := Vals.ref1 r
  obtain ⟨w1, rfl, e1⟩ := vals1 rz
  obtain ⟨as, ra⟩ := reads_ints (h := s.heap) rv
  refine max_list_default (I.ok.hd hc) hl.isList (by simpa using ra) (alike_ints ns) (by rw [depth_ints]; omega) (fun e h' tk hk => ?_) (fun y ys i v h' tk bs e hv rd hk => ?_)
  · cases ns with
    | nil => exact ⟨d, H, I.kept hk, e1, q0 rfl⟩
    | cons n r => cases e
  · cases ns with
    | nil => cases e
    | cons n r =>
      rw [List.map_cons] at e
      injection e with ey es
      subst ey es
      rw [maxD_ints] at rd
      obtain ⟨f1, f2⟩ := fold_max r n
      cases rd with
      | int _ t => exact ⟨.int _, H, I.kept hk, ⟨t, rfl⟩, q1 _ f1 f2⟩
end L2
namespace HT
open PySem L2
theorem scal_some {x : Int} : V.int x ≠ V.non := fun z => by cases z
/-- a value that two sides do not raise -/
def UnR (d e : Sd) (x : Int) : Prop := dueM d.o d.s d.m x ≤ x ∧ dueM e.o e.s e.m x ≤ x
def BB (d e : Sd) (a b : Nat) (x : Int) : Prop := InB (d.o + d.s * (a : Int)) (below (mir d.m) d.s (a : Int)) (perM d.s d.m) x ∧ InB (e.o + e.s * (b : Int)) (below (mir e.m) e.s (b : Int)) (perM e.s e.m) x
theorem unr_bb {d e : Sd} {x : Int} (hd : SideP d.o d.s d.m) (he : SideP e.o e.s e.m) : UnR d e x ↔ ∃ a b : Nat, a < (figsN d.s d.m).toNat ∧ b < (figsN e.s e.m).toNat ∧ BB d e a b x := by
  unfold UnR BB
  rw [unr_iff hd.md hd.s0, unr_iff he.md he.s0]
  constructor
  · rintro ⟨⟨k, k0, k1, h⟩, j, j0, j1, g⟩
    refine ⟨k.toNat, j.toNat, by omega, by omega, ?_, ?_⟩
    · rw [Int.toNat_of_nonneg k0]; exact h
    · rw [Int.toNat_of_nonneg j0]; exact g
  · rintro ⟨a, b, h1, h2, h, g⟩
    exact ⟨⟨(a : Int), by omega, by omega, h⟩, (b : Int), by omega, by omega, g⟩
/-- the pairs that are looked at -/
def DoneP (n2 i j a b : Nat) : Prop := (a < i ∧ b < n2) ∨ (a = i ∧ b < j)
structure FndP (d e : Sd) (v : Int) (D : Nat → Nat → Prop) (ns : List Int) : Prop where
  from_ : ∀ n ∈ ns, ∃ a b, D a b ∧ LeastI (BB d e a b) v (some n)
  to_ : ∀ a b, D a b → ∃ r, LeastI (BB d e a b) v r ∧ ∀ x, r = some x → x ∈ ns
def spTwo : Sp := fun vs H Q _ => ∃ (p q : Addr) (d e : Sd) (v : Int), vs = [.ref p, .ref q, .int v] ∧ H p = some (sideV d.o d.s d.m) ∧ SideP d.o d.s d.m ∧ H q = some (sideV e.o e.s e.m) ∧ SideP e.o e.s e.m ∧ ∀ r H', LeastI (UnR d e) v r → Same H H' → Q (oV r) H'
theorem fnd_end {d e : Sd} {v : Int} {ns : List Int} {n1 n2 : Nat} (hd : SideP d.o d.s d.m) (he : SideP e.o e.s e.m) (e1 : n1 = (figsN d.s d.m).toNat) (e2 : n2 = (figsN e.s e.m).toNat) (F : FndP d e v (DoneP n2 n1 0) ns) :
    (ns = [] → LeastI (UnR d e) v none) ∧ ∀ m, m ∈ ns → (∀ y, y ∈ ns → m ≤ y) → LeastI (UnR d e) v (some m) := by
  have key : ∀ y, v ≤ y → UnR d e y → ∃ x ∈ ns, x ≤ y := by
    intro y y0 u
    obtain ⟨a, b, h1, h2, h⟩ := (unr_bb hd he).mp u
    obtain ⟨r, L, m⟩ := F.to_ a b (.inl ⟨by omega, by omega⟩)
    cases r with
    | none => exact absurd h (L y y0)
    | some x =>
      refine ⟨x, m x rfl, ?_⟩
      by_cases g : y < x
      · exact absurd h (L.2.2 y y0 g)
      · omega
  refine ⟨fun z y y0 u => ?_, fun m mi mm => ?_⟩
  · obtain ⟨x, hx, _⟩ := key y y0 u
    rw [z] at hx
    exact absurd hx List.not_mem_nil
  · obtain ⟨a, b, D, L⟩ := F.from_ m mi
    have ab : a < (figsN d.s d.m).toNat ∧ b < (figsN e.s e.m).toNat := by
      rcases D with ⟨x, y⟩ | ⟨x, y⟩ <;> omega
    refine ⟨L.1, (unr_bb hd he).mpr ⟨a, b, ab.1, ab.2, L.2.1⟩, fun y y0 y1 u => ?_⟩
    obtain ⟨x, hx, xy⟩ := key y y0 u
    have := mm x hx
    omega
theorem fnd_add {d e : Sd} {v : Int} {ns : List Int} {n2 i j : Nat} {r : Option Int} (F : FndP d e v (DoneP n2 i j) ns) (L : LeastI (BB d e i j) v r) : FndP d e v (DoneP n2 i (j + 1)) (ns ++ r.toList) := by
  refine ⟨fun n hn => ?_, fun a b D => ?_⟩
  · rcases List.mem_append.mp hn with h | h
    · obtain ⟨a, b, D, L'⟩ := F.from_ n h
      refine ⟨a, b, ?_, L'⟩
      rcases D with ⟨x, y⟩ | ⟨x, y⟩
      · exact .inl ⟨x, y⟩
      · exact .inr ⟨x, by omega⟩
    · cases r with
      | none => exact absurd h List.not_mem_nil
      | some x =>
        rw [List.mem_singleton.mp h]
        exact ⟨i, j, .inr ⟨rfl, by omega⟩, L⟩
  · by_cases g : a = i ∧ b = j
    · obtain ⟨rfl, rfl⟩ := g
      refine ⟨r, L, fun x hx => ?_⟩
      subst hx
      exact List.mem_append_right _ List.mem_cons_self
    · have D' : DoneP n2 i j a b := by
        rcases D with ⟨x, y⟩ | ⟨x, y⟩
        · exact .inl ⟨x, y⟩
        · exact .inr ⟨x, by omega⟩
      obtain ⟨r', L', m⟩ := F.to_ a b D'
      exact ⟨r', L', fun x hx => List.mem_append_left _ (m x hx)⟩
theorem fnd_row {d e : Sd} {v : Int} {ns : List Int} {n2 i : Nat} (F : FndP d e v (DoneP n2 i n2) ns) : FndP d e v (DoneP n2 (i + 1) 0) ns := by
  refine ⟨fun n hn => ?_, fun a b D => ?_⟩
  · obtain ⟨a, b, D, L⟩ := F.from_ n hn
    refine ⟨a, b, ?_, L⟩
    rcases D with ⟨x, y⟩ | ⟨x, y⟩
    · exact .inl ⟨by omega, y⟩
    · exact .inl ⟨by omega, y⟩
  · refine F.to_ a b ?_
    rcases D with ⟨x, y⟩ | ⟨x, y⟩
    · by_cases g : a = i
      · exact .inr ⟨g, y⟩
      · exact .inl ⟨by omega, y⟩
    · omega
section
variable {P : Program} {w : World} {K : PySem.W.Frag} {mg : Str → Option Value} {base : Heap} {fB fH fI : Addr} {dB dH dI : FuncData}
theorem ok_two {f : Addr} {fd : FuncData} (F : Fun K "_first_unraised_by_two" "_first_unraised_by_two" s_first_unraised_by_two f fd) (MT : MaxT mg) (Un : CalD P w K mg base "unraised" 5 ["side", "least"] [.int 1] spUnr fB dB) (F2 : Cal P w K mg base "first_in_both" 105 ["one", "other", "value"] spFI2 fH dH) : FnOk P w K mg base CX0 106 f fd ["first", "second", "value"] spTwo := by
  refine F.ok sc_first_unraised_by_two (fun vs H Q E h => ?_) (fun cdv A outer s0 H vs Q E hr h => ?_)
  · obtain ⟨p, q, d, e, v, rfl, _⟩ := h
    rfl
  · obtain ⟨p, q, d, e, v, rfl, hp, S, hq, T, qq⟩ := h
    have nd := sc_first_unraised_by_two.nd
    refine ⟨_, pss_cons (ps_set (i := 3) nd rfl (Or.inl rfl) (pe_lst pa_nil))
      (pss_cons (ps_for PassesOwn.never rfl (pi_list (pcd Un hr (by decide) (by rfl) (pa_cons (pv 0) pa_nil))) (pg_name (i := 4) nd rfl (Or.inl rfl))
        (pss_one (ps_for PassesOwn.never rfl (pi_list (pcd Un hr (by decide) (by rfl) (pa_cons (pv 1) pa_nil))) (pg_name (i := 5) nd rfl (Or.inl rfl))
          (pss_cons (ps_set (i := 6) nd rfl (Or.inl rfl) (pcl F2 hr (by decide) (by rfl) (pa_cons (pv 4) (pa_cons (pv 5) (pa_cons (pv 2) pa_nil)))))
          (pss_one (ps_if (pt_cmpR op_notN (pv 6) pe_non (nomark _)) (pss_one (ps_expr (pe_bm PySem.F.plainAttrs_list PySem.F.slot_list_append PySem.F.type_list_append mt_append (pv 3) (pa_cons (pv 6) pa_nil)))) pss_nil))))))
      (pss_one (ps_ret (pe_callBK (cr_minDf rfl hr.units) (by rfl) MT.min (by decide +kernel) (pa_cons (pv 3) pa_nil) (pk_cons pe_non pk_nil))))), ?_⟩
    have fb1 := figs_bd (m := d.m) S.s0
    have fb2 := figs_bd (m := e.m) T.s0
    walk_at "rd"
    refine ⟨(by show 0 ≤ sizeLine; decide), fun N nN => ?_⟩
    have s01 : Same H (upd H N (.lst [])) := fun b u z => (upd_ne (ne_of_none z nN)).trans z
    have fN : upd H N (.lst []) N = some (.lst []) := upd_same
    generalize upd H N (.lst []) = H1 at s01 fN ⊢
    walk_at "rd"
    refine ⟨p, d.o, d.s, d.m, rfl, s01 _ _ hp, S, fun L1 H2 nL1 s12 B1 => ?_⟩
    obtain ⟨ps1, hL1, lp1, at1⟩ := B1
    walk_at "rd"
    refine ⟨⟨_, SqL.of hL1⟩, ?_⟩
    have hN2 := s12 _ _ fN
    have nL1N : L1 ≠ N := fun z => by rw [z, fN] at nL1; cases nL1
    -- what stands through both loops
    have bel1 : ∀ (j : Nat) (b : Addr), ps1[j]? = some b → b ≠ N := fun j b hb z => by
      have := at1 j b hb
      rw [z, hN2] at this
      cases this
    refine for_list (K := K) (a := L1) (xs := ps1.map V.ref) (fun i st H' => ∃ (x4 x5 x6 : Option V) (ns : List Int), st = [some (.ref p), some (.ref q), some (.int v), some (.ref N), x4, x5, x6] ∧ (∀ b u, H2 b = some u → b ≠ N → H' b = some u) ∧ H' N = some (.lst (ns.map V.int)) ∧ ns.length ≤ 2 * i ∧ FndP d e v (DoneP (figsN e.s e.m).toNat i 0) ns)
      ⟨none, none, none, [], rfl, fun b u z _ => z, hN2, Nat.zero_le _, ⟨fun n h => absurd h List.not_mem_nil, fun a b D => by rcases D with ⟨x, _⟩ | ⟨_, y⟩ <;> omega⟩⟩ (fun _ _ _ _ ⟨_, _, _, _, _, pr, _⟩ => SqL.of (pr _ _ hL1 nL1N)) ?_ ?_
    · rintro i y st H3 hy ⟨x4, x5, x6, ns, rfl, pr, hN, ln, FP⟩
      obtain ⟨b1, hb1, rfl⟩ : ∃ b, ps1[i]? = some b ∧ y = .ref b := by
        rw [List.getElem?_map] at hy
        cases e : ps1[i]? with
        | none => rw [e] at hy; cases hy
        | some b => rw [e] at hy; exact ⟨b, rfl, (Option.some.inj hy).symm⟩
      have il : i < 2 := by
        have := (List.getElem?_eq_some_iff.mp hb1).1
        omega
      have hq3 : H3 q = some (sideV e.o e.s e.m) := pr _ _ (s12 _ _ (s01 _ _ hq)) (ne_of (s01 _ _ hq) fN (by intro z; cases z))
      walk_at "rd"
      refine ⟨q, e.o, e.s, e.m, rfl, hq3, T, fun L2 H4 nL2 s34 B2 => ?_⟩
      obtain ⟨ps2, hL2, lp2, at2⟩ := B2
      have hN4 := s34 _ _ hN
      have nL2N : L2 ≠ N := fun z => by rw [z, hN] at nL2; cases nL2
      walk_at "rd"
      refine ⟨⟨_, SqL.of hL2⟩, ?_⟩
      refine for_list (K := K) (a := L2) (xs := ps2.map V.ref) (fun j st H' => ∃ (x5 x6 : Option V) (ns : List Int), st = [some (.ref p), some (.ref q), some (.int v), some (.ref N), some (.ref b1), x5, x6] ∧ (∀ b u, H4 b = some u → b ≠ N → H' b = some u) ∧ H' N = some (.lst (ns.map V.int)) ∧ ns.length ≤ 2 * i + j ∧ FndP d e v (DoneP (figsN e.s e.m).toNat i j) ns)
        ⟨x5, x6, ns, rfl, fun b u z _ => z, hN4, ln, FP⟩ (fun _ _ _ _ ⟨_, _, _, _, pr, _⟩ => SqL.of (pr _ _ hL2 nL2N)) ?_ ?_
      · rintro j y st H5 hy ⟨y5, y6, ns, rfl, pr4, hN5, ln, FP⟩
        obtain ⟨b2, hb2, rfl⟩ : ∃ b, ps2[j]? = some b ∧ y = .ref b := by
          rw [List.getElem?_map] at hy
          cases e : ps2[j]? with
          | none => rw [e] at hy; cases hy
          | some b => rw [e] at hy; exact ⟨b, rfl, (Option.some.inj hy).symm⟩
        have jl : j < 2 := by
          have := (List.getElem?_eq_some_iff.mp hb2).1
          omega
        have g1 := at1 i b1 hb1
        have g1n := bel1 i b1 hb1
        have g1' := pr4 _ _ (s34 _ _ (pr _ _ g1 g1n)) g1n
        have g2 := at2 j b2 hb2
        have g2n : b2 ≠ N := fun z => by rw [z, hN4] at g2; cases g2
        have g2' := pr4 _ _ g2 g2n
        walk_at "rd"
        refine ⟨b1, b2, _, _, _, _, _, _, v, rfl, g1', blkP_of S, g2', blkP_of T, fun r L => ?_⟩
        have FP2 := fnd_add FP L
        walk_at "rd"
        cases r with
        | none =>
          refine ⟨rfl, ?_⟩
          walk_at "rd"
          rw [Option.toList_none, List.append_nil] at FP2
          exact ⟨_, _, ns, rfl, pr4, hN5, by omega, FP2⟩
        | some x =>
          refine ⟨rfl, ?_⟩
          walk_at "rd"
          refine ⟨.inl ⟨rfl, _, SqL.of hN5⟩, ?_⟩
          walk_at "rd"
          refine ⟨N, _, _, rfl, rfl, hN5, (by rw [List.length_map]; exact Nat.lt_of_le_of_lt ln (Nat.lt_of_lt_of_le (by omega : 2 * i + j < 100) (by decide))), ?_⟩
          refine ⟨_, _, ns ++ [x], rfl, fun b u z nb => (upd_ne nb).trans (pr4 _ _ z nb), ?_, by rw [List.length_append]; show ns.length + 1 ≤ _; omega, FP2⟩
          rw [List.map_append]
          exact upd_same
      · rintro st H5 ⟨y5, y6, ns, rfl, pr4, hN5, ln, FP⟩
        rw [List.length_map, lp2] at FP ln
        refine ⟨_, _, _, ns, rfl, fun b u z nb => pr4 _ _ (s34 _ _ (pr _ _ z nb)) nb, hN5, by omega, fnd_row FP⟩
    · rintro st H3 ⟨x4, x5, x6, ns, rfl, pr, hN, ln, FP⟩
      rw [List.length_map, lp1] at FP
      obtain ⟨en, em⟩ := fnd_end S T rfl rfl FP
      have sH : Same H H3 := fun b u z => pr _ _ (s12 _ _ (s01 _ _ z)) (ne_of_none z nN)
      walk_at "rd"
      refine ⟨N, ns, .non, rfl, rfl, SqL.of hN, fun z => qq none _ (en z) sH, fun m mi mm => qq (some m) _ (em m mi mm) sH⟩
end
end HT
namespace HT
open PySem L2
/-- no side raises the value -/
def UnA (ss : List Sd) (x : Int) : Prop := ∀ d ∈ ss, dueM d.o d.s d.m x ≤ x
theorem com_dvd : ∀ (ss : List Sd) (n : Nat), n ∣ ss.foldl (fun n d => n.lcm (perN d)) n ∧ ∀ d ∈ ss, perN d ∣ ss.foldl (fun n d => n.lcm (perN d)) n
  | [], n => ⟨Nat.dvd_refl _, fun d h => absurd h List.not_mem_nil⟩
  | d :: ss, n => by
    obtain ⟨a, b⟩ := com_dvd ss (n.lcm (perN d))
    rw [List.foldl_cons]
    refine ⟨Nat.dvd_trans (Nat.dvd_lcm_left _ _) a, fun e he => ?_⟩
    rcases List.mem_cons.mp he with z | z
    · rw [z]; exact Nat.dvd_trans (Nat.dvd_lcm_right _ _) a
    · exact b e z
theorem per_com {ss : List Sd} {d : Sd} (h : d ∈ ss) (hd : SideP d.o d.s d.m) : perM d.s d.m ∣ (comN ss : Int) := by
  have pa := perM_bd hd
  have ea : ((perN d : Nat) : Int) = perM d.s d.m := Int.toNat_of_nonneg (by omega)
  rw [← ea]
  exact Int.natCast_dvd_natCast.mpr ((com_dvd ss 1).2 d h)
theorem una_com {ss : List Sd} (hs : ∀ d ∈ ss, SideP d.o d.s d.m) (x t : Int) : UnA ss (x + (comN ss : Int) * t) ↔ UnA ss x := by
  have key : ∀ d ∈ ss, dueM d.o d.s d.m (x + (comN ss : Int) * t) = dueM d.o d.s d.m x + (comN ss : Int) * t := fun d hd =>
    due_dvd (hs d hd).md (hs d hd).s0 (Int.dvd_mul_of_dvd_left (per_com hd (hs d hd)))
  constructor
  · intro h d hd
    have := h d hd
    rw [key d hd] at this
    omega
  · intro h d hd
    rw [key d hd]
    have := h d hd
    omega
theorem una_none {ss : List Sd} (hs : ∀ d ∈ ss, SideP d.o d.s d.m) {v u : Int} (hu : v + (comN ss : Int) ≤ u) (no : ∀ y, v ≤ y → y < u → ¬ UnA ss y) : LeastI (UnA ss) v none := by
  intro y y0 c
  have cp : 0 < (comN ss : Int) := by
    have := com_pos ss 1 (by decide) hs
    show 0 < ((ss.foldl (fun n d => n.lcm (perN d)) 1 : Nat) : Int)
    omega
  have r0 := Int.emod_nonneg (y - v) (show (comN ss : Int) ≠ 0 by omega)
  have r1 := Int.emod_lt_of_pos (y - v) cp
  have ee := Int.emod_add_mul_ediv (y - v) (comN ss : Int)
  refine no (v + (y - v) % (comN ss : Int)) (by omega) (by omega) ?_
  have := una_com hs (v + (y - v) % (comN ss : Int)) ((y - v) / (comN ss : Int))
  rw [show v + (y - v) % (comN ss : Int) + (comN ss : Int) * ((y - v) / (comN ss : Int)) = y by omega] at this
  exact this.mp c
theorem hi_step {ss : List Sd} (hs : ∀ d ∈ ss, SideP d.o d.s d.m) {v u h : Int} (no : ∀ y, v ≤ y → y < u → ¬ UnA ss y) (hp : HiP ss u h) (ne : h ≠ u) : u < h ∧ ∀ y, v ≤ y → y < h → ¬ UnA ss y := by
  obtain ⟨a, b, c⟩ := hp
  refine ⟨by omega, fun y y0 y1 un => ?_⟩
  by_cases g : y < u
  · exact no y y0 g un
  · rcases c with e | ⟨d, hd, e⟩
    · exact ne e
    · have m := due_le (o := d.o) (hs d hd).md (hs d hd).s0 (show u ≤ y by omega)
      have := un d hd
      omega
theorem hi_bd {ss : List Sd} (hs : ∀ d ∈ ss, SideP d.o d.s d.m) {u h : Int} (hp : HiP ss u h) : h < u + 10 ^ 31 := by
  obtain ⟨a, b, c⟩ := hp
  rcases c with e | ⟨d, hd, e⟩
  · omega
  · have := due_near (o := d.o) (v := u) (hs d hd).md (hs d hd).s0
    have := (hs d hd).s1
    omega
theorem una_two {d e : Sd} {x : Int} : UnR d e x ↔ UnA [d, e] x := by
  constructor
  · rintro ⟨a, b⟩ f hf
    rcases List.mem_cons.mp hf with z | z
    · rw [z]; exact a
    · rw [List.mem_singleton.mp z]; exact b
  · intro h
    exact ⟨h d List.mem_cons_self, h e (List.mem_cons_of_mem _ List.mem_cons_self)⟩
theorem down_le {o s v : Int} (hs : 1 ≤ s) : dueM o s "down" v ≤ v := by
  have := Int.emod_add_mul_ediv (v - o) s
  have := Int.emod_nonneg (v - o) (show s ≠ 0 by omega)
  unfold dueM figM
  rw [go_down, if_neg (by decide)]
  omega
theorem una_filter {ss : List Sd} (hs : ∀ d ∈ ss, SideP d.o d.s d.m) (x : Int) : UnA (ss.filter upD) x ↔ UnA ss x := by
  constructor
  · intro h d hd
    by_cases u : upD d = true
    · exact h d (List.mem_filter.mpr ⟨hd, u⟩)
    · have e : firstM d.s d.m = "down" := by
        unfold upD at u
        simpa using u
      have f := due_form (o := d.o) x (hs d hd).md (hs d hd).s0
      rw [e] at f
      rw [← f]
      exact down_le (hs d hd).s0
  · intro h d hd
    exact h d (List.mem_filter.mp hd).1
def FewP (ss : List Sd) : Prop := (ss.filter upD).length ≤ 2 ∨ comN (ss.filter upD) ≤ 100000
def spFU : Sp := fun vs H Q _ => ∃ (l : Addr) (xs : List V) (ss : List Sd) (v : Int), vs = [.ref l, .int v] ∧ SidL H l xs ss ∧ (-2 ^ 800 < v ∧ v < 2 ^ 800) ∧ ∀ r H', LeastI (UnA ss) v r → Same H H' → Q (oV r) H'
def spCF : Sp := fun vs H Q _ => ∃ (l : Addr) (xs : List V) (ss : List Sd), vs = [.ref l] ∧ SidL H l xs ss ∧ (ss.length ≤ 2 ∨ comN ss ≤ 100000) ∧ Q .non H
def spReach : Sp := fun vs H Q _ => ∃ (l : Addr) (xs : List V) (ss : List Sd) (v : Int), vs = [.ref l, .int v] ∧ SidesAt H l xs ss ∧ (-2 ^ 790 < v ∧ v < 2 ^ 790) ∧ FewP ss ∧ FewP (ss.map mirD) ∧
  ∀ (lo hi : Option Int) (p : Addr) (H' : Hp), LeastI (UnA ss) v hi → LeastI (UnA (ss.map mirD)) (-v) lo → Same H H' → H p = none → H' p = some (.tup [oV (lo.map fun x => -x), oV hi]) → Q (.ref p) H'
section
variable {P : Program} {w : World} {K : PySem.W.Frag} {mg : Str → Option Value} {base : Heap} {fB fH fI fJ fL fM fN : Addr} {dB dH dI dJ dL dM dN : FuncData}
theorem ok_fu {f : Addr} {fd : FuncData} (F : Fun K "_first_unraised" "_first_unraised" s_first_unraised f fd) (A' : AmG mg) (Tw : Cal P w K mg base "_first_unraised_by_two" 106 ["first", "second", "value"] spTwo fB dB) (Co : Cal P w K mg base "common_period" 2 ["sides"] spPerL fH dH) (Hi : Cal P w K mg base "highest" 4 ["sides", "value"] spHi fI dI) : FnOk P w K mg base CX0 107 f fd ["raising", "value"] spFU := by
  refine F.ok sc_first_unraised (fun vs H Q E h => ?_) (fun cdv A outer s0 H vs Q E hr h => ?_)
  · obtain ⟨l, xs, ss, v, rfl, _⟩ := h
    rfl
  · obtain ⟨l, xs, ss, v, rfl, SS, hv, q⟩ := h
    have nd := sc_first_unraised.nd
    refine ⟨_, pss_cons (ps_if (pt_cmpR op_eq (pe_callB call_len_seq (by rfl) A'.len PySem.boot_len (pa_cons (pv 0) pa_nil)) pe_int (nomark _)) (pss_one (ps_ret (pcl Tw hr (by decide) (by rfl) (pa_cons (pe_ix ix_list (pv 0) pe_int (fun _ _ => rfl)) (pa_cons (pe_ix ix_list (pv 0) pe_int (fun _ _ => rfl)) (pa_cons (pv 1) pa_nil)))))) pss_nil)
      (pss_cons (ps_set (i := 2) nd rfl (Or.inl rfl) (pe_op op_add (pv 1) (pcl Co hr (by decide) (by rfl) (pa_cons (pv 0) pa_nil))))
      (pss_cons (ps_while PassesOwn.never (pt_cmpR op_lt (pv 1) (pv 2) (nomark _))
        (pss_cons (ps_set (i := 3) nd rfl (Or.inl rfl) (pcl Hi hr (by decide) (by rfl) (pa_cons (pv 0) (pa_cons (pv 1) pa_nil))))
        (pss_cons (ps_if (pt_cmpR op_eq (pv 3) (pv 1) (nomark _)) (pss_one (ps_ret (pv 1))) pss_nil)
        (pss_one (ps_set (i := 1) nd rfl (Or.inl rfl) (pv 3))))))
      (pss_one (ps_ret pe_non)))), ?_⟩
    walk_at "rd"
    refine ⟨l, _, rfl, .inl (SqL.of SS.hl), ?_⟩
    walk_at "rd"
    refine ⟨rfl, ?_⟩
    walk_at "rd"
    refine ite2 (fun z => ?_) (fun z => ?_)
    · have e1 := int_t z
      have e2 : ss.length = 2 := by
        rw [SS.len] at e1
        omega
      clear e1 z
      obtain ⟨d, e, rfl⟩ : ∃ d e, ss = [d, e] := by
        match ss, e2 with
        | [d, e], _ => exact ⟨d, e, rfl⟩
      obtain ⟨p1, x1, h1, s1⟩ := SS.at_ 0 d rfl
      obtain ⟨p2, x2, h2, s2⟩ := SS.at_ 1 e rfl
      obtain ⟨rfl⟩ : xs = [.ref p1, .ref p2] := by
        have := SS.len
        match xs, this, x1, x2 with
        | [a, b], _, x1, x2 => cases x1; cases x2; rfl
      walk_at "rd"
      refine ⟨l, _, _, _, rfl, rfl, SqL.of SS.hl, rfl, ?_⟩
      walk_at "rd"
      refine ⟨l, _, _, _, rfl, rfl, SqL.of SS.hl, rfl, ?_⟩
      walk_at "rd"
      exact ⟨p1, p2, d, e, v, rfl, h1, s1, h2, s2, fun r H' L sm => q r H' (leastI_congr (fun x => una_two) L) sm⟩
    walk_at "rd"
    refine ⟨l, xs, ss, rfl, SS, ?_⟩
    walk_at "rd"
    have cl := com_lt SS.side SS.l4
    refine ⟨fun m σ H' => ∃ (u : Int) (x3 : Option V), m = (v + (comN ss : Int) + 10 ^ 31 - u).toNat ∧ σ = [some (.ref l), some (.int u), some (.int (v + (comN ss : Int))), x3] ∧ Same H H' ∧ v ≤ u ∧ u < v + (comN ss : Int) + 10 ^ 31 ∧ ∀ y, v ≤ y → y < u → ¬ UnA ss y, ⟨_, v, none, rfl, rfl, Same.refl _, Int.le_refl _, by omega, fun y a b => by omega⟩, ?_⟩
    rintro m σ H' ⟨u, x3, rfl, rfl, sm, u0, u1, no⟩
    walk_at "rd"
    refine ite2 (fun z => ?_) (fun z => ?_)
    · have ue := of_decide_eq_true z
      refine ⟨fun σ' H'' => ∃ (u' : Int) (x3 : Option V), σ' = [some (.ref l), some (.int u'), some (.int (v + (comN ss : Int))), x3] ∧ Same H H'' ∧ u < u' ∧ u' < v + (comN ss : Int) + 10 ^ 31 ∧ ∀ y, v ≤ y → y < u' → ¬ UnA ss y, fun σ' H'' ⟨u', y3, e1, e2, e3, e4, e5⟩ => ⟨_, by omega, u', y3, rfl, e1, e2, by omega, e4, e5⟩, ?_⟩
      walk_at "rd"
      refine ⟨l, xs, ss, u, rfl, SS.same sm, by omega, fun h H2 hp s2 => ?_⟩
      walk_at "rd"
      refine ⟨rfl, ?_⟩
      walk_at "rd"
      refine ite2 (fun z => ?_) (fun z => ?_)
      · have e := int_t z
        subst e
        walk_at "rd"
        exact q (some h) _ ⟨u0, fun d hd => hp.2.1 d hd, no⟩ (sm.trans s2)
      · have ne := int_f z
        obtain ⟨n1, n2⟩ := hi_step SS.side no hp ne
        have hb := hi_bd SS.side hp
        walk_at "rd"
        exact ⟨h, _, rfl, sm.trans s2, n1, by omega, n2⟩
    · have ue : v + (comN ss : Int) ≤ u := by
        have : ¬ u < v + (comN ss : Int) := fun y => z (decide_eq_true y)
        omega
      walk_at "rd"
      exact q none _ (una_none SS.side ue no) sm
theorem ok_cf {f : Addr} {fd : FuncData} (F : Fun K "_check_few" "_check_few" s_check_few f fd) (A' : AmG mg) (Co : Cal P w K mg base "common_period" 2 ["sides"] spPerL fH dH) : FnOk P w K mg base CX0 3 f fd ["raising"] spCF := by
  refine F.ok sc_check_few (fun vs H Q E h => ?_) (fun cdv A outer s0 H vs Q E hr h => ?_)
  · obtain ⟨l, xs, ss, rfl, _⟩ := h
    rfl
  · obtain ⟨l, xs, ss, rfl, SS, few, q⟩ := h
    obtain ⟨tmp, hmp⟩ := A'.mp
    refine ⟨_, pss_one (ps_if (PW.pt (pw_and (pt_cmpR op_gt (pe_callB call_len_seq (by rfl) A'.len PySem.boot_len (pa_cons (pv 0) pa_nil)) pe_int (nomark _)) (pw_and1 (pt_cmpR op_gt (pcl Co hr (by decide) (by rfl) (pa_cons (pv 0) pa_nil)) (pe_glob (v := .int 100000) (by rfl) hmp ⟨_, rfl⟩) (nomark _))))) (pss_one ps_never) pss_nil), ?_⟩
    walk_at "rd"
    refine ⟨l, _, rfl, .inl (SqL.of SS.hl), ?_⟩
    walk_at "rd"
    refine ite2 (fun z => ?_) (fun z => ?_)
    · have gt := of_decide_eq_true z
      rw [SS.len] at gt
      walk_at "rd"
      refine ⟨l, xs, ss, rfl, SS, ?_⟩
      walk_at "rd"
      refine ite2 (fun z => ?_) (fun _ => ?_)
      · exfalso
        have := of_decide_eq_true z
        rcases few with y | y <;> omega
      · exact q
    · exact q
theorem ok_reach {f : Addr} {fd : FuncData} (F : Fun K "reach" "reach" s_reach f fd) (Ls : Cal P w K mg base "check_sides" 5 ["sides"] spSides fB dB) (Vl : Cal P w K mg base "check_value" 2 ["value"] spCheckValue fH dH) (Ra : Cal P w K mg base "raisers" 6 ["sides"] spRais fI dI) (Mi : Cal P w K mg base "mirrors" 5 ["sides"] spMirs fJ dJ)
    (Cf : Cal P w K mg base "_check_few" 3 ["raising"] spCF fL dL) (Fu : Cal P w K mg base "_first_unraised" 107 ["raising", "value"] spFU fM dM) : FnOk P w K mg base CX0 108 f fd ["sides", "value"] spReach := by
  refine F.ok sc_reach (fun vs H Q E h => ?_) (fun cdv A outer s0 H vs Q E hr h => ?_)
  · obtain ⟨l, xs, ss, v, rfl, _⟩ := h
    rfl
  · obtain ⟨l, xs, ss, v, rfl, SS, hv, f1, f2, q⟩ := h
    have nd := sc_reach.nd
    refine ⟨_, (pss_cons (ps_expr (pcl Ls hr (by decide) (by rfl) (pa_cons (pv 0) pa_nil)))
      (pss_cons (ps_expr (pcl Vl hr (by decide) (by rfl) (pa_cons (pv 1) pa_nil)))
      (pss_cons (ps_set (i := 2) nd rfl (Or.inl rfl) (pcl Ra hr (by decide) (by rfl) (pa_cons (pv 0) pa_nil)))
      (pss_cons (ps_set (i := 3) nd rfl (Or.inl rfl) (pcl Ra hr (by decide) (by rfl) (pa_cons (pcl Mi hr (by decide) (by rfl) (pa_cons (pv 0) pa_nil)) pa_nil)))
      (pss_cons (ps_expr (pcl Cf hr (by decide) (by rfl) (pa_cons (pv 2) pa_nil)))
      (pss_cons (ps_expr (pcl Cf hr (by decide) (by rfl) (pa_cons (pv 3) pa_nil)))
      (pss_cons (ps_set (i := 4) nd rfl (Or.inl rfl) (pcl Fu hr (by decide) (by rfl) (pa_cons (pv 3) (pa_cons (pe_un un_neg (pv 1)) pa_nil))))
      (pss_cons (ps_if (pt_cmpR op_notN (pv 4) pe_non (nomark _)) (pss_one (ps_set (i := 4) nd rfl (Or.inl rfl) (pe_un un_neg (pv 4)))) pss_nil)
      (pss_one (ps_ret (pe_tup (pa_cons (pv 4) (pa_cons (pcl Fu hr (by decide) (by rfl) (pa_cons (pv 2) (pa_cons (pv 1) pa_nil))) pa_nil))))))))))))), ?_⟩
    have sM : ∀ d ∈ ss.map mirD, SideP d.o d.s d.m := fun d hd => by
      obtain ⟨e, he, rfl⟩ := List.mem_map.mp hd
      exact side_mir (SS.side e he)
    walk_at "rd"
    refine ⟨l, xs, ss, rfl, SS, ?_⟩
    walk_at "rd"
    refine ⟨l, xs, ss, rfl, SS.toL, fun L1 y1 H1 n1 s1 S1 => ?_⟩
    walk_at "rd"
    refine ⟨l, xs, ss, rfl, SS.toL.same s1, fun L2 y2 H2 n2 s2 S2 => ?_⟩
    refine ⟨L2, y2, _, rfl, S2, fun L3 y3 H3 n3 s3 S3 => ?_⟩
    walk_at "rd"
    refine ⟨L1, y1, _, rfl, (S1.same s2).same s3, f1, ?_⟩
    walk_at "rd"
    refine ⟨L3, y3, _, rfl, S3, f2, ?_⟩
    walk_at "rd"
    refine ⟨L3, y3, _, -v, rfl, S3, by omega, fun lo H4 Llo s4 => ?_⟩
    have Llo2 := leastI_congr (una_filter sM) Llo
    walk_at "rd"
    cases lo with
    | none =>
      refine ⟨rfl, ?_⟩
      walk_at "rd"
      refine ⟨L1, y1, _, v, rfl, (((S1.same s2).same s3).same s4), by omega, fun hi H5 Lhi s5 => ?_⟩
      refine ⟨(by show 2 ≤ sizeLine; decide), fun p np => ?_⟩
      have sA := s1.trans (s2.trans (s3.trans (s4.trans s5)))
      exact q none hi p _ (leastI_congr (una_filter SS.side) Lhi) Llo2 (fun b u z => (upd_ne (ne_of_none (sA _ _ z) np)).trans (sA _ _ z)) (sA.free np) upd_same
    | some x =>
      refine ⟨rfl, ?_⟩
      walk_at "rd"
      refine ⟨L1, y1, _, v, rfl, (((S1.same s2).same s3).same s4), by omega, fun hi H5 Lhi s5 => ?_⟩
      refine ⟨(by show 2 ≤ sizeLine; decide), fun p np => ?_⟩
      have sA := s1.trans (s2.trans (s3.trans (s4.trans s5)))
      exact q (some x) hi p _ (leastI_congr (una_filter SS.side) Lhi) Llo2 (fun b u z => (upd_ne (ne_of_none (sA _ _ z) np)).trans (sA _ _ z)) (sA.free np) upd_same
end
end HT
namespace HT
open PySem L2
theorem gen_list {K : PySem.W.Frag} {a : Addr} {xs : List V} {R : Hp → Prop} {Body : V → Hp → (Hp → Prop) → Prop} {H0 : Hp} (Pv : Nat → Hp → Prop) (h0 : Pv 0 H0) (hl : ∀ i H, i ≤ xs.length → Pv i H → SqL K H a xs)
    (hs : ∀ i x H, xs[i]? = some x → Pv i H → Body x H (Pv (i + 1))) (hd : ∀ H, Pv xs.length H → R H) :
    ∃ W : Nat → Nat → Hp → Prop, (∃ m, W 0 m H0) ∧ ∀ i m H, W i m H → ((Itl K a).stop i H ∧ R H) ∨ ((Itl K a).go i H ∧ ∃ Nx : Hp → Prop, (∀ H', Nx H' → ∃ m', m' < m ∧ W (i + 1) m' H') ∧ ∀ x H', (Itl K a).yld i H x H' → Body x H' Nx) := by
  refine ⟨fun i m H => m = xs.length - i ∧ i ≤ xs.length ∧ Pv i H, ⟨xs.length, by simp, Nat.zero_le _, h0⟩, ?_⟩
  rintro i m H ⟨rfl, hi, p⟩
  have q := hl i H hi p
  by_cases hlt : i < xs.length
  · refine .inr ⟨⟨xs, xs[i], q, by simp [hlt]⟩, Pv (i + 1), fun H' p' => ⟨xs.length - (i + 1), by omega, rfl, hlt, p'⟩, fun x H' y => ?_⟩
    obtain ⟨e, y⟩ := y
    subst e
    exact hs i x _ (y xs q) p
  · have e : i = xs.length := by omega
    subst e
    exact .inl ⟨⟨xs, q, Nat.le_refl _⟩, hd H p⟩
theorem gen_range {lo : Int} {n : Nat} {R : Hp → Prop} {Body : V → Hp → (Hp → Prop) → Prop} {H0 : Hp} (Pv : Nat → Hp → Prop) (h0 : Pv 0 H0)
    (hs : ∀ i H, i < n → Pv i H → Body (.int (lo + i)) H (Pv (i + 1))) (hd : ∀ H, Pv n H → R H) :
    ∃ W : Nat → Nat → Hp → Prop, (∃ m, W 0 m H0) ∧ ∀ i m H, W i m H → ((Itr lo n).stop i H ∧ R H) ∨ ((Itr lo n).go i H ∧ ∃ Nx : Hp → Prop, (∀ H', Nx H' → ∃ m', m' < m ∧ W (i + 1) m' H') ∧ ∀ x H', (Itr lo n).yld i H x H' → Body x H' Nx) := by
  refine ⟨fun i m H => m = n - i ∧ i ≤ n ∧ Pv i H, ⟨n, by simp, Nat.zero_le _, h0⟩, ?_⟩
  rintro i m H ⟨rfl, hi, p⟩
  by_cases hlt : i < n
  · refine .inr ⟨hlt, Pv (i + 1), fun H' p' => ⟨n - (i + 1), by omega, rfl, hlt, p'⟩, fun x H' y => ?_⟩
    obtain ⟨e, y⟩ := y
    subst e y
    exact hs i _ hlt p
  · have e : i = n := by omega
    subst e
    exact .inl ⟨Nat.le_refl _, hd H p⟩
end HT
namespace HT
open PySem L2
/-- lists of numbers in a list, new ones -/
def OrdsAt (H0 H : Hp) (L : Addr) (os : List (List Nat)) : Prop := ∃ ps : List Addr, H L = some (.lst (ps.map V.ref)) ∧ ps.length = os.length ∧ (∀ (i : Nat) (p : Addr) (o : List Nat), ps[i]? = some p → os[i]? = some o → H p = some (.lst (o.map nV))) ∧ ∀ p ∈ ps, H0 p = none
theorem inV_nat (k : Nat) (o : List Nat) : inV (nV k) (o.map nV) = o.contains k := by
  induction o with
  | nil => rfl
  | cons j o ih =>
    have e : eqV (nV j) (nV k) = (j == k) := by
      show (((j : Int)) == ((k : Int))) = (j == k)
      by_cases h : j = k
      · subst h; simp
      · rw [beq_eq_false_iff_ne.mpr h, beq_eq_false_iff_ne.mpr (by omega)]
    show (eqV (nV j) (nV k) || inV (nV k) (o.map nV)) = _
    rw [ih, e, List.contains_cons, Bool.beq_comm]
theorem all_flat : ∀ o : List Nat, (o.map nV).all flatV = true
  | [] => rfl
  | _ :: o => by rw [List.map_cons, List.all_cons, all_flat o]; rfl
theorem OrdsAt.snoc {H0 H H' : Hp} {D q : Addr} {os : List (List Nat)} {o : List Nat} {acc : List V} (A : OrdsAt H0 H D os) (hD : H D = some (.lst acc)) (sm : Same H H') (nq : H0 q = none) (hq : H' q = some (.lst (o.map nV))) (qD : q ≠ D) :
    OrdsAt H0 (upd H' D (.lst (acc ++ [.ref q]))) D (os ++ [o]) := by
  obtain ⟨ps, hp, lp, at_, fr⟩ := A
  rw [hD] at hp
  have ea : acc = ps.map V.ref := by cases hp; rfl
  subst ea
  refine ⟨ps ++ [q], by rw [List.map_append]; exact upd_same, by rw [List.length_append, List.length_append, lp]; rfl, ?_, ?_⟩
  · intro i p o' hp' ho'
    rcases Nat.lt_or_ge i ps.length with z | z
    · rw [List.getElem?_append_left z] at hp'
      rw [List.getElem?_append_left (by omega)] at ho'
      have h1 := at_ i p o' hp' ho'
      have dp : p ≠ D := fun z => by
        rw [z, hD] at h1
        have e2 : ps.map V.ref = o'.map nV := by injection h1 with h1; injection h1
        have e3 : (ps.map V.ref)[i]? = some (V.ref p) := by rw [List.getElem?_map, hp']; rfl
        rw [e2, List.getElem?_map] at e3
        cases e4 : o'[i]? with
        | none => rw [e4] at e3; cases e3
        | some k => rw [e4] at e3; cases e3
      exact (upd_ne dp).trans (sm _ _ h1)
    · rw [List.getElem?_append_right z] at hp'
      rw [List.getElem?_append_right (by omega)] at ho'
      have e0 : i - ps.length = 0 := by
        have := (List.getElem?_eq_some_iff.mp hp').1
        simp at this
        omega
      rw [e0] at hp'
      rw [show i - os.length = 0 by omega] at ho'
      cases hp'
      cases ho'
      exact (upd_ne qD).trans hq
  · intro p hp'
    rcases List.mem_append.mp hp' with z | z
    · exact fr p z
    · rw [List.mem_singleton.mp z]; exact nq
theorem gen_enum {K : PySem.W.Frag} {a : Addr} {xs : List V} {R : Hp → Prop} {Body : V → Hp → (Hp → Prop) → Prop} {H0 : Hp} (Pv : Nat → Hp → Prop) (h0 : Pv 0 H0) (hl : ∀ i H, i ≤ xs.length → Pv i H → SqL K H a xs)
    (hs : ∀ i x H, xs[i]? = some x → Pv i H → ∀ T, H T = none → Body (.ref T) (upd H T (.tup [.int (i : Nat), x])) (Pv (i + 1))) (hd : ∀ H, Pv xs.length H → R H) :
    ∃ W : Nat → Nat → Hp → Prop, (∃ m, W 0 m H0) ∧ ∀ i m H, W i m H → ((Ite K a).stop i H ∧ R H) ∨ ((Ite K a).go i H ∧ ∃ Nx : Hp → Prop, (∀ H', Nx H' → ∃ m', m' < m ∧ W (i + 1) m' H') ∧ ∀ x H', (Ite K a).yld i H x H' → Body x H' Nx) := by
  refine ⟨fun i m H => m = xs.length - i ∧ i ≤ xs.length ∧ Pv i H, ⟨xs.length, by simp, Nat.zero_le _, h0⟩, ?_⟩
  rintro i m H ⟨rfl, hi, p⟩
  have q := hl i H hi p
  by_cases hlt : i < xs.length
  · refine .inr ⟨⟨xs, xs[i], q, by simp [hlt]⟩, Pv (i + 1), fun H' p' => ⟨xs.length - (i + 1), by omega, rfl, hlt, p'⟩, fun x H' y => ?_⟩
    obtain ⟨T, x, rfl, nT, rfl, y⟩ := y
    exact hs i x _ (y xs q) p T nT
  · have e : i = xs.length := by omega
    subst e
    exact .inl ⟨⟨xs, q, Nat.le_refl _⟩, hd H p⟩
end HT
namespace L2
open PySem PySem.Spec PyProof.Rows PySem.W PySem.SeqAt
def maxL (d : Int) : List Int → Int
  | [] => d
  | n :: r => r.foldl max n
def rMaxDi (K : PySem.W.Frag) : List V → List V → Hp → VK → Prop := fun vs zs H Q => ∃ (a : Addr) (ns : List Int) (d : Int), vs = [V.ref a] ∧ zs = [V.int d] ∧ SqL K H a (ns.map V.int) ∧ Q (.int (maxL d ns)) H
theorem cr_maxDi {X : Cx} (hc : X.calm = true) (hu : X.A.units + 64 < cLine) : CallRK X (.builtin "max") [Str.ofString "default"] (rMaxDi X.K) := by
  intro pins s σ H vs zs us ws Q I r rz h
  obtain ⟨a, ns, d, rfl, rfl, hs, q⟩ := h
  obtain ⟨its, rv, hl, _⟩ := I.list hs
  obtain rfl := Vals.ref1 r
  obtain ⟨w1, rfl, e1⟩ := vals1 rz
  obtain ⟨as, ra⟩ := reads_ints (h := s.heap) rv
  refine max_list_default (I.ok.hd hc) hl.isList (by simpa using ra) (alike_ints ns) (by rw [depth_ints]; omega) (fun e h' tk hk => ?_) (fun y ys i v h' tk bs e hv rd hk => ?_)
  · cases ns with
    | nil => exact ⟨.int d, H, I.kept hk, e1, q⟩
    | cons n r => cases e
  · cases ns with
    | nil => cases e
    | cons n r =>
      rw [List.map_cons] at e
      injection e with ey es
      subst ey es
      rw [maxD_ints] at rd
      cases rd with
      | int _ t => exact ⟨.int _, H, I.kept hk, ⟨t, rfl⟩, q⟩
end L2
namespace HT
open PySem L2
def natI (o : List Nat) : List Int := o.map fun k : Nat => (k : Int)
theorem nat_nV (o : List Nat) : o.map nV = (natI o).map V.int := by
  unfold natI
  rw [List.map_map]
  rfl
def moreB (o : List Nat) (k : Nat) : Bool := decide (maxL (-1) (natI o) < (k : Int))
def newsP (p : Nat → Bool) (j : Nat) (o : List Nat) : List (List Nat) := ((List.range j).filter p).map fun k => o ++ [k]
def moreM (n : Nat) (os : List (List Nat)) : List (List Nat) := os.flatMap fun o => newsP (moreB o) n o
def subsM (n : Nat) : Nat → List (List Nat)
  | 0 => [[]]
  | k + 1 => moreM n (subsM n k)
theorem newsP_succ (p : Nat → Bool) (j : Nat) (o : List Nat) : newsP p (j + 1) o = newsP p j o ++ (if p j = true then [o ++ [j]] else []) := by
  unfold newsP
  rw [List.range_succ, List.filter_append, List.map_append]
  congr 1
  by_cases h : p j = true
  · rw [if_pos h]
    simp only [List.filter_cons, h, if_true, List.filter_nil, List.map_cons, List.map_nil]
  · rw [if_neg h]
    simp only [List.filter_cons, h, if_false, List.filter_nil, List.map_nil, Bool.false_eq_true]
theorem newsP_len (p : Nat → Bool) (j : Nat) (o : List Nat) : (newsP p j o).length ≤ j := by
  unfold newsP
  rw [List.length_map]
  exact Nat.le_trans (List.length_filter_le _ _) (by rw [List.length_range]; exact Nat.le_refl _)
theorem flat_len {n : Nat} {f : List Nat → List (List Nat)} (hf : ∀ o, (f o).length ≤ n) : ∀ os : List (List Nat), (os.flatMap f).length ≤ os.length * n
  | [] => by simp
  | o :: os => by
    have a := flat_len hf os
    have b := hf o
    rw [List.flatMap_cons, List.length_append, List.length_cons, Nat.add_mul, Nat.one_mul]
    omega
/-- no value creeps without end -/
def CalmP (ss : List Sd) : Prop := (∃ x, UnA ss x) ∧ ∃ x, UnA (ss.map mirD) x
theorem una_ex {ss : List Sd} (hs : ∀ d ∈ ss, SideP d.o d.s d.m) {v : Int} (L : LeastI (UnA ss) v none) : ¬ ∃ x, UnA ss x := by
  rintro ⟨x, u⟩
  have cp : 0 < (comN ss : Int) := by
    have := com_pos ss 1 (by decide) hs
    show 0 < ((ss.foldl (fun n d => n.lcm (perN d)) 1 : Nat) : Int)
    omega
  refine L (x + (comN ss : Int) * ((v - x).natAbs : Int)) ?_ ((una_com hs x _).mpr u)
  have : 1 * ((v - x).natAbs : Int) ≤ (comN ss : Int) * ((v - x).natAbs : Int) := Int.mul_le_mul_of_nonneg_right (by omega) (by omega)
  omega
def spAC : Sp := fun vs H Q _ => ∃ (l : Addr) (xs : List V) (ss : List Sd), vs = [.ref l] ∧ SidesAt H l xs ss ∧ FewP ss ∧ FewP (ss.map mirD) ∧ ∀ (b : Bool) (H' : Hp), (b = true ↔ CalmP ss) → Same H H' → Q (.bl b) H'
def spOM : Sp := fun vs H Q _ => ∃ (L : Addr) (os : List (List Nat)) (n : Nat) (H0 : Hp), vs = [.ref L, .int (n : Int)] ∧ OrdsAt H0 H L os ∧ Same H0 H ∧ n ≤ 4 ∧ os.length ≤ 1000 ∧ (∀ o ∈ os, o.length ≤ 4) ∧
  ∀ (L' : Addr) (H' : Hp), Same H H' → OrdsAt H0 H' L' (moreM n os) → Q (.ref L') H'
section
variable {P : Program} {w : World} {K : PySem.W.Frag} {mg : Str → Option Value} {base : Heap} {fB fH fI fJ fL fM fN : Addr} {dB dH dI dJ dL dM dN : FuncData}
theorem ok_ac {f : Addr} {fd : FuncData} (F : Fun K "_are_calm" "_are_calm" s_are_calm f fd) (Re : Cal P w K mg base "reach" 108 ["sides", "value"] spReach fB dB) : FnOk P w K mg base CX0 109 f fd ["sides"] spAC := by
  refine F.ok sc_are_calm (fun vs H Q E h => ?_) (fun cdv A outer s0 H vs Q E hr h => ?_)
  · obtain ⟨l, xs, ss, rfl, _⟩ := h
    rfl
  · obtain ⟨l, xs, ss, rfl, SS, f1, f2, q⟩ := h
    have nd := sc_are_calm.nd
    refine ⟨_, (pss_cons (ps_asg (pcl Re hr (by decide) (by rfl) (pa_cons (pv 0) (pa_cons pe_int pa_nil))) (pg_tup (by rfl) (pgs_cons (pg_name (i := 1) nd rfl (Or.inl rfl)) (pgs_cons (pg_name (i := 2) nd rfl (Or.inl rfl)) pgs_nil))))
      (pss_one (ps_ret (pe_and (pe_cmpR op_notN (pv 1) pe_non (nomark _)) (pe_one (pe_cmpR op_notN (pv 2) pe_non (nomark _))))))), ?_⟩
    have sM : ∀ d ∈ ss.map mirD, SideP d.o d.s d.m := fun d hd => by
      obtain ⟨e, he, rfl⟩ := List.mem_map.mp hd
      exact side_mir (SS.side e he)
    walk_at "rd"
    refine ⟨l, xs, ss, 0, rfl, SS, by decide, f1, f2, fun lo hi p H' Lhi Llo sm np hp => ?_⟩
    refine ⟨p, _, rfl, SqT.of hp, rfl, _, _, rfl, _, _, rfl, rfl, ?_⟩
    walk_at "rd"
    refine ⟨rfl, ?_⟩
    cases lo with
    | none =>
      have nc : ¬ CalmP ss := fun c => una_ex sM Llo c.2
      walk_at "rd"
      exact q false H' ⟨fun z => Bool.noConfusion z, fun z => absurd z nc⟩ sm
    | some x =>
      walk_at "rd"
      refine ⟨rfl, ?_⟩
      cases hi with
      | none =>
        have nc : ¬ CalmP ss := fun c => una_ex SS.side Lhi c.1
        walk_at "rd"
        exact q false H' ⟨fun z => Bool.noConfusion z, fun z => absurd z nc⟩ sm
      | some y =>
        walk_at "rd"
        exact q true H' ⟨fun _ => ⟨⟨y, Lhi.2.1⟩, x, Llo.2.1⟩, fun _ => rfl⟩ sm
theorem ok_om {f : Addr} {fd : FuncData} (F : Fun K "_one_more" "_one_more" s_one_more f fd) (B : Blt mg) (MT : MaxT mg) : FnOk P w K mg base CX0 1 f fd ["lists", "many"] spOM := by
  refine F.ok sc_one_more (fun vs H Q E h => ?_) (fun cdv A outer s0 H vs Q E hr h => ?_)
  · obtain ⟨L, os, n, H0, rfl, _⟩ := h
    rfl
  · obtain ⟨L, os, n, H0, rfl, OA, sH0, n4, l1000, o4, q⟩ := h
    have nd := sc_one_more.nd
    refine ⟨_, pss_one (ps_ret (pe_lc2 (own := [("numbers", 2), ("number", 3)]) (vs1 := [3]) (g := gName 2) (g1 := gName 3) (tt := tYes) rfl nd (pi_list (pv 0)) (blkOk_by (N := ["lists", "many", "numbers", "number"]) (sc := defScope s_one_more) (by decide +kernel)) (by decide)
          (fun _ _ _ _ _ => pg_name (i := 2) nd rfl (Or.inl rfl)) (fun _ _ _ _ _ => pts_nil) (fun _ _ _ _ _ => pi_range1 (by rfl) B.range (pa_cons (pv 1) pa_nil)) (fun _ _ _ _ _ => pg_name (i := 3) nd rfl (Or.inl rfl))
          (fun _ _ _ _ _ => pts_one (pt_cmpR op_gt (pv 3) (pe_callBK (id := "max") (ks := [Str.ofString "default"]) (r := rMaxDi K) (by exact cr_maxDi rfl hr.units) (by rfl) MT.max (by decide +kernel) (pa_cons (pv 2) pa_nil) (pk_cons (pe_un un_neg pe_int) pk_nil)) (nomark _)))
          (fun _ _ _ _ _ => pe_op op_cat (pv 2) (pe_lst (pa_cons (pv 3) pa_nil))))), ?_⟩
    obtain ⟨ps, hL, lp, at_, fresh⟩ := id OA
    walk_at "rd"
    refine ⟨⟨_, SqL.of hL⟩, fun D nD => ?_⟩
    have hD0 : H0 D = none := sH0.free nD
    refine gen_list (xs := ps.map V.ref) (fun i1 H5 => OrdsAt H0 H5 D ((os.take i1).flatMap fun o => newsP (moreB o) n o) ∧ Same H H5 ∧ i1 ≤ os.length) ⟨⟨[], upd_same, rfl, (fun i p o hp _ => nomatch hp), fun p hp => absurd hp List.not_mem_nil⟩, fun b u z => (upd_ne (ne_of_none z nD)).trans z, Nat.zero_le _⟩ (fun i1 H5 _ ⟨_, s5, _⟩ => SqL.of (s5 _ _ hL)) ?_ ?_
    · rintro i1 x H5 hx ⟨OD, s5, _⟩
      obtain ⟨p, hp, rfl⟩ : ∃ p, ps[i1]? = some p ∧ x = .ref p := by
        rw [List.getElem?_map] at hx
        cases e : ps[i1]? with
        | none => rw [e] at hx; cases hx
        | some p => rw [e] at hx; exact ⟨p, rfl, (Option.some.inj hx).symm⟩
      have hil : i1 < os.length := by rw [← lp]; exact (List.getElem?_eq_some_iff.mp hp).1
      obtain ⟨o, ho⟩ : ∃ o, os[i1]? = some o := ⟨_, List.getElem?_eq_getElem hil⟩
      have po := at_ i1 p o hp ho
      have oi := o4 o (List.mem_of_getElem? ho)
      refine ⟨rfl, ?_⟩
      walk_at "rd"
      refine ⟨by omega, by omega, ?_⟩
      refine gen_range (lo := 0) (n := n) (fun j H6 => OrdsAt H0 H6 D (((os.take i1).flatMap fun o => newsP (moreB o) n o) ++ newsP (moreB o) j o) ∧ Same H H6) ⟨by rw [show newsP (moreB o) 0 o = [] from rfl, List.append_nil]; exact OD, s5⟩ ?_ ?_
      · rintro j H6 hj ⟨OD6, s6⟩
        have po6 := s6 _ _ po
        refine ⟨rfl, ?_⟩
        walk_at "rd"
        refine ⟨p, natI o, -1, rfl, rfl, (by rw [← nat_nV]; exact SqL.of po6), ?_⟩
        walk_at "rd"
        have ej : (0 : Int) + (j : Int) = (j : Int) := by omega
        refine ite2 (fun z => ?_) (fun z => ?_)
        · have mb : moreB o j = true := by
            unfold moreB
            rw [← ej]
            exact z
          walk_at "rd"
          refine ⟨(by show 1 ≤ sizeLine; decide), fun a1 k1 => ?_⟩
          generalize e3 : upd H6 a1 _ = H7
          have w3 : Same H6 H7 := by rw [← e3]; exact fun b u y => (upd_ne (ne_of_none y k1)).trans y
          have f3 : H7 a1 = some (.lst [V.int (0 + (j : Int))]) := by rw [← e3]; exact upd_same
          clear e3
          refine ⟨p, a1, _, _, rfl, rfl, w3 _ _ po6, f3, (by rw [List.length_map]; exact Nat.le_trans (by show o.length + 1 ≤ 8; omega) (by decide)), fun a2 k2 => ?_⟩
          generalize e4 : upd H7 a2 _ = H8
          have w4 : Same H7 H8 := by rw [← e4]; exact fun b u y => (upd_ne (ne_of_none y k2)).trans y
          have f4 : H8 a2 = some (.lst ((o ++ [j]).map nV)) := by
            rw [← e4, List.map_append]
            refine upd_same.trans ?_
            rw [ej]
            rfl
          clear e4
          obtain ⟨qs, hqs, lq, at6, fr6⟩ := id OD6
          have n2H : H0 a2 = none := (sH0.trans (s6.trans w3)).free k2
          have nD6 : a2 ≠ D := fun y => by
            rw [y, w3 _ _ hqs] at k2
            cases k2
          refine ⟨_, w4 _ _ (w3 _ _ hqs), ?_, ?_, ?_⟩
          · rw [List.length_map, lq, List.length_append]
            have c1 := flat_len (fun o => newsP_len (moreB o) n o) (os.take i1)
            have c2 : (os.take i1).length ≤ os.length := List.length_take_le' _ _
            have c3 := newsP_len (moreB o) j o
            have c4 : (os.take i1).length * n ≤ 1000 * 4 := Nat.mul_le_mul (by omega) n4
            exact Nat.lt_of_le_of_lt (by omega : _ ≤ 4004) (by decide)
          · rw [newsP_succ, if_pos mb, ← List.append_assoc]
            exact OD6.snoc hqs (w3.trans w4) n2H f4 nD6
          · intro b u y
            exact (upd_ne (ne_of_none y nD)).trans (w4 _ _ (w3 _ _ (s6 _ _ y)))
        · have mb : ¬ moreB o j = true := fun y => z (by
            unfold moreB at y
            rw [← ej] at y
            exact y)
          refine ⟨?_, s6⟩
          rw [newsP_succ, if_neg mb, List.append_nil]
          exact OD6
      · rintro H6 ⟨OD6, s6⟩
        refine ⟨?_, s6, hil⟩
        rw [List.take_succ, ho, List.flatMap_append]
        simp only [Option.toList, List.flatMap_cons, List.flatMap_nil, List.append_nil]
        exact OD6
    · rintro H5 ⟨OD, s5, _⟩
      rw [List.length_map, lp, List.take_length] at OD
      walk_at "rd"
      exact q D H5 s5 OD
end
end HT
namespace HT
open PySem L2
def keepJ (ss : List Sd) (o : List Nat) : Nat → List Sd
  | 0 => []
  | i + 1 => keepJ ss o i ++ (match ss[i]? with | some d => if o.contains i = true then [] else [d] | none => [])
/-- the sides that are not left out -/
def keep (ss : List Sd) (o : List Nat) : List Sd := keepJ ss o ss.length
theorem keepJ_succ {ss : List Sd} {o : List Nat} {i : Nat} {d : Sd} (h : ss[i]? = some d) : keepJ ss o (i + 1) = keepJ ss o i ++ (if o.contains i = true then [] else [d]) := by
  show keepJ ss o i ++ (match ss[i]? with | some d => if o.contains i = true then [] else [d] | none => []) = _
  rw [h]
theorem keepJ_sub (ss : List Sd) (o : List Nat) : ∀ i, (keepJ ss o i).Sublist (ss.take i)
  | 0 => by show List.Sublist [] _; exact List.nil_sublist _
  | i + 1 => by
    have ih := keepJ_sub ss o i
    cases h : ss[i]? with
    | none =>
      show List.Sublist (keepJ ss o i ++ (match ss[i]? with | some d => if o.contains i = true then [] else [d] | none => [])) _
      rw [h, List.take_succ, h]
      simpa using ih
    | some d =>
      rw [keepJ_succ h, List.take_succ, h]
      refine List.Sublist.append ih ?_
      show List.Sublist _ [d]
      split
      · exact List.nil_sublist _
      · exact List.Sublist.refl _
theorem keep_sub (ss : List Sd) (o : List Nat) : (keep ss o).Sublist ss := by
  have := keepJ_sub ss o ss.length
  rw [List.take_length] at this
  exact this
theorem keepJ_pos {ss : List Sd} {o : List Nat} {i : Nat} (hi : i < ss.length) (ho : o.contains i = false) : ∀ n, i < n → 1 ≤ (keepJ ss o n).length
  | 0, h => by omega
  | n + 1, h => by
    by_cases e : i = n
    · subst e
      rw [keepJ_succ (List.getElem?_eq_getElem hi), ho, if_neg (by decide), List.length_append]
      show 1 ≤ _ + 1
      omega
    · have ih := keepJ_pos hi ho n (by omega)
      show 1 ≤ (keepJ ss o n ++ _).length
      rw [List.length_append]
      omega
theorem subs_fin : ∀ n : Fin 5, ∀ k : Fin 5, k.val < n.val → (subsM n.val k.val).length ≤ 24 ∧ ∀ o ∈ subsM n.val k.val, o.length ≤ 4 ∧ (List.range n.val).any (fun i => !o.contains i) = true := by decide +kernel
theorem subs_ok {n k : Nat} (h4 : n ≤ 4) (hk : k < n) : (subsM n k).length ≤ 24 ∧ ∀ o ∈ subsM n k, o.length ≤ 4 ∧ ∃ i, i < n ∧ o.contains i = false := by
  have n5 : n < 5 := by omega
  have k5 : k < 5 := by omega
  have sf := subs_fin ⟨n, n5⟩ ⟨k, k5⟩ hk
  obtain ⟨a, b⟩ := sf
  refine ⟨a, fun o ho => ⟨(b o ho).1, ?_⟩⟩
  obtain ⟨i, hi, h⟩ := List.any_eq_true.mp (b o ho).2
  exact ⟨i, List.mem_range.mp hi, by simpa using h⟩
theorem calm_one {d : Sd} (h : SideP d.o d.s d.m) : CalmP [d] := by
  have key : ∀ {e : Sd}, SideP e.o e.s e.m → UnA [e] e.o := fun {e} he f hf => by
    rw [List.mem_singleton.mp hf]
    have := fig_at (o := e.o) (k := 0) he.md he.s0
    rw [show e.o + e.s * 0 = e.o by omega] at this
    unfold dueM
    rw [this]
    omega
  exact ⟨⟨_, key h⟩, _, key (e := mirD d) (side_mir h)⟩
theorem last_calm {ss : List Sd} (hs : ∀ d ∈ ss, SideP d.o d.s d.m) (l1 : 1 ≤ ss.length) (l4 : ss.length ≤ 4) : ∃ o ∈ subsM ss.length (ss.length - 1), CalmP (keep ss o) := by
  match ss, l1, l4, hs with
  | [a], _, _, hs => exact ⟨[], by show [] ∈ subsM 1 0; decide, calm_one (hs a (by simp))⟩
  | [a, b], _, _, hs => exact ⟨[0], by show [0] ∈ subsM 2 1; decide, calm_one (hs b (by simp))⟩
  | [a, b, c], _, _, hs => exact ⟨[0, 1], by show [0, 1] ∈ subsM 3 2; decide, calm_one (hs c (by simp))⟩
  | [a, b, c, d], _, _, hs => exact ⟨[0, 1, 2], by show [0, 1, 2] ∈ subsM 4 3; decide, calm_one (hs d (by simp))⟩
/-- the first list of the fewest -/
def FstP (ss : List Sd) (r : List Nat) : Prop := ∃ k i : Nat, k < ss.length ∧ (subsM ss.length k)[i]? = some r ∧ CalmP (keep ss r) ∧ (∀ j : Nat, j < i → ∀ o, (subsM ss.length k)[j]? = some o → ¬ CalmP (keep ss o)) ∧ ∀ k' : Nat, k' < k → ∀ o ∈ subsM ss.length k', ¬ CalmP (keep ss o)
theorem first_uniq {ss : List Sd} {r r' : List Nat} (h : FstP ss r) (h' : FstP ss r') : r = r' := by
  obtain ⟨k, i, _, a, b, c, d⟩ := h
  obtain ⟨k', i', _, a', b', c', d'⟩ := h'
  rcases Nat.lt_trichotomy k k' with e | e | e
  · exact absurd b (d' k e r (List.mem_of_getElem? a))
  · subst e
    rcases Nat.lt_trichotomy i i' with e | e | e
    · exact absurd b (c' i e r a)
    · subst e
      rw [a] at a'
      exact Option.some.inj a'
    · exact absurd b' (c i' e r' a')
  · exact absurd b' (d k' e r' (List.mem_of_getElem? a'))
/-- never too much to look at -/
def FewG (ss : List Sd) : Prop := ((ss.filter fun d : Sd => !decide (d.m = ("down" : Str))).length ≤ 2 ∧ (ss.filter fun d : Sd => !decide (d.m = ("up" : Str))).length ≤ 2) ∨ ∀ d ∈ ss, d.s ≤ 8
theorem mir_down {m : Str} (h : Mode m) (e : mir m = "down") : m = "up" := by
  rcases h with z | z | z | z | z <;> subst z
  · rw [mir_d] at e; exact absurd e d_u
  · rfl
  · rw [mir_hd] at e; exact absurd e hu_d
  · rw [mir_hu] at e; exact absurd e hd_d
  · rw [mir_he] at e; exact absurd e he_d
theorem mir_ofu : mir "up" = "down" := mir_u
theorem com_small : ∀ (ss : List Sd) (n : Nat), n ∣ 1680 → (∀ d ∈ ss, SideP d.o d.s d.m ∧ d.s ≤ 8) → ss.foldl (fun n d => n.lcm (perN d)) n ∣ 1680
  | [], n, h, _ => h
  | d :: ss, n, h, hs => by
    rw [List.foldl_cons]
    refine com_small ss _ (Nat.lcm_dvd h ?_) fun e he => hs e (List.mem_cons_of_mem _ he)
    obtain ⟨sp, s8⟩ := hs d List.mem_cons_self
    have s0 := sp.s0
    have per : perN d = d.s.toNat ∨ perN d = 2 * d.s.toNat := by
      unfold perN perM
      split
      · right; omega
      · left; rfl
    have all : ∀ a : Fin 9, 1 ≤ a.val → a.val ∣ 1680 ∧ 2 * a.val ∣ 1680 := by decide +kernel
    have l9 : d.s.toNat < 9 := by omega
    have g1 : 1 ≤ d.s.toNat := by omega
    have al := all ⟨d.s.toNat, l9⟩ g1
    obtain ⟨a, b⟩ := al
    rcases per with e | e <;> rw [e]
    · exact a
    · exact b
theorem few_sub {ss t : List Sd} (hs : ∀ d ∈ ss, SideP d.o d.s d.m) (sub : t.Sublist ss) (g : FewG ss) : FewP t ∧ FewP (t.map mirD) := by
  rcases g with ⟨g1, g2⟩ | g
  · constructor
    · refine .inl (Nat.le_trans ?_ g1)
      have e : t.filter upD = (t.filter fun d : Sd => !decide (d.m = ("down" : Str))).filter upD := by
        rw [List.filter_filter]
        refine List.filter_congr fun d _ => ?_
        by_cases z : d.m = "down"
        · have : upD d = false := by
            unfold upD
            rw [z, fi_d]
            simp
          rw [this]; rfl
        · simp [z]
      rw [e]
      exact Nat.le_trans (List.length_filter_le _ _) (List.Sublist.length_le (sub.filter _))
    · refine .inl (Nat.le_trans ?_ g2)
      rw [List.filter_map, List.length_map]
      have e : t.filter (upD ∘ mirD) = (t.filter fun d : Sd => !decide (d.m = ("up" : Str))).filter (upD ∘ mirD) := by
        rw [List.filter_filter]
        refine List.filter_congr fun d _ => ?_
        by_cases z : d.m = "up"
        · have : (upD ∘ mirD) d = false := by
            show upD (mirD d) = false
            unfold upD mirD
            show (!decide (firstM d.s (mir d.m) = "down")) = false
            rw [z, mir_u, fi_d]
            simp
          rw [this]; rfl
        · simp [z]
      rw [e]
      exact Nat.le_trans (List.length_filter_le _ _) (List.Sublist.length_le (sub.filter _))
  · have key : ∀ u : List Sd, (∀ d ∈ u, SideP d.o d.s d.m ∧ d.s ≤ 8) → comN u ≤ 100000 := fun u hu =>
      Nat.le_trans (Nat.le_of_dvd (by decide) (com_small u 1 (Nat.one_dvd _) hu)) (by decide)
    constructor
    · exact .inr (key (t.filter upD) fun d hd => ⟨hs d (sub.subset (List.mem_filter.mp hd).1), g d (sub.subset (List.mem_filter.mp hd).1)⟩)
    · refine .inr (key ((t.map mirD).filter upD) fun d hd => ?_)
      have hm := List.mem_map.mp (List.mem_filter.mp hd).1
      obtain ⟨e, he, rfl⟩ := hm
      exact ⟨side_mir (hs e (sub.subset he)), g e (sub.subset he)⟩
def spCalm : Sp := fun vs H Q _ => ∃ (l : Addr) (xs : List V) (ss : List Sd), vs = [.ref l] ∧ SidesAt H l xs ss ∧ FewG ss ∧ ∀ (R : Addr) (H' : Hp) (o : List Nat), H R = none → Same H H' → H' R = some (.lst (o.map nV)) → FstP ss o → Q (.ref R) H'
end HT
namespace HT
open PySem L2
section
variable {P : Program} {w : World} {K : PySem.W.Frag} {mg : Str → Option Value} {base : Heap} {fB fH fI fJ fL fM fN : Addr} {dB dH dI dJ dL dM dN : FuncData}
theorem ok_calm {f : Addr} {fd : FuncData} (F : Fun K "calm" "calm" s_calm f fd) (A' : AmG mg) (hen : mg "enumerate" = none) (Ls : Cal P w K mg base "check_sides" 5 ["sides"] spSides fB dB) (Ac : Cal P w K mg base "_are_calm" 109 ["sides"] spAC fH dH) (Om : Cal P w K mg base "_one_more" 1 ["lists", "many"] spOM fI dI) : FnOk P w K mg base CX0 110 f fd ["sides"] spCalm := by
  refine F.ok sc_calm (fun vs H Q E h => ?_) (fun cdv A outer s0 H vs Q E hr h => ?_)
  · obtain ⟨l, xs, ss, rfl, _⟩ := h
    rfl
  · obtain ⟨l, xs, ss, rfl, SS, fg, q⟩ := h
    have nd := sc_calm.nd
    refine ⟨_, pss_cons (ps_expr (pcl Ls hr (by decide) (by rfl) (pa_cons (pv 0) pa_nil)))
      (pss_cons (ps_set (i := 1) nd rfl (Or.inl rfl) (pe_lst (pa_cons (pe_lst pa_nil) pa_nil)))
      (pss_one (ps_while PassesOwn.never (pt_val pe_bl)
        (pss_cons (ps_for PassesOwn.never rfl (pi_list (pv 1)) (pg_name (i := 2) nd rfl (Or.inr rfl))
          (pss_one (ps_if (pt_val (pcl Ac hr (by decide) (by rfl) (pa_cons (pe_lc (own := [("number", 3), ("side", 4)]) (g := gTup K 2 (gCons (gName 3) (gCons (gName 4) gNil))) rfl nd (pi_enum (by rfl) hen (pa_cons (pv 0) pa_nil)) (blkOk_by (N := ["sides", "left_out", "numbers", "number", "side"]) (sc := defScope s_calm) (by decide +kernel))
            (fun _ _ _ _ _ => pg_tup (by rfl) (pgs_cons (pg_name (i := 3) nd rfl (Or.inl rfl)) (pgs_cons (pg_name (i := 4) nd rfl (Or.inl rfl)) pgs_nil))) (fun _ _ _ _ _ => pts_one (pt_cmpR (show OpR _ _ (rIn K true) from op_notIn_seq) (pv 3) (pv 2) (by rfl)))
            (fun _ _ _ _ _ => pv 4)) pa_nil))) (pss_one (ps_ret (pv 2))) pss_nil)))
        (pss_one (ps_set (i := 1) nd rfl (Or.inl rfl) (pcl Om hr (by decide) (by rfl) (pa_cons (pv 1) (pa_cons (pe_callB call_len_seq (by rfl) A'.len PySem.boot_len (pa_cons (pv 0) pa_nil)) pa_nil))))))))), ?_⟩
    walk_at "rd"
    refine ⟨l, xs, ss, rfl, SS, ?_⟩
    walk_at "rd"
    refine ⟨(by show 0 ≤ sizeLine; decide), fun p1 m1 => ?_⟩
    have w1 : Same H (upd H p1 (.lst [])) := fun b u z => (upd_ne (ne_of_none z m1)).trans z
    have f1 : upd H p1 (.lst []) p1 = some (.lst []) := upd_same
    generalize upd H p1 (.lst []) = H1 at w1 f1 ⊢
    walk_at "rd"
    refine ⟨(by show 1 ≤ sizeLine; decide), fun p2 m2 => ?_⟩
    have w2 : Same H1 (upd H1 p2 (.lst [.ref p1])) := fun b u z => (upd_ne (ne_of_none z m2)).trans z
    have f2 : upd H1 p2 (.lst [.ref p1]) p2 = some (.lst [.ref p1]) := upd_same
    generalize upd H1 p2 (.lst [.ref p1]) = H2 at w2 f2 ⊢
    walk_at "rd"
    have l1 := SS.l1
    have l4 := SS.l4
    refine ⟨fun m st H' => ∃ (L : Addr) (k : Nat) (x2 x3 x4 : Option V), m = ss.length - k ∧ st = [some (.ref l), some (.ref L), x2, x3, x4] ∧ Same H H' ∧ OrdsAt H H' L (subsM ss.length k) ∧ k < ss.length ∧ ∀ k', k' < k → ∀ o ∈ subsM ss.length k', ¬ CalmP (keep ss o), ⟨_, p2, 0, none, none, none, rfl, rfl, w1.trans w2, ⟨[p1], f2, rfl, ?_, ?_⟩, l1, fun k' h => absurd h (Nat.not_lt_zero _)⟩, ?_⟩
    · intro i p o hp ho
      match i, hp, ho with
      | 0, hp, ho => cases hp; cases ho; exact w2 _ _ f1
      | i + 1, hp, ho => cases hp
    · intro p hp
      rw [List.mem_singleton.mp hp]
      exact m1
    rintro m st H' ⟨L, k, x2, x3, x4, rfl, rfl, sm, OA, hk, no⟩
    obtain ⟨ps, hL, lp, at_, fr⟩ := id OA
    obtain ⟨s24, sok⟩ := subs_ok l4 hk
    walk_at "rd"
    refine ite2 (fun _ => ?_) (fun z => (z rfl).elim)
    refine ⟨fun σ' H'' => ∃ (L' : Addr) (x2 x3 x4 : Option V), σ' = [some (.ref l), some (.ref L'), x2, x3, x4] ∧ Same H H'' ∧ OrdsAt H H'' L' (subsM ss.length (k + 1)) ∧ k + 1 < ss.length ∧ ∀ k', k' < k + 1 → ∀ o ∈ subsM ss.length k', ¬ CalmP (keep ss o), fun σ' H'' ⟨L', x2, x3, x4, e1, e2, e3, e4, e5⟩ => ⟨_, by omega, L', k + 1, x2, x3, x4, rfl, e1, e2, e3, e4, e5⟩, ?_⟩
    walk_at "rd"
    refine ⟨⟨_, SqL.of hL⟩, ?_⟩
    refine for_list (K := K) (a := L) (xs := ps.map V.ref) (fun i st H3 => ∃ x2 x3 x4 : Option V, st = [some (.ref l), some (.ref L), x2, x3, x4] ∧ Same H' H3 ∧ ∀ j, j < i → ∀ o, (subsM ss.length k)[j]? = some o → ¬ CalmP (keep ss o)) ⟨x2, x3, x4, rfl, Same.refl _, fun j h => absurd h (Nat.not_lt_zero _)⟩ (fun _ _ _ _ ⟨_, _, _, _, s, _⟩ => SqL.of (s _ _ hL)) ?_ ?_
    · rintro i y st H3 hy ⟨y2, y3, y4, rfl, s3, noi⟩
      obtain ⟨p, hp, rfl⟩ : ∃ p, ps[i]? = some p ∧ y = .ref p := by
        rw [List.getElem?_map] at hy
        cases e : ps[i]? with
        | none => rw [e] at hy; cases hy
        | some p => rw [e] at hy; exact ⟨p, rfl, (Option.some.inj hy).symm⟩
      have il : i < (subsM ss.length k).length := by rw [← lp]; exact (List.getElem?_eq_some_iff.mp hp).1
      obtain ⟨o, ho⟩ : ∃ o, (subsM ss.length k)[i]? = some o := ⟨_, List.getElem?_eq_getElem il⟩
      have po := at_ i p o hp ho
      obtain ⟨o4, oi, oin, oic⟩ := sok o (List.mem_of_getElem? ho)
      have S3 := SS.same (sm.trans s3)
      walk_at "rd"
      refine ⟨l, _, rfl, SqL.of S3.hl, fun D nD => ?_⟩
      refine gen_enum (K := K) (a := l) (xs := xs) (fun i2 H5 => ∃ ys : List V, H5 D = some (.lst ys) ∧ ys.length = (keepJ ss o i2).length ∧ i2 ≤ ss.length ∧ Same H3 H5 ∧ (∀ (j : Nat) (d : Sd), (keepJ ss o i2)[j]? = some d → ∃ p : Addr, ys[j]? = some (V.ref p) ∧ H5 p = some (sideV d.o d.s d.m) ∧ SideP d.o d.s d.m))
        ⟨[], upd_same, rfl, Nat.zero_le _, fun b u z => (upd_ne (ne_of_none z nD)).trans z, fun j d z => by cases z⟩ (fun _ _ _ ⟨_, _, _, _, s5, _⟩ => SqL.of (s5 _ _ S3.hl)) ?_ ?_
      · rintro i2 y2' H5 hy2 ⟨ys, hD, ly, li, s5, at5⟩ T nT
        obtain ⟨d, p2, ed, rfl, hp2, sp⟩ := SS.item hy2
        have il2 : i2 < ss.length := (List.getElem?_eq_some_iff.mp ed).1
        have fT : upd H5 T (.tup [.int (i2 : Nat), .ref p2]) T = some (.tup [.int (i2 : Nat), .ref p2]) := upd_same
        have s56 : Same H5 (upd H5 T (.tup [.int (i2 : Nat), .ref p2])) := fun b u z => (upd_ne (ne_of_none z nT)).trans z
        generalize upd H5 T (.tup [.int (i2 : Nat), .ref p2]) = H6 at fT s56 ⊢
        have hD6 := s56 _ _ hD
        have sH6 : Same H3 H6 := s5.trans s56
        refine ⟨T, _, rfl, SqT.of fT, rfl, _, _, rfl, _, _, rfl, rfl, ?_⟩
        refine ⟨rfl, ?_⟩
        walk_at "rd"
        refine ⟨p, _, rfl, .inl (SqL.of (sH6 _ _ (s3 _ _ po))), rfl, all_flat o, ?_⟩
        rw [show inV (V.int ((i2 : Nat) : Int)) (o.map nV) = o.contains i2 from inV_nat i2 o]
        refine ⟨_, rfl, ?_⟩
        refine ite2 (fun z => ?_) (fun z => ?_)
        · have nc : ¬ o.contains i2 = true := fun y => not_t z y
          walk_at "rd"
          refine ⟨_, hD6, ?_, ys ++ [.ref p2], upd_same, ?_, il2, ?_, ?_⟩
          · rw [ly]
            exact Nat.lt_of_le_of_lt (Nat.le_trans (List.Sublist.length_le (keepJ_sub ss o i2)) (Nat.le_trans (List.length_take_le' _ _) l4)) (by decide)
          · rw [keepJ_succ ed, if_neg nc, List.length_append, List.length_append, ly]
            rfl
          · intro b u y
            exact (upd_ne (ne_of_none y nD)).trans (sH6 _ _ y)
          · rw [keepJ_succ ed, if_neg nc]
            have g := sH6 _ _ (s3 _ _ (sm _ _ hp2))
            exact grow_side at5 ly (fun b u y nb => (upd_ne nb).trans (s56 _ _ y)) hD ((upd_ne (ne_of g hD6 (by intro y; cases y))).trans g) sp
        · have hc : o.contains i2 = true := not_f z
          refine ⟨ys, hD6, ?_, il2, sH6, ?_⟩
          · rw [keepJ_succ ed, if_pos hc, List.append_nil]
            exact ly
          · rw [keepJ_succ ed, if_pos hc, List.append_nil]
            intro j e he
            obtain ⟨p3, g1, g2, g3⟩ := at5 j e he
            exact ⟨p3, g1, s56 _ _ g2, g3⟩
      · rintro H5 ⟨ys, hD, ly, li, s5, at5⟩
        rw [SS.len] at ly at5
        have kp := keepJ_pos oin oic ss.length oin
        have SK : SidesAt H5 D ys (keep ss o) := ⟨hD, ly, kp, Nat.le_trans (List.Sublist.length_le (keep_sub ss o)) l4, at5⟩
        obtain ⟨f1, f2⟩ := few_sub SS.side (keep_sub ss o) fg
        refine ⟨D, ys, keep ss o, rfl, SK, f1, f2, fun b H6 hb s6 => ?_⟩
        walk_at "rd"
        refine ite2 (fun z => ?_) (fun z => ?_)
        · walk_at "rd"
          refine q p H6 o (fr p (List.mem_of_getElem? hp)) (sm.trans (s3.trans (s5.trans s6))) (s6 _ _ (s5 _ _ (s3 _ _ po))) ⟨k, i, hk, ho, hb.mp z, noi, no⟩
        · refine ⟨_, _, _, rfl, s3.trans (s5.trans s6), fun j hj o' ho' => ?_⟩
          by_cases e : j = i
          · subst e
            rw [ho] at ho'
            cases ho'
            exact fun c => z (hb.mpr c)
          · exact noi j (by omega) o' ho'
    · rintro st H3 ⟨y2, y3, y4, rfl, s3, noi⟩
      rw [List.length_map, lp] at noi
      have noK : ∀ o ∈ subsM ss.length k, ¬ CalmP (keep ss o) := fun o ho => by
        obtain ⟨j, hj, e⟩ := List.mem_iff_getElem.mp ho
        exact noi j hj o (by rw [← e]; exact List.getElem?_eq_getElem hj)
      have k1 : k + 1 < ss.length := by
        by_cases e : k + 1 < ss.length
        · exact e
        · exfalso
          obtain ⟨o, ho, c⟩ := last_calm SS.side l1 l4
          rw [show ss.length - 1 = k by omega] at ho
          exact noK o ho c
      have OA3 : OrdsAt H H3 L (subsM ss.length k) := ⟨ps, s3 _ _ hL, lp, fun i p o a b => s3 _ _ (at_ i p o a b), fr⟩
      walk_at "rd"
      refine ⟨l, _, rfl, .inl (SqL.of (SS.same (sm.trans s3)).hl), ?_⟩
      refine ⟨L, subsM ss.length k, ss.length, H, (by show [V.ref L, V.int (xs.length : Int)] = _; rw [SS.len]), OA3, sm.trans s3, l4, by omega, fun o ho => (sok o ho).1, fun L' H4 s4 OA4 => ?_⟩
      refine ⟨L', _, _, _, rfl, sm.trans (s3.trans s4), OA4, k1, fun k' hk' o ho => ?_⟩
      by_cases e : k' = k
      · subst e; exact noK o ho
      · exact no k' (by omega) o ho
end
end HT
namespace HT
open PySem L2
theorem dueN {d : Sd} {x : Int} (h : SideP d.o d.s d.m) : dueM (mirD d).o (mirD d).s (mirD d).m (-x) = -dueM d.o d.s d.m x := due_mirror h.md h.s0
theorem una_mir {ss : List Sd} (hs : ∀ d ∈ ss, SideP d.o d.s d.m) {x : Int} : UnA (ss.map mirD) (-x) ↔ ∀ d ∈ ss, x ≤ dueM d.o d.s d.m x := by
  constructor
  · intro h d hd
    have := h (mirD d) (List.mem_map.mpr ⟨d, hd, rfl⟩)
    rw [dueN (hs d hd)] at this
    omega
  · intro h e he
    obtain ⟨d, hd, rfl⟩ := List.mem_map.mp he
    rw [dueN (hs d hd)]
    have := h d hd
    omega
theorem dwn_com {ss : List Sd} (hs : ∀ d ∈ ss, SideP d.o d.s d.m) (x t : Int) : (∀ d ∈ ss, x + (comN ss : Int) * t ≤ dueM d.o d.s d.m (x + (comN ss : Int) * t)) ↔ ∀ d ∈ ss, x ≤ dueM d.o d.s d.m x := by
  have key : ∀ d ∈ ss, dueM d.o d.s d.m (x + (comN ss : Int) * t) = dueM d.o d.s d.m x + (comN ss : Int) * t := fun d hd =>
    due_dvd (hs d hd).md (hs d hd).s0 (Int.dvd_mul_of_dvd_left (per_com hd (hs d hd)))
  constructor
  · intro h d hd
    have := h d hd
    rw [key d hd] at this
    omega
  · intro h d hd
    rw [key d hd]
    have := h d hd
    omega
theorem in_period {c x : Int} (hc : 0 < c) : ∃ y t : Int, x = y + c * t ∧ 0 ≤ y ∧ y < c := by
  refine ⟨x % c, x / c, ?_, Int.emod_nonneg _ (by omega), Int.emod_lt_of_pos _ hc⟩
  have := Int.emod_add_mul_ediv x c
  omega
def spWrL : Sp := fun vs H Q _ => ∃ (l : Addr) (xs : List V) (ss : List Sd) (v : Int), vs = [.ref l, .int v] ∧ SidesAt H l xs ss ∧ (-2 ^ 900 < v ∧ v < 2 ^ 900) ∧ ∀ (L : Addr) (H' : Hp), H L = none → Same H H' → H' L = some (.lst ((ss.map fun d => dueM d.o d.s d.m v).map V.int)) → Q (.ref L) H'
def spIC : Sp := fun vs H Q _ => ∃ (l : Addr) (xs : List V) (ss : List Sd), vs = [.ref l] ∧ SidesAt H l xs ss ∧ comN ss < 2 ^ 60 ∧ ∀ (b : Bool) (H' : Hp), (b = true ↔ CalmP ss) → Same H H' → Q (.bl b) H'
section
variable {P : Program} {w : World} {K : PySem.W.Frag} {mg : Str → Option Value} {base : Heap} {fB fH fI fJ fL fM fN : Addr} {dB dH dI dJ dL dM dN : FuncData}
theorem ok_wrl {f : Addr} {fd : FuncData} (F : Fun K "_law_written" "_law_written" s_L_written f fd) (Wr : Cal P w K mg base "_law_handed" 2 ["_law_side", "_law_value"] spDue fB dB) : FnOk P w K mg base CX0 3 f fd ["_law_sides", "_law_value"] spWrL := by
  refine F.ok sc_L_written (fun vs H Q E h => ?_) (fun cdv A outer s0 H vs Q E hr h => ?_)
  · obtain ⟨l, xs, ss, v, rfl, _⟩ := h
    rfl
  · obtain ⟨l, xs, ss, v, rfl, SS, hv, q⟩ := h
    have nd := sc_L_written.nd
    refine ⟨_, (pss_one (ps_ret (pe_lc (own := [("_law_one", 2)]) (g := gName 2) (tt := tYes) rfl nd (pi_list (pv 0)) (blkOk_by (N := ["_law_sides", "_law_value", "_law_one"]) (sc := defScope s_L_written) (by decide +kernel)) (fun _ _ _ _ _ => pg_name (i := 2) nd rfl (Or.inl rfl)) (fun _ _ _ _ _ => pts_nil) (fun _ _ _ _ _ => (pcl Wr hr (by decide) (by rfl) (pa_cons (pv 2) (pa_cons (pv 1) pa_nil))))))), ?_⟩
    walk_at "rd"
    refine ⟨⟨_, SqL.of SS.hl⟩, fun L nL => ?_⟩
    refine lc_list (K := K) (a := l) (xs := xs) (fun i H3 => H3 L = some (.lst (((ss.take i).map fun d => dueM d.o d.s d.m v).map V.int)) ∧ i ≤ ss.length ∧ Same H H3)
      ⟨upd_same, Nat.zero_le _, fun b u z => (upd_ne (ne_of_none z nL)).trans z⟩ (fun _ _ _ ⟨_, _, sm⟩ => SqL.of (sm _ _ SS.hl)) ?_ ?_
    · rintro i y H3 hy ⟨hD, li, sm⟩
      obtain ⟨d, p, ed, rfl, hp, sp⟩ := SS.item hy
      have il : i < ss.length := (List.getElem?_eq_some_iff.mp ed).1
      refine ⟨rfl, ?_⟩
      walk_at "rd"
      refine ⟨p, d.o, d.s, d.m, v, rfl, sm _ _ hp, sp, (by unfold Bd; omega), fun H4 s34 => ?_⟩
      have hD4 := s34 _ _ hD
      have es : (ss.take (i + 1)).map (fun d => dueM d.o d.s d.m v) = (ss.take i).map (fun d => dueM d.o d.s d.m v) ++ [dueM d.o d.s d.m v] := by
        rw [List.take_succ, ed, List.map_append]
        rfl
      walk_at "rd"
      refine ⟨_, hD4, ?_, ?_, il, fun b u y => (upd_ne (ne_of_none y nL)).trans (s34 _ _ (sm _ _ y))⟩
      · rw [List.length_map, List.length_map]
        exact Nat.lt_of_le_of_lt (Nat.le_trans (List.length_take_le' _ _) SS.l4) (by decide)
      · rw [es, List.map_append]
        exact upd_same
    · rintro H3 ⟨hD, li, sm⟩
      rw [SS.len, List.take_length] at hD
      walk_at "rd"
      exact q L H3 nL sm hD
theorem max_iff {ns : List Int} {m u : Int} (mi : m ∈ ns) (mm : ∀ y ∈ ns, y ≤ m) : m ≤ u ↔ ∀ y ∈ ns, y ≤ u :=
  ⟨fun h y hy => Int.le_trans (mm y hy) h, fun h => h m mi⟩
theorem min_iff {ns : List Int} {m u : Int} (mi : m ∈ ns) (mm : ∀ y ∈ ns, m ≤ y) : u ≤ m ↔ ∀ y ∈ ns, u ≤ y :=
  ⟨fun h y hy => Int.le_trans h (mm y hy), fun h => h m mi⟩
theorem all_due {ss : List Sd} {v : Int} {R : Int → Prop} : (∀ y ∈ ss.map fun d => dueM d.o d.s d.m v, R y) ↔ ∀ d ∈ ss, R (dueM d.o d.s d.m v) := by
  constructor
  · intro h d hd
    exact h _ (List.mem_map.mpr ⟨d, hd, rfl⟩)
  · intro h y hy
    obtain ⟨d, hd, rfl⟩ := List.mem_map.mp hy
    exact h d hd
theorem ok_ic {f : Addr} {fd : FuncData} (F : Fun K "_law_is_calm" "_law_is_calm" s_L_is_calm f fd) (hrg : mg "range" = none) (MT : MaxT mg) (Pe : Cal P w K mg base "_law_period" 2 ["_law_sides"] spPer fB dB) (Wr : Cal P w K mg base "_law_written" 3 ["_law_sides", "_law_value"] spWrL fH dH) : FnOk P w K mg base CX0 4 f fd ["_law_sides"] spIC := by
  refine F.ok sc_L_is_calm (fun vs H Q E h => ?_) (fun cdv A outer s0 H vs Q E hr h => ?_)
  · obtain ⟨l, xs, ss, rfl, _⟩ := h
    rfl
  · obtain ⟨l, xs, ss, rfl, SS, c60, q⟩ := h
    have nd := sc_L_is_calm.nd
    refine ⟨_, pss_cons (ps_asg (pe_tup (pa_cons pe_bl (pa_cons pe_bl pa_nil))) (pg_tup (by rfl) (pgs_cons (pg_name (i := 1) nd rfl (Or.inl rfl)) (pgs_cons (pg_name (i := 2) nd rfl (Or.inl rfl)) pgs_nil))))
      (pss_cons (ps_for PassesOwn.never rfl (pi_range1 (by rfl) hrg (pa_cons (pcl Pe hr (by decide) (by rfl) (pa_cons (pv 0) pa_nil)) pa_nil)) (pg_name (i := 3) nd rfl (Or.inl rfl))
        (pss_cons (ps_set (i := 4) nd rfl (Or.inl rfl) (pcl Wr hr (by decide) (by rfl) (pa_cons (pv 0) (pa_cons (pv 3) pa_nil))))
        (pss_cons (ps_set (i := 1) nd rfl (Or.inl rfl) (pe_or (pv 1) (pe_one (pe_cmpR op_le (pe_callB (cr_max rfl) (by rfl) MT.max (by decide +kernel) (pa_cons (pv 4) pa_nil)) (pv 3) (nomark _)))))
        (pss_cons (ps_set (i := 2) nd rfl (Or.inl rfl) (pe_or (pv 2) (pe_one (pe_cmpR op_ge (pe_callB (cr_min rfl) (by rfl) MT.min (by decide +kernel) (pa_cons (pv 4) pa_nil)) (pv 3) (nomark _)))))
        (pss_one (ps_if (PW.pt (pw_and (pt_val (pv 1)) (pw_and1 (pt_val (pv 2))))) (pss_one (ps_ret pe_bl)) pss_nil))))))
      (pss_one (ps_ret pe_bl))), ?_⟩
    have cp : 0 < (comN ss : Int) := by
      have := com_pos ss 1 (by decide) SS.side
      show 0 < ((ss.foldl (fun n d => n.lcm (perN d)) 1 : Nat) : Int)
      omega
    have cl := com_lt SS.side SS.l4
    walk_at "rd"
    refine ⟨(by show 2 ≤ sizeLine; decide), fun T nT => ?_⟩
    have fT : upd H T (.tup [.bl false, .bl false]) T = some (.tup [.bl false, .bl false]) := upd_same
    have s1 : Same H (upd H T (.tup [.bl false, .bl false])) := fun b u z => (upd_ne (ne_of_none z nT)).trans z
    generalize upd H T (.tup [.bl false, .bl false]) = H1 at fT s1 ⊢
    refine ⟨T, _, rfl, SqT.of fT, rfl, _, _, rfl, _, _, rfl, rfl, ?_⟩
    walk_at "rd"
    refine ⟨l, xs, ss, rfl, SS.same s1, ?_⟩
    walk_at "rd"
    refine ⟨by omega, by omega, ?_⟩
    rw [Int.toNat_natCast]
    refine for_range (n := comN ss) (fun i st H' => ∃ (up dn : Bool) (x3 x4 : Option V), st = [some (.ref l), some (.bl up), some (.bl dn), x3, x4] ∧ Same H H' ∧ (up = true ↔ ∃ x : Int, 0 ≤ x ∧ x < (i : Int) ∧ UnA ss x) ∧ (dn = true ↔ ∃ x : Int, 0 ≤ x ∧ x < (i : Int) ∧ ∀ d ∈ ss, x ≤ dueM d.o d.s d.m x) ∧ ¬ (up = true ∧ dn = true))
      ⟨false, false, none, none, rfl, s1, ⟨fun z => Bool.noConfusion z, fun ⟨x, a, b, _⟩ => by omega⟩, ⟨fun z => Bool.noConfusion z, fun ⟨x, a, b, _⟩ => by omega⟩, fun z => Bool.noConfusion z.1⟩ ?_ ?_
    · rintro i st H' hi ⟨up, dn, x3, x4, rfl, sm, hu, hd, nb⟩
      have ei : (0 : Int) + (i : Int) = (i : Int) := by omega
      walk_at "rd"
      refine ⟨l, xs, ss, 0 + (i : Int), rfl, SS.same sm, by omega, fun W H3 nW s3 hW => ?_⟩
      have hne : 0 < (ss.map fun d => dueM d.o d.s d.m (0 + (i : Int))).length := by rw [List.length_map]; exact SS.l1
      walk_at "rd"
      refine ite2 (fun z => ?_) (fun z => ?_)
      · have hU : true = true ↔ ∃ x : Int, 0 ≤ x ∧ x < ((i + 1 : Nat) : Int) ∧ UnA ss x := ⟨fun _ => by
          obtain ⟨x, a, b, c⟩ := hu.mp z
          exact ⟨x, a, by omega, c⟩, fun _ => rfl⟩
        walk_at "rd"
        refine ite2 (fun z2 => (nb ⟨z, z2⟩).elim) (fun z2 => ?_)
        walk_at "rd"
        refine ⟨W, _, rfl, SqL.of hW, hne, fun m2 mi2 mm2 => ?_⟩
        walk_at "rd"
        have hD : decide (0 + (i : Int) ≤ m2) = true ↔ ∃ x : Int, 0 ≤ x ∧ x < ((i + 1 : Nat) : Int) ∧ ∀ d ∈ ss, x ≤ dueM d.o d.s d.m x := by
          have key : 0 + (i : Int) ≤ m2 ↔ ∀ d ∈ ss, (i : Int) ≤ dueM d.o d.s d.m (i : Int) := by
            rw [min_iff mi2 mm2, all_due (R := fun y => 0 + (i : Int) ≤ y), ei]
          constructor
          · intro y
            exact ⟨(i : Int), by omega, by omega, key.mp (of_decide_eq_true y)⟩
          · rintro ⟨x, a, b, c⟩
            by_cases e : x = (i : Int)
            · subst e; exact decide_eq_true (key.mpr c)
            · exact absurd (hd.mpr ⟨x, a, by omega, c⟩) z2
        walk_at "rd"
        refine ite2 (fun zd => ?_) (fun zd => ?_)
        · walk_at "rd"
          obtain ⟨x, _, _, ux⟩ := hU.mp rfl
          obtain ⟨y, _, _, uy⟩ := hD.mp zd
          exact q true _ ⟨fun _ => ⟨⟨x, ux⟩, -y, (una_mir SS.side).mpr uy⟩, fun _ => rfl⟩ (sm.trans s3)
        · exact ⟨_, _, _, _, rfl, sm.trans s3, hU, hD, fun z => zd z.2⟩
      · walk_at "rd"
        refine ⟨W, _, rfl, SqL.of hW, hne, fun m mi mm => ?_⟩
        walk_at "rd"
        have hU : decide (m ≤ 0 + (i : Int)) = true ↔ ∃ x : Int, 0 ≤ x ∧ x < ((i + 1 : Nat) : Int) ∧ UnA ss x := by
          have key : m ≤ 0 + (i : Int) ↔ UnA ss (i : Int) := by
            rw [max_iff mi mm, all_due (R := fun y => y ≤ 0 + (i : Int)), ei]
            exact Iff.rfl
          constructor
          · intro y
            exact ⟨(i : Int), by omega, by omega, key.mp (of_decide_eq_true y)⟩
          · rintro ⟨x, a, b, c⟩
            by_cases e : x = (i : Int)
            · subst e; exact decide_eq_true (key.mpr c)
            · exact absurd (hu.mpr ⟨x, a, by omega, c⟩) z
        walk_at "rd"
        refine ite2 (fun z2 => ?_) (fun z2 => ?_)
        · have hD : true = true ↔ ∃ x : Int, 0 ≤ x ∧ x < ((i + 1 : Nat) : Int) ∧ ∀ d ∈ ss, x ≤ dueM d.o d.s d.m x := ⟨fun _ => by
            obtain ⟨x, a, b, c⟩ := hd.mp z2
            exact ⟨x, a, by omega, c⟩, fun _ => rfl⟩
          walk_at "rd"
          refine ite2 (fun zu => ?_) (fun zu => ?_)
          · walk_at "rd"
            obtain ⟨x, _, _, ux⟩ := hU.mp zu
            obtain ⟨y, _, _, uy⟩ := hD.mp rfl
            exact q true _ ⟨fun _ => ⟨⟨x, ux⟩, -y, (una_mir SS.side).mpr uy⟩, fun _ => rfl⟩ (sm.trans s3)
          · exact ⟨_, _, _, _, rfl, sm.trans s3, hU, hD, fun z => zu z.1⟩
        · walk_at "rd"
          refine ⟨W, _, rfl, SqL.of hW, hne, fun m2 mi2 mm2 => ?_⟩
          walk_at "rd"
          have hD : decide (0 + (i : Int) ≤ m2) = true ↔ ∃ x : Int, 0 ≤ x ∧ x < ((i + 1 : Nat) : Int) ∧ ∀ d ∈ ss, x ≤ dueM d.o d.s d.m x := by
            have key : 0 + (i : Int) ≤ m2 ↔ ∀ d ∈ ss, (i : Int) ≤ dueM d.o d.s d.m (i : Int) := by
              rw [min_iff mi2 mm2, all_due (R := fun y => 0 + (i : Int) ≤ y), ei]
            constructor
            · intro y
              exact ⟨(i : Int), by omega, by omega, key.mp (of_decide_eq_true y)⟩
            · rintro ⟨x, a, b, c⟩
              by_cases e : x = (i : Int)
              · subst e; exact decide_eq_true (key.mpr c)
              · exact absurd (hd.mpr ⟨x, a, by omega, c⟩) z2
          walk_at "rd"
          refine ite2 (fun zu => ?_) (fun zu => ?_)
          · walk_at "rd"
            refine ite2 (fun zd => ?_) (fun zd => ?_)
            · walk_at "rd"
              obtain ⟨x, _, _, ux⟩ := hU.mp zu
              obtain ⟨y, _, _, uy⟩ := hD.mp zd
              exact q true _ ⟨fun _ => ⟨⟨x, ux⟩, -y, (una_mir SS.side).mpr uy⟩, fun _ => rfl⟩ (sm.trans s3)
            · exact ⟨_, _, _, _, rfl, sm.trans s3, hU, hD, fun z => zd z.2⟩
          · exact ⟨_, _, _, _, rfl, sm.trans s3, hU, hD, fun z => zu z.1⟩
    · rintro st H' ⟨up, dn, x3, x4, rfl, sm, hu, hd, nb⟩
      walk_at "rd"
      refine q false H' ⟨fun z => Bool.noConfusion z, fun c => ?_⟩ sm
      exfalso
      obtain ⟨⟨x, ux⟩, y, uy⟩ := c
      refine nb ⟨hu.mpr ?_, hd.mpr ?_⟩
      · obtain ⟨a, t, e, a0, a1⟩ := in_period (x := x) cp
        rw [e] at ux
        exact ⟨a, a0, a1, (una_com SS.side a t).mp ux⟩
      · have uy2 : ∀ d ∈ ss, -y ≤ dueM d.o d.s d.m (-y) := (una_mir SS.side).mp (by rw [Int.neg_neg]; exact uy)
        obtain ⟨a, t, e, a0, a1⟩ := in_period (x := -y) cp
        rw [e] at uy2
        exact ⟨a, a0, a1, (dwn_com SS.side a t).mp uy2⟩
end
end HT
namespace HT
open PySem L2
theorem dpNats {K : PySem.W.Frag} {H : Hp} : ∀ l : List Nat, DpAll K H (l.map nV) (l.map fun k : Nat => PyData.int (k : Int))
  | [] => .nil
  | _ :: l => .cons (.int _) (dpNats l)
theorem nats_shaped (l : List Nat) : SeqAt.shaped (.list (l.map fun k : Nat => PyData.int (k : Int))) = true := by
  have := PySem.W.ke_shaped_ints (l.map fun k : Nat => (k : Int))
  rw [List.map_map] at this
  exact this
theorem eqv_cons_nil (d : PyData) (ds : List PyData) : PyData.eqv (.list (d :: ds)) (.list []) = false := by
  simp [PyData.eqv, PyData.eqvAll]
theorem eqv_nil_nil : PyData.eqv (.list []) (.list []) = true := by
  simp [PyData.eqv, PyData.eqvAll]
def lastB (o : List Nat) (j : Nat) : Bool := match o.getLast? with
  | none => true
  | some t => decide (t < j)
theorem more_fin : ∀ n : Fin 5, ∀ k : Fin 5, k.val < n.val → ∀ o ∈ subsM n.val k.val, ∀ j : Fin 5, moreB o j.val = lastB o j.val := by decide +kernel
theorem more_last {n k j : Nat} (h4 : n ≤ 4) (hk : k < n) {o : List Nat} (ho : o ∈ subsM n k) (hj : j < n) : moreB o j = lastB o j := by
  have n5 : n < 5 := by omega
  have k5 : k < 5 := by omega
  have j5 : j < 5 := by omega
  exact more_fin ⟨n, n5⟩ ⟨k, k5⟩ hk o ho ⟨j, j5⟩
theorem nil_or_last (o : List Nat) : o = [] ∨ ∃ o' t, o = o' ++ [t] := by
  rcases List.eq_nil_or_concat o with h | ⟨o', t, h⟩
  · exact .inl h
  · exact .inr ⟨o', t, by rw [h, List.concat_eq_append]⟩
theorem lastB_nil (j : Nat) : lastB [] j = true := rfl
theorem lastB_snoc (o : List Nat) (t j : Nat) : lastB (o ++ [t]) j = decide (t < j) := by
  unfold lastB
  rw [List.getLast?_concat]
theorem OrdsAt.keep {H0 H H' : Hp} {D : Addr} {os : List (List Nat)} (A : OrdsAt H0 H D os) (sm : Same H H') : OrdsAt H0 H' D os := by
  obtain ⟨ps, hp, lp, at_, fr⟩ := A
  exact ⟨ps, sm _ _ hp, lp, fun i p o a b => sm _ _ (at_ i p o a b), fr⟩
/-- the lists of so many numbers -/
def spLists : Sp := fun vs H Q _ => ∃ n k : Nat, vs = [.int (n : Int), .int (k : Int)] ∧ n ≤ 4 ∧ k < n ∧ ∀ (R : Addr) (H' : Hp), H R = none → Same H H' → OrdsAt H H' R (subsM n k) → Q (.ref R) H'
section
variable {P : Program} {w : World} {K : PySem.W.Frag} {mg : Str → Option Value} {base : Heap} {fB fH fI fJ fL fM fN : Addr} {dB dH dI dJ dL dM dN : FuncData}
theorem ok_lists {f : Addr} {fd : FuncData} (F : Fun K "_law_lists" "_law_lists" s_L_lists f fd) (B : Blt mg) : FnOk P w K mg base CX0 1 f fd ["_law_many", "_law_length"] spLists := by
  refine F.ok sc_L_lists (fun vs H Q E h => ?_) (fun cdv A outer s0 H vs Q E hr h => ?_)
  · obtain ⟨n, k, rfl, _⟩ := h
    rfl
  · obtain ⟨n, k, rfl, n4, kn, q⟩ := h
    have nd := sc_L_lists.nd
    refine ⟨_, (pss_cons (ps_set (i := 2) nd rfl (Or.inl rfl) (pe_lst (pa_cons (pe_lst pa_nil) pa_nil)))
      (pss_cons (ps_for PassesOwn.never rfl (pi_range1 (by rfl) B.range (pa_cons (pv 1) pa_nil)) (pg_name (i := 3) nd rfl (Or.inl rfl)) (pss_cons (ps_set (i := 4) nd rfl (Or.inl rfl) (pe_lst pa_nil))
      (pss_cons (ps_for PassesOwn.never rfl (pi_list (pv 2)) (pg_name (i := 5) nd rfl (Or.inr rfl)) (pss_one (ps_set (i := 4) nd rfl (Or.inl rfl) (pe_op op_cat (pv 4) (pe_lc (own := [("_law_number", 6)]) (g := gName 6) rfl nd (pi_range1 (by rfl) B.range (pa_cons (pv 0) pa_nil)) (blkOk_by (N := ["_law_many", "_law_length", "_law_found", "_law_k", "_law_more", "_law_one", "_law_number"]) (sc := defScope s_L_lists) (by decide +kernel)) (fun _ _ _ _ _ => pg_name (i := 6) nd rfl (Or.inl rfl)) (fun _ _ _ _ _ => (pts_one (PW.pt (pw_or (pt_cmpR (show OpR _ _ (rEqD K) from op_eqD hr.units) (pv 5) (pe_lst pa_nil) (nomark _)) (pw_or1 (pt_cmpR op_gt (pv 6) (pe_ix (r := rIxL K) (by exact ix_list) (pv 5) (pe_un un_neg pe_int) (fun _ _ => rfl)) (nomark _))))))) (fun _ _ _ _ _ => (pe_op op_cat (pv 5) (pe_lst (pa_cons (pv 6) pa_nil)))))))))
      (pss_one (ps_set (i := 2) nd rfl (Or.inl rfl) (pv 4))))))
      (pss_one (ps_ret (pv 2))))), ?_⟩
    walk_at "rd"
    refine ⟨(by show 0 ≤ sizeLine; decide), fun p1 np1 => ?_⟩
    generalize e_p1 : upd H p1 _ = H1
    have f1 : H1 p1 = some (.lst []) := by rw [← e_p1]; exact upd_same
    have s1 : Same H H1 := by rw [← e_p1]; exact fun b u z => (upd_ne (ne_of_none z np1)).trans z
    clear e_p1
    walk_at "rd"
    refine ⟨(by show 1 ≤ sizeLine; decide), fun p2 np2 => ?_⟩
    generalize e_p2 : upd H1 p2 _ = H2
    have f2 : H2 p2 = some (.lst [.ref p1]) := by rw [← e_p2]; exact upd_same
    have s2 : Same H1 H2 := by rw [← e_p2]; exact fun b u z => (upd_ne (ne_of_none z np2)).trans z
    clear e_p2
    walk_at "rd"
    refine ⟨by omega, by omega, ?_⟩
    rw [Int.toNat_natCast]
    refine for_range (n := k) (fun i st H' => ∃ (R : Addr) (x3 x4 x5 x6 : Option V), st = [some (.int (n : Int)), some (.int (k : Int)), some (.ref R), x3, x4, x5, x6] ∧ H R = none ∧ Same H H' ∧ OrdsAt H H' R (subsM n i))
      ⟨p2, none, none, none, none, rfl, s1.free np2, s1.trans s2, ⟨[p1], f2, rfl, ?_, ?_⟩⟩ ?_ ?_
    · intro i p o hp ho
      match i, hp, ho with
      | 0, hp, ho => cases hp; cases ho; exact s2 _ _ f1
      | i + 1, hp, ho => cases hp
    · intro p hp
      rw [List.mem_singleton.mp hp]
      exact np1
    · rintro i st H' hi ⟨R, x3, x4, x5, x6, rfl, nR, sm, OA⟩
      have hin : i < n := by omega
      obtain ⟨s24, sok⟩ := subs_ok n4 hin
      obtain ⟨ps, hL, lp, at_, fr⟩ := id OA
      walk_at "rd"
      refine ⟨(by show 0 ≤ sizeLine; decide), fun p3 np3 => ?_⟩
      generalize e_p3 : upd H' p3 _ = H3
      have f3 : H3 p3 = some (.lst []) := by rw [← e_p3]; exact upd_same
      have s3 : Same H' H3 := by rw [← e_p3]; exact fun b u z => (upd_ne (ne_of_none z np3)).trans z
      clear e_p3
      walk_at "rd"
      refine ⟨⟨_, SqL.of (s3 _ _ hL)⟩, ?_⟩
      refine for_list (K := K) (a := R) (xs := ps.map V.ref) (fun i1 st H4 => ∃ (M : Addr) (x5 x6 : Option V), st = [some (.int (n : Int)), some (.int (k : Int)), some (.ref R), some (.int (0 + (i : Int))), some (.ref M), x5, x6] ∧ H M = none ∧ Same H3 H4 ∧ OrdsAt H H4 M (((subsM n i).take i1).flatMap fun o => newsP (moreB o) n o))
        ⟨p3, x5, x6, rfl, sm.free np3, Same.refl _, ⟨[], f3, rfl, (fun i p o hp _ => nomatch hp), fun p hp => absurd hp List.not_mem_nil⟩⟩ (fun _ _ _ _ ⟨_, _, _, _, _, s, _⟩ => SqL.of (s _ _ (s3 _ _ hL))) ?_ ?_
      · rintro i1 y st H4 hy ⟨M, x5, x6, rfl, nM, s4, OM⟩
        obtain ⟨p, hp, rfl⟩ : ∃ p, ps[i1]? = some p ∧ y = .ref p := by
          rw [List.getElem?_map] at hy
          cases e : ps[i1]? with
          | none => rw [e] at hy; cases hy
          | some p => rw [e] at hy; exact ⟨p, rfl, (Option.some.inj hy).symm⟩
        have hil : i1 < (subsM n i).length := by rw [← lp]; exact (List.getElem?_eq_some_iff.mp hp).1
        obtain ⟨o, ho⟩ : ∃ o, (subsM n i)[i1]? = some o := ⟨_, List.getElem?_eq_getElem hil⟩
        have po := s4 _ _ (s3 _ _ (at_ i1 p o hp ho))
        have oi := (sok o (List.mem_of_getElem? ho)).1
        walk_at "rd"
        refine ⟨by omega, by omega, fun D nD => ?_⟩
        have sH4 : Same H H4 := sm.trans (s3.trans s4)
        have s5 : Same H4 (upd H4 D (.lst [])) := fun b u z => (upd_ne (ne_of_none z nD)).trans z
        refine lc_range (lo := 0) (n := n) (fun j H6 => OrdsAt H H6 D (newsP (moreB o) j o) ∧ Same H4 H6) ⟨⟨[], upd_same, rfl, (fun i p o hp _ => nomatch hp), fun p hp => absurd hp List.not_mem_nil⟩, s5⟩ ?_ ?_
        · rintro j H6 hj ⟨OD6, s6⟩
          have po6 := s6 _ _ po
          have ej : (0 : Int) + (j : Int) = (j : Int) := by omega
          refine ⟨rfl, ?_⟩
          walk_at "rd"
          refine ⟨(by show 0 ≤ sizeLine; decide), fun p7 np7 => ?_⟩
          generalize e_p7 : upd H6 p7 _ = H7
          have f7 : H7 p7 = some (.lst []) := by rw [← e_p7]; exact upd_same
          have s7 : Same H6 H7 := by rw [← e_p7]; exact fun b u z => (upd_ne (ne_of_none z np7)).trans z
          clear e_p7
          walk_at "rd"
          refine ⟨_, .list [], .lst (SqL.of (s7 _ _ po6)) (dpNats o), .lst (SqL.of f7) .nil, nats_shaped o, by decide +kernel, ?_⟩
          have mo := more_last n4 hin (List.mem_of_getElem? ho) hj
          rcases nil_or_last o with eo | ⟨o', t, eo⟩
          · subst eo
            have mb : moreB [] j = true := mo
            walk_at "rd"
            walk_at "rd"
            refine ⟨(by show 1 ≤ sizeLine; decide), fun a1 na1 => ?_⟩
            generalize e_a1 : upd H7 a1 _ = H8
            have f8 : H8 a1 = some (.lst [V.int (0 + (j : Int))]) := by rw [← e_a1]; exact upd_same
            have s8 : Same H7 H8 := by rw [← e_a1]; exact fun b u z => (upd_ne (ne_of_none z na1)).trans z
            clear e_a1
            walk_at "rd"
            have po8 := s8 _ _ (s7 _ _ po6)
            refine ⟨p, a1, _, _, rfl, rfl, po8, f8, (by rw [List.length_map]; exact Nat.le_trans (by show ([] : List Nat).length + 1 ≤ 8; omega) (by decide)), fun a2 k2 => ?_⟩
            generalize e4 : upd H8 a2 _ = H9
            have s9 : Same H8 H9 := by rw [← e4]; exact fun b u y => (upd_ne (ne_of_none y k2)).trans y
            have f9 : H9 a2 = some (.lst ((([] : List Nat) ++ [j]).map nV)) := by
              rw [← e4, List.map_append]
              refine upd_same.trans ?_
              rw [ej]
              first | rfl | simp only [List.map_append, List.map_cons, List.map_nil, nV]
            clear e4
            obtain ⟨qs, hqs, lq, at6, fr6⟩ := id OD6
            have s79 : Same H6 H9 := s7.trans (s8.trans s9)
            have n2H : H a2 = none := (sH4.trans (s6.trans (s7.trans s8))).free k2
            have nD6 : a2 ≠ D := fun y => by
              rw [y, s8 _ _ (s7 _ _ hqs)] at k2
              cases k2
            refine ⟨_, s79 _ _ hqs, ?_, ?_, ?_⟩
            · rw [List.length_map, lq]
              exact Nat.lt_of_le_of_lt (Nat.le_trans (newsP_len _ _ _) (by omega : j ≤ 8)) (by decide)
            · rw [newsP_succ, if_pos mb]
              exact OD6.snoc hqs s79 n2H f9 nD6
            · intro b u y
              exact (upd_ne (ne_of_none y nD)).trans (s79 _ _ (s6 _ _ y))
          · subst eo
            rw [lastB_snoc] at mo
            walk_at "rd"
            refine ite2 (fun z => ?_) (fun _ => ?_)
            · exfalso
              cases o' with
              | nil => rw [List.nil_append, List.map_cons, eqv_cons_nil] at z; cases z
              | cons a b => rw [List.cons_append, List.map_cons, eqv_cons_nil] at z; cases z
            walk_at "rd"
            refine ⟨p, _, _, _, rfl, rfl, SqL.of (s7 _ _ po6), by rw [List.map_append]; exact atI_last _ _, ?_⟩
            walk_at "rd"
            refine ite2 (fun z => ?_) (fun z => ?_)
            · have mb : moreB (o' ++ [t]) j = true := by
                rw [mo]
                have z1 := of_decide_eq_true z
                exact decide_eq_true (by omega)
              walk_at "rd"
              walk_at "rd"
              refine ⟨(by show 1 ≤ sizeLine; decide), fun a1 na1 => ?_⟩
              generalize e_a1 : upd H7 a1 _ = H8
              have f8 : H8 a1 = some (.lst [V.int (0 + (j : Int))]) := by rw [← e_a1]; exact upd_same
              have s8 : Same H7 H8 := by rw [← e_a1]; exact fun b u z => (upd_ne (ne_of_none z na1)).trans z
              clear e_a1
              walk_at "rd"
              have po8 := s8 _ _ (s7 _ _ po6)
              refine ⟨p, a1, _, _, rfl, rfl, po8, f8, (by rw [List.length_map]; exact Nat.le_trans (by show (o' ++ [t]).length + 1 ≤ 8; omega) (by decide)), fun a2 k2 => ?_⟩
              generalize e4 : upd H8 a2 _ = H9
              have s9 : Same H8 H9 := by rw [← e4]; exact fun b u y => (upd_ne (ne_of_none y k2)).trans y
              have f9 : H9 a2 = some (.lst (((o' ++ [t]) ++ [j]).map nV)) := by
                rw [← e4, List.map_append]
                refine upd_same.trans ?_
                rw [ej]
                first | rfl | simp only [List.map_append, List.map_cons, List.map_nil, nV]
              clear e4
              obtain ⟨qs, hqs, lq, at6, fr6⟩ := id OD6
              have s79 : Same H6 H9 := s7.trans (s8.trans s9)
              have n2H : H a2 = none := (sH4.trans (s6.trans (s7.trans s8))).free k2
              have nD6 : a2 ≠ D := fun y => by
                rw [y, s8 _ _ (s7 _ _ hqs)] at k2
                cases k2
              refine ⟨_, s79 _ _ hqs, ?_, ?_, ?_⟩
              · rw [List.length_map, lq]
                exact Nat.lt_of_le_of_lt (Nat.le_trans (newsP_len _ _ _) (by omega : j ≤ 8)) (by decide)
              · rw [newsP_succ, if_pos mb]
                exact OD6.snoc hqs s79 n2H f9 nD6
              · intro b u y
                exact (upd_ne (ne_of_none y nD)).trans (s79 _ _ (s6 _ _ y))
            · have mb : ¬ moreB (o' ++ [t]) j = true := by
                rw [mo]
                intro y
                have y1 := of_decide_eq_true y
                exact z (decide_eq_true (by omega))
              refine ⟨?_, s6.trans s7⟩
              rw [newsP_succ, if_neg mb, List.append_nil]
              exact OrdsAt.keep OD6 s7
        · rintro H6 ⟨OD6, s6⟩
          obtain ⟨qs, hqs, lq, qat, qfr⟩ := id OD6
          obtain ⟨ms, hM, lm, mat, mfr⟩ := id OM
          walk_at "rd"
          refine ⟨M, D, _, _, rfl, rfl, s6 _ _ hM, hqs, ?_, fun R3 nR3 => ?_⟩
          · rw [List.length_map, List.length_map, lq, lm]
            have c1 := flat_len (fun o => newsP_len (moreB o) n o) ((subsM n i).take i1)
            have c2 : ((subsM n i).take i1).length ≤ (subsM n i).length := List.length_take_le' _ _
            have c3 := newsP_len (moreB o) n o
            have c4 : ((subsM n i).take i1).length * n ≤ 24 * 4 := Nat.mul_le_mul (by omega) n4
            exact Nat.le_trans (by omega : _ ≤ 1000) (by decide)
          generalize e7 : upd H6 R3 _ = H7
          have s7 : Same H6 H7 := by rw [← e7]; exact fun b u z => (upd_ne (ne_of_none z nR3)).trans z
          have f7 : H7 R3 = some (.lst (ms.map V.ref ++ qs.map V.ref)) := by rw [← e7]; exact upd_same
          clear e7
          refine ⟨R3, _, _, rfl, (sH4.trans s6).free nR3, s4.trans (s6.trans s7), ⟨ms ++ qs, by rw [List.map_append]; exact f7, ?_, ?_, ?_⟩⟩
          · rw [List.take_succ, ho, List.flatMap_append, List.length_append, List.length_append, lm, lq]
            simp only [Option.toList, List.flatMap_cons, List.flatMap_nil, List.append_nil]
          · intro i2 p o2 hp ho2
            rw [List.take_succ, ho, List.flatMap_append] at ho2
            simp only [Option.toList, List.flatMap_cons, List.flatMap_nil, List.append_nil] at ho2
            rcases Nat.lt_or_ge i2 ms.length with z | z
            · rw [List.getElem?_append_left z] at hp
              rw [List.getElem?_append_left (by omega)] at ho2
              exact s7 _ _ (s6 _ _ (mat i2 p o2 hp ho2))
            · rw [List.getElem?_append_right z] at hp
              rw [List.getElem?_append_right (by omega)] at ho2
              rw [← lm] at ho2
              exact s7 _ _ (qat _ p o2 hp ho2)
          · intro p hp
            rcases List.mem_append.mp hp with z | z
            · exact mfr p z
            · exact qfr p z
      · rintro st H4 ⟨M, x5, x6, rfl, nM, s4, OM⟩
        rw [List.length_map, lp, List.take_length] at OM
        walk_at "rd"
        exact ⟨M, _, _, _, _, rfl, nM, sm.trans (s3.trans s4), OM⟩
    · rintro st H' ⟨R, x3, x4, x5, x6, rfl, nR, sm, OA⟩
      walk_at "rd"
      exact q R H' nR sm OA
end
end HT
namespace HT
open PySem L2
def spDueL : Sp := fun vs H Q _ => ∃ (l : Addr) (xs : List V) (ss : List Sd), vs = [.ref l] ∧ SidesAt H l xs ss ∧ (∀ d ∈ ss, d.s ≤ 8) ∧ ∀ (R : Addr) (H' : Hp) (o : List Nat), H R = none → Same H H' → H' R = some (.lst (o.map nV)) → FstP ss o → Q (.ref R) H'
theorem com60 {ss t : List Sd} (hs : ∀ d ∈ ss, SideP d.o d.s d.m) (h8 : ∀ d ∈ ss, d.s ≤ 8) (sub : t.Sublist ss) : comN t < 2 ^ 60 := by
  have h1 : comN t ∣ 1680 := com_small t 1 (Nat.one_dvd _) fun d hd => ⟨hs d (sub.subset hd), h8 d (sub.subset hd)⟩
  exact Nat.lt_of_le_of_lt (Nat.le_of_dvd (by decide) h1) (by decide)
section
variable {P : Program} {w : World} {K : PySem.W.Frag} {mg : Str → Option Value} {base : Heap} {fB fH fI fJ fL fM fN : Addr} {dB dH dI dJ dL dM dN : FuncData}
theorem ok_dueL {f : Addr} {fd : FuncData} (F : Fun K "_law_due" "_law_due" s_L_due f fd) (B : Blt mg) (Li : Cal P w K mg base "_law_lists" 1 ["_law_many", "_law_length"] spLists fB dB) (Ic : Cal P w K mg base "_law_is_calm" 4 ["_law_sides"] spIC fH dH) : FnOk P w K mg base CX0 5 f fd ["_law_sides"] spDueL := by
  refine F.ok sc_L_due (fun vs H Q E h => ?_) (fun cdv A outer s0 H vs Q E hr h => ?_)
  · obtain ⟨l, xs, ss, rfl, _⟩ := h
    rfl
  · obtain ⟨l, xs, ss, rfl, SS, h8, q⟩ := h
    have nd := sc_L_due.nd
    refine ⟨_, (pss_cons (ps_for PassesOwn.never rfl (pi_range1 (by rfl) B.range (pa_cons (pe_callB call_len_seq (by rfl) B.len PySem.boot_len (pa_cons (pv 0) pa_nil)) pa_nil)) (pg_name (i := 1) nd rfl (Or.inl rfl)) (pss_one (ps_for PassesOwn.never rfl (pi_list (pcl Li hr (by decide) (by rfl) (pa_cons (pe_callB call_len_seq (by rfl) B.len PySem.boot_len (pa_cons (pv 0) pa_nil)) (pa_cons (pv 1) pa_nil)))) (pg_name (i := 2) nd rfl (Or.inr rfl)) (pss_one (ps_if (pt_val (pcl Ic hr (by decide) (by rfl) (pa_cons (pe_lc (own := [("_law_k", 3)]) (g := gName 3) rfl nd (pi_range1 (by rfl) B.range (pa_cons (pe_callB call_len_seq (by rfl) B.len PySem.boot_len (pa_cons (pv 0) pa_nil)) pa_nil)) (blkOk_by (N := ["_law_sides", "_law_length", "_law_out", "_law_k"]) (sc := defScope s_L_due) (by decide +kernel)) (fun _ _ _ _ _ => pg_name (i := 3) nd rfl (Or.inl rfl)) (fun _ _ _ _ _ => (pts_one (pt_cmpR (show OpR _ _ (rIn K true) from op_notIn_seq) (pv 3) (pv 2) (by rfl)))) (fun _ _ _ _ _ => (pe_ix (r := rIxL K) (by exact ix_list) (pv 0) (pv 3) (fun _ _ => rfl)))) pa_nil))) (pss_one (ps_ret (pv 2))) pss_nil)))))
      (pss_one (ps_ret pe_non))), ?_⟩
    have l1 := SS.l1
    have l4 := SS.l4
    have lx := SS.len
    walk_at "rd"
    refine ⟨l, _, rfl, .inl (SqL.of SS.hl), ?_⟩
    walk_at "rd"
    refine ⟨by omega, by omega, ?_⟩
    rw [Int.toNat_natCast, lx]
    refine for_range (n := ss.length) (fun i st H' => ∃ x1 x2 : Option V, st = [some (.ref l), x1, x2, none] ∧ Same H H' ∧ ∀ k', k' < i → ∀ o ∈ subsM ss.length k', ¬ CalmP (keep ss o))
      ⟨none, none, rfl, Same.refl _, fun k' h => absurd h (Nat.not_lt_zero _)⟩ ?_ ?_
    · rintro i st H' hi ⟨x1, x2, rfl, sm, no⟩
      obtain ⟨s24, sok⟩ := subs_ok l4 hi
      walk_at "rd"
      refine ⟨l, _, rfl, .inl (SqL.of (SS.same sm).hl), ?_⟩
      walk_at "rd"
      refine ⟨ss.length, i, (by rw [lx, Int.zero_add]; rfl), l4, hi, fun L H1 nL s1 OA => ?_⟩
      obtain ⟨ps, hL, lp, at_, fr⟩ := id OA
      have fr' : ∀ p ∈ ps, H p = none := fun p hp => sm.free (fr p hp)
      refine ⟨L, rfl, ⟨_, SqL.of hL⟩, ?_⟩
      refine for_list (K := K) (a := L) (xs := ps.map V.ref) (fun i1 st H3 => ∃ x2 : Option V, st = [some (.ref l), some (.int (0 + (i : Int))), x2, none] ∧ Same H1 H3 ∧ ∀ j, j < i1 → ∀ o, (subsM ss.length i)[j]? = some o → ¬ CalmP (keep ss o)) ⟨x2, rfl, Same.refl _, fun j h => absurd h (Nat.not_lt_zero _)⟩ (fun _ _ _ _ ⟨_, _, s, _⟩ => SqL.of (s _ _ hL)) ?_ ?_
      · rintro i1 y st H3 hy ⟨y2, rfl, s3, noi⟩
        obtain ⟨p, hp, rfl⟩ : ∃ p, ps[i1]? = some p ∧ y = .ref p := by
          rw [List.getElem?_map] at hy
          cases e : ps[i1]? with
          | none => rw [e] at hy; cases hy
          | some p => rw [e] at hy; exact ⟨p, rfl, (Option.some.inj hy).symm⟩
        have il : i1 < (subsM ss.length i).length := by rw [← lp]; exact (List.getElem?_eq_some_iff.mp hp).1
        obtain ⟨o, ho⟩ : ∃ o, (subsM ss.length i)[i1]? = some o := ⟨_, List.getElem?_eq_getElem il⟩
        have po := at_ i1 p o hp ho
        obtain ⟨o4, oi, oin, oic⟩ := sok o (List.mem_of_getElem? ho)
        have S3 := SS.same (sm.trans (s1.trans s3))
        walk_at "rd"
        refine ⟨l, _, rfl, .inl (SqL.of S3.hl), ?_⟩
        walk_at "rd"
        refine ⟨by omega, by omega, ?_⟩
        rw [Int.toNat_natCast, lx]
        refine fun D nD => ?_
        refine lc_range (lo := 0) (n := ss.length) (fun i2 H5 => ∃ ys : List V, H5 D = some (.lst ys) ∧ ys.length = (keepJ ss o i2).length ∧ i2 ≤ ss.length ∧ Same H3 H5 ∧ (∀ (j : Nat) (d : Sd), (keepJ ss o i2)[j]? = some d → ∃ p : Addr, ys[j]? = some (V.ref p) ∧ H5 p = some (sideV d.o d.s d.m) ∧ SideP d.o d.s d.m))
          ⟨[], upd_same, rfl, Nat.zero_le _, fun b u z => (upd_ne (ne_of_none z nD)).trans z, fun j d z => by cases z⟩ ?_ ?_
        · rintro i2 H5 il2 ⟨ys, hD, ly, li, s5, at5⟩
          obtain ⟨d, ed⟩ : ∃ d, ss[i2]? = some d := ⟨_, List.getElem?_eq_getElem il2⟩
          obtain ⟨p2, ex, hp2, sp⟩ := (SS.at_ i2 d ed)
          refine ⟨rfl, ?_⟩
          walk_at "rd"
          have sH5 : Same H H5 := sm.trans (s1.trans (s3.trans s5))
          have ei : (0 : Int) + (i2 : Int) = ((i2 : Nat) : Int) := by omega
          rw [ei]
          refine ⟨p, _, rfl, .inl (SqL.of (s5 _ _ (s3 _ _ po))), rfl, all_flat o, ?_⟩
          rw [show inV (V.int ((i2 : Nat) : Int)) (o.map nV) = o.contains i2 from inV_nat i2 o]
          refine ⟨_, rfl, ?_⟩
          refine ite2 (fun z => ?_) (fun z => ?_)
          · have nc : ¬ o.contains i2 = true := fun y => not_t z y
            walk_at "rd"
            refine ⟨l, _, _, _, rfl, rfl, SqL.of (SS.same sH5).hl, atI_nat ex, ?_⟩
            refine ⟨_, hD, ?_, ys ++ [.ref p2], upd_same, ?_, il2, ?_, ?_⟩
            · rw [ly]
              exact Nat.lt_of_le_of_lt (Nat.le_trans (List.Sublist.length_le (keepJ_sub ss o i2)) (Nat.le_trans (List.length_take_le' _ _) l4)) (by decide)
            · rw [keepJ_succ ed, if_neg nc, List.length_append, List.length_append, ly]
              rfl
            · intro b u y
              exact (upd_ne (ne_of_none y nD)).trans (s5 _ _ y)
            · rw [keepJ_succ ed, if_neg nc]
              have g := sH5 _ _ hp2
              exact grow_side at5 ly (fun b u y nb => (upd_ne nb).trans y) hD ((upd_ne (ne_of g hD (by intro y; cases y))).trans g) sp
          · have hc : o.contains i2 = true := not_f z
            refine ⟨ys, hD, ?_, il2, s5, ?_⟩
            · rw [keepJ_succ ed, if_pos hc, List.append_nil]
              exact ly
            · rw [keepJ_succ ed, if_pos hc, List.append_nil]
              exact at5
        · rintro H5 ⟨ys, hD, ly, li, s5, at5⟩
          have kp := keepJ_pos oin oic ss.length oin
          have SK : SidesAt H5 D ys (keep ss o) := ⟨hD, ly, kp, Nat.le_trans (List.Sublist.length_le (keep_sub ss o)) l4, at5⟩
          refine ⟨D, ys, keep ss o, rfl, SK, com60 SS.side h8 (keep_sub ss o), fun b H6 hb s6 => ?_⟩
          walk_at "rd"
          refine ite2 (fun z => ?_) (fun z => ?_)
          · walk_at "rd"
            exact q p H6 o (fr' p (List.mem_of_getElem? hp)) (sm.trans (s1.trans (s3.trans (s5.trans s6)))) (s6 _ _ (s5 _ _ (s3 _ _ po))) ⟨i, i1, hi, ho, hb.mp z, noi, no⟩
          · refine ⟨_, rfl, s3.trans (s5.trans s6), fun j hj o' ho' => ?_⟩
            by_cases e : j = i1
            · subst e
              rw [ho] at ho'
              cases ho'
              exact fun c => z (hb.mpr c)
            · exact noi j (by omega) o' ho'
      · rintro st H3 ⟨y2, rfl, s3, noi⟩
        rw [List.length_map, lp] at noi
        refine ⟨_, _, rfl, sm.trans (s1.trans s3), fun k' hk' o ho => ?_⟩
        by_cases e : k' = i
        · subst e
          obtain ⟨j, hj, e⟩ := List.mem_iff_getElem.mp ho
          exact noi j hj o (by rw [← e]; exact List.getElem?_eq_getElem hj)
        · exact no k' (by omega) o ho
    · rintro st H' ⟨x1, x2, rfl, sm, no⟩
      exfalso
      obtain ⟨o, ho, c⟩ := last_calm SS.side l1 l4
      exact no (ss.length - 1) (by omega) o ho c
end
end HT
namespace HT
open PySem L2
def FewL (ss : List Sd) : Prop := (ss.filter fun d : Sd => !decide (d.m = ("down" : Str))).length ≤ 2 ∧ (ss.filter fun d : Sd => !decide (d.m = ("up" : Str))).length ≤ 2
def spFew : Sp := fun vs H Q _ => ∃ (l : Addr) (xs : List V) (ss : List Sd), vs = [.ref l] ∧ SidesAt H l xs ss ∧ ∀ (b : Bool) (H' : Hp), (b = true → FewL ss) → Same H H' → Q (.bl b) H'
theorem inV_str (m s : Str) : inV (V.str m) [V.str s] = decide (m = s) := by
  show (eqV (V.str s) (V.str m) || false) = _
  rw [Bool.or_false]
  show (s == m) = _
  by_cases h : m = s
  · subst h; simp
  · rw [decide_eq_false h]
    exact beq_eq_false_iff_ne.mpr fun e => h e.symm
section
variable {P : Program} {w : World} {K : PySem.W.Frag} {mg : Str → Option Value} {base : Heap} {fB fH fI fJ fL fM fN : Addr} {dB dH dI dJ dL dM dN : FuncData}
theorem ok_few {f : Addr} {fd : FuncData} (F : Fun K "_law_is_few" "_law_is_few" s_L_is_few f fd) (B : Blt mg) : FnOk P w K mg base CX0 1 f fd ["_law_sides"] spFew := by
  refine F.ok sc_L_is_few (fun vs H Q E h => ?_) (fun cdv A outer s0 H vs Q E hr h => ?_)
  · obtain ⟨l, xs, ss, rfl, _⟩ := h
    rfl
  · obtain ⟨l, xs, ss, rfl, SS, q⟩ := h
    have nd := sc_L_is_few.nd
    refine ⟨_, (pss_cons (ps_setLc (i := 2) (own := [("_law_one", 1)]) (g := gName 1) rfl nd rfl rfl (sw_true rfl rfl rfl (by decide +kernel)) (pi_list (pv 0)) (blkOk_by (N := ["_law_sides", "_law_one", "_law_low", "_law_high"]) (sc := defScope s_L_is_few) (by decide +kernel)) (fun _ _ _ _ _ => pg_name (i := 1) nd rfl (Or.inl rfl)) (fun _ _ _ _ _ => (pts_one (pt_cmpR (show OpR _ _ (rIn K true) from op_notIn_seq) (pe_ix (r := rIxT K) (by exact ix_tup) (pv 1) pe_int (fun _ _ => rfl)) (pe_lst (pa_cons pe_str pa_nil)) (by rfl)))) (fun _ _ _ _ _ => (pv 1)))
      (pss_cons (ps_setLc (i := 3) (own := [("_law_one", 1)]) (g := gName 1) rfl nd rfl rfl (sw_true rfl rfl rfl (by decide +kernel)) (pi_list (pv 0)) (blkOk_by (N := ["_law_sides", "_law_one", "_law_low", "_law_high"]) (sc := defScope s_L_is_few) (by decide +kernel)) (fun _ _ _ _ _ => pg_name (i := 1) nd rfl (Or.inl rfl)) (fun _ _ _ _ _ => (pts_one (pt_cmpR (show OpR _ _ (rIn K true) from op_notIn_seq) (pe_ix (r := rIxT K) (by exact ix_tup) (pv 1) pe_int (fun _ _ => rfl)) (pe_lst (pa_cons pe_str pa_nil)) (by rfl)))) (fun _ _ _ _ _ => (pv 1)))
      (pss_one (ps_ret (pe_and (pe_cmpR op_lt (pe_callB call_len_seq (by rfl) B.len PySem.boot_len (pa_cons (pv 2) pa_nil)) pe_int (nomark _)) (pe_one (pe_cmpR op_lt (pe_callB call_len_seq (by rfl) B.len PySem.boot_len (pa_cons (pv 3) pa_nil)) pe_int (nomark _)))))))), ?_⟩
    have l4 := SS.l4
    walk_at "rd"
    refine ⟨⟨_, SqL.of ((Same.refl H) _ _ SS.hl)⟩, fun D nD => ?_⟩
    refine lc_list (K := K) (a := l) (xs := xs) (fun j H4 => ∃ ys : List V, H4 D = some (.lst ys) ∧ ys.length = ((ss.take j).filter fun d : Sd => !decide (d.m = ("up" : Str))).length ∧ Same H H4 ∧ j ≤ ss.length) ⟨[], upd_same, rfl, (fun b u z => (upd_ne (ne_of_none z nD)).trans z), Nat.zero_le _⟩ (fun j H4 _ ⟨_, _, _, s4, _⟩ => SqL.of (s4 _ _ ((Same.refl H) _ _ SS.hl))) ?_ ?_
    · rintro i y H4 hy ⟨ys, hD, ly, s4, _⟩
      obtain ⟨d, p, ed, rfl, hp, sp⟩ := SS.item hy
      have il : i < ss.length := (List.getElem?_eq_some_iff.mp ed).1
      have tk : ss.take (i + 1) = ss.take i ++ [d] := by rw [List.take_succ, ed]; rfl
      refine ⟨rfl, ?_⟩
      walk_at "rd"
      refine ⟨p, _, _, _, rfl, rfl, SqT.of (s4 _ _ ((Same.refl H) _ _ hp)), rfl, ?_⟩
      walk_at "rd"
      refine ⟨(by show 1 ≤ sizeLine; decide), fun p5 np5 => ?_⟩
      generalize e_p5 : upd H4 p5 _ = H5
      have f5 : H5 p5 = some (.lst [.str "up"]) := by rw [← e_p5]; exact upd_same
      have s5 : Same H4 H5 := by rw [← e_p5]; exact fun b u z => (upd_ne (ne_of_none z np5)).trans z
      clear e_p5
      walk_at "rd"
      refine ⟨p5, _, rfl, .inl (SqL.of f5), rfl, rfl, ?_⟩
      rw [inV_str]
      refine ⟨_, rfl, ?_⟩
      refine ite2 (fun z => ?_) (fun z => ?_)
      · have mm : ¬ d.m = ("up" : Str) := fun e => not_t z (decide_eq_true e)
        walk_at "rd"
        refine ⟨_, s5 _ _ hD, ?_, ys ++ [.ref p], upd_same, ?_, ?_, il⟩
        · rw [ly]
          exact Nat.lt_of_le_of_lt (Nat.le_trans (List.length_filter_le _ _) (Nat.le_trans (List.length_take_le' _ _) l4)) (by decide)
        · rw [tk, List.filter_append, List.length_append, List.length_append, ly]
          simp [mm]
        · intro b u y
          exact (upd_ne (ne_of_none y nD)).trans (s5 _ _ (s4 _ _ y))
      · have mm : d.m = ("up" : Str) := of_decide_eq_true (not_f z)
        refine ⟨ys, s5 _ _ hD, ?_, s4.trans s5, il⟩
        rw [tk, List.filter_append, List.length_append, ly]
        simp [mm]
    · rintro H1 ⟨ys1, hD1, ly1, s1, _⟩
      rw [SS.len, List.take_length] at ly1
      walk_at "rd"
      refine ⟨⟨_, SqL.of (s1 _ _ SS.hl)⟩, fun D2 nD2 => ?_⟩
      refine lc_list (K := K) (a := l) (xs := xs) (fun j H4 => ∃ ys : List V, H4 D2 = some (.lst ys) ∧ ys.length = ((ss.take j).filter fun d : Sd => !decide (d.m = ("down" : Str))).length ∧ Same H1 H4 ∧ j ≤ ss.length) ⟨[], upd_same, rfl, (fun b u z => (upd_ne (ne_of_none z nD2)).trans z), Nat.zero_le _⟩ (fun j H4 _ ⟨_, _, _, s4, _⟩ => SqL.of (s4 _ _ (s1 _ _ SS.hl))) ?_ ?_
      · rintro i y H4 hy ⟨ys, hD, ly, s4, _⟩
        obtain ⟨d, p, ed, rfl, hp, sp⟩ := SS.item hy
        have il : i < ss.length := (List.getElem?_eq_some_iff.mp ed).1
        have tk : ss.take (i + 1) = ss.take i ++ [d] := by rw [List.take_succ, ed]; rfl
        refine ⟨rfl, ?_⟩
        walk_at "rd"
        refine ⟨p, _, _, _, rfl, rfl, SqT.of (s4 _ _ (s1 _ _ hp)), rfl, ?_⟩
        walk_at "rd"
        refine ⟨(by show 1 ≤ sizeLine; decide), fun p5 np5 => ?_⟩
        generalize e_p5 : upd H4 p5 _ = H5
        have f5 : H5 p5 = some (.lst [.str "down"]) := by rw [← e_p5]; exact upd_same
        have s5 : Same H4 H5 := by rw [← e_p5]; exact fun b u z => (upd_ne (ne_of_none z np5)).trans z
        clear e_p5
        walk_at "rd"
        refine ⟨p5, _, rfl, .inl (SqL.of f5), rfl, rfl, ?_⟩
        rw [inV_str]
        refine ⟨_, rfl, ?_⟩
        refine ite2 (fun z => ?_) (fun z => ?_)
        · have mm : ¬ d.m = ("down" : Str) := fun e => not_t z (decide_eq_true e)
          walk_at "rd"
          refine ⟨_, s5 _ _ hD, ?_, ys ++ [.ref p], upd_same, ?_, ?_, il⟩
          · rw [ly]
            exact Nat.lt_of_le_of_lt (Nat.le_trans (List.length_filter_le _ _) (Nat.le_trans (List.length_take_le' _ _) l4)) (by decide)
          · rw [tk, List.filter_append, List.length_append, List.length_append, ly]
            simp [mm]
          · intro b u y
            exact (upd_ne (ne_of_none y nD2)).trans (s5 _ _ (s4 _ _ y))
        · have mm : d.m = ("down" : Str) := of_decide_eq_true (not_f z)
          refine ⟨ys, s5 _ _ hD, ?_, s4.trans s5, il⟩
          rw [tk, List.filter_append, List.length_append, ly]
          simp [mm]
      · rintro H2 ⟨ys2, hD2, ly2, s2, _⟩
        rw [SS.len, List.take_length] at ly2
        walk_at "rd"
        walk_at "rd"
        refine ⟨D, _, rfl, .inl (SqL.of (s2 _ _ hD1)), ?_⟩
        walk_at "rd"
        refine ite2 (fun z => ?_) (fun z => ?_)
        · walk_at "rd"
          refine ⟨D2, _, rfl, .inl (SqL.of hD2), ?_⟩
          walk_at "rd"
          refine q _ H2 (fun z2 => ?_) (s1.trans s2)
          have a1 := of_decide_eq_true z
          have a2 := of_decide_eq_true z2
          exact ⟨by omega, by omega⟩
        · walk_at "rd"
          exact q _ H2 (fun z2 => absurd z2 (by first | exact z | decide)) (s1.trans s2)
end
end HT
namespace HT
open PySem L2
theorem goes_scale {m : Str} {s q r f : Int} (h : Mode m) (hf : 1 ≤ f) : goesUp m (s * f) q (r * f) = goesUp m s q r := by
  have key : ∀ a b : Int, a * f < b * f ↔ a < b := fun a b => Int.mul_lt_mul_right (by omega)
  have key2 : ∀ a b : Int, a * f ≤ b * f ↔ a ≤ b := fun a b => by
    rw [← Int.not_lt, key, Int.not_lt]
  have e0 : (0 : Int) < r * f ↔ 0 < r := by
    have := key 0 r
    rw [Int.zero_mul] at this
    exact this
  have e1 : s * f < 2 * (r * f) ↔ s < 2 * r := by
    have := key s (2 * r)
    rw [Int.mul_assoc] at this
    exact this
  have e2 : s * f ≤ 2 * (r * f) ↔ s ≤ 2 * r := by
    have := key2 s (2 * r)
    rw [Int.mul_assoc] at this
    exact this
  have e3 : 2 * (r * f) = s * f ↔ 2 * r = s := by
    rw [← Int.mul_assoc]
    exact Int.mul_eq_mul_right_iff (by omega)
  rcases h with e | e | e | e | e <;> subst e
  · rw [go_down, go_down]
  · rw [go_up, go_up]; exact decide_eq_decide.mpr e0
  · rw [go_hd, go_hd]; exact decide_eq_decide.mpr e1
  · rw [go_hu, go_hu]; exact decide_eq_decide.mpr e2
  · rw [go_he, go_he, decide_eq_decide.mpr e1, decide_eq_decide.mpr e3]
theorem due_scale {o s v f : Int} {m : Str} (h : Mode m) (hs : 1 ≤ s) (hf : 1 ≤ f) : dueM (o * f) (s * f) m (v * f) = dueM o s m v * f := by
  have F := fig_of (o := o) (m := m) (v := v) hs
  have sf : 1 ≤ s * f := Int.mul_pos (by omega) (by omega)
  obtain ⟨eq, r0, r1, wh⟩ := F
  generalize (v - o) / s = q at eq wh
  generalize (v - o) % s = r at eq r0 r1 wh
  have F2 : Fig (o * f) (s * f) m (v * f) q (r * f) (figM o s m v) := by
    refine ⟨?_, Int.mul_nonneg r0 (by omega), (Int.mul_lt_mul_right (by omega)).mpr r1, ?_⟩
    · rw [← Int.sub_mul, eq, Int.add_mul, Int.mul_assoc, Int.mul_assoc, Int.mul_comm q f]
    · rw [goes_scale h hf]; exact wh
  have e := fig_uniq sf F2
  unfold dueM
  rw [e, Int.add_mul, Int.mul_assoc, Int.mul_assoc, Int.mul_comm f]
def lift (f : Int) (d : Sd) : Sd := ⟨d.o * f, d.s * f, d.m⟩
theorem due_lift {d : Sd} (h : SideP d.o d.s d.m) {f : Int} (hf : 1 ≤ f) (v : Int) : dueM (lift f d).o (lift f d).s (lift f d).m (v * f) = dueM d.o d.s d.m v * f := due_scale h.md h.s0 hf
theorem una_lift {ss : List Sd} (hs : ∀ d ∈ ss, SideP d.o d.s d.m) {f : Int} (hf : 1 ≤ f) : (∃ x, UnA (ss.map (lift f)) x) ↔ ∃ x, UnA ss x := by
  have sc : ∀ a b : Int, a * f ≤ b * f ↔ a ≤ b := fun a b => Int.mul_le_mul_right (by omega)
  constructor
  · rintro ⟨w, u⟩
    refine ⟨w / f, fun d hd => ?_⟩
    have h1 := u (lift f d) (List.mem_map.mpr ⟨d, hd, rfl⟩)
    have e := Int.emod_add_mul_ediv w f
    have r0 := Int.emod_nonneg w (show f ≠ 0 by omega)
    have r1 := Int.emod_lt_of_pos w (show 0 < f by omega)
    have sp := hs d hd
    have s0 := sp.s0
    have sf : 1 ≤ (lift f d).s := by
      show 1 ≤ d.s * f
      have : 1 * 1 ≤ d.s * f := Int.mul_le_mul s0 hf (by omega) (by omega)
      omega
    have h2 := due_le (o := (lift f d).o) (m := (lift f d).m) sp.md sf (show w / f * f ≤ w by rw [Int.mul_comm]; omega)
    rw [due_lift sp hf] at h2
    have h3 : dueM d.o d.s d.m (w / f) * f ≤ w := by omega
    exact (Int.le_ediv_iff_mul_le (by omega)).mpr h3
  · rintro ⟨x, u⟩
    refine ⟨x * f, fun e he => ?_⟩
    obtain ⟨d, hd, rfl⟩ := List.mem_map.mp he
    rw [due_lift (hs d hd) hf]
    exact (sc _ _).mpr (u d hd)
theorem mir_lift (f : Int) (ss : List Sd) : (ss.map (lift f)).map mirD = (ss.map mirD).map (lift f) := by
  rw [List.map_map, List.map_map]
  refine List.map_congr_left fun d _ => ?_
  show (⟨-(d.o * f), d.s * f, mir d.m⟩ : Sd) = ⟨-d.o * f, d.s * f, mir d.m⟩
  rw [Int.neg_mul]
theorem side_mirs {ss : List Sd} (hs : ∀ d ∈ ss, SideP d.o d.s d.m) : ∀ d ∈ ss.map mirD, SideP d.o d.s d.m := fun d hd => by
  obtain ⟨e, he, rfl⟩ := List.mem_map.mp hd
  exact side_mir (hs e he)
theorem calm_lift {ss : List Sd} (hs : ∀ d ∈ ss, SideP d.o d.s d.m) {f : Int} (hf : 1 ≤ f) : CalmP (ss.map (lift f)) ↔ CalmP ss := by
  unfold CalmP
  rw [mir_lift, una_lift hs hf, una_lift (side_mirs hs) hf]
theorem keepJ_lift (f : Int) (ss : List Sd) (o : List Nat) : ∀ n, keepJ (ss.map (lift f)) o n = (keepJ ss o n).map (lift f)
  | 0 => rfl
  | n + 1 => by
    have ih := keepJ_lift f ss o n
    cases h : ss[n]? with
    | none =>
      show keepJ (ss.map (lift f)) o n ++ (match (ss.map (lift f))[n]? with | some d => if o.contains n = true then [] else [d] | none => []) = (keepJ ss o n ++ (match ss[n]? with | some d => if o.contains n = true then [] else [d] | none => [])).map (lift f)
      rw [List.getElem?_map, h, ih, List.map_append]
      rfl
    | some d =>
      have h2 : (ss.map (lift f))[n]? = some (lift f d) := by rw [List.getElem?_map, h]; rfl
      rw [keepJ_succ h2, keepJ_succ h, ih, List.map_append]
      split <;> rfl
theorem keep_lift (f : Int) (ss : List Sd) (o : List Nat) : keep (ss.map (lift f)) o = (keep ss o).map (lift f) := by
  unfold keep
  rw [List.length_map]
  exact keepJ_lift f ss o ss.length
theorem fst_lift {ss : List Sd} (hs : ∀ d ∈ ss, SideP d.o d.s d.m) {f : Int} (hf : 1 ≤ f) {o : List Nat} (h : FstP (ss.map (lift f)) o) : FstP ss o := by
  have key : ∀ o, CalmP (keep (ss.map (lift f)) o) ↔ CalmP (keep ss o) := fun o => by
    rw [keep_lift]
    exact calm_lift (fun d hd => hs d ((keep_sub ss o).subset hd)) hf
  obtain ⟨k, i, a, b, c, d, e⟩ := h
  rw [List.length_map] at a b d e
  exact ⟨k, i, a, b, (key o).mp c, fun j hj o' ho' z => d j hj o' ho' ((key o').mpr z), fun k' hk' o' ho' z => e k' hk' o' ho' ((key o').mpr z)⟩
theorem few_lift {ss : List Sd} {f : Int} (h : FewL ss ∨ (f = 1 ∧ ∀ d ∈ ss, d.s ≤ 8)) : FewG (ss.map (lift f)) := by
  rcases h with ⟨a, b⟩ | ⟨rfl, h8⟩
  · refine .inl ⟨?_, ?_⟩
    · rw [List.filter_map, List.length_map]; exact a
    · rw [List.filter_map, List.length_map]; exact b
  · refine .inr fun e he => ?_
    obtain ⟨d, hd, rfl⟩ := List.mem_map.mp he
    show d.s * 1 ≤ 8
    have := h8 d hd
    omega
end HT
namespace HT
open PySem L2
theorem lift_bd {d : Sd} {f : Int} (sp : SideP d.o d.s d.m) (b : -30 ≤ d.o ∧ d.o ≤ 29 ∧ d.s ≤ 8) (h1 : 1 ≤ f) (h2 : f ≤ 1 + 10 ^ 27) : SideP (d.o * f) (d.s * f) d.m := by
  obtain ⟨o0, o1, s0, s1, md⟩ := sp
  obtain ⟨b1, b2, b3⟩ := b
  have x1 : (-30) * f ≤ d.o * f := Int.mul_le_mul_of_nonneg_right b1 (by omega)
  have x2 : d.o * f ≤ 29 * f := Int.mul_le_mul_of_nonneg_right b2 (by omega)
  have x3 : d.s * f ≤ 8 * f := Int.mul_le_mul_of_nonneg_right b3 (by omega)
  have x4 : 1 * f ≤ d.s * f := Int.mul_le_mul_of_nonneg_right s0 (by omega)
  refine ⟨?_, ?_, ?_, ?_, md⟩ <;> omega
theorem mulF {i f : Int} (hi : -10 ^ 300 ≤ i ∧ i ≤ 10 ^ 300) (h1 : 1 ≤ f) (h2 : f ≤ 1 + 10 ^ 27) : CMulW i f := by
  refine mulW ?_ ?_
  · have : (10 ^ 300 : Int) < 2 ^ 1010 := by decide +kernel
    omega
  · have : (1 + 10 ^ 27 : Int) < 2 ^ 1010 := by decide +kernel
    omega
theorem mulF2 {i f : Int} (hi : -10 ^ 300 ≤ i ∧ i ≤ 10 ^ 300) (h1 : 1 ≤ f) (h2 : f ≤ 1 + 10 ^ 27) : CMulW (-f) i := by
  refine mulW ?_ ?_
  · have : (1 + 10 ^ 27 : Int) < 2 ^ 1010 := by decide +kernel
    omega
  · have : (10 ^ 300 : Int) < 2 ^ 1010 := by decide +kernel
    omega
def spFitsC : Sp := fun vs H Q _ => ∃ (l r : Addr) (xs : List V) (ss : List Sd) (f : Int) (o : List Nat), vs = [.ref l, .int f, .ref r] ∧ SidesAt H l xs ss ∧ (∀ d ∈ ss, -30 ≤ d.o ∧ d.o ≤ 29 ∧ d.s ≤ 8) ∧ 1 ≤ f ∧ f ≤ 1 + 10 ^ 27 ∧ (FewL ss ∨ (f = 1 ∧ ∀ d ∈ ss, d.s ≤ 8)) ∧ H r = some (.lst (o.map nV)) ∧ FstP ss o ∧
  ∀ (H' : Hp), Same H H' → Q (.bl true) H'
section
variable {P : Program} {w : World} {K : PySem.W.Frag} {mg : Str → Option Value} {base : Heap} {fB fH fI fJ fL fM fN : Addr} {dB dH dI dJ dL dM dN : FuncData}
theorem ok_fits {f : Addr} {fd : FuncData} (F : Fun K "_law_fits" "_law_fits" s_L_fits f fd) (B : Blt mg) (Ca : Cal P w K mg base "calm" 110 ["sides"] spCalm fB dB) (Re : Cal P w K mg base "reach" 108 ["sides", "value"] spReach fH dH) : FnOk P w K mg base CX0 111 f fd ["_law_sides", "_law_factor", "_law_due_here"] spFitsC := by
  refine F.ok sc_L_fits (fun vs H Q E h => ?_) (fun cdv A outer s0 H vs Q E hr h => ?_)
  · obtain ⟨l, r, xs, ss, f, o, rfl, _⟩ := h
    rfl
  · obtain ⟨l, r, xs, ss, f, o, rfl, SS, small, f1, f2, few, hro, FO, q⟩ := h
    have nd := sc_L_fits.nd
    refine ⟨_, (pss_cons (ps_set (i := 4) nd rfl (Or.inr rfl) (pe_lc (own := [("_law_one", 3)]) (g := gName 3) (tt := tYes) rfl nd (pi_list (pv 0)) (blkOk_by (N := ["_law_sides", "_law_factor", "_law_due_here", "_law_one", "_law_lifted", "_law_found", "_law_k", "_law_left", "_law_value"]) (sc := defScope s_L_fits) (by decide +kernel)) (fun _ _ _ _ _ => pg_name (i := 3) nd rfl (Or.inl rfl)) (fun _ _ _ _ _ => pts_nil) (fun _ _ _ _ _ => (pe_tup (pa_cons (pe_op op_mulW (pe_ix (r := rIxT K) (by exact ix_tup) (pv 3) pe_int (fun _ _ => rfl)) (pv 1)) (pa_cons (pe_op op_mulW (pe_ix (r := rIxT K) (by exact ix_tup) (pv 3) pe_int (fun _ _ => rfl)) (pv 1)) (pa_cons (pe_ix (r := rIxT K) (by exact ix_tup) (pv 3) pe_int (fun _ _ => rfl)) pa_nil)))))))
      (pss_cons (ps_set (i := 5) nd rfl (Or.inr rfl) (pcl Ca hr (by decide) (by rfl) (pa_cons (pv 4) pa_nil)))
      (pss_cons (ps_if (pt_cmpR (op_neD hr.units) (pv 5) (pv 2) (nomark _)) (pss_one (ps_ret pe_bl)) pss_nil)
      (pss_cons (ps_setLc (i := 7) (own := [("_law_k", 6)]) (g := gName 6) rfl nd rfl rfl (sw_true rfl rfl rfl (by decide +kernel)) (pi_range1 (by rfl) B.range (pa_cons (pe_callB call_len_seq (by rfl) B.len PySem.boot_len (pa_cons (pv 4) pa_nil)) pa_nil)) (blkOk_by (N := ["_law_sides", "_law_factor", "_law_due_here", "_law_one", "_law_lifted", "_law_found", "_law_k", "_law_left", "_law_value"]) (sc := defScope s_L_fits) (by decide +kernel)) (fun _ _ _ _ _ => pg_name (i := 6) nd rfl (Or.inl rfl)) (fun _ _ _ _ _ => (pts_one (pt_cmpR (show OpR _ _ (rIn K true) from op_notIn_seq) (pv 6) (pv 5) (by rfl)))) (fun _ _ _ _ _ => (pe_ix (r := rIxL K) (by exact ix_list) (pv 4) (pv 6) (fun _ _ => rfl))))
      (pss_cons (ps_for PassesOwn.never rfl (pi_list (pe_lst (pa_cons pe_int (pa_cons pe_int (pa_cons (pe_op op_mulW (pe_un un_neg (pv 1)) pe_int) pa_nil))))) (pg_name (i := 8) nd rfl (Or.inl rfl)) (pss_one (ps_if (pt_cmpR op_in_seq pe_non (pcl Re hr (by decide) (by rfl) (pa_cons (pv 7) (pa_cons (pv 8) pa_nil))) (by rfl)) (pss_one (ps_ret pe_bl)) pss_nil)))
      (pss_cons (ps_expr (pe_bm PySem.F.plainAttrs_list PySem.F.slot_list_append PySem.F.type_list_append mt_append (pv 5) (pa_cons pe_non pa_nil)))
      (pss_one (ps_ret (pe_cmpR (op_eqD hr.units) (pcl Ca hr (by decide) (by rfl) (pa_cons (pv 4) pa_nil)) (pv 2) (nomark _)))))))))), ?_⟩
    have l4 := SS.l4
    walk_at "rd"
    refine ⟨⟨_, SqL.of SS.hl⟩, fun L nL => ?_⟩
    refine lc_list (K := K) (a := l) (xs := xs) (fun i H3 => ∃ ps : List Addr, ps.length = i ∧ H3 L = some (.lst (ps.map V.ref)) ∧ Same H H3 ∧ (∀ (j : Nat) (d : Sd) (p : Addr), ss[j]? = some d → ps[j]? = some p → H3 p = some (sideV (d.o * f) (d.s * f) d.m)))
      ⟨[], rfl, upd_same, fun b u z => (upd_ne (ne_of_none z nL)).trans z, fun j u p _ z => by cases z⟩ (fun _ _ _ ⟨_, _, _, sm, _⟩ => SqL.of (sm _ _ SS.hl)) ?_ ?_
    · rintro i y H3 hy ⟨ps, hn, hD, sm, hps⟩
      obtain ⟨d, p, ed, rfl, hp, sp⟩ := SS.item hy
      have il : i < ss.length := (List.getElem?_eq_some_iff.mp ed).1
      obtain ⟨b1, b2, b3⟩ := small d (List.mem_of_getElem? ed)
      have s0 := sp.s0
      have hp3 := sm _ _ hp
      refine ⟨rfl, ?_⟩
      walk_at "rd"
      refine ⟨p, _, _, _, rfl, rfl, SqT.of hp3, rfl, ?_⟩
      walk_at "rd"
      refine ⟨mulF (by omega) f1 f2, ?_⟩
      walk_at "rd"
      refine ⟨p, _, _, _, rfl, rfl, SqT.of hp3, rfl, ?_⟩
      walk_at "rd"
      refine ⟨mulF (by omega) f1 f2, ?_⟩
      walk_at "rd"
      refine ⟨p, _, _, _, rfl, rfl, SqT.of hp3, rfl, ?_⟩
      walk_at "rd"
      refine ⟨(by show 3 ≤ sizeLine; decide), fun z nz => ?_⟩
      have ncD : L ≠ z := ne_of_none hD nz
      refine ⟨_, (upd_ne ncD).trans hD, ?_, ps ++ [z], ?_, ?_, ?_, ?_⟩
      · rw [List.length_map, hn]; exact Nat.lt_of_lt_of_le (by omega : i < 8) (by decide)
      · rw [List.length_append, hn]; rfl
      · rw [List.map_append]; exact upd_same
      · intro b u y
        have y3 := sm _ _ y
        exact (upd_ne (ne_of_none y nL)).trans ((upd_ne (ne_of_none y3 nz)).trans y3)
      · intro j e p2 he hp2
        rcases Nat.lt_or_ge j ps.length with y | y
        · rw [List.getElem?_append_left y] at hp2
          have g := hps j e p2 he hp2
          exact (upd_ne (ne_of g hD (by intro y; cases y))).trans ((upd_ne (ne_of_none g nz)).trans g)
        · rw [List.getElem?_append_right y] at hp2
          have e0 : j - ps.length = 0 := by
            have := (List.getElem?_eq_some_iff.mp hp2).1
            simp at this
            omega
          rw [e0] at hp2
          cases hp2
          rw [show j = i by omega, ed] at he
          cases he
          exact (upd_ne (Ne.symm ncD)).trans upd_same
    · rintro H3 ⟨ps, hn, hD, sm, hps⟩
      have SL : SidesAt H3 L (ps.map V.ref) (ss.map (lift f)) := by
        refine ⟨hD, by rw [List.length_map, List.length_map, hn, SS.len], by rw [List.length_map]; exact SS.l1, by rw [List.length_map]; exact SS.l4, fun i d h => ?_⟩
        rw [List.getElem?_map] at h
        cases e : ss[i]? with
        | none => rw [e] at h; cases h
        | some d0 =>
          rw [e] at h
          cases h
          have il : i < ps.length := by rw [hn, SS.len]; exact (List.getElem?_eq_some_iff.mp e).1
          refine ⟨ps[i], by rw [List.getElem?_map, List.getElem?_eq_getElem il]; rfl, hps i d0 ps[i] e (List.getElem?_eq_getElem il), ?_⟩
          exact lift_bd (SS.side d0 (List.mem_of_getElem? e)) (small d0 (List.mem_of_getElem? e)) f1 f2
      have fg := few_lift few
      have fst : ∀ {o' : List Nat}, FstP (ss.map (lift f)) o' → o' = o := fun h => first_uniq (fst_lift SS.side f1 h) FO
      generalize eys : ps.map V.ref = ys at SL
      generalize ets : ss.map (lift f) = ts at SL fg fst
      clear hD hps hn eys ets
      have lt4 := SL.l4
      have lts := SL.len
      walk_at "rd"
      refine ⟨L, ys, ts, rfl, SL, fg, fun R H4 o' nR s4 hR F' => ?_⟩
      have eo := fst F'
      subst eo
      walk_at "rd"
      have sH4 : Same H H4 := sm.trans s4
      refine ⟨_, _, .lst (SqL.of hR) (dpNats o'), .lst (SqL.of (sH4 _ _ hro)) (dpNats o'), nats_shaped o', nats_shaped o', ?_⟩
      walk_at "rd"
      refine ite2 (fun z => (not_t z (SeqAt.eqv_refl _ (SeqAt.canLay_of_shaped (nats_shaped o')))).elim) (fun _ => ?_)
      walk_at "rd"
      have SL4 := SL.same s4
      refine ⟨L, _, rfl, .inl (SqL.of SL4.hl), ?_⟩
      walk_at "rd"
      refine ⟨by omega, by omega, ?_⟩
      rw [Int.toNat_natCast, lts]
      refine fun D nD => ?_
      obtain ⟨k0, i0, hk0, ho0, calm0, _, _⟩ := id F'
      obtain ⟨_, sok⟩ := subs_ok lt4 hk0
      obtain ⟨o4, oi, oin, oic⟩ := sok o' (List.mem_of_getElem? ho0)
      refine lc_range (lo := 0) (n := ts.length) (fun i2 H5 => ∃ zs : List V, H5 D = some (.lst zs) ∧ zs.length = (keepJ ts o' i2).length ∧ i2 ≤ ts.length ∧ Same H4 H5 ∧ (∀ (j : Nat) (d : Sd), (keepJ ts o' i2)[j]? = some d → ∃ p : Addr, zs[j]? = some (V.ref p) ∧ H5 p = some (sideV d.o d.s d.m) ∧ SideP d.o d.s d.m))
        ⟨[], upd_same, rfl, Nat.zero_le _, fun b u z => (upd_ne (ne_of_none z nD)).trans z, fun j d z => by cases z⟩ ?_ ?_
      · rintro i2 H5 il2 ⟨zs, hD, ly, li, s5, at5⟩
        obtain ⟨d, ed⟩ : ∃ d, ts[i2]? = some d := ⟨_, List.getElem?_eq_getElem il2⟩
        obtain ⟨p2, ex, hp2, sp⟩ := (SL4.at_ i2 d ed)
        refine ⟨rfl, ?_⟩
        walk_at "rd"
        have ei : (0 : Int) + (i2 : Int) = ((i2 : Nat) : Int) := by omega
        rw [ei]
        refine ⟨R, _, rfl, .inl (SqL.of (s5 _ _ hR)), rfl, all_flat o', ?_⟩
        rw [show inV (V.int ((i2 : Nat) : Int)) (o'.map nV) = o'.contains i2 from inV_nat i2 o']
        refine ⟨_, rfl, ?_⟩
        refine ite2 (fun z => ?_) (fun z => ?_)
        · have nc : ¬ o'.contains i2 = true := fun y => not_t z y
          walk_at "rd"
          refine ⟨L, _, _, _, rfl, rfl, SqL.of (SL4.same s5).hl, atI_nat ex, ?_⟩
          refine ⟨_, hD, ?_, zs ++ [.ref p2], upd_same, ?_, il2, ?_, ?_⟩
          · rw [ly]
            exact Nat.lt_of_le_of_lt (Nat.le_trans (List.Sublist.length_le (keepJ_sub ts o' i2)) (Nat.le_trans (List.length_take_le' _ _) lt4)) (by decide)
          · rw [keepJ_succ ed, if_neg nc, List.length_append, List.length_append, ly]
            rfl
          · intro b u y
            exact (upd_ne (ne_of_none y nD)).trans (s5 _ _ y)
          · rw [keepJ_succ ed, if_neg nc]
            have g := s5 _ _ hp2
            exact grow_side at5 ly (fun b u y nb => (upd_ne nb).trans y) hD ((upd_ne (ne_of g hD (by intro y; cases y))).trans g) sp
        · have hc : o'.contains i2 = true := not_f z
          refine ⟨zs, hD, ?_, il2, s5, ?_⟩
          · rw [keepJ_succ ed, if_pos hc, List.append_nil]
            exact ly
          · rw [keepJ_succ ed, if_pos hc, List.append_nil]
            exact at5
      · rintro H5 ⟨zs, hD, ly, li, s5, at5⟩
        have kp := keepJ_pos oin oic ts.length oin
        have SK : SidesAt H5 D zs (keep ts o') := ⟨hD, ly, kp, Nat.le_trans (List.Sublist.length_le (keep_sub ts o')) lt4, at5⟩
        obtain ⟨fw1, fw2⟩ := few_sub SL.side (keep_sub ts o') fg
        walk_at "rd"
        refine ⟨mulF2 (by omega) f1 f2, ?_⟩
        walk_at "rd"
        refine ⟨(by show 3 ≤ sizeLine; decide), fun V3 nV3 => ?_⟩
        generalize e_V3 : upd H5 V3 _ = H6
        have f6 : H6 V3 = some (.lst [.int 0, .int 7, .int (-f * 5)]) := by rw [← e_V3]; exact upd_same
        have s6 : Same H5 H6 := by rw [← e_V3]; exact fun b u z => (upd_ne (ne_of_none z nV3)).trans z
        clear e_V3
        walk_at "rd"
        refine ⟨⟨_, SqL.of f6⟩, ?_⟩
        have sM : ∀ d ∈ (keep ts o').map mirD, SideP d.o d.s d.m := side_mirs SK.side
        have S46 : Same H4 H6 := s5.trans s6
        refine for_list (K := K) (a := V3) (xs := [.int 0, .int 7, .int (-f * 5)]) (fun i st H7 => ∃ x8 : Option V, st = [some (.ref l), some (.int f), some (.ref r), none, some (.ref L), some (.ref R), none, some (.ref D), x8] ∧ Same H6 H7) ⟨none, rfl, Same.refl _⟩ (fun _ _ _ _ ⟨_, _, s⟩ => SqL.of (s _ _ f6)) ?_ ?_
        · rintro i y st H7 hy ⟨x8, rfl, s7⟩
          obtain ⟨v, rfl, vb⟩ : ∃ v : Int, y = .int v ∧ (-2 ^ 790 < v ∧ v < 2 ^ 790) := by
            match i, hy with
            | 0, hy => cases hy; exact ⟨0, rfl, by decide, by decide⟩
            | 1, hy => cases hy; exact ⟨7, rfl, by decide, by decide⟩
            | 2, hy => cases hy; exact ⟨_, rfl, by omega, by omega⟩
          walk_at "rd"
          refine ⟨D, zs, keep ts o', v, rfl, SK.same (s6.trans s7), vb, fw1, fw2, fun lo hi p H8 Lhi Llo s8 np hp => ?_⟩
          obtain ⟨x, rfl⟩ : ∃ x, lo = some x := by
            cases lo with
            | none => exact absurd calm0.2 (una_ex sM Llo)
            | some x => exact ⟨x, rfl⟩
          obtain ⟨y, rfl⟩ : ∃ y, hi = some y := by
            cases hi with
            | none => exact absurd calm0.1 (una_ex SK.side Lhi)
            | some y => exact ⟨y, rfl⟩
          walk_at "rd"
          refine ⟨p, _, rfl, .inr (SqT.of hp), rfl, rfl, ?_⟩
          refine ⟨_, rfl, ?_⟩
          refine ite2 (fun z => (by have z' : false = true := z; cases z')) (fun _ => ?_)
          exact ⟨_, rfl, s7.trans s8⟩
        · rintro st H7 ⟨x8, rfl, s7⟩
          walk_at "rd"
          have s47 := S46.trans s7
          have hR7 := s47 _ _ hR
          refine ⟨.inl ⟨rfl, _, SqL.of hR7⟩, ?_⟩
          walk_at "rd"
          refine ⟨R, _, _, rfl, rfl, hR7, (by rw [List.length_map]; exact Nat.lt_of_lt_of_le (by omega : o'.length < 100) (by decide)), ?_⟩
          have s38 : Same H3 (upd H7 R (.lst (o'.map nV ++ [V.non]))) := fun b u z => (upd_ne (ne_of_none z nR)).trans ((s4.trans s47) _ _ z)
          generalize upd H7 R (.lst (o'.map nV ++ [V.non])) = H8 at s38 ⊢
          walk_at "rd"
          refine ⟨L, ys, ts, rfl, SL.same s38, fg, fun R2 H9 o2 nR2 s9 hR2 F2 => ?_⟩
          have eo := fst F2
          subst eo
          walk_at "rd"
          have sH9 : Same H H9 := sm.trans (s38.trans s9)
          refine ⟨_, _, .lst (SqL.of hR2) (dpNats o2), .lst (SqL.of (sH9 _ _ hro)) (dpNats o2), nats_shaped o2, nats_shaped o2, ?_⟩
          rw [SeqAt.eqv_refl _ (SeqAt.canLay_of_shaped (nats_shaped o2))]
          exact q H9 sH9
end
end HT
namespace HT
open PySem L2
theorem sidesAt1 {H : Hp} {l p : Addr} {o s : Int} {m : Str} (hl : H l = some (.lst [.ref p])) (h : H p = some (sideV o s m)) (S : SideP o s m) : SidesAt H l [.ref p] [⟨o, s, m⟩] :=
  ⟨hl, rfl, by show 1 ≤ 1; decide, by show 1 ≤ 4; decide, fun i d e => match i, e with
    | 0, e => by cases e; exact ⟨p, rfl, h, S⟩
    | i + 1, e => by cases e⟩
theorem sidesAt2 {H : Hp} {l p p2 : Addr} {o s o2 s2 : Int} {m m2 : Str} (hl : H l = some (.lst [.ref p, .ref p2])) (h : H p = some (sideV o s m)) (S : SideP o s m) (h2 : H p2 = some (sideV o2 s2 m2)) (S2 : SideP o2 s2 m2) : SidesAt H l [.ref p, .ref p2] [⟨o, s, m⟩, ⟨o2, s2, m2⟩] :=
  ⟨hl, rfl, by show 1 ≤ 2; decide, by show 2 ≤ 4; decide, fun i d e => match i, e with
    | 0, e => by cases e; exact ⟨p, rfl, h, S⟩
    | 1, e => by cases e; exact ⟨p2, rfl, h2, S2⟩
    | i + 2, e => by cases e⟩
theorem sidesAt3 {H : Hp} {l p p2 p3 : Addr} {o s o2 s2 o3 s3 : Int} {m m2 m3 : Str} (hl : H l = some (.lst [.ref p, .ref p2, .ref p3])) (h : H p = some (sideV o s m)) (S : SideP o s m) (h2 : H p2 = some (sideV o2 s2 m2)) (S2 : SideP o2 s2 m2) (h3 : H p3 = some (sideV o3 s3 m3)) (S3 : SideP o3 s3 m3) : SidesAt H l [.ref p, .ref p2, .ref p3] [⟨o, s, m⟩, ⟨o2, s2, m2⟩, ⟨o3, s3, m3⟩] :=
  ⟨hl, rfl, by show 1 ≤ 3; decide, by show 3 ≤ 4; decide, fun i d e => match i, e with
    | 0, e => by cases e; exact ⟨p, rfl, h, S⟩
    | 1, e => by cases e; exact ⟨p2, rfl, h2, S2⟩
    | 2, e => by cases e; exact ⟨p3, rfl, h3, S3⟩
    | i + 3, e => by cases e⟩
instance decUnA (ss : List Sd) (x : Int) : Decidable (UnA ss x) := by unfold UnA; infer_instance
def rows3 : List Sd := [⟨0, 3, "half_up"⟩, ⟨1, 3, "half_up"⟩, ⟨2, 3, "half_up"⟩]
def rows2 : List Sd := [⟨0, 10, "half_up"⟩, ⟨5, 10, "half_up"⟩]
theorem side_hu {o s : Int} (h : 0 ≤ o ∧ o ≤ 30) (h1 : 1 ≤ s) (h2 : s ≤ 10000) : SideP o s "half_up" := ⟨by show -(10 : Int) ^ 40 ≤ o; omega, by show o ≤ (10 : Int) ^ 40; omega, h1, by show s ≤ (10 : Int) ^ 30; omega, .inr (.inr (.inr (.inl rfl)))⟩
theorem side3 : ∀ d ∈ rows3, SideP d.o d.s d.m := by
  intro d hd
  simp only [rows3, List.mem_cons, List.not_mem_nil, or_false] at hd
  rcases hd with e | e | e <;> subst e <;> exact side_hu (by decide) (by decide) (by decide)
theorem side2 : ∀ d ∈ rows2, SideP d.o d.s d.m := by
  intro d hd
  simp only [rows2, List.mem_cons, List.not_mem_nil, or_false] at hd
  rcases hd with e | e <;> subst e <;> exact side_hu (by decide) (by decide) (by decide)
theorem com3 : comN rows3 = 3 := by decide +kernel
theorem com2 : comN rows2 = 10 := by decide +kernel
theorem no3 : ∀ i : Fin 3, ¬ UnA rows3 (i.val : Int) := by decide +kernel
theorem no2 : ∀ i : Fin 10, ¬ UnA rows2 (i.val : Int) := by decide +kernel
theorem no_una {ss : List Sd} {c : Nat} (hs : ∀ d ∈ ss, SideP d.o d.s d.m) (e : comN ss = c) (c0 : 0 < c) (h : ∀ i : Fin c, ¬ UnA ss (i.val : Int)) : ¬ CalmP ss := by
  rintro ⟨⟨x, u⟩, _⟩
  obtain ⟨y, t, ex, y0, y1⟩ := in_period (x := x) (show (0 : Int) < (c : Int) by omega)
  rw [ex, ← e, una_com hs] at u
  obtain ⟨n, rfl⟩ := Int.eq_ofNat_of_zero_le y0
  exact h ⟨n, by omega⟩ u
theorem fst3 : FstP rows3 [0] := by
  refine ⟨1, 0, by decide, by decide, ?_, fun j hj => absurd hj (Nat.not_lt_zero _), fun k' hk' o ho => ?_⟩
  · refine ⟨⟨2, by decide +kernel⟩, -1, by decide +kernel⟩
  · have e : k' = 0 := by omega
    subst e
    have eo : o = [] := by simpa [subsM] using ho
    subst eo
    exact no_una side3 com3 (by decide) no3
theorem fst2 : FstP rows2 [0] := by
  refine ⟨1, 0, by decide, by decide, ?_, fun j hj => absurd hj (Nat.not_lt_zero _), fun k' hk' o ho => ?_⟩
  · refine ⟨⟨5, by decide +kernel⟩, -5, by decide +kernel⟩
  · have e : k' = 0 := by omega
    subst e
    have eo : o = [] := by simpa [subsM] using ho
    subst eo
    exact no_una side2 com2 (by decide) no2
theorem few3 : FewG rows3 := .inr (by decide)
theorem few2 : FewG rows2 := .inl ⟨by decide, by decide⟩
theorem nat_one {o : List Nat} (h : o = [0]) : o.map nV = [V.int 0] := by subst h; rfl
end HT
namespace HT
open PySem L2
def spLaw (K : PySem.W.Frag) : Sp := fun vs H Q _ => ∃ (l : Addr) (ns : List Int), vs = [.ref l] ∧ SqL K H l (ns.map V.int) ∧ ns.length ≤ 63 ∧ ∀ H', Q (.bl true) H'
theorem most_of {x : V} (h : x ∈ [V.int 2, .int 4, .int 8]) : ∃ n : Nat, x = .int (n : Int) ∧ 1 ≤ n ∧ n ≤ 8 := by
  simp only [List.mem_cons, List.not_mem_nil, or_false] at h
  rcases h with h | h | h
  · exact ⟨2, h, by decide, by decide⟩
  · exact ⟨4, h, by decide, by decide⟩
  · exact ⟨8, h, by decide, by decide⟩
def SmallS (ss : List Sd) : Prop := ∀ d ∈ ss, -30 ≤ d.o ∧ d.o ≤ 29 ∧ d.s ≤ 8
theorem modes1 : ∀ m ∈ ([("up" : Str), "down", "up", "down"] : List Str), Mode m := by
  intro m hm
  simp only [List.mem_cons, List.not_mem_nil, or_false] at hm
  rcases hm with h | h | h | h
  · exact .inr (.inl h)
  · exact .inl h
  · exact .inr (.inl h)
  · exact .inl h
theorem modes2 : ∀ m ∈ ([("down" : Str), "down", "up", "up"] : List Str), Mode m := by
  intro m hm
  simp only [List.mem_cons, List.not_mem_nil, or_false] at hm
  rcases hm with h | h | h | h
  · exact .inl h
  · exact .inl h
  · exact .inr (.inl h)
  · exact .inr (.inl h)
theorem modes3 : ∀ m ∈ ([("half_up" : Str), "up", "down"] : List Str), Mode m := by
  intro m hm
  simp only [List.mem_cons, List.not_mem_nil, or_false] at hm
  rcases hm with h | h | h
  · exact .inr (.inr (.inr (.inl h)))
  · exact .inr (.inl h)
  · exact .inl h
section
variable {P : Program} {w : World} {K : PySem.W.Frag} {mg : Str → Option Value} {base : Heap} {f0 f1 f2 f3 f4 f5 f6 f7 f8 : Addr} {d0 d1 d2 d3 d4 d5 d6 d7 d8 : FuncData}
theorem ok_law {f : Addr} {fd : FuncData} (F : Fun K "law" "law" s_law f fd) (B : Blt mg) (MT : MaxT mg) (So : Cal P w K mg base "_law_source" 1 ["_law_script"] (spSource K) f0 d0) (D : Cal P w K mg base "_law_draw" 1 ["_law_source_here", "_law_limit"] spDraw f1 d1)
    (Pi : Cal P w K mg base "_law_pick" 2 ["_law_source_here", "_law_values"] spPick f2 d2) (Gr : Cal P w K mg base "_law_great" 2 ["_law_source_here", "_law_digits"] spGreat f3 d3) (Se : Cal P w K mg base "_law_set" 4 ["_law_source_here", "_law_most", "_law_many"] spSet f4 d4)
    (Du : Cal P w K mg base "_law_due" 5 ["_law_sides"] spDueL f5 d5) (Fi : Cal P w K mg base "_law_fits" 111 ["_law_sides", "_law_factor", "_law_due_here"] spFitsC f6 d6) (Fe : Cal P w K mg base "_law_is_few" 1 ["_law_sides"] spFew f7 d7)
    (Ca : Cal P w K mg base "calm" 110 ["sides"] spCalm f8 d8) : FnOk P w K mg base CX0 112 f fd ["_law_script"] (spLaw K) := by
  refine F.ok sc_law (fun vs H Q E h => ?_) (fun cdv A outer s H vs Q E hr h => ?_)
  · obtain ⟨l, ns, rfl, _⟩ := h
    rfl
  · obtain ⟨l, ns, rfl, hL, hn, q⟩ := h
    have nd := sc_law.nd
    refine ⟨_, (pss_cons (ps_set (i := 1) nd rfl (Or.inr rfl) (pcl So hr (by decide) (by rfl) (pa_cons (pv 0) pa_nil)))
      (pss_cons (ps_for PassesOwn.never rfl (pi_range1 (by rfl) B.range (pa_cons pe_int pa_nil)) (pg_name (i := 2) nd rfl (Or.inl rfl)) (pss_cons (ps_set (i := 3) nd rfl (Or.inr rfl) (pcl Se hr (by decide) (by rfl) (pa_cons (pv 1) (pa_cons (pcl Pi hr (by decide) (by rfl) (pa_cons (pv 1) (pa_cons (pe_lst (pa_cons pe_int (pa_cons pe_int (pa_cons pe_int pa_nil)))) pa_nil))) (pa_cons pe_int pa_nil)))))
      (pss_cons (ps_if (pt_cmpR op_eq (pcl D hr (by decide) (by rfl) (pa_cons (pv 1) (pa_cons pe_int pa_nil))) pe_int (nomark _)) (pss_one (ps_set (i := 3) nd rfl (Or.inr rfl) (pe_lc (own := [("_law_one", 4)]) (g := gName 4) (tt := tYes) rfl nd (pi_list (pv 3)) (blkOk_by (N := ["_law_script", "_law_source_here", "_law_turn", "_law_sides", "_law_one", "_law_modes", "_law_k", "_law_due_here", "_law_rows"]) (sc := defScope s_law) (by decide +kernel)) (fun _ _ _ _ _ => pg_name (i := 4) nd rfl (Or.inl rfl)) (fun _ _ _ _ _ => pts_nil) (fun _ _ _ _ _ => (pe_tup (pa_cons (pcl D hr (by decide) (by rfl) (pa_cons (pv 1) (pa_cons pe_int pa_nil))) (pa_cons (pe_ix (r := rIxT K) (by exact ix_tup) (pe_ix (r := rIxL K) (by exact ix_list) (pv 3) pe_int (fun _ _ => rfl)) pe_int (fun _ _ => rfl)) (pa_cons (pe_ix (r := rIxT K) (by exact ix_tup) (pv 4) pe_int (fun _ _ => rfl)) pa_nil)))))))) pss_nil)
      (pss_cons (ps_if (pt_cmpR op_eq (pcl D hr (by decide) (by rfl) (pa_cons (pv 1) (pa_cons pe_int pa_nil))) pe_int (nomark _)) (pss_cons (ps_set (i := 5) nd rfl (Or.inr rfl) (pe_lst (pa_cons (pe_lst (pa_cons pe_str (pa_cons pe_str (pa_cons pe_str (pa_cons pe_str pa_nil))))) (pa_cons (pe_lst (pa_cons pe_str (pa_cons pe_str (pa_cons pe_str (pa_cons pe_str pa_nil))))) (pa_cons (pe_lst (pa_cons pe_str (pa_cons pe_str (pa_cons pe_str pa_nil)))) pa_nil)))))
      (pss_cons (ps_set (i := 5) nd rfl (Or.inr rfl) (pcl Pi hr (by decide) (by rfl) (pa_cons (pv 1) (pa_cons (pv 5) pa_nil))))
      (pss_one (ps_set (i := 3) nd rfl (Or.inr rfl) (pe_lc (own := [("_law_k", 6)]) (g := gName 6) (tt := tYes) rfl nd (pi_range1 (by rfl) B.range (pa_cons (pe_callB (call_min2 rfl) (by rfl) MT.min (by decide +kernel) (pa_cons (pe_callB call_len_seq (by rfl) B.len PySem.boot_len (pa_cons (pv 3) pa_nil)) (pa_cons (pe_callB call_len_seq (by rfl) B.len PySem.boot_len (pa_cons (pv 5) pa_nil)) pa_nil))) pa_nil)) (blkOk_by (N := ["_law_script", "_law_source_here", "_law_turn", "_law_sides", "_law_one", "_law_modes", "_law_k", "_law_due_here", "_law_rows"]) (sc := defScope s_law) (by decide +kernel)) (fun _ _ _ _ _ => pg_name (i := 6) nd rfl (Or.inl rfl)) (fun _ _ _ _ _ => pts_nil) (fun _ _ _ _ _ => (pe_op (show OpR _ _ (rCatT K) from op_catT) (pe_slice (show SlR _ (rSlT K) from sl_tup) (pe_ix (r := rIxL K) (by exact ix_list) (pv 3) (pv 6) (fun _ _ => rfl)) po_none (po_some pe_int)) (pe_tup (pa_cons (pe_ix (r := rIxL K) (by exact ix_list) (pv 5) (pv 6) (fun _ _ => rfl)) pa_nil))))))))) pss_nil)
      (pss_cons (ps_set (i := 7) nd rfl (Or.inl rfl) (pcl Du hr (by decide) (by rfl) (pa_cons (pv 3) pa_nil)))
      (pss_cons (ps_if (pt_not (pt_val (pcl Fi hr (by decide) (by rfl) (pa_cons (pv 3) (pa_cons pe_int (pa_cons (pv 7) pa_nil)))))) (pss_one (ps_ret pe_bl)) pss_nil)
      (pss_one (ps_if (PW.pt (pw_and (pt_val (pcl Fe hr (by decide) (by rfl) (pa_cons (pv 3) pa_nil))) (pw_and1 (pt_not (pt_val (pcl Fi hr (by decide) (by rfl) (pa_cons (pv 3) (pa_cons (pe_op op_add pe_int (pcl Gr hr (by decide) (by rfl) (pa_cons (pv 1) (pa_cons pe_int pa_nil)))) (pa_cons (pv 7) pa_nil))))))))) (pss_one (ps_ret pe_bl)) pss_nil))))))))
      (pss_cons (ps_set (i := 8) nd rfl (Or.inl rfl) (pe_lst (pa_cons (pe_tup (pa_cons pe_int (pa_cons pe_int (pa_cons pe_str pa_nil)))) (pa_cons (pe_tup (pa_cons pe_int (pa_cons pe_int (pa_cons pe_str pa_nil)))) (pa_cons (pe_tup (pa_cons pe_int (pa_cons pe_int (pa_cons pe_str pa_nil)))) pa_nil)))))
      (pss_one (ps_ret (pe_and (pe_cmpR (op_eqD hr.units) (pcl Ca hr (by decide) (by rfl) (pa_cons (pv 8) pa_nil)) (pe_lst (pa_cons pe_int pa_nil)) (nomark _)) (pe_one (pe_cmpR (op_eqD hr.units) (pcl Ca hr (by decide) (by rfl) (pa_cons (pe_lst (pa_cons (pe_tup (pa_cons pe_int (pa_cons pe_int (pa_cons pe_str pa_nil)))) (pa_cons (pe_tup (pa_cons pe_int (pa_cons pe_int (pa_cons pe_str pa_nil)))) pa_nil))) pa_nil)) (pe_lst (pa_cons pe_int pa_nil)) (nomark _))))))))), ?_⟩
    walk_at "rd"
    refine ⟨l, ns, rfl, hL, hn, fun a c H0 sm na nc S0 => ?_⟩
    walk_at "rd"
    refine ⟨by decide, by decide, ?_⟩
    refine for_range (n := 15) (fun i σ H' => ∃ (x2 x3 x5 x7 : Option V) (t : Nat), σ = [some (.ref l), some (.ref a), x2, x3, none, x5, none, x7, none] ∧ t ≤ 100 * i ∧ Src H' a c t) ⟨none, none, none, none, 0, rfl, by omega, S0⟩ ?_ ?_
    · rintro i σ H' hi ⟨x2, x3, x5, x7, t, rfl, ht, S'⟩
      walk_at "rd"
      refine ⟨(by show 3 ≤ sizeLine; decide), fun L1 nL1 => ?_⟩
      obtain ⟨la1, lc1⟩ := S'.na nL1
      refine ⟨a, c, t, L1, _, rfl, S'.new nL1, by omega, upd_same, la1, lc1, by decide, by decide, fun x H1 hx S1 O1 => ?_⟩
      obtain ⟨n, rfl, n1, n8⟩ := most_of hx
      walk_at "rd"
      refine ⟨a, c, t + 1, n, 4, rfl, S1, n1, by omega, by decide, by decide, by omega, fun l0 xs0 ss0 H2 t2 SS2 sml0 la0 lc0 ht2 S2 O2 => ?_⟩
      have sm0 : SmallS ss0 := fun d hd => by
        obtain ⟨b1, b2, b3⟩ := sml0 d hd
        exact ⟨b1, b2, by omega⟩
      clear sml0
      walk_at "rd"
      refine ⟨a, c, t2, 2, rfl, S2, by omega, by decide, by decide, fun k0 H3 k00 k01 S3 O3 => ?_⟩
      have SS3 := SS2.oth S2 la0 lc0 O3
      walk_at "rd"
      refine ⟨rfl, ?_⟩
      walk_at "rd"
      refine ite2 (fun z => ?a) (fun z => ?b)
      case' a =>
        walk_at "rd"
        refine ⟨⟨_, SqL.of SS3.hl⟩, fun D nD => ?_⟩
        obtain ⟨Da, Dc⟩ := S3.na nD
        refine lc_list (K := K) (a := l0) (xs := xs0) (fun i H5 => ∃ (ys : List V) (us : List Sd), H5 D = some (.lst ys) ∧ ys.length = i ∧ us.length = i ∧ (∀ (j : Nat) (d : Sd), us[j]? = some d → ∃ p : Addr, ys[j]? = some (V.ref p) ∧ H5 p = some (sideV d.o d.s d.m) ∧ SideP d.o d.s d.m) ∧ SmallS us ∧ i ≤ ss0.length ∧ Src H5 a c (t2 + 1 + i) ∧ Oth a c H3 H5)
          ⟨[], [], upd_same, rfl, rfl, (fun i d h => nomatch h), (fun d hd => absurd hd List.not_mem_nil), Nat.zero_le _, S3.new nD, (Oth.refl a c H3).new nD⟩ (fun _ _ _ ⟨_, _, _, _, _, _, _, _, _, O5⟩ => SqL.of (O5 _ _ SS3.hl la0 lc0)) ?_ ?_
        · rintro i1 y H5 hy ⟨ys, us, hD, ly, lu, at5, sm5, li, S5, O5⟩
          obtain ⟨d, p, ed, rfl, hp, sp⟩ := SS3.item hy
          have il : i1 < ss0.length := (List.getElem?_eq_some_iff.mp ed).1
          have l4 := SS3.l4
          refine ⟨rfl, ?_⟩
          walk_at "rd"
          refine ⟨a, c, _, 9, rfl, S5, by omega, by decide, by decide, fun k H6 k0 k1 S6 O6 => ?_⟩
          have SS6 := (SS3.oth S3 la0 lc0 O5).oth S5 la0 lc0 O6
          obtain ⟨d0, ed0⟩ : ∃ d0, ss0[0]? = some d0 := ⟨_, List.getElem?_eq_getElem SS3.l1⟩
          obtain ⟨p0, ex0, hp0, sp0⟩ := SS6.at_ 0 d0 ed0
          obtain ⟨p', ex', hp', sp'⟩ := SS6.at_ i1 d ed
          have epp : p' = p := by
            rw [hy] at ex'
            injection ex' with ex'
            injection ex' with ex'
            exact ex'.symm
          subst epp
          walk_at "rd"
          refine ⟨l0, _, _, _, rfl, rfl, SqL.of SS6.hl, atI_nat (j := 0) ex0, ?_⟩
          walk_at "rd"
          refine ⟨p0, _, _, _, rfl, rfl, SqT.of hp0, rfl, ?_⟩
          walk_at "rd"
          refine ⟨p', _, _, _, rfl, rfl, SqT.of hp', rfl, ?_⟩
          walk_at "rd"
          refine ⟨(by show 3 ≤ sizeLine; decide), fun zp nzp => ?_⟩
          have hD6 := O6 _ _ hD Da Dc
          have ncD : D ≠ zp := ne_of_none hD6 nzp
          have nd7 : upd H6 zp (.tup [.int k, .int d0.s, .str d.m]) D = some (.lst ys) := (upd_ne ncD).trans hD6
          have b0 := sm0 d0 (List.mem_of_getElem? ed0)
          have nsp : SideP k d0.s d.m := ⟨by show -(10 : Int) ^ 40 ≤ k; omega, by show k ≤ (10 : Int) ^ 40; omega, sp0.s0, sp0.s1, sp.md⟩
          refine ⟨_, nd7, ?_, ys ++ [.ref zp], us ++ [⟨k, d0.s, d.m⟩], upd_same, ?_, ?_, ?_, ?_, il, ?_, ?_⟩
          · rw [ly]; exact Nat.lt_of_lt_of_le (by omega : i1 < 8) (by decide)
          · rw [List.length_append, ly]; rfl
          · rw [List.length_append, lu]; rfl
          · refine grow_side (H := upd H6 zp (.tup [.int k, .int d0.s, .str d.m])) (fun j e he => ?_) (by rw [ly, lu]) (fun b u y nb => (upd_ne nb).trans y) nd7 ((upd_ne (Ne.symm ncD)).trans upd_same) nsp
            obtain ⟨p2, g1, g2, g3⟩ := at5 j e he
            obtain ⟨na2, nc2⟩ := S5.nt g2
            have g6 := O6 _ _ g2 na2 nc2
            exact ⟨p2, g1, (upd_ne (ne_of_none g6 nzp)).trans g6, g3⟩
          · intro e he
            rcases List.mem_append.mp he with h | h
            · exact sm5 e h
            · rw [List.mem_singleton.mp h]
              exact ⟨by show -30 ≤ k; omega, by show k ≤ 29; omega, b0.2.2⟩
          · obtain ⟨pa, pc⟩ := S6.na nzp
            obtain ⟨cs, hcs, hl2⟩ := S6.cl
            exact ⟨S6.ne, (upd_ne Da.symm).trans ((upd_ne pa.symm).trans S6.ob), cs, (upd_ne Dc.symm).trans ((upd_ne pc.symm).trans hcs), hl2⟩
          · intro b u y na nc
            have y6 := O6 _ _ (O5 _ _ y na nc) na nc
            exact (upd_ne (ne_of_none y nD)).trans ((upd_ne (ne_of_none y6 nzp)).trans y6)
        rintro H4 ⟨ys, us, hD, ly, lu, at5, sm5, li, S4, O4⟩
        have lx0 := SS3.len
        have G1 : ∃ (xs1 : List V) (ss1 : List Sd) (t3 : Nat), SidesAt H4 D xs1 ss1 ∧ SmallS ss1 ∧ D ≠ a ∧ D ≠ c ∧ t3 ≤ t + 30 ∧ Src H4 a c t3 :=
          ⟨ys, us, _, ⟨hD, by rw [ly, lu], by have := SS3.l1; omega, by have := SS3.l4; omega, at5⟩, sm5, Da, Dc, by have := SS3.l4; omega, S4⟩
        clear SS3 SS2 la0 lc0 S3 O3 S2 O2 hD at5 S4 O4
        obtain ⟨l1, e1⟩ : ∃ l1, l1 = D := ⟨_, rfl⟩
        subst e1
        obtain ⟨xs1, ss1, t3, SS4, sm1, lA, lC, ht3, S4⟩ := G1
        walk_at "rd"
        refine ⟨a, c, t3, 2, rfl, S4, by omega, by decide, by decide, fun k1 H5 k10 k11 S5 O5 => ?_⟩
        have SS5 := SS4.oth S4 lA lC O5
        walk_at "rd"
        refine ⟨rfl, ?_⟩
        walk_at "rd"
        refine ite2 (fun zz => ?c1) (fun zz => ?d1)
        case' d1 =>
          obtain ⟨l2, e1⟩ : ∃ l2, l2 = l1 := ⟨_, rfl⟩
          subst e1
          obtain ⟨x5', e5⟩ : ∃ x5', x5' = x5 := ⟨_, rfl⟩
          subst e5
          have G2 : ∃ (xs2 : List V) (ss2 : List Sd) (t4 : Nat), SidesAt H5 l2 xs2 ss2 ∧ SmallS ss2 ∧ l2 ≠ a ∧ l2 ≠ c ∧ t4 ≤ t + 40 ∧ Src H5 a c t4 := ⟨xs1, ss1, _, SS5, sm1, lA, lC, by omega, S5⟩
          obtain ⟨H6, e4⟩ : ∃ H6, H6 = H5 := ⟨_, rfl⟩
          subst e4
          clear SS4 SS5 lA lC S4 S5 O5
        case' c1 =>
          walk_at "rd"
          refine ⟨(by show 4 ≤ sizeLine; decide), fun M1 nM1 => ?_⟩
          generalize e_M1 : upd H5 M1 _ = H6
          have g1 : H6 M1 = some (.lst [.str "up", .str "down", .str "up", .str "down"]) := by rw [← e_M1]; exact upd_same
          have w1 : Same H5 H6 := by rw [← e_M1]; exact fun b u z => (upd_ne (ne_of_none z nM1)).trans z
          clear e_M1
          walk_at "rd"
          refine ⟨(by show 4 ≤ sizeLine; decide), fun M2 nM2 => ?_⟩
          generalize e_M2 : upd H6 M2 _ = H7
          have g2 : H7 M2 = some (.lst [.str "down", .str "down", .str "up", .str "up"]) := by rw [← e_M2]; exact upd_same
          have w2 : Same H6 H7 := by rw [← e_M2]; exact fun b u z => (upd_ne (ne_of_none z nM2)).trans z
          clear e_M2
          walk_at "rd"
          refine ⟨(by show 3 ≤ sizeLine; decide), fun M3 nM3 => ?_⟩
          generalize e_M3 : upd H7 M3 _ = H8
          have g3 : H8 M3 = some (.lst [.str "half_up", .str "up", .str "down"]) := by rw [← e_M3]; exact upd_same
          have w3 : Same H7 H8 := by rw [← e_M3]; exact fun b u z => (upd_ne (ne_of_none z nM3)).trans z
          clear e_M3
          walk_at "rd"
          refine ⟨(by show 3 ≤ sizeLine; decide), fun MM nMM => ?_⟩
          generalize e_MM : upd H8 MM _ = H9
          have gM : H9 MM = some (.lst [.ref M1, .ref M2, .ref M3]) := by rw [← e_MM]; exact upd_same
          have wM : Same H8 H9 := by rw [← e_MM]; exact fun b u z => (upd_ne (ne_of_none z nMM)).trans z
          clear e_MM
          walk_at "rd"
          have S6 := S5.of_same w1
          have S7 := S6.of_same w2
          have S8 := S7.of_same w3
          have S9 := S8.of_same wM
          have h1 := S5.na nM1
          have h2 := S6.na nM2
          have h3 := S7.na nM3
          obtain ⟨hMa, hMc⟩ := S8.na nMM
          refine ⟨a, c, _, MM, _, rfl, S9, by omega, gM, hMa, hMc, (by show 0 < 3; decide), (by show 3 < 2 ^ 60; decide), fun y H10 hy S10 O10 => ?_⟩
          obtain ⟨M, ms, rfl, hM, ml, md, Ma, Mc⟩ : ∃ (M : Addr) (ms : List Str), y = .ref M ∧ H10 M = some (.lst (ms.map V.str)) ∧ (1 ≤ ms.length ∧ ms.length ≤ 4) ∧ (∀ m ∈ ms, Mode m) ∧ M ≠ a ∧ M ≠ c := by
            simp only [List.mem_cons, List.not_mem_nil, or_false] at hy
            rcases hy with h | h | h
            · exact ⟨M1, ["up", "down", "up", "down"], h, O10 _ _ (wM _ _ (w3 _ _ (w2 _ _ g1))) h1.1 h1.2, by decide, modes1, h1.1, h1.2⟩
            · exact ⟨M2, ["down", "down", "up", "up"], h, O10 _ _ (wM _ _ (w3 _ _ g2)) h2.1 h2.2, by decide, modes2, h2.1, h2.2⟩
            · exact ⟨M3, ["half_up", "up", "down"], h, O10 _ _ (wM _ _ g3) h3.1 h3.2, by decide, modes3, h3.1, h3.2⟩
          have SS9 := (((SS5.same w1).same w2).same w3).same wM
          have SS10 := SS9.oth S9 lA lC O10
          clear g1 g2 g3 gM w1 w2 w3 wM hMa hMc h1 h2 h3 SS4 SS5 SS9 S5 S6 S7 S8 S9 O5 O10 nM1 nM2 nM3 nMM hy
          walk_at "rd"
          refine ⟨l1, _, rfl, .inl (SqL.of SS10.hl), ?_⟩
          walk_at "rd"
          refine ⟨M, _, rfl, .inl (SqL.of hM), ?_⟩
          walk_at "rd"
          refine ⟨_, _, rfl, ?_⟩
          obtain ⟨n, en, n1, n2, n3⟩ : ∃ n : Nat, (if ((ms.map V.str).length : Int) < (xs1.length : Int) then ((ms.map V.str).length : Int) else (xs1.length : Int)) = (n : Int) ∧ 1 ≤ n ∧ n ≤ ss1.length ∧ n ≤ ms.length := by
            have e1 := SS10.len
            have e2 := SS10.l1
            have e3 : (ms.map V.str).length = ms.length := List.length_map _
            by_cases z : ((ms.map V.str).length : Int) < (xs1.length : Int)
            · exact ⟨ms.length, by rw [if_pos z, e3], ml.1, by omega, Nat.le_refl _⟩
            · exact ⟨xs1.length, by rw [if_neg z], by omega, by omega, by omega⟩
          rw [en]
          have l14 := SS10.l4
          walk_at "rd"
          refine ⟨by omega, by omega, ?_⟩
          rw [Int.toNat_natCast]
          refine fun D nD => ?_
          obtain ⟨Da, Dc⟩ := S10.na nD
          refine lc_range (lo := 0) (n := n) (fun i H5 => ∃ (ys : List V) (us : List Sd), H5 D = some (.lst ys) ∧ ys.length = i ∧ us.length = i ∧ (∀ (j : Nat) (d : Sd), us[j]? = some d → ∃ p : Addr, ys[j]? = some (V.ref p) ∧ H5 p = some (sideV d.o d.s d.m) ∧ SideP d.o d.s d.m) ∧ SmallS us ∧ Same H10 H5)
            ⟨[], [], upd_same, rfl, rfl, (fun i d h => nomatch h), (fun d hd => absurd hd List.not_mem_nil), fun b u z => (upd_ne (ne_of_none z nD)).trans z⟩ ?_ ?_
          · rintro i1 H5 hi1 ⟨ys, us, hD, ly, lu, at5, sm5, s5⟩
            obtain ⟨d, ed⟩ : ∃ d, ss1[i1]? = some d := ⟨_, List.getElem?_eq_getElem (by omega)⟩
            obtain ⟨m, em⟩ : ∃ m, ms[i1]? = some m := ⟨_, List.getElem?_eq_getElem (by omega)⟩
            obtain ⟨p, ex, hp, sp⟩ := SS10.at_ i1 d ed
            have mdm := md m (List.mem_of_getElem? em)
            have ei : (0 : Int) + (i1 : Int) = ((i1 : Nat) : Int) := by omega
            rw [ei]
            refine ⟨rfl, ?_⟩
            walk_at "rd"
            refine ⟨l1, _, _, _, rfl, rfl, SqL.of (SS10.same s5).hl, atI_nat ex, ?_⟩
            walk_at "rd"
            refine ⟨p, _, rfl, SqT.of (s5 _ _ hp), (by show ¬ (HT.sIx 3 0 none = 0 ∧ HT.sIx 3 3 (some 2) = 3); decide), fun p1 np1 => ?_⟩
            generalize e_p1 : upd H5 p1 _ = H6
            have g1 : H6 p1 = some (.tup [.int d.o, .int d.s]) := by rw [← e_p1]; exact upd_same
            have w1 : Same H5 H6 := by rw [← e_p1]; exact fun b u z => (upd_ne (ne_of_none z np1)).trans z
            clear e_p1
            walk_at "rd"
            refine ⟨M, _, _, _, rfl, rfl, SqL.of (w1 _ _ (s5 _ _ hM)), atI_nat (show (ms.map V.str)[i1]? = some (V.str m) by rw [List.getElem?_map, em]; rfl), ?_⟩
            walk_at "rd"
            refine ⟨(by show 1 ≤ sizeLine; decide), fun p2 np2 => ?_⟩
            generalize e_p2 : upd H6 p2 _ = H7
            have g2 : H7 p2 = some (.tup [.str m]) := by rw [← e_p2]; exact upd_same
            have w2 : Same H6 H7 := by rw [← e_p2]; exact fun b u z => (upd_ne (ne_of_none z np2)).trans z
            clear e_p2
            walk_at "rd"
            refine ⟨p1, p2, _, _, rfl, rfl, SqT.of (w2 _ _ g1), SqT.of g2, (fun z => nomatch z), (by show 3 ≤ sizeLine; decide), (fun z => nomatch z), fun _ zp nzp => ?_⟩
            have s57 : Same H5 H7 := w1.trans w2
            have hD7 := s57 _ _ hD
            have ncD : D ≠ zp := ne_of_none hD7 nzp
            have nd7 : upd H7 zp (.tup ([V.int d.o, V.int d.s] ++ [V.str m])) D = some (.lst ys) := (upd_ne ncD).trans hD7
            have b0 := sm1 d (List.mem_of_getElem? ed)
            have nsp : SideP d.o d.s m := ⟨sp.o0, sp.o1, sp.s0, sp.s1, mdm⟩
            refine ⟨_, nd7, ?_, ys ++ [.ref zp], us ++ [⟨d.o, d.s, m⟩], upd_same, ?_, ?_, ?_, ?_, ?_⟩
            · rw [ly]; exact Nat.lt_of_lt_of_le (by omega : i1 < 8) (by decide)
            · rw [List.length_append, ly]; rfl
            · rw [List.length_append, lu]; rfl
            · refine grow_side (H := upd H7 zp (.tup ([V.int d.o, V.int d.s] ++ [V.str m]))) (fun j e he => ?_) (by rw [ly, lu]) (fun b u y nb => (upd_ne nb).trans y) nd7 ((upd_ne (Ne.symm ncD)).trans upd_same) nsp
              obtain ⟨p3, t1, t2, t3⟩ := at5 j e he
              have g6 := s57 _ _ t2
              exact ⟨p3, t1, (upd_ne (ne_of_none g6 nzp)).trans g6, t3⟩
            · intro e he
              rcases List.mem_append.mp he with h | h
              · exact sm5 e h
              · rw [List.mem_singleton.mp h]
                exact b0
            · intro b u y
              have y6 := s57 _ _ (s5 _ _ y)
              exact (upd_ne (ne_of_none y nD)).trans ((upd_ne (ne_of_none y6 nzp)).trans y6)
          rintro H6 ⟨ys, us, hD, ly, lu, at5, sm5, s5⟩
          have G2 : ∃ (xs2 : List V) (ss2 : List Sd) (t4 : Nat), SidesAt H6 D xs2 ss2 ∧ SmallS ss2 ∧ D ≠ a ∧ D ≠ c ∧ t4 ≤ t + 40 ∧ Src H6 a c t4 :=
            ⟨ys, us, _, ⟨hD, by rw [ly, lu], by omega, by omega, at5⟩, sm5, Da, Dc, by omega, S10.of_same s5⟩
          clear SS10 hM S10 at5 hD s5
          obtain ⟨l2, e2⟩ : ∃ l2, l2 = D := ⟨_, rfl⟩
          subst e2
      case' b =>
        obtain ⟨l1, e1⟩ : ∃ l1, l1 = l0 := ⟨_, rfl⟩
        subst e1
        have G1 : ∃ (xs1 : List V) (ss1 : List Sd) (t3 : Nat), SidesAt H3 l1 xs1 ss1 ∧ SmallS ss1 ∧ l1 ≠ a ∧ l1 ≠ c ∧ t3 ≤ t + 30 ∧ Src H3 a c t3 := ⟨xs0, ss0, t2 + 1, SS3, sm0, la0, lc0, by omega, S3⟩
        obtain ⟨H4, e4⟩ : ∃ H4, H4 = H3 := ⟨_, rfl⟩
        subst e4
        clear SS2 SS3 la0 lc0 S3 O3 S2 O2
        obtain ⟨xs1, ss1, t3, SS4, sm1, lA, lC, ht3, S4⟩ := G1
        walk_at "rd"
        refine ⟨a, c, t3, 2, rfl, S4, by omega, by decide, by decide, fun k1 H5 k10 k11 S5 O5 => ?_⟩
        have SS5 := SS4.oth S4 lA lC O5
        walk_at "rd"
        refine ⟨rfl, ?_⟩
        walk_at "rd"
        refine ite2 (fun zz => ?c2) (fun zz => ?d2)
        case' d2 =>
          obtain ⟨l2, e1⟩ : ∃ l2, l2 = l1 := ⟨_, rfl⟩
          subst e1
          obtain ⟨x5', e5⟩ : ∃ x5', x5' = x5 := ⟨_, rfl⟩
          subst e5
          have G2 : ∃ (xs2 : List V) (ss2 : List Sd) (t4 : Nat), SidesAt H5 l2 xs2 ss2 ∧ SmallS ss2 ∧ l2 ≠ a ∧ l2 ≠ c ∧ t4 ≤ t + 40 ∧ Src H5 a c t4 := ⟨xs1, ss1, _, SS5, sm1, lA, lC, by omega, S5⟩
          obtain ⟨H6, e4⟩ : ∃ H6, H6 = H5 := ⟨_, rfl⟩
          subst e4
          clear SS4 SS5 lA lC S4 S5 O5
        case' c2 =>
          walk_at "rd"
          refine ⟨(by show 4 ≤ sizeLine; decide), fun M1 nM1 => ?_⟩
          generalize e_M1 : upd H5 M1 _ = H6
          have g1 : H6 M1 = some (.lst [.str "up", .str "down", .str "up", .str "down"]) := by rw [← e_M1]; exact upd_same
          have w1 : Same H5 H6 := by rw [← e_M1]; exact fun b u z => (upd_ne (ne_of_none z nM1)).trans z
          clear e_M1
          walk_at "rd"
          refine ⟨(by show 4 ≤ sizeLine; decide), fun M2 nM2 => ?_⟩
          generalize e_M2 : upd H6 M2 _ = H7
          have g2 : H7 M2 = some (.lst [.str "down", .str "down", .str "up", .str "up"]) := by rw [← e_M2]; exact upd_same
          have w2 : Same H6 H7 := by rw [← e_M2]; exact fun b u z => (upd_ne (ne_of_none z nM2)).trans z
          clear e_M2
          walk_at "rd"
          refine ⟨(by show 3 ≤ sizeLine; decide), fun M3 nM3 => ?_⟩
          generalize e_M3 : upd H7 M3 _ = H8
          have g3 : H8 M3 = some (.lst [.str "half_up", .str "up", .str "down"]) := by rw [← e_M3]; exact upd_same
          have w3 : Same H7 H8 := by rw [← e_M3]; exact fun b u z => (upd_ne (ne_of_none z nM3)).trans z
          clear e_M3
          walk_at "rd"
          refine ⟨(by show 3 ≤ sizeLine; decide), fun MM nMM => ?_⟩
          generalize e_MM : upd H8 MM _ = H9
          have gM : H9 MM = some (.lst [.ref M1, .ref M2, .ref M3]) := by rw [← e_MM]; exact upd_same
          have wM : Same H8 H9 := by rw [← e_MM]; exact fun b u z => (upd_ne (ne_of_none z nMM)).trans z
          clear e_MM
          walk_at "rd"
          have S6 := S5.of_same w1
          have S7 := S6.of_same w2
          have S8 := S7.of_same w3
          have S9 := S8.of_same wM
          have h1 := S5.na nM1
          have h2 := S6.na nM2
          have h3 := S7.na nM3
          obtain ⟨hMa, hMc⟩ := S8.na nMM
          refine ⟨a, c, _, MM, _, rfl, S9, by omega, gM, hMa, hMc, (by show 0 < 3; decide), (by show 3 < 2 ^ 60; decide), fun y H10 hy S10 O10 => ?_⟩
          obtain ⟨M, ms, rfl, hM, ml, md, Ma, Mc⟩ : ∃ (M : Addr) (ms : List Str), y = .ref M ∧ H10 M = some (.lst (ms.map V.str)) ∧ (1 ≤ ms.length ∧ ms.length ≤ 4) ∧ (∀ m ∈ ms, Mode m) ∧ M ≠ a ∧ M ≠ c := by
            simp only [List.mem_cons, List.not_mem_nil, or_false] at hy
            rcases hy with h | h | h
            · exact ⟨M1, ["up", "down", "up", "down"], h, O10 _ _ (wM _ _ (w3 _ _ (w2 _ _ g1))) h1.1 h1.2, by decide, modes1, h1.1, h1.2⟩
            · exact ⟨M2, ["down", "down", "up", "up"], h, O10 _ _ (wM _ _ (w3 _ _ g2)) h2.1 h2.2, by decide, modes2, h2.1, h2.2⟩
            · exact ⟨M3, ["half_up", "up", "down"], h, O10 _ _ (wM _ _ g3) h3.1 h3.2, by decide, modes3, h3.1, h3.2⟩
          have SS9 := (((SS5.same w1).same w2).same w3).same wM
          have SS10 := SS9.oth S9 lA lC O10
          clear g1 g2 g3 gM w1 w2 w3 wM hMa hMc h1 h2 h3 SS4 SS5 SS9 S5 S6 S7 S8 S9 O5 O10 nM1 nM2 nM3 nMM hy
          walk_at "rd"
          refine ⟨l1, _, rfl, .inl (SqL.of SS10.hl), ?_⟩
          walk_at "rd"
          refine ⟨M, _, rfl, .inl (SqL.of hM), ?_⟩
          walk_at "rd"
          refine ⟨_, _, rfl, ?_⟩
          obtain ⟨n, en, n1, n2, n3⟩ : ∃ n : Nat, (if ((ms.map V.str).length : Int) < (xs1.length : Int) then ((ms.map V.str).length : Int) else (xs1.length : Int)) = (n : Int) ∧ 1 ≤ n ∧ n ≤ ss1.length ∧ n ≤ ms.length := by
            have e1 := SS10.len
            have e2 := SS10.l1
            have e3 : (ms.map V.str).length = ms.length := List.length_map _
            by_cases z : ((ms.map V.str).length : Int) < (xs1.length : Int)
            · exact ⟨ms.length, by rw [if_pos z, e3], ml.1, by omega, Nat.le_refl _⟩
            · exact ⟨xs1.length, by rw [if_neg z], by omega, by omega, by omega⟩
          rw [en]
          have l14 := SS10.l4
          walk_at "rd"
          refine ⟨by omega, by omega, ?_⟩
          rw [Int.toNat_natCast]
          refine fun D nD => ?_
          obtain ⟨Da, Dc⟩ := S10.na nD
          refine lc_range (lo := 0) (n := n) (fun i H5 => ∃ (ys : List V) (us : List Sd), H5 D = some (.lst ys) ∧ ys.length = i ∧ us.length = i ∧ (∀ (j : Nat) (d : Sd), us[j]? = some d → ∃ p : Addr, ys[j]? = some (V.ref p) ∧ H5 p = some (sideV d.o d.s d.m) ∧ SideP d.o d.s d.m) ∧ SmallS us ∧ Same H10 H5)
            ⟨[], [], upd_same, rfl, rfl, (fun i d h => nomatch h), (fun d hd => absurd hd List.not_mem_nil), fun b u z => (upd_ne (ne_of_none z nD)).trans z⟩ ?_ ?_
          · rintro i1 H5 hi1 ⟨ys, us, hD, ly, lu, at5, sm5, s5⟩
            obtain ⟨d, ed⟩ : ∃ d, ss1[i1]? = some d := ⟨_, List.getElem?_eq_getElem (by omega)⟩
            obtain ⟨m, em⟩ : ∃ m, ms[i1]? = some m := ⟨_, List.getElem?_eq_getElem (by omega)⟩
            obtain ⟨p, ex, hp, sp⟩ := SS10.at_ i1 d ed
            have mdm := md m (List.mem_of_getElem? em)
            have ei : (0 : Int) + (i1 : Int) = ((i1 : Nat) : Int) := by omega
            rw [ei]
            refine ⟨rfl, ?_⟩
            walk_at "rd"
            refine ⟨l1, _, _, _, rfl, rfl, SqL.of (SS10.same s5).hl, atI_nat ex, ?_⟩
            walk_at "rd"
            refine ⟨p, _, rfl, SqT.of (s5 _ _ hp), (by show ¬ (HT.sIx 3 0 none = 0 ∧ HT.sIx 3 3 (some 2) = 3); decide), fun p1 np1 => ?_⟩
            generalize e_p1 : upd H5 p1 _ = H6
            have g1 : H6 p1 = some (.tup [.int d.o, .int d.s]) := by rw [← e_p1]; exact upd_same
            have w1 : Same H5 H6 := by rw [← e_p1]; exact fun b u z => (upd_ne (ne_of_none z np1)).trans z
            clear e_p1
            walk_at "rd"
            refine ⟨M, _, _, _, rfl, rfl, SqL.of (w1 _ _ (s5 _ _ hM)), atI_nat (show (ms.map V.str)[i1]? = some (V.str m) by rw [List.getElem?_map, em]; rfl), ?_⟩
            walk_at "rd"
            refine ⟨(by show 1 ≤ sizeLine; decide), fun p2 np2 => ?_⟩
            generalize e_p2 : upd H6 p2 _ = H7
            have g2 : H7 p2 = some (.tup [.str m]) := by rw [← e_p2]; exact upd_same
            have w2 : Same H6 H7 := by rw [← e_p2]; exact fun b u z => (upd_ne (ne_of_none z np2)).trans z
            clear e_p2
            walk_at "rd"
            refine ⟨p1, p2, _, _, rfl, rfl, SqT.of (w2 _ _ g1), SqT.of g2, (fun z => nomatch z), (by show 3 ≤ sizeLine; decide), (fun z => nomatch z), fun _ zp nzp => ?_⟩
            have s57 : Same H5 H7 := w1.trans w2
            have hD7 := s57 _ _ hD
            have ncD : D ≠ zp := ne_of_none hD7 nzp
            have nd7 : upd H7 zp (.tup ([V.int d.o, V.int d.s] ++ [V.str m])) D = some (.lst ys) := (upd_ne ncD).trans hD7
            have b0 := sm1 d (List.mem_of_getElem? ed)
            have nsp : SideP d.o d.s m := ⟨sp.o0, sp.o1, sp.s0, sp.s1, mdm⟩
            refine ⟨_, nd7, ?_, ys ++ [.ref zp], us ++ [⟨d.o, d.s, m⟩], upd_same, ?_, ?_, ?_, ?_, ?_⟩
            · rw [ly]; exact Nat.lt_of_lt_of_le (by omega : i1 < 8) (by decide)
            · rw [List.length_append, ly]; rfl
            · rw [List.length_append, lu]; rfl
            · refine grow_side (H := upd H7 zp (.tup ([V.int d.o, V.int d.s] ++ [V.str m]))) (fun j e he => ?_) (by rw [ly, lu]) (fun b u y nb => (upd_ne nb).trans y) nd7 ((upd_ne (Ne.symm ncD)).trans upd_same) nsp
              obtain ⟨p3, t1, t2, t3⟩ := at5 j e he
              have g6 := s57 _ _ t2
              exact ⟨p3, t1, (upd_ne (ne_of_none g6 nzp)).trans g6, t3⟩
            · intro e he
              rcases List.mem_append.mp he with h | h
              · exact sm5 e h
              · rw [List.mem_singleton.mp h]
                exact b0
            · intro b u y
              have y6 := s57 _ _ (s5 _ _ y)
              exact (upd_ne (ne_of_none y nD)).trans ((upd_ne (ne_of_none y6 nzp)).trans y6)
          rintro H6 ⟨ys, us, hD, ly, lu, at5, sm5, s5⟩
          have G2 : ∃ (xs2 : List V) (ss2 : List Sd) (t4 : Nat), SidesAt H6 D xs2 ss2 ∧ SmallS ss2 ∧ D ≠ a ∧ D ≠ c ∧ t4 ≤ t + 40 ∧ Src H6 a c t4 :=
            ⟨ys, us, _, ⟨hD, by rw [ly, lu], by omega, by omega, at5⟩, sm5, Da, Dc, by omega, S10.of_same s5⟩
          clear SS10 hM S10 at5 hD s5
          obtain ⟨l2, e2⟩ : ∃ l2, l2 = D := ⟨_, rfl⟩
          subst e2
      all_goals
        obtain ⟨xs2, ss2, t4, SS6, sm2, mA, mC, ht4, S6⟩ := G2
        walk_at "rd"
        refine ⟨l2, xs2, ss2, rfl, SS6, fun d hd => (sm2 d hd).2.2, fun R H7 o nR s7 hR FO => ?_⟩
        have SS7 := SS6.same s7
        have S7 := S6.of_same s7
        obtain ⟨rA, rC⟩ := S6.na nR
        walk_at "rd"
        refine ⟨l2, R, xs2, ss2, 1, o, rfl, SS7, sm2, by decide, by decide, .inr ⟨rfl, fun d hd => (sm2 d hd).2.2⟩, hR, FO, fun H8 s8 => ?_⟩
        walk_at "rd"
        refine ⟨l2, xs2, ss2, rfl, SS7.same s8, fun b H9 hb s9 => ?_⟩
        have SS9 := (SS7.same s8).same s9
        have S9 := (S7.of_same s8).of_same s9
        have hR9 := s9 _ _ (s8 _ _ hR)
        walk_at "rd"
        refine ite2 (fun y => ?_) (fun y => ?_)
        · walk_at "rd"
          refine ⟨a, c, t4, 26, rfl, S9, by decide, by omega, fun g H10 g0 g1 S10 O10 => ?_⟩
          walk_at "rd"
          have g2 : g < 10 ^ 26 := g1
          refine ⟨l2, R, xs2, ss2, 1 + g, o, rfl, SS9.oth S9 mA mC O10, sm2, by omega, by omega, .inl (hb y), O10 _ _ hR9 rA rC, FO, fun H11 s11 => ?_⟩
          walk_at "rd"
          exact ⟨_, _, _, _, _, rfl, by omega, S10.of_same s11⟩
        · exact ⟨_, _, _, _, _, rfl, by omega, S9⟩
    · rintro σ H' ⟨x2, x3, x5, x7, t, rfl, ht, S'⟩
      clear S' S0 sm
      walk_at "rd"
      refine ⟨(by show 3 ≤ sizeLine; decide), fun p1 np1 => ?_⟩
      generalize e_p1 : upd H' p1 _ = H1
      have g1 : H1 p1 = some (.tup [.int 0, .int 3, .str "half_up"]) := by rw [← e_p1]; exact upd_same
      have w1 : Same H' H1 := by rw [← e_p1]; exact fun b u z => (upd_ne (ne_of_none z np1)).trans z
      clear e_p1
      walk_at "rd"
      refine ⟨(by show 3 ≤ sizeLine; decide), fun p2 np2 => ?_⟩
      generalize e_p2 : upd H1 p2 _ = H2
      have g2 : H2 p2 = some (.tup [.int 1, .int 3, .str "half_up"]) := by rw [← e_p2]; exact upd_same
      have w2 : Same H1 H2 := by rw [← e_p2]; exact fun b u z => (upd_ne (ne_of_none z np2)).trans z
      clear e_p2
      walk_at "rd"
      refine ⟨(by show 3 ≤ sizeLine; decide), fun p3 np3 => ?_⟩
      generalize e_p3 : upd H2 p3 _ = H3
      have g3 : H3 p3 = some (.tup [.int 2, .int 3, .str "half_up"]) := by rw [← e_p3]; exact upd_same
      have w3 : Same H2 H3 := by rw [← e_p3]; exact fun b u z => (upd_ne (ne_of_none z np3)).trans z
      clear e_p3
      walk_at "rd"
      refine ⟨(by show 3 ≤ sizeLine; decide), fun p4 np4 => ?_⟩
      generalize e_p4 : upd H3 p4 _ = H4
      have g4 : H4 p4 = some (.lst [.ref p1, .ref p2, .ref p3]) := by rw [← e_p4]; exact upd_same
      have w4 : Same H3 H4 := by rw [← e_p4]; exact fun b u z => (upd_ne (ne_of_none z np4)).trans z
      clear e_p4
      have h1 := w4 _ _ (w3 _ _ (w2 _ _ g1))
      have h2 := w4 _ _ (w3 _ _ g2)
      have h3 := w4 _ _ g3
      have SR : SidesAt H4 p4 [.ref p1, .ref p2, .ref p3] rows3 := sidesAt3 g4 h1 (side_hu (by decide) (by decide) (by decide)) h2 (side_hu (by decide) (by decide) (by decide)) h3 (side_hu (by decide) (by decide) (by decide))
      walk_at "rd"
      refine ⟨p4, _, rows3, rfl, SR, few3, fun R H5 o nR s5 hR FO => ?_⟩
      have eo := first_uniq FO fst3
      subst eo
      walk_at "rd"
      refine ⟨(by show 1 ≤ sizeLine; decide), fun q5 nq5 => ?_⟩
      generalize e_q5 : upd H5 q5 _ = H6
      have g6 : H6 q5 = some (.lst [.int 0]) := by rw [← e_q5]; exact upd_same
      have w6 : Same H5 H6 := by rw [← e_q5]; exact fun b u z => (upd_ne (ne_of_none z nq5)).trans z
      clear e_q5
      walk_at "rd"
      refine ⟨_, _, .lst (SqL.of (w6 _ _ hR)) (dpNats [0]), .lst (SqL.of g6) (dpNats [0]), nats_shaped [0], nats_shaped [0], ?_⟩
      rw [SeqAt.eqv_refl _ (SeqAt.canLay_of_shaped (nats_shaped [0]))]
      walk_at "rd"
      refine ite2 (fun _ => ?_) (fun z => (z rfl).elim)
      walk_at "rd"
      refine ⟨(by show 3 ≤ sizeLine; decide), fun r1 nr1 => ?_⟩
      generalize e_r1 : upd H6 r1 _ = H7
      have g7 : H7 r1 = some (.tup [.int 0, .int 10, .str "half_up"]) := by rw [← e_r1]; exact upd_same
      have w7 : Same H6 H7 := by rw [← e_r1]; exact fun b u z => (upd_ne (ne_of_none z nr1)).trans z
      clear e_r1
      walk_at "rd"
      refine ⟨(by show 3 ≤ sizeLine; decide), fun r2 nr2 => ?_⟩
      generalize e_r2 : upd H7 r2 _ = H8
      have g8 : H8 r2 = some (.tup [.int 5, .int 10, .str "half_up"]) := by rw [← e_r2]; exact upd_same
      have w8 : Same H7 H8 := by rw [← e_r2]; exact fun b u z => (upd_ne (ne_of_none z nr2)).trans z
      clear e_r2
      walk_at "rd"
      refine ⟨(by show 2 ≤ sizeLine; decide), fun r3 nr3 => ?_⟩
      generalize e_r3 : upd H8 r3 _ = H9
      have g9 : H9 r3 = some (.lst [.ref r1, .ref r2]) := by rw [← e_r3]; exact upd_same
      have w9 : Same H8 H9 := by rw [← e_r3]; exact fun b u z => (upd_ne (ne_of_none z nr3)).trans z
      clear e_r3
      have SR2 : SidesAt H9 r3 [.ref r1, .ref r2] rows2 := sidesAt2 g9 (w9 _ _ (w8 _ _ g7)) (side_hu (by decide) (by decide) (by decide)) (w9 _ _ g8) (side_hu (by decide) (by decide) (by decide))
      walk_at "rd"
      refine ⟨r3, _, rows2, rfl, SR2, few2, fun R2 H10 o2 nR2 s10 hR2 FO2 => ?_⟩
      have eo2 := first_uniq FO2 fst2
      subst eo2
      walk_at "rd"
      refine ⟨(by show 1 ≤ sizeLine; decide), fun q6 nq6 => ?_⟩
      generalize e_q6 : upd H10 q6 _ = H11
      have g11 : H11 q6 = some (.lst [.int 0]) := by rw [← e_q6]; exact upd_same
      have w11 : Same H10 H11 := by rw [← e_q6]; exact fun b u z => (upd_ne (ne_of_none z nq6)).trans z
      clear e_q6
      walk_at "rd"
      refine ⟨_, _, .lst (SqL.of (w11 _ _ hR2)) (dpNats [0]), .lst (SqL.of g11) (dpNats [0]), nats_shaped [0], nats_shaped [0], ?_⟩
      rw [SeqAt.eqv_refl _ (SeqAt.canLay_of_shaped (nats_shaped [0]))]
      exact q H11
end
end HT
namespace HT
open PySem L2
theorem all_mk {l : PySem.W.OpenLaw} {w : World} {K : PySem.W.Frag} {h : Heap} {mg : Str → Option Value} {fa aM aR aU c0 f_is_int f_is_int_between f_check_value f_check_side f_is_side f_figure f_goes_up f_written f_span f_uspan f_below f_mirror f_form f_first_mode f_check_sides f_period_of f_common_period f_raisers f_raises_some f_highest f_mirrors f_first_hit f_first_between f_unraised f_first_in_block f_first_in_both f_reach f_check_few f_first_unraised f_first_unraised_by_two f_calm f_are_calm f_one_more f_L_source f_L_draw f_L_pick f_L_divisor f_L_great f_L_small_side f_L_figure f_L_handed f_L_period f_L_set f_L_written f_L_is_calm f_L_lists f_L_due f_L_is_few f_L_fits f_law : Addr} (X : K.In h) (G : h.Ns mainGlobals mg) (hfa : mg "law" = some (.ref fa))
    {odM odU od_is_int an_is_int od_is_int_between an_is_int_between od_check_value an_check_value od_check_side an_check_side od_is_side an_is_side od_figure an_figure od_goes_up an_goes_up od_written an_written od_span an_span od_uspan an_uspan od_below an_below od_mirror an_mirror od_form an_form od_first_mode an_first_mode od_check_sides an_check_sides od_period_of an_period_of od_common_period an_common_period od_raisers an_raisers od_raises_some an_raises_some od_highest an_highest od_mirrors an_mirrors od_first_hit an_first_hit od_first_between an_first_between od_unraised an_unraised od_first_in_block an_first_in_block od_first_in_both an_first_in_both od_reach an_reach od_check_few an_check_few od_first_unraised an_first_unraised od_first_unraised_by_two an_first_unraised_by_two od_calm an_calm od_are_calm an_are_calm od_one_more an_one_more od_L_source an_L_source od_L_draw an_L_draw od_L_pick an_L_pick od_L_divisor an_L_divisor od_L_great an_L_great od_L_small_side an_L_small_side od_L_figure an_L_figure od_L_handed an_L_handed od_L_period an_L_period od_L_set an_L_set od_L_written an_L_written od_L_is_calm an_L_is_calm od_L_lists an_L_lists od_L_due an_L_due od_L_is_few an_L_is_few od_L_fits an_L_fits od_law an_law : Option Addr} {slM slU sl_is_int sl_is_int_between sl_check_value sl_check_side sl_is_side sl_figure sl_goes_up sl_written sl_span sl_uspan sl_below sl_mirror sl_form sl_first_mode sl_check_sides sl_period_of sl_common_period sl_raisers sl_raises_some sl_highest sl_mirrors sl_first_hit sl_first_between sl_unraised sl_first_in_block sl_first_in_both sl_reach sl_check_few sl_first_unraised sl_first_unraised_by_two sl_calm sl_are_calm sl_one_more sl_L_source sl_L_draw sl_L_pick sl_L_divisor sl_L_great sl_L_small_side sl_L_figure sl_L_handed sl_L_period sl_L_set sl_L_written sl_L_is_calm sl_L_lists sl_L_due sl_L_is_few sl_L_fits sl_law : Array (Option Value)} {nM nR nU : Nat} {itsM itsU : Array Value} {esR : Array DictEntry} {tMS tMP : Tok} {u_down u_up u_half_down u_half_up u_half_even oc_is_int kV_is_int dc_is_int pm_is_int cd_is_int ct_is_int oc_is_int_between kV_is_int_between dc_is_int_between pm_is_int_between cd_is_int_between ct_is_int_between oc_check_value kV_check_value dc_check_value pm_check_value cd_check_value ct_check_value oc_check_side kV_check_side dc_check_side pm_check_side cd_check_side ct_check_side oc_is_side kV_is_side dc_is_side pm_is_side cd_is_side ct_is_side oc_figure kV_figure dc_figure pm_figure cd_figure ct_figure oc_goes_up kV_goes_up dc_goes_up pm_goes_up cd_goes_up ct_goes_up oc_written kV_written dc_written pm_written cd_written ct_written oc_span kV_span dc_span pm_span cd_span ct_span oc_uspan kV_uspan dc_uspan pm_uspan cd_uspan ct_uspan oc_below kV_below dc_below pm_below cd_below ct_below oc_mirror kV_mirror dc_mirror pm_mirror cd_mirror ct_mirror oc_form kV_form dc_form pm_form cd_form ct_form oc_first_mode kV_first_mode dc_first_mode pm_first_mode cd_first_mode ct_first_mode oc_check_sides kV_check_sides dc_check_sides pm_check_sides cd_check_sides ct_check_sides oc_period_of kV_period_of dc_period_of pm_period_of cd_period_of ct_period_of oc_common_period kV_common_period dc_common_period pm_common_period cd_common_period ct_common_period oc_raisers kV_raisers dc_raisers pm_raisers cd_raisers ct_raisers oc_raises_some kV_raises_some dc_raises_some pm_raises_some cd_raises_some ct_raises_some oc_highest kV_highest dc_highest pm_highest cd_highest ct_highest oc_mirrors kV_mirrors dc_mirrors pm_mirrors cd_mirrors ct_mirrors oc_first_hit kV_first_hit dc_first_hit pm_first_hit cd_first_hit ct_first_hit oc_first_between kV_first_between dc_first_between pm_first_between cd_first_between ct_first_between oc_unraised kV_unraised dc_unraised pm_unraised cd_unraised ct_unraised oc_first_in_block kV_first_in_block dc_first_in_block pm_first_in_block cd_first_in_block ct_first_in_block oc_first_in_both kV_first_in_both dc_first_in_both pm_first_in_both cd_first_in_both ct_first_in_both oc_reach kV_reach dc_reach pm_reach cd_reach ct_reach oc_check_few kV_check_few dc_check_few pm_check_few cd_check_few ct_check_few oc_first_unraised kV_first_unraised dc_first_unraised pm_first_unraised cd_first_unraised ct_first_unraised oc_first_unraised_by_two kV_first_unraised_by_two dc_first_unraised_by_two pm_first_unraised_by_two cd_first_unraised_by_two ct_first_unraised_by_two oc_calm kV_calm dc_calm pm_calm cd_calm ct_calm oc_are_calm kV_are_calm dc_are_calm pm_are_calm cd_are_calm ct_are_calm oc_one_more kV_one_more dc_one_more pm_one_more cd_one_more ct_one_more oc_L_source kV_L_source dc_L_source pm_L_source cd_L_source ct_L_source oc_L_draw kV_L_draw dc_L_draw pm_L_draw cd_L_draw ct_L_draw oc_L_pick kV_L_pick dc_L_pick pm_L_pick cd_L_pick ct_L_pick oc_L_divisor kV_L_divisor dc_L_divisor pm_L_divisor cd_L_divisor ct_L_divisor oc_L_great kV_L_great dc_L_great pm_L_great cd_L_great ct_L_great oc_L_small_side kV_L_small_side dc_L_small_side pm_L_small_side cd_L_small_side ct_L_small_side oc_L_figure kV_L_figure dc_L_figure pm_L_figure cd_L_figure ct_L_figure oc_L_handed kV_L_handed dc_L_handed pm_L_handed cd_L_handed ct_L_handed oc_L_period kV_L_period dc_L_period pm_L_period cd_L_period ct_L_period oc_L_set kV_L_set dc_L_set pm_L_set cd_L_set ct_L_set oc_L_written kV_L_written dc_L_written pm_L_written cd_L_written ct_L_written oc_L_is_calm kV_L_is_calm dc_L_is_calm pm_L_is_calm cd_L_is_calm ct_L_is_calm oc_L_lists kV_L_lists dc_L_lists pm_L_lists cd_L_lists ct_L_lists oc_L_due kV_L_due dc_L_due pm_L_due cd_L_due ct_L_due oc_L_is_few kV_L_is_few dc_L_is_few pm_L_is_few cd_L_is_few ct_L_is_few oc_L_fits kV_L_fits dc_L_fits pm_L_fits cd_L_fits ct_L_fits oc_law kV_law dc_law pm_law cd_law ct_law : Value}
    (a_is_int : PySem.W.nsIn K mainGlobals "is_int" = some (some (.ref f_is_int)))
    (l_is_int : K.lookup f_is_int = some ⟨oc_is_int, od_is_int, .func (PySem.W.fnOf "is_int" "is_int" (defArgs s_is_int) (defBody s_is_int) (defScope s_is_int) .none kV_is_int dc_is_int pm_is_int an_is_int cd_is_int ct_is_int), sl_is_int⟩)
    (c_is_int : PySem.W.codeIn K cd_is_int "is_int" = true) (k_is_int : PySem.W.keepIn K (.ref f_is_int) = true)
    (a_is_int_between : PySem.W.nsIn K mainGlobals "is_int_between" = some (some (.ref f_is_int_between)))
    (l_is_int_between : K.lookup f_is_int_between = some ⟨oc_is_int_between, od_is_int_between, .func (PySem.W.fnOf "is_int_between" "is_int_between" (defArgs s_is_int_between) (defBody s_is_int_between) (defScope s_is_int_between) .none kV_is_int_between dc_is_int_between pm_is_int_between an_is_int_between cd_is_int_between ct_is_int_between), sl_is_int_between⟩)
    (c_is_int_between : PySem.W.codeIn K cd_is_int_between "is_int_between" = true) (k_is_int_between : PySem.W.keepIn K (.ref f_is_int_between) = true)
    (a_check_value : PySem.W.nsIn K mainGlobals "check_value" = some (some (.ref f_check_value)))
    (l_check_value : K.lookup f_check_value = some ⟨oc_check_value, od_check_value, .func (PySem.W.fnOf "check_value" "check_value" (defArgs s_check_value) (defBody s_check_value) (defScope s_check_value) .none kV_check_value dc_check_value pm_check_value an_check_value cd_check_value ct_check_value), sl_check_value⟩)
    (c_check_value : PySem.W.codeIn K cd_check_value "check_value" = true) (k_check_value : PySem.W.keepIn K (.ref f_check_value) = true)
    (a_check_side : PySem.W.nsIn K mainGlobals "check_side" = some (some (.ref f_check_side)))
    (l_check_side : K.lookup f_check_side = some ⟨oc_check_side, od_check_side, .func (PySem.W.fnOf "check_side" "check_side" (defArgs s_check_side) (defBody s_check_side) (defScope s_check_side) .none kV_check_side dc_check_side pm_check_side an_check_side cd_check_side ct_check_side), sl_check_side⟩)
    (c_check_side : PySem.W.codeIn K cd_check_side "check_side" = true) (k_check_side : PySem.W.keepIn K (.ref f_check_side) = true)
    (a_is_side : PySem.W.nsIn K mainGlobals "is_side" = some (some (.ref f_is_side)))
    (l_is_side : K.lookup f_is_side = some ⟨oc_is_side, od_is_side, .func (PySem.W.fnOf "is_side" "is_side" (defArgs s_is_side) (defBody s_is_side) (defScope s_is_side) .none kV_is_side dc_is_side pm_is_side an_is_side cd_is_side ct_is_side), sl_is_side⟩)
    (c_is_side : PySem.W.codeIn K cd_is_side "is_side" = true) (k_is_side : PySem.W.keepIn K (.ref f_is_side) = true)
    (a_figure : PySem.W.nsIn K mainGlobals "_figure" = some (some (.ref f_figure)))
    (l_figure : K.lookup f_figure = some ⟨oc_figure, od_figure, .func (PySem.W.fnOf "_figure" "_figure" (defArgs s_figure) (defBody s_figure) (defScope s_figure) .none kV_figure dc_figure pm_figure an_figure cd_figure ct_figure), sl_figure⟩)
    (c_figure : PySem.W.codeIn K cd_figure "_figure" = true) (k_figure : PySem.W.keepIn K (.ref f_figure) = true)
    (a_goes_up : PySem.W.nsIn K mainGlobals "_goes_up" = some (some (.ref f_goes_up)))
    (l_goes_up : K.lookup f_goes_up = some ⟨oc_goes_up, od_goes_up, .func (PySem.W.fnOf "_goes_up" "_goes_up" (defArgs s_goes_up) (defBody s_goes_up) (defScope s_goes_up) .none kV_goes_up dc_goes_up pm_goes_up an_goes_up cd_goes_up ct_goes_up), sl_goes_up⟩)
    (c_goes_up : PySem.W.codeIn K cd_goes_up "_goes_up" = true) (k_goes_up : PySem.W.keepIn K (.ref f_goes_up) = true)
    (a_written : PySem.W.nsIn K mainGlobals "written" = some (some (.ref f_written)))
    (l_written : K.lookup f_written = some ⟨oc_written, od_written, .func (PySem.W.fnOf "written" "written" (defArgs s_written) (defBody s_written) (defScope s_written) .none kV_written dc_written pm_written an_written cd_written ct_written), sl_written⟩)
    (c_written : PySem.W.codeIn K cd_written "written" = true) (k_written : PySem.W.keepIn K (.ref f_written) = true)
    (a_span : PySem.W.nsIn K mainGlobals "span" = some (some (.ref f_span)))
    (l_span : K.lookup f_span = some ⟨oc_span, od_span, .func (PySem.W.fnOf "span" "span" (defArgs s_span) (defBody s_span) (defScope s_span) .none kV_span dc_span pm_span an_span cd_span ct_span), sl_span⟩)
    (c_span : PySem.W.codeIn K cd_span "span" = true) (k_span : PySem.W.keepIn K (.ref f_span) = true)
    (a_uspan : PySem.W.nsIn K mainGlobals "_span" = some (some (.ref f_uspan)))
    (l_uspan : K.lookup f_uspan = some ⟨oc_uspan, od_uspan, .func (PySem.W.fnOf "_span" "_span" (defArgs s_uspan) (defBody s_uspan) (defScope s_uspan) .none kV_uspan dc_uspan pm_uspan an_uspan cd_uspan ct_uspan), sl_uspan⟩)
    (c_uspan : PySem.W.codeIn K cd_uspan "_span" = true) (k_uspan : PySem.W.keepIn K (.ref f_uspan) = true)
    (a_below : PySem.W.nsIn K mainGlobals "_below" = some (some (.ref f_below)))
    (l_below : K.lookup f_below = some ⟨oc_below, od_below, .func (PySem.W.fnOf "_below" "_below" (defArgs s_below) (defBody s_below) (defScope s_below) .none kV_below dc_below pm_below an_below cd_below ct_below), sl_below⟩)
    (c_below : PySem.W.codeIn K cd_below "_below" = true) (k_below : PySem.W.keepIn K (.ref f_below) = true)
    (a_mirror : PySem.W.nsIn K mainGlobals "mirror" = some (some (.ref f_mirror)))
    (l_mirror : K.lookup f_mirror = some ⟨oc_mirror, od_mirror, .func (PySem.W.fnOf "mirror" "mirror" (defArgs s_mirror) (defBody s_mirror) (defScope s_mirror) .none kV_mirror dc_mirror pm_mirror an_mirror cd_mirror ct_mirror), sl_mirror⟩)
    (c_mirror : PySem.W.codeIn K cd_mirror "mirror" = true) (k_mirror : PySem.W.keepIn K (.ref f_mirror) = true)
    (a_form : PySem.W.nsIn K mainGlobals "form" = some (some (.ref f_form)))
    (l_form : K.lookup f_form = some ⟨oc_form, od_form, .func (PySem.W.fnOf "form" "form" (defArgs s_form) (defBody s_form) (defScope s_form) .none kV_form dc_form pm_form an_form cd_form ct_form), sl_form⟩)
    (c_form : PySem.W.codeIn K cd_form "form" = true) (k_form : PySem.W.keepIn K (.ref f_form) = true)
    (a_first_mode : PySem.W.nsIn K mainGlobals "_first_mode" = some (some (.ref f_first_mode)))
    (l_first_mode : K.lookup f_first_mode = some ⟨oc_first_mode, od_first_mode, .func (PySem.W.fnOf "_first_mode" "_first_mode" (defArgs s_first_mode) (defBody s_first_mode) (defScope s_first_mode) .none kV_first_mode dc_first_mode pm_first_mode an_first_mode cd_first_mode ct_first_mode), sl_first_mode⟩)
    (c_first_mode : PySem.W.codeIn K cd_first_mode "_first_mode" = true) (k_first_mode : PySem.W.keepIn K (.ref f_first_mode) = true)
    (a_check_sides : PySem.W.nsIn K mainGlobals "check_sides" = some (some (.ref f_check_sides)))
    (l_check_sides : K.lookup f_check_sides = some ⟨oc_check_sides, od_check_sides, .func (PySem.W.fnOf "check_sides" "check_sides" (defArgs s_check_sides) (defBody s_check_sides) (defScope s_check_sides) .none kV_check_sides dc_check_sides pm_check_sides an_check_sides cd_check_sides ct_check_sides), sl_check_sides⟩)
    (c_check_sides : PySem.W.codeIn K cd_check_sides "check_sides" = true) (k_check_sides : PySem.W.keepIn K (.ref f_check_sides) = true)
    (a_period_of : PySem.W.nsIn K mainGlobals "period_of" = some (some (.ref f_period_of)))
    (l_period_of : K.lookup f_period_of = some ⟨oc_period_of, od_period_of, .func (PySem.W.fnOf "period_of" "period_of" (defArgs s_period_of) (defBody s_period_of) (defScope s_period_of) .none kV_period_of dc_period_of pm_period_of an_period_of cd_period_of ct_period_of), sl_period_of⟩)
    (c_period_of : PySem.W.codeIn K cd_period_of "period_of" = true) (k_period_of : PySem.W.keepIn K (.ref f_period_of) = true)
    (a_common_period : PySem.W.nsIn K mainGlobals "common_period" = some (some (.ref f_common_period)))
    (l_common_period : K.lookup f_common_period = some ⟨oc_common_period, od_common_period, .func (PySem.W.fnOf "common_period" "common_period" (defArgs s_common_period) (defBody s_common_period) (defScope s_common_period) .none kV_common_period dc_common_period pm_common_period an_common_period cd_common_period ct_common_period), sl_common_period⟩)
    (c_common_period : PySem.W.codeIn K cd_common_period "common_period" = true) (k_common_period : PySem.W.keepIn K (.ref f_common_period) = true)
    (a_raisers : PySem.W.nsIn K mainGlobals "raisers" = some (some (.ref f_raisers)))
    (l_raisers : K.lookup f_raisers = some ⟨oc_raisers, od_raisers, .func (PySem.W.fnOf "raisers" "raisers" (defArgs s_raisers) (defBody s_raisers) (defScope s_raisers) .none kV_raisers dc_raisers pm_raisers an_raisers cd_raisers ct_raisers), sl_raisers⟩)
    (c_raisers : PySem.W.codeIn K cd_raisers "raisers" = true) (k_raisers : PySem.W.keepIn K (.ref f_raisers) = true)
    (a_raises_some : PySem.W.nsIn K mainGlobals "_raises_some" = some (some (.ref f_raises_some)))
    (l_raises_some : K.lookup f_raises_some = some ⟨oc_raises_some, od_raises_some, .func (PySem.W.fnOf "_raises_some" "_raises_some" (defArgs s_raises_some) (defBody s_raises_some) (defScope s_raises_some) .none kV_raises_some dc_raises_some pm_raises_some an_raises_some cd_raises_some ct_raises_some), sl_raises_some⟩)
    (c_raises_some : PySem.W.codeIn K cd_raises_some "_raises_some" = true) (k_raises_some : PySem.W.keepIn K (.ref f_raises_some) = true)
    (a_highest : PySem.W.nsIn K mainGlobals "highest" = some (some (.ref f_highest)))
    (l_highest : K.lookup f_highest = some ⟨oc_highest, od_highest, .func (PySem.W.fnOf "highest" "highest" (defArgs s_highest) (defBody s_highest) (defScope s_highest) .none kV_highest dc_highest pm_highest an_highest cd_highest ct_highest), sl_highest⟩)
    (c_highest : PySem.W.codeIn K cd_highest "highest" = true) (k_highest : PySem.W.keepIn K (.ref f_highest) = true)
    (a_mirrors : PySem.W.nsIn K mainGlobals "mirrors" = some (some (.ref f_mirrors)))
    (l_mirrors : K.lookup f_mirrors = some ⟨oc_mirrors, od_mirrors, .func (PySem.W.fnOf "mirrors" "mirrors" (defArgs s_mirrors) (defBody s_mirrors) (defScope s_mirrors) .none kV_mirrors dc_mirrors pm_mirrors an_mirrors cd_mirrors ct_mirrors), sl_mirrors⟩)
    (c_mirrors : PySem.W.codeIn K cd_mirrors "mirrors" = true) (k_mirrors : PySem.W.keepIn K (.ref f_mirrors) = true)
    (a_first_hit : PySem.W.nsIn K mainGlobals "first_hit" = some (some (.ref f_first_hit)))
    (l_first_hit : K.lookup f_first_hit = some ⟨oc_first_hit, od_first_hit, .func (PySem.W.fnOf "first_hit" "first_hit" (defArgs s_first_hit) (defBody s_first_hit) (defScope s_first_hit) .none kV_first_hit dc_first_hit pm_first_hit an_first_hit cd_first_hit ct_first_hit), sl_first_hit⟩)
    (c_first_hit : PySem.W.codeIn K cd_first_hit "first_hit" = true) (k_first_hit : PySem.W.keepIn K (.ref f_first_hit) = true)
    (a_first_between : PySem.W.nsIn K mainGlobals "_first_between" = some (some (.ref f_first_between)))
    (l_first_between : K.lookup f_first_between = some ⟨oc_first_between, od_first_between, .func (PySem.W.fnOf "_first_between" "_first_between" (defArgs s_first_between) (defBody s_first_between) (defScope s_first_between) .none kV_first_between dc_first_between pm_first_between an_first_between cd_first_between ct_first_between), sl_first_between⟩)
    (c_first_between : PySem.W.codeIn K cd_first_between "_first_between" = true) (k_first_between : PySem.W.keepIn K (.ref f_first_between) = true)
    (a_unraised : PySem.W.nsIn K mainGlobals "unraised" = some (some (.ref f_unraised)))
    (l_unraised : K.lookup f_unraised = some ⟨oc_unraised, od_unraised, .func (PySem.W.fnOf "unraised" "unraised" (defArgs s_unraised) (defBody s_unraised) (defScope s_unraised) (.ref aU) kV_unraised dc_unraised pm_unraised an_unraised cd_unraised ct_unraised), sl_unraised⟩)
    (c_unraised : PySem.W.codeIn K cd_unraised "unraised" = true) (k_unraised : PySem.W.keepIn K (.ref f_unraised) = true)
    (a_first_in_block : PySem.W.nsIn K mainGlobals "first_in_block" = some (some (.ref f_first_in_block)))
    (l_first_in_block : K.lookup f_first_in_block = some ⟨oc_first_in_block, od_first_in_block, .func (PySem.W.fnOf "first_in_block" "first_in_block" (defArgs s_first_in_block) (defBody s_first_in_block) (defScope s_first_in_block) .none kV_first_in_block dc_first_in_block pm_first_in_block an_first_in_block cd_first_in_block ct_first_in_block), sl_first_in_block⟩)
    (c_first_in_block : PySem.W.codeIn K cd_first_in_block "first_in_block" = true) (k_first_in_block : PySem.W.keepIn K (.ref f_first_in_block) = true)
    (a_first_in_both : PySem.W.nsIn K mainGlobals "first_in_both" = some (some (.ref f_first_in_both)))
    (l_first_in_both : K.lookup f_first_in_both = some ⟨oc_first_in_both, od_first_in_both, .func (PySem.W.fnOf "first_in_both" "first_in_both" (defArgs s_first_in_both) (defBody s_first_in_both) (defScope s_first_in_both) .none kV_first_in_both dc_first_in_both pm_first_in_both an_first_in_both cd_first_in_both ct_first_in_both), sl_first_in_both⟩)
    (c_first_in_both : PySem.W.codeIn K cd_first_in_both "first_in_both" = true) (k_first_in_both : PySem.W.keepIn K (.ref f_first_in_both) = true)
    (a_reach : PySem.W.nsIn K mainGlobals "reach" = some (some (.ref f_reach)))
    (l_reach : K.lookup f_reach = some ⟨oc_reach, od_reach, .func (PySem.W.fnOf "reach" "reach" (defArgs s_reach) (defBody s_reach) (defScope s_reach) .none kV_reach dc_reach pm_reach an_reach cd_reach ct_reach), sl_reach⟩)
    (c_reach : PySem.W.codeIn K cd_reach "reach" = true) (k_reach : PySem.W.keepIn K (.ref f_reach) = true)
    (a_check_few : PySem.W.nsIn K mainGlobals "_check_few" = some (some (.ref f_check_few)))
    (l_check_few : K.lookup f_check_few = some ⟨oc_check_few, od_check_few, .func (PySem.W.fnOf "_check_few" "_check_few" (defArgs s_check_few) (defBody s_check_few) (defScope s_check_few) .none kV_check_few dc_check_few pm_check_few an_check_few cd_check_few ct_check_few), sl_check_few⟩)
    (c_check_few : PySem.W.codeIn K cd_check_few "_check_few" = true) (k_check_few : PySem.W.keepIn K (.ref f_check_few) = true)
    (a_first_unraised : PySem.W.nsIn K mainGlobals "_first_unraised" = some (some (.ref f_first_unraised)))
    (l_first_unraised : K.lookup f_first_unraised = some ⟨oc_first_unraised, od_first_unraised, .func (PySem.W.fnOf "_first_unraised" "_first_unraised" (defArgs s_first_unraised) (defBody s_first_unraised) (defScope s_first_unraised) .none kV_first_unraised dc_first_unraised pm_first_unraised an_first_unraised cd_first_unraised ct_first_unraised), sl_first_unraised⟩)
    (c_first_unraised : PySem.W.codeIn K cd_first_unraised "_first_unraised" = true) (k_first_unraised : PySem.W.keepIn K (.ref f_first_unraised) = true)
    (a_first_unraised_by_two : PySem.W.nsIn K mainGlobals "_first_unraised_by_two" = some (some (.ref f_first_unraised_by_two)))
    (l_first_unraised_by_two : K.lookup f_first_unraised_by_two = some ⟨oc_first_unraised_by_two, od_first_unraised_by_two, .func (PySem.W.fnOf "_first_unraised_by_two" "_first_unraised_by_two" (defArgs s_first_unraised_by_two) (defBody s_first_unraised_by_two) (defScope s_first_unraised_by_two) .none kV_first_unraised_by_two dc_first_unraised_by_two pm_first_unraised_by_two an_first_unraised_by_two cd_first_unraised_by_two ct_first_unraised_by_two), sl_first_unraised_by_two⟩)
    (c_first_unraised_by_two : PySem.W.codeIn K cd_first_unraised_by_two "_first_unraised_by_two" = true) (k_first_unraised_by_two : PySem.W.keepIn K (.ref f_first_unraised_by_two) = true)
    (a_calm : PySem.W.nsIn K mainGlobals "calm" = some (some (.ref f_calm)))
    (l_calm : K.lookup f_calm = some ⟨oc_calm, od_calm, .func (PySem.W.fnOf "calm" "calm" (defArgs s_calm) (defBody s_calm) (defScope s_calm) .none kV_calm dc_calm pm_calm an_calm cd_calm ct_calm), sl_calm⟩)
    (c_calm : PySem.W.codeIn K cd_calm "calm" = true) (k_calm : PySem.W.keepIn K (.ref f_calm) = true)
    (a_are_calm : PySem.W.nsIn K mainGlobals "_are_calm" = some (some (.ref f_are_calm)))
    (l_are_calm : K.lookup f_are_calm = some ⟨oc_are_calm, od_are_calm, .func (PySem.W.fnOf "_are_calm" "_are_calm" (defArgs s_are_calm) (defBody s_are_calm) (defScope s_are_calm) .none kV_are_calm dc_are_calm pm_are_calm an_are_calm cd_are_calm ct_are_calm), sl_are_calm⟩)
    (c_are_calm : PySem.W.codeIn K cd_are_calm "_are_calm" = true) (k_are_calm : PySem.W.keepIn K (.ref f_are_calm) = true)
    (a_one_more : PySem.W.nsIn K mainGlobals "_one_more" = some (some (.ref f_one_more)))
    (l_one_more : K.lookup f_one_more = some ⟨oc_one_more, od_one_more, .func (PySem.W.fnOf "_one_more" "_one_more" (defArgs s_one_more) (defBody s_one_more) (defScope s_one_more) .none kV_one_more dc_one_more pm_one_more an_one_more cd_one_more ct_one_more), sl_one_more⟩)
    (c_one_more : PySem.W.codeIn K cd_one_more "_one_more" = true) (k_one_more : PySem.W.keepIn K (.ref f_one_more) = true)
    (a_L_source : PySem.W.nsIn K mainGlobals "_law_source" = some (some (.ref f_L_source)))
    (l_L_source : K.lookup f_L_source = some ⟨oc_L_source, od_L_source, .func (PySem.W.fnOf "_law_source" "_law_source" (defArgs s_L_source) (defBody s_L_source) (defScope s_L_source) .none kV_L_source dc_L_source pm_L_source an_L_source cd_L_source ct_L_source), sl_L_source⟩)
    (c_L_source : PySem.W.codeIn K cd_L_source "_law_source" = true) (k_L_source : PySem.W.keepIn K (.ref f_L_source) = true)
    (a_L_draw : PySem.W.nsIn K mainGlobals "_law_draw" = some (some (.ref f_L_draw)))
    (l_L_draw : K.lookup f_L_draw = some ⟨oc_L_draw, od_L_draw, .func (PySem.W.fnOf "_law_draw" "_law_draw" (defArgs s_L_draw) (defBody s_L_draw) (defScope s_L_draw) .none kV_L_draw dc_L_draw pm_L_draw an_L_draw cd_L_draw ct_L_draw), sl_L_draw⟩)
    (c_L_draw : PySem.W.codeIn K cd_L_draw "_law_draw" = true) (k_L_draw : PySem.W.keepIn K (.ref f_L_draw) = true)
    (a_L_pick : PySem.W.nsIn K mainGlobals "_law_pick" = some (some (.ref f_L_pick)))
    (l_L_pick : K.lookup f_L_pick = some ⟨oc_L_pick, od_L_pick, .func (PySem.W.fnOf "_law_pick" "_law_pick" (defArgs s_L_pick) (defBody s_L_pick) (defScope s_L_pick) .none kV_L_pick dc_L_pick pm_L_pick an_L_pick cd_L_pick ct_L_pick), sl_L_pick⟩)
    (c_L_pick : PySem.W.codeIn K cd_L_pick "_law_pick" = true) (k_L_pick : PySem.W.keepIn K (.ref f_L_pick) = true)
    (a_L_divisor : PySem.W.nsIn K mainGlobals "_law_divisor" = some (some (.ref f_L_divisor)))
    (l_L_divisor : K.lookup f_L_divisor = some ⟨oc_L_divisor, od_L_divisor, .func (PySem.W.fnOf "_law_divisor" "_law_divisor" (defArgs s_L_divisor) (defBody s_L_divisor) (defScope s_L_divisor) .none kV_L_divisor dc_L_divisor pm_L_divisor an_L_divisor cd_L_divisor ct_L_divisor), sl_L_divisor⟩)
    (c_L_divisor : PySem.W.codeIn K cd_L_divisor "_law_divisor" = true) (k_L_divisor : PySem.W.keepIn K (.ref f_L_divisor) = true)
    (a_L_great : PySem.W.nsIn K mainGlobals "_law_great" = some (some (.ref f_L_great)))
    (l_L_great : K.lookup f_L_great = some ⟨oc_L_great, od_L_great, .func (PySem.W.fnOf "_law_great" "_law_great" (defArgs s_L_great) (defBody s_L_great) (defScope s_L_great) .none kV_L_great dc_L_great pm_L_great an_L_great cd_L_great ct_L_great), sl_L_great⟩)
    (c_L_great : PySem.W.codeIn K cd_L_great "_law_great" = true) (k_L_great : PySem.W.keepIn K (.ref f_L_great) = true)
    (a_L_small_side : PySem.W.nsIn K mainGlobals "_law_small_side" = some (some (.ref f_L_small_side)))
    (l_L_small_side : K.lookup f_L_small_side = some ⟨oc_L_small_side, od_L_small_side, .func (PySem.W.fnOf "_law_small_side" "_law_small_side" (defArgs s_L_small_side) (defBody s_L_small_side) (defScope s_L_small_side) .none kV_L_small_side dc_L_small_side pm_L_small_side an_L_small_side cd_L_small_side ct_L_small_side), sl_L_small_side⟩)
    (c_L_small_side : PySem.W.codeIn K cd_L_small_side "_law_small_side" = true) (k_L_small_side : PySem.W.keepIn K (.ref f_L_small_side) = true)
    (a_L_figure : PySem.W.nsIn K mainGlobals "_law_figure" = some (some (.ref f_L_figure)))
    (l_L_figure : K.lookup f_L_figure = some ⟨oc_L_figure, od_L_figure, .func (PySem.W.fnOf "_law_figure" "_law_figure" (defArgs s_L_figure) (defBody s_L_figure) (defScope s_L_figure) .none kV_L_figure dc_L_figure pm_L_figure an_L_figure cd_L_figure ct_L_figure), sl_L_figure⟩)
    (c_L_figure : PySem.W.codeIn K cd_L_figure "_law_figure" = true) (k_L_figure : PySem.W.keepIn K (.ref f_L_figure) = true)
    (a_L_handed : PySem.W.nsIn K mainGlobals "_law_handed" = some (some (.ref f_L_handed)))
    (l_L_handed : K.lookup f_L_handed = some ⟨oc_L_handed, od_L_handed, .func (PySem.W.fnOf "_law_handed" "_law_handed" (defArgs s_L_handed) (defBody s_L_handed) (defScope s_L_handed) .none kV_L_handed dc_L_handed pm_L_handed an_L_handed cd_L_handed ct_L_handed), sl_L_handed⟩)
    (c_L_handed : PySem.W.codeIn K cd_L_handed "_law_handed" = true) (k_L_handed : PySem.W.keepIn K (.ref f_L_handed) = true)
    (a_L_period : PySem.W.nsIn K mainGlobals "_law_period" = some (some (.ref f_L_period)))
    (l_L_period : K.lookup f_L_period = some ⟨oc_L_period, od_L_period, .func (PySem.W.fnOf "_law_period" "_law_period" (defArgs s_L_period) (defBody s_L_period) (defScope s_L_period) .none kV_L_period dc_L_period pm_L_period an_L_period cd_L_period ct_L_period), sl_L_period⟩)
    (c_L_period : PySem.W.codeIn K cd_L_period "_law_period" = true) (k_L_period : PySem.W.keepIn K (.ref f_L_period) = true)
    (a_L_set : PySem.W.nsIn K mainGlobals "_law_set" = some (some (.ref f_L_set)))
    (l_L_set : K.lookup f_L_set = some ⟨oc_L_set, od_L_set, .func (PySem.W.fnOf "_law_set" "_law_set" (defArgs s_L_set) (defBody s_L_set) (defScope s_L_set) .none kV_L_set dc_L_set pm_L_set an_L_set cd_L_set ct_L_set), sl_L_set⟩)
    (c_L_set : PySem.W.codeIn K cd_L_set "_law_set" = true) (k_L_set : PySem.W.keepIn K (.ref f_L_set) = true)
    (a_L_written : PySem.W.nsIn K mainGlobals "_law_written" = some (some (.ref f_L_written)))
    (l_L_written : K.lookup f_L_written = some ⟨oc_L_written, od_L_written, .func (PySem.W.fnOf "_law_written" "_law_written" (defArgs s_L_written) (defBody s_L_written) (defScope s_L_written) .none kV_L_written dc_L_written pm_L_written an_L_written cd_L_written ct_L_written), sl_L_written⟩)
    (c_L_written : PySem.W.codeIn K cd_L_written "_law_written" = true) (k_L_written : PySem.W.keepIn K (.ref f_L_written) = true)
    (a_L_is_calm : PySem.W.nsIn K mainGlobals "_law_is_calm" = some (some (.ref f_L_is_calm)))
    (l_L_is_calm : K.lookup f_L_is_calm = some ⟨oc_L_is_calm, od_L_is_calm, .func (PySem.W.fnOf "_law_is_calm" "_law_is_calm" (defArgs s_L_is_calm) (defBody s_L_is_calm) (defScope s_L_is_calm) .none kV_L_is_calm dc_L_is_calm pm_L_is_calm an_L_is_calm cd_L_is_calm ct_L_is_calm), sl_L_is_calm⟩)
    (c_L_is_calm : PySem.W.codeIn K cd_L_is_calm "_law_is_calm" = true) (k_L_is_calm : PySem.W.keepIn K (.ref f_L_is_calm) = true)
    (a_L_lists : PySem.W.nsIn K mainGlobals "_law_lists" = some (some (.ref f_L_lists)))
    (l_L_lists : K.lookup f_L_lists = some ⟨oc_L_lists, od_L_lists, .func (PySem.W.fnOf "_law_lists" "_law_lists" (defArgs s_L_lists) (defBody s_L_lists) (defScope s_L_lists) .none kV_L_lists dc_L_lists pm_L_lists an_L_lists cd_L_lists ct_L_lists), sl_L_lists⟩)
    (c_L_lists : PySem.W.codeIn K cd_L_lists "_law_lists" = true) (k_L_lists : PySem.W.keepIn K (.ref f_L_lists) = true)
    (a_L_due : PySem.W.nsIn K mainGlobals "_law_due" = some (some (.ref f_L_due)))
    (l_L_due : K.lookup f_L_due = some ⟨oc_L_due, od_L_due, .func (PySem.W.fnOf "_law_due" "_law_due" (defArgs s_L_due) (defBody s_L_due) (defScope s_L_due) .none kV_L_due dc_L_due pm_L_due an_L_due cd_L_due ct_L_due), sl_L_due⟩)
    (c_L_due : PySem.W.codeIn K cd_L_due "_law_due" = true) (k_L_due : PySem.W.keepIn K (.ref f_L_due) = true)
    (a_L_is_few : PySem.W.nsIn K mainGlobals "_law_is_few" = some (some (.ref f_L_is_few)))
    (l_L_is_few : K.lookup f_L_is_few = some ⟨oc_L_is_few, od_L_is_few, .func (PySem.W.fnOf "_law_is_few" "_law_is_few" (defArgs s_L_is_few) (defBody s_L_is_few) (defScope s_L_is_few) .none kV_L_is_few dc_L_is_few pm_L_is_few an_L_is_few cd_L_is_few ct_L_is_few), sl_L_is_few⟩)
    (c_L_is_few : PySem.W.codeIn K cd_L_is_few "_law_is_few" = true) (k_L_is_few : PySem.W.keepIn K (.ref f_L_is_few) = true)
    (a_L_fits : PySem.W.nsIn K mainGlobals "_law_fits" = some (some (.ref f_L_fits)))
    (l_L_fits : K.lookup f_L_fits = some ⟨oc_L_fits, od_L_fits, .func (PySem.W.fnOf "_law_fits" "_law_fits" (defArgs s_L_fits) (defBody s_L_fits) (defScope s_L_fits) .none kV_L_fits dc_L_fits pm_L_fits an_L_fits cd_L_fits ct_L_fits), sl_L_fits⟩)
    (c_L_fits : PySem.W.codeIn K cd_L_fits "_law_fits" = true) (k_L_fits : PySem.W.keepIn K (.ref f_L_fits) = true)
    (a_law : PySem.W.nsIn K mainGlobals "law" = some (some (.ref f_law)))
    (l_law : K.lookup f_law = some ⟨oc_law, od_law, .func (PySem.W.fnOf "law" "law" (defArgs s_law) (defBody s_law) (defScope s_law) .none kV_law dc_law pm_law an_law cd_law ct_law), sl_law⟩)
    (c_law : PySem.W.codeIn K cd_law "law" = true) (k_law : PySem.W.keepIn K (.ref f_law) = true)
    (z_len : PySem.W.nsIn K mainGlobals "len" = some none)
    (z_abs : PySem.W.nsIn K mainGlobals "abs" = some none)
    (z_int : PySem.W.nsIn K mainGlobals "int" = some none)
    (z_range : PySem.W.nsIn K mainGlobals "range" = some none)
    (z_isinstance : PySem.W.nsIn K mainGlobals "isinstance" = some none)
    (z_bool : PySem.W.nsIn K mainGlobals "bool" = some none)
    (z_tuple : PySem.W.nsIn K mainGlobals "tuple" = some none)
    (z_divmod : PySem.W.nsIn K mainGlobals "divmod" = some none)
    (z_max : PySem.W.nsIn K mainGlobals "max" = some none)
    (z_min : PySem.W.nsIn K mainGlobals "min" = some none)
    (z_list : PySem.W.nsIn K mainGlobals "list" = some none)
    (z_sorted : PySem.W.nsIn K mainGlobals "sorted" = some none)
    (z_enumerate : PySem.W.nsIn K mainGlobals "enumerate" = some none)
    (g_0 : PySem.W.nsIn K mainGlobals "InvalidSide" = some (some (.ref c0)))
    (a_MS : PySem.W.nsIn K mainGlobals "MOST_SIDES" = some (some (.int 4 tMS)))
    (a_MP : PySem.W.nsIn K mainGlobals "MOST_PERIOD" = some (some (.int 100000 tMP)))
    (a_lcm : PySem.W.nsIn K mainGlobals "lcm" = some (some (.builtin "math.lcm")))
    (l_U : K.lookup aU = some ⟨.type "tuple", odU, .seq itsU nU, slU⟩)
    (v_U : Vals [V.int 1] itsU.toList)
    (a_MODES : PySem.W.nsIn K mainGlobals "MODES" = some (some (.ref aM)))
    (l_MODES : K.lookup aM = some ⟨.type "tuple", odM, .seq itsM nM, slM⟩)
    (v_MODES : itsM.size ≤ sizeLine ∧ Vals modesV itsM.toList)
    (a_MIR : PySem.W.nsIn K mainGlobals "MIRRORED" = some (some (.ref aR)))
    (l_MIR : K.lookup aR = some ⟨.type "dict", none, .dict esR nR, #[]⟩)
    (h_MIR : PySem.W.KeysLit w.params esR.toList)
    (d_down : PySem.W.nsIn K aR "down" = some (some u_down)) (r_down : RelV (.str "up") u_down)
    (d_up : PySem.W.nsIn K aR "up" = some (some u_up)) (r_up : RelV (.str "down") u_up)
    (d_half_down : PySem.W.nsIn K aR "half_down" = some (some u_half_down)) (r_half_down : RelV (.str "half_up") u_half_down)
    (d_half_up : PySem.W.nsIn K aR "half_up" = some (some u_half_up)) (r_half_up : RelV (.str "half_down") u_half_up)
    (d_half_even : PySem.W.nsIn K aR "half_even" = some (some u_half_even)) (r_half_even : RelV (.str "half_even") u_half_even) :
    ∃ fd : FuncData, (∀ (s : Shared) (v : Value), BindsTo s fd ⟨[v], []⟩ [("_law_script", v)]) ∧ ∀ base : Heap, K.In base → base.Ns mainGlobals mg → FnOk l.prog w K mg base CX0 112 fa fd ["_law_script"] (spLaw K) := by
  have e := hfa.symm.trans (PySem.W.mg_of X G a_law)
  cases e
  have F_is_int := fun_mk (st := s_is_int) l_is_int c_is_int k_is_int
  have b_is_int := F_is_int.binds (ps := ["thing"]) fun _ _ _ _ _ _ us hl => match us, hl with | [_], _ => rfl
  have m_is_int := PySem.W.mg_of X G a_is_int
  have F_is_int_between := fun_mk (st := s_is_int_between) l_is_int_between c_is_int_between k_is_int_between
  have b_is_int_between := F_is_int_between.binds (ps := ["thing", "least", "most"]) fun _ _ _ _ _ _ us hl => match us, hl with | [_, _, _], _ => rfl
  have m_is_int_between := PySem.W.mg_of X G a_is_int_between
  have F_check_value := fun_mk (st := s_check_value) l_check_value c_check_value k_check_value
  have b_check_value := F_check_value.binds (ps := ["value"]) fun _ _ _ _ _ _ us hl => match us, hl with | [_], _ => rfl
  have m_check_value := PySem.W.mg_of X G a_check_value
  have F_check_side := fun_mk (st := s_check_side) l_check_side c_check_side k_check_side
  have b_check_side := F_check_side.binds (ps := ["side"]) fun _ _ _ _ _ _ us hl => match us, hl with | [_], _ => rfl
  have m_check_side := PySem.W.mg_of X G a_check_side
  have F_is_side := fun_mk (st := s_is_side) l_is_side c_is_side k_is_side
  have b_is_side := F_is_side.binds (ps := ["thing"]) fun _ _ _ _ _ _ us hl => match us, hl with | [_], _ => rfl
  have m_is_side := PySem.W.mg_of X G a_is_side
  have F_figure := fun_mk (st := s_figure) l_figure c_figure k_figure
  have b_figure := F_figure.binds (ps := ["side", "value"]) fun _ _ _ _ _ _ us hl => match us, hl with | [_, _], _ => rfl
  have m_figure := PySem.W.mg_of X G a_figure
  have F_goes_up := fun_mk (st := s_goes_up) l_goes_up c_goes_up k_goes_up
  have b_goes_up := F_goes_up.binds (ps := ["mode", "step", "figure", "rest"]) fun _ _ _ _ _ _ us hl => match us, hl with | [_, _, _, _], _ => rfl
  have m_goes_up := PySem.W.mg_of X G a_goes_up
  have F_written := fun_mk (st := s_written) l_written c_written k_written
  have b_written := F_written.binds (ps := ["side", "value"]) fun _ _ _ _ _ _ us hl => match us, hl with | [_, _], _ => rfl
  have m_written := PySem.W.mg_of X G a_written
  have F_span := fun_mk (st := s_span) l_span c_span k_span
  have b_span := F_span.binds (ps := ["side", "figure"]) fun _ _ _ _ _ _ us hl => match us, hl with | [_, _], _ => rfl
  have m_span := PySem.W.mg_of X G a_span
  have F_uspan := fun_mk (st := s_uspan) l_uspan c_uspan k_uspan
  have b_uspan := F_uspan.binds (ps := ["side", "figure"]) fun _ _ _ _ _ _ us hl => match us, hl with | [_, _], _ => rfl
  have m_uspan := PySem.W.mg_of X G a_uspan
  have F_below := fun_mk (st := s_below) l_below c_below k_below
  have b_below := F_below.binds (ps := ["mode", "step", "figure"]) fun _ _ _ _ _ _ us hl => match us, hl with | [_, _, _], _ => rfl
  have m_below := PySem.W.mg_of X G a_below
  have F_mirror := fun_mk (st := s_mirror) l_mirror c_mirror k_mirror
  have b_mirror := F_mirror.binds (ps := ["side"]) fun _ _ _ _ _ _ us hl => match us, hl with | [_], _ => rfl
  have m_mirror := PySem.W.mg_of X G a_mirror
  have F_form := fun_mk (st := s_form) l_form c_form k_form
  have b_form := F_form.binds (ps := ["side"]) fun _ _ _ _ _ _ us hl => match us, hl with | [_], _ => rfl
  have m_form := PySem.W.mg_of X G a_form
  have F_first_mode := fun_mk (st := s_first_mode) l_first_mode c_first_mode k_first_mode
  have b_first_mode := F_first_mode.binds (ps := ["step", "mode"]) fun _ _ _ _ _ _ us hl => match us, hl with | [_, _], _ => rfl
  have m_first_mode := PySem.W.mg_of X G a_first_mode
  have F_check_sides := fun_mk (st := s_check_sides) l_check_sides c_check_sides k_check_sides
  have b_check_sides := F_check_sides.binds (ps := ["sides"]) fun _ _ _ _ _ _ us hl => match us, hl with | [_], _ => rfl
  have m_check_sides := PySem.W.mg_of X G a_check_sides
  have F_period_of := fun_mk (st := s_period_of) l_period_of c_period_of k_period_of
  have b_period_of := F_period_of.binds (ps := ["side"]) fun _ _ _ _ _ _ us hl => match us, hl with | [_], _ => rfl
  have m_period_of := PySem.W.mg_of X G a_period_of
  have F_common_period := fun_mk (st := s_common_period) l_common_period c_common_period k_common_period
  have b_common_period := F_common_period.binds (ps := ["sides"]) fun _ _ _ _ _ _ us hl => match us, hl with | [_], _ => rfl
  have m_common_period := PySem.W.mg_of X G a_common_period
  have F_raisers := fun_mk (st := s_raisers) l_raisers c_raisers k_raisers
  have b_raisers := F_raisers.binds (ps := ["sides"]) fun _ _ _ _ _ _ us hl => match us, hl with | [_], _ => rfl
  have m_raisers := PySem.W.mg_of X G a_raisers
  have F_raises_some := fun_mk (st := s_raises_some) l_raises_some c_raises_some k_raises_some
  have b_raises_some := F_raises_some.binds (ps := ["side"]) fun _ _ _ _ _ _ us hl => match us, hl with | [_], _ => rfl
  have m_raises_some := PySem.W.mg_of X G a_raises_some
  have F_highest := fun_mk (st := s_highest) l_highest c_highest k_highest
  have b_highest := F_highest.binds (ps := ["sides", "value"]) fun _ _ _ _ _ _ us hl => match us, hl with | [_, _], _ => rfl
  have m_highest := PySem.W.mg_of X G a_highest
  have F_mirrors := fun_mk (st := s_mirrors) l_mirrors c_mirrors k_mirrors
  have b_mirrors := F_mirrors.binds (ps := ["sides"]) fun _ _ _ _ _ _ us hl => match us, hl with | [_], _ => rfl
  have m_mirrors := PySem.W.mg_of X G a_mirrors
  have F_first_hit := fun_mk (st := s_first_hit) l_first_hit c_first_hit k_first_hit
  have b_first_hit := F_first_hit.binds (ps := ["start", "step", "most", "modulus"]) fun _ _ _ _ _ _ us hl => match us, hl with | [_, _, _, _], _ => rfl
  have m_first_hit := PySem.W.mg_of X G a_first_hit
  have F_first_between := fun_mk (st := s_first_between) l_first_between c_first_between k_first_between
  have b_first_between := F_first_between.binds (ps := ["step", "least", "greatest", "modulus"]) fun _ _ _ _ _ _ us hl => match us, hl with | [_, _, _, _], _ => rfl
  have m_first_between := PySem.W.mg_of X G a_first_between
  have m_unraised := PySem.W.mg_of X G a_unraised
  have F_first_in_block := fun_mk (st := s_first_in_block) l_first_in_block c_first_in_block k_first_in_block
  have b_first_in_block := F_first_in_block.binds (ps := ["block", "value"]) fun _ _ _ _ _ _ us hl => match us, hl with | [_, _], _ => rfl
  have m_first_in_block := PySem.W.mg_of X G a_first_in_block
  have F_first_in_both := fun_mk (st := s_first_in_both) l_first_in_both c_first_in_both k_first_in_both
  have b_first_in_both := F_first_in_both.binds (ps := ["one", "other", "value"]) fun _ _ _ _ _ _ us hl => match us, hl with | [_, _, _], _ => rfl
  have m_first_in_both := PySem.W.mg_of X G a_first_in_both
  have F_reach := fun_mk (st := s_reach) l_reach c_reach k_reach
  have b_reach := F_reach.binds (ps := ["sides", "value"]) fun _ _ _ _ _ _ us hl => match us, hl with | [_, _], _ => rfl
  have m_reach := PySem.W.mg_of X G a_reach
  have F_check_few := fun_mk (st := s_check_few) l_check_few c_check_few k_check_few
  have b_check_few := F_check_few.binds (ps := ["raising"]) fun _ _ _ _ _ _ us hl => match us, hl with | [_], _ => rfl
  have m_check_few := PySem.W.mg_of X G a_check_few
  have F_first_unraised := fun_mk (st := s_first_unraised) l_first_unraised c_first_unraised k_first_unraised
  have b_first_unraised := F_first_unraised.binds (ps := ["raising", "value"]) fun _ _ _ _ _ _ us hl => match us, hl with | [_, _], _ => rfl
  have m_first_unraised := PySem.W.mg_of X G a_first_unraised
  have F_first_unraised_by_two := fun_mk (st := s_first_unraised_by_two) l_first_unraised_by_two c_first_unraised_by_two k_first_unraised_by_two
  have b_first_unraised_by_two := F_first_unraised_by_two.binds (ps := ["first", "second", "value"]) fun _ _ _ _ _ _ us hl => match us, hl with | [_, _, _], _ => rfl
  have m_first_unraised_by_two := PySem.W.mg_of X G a_first_unraised_by_two
  have F_calm := fun_mk (st := s_calm) l_calm c_calm k_calm
  have b_calm := F_calm.binds (ps := ["sides"]) fun _ _ _ _ _ _ us hl => match us, hl with | [_], _ => rfl
  have m_calm := PySem.W.mg_of X G a_calm
  have F_are_calm := fun_mk (st := s_are_calm) l_are_calm c_are_calm k_are_calm
  have b_are_calm := F_are_calm.binds (ps := ["sides"]) fun _ _ _ _ _ _ us hl => match us, hl with | [_], _ => rfl
  have m_are_calm := PySem.W.mg_of X G a_are_calm
  have F_one_more := fun_mk (st := s_one_more) l_one_more c_one_more k_one_more
  have b_one_more := F_one_more.binds (ps := ["lists", "many"]) fun _ _ _ _ _ _ us hl => match us, hl with | [_, _], _ => rfl
  have m_one_more := PySem.W.mg_of X G a_one_more
  have F_L_source := fun_mk (st := s_L_source) l_L_source c_L_source k_L_source
  have b_L_source := F_L_source.binds (ps := ["_law_script"]) fun _ _ _ _ _ _ us hl => match us, hl with | [_], _ => rfl
  have m_L_source := PySem.W.mg_of X G a_L_source
  have F_L_draw := fun_mk (st := s_L_draw) l_L_draw c_L_draw k_L_draw
  have b_L_draw := F_L_draw.binds (ps := ["_law_source_here", "_law_limit"]) fun _ _ _ _ _ _ us hl => match us, hl with | [_, _], _ => rfl
  have m_L_draw := PySem.W.mg_of X G a_L_draw
  have F_L_pick := fun_mk (st := s_L_pick) l_L_pick c_L_pick k_L_pick
  have b_L_pick := F_L_pick.binds (ps := ["_law_source_here", "_law_values"]) fun _ _ _ _ _ _ us hl => match us, hl with | [_, _], _ => rfl
  have m_L_pick := PySem.W.mg_of X G a_L_pick
  have F_L_divisor := fun_mk (st := s_L_divisor) l_L_divisor c_L_divisor k_L_divisor
  have b_L_divisor := F_L_divisor.binds (ps := ["_law_one", "_law_other"]) fun _ _ _ _ _ _ us hl => match us, hl with | [_, _], _ => rfl
  have m_L_divisor := PySem.W.mg_of X G a_L_divisor
  have F_L_great := fun_mk (st := s_L_great) l_L_great c_L_great k_L_great
  have b_L_great := F_L_great.binds (ps := ["_law_source_here", "_law_digits"]) fun _ _ _ _ _ _ us hl => match us, hl with | [_, _], _ => rfl
  have m_L_great := PySem.W.mg_of X G a_L_great
  have F_L_small_side := fun_mk (st := s_L_small_side) l_L_small_side c_L_small_side k_L_small_side
  have b_L_small_side := F_L_small_side.binds (ps := ["_law_source_here", "_law_most"]) fun _ _ _ _ _ _ us hl => match us, hl with | [_, _], _ => rfl
  have m_L_small_side := PySem.W.mg_of X G a_L_small_side
  have F_L_figure := fun_mk (st := s_L_figure) l_L_figure c_L_figure k_L_figure
  have b_L_figure := F_L_figure.binds (ps := ["_law_side", "_law_value"]) fun _ _ _ _ _ _ us hl => match us, hl with | [_, _], _ => rfl
  have m_L_figure := PySem.W.mg_of X G a_L_figure
  have F_L_handed := fun_mk (st := s_L_handed) l_L_handed c_L_handed k_L_handed
  have b_L_handed := F_L_handed.binds (ps := ["_law_side", "_law_value"]) fun _ _ _ _ _ _ us hl => match us, hl with | [_, _], _ => rfl
  have m_L_handed := PySem.W.mg_of X G a_L_handed
  have F_L_period := fun_mk (st := s_L_period) l_L_period c_L_period k_L_period
  have b_L_period := F_L_period.binds (ps := ["_law_sides"]) fun _ _ _ _ _ _ us hl => match us, hl with | [_], _ => rfl
  have m_L_period := PySem.W.mg_of X G a_L_period
  have F_L_set := fun_mk (st := s_L_set) l_L_set c_L_set k_L_set
  have b_L_set := F_L_set.binds (ps := ["_law_source_here", "_law_most", "_law_many"]) fun _ _ _ _ _ _ us hl => match us, hl with | [_, _, _], _ => rfl
  have m_L_set := PySem.W.mg_of X G a_L_set
  have F_L_written := fun_mk (st := s_L_written) l_L_written c_L_written k_L_written
  have b_L_written := F_L_written.binds (ps := ["_law_sides", "_law_value"]) fun _ _ _ _ _ _ us hl => match us, hl with | [_, _], _ => rfl
  have m_L_written := PySem.W.mg_of X G a_L_written
  have F_L_is_calm := fun_mk (st := s_L_is_calm) l_L_is_calm c_L_is_calm k_L_is_calm
  have b_L_is_calm := F_L_is_calm.binds (ps := ["_law_sides"]) fun _ _ _ _ _ _ us hl => match us, hl with | [_], _ => rfl
  have m_L_is_calm := PySem.W.mg_of X G a_L_is_calm
  have F_L_lists := fun_mk (st := s_L_lists) l_L_lists c_L_lists k_L_lists
  have b_L_lists := F_L_lists.binds (ps := ["_law_many", "_law_length"]) fun _ _ _ _ _ _ us hl => match us, hl with | [_, _], _ => rfl
  have m_L_lists := PySem.W.mg_of X G a_L_lists
  have F_L_due := fun_mk (st := s_L_due) l_L_due c_L_due k_L_due
  have b_L_due := F_L_due.binds (ps := ["_law_sides"]) fun _ _ _ _ _ _ us hl => match us, hl with | [_], _ => rfl
  have m_L_due := PySem.W.mg_of X G a_L_due
  have F_L_is_few := fun_mk (st := s_L_is_few) l_L_is_few c_L_is_few k_L_is_few
  have b_L_is_few := F_L_is_few.binds (ps := ["_law_sides"]) fun _ _ _ _ _ _ us hl => match us, hl with | [_], _ => rfl
  have m_L_is_few := PySem.W.mg_of X G a_L_is_few
  have F_L_fits := fun_mk (st := s_L_fits) l_L_fits c_L_fits k_L_fits
  have b_L_fits := F_L_fits.binds (ps := ["_law_sides", "_law_factor", "_law_due_here"]) fun _ _ _ _ _ _ us hl => match us, hl with | [_, _, _], _ => rfl
  have m_L_fits := PySem.W.mg_of X G a_L_fits
  have F_law := fun_mk (st := s_law) l_law c_law k_law
  have b_law := F_law.binds (ps := ["_law_script"]) fun _ _ _ _ _ _ us hl => match us, hl with | [_], _ => rfl
  have m_law := PySem.W.mg_of X G a_law
  have n_len := PySem.W.mg_none_of X G z_len
  have n_abs := PySem.W.mg_none_of X G z_abs
  have n_int := PySem.W.mg_none_of X G z_int
  have n_range := PySem.W.mg_none_of X G z_range
  have n_isinstance := PySem.W.mg_none_of X G z_isinstance
  have n_bool := PySem.W.mg_none_of X G z_bool
  have n_tuple := PySem.W.mg_none_of X G z_tuple
  have n_divmod := PySem.W.mg_none_of X G z_divmod
  have n_max := PySem.W.mg_none_of X G z_max
  have n_min := PySem.W.mg_none_of X G z_min
  have n_list := PySem.W.mg_none_of X G z_list
  have n_sorted := PySem.W.mg_none_of X G z_sorted
  have n_enumerate := PySem.W.mg_none_of X G z_enumerate
  have BL : Blt mg := ⟨n_len, n_abs, n_int, n_range⟩
  have T : SideT K mg aM := ⟨n_isinstance, n_int, n_bool, n_tuple, n_len, n_divmod, PySem.W.mg_of X G a_MODES, fun _ => .inr ⟨_, _, _, l_MODES, rfl, rfl, v_MODES.1, v_MODES.2⟩⟩
  have RT : MirT K w mg aR := ⟨PySem.W.mg_of X G a_MIR, fun m hm => by
    rcases hm with e | e | e | e | e <;> subst e
    · rw [mir_d]; exact ⟨_, _, _, l_MIR, h_MIR, d_down, r_down⟩
    · rw [mir_u]; exact ⟨_, _, _, l_MIR, h_MIR, d_up, r_up⟩
    · rw [mir_hd]; exact ⟨_, _, _, l_MIR, h_MIR, d_half_down, r_half_down⟩
    · rw [mir_hu]; exact ⟨_, _, _, l_MIR, h_MIR, d_half_up, r_half_up⟩
    · rw [mir_he]; exact ⟨_, _, _, l_MIR, h_MIR, d_half_even, r_half_even⟩⟩
  have MX : MaxT mg := ⟨n_max, n_min⟩
  have AM : AmG mg := ⟨n_isinstance, n_list, n_len, ⟨_, PySem.W.mg_of X G a_MS⟩, ⟨_, PySem.W.mg_of X G a_MP⟩, PySem.W.mg_of X G a_lcm, n_sorted⟩
  have D_unraised : FunD K "unraised" "unraised" (defArgs s_unraised) (defBody s_unraised) (defScope s_unraised) [.int 1] [] f_unraised _ := ⟨⟨_, _, _, _, _, _, _, _, _, _, rfl, l_unraised, c_unraised, .inr ⟨(fun z => nomatch z), aU, _, itsU.toList, nU, rfl, l_U, rfl, v_U⟩, .inl rfl⟩, k_unraised⟩
  have bd_unraised := D_unraised.binds1 (ps := ["side", "least"]) 1 0 (fun z => nomatch z) rfl (fun T kV doc pm an cdv ct us its h1 h2 => match us, its, h1, h2 with | [_], [_], _, _ => ⟨_, rfl, rfl⟩)
  refine ⟨PySem.W.fnOf "law" "law" (defArgs s_law) (defBody s_law) (defScope s_law) .none kV_law dc_law pm_law an_law cd_law ct_law, fun s v => .of_eq rfl, fun base _ _ => ?_⟩
  have C_is_int : Cal l.prog w K mg base "is_int" 1 ["thing"] spIsInt f_is_int _ := ⟨ok_is_int F_is_int T, m_is_int, k_is_int, b_is_int⟩
  have C_is_int_between : Cal l.prog w K mg base "is_int_between" 2 ["thing", "least", "most"] spBetween f_is_int_between _ := ⟨ok_between F_is_int_between C_is_int, m_is_int_between, k_is_int_between, b_is_int_between⟩
  have C_check_value : Cal l.prog w K mg base "check_value" 2 ["value"] spCheckValue f_check_value _ := ⟨ok_check_value F_check_value C_is_int, m_check_value, k_check_value, b_check_value⟩
  have C_check_side : Cal l.prog w K mg base "check_side" 3 ["side"] spCheckSide f_check_side _ := ⟨ok_check_side F_check_side T C_is_int_between, m_check_side, k_check_side, b_check_side⟩
  have C_goes_up : Cal l.prog w K mg base "_goes_up" 1 ["mode", "step", "figure", "rest"] spGo f_goes_up _ := ⟨ok_goes_up F_goes_up, m_goes_up, k_goes_up, b_goes_up⟩
  have C_figure : Cal l.prog w K mg base "_figure" 2 ["side", "value"] spFig f_figure _ := ⟨ok_figure F_figure T C_goes_up, m_figure, k_figure, b_figure⟩
  have C_written : Cal l.prog w K mg base "written" 3 ["side", "value"] spDue f_written _ := ⟨ok_written F_written C_figure, m_written, k_written, b_written⟩
  have C_below : Cal l.prog w K mg base "_below" 1 ["mode", "step", "figure"] spBelow f_below _ := ⟨ok_below F_below, m_below, k_below, b_below⟩
  have C_uspan : Cal l.prog w K mg base "_span" 2 ["side", "figure"] spSpan f_uspan _ := ⟨ok_uspan F_uspan RT C_below, m_uspan, k_uspan, b_uspan⟩
  have C_span : Cal l.prog w K mg base "span" 4 ["side", "figure"] spSpan f_span _ := ⟨ok_span F_span C_check_side C_check_value C_uspan, m_span, k_span, b_span⟩
  have C_mirror : Cal l.prog w K mg base "mirror" 4 ["side"] spMirror f_mirror _ := ⟨ok_mirror F_mirror RT C_check_side, m_mirror, k_mirror, b_mirror⟩
  have C_first_mode : Cal l.prog w K mg base "_first_mode" 1 ["step", "mode"] spFirst f_first_mode _ := ⟨ok_first F_first_mode, m_first_mode, k_first_mode, b_first_mode⟩
  have C_form : Cal l.prog w K mg base "form" 4 ["side"] spForm f_form _ := ⟨ok_form F_form C_check_side C_first_mode, m_form, k_form, b_form⟩
  have C_is_side : Cal l.prog w K mg base "is_side" 4 ["thing"] spIsSide f_is_side _ := ⟨ok_is_side F_is_side (PySem.W.mg_of X G g_0) C_check_side, m_is_side, k_is_side, b_is_side⟩
  have C_check_sides : Cal l.prog w K mg base "check_sides" 5 ["sides"] spSides f_check_sides _ := ⟨ok_sides F_check_sides AM C_is_side, m_check_sides, k_check_sides, b_check_sides⟩
  have C_period_of : Cal l.prog w K mg base "period_of" 1 ["side"] spPerOf f_period_of _ := ⟨ok_per F_period_of, m_period_of, k_period_of, b_period_of⟩
  have C_first_between : ∀ n, n ≤ 200 → Cal l.prog w K mg base "_first_between" (n + 1) ["step", "least", "greatest", "modulus"] (spFB n) f_first_between _ := fun n hn => ⟨ok_fb F_first_between m_first_between k_first_between b_first_between n hn, m_first_between, k_first_between, b_first_between⟩
  have C_first_hit : Cal l.prog w K mg base "first_hit" 104 ["start", "step", "most", "modulus"] spFH f_first_hit _ := ⟨ok_hit F_first_hit (C_first_between 102 (by decide)), m_first_hit, k_first_hit, b_first_hit⟩
  have C_first_in_block : Cal l.prog w K mg base "first_in_block" 1 ["block", "value"] spFIB f_first_in_block _ := ⟨ok_fib F_first_in_block, m_first_in_block, k_first_in_block, b_first_in_block⟩
  have C_first_in_both : Cal l.prog w K mg base "first_in_both" 105 ["one", "other", "value"] spFI2 f_first_in_both _ := ⟨ok_fi2 F_first_in_both C_first_hit C_first_in_block, m_first_in_both, k_first_in_both, b_first_in_both⟩
  have C_unraised : CalD l.prog w K mg base "unraised" 5 ["side", "least"] [.int 1] spUnr f_unraised _ := ⟨ok_unr D_unraised BL MX C_period_of C_span, m_unraised, k_unraised, bd_unraised⟩
  have C_raises_some : Cal l.prog w K mg base "_raises_some" 5 ["side"] spRs f_raises_some _ := ⟨ok_rs F_raises_some C_form, m_raises_some, k_raises_some, b_raises_some⟩
  have C_common_period : Cal l.prog w K mg base "common_period" 2 ["sides"] spPerL f_common_period _ := ⟨ok_commonL F_common_period AM C_period_of, m_common_period, k_common_period, b_common_period⟩
  have C_raisers : Cal l.prog w K mg base "raisers" 6 ["sides"] spRais f_raisers _ := ⟨ok_rais F_raisers C_raises_some, m_raisers, k_raisers, b_raisers⟩
  have C_mirrors : Cal l.prog w K mg base "mirrors" 5 ["sides"] spMirs f_mirrors _ := ⟨ok_mirs F_mirrors C_mirror, m_mirrors, k_mirrors, b_mirrors⟩
  have C_highest : Cal l.prog w K mg base "highest" 4 ["sides", "value"] spHi f_highest _ := ⟨ok_hi F_highest MX C_written, m_highest, k_highest, b_highest⟩
  have C_first_unraised_by_two : Cal l.prog w K mg base "_first_unraised_by_two" 106 ["first", "second", "value"] spTwo f_first_unraised_by_two _ := ⟨ok_two F_first_unraised_by_two MX C_unraised C_first_in_both, m_first_unraised_by_two, k_first_unraised_by_two, b_first_unraised_by_two⟩
  have C_first_unraised : Cal l.prog w K mg base "_first_unraised" 107 ["raising", "value"] spFU f_first_unraised _ := ⟨ok_fu F_first_unraised AM C_first_unraised_by_two C_common_period C_highest, m_first_unraised, k_first_unraised, b_first_unraised⟩
  have C_check_few : Cal l.prog w K mg base "_check_few" 3 ["raising"] spCF f_check_few _ := ⟨ok_cf F_check_few AM C_common_period, m_check_few, k_check_few, b_check_few⟩
  have C_reach : Cal l.prog w K mg base "reach" 108 ["sides", "value"] spReach f_reach _ := ⟨ok_reach F_reach C_check_sides C_check_value C_raisers C_mirrors C_check_few C_first_unraised, m_reach, k_reach, b_reach⟩
  have C_are_calm : Cal l.prog w K mg base "_are_calm" 109 ["sides"] spAC f_are_calm _ := ⟨ok_ac F_are_calm C_reach, m_are_calm, k_are_calm, b_are_calm⟩
  have C_one_more : Cal l.prog w K mg base "_one_more" 1 ["lists", "many"] spOM f_one_more _ := ⟨ok_om F_one_more BL MX, m_one_more, k_one_more, b_one_more⟩
  have C_calm : Cal l.prog w K mg base "calm" 110 ["sides"] spCalm f_calm _ := ⟨ok_calm F_calm AM n_enumerate C_check_sides C_are_calm C_one_more, m_calm, k_calm, b_calm⟩
  have C_L_source : Cal l.prog w K mg base "_law_source" 1 ["_law_script"] (spSource K) f_L_source _ := ⟨ok_source F_L_source BL, m_L_source, k_L_source, b_L_source⟩
  have C_L_draw : Cal l.prog w K mg base "_law_draw" 1 ["_law_source_here", "_law_limit"] spDraw f_L_draw _ := ⟨ok_draw F_L_draw BL, m_L_draw, k_L_draw, b_L_draw⟩
  have C_L_pick : Cal l.prog w K mg base "_law_pick" 2 ["_law_source_here", "_law_values"] spPick f_L_pick _ := ⟨ok_pick F_L_pick BL C_L_draw, m_L_pick, k_L_pick, b_L_pick⟩
  have C_L_divisor : Cal l.prog w K mg base "_law_divisor" 1 ["_law_one", "_law_other"] spDiv f_L_divisor _ := ⟨ok_div F_L_divisor BL, m_L_divisor, k_L_divisor, b_L_divisor⟩
  have C_L_great : Cal l.prog w K mg base "_law_great" 2 ["_law_source_here", "_law_digits"] spGreat f_L_great _ := ⟨ok_great F_L_great BL C_L_draw, m_L_great, k_L_great, b_L_great⟩
  have C_L_small_side : Cal l.prog w K mg base "_law_small_side" 3 ["_law_source_here", "_law_most"] spSmall f_L_small_side _ := ⟨ok_small F_L_small_side C_L_draw C_L_pick, m_L_small_side, k_L_small_side, b_L_small_side⟩
  have C_L_figure : Cal l.prog w K mg base "_law_figure" 1 ["_law_side", "_law_value"] spFig f_L_figure _ := ⟨ok_L_figure F_L_figure BL, m_L_figure, k_L_figure, b_L_figure⟩
  have C_L_handed : Cal l.prog w K mg base "_law_handed" 2 ["_law_side", "_law_value"] spDue f_L_handed _ := ⟨ok_L_handed F_L_handed C_L_figure, m_L_handed, k_L_handed, b_L_handed⟩
  have C_L_period : Cal l.prog w K mg base "_law_period" 2 ["_law_sides"] spPer f_L_period _ := ⟨ok_period F_L_period BL C_L_divisor, m_L_period, k_L_period, b_L_period⟩
  have C_L_set : Cal l.prog w K mg base "_law_set" 4 ["_law_source_here", "_law_most", "_law_many"] spSet f_L_set _ := ⟨ok_set F_L_set BL C_L_draw C_L_small_side, m_L_set, k_L_set, b_L_set⟩
  have C_L_written : Cal l.prog w K mg base "_law_written" 3 ["_law_sides", "_law_value"] spWrL f_L_written _ := ⟨ok_wrl F_L_written C_L_handed, m_L_written, k_L_written, b_L_written⟩
  have C_L_is_calm : Cal l.prog w K mg base "_law_is_calm" 4 ["_law_sides"] spIC f_L_is_calm _ := ⟨ok_ic F_L_is_calm n_range MX C_L_period C_L_written, m_L_is_calm, k_L_is_calm, b_L_is_calm⟩
  have C_L_lists : Cal l.prog w K mg base "_law_lists" 1 ["_law_many", "_law_length"] spLists f_L_lists _ := ⟨ok_lists F_L_lists BL, m_L_lists, k_L_lists, b_L_lists⟩
  have C_L_due : Cal l.prog w K mg base "_law_due" 5 ["_law_sides"] spDueL f_L_due _ := ⟨ok_dueL F_L_due BL C_L_lists C_L_is_calm, m_L_due, k_L_due, b_L_due⟩
  have C_L_is_few : Cal l.prog w K mg base "_law_is_few" 1 ["_law_sides"] spFew f_L_is_few _ := ⟨ok_few F_L_is_few BL, m_L_is_few, k_L_is_few, b_L_is_few⟩
  have C_L_fits : Cal l.prog w K mg base "_law_fits" 111 ["_law_sides", "_law_factor", "_law_due_here"] spFitsC f_L_fits _ := ⟨ok_fits F_L_fits BL C_calm C_reach, m_L_fits, k_L_fits, b_L_fits⟩
  exact ok_law F_law BL MX C_L_source C_L_draw C_L_pick C_L_great C_L_set C_L_due C_L_fits C_L_is_few C_calm
theorem walk {l : PySem.W.OpenLaw} {q : Program} {loose : List Str} {XP : (Str → Option Value) → Heap → Prop} {YP : World → Heap → Prop} {d : DefRec} {K : Params → PySem.W.Frag} (hn : l.most = some 63) (hdf : d.params.defaults = [])
    (hY : ∀ (w : World) (h : Heap), YP w h → (K w.params).In h)
    (F : ∀ (w : World) (mg : Str → Option Value) (fa : Addr) (h : Heap), (K w.params).In h → h.Ns mainGlobals mg → mg d.name = some (.ref fa) →
      ∃ fd : FuncData, (∀ (s : Shared) (u : Value), BindsTo s fd ⟨[u], []⟩ [("_law_script", u)]) ∧ ∀ base : Heap, (K w.params).In base → base.Ns mainGlobals mg → FnOk l.prog w (K w.params) mg base CX0 112 fa fd ["_law_script"] (spLaw (K w.params))) :
    PySem.W.WalkO q loose XP YP l.row.toRowW d [] (fun f vs => PySem.call f vs) :=
  L2.walk_of (n := 63) (k := 112) (x := "_law_script") (CX := fun _ => CX0) (sp := fun w => spLaw (K w.params)) hn (by decide) hdf ⟨rfl, by decide, by decide⟩ hY F (fun _ _ a ns hl _ hS => ⟨a, ns, rfl, hS, hl, fun _ => rfl⟩) fun _ _ _ _ _ z => z
end HT
open PySem PySem.W PyProof.Rows
set_option maxRecDepth 100000 in
set_option maxHeartbeats 0 in
theorem PySem.Challenge.cw_handedtext_k57_whole_calm_sides_holds : PySem.Challenge.rw_handedtext_k57_whole_calm_sides.Holds := by
  w_on; o_law; k_head; (case hw => w_witness2)
  k_fill
  refine HT.walk (l := PySem.Challenge.rw_handedtext_k57_whole_calm_sides) rfl rfl (fun w h Y => PySem.W.kIn_of Y) ?F
  case F =>
    intro w mg fa h KX G hmg
    refine' HT.all_mk KX G hmg ?a_is_int ?l_is_int ?c_is_int ?k_is_int ?a_is_int_between ?l_is_int_between ?c_is_int_between ?k_is_int_between ?a_check_value ?l_check_value ?c_check_value ?k_check_value ?a_check_side ?l_check_side ?c_check_side ?k_check_side ?a_is_side ?l_is_side ?c_is_side ?k_is_side ?a_figure ?l_figure ?c_figure ?k_figure ?a_goes_up ?l_goes_up ?c_goes_up ?k_goes_up ?a_written ?l_written ?c_written ?k_written ?a_span ?l_span ?c_span ?k_span ?a_uspan ?l_uspan ?c_uspan ?k_uspan ?a_below ?l_below ?c_below ?k_below ?a_mirror ?l_mirror ?c_mirror ?k_mirror ?a_form ?l_form ?c_form ?k_form ?a_first_mode ?l_first_mode ?c_first_mode ?k_first_mode ?a_check_sides ?l_check_sides ?c_check_sides ?k_check_sides ?a_period_of ?l_period_of ?c_period_of ?k_period_of ?a_common_period ?l_common_period ?c_common_period ?k_common_period ?a_raisers ?l_raisers ?c_raisers ?k_raisers ?a_raises_some ?l_raises_some ?c_raises_some ?k_raises_some ?a_highest ?l_highest ?c_highest ?k_highest ?a_mirrors ?l_mirrors ?c_mirrors ?k_mirrors ?a_first_hit ?l_first_hit ?c_first_hit ?k_first_hit ?a_first_between ?l_first_between ?c_first_between ?k_first_between ?a_unraised ?l_unraised ?c_unraised ?k_unraised ?a_first_in_block ?l_first_in_block ?c_first_in_block ?k_first_in_block ?a_first_in_both ?l_first_in_both ?c_first_in_both ?k_first_in_both ?a_reach ?l_reach ?c_reach ?k_reach ?a_check_few ?l_check_few ?c_check_few ?k_check_few ?a_first_unraised ?l_first_unraised ?c_first_unraised ?k_first_unraised ?a_first_unraised_by_two ?l_first_unraised_by_two ?c_first_unraised_by_two ?k_first_unraised_by_two ?a_calm ?l_calm ?c_calm ?k_calm ?a_are_calm ?l_are_calm ?c_are_calm ?k_are_calm ?a_one_more ?l_one_more ?c_one_more ?k_one_more ?a_L_source ?l_L_source ?c_L_source ?k_L_source ?a_L_draw ?l_L_draw ?c_L_draw ?k_L_draw ?a_L_pick ?l_L_pick ?c_L_pick ?k_L_pick ?a_L_divisor ?l_L_divisor ?c_L_divisor ?k_L_divisor ?a_L_great ?l_L_great ?c_L_great ?k_L_great ?a_L_small_side ?l_L_small_side ?c_L_small_side ?k_L_small_side ?a_L_figure ?l_L_figure ?c_L_figure ?k_L_figure ?a_L_handed ?l_L_handed ?c_L_handed ?k_L_handed ?a_L_period ?l_L_period ?c_L_period ?k_L_period ?a_L_set ?l_L_set ?c_L_set ?k_L_set ?a_L_written ?l_L_written ?c_L_written ?k_L_written ?a_L_is_calm ?l_L_is_calm ?c_L_is_calm ?k_L_is_calm ?a_L_lists ?l_L_lists ?c_L_lists ?k_L_lists ?a_L_due ?l_L_due ?c_L_due ?k_L_due ?a_L_is_few ?l_L_is_few ?c_L_is_few ?k_L_is_few ?a_L_fits ?l_L_fits ?c_L_fits ?k_L_fits ?a_law ?l_law ?c_law ?k_law ?z_len ?z_abs ?z_int ?z_range ?z_isinstance ?z_bool ?z_tuple ?z_divmod ?z_max ?z_min ?z_list ?z_sorted ?z_enumerate ?g_0 ?a_MS ?a_MP ?a_lcm ?l_U ?v_U ?a_MODES ?l_MODES ?v_MODES ?a_MIR ?l_MIR ?h_MIR ?d_down ?r_down ?d_up ?r_up ?d_half_down ?r_half_down ?d_half_up ?r_half_up ?d_half_even ?r_half_even
    (case a_is_int => k_is)
    (case l_is_int => k_is)
    (case c_is_int => k_is)
    (case k_is_int => k_is)
    (case a_is_int_between => k_is)
    (case l_is_int_between => k_is)
    (case c_is_int_between => k_is)
    (case k_is_int_between => k_is)
    (case a_check_value => k_is)
    (case l_check_value => k_is)
    (case c_check_value => k_is)
    (case k_check_value => k_is)
    (case a_check_side => k_is)
    (case l_check_side => k_is)
    (case c_check_side => k_is)
    (case k_check_side => k_is)
    (case a_is_side => k_is)
    (case l_is_side => k_is)
    (case c_is_side => k_is)
    (case k_is_side => k_is)
    (case a_figure => k_is)
    (case l_figure => k_is)
    (case c_figure => k_is)
    (case k_figure => k_is)
    (case a_goes_up => k_is)
    (case l_goes_up => k_is)
    (case c_goes_up => k_is)
    (case k_goes_up => k_is)
    (case a_written => k_is)
    (case l_written => k_is)
    (case c_written => k_is)
    (case k_written => k_is)
    (case a_span => k_is)
    (case l_span => k_is)
    (case c_span => k_is)
    (case k_span => k_is)
    (case a_uspan => k_is)
    (case l_uspan => k_is)
    (case c_uspan => k_is)
    (case k_uspan => k_is)
    (case a_below => k_is)
    (case l_below => k_is)
    (case c_below => k_is)
    (case k_below => k_is)
    (case a_mirror => k_is)
    (case l_mirror => k_is)
    (case c_mirror => k_is)
    (case k_mirror => k_is)
    (case a_form => k_is)
    (case l_form => k_is)
    (case c_form => k_is)
    (case k_form => k_is)
    (case a_first_mode => k_is)
    (case l_first_mode => k_is)
    (case c_first_mode => k_is)
    (case k_first_mode => k_is)
    (case a_check_sides => k_is)
    (case l_check_sides => k_is)
    (case c_check_sides => k_is)
    (case k_check_sides => k_is)
    (case a_period_of => k_is)
    (case l_period_of => k_is)
    (case c_period_of => k_is)
    (case k_period_of => k_is)
    (case a_common_period => k_is)
    (case l_common_period => k_is)
    (case c_common_period => k_is)
    (case k_common_period => k_is)
    (case a_raisers => k_is)
    (case l_raisers => k_is)
    (case c_raisers => k_is)
    (case k_raisers => k_is)
    (case a_raises_some => k_is)
    (case l_raises_some => k_is)
    (case c_raises_some => k_is)
    (case k_raises_some => k_is)
    (case a_highest => k_is)
    (case l_highest => k_is)
    (case c_highest => k_is)
    (case k_highest => k_is)
    (case a_mirrors => k_is)
    (case l_mirrors => k_is)
    (case c_mirrors => k_is)
    (case k_mirrors => k_is)
    (case a_first_hit => k_is)
    (case l_first_hit => k_is)
    (case c_first_hit => k_is)
    (case k_first_hit => k_is)
    (case a_first_between => k_is)
    (case l_first_between => k_is)
    (case c_first_between => k_is)
    (case k_first_between => k_is)
    (case a_unraised => k_is)
    (case l_unraised => k_is)
    (case c_unraised => k_is)
    (case k_unraised => k_is)
    (case a_first_in_block => k_is)
    (case l_first_in_block => k_is)
    (case c_first_in_block => k_is)
    (case k_first_in_block => k_is)
    (case a_first_in_both => k_is)
    (case l_first_in_both => k_is)
    (case c_first_in_both => k_is)
    (case k_first_in_both => k_is)
    (case a_reach => k_is)
    (case l_reach => k_is)
    (case c_reach => k_is)
    (case k_reach => k_is)
    (case a_check_few => k_is)
    (case l_check_few => k_is)
    (case c_check_few => k_is)
    (case k_check_few => k_is)
    (case a_first_unraised => k_is)
    (case l_first_unraised => k_is)
    (case c_first_unraised => k_is)
    (case k_first_unraised => k_is)
    (case a_first_unraised_by_two => k_is)
    (case l_first_unraised_by_two => k_is)
    (case c_first_unraised_by_two => k_is)
    (case k_first_unraised_by_two => k_is)
    (case a_calm => k_is)
    (case l_calm => k_is)
    (case c_calm => k_is)
    (case k_calm => k_is)
    (case a_are_calm => k_is)
    (case l_are_calm => k_is)
    (case c_are_calm => k_is)
    (case k_are_calm => k_is)
    (case a_one_more => k_is)
    (case l_one_more => k_is)
    (case c_one_more => k_is)
    (case k_one_more => k_is)
    (case a_L_source => k_is)
    (case l_L_source => k_is)
    (case c_L_source => k_is)
    (case k_L_source => k_is)
    (case a_L_draw => k_is)
    (case l_L_draw => k_is)
    (case c_L_draw => k_is)
    (case k_L_draw => k_is)
    (case a_L_pick => k_is)
    (case l_L_pick => k_is)
    (case c_L_pick => k_is)
    (case k_L_pick => k_is)
    (case a_L_divisor => k_is)
    (case l_L_divisor => k_is)
    (case c_L_divisor => k_is)
    (case k_L_divisor => k_is)
    (case a_L_great => k_is)
    (case l_L_great => k_is)
    (case c_L_great => k_is)
    (case k_L_great => k_is)
    (case a_L_small_side => k_is)
    (case l_L_small_side => k_is)
    (case c_L_small_side => k_is)
    (case k_L_small_side => k_is)
    (case a_L_figure => k_is)
    (case l_L_figure => k_is)
    (case c_L_figure => k_is)
    (case k_L_figure => k_is)
    (case a_L_handed => k_is)
    (case l_L_handed => k_is)
    (case c_L_handed => k_is)
    (case k_L_handed => k_is)
    (case a_L_period => k_is)
    (case l_L_period => k_is)
    (case c_L_period => k_is)
    (case k_L_period => k_is)
    (case a_L_set => k_is)
    (case l_L_set => k_is)
    (case c_L_set => k_is)
    (case k_L_set => k_is)
    (case a_L_written => k_is)
    (case l_L_written => k_is)
    (case c_L_written => k_is)
    (case k_L_written => k_is)
    (case a_L_is_calm => k_is)
    (case l_L_is_calm => k_is)
    (case c_L_is_calm => k_is)
    (case k_L_is_calm => k_is)
    (case a_L_lists => k_is)
    (case l_L_lists => k_is)
    (case c_L_lists => k_is)
    (case k_L_lists => k_is)
    (case a_L_due => k_is)
    (case l_L_due => k_is)
    (case c_L_due => k_is)
    (case k_L_due => k_is)
    (case a_L_is_few => k_is)
    (case l_L_is_few => k_is)
    (case c_L_is_few => k_is)
    (case k_L_is_few => k_is)
    (case a_L_fits => k_is)
    (case l_L_fits => k_is)
    (case c_L_fits => k_is)
    (case k_L_fits => k_is)
    (case a_law => k_is)
    (case l_law => k_is)
    (case c_law => k_is)
    (case k_law => k_is)
    (case z_len => k_is)
    (case z_abs => k_is)
    (case z_int => k_is)
    (case z_range => k_is)
    (case z_isinstance => k_is)
    (case z_bool => k_is)
    (case z_tuple => k_is)
    (case z_divmod => k_is)
    (case z_max => k_is)
    (case z_min => k_is)
    (case z_list => k_is)
    (case z_sorted => k_is)
    (case z_enumerate => k_is)
    (case g_0 => k_is)
    (case a_MS => k_is)
    (case a_MP => k_is)
    (case a_lcm => k_is)
    (case l_U => k_is)
    (case v_U => exact .cons ⟨_, rfl⟩ .nil)
    (case a_MODES => k_is)
    (case l_MODES => k_is)
    (case v_MODES => exact ⟨by decide, .cons ⟨_, rfl⟩ (.cons ⟨_, rfl⟩ (.cons ⟨_, rfl⟩ (.cons ⟨_, rfl⟩ (.cons ⟨_, rfl⟩ .nil))))⟩)
    (case a_MIR => k_is)
    (case l_MIR => k_is)
    (case h_MIR => k_keys)
    (case d_down => k_is)
    (case r_down => exact ⟨_, rfl⟩)
    (case d_up => k_is)
    (case r_up => exact ⟨_, rfl⟩)
    (case d_half_down => k_is)
    (case r_half_down => exact ⟨_, rfl⟩)
    (case d_half_up => k_is)
    (case r_half_up => exact ⟨_, rfl⟩)
    (case d_half_even => k_is)
    (case r_half_even => exact ⟨_, rfl⟩)
#print axioms PySem.Challenge.cw_handedtext_k57_whole_calm_sides_holds
