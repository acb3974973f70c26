import PyProof.Rows.All
import Wide.All
import OpenK.AllK
import Wide.FinOn
import HandS.CallSlots
import HandS.Deep
import HandS.Defaults
import HandS.Exc
import HandS.ExcField
import HandS.ExcInit
import HandS.ExcIs
import HandS.ExcValue
import HandS.ForMost
import HandS.HotCalls
import HandS.IsInst
import HandS.MakeKwOnly
import HandS.More
import HandS.NoneIn
import HandS.RaiseFrom
import HandS.ReplaceLit
import HandS.StrMore
import HandS.Style
import HandS.SuiteRaise
import HandS.TryOnly
import HandS.Wide
import HandS.WideBits
import HandS.WordsExc
import KE.KEqDeep
import KE.KEqSeq
import KE.KExcIs
import HandS.Gcd
import HandS.TupAny
import PySem.Challenge.RW_handedtext_k04_sides
set_option Elab.async false
set_option linter.all false
set_option maxRecDepth 100000
set_option maxHeartbeats 4000000
set_option exponentiation.threshold 9000
open PySem L2
local macro_rules | `(tactic| walk_at "rd") => `(tactic| repeat (first | refine ⟨_, rfl, ?_⟩ | refine ⟨_, _, rfl, rfl, ?_⟩ | refine .inl ⟨_, rfl, ?_⟩))
namespace L2
open PySem PySem.Spec PyProof.Rows
/-- an error that was caught and kept, at a -/
def ExK (cls : Value) (a : Addr) : HO := .ext fun hp => ∃ (rec' : Obj) (cells : Array Value), hp.get? a = some rec' ∧ Zc cls none rec' ∧ rec'.data = .fields cells
/-- wKeep: what 'except x as n' wishes, where the error stays tracked behind the suite -/
def wKeep (K : PySem.W.Frag) (c : Value) (i : Nat) (ts : Addr → Value → Option Addr → TS) (Wout : WX) (D : Ends) : WX := fun kl dd st H =>
  ∃ yes, PySem.W.exmOne K kl c = some yes ∧ (yes = true → dd = none ∧ ∀ a, H a = none → ts a kl dd { nx := fun st' H' => D.nx (st'.set i none) (upd H' a (ExK kl a)), rt := D.rt, bk := fun st' H' => D.bk (st'.set i none) H', ct := fun st' H' => D.ct (st'.set i none) H' } (st.set i (some (.ref a))) H) ∧
    (yes = false → Wout kl dd st H)
section
variable {X : Cx} {pins : List (Addr × Obj)} {st : St} {H : Hp} {sh : Shared}
theorem Inv.adopt {a : Addr} {kl : Value} {rc : Obj} {cells : Array Value} (iv : Inv X pins st H sh) (new0 : X.s_0.heap.get? a = none) (free : H a = none) (at0 : sh.heap.get? a = some rc) (zc : Zc kl none rc) (fl : rc.data = .fields cells) (nl : a ≠ X.env.locals)
    (np : ∀ p ∈ X.pn ++ pins, p.1 ≠ a) : Inv X pins st (upd H a (ExK kl a)) sh := by
  have old : ∀ c rr, X.s_0.heap.get? c = some rr → c ≠ a := fun c rr e z => by
    rw [z, new0] at e
    cases e
  have other : ∀ c u, H c = some u → upd H a (ExK kl a) c = some u := fun c u e => (upd_ne (ne_of_none e free)).trans e
  refine ⟨iv.ok, iv.os, iv.bare, ⟨iv.base.keep, iv.base.slot, fun c rr e n0 nx => ?_, iv.base.there, fun c xs e => other _ _ (iv.base.tups c xs e), fun c rr u e => other _ _ (iv.base.frzs c rr u e), fun c ps e => ?_⟩, iv.loc, iv.cell, ?_, fun y c e => ?_, fun p hp => ?_, fun c u e => ?_, iv.len⟩
  · exact (upd_ne (old c rr e)).trans (iv.base.free c rr e n0 nx)
  · obtain ⟨more, e2⟩ := iv.base.tbls c ps e
    exact ⟨more, other _ _ e2⟩
  · exact (upd_ne nl.symm).trans iv.free
  · obtain ⟨w, rr, e2, e3⟩ := iv.cell y c e
    refine (upd_ne fun z => ?_).trans (iv.freeC y c e)
    subst z
    rw [at0] at e2
    cases e2
    simp [fl] at e3
  · obtain ⟨e1, e2, e3, e4, e5⟩ := iv.pin p hp
    exact ⟨e1, (upd_ne (np p hp)).trans e2, e3, e4, e5⟩
  · by_cases ca : c = a
    · subst ca
      rw [upd_same] at e
      cases e
      exact ⟨⟨rc, cells, at0, zc, fl⟩, ⟨rc, at0⟩, fun _ _ ⟨r2, c2, e2, e3⟩ same => ⟨r2, c2, same _ e2, e3⟩⟩
    · rw [upd_ne ca] at e
      exact (iv.hok c u e).stay (fun _ _ _ e2 => e2) (fun c2 e2 => other _ _ e2) fun c2 xs e2 => other _ _ e2
end
end L2
namespace L2
open PySem PySem.Spec PyProof.Rows
section
variable {X : Cx} {x n : Str} {c : Value} {i : Nat} {body suite : List Stmt} {first : Stmt} {np pos pos' : Pos} {tb : WX → TS} {ts : Addr → Value → Option Addr → TS} {Wout : WX}
/-- try: .. except x as n: suite; the caught error stays tracked behind it -/
theorem ps_try_keep (stk : X.stack = X.env :: X.outer) (frm : X.env.frame = some X.env.locals) (noex : X.ex = []) (dist : X.N.Nodup) (slot : X.N[i]? = some n) (loc : X.env.kindOf n = some .local) (nam : Names X x c) (tk : Takes X Wout)
    (inner : ∀ (W : WX) (pn : List (Addr × Obj)) (xe : Value → Shared → Prop), Takes (X.tr pn xe) W → PassesOwn (model X.prog X.w) X.A X.env xe → PSs (X.tr pn xe) body (tb W))
    (caught : ∀ (a : Addr) (rc : Obj) (kl : Value) (dd : Option Addr) (pn : List (Addr × Obj)), Zc kl dd rc → (∃ cells, rc.data = .fields cells) → PSs (X.suite a ((a, rc) :: pn)) (first :: suite) (ts a kl dd)) :
    PS X (.Try body [.ExceptHandler (some (.Name x np)) (some n) (first :: suite) pos'] [] [] pos) (fun D st H => tb (wKeep X.K c i ts Wout D) D st H) where
  run := fun pins sh st H D iv want => by
    have fine := iv.ok
    have frames : X.A.frames = some (X.env :: X.outer) := by rw [fine.frames, stk]
    refine wpAny_Try_except (wpAny_mono ((inner (wKeep X.K c i ts Wout D) (X.pn ++ pins) _ (fun u sh' air => ?_) PassesOwn.looking).run [] sh st H D (iv.toTry _) want) ?_ fun _ _ e => e)
    · obtain ⟨a, B, shI, pins', st1, H1, kl, dd, rfl, ivT, inB, upTo, sky, freeA, sameOs, bareG, yes, dec, onYes, onNo⟩ := air
      have iv1 : Inv X pins st1 H1 shI := ivT.ofTry fine
      rw [stk] at sky
      refine Sky.land Zc.steady frames frm sky fun hp3 fly3 up3 => ?_
      have bNone : B.get? a = none := fly3.2.1
      have iv3 : Inv X pins st1 H1 { sh' with heap := hp3 } := iv1.landed inB fly3.1 (upTo.trans up3) sameOs bareG
      obtain ⟨rc3, cells3, at3, zc3, dt3⟩ := fly3.there
      have offFrames : a ∉ frs (X.env :: X.outer) := fun mem => by
        obtain ⟨_, r2, e2, bad⟩ := fly3.2.2.1.mem mem
        rw [at3] at e2
        cases e2
        exact bad _ dt3
      have offL : a ≠ X.env.locals := fun z => offFrames (List.mem_filterMap.mpr ⟨X.env, List.mem_cons_self, by rw [frm, z]⟩)
      have offF : a ∉ X.fs := fun mem => by
        obtain ⟨ee, inn, ef⟩ := List.mem_filterMap.mp mem
        exact offFrames (List.mem_filterMap.mpr ⟨ee, List.mem_cons_of_mem _ inn, ef⟩)
      have notThere : shI.heap.get? a = none := by
        cases e : shI.heap.get? a with
        | none => rfl
        | some rr =>
          have z := inB a rr e (by rw [stk]; exact offFrames)
          rw [bNone] at z
          cases z
      have new0 : X.s_0.heap.get? a = none := by
        cases e : X.s_0.heap.get? a with
        | none => rfl
        | some rr =>
          obtain ⟨r2, e2⟩ := iv1.base.there a rr e (by rw [noex]; exact List.not_mem_nil)
          rw [notThere] at e2
          cases e2
      have pinsOff : ∀ p ∈ X.pn ++ pins, p.1 ≠ a := fun p hp z => by
        have e2 := (iv1.pin p hp).1
        rw [z, notThere] at e2
        cases e2
      have inSuite := iv3.suite at3 dt3 freeA offL offF
      refine wpAny_handleBy_cons (codeAny_handlers_test ?_) (by intro q; cases q)
      have theClass : PySem.W.Looks (model X.prog X.w) hp3 (typeOf (.ref a)) kl := fun A' Q' E' s' kk qq => wpAny_typeOf_ref (kk _ _ at3) (by rw [zc3.1]; exact qq)
      have theTest := PySem.W.exm_one (M := model X.prog X.w) iv3.kIn theClass dec
      have clause : ∀ {Q' : Value → Shared → Prop} {E' : Value → Shared → Prop}, Q' c { sh' with heap := hp3 } → wpAny (model X.prog X.w) (X.A.mark (some (.ref a))) (eval (.Name x np) X.env) Q' E' { sh' with heap := hp3 } := fun {Q' E'} qq => by
        obtain ⟨g1, g2, g3 | ⟨g3, g4, g5⟩⟩ := nam
        · exact ld_glob (X := X.suite a ((a, rc3) :: (X.pn ++ pins))) inSuite g1 g3 qq g2
        · exact ld_blt (X := X.suite a ((a, rc3) :: (X.pn ++ pins))) inSuite g1 g3 g4 qq g5 g2
      refine clause (theTest.here ?_)
      cases yes with
      | true =>
        obtain ⟨rfl, go⟩ := onYes rfl
        refine codeAny_handlers_suite_as (HandSPX.lands_againZ fly3 fun hp4 fly4 up4 => ?_)
        have iv4 : Inv X pins st1 H1 { sh' with heap := hp4 } := iv1.landed inB fly4.1 ((upTo.trans up3).trans up4) sameOs bareG
        obtain ⟨rc4, cells4, at4, zc4, dt4⟩ := fly4.there
        refine store_ok (X := X.suite a ((a, rc4) :: (X.pn ++ pins))) (v := .ref a) (iv4.suite at4 dt4 freeA offL offF) dist slot (.inl loc) rfl (fun sh5 iv5 => ?_) (.inr loc)
        refine wpAny_mono ((caught a rc4 kl none (X.pn ++ pins) zc4 ⟨_, dt4⟩).run [] sh5 _ H1 _ iv5 (go a freeA)) (fun flow sh6 came => ?_) fun _ _ z => z.elim
        cases flow with
        | next =>
          obtain ⟨st6, H6, iv6, q6⟩ := came
          have more : Inv X ((a, rc4) :: pins) st6 H6 sh6 := ⟨fine, iv6.os, iv6.bare, iv6.base, iv6.loc, iv6.cell, iv6.free, iv6.freeC, fun p hp => iv6.pin p (List.mem_append_left _ ?_), iv6.hok, iv6.len⟩
          refine gone_ok more dist slot loc fun sh7 iv7 => ?_
          have there : (a, rc4) ∈ X.pn ++ (a, rc4) :: pins := List.mem_append_right _ List.mem_cons_self
          obtain ⟨e1, e2, e3, _⟩ := iv7.pin (a, rc4) there
          have less : Inv X pins (st6.set i none) H6 sh7 := ⟨fine, iv7.os, iv7.bare, iv7.base, iv7.loc, iv7.cell, iv7.free, iv7.freeC, fun p hp => iv7.pin p ?_, iv7.hok, iv7.len⟩
          · exact ⟨_, _, less.adopt new0 e2 e1 zc4 dt4 e3 pinsOff, q6⟩
          · rcases List.mem_append.mp hp with hq | hq
            · exact List.mem_append_left _ hq
            · exact List.mem_append_right _ (List.mem_cons_of_mem _ hq)
          · rcases List.mem_append.mp hp with hq | hq
            · exact List.mem_cons_of_mem _ (List.mem_append_left _ hq)
            · rcases List.mem_cons.mp hq with hr | hr
              · rw [hr]; exact List.mem_cons_self
              · exact List.mem_cons_of_mem _ (List.mem_append_right _ hr)
        | brk =>
          obtain ⟨st6, H6, iv6, q6⟩ := came
          exact gone_ok (iv6.unsuite fine) dist slot loc fun sh7 iv7 => ⟨_, _, iv7, q6⟩
        | cont =>
          obtain ⟨st6, H6, iv6, q6⟩ := came
          exact gone_ok (iv6.unsuite fine) dist slot loc fun sh7 iv7 => ⟨_, _, iv7, q6⟩
        | ret u =>
          obtain ⟨v6, st6, H6, iv6, r6, q6⟩ := came
          exact gone_ok (iv6.unsuite fine) dist slot loc fun sh7 iv7 => ⟨_, _, _, iv7, r6, q6⟩
      | false =>
        show wpAny _ X.A (handleBy (.ref a) X.env []) _ _ _
        refine wpAny_handleBy_nil ?_
        obtain ⟨_, _, _, rc5, cells5, tr5, _, _, at5, _, dt5, at1, _⟩ := id fly3
        unfold PySem.passOn
        refine wpAny_bind (wpAny_field at5 dt5 at1 ?_)
        rw [if_neg (by simp : ¬ (Value.ref tr5 == Value.none) = true)]
        have out : wpAny (model X.prog X.w) X.A (setFlight (.ref a) X.env.frame) (fun _ sh8 => wpAny (model X.prog X.w) X.A (throw (.ref a) : Sem Flow) (SP X pins D) X.xe sh8) X.xe { sh' with heap := hp3 } := by
          rw [frm]
          refine HandSPX.setFlight_upZ fly3 fun hp8 held up8 => wpAny_throw (tk _ _ ?_)
          exact ⟨a, B, shI, pins, st1, H1, kl, dd, rfl, iv1, inB, (upTo.trans up3).trans up8, .inr (.inr (by rw [stk]; exact held)), freeA, sameOs, bareG, onNo rfl⟩
        first
          | exact wpAny_bind out
          | exact wpAny_bind (wpAny_pure (wpAny_bind out))
    · intro flow sh1 came
      cases flow with
      | next =>
        obtain ⟨st1, H1, iv1, q1⟩ := came
        exact wpAny_execs_nil ⟨st1, H1, iv1.ofTry fine, q1⟩
      | brk =>
        obtain ⟨st1, H1, iv1, q1⟩ := came
        exact ⟨st1, H1, iv1.ofTry fine, q1⟩
      | cont =>
        obtain ⟨st1, H1, iv1, q1⟩ := came
        exact ⟨st1, H1, iv1.ofTry fine, q1⟩
      | ret u =>
        obtain ⟨v1, st1, H1, iv1, r1, q1⟩ := came
        exact ⟨v1, st1, H1, iv1.ofTry fine, r1, q1⟩
end
end L2
namespace L2
open PySem PySem.Spec PyProof.Rows
/-- what the written part says of an error class, for isinstance -/
structure ErrC (K : PySem.W.Frag) (C : Addr) : Prop where
  cl : (PySem.W.clsIn K C).isSome = true
  ga : PySem.W.findIn K (.ref C) "__getattribute__" = some (some (.builtin "BaseException.__getattribute__"))
  gg : PySem.W.findIn K (.ref C) "__getattr__" = some none
  sb : PySem.W.subIn K (.ref C) (.type "BaseException") = some true
  cn : PySem.W.findIn K (.ref C) "__class__" = some (some (.builtin "object.__class__"))
  mo : PySem.W.mroIn K C (.type "object") = some true
/-- .. of the attribute __class__ of all objects -/
structure ErrG (K : PySem.W.Frag) : Prop where
  sp : PySem.W.specialIn K (.builtin "object.__class__") "__get__" = some (some (.builtin "getset_descriptor.__get__"))
  tk : PySem.W.takesIn K (.builtin "object.__class__") = some true
def rIsKept (K : PySem.W.Frag) : List V → Hp → VK → Prop := fun xs H Q => ∃ (a C : Addr) (c : V) (cv : Value) (b : Bool), xs = [.ref a, c] ∧ ClsV c cv ∧ H a = some (ExK (.ref C) a) ∧ ErrC K C ∧ ErrG K ∧ PySem.W.kitOne K (.ref C) cv = some b ∧ Q (.bl b) H
theorem call_isKept {X : Cx} : CallR X (.builtin "isinstance") (rIsKept X.K) := by
  intro pins sh st H xs us Q iv r h
  obtain ⟨a, C, c, cv, b, rfl, k, at', T, G, e, q⟩ := h
  obtain ⟨u1, u2, rfl, r1, r2⟩ := vals2 r
  have e2 := k.eq r2
  subst e2
  obtain rfl : u1 = Value.ref a := r1
  obtain ⟨⟨oe, vs, ho, hz, hd⟩, _, _⟩ := iv.hok a _ at'
  have J : PySem.W.InstAt sh.heap a oe C none := by
    obtain ⟨oc, od, oda, osl⟩ := oe
    obtain ⟨h1, h2⟩ := hz
    dsimp only at h1 h2 hd
    subst h1 h2 hd
    exact ⟨ho, rfl, rfl, trivial⟩
  exact PySem.W.kia_one (PySem.W.kitx_exc T.cl T.ga T.gg T.sb T.cn G.sp G.tk T.mo) iv.kIn J e (fun z => nomatch z) fun tk => ⟨.bl b, H, iv.tok tk, rfl, q⟩
end L2
namespace L2
open PySem PySem.Spec PyProof.Rows
/-- a def of which any kind of error may come -/
theorem Fun.okAny {CX' : CXT} {P : Program} {w : World} {K : PySem.W.Frag} {mg : Str → Option Value} {base : Heap} {nm qu : Str} {row : Stmt} {at0 : Addr} {fd : FuncData} {names pars : List Str} {lev : Nat} {want : Sp} (F : Fun K nm qu row at0 fd) (S : FnScope names pars (defScope row)) (len : ∀ vs H Q E, want vs H Q E → vs.length = pars.length)
    (body : ∀ (code : Value) (A : Around) (outer : List Env) (sh : Shared) (H : Hp) (vs : List V) (Q : VK) (E : XK), Room lev (A.deeper (envOfC qu (defScope row) sh.heap.objs.size at0 code)) → want vs H Q E →
      ∃ t, PSs (cxOf CX' P w K mg base names qu (defScope row) at0 code A outer sh H E) (defBody row) t ∧ t { nx := fun _ H' => Q .non H', rt := Q } (start names vs) H) : FnOk P w K mg base CX' (lev + 1) at0 fd pars want := by
  obtain ⟨_, _, _, _, _, _, code, _, _, rfl, there, isCode⟩ := F.ex
  exact fn_of there isCode S len (body code)
/-- X('..') of an own class, for a raise .. from None -/
theorem pmk5_own {X : Cx} {C : Addr} {bmB : List Value} {B newId initId : String} {x m : Str} {j : Nat} {p p2 pos : Pos} (F : ExcBaseFacts B newId initId bmB) (q : PySem.W.excIn X.K C bmB newId = true) (gC : X.mg x = some (.ref C)) (kC : PySem.W.keepIn X.K (.ref C) = true) (r : Raises X (.ref C)) (hg : Gl X x)
    (plain : (x == ("__debug__" : Str)) = false := by decide) : L2H.PMk5 X (.Call (.Name x p) [.Constant (.str m) j p2] [] pos) (fun _ H Q => Q (.ref C) none H) := by
  intro pins sh st H Q iv want
  have arg : PA X [.Constant (.str m) j p2] (tCons (tC (.str m)) tNil) := pa_cons pe_str pa_nil
  refine wpAny_Call_Name_kw (ld_glob iv hg gC (PySem.W.callWith_K (h₀ := X.base) iv.ok.mod.kin kC (thn (arg.run pos pins sh st H (fun vs H1 => vs = [V.str m] ∧ H = H1) iv ⟨rfl, rfl⟩) ?_)) plain)
  rintro us sh1 ⟨vs, H1, iv1, rel, rfl, rfl⟩
  refine ⟨iv1.kIn, ?_⟩
  match us, rel with
  | [u], .cons _ .nil =>
    show wpAny _ _ (call (.ref C) [u]) _ _ _
    obtain ⟨_, _, _, _, _, _, _, _, _, _, _, _, _, _, _, _, _, hC, hN, hni, T⟩ := exc_obj iv1.kIn q
    exact wpAny_call_exc_subT F T hC hN hni (fun h' e made => L2H.mk_of5 iv1 made r want (iv1.hok.gone made.new)) (by show 1 ≤ sizeLine; decide)
/-- try: .. except x: suite, the suite raising: ps_try_onlyX with its reading under a name, for a loop around it -/
def tTryX (K : PySem.W.Frag) (c : Value) (ts : Addr → Value → Option Addr → TS) (Wout : WX) (tb : WX → TS) : TS := fun D st H => tb (wOnly K c ts Wout D) D st H
theorem ps_tryX {X : Cx} {x : Str} {c : Value} {body suite : List Stmt} {first : Stmt} {np pos pos' : Pos} {tb : WX → TS} {ts : Addr → Value → Option Addr → TS} {Wout : WX} (h1 : X.stack = X.env :: X.outer) (h2 : X.env.frame = some X.env.locals) (h3 : Names X x c)
    (h4 : ∀ hd : Option Value, PassesOwnAt (model X.prog X.w) (X.A.mark hd) X.A X.env X.xe) (h5 : L2.Takes X Wout)
    (h6 : ∀ (W : WX) (pn : List (Addr × Obj)) (xe : Value → Shared → Prop), L2N.Takes (X.tr pn xe) W → L2.Takes (X.tr pn xe) (L2H.wPass X.K c Wout) → PassesOwn (model X.prog X.w) X.A X.env xe → PSs (X.tr pn xe) body (tb W))
    (h7 : ∀ (a : Addr) (oe : Obj) (cls : Value) (d : Option Addr) (pn : List (Addr × Obj)), L2N.Zn cls d oe → (∃ vs, oe.data = .fields vs) → L2.Takes (L2H.suiteX X a ((a, oe) :: pn)) Wout → L2H.HotC (L2H.suiteX X a ((a, oe) :: pn)) → PSs (L2H.suiteX X a ((a, oe) :: pn)) (first :: suite) (ts a cls d)) :
    PS X (.Try body [.ExceptHandler (some (.Name x np)) none (first :: suite) pos'] [] [] pos) (tTryX X.K c ts Wout tb) := L2H.ps_try_onlyX h1 h2 h3 h4 h5 h6 h7
end L2
namespace HT
open PySem L2
def top (i : Nat) : Stmt := PySem.Challenge.pw_handedtext_k04_sides.main.body.getD i (.Pass ⟨0, 0, 0, 0⟩)
abbrev s_is_int : Stmt := top 6
abbrev s_is_int_between : Stmt := top 7
abbrev s_check_value : Stmt := top 8
abbrev s_check_side : Stmt := top 12
abbrev s_figure_of : Stmt := top 13
abbrev s_figure : Stmt := top 14
abbrev s_goes_up : Stmt := top 15
abbrev s_handed : Stmt := top 16
abbrev s_written : Stmt := top 17
abbrev s_stands : Stmt := top 18
abbrev s_span : Stmt := top 19
abbrev s_uspan : Stmt := top 20
abbrev s_below : Stmt := top 21
abbrev s_back : Stmt := top 22
abbrev s_threshold : Stmt := top 23
abbrev s_mirror : Stmt := top 24
abbrev s_form : Stmt := top 25
abbrev s_first_mode : Stmt := top 26
abbrev s_L_source : Stmt := top 28
abbrev s_L_draw : Stmt := top 29
abbrev s_L_pick : Stmt := top 30
abbrev s_L_great : Stmt := top 31
abbrev s_L_side : Stmt := top 32
abbrev s_L_is_whole : Stmt := top 33
abbrev s_L_is_side : Stmt := top 34
abbrev s_L_asked : Stmt := top 35
abbrev s_L_word : Stmt := top 36
abbrev s_L_fits : Stmt := top 37
abbrev s_L_bent : Stmt := top 38
abbrev s_law : Stmt := top 39
/- is_int: 0:thing -/
theorem sc_is_int : FnScope ["thing"] ["thing"] (defScope s_is_int) := ⟨rfl, rfl, rfl, by decide +kernel, rfl, by decide +kernel, by decide +kernel⟩
/- is_int_between: 0:thing 1:least 2:most -/
theorem sc_is_int_between : FnScope ["thing", "least", "most"] ["thing", "least", "most"] (defScope s_is_int_between) := ⟨rfl, rfl, rfl, by decide +kernel, rfl, by decide +kernel, by decide +kernel⟩
/- check_value: 0:value -/
theorem sc_check_value : FnScope ["value"] ["value"] (defScope s_check_value) := ⟨rfl, rfl, rfl, by decide +kernel, rfl, by decide +kernel, by decide +kernel⟩
/- check_side: 0:side 1:offset 2:step 3:mode -/
theorem sc_check_side : FnScope ["side", "offset", "step", "mode"] ["side"] (defScope s_check_side) := ⟨rfl, rfl, rfl, by decide +kernel, rfl, by decide +kernel, by decide +kernel⟩
/- figure_of: 0:side 1:value -/
theorem sc_figure_of : FnScope ["side", "value"] ["side", "value"] (defScope s_figure_of) := ⟨rfl, rfl, rfl, by decide +kernel, rfl, by decide +kernel, by decide +kernel⟩
/- _figure: 0:side 1:value 2:offset 3:step 4:mode 5:figure 6:rest -/
theorem sc_figure : FnScope ["side", "value", "offset", "step", "mode", "figure", "rest"] ["side", "value"] (defScope s_figure) := ⟨rfl, rfl, rfl, by decide +kernel, rfl, by decide +kernel, by decide +kernel⟩
/- _goes_up: 0:mode 1:step 2:figure 3:rest -/
theorem sc_goes_up : FnScope ["mode", "step", "figure", "rest"] ["mode", "step", "figure", "rest"] (defScope s_goes_up) := ⟨rfl, rfl, rfl, by decide +kernel, rfl, by decide +kernel, by decide +kernel⟩
/- handed: 0:side 1:value -/
theorem sc_handed : FnScope ["side", "value"] ["side", "value"] (defScope s_handed) := ⟨rfl, rfl, rfl, by decide +kernel, rfl, by decide +kernel, by decide +kernel⟩
/- written: 0:side 1:value 2:offset 3:step 4:_ -/
theorem sc_written : FnScope ["side", "value", "offset", "step", "_"] ["side", "value"] (defScope s_written) := ⟨rfl, rfl, rfl, by decide +kernel, rfl, by decide +kernel, by decide +kernel⟩
/- stands: 0:side 1:value 2:offset 3:step 4:_ -/
theorem sc_stands : FnScope ["side", "value", "offset", "step", "_"] ["side", "value"] (defScope s_stands) := ⟨rfl, rfl, rfl, by decide +kernel, rfl, by decide +kernel, by decide +kernel⟩
/- span: 0:side 1:figure -/
theorem sc_span : FnScope ["side", "figure"] ["side", "figure"] (defScope s_span) := ⟨rfl, rfl, rfl, by decide +kernel, rfl, by decide +kernel, by decide +kernel⟩
/- _span: 0:side 1:figure 2:offset 3:step 4:mode 5:value -/
theorem sc_uspan : FnScope ["side", "figure", "offset", "step", "mode", "value"] ["side", "figure"] (defScope s_uspan) := ⟨rfl, rfl, rfl, by decide +kernel, rfl, by decide +kernel, by decide +kernel⟩
/- _below: 0:mode 1:step 2:figure -/
theorem sc_below : FnScope ["mode", "step", "figure"] ["mode", "step", "figure"] (defScope s_below) := ⟨rfl, rfl, rfl, by decide +kernel, rfl, by decide +kernel, by decide +kernel⟩
/- back: 0:side 1:value -/
theorem sc_back : FnScope ["side", "value"] ["side", "value"] (defScope s_back) := ⟨rfl, rfl, rfl, by decide +kernel, rfl, by decide +kernel, by decide +kernel⟩
/- threshold: 0:side 1:value 2:offset 3:step 4:mode 5:figure -/
theorem sc_threshold : FnScope ["side", "value", "offset", "step", "mode", "figure"] ["side", "value"] (defScope s_threshold) := ⟨rfl, rfl, rfl, by decide +kernel, rfl, by decide +kernel, by decide +kernel⟩
/- mirror: 0:side 1:offset 2:step 3:mode -/
theorem sc_mirror : FnScope ["side", "offset", "step", "mode"] ["side"] (defScope s_mirror) := ⟨rfl, rfl, rfl, by decide +kernel, rfl, by decide +kernel, by decide +kernel⟩
/- form: 0:side 1:offset 2:step 3:mode 4:first -/
theorem sc_form : FnScope ["side", "offset", "step", "mode", "first"] ["side"] (defScope s_form) := ⟨rfl, rfl, rfl, by decide +kernel, rfl, by decide +kernel, by decide +kernel⟩
/- _first_mode: 0:step 1:mode -/
theorem sc_first_mode : FnScope ["step", "mode"] ["step", "mode"] (defScope s_first_mode) := ⟨rfl, rfl, rfl, by decide +kernel, rfl, by decide +kernel, by decide +kernel⟩
/- _law_source: 0:_law_script 1:_law_cells 2:_law_k -/
theorem sc_L_source : FnScope ["_law_script", "_law_cells", "_law_k"] ["_law_script"] (defScope s_L_source) := ⟨rfl, rfl, rfl, by decide +kernel, rfl, by decide +kernel, by decide +kernel⟩
/- _law_draw: 0:_law_source_here 1:_law_limit 2:_law_cells 3:_law_turn 4:_law_place 5:_law_cell 6:_law_number -/
theorem sc_L_draw : FnScope ["_law_source_here", "_law_limit", "_law_cells", "_law_turn", "_law_place", "_law_cell", "_law_number"] ["_law_source_here", "_law_limit"] (defScope s_L_draw) := ⟨rfl, rfl, rfl, by decide +kernel, rfl, by decide +kernel, by decide +kernel⟩
/- _law_pick: 0:_law_source_here 1:_law_values -/
theorem sc_L_pick : FnScope ["_law_source_here", "_law_values"] ["_law_source_here", "_law_values"] (defScope s_L_pick) := ⟨rfl, rfl, rfl, by decide +kernel, rfl, by decide +kernel, by decide +kernel⟩
/- _law_great: 0:_law_source_here 1:_law_digits 2:_law_number 3:_law_k -/
theorem sc_L_great : FnScope ["_law_source_here", "_law_digits", "_law_number", "_law_k"] ["_law_source_here", "_law_digits"] (defScope s_L_great) := ⟨rfl, rfl, rfl, by decide +kernel, rfl, by decide +kernel, by decide +kernel⟩
/- _law_side: 0:_law_source_here 1:_law_digits 2:_law_step 3:_law_offset -/
theorem sc_L_side : FnScope ["_law_source_here", "_law_digits", "_law_step", "_law_offset"] ["_law_source_here", "_law_digits"] (defScope s_L_side) := ⟨rfl, rfl, rfl, by decide +kernel, rfl, by decide +kernel, by decide +kernel⟩
/- _law_is_whole: 0:_law_value 1:_law_low 2:_law_high -/
theorem sc_L_is_whole : FnScope ["_law_value", "_law_low", "_law_high"] ["_law_value", "_law_low", "_law_high"] (defScope s_L_is_whole) := ⟨rfl, rfl, rfl, by decide +kernel, rfl, by decide +kernel, by decide +kernel⟩
/- _law_is_side: 0:_law_value -/
theorem sc_L_is_side : FnScope ["_law_value"] ["_law_value"] (defScope s_L_is_side) := ⟨rfl, rfl, rfl, by decide +kernel, rfl, by decide +kernel, by decide +kernel⟩
/- _law_asked: 0:_law_way 1:_law_one 2:_law_value -/
theorem sc_L_asked : FnScope ["_law_way", "_law_one", "_law_value"] ["_law_way", "_law_one", "_law_value"] (defScope s_L_asked) := ⟨rfl, rfl, rfl, by decide +kernel, rfl, by decide +kernel, by decide +kernel⟩
/- _law_word: 0:_law_way 1:_law_one 2:_law_value 3:_law_caught 4:e 5:_law_hits -/
theorem sc_L_word : FnScope ["_law_way", "_law_one", "_law_value", "_law_caught", "e", "_law_hits"] ["_law_way", "_law_one", "_law_value"] (defScope s_L_word) := ⟨rfl, rfl, rfl, by decide +kernel, rfl, by decide +kernel, by decide +kernel⟩
/- _law_fits: 0:_law_one 1:_law_value 2:_law_due 3:_law_way -/
theorem sc_L_fits : FnScope ["_law_one", "_law_value", "_law_due", "_law_way"] ["_law_one"] (defScope s_L_fits) := ⟨rfl, rfl, rfl, by decide +kernel, rfl, by decide +kernel, by decide +kernel⟩
/- _law_bent: 0:_law_source_here 1:_law_one 2:_law_odd 3:_law_at 4:_law_some -/
theorem sc_L_bent : FnScope ["_law_source_here", "_law_one", "_law_odd", "_law_at", "_law_some"] ["_law_source_here", "_law_one"] (defScope s_L_bent) := ⟨rfl, rfl, rfl, by decide +kernel, rfl, by decide +kernel, by decide +kernel⟩
/- law: 0:_law_script 1:_law_source_here 2:_law_mode 3:_law_offset 4:_law_step 5:_law_turn 6:_law_one -/
theorem sc_law : FnScope ["_law_script", "_law_source_here", "_law_mode", "_law_offset", "_law_step", "_law_turn", "_law_one"] ["_law_script"] (defScope s_law) := ⟨rfl, rfl, rfl, by decide +kernel, rfl, by decide +kernel, by decide +kernel⟩

end HT
namespace L2
open PySem PySem.Spec PyProof.Rows
/-- powers of great numbers -/
def CPowW (i j : Int) : Prop := 0 ≤ j ∧ (Builtin.Int.intBits i : Int) * j ≤ 2 ^ 27
theorem op_powW {X : Cx} : OpR X (binaryOp .Pow) (rI CPowW fun i j => .int (i ^ j.toNat)) := opI fun _ _ _ _ _ _ _ hc q => pow_int hc.1 hc.2 q
end L2
namespace HT
open PySem L2
/-- the law's source of draws: a list of its cells' list and the turn -/
structure Src (H : Hp) (a c : Addr) (t : Nat) : Prop where
  ne : a ≠ c
  ob : H a = some (.lst [.ref c, .int (t : Int)])
  cl : ∃ cs : List Int, H c = some (.lst (cs.map V.int)) ∧ 0 < cs.length ∧ cs.length ≤ 63
/-- nothing else is touched -/
def Oth (a c : Addr) (H H' : Hp) : Prop := ∀ b o, H b = some o → b ≠ a → b ≠ c → H' b = some o
theorem Oth.refl (a c : Addr) (H : Hp) : Oth a c H H := fun _ _ h _ _ => h
theorem Oth.trans {a c : Addr} {H H1 H2 : Hp} (x : Oth a c H H1) (y : Oth a c H1 H2) : Oth a c H H2 := fun b o h n m => y b o (x b o h n m) n m
theorem Oth.new {a c p : Addr} {H H1 : Hp} {o : HO} (x : Oth a c H H1) (n : H1 p = none) : Oth a c H (upd H1 p o) := fun b u h na nc => by
  rw [upd_ne (ne_of_none (x b u h na nc) n)]
  exact x b u h na nc
theorem Src.new {a c p : Addr} {H : Hp} {t : Nat} {o : HO} (S : Src H a c t) (n : H p = none) : Src (upd H p o) a c t := by
  obtain ⟨cs, h, l⟩ := S.cl
  exact ⟨S.ne, by rw [upd_ne (ne_of_none S.ob n)]; exact S.ob, cs, by rw [upd_ne (ne_of_none h n)]; exact h, l⟩
theorem Src.of_same {a c : Addr} {H H' : Hp} {t : Nat} (S : Src H a c t) (e : Same H H') : Src H' a c t := by
  obtain ⟨cs, h, l⟩ := S.cl
  exact ⟨S.ne, e _ _ S.ob, cs, e _ _ h, l⟩
theorem Src.na {a c p : Addr} {H : Hp} {t : Nat} (S : Src H a c t) (n : H p = none) : p ≠ a ∧ p ≠ c := by
  obtain ⟨cs, h, l⟩ := S.cl
  exact ⟨(ne_of_none S.ob n).symm, (ne_of_none h n).symm⟩
theorem Src.nt {a c p : Addr} {H : Hp} {t : Nat} {xs : List V} (S : Src H a c t) (n : H p = some (.tup xs)) : p ≠ a ∧ p ≠ c := by
  obtain ⟨cs, h, l⟩ := S.cl
  exact ⟨ne_of n S.ob (by intro z; cases z), ne_of n h (by intro z; cases z)⟩
def spSource (K : PySem.W.Frag) : Sp := fun vs H Q _ => ∃ (l : Addr) (ns : List Int), vs = [.ref l] ∧ SqL K H l (ns.map V.int) ∧ ns.length ≤ 63 ∧
  ∀ a c H', Same H H' → H a = none → H c = none → Src H' a c 0 → Q (.ref a) H'
def spDraw : Sp := fun vs H Q _ => ∃ (a c : Addr) (t : Nat) (lim : Int), vs = [.ref a, .int lim] ∧ Src H a c t ∧ t < 2 ^ 30 ∧ 0 < lim ∧ lim.natAbs.log2 < 9000 ∧
  ∀ k H', 0 ≤ k → k < lim → Src H' a c (t + 1) → Oth a c H H' → Q (.int k) H'
/-- what the walk asks of the names that the text does not bind -/
structure Blt (mg : Str → Option Value) : Prop where
  len : mg "len" = none
  abs : mg "abs" = none
  int : mg "int" = none
  range : mg "range" = none
section
variable {P : Program} {w : World} {K : PySem.W.Frag} {mg : Str → Option Value} {base : Heap}
theorem fdiv_ok (i : Int) {j : Int} (h : 0 < j) (h9 : j.natAbs.log2 < 9000) : CDivW i j := ⟨h, h9⟩
theorem atI_in {xs : List Int} {i : Int} (h0 : 0 ≤ i) (h : i < (xs.length : Int)) : atI (xs.map V.int) i = some (.int (xs.getD i.toNat 0)) := by
  have e : ixN (xs.map V.int).length i = some i.toNat := by
    unfold ixN
    rw [List.length_map, if_pos h0, if_pos h]
  unfold atI
  rw [e]
  show (xs.map V.int)[i.toNat]? = _
  have hl : i.toNat < xs.length := by omega
  rw [List.getElem?_map, List.getElem?_eq_getElem hl, List.getD_eq_getElem?_getD, List.getElem?_eq_getElem hl]
  rfl
theorem ixN_in {n : Nat} {i : Int} (h0 : 0 ≤ i) (h : i < (n : Int)) : ixN n i = some i.toNat := by
  unfold ixN
  rw [if_pos h0, if_pos h]
theorem b_mod (x : Int) : -(2 ^ 64) < x % 2147483629 ∧ x % 2147483629 < 2 ^ 64 := by omega
theorem b_mod1 (x : Int) : -(2 ^ 64) < x % 2147483647 ∧ x % 2147483647 < 2 ^ 64 := by omega
theorem b_t {t : Nat} (h : t < 2 ^ 30) : -(2 ^ 64) < (t : Int) ∧ (t : Int) < 2 ^ 64 := by omega
theorem b_tt {t : Nat} (h : t < 2 ^ 30) : -(2 ^ 64) < (t : Int) * t ∧ (t : Int) * t < 2 ^ 64 := by
  have h1 : t * t < 2 ^ 30 * 2 ^ 30 := Nat.mul_lt_mul'' h h
  have h2 : ((t * t : Nat) : Int) = (t : Int) * t := Int.natCast_mul t t
  omega
theorem set_ints (xs : List Int) (j : Nat) (y : Int) : (xs.map V.int).set j (.int y) = (xs.set j y).map V.int := by
  rw [List.map_set]
theorem ok_draw {f : Addr} {fd : FuncData} (F : Fun K "_law_draw" "_law_draw" s_L_draw f fd) (B : Blt mg) : FnOk P w K mg base CX0 1 f fd ["_law_source_here", "_law_limit"] spDraw := by
  refine F.ok sc_L_draw (fun vs H Q E h => ?_) (fun cdv A outer s H vs Q E hr h => ?_)
  · obtain ⟨a, c, t, lim, rfl, _⟩ := h
    rfl
  · obtain ⟨a, c, t, lim, rfl, S, ht, hl0, hl9, q⟩ := h
    obtain ⟨cs, hc, hn0, hn⟩ := S.cl
    have nd := sc_L_draw.nd
    refine ⟨_, pss_cons (ps_asg (pv 0) (pg_unl (n := 2) (by rfl) (pgs_cons (pg_name (i := 2) nd rfl (Or.inl rfl)) (pgs_cons (pg_name (i := 3) nd rfl (Or.inl rfl)) pgs_nil))))
      (pss_cons (ps_set (i := 4) nd rfl (Or.inl rfl) (pe_op op_mod (pe_callTy call_int1 (by rfl) B.int (by decide +kernel) (pa_cons (pv 3) pa_nil)) (pe_callB call_len_seq (by rfl) B.len PySem.boot_len (pa_cons (pv 2) pa_nil))))
      (pss_cons (ps_set (i := 5) nd rfl (Or.inl rfl) (pe_ix ix_list (pv 2) (pv 4) (fun _ _ => rfl)))
      (pss_cons (ps_asg (pe_op op_add (pv 3) pe_int) (pg_sub (pv 0) pe_int set_list))
      (pss_cons (ps_if (pt_cmpR op_ge (pv 5) (pe_op op_pow pe_int pe_int) (nomark _))
        (pss_cons (ps_asg (pe_op op_fdivW (pv 5) (pv 1)) (pg_sub (pv 2) (pv 4) set_list))
          (pss_one (ps_ret (pe_op op_mod (pe_callTy call_int1 (by rfl) B.int (by decide +kernel) (pa_cons (pv 5) pa_nil)) (pv 1))))) pss_nil)
      (pss_cons (ps_set (i := 6) nd rfl (Or.inl rfl) (pe_op op_mod (pe_callTy call_int1 (by rfl) B.int (by decide +kernel) (pa_cons
          (pe_op op_add (pe_op op_add (pe_op op_mul (pe_op op_mod (pe_callTy call_int1 (by rfl) B.int (by decide +kernel) (pa_cons (pv 5) pa_nil)) pe_int) pe_int) (pe_op op_mul (pe_op op_mul (pv 3) (pv 3)) pe_int)) pe_int) pa_nil)) pe_int))
      (pss_cons (ps_set (i := 6) nd rfl (Or.inl rfl) (pe_op op_mod (pe_callTy call_int1 (by rfl) B.int (by decide +kernel) (pa_cons (pe_op op_mul (pv 6) (pv 6)) pa_nil)) pe_int))
      (pss_cons (ps_set (i := 6) nd rfl (Or.inl rfl) (pe_op op_mod (pe_callTy call_int1 (by rfl) B.int (by decide +kernel) (pa_cons (pe_op op_mul (pv 6) (pv 6)) pa_nil)) pe_int))
      (pss_one (ps_ret (pe_op op_mod (pe_callTy call_int1 (by rfl) B.int (by decide +kernel) (pa_cons (pv 6) pa_nil)) (pv 1))))))))))), ?_⟩
    -- _law_cells, _law_turn = _law_source_here
    walk_at "rd"
    refine ⟨a, _, rfl, SqL.of S.ob, rfl, _, _, rfl, _, _, rfl, rfl, ?_⟩
    -- _law_place
    walk_at "rd"
    have hn0' : (0 : Int) < ((cs.map V.int).length : Nat) := by rw [List.length_map]; omega
    refine ⟨c, _, rfl, .inl (SqL.of hc), _, _, rfl, rfl, hn0', ?_⟩
    have hp0 : 0 ≤ (t : Int) % ((cs.map V.int).length : Nat) := Int.emod_nonneg _ (by omega)
    have hp1 : (t : Int) % ((cs.map V.int).length : Nat) < ((cs.map V.int).length : Nat) := Int.emod_lt_of_pos _ hn0'
    have hp1' : (t : Int) % ((cs.map V.int).length : Nat) < (cs.length : Int) := by rw [List.length_map] at hp1 ⊢; exact hp1
    -- _law_cell
    walk_at "rd"
    refine ⟨c, _, _, _, rfl, rfl, SqL.of hc, atI_in hp0 hp1', ?_⟩
    -- _law_source_here[1] = _law_turn + 1
    walk_at "rd"
    refine ⟨a, _, 1, 1, rfl, rfl, S.ob, rfl, ?_⟩
    have S1 : Src (upd H a (.lst ([V.ref c, V.int t].set 1 (.int ((t : Int) + 1))))) a c (t + 1) := ⟨S.ne, by rw [upd_same]; rfl, cs, by rw [upd_ne S.ne.symm]; exact hc, hn0, hn⟩
    have O1 : Oth a c H (upd H a (.lst ([V.ref c, V.int t].set 1 (.int ((t : Int) + 1))))) := fun b o h na _ => by rw [upd_ne na]; exact h
    have hc1 : upd H a (.lst ([V.ref c, V.int t].set 1 (.int ((t : Int) + 1)))) c = some (.lst (cs.map V.int)) := by rw [upd_ne S.ne.symm]; exact hc
    generalize upd H a (.lst ([V.ref c, V.int t].set 1 (.int ((t : Int) + 1)))) = H1 at S1 O1 hc1 ⊢
    -- if _law_cell >= 10 ** 18
    walk_at "rd"
    refine ⟨⟨by decide, by decide, by decide⟩, ?_⟩
    walk_at "rd"
    refine ite2 (fun _ => ?_) (fun _ => ?_)
    · walk_at "rd"
      refine ⟨fdiv_ok _ hl0 hl9, ?_⟩
      walk_at "rd"
      refine ⟨c, _, _, _, rfl, rfl, hc1, ixN_in hp0 hp1, ?_⟩
      walk_at "rd"
      refine ⟨hl0, ?_⟩
      rw [set_ints]
      refine q _ _ (Int.emod_nonneg _ (by omega)) (Int.emod_lt_of_pos _ hl0) ⟨S1.ne, by rw [upd_ne S1.ne]; exact S1.ob, _, upd_same, by rw [List.length_set]; exact hn0, by rw [List.length_set]; exact hn⟩ fun b o h na nc => ?_
      rw [upd_ne nc]
      exact O1 b o h na nc
    · walk_at "rd"
      refine ⟨(by show (0 : Int) < 2147483629; decide), ?_⟩
      walk_at "rd"
      refine ⟨.inl (b_mod _), ?_⟩
      walk_at "rd"
      refine ⟨.inl (b_t ht), ?_⟩
      walk_at "rd"
      refine ⟨.inl (b_tt ht), ?_⟩
      walk_at "rd"
      refine ⟨(by show (0 : Int) < 2147483647; decide), ?_⟩
      walk_at "rd"
      refine ⟨.inl (b_mod1 _), ?_⟩
      walk_at "rd"
      refine ⟨(by show (0 : Int) < 2147483629; decide), ?_⟩
      walk_at "rd"
      refine ⟨.inl (b_mod _), ?_⟩
      walk_at "rd"
      refine ⟨(by show (0 : Int) < 2147483587; decide), ?_⟩
      walk_at "rd"
      refine ⟨hl0, ?_⟩
      exact q _ _ (Int.emod_nonneg _ (by omega)) (Int.emod_lt_of_pos _ hl0) S1 O1
end
end HT
namespace HT
open PySem L2
/-- a def of the text that may be called by its name, and what it promises -/
structure Cal (P : Program) (w : World) (K : PySem.W.Frag) (mg : Str → Option Value) (base : Heap) (x : Str) (k : Nat) (ps : List Str) (sp : Sp) (f : Addr) (fd : FuncData) : Prop where
  ok : FnOk P w K mg base CX0 k f fd ps sp
  gl : mg x = some (.ref f)
  kp : PySem.W.keepIn K (.ref f) = true
  bd : Binds K fd ps []
theorem pcl {X : Cx} {x : Str} {k j : Nat} {ps : List Str} {sp : Sp} {f : Addr} {fd : FuncData} {e : Expr} {es : List Expr} {t : TA} {p pos : Pos} (C : Cal X.prog X.w X.K X.mg X.base x k ps sp f fd) (hr : Room j X.A) (hj : k ≤ j) (hg : Gl X x) (ha : PA X (e :: es) t)
    (hdb : (x == ("__debug__" : Str)) = false := by decide) (he : starEach (e :: es) X.env = (false, eval e X.env) :: starEach es X.env := by rfl) (hpl : (backTo pos (starEach es X.env)).any (·.1) = false := by rfl) : PE X (.Call (.Name x p) (e :: es) [] pos) (tCall sp [] E0 t) :=
  pe_call C.ok (hr.mono hj) hg C.gl C.kp C.bd .nil pass0 ha hdb he hpl
section
variable {P : Program} {w : World} {K : PySem.W.Frag} {mg : Str → Option Value} {base : Heap}
theorem cut63 {ns : List Int} (h : ns.length ≤ 63) : cutV (ns.map V.int) none (some 63) = ns.map V.int := by
  have e1 : HT.sIx (ns.map V.int).length 0 none = 0 := rfl
  have e2 : HT.sIx (ns.map V.int).length (ns.map V.int).length (some 63) = (ns.map V.int).length := by
    have := HT.sIx_nat (ns.map V.int).length (ns.map V.int).length 63
    rw [show ((63 : Nat) : Int) = 63 from rfl] at this
    rw [this, List.length_map]
    omega
  unfold cutV
  rw [e1, e2, List.drop_zero, Nat.sub_zero, List.take_length]
theorem dpInts (H : Hp) : ∀ ns : List Int, DpAll K H (ns.map V.int) (ns.map PyData.int)
  | [] => .nil
  | n :: r => .cons (.int n) (dpInts H r)
theorem pow_ok : CPowW ((10 : Int) ^ (60 : Int).toNat) 20 := ⟨by decide, by decide +kernel⟩
theorem pow_pos' : (0 : Int) < ((10 : Int) ^ (60 : Int).toNat) ^ (20 : Int).toNat := by decide +kernel
theorem ok_source {f : Addr} {fd : FuncData} (F : Fun K "_law_source" "_law_source" s_L_source f fd) (B : Blt mg) : FnOk P w K mg base CX0 1 f fd ["_law_script"] (spSource K) := by
  refine F.ok sc_L_source (fun vs H Q E h => ?_) (fun cdv A outer s H vs Q E hr h => ?_)
  · obtain ⟨l, ns, rfl, _⟩ := h
    rfl
  · obtain ⟨l, ns, rfl, hL, hn, q⟩ := h
    have nd := sc_L_source.nd
    refine ⟨_, pss_cons (ps_set (i := 1) nd rfl (Or.inl rfl) (pe_slice sl_list (pv 0) po_none (po_some pe_int)))
      (pss_cons (ps_for PassesOwn.never rfl (pi_range1 (by rfl) B.range (pa_cons (pe_callB call_len_seq (by rfl) B.len PySem.boot_len (pa_cons (pv 1) pa_nil)) pa_nil)) (pg_name (i := 2) nd rfl (Or.inl rfl))
        (pss_one (ps_if (pt_cmpR op_ge (pe_callB call_abs (by rfl) B.abs (by decide +kernel) (pa_cons (pe_ix ix_list (pv 1) (pv 2) (fun _ _ => rfl)) pa_nil)) (pe_op op_pow pe_int pe_int) (nomark _))
          (pss_one (ps_asg (pe_op op_mod (pe_callTy call_int1 (by rfl) B.int (by decide +kernel) (pa_cons (pe_ix ix_list (pv 1) (pv 2) (fun _ _ => rfl)) pa_nil)) (pe_op op_powW (pe_op op_pow pe_int pe_int) pe_int)) (pg_sub (pv 1) (pv 2) set_list))) pss_nil)))
      (pss_cons (ps_if (pt_cmpR (op_eqD hr.units) (pv 1) (pe_lst pa_nil) (nomark _)) (pss_one (ps_set (i := 1) nd rfl (Or.inl rfl) (pe_lst (pa_cons pe_int pa_nil)))) pss_nil)
      (pss_one (ps_ret (pe_lst (pa_cons (pv 1) (pa_cons pe_int pa_nil))))))), ?_⟩
    walk_at "rd"
    refine ⟨l, _, rfl, hL, fun p np => ?_⟩
    rw [cut63 hn]
    walk_at "rd"
    refine ⟨p, _, rfl, .inl (SqL.of upd_same), _, rfl, by omega, ?_, ?_⟩
    · show ((ns.map V.int).length : Int) < 2 ^ 62
      rw [List.length_map]
      omega
    have en : ((ns.map V.int).length : Int).toNat = ns.length := by rw [List.length_map]; omega
    rw [en]
    refine for_range (fun i σ H' => ∃ (cs : List Int) (kv : Option V), σ = [some (.ref l), some (.ref p), kv] ∧ H' p = some (.lst (cs.map V.int)) ∧ cs.length = ns.length ∧ Same H H') ⟨ns, none, rfl, upd_same, rfl, fun b o e => by rw [upd_ne (ne_of_none e np)]; exact e⟩ ?_ ?_
    · rintro i σ H' hi ⟨cs, kv, rfl, hp, hl, sm⟩
      have h0 : (0 : Int) ≤ 0 + (i : Int) := by omega
      have h1 : (0 : Int) + (i : Int) < (cs.length : Int) := by omega
      walk_at "rd"
      refine ⟨p, _, _, _, rfl, rfl, SqL.of hp, atI_in h0 h1, ?_⟩
      walk_at "rd"
      refine ⟨⟨by decide, by decide, by decide⟩, ?_⟩
      walk_at "rd"
      refine ite2 (fun _ => ?_) (fun _ => ?_)
      · walk_at "rd"
        refine ⟨p, _, _, _, rfl, rfl, SqL.of hp, atI_in h0 h1, ?_⟩
        walk_at "rd"
        refine ⟨⟨by decide, by decide, by decide⟩, ?_⟩
        walk_at "rd"
        refine ⟨pow_ok, ?_⟩
        walk_at "rd"
        refine ⟨pow_pos', ?_⟩
        walk_at "rd"
        refine ⟨p, _, _, _, rfl, rfl, hp, ixN_in h0 (by rw [List.length_map]; exact h1), ?_⟩
        rw [set_ints]
        exact ⟨_, _, rfl, upd_same, by rw [List.length_set]; exact hl, fun b o e => by rw [upd_ne (ne_of_none e np)]; exact sm b o e⟩
      · exact ⟨cs, _, rfl, hp, hl, sm⟩
    · rintro σ H' ⟨cs, kv, rfl, hp, hl, sm⟩
      walk_at "rd"
      refine ⟨by decide, fun e ne => ?_⟩
      have hpe : upd H' e (.lst []) p = some (.lst (cs.map V.int)) := by rw [upd_ne (ne_of_none hp ne)]; exact hp
      have sm1 : Same H (upd H' e (.lst [])) := fun b o z => by rw [upd_ne (ne_of_none (sm b o z) ne)]; exact sm b o z
      refine ⟨_, _, .lst (SqL.of hpe) (dpInts _ cs), .lst (SqL.of upd_same) .nil, PySem.W.ke_shaped_ints cs, by decide +kernel, ?_⟩
      walk_at "rd"
      have hb : PyData.eqv (.list (cs.map PyData.int)) (.list []) = decide (cs = []) := by
        have z := PySem.W.ked_eqvAll cs []
        rw [← z]
        rfl
      rw [hb]
      refine ite2 (fun _ => ?_) (fun hne => ?_)
      · walk_at "rd"
        refine ⟨by decide, fun c nc => ?_⟩
        walk_at "rd"
        refine ⟨(by show 2 ≤ sizeLine; decide), fun a na => ?_⟩
        have sm2 : Same H (upd (upd H' e (.lst [])) c (.lst [.int 0])) := fun b o z => by rw [upd_ne (ne_of_none (sm1 b o z) nc)]; exact sm1 b o z
        have nac : a ≠ c := (ne_of_none upd_same na).symm
        refine q a c _ (fun b o z => by rw [upd_ne (ne_of_none (sm2 b o z) na)]; exact sm2 b o z) (sm2.free na) (sm1.free nc) ⟨nac, upd_same, [0], by rw [upd_ne nac.symm]; exact upd_same, by decide, by decide⟩
      · walk_at "rd"
        refine ⟨(by show 2 ≤ sizeLine; decide), fun a na => ?_⟩
        have nap : a ≠ p := (ne_of_none hpe na).symm
        refine q a p _ (fun b o z => by rw [upd_ne (ne_of_none (sm1 b o z) na)]; exact sm1 b o z) (sm1.free na) np ⟨nap, upd_same, cs, by rw [upd_ne nap.symm]; exact hpe, ?_, by omega⟩
        have : cs ≠ [] := fun z => hne (decide_eq_true z)
        exact List.length_pos_iff.mpr this
end
end HT
namespace HT
open PySem L2
/-- a thing of any kind, with its type's name -/
inductive Th (H : Hp) : V → String → Prop where
  | int (i : Int) : Th H (.int i) "int"
  | bl (b : Bool) : Th H (.bl b) "bool"
  | non : Th H .non "NoneType"
  | str (s : Str) : Th H (.str s) "str"
  | tup {p : Addr} {xs : List V} (h : H p = some (.tup xs)) : Th H (.ref p) "tuple"
  | lst {p : Addr} {xs : List V} (h : H p = some (.lst xs)) : Th H (.ref p) "list"
  | dk {p : Addr} {kvs : List (Key × V)} (h : H p = some (.dK kvs)) : Th H (.ref p) "dict"
theorem Th.ty {K : PySem.W.Frag} {H : Hp} {x : V} {n : String} (t : Th H x n) : TyX K H x (.type n) := by
  cases t with
  | int i => exact .base (.int i)
  | bl b => exact .base (.bl b)
  | non => exact .base .non
  | str s => exact .base (.str s)
  | tup h => exact .base (.tup h)
  | lst h => exact .base (.lst h)
  | dk h => exact .base (.dK h)
theorem Th.kint {K : PySem.W.Frag} {H : Hp} {x : V} {n : String} (t : Th H x n) : PySem.W.kitOne K (.type n) (.type "int") = some (n == "int" || n == "bool") := by
  cases t <;> exact kit_ty (by decide +kernel)
theorem Th.kbool {K : PySem.W.Frag} {H : Hp} {x : V} {n : String} (t : Th H x n) : PySem.W.kitOne K (.type n) (.type "bool") = some (n == "bool") := by
  cases t <;> exact kit_ty (by decide +kernel)
theorem Th.ktup {K : PySem.W.Frag} {H : Hp} {x : V} {n : String} (t : Th H x n) : PySem.W.kitOne K (.type n) (.type "tuple") = some (n == "tuple") := by
  cases t <;> exact kit_ty (by decide +kernel)
theorem Th.klst {K : PySem.W.Frag} {H : Hp} {x : V} {n : String} (t : Th H x n) : PySem.W.kitOne K (.type n) (.type "list") = some (n == "list") := by
  cases t <;> exact kit_ty (by decide +kernel)
theorem Th.same {H H' : Hp} {x : V} {n : String} (t : Th H x n) (s : Same H H') : Th H' x n := by
  cases t with
  | int i => exact .int i
  | bl b => exact .bl b
  | non => exact .non
  | str x => exact .str x
  | tup h => exact .tup (s _ _ h)
  | lst h => exact .lst (s _ _ h)
  | dk h => exact .dk (s _ _ h)
def isI (n : String) : Bool := n == "int"
def spIsAny : Sp := fun vs H Q _ => ∃ (x : V) (n : String), vs = [x] ∧ Th H x n ∧ Q (.bl (isI n)) H
/-- an int between the ends -/
def inB (x : V) (a b : Int) : Bool := match x with
  | .int i => decide (a ≤ i) && decide (i ≤ b)
  | _ => false
def spBetAny : Sp := fun vs H Q _ => ∃ (x : V) (n : String) (a b : Int), vs = [x, .int a, .int b] ∧ Th H x n ∧ Q (.bl (inB x a b)) H
/-- the names that the text of checks does not bind -/
structure ChkT (mg : Str → Option Value) : Prop where
  isi : mg "isinstance" = none
  int : mg "int" = none
  bool : mg "bool" = none
  tuple : mg "tuple" = none
  list : mg "list" = none
  len : mg "len" = none
section
variable {P : Program} {w : World} {K : PySem.W.Frag} {mg : Str → Option Value} {base : Heap} {fI : Addr} {dI : FuncData}
theorem ok_is_any {f : Addr} {fd : FuncData} (F : Fun K "is_int" "is_int" s_is_int f fd) (T : ChkT mg) : FnOk P w K mg base CX0 1 f fd ["thing"] spIsAny := by
  refine F.ok sc_is_int (fun vs H Q E h => ?_) (fun cdv A outer s H vs Q E hr h => ?_)
  · obtain ⟨x, n, rfl, _⟩ := h
    rfl
  · obtain ⟨x, n, rfl, t, q⟩ := h
    refine ⟨_, pss_one (ps_ret (pe_and (pe_callB call_isi (by rfl) T.isi (by decide +kernel) (pa_cons (pv 0) (pa_cons (pe_bltn (v := .ty "int") (by rfl) T.int (by decide +kernel) rfl) pa_nil)))
      (pe_one (pe_not (pe_callB call_isi (by rfl) T.isi (by decide +kernel) (pa_cons (pv 0) (pa_cons (pe_bltn (v := .ty "bool") (by rfl) T.bool (by decide +kernel) rfl) pa_nil))))))), ?_⟩
    walk_at "rd"
    refine ⟨_, _, _, _, _, rfl, .ty "int", t.ty, t.kint, ?_⟩
    walk_at "rd"
    refine ite2 (fun h => ?_) (fun h => ?_)
    · walk_at "rd"
      refine ⟨_, _, _, _, _, rfl, .ty "bool", t.ty, t.kbool, ?_⟩
      walk_at "rd"
      have e : (!(n == "bool")) = isI n := by
        cases t <;> first | rfl | exact absurd h (by decide)
      rw [e]
      exact q
    · have e : isI n = false := by
        cases t <;> first | rfl | exact absurd (by decide) h
      rw [e] at q
      exact q
theorem ok_bet_any {f : Addr} {fd : FuncData} (F : Fun K "is_int_between" "is_int_between" s_is_int_between f fd) (I : Cal P w K mg base "is_int" 1 ["thing"] spIsAny fI dI) : FnOk P w K mg base CX0 2 f fd ["thing", "least", "most"] spBetAny := by
  refine F.ok sc_is_int_between (fun vs H Q E h => ?_) (fun cdv A outer s H vs Q E hr h => ?_)
  · obtain ⟨x, n, a, b, rfl, _⟩ := h
    rfl
  · obtain ⟨x, n, a, b, rfl, t, q⟩ := h
    refine ⟨_, pss_one (ps_ret (pe_and (pcl I hr (by decide) (by rfl) (pa_cons (pv 0) pa_nil)) (pe_one (pe_chain op_le op_le (pv 1) (pv 0) (pv 2))))), ?_⟩
    walk_at "rd"
    refine ⟨x, n, rfl, t, ?_⟩
    cases t with
    | int i =>
      walk_at "rd"
      refine ite2 (fun h => ?_) (fun h => ?_)
      · walk_at "rd"
        change Q (.bl (decide (a ≤ i) && decide (i ≤ b))) H at q
        rw [decide_eq_true (of_decide_eq_true h)] at q
        exact q
      · change Q (.bl (decide (a ≤ i) && decide (i ≤ b))) H at q
        rw [decide_eq_false (of_decide_eq_false (by simpa using h))] at q
        exact q
    | _ => exact ⟨_, rfl, q⟩
end
end HT
namespace HT
open PySem L2
/-- a def of which errors may come, and its call -/
structure CalX (P : Program) (w : World) (K : PySem.W.Frag) (mg : Str → Option Value) (base : Heap) (x : Str) (k : Nat) (ps : List Str) (sp : Sp) (f : Addr) (fd : FuncData) : Prop where
  ok : FnOk P w K mg base (L2.CX P w) k f fd ps sp
  mgf : mg x = some (.ref f)
  kp : PySem.W.keepIn K (.ref f) = true
  b : Binds K fd ps []
theorem pcx {X : Cx} {x : Str} {k j : Nat} {ps : List Str} {sp : Sp} {f : Addr} {fd : FuncData} {e : Expr} {es : List Expr} {t : TA} {p pos : Pos} {W : WX} (C : CalX X.prog X.w X.K X.mg X.base x k ps sp f fd) (hr : Room j X.A) (hj : k ≤ j) (hg : Gl X x) (tk : L2.Takes X W) (ha : PA X (e :: es) t)
    (hdb : (x == ("__debug__" : Str)) = false := by decide) (he : starEach (e :: es) X.env = (false, eval e X.env) :: starEach es X.env := by rfl) (hpl : (backTo pos (starEach es X.env)).any (·.1) = false := by rfl) : PE X (.Call (.Name x p) (e :: es) [] pos) (tCallS sp (WE W) t) :=
  pe_callS C.ok (hr.mono hj) hg C.mgf C.kp C.b (fun σ => L2.passAt tk σ) ha hdb he hpl
end HT
namespace PySem.SeqAt
open PySem PySem.Calls MeetsSeq
theorem str_eq_declines_dict (b : Str) (u : Tok) (l : Addr) (es : Array DictEntry) (ep : Nat) (dd : Option Addr) (sl : Array (Option Value)) :
    Meets (Builtin.«str.__eq__» ⟨[.str b u, .ref l], []⟩) (fun _ R s => s.heap.get? l = some { cls := .type "dict", dict := dd, data := .dict es ep, slots := sl } ∧ R (.ok (.ret .notImplemented)) s) :=
  .of_wp fun prog w A R s h => by obtain ⟨hp, g, d, tk, os⟩ := s; obtain ⟨hl, h⟩ := h; wp_walk using wpAny_loadPart' hl, wpAny_load hl; exact ⟨_, rfl, h⟩
theorem dict_eq_declines_str (l : Addr) (es : Array DictEntry) (ep : Nat) (dd : Option Addr) (sl : Array (Option Value)) (b : Str) (u : Tok) :
    Meets (Builtin.«dict.__eq__» ⟨[.ref l, .str b u], []⟩) (fun _ R s => s.heap.get? l = some { cls := .type "dict", dict := dd, data := .dict es ep, slots := sl } ∧ R (.ok (.ret .notImplemented)) s) :=
  .of_wp fun prog w A R s h => by obtain ⟨hp, g, d, tk, os⟩ := s; obtain ⟨hl, h⟩ := h; have f1 := F.sub_str_dict; wp_walk using wpAny_loadPart' hl, wpAny_load hl; exact ⟨_, rfl, h⟩
end PySem.SeqAt
namespace PySem.SeqAt
open PySem PySem.Calls MeetsSeq
section
variable {A : Around} {s : Shared}
theorem RcAt.str_dict {l : Addr} {es : Array DictEntry} {ep : Nat} {dd : Option Addr} {sl : Array (Option Value)} (b : Str) (u : Tok) (ho : s.heap.get? l = some { cls := .type "dict", dict := dd, data := .dict es ep, slots := sl }) (hu : A.units < cLine) : RcAt A s (.str b u) (.ref l) false := fun prog w E Q h => by
  exact rc_eq_decline_or (k := false) (typeIs_str s b u) ⟨_, ho, rfl⟩ (by decide) F.sub_dict_str F.slot_str_eq F.slot_dict_eq_refl
    (fun _ hq => call_meets F.slot_str_eq (typeIs_str s b u) F.entry_str_eq (F.args_str_eq_2 _ _) (str_eq_declines_dict b u l es ep dd sl) ⟨ho, hq⟩)
    (fun _ hq => call_meets F.slot_dict_eq_refl ⟨_, ho, rfl⟩ F.entry_dict_eq (F.args_dict_eq_2 _ _) (dict_eq_declines_str l es ep dd sl b u) ⟨ho, hq⟩)
    (fun _ hq => wpAny_of_eq (rfl : isSame (.str b u) (.ref l) = pure false) hq) (.inr hu) h
theorem EqAt.str_dict {l : Addr} {es : Array DictEntry} {ep : Nat} {dd : Option Addr} {sl : Array (Option Value)} (b : Str) (u : Tok) (ho : s.heap.get? l = some { cls := .type "dict", dict := dd, data := .dict es ep, slots := sl }) (hu : A.units < cLine) : EqAt A s (.str b u) (.ref l) false := fun prog w E Q h => by
  unfold eqBool
  refine wpAny_holding ?_
  refine wpAny_ite_split (fun hab => absurd (eq_of_beq hab) nofun) (fun _ => ?_)
  exact wpAny_bind (RcAt.str_dict b u ho hu prog w E _ (wpAny_truthy_bool h))
end
end PySem.SeqAt
namespace HT
open PySem L2
def eqS (y : Str) (x : V) : Bool := match x with
  | .str s => y == s
  | _ => false
theorem eqTh {X : Cx} {pins : List (Addr × Obj)} {σ : St} {H : Hp} {s : Shared} {A : Around} (I : Inv X pins σ H s) {x : V} {n : String} (t : Th H x n) {v : Value} (r : RelV x v) (hu : A.units < cLine) (y : Str) (k : Tok) : SeqAt.EqAt A s (.str y k) v (eqS y x) := by
  cases t with
  | int i => obtain ⟨t, rfl⟩ := r; exact SeqAt.EqAt.str_int y k i t
  | bl b => cases r; exact SeqAt.EqAt.str_bool y k b
  | non => cases r; exact SeqAt.EqAt.str_none y k
  | str z => obtain ⟨t, rfl⟩ := r; exact SeqAt.EqAt.str_str y k z t
  | tup h =>
    cases r
    obtain ⟨its, rv, it, _⟩ := I.tuple (SqT.of h)
    exact SeqAt.EqAt.str_tuple y k it hu
  | lst h =>
    cases r
    obtain ⟨its, rv, pl, _⟩ := I.list (SqL.of h)
    exact SeqAt.EqAt.str_list y k pl.isList hu
  | dk h =>
    cases r
    obtain ⟨_, _, vs, _, o, es, ep, ho, ⟨hc, hd, hs⟩, hda, _⟩ := dk_of I.hok h
    obtain ⟨cls, dd, data, sl⟩ := o
    simp only at hc hda
    subst hc hda
    exact SeqAt.EqAt.str_dict y k ho hu
/-- a thing in a tuple of texts -/
def rInTh (K : PySem.W.Frag) : R2 := fun x y H Q => ∃ (n : String) (p : Addr) (ms : List Str), Th H x n ∧ y = .ref p ∧ SqT K H p (ms.map V.str) ∧ Q (.bl (List.any ms fun m => eqS m x)) H
def eqW (x : V) (u : Value) : Bool := match u with
  | .str y _ => eqS y x
  | _ => false
theorem any_eqW {x : V} : ∀ {ms : List Str} {us : List Value}, Vals (ms.map V.str) us → List.any us (eqW x) = List.any ms fun m => eqS m x
  | [], _, r => by cases r; rfl
  | m :: ms, _, r => by
    cases r with
    | cons r1 r2 =>
      obtain ⟨t, rfl⟩ := r1
      rw [List.any_cons, List.any_cons, any_eqW r2]
      rfl
theorem mem_str : ∀ {ms : List Str} {us : List Value}, Vals (ms.map V.str) us → ∀ u ∈ us, ∃ y k, u = .str y k
  | [], _, r => fun u h => by cases r; cases h
  | m :: ms, _, r => fun u h => by
    cases r with
    | cons r1 r2 =>
      obtain ⟨t, rfl⟩ := r1
      rcases List.mem_cons.mp h with rfl | h
      · exact ⟨_, _, rfl⟩
      · exact mem_str r2 u h
theorem op_inTh {X : Cx} (hu : X.A.units + 64 < cLine) : OpR X (compareOp .In) (rInTh X.K) := by
  intro pins s σ H x y v u Q I rx ry h
  obtain ⟨n, p, ms, t, rfl, hq, q⟩ := h
  cases ry
  obtain ⟨its, r, pl, hz⟩ := I.tuple hq
  refine SeqAt.in_tupleAt (eqW x) pl (fun w hw => ?_) ⟨.bl _, H, I, rfl, ?_⟩
  · obtain ⟨z, k, rfl⟩ := mem_str r w (by simpa using hw)
    exact eqTh I t rx (by show X.A.units + 1 < cLine; omega) z k
  · rw [show its.toArray.any (eqW x) = List.any its (eqW x) by simp, any_eqW r]
    exact q
end HT
namespace HT
open PySem L2
def modesS : List Str := ["down", "up", "half_down", "half_up", "half_even"]
/-- a thing that is not in a tuple of texts -/
def rNotInTh (K : PySem.W.Frag) : R2 := fun x y H Q => ∃ (n : String) (p : Addr) (ms : List Str), Th H x n ∧ y = .ref p ∧ SqT K H p (ms.map V.str) ∧ Q (.bl (!List.any ms fun m => eqS m x)) H
theorem op_notInTh {X : Cx} (hu : X.A.units + 64 < cLine) : OpR X (compareOp .NotIn) (rNotInTh X.K) := by
  intro pins s σ H x y v u Q I rx ry h
  obtain ⟨n, p, ms, t, rfl, hq, q⟩ := h
  cases ry
  obtain ⟨its, r, pl, hz⟩ := I.tuple hq
  refine SeqAt.notIn_tupleAt (eqW x) pl (fun w hw => ?_) ⟨.bl _, H, I, rfl, ?_⟩
  · obtain ⟨z, k, rfl⟩ := mem_str r w (by simpa using hw)
    exact eqTh I t rx (by show X.A.units + 1 < cLine; omega) z k
  · rw [show its.toArray.any (eqW x) = List.any its (eqW x) by simp, any_eqW r]
    exact q
end HT
namespace HT
open PySem L2
/-! ### pick, great, side -/
def spPick : Sp := fun vs H Q _ => ∃ (a c : Addr) (t : Nat) (l : Addr) (xs : List V), vs = [.ref a, .ref l] ∧ Src H a c t ∧ t < 2 ^ 30 ∧ H l = some (.lst xs) ∧ l ≠ a ∧ l ≠ c ∧ 0 < xs.length ∧ xs.length < 2 ^ 60 ∧
  ∀ x H', x ∈ xs → Src H' a c (t + 1) → Oth a c H H' → Q x H'
def spGreat : Sp := fun vs H Q _ => ∃ (a c : Addr) (t n : Nat), vs = [.ref a, .int (n : Int)] ∧ Src H a c t ∧ n ≤ 1000 ∧ t + n < 2 ^ 30 ∧
  ∀ k H', 0 ≤ k → k < 10 ^ n → Src H' a c (t + n) → Oth a c H H' → Q (.int k) H'
/-- the modes -/
def Mode (m : Str) : Prop := m = "down" ∨ m = "up" ∨ m = "half_down" ∨ m = "half_up" ∨ m = "half_even"
/-- a side's parts -/
structure SideP (o s : Int) (m : Str) : Prop where
  o0 : -10 ^ 40 ≤ o
  o1 : o ≤ 10 ^ 40
  s0 : 1 ≤ s
  s1 : s ≤ 10 ^ 30
  md : Mode m
def sideV (o s : Int) (m : Str) : HO := .tup [.int o, .int s, .str m]
def spSide : Sp := fun vs H Q _ => ∃ (a c : Addr) (t n : Nat), vs = [.ref a, .int (n : Int)] ∧ Src H a c t ∧ 1 ≤ n ∧ n ≤ 40 ∧ t + 200 < 2 ^ 30 ∧
  ∀ p o s m H' t', H p = none → H' p = some (sideV o s m) → SideP o s m → t' ≤ t + 200 → Src H' a c t' → Oth a c H H' → Q (.ref p) H'
theorem lg_nat {n : Nat} (h : n < 2 ^ 200) : ((n : Int)).natAbs.log2 < 9000 := by
  rw [Int.natAbs_natCast]
  by_cases e : n = 0
  · rw [e]; decide
  · have := (Nat.log2_lt e).mpr h
    omega
theorem lg_small {n : Int} (h0 : 0 ≤ n) (h : n < 2 ^ 64) : n.natAbs.log2 < 9000 := by
  obtain ⟨m, rfl⟩ := Int.eq_ofNat_of_zero_le h0
  exact lg_nat (Nat.lt_of_lt_of_le (by omega : m < 2 ^ 64) (Nat.pow_le_pow_right (by decide) (by decide)))
section
variable {P : Program} {w : World} {K : PySem.W.Frag} {mg : Str → Option Value} {base : Heap} {fD fP fG : Addr} {dD dP dG : FuncData}
theorem ok_pick {f : Addr} {fd : FuncData} (F : Fun K "_law_pick" "_law_pick" s_L_pick f fd) (B : Blt mg) (D : Cal P w K mg base "_law_draw" 1 ["_law_source_here", "_law_limit"] spDraw fD dD) :
    FnOk P w K mg base CX0 2 f fd ["_law_source_here", "_law_values"] spPick := by
  refine F.ok sc_L_pick (fun vs H Q E h => ?_) (fun cdv A outer s H vs Q E hr h => ?_)
  · obtain ⟨a, c, t, l, xs, rfl, _⟩ := h
    rfl
  · obtain ⟨a, c, t, l, xs, rfl, S, ht, hl, na, nc, h0, h1, q⟩ := h
    refine ⟨_, pss_one (ps_ret (pe_ix ix_list (pv 1) (pcl D hr (by decide) (by rfl) (pa_cons (pv 0) (pa_cons (pe_callB call_len_seq (by rfl) B.len PySem.boot_len (pa_cons (pv 1) pa_nil)) pa_nil))) (fun _ _ => rfl))), ?_⟩
    walk_at "rd"
    refine ⟨l, _, rfl, .inl (SqL.of hl), ?_⟩
    have p1 : (0 : Int) < (xs.length : Int) := by omega
    refine ⟨a, c, t, _, rfl, S, ht, p1, lg_nat (Nat.lt_of_lt_of_le h1 (Nat.pow_le_pow_right (by decide) (by decide))), fun k H' k0 k1 S' O => ?_⟩
    have hl' : k.toNat < xs.length := by omega
    have e : atI xs k = some xs[k.toNat] := by
      unfold atI
      rw [ixN_in k0 k1]
      exact List.getElem?_eq_getElem hl'
    refine ⟨l, _, _, _, rfl, rfl, SqL.of (O _ _ hl na nc), e, ?_⟩
    exact q _ _ (List.getElem_mem hl') S' O
theorem ok_great {f : Addr} {fd : FuncData} (F : Fun K "_law_great" "_law_great" s_L_great f fd) (B : Blt mg) (D : Cal P w K mg base "_law_draw" 1 ["_law_source_here", "_law_limit"] spDraw fD dD) :
    FnOk P w K mg base CX0 2 f fd ["_law_source_here", "_law_digits"] spGreat := by
  refine F.ok sc_L_great (fun vs H Q E h => ?_) (fun cdv A outer s H vs Q E hr h => ?_)
  · obtain ⟨a, c, t, n, rfl, _⟩ := h
    rfl
  · obtain ⟨a, c, t, n, rfl, S, hn, ht, q⟩ := h
    have nd := sc_L_great.nd
    refine ⟨_, pss_cons (ps_set (i := 2) nd rfl (Or.inl rfl) pe_int)
      (pss_cons (ps_for PassesOwn.never rfl (pi_range1 (by rfl) B.range (pa_cons (pv 1) pa_nil)) (pg_name (i := 3) nd rfl (Or.inl rfl))
        (pss_one (ps_set (i := 2) nd rfl (Or.inl rfl) (pe_op op_add (pe_op op_mul (pv 2) pe_int) (pcl D hr (by decide) (by rfl) (pa_cons (pv 0) (pa_cons pe_int pa_nil)))))))
      (pss_one (ps_ret (pv 2)))), ?_⟩
    walk_at "rd"
    refine ⟨by omega, by omega, ?_⟩
    rw [Int.toNat_natCast]
    refine for_range (fun i σ H' => ∃ (k : Int) (kv : Option V), σ = [some (.ref a), some (.int (n : Int)), some (.int k), kv] ∧ 0 ≤ k ∧ k < 10 ^ i ∧ Src H' a c (t + i) ∧ Oth a c H H') ⟨0, none, rfl, by decide, by decide, S, Oth.refl _ _ _⟩ ?_ ?_
    · rintro i σ H' hi ⟨k, kv, rfl, k0, k1, S', O⟩
      walk_at "rd"
      refine ⟨.inr ⟨by decide, by decide⟩, ?_⟩
      walk_at "rd"
      refine ⟨a, c, t + i, _, rfl, S', by omega, (by show (0 : Int) < 10; decide), (by show (10 : Int).natAbs.log2 < 9000; decide), fun y H2 y0 y1 S2 O2 => ?_⟩
      walk_at "rd"
      have y1' : y < 10 := y1
      refine ⟨_, _, rfl, (by show 0 ≤ k * 10 + y; omega), (by show k * 10 + y < 10 ^ (i + 1); rw [Int.pow_succ]; omega), S2, O.trans O2⟩
    · rintro σ H' ⟨k, kv, rfl, k0, k1, S', O⟩
      walk_at "rd"
      exact q _ _ k0 k1 S' O
theorem pow10_le {n : Nat} (h : n ≤ 40) : (10 : Int) ^ n ≤ 10 ^ 40 := by
  have : (10 : Nat) ^ n ≤ 10 ^ 40 := Nat.pow_le_pow_right (by decide) h
  exact_mod_cast this
theorem mode_of {x : V} (h : x ∈ [V.str "down", .str "up", .str "half_down", .str "half_up", .str "half_even"]) : ∃ m : Str, x = .str m ∧ Mode m := by
  simp only [List.mem_cons, List.not_mem_nil, or_false] at h
  rcases h with h | h | h | h | h
  · exact ⟨_, h, .inl rfl⟩
  · exact ⟨_, h, .inr (.inl rfl)⟩
  · exact ⟨_, h, .inr (.inr (.inl rfl))⟩
  · exact ⟨_, h, .inr (.inr (.inr (.inl rfl)))⟩
  · exact ⟨_, h, .inr (.inr (.inr (.inr rfl)))⟩
theorem sgn_of {x : V} (h : x ∈ [V.int 1, .int (-1), .int 0]) : ∃ j : Int, x = .int j ∧ (j = 1 ∨ j = -1 ∨ j = 0) := by
  simp only [List.mem_cons, List.not_mem_nil, or_false] at h
  rcases h with h | h | h
  · exact ⟨_, h, .inl rfl⟩
  · exact ⟨_, h, .inr (.inl rfl)⟩
  · exact ⟨_, h, .inr (.inr rfl)⟩
theorem ok_side {f : Addr} {fd : FuncData} (F : Fun K "_law_side" "_law_side" s_L_side f fd) (B : Blt mg) (D : Cal P w K mg base "_law_draw" 1 ["_law_source_here", "_law_limit"] spDraw fD dD)
    (Pk : Cal P w K mg base "_law_pick" 2 ["_law_source_here", "_law_values"] spPick fP dP) (G : Cal P w K mg base "_law_great" 2 ["_law_source_here", "_law_digits"] spGreat fG dG) :
    FnOk P w K mg base CX0 3 f fd ["_law_source_here", "_law_digits"] spSide := by
  refine F.ok sc_L_side (fun vs H Q E h => ?_) (fun cdv A outer s H vs Q E hr h => ?_)
  · obtain ⟨a, c, t, n, rfl, _⟩ := h
    rfl
  · obtain ⟨a, c, t, n, rfl, S, hn0, hn, ht, q⟩ := h
    have nd := sc_L_side.nd
    refine ⟨_, pss_cons (ps_set (i := 2) nd rfl (Or.inl rfl) (pe_op op_add pe_int (pe_op op_mod (pcl G hr (by decide) (by rfl) (pa_cons (pv 0) (pa_cons (pe_op op_add pe_int (pcl D hr (by decide) (by rfl) (pa_cons (pv 0) (pa_cons (pv 1) pa_nil)))) pa_nil))) (pe_op op_pow pe_int pe_int))))
      (pss_cons (ps_if (pt_cmpR op_eq (pcl D hr (by decide) (by rfl) (pa_cons (pv 0) (pa_cons pe_int pa_nil))) pe_int (nomark _))
        (pss_one (ps_set (i := 2) nd rfl (Or.inl rfl) (pe_op op_add pe_int (pcl D hr (by decide) (by rfl) (pa_cons (pv 0) (pa_cons pe_int pa_nil)))))) pss_nil)
      (pss_cons (ps_set (i := 3) nd rfl (Or.inl rfl) (pe_op op_mul (pcl G hr (by decide) (by rfl) (pa_cons (pv 0) (pa_cons (pe_op op_add pe_int (pcl D hr (by decide) (by rfl) (pa_cons (pv 0) (pa_cons (pv 1) pa_nil)))) pa_nil)))
        (pcl Pk hr (by decide) (by rfl) (pa_cons (pv 0) (pa_cons (pe_lst (pa_cons pe_int (pa_cons (pe_un un_neg pe_int) (pa_cons pe_int pa_nil)))) pa_nil)))))
      (pss_one (ps_ret (pe_tup (pa_cons (pv 3) (pa_cons (pv 2) (pa_cons (pcl Pk hr (by decide) (by rfl) (pa_cons (pv 0) (pa_cons (pe_lst (pa_cons pe_str (pa_cons pe_str (pa_cons pe_str (pa_cons pe_str (pa_cons pe_str pa_nil)))))) pa_nil))) pa_nil)))))))), ?_⟩
    have nl0 : (0 : Int) < (n : Int) := by omega
    have nl9 : ((n : Int)).natAbs.log2 < 9000 := lg_nat (Nat.lt_of_lt_of_le (by omega : n < 2 ^ 64) (Nat.pow_le_pow_right (by decide) (by decide)))
    -- step
    walk_at "rd"
    refine ⟨a, c, t, _, rfl, S, by omega, nl0, nl9, fun k1 H1 k10 k11 S1 O1 => ?_⟩
    obtain ⟨m1, rfl⟩ := Int.eq_ofNat_of_zero_le k10
    walk_at "rd"
    have g1 : (1 : Int) + (m1 : Int) = ((m1 + 1 : Nat) : Int) := by omega
    refine ⟨a, c, t + 1, m1 + 1, (by show [V.ref a, V.int (1 + (m1 : Int))] = _; rw [g1]), S1, by omega, by omega, fun k2 H2 k20 k21 S2 O2 => ?_⟩
    walk_at "rd"
    refine ⟨⟨by decide, by decide, by decide⟩, ?_⟩
    walk_at "rd"
    refine ⟨(by show (0 : Int) < 10 ^ (30 : Int).toNat; decide), ?_⟩
    walk_at "rd"
    have st0 : (1 : Int) ≤ 1 + k2 % 10 ^ (30 : Int).toNat := by
      have := Int.emod_nonneg k2 (show (10 : Int) ^ (30 : Int).toNat ≠ 0 by decide)
      omega
    have st1 : 1 + k2 % (10 : Int) ^ (30 : Int).toNat ≤ 10 ^ 30 := by
      have := Int.emod_lt_of_pos k2 (show (0 : Int) < 10 ^ (30 : Int).toNat by decide)
      have e : (10 : Int) ^ (30 : Int).toNat = 10 ^ 30 := by decide
      omega
    refine ⟨a, c, t + 1 + (m1 + 1), _, rfl, S2, by omega, (by show (0 : Int) < 3; decide), (by show (3 : Int).natAbs.log2 < 9000; decide), fun k3 H3 k30 k31 S3 O3 => ?_⟩
    walk_at "rd"
    have O13 : Oth a c H H3 := (O1.trans O2).trans O3
    refine ⟨rfl, ?_⟩
    walk_at "rd"
    refine ite2 (fun _ => ?A) (fun _ => ?B)
    case' A =>
      walk_at "rd"
      refine ⟨a, c, _, _, rfl, S3, by omega, (by show (0 : Int) < 12; decide), (by show (12 : Int).natAbs.log2 < 9000; decide), fun k4 H4 k40 k41 S4 O4 => ?_⟩
      walk_at "rd"
      have k41' : k4 < 12 := k41
      have hs0 : 1 ≤ 1 + k4 := by omega
      have hs1 : 1 + k4 ≤ 10 ^ 30 := by omega
      obtain ⟨t5, ht5, S5⟩ : ∃ t5, t5 ≤ t + 100 ∧ Src H4 a c t5 := ⟨_, (by omega), S4⟩
      have O5 := O13.trans O4
    case' B =>
      have hs0 := st0
      have hs1 := st1
      obtain ⟨t5, ht5, S5⟩ : ∃ t5, t5 ≤ t + 100 ∧ Src H3 a c t5 := ⟨_, (by omega), S3⟩
      have O5 := O13
    all_goals
      walk_at "rd"
      refine ⟨a, c, t5, _, rfl, S5, by omega, nl0, nl9, fun k6 H6 k60 k61 S6 O6 => ?_⟩
      obtain ⟨m6, rfl⟩ := Int.eq_ofNat_of_zero_le k60
      walk_at "rd"
      have g6 : (1 : Int) + (m6 : Int) = ((m6 + 1 : Nat) : Int) := by omega
      refine ⟨a, c, t5 + 1, m6 + 1, (by show [V.ref a, V.int (1 + (m6 : Int))] = _; rw [g6]), S6, by omega, by omega, fun k7 H7 k70 k71 S7 O7 => ?_⟩
      walk_at "rd"
      refine ⟨(by show 3 ≤ sizeLine; decide), fun l nl => ?_⟩
      obtain ⟨la, lc⟩ := S7.na nl
      refine ⟨a, c, _, l, _, rfl, S7.new nl, by omega, upd_same, la, lc, by decide, by decide, fun x H8 hx S8 O8 => ?_⟩
      obtain ⟨j, rfl, hj⟩ := sgn_of hx
      walk_at "rd"
      refine ⟨.inr (by rcases hj with e | e | e <;> subst e <;> exact ⟨by decide, by decide⟩), ?_⟩
      have z7 : k7 < 10 ^ 40 := Int.lt_of_lt_of_le k71 (pow10_le (by omega))
      have of0 : -10 ^ 40 ≤ k7 * j := by rcases hj with e | e | e <;> subst e <;> omega
      have of1 : k7 * j ≤ 10 ^ 40 := by rcases hj with e | e | e <;> subst e <;> omega
      have O8' : Oth a c H H8 := (((O5.trans O6).trans O7).new nl).trans O8
      walk_at "rd"
      refine ⟨(by show 5 ≤ sizeLine; decide), fun l2 nl2 => ?_⟩
      obtain ⟨la2, lc2⟩ := S8.na nl2
      refine ⟨a, c, _, l2, _, rfl, S8.new nl2, by omega, upd_same, la2, lc2, by decide, by decide, fun x2 H9 hx2 S9 O9 => ?_⟩
      obtain ⟨md, rfl, hmd⟩ := mode_of hx2
      refine ⟨(by show 3 ≤ sizeLine; decide), fun p np => ?_⟩
      have O9' : Oth a c H H9 := (O8'.new nl2).trans O9
      have npH : H p = none := by
        cases e : H p with
        | none => rfl
        | some o =>
          by_cases ea : p = a
          · subst ea
            rw [S9.ob] at np
            cases np
          · by_cases ec : p = c
            · subst ec
              obtain ⟨cs, z, _⟩ := S9.cl
              rw [z] at np
              cases np
            · have z := O9' p o e ea ec
              rw [np] at z
              cases z
      refine q p _ _ md _ _ npH upd_same ⟨of0, of1, hs0, hs1, hmd⟩ ?_ (S9.new np) (O9'.new np)
      omega
end
end HT
namespace HT
open PySem L2
/-! ### the mathematics of a side -/
def goesUp (m : Str) (s q r : Int) : Bool := if m = "down" then false else if m = "up" then decide (0 < r) else if 2 * r = s then (if m = "half_even" then decide (q % 2 = 1) else decide (m = "half_up")) else decide (s < 2 * r)
/-- the figure to which v comes -/
def figM (o s : Int) (m : Str) (v : Int) : Int := if goesUp m s ((v - o) / s) ((v - o) % s) = true then (v - o) / s + 1 else (v - o) / s
def dueM (o s : Int) (m : Str) (v : Int) : Int := o + s * figM o s m v
theorem d_u : ¬ (("up" : Str) = "down") := by decide +kernel
theorem hd_d : ¬ (("half_down" : Str) = "down") := by decide +kernel
theorem hd_u : ¬ (("half_down" : Str) = "up") := by decide +kernel
theorem hu_d : ¬ (("half_up" : Str) = "down") := by decide +kernel
theorem hu_u : ¬ (("half_up" : Str) = "up") := by decide +kernel
theorem he_d : ¬ (("half_even" : Str) = "down") := by decide +kernel
theorem he_u : ¬ (("half_even" : Str) = "up") := by decide +kernel
theorem hd_e : ¬ (("half_down" : Str) = "half_even") := by decide +kernel
theorem hu_e : ¬ (("half_up" : Str) = "half_even") := by decide +kernel
theorem hd_hu : ¬ (("half_down" : Str) = "half_up") := by decide +kernel
theorem he_hu : ¬ (("half_even" : Str) = "half_up") := by decide +kernel
theorem u_hd : ¬ (("up" : Str) = "half_down") := by decide +kernel
theorem hu_hd : ¬ (("half_up" : Str) = "half_down") := by decide +kernel
theorem he_hd : ¬ (("half_even" : Str) = "half_down") := by decide +kernel
theorem go_down (s q r : Int) : goesUp "down" s q r = false := by unfold goesUp; rw [if_pos rfl]
theorem go_up (s q r : Int) : goesUp "up" s q r = decide (0 < r) := by unfold goesUp; rw [if_neg d_u, if_pos rfl]
theorem go_hd (s q r : Int) : goesUp "half_down" s q r = decide (s < 2 * r) := by
  unfold goesUp
  rw [if_neg hd_d, if_neg hd_u, if_neg hd_e, decide_eq_false hd_hu]
  by_cases h : 2 * r = s
  · rw [if_pos h, decide_eq_false (by omega)]
  · rw [if_neg h]
theorem go_hu (s q r : Int) : goesUp "half_up" s q r = decide (s ≤ 2 * r) := by
  unfold goesUp
  rw [if_neg hu_d, if_neg hu_u, if_neg hu_e, decide_eq_true rfl]
  by_cases h : 2 * r = s
  · rw [if_pos h, decide_eq_true (by omega)]
  · rw [if_neg h]
    by_cases g : s < 2 * r
    · rw [decide_eq_true g, decide_eq_true (by omega)]
    · rw [decide_eq_false g, decide_eq_false (by omega)]
theorem go_he (s q r : Int) : goesUp "half_even" s q r = (decide (s < 2 * r) || (decide (2 * r = s) && decide (q % 2 = 1))) := by
  unfold goesUp
  rw [if_neg he_d, if_neg he_u, if_pos rfl]
  by_cases h : 2 * r = s
  · rw [if_pos h, decide_eq_false (show ¬ s < 2 * r by omega), decide_eq_true h]
    rfl
  · rw [if_neg h, decide_eq_false h]
    simp
/-- what is known of a figure -/
structure Fig (o s : Int) (m : Str) (v q r k : Int) : Prop where
  eq : v - o = s * q + r
  r0 : 0 ≤ r
  r1 : r < s
  wh : (goesUp m s q r = true ∧ k = q + 1) ∨ (goesUp m s q r = false ∧ k = q)
theorem fig_of {o s : Int} {m : Str} {v : Int} (hs : 1 ≤ s) : Fig o s m v ((v - o) / s) ((v - o) % s) (figM o s m v) := by
  refine ⟨?_, Int.emod_nonneg _ (by omega), Int.emod_lt_of_pos _ (by omega), ?_⟩
  · have := Int.mul_ediv_add_emod (v - o) s
    omega
  · unfold figM
    cases h : goesUp m s ((v - o) / s) ((v - o) % s)
    · exact .inr ⟨rfl, by simp⟩
    · exact .inl ⟨rfl, by simp⟩
theorem divmod_eq {s q r x : Int} (hs : 1 ≤ s) (h : x = s * q + r) (r0 : 0 ≤ r) (r1 : r < s) : x / s = q ∧ x % s = r := by
  subst h
  constructor
  · rw [Int.add_comm, Int.add_mul_ediv_left _ _ (by omega), Int.ediv_eq_zero_of_lt r0 r1]
    omega
  · rw [Int.add_comm, Int.add_mul_emod_self_left]
    exact Int.emod_eq_of_lt r0 r1
theorem fig_uniq {o s : Int} {m : Str} {v q r k : Int} (hs : 1 ≤ s) (F : Fig o s m v q r k) : figM o s m v = k := by
  obtain ⟨e1, e2⟩ := divmod_eq hs F.eq F.r0 F.r1
  unfold figM
  rw [e1, e2]
  rcases F.wh with ⟨h, e⟩ | ⟨h, e⟩
  · rw [h, if_pos rfl, e]
  · rw [h, if_neg (by decide), e]
/-- going up wants a rest, and not going up a small one -/
theorem go_pos {m : Str} {s q r : Int} (hm : Mode m) (hs : 1 ≤ s) (r0 : 0 ≤ r) (h : goesUp m s q r = true) : 0 < r := by
  rcases hm with e | e | e | e | e <;> subst e
  · rw [go_down] at h; cases h
  · rw [go_up] at h; exact of_decide_eq_true h
  · rw [go_hd] at h; have := of_decide_eq_true h; omega
  · rw [go_hu] at h; have := of_decide_eq_true h; omega
  · rw [go_he, Bool.or_eq_true, Bool.and_eq_true] at h
    rcases h with h | ⟨h, _⟩ <;> have := of_decide_eq_true h <;> omega
theorem due_near {o s : Int} {m : Str} {v : Int} (hm : Mode m) (hs : 1 ≤ s) : dueM o s m v - v < s ∧ v - dueM o s m v < s := by
  have F := fig_of (o := o) (m := m) (v := v) hs
  unfold dueM
  generalize (v - o) / s = q at F
  generalize (v - o) % s = r at F
  obtain ⟨eq, r0, r1, wh⟩ := F
  rcases wh with ⟨h, e⟩ | ⟨h, e⟩
  · have := go_pos hm hs r0 h
    rw [e, Int.mul_add, Int.mul_one]
    generalize s * q = z at eq ⊢
    omega
  · rw [e]
    generalize s * q = z at eq ⊢
    omega
def half (m : Str) : Prop := m = "half_down" ∨ m = "half_up" ∨ m = "half_even"
theorem due_half {o s : Int} {m : Str} {v : Int} (hm : half m) (hs : 1 ≤ s) : 2 * (dueM o s m v - v) ≤ s ∧ 2 * (v - dueM o s m v) ≤ s := by
  have F := fig_of (o := o) (m := m) (v := v) hs
  unfold dueM
  generalize (v - o) / s = q at F
  generalize (v - o) % s = r at F
  obtain ⟨eq, r0, r1, wh⟩ := F
  have hb : (goesUp m s q r = true → s ≤ 2 * r) ∧ (goesUp m s q r = false → 2 * r ≤ s) := by
    rcases hm with e | e | e <;> subst e
    · rw [go_hd]; exact ⟨fun h => by have := of_decide_eq_true h; omega, fun h => by have := of_decide_eq_false h; omega⟩
    · rw [go_hu]; exact ⟨fun h => by have := of_decide_eq_true h; omega, fun h => by have := of_decide_eq_false h; omega⟩
    · rw [go_he]
      refine ⟨fun h => ?_, fun h => ?_⟩
      · rw [Bool.or_eq_true, Bool.and_eq_true] at h
        rcases h with h | ⟨h, _⟩ <;> have := of_decide_eq_true h <;> omega
      · rw [Bool.or_eq_false_iff] at h
        have := of_decide_eq_false h.1
        omega
  rcases wh with ⟨h, e⟩ | ⟨h, e⟩
  · have := hb.1 h
    rw [e, Int.mul_add, Int.mul_one]
    generalize s * q = z at eq ⊢
    omega
  · have := hb.2 h
    rw [e]
    generalize s * q = z at eq ⊢
    omega
theorem go_zero {m : Str} {s q : Int} (hm : Mode m) (hs : 1 ≤ s) : goesUp m s q 0 = false := by
  cases h : goesUp m s q 0 with
  | false => rfl
  | true => exact absurd (go_pos hm hs (Int.le_refl _) h) (by omega)
/-- what is written stands and is written as it is -/
theorem fig_at {o s k : Int} {m : Str} (hm : Mode m) (hs : 1 ≤ s) : figM o s m (o + s * k) = k :=
  fig_uniq (q := k) (r := 0) hs ⟨by omega, Int.le_refl _, by omega, .inr ⟨go_zero hm hs, rfl⟩⟩
theorem stands_at {o s k : Int} : (o + s * k - o) % s = 0 := by
  rw [show o + s * k - o = s * k by omega]
  exact Int.mul_emod_right s k
theorem due_eq {o s : Int} {m : Str} {v : Int} (hm : Mode m) (hs : 1 ≤ s) : (v - o) % s = 0 ↔ dueM o s m v = v := by
  have F := fig_of (o := o) (m := m) (v := v) hs
  unfold dueM
  generalize (v - o) / s = q at F
  generalize (v - o) % s = r at F ⊢
  obtain ⟨eq, r0, r1, wh⟩ := F
  rcases wh with ⟨h, e⟩ | ⟨h, e⟩
  · have := go_pos hm hs r0 h
    rw [e, Int.mul_add, Int.mul_one]
    generalize s * q = z at eq ⊢
    omega
  · rw [e]
    generalize s * q = z at eq ⊢
    omega
theorem go_mono {m : Str} {s q r : Int} (hm : Mode m) (h : goesUp m s q r = true) : goesUp m s q (r + 1) = true := by
  rcases hm with e | e | e | e | e <;> subst e
  · rw [go_down] at h; cases h
  · rw [go_up] at h ⊢; have := of_decide_eq_true h; exact decide_eq_true (by omega)
  · rw [go_hd] at h ⊢; have := of_decide_eq_true h; exact decide_eq_true (by omega)
  · rw [go_hu] at h ⊢; have := of_decide_eq_true h; exact decide_eq_true (by omega)
  · rw [go_he] at h ⊢
    have : s ≤ 2 * r := by
      rw [Bool.or_eq_true, Bool.and_eq_true] at h
      rcases h with h | ⟨h, _⟩ <;> have := of_decide_eq_true h <;> omega
    rw [decide_eq_true (show s < 2 * (r + 1) by omega)]
    rfl
theorem fig_mono {o s : Int} {m : Str} {v : Int} (hm : Mode m) (hs : 1 ≤ s) : figM o s m v ≤ figM o s m (v + 1) := by
  have F := fig_of (o := o) (m := m) (v := v) hs
  generalize (v - o) / s = q at F
  generalize (v - o) % s = r at F
  obtain ⟨eq, r0, r1, wh⟩ := F
  by_cases hr : r + 1 < s
  · cases g : goesUp m s q (r + 1) with
    | true =>
      rw [fig_uniq (v := v + 1) (q := q) (r := r + 1) (k := q + 1) hs ⟨by omega, by omega, hr, .inl ⟨g, rfl⟩⟩]
      rcases wh with ⟨_, e⟩ | ⟨_, e⟩ <;> omega
    | false =>
      rw [fig_uniq (v := v + 1) (q := q) (r := r + 1) (k := q) hs ⟨by omega, by omega, hr, .inr ⟨g, rfl⟩⟩]
      rcases wh with ⟨h, e⟩ | ⟨_, e⟩
      · rw [go_mono hm h] at g
        cases g
      · omega
  · rw [fig_uniq (v := v + 1) (q := q + 1) (r := 0) (k := q + 1) hs ⟨by rw [Int.mul_add, Int.mul_one]; omega, by omega, by omega, .inr ⟨go_zero hm hs, rfl⟩⟩]
    rcases wh with ⟨_, e⟩ | ⟨_, e⟩ <;> omega
theorem due_mono {o s : Int} {m : Str} {v : Int} (hm : Mode m) (hs : 1 ≤ s) : dueM o s m v ≤ dueM o s m (v + 1) := by
  unfold dueM
  have := Int.mul_le_mul_of_nonneg_left (fig_mono (o := o) (v := v) hm hs) (show 0 ≤ s by omega)
  omega
theorem go_two {m : Str} {s q r : Int} (hm : Mode m) : goesUp m s (q + 2) r = goesUp m s q r := by
  rcases hm with e | e | e | e | e <;> subst e
  · rw [go_down, go_down]
  · rw [go_up, go_up]
  · rw [go_hd, go_hd]
  · rw [go_hu, go_hu]
  · rw [go_he, go_he, show (q + 2) % 2 = q % 2 by omega]
theorem due_two {o s : Int} {m : Str} {v : Int} (hm : Mode m) (hs : 1 ≤ s) : dueM o s m (v + s * 2) = dueM o s m v + s * 2 := by
  have F := fig_of (o := o) (m := m) (v := v) hs
  unfold dueM
  generalize (v - o) / s = q at F
  generalize (v - o) % s = r at F
  obtain ⟨eq, r0, r1, wh⟩ := F
  rw [fig_uniq (v := v + s * 2) (q := q + 2) (r := r) (k := figM o s m v + 2) hs ⟨by rw [Int.mul_add]; omega, r0, r1, ?_⟩, Int.mul_add]
  · omega
  · rw [go_two hm]
    rcases wh with ⟨h, e⟩ | ⟨h, e⟩
    · exact .inl ⟨h, by omega⟩
    · exact .inr ⟨h, by omega⟩
/-! ### bounds -/
def Bd (x : Int) : Prop := -2 ^ 1000 < x ∧ x < 2 ^ 1000
theorem div_bd {x s b : Int} (hs : 1 ≤ s) (h0 : -b < x) (h1 : x < b) : -b < x / s ∧ x / s < b := by
  by_cases hx : 0 ≤ x
  · have a := Int.ediv_nonneg hx (show 0 ≤ s by omega)
    have c := Int.ediv_le_self s hx
    omega
  · have a : x ≤ x / s := by
      rw [Int.le_ediv_iff_mul_le (by omega)]
      have := Int.mul_le_mul_of_nonpos_left (show x ≤ 0 by omega) hs
      omega
    have c : x / s < 0 := Int.ediv_neg_of_neg_of_pos (by omega) (by omega)
    omega
end HT
namespace HT
open PySem L2
/-! ### spans -/
def below (m : Str) (s k : Int) : Int := if m = "down" then 0 else if m = "up" then s - 1 else if m = "half_up" ∨ (m = "half_even" ∧ k % 2 = 0) then s / 2 else (s - 1) / 2
def mir (m : Str) : Str := if m = "down" then "up" else if m = "up" then "down" else if m = "half_down" then "half_up" else if m = "half_up" then "half_down" else "half_even"
def lowM (o s : Int) (m : Str) (k : Int) : Int := o + s * k - below m s k
def highM (o s : Int) (m : Str) (k : Int) : Int := o + s * k + below (mir m) s k
theorem mir_d : mir "down" = "up" := by unfold mir; rw [if_pos rfl]
theorem mir_u : mir "up" = "down" := by unfold mir; rw [if_neg d_u, if_pos rfl]
theorem mir_hd : mir "half_down" = "half_up" := by unfold mir; rw [if_neg hd_d, if_neg hd_u, if_pos rfl]
theorem mir_hu : mir "half_up" = "half_down" := by unfold mir; rw [if_neg hu_d, if_neg hu_u, if_neg hu_hd, if_pos rfl]
theorem mir_he : mir "half_even" = "half_even" := by unfold mir; rw [if_neg he_d, if_neg he_u, if_neg he_hd, if_neg he_hu]
theorem be_d (s k : Int) : below "down" s k = 0 := by unfold below; rw [if_pos rfl]
theorem be_u (s k : Int) : below "up" s k = s - 1 := by unfold below; rw [if_neg d_u, if_pos rfl]
theorem be_hd (s k : Int) : below "half_down" s k = (s - 1) / 2 := by
  unfold below
  rw [if_neg hd_d, if_neg hd_u, if_neg]
  rintro (z | ⟨z, _⟩)
  · exact hd_hu z
  · exact hd_e z
theorem be_hu (s k : Int) : below "half_up" s k = s / 2 := by unfold below; rw [if_neg hu_d, if_neg hu_u, if_pos (.inl rfl)]
theorem be_he (s k : Int) : below "half_even" s k = if k % 2 = 0 then s / 2 else (s - 1) / 2 := by
  unfold below
  rw [if_neg he_d, if_neg he_u]
  by_cases h : k % 2 = 0
  · rw [if_pos (.inr ⟨rfl, h⟩), if_pos h]
  · rw [if_neg h, if_neg]
    rintro (z | ⟨_, z⟩)
    · exact he_hu z
    · exact h z
theorem mir_mode {m : Str} (h : Mode m) : Mode (mir m) := by
  rcases h with e | e | e | e | e <;> subst e
  · rw [mir_d]; exact .inr (.inl rfl)
  · rw [mir_u]; exact .inl rfl
  · rw [mir_hd]; exact .inr (.inr (.inr (.inl rfl)))
  · rw [mir_hu]; exact .inr (.inr (.inl rfl))
  · rw [mir_he]; exact .inr (.inr (.inr (.inr rfl)))
theorem below_bd {m : Str} {s k : Int} (h : Mode m) (hs : 1 ≤ s) : 0 ≤ below m s k ∧ below m s k < s := by
  rcases h with e | e | e | e | e <;> subst e
  · rw [be_d]; omega
  · rw [be_u]; omega
  · rw [be_hd]; omega
  · rw [be_hu]; omega
  · rw [be_he]; split <;> omega
theorem up_iff {m : Str} {s q r : Int} (h : Mode m) (r0 : 0 ≤ r) (r1 : r < s) : goesUp m s q r = true ↔ below (mir m) s q < r := by
  rcases h with e | e | e | e | e <;> subst e
  · rw [go_down, mir_d, be_u]
    exact ⟨fun z => (Bool.false_ne_true z).elim, fun z => absurd z (by omega)⟩
  · rw [go_up, mir_u, be_d, decide_eq_true_eq]
  · rw [go_hd, mir_hd, be_hu, decide_eq_true_eq]; omega
  · rw [go_hu, mir_hu, be_hd, decide_eq_true_eq]; omega
  · rw [go_he, mir_he, be_he, Bool.or_eq_true, Bool.and_eq_true, decide_eq_true_eq, decide_eq_true_eq, decide_eq_true_eq]
    split <;> omega
theorem touch {m : Str} {s : Int} (q : Int) (h : Mode m) (hs : 1 ≤ s) : below m s (q + 1) + below (mir m) s q = s - 1 := by
  rcases h with e | e | e | e | e <;> subst e
  · rw [be_d, mir_d, be_u]; omega
  · rw [be_u, mir_u, be_d]; omega
  · rw [be_hd, mir_hd, be_hu]; omega
  · rw [be_hu, mir_hu, be_hd]; omega
  · rw [be_he, mir_he, be_he]; split <;> split <;> omega
theorem mul_lt_step {s q k : Int} (hs : 1 ≤ s) (h : q < k) : s * q + s ≤ s * k := by
  have := Int.mul_le_mul_of_nonneg_left (show q + 1 ≤ k by omega) (show 0 ≤ s by omega)
  rw [Int.mul_add, Int.mul_one] at this
  exact this
/-- a value comes to k just between the ends -/
theorem fig_iff {o s : Int} {m : Str} {v k : Int} (h : Mode m) (hs : 1 ≤ s) : figM o s m v = k ↔ lowM o s m k ≤ v ∧ v ≤ highM o s m k := by
  have F := fig_of (o := o) (m := m) (v := v) hs
  generalize (v - o) / s = q at F
  generalize (v - o) % s = r at F
  generalize figM o s m v = f at F ⊢
  obtain ⟨eq, r0, r1, wh⟩ := F
  have ui := up_iff (q := q) h r0 r1
  have t1 := touch (k - 1) h hs
  rw [show k - 1 + 1 = k by omega] at t1
  have bk := below_bd (k := k) (mir_mode h) hs
  have bk1 := below_bd (k := k - 1) (mir_mode h) hs
  have bq := below_bd (k := q) (mir_mode h) hs
  unfold lowM highM
  have hf : (f = q + 1 ∧ below (mir m) s q < r) ∨ (f = q ∧ r ≤ below (mir m) s q) := by
    rcases wh with ⟨g, e⟩ | ⟨g, e⟩
    · exact .inl ⟨e, ui.mp g⟩
    · refine .inr ⟨e, ?_⟩
      have : ¬ below (mir m) s q < r := fun z => by rw [ui.mpr z] at g; cases g
      omega
  rcases Int.lt_trichotomy q k with hq | hq | hq
  · rcases Int.lt_trichotomy (q + 1) k with hq1 | hq1 | hq1
    · have := mul_lt_step hs (show q + 1 < k from hq1)
      rw [Int.mul_add, Int.mul_one] at this
      generalize s * q = a at *
      generalize s * k = b at *
      constructor
      · intro z; omega
      · intro z; omega
    · have e : q = k - 1 := by omega
      subst e
      have : s * (k - 1) = s * k - s := by rw [Int.mul_sub, Int.mul_one]
      generalize s * (k - 1) = a at *
      generalize s * k = b at *
      constructor
      · intro z; omega
      · intro z; omega
    · omega
  · subst hq
    generalize s * q = a at *
    constructor
    · intro z; omega
    · intro z; omega
  · have := mul_lt_step hs hq
    generalize s * q = a at *
    generalize s * k = b at *
    constructor
    · intro z; omega
    · intro z; omega
theorem low_high {o s : Int} {m : Str} {k : Int} (h : Mode m) (hs : 1 ≤ s) : lowM o s m k ≤ o + s * k ∧ o + s * k ≤ highM o s m k := by
  have a := below_bd (k := k) h hs
  have b := below_bd (k := k) (mir_mode h) hs
  unfold lowM highM
  omega
theorem low_next {o s : Int} {m : Str} (k : Int) (h : Mode m) (hs : 1 ≤ s) : lowM o s m (k + 1) = highM o s m k + 1 := by
  have := touch k h hs
  unfold lowM highM
  rw [Int.mul_add, Int.mul_one]
  omega
theorem high_prev {o s : Int} {m : Str} (k : Int) (h : Mode m) (hs : 1 ≤ s) : highM o s m (k - 1) = lowM o s m k - 1 := by
  have := low_next (o := o) (k - 1) h hs
  rw [show k - 1 + 1 = k by omega] at this
  omega
theorem fig_low {o s : Int} {m : Str} (k : Int) (h : Mode m) (hs : 1 ≤ s) : figM o s m (lowM o s m k) = k := by
  have a := low_high (o := o) (k := k) h hs
  exact (fig_iff h hs).mpr ⟨by omega, by omega⟩
theorem fig_high {o s : Int} {m : Str} (k : Int) (h : Mode m) (hs : 1 ≤ s) : figM o s m (highM o s m k) = k := by
  have a := low_high (o := o) (k := k) h hs
  exact (fig_iff h hs).mpr ⟨by omega, by omega⟩
theorem fig_low1 {o s : Int} {m : Str} (k : Int) (h : Mode m) (hs : 1 ≤ s) : figM o s m (lowM o s m k - 1) = k - 1 := by
  rw [← high_prev k h hs]
  exact fig_high _ h hs
theorem fig_high1 {o s : Int} {m : Str} (k : Int) (h : Mode m) (hs : 1 ≤ s) : figM o s m (highM o s m k + 1) = k + 1 := by
  rw [← low_next k h hs]
  exact fig_low _ h hs
/-- the figure of the least standing value that is not less -/
def ceilM (o s v : Int) : Int := -((o - v) / s)
theorem ceil_eq {o s v : Int} (hs : 1 ≤ s) : v ≤ o + s * ceilM o s v ∧ o + s * (ceilM o s v - 1) < v := by
  have a := Int.mul_ediv_add_emod (o - v) s
  have b := Int.emod_nonneg (o - v) (show s ≠ 0 by omega)
  have c := Int.emod_lt_of_pos (o - v) (show 0 < s by omega)
  unfold ceilM
  rw [Int.mul_sub, Int.mul_one, Int.mul_neg]
  omega
def backM (o s : Int) (m : Str) (v : Int) : Int := lowM o s m (ceilM o s v)
theorem back_ge {o s : Int} {m : Str} {v : Int} (h : Mode m) (hs : 1 ≤ s) : v ≤ dueM o s m (backM o s m v) := by
  unfold dueM backM
  rw [fig_low _ h hs]
  exact (ceil_eq hs).1
theorem back_lt {o s : Int} {m : Str} {v : Int} (h : Mode m) (hs : 1 ≤ s) : dueM o s m (backM o s m v - 1) < v := by
  unfold dueM backM
  rw [fig_low1 _ h hs]
  exact (ceil_eq hs).2
theorem mul_b {s k : Int} (s0 : 1 ≤ s) (s1 : s ≤ 10 ^ 30) (h : -2 ^ 720 < k ∧ k < 2 ^ 720) : -2 ^ 820 < s * k ∧ s * k < 2 ^ 820 := by
  have h1 : (s * k).natAbs < 2 ^ (100 + 720) := wide_lt (a := 100) (b := 720) (by omega) (by omega)
  omega
end HT
namespace HT
open PySem L2
/-! ### mirrors and forms -/
theorem mir_mir {m : Str} (h : Mode m) : mir (mir m) = m := by
  rcases h with e | e | e | e | e <;> subst e
  · rw [mir_d, mir_u]
  · rw [mir_u, mir_d]
  · rw [mir_hd, mir_hu]
  · rw [mir_hu, mir_hd]
  · rw [mir_he, mir_he]
theorem below_neg {m : Str} {s : Int} (k : Int) (h : Mode m) : below m s (-k) = below m s k := by
  rcases h with e | e | e | e | e <;> subst e
  · rw [be_d, be_d]
  · rw [be_u, be_u]
  · rw [be_hd, be_hd]
  · rw [be_hu, be_hu]
  · rw [be_he, be_he]; split <;> split <;> omega
theorem due_mirror {o s : Int} {m : Str} {v : Int} (h : Mode m) (hs : 1 ≤ s) : dueM (-o) s (mir m) (-v) = -dueM o s m v := by
  have f := (fig_iff (o := o) (v := v) (k := figM o s m v) h hs).mp rfl
  generalize figM o s m v = k at f
  have e : figM o s m v = k := (fig_iff h hs).mpr f
  have e2 : figM (-o) s (mir m) (-v) = -k := by
    refine (fig_iff (mir_mode h) hs).mpr ?_
    unfold lowM highM at f ⊢
    rw [mir_mir h, below_neg k h, below_neg k (mir_mode h), Int.mul_neg]
    omega
  unfold dueM
  rw [e, e2, Int.mul_neg]
  omega
def firstM (s : Int) (m : Str) : Str := if s = 1 then "down" else if s = 2 ∧ m = "half_down" then "down" else if s = 2 ∧ m = "half_up" then "up" else if s % 2 = 1 ∧ (m = "half_up" ∨ m = "half_even") then "half_down" else m
def formO (o s : Int) (f : Str) : Int := if f = "half_even" then o % (2 * s) else o % s
def ordM (m : Str) : Nat := if m = "down" then 0 else if m = "up" then 1 else if m = "half_down" then 2 else if m = "half_up" then 3 else 4
theorem ord_d : ordM "down" = 0 := by unfold ordM; rw [if_pos rfl]
theorem ord_u : ordM "up" = 1 := by unfold ordM; rw [if_neg d_u, if_pos rfl]
theorem ord_hd : ordM "half_down" = 2 := by unfold ordM; rw [if_neg hd_d, if_neg hd_u, if_pos rfl]
theorem ord_hu : ordM "half_up" = 3 := by unfold ordM; rw [if_neg hu_d, if_neg hu_u, if_neg hu_hd, if_pos rfl]
theorem ord_he : ordM "half_even" = 4 := by unfold ordM; rw [if_neg he_d, if_neg he_u, if_neg he_hd, if_neg he_hu]
theorem u_hu : ¬ (("up" : Str) = "half_up") := by decide +kernel
theorem u_he : ¬ (("up" : Str) = "half_even") := by decide +kernel
theorem dn_hd : ¬ (("down" : Str) = "half_down") := by decide +kernel
theorem dn_hu : ¬ (("down" : Str) = "half_up") := by decide +kernel
theorem dn_he : ¬ (("down" : Str) = "half_even") := by decide +kernel
theorem dn_u : ¬ (("down" : Str) = "up") := by decide +kernel
/-- the first modes, mode by mode -/
theorem fi_one (m : Str) : firstM 1 m = "down" := by unfold firstM; rw [if_pos rfl]
theorem fi_d (s : Int) : firstM s "down" = "down" := by
  unfold firstM
  by_cases h : s = 1
  · rw [if_pos h]
  · rw [if_neg h, if_neg (fun z => dn_hd z.2), if_neg (fun z => dn_hu z.2), if_neg (fun z => z.2.elim dn_hu dn_he)]
theorem fi_u {s : Int} (h : s ≠ 1) : firstM s "up" = "up" := by
  unfold firstM
  rw [if_neg h, if_neg (fun z => u_hd z.2), if_neg (fun z => u_hu z.2), if_neg (fun z => z.2.elim u_hu u_he)]
theorem fi_hd2 : firstM 2 "half_down" = "down" := by unfold firstM; rw [if_neg (by decide), if_pos ⟨rfl, rfl⟩]
theorem fi_hd {s : Int} (h : s ≠ 1) (h2 : s ≠ 2) : firstM s "half_down" = "half_down" := by
  unfold firstM
  rw [if_neg h, if_neg (fun z => h2 z.1), if_neg (fun z => h2 z.1), if_neg (fun z => z.2.elim hd_hu hd_e)]
theorem fi_hu2 : firstM 2 "half_up" = "up" := by unfold firstM; rw [if_neg (by decide), if_neg (fun z => hu_hd z.2), if_pos ⟨rfl, rfl⟩]
theorem fi_huO {s : Int} (h : s ≠ 1) (h2 : s % 2 = 1) : firstM s "half_up" = "half_down" := by
  unfold firstM
  rw [if_neg h, if_neg (fun z => hu_hd z.2), if_neg (fun z => by have := z.1; omega), if_pos ⟨h2, .inl rfl⟩]
theorem fi_huE {s : Int} (h : s ≠ 2) (h2 : s % 2 = 0) : firstM s "half_up" = "half_up" := by
  unfold firstM
  rw [if_neg (by omega), if_neg (fun z => hu_hd z.2), if_neg (fun z => h z.1), if_neg (fun z => by have := z.1; omega)]
theorem fi_heO {s : Int} (h : s ≠ 1) (h2 : s % 2 = 1) : firstM s "half_even" = "half_down" := by
  unfold firstM
  rw [if_neg h, if_neg (fun z => he_hd z.2), if_neg (fun z => he_hu z.2), if_pos ⟨h2, .inr rfl⟩]
theorem fi_heE {s : Int} (h2 : s % 2 = 0) : firstM s "half_even" = "half_even" := by
  unfold firstM
  rw [if_neg (by omega), if_neg (fun z => he_hd z.2), if_neg (fun z => he_hu z.2), if_neg (fun z => by have := z.1; omega)]
/-- what is known of the first mode -/
structure FirstP (s : Int) (m : Str) : Prop where
  md : Mode (firstM s m)
  id : firstM s (firstM s m) = firstM s m
  od : ordM (firstM s m) ≤ ordM m
  go : ∀ q r, 0 ≤ r → r < s → goesUp (firstM s m) s q r = goesUp m s q r
  ev : firstM s m = "half_even" → s % 2 = 0
theorem first_ok {s : Int} {m : Str} (h : Mode m) (hs : 1 ≤ s) : FirstP s m := by
  have D : Mode "down" := .inl rfl
  have U : Mode "up" := .inr (.inl rfl)
  have HD : Mode "half_down" := .inr (.inr (.inl rfl))
  by_cases s1 : s = 1
  · subst s1
    refine ⟨by rw [fi_one]; exact D, by rw [fi_one, fi_one], by rw [fi_one, ord_d]; omega, fun q r r0 r1 => ?_, by rw [fi_one]; exact fun z => (dn_he z).elim⟩
    have : r = 0 := by omega
    subst this
    rw [fi_one, go_zero D (by decide), go_zero h (by decide)]
  rcases h with e | e | e | e | e <;> subst e
  · exact ⟨by rw [fi_d]; exact D, by rw [fi_d, fi_d], by rw [fi_d]; omega, fun q r _ _ => by rw [fi_d], by rw [fi_d]; exact fun z => (dn_he z).elim⟩
  · exact ⟨by rw [fi_u s1]; exact U, by rw [fi_u s1, fi_u s1], by rw [fi_u s1]; omega, fun q r _ _ => by rw [fi_u s1], by rw [fi_u s1]; exact fun z => (u_he z).elim⟩
  · by_cases s2 : s = 2
    · subst s2
      refine ⟨by rw [fi_hd2]; exact D, by rw [fi_hd2, fi_d], by rw [fi_hd2, ord_d]; omega, fun q r r0 r1 => ?_, by rw [fi_hd2]; exact fun z => (dn_he z).elim⟩
      rw [fi_hd2, go_down, go_hd, decide_eq_false (by omega)]
    · exact ⟨by rw [fi_hd s1 s2]; exact HD, by rw [fi_hd s1 s2, fi_hd s1 s2], by rw [fi_hd s1 s2]; omega, fun q r _ _ => by rw [fi_hd s1 s2], by rw [fi_hd s1 s2]; exact fun z => (hd_e z).elim⟩
  · by_cases s2 : s = 2
    · subst s2
      refine ⟨by rw [fi_hu2]; exact U, by rw [fi_hu2, fi_u s1], by rw [fi_hu2, ord_u, ord_hu]; omega, fun q r r0 r1 => ?_, by rw [fi_hu2]; exact fun z => (u_he z).elim⟩
      rw [fi_hu2, go_up, go_hu]
      exact decide_eq_decide.mpr (by omega)
    · by_cases od : s % 2 = 1
      · refine ⟨by rw [fi_huO s1 od]; exact HD, by rw [fi_huO s1 od, fi_hd s1 s2], by rw [fi_huO s1 od, ord_hd, ord_hu]; omega, fun q r r0 r1 => ?_, by rw [fi_huO s1 od]; exact fun z => (hd_e z).elim⟩
        rw [fi_huO s1 od, go_hd, go_hu]
        exact decide_eq_decide.mpr (by omega)
      · have ev : s % 2 = 0 := by omega
        exact ⟨by rw [fi_huE s2 ev]; exact .inr (.inr (.inr (.inl rfl))), by rw [fi_huE s2 ev, fi_huE s2 ev], by rw [fi_huE s2 ev]; omega, fun q r _ _ => by rw [fi_huE s2 ev], by rw [fi_huE s2 ev]; exact fun z => (hu_e z).elim⟩
  · by_cases od : s % 2 = 1
    · refine ⟨by rw [fi_heO s1 od]; exact HD, by rw [fi_heO s1 od, fi_hd s1 (by omega)], by rw [fi_heO s1 od, ord_hd, ord_he]; omega, fun q r r0 r1 => ?_, by rw [fi_heO s1 od]; exact fun z => (hd_e z).elim⟩
      rw [fi_heO s1 od, go_hd, go_he, decide_eq_false (show ¬ 2 * r = s by omega), Bool.false_and, Bool.or_false]
    · have ev : s % 2 = 0 := by omega
      exact ⟨by rw [fi_heE ev]; exact .inr (.inr (.inr (.inr rfl))), by rw [fi_heE ev, fi_heE ev], by rw [fi_heE ev]; omega, fun q r _ _ => by rw [fi_heE ev], fun _ => ev⟩
theorem go_shift {m : Str} {s q r j : Int} (h : Mode m) (hj : m ≠ "half_even" ∨ j % 2 = 0) : goesUp m s (q + j) r = goesUp m s q r := by
  rcases h with e | e | e | e | e <;> subst e
  · rw [go_down, go_down]
  · rw [go_up, go_up]
  · rw [go_hd, go_hd]
  · rw [go_hu, go_hu]
  · have z : j % 2 = 0 := hj.resolve_left (fun z => z rfl)
    rw [go_he, go_he, show (q + j) % 2 = q % 2 by omega]
/-- an offset moved by whole steps, by two of them for the even -/
theorem due_shift {o s j : Int} {m : Str} {v : Int} (h : Mode m) (hs : 1 ≤ s) (hj : m ≠ "half_even" ∨ j % 2 = 0) : dueM (o + s * j) s m v = dueM o s m v := by
  have F := fig_of (o := o + s * j) (m := m) (v := v) hs
  generalize (v - (o + s * j)) / s = q at F
  generalize (v - (o + s * j)) % s = r at F
  generalize hk : figM (o + s * j) s m v = k at F
  obtain ⟨eq, r0, r1, wh⟩ := F
  have e : figM o s m v = k + j := by
    refine fig_uniq (q := q + j) (r := r) hs ⟨by rw [Int.mul_add]; omega, r0, r1, ?_⟩
    rw [go_shift h hj]
    rcases wh with ⟨g, e⟩ | ⟨g, e⟩
    · exact .inl ⟨g, by omega⟩
    · exact .inr ⟨g, by omega⟩
  unfold dueM
  rw [e, hk, Int.mul_add]
  omega
theorem due_go {o s : Int} {m m' : Str} {v : Int} (hs : 1 ≤ s) (h : ∀ q r, 0 ≤ r → r < s → goesUp m s q r = goesUp m' s q r) : dueM o s m v = dueM o s m' v := by
  unfold dueM figM
  rw [h _ _ (Int.emod_nonneg _ (by omega)) (Int.emod_lt_of_pos _ (by omega))]
theorem due_form {o s : Int} {m : Str} (v : Int) (h : Mode m) (hs : 1 ≤ s) : dueM (formO o s (firstM s m)) s (firstM s m) v = dueM o s m v := by
  have P := first_ok h hs
  rw [← due_go hs P.go]
  unfold formO
  by_cases e : firstM s m = "half_even"
  · rw [if_pos e]
    have a := Int.mul_ediv_add_emod o (2 * s)
    have b : o % (2 * s) = o + s * (-(2 * (o / (2 * s)))) := by
      rw [Int.mul_neg, ← Int.mul_assoc, Int.mul_comm s 2]
      omega
    rw [b]
    exact due_shift P.md hs (.inr (by omega))
  · rw [if_neg e]
    have a := Int.mul_ediv_add_emod o s
    have b : o % s = o + s * (-(o / s)) := by
      rw [Int.mul_neg]
      omega
    rw [b]
    exact due_shift P.md hs (.inl e)
theorem form_bd {o s : Int} {f : Str} (hs : 1 ≤ s) : 0 ≤ formO o s f ∧ formO o s f < 2 * s ∧ (f ≠ "half_even" → formO o s f < s) := by
  unfold formO
  by_cases e : f = "half_even"
  · rw [if_pos e]
    exact ⟨Int.emod_nonneg _ (by omega), Int.emod_lt_of_pos _ (by omega), fun z => absurd e z⟩
  · rw [if_neg e]
    have := Int.emod_lt_of_pos o (show 0 < s by omega)
    exact ⟨Int.emod_nonneg _ (by omega), by omega, fun _ => this⟩
theorem form_idem {o s : Int} {f : Str} : formO (formO o s f) s f = formO o s f := by
  unfold formO
  by_cases e : f = "half_even"
  · rw [if_pos e, if_pos e, Int.emod_emod_of_dvd _ (Int.dvd_refl _)]
  · rw [if_neg e, if_neg e, Int.emod_emod_of_dvd _ (Int.dvd_refl _)]
/-- a value told by its figure and rest -/
theorem due_at {o s q r : Int} {m : Str} (hs : 1 ≤ s) (r0 : 0 ≤ r) (r1 : r < s) : dueM o s m (o + s * q + r) = o + s * q + (if goesUp m s q r = true then s else 0) := by
  unfold dueM
  by_cases g : goesUp m s q r = true
  · rw [fig_uniq (q := q) (r := r) (k := q + 1) hs ⟨by omega, r0, r1, .inl ⟨g, rfl⟩⟩, if_pos g, Int.mul_add]
    omega
  · have g' : goesUp m s q r = false := by cases h : goesUp m s q r <;> simp_all
    rw [fig_uniq (q := q) (r := r) (k := q) hs ⟨by omega, r0, r1, .inr ⟨g', rfl⟩⟩, if_neg g]
    omega
end HT
namespace HT
open PySem L2
theorem lg_big {n : Int} (h0 : 0 ≤ n) (h : n < 2 ^ 200) : n.natAbs.log2 < 9000 := by
  obtain ⟨m, rfl⟩ := Int.eq_ofNat_of_zero_le h0
  exact lg_nat (by omega)
def modesV : List V := [.str "down", .str "up", .str "half_down", .str "half_up", .str "half_even"]
/-- the further names that the text of sides does not bind, and its table of modes -/
structure SideT (K : PySem.W.Frag) (mg : Str → Option Value) (aM : Addr) : Prop where
  isi : mg "isinstance" = none
  int : mg "int" = none
  bool : mg "bool" = none
  tuple : mg "tuple" = none
  len : mg "len" = none
  dm : mg "divmod" = none
  gM : mg "MODES" = some (.ref aM)
  tM : ∀ H, SqT K H aM modesV
def spIsInt : Sp := fun vs H Q _ => ∃ i : Int, vs = [.int i] ∧ Q (.bl true) H
def spBetween : Sp := fun vs H Q _ => ∃ i a b : Int, vs = [.int i, .int a, .int b] ∧ Q (.bl (decide (a ≤ i) && decide (i ≤ b))) H
def spCheckValue : Sp := fun vs H Q _ => ∃ i : Int, vs = [.int i] ∧ Q .non H
def spCheckSide : Sp := fun vs H Q _ => ∃ (p : Addr) (o s : Int) (m : Str), vs = [.ref p] ∧ H p = some (sideV o s m) ∧ SideP o s m ∧ Q .non H
def spGo : Sp := fun vs H Q _ => ∃ (m : Str) (s q r : Int), vs = [.str m, .int s, .int q, .int r] ∧ Q (.bl (goesUp m s q r)) H
def spSV (f : Int → Int → Str → Int → V) : Sp := fun vs H Q _ => ∃ (p : Addr) (o s : Int) (m : Str) (v : Int), vs = [.ref p, .int v] ∧ H p = some (sideV o s m) ∧ SideP o s m ∧ Bd v ∧ ∀ H', Same H H' → Q (f o s m v) H'
def spFig : Sp := spSV fun o s m v => .int (figM o s m v)
def spDue : Sp := spSV fun o s m v => .int (dueM o s m v)
def spStands : Sp := spSV fun o s m v => .bl (decide ((v - o) % s = 0))
theorem dec_int (a b : Int) : decide (V.int a = V.int b) = decide (a = b) := by
  by_cases h : a = b
  · rw [decide_eq_true h, h, decide_eq_true rfl]
  · rw [decide_eq_false h, decide_eq_false (fun z => h (V.int.inj z))]
theorem dec_str (a b : Str) : decide (V.str a = V.str b) = decide (a = b) := by
  by_cases h : a = b
  · rw [decide_eq_true h, h, decide_eq_true rfl]
  · rw [decide_eq_false h, decide_eq_false (fun z => h (V.str.inj z))]
theorem dec_bl (a b : Bool) : decide (V.bl a = V.bl b) = decide (a = b) := by
  by_cases h : a = b
  · rw [decide_eq_true h, h, decide_eq_true rfl]
  · rw [decide_eq_false h, decide_eq_false (fun z => h (V.bl.inj z))]
theorem str_t {a b : Str} (h : decide (V.str a = V.str b) = true) : a = b := V.str.inj (of_decide_eq_true h)
theorem str_f {a b : Str} (h : ¬ decide (V.str a = V.str b) = true) : ¬ a = b := fun z => h (decide_eq_true (congrArg V.str z))
theorem int_t {a b : Int} (h : decide (V.int a = V.int b) = true) : a = b := V.int.inj (of_decide_eq_true h)
theorem int_f {a b : Int} (h : ¬ decide (V.int a = V.int b) = true) : ¬ a = b := fun z => h (decide_eq_true (congrArg V.int z))
theorem not_t {b : Bool} (h : (!b) = true) : ¬ b = true := by cases b <;> simp_all
theorem not_f {b : Bool} (h : ¬ (!b) = true) : b = true := by cases b <;> simp_all
theorem mode_in {m : Str} (h : Mode m) : inV (.str m) modesV = true := by
  rcases h with e | e | e | e | e <;> subst e <;> decide +kernel
theorem divp {o v s : Int} (hs : 1 ≤ s) (ho : -10 ^ 40 ≤ o ∧ o ≤ 10 ^ 40) (hv : Bd v) : CDivP (v - o) s := by
  refine divp_ok (by omega) ?_
  have h : (v - o).natAbs < 2 ^ 1010 := by
    have h1 := hv.1
    have h2 := hv.2
    omega
  have h2 : Builtin.Int.intBits (v - o) ≤ 1011 := by
    unfold Builtin.Int.intBits
    split
    · omega
    · have := PySem.Flt.log2_lt_of (by decide) h
      omega
  omega
theorem mulW {i j : Int} (hi : -2 ^ 1010 < i ∧ i < 2 ^ 1010) (hj : -2 ^ 1010 < j ∧ j < 2 ^ 1010) : CMulW i j := wide_mul (a := 1010) (b := 1010) (by omega) (by omega) (by decide) (by decide) (by decide)
theorem fig_bd {o s : Int} {m : Str} {v : Int} (S : SideP o s m) (hv : Bd v) : -2 ^ 1001 < figM o s m v ∧ figM o s m v < 2 ^ 1001 := by
  obtain ⟨h1, h2⟩ := hv
  obtain ⟨o0, o1, s0, s1, _⟩ := S
  have := div_bd (x := v - o) (b := 2 ^ 1000 + 10 ^ 40) s0 (by omega) (by omega)
  unfold figM
  split <;> omega
section
variable {P : Program} {w : World} {K : PySem.W.Frag} {mg : Str → Option Value} {base : Heap} {aM fI fB fV fC fG fF : Addr} {dI dB dV dC dG dF : FuncData}
theorem ok_is_int {f : Addr} {fd : FuncData} (F : Fun K "is_int" "is_int" s_is_int f fd) (T : SideT K mg aM) : FnOk P w K mg base CX0 1 f fd ["thing"] spIsInt := by
  refine F.ok sc_is_int (fun vs H Q E h => ?_) (fun cdv A outer s H vs Q E hr h => ?_)
  · obtain ⟨i, rfl, _⟩ := h
    rfl
  · obtain ⟨i, rfl, q⟩ := h
    refine ⟨_, pss_one (ps_ret (pe_and (pe_callB call_isi (by rfl) T.isi (by decide +kernel) (pa_cons (pv 0) (pa_cons (pe_bltn (v := .ty "int") (by rfl) T.int (by decide +kernel) rfl) pa_nil)))
      (pe_one (pe_not (pe_callB call_isi (by rfl) T.isi (by decide +kernel) (pa_cons (pv 0) (pa_cons (pe_bltn (v := .ty "bool") (by rfl) T.bool (by decide +kernel) rfl) pa_nil))))))), ?_⟩
    walk_at "rd"
    refine ⟨_, _, _, _, _, rfl, .ty "int", .base (.int _), kit_ty (r := true) (by decide +kernel), ?_⟩
    walk_at "rd"
    refine ⟨_, _, _, _, _, rfl, .ty "bool", .base (.int _), kit_ty (r := false) (by decide +kernel), ?_⟩
    walk_at "rd"
    exact q
theorem ok_between {f : Addr} {fd : FuncData} (F : Fun K "is_int_between" "is_int_between" s_is_int_between f fd) (I : Cal P w K mg base "is_int" 1 ["thing"] spIsInt fI dI) : FnOk P w K mg base CX0 2 f fd ["thing", "least", "most"] spBetween := by
  refine F.ok sc_is_int_between (fun vs H Q E h => ?_) (fun cdv A outer s H vs Q E hr h => ?_)
  · obtain ⟨i, a, b, rfl, _⟩ := h
    rfl
  · obtain ⟨i, a, b, rfl, q⟩ := h
    refine ⟨_, pss_one (ps_ret (pe_and (pcl I hr (by decide) (by rfl) (pa_cons (pv 0) pa_nil)) (pe_one (pe_chain op_le op_le (pv 1) (pv 0) (pv 2))))), ?_⟩
    walk_at "rd"
    refine ite2 (fun h => ?_) (fun h => ?_)
    · walk_at "rd"
      rw [decide_eq_true (of_decide_eq_true h)] at q
      exact q
    · rw [decide_eq_false (of_decide_eq_false (by simpa using h))] at q
      exact q
theorem ok_check_value {f : Addr} {fd : FuncData} (F : Fun K "check_value" "check_value" s_check_value f fd) (I : Cal P w K mg base "is_int" 1 ["thing"] spIsInt fI dI) : FnOk P w K mg base CX0 2 f fd ["value"] spCheckValue := by
  refine F.ok sc_check_value (fun vs H Q E h => ?_) (fun cdv A outer s H vs Q E hr h => ?_)
  · obtain ⟨i, rfl, _⟩ := h
    rfl
  · obtain ⟨i, rfl, q⟩ := h
    refine ⟨_, pss_one (ps_if (pt_not (pt_val (pcl I hr (by decide) (by rfl) (pa_cons (pv 0) pa_nil)))) (pss_one ps_never) pss_nil), ?_⟩
    walk_at "rd"
    exact q
theorem ok_check_side {f : Addr} {fd : FuncData} (F : Fun K "check_side" "check_side" s_check_side f fd) (T : SideT K mg aM) (B : Cal P w K mg base "is_int_between" 2 ["thing", "least", "most"] spBetween fB dB) : FnOk P w K mg base CX0 3 f fd ["side"] spCheckSide := by
  refine F.ok sc_check_side (fun vs H Q E h => ?_) (fun cdv A outer s H vs Q E hr h => ?_)
  · obtain ⟨p, o, s, m, rfl, _⟩ := h
    rfl
  · obtain ⟨p, o, s, m, rfl, hp, S, q⟩ := h
    have nd := sc_check_side.nd
    refine ⟨_, pss_cons (ps_if (PW.pt (pw_or (pt_not (pt_val (pe_callB call_isi (by rfl) T.isi (by decide +kernel) (pa_cons (pv 0) (pa_cons (pe_bltn (v := .ty "tuple") (by rfl) T.tuple (by decide +kernel) rfl) pa_nil)))))
        (pw_or1 (pt_cmpR op_ne (pe_callB call_len_seq (by rfl) T.len PySem.boot_len (pa_cons (pv 0) pa_nil)) pe_int (nomark _))))) (pss_one ps_never) pss_nil)
      (pss_cons (ps_asg (pv 0) (pg_tup (by rfl) (pgs_cons (pg_name (i := 1) nd rfl (Or.inl rfl)) (pgs_cons (pg_name (i := 2) nd rfl (Or.inl rfl)) (pgs_cons (pg_name (i := 3) nd rfl (Or.inl rfl)) pgs_nil)))))
      (pss_cons (ps_if (pt_not (pt_val (pcl B hr (by decide) (by rfl) (pa_cons (pv 1) (pa_cons (pe_un un_neg (pe_op op_pow pe_int pe_int)) (pa_cons (pe_op op_pow pe_int pe_int) pa_nil)))))) (pss_one ps_never) pss_nil)
      (pss_cons (ps_if (pt_not (pt_val (pcl B hr (by decide) (by rfl) (pa_cons (pv 2) (pa_cons pe_int (pa_cons (pe_op op_pow pe_int pe_int) pa_nil)))))) (pss_one ps_never) pss_nil)
      (pss_one (ps_if (pt_cmpR op_notIn_seq (pv 3) (pe_glob (v := .ref aM) (by rfl) T.gM rfl) (by rfl)) (pss_one ps_never) pss_nil))))), ?_⟩
    walk_at "rd"
    refine ⟨_, _, _, _, _, rfl, .ty "tuple", .base (.tup hp), kit_ty (r := true) (by decide +kernel), ?_⟩
    walk_at "rd"
    refine ⟨p, _, rfl, .inr (SqT.of hp), rfl, ?_⟩
    walk_at "rd"
    refine ⟨p, _, rfl, SqT.of hp, rfl, _, _, rfl, _, _, rfl, _, _, rfl, rfl, ?_⟩
    walk_at "rd"
    refine ⟨⟨by decide, by decide, by decide⟩, ?_⟩
    walk_at "rd"
    refine ⟨⟨by decide, by decide, by decide⟩, _, _, _, rfl, ?_⟩
    have e1 : (decide (-(10 : Int) ^ (40 : Int).toNat ≤ o) && decide (o ≤ (10 : Int) ^ (40 : Int).toNat)) = true := by
      rw [decide_eq_true (show -(10 : Int) ^ (40 : Int).toNat ≤ o from S.o0), decide_eq_true (show o ≤ (10 : Int) ^ (40 : Int).toNat from S.o1)]
      rfl
    refine ⟨_, rfl, ?_⟩
    refine ite2 (fun h => (not_t h e1).elim) (fun _ => ?_)
    walk_at "rd"
    refine ⟨⟨by decide, by decide, by decide⟩, _, _, _, rfl, ?_⟩
    have e2 : (decide ((1 : Int) ≤ s) && decide (s ≤ (10 : Int) ^ (30 : Int).toNat)) = true := by
      rw [decide_eq_true S.s0, decide_eq_true (show s ≤ (10 : Int) ^ (30 : Int).toNat from S.s1)]
      rfl
    refine ⟨_, rfl, ?_⟩
    refine ite2 (fun h => (not_t h e2).elim) (fun _ => ?_)
    walk_at "rd"
    refine ⟨aM, _, rfl, .inr (T.tM H), rfl, by decide, ?_⟩
    walk_at "rd"
    refine ite2 (fun h => (not_t h (mode_in S.md)).elim) (fun _ => ?_)
    exact q
end
end HT
namespace HT
open PySem L2
structure MirT (K : PySem.W.Frag) (w : World) (mg : Str → Option Value) (aR : Addr) : Prop where
  gR : mg "MIRRORED" = some (.ref aR)
  dR : ∀ m, Mode m → KDct K w aR m (.str (mir m))
def BdK (x : Int) : Prop := -2 ^ 720 < x ∧ x < 2 ^ 720
def spBelow : Sp := fun vs H Q _ => ∃ (m : Str) (s k : Int), vs = [.str m, .int s, .int k] ∧ Mode m ∧ Q (.int (below m s k)) H
def spSpan : Sp := fun vs H Q _ => ∃ (p : Addr) (o s : Int) (m : Str) (k : Int), vs = [.ref p, .int k] ∧ H p = some (sideV o s m) ∧ SideP o s m ∧ BdK k ∧
  ∀ (d : Addr) (H' : Hp), Same H H' → H d = none → H' d = some (.tup [.int (lowM o s m k), .int (highM o s m k)]) → Q (.ref d) H'
def spBack : Sp := fun vs H Q _ => ∃ (p : Addr) (o s : Int) (m : Str) (v : Int), vs = [.ref p, .int v] ∧ H p = some (sideV o s m) ∧ SideP o s m ∧ -2 ^ 700 < v ∧ v < 2 ^ 700 ∧
  ∀ H' : Hp, Same H H' → Q (.int (backM o s m v)) H'
theorem bdK_bd {x : Int} (h : BdK x) : Bd x := by
  unfold BdK at h
  unfold Bd
  omega
section
variable {P : Program} {w : World} {K : PySem.W.Frag} {mg : Str → Option Value} {base : Heap} {aM aR fV fC fB fS : Addr} {dV dC dB dS : FuncData}
theorem ok_below {f : Addr} {fd : FuncData} (F : Fun K "_below" "_below" s_below f fd) : FnOk P w K mg base CX0 1 f fd ["mode", "step", "figure"] spBelow := by
  refine F.ok sc_below (fun vs H Q E h => ?_) (fun cdv A outer s H vs Q E hr h => ?_)
  · obtain ⟨m, s, k, rfl, _⟩ := h
    rfl
  · obtain ⟨m, s, k, rfl, hm, q⟩ := h
    refine ⟨_, pss_cons (ps_if (pt_cmpR op_eq (pv 0) pe_str (nomark _)) (pss_one (ps_ret pe_int)) pss_nil)
      (pss_cons (ps_if (pt_cmpR op_eq (pv 0) pe_str (nomark _)) (pss_one (ps_ret (pe_op op_sub (pv 1) pe_int))) pss_nil)
      (pss_cons (ps_if (PW.pt (pw_or (pt_cmpR op_eq (pv 0) pe_str (nomark _)) (pw_or1 (PW.pt (pw_and (pt_cmpR op_eq (pv 0) pe_str (nomark _)) (pw_and1 (pt_cmpR op_eq (pe_op op_mod (pv 2) pe_int) pe_int (nomark _)))))))) (pss_one (ps_ret (pe_op op_fdiv (pv 1) pe_int))) pss_nil)
      (pss_one (ps_ret (pe_op op_fdiv (pe_op op_sub (pv 1) pe_int) pe_int))))), ?_⟩
    have d2 : ∀ (i : Int), CDiv i 2 := fun _ => ⟨by decide, by decide⟩
    unfold below at q
    walk_at "rd"
    refine ⟨rfl, ?_⟩
    walk_at "rd"
    refine ite2 (fun h => ?_) (fun h1 => ?_)
    · rw [if_pos (str_t h)] at q
      walk_at "rd"
      exact q
    rw [if_neg (str_f h1)] at q
    walk_at "rd"
    refine ⟨rfl, ?_⟩
    walk_at "rd"
    refine ite2 (fun h => ?_) (fun h2 => ?_)
    · rw [if_pos (str_t h)] at q
      walk_at "rd"
      exact q
    rw [if_neg (str_f h2)] at q
    walk_at "rd"
    refine ⟨rfl, ?_⟩
    walk_at "rd"
    refine ite2 (fun h => ?_) (fun h3 => ?_)
    · rw [if_pos (.inl (str_t h))] at q
      walk_at "rd"
      refine ⟨d2 _, ?_⟩
      walk_at "rd"
      exact q
    walk_at "rd"
    refine ⟨rfl, ?_⟩
    walk_at "rd"
    refine ite2 (fun h => ?_) (fun h4 => ?_)
    · walk_at "rd"
      refine ⟨(by show (0 : Int) < 2; decide), ?_⟩
      walk_at "rd"
      refine ⟨rfl, ?_⟩
      walk_at "rd"
      refine ite2 (fun g => ?_) (fun g => ?_)
      · rw [if_pos (.inr ⟨str_t h, int_t g⟩)] at q
        walk_at "rd"
        refine ⟨d2 _, ?_⟩
        walk_at "rd"
        exact q
      · rw [if_neg (by rintro (z | ⟨_, z⟩); exact str_f h3 z; exact int_f g z)] at q
        walk_at "rd"
        refine ⟨d2 _, ?_⟩
        walk_at "rd"
        exact q
    · rw [if_neg (by rintro (z | ⟨z, _⟩); exact str_f h3 z; exact str_f h4 z)] at q
      walk_at "rd"
      refine ⟨d2 _, ?_⟩
      walk_at "rd"
      exact q
theorem ok_uspan {f : Addr} {fd : FuncData} (F : Fun K "_span" "_span" s_uspan f fd) (R : MirT K w mg aR)
    (B : Cal P w K mg base "_below" 1 ["mode", "step", "figure"] spBelow fB dB) : FnOk P w K mg base CX0 2 f fd ["side", "figure"] spSpan := by
  refine F.ok sc_uspan (fun vs H Q E h => ?_) (fun cdv A outer s H vs Q E hr h => ?_)
  · obtain ⟨p, o, s, m, k, rfl, _⟩ := h
    rfl
  · obtain ⟨p, o, s, m, k, rfl, hp, S, hk, q⟩ := h
    have nd := sc_uspan.nd
    refine ⟨_, pss_cons (ps_asg (pv 0) (pg_tup (by rfl) (pgs_cons (pg_name (i := 2) nd rfl (Or.inl rfl)) (pgs_cons (pg_name (i := 3) nd rfl (Or.inl rfl)) (pgs_cons (pg_name (i := 4) nd rfl (Or.inl rfl)) pgs_nil)))))
      (pss_cons (ps_set (i := 5) nd rfl (Or.inl rfl) (pe_op op_add (pv 2) (pe_op op_mulW (pv 3) (pv 1))))
      (pss_one (ps_ret (pe_tup (pa_cons (pe_op op_sub (pv 5) (pcl B hr (by decide) (by rfl) (pa_cons (pv 4) (pa_cons (pv 3) (pa_cons (pv 1) pa_nil)))))
        (pa_cons (pe_op op_add (pv 5) (pcl B hr (by decide) (by rfl) (pa_cons (pe_ix ix_kdict (pe_glob (v := .ref aR) (by rfl) R.gR rfl) (pv 4) (fun _ _ => rfl)) (pa_cons (pv 3) (pa_cons (pv 1) pa_nil))))) pa_nil)))))), ?_⟩
    walk_at "rd"
    refine ⟨p, _, rfl, SqT.of hp, rfl, _, _, rfl, _, _, rfl, _, _, rfl, rfl, ?_⟩
    have s0 := S.s0
    have s1 := S.s1
    have hk' := hk
    unfold BdK at hk'
    walk_at "rd"
    refine ⟨mulW (by omega) (by omega), ?_⟩
    walk_at "rd"
    refine ⟨m, s, k, rfl, S.md, ?_⟩
    walk_at "rd"
    refine ⟨aR, m, _, rfl, rfl, R.dR m S.md, ?_⟩
    walk_at "rd"
    refine ⟨mir m, s, k, rfl, mir_mode S.md, ?_⟩
    walk_at "rd"
    refine ⟨(by show 2 ≤ sizeLine; decide), fun d nd' => ?_⟩
    exact q d _ (fun b u z => (upd_ne (ne_of_none z nd')).trans z) nd' upd_same
theorem ok_span {f : Addr} {fd : FuncData} (F : Fun K "span" "span" s_span f fd) (C : Cal P w K mg base "check_side" 3 ["side"] spCheckSide fC dC) (V' : Cal P w K mg base "check_value" 2 ["value"] spCheckValue fV dV)
    (G : Cal P w K mg base "_span" 2 ["side", "figure"] spSpan fS dS) : FnOk P w K mg base CX0 4 f fd ["side", "figure"] spSpan := by
  refine F.ok sc_span (fun vs H Q E h => ?_) (fun cdv A outer s H vs Q E hr h => ?_)
  · obtain ⟨p, o, s, m, v, rfl, _⟩ := h
    rfl
  · obtain ⟨p, o, s, m, v, rfl, hp, S, q⟩ := h
    refine ⟨_, pss_cons (ps_expr (pcl C hr (by decide) (by rfl) (pa_cons (pv 0) pa_nil)))
      (pss_cons (ps_expr (pcl V' hr (by decide) (by rfl) (pa_cons (pv 1) pa_nil)))
      (pss_one (ps_ret (pcl G hr (by decide) (by rfl) (pa_cons (pv 0) (pa_cons (pv 1) pa_nil)))))), ?_⟩
    walk_at "rd"
    refine ⟨p, o, s, m, rfl, hp, S, ?_⟩
    walk_at "rd"
    exact ⟨p, o, s, m, v, rfl, hp, S, q⟩
theorem ok_threshold {f : Addr} {fd : FuncData} (F : Fun K "threshold" "threshold" s_threshold f fd) (B : Cal P w K mg base "_below" 1 ["mode", "step", "figure"] spBelow fB dB) : FnOk P w K mg base CX0 3 f fd ["side", "value"] spBack := by
  refine F.ok sc_threshold (fun vs H Q E h => ?_) (fun cdv A outer s H vs Q E hr h => ?_)
  · obtain ⟨p, o, s, m, v, rfl, _⟩ := h
    rfl
  · obtain ⟨p, o, s, m, v, rfl, hp, S, hv0, hv1, q⟩ := h
    have nd := sc_threshold.nd
    refine ⟨_, pss_cons (ps_asg (pv 0) (pg_tup (by rfl) (pgs_cons (pg_name (i := 2) nd rfl (Or.inl rfl)) (pgs_cons (pg_name (i := 3) nd rfl (Or.inl rfl)) (pgs_cons (pg_name (i := 4) nd rfl (Or.inl rfl)) pgs_nil)))))
      (pss_cons (ps_set (i := 5) nd rfl (Or.inl rfl) (pe_un un_neg (pe_op op_fdivW (pe_op op_sub (pv 2) (pv 1)) (pv 3))))
      (pss_one (ps_ret (pe_op op_sub (pe_op op_add (pv 2) (pe_op op_mulW (pv 3) (pv 5))) (pcl B hr (by decide) (by rfl) (pa_cons (pv 4) (pa_cons (pv 3) (pa_cons (pv 5) pa_nil)))))))), ?_⟩
    walk_at "rd"
    refine ⟨p, _, rfl, SqT.of hp, rfl, _, _, rfl, _, _, rfl, _, _, rfl, rfl, ?_⟩
    have s0 := S.s0
    have s1 := S.s1
    have o0 := S.o0
    have o1 := S.o1
    walk_at "rd"
    refine ⟨fdiv_ok _ (by omega) (lg_big (by omega) (by omega)), ?_⟩
    walk_at "rd"
    have db := div_bd (x := o - v) (b := 2 ^ 701) s0 (by omega) (by omega)
    refine ⟨mulW (by omega) (by omega), ?_⟩
    walk_at "rd"
    refine ⟨m, s, ceilM o s v, rfl, S.md, ?_⟩
    walk_at "rd"
    exact q H (fun _ _ z => z)
theorem ok_back {f : Addr} {fd : FuncData} (F : Fun K "back" "back" s_back f fd) (C : Cal P w K mg base "check_side" 3 ["side"] spCheckSide fC dC) (V' : Cal P w K mg base "check_value" 2 ["value"] spCheckValue fV dV)
    (G : Cal P w K mg base "threshold" 3 ["side", "value"] spBack fS dS) : FnOk P w K mg base CX0 5 f fd ["side", "value"] spBack := by
  refine F.ok sc_back (fun vs H Q E h => ?_) (fun cdv A outer s H vs Q E hr h => ?_)
  · obtain ⟨p, o, s, m, v, rfl, _⟩ := h
    rfl
  · obtain ⟨p, o, s, m, v, rfl, hp, S, q⟩ := h
    refine ⟨_, pss_cons (ps_expr (pcl C hr (by decide) (by rfl) (pa_cons (pv 0) pa_nil)))
      (pss_cons (ps_expr (pcl V' hr (by decide) (by rfl) (pa_cons (pv 1) pa_nil)))
      (pss_one (ps_ret (pcl G hr (by decide) (by rfl) (pa_cons (pv 0) (pa_cons (pv 1) pa_nil)))))), ?_⟩
    walk_at "rd"
    refine ⟨p, o, s, m, rfl, hp, S, ?_⟩
    walk_at "rd"
    exact ⟨p, o, s, m, v, rfl, hp, S, q⟩
end
end HT
namespace HT
open PySem L2
section
variable {P : Program} {w : World} {K : PySem.W.Frag} {mg : Str → Option Value} {base : Heap} {aM fI fB fV fC fG fF : Addr} {dI dB dV dC dG dF : FuncData}
theorem ok_goes_up {f : Addr} {fd : FuncData} (F : Fun K "_goes_up" "_goes_up" s_goes_up f fd) : FnOk P w K mg base CX0 1 f fd ["mode", "step", "figure", "rest"] spGo := by
  refine F.ok sc_goes_up (fun vs H Q E h => ?_) (fun cdv A outer s H vs Q E hr h => ?_)
  · obtain ⟨m, s, q, r, rfl, _⟩ := h
    rfl
  · obtain ⟨m, s, fg, r, rfl, q⟩ := h
    refine ⟨_, pss_cons (ps_if (pt_cmpR op_eq (pv 0) pe_str (nomark _)) (pss_one (ps_ret pe_bl)) pss_nil)
      (pss_cons (ps_if (pt_cmpR op_eq (pv 0) pe_str (nomark _)) (pss_one (ps_ret (pe_cmpR op_gt (pv 3) pe_int (nomark _)))) pss_nil)
      (pss_cons (ps_if (pt_cmpR op_ne (pe_op op_mul pe_int (pv 3)) (pv 1) (nomark _)) (pss_one (ps_ret (pe_cmpR op_gt (pe_op op_mul pe_int (pv 3)) (pv 1) (nomark _)))) pss_nil)
      (pss_cons (ps_if (pt_cmpR op_eq (pv 0) pe_str (nomark _)) (pss_one (ps_ret (pe_cmpR op_eq (pe_op op_mod (pv 2) pe_int) pe_int (nomark _)))) pss_nil)
      (pss_one (ps_ret (pe_cmpR op_eq (pv 0) pe_str (nomark _))))))), ?_⟩
    unfold goesUp at q
    walk_at "rd"
    refine ⟨rfl, ?_⟩
    walk_at "rd"
    refine ite2 (fun h => ?_) (fun h1 => ?_)
    · rw [if_pos (str_t h)] at q
      exact q
    rw [if_neg (str_f h1)] at q
    walk_at "rd"
    refine ⟨rfl, ?_⟩
    walk_at "rd"
    refine ite2 (fun h => ?_) (fun h2 => ?_)
    · rw [if_pos (str_t h)] at q
      walk_at "rd"
      exact q
    rw [if_neg (str_f h2)] at q
    walk_at "rd"
    refine ⟨.inl ⟨by decide, by decide⟩, ?_⟩
    walk_at "rd"
    refine ⟨rfl, ?_⟩
    walk_at "rd"
    refine ite2 (fun h => ?_) (fun h3 => ?_)
    · rw [if_neg (int_f (not_t h))] at q
      walk_at "rd"
      refine ⟨.inl ⟨by decide, by decide⟩, ?_⟩
      walk_at "rd"
      exact q
    rw [if_pos (int_t (not_f h3))] at q
    walk_at "rd"
    refine ⟨rfl, ?_⟩
    walk_at "rd"
    refine ite2 (fun h => ?_) (fun h4 => ?_)
    · rw [if_pos (str_t h), ← dec_int] at q
      walk_at "rd"
      refine ⟨(by show (0 : Int) < 2; decide), ?_⟩
      walk_at "rd"
      exact ⟨rfl, q⟩
    · rw [if_neg (str_f h4), ← dec_str] at q
      walk_at "rd"
      exact ⟨rfl, q⟩
theorem ok_figure {f : Addr} {fd : FuncData} (F : Fun K "_figure" "_figure" s_figure f fd) (T : SideT K mg aM)
    (G : Cal P w K mg base "_goes_up" 1 ["mode", "step", "figure", "rest"] spGo fG dG) : FnOk P w K mg base CX0 2 f fd ["side", "value"] spFig := by
  refine F.ok sc_figure (fun vs H Q E h => ?_) (fun cdv A outer s H vs Q E hr h => ?_)
  · obtain ⟨p, o, s, m, v, rfl, _⟩ := h
    rfl
  · obtain ⟨p, o, s, m, v, rfl, hp, S, hv, q⟩ := h
    have nd := sc_figure.nd
    refine ⟨_, pss_cons (ps_asg (pv 0) (pg_tup (by rfl) (pgs_cons (pg_name (i := 2) nd rfl (Or.inl rfl)) (pgs_cons (pg_name (i := 3) nd rfl (Or.inl rfl)) (pgs_cons (pg_name (i := 4) nd rfl (Or.inl rfl)) pgs_nil)))))
      (pss_cons (ps_asg (pe_callB call_divmodW (by rfl) T.dm (by decide +kernel) (pa_cons (pe_op op_sub (pv 1) (pv 2)) (pa_cons (pv 3) pa_nil))) (pg_tup (by rfl) (pgs_cons (pg_name (i := 5) nd rfl (Or.inl rfl)) (pgs_cons (pg_name (i := 6) nd rfl (Or.inl rfl)) pgs_nil))))
      (pss_cons (ps_if (pt_val (pcl G hr (by decide) (by rfl) (pa_cons (pv 4) (pa_cons (pv 3) (pa_cons (pv 5) (pa_cons (pv 6) pa_nil)))))) (pss_one (ps_ret (pe_op op_add (pv 5) pe_int))) pss_nil)
      (pss_one (ps_ret (pv 5))))), ?_⟩
    walk_at "rd"
    refine ⟨p, _, rfl, SqT.of hp, rfl, _, _, rfl, _, _, rfl, _, _, rfl, rfl, ?_⟩
    walk_at "rd"
    refine ⟨_, _, rfl, divp S.s0 ⟨S.o0, S.o1⟩ hv, fun d nd' => ?_⟩
    refine ⟨d, _, rfl, SqT.of upd_same, rfl, _, _, rfl, _, _, rfl, rfl, ?_⟩
    have sm : Same H (upd H d (.tup [.int ((v - o) / s), .int ((v - o) % s)])) := fun b u z => by rw [upd_ne (ne_of_none z nd')]; exact z
    have q' : Q (.int (figM o s m v)) (upd H d (.tup [.int ((v - o) / s), .int ((v - o) % s)])) := q _ sm
    unfold figM at q'
    walk_at "rd"
    refine ⟨_, _, _, _, rfl, ?_⟩
    walk_at "rd"
    refine ite2 (fun h => ?_) (fun h => ?_)
    · rw [if_pos h] at q'
      walk_at "rd"
      exact q'
    · rw [if_neg h] at q'
      walk_at "rd"
      exact q'
theorem ok_figure_of {f : Addr} {fd : FuncData} (F : Fun K "figure_of" "figure_of" s_figure_of f fd) (C : Cal P w K mg base "check_side" 3 ["side"] spCheckSide fC dC) (V' : Cal P w K mg base "check_value" 2 ["value"] spCheckValue fV dV)
    (G : Cal P w K mg base "_figure" 2 ["side", "value"] spFig fF dF) : FnOk P w K mg base CX0 4 f fd ["side", "value"] spFig := by
  refine F.ok sc_figure_of (fun vs H Q E h => ?_) (fun cdv A outer s H vs Q E hr h => ?_)
  · obtain ⟨p, o, s, m, v, rfl, _⟩ := h
    rfl
  · obtain ⟨p, o, s, m, v, rfl, hp, S, hv, q⟩ := h
    refine ⟨_, pss_cons (ps_expr (pcl C hr (by decide) (by rfl) (pa_cons (pv 0) pa_nil)))
      (pss_cons (ps_expr (pcl V' hr (by decide) (by rfl) (pa_cons (pv 1) pa_nil)))
      (pss_one (ps_ret (pcl G hr (by decide) (by rfl) (pa_cons (pv 0) (pa_cons (pv 1) pa_nil)))))), ?_⟩
    walk_at "rd"
    refine ⟨p, o, s, m, rfl, hp, S, ?_⟩
    walk_at "rd"
    exact ⟨p, o, s, m, v, rfl, hp, S, hv, q⟩
theorem ok_written {f : Addr} {fd : FuncData} (F : Fun K "written" "written" s_written f fd) (G : Cal P w K mg base "_figure" 2 ["side", "value"] spFig fF dF) : FnOk P w K mg base CX0 3 f fd ["side", "value"] spDue := by
  refine F.ok sc_written (fun vs H Q E h => ?_) (fun cdv A outer s H vs Q E hr h => ?_)
  · obtain ⟨p, o, s, m, v, rfl, _⟩ := h
    rfl
  · obtain ⟨p, o, s, m, v, rfl, hp, S, hv, q⟩ := h
    have nd := sc_written.nd
    refine ⟨_, pss_cons (ps_asg (pv 0) (pg_tup (by rfl) (pgs_cons (pg_name (i := 2) nd rfl (Or.inl rfl)) (pgs_cons (pg_name (i := 3) nd rfl (Or.inl rfl)) (pgs_cons (pg_name (i := 4) nd rfl (Or.inl rfl)) pgs_nil)))))
      (pss_one (ps_ret (pe_op op_add (pv 2) (pe_op op_mulW (pv 3) (pcl G hr (by decide) (by rfl) (pa_cons (pv 0) (pa_cons (pv 1) pa_nil))))))), ?_⟩
    walk_at "rd"
    refine ⟨p, _, rfl, SqT.of hp, rfl, _, _, rfl, _, _, rfl, _, _, rfl, rfl, ?_⟩
    walk_at "rd"
    refine ⟨p, o, s, m, v, rfl, hp, S, hv, fun H' sm => ?_⟩
    walk_at "rd"
    have b1 := fig_bd S hv
    have b2 := S.s0
    have b3 := S.s1
    refine ⟨mulW (by omega) (by omega), ?_⟩
    walk_at "rd"
    exact q H' sm
theorem ok_handed {f : Addr} {fd : FuncData} (F : Fun K "handed" "handed" s_handed f fd) (C : Cal P w K mg base "check_side" 3 ["side"] spCheckSide fC dC) (V' : Cal P w K mg base "check_value" 2 ["value"] spCheckValue fV dV)
    (G : Cal P w K mg base "written" 3 ["side", "value"] spDue fF dF) : FnOk P w K mg base CX0 5 f fd ["side", "value"] spDue := by
  refine F.ok sc_handed (fun vs H Q E h => ?_) (fun cdv A outer s H vs Q E hr h => ?_)
  · obtain ⟨p, o, s, m, v, rfl, _⟩ := h
    rfl
  · obtain ⟨p, o, s, m, v, rfl, hp, S, hv, q⟩ := h
    refine ⟨_, pss_cons (ps_expr (pcl C hr (by decide) (by rfl) (pa_cons (pv 0) pa_nil)))
      (pss_cons (ps_expr (pcl V' hr (by decide) (by rfl) (pa_cons (pv 1) pa_nil)))
      (pss_one (ps_ret (pcl G hr (by decide) (by rfl) (pa_cons (pv 0) (pa_cons (pv 1) pa_nil)))))), ?_⟩
    walk_at "rd"
    refine ⟨p, o, s, m, rfl, hp, S, ?_⟩
    walk_at "rd"
    exact ⟨p, o, s, m, v, rfl, hp, S, hv, q⟩
end
end HT
namespace HT
open PySem L2
def spMirror : Sp := fun vs H Q _ => ∃ (p : Addr) (o s : Int) (m : Str), vs = [.ref p] ∧ H p = some (sideV o s m) ∧ SideP o s m ∧
  ∀ (d : Addr) (H' : Hp), Same H H' → H d = none → H' d = some (sideV (-o) s (mir m)) → Q (.ref d) H'
def spFirst : Sp := fun vs H Q _ => ∃ (s : Int) (m : Str), vs = [.int s, .str m] ∧ 1 ≤ s ∧ Mode m ∧ ∀ H' : Hp, Same H H' → Q (.str (firstM s m)) H'
def spForm : Sp := fun vs H Q _ => ∃ (p : Addr) (o s : Int) (m : Str), vs = [.ref p] ∧ H p = some (sideV o s m) ∧ SideP o s m ∧
  ∀ (d : Addr) (H' : Hp), Same H H' → H d = none → H' d = some (sideV (formO o s (firstM s m)) s (firstM s m)) → Q (.ref d) H'
theorem side_mir {o s : Int} {m : Str} (S : SideP o s m) : SideP (-o) s (mir m) := by
  obtain ⟨o0, o1, s0, s1, md⟩ := S
  exact ⟨by omega, by omega, s0, s1, mir_mode md⟩
theorem side_form {o s : Int} {m : Str} (S : SideP o s m) : SideP (formO o s (firstM s m)) s (firstM s m) := by
  obtain ⟨o0, o1, s0, s1, md⟩ := S
  obtain ⟨a, b, _⟩ := form_bd (o := o) (f := firstM s m) s0
  exact ⟨by omega, by omega, s0, s1, (first_ok md s0).md⟩
theorem in_two (m : Str) : inV (.str m) [V.str "half_up", .str "half_even"] = decide (m = "half_up" ∨ m = "half_even") := by
  show (eqV (V.str "half_up") (V.str m) || (eqV (V.str "half_even") (V.str m) || false)) = _
  have e : ∀ a b : Str, eqV (V.str a) (V.str b) = decide (a = b) := fun a b => by
    show (a == b) = decide (a = b)
    by_cases h : a = b
    · rw [decide_eq_true h, h, beq_self_eq_true]
    · rw [decide_eq_false h]
      exact beq_eq_false_iff_ne.mpr h
  rw [e, e, Bool.or_false]
  by_cases a : m = "half_up"
  · rw [decide_eq_true a.symm, decide_eq_true (Or.inl a)]
    rfl
  · by_cases b : m = "half_even"
    · rw [decide_eq_true b.symm, decide_eq_true (Or.inr b), Bool.or_true]
    · rw [decide_eq_false (fun z => a z.symm), decide_eq_false (fun z => b z.symm), decide_eq_false (fun z => z.elim a b)]
      rfl
section
variable {P : Program} {w : World} {K : PySem.W.Frag} {mg : Str → Option Value} {base : Heap} {aM aR fV fC fB fS : Addr} {dV dC dB dS : FuncData}
theorem ok_mirror {f : Addr} {fd : FuncData} (F : Fun K "mirror" "mirror" s_mirror f fd) (R : MirT K w mg aR) (C : Cal P w K mg base "check_side" 3 ["side"] spCheckSide fC dC) : FnOk P w K mg base CX0 4 f fd ["side"] spMirror := by
  refine F.ok sc_mirror (fun vs H Q E h => ?_) (fun cdv A outer s H vs Q E hr h => ?_)
  · obtain ⟨p, o, s, m, rfl, _⟩ := h
    rfl
  · obtain ⟨p, o, s, m, rfl, hp, S, q⟩ := h
    have nd := sc_mirror.nd
    refine ⟨_, pss_cons (ps_expr (pcl C hr (by decide) (by rfl) (pa_cons (pv 0) pa_nil)))
      (pss_cons (ps_asg (pv 0) (pg_tup (by rfl) (pgs_cons (pg_name (i := 1) nd rfl (Or.inl rfl)) (pgs_cons (pg_name (i := 2) nd rfl (Or.inl rfl)) (pgs_cons (pg_name (i := 3) nd rfl (Or.inl rfl)) pgs_nil)))))
      (pss_one (ps_ret (pe_tup (pa_cons (pe_un un_neg (pv 1)) (pa_cons (pv 2) (pa_cons (pe_ix ix_kdict (pe_glob (v := .ref aR) (by rfl) R.gR rfl) (pv 3) (fun _ _ => rfl)) pa_nil))))))), ?_⟩
    walk_at "rd"
    refine ⟨p, o, s, m, rfl, hp, S, ?_⟩
    walk_at "rd"
    refine ⟨p, _, rfl, SqT.of hp, rfl, _, _, rfl, _, _, rfl, _, _, rfl, rfl, ?_⟩
    walk_at "rd"
    refine ⟨aR, m, _, rfl, rfl, R.dR m S.md, ?_⟩
    refine ⟨(by show 3 ≤ sizeLine; decide), fun d nd' => ?_⟩
    exact q d _ (fun b u z => (upd_ne (ne_of_none z nd')).trans z) nd' upd_same
theorem ok_first {f : Addr} {fd : FuncData} (F : Fun K "_first_mode" "_first_mode" s_first_mode f fd) : FnOk P w K mg base CX0 1 f fd ["step", "mode"] spFirst := by
  refine F.ok sc_first_mode (fun vs H Q E h => ?_) (fun cdv A outer s H vs Q E hr h => ?_)
  · obtain ⟨s, m, rfl, _⟩ := h
    rfl
  · obtain ⟨s, m, rfl, s0, md, q⟩ := h
    refine ⟨_, pss_cons (ps_if (pt_cmpR op_eq (pv 0) pe_int (nomark _)) (pss_one (ps_ret pe_str)) pss_nil)
      (pss_cons (ps_if (PW.pt (pw_and (pt_cmpR op_eq (pv 0) pe_int (nomark _)) (pw_and1 (pt_cmpR op_eq (pv 1) pe_str (nomark _))))) (pss_one (ps_ret pe_str)) pss_nil)
      (pss_cons (ps_if (PW.pt (pw_and (pt_cmpR op_eq (pv 0) pe_int (nomark _)) (pw_and1 (pt_cmpR op_eq (pv 1) pe_str (nomark _))))) (pss_one (ps_ret pe_str)) pss_nil)
      (pss_cons (ps_if (PW.pt (pw_and (pt_cmpR op_eq (pe_op op_mod (pv 0) pe_int) pe_int (nomark _)) (pw_and1 (pt_cmpR op_in_seq (pv 1) (pe_tup (pa_cons pe_str (pa_cons pe_str pa_nil))) (by rfl))))) (pss_one (ps_ret pe_str)) pss_nil)
      (pss_one (ps_ret (pv 1)))))), ?_⟩
    have fin : ∀ (x : Str) (H' : Hp), firstM s m = x → Same H H' → Q (.str x) H' := fun x H' e sm => by
      rw [← e]
      exact q H' sm
    walk_at "rd"
    refine ⟨rfl, ?_⟩
    walk_at "rd"
    refine ite2 (fun h => ?_) (fun h1 => ?_)
    · walk_at "rd"
      exact fin "down" H (by rw [int_t h]; exact fi_one m) (Same.refl H)
    have n1 := int_f h1
    walk_at "rd"
    refine ⟨rfl, ?_⟩
    walk_at "rd"
    refine ite2 (fun h => ?_) (fun h2 => ?_)
    · have e2 := int_t h
      walk_at "rd"
      refine ⟨rfl, ?_⟩
      walk_at "rd"
      refine ite2 (fun g => ?_) (fun g1 => ?_)
      · walk_at "rd"
        exact fin "down" H (by rw [str_t g, e2]; exact fi_hd2) (Same.refl H)
      walk_at "rd"
      refine ⟨rfl, ?_⟩
      walk_at "rd"
      refine ite2 (fun _ => ?_) (fun z => absurd h z)
      walk_at "rd"
      refine ⟨rfl, ?_⟩
      walk_at "rd"
      refine ite2 (fun g => ?_) (fun g2 => ?_)
      · walk_at "rd"
        exact fin "up" H (by rw [str_t g, e2]; exact fi_hu2) (Same.refl H)
      walk_at "rd"
      refine ⟨(by show (0 : Int) < 2; decide), ?_⟩
      walk_at "rd"
      refine ⟨rfl, ?_⟩
      walk_at "rd"
      refine ite2 (fun g => absurd (int_t g) (by omega)) (fun _ => ?_)
      walk_at "rd"
      refine fin m H ?_ (Same.refl H)
      unfold firstM
      rw [if_neg n1, if_neg (fun z => str_f g1 z.2), if_neg (fun z => str_f g2 z.2), if_neg (fun z => by have := z.1; omega)]
    · have n2 := int_f h2
      walk_at "rd"
      refine ⟨rfl, ?_⟩
      walk_at "rd"
      refine ite2 (fun z => absurd z h2) (fun _ => ?_)
      walk_at "rd"
      refine ⟨(by show (0 : Int) < 2; decide), ?_⟩
      walk_at "rd"
      refine ⟨rfl, ?_⟩
      walk_at "rd"
      refine ite2 (fun g => ?_) (fun g => ?_)
      · have od := int_t g
        walk_at "rd"
        refine ⟨(by show 2 ≤ sizeLine; decide), fun d nd' => ?_⟩
        refine ⟨d, _, rfl, .inr (SqT.of upd_same), rfl, by decide, ?_⟩
        walk_at "rd"
        have sm : ∀ o, Same H (upd H d o) := fun o b u z => (upd_ne (ne_of_none z nd')).trans z
        refine ite2 (fun k => ?_) (fun k => ?_)
        · walk_at "rd"
          have k' : inV (.str m) [V.str "half_up", .str "half_even"] = true := k
          rw [in_two] at k'
          refine fin "half_down" _ ?_ (sm _)
          unfold firstM
          rw [if_neg n1, if_neg (fun z => n2 z.1), if_neg (fun z => n2 z.1), if_pos ⟨od, of_decide_eq_true k'⟩]
        · walk_at "rd"
          have k' : ¬ inV (.str m) [V.str "half_up", .str "half_even"] = true := k
          rw [in_two] at k'
          refine fin m _ ?_ (sm _)
          unfold firstM
          rw [if_neg n1, if_neg (fun z => n2 z.1), if_neg (fun z => n2 z.1), if_neg (fun z => k' (decide_eq_true z.2))]
      · have od := int_f g
        walk_at "rd"
        refine fin m H ?_ (Same.refl H)
        unfold firstM
        rw [if_neg n1, if_neg (fun z => n2 z.1), if_neg (fun z => n2 z.1), if_neg (fun z => od z.1)]
theorem ok_form {f : Addr} {fd : FuncData} (F : Fun K "form" "form" s_form f fd) (C : Cal P w K mg base "check_side" 3 ["side"] spCheckSide fC dC) (M : Cal P w K mg base "_first_mode" 1 ["step", "mode"] spFirst fB dB) : FnOk P w K mg base CX0 4 f fd ["side"] spForm := by
  refine F.ok sc_form (fun vs H Q E h => ?_) (fun cdv A outer s H vs Q E hr h => ?_)
  · obtain ⟨p, o, s, m, rfl, _⟩ := h
    rfl
  · obtain ⟨p, o, s, m, rfl, hp, S, q⟩ := h
    have nd := sc_form.nd
    refine ⟨_, pss_cons (ps_expr (pcl C hr (by decide) (by rfl) (pa_cons (pv 0) pa_nil)))
      (pss_cons (ps_asg (pv 0) (pg_tup (by rfl) (pgs_cons (pg_name (i := 1) nd rfl (Or.inl rfl)) (pgs_cons (pg_name (i := 2) nd rfl (Or.inl rfl)) (pgs_cons (pg_name (i := 3) nd rfl (Or.inl rfl)) pgs_nil)))))
      (pss_cons (ps_set (i := 4) nd rfl (Or.inl rfl) (pcl M hr (by decide) (by rfl) (pa_cons (pv 2) (pa_cons (pv 3) pa_nil))))
      (pss_cons (ps_if (pt_cmpR op_eq (pv 4) pe_str (nomark _)) (pss_one (ps_ret (pe_tup (pa_cons (pe_op op_mod (pv 1) (pe_op op_mul pe_int (pv 2))) (pa_cons (pv 2) (pa_cons (pv 4) pa_nil)))))) pss_nil)
      (pss_one (ps_ret (pe_tup (pa_cons (pe_op op_mod (pv 1) (pv 2)) (pa_cons (pv 2) (pa_cons (pv 4) pa_nil))))))))), ?_⟩
    have s0 := S.s0
    walk_at "rd"
    refine ⟨p, o, s, m, rfl, hp, S, ?_⟩
    walk_at "rd"
    refine ⟨p, _, rfl, SqT.of hp, rfl, _, _, rfl, _, _, rfl, _, _, rfl, rfl, ?_⟩
    walk_at "rd"
    refine ⟨s, m, rfl, s0, S.md, fun H1 m1 => ?_⟩
    walk_at "rd"
    refine ⟨rfl, ?_⟩
    walk_at "rd"
    refine ite2 (fun h => ?_) (fun h => ?_)
    · have e := str_t h
      walk_at "rd"
      refine ⟨.inl ⟨by decide, by decide⟩, ?_⟩
      walk_at "rd"
      refine ⟨(by show (0 : Int) < 2 * s; omega), ?_⟩
      walk_at "rd"
      refine ⟨(by show 3 ≤ sizeLine; decide), fun d nd' => ?_⟩
      have e2 : formO o s (firstM s m) = o % (2 * s) := by unfold formO; rw [if_pos e]
      refine q d _ (fun b u z => (upd_ne (ne_of_none (m1 _ _ z) nd')).trans (m1 _ _ z)) (m1.free nd') ?_
      rw [e2]
      exact upd_same
    · have e := str_f h
      walk_at "rd"
      refine ⟨(by omega), ?_⟩
      walk_at "rd"
      refine ⟨(by show 3 ≤ sizeLine; decide), fun d nd' => ?_⟩
      have e2 : formO o s (firstM s m) = o % s := by unfold formO; rw [if_neg e]
      refine q d _ (fun b u z => (upd_ne (ne_of_none (m1 _ _ z) nd')).trans (m1 _ _ z)) (m1.free nd') ?_
      rw [e2]
      exact upd_same
end
end HT
namespace HT
open PySem L2
/-- the three classes by number (InvalidSide, InvalidValue, InvalidStyle), and their base class at B -/
structure Er4 (K : PySem.W.Frag) (mg : Str → Option Value) (C : Nat → Addr) (B : Addr) : Prop where
  isi : mg "isinstance" = none
  ve : mg "ValueError" = none
  gB : mg "HandedError" = some (.ref B)
  g0 : mg "InvalidSide" = some (.ref (C 0))
  g1 : mg "InvalidValue" = some (.ref (C 1))
  g2 : mg "InvalidStyle" = some (.ref (C 2))
  kit : ∀ i j, i < 3 → j < 3 → PySem.W.kitOne K (.ref (C i)) (.ref (C j)) = some (decide (i = j))
  kitV : ∀ i, i < 3 → PySem.W.kitOne K (.ref (C i)) (.type "ValueError") = some true
  ec : ∀ i, i < 3 → ErrC K (C i)
  eg : ErrG K
  ex : ∀ i, i < 3 → PySem.W.excIn K (C i) [.type "ValueError", .type "Exception", .type "BaseException", .type "object"] "ValueError.__new__" = true
  kp : ∀ i, i < 3 → PySem.W.keepIn K (.ref (C i)) = true
  sb : ∀ i, i < 3 → PySem.W.subIn K (.ref (C i)) (.type "BaseException") = some true
  ty : ∀ i, i < 3 → PySem.W.typeIn K (.ref (C i)) = some (.type "type")
  emB : ∀ i, i < 3 → PySem.W.exmOne K (.ref (C i)) (.ref B) = some true
/-- no side -/
inductive BadS (H : Hp) : V → Prop where
  | kind {x : V} {n : String} (t : Th H x n) (h : (n == "tuple") = false) : BadS H x
  | len {p : Addr} {xs : List V} (hp : H p = some (.tup xs)) (h : ¬ xs.length = 3) : BadS H (.ref p)
  | off {p : Addr} {a b c : V} {n : String} (hp : H p = some (.tup [a, b, c])) (t : Th H a n) (h : inB a (-10 ^ 40) (10 ^ 40) = false) : BadS H (.ref p)
  | stp {p : Addr} {a b c : V} {n m : String} (hp : H p = some (.tup [a, b, c])) (t : Th H a n) (h : inB a (-10 ^ 40) (10 ^ 40) = true) (u : Th H b m) (g : inB b 1 (10 ^ 30) = false) : BadS H (.ref p)
  | mod {p : Addr} {a b c : V} {n m k : String} (hp : H p = some (.tup [a, b, c])) (t : Th H a n) (h : inB a (-10 ^ 40) (10 ^ 40) = true) (u : Th H b m) (g : inB b 1 (10 ^ 30) = true) (z : Th H c k) (hd : (List.any modesS fun y => eqS y c) = false) : BadS H (.ref p)
theorem BadS.same {H H' : Hp} {x : V} (b : BadS H x) (e : Same H H') : BadS H' x := by
  cases b with
  | kind t h => exact .kind (t.same e) h
  | len hp h => exact .len (e _ _ hp) h
  | off hp t h => exact .off (e _ _ hp) (t.same e) h
  | stp hp t h u g => exact .stp (e _ _ hp) (t.same e) h (u.same e) g
  | mod hp t h u g z hd => exact .mod (e _ _ hp) (t.same e) h (u.same e) g (z.same e) hd
def GoodS (H : Hp) (x : V) : Prop := ∃ (p : Addr) (o s : Int) (m : Str), x = .ref p ∧ H p = some (sideV o s m) ∧ SideP o s m
theorem GoodS.same {H H' : Hp} {x : V} (b : GoodS H x) (e : Same H H') : GoodS H' x := by
  obtain ⟨p, o, s, m, rfl, hp, S⟩ := b
  exact ⟨p, o, s, m, rfl, e _ _ hp, S⟩
def spValX (C : Nat → Addr) : Sp := fun vs H Q E => ∃ (x : V) (n : String), vs = [x] ∧ Th H x n ∧ (isI n = true → Q .non H) ∧ (isI n = false → E (.ref (C 1)) none H)
def spSideX (C : Nat → Addr) : Sp := fun vs H Q E => ∃ x : V, vs = [x] ∧ ((GoodS H x ∧ Q .non H) ∨ (BadS H x ∧ E (.ref (C 0)) none H))
/-- a def of a side -/
def spOneX (C : Nat → Addr) : Sp := fun vs H Q E => ∃ x : V, vs = [x] ∧ ((BadS H x ∧ E (.ref (C 0)) none H) ∨ (GoodS H x ∧ ∀ r H', Same H H' → Q r H'))
/-- a def of a side and a value -/
def spTwoX (C : Nat → Addr) : Sp := fun vs H Q E => ∃ x y : V, vs = [x, y] ∧ ((BadS H x ∧ E (.ref (C 0)) none H) ∨ (GoodS H x ∧ ((∃ n, Th H y n ∧ isI n = false ∧ E (.ref (C 1)) none H) ∨ (∃ v, y = .int v ∧ -2 ^ 700 < v ∧ v < 2 ^ 700 ∧ ∀ r H', Same H H' → Q r H'))))
/-- the table of modes -/
structure ModT (K : PySem.W.Frag) (mg : Str → Option Value) (aM : Addr) : Prop where
  gM : mg "MODES" = some (.ref aM)
  tM : ∀ H, SqT K H aM modesV
theorem modes_map : modesV = modesS.map V.str := rfl
theorem eqS_mode {m : Str} (h : Mode m) : (List.any modesS fun y => eqS y (.str m)) = true := by
  rcases h with e | e | e | e | e <;> subst e <;> decide +kernel
section
variable {P : Program} {w : World} {K : PySem.W.Frag} {mg : Str → Option Value} {base : Heap} {aM aR fI fB fV fC fL fN fW B : Addr} {dI dB dV dC dL dN dW : FuncData} {C : Nat → Addr}
theorem ok_val04 {f : Addr} {fd : FuncData} (F : Fun K "check_value" "check_value" s_check_value f fd) (R : Er4 K mg C B) (I : Cal P w K mg base "is_int" 1 ["thing"] spIsAny fI dI) : FnOk P w K mg base (L2.CX P w) 2 f fd ["value"] (spValX C) := by
  refine F.okX sc_check_value (fun vs H Q E h => ?_) (fun cdv A outer s H vs Q E hr h => ?_)
  · obtain ⟨x, n, rfl, _⟩ := h
    rfl
  · obtain ⟨x, n, rfl, t, q1, q2⟩ := h
    refine ⟨_, pss_one (ps_if (pt_not (pt_val (pcl I hr (by decide) (by rfl) (pa_cons (pv 0) pa_nil)))) (pss_one (ps_raise rfl (takes_of rfl rfl rfl rfl) (pmk_own PySem.F.excBase_ValueError (R.ex 1 (by decide)) R.g1 (R.kp 1 (by decide)) (raises_own (R.sb 1 (by decide)) (R.ty 1 (by decide))) (by rfl)))) pss_nil), ?_⟩
    walk_at "rd"
    refine ⟨x, n, rfl, t, ?_⟩
    walk_at "rd"
    refine ite2 (fun h => ?_) (fun h => ?_)
    · exact q2 (by simpa using h)
    · exact q1 (not_f h)
theorem ok_side04 {f : Addr} {fd : FuncData} (F : Fun K "check_side" "check_side" s_check_side f fd) (T : ChkT mg) (M : ModT K mg aM) (R : Er4 K mg C B) (Bt : Cal P w K mg base "is_int_between" 2 ["thing", "least", "most"] spBetAny fB dB) : FnOk P w K mg base (L2.CX P w) 3 f fd ["side"] (spSideX C) := by
  refine F.okAny sc_check_side (fun vs H Q E h => ?_) (fun cdv A outer s0 H vs Q E hr h => ?_)
  · obtain ⟨x, rfl, _⟩ := h
    rfl
  · obtain ⟨x, rfl, h⟩ := h
    have nd := sc_check_side.nd
    refine ⟨_, pss_cons (ps_if (PW.pt (pw_or (pt_not (pt_val (pe_callB call_isi (by rfl) T.isi (by decide +kernel) (pa_cons (pv 0) (pa_cons (pe_bltn (v := .ty "tuple") (by rfl) T.tuple (by decide +kernel) rfl) pa_nil)))))
        (pw_or1 (pt_cmpR op_ne (pe_callB call_len_seq (by rfl) T.len PySem.boot_len (pa_cons (pv 0) pa_nil)) pe_int (nomark _))))) (pss_one (ps_raise rfl (takes_of rfl rfl rfl rfl) (pmk_own PySem.F.excBase_ValueError (R.ex 0 (by decide)) R.g0 (R.kp 0 (by decide)) (raises_own (R.sb 0 (by decide)) (R.ty 0 (by decide))) (by rfl)))) pss_nil)
      (pss_cons (ps_asg (pv 0) (pg_tup (by rfl) (pgs_cons (pg_name (i := 1) nd rfl (Or.inl rfl)) (pgs_cons (pg_name (i := 2) nd rfl (Or.inl rfl)) (pgs_cons (pg_name (i := 3) nd rfl (Or.inl rfl)) pgs_nil)))))
      (pss_cons (ps_if (pt_not (pt_val (pcl Bt hr (by decide) (by rfl) (pa_cons (pv 1) (pa_cons (pe_un un_neg (pe_op op_pow pe_int pe_int)) (pa_cons (pe_op op_pow pe_int pe_int) pa_nil)))))) (pss_one (ps_raise rfl (takes_of rfl rfl rfl rfl) (pmk_own PySem.F.excBase_ValueError (R.ex 0 (by decide)) R.g0 (R.kp 0 (by decide)) (raises_own (R.sb 0 (by decide)) (R.ty 0 (by decide))) (by rfl)))) pss_nil)
      (pss_cons (ps_if (pt_not (pt_val (pcl Bt hr (by decide) (by rfl) (pa_cons (pv 2) (pa_cons pe_int (pa_cons (pe_op op_pow pe_int pe_int) pa_nil)))))) (pss_one (ps_raise rfl (takes_of rfl rfl rfl rfl) (pmk_own PySem.F.excBase_ValueError (R.ex 0 (by decide)) R.g0 (R.kp 0 (by decide)) (raises_own (R.sb 0 (by decide)) (R.ty 0 (by decide))) (by rfl)))) pss_nil)
      (pss_one (ps_if (pt_cmpR (op_notInTh hr.units) (pv 3) (pe_glob (v := .ref aM) (by rfl) M.gM rfl) (by rfl)) (pss_one (ps_raise rfl (takes_of rfl rfl rfl rfl) (pmk_own PySem.F.excBase_ValueError (R.ex 0 (by decide)) R.g0 (R.kp 0 (by decide)) (raises_own (R.sb 0 (by decide)) (R.ty 0 (by decide))) (by rfl)))) pss_nil))))), ?_⟩
    walk_at "rd"
    rcases h with ⟨⟨p, o, s, m, rfl, hp, S⟩, q⟩ | ⟨bad, q⟩
    · refine ⟨_, _, _, _, _, rfl, .ty "tuple", .base (.tup hp), kit_ty (r := true) (by decide +kernel), ?_⟩
      walk_at "rd"
      refine ⟨p, _, rfl, .inr (SqT.of hp), rfl, ?_⟩
      walk_at "rd"
      refine ⟨p, _, rfl, SqT.of hp, rfl, _, _, rfl, _, _, rfl, _, _, rfl, rfl, ?_⟩
      walk_at "rd"
      refine ⟨⟨by decide, by decide, by decide⟩, ?_⟩
      walk_at "rd"
      refine ⟨⟨by decide, by decide, by decide⟩, _, _, _, _, rfl, .int o, ?_⟩
      have e1 : inB (.int o) (-(10 : Int) ^ (40 : Int).toNat) ((10 : Int) ^ (40 : Int).toNat) = true := by
        show (decide (-(10 : Int) ^ (40 : Int).toNat ≤ o) && decide (o ≤ (10 : Int) ^ (40 : Int).toNat)) = true
        rw [decide_eq_true (show -(10 : Int) ^ (40 : Int).toNat ≤ o from S.o0), decide_eq_true (show o ≤ (10 : Int) ^ (40 : Int).toNat from S.o1)]
        rfl
      refine ⟨_, rfl, ?_⟩
      refine ite2 (fun h => (not_t h e1).elim) (fun _ => ?_)
      walk_at "rd"
      refine ⟨⟨by decide, by decide, by decide⟩, _, _, _, _, rfl, .int s, ?_⟩
      have e2 : inB (.int s) 1 ((10 : Int) ^ (30 : Int).toNat) = true := by
        show (decide ((1 : Int) ≤ s) && decide (s ≤ (10 : Int) ^ (30 : Int).toNat)) = true
        rw [decide_eq_true S.s0, decide_eq_true (show s ≤ (10 : Int) ^ (30 : Int).toNat from S.s1)]
        rfl
      refine ⟨_, rfl, ?_⟩
      refine ite2 (fun h => (not_t h e2).elim) (fun _ => ?_)
      walk_at "rd"
      refine ⟨_, _, modesS, .str m, rfl, M.tM H, ?_⟩
      walk_at "rd"
      refine ite2 (fun h => (not_t h (eqS_mode S.md)).elim) (fun _ => ?_)
      exact q
    · cases bad with
      | kind t h =>
        refine ⟨_, _, _, _, _, rfl, .ty "tuple", t.ty, t.ktup, ?_⟩
        walk_at "rd"
        refine ite2 (fun _ => ?_) (fun z => absurd (by rw [h]; rfl) z)
        exact q
      | len hp h =>
        refine ⟨_, _, _, _, _, rfl, .ty "tuple", .base (.tup hp), kit_ty (r := true) (by decide +kernel), ?_⟩
        walk_at "rd"
        refine ⟨_, _, rfl, .inr (SqT.of hp), ?_⟩
        walk_at "rd"
        refine ⟨rfl, ?_⟩
        walk_at "rd"
        refine ite2 (fun _ => q) (fun z => absurd ?_ z)
        rw [dec_int, decide_eq_false (fun y => h (by omega))]
        rfl
      | off hp t h =>
        refine ⟨_, _, _, _, _, rfl, .ty "tuple", .base (.tup hp), kit_ty (r := true) (by decide +kernel), ?_⟩
        walk_at "rd"
        refine ⟨_, _, rfl, .inr (SqT.of hp), rfl, ?_⟩
        walk_at "rd"
        refine ⟨_, _, rfl, SqT.of hp, rfl, _, _, rfl, _, _, rfl, _, _, rfl, rfl, ?_⟩
        walk_at "rd"
        refine ⟨⟨by decide, by decide, by decide⟩, ?_⟩
        walk_at "rd"
        refine ⟨⟨by decide, by decide, by decide⟩, _, _, _, _, rfl, t, ?_⟩
        refine ⟨_, rfl, ?_⟩
        exact ite2 (fun _ => q) (fun z => absurd (by rw [show inB _ (-(10 : Int) ^ (40 : Int).toNat) ((10 : Int) ^ (40 : Int).toNat) = false from h]; rfl) z)
      | stp hp t h u g =>
        refine ⟨_, _, _, _, _, rfl, .ty "tuple", .base (.tup hp), kit_ty (r := true) (by decide +kernel), ?_⟩
        walk_at "rd"
        refine ⟨_, _, rfl, .inr (SqT.of hp), rfl, ?_⟩
        walk_at "rd"
        refine ⟨_, _, rfl, SqT.of hp, rfl, _, _, rfl, _, _, rfl, _, _, rfl, rfl, ?_⟩
        walk_at "rd"
        refine ⟨⟨by decide, by decide, by decide⟩, ?_⟩
        walk_at "rd"
        refine ⟨⟨by decide, by decide, by decide⟩, _, _, _, _, rfl, t, ?_⟩
        refine ⟨_, rfl, ?_⟩
        refine ite2 (fun z => (not_t z (show inB _ (-(10 : Int) ^ (40 : Int).toNat) ((10 : Int) ^ (40 : Int).toNat) = true from h)).elim) (fun _ => ?_)
        walk_at "rd"
        refine ⟨⟨by decide, by decide, by decide⟩, _, _, _, _, rfl, u, ?_⟩
        refine ⟨_, rfl, ?_⟩
        exact ite2 (fun _ => q) (fun z => absurd (by rw [show inB _ 1 ((10 : Int) ^ (30 : Int).toNat) = false from g]; rfl) z)
      | mod hp t h u g z0 hd =>
        refine ⟨_, _, _, _, _, rfl, .ty "tuple", .base (.tup hp), kit_ty (r := true) (by decide +kernel), ?_⟩
        walk_at "rd"
        refine ⟨_, _, rfl, .inr (SqT.of hp), rfl, ?_⟩
        walk_at "rd"
        refine ⟨_, _, rfl, SqT.of hp, rfl, _, _, rfl, _, _, rfl, _, _, rfl, rfl, ?_⟩
        walk_at "rd"
        refine ⟨⟨by decide, by decide, by decide⟩, ?_⟩
        walk_at "rd"
        refine ⟨⟨by decide, by decide, by decide⟩, _, _, _, _, rfl, t, ?_⟩
        refine ⟨_, rfl, ?_⟩
        refine ite2 (fun z => (not_t z (show inB _ (-(10 : Int) ^ (40 : Int).toNat) ((10 : Int) ^ (40 : Int).toNat) = true from h)).elim) (fun _ => ?_)
        walk_at "rd"
        refine ⟨⟨by decide, by decide, by decide⟩, _, _, _, _, rfl, u, ?_⟩
        refine ⟨_, rfl, ?_⟩
        refine ite2 (fun z => (not_t z (show inB _ 1 ((10 : Int) ^ (30 : Int).toNat) = true from g)).elim) (fun _ => ?_)
        walk_at "rd"
        refine ⟨_, _, modesS, z0, rfl, M.tM H, ?_⟩
        walk_at "rd"
        refine ite2 (fun _ => q) (fun z => absurd (by rw [hd]; rfl) z)
end
end HT
namespace HT
open PySem L2
section
variable {P : Program} {w : World} {K : PySem.W.Frag} {mg : Str → Option Value} {base : Heap} {aM aR fI fB fV fC fL fN fW fG B : Addr} {dI dB dV dC dL dN dW dG : FuncData} {C : Nat → Addr}
theorem bd_of {v : Int} (a : -2 ^ 700 < v) (b : v < 2 ^ 700) : Bd v ∧ BdK v := by
  unfold Bd BdK
  omega
theorem ok_figure_of_x {f : Addr} {fd : FuncData} (F : Fun K "figure_of" "figure_of" s_figure_of f fd) (Ck : CalX P w K mg base "check_side" 3 ["side"] (spSideX C) fC dC) (Vl : CalX P w K mg base "check_value" 2 ["value"] (spValX C) fV dV) (G : Cal P w K mg base "_figure" 2 ["side", "value"] spFig fG dG) : FnOk P w K mg base (L2.CX P w) 4 f fd ["side", "value"] (spTwoX C) := by
  refine F.okX sc_figure_of (fun vs H Q E h => ?_) (fun cdv A outer s0 H vs Q E hr h => ?_)
  · obtain ⟨x, y, rfl, _⟩ := h
    rfl
  · obtain ⟨x, y, rfl, h⟩ := h
    have nd := sc_figure_of.nd
    refine ⟨_, pss_cons (ps_expr (pcx Ck hr (by decide) (by rfl) (takes_of rfl rfl rfl rfl) (pa_cons (pv 0) pa_nil)))
      (pss_cons (ps_expr (pcx Vl hr (by decide) (by rfl) (takes_of rfl rfl rfl rfl) (pa_cons (pv 1) pa_nil)))
      (pss_one (ps_ret (pcl G hr (by decide) (by rfl) (pa_cons (pv 0) (pa_cons (pv 1) pa_nil)))))), ?_⟩
    walk_at "rd"
    rcases h with ⟨bad, q⟩ | ⟨good, ⟨n, t, ni, q⟩ | ⟨v, rfl, v0, v1, q⟩⟩
    · exact .inr ⟨bad, q⟩
    · refine .inl ⟨good, ?_⟩
      walk_at "rd"
      exact ⟨_, _, rfl, t, fun z => absurd (ni.symm.trans z) (by decide), fun _ => q⟩
    · refine .inl ⟨good, ?_⟩
      walk_at "rd"
      refine ⟨_, _, rfl, .int v, fun _ => ?_, fun z => absurd (z.symm.trans (show isI "int" = true by decide)) (by decide)⟩
      obtain ⟨p, o, s, m, rfl, hp, S⟩ := good
      obtain ⟨hb, hk⟩ := bd_of v0 v1
      walk_at "rd"
      exact ⟨p, o, s, m, v, rfl, hp, S, hb, fun H1 sm => q _ _ sm⟩
theorem ok_handed_x {f : Addr} {fd : FuncData} (F : Fun K "handed" "handed" s_handed f fd) (Ck : CalX P w K mg base "check_side" 3 ["side"] (spSideX C) fC dC) (Vl : CalX P w K mg base "check_value" 2 ["value"] (spValX C) fV dV) (G : Cal P w K mg base "written" 3 ["side", "value"] spDue fG dG) : FnOk P w K mg base (L2.CX P w) 4 f fd ["side", "value"] (spTwoX C) := by
  refine F.okX sc_handed (fun vs H Q E h => ?_) (fun cdv A outer s0 H vs Q E hr h => ?_)
  · obtain ⟨x, y, rfl, _⟩ := h
    rfl
  · obtain ⟨x, y, rfl, h⟩ := h
    have nd := sc_handed.nd
    refine ⟨_, pss_cons (ps_expr (pcx Ck hr (by decide) (by rfl) (takes_of rfl rfl rfl rfl) (pa_cons (pv 0) pa_nil)))
      (pss_cons (ps_expr (pcx Vl hr (by decide) (by rfl) (takes_of rfl rfl rfl rfl) (pa_cons (pv 1) pa_nil)))
      (pss_one (ps_ret (pcl G hr (by decide) (by rfl) (pa_cons (pv 0) (pa_cons (pv 1) pa_nil)))))), ?_⟩
    walk_at "rd"
    rcases h with ⟨bad, q⟩ | ⟨good, ⟨n, t, ni, q⟩ | ⟨v, rfl, v0, v1, q⟩⟩
    · exact .inr ⟨bad, q⟩
    · refine .inl ⟨good, ?_⟩
      walk_at "rd"
      exact ⟨_, _, rfl, t, fun z => absurd (ni.symm.trans z) (by decide), fun _ => q⟩
    · refine .inl ⟨good, ?_⟩
      walk_at "rd"
      refine ⟨_, _, rfl, .int v, fun _ => ?_, fun z => absurd (z.symm.trans (show isI "int" = true by decide)) (by decide)⟩
      obtain ⟨p, o, s, m, rfl, hp, S⟩ := good
      obtain ⟨hb, hk⟩ := bd_of v0 v1
      walk_at "rd"
      exact ⟨p, o, s, m, v, rfl, hp, S, hb, fun H1 sm => q _ _ sm⟩
theorem ok_span_x {f : Addr} {fd : FuncData} (F : Fun K "span" "span" s_span f fd) (Ck : CalX P w K mg base "check_side" 3 ["side"] (spSideX C) fC dC) (Vl : CalX P w K mg base "check_value" 2 ["value"] (spValX C) fV dV) (G : Cal P w K mg base "_span" 2 ["side", "figure"] spSpan fG dG) : FnOk P w K mg base (L2.CX P w) 4 f fd ["side", "figure"] (spTwoX C) := by
  refine F.okX sc_span (fun vs H Q E h => ?_) (fun cdv A outer s0 H vs Q E hr h => ?_)
  · obtain ⟨x, y, rfl, _⟩ := h
    rfl
  · obtain ⟨x, y, rfl, h⟩ := h
    have nd := sc_span.nd
    refine ⟨_, pss_cons (ps_expr (pcx Ck hr (by decide) (by rfl) (takes_of rfl rfl rfl rfl) (pa_cons (pv 0) pa_nil)))
      (pss_cons (ps_expr (pcx Vl hr (by decide) (by rfl) (takes_of rfl rfl rfl rfl) (pa_cons (pv 1) pa_nil)))
      (pss_one (ps_ret (pcl G hr (by decide) (by rfl) (pa_cons (pv 0) (pa_cons (pv 1) pa_nil)))))), ?_⟩
    walk_at "rd"
    rcases h with ⟨bad, q⟩ | ⟨good, ⟨n, t, ni, q⟩ | ⟨v, rfl, v0, v1, q⟩⟩
    · exact .inr ⟨bad, q⟩
    · refine .inl ⟨good, ?_⟩
      walk_at "rd"
      exact ⟨_, _, rfl, t, fun z => absurd (ni.symm.trans z) (by decide), fun _ => q⟩
    · refine .inl ⟨good, ?_⟩
      walk_at "rd"
      refine ⟨_, _, rfl, .int v, fun _ => ?_, fun z => absurd (z.symm.trans (show isI "int" = true by decide)) (by decide)⟩
      obtain ⟨p, o, s, m, rfl, hp, S⟩ := good
      obtain ⟨hb, hk⟩ := bd_of v0 v1
      walk_at "rd"
      exact ⟨p, o, s, m, v, rfl, hp, S, hk, fun d H1 sm _ _ => q _ _ sm⟩
theorem ok_back_x {f : Addr} {fd : FuncData} (F : Fun K "back" "back" s_back f fd) (Ck : CalX P w K mg base "check_side" 3 ["side"] (spSideX C) fC dC) (Vl : CalX P w K mg base "check_value" 2 ["value"] (spValX C) fV dV) (G : Cal P w K mg base "threshold" 3 ["side", "value"] spBack fG dG) : FnOk P w K mg base (L2.CX P w) 4 f fd ["side", "value"] (spTwoX C) := by
  refine F.okX sc_back (fun vs H Q E h => ?_) (fun cdv A outer s0 H vs Q E hr h => ?_)
  · obtain ⟨x, y, rfl, _⟩ := h
    rfl
  · obtain ⟨x, y, rfl, h⟩ := h
    have nd := sc_back.nd
    refine ⟨_, pss_cons (ps_expr (pcx Ck hr (by decide) (by rfl) (takes_of rfl rfl rfl rfl) (pa_cons (pv 0) pa_nil)))
      (pss_cons (ps_expr (pcx Vl hr (by decide) (by rfl) (takes_of rfl rfl rfl rfl) (pa_cons (pv 1) pa_nil)))
      (pss_one (ps_ret (pcl G hr (by decide) (by rfl) (pa_cons (pv 0) (pa_cons (pv 1) pa_nil)))))), ?_⟩
    walk_at "rd"
    rcases h with ⟨bad, q⟩ | ⟨good, ⟨n, t, ni, q⟩ | ⟨v, rfl, v0, v1, q⟩⟩
    · exact .inr ⟨bad, q⟩
    · refine .inl ⟨good, ?_⟩
      walk_at "rd"
      exact ⟨_, _, rfl, t, fun z => absurd (ni.symm.trans z) (by decide), fun _ => q⟩
    · refine .inl ⟨good, ?_⟩
      walk_at "rd"
      refine ⟨_, _, rfl, .int v, fun _ => ?_, fun z => absurd (z.symm.trans (show isI "int" = true by decide)) (by decide)⟩
      obtain ⟨p, o, s, m, rfl, hp, S⟩ := good
      obtain ⟨hb, hk⟩ := bd_of v0 v1
      walk_at "rd"
      exact ⟨p, o, s, m, v, rfl, hp, S, v0, v1, fun H1 sm => q _ _ sm⟩
theorem ok_stands_x {f : Addr} {fd : FuncData} (F : Fun K "stands" "stands" s_stands f fd) (Ck : CalX P w K mg base "check_side" 3 ["side"] (spSideX C) fC dC) (Vl : CalX P w K mg base "check_value" 2 ["value"] (spValX C) fV dV) : FnOk P w K mg base (L2.CX P w) 4 f fd ["side", "value"] (spTwoX C) := by
  refine F.okX sc_stands (fun vs H Q E h => ?_) (fun cdv A outer s0 H vs Q E hr h => ?_)
  · obtain ⟨x, y, rfl, _⟩ := h
    rfl
  · obtain ⟨x, y, rfl, h⟩ := h
    have nd := sc_stands.nd
    refine ⟨_, pss_cons (ps_expr (pcx Ck hr (by decide) (by rfl) (takes_of rfl rfl rfl rfl) (pa_cons (pv 0) pa_nil)))
      (pss_cons (ps_expr (pcx Vl hr (by decide) (by rfl) (takes_of rfl rfl rfl rfl) (pa_cons (pv 1) pa_nil)))
      (pss_cons (ps_asg (pv 0) (pg_tup (by rfl) (pgs_cons (pg_name (i := 2) nd rfl (Or.inl rfl)) (pgs_cons (pg_name (i := 3) nd rfl (Or.inl rfl)) (pgs_cons (pg_name (i := 4) nd rfl (Or.inl rfl)) pgs_nil)))))
      (pss_one (ps_ret (pe_cmpR op_eq (pe_op op_mod (pe_op op_sub (pv 1) (pv 2)) (pv 3)) pe_int (nomark _)))))), ?_⟩
    walk_at "rd"
    rcases h with ⟨bad, q⟩ | ⟨good, ⟨n, t, ni, q⟩ | ⟨v, rfl, v0, v1, q⟩⟩
    · exact .inr ⟨bad, q⟩
    · refine .inl ⟨good, ?_⟩
      walk_at "rd"
      exact ⟨_, _, rfl, t, fun z => absurd (ni.symm.trans z) (by decide), fun _ => q⟩
    · refine .inl ⟨good, ?_⟩
      walk_at "rd"
      refine ⟨_, _, rfl, .int v, fun _ => ?_, fun z => absurd (z.symm.trans (show isI "int" = true by decide)) (by decide)⟩
      obtain ⟨p, o, s, m, rfl, hp, S⟩ := good
      obtain ⟨hb, hk⟩ := bd_of v0 v1
      walk_at "rd"
      refine ⟨p, _, rfl, SqT.of hp, rfl, _, _, rfl, _, _, rfl, _, _, rfl, rfl, ?_⟩
      walk_at "rd"
      have b2 := S.s0
      refine ⟨(by omega), ?_⟩
      walk_at "rd"
      exact ⟨rfl, q _ _ (Same.refl H)⟩
theorem ok_mirror_x {f : Addr} {fd : FuncData} (F : Fun K "mirror" "mirror" s_mirror f fd) (R : MirT K w mg aR) (Ck : CalX P w K mg base "check_side" 3 ["side"] (spSideX C) fC dC) : FnOk P w K mg base (L2.CX P w) 4 f fd ["side"] (spOneX C) := by
  refine F.okX sc_mirror (fun vs H Q E h => ?_) (fun cdv A outer s0 H vs Q E hr h => ?_)
  · obtain ⟨x, rfl, _⟩ := h
    rfl
  · obtain ⟨x, rfl, h⟩ := h
    have nd := sc_mirror.nd
    refine ⟨_, pss_cons (ps_expr (pcx Ck hr (by decide) (by rfl) (takes_of rfl rfl rfl rfl) (pa_cons (pv 0) pa_nil)))
      (pss_cons (ps_asg (pv 0) (pg_tup (by rfl) (pgs_cons (pg_name (i := 1) nd rfl (Or.inl rfl)) (pgs_cons (pg_name (i := 2) nd rfl (Or.inl rfl)) (pgs_cons (pg_name (i := 3) nd rfl (Or.inl rfl)) pgs_nil)))))
      (pss_one (ps_ret (pe_tup (pa_cons (pe_un un_neg (pv 1)) (pa_cons (pv 2) (pa_cons (pe_ix ix_kdict (pe_glob (v := .ref aR) (by rfl) R.gR rfl) (pv 3) (fun _ _ => rfl)) pa_nil))))))), ?_⟩
    walk_at "rd"
    rcases h with ⟨bad, q⟩ | ⟨good, q⟩
    · exact .inr ⟨bad, q⟩
    · refine .inl ⟨good, ?_⟩
      obtain ⟨p, o, s, m, rfl, hp, S⟩ := good
      walk_at "rd"
      refine ⟨p, _, rfl, SqT.of hp, rfl, _, _, rfl, _, _, rfl, _, _, rfl, rfl, ?_⟩
      walk_at "rd"
      refine ⟨aR, m, _, rfl, rfl, R.dR m S.md, ?_⟩
      refine ⟨(by show 3 ≤ sizeLine; decide), fun d nd' => ?_⟩
      exact q _ _ (fun b u z => (upd_ne (ne_of_none z nd')).trans z)
theorem ok_form_x {f : Addr} {fd : FuncData} (F : Fun K "form" "form" s_form f fd) (Ck : CalX P w K mg base "check_side" 3 ["side"] (spSideX C) fC dC) (M : Cal P w K mg base "_first_mode" 1 ["step", "mode"] spFirst fB dB) : FnOk P w K mg base (L2.CX P w) 4 f fd ["side"] (spOneX C) := by
  refine F.okX sc_form (fun vs H Q E h => ?_) (fun cdv A outer s0 H vs Q E hr h => ?_)
  · obtain ⟨x, rfl, _⟩ := h
    rfl
  · obtain ⟨x, rfl, h⟩ := h
    have nd := sc_form.nd
    refine ⟨_, pss_cons (ps_expr (pcx Ck hr (by decide) (by rfl) (takes_of rfl rfl rfl rfl) (pa_cons (pv 0) pa_nil)))
      (pss_cons (ps_asg (pv 0) (pg_tup (by rfl) (pgs_cons (pg_name (i := 1) nd rfl (Or.inl rfl)) (pgs_cons (pg_name (i := 2) nd rfl (Or.inl rfl)) (pgs_cons (pg_name (i := 3) nd rfl (Or.inl rfl)) pgs_nil)))))
      (pss_cons (ps_set (i := 4) nd rfl (Or.inl rfl) (pcl M hr (by decide) (by rfl) (pa_cons (pv 2) (pa_cons (pv 3) pa_nil))))
      (pss_cons (ps_if (pt_cmpR op_eq (pv 4) pe_str (nomark _)) (pss_one (ps_ret (pe_tup (pa_cons (pe_op op_mod (pv 1) (pe_op op_mul pe_int (pv 2))) (pa_cons (pv 2) (pa_cons (pv 4) pa_nil)))))) pss_nil)
      (pss_one (ps_ret (pe_tup (pa_cons (pe_op op_mod (pv 1) (pv 2)) (pa_cons (pv 2) (pa_cons (pv 4) pa_nil))))))))), ?_⟩
    walk_at "rd"
    rcases h with ⟨bad, q⟩ | ⟨good, q⟩
    · exact .inr ⟨bad, q⟩
    · refine .inl ⟨good, ?_⟩
      obtain ⟨p, o, s, m, rfl, hp, S⟩ := good
      have s0' := S.s0
      walk_at "rd"
      refine ⟨p, _, rfl, SqT.of hp, rfl, _, _, rfl, _, _, rfl, _, _, rfl, rfl, ?_⟩
      walk_at "rd"
      refine ⟨s, m, rfl, s0', S.md, fun H1 m1 => ?_⟩
      walk_at "rd"
      refine ⟨rfl, ?_⟩
      walk_at "rd"
      refine ite2 (fun h => ?_) (fun h => ?_)
      · walk_at "rd"
        refine ⟨.inl ⟨by decide, by decide⟩, ?_⟩
        walk_at "rd"
        refine ⟨(by show (0 : Int) < 2 * s; omega), ?_⟩
        walk_at "rd"
        refine ⟨(by show 3 ≤ sizeLine; decide), fun d nd' => ?_⟩
        exact q _ _ (fun b u z => (upd_ne (ne_of_none (m1 _ _ z) nd')).trans (m1 _ _ z))
      · walk_at "rd"
        refine ⟨(by omega), ?_⟩
        walk_at "rd"
        refine ⟨(by show 3 ≤ sizeLine; decide), fun d nd' => ?_⟩
        exact q _ _ (fun b u z => (upd_ne (ne_of_none (m1 _ _ z) nd')).trans (m1 _ _ z))
end
end HT
namespace HT
open PySem L2
theorem kstr {K : PySem.W.Frag} {H : Hp} {x : V} {n : String} (t : Th H x n) : PySem.W.kitOne K (.type n) (.type "str") = some (n == "str") := by
  cases t <;> exact kit_ty (by decide +kernel)
theorem isS_str {H : Hp} {x : V} {n : String} (t : Th H x n) (h : (n == "str") = true) : ∃ s, x = .str s := by
  cases t with
  | str s => exact ⟨s, rfl⟩
  | _ => exact absurd h (by decide)
theorem inV_modes (s : Str) : inV (.str s) modesV = List.any modesS fun y => eqS y (.str s) := rfl
def spWhole : Sp := fun vs H Q _ => ∃ (x : V) (n : String) (a b : Int), vs = [x, .int a, .int b] ∧ Th H x n ∧ Q (.bl (inB x a b)) H
def spIsS : Sp := fun vs H Q _ => ∃ x : V, vs = [x] ∧ ((GoodS H x ∧ ∀ H', Same H H' → Q (.bl true) H') ∨ (BadS H x ∧ ∀ H', Same H H' → Q (.bl false) H'))
section
variable {P : Program} {w : World} {K : PySem.W.Frag} {mg : Str → Option Value} {base : Heap} {fW fF : Addr} {dW dF : FuncData}
theorem ok_whole {f : Addr} {fd : FuncData} (F : Fun K "_law_is_whole" "_law_is_whole" s_L_is_whole f fd) (T : ChkT mg) : FnOk P w K mg base CX0 1 f fd ["_law_value", "_law_low", "_law_high"] spWhole := by
  refine F.ok sc_L_is_whole (fun vs H Q E h => ?_) (fun cdv A outer s H vs Q E hr h => ?_)
  · obtain ⟨x, n, a, b, rfl, _⟩ := h
    rfl
  · obtain ⟨x, n, a, b, rfl, t, q⟩ := h
    refine ⟨_, pss_one (ps_ret (pe_and (pe_callB call_isi (by rfl) T.isi (by decide +kernel) (pa_cons (pv 0) (pa_cons (pe_bltn (v := .ty "int") (by rfl) T.int (by decide +kernel) rfl) pa_nil)))
      (pe_and (pe_not (pe_callB call_isi (by rfl) T.isi (by decide +kernel) (pa_cons (pv 0) (pa_cons (pe_bltn (v := .ty "bool") (by rfl) T.bool (by decide +kernel) rfl) pa_nil))))
      (pe_and (pe_cmpR op_ge (pv 0) (pv 1) (nomark _)) (pe_one (pe_cmpR op_le (pv 0) (pv 2) (nomark _))))))), ?_⟩
    walk_at "rd"
    refine ⟨_, _, _, _, _, rfl, .ty "int", t.ty, t.kint, ?_⟩
    walk_at "rd"
    refine ite2 (fun h => ?_) (fun h => ?_)
    · walk_at "rd"
      refine ⟨_, _, _, _, _, rfl, .ty "bool", t.ty, t.kbool, ?_⟩
      walk_at "rd"
      cases t with
      | int i =>
        refine ite2 (fun _ => ?_) (fun z => absurd (by decide) z)
        walk_at "rd"
        change Q (.bl (decide (a ≤ i) && decide (i ≤ b))) H at q
        refine ite2 (fun z => ?_) (fun z => ?_)
        · walk_at "rd"
          rw [decide_eq_true (of_decide_eq_true z)] at q
          exact q
        · rw [decide_eq_false (of_decide_eq_false (by simpa using z))] at q
          exact q
      | bl c =>
        refine ite2 (fun z => absurd z (by decide)) (fun _ => ?_)
        exact q
      | _ => exact absurd h (by decide)
    · cases t with
      | int i => exact absurd (by decide) h
      | bl c => exact absurd (by decide) h
      | _ => exact q
theorem ok_isside {f : Addr} {fd : FuncData} (F : Fun K "_law_is_side" "_law_is_side" s_L_is_side f fd) (T : ChkT mg) (tS : mg "str" = none) (I : Cal P w K mg base "_law_is_whole" 1 ["_law_value", "_law_low", "_law_high"] spWhole fF dF) : FnOk P w K mg base CX0 2 f fd ["_law_value"] spIsS := by
  refine F.ok sc_L_is_side (fun vs H Q E h => ?_) (fun cdv A outer s0 H vs Q E hr h => ?_)
  · obtain ⟨x, rfl, _⟩ := h
    rfl
  · obtain ⟨x, rfl, h⟩ := h
    have nd := sc_L_is_side.nd
    refine ⟨_, pss_cons (ps_if (PW.pt (pw_or (pt_not (pt_val (pe_callB call_isi (by rfl) T.isi (by decide +kernel) (pa_cons (pv 0) (pa_cons (pe_bltn (v := .ty "tuple") (by rfl) T.tuple (by decide +kernel) rfl) pa_nil)))))
        (pw_or (pt_cmpR op_ne (pe_callB call_len_seq (by rfl) T.len PySem.boot_len (pa_cons (pv 0) pa_nil)) pe_int (nomark _))
        (pw_or1 (pt_not (pt_val (pcl I hr (by decide) (by rfl) (pa_cons (pe_ix ix_tup (pv 0) pe_int (fun _ _ => rfl)) (pa_cons (pe_un un_neg (pe_op op_pow pe_int pe_int)) (pa_cons (pe_op op_pow pe_int pe_int) pa_nil))))))))))
          (pss_one (ps_ret pe_bl)) pss_nil)
      (pss_cons (ps_if (PW.pt (pw_or (pt_not (pt_val (pcl I hr (by decide) (by rfl) (pa_cons (pe_ix ix_tup (pv 0) pe_int (fun _ _ => rfl)) (pa_cons pe_int (pa_cons (pe_op op_pow pe_int pe_int) pa_nil))))))
        (pw_or1 (pt_not (pt_val (pe_callB call_isi (by rfl) T.isi (by decide +kernel) (pa_cons (pe_ix ix_tup (pv 0) pe_int (fun _ _ => rfl)) (pa_cons (pe_bltn (v := .ty "str") (by rfl) tS (by decide +kernel) rfl) pa_nil))))))))
          (pss_one (ps_ret pe_bl)) pss_nil)
      (pss_one (ps_ret (pe_cmpR op_in_seq (pe_ix ix_tup (pv 0) pe_int (fun _ _ => rfl)) (pe_lst (pa_cons pe_str (pa_cons pe_str (pa_cons pe_str (pa_cons pe_str (pa_cons pe_str pa_nil)))))) (by rfl))))), ?_⟩
    walk_at "rd"
    have pw : CPow 10 40 := ⟨by decide, by decide, by decide⟩
    have pw3 : CPow 10 30 := ⟨by decide, by decide, by decide⟩
    rcases h with ⟨⟨p, o, s, m, rfl, hp, S⟩, q⟩ | ⟨bad, q⟩
    · have e1 : inB (.int o) (-(10 : Int) ^ (40 : Int).toNat) ((10 : Int) ^ (40 : Int).toNat) = true := by
        show (decide (-(10 : Int) ^ (40 : Int).toNat ≤ o) && decide (o ≤ (10 : Int) ^ (40 : Int).toNat)) = true
        rw [decide_eq_true (show -(10 : Int) ^ (40 : Int).toNat ≤ o from S.o0), decide_eq_true (show o ≤ (10 : Int) ^ (40 : Int).toNat from S.o1)]
        rfl
      have e2 : inB (.int s) 1 ((10 : Int) ^ (30 : Int).toNat) = true := by
        show (decide ((1 : Int) ≤ s) && decide (s ≤ (10 : Int) ^ (30 : Int).toNat)) = true
        rw [decide_eq_true S.s0, decide_eq_true (show s ≤ (10 : Int) ^ (30 : Int).toNat from S.s1)]
        rfl
      refine ⟨_, _, _, _, _, rfl, .ty "tuple", .base (.tup hp), kit_ty (r := true) (by decide +kernel), ?_⟩
      walk_at "rd"
      refine ⟨p, _, rfl, .inr (SqT.of hp), rfl, ?_⟩
      walk_at "rd"
      refine ⟨p, _, 0, _, rfl, rfl, SqT.of hp, rfl, ?_⟩
      walk_at "rd"
      refine ⟨pw, ?_⟩
      walk_at "rd"
      refine ⟨pw, _, _, _, _, rfl, .int o, _, rfl, ?_⟩
      refine ite2 (fun h => (not_t h e1).elim) (fun _ => ?_)
      walk_at "rd"
      refine ⟨p, _, 1, _, rfl, rfl, SqT.of hp, rfl, ?_⟩
      walk_at "rd"
      refine ⟨pw3, _, _, _, _, rfl, .int s, _, rfl, ?_⟩
      refine ite2 (fun h => (not_t h e2).elim) (fun _ => ?_)
      walk_at "rd"
      refine ⟨p, _, 2, _, rfl, rfl, SqT.of hp, rfl, ?_⟩
      refine ⟨_, _, _, _, _, rfl, .ty "str", .base (.str m), kit_ty (r := true) (by decide +kernel), ?_⟩
      walk_at "rd"
      refine ⟨p, _, 2, _, rfl, rfl, SqT.of hp, rfl, ?_⟩
      refine ⟨(by show 5 ≤ sizeLine; decide), fun c nc => ?_⟩
      refine ⟨c, modesV, rfl, .inl (SqL.of upd_same), rfl, rfl, ?_⟩
      show Q (.bl (inV (.str m) modesV)) _
      rw [inV_modes, eqS_mode S.md]
      exact q _ fun b v z => (upd_ne (ne_of_none z nc)).trans z
    · have q0 := q H (fun _ _ z => z)
      cases bad with
      | kind t h =>
        refine ⟨_, _, _, _, _, rfl, .ty "tuple", t.ty, t.ktup, ?_⟩
        walk_at "rd"
        refine ite2 (fun _ => q0) (fun z => absurd (by rw [h]; rfl) z)
      | len hp h =>
        refine ⟨_, _, _, _, _, rfl, .ty "tuple", .base (.tup hp), kit_ty (r := true) (by decide +kernel), ?_⟩
        walk_at "rd"
        refine ⟨_, _, rfl, .inr (SqT.of hp), ?_⟩
        walk_at "rd"
        refine ⟨rfl, ?_⟩
        walk_at "rd"
        refine ite2 (fun _ => q0) (fun z => absurd ?_ z)
        rw [dec_int, decide_eq_false (fun y => h (by omega))]
        rfl
      | off hp t h =>
        refine ⟨_, _, _, _, _, rfl, .ty "tuple", .base (.tup hp), kit_ty (r := true) (by decide +kernel), ?_⟩
        walk_at "rd"
        refine ⟨_, _, rfl, .inr (SqT.of hp), rfl, ?_⟩
        walk_at "rd"
        refine ⟨_, _, 0, _, rfl, rfl, SqT.of hp, rfl, ?_⟩
        walk_at "rd"
        refine ⟨pw, ?_⟩
        walk_at "rd"
        refine ⟨pw, _, _, _, _, rfl, t, _, rfl, ?_⟩
        exact ite2 (fun _ => q0) (fun z => absurd (by rw [show inB _ (-(10 : Int) ^ (40 : Int).toNat) ((10 : Int) ^ (40 : Int).toNat) = false from h]; rfl) z)
      | stp hp t h u g =>
        refine ⟨_, _, _, _, _, rfl, .ty "tuple", .base (.tup hp), kit_ty (r := true) (by decide +kernel), ?_⟩
        walk_at "rd"
        refine ⟨_, _, rfl, .inr (SqT.of hp), rfl, ?_⟩
        walk_at "rd"
        refine ⟨_, _, 0, _, rfl, rfl, SqT.of hp, rfl, ?_⟩
        walk_at "rd"
        refine ⟨pw, ?_⟩
        walk_at "rd"
        refine ⟨pw, _, _, _, _, rfl, t, _, rfl, ?_⟩
        refine ite2 (fun z => (not_t z (show inB _ (-(10 : Int) ^ (40 : Int).toNat) ((10 : Int) ^ (40 : Int).toNat) = true from h)).elim) (fun _ => ?_)
        walk_at "rd"
        refine ⟨_, _, 1, _, rfl, rfl, SqT.of hp, rfl, ?_⟩
        walk_at "rd"
        refine ⟨pw3, _, _, _, _, rfl, u, _, rfl, ?_⟩
        exact ite2 (fun _ => q0) (fun z => absurd (by rw [show inB _ 1 ((10 : Int) ^ (30 : Int).toNat) = false from g]; rfl) z)
      | @mod p a b c n1 n2 n3 hp t h u g z0 hd =>
        refine ⟨_, _, _, _, _, rfl, .ty "tuple", .base (.tup hp), kit_ty (r := true) (by decide +kernel), ?_⟩
        walk_at "rd"
        refine ⟨_, _, rfl, .inr (SqT.of hp), rfl, ?_⟩
        walk_at "rd"
        refine ⟨_, _, 0, _, rfl, rfl, SqT.of hp, rfl, ?_⟩
        walk_at "rd"
        refine ⟨pw, ?_⟩
        walk_at "rd"
        refine ⟨pw, _, _, _, _, rfl, t, _, rfl, ?_⟩
        refine ite2 (fun z => (not_t z (show inB _ (-(10 : Int) ^ (40 : Int).toNat) ((10 : Int) ^ (40 : Int).toNat) = true from h)).elim) (fun _ => ?_)
        walk_at "rd"
        refine ⟨_, _, 1, _, rfl, rfl, SqT.of hp, rfl, ?_⟩
        walk_at "rd"
        refine ⟨pw3, _, _, _, _, rfl, u, _, rfl, ?_⟩
        refine ite2 (fun z => (not_t z (show inB _ 1 ((10 : Int) ^ (30 : Int).toNat) = true from g)).elim) (fun _ => ?_)
        walk_at "rd"
        refine ⟨_, _, 2, _, rfl, rfl, SqT.of hp, rfl, ?_⟩
        refine ⟨_, _, _, _, _, rfl, .ty "str", z0.ty, kstr z0, ?_⟩
        walk_at "rd"
        refine ite2 (fun _ => q0) (fun z => ?_)
        obtain ⟨s, rfl⟩ := isS_str z0 (not_f z)
        walk_at "rd"
        refine ⟨p, _, 2, _, rfl, rfl, SqT.of hp, rfl, ?_⟩
        refine ⟨(by show 5 ≤ sizeLine; decide), fun c nc => ?_⟩
        refine ⟨c, modesV, rfl, .inl (SqL.of upd_same), rfl, rfl, ?_⟩
        show Q (.bl (inV (.str s) modesV)) _
        rw [inV_modes, hd]
        exact q _ fun b v z => (upd_ne (ne_of_none z nc)).trans z
end
end HT
namespace L2
open PySem PySem.Spec PyProof.Rows
/-- xs.count(y) of flat things -/
def rCntV (K : PySem.W.Frag) : V → List V → Hp → VK → Prop := fun x xs H Q => ∃ (p : Addr) (ys : List V) (y : V), x = .ref p ∧ xs = [y] ∧ SqL K H p ys ∧ flatV y = true ∧ ys.all flatV = true ∧ Q (.int (ys.countP (fun z => eqV z y) : Nat)) H
theorem count_eqU {x : V} : ∀ {xs : List V} {us : List Value}, Vals xs us → xs.all flatV = true → us.countP (eqU x) = xs.countP fun y => eqV y x
  | _, _, .nil, _ => rfl
  | y :: xs, u :: us, .cons r t, f => by
    obtain ⟨f1, f2⟩ := Bool.and_eq_true_iff.mp (List.all_cons ▸ f)
    rw [List.countP_cons, List.countP_cons, eqU_of r f1, count_eqU t f2]
theorem mt_cntV {X : Cx} : MtR X "list.count" (rCntV X.K) := by
  intro pins sh st H x xs v us Q iv rx rxs h
  obtain ⟨p, ys, y, rfl, rfl, hs, fy, fys, q⟩ := h
  cases rx
  obtain ⟨u, rfl, ru⟩ := rxs.one
  obtain ⟨its, rv, ⟨⟨cls, dd, data, sl⟩, n, ho, hc, hdn, hd⟩, hlen⟩ := iv.list hs
  dsimp only at hc hd
  subst hc hd
  refine call_meets PySem.F.slot_list_count ⟨_, ho, rfl⟩ PySem.F.entry_list_count (PySem.F.args_list_count_2 _ _) (SeqAt.list_countAt p its.toArray n dd sl u (eqU y)) ⟨ho, fun w hw => mem_eqAt ru fy rv fys w (by simpa using hw), ?_⟩
  refine ⟨.int (ys.countP (fun z => eqV z y) : Nat), H, iv.tok _, ⟨sh.toks, ?_⟩, q⟩
  rw [show its.toArray.toList.countP (eqU y) = ys.countP (fun z => eqV z y) from count_eqU rv fys]
end L2
namespace HT
open PySem L2
def spAsked (C : Nat → Addr) : Sp := fun vs H Q E => ∃ (k : Nat) (x y : V), vs = [.int (k : Int), x, y] ∧ k < 8 ∧ ((BadS H x ∧ E (.ref (C 0)) none H) ∨ (GoodS H x ∧ ((3 ≤ k ∧ ∃ n, Th H y n ∧ isI n = false ∧ E (.ref (C 1)) none H) ∨ ((k < 3 ∨ ∃ v, y = .int v ∧ -2 ^ 700 < v ∧ v < 2 ^ 700) ∧ ∀ r H', Same H H' → Q r H'))))
/-- the word for a call -/
inductive Word (H : Hp) (k : Nat) (x y : V) : Str → Prop where
  | side (b : BadS H x) : Word H k x y "side"
  | value {n : String} (g : GoodS H x) (h : 3 ≤ k) (t : Th H y n) (ni : isI n = false) : Word H k x y "value"
  | good (g : GoodS H x) (h : k < 3 ∨ ∃ v, y = .int v ∧ -2 ^ 700 < v ∧ v < 2 ^ 700) : Word H k x y "good"
def spWord : Sp := fun vs H Q _ => ∃ (k : Nat) (x y : V) (r : Str), vs = [.int (k : Int), x, y] ∧ k < 8 ∧ Word H k x y r ∧ ∀ H', Same H H' → Q (.str r) H'
section
variable {P : Program} {w : World} {K : PySem.W.Frag} {mg : Str → Option Value} {base : Heap} {f0 f1 f2 f3 f4 f5 f6 f7 fA B : Addr} {d0 d1 d2 d3 d4 d5 d6 d7 dA : FuncData} {C : Nat → Addr}
theorem ok_asked {f : Addr} {fd : FuncData} (F : Fun K "_law_asked" "_law_asked" s_L_asked f fd)
    (Ck : CalX P w K mg base "check_side" 3 ["side"] (spSideX C) f0 d0) (Mi : CalX P w K mg base "mirror" 4 ["side"] (spOneX C) f1 d1) (Fo : CalX P w K mg base "form" 4 ["side"] (spOneX C) f2 d2)
    (Fi : CalX P w K mg base "figure_of" 4 ["side", "value"] (spTwoX C) f3 d3) (Ha : CalX P w K mg base "handed" 4 ["side", "value"] (spTwoX C) f4 d4) (St : CalX P w K mg base "stands" 4 ["side", "value"] (spTwoX C) f5 d5)
    (Sp' : CalX P w K mg base "span" 4 ["side", "figure"] (spTwoX C) f6 d6) (Ba : CalX P w K mg base "back" 4 ["side", "value"] (spTwoX C) f7 d7) : FnOk P w K mg base (L2.CX P w) 5 f fd ["_law_way", "_law_one", "_law_value"] (spAsked C) := by
  refine F.okX sc_L_asked (fun vs H Q E h => ?_) (fun cdv A outer s0 H vs Q E hr h => ?_)
  · obtain ⟨k, x, y, rfl, _⟩ := h
    rfl
  · obtain ⟨k, x, y, rfl, hk, h⟩ := h
    have nd := sc_L_asked.nd
    refine ⟨_, (pss_cons (ps_if (pt_cmpR op_eq (pv 0) pe_int (nomark _)) (pss_one (ps_ret (pcx Ck hr (by decide) (by rfl) (takes_of rfl rfl rfl rfl) (pa_cons (pv 1) pa_nil)))) pss_nil)
      (pss_cons (ps_if (pt_cmpR op_eq (pv 0) pe_int (nomark _)) (pss_one (ps_ret (pcx Mi hr (by decide) (by rfl) (takes_of rfl rfl rfl rfl) (pa_cons (pv 1) pa_nil)))) pss_nil)
      (pss_cons (ps_if (pt_cmpR op_eq (pv 0) pe_int (nomark _)) (pss_one (ps_ret (pcx Fo hr (by decide) (by rfl) (takes_of rfl rfl rfl rfl) (pa_cons (pv 1) pa_nil)))) pss_nil)
      (pss_cons (ps_if (pt_cmpR op_eq (pv 0) pe_int (nomark _)) (pss_one (ps_ret (pcx Fi hr (by decide) (by rfl) (takes_of rfl rfl rfl rfl) (pa_cons (pv 1) (pa_cons (pv 2) pa_nil))))) pss_nil)
      (pss_cons (ps_if (pt_cmpR op_eq (pv 0) pe_int (nomark _)) (pss_one (ps_ret (pcx Ha hr (by decide) (by rfl) (takes_of rfl rfl rfl rfl) (pa_cons (pv 1) (pa_cons (pv 2) pa_nil))))) pss_nil)
      (pss_cons (ps_if (pt_cmpR op_eq (pv 0) pe_int (nomark _)) (pss_one (ps_ret (pcx St hr (by decide) (by rfl) (takes_of rfl rfl rfl rfl) (pa_cons (pv 1) (pa_cons (pv 2) pa_nil))))) pss_nil)
      (pss_cons (ps_if (pt_cmpR op_eq (pv 0) pe_int (nomark _)) (pss_one (ps_ret (pcx Sp' hr (by decide) (by rfl) (takes_of rfl rfl rfl rfl) (pa_cons (pv 1) (pa_cons (pv 2) pa_nil))))) pss_nil)
      (pss_one (ps_ret (pcx Ba hr (by decide) (by rfl) (takes_of rfl rfl rfl rfl) (pa_cons (pv 1) (pa_cons (pv 2) pa_nil)))))))))))), ?_⟩
    rcases (by omega : k = 0 ∨ k = 1 ∨ k = 2 ∨ k = 3 ∨ k = 4 ∨ k = 5 ∨ k = 6 ∨ k = 7) with rfl | rfl | rfl | rfl | rfl | rfl | rfl | rfl
    · walk_at "rd"
      refine ⟨rfl, ?_⟩
      walk_at "rd"
      rcases h with ⟨bad, q⟩ | ⟨good, ⟨h3, _⟩ | ⟨_, q⟩⟩
      · exact .inr ⟨bad, q⟩
      · omega
      · exact .inl ⟨good, q _ _ (Same.refl H)⟩
    · walk_at "rd"
      refine ⟨rfl, ?_⟩
      walk_at "rd"
      refine ⟨rfl, ?_⟩
      walk_at "rd"
      rcases h with ⟨bad, q⟩ | ⟨good, ⟨h3, _⟩ | ⟨_, q⟩⟩
      · exact .inl ⟨bad, q⟩
      · omega
      · exact .inr ⟨good, q⟩
    · walk_at "rd"
      refine ⟨rfl, ?_⟩
      walk_at "rd"
      refine ⟨rfl, ?_⟩
      walk_at "rd"
      refine ⟨rfl, ?_⟩
      walk_at "rd"
      rcases h with ⟨bad, q⟩ | ⟨good, ⟨h3, _⟩ | ⟨_, q⟩⟩
      · exact .inl ⟨bad, q⟩
      · omega
      · exact .inr ⟨good, q⟩
    · walk_at "rd"
      refine ⟨rfl, ?_⟩
      walk_at "rd"
      refine ⟨rfl, ?_⟩
      walk_at "rd"
      refine ⟨rfl, ?_⟩
      walk_at "rd"
      refine ⟨rfl, ?_⟩
      walk_at "rd"
      rcases h with ⟨bad, q⟩ | ⟨good, ⟨_, n, th, ni, q⟩ | ⟨z | ⟨v, rfl, v0, v1⟩, q⟩⟩
      · exact ⟨x, y, rfl, .inl ⟨bad, q⟩⟩
      · exact ⟨x, y, rfl, .inr ⟨good, .inl ⟨n, th, ni, q⟩⟩⟩
      · omega
      · exact ⟨x, _, rfl, .inr ⟨good, .inr ⟨v, rfl, v0, v1, q⟩⟩⟩
    · walk_at "rd"
      refine ⟨rfl, ?_⟩
      walk_at "rd"
      refine ⟨rfl, ?_⟩
      walk_at "rd"
      refine ⟨rfl, ?_⟩
      walk_at "rd"
      refine ⟨rfl, ?_⟩
      walk_at "rd"
      refine ⟨rfl, ?_⟩
      walk_at "rd"
      rcases h with ⟨bad, q⟩ | ⟨good, ⟨_, n, th, ni, q⟩ | ⟨z | ⟨v, rfl, v0, v1⟩, q⟩⟩
      · exact ⟨x, y, rfl, .inl ⟨bad, q⟩⟩
      · exact ⟨x, y, rfl, .inr ⟨good, .inl ⟨n, th, ni, q⟩⟩⟩
      · omega
      · exact ⟨x, _, rfl, .inr ⟨good, .inr ⟨v, rfl, v0, v1, q⟩⟩⟩
    · walk_at "rd"
      refine ⟨rfl, ?_⟩
      walk_at "rd"
      refine ⟨rfl, ?_⟩
      walk_at "rd"
      refine ⟨rfl, ?_⟩
      walk_at "rd"
      refine ⟨rfl, ?_⟩
      walk_at "rd"
      refine ⟨rfl, ?_⟩
      walk_at "rd"
      refine ⟨rfl, ?_⟩
      walk_at "rd"
      rcases h with ⟨bad, q⟩ | ⟨good, ⟨_, n, th, ni, q⟩ | ⟨z | ⟨v, rfl, v0, v1⟩, q⟩⟩
      · exact ⟨x, y, rfl, .inl ⟨bad, q⟩⟩
      · exact ⟨x, y, rfl, .inr ⟨good, .inl ⟨n, th, ni, q⟩⟩⟩
      · omega
      · exact ⟨x, _, rfl, .inr ⟨good, .inr ⟨v, rfl, v0, v1, q⟩⟩⟩
    · walk_at "rd"
      refine ⟨rfl, ?_⟩
      walk_at "rd"
      refine ⟨rfl, ?_⟩
      walk_at "rd"
      refine ⟨rfl, ?_⟩
      walk_at "rd"
      refine ⟨rfl, ?_⟩
      walk_at "rd"
      refine ⟨rfl, ?_⟩
      walk_at "rd"
      refine ⟨rfl, ?_⟩
      walk_at "rd"
      refine ⟨rfl, ?_⟩
      walk_at "rd"
      rcases h with ⟨bad, q⟩ | ⟨good, ⟨_, n, th, ni, q⟩ | ⟨z | ⟨v, rfl, v0, v1⟩, q⟩⟩
      · exact ⟨x, y, rfl, .inl ⟨bad, q⟩⟩
      · exact ⟨x, y, rfl, .inr ⟨good, .inl ⟨n, th, ni, q⟩⟩⟩
      · omega
      · exact ⟨x, _, rfl, .inr ⟨good, .inr ⟨v, rfl, v0, v1, q⟩⟩⟩
    · walk_at "rd"
      refine ⟨rfl, ?_⟩
      walk_at "rd"
      refine ⟨rfl, ?_⟩
      walk_at "rd"
      refine ⟨rfl, ?_⟩
      walk_at "rd"
      refine ⟨rfl, ?_⟩
      walk_at "rd"
      refine ⟨rfl, ?_⟩
      walk_at "rd"
      refine ⟨rfl, ?_⟩
      walk_at "rd"
      refine ⟨rfl, ?_⟩
      walk_at "rd"
      rcases h with ⟨bad, q⟩ | ⟨good, ⟨_, n, th, ni, q⟩ | ⟨z | ⟨v, rfl, v0, v1⟩, q⟩⟩
      · exact ⟨x, y, rfl, .inl ⟨bad, q⟩⟩
      · exact ⟨x, y, rfl, .inr ⟨good, .inl ⟨n, th, ni, q⟩⟩⟩
      · omega
      · exact ⟨x, _, rfl, .inr ⟨good, .inr ⟨v, rfl, v0, v1, q⟩⟩⟩
theorem ok_word {f : Addr} {fd : FuncData} (F : Fun K "_law_word" "_law_word" s_L_word f fd) (R : Er4 K mg C B) (As : CalX P w K mg base "_law_asked" 5 ["_law_way", "_law_one", "_law_value"] (spAsked C) fA dA) : FnOk P w K mg base CX0 6 f fd ["_law_way", "_law_one", "_law_value"] spWord := by
  refine F.ok sc_L_word (fun vs H Q E h => ?_) (fun cdv A outer s0 H vs Q E hr h => ?_)
  · obtain ⟨k, x, y, r, rfl, _⟩ := h
    rfl
  · obtain ⟨k, x, y, r, rfl, hk, wd, q⟩ := h
    have nd := sc_L_word.nd
    refine ⟨_, pss_cons (ps_set (i := 3) nd rfl (Or.inl rfl) pe_non)
      (pss_cons (ps_try_keep (i := 4) rfl rfl rfl nd rfl rfl ⟨rfl, by decide, .inl R.gB⟩ takes0 (fun W pn xe tk _ => pss_one (ps_expr (pcx As hr (by decide) (by rfl) tk (pa_cons (pv 0) (pa_cons (pv 1) (pa_cons (pv 2) pa_nil))))))
        (fun a rc kl dd pn hz hf => pss_one (ps_set (i := 3) nd rfl (Or.inl rfl) (pv 4))))
      (pss_cons (ps_if (pt_cmpR op_isN (pv 3) pe_non (nomark _)) (pss_one (ps_ret pe_str)) pss_nil)
      (pss_cons (ps_set (i := 5) nd rfl (Or.inl rfl) (pe_lst (pa_cons (pe_callB call_isKept (by rfl) R.isi (by decide +kernel) (pa_cons (pv 3) (pa_cons (pe_glob (v := .ref (C 0)) (by rfl) R.g0 rfl) pa_nil))) (pa_cons (pe_callB call_isKept (by rfl) R.isi (by decide +kernel) (pa_cons (pv 3) (pa_cons (pe_glob (v := .ref (C 1)) (by rfl) R.g1 rfl) pa_nil))) pa_nil))))
      (pss_cons (ps_if (PW.pt (pw_or (pt_cmpR op_ne (pe_bm PySem.F.plainAttrs_list PySem.F.slot_list_count PySem.F.type_list_count mt_cntV (pv 5) (pa_cons pe_bl pa_nil)) pe_int (nomark _))
          (pw_or (pt_val (pe_callB call_isKept (by rfl) R.isi (by decide +kernel) (pa_cons (pv 3) (pa_cons (pe_glob (v := .ref (C 2)) (by rfl) R.g2 rfl) pa_nil))))
          (pw_or1 (pt_not (pt_val (pe_callB call_isKept (by rfl) R.isi (by decide +kernel) (pa_cons (pv 3) (pa_cons (pe_bltn (v := .ty "ValueError") (by rfl) R.ve (by decide +kernel) rfl) pa_nil))))))))) (pss_one (ps_ret pe_str)) pss_nil)
      (pss_one (ps_ret (pe_ix ix_list (pe_lst (pa_cons pe_str (pa_cons pe_str pa_nil))) (pe_bm PySem.F.plainAttrs_list PySem.F.slot_list_index PySem.F.type_list_index mt_index (pv 5) (pa_cons pe_bl pa_nil)) (fun _ _ => rfl)))))))), ?_⟩
    walk_at "rd"
    cases wd with
    | side b =>
      refine ⟨k, x, y, rfl, hk, .inl ⟨b, ?_⟩⟩
      refine ⟨true, R.emB 0 (by decide), fun _ => ⟨rfl, fun a ha => ?_⟩, fun z => Bool.noConfusion z⟩
      walk_at "rd"
      refine ⟨rfl, ?_⟩
      walk_at "rd"
      refine ⟨a, C 0, _, .ref (C 0), decide (0 = 0), rfl, .own _, upd_same, R.ec 0 (by decide), R.eg, R.kit 0 0 (by decide) (by decide), ?_⟩
      walk_at "rd"
      refine ⟨a, C 0, _, .ref (C 1), decide (0 = 1), rfl, .own _, upd_same, R.ec 0 (by decide), R.eg, R.kit 0 1 (by decide) (by decide), ?_⟩
      walk_at "rd"
      refine ⟨(by show 2 ≤ sizeLine; decide), fun l1 nl1 => ?_⟩
      have ea1 := (upd_ne (o := .lst [V.bl (decide (0 = 0)), .bl (decide (0 = 1))]) (ne_of_none upd_same nl1)).trans (upd_same (H := H) (a := a) (o := ExK (.ref (C 0)) a))
      walk_at "rd"
      refine ⟨.inl ⟨rfl, _, SqL.of upd_same⟩, ?_⟩
      walk_at "rd"
      refine ⟨l1, _, .bl true, rfl, rfl, SqL.of upd_same, rfl, rfl, ?_⟩
      walk_at "rd"
      refine ⟨rfl, ?_⟩
      walk_at "rd"
      refine ⟨a, C 0, _, .ref (C 2), decide (0 = 2), rfl, .own _, ea1, R.ec 0 (by decide), R.eg, R.kit 0 2 (by decide) (by decide), ?_⟩
      walk_at "rd"
      refine ⟨a, C 0, _, .type "ValueError", true, rfl, .ty _, ea1, R.ec 0 (by decide), R.eg, R.kitV 0 (by decide), ?_⟩
      walk_at "rd"
      refine ⟨(by show 2 ≤ sizeLine; decide), fun l4 nl4 => ?_⟩
      have ea4 : ∀ b u, H b = some u → upd (upd (upd H a (ExK (.ref (C 0)) a)) l1 (.lst [V.bl (decide (0 = 0)), .bl (decide (0 = 1))])) l4 (.lst [.str "side", .str "value"]) b = some u := fun b u e0 => by
        have e1 := (upd_ne (o := ExK (.ref (C 0)) a) (ne_of_none e0 ha)).trans e0
        have e2 := (upd_ne (o := .lst [V.bl (decide (0 = 0)), .bl (decide (0 = 1))]) (ne_of_none e1 nl1)).trans e1
        exact (upd_ne (ne_of_none e2 nl4)).trans e2
      walk_at "rd"
      refine ⟨.inl ⟨rfl, _, SqL.of ((upd_ne (ne_of_none upd_same nl4)).trans upd_same)⟩, ?_⟩
      walk_at "rd"
      refine ⟨l1, _, .bl true, 0, .bl true, rfl, rfl, SqL.of ((upd_ne (ne_of_none upd_same nl4)).trans upd_same), rfl, rfl, rfl, rfl, fun m z' hm hz => ?_, ?_⟩
      · exact absurd hm (Nat.not_lt_zero _)
      refine ⟨l4, _, _, _, rfl, rfl, SqL.of upd_same, rfl, ?_⟩
      exact q _ ea4
    | value g h3 th ni =>
      refine ⟨k, x, y, rfl, hk, .inr ⟨g, .inl ⟨h3, _, th, ni, ?_⟩⟩⟩
      refine ⟨true, R.emB 1 (by decide), fun _ => ⟨rfl, fun a ha => ?_⟩, fun z => Bool.noConfusion z⟩
      walk_at "rd"
      refine ⟨rfl, ?_⟩
      walk_at "rd"
      refine ⟨a, C 1, _, .ref (C 0), decide (1 = 0), rfl, .own _, upd_same, R.ec 1 (by decide), R.eg, R.kit 1 0 (by decide) (by decide), ?_⟩
      walk_at "rd"
      refine ⟨a, C 1, _, .ref (C 1), decide (1 = 1), rfl, .own _, upd_same, R.ec 1 (by decide), R.eg, R.kit 1 1 (by decide) (by decide), ?_⟩
      walk_at "rd"
      refine ⟨(by show 2 ≤ sizeLine; decide), fun l1 nl1 => ?_⟩
      have ea1 := (upd_ne (o := .lst [V.bl (decide (1 = 0)), .bl (decide (1 = 1))]) (ne_of_none upd_same nl1)).trans (upd_same (H := H) (a := a) (o := ExK (.ref (C 1)) a))
      walk_at "rd"
      refine ⟨.inl ⟨rfl, _, SqL.of upd_same⟩, ?_⟩
      walk_at "rd"
      refine ⟨l1, _, .bl true, rfl, rfl, SqL.of upd_same, rfl, rfl, ?_⟩
      walk_at "rd"
      refine ⟨rfl, ?_⟩
      walk_at "rd"
      refine ⟨a, C 1, _, .ref (C 2), decide (1 = 2), rfl, .own _, ea1, R.ec 1 (by decide), R.eg, R.kit 1 2 (by decide) (by decide), ?_⟩
      walk_at "rd"
      refine ⟨a, C 1, _, .type "ValueError", true, rfl, .ty _, ea1, R.ec 1 (by decide), R.eg, R.kitV 1 (by decide), ?_⟩
      walk_at "rd"
      refine ⟨(by show 2 ≤ sizeLine; decide), fun l4 nl4 => ?_⟩
      have ea4 : ∀ b u, H b = some u → upd (upd (upd H a (ExK (.ref (C 1)) a)) l1 (.lst [V.bl (decide (1 = 0)), .bl (decide (1 = 1))])) l4 (.lst [.str "side", .str "value"]) b = some u := fun b u e0 => by
        have e1 := (upd_ne (o := ExK (.ref (C 1)) a) (ne_of_none e0 ha)).trans e0
        have e2 := (upd_ne (o := .lst [V.bl (decide (1 = 0)), .bl (decide (1 = 1))]) (ne_of_none e1 nl1)).trans e1
        exact (upd_ne (ne_of_none e2 nl4)).trans e2
      walk_at "rd"
      refine ⟨.inl ⟨rfl, _, SqL.of ((upd_ne (ne_of_none upd_same nl4)).trans upd_same)⟩, ?_⟩
      walk_at "rd"
      refine ⟨l1, _, .bl true, 1, .bl true, rfl, rfl, SqL.of ((upd_ne (ne_of_none upd_same nl4)).trans upd_same), rfl, rfl, rfl, rfl, fun m z' hm hz => ?_, ?_⟩
      · have e : m = 0 := by omega
        subst e
        cases hz
        rfl
      refine ⟨l4, _, _, _, rfl, rfl, SqL.of upd_same, rfl, ?_⟩
      exact q _ ea4
    | good g h3 =>
      refine ⟨k, x, y, rfl, hk, .inr ⟨g, .inr ⟨h3, fun r H1 sm => ?_⟩⟩⟩
      walk_at "rd"
      refine ⟨rfl, ?_⟩
      walk_at "rd"
      exact q _ sm
end
end HT
namespace HT
open PySem L2
/-- a value that is asked about: whole or not -/
def ValQ (H : Hp) (y : V) (b : Bool) : Prop := ∃ n, Th H y n ∧ ((b = true ∧ ∃ v, y = .int v ∧ -2 ^ 700 < v ∧ v < 2 ^ 700 ∧ inB y (-((10 : Int) ^ (50 : Int).toNat) ^ (5 : Int).toNat) (((10 : Int) ^ (50 : Int).toNat) ^ (5 : Int).toNat) = true) ∨ (b = false ∧ isI n = false))
def dueS (g b : Bool) (k : Nat) : Str := if g = false then "side" else if k < 3 then "good" else if b = true then "good" else "value"
def dueL (g b : Bool) : List Str := (List.range 8).map (dueS g b)
def dueD (g b : Bool) : PyData := .list ((dueL g b).map PyData.str)
theorem dpStrs {K : PySem.W.Frag} {H : Hp} : ∀ l : List Str, DpAll K H (l.map V.str) (l.map PyData.str)
  | [] => .nil
  | _ :: l => .cons (.str _) (dpStrs l)
theorem due_shaped (g b : Bool) : SeqAt.shaped (dueD g b) = true := by
  cases g <;> cases b <;> decide +kernel
theorem due_snoc {g b : Bool} {j : Nat} (h : j < 8) : ((dueL g b).take j).map V.str ++ [V.str (dueS g b j)] = ((dueL g b).take (j + 1)).map V.str := by
  have e : (dueL g b)[j]? = some (dueS g b j) := by
    unfold dueL
    rw [List.getElem?_map, List.getElem?_range h]
    rfl
  rw [List.take_succ, e, List.map_append]
  rfl
theorem word_good {H : Hp} {x y : V} {b : Bool} (g : GoodS H x) (v : ValQ H y b) (k : Nat) : Word H k x y (dueS true b k) := by
  unfold dueS
  rw [if_neg (by decide)]
  by_cases h : k < 3
  · rw [if_pos h]
    exact .good g (.inl h)
  · rw [if_neg h]
    obtain ⟨n, t, ⟨rfl, v, e, v0, v1, _⟩ | ⟨rfl, ni⟩⟩ := v
    · rw [if_pos rfl]
      exact .good g (.inr ⟨v, e, v0, v1⟩)
    · rw [if_neg (by decide)]
      exact .value g (by omega) t ni
theorem ValQ.same {H H' : Hp} {y : V} {b : Bool} (v : ValQ H y b) (e : Same H H') : ValQ H' y b := by
  obtain ⟨n, t, r⟩ := v
  exact ⟨n, t.same e, r⟩
theorem ValQ.th {H : Hp} {y : V} {b : Bool} (v : ValQ H y b) : ∃ n, Th H y n ∧ inB y (-((10 : Int) ^ (50 : Int).toNat) ^ (5 : Int).toNat) (((10 : Int) ^ (50 : Int).toNat) ^ (5 : Int).toNat) = b := by
  obtain ⟨n, t, ⟨rfl, v, _, _, _, e⟩ | ⟨rfl, ni⟩⟩ := v
  · exact ⟨n, t, e⟩
  · refine ⟨n, t, ?_⟩
    cases t with
    | int i => exact absurd ni (by decide)
    | _ => rfl
def spFits : Sp := fun vs H Q _ => ∃ x : V, vs = [x] ∧ (GoodS H x ∨ BadS H x) ∧ ∀ H', Same H H' → Q (.bl true) H'
theorem v_int {H : Hp} {v : Int} (a : -2 ^ 700 < v) (b : v < 2 ^ 700) (c : inB (.int v) (-((10 : Int) ^ (50 : Int).toNat) ^ (5 : Int).toNat) (((10 : Int) ^ (50 : Int).toNat) ^ (5 : Int).toNat) = true) : ValQ H (.int v) true := ⟨_, .int v, .inl ⟨rfl, v, rfl, a, b, c⟩⟩
theorem v_no {H : Hp} {y : V} {n : String} (t : Th H y n) (h : isI n = false) : ValQ H y false := ⟨n, t, .inr ⟨rfl, h⟩⟩
section
variable {P : Program} {w : World} {K : PySem.W.Frag} {mg : Str → Option Value} {base : Heap} {f0 f1 f2 f3 : Addr} {d0 d1 d2 d3 : FuncData} {C : Nat → Addr}
theorem ok_fits {f : Addr} {fd : FuncData} (F : Fun K "_law_fits" "_law_fits" s_L_fits f fd) (B : Blt mg) (Is : Cal P w K mg base "_law_is_side" 2 ["_law_value"] spIsS f0 d0) (Wh : Cal P w K mg base "_law_is_whole" 1 ["_law_value", "_law_low", "_law_high"] spWhole f1 d1)
    (Wd : Cal P w K mg base "_law_word" 6 ["_law_way", "_law_one", "_law_value"] spWord f2 d2) (Ck : CalX P w K mg base "check_side" 3 ["side"] (spSideX C) f3 d3) : FnOk P w K mg base CX0 7 f fd ["_law_one"] spFits := by
  refine F.ok sc_L_fits (fun vs H Q E h => ?_) (fun cdv A outer s0 H vs Q E hr h => ?_)
  · obtain ⟨x, rfl, _⟩ := h
    rfl
  · obtain ⟨x, rfl, h, q⟩ := h
    have nd := sc_L_fits.nd
    refine ⟨_, (pss_cons (ps_for PassesOwn.never rfl (pi_list (pe_lst (pa_cons pe_int (pa_cons (pe_un un_neg pe_int) (pa_cons (pe_op op_mulW (pe_op op_powW (pe_op op_pow pe_int pe_int) pe_int) (pe_op op_pow pe_int pe_int)) (pa_cons pe_non (pa_cons pe_bl (pa_cons pe_bl (pa_cons pe_str (pa_cons (pe_lst pa_nil) (pa_cons (pe_tup (pa_cons pe_int pa_nil)) (pa_cons pe_dnewK pa_nil)))))))))))) (pg_name (i := 1) nd rfl (Or.inr rfl)) (pss_cons (ps_set (i := 2) nd rfl (Or.inl rfl) (pe_op op_rep (pe_lst (pa_cons pe_str pa_nil)) pe_int))
      (pss_cons (ps_if (pt_val (pcl Is hr (by decide) (by rfl) (pa_cons (pv 0) pa_nil))) (pss_one (ps_set (i := 2) nd rfl (Or.inl rfl) (pe_op op_cat (pe_op op_rep (pe_lst (pa_cons pe_str pa_nil)) pe_int) (pe_op op_rep (pe_lst (pa_cons (pe_ix ix_list (pe_lst (pa_cons pe_str (pa_cons pe_str pa_nil))) (pe_callTy call_int1 (by rfl) B.int (by decide +kernel) (pa_cons (pcl Wh hr (by decide) (by rfl) (pa_cons (pv 1) (pa_cons (pe_un un_neg (pe_op op_powW (pe_op op_pow pe_int pe_int) pe_int)) (pa_cons (pe_op op_powW (pe_op op_pow pe_int pe_int) pe_int) pa_nil)))) pa_nil)) (fun _ _ => rfl)) pa_nil)) pe_int)))) pss_nil)
      (pss_one (ps_if (pt_cmpR (op_neD hr.units) (pe_lc (own := [("_law_way", 3)]) (g := gName 3) (tt := tYes) rfl nd (pi_range1 (by rfl) B.range (pa_cons pe_int pa_nil)) (blkOk_by (N := ["_law_one", "_law_value", "_law_due", "_law_way"]) (sc := defScope s_L_fits) (by decide +kernel)) (fun _ _ _ _ _ => pg_name (i := 3) nd rfl (Or.inl rfl)) (fun _ _ _ _ _ => pts_nil) (fun _ _ _ _ _ => (pcl Wd hr (by decide) (by rfl) (pa_cons (pv 3) (pa_cons (pv 0) (pa_cons (pv 1) pa_nil)))))) (pv 2) (nomark _)) (pss_one (ps_ret pe_bl)) pss_nil)))))
      (pss_one (ps_ret (pe_or (pe_not (pcl Is hr (by decide) (by rfl) (pa_cons (pv 0) pa_nil))) (pe_one (pe_cmpR op_isN (pcx Ck hr (by decide) (by rfl) takes0 (pa_cons (pv 0) pa_nil)) pe_non (nomark _))))))), ?_⟩
    walk_at "rd"
    refine ⟨⟨by decide, by decide, by decide⟩, ?_⟩
    walk_at "rd"
    refine ⟨⟨by decide, by decide +kernel⟩, ?_⟩
    walk_at "rd"
    refine ⟨⟨by decide, by decide, by decide⟩, ?_⟩
    walk_at "rd"
    refine ⟨mulW ⟨by decide +kernel, by decide +kernel⟩ ⟨by decide +kernel, by decide +kernel⟩, ?_⟩
    walk_at "rd"
    refine ⟨(by show 0 ≤ sizeLine; decide), fun p1 n1 => ?_⟩
    have f1 : upd H p1 (.lst []) p1 = some (.lst []) := upd_same
    have s1 : Same H (upd H p1 (.lst [])) := fun b u z => (upd_ne (ne_of_none z n1)).trans z
    generalize upd H p1 (.lst []) = H1 at f1 s1 ⊢
    walk_at "rd"
    refine ⟨(by show 1 ≤ sizeLine; decide), fun p2 n2 => ?_⟩
    have f2 : upd H1 p2 (.tup [.int 1]) p2 = some (.tup [.int 1]) := upd_same
    have s2 : Same H1 (upd H1 p2 (.tup [.int 1])) := fun b u z => (upd_ne (ne_of_none z n2)).trans z
    generalize upd H1 p2 (.tup [.int 1]) = H2 at f2 s2 ⊢
    walk_at "rd"
    refine fun p3 n3 => ?_
    have f3' : upd H2 p3 (.dK []) p3 = some (.dK []) := upd_same
    have s3 : Same H2 (upd H2 p3 (.dK [])) := fun b u z => (upd_ne (ne_of_none z n3)).trans z
    generalize upd H2 p3 (.dK []) = H3 at f3' s3 ⊢
    walk_at "rd"
    refine ⟨(by show 10 ≤ sizeLine; decide), fun p4 n4 => ?_⟩
    generalize e4 : upd H3 p4 _ = H4
    have xsV : ∃ xs : List V, xs = [.int 0, .int (-7), .int (((10 : Int) ^ (50 : Int).toNat) ^ (3 : Int).toNat * (10 : Int) ^ (49 : Int).toNat), .non, .bl true, .bl false, .str "1", .ref p1, .ref p2, .ref p3] := ⟨_, rfl⟩
    obtain ⟨xs, exs⟩ := xsV
    have f4 : H4 p4 = some (.lst xs) := by rw [← e4, exs]; exact upd_same
    have s4 : Same H3 H4 := by rw [← e4]; exact fun b u z => (upd_ne (ne_of_none z n4)).trans z
    have allQ : ∀ y ∈ xs, ∃ b, ValQ H4 y b := by
      rw [exs]
      intro y hy
      simp only [List.mem_cons, List.not_mem_nil, or_false] at hy
      rcases hy with h | h | h | h | h | h | h | h | h | h <;> subst h
      · exact ⟨_, v_int (by decide +kernel) (by decide +kernel) (by decide +kernel)⟩
      · exact ⟨_, v_int (by decide +kernel) (by decide +kernel) (by decide +kernel)⟩
      · exact ⟨_, v_int (by decide +kernel) (by decide +kernel) (by decide +kernel)⟩
      · exact ⟨_, v_no .non rfl⟩
      · exact ⟨_, v_no (.bl _) rfl⟩
      · exact ⟨_, v_no (.bl _) rfl⟩
      · exact ⟨_, v_no (.str _) rfl⟩
      · exact ⟨_, v_no (.lst (s4 _ _ (s3 _ _ (s2 _ _ f1)))) rfl⟩
      · exact ⟨_, v_no (.tup (s4 _ _ (s3 _ _ f2))) rfl⟩
      · exact ⟨_, v_no (.dk (s4 _ _ f3')) rfl⟩
    have s04 : Same H H4 := s1.trans (s2.trans (s3.trans s4))
    clear f1 s1 f2 s2 f3' s3 s4 e4
    refine ⟨p4, rfl, ⟨_, SqL.of f4⟩, ?_⟩
    refine for_list (K := K) (a := p4) (xs := xs) (fun i st H' => ∃ x1 x2 x3 : Option V, st = [some x, x1, x2, x3] ∧ Same H4 H') ⟨none, none, none, rfl, Same.refl _⟩ (fun _ _ _ _ ⟨_, _, _, _, sm⟩ => SqL.of (sm _ _ f4)) ?_ ?_
    · rintro i y st H' hy ⟨x1, x2, x3, rfl, sm⟩
      obtain ⟨b, vq⟩ := allQ y (List.mem_of_getElem? hy)
      replace vq := vq.same sm
      have hx : GoodS H' x ∨ BadS H' x := h.elim (fun z => .inl (z.same (s04.trans sm))) (fun z => .inr (z.same (s04.trans sm)))
      walk_at "rd"
      refine ⟨(by show 1 ≤ sizeLine; decide), fun p5 n5 => ?_⟩
      generalize e0 : upd H' p5 _ = H5
      have sA : Same H' H5 := by rw [← e0]; exact fun c u z => (upd_ne (ne_of_none z n5)).trans z
      have f5 : H5 p5 = some (.lst [V.str "side"]) := by rw [← e0]; exact upd_same
      clear e0
      walk_at "rd"
      refine ⟨p5, _, _, rfl, rfl, f5, by decide, by decide, (by show 1 * 8 ≤ sizeLine; decide), fun p6 n6 => ?_⟩
      generalize e6 : upd H5 p6 _ = H6
      have sB : Same H5 H6 := by rw [← e6]; exact fun c u z => (upd_ne (ne_of_none z n6)).trans z
      have g6 : H6 p6 = some (.lst ((dueL false b).map V.str)) := by rw [← e6]; exact upd_same
      clear e6
      have sm6 := sA.trans sB
      walk_at "rd"
      rcases hx with g | bad
      · refine .inl ⟨g.same sm6, fun H7 sm7 => ?_⟩
        walk_at "rd"
        refine ite2 (fun _ => ?_) (fun z => absurd rfl z)
        walk_at "rd"
        refine ⟨(by show 1 ≤ sizeLine; decide), fun p7 n7 => ?_⟩
        generalize e7 : upd H7 p7 _ = H8
        have s8 : Same H7 H8 := by rw [← e7]; exact fun c u z => (upd_ne (ne_of_none z n7)).trans z
        have f7 : H8 p7 = some (.lst [V.str "good"]) := by rw [← e7]; exact upd_same
        clear e7
        walk_at "rd"
        refine ⟨p7, _, _, rfl, rfl, f7, by decide, by decide, (by show 1 * 3 ≤ sizeLine; decide), fun p8 n8 => ?_⟩
        generalize e8 : upd H8 p8 _ = H9
        have s9 : Same H8 H9 := by rw [← e8]; exact fun c u z => (upd_ne (ne_of_none z n8)).trans z
        have f8 : H9 p8 = some (.lst [V.str "good", .str "good", .str "good"]) := by rw [← e8]; exact upd_same
        clear e8
        walk_at "rd"
        refine ⟨(by show 2 ≤ sizeLine; decide), fun p9 n9 => ?_⟩
        generalize e9 : upd H9 p9 _ = H10
        have s10 : Same H9 H10 := by rw [← e9]; exact fun c u z => (upd_ne (ne_of_none z n9)).trans z
        have f9 : H10 p9 = some (.lst [V.str "value", .str "good"]) := by rw [← e9]; exact upd_same
        clear e9
        walk_at "rd"
        refine ⟨⟨by decide, by decide, by decide⟩, ?_⟩
        walk_at "rd"
        refine ⟨⟨by decide, by decide +kernel⟩, ?_⟩
        walk_at "rd"
        refine ⟨⟨by decide, by decide, by decide⟩, ?_⟩
        walk_at "rd"
        refine ⟨⟨by decide, by decide +kernel⟩, ?_⟩
        obtain ⟨n, ty, ey⟩ := ((((vq.same sm6).same sm7).same (s8.trans s9)).same s10).th
        refine ⟨_, _, _, _, rfl, ty, ?_⟩
        refine .inr ⟨_, rfl, ?_⟩
        rw [ey]
        have eat : atI [V.str "value", .str "good"] (if b = true then 1 else 0) = some (.str (if b = true then "good" else "value")) := by
          cases b <;> rfl
        refine ⟨p9, _, _, _, rfl, rfl, SqL.of f9, eat, ?_⟩
        walk_at "rd"
        refine ⟨(by show 1 ≤ sizeLine; decide), fun pa na => ?_⟩
        generalize ea : upd H10 pa _ = H11
        have s11 : Same H10 H11 := by rw [← ea]; exact fun c u z => (upd_ne (ne_of_none z na)).trans z
        have fa : H11 pa = some (.lst [V.str (if b = true then "good" else "value")]) := by rw [← ea]; exact upd_same
        clear ea
        walk_at "rd"
        refine ⟨pa, _, _, rfl, rfl, fa, by decide, by decide, (by show 1 * 5 ≤ sizeLine; decide), fun pb nb => ?_⟩
        generalize eb : upd H11 pb _ = H12
        have s12 : Same H11 H12 := by rw [← eb]; exact fun c u z => (upd_ne (ne_of_none z nb)).trans z
        have fb : H12 pb = some (.lst (List.replicate 5 [V.str (if b = true then "good" else "value")]).flatten) := by rw [← eb]; exact upd_same
        clear eb
        refine ⟨p8, pb, _, _, rfl, rfl, s12 _ _ (s11 _ _ (s10 _ _ f8)), fb, (by show 3 + 5 ≤ sizeLine; decide), fun pc nc => ?_⟩
        generalize ec : upd H12 pc _ = H13
        have s13 : Same H12 H13 := by rw [← ec]; exact fun c u z => (upd_ne (ne_of_none z nc)).trans z
        have fc : H13 pc = some (.lst ((dueL true b).map V.str)) := by
          rw [← ec]
          refine upd_same.trans ?_
          cases b <;> rfl
        clear ec
        obtain ⟨gb, hgb⟩ : ∃ gb : Bool, gb = true := ⟨_, rfl⟩
        rw [← hgb] at fc
        have sz : Same H' H13 := sm6.trans (sm7.trans (s8.trans (s9.trans (s10.trans (s11.trans (s12.trans s13))))))
        have wz : ∀ H14, Same H' H14 → ∀ k, Word H14 k x y (dueS gb b k) := fun H14 s14 k => hgb ▸ word_good (g.same s14) (vq.same s14) k
        walk_at "rd"
        refine ⟨by omega, by omega, fun D nD => ?_⟩
        refine lc_range (lo := 0) (n := 8) (fun j Hj => Hj D = some (.lst (((dueL gb b).take j).map V.str)) ∧ Same H13 Hj) ⟨upd_same, fun c u z => (upd_ne (ne_of_none z nD)).trans z⟩ ?_ ?_
        · rintro j Hj hj ⟨hD, sj⟩
          refine ⟨rfl, ?_⟩
          walk_at "rd"
          refine ⟨j, x, y, _, (by show [V.int (0 + (j : Int)), x, y] = _; rw [Int.zero_add]), hj, wz _ (sz.trans sj) j, fun Hk sk => ?_⟩
          refine ⟨_, sk _ _ hD, (by rw [List.length_map, List.length_take]; exact Nat.lt_of_le_of_lt (Nat.min_le_left _ _) (Nat.lt_of_lt_of_le hj (by decide))), ?_, ?_⟩
          · rw [due_snoc hj]; exact upd_same
          · exact fun c u z => (upd_ne (ne_of_none z nD)).trans (sk _ _ (sj _ _ z))
        · rintro Hj ⟨hD, sj⟩
          have e8 : (dueL gb b).take 8 = dueL gb b := by cases gb <;> cases b <;> rfl
          rw [e8] at hD
          walk_at "rd"
          refine ⟨dueD gb b, dueD gb b, .lst (SqL.of hD) (dpStrs _), .lst (SqL.of (sj _ _ fc)) (dpStrs _), due_shaped _ _, due_shaped _ _, ?_⟩
          walk_at "rd"
          refine ite2 (fun z => (not_t z (SeqAt.eqv_refl _ (SeqAt.canLay_of_shaped (due_shaped gb b)))).elim) (fun _ => ?_)
          exact ⟨_, _, _, rfl, sm.trans (sz.trans sj)⟩
      · refine .inr ⟨bad.same sm6, fun H7 sm7 => ?_⟩
        obtain ⟨gb, hgb⟩ : ∃ gb : Bool, gb = false := ⟨_, rfl⟩
        rw [← hgb] at g6
        have sz : Same H' H7 := sm6.trans sm7
        have fc := sm7 _ _ g6
        have wz : ∀ H14, Same H' H14 → ∀ k, Word H14 k x y (dueS gb b k) := fun H14 s14 k => hgb ▸ .side (bad.same s14)
        walk_at "rd"
        refine ⟨by omega, by omega, fun D nD => ?_⟩
        refine lc_range (lo := 0) (n := 8) (fun j Hj => Hj D = some (.lst (((dueL gb b).take j).map V.str)) ∧ Same H7 Hj) ⟨upd_same, fun c u z => (upd_ne (ne_of_none z nD)).trans z⟩ ?_ ?_
        · rintro j Hj hj ⟨hD, sj⟩
          refine ⟨rfl, ?_⟩
          walk_at "rd"
          refine ⟨j, x, y, _, (by show [V.int (0 + (j : Int)), x, y] = _; rw [Int.zero_add]), hj, wz _ (sz.trans sj) j, fun Hk sk => ?_⟩
          refine ⟨_, sk _ _ hD, (by rw [List.length_map, List.length_take]; exact Nat.lt_of_le_of_lt (Nat.min_le_left _ _) (Nat.lt_of_lt_of_le hj (by decide))), ?_, ?_⟩
          · rw [due_snoc hj]; exact upd_same
          · exact fun c u z => (upd_ne (ne_of_none z nD)).trans (sk _ _ (sj _ _ z))
        · rintro Hj ⟨hD, sj⟩
          have e8 : (dueL gb b).take 8 = dueL gb b := by cases gb <;> cases b <;> rfl
          rw [e8] at hD
          walk_at "rd"
          refine ⟨dueD gb b, dueD gb b, .lst (SqL.of hD) (dpStrs _), .lst (SqL.of (sj _ _ fc)) (dpStrs _), due_shaped _ _, due_shaped _ _, ?_⟩
          walk_at "rd"
          refine ite2 (fun z => (not_t z (SeqAt.eqv_refl _ (SeqAt.canLay_of_shaped (due_shaped gb b)))).elim) (fun _ => ?_)
          exact ⟨_, _, _, rfl, sm.trans (sz.trans sj)⟩
    · rintro st H' ⟨x1, x2, x3, rfl, sm⟩
      have hx : GoodS H' x ∨ BadS H' x := h.elim (fun z => .inl (z.same (s04.trans sm))) (fun z => .inr (z.same (s04.trans sm)))
      walk_at "rd"
      rcases hx with g | bad
      · refine .inl ⟨g, fun H5 sm5 => ⟨_, rfl, _, rfl, ite2 (fun z => absurd z (by decide)) (fun _ => ?_)⟩⟩
        walk_at "rd"
        exact .inl ⟨g.same sm5, rfl, q _ ((s04.trans sm).trans sm5)⟩
      · exact .inr ⟨bad, fun H5 sm5 => ⟨_, rfl, _, rfl, ite2 (fun _ => q _ ((s04.trans sm).trans sm5)) (fun z => absurd rfl z)⟩⟩
end
end HT
namespace HT
open PySem PyProof.Rows
section
variable {prog : Program} {w : World} {A : Around} {E : Value → Shared → Prop} {s : Shared}
theorem sliceApplied_rev {sl : Addr} {vl vu vs : Value} {Q : Int × Int × Nat → Shared → Prop} (hs : s.heap.IsSliceOf sl vl vu vs) (pl : IsPart vl none) (pu : IsPart vu none) (ps : IsPart vs (some (-1)))
    (h : Q (2, -1, 3) s) : wpAny (model prog w) A (Builtin.Slice.sliceApplied (.ref sl) (pure (3 : Int))) Q E s := by
  obtain ⟨os, hos, hcs, hds⟩ := id hs
  unfold Builtin.Slice.sliceApplied Builtin.Slice.sliceFields
  refine wpAny_bind (wpAny_bind (wpAny_field hos hds (x := vl) rfl (wpAny_bind (wpAny_field hos hds (x := vu) rfl (wpAny_bind (wpAny_field hos hds (x := vs) rfl (wpAny_pure ?_)))))))
  refine wpAny_bind (slicePart_ ps ?_)
  show wpAny _ _ (if ((-1 : Int) == 0) = true then _ else _) _ _ s
  rw [if_neg (by decide)]
  refine wpAny_bind (slicePart_ pl (wpAny_bind (slicePart_ pu (wpAny_bind (wpAny_pure ?_)))))
  show wpAny _ _ (match Builtin.Slice.sliceAdjust none none (-1) (3 : Int) with | (lo, hi) => pure (lo, (-1 : Int), Builtin.Slice.slicePlaces lo hi (-1))) _ _ s
  rw [show Builtin.Slice.sliceAdjust none none (-1) (3 : Int) = (2, -1) from by decide]
  show wpAny _ _ (pure ((2 : Int), (-1 : Int), Builtin.Slice.slicePlaces 2 (-1) (-1))) _ _ s
  rw [show Builtin.Slice.slicePlaces 2 (-1) (-1) = 3 from by decide]
  exact wpAny_pure h
theorem getItem_rev3 {t sl : Addr} {x y z : Value} {vl vu vs : Value} {Q : Value → Shared → Prop} (ht : IsTup s.heap t #[x, y, z]) (hs : s.heap.IsSliceOf sl vl vu vs) (pl : IsPart vl none) (pu : IsPart vu none) (ps : IsPart vs (some (-1)))
    (h : Q (.ref s.heap.objs.size) { s with heap := s.heap.push { cls := .type "tuple", data := .seq #[z, y, x] } }) : wpAny (model prog w) A (getItem (.ref t) (.ref sl)) Q E s := by
  have htake : sizeOk (.seq #[z, y, x]) := by
    show 3 ≤ sizeLine
    decide
  obtain ⟨os, hos, hcs, hds⟩ := id hs
  have hTs : s.TypeIs (.ref sl) "slice" := ⟨os, hos, hcs⟩
  unfold getItem
  try with_reducible refine wpAny_holding ?_
  first | refine wpAny_bind (wpAny_pure ?_) | skip
  refine wpAny_bind (wpAny_sequenceKey ht.typeIs (by decide) ?_)
  refine wpAny_bind (wpAny_callSpecial?_slot (name := Str.ofString "__getitem__") ht.typeIs PyProof.Rows.slot_tuple_getitem
    (wpAny_call_entry PyProof.Rows.slot_tuple_getitem ht.typeIs entry_tuple_getitem ?_ (args_tuple_getitem _ _)))
  show wpAny _ _ (Builtin.Tuple.tupleItemsOf (.ref t) >>= _) _ _ s
  refine wpAny_bind (tupleItemsOf_ ht ?_)
  refine wpAny_bind (wpAny_typeOf hTs ?_)
  rw [if_pos (by decide)]
  refine wpAny_bind (sliceApplied_rev hs pl pu ps ?_)
  show wpAny _ _ (if (((2 : Int)) == 0 && (-1 : Int) == 1 && (3 == 3)) = true then _ else _) _ _ s
  rw [if_neg (by decide)]
  have e : ((List.range 3).filterMap fun (m : Nat) => (#[x, y, z] : Array Value)[((2 : Int) + (m : Int) * -1).toNat]?).toArray = #[z, y, x] := rfl
  rw [e]
  first
    | exact wpAny_bind (m := Builtin.Tuple.tupleExact _) (wpAny_newObj_type (wpAny_pure ⟨_, rfl, wpAny_pure h⟩) htake)
    | exact wpAny_bind (m := Builtin.Tuple.tupleExact _) (wpAny_newObj_type (wpAny_bind (wpAny_pure (wpAny_pure ⟨_, rfl, wpAny_pure h⟩))) htake)
    | exact wpAny_bind (wpAny_bind (m := Builtin.Tuple.tupleExact _) (wpAny_newObj_type (wpAny_pure (wpAny_pure ⟨_, rfl, wpAny_pure h⟩)) htake))
    | exact wpAny_bind (wpAny_bind (m := Builtin.Tuple.tupleExact _) (wpAny_newObj_type (wpAny_pure ⟨_, rfl, wpAny_pure h⟩) htake))
end
end HT
namespace L2
open PySem PySem.Spec PyProof.Rows
section
variable {X : Cx}
/-- t[::-1] of a tuple of three -/
def tRev3 (K : PySem.W.Frag) (te : TE) : TE := fun σ H Q => te σ H fun x H1 => ∃ (a : Addr) (u v w : V), x = .ref a ∧ SqT K H1 a [u, v, w] ∧ ∀ p, H1 p = none → Q (.ref p) (upd H1 p (.tup [w, v, u]))
theorem pe_rev3 {e : Expr} {te : TE} {k : Nat} {p1 p2 p3 pos : Pos} (he : PE X e te) : PE X (.Subscript e (.Slice none none (some (.UnaryOp .USub (.Constant (.int 1) k p1) p2)) p3) pos) (tRev3 X.K te) := by
  refine ⟨fun pins s σ H Q I h => ?_⟩
  refine Subscript_ (thn (he.run pins s σ H _ I h) fun v s1 ⟨x, H1, I1, r1, q1⟩ => ?_)
  obtain ⟨a, xu, xv, xw, ex, hx, q⟩ := q1
  subst ex
  cases r1
  have hst : PO X (some (.UnaryOp .USub (.Constant (.int 1) k p1) p2)) (tPart (tUn (rU fun i => .int (-i)) (tC (.int 1)))) := po_some (pe_un un_neg pe_int)
  refine wpAny_Slice (thn (po_none.run pins s1 σ H1 (fun o H2 => o = none ∧ H2 = H1) I1 ⟨rfl, rfl⟩) fun vl s2 ⟨l, H2, I2, pl, el, e2⟩ => ?_)
  subst el e2
  refine thn (po_none.run pins s2 σ H2 (fun o H3 => o = none ∧ H3 = H2) I2 ⟨rfl, rfl⟩) fun vu s3 ⟨u, H3, I3, pu, eu, e3⟩ => ?_
  subst eu e3
  refine thn (hst.run pins s3 σ H3 (fun o H4 => o = some (-1) ∧ H4 = H3) I3 ⟨1, rfl, -1, rfl, rfl, rfl⟩) fun vs s4 ⟨o, H4, I4, ps, eo, e4⟩ => ?_
  subst eo e4
  have I5 : Inv X pins σ H4 { s4 with heap := s4.heap.push { cls := .type "slice", data := .fields #[vl, vu, vs] } } := I4.kept (t' := s4.toks) fun b ob q => Heap.get?_push_of_some _ q
  obtain ⟨its, r, ht, hz⟩ := I5.tuple hx
  show wpAny (model X.prog X.w) X.A (subscriptTail e (.Slice none none (some (.UnaryOp .USub (.Constant (.int 1) k p1) p2)) p3) (.ref a) (.ref s4.heap.objs.size)) (EP X pins σ Q) X.xe { s4 with heap := s4.heap.push { cls := .type "slice", data := .fields #[vl, vu, vs] } }
  refine tail_any (ops := [.ref a, .ref s4.heap.objs.size]) ht.typeIs (PyProof.Rows.slot_tuple_getitem.lookup) ?_ (by with_unfolding_all rfl)
  obtain ⟨vx, vy, vz, rx, ry, rz, rfl⟩ : ∃ vx vy vz, RelV xu vx ∧ RelV xv vy ∧ RelV xw vz ∧ its = [vx, vy, vz] := by
    cases r with
    | cons a1 r1 =>
      cases r1 with
      | cons a2 r2 =>
        cases r2 with
        | cons a3 r3 =>
          cases r3
          exact ⟨_, _, _, a1, a2, a3, rfl⟩
  refine HT.getItem_rev3 (x := vx) (y := vy) (z := vz) ht (Heap.IsSliceOf.new _ vl vu vs) pl pu ps ?_
  refine ⟨.ref _, _, I5.laid (t' := s4.toks) (o := .tup [xw, xv, xu]) (fun b ob q => Heap.get?_push_of_some _ q) (Nat.le_refl _) ?_, rfl, q _ (I5.hok.fresh (Nat.le_refl _))⟩
  exact ⟨(by show 3 ≤ sizeLine; decide), _, .cons rz (.cons ry (.cons rx .nil)), IsTup.new _ _⟩
end
end L2
namespace HT
open PySem L2
theorem same_upd {H : Hp} {a : Addr} {o : HO} (n : H a = none) : Same H (upd H a o) := fun b u z => (upd_ne (ne_of_none z n)).trans z
/-- a heap without the source's two lists -/
def Off (a c : Addr) (G : Hp) : Hp := fun b => if b = a ∨ b = c then none else G b
theorem Off.same {a c : Addr} {G H' : Hp} (O : Oth a c G H') : Same (Off a c G) H' := fun b o h => by
  unfold Off at h
  split at h
  · cases h
  · rename_i n
    exact O b o h (fun e => n (.inl e)) (fun e => n (.inr e))
theorem Off.mono {a c : Addr} {G G' : Hp} (s : Same G G') : Same (Off a c G) (Off a c G') := fun b o h => by
  unfold Off at h ⊢
  split at h
  · cases h
  · rename_i n
    rw [if_neg n]
    exact s _ _ h
theorem Off.oth {a c : Addr} {G G' : Hp} (s : Oth a c G G') : Same (Off a c G) (Off a c G') := fun b o h => by
  unfold Off at h ⊢
  split at h
  · cases h
  · rename_i n
    rw [if_neg n]
    exact s b o h (fun e => n (.inl e)) (fun e => n (.inr e))
theorem Off.at_ {a c p : Addr} {G : Hp} {o : HO} (n : p ≠ a ∧ p ≠ c) (h : G p = some o) : Off a c G p = some o := by
  unfold Off
  rw [if_neg (fun e => e.elim n.1 n.2)]
  exact h
theorem Off.un {a c p : Addr} {G : Hp} {o : HO} (h : Off a c G p = some o) : G p = some o := by
  unfold Off at h
  split at h
  · cases h
  · exact h
theorem mode_any {y : V} (h : (List.any modesS fun z => eqS z y) = true) : ∃ m : Str, y = .str m ∧ Mode m := by
  cases y with
  | str m =>
    refine ⟨m, rfl, ?_⟩
    have e : ∀ z : Str, eqS z (.str m) = decide (z = m) := fun z => by
      show (z == m) = decide (z = m)
      by_cases h : z = m
      · rw [decide_eq_true h, h, beq_self_eq_true]
      · rw [decide_eq_false h]
        exact beq_eq_false_iff_ne.mpr h
    unfold modesS at h
    simp only [List.any_cons, List.any_nil, e, Bool.or_false, Bool.or_eq_true, decide_eq_true_eq] at h
    rcases h with h | h | h | h | h
    · exact .inl h.symm
    · exact .inr (.inl h.symm)
    · exact .inr (.inr (.inl h.symm))
    · exact .inr (.inr (.inr (.inl h.symm)))
    · exact .inr (.inr (.inr (.inr h.symm)))
  | _ => exact absurd h (by unfold modesS; simp [eqS])
theorem inB_int {y : V} {a b : Int} (h : inB y a b = true) : ∃ i : Int, y = .int i ∧ a ≤ i ∧ i ≤ b := by
  cases y with
  | int i =>
    have h' : (decide (a ≤ i) && decide (i ≤ b)) = true := h
    rw [Bool.and_eq_true] at h'
    exact ⟨i, rfl, of_decide_eq_true h'.1, of_decide_eq_true h'.2⟩
  | _ => cases h
theorem in_o {o s : Int} {m : Str} (S : SideP o s m) : inB (.int o) (-10 ^ 40) (10 ^ 40) = true := by
  show (decide (-(10 : Int) ^ 40 ≤ o) && decide (o ≤ (10 : Int) ^ 40)) = true
  rw [decide_eq_true S.o0, decide_eq_true S.o1]
  rfl
theorem in_s {o s : Int} {m : Str} (S : SideP o s m) : inB (.int s) 1 (10 ^ 30) = true := by
  show (decide ((1 : Int) ≤ s) && decide (s ≤ (10 : Int) ^ 30)) = true
  rw [decide_eq_true S.s0, decide_eq_true S.s1]
  rfl
/-- a side or none -/
def SdQ (H : Hp) (x : V) : Prop := GoodS H x ∨ BadS H x
theorem SdQ.same {H H' : Hp} {x : V} (b : SdQ H x) (e : Same H H') : SdQ H' x := b.elim (fun z => .inl (z.same e)) (fun z => .inr (z.same e))
theorem put0 {H : Hp} {p : Addr} {y : V} {n : String} {o s : Int} {m : Str} (S : SideP o s m) (t : Th H y n) (hp : H p = some (.tup [y, .int s, .str m])) : SdQ H (.ref p) := by
  cases e : inB y (-10 ^ 40) (10 ^ 40) with
  | false => exact .inr (.off hp t e)
  | true =>
    obtain ⟨i, rfl, a, b⟩ := inB_int e
    exact .inl ⟨p, i, s, m, rfl, hp, ⟨a, b, S.s0, S.s1, S.md⟩⟩
theorem put1 {H : Hp} {p : Addr} {y : V} {n : String} {o s : Int} {m : Str} (S : SideP o s m) (t : Th H y n) (hp : H p = some (.tup [.int o, y, .str m])) : SdQ H (.ref p) := by
  cases e : inB y 1 (10 ^ 30) with
  | false => exact .inr (.stp hp (.int o) (in_o S) t e)
  | true =>
    obtain ⟨i, rfl, a, b⟩ := inB_int e
    exact .inl ⟨p, o, i, m, rfl, hp, ⟨S.o0, S.o1, a, b, S.md⟩⟩
theorem put2 {H : Hp} {p : Addr} {y : V} {n : String} {o s : Int} {m : Str} (S : SideP o s m) (t : Th H y n) (hp : H p = some (.tup [.int o, .int s, y])) : SdQ H (.ref p) := by
  cases e : (List.any modesS fun z => eqS z y) with
  | false => exact .inr (.mod hp (.int o) (in_o S) (.int s) (in_s S) t e)
  | true =>
    obtain ⟨m', rfl, md⟩ := mode_any e
    exact .inl ⟨p, o, s, m', rfl, hp, ⟨S.o0, S.o1, S.s0, S.s1, md⟩⟩
def spBent : Sp := fun vs H Q _ => ∃ (a c : Addr) (t : Nat) (p : Addr) (o s : Int) (m : Str), vs = [.ref a, .ref p] ∧ Src H a c t ∧ t + 10 < 2 ^ 30 ∧ H p = some (sideV o s m) ∧ SideP o s m ∧
  ∀ (x : V) (H' : Hp) (t' : Nat), SdQ H' x → t' ≤ t + 10 → Src H' a c t' → Oth a c H H' → Q x H'
section
variable {P : Program} {w : World} {K : PySem.W.Frag} {mg : Str → Option Value} {base : Heap} {fP fD : Addr} {dP dD : FuncData}
theorem ok_bent {f : Addr} {fd : FuncData} (F : Fun K "_law_bent" "_law_bent" s_L_bent f fd) (tL : mg "list" = none) (D : Cal P w K mg base "_law_draw" 1 ["_law_source_here", "_law_limit"] spDraw fD dD) (Pk : Cal P w K mg base "_law_pick" 2 ["_law_source_here", "_law_values"] spPick fP dP) : FnOk P w K mg base CX0 3 f fd ["_law_source_here", "_law_one"] spBent := by
  refine F.ok sc_L_bent (fun vs H Q E h => ?_) (fun cdv A outer s0 H vs Q E hr h => ?_)
  · obtain ⟨a, c, t, p, o, s, m, rfl, _⟩ := h
    rfl
  · obtain ⟨a, c, t, p, o, s, m, rfl, S0, ht, hp, S, q⟩ := h
    have nd := sc_L_bent.nd
    refine ⟨_, (pss_cons (ps_set (i := 2) nd rfl (Or.inl rfl) (pe_lst (pa_cons pe_non (pa_cons pe_bl (pa_cons pe_bl (pa_cons pe_str (pa_cons pe_str (pa_cons (pe_lst pa_nil) (pa_cons (pe_tup pa_nil) (pa_cons pe_dnewK (pa_cons pe_int (pa_cons (pe_un un_neg pe_int) (pa_cons pe_int (pa_cons (pe_op op_pow pe_int pe_int) (pa_cons (pe_op op_add (pe_op op_pow pe_int pe_int) pe_int) (pa_cons (pe_op op_pow pe_int pe_int) (pa_cons (pe_op op_add (pe_op op_pow pe_int pe_int) pe_int) (pa_cons (pe_un un_neg (pe_op op_pow pe_int pe_int)) pa_nil))))))))))))))))))
      (pss_cons (ps_set (i := 2) nd rfl (Or.inl rfl) (pe_op op_cat (pv 2) (pe_lst (pa_cons (pe_op op_sub (pe_un un_neg (pe_op op_pow pe_int pe_int)) pe_int) (pa_cons pe_str (pa_cons pe_str (pa_cons pe_str (pa_cons pe_str (pa_cons pe_str (pa_cons (pe_tup (pa_cons pe_str pa_nil)) (pa_cons (pe_lst (pa_cons pe_str pa_nil)) (pa_cons (pv 1) pa_nil))))))))))))
      (pss_cons (ps_set (i := 3) nd rfl (Or.inl rfl) (pcl D hr (by decide) (by rfl) (pa_cons (pv 0) (pa_cons pe_int pa_nil))))
      (pss_cons (ps_set (i := 4) nd rfl (Or.inl rfl) (pe_op op_rep (pe_lst (pa_cons (pe_op op_catA (pe_op op_catA (pe_slice sl_tupA (pv 1) po_none (po_some (pv 3))) (pe_tup (pa_cons (pcl Pk hr (by decide) (by rfl) (pa_cons (pv 0) (pa_cons (pv 2) pa_nil))) pa_nil))) (pe_slice sl_tupA (pv 1) (po_some (pe_op op_add (pv 3) pe_int)) po_none)) pa_nil)) pe_int))
      (pss_cons (ps_set (i := 4) nd rfl (Or.inl rfl) (pe_op op_cat (pv 4) (pe_lst (pa_cons (pe_callTy call_list_of (by rfl) tL (by decide +kernel) (pa_cons (pv 1) pa_nil)) (pa_cons (pe_slice sl_tupA (pv 1) po_none (po_some pe_int)) (pa_cons (pe_op op_catA (pv 1) (pe_tup (pa_cons pe_int pa_nil))) (pa_cons pe_non (pa_cons (pe_tup pa_nil) (pa_cons (pe_lst pa_nil) (pa_cons pe_str (pa_cons pe_int (pa_cons pe_dnewK (pa_cons (pe_tup (pa_cons (pv 1) pa_nil)) (pa_cons (pe_rev3 (pv 1)) (pa_cons pe_bl pa_nil)))))))))))))))
      (pss_one (ps_ret (pcl Pk hr (by decide) (by rfl) (pa_cons (pv 0) (pa_cons (pv 4) pa_nil)))))))))), ?_⟩
    have fp : Off a c H p = some (.tup [.int o, .int s, .str m]) := Off.at_ (S0.nt hp) hp
    walk_at "rd"
    refine ⟨(by show 0 ≤ sizeLine; decide), fun p1 np1 => ?_⟩
    generalize e1 : upd H p1 _ = H1
    have y1 : Same H H1 := by rw [← e1]; exact same_upd np1
    have z1 : Same (Off a c H) (Off a c H1) := Off.mono y1
    have fp1 : Off a c H1 p1 = some (.lst []) := Off.at_ (S0.na np1) (by rw [← e1]; exact upd_same)
    have S1 : Src H1 a c t := S0.of_same y1
    clear e1
    walk_at "rd"
    refine ⟨(by show 0 ≤ sizeLine; decide), fun p2 np2 => ?_⟩
    generalize e2 : upd H1 p2 _ = H2
    have y2 : Same H1 H2 := by rw [← e2]; exact same_upd np2
    have z2 : Same (Off a c H1) (Off a c H2) := Off.mono y2
    have fp2 : Off a c H2 p2 = some (.tup []) := Off.at_ (S1.na np2) (by rw [← e2]; exact upd_same)
    have S2 : Src H2 a c t := S1.of_same y2
    clear e2
    walk_at "rd"
    refine fun p3 np3 => ?_
    generalize e3 : upd H2 p3 _ = H3
    have y3 : Same H2 H3 := by rw [← e3]; exact same_upd np3
    have z3 : Same (Off a c H2) (Off a c H3) := Off.mono y3
    have fp3 : Off a c H3 p3 = some (.dK []) := Off.at_ (S2.na np3) (by rw [← e3]; exact upd_same)
    have S3 : Src H3 a c t := S2.of_same y3
    clear e3
    walk_at "rd"
    refine ⟨⟨by decide, by decide, by decide⟩, ?_⟩
    walk_at "rd"
    refine ⟨⟨by decide, by decide, by decide⟩, ?_⟩
    walk_at "rd"
    refine ⟨⟨by decide, by decide, by decide⟩, ?_⟩
    walk_at "rd"
    refine ⟨⟨by decide, by decide, by decide⟩, ?_⟩
    walk_at "rd"
    refine ⟨⟨by decide, by decide, by decide⟩, ?_⟩
    walk_at "rd"
    refine ⟨(by show 16 ≤ sizeLine; decide), fun p4 np4 => ?_⟩
    generalize e4 : upd H3 p4 _ = H4
    have y4 : Same H3 H4 := by rw [← e4]; exact same_upd np4
    have z4 : Same (Off a c H3) (Off a c H4) := Off.mono y4
    have fp4 : Off a c H4 p4 = some (.lst [V.non, .bl true, .bl false, .str "1", .str "", .ref p1, .ref p2, .ref p3, .int 0, .int (-1), .int 1, .int ((10 : Int) ^ (30 : Int).toNat), .int ((10 : Int) ^ (30 : Int).toNat + 1), .int ((10 : Int) ^ (40 : Int).toNat), .int ((10 : Int) ^ (40 : Int).toNat + 1), .int (-(10 : Int) ^ (40 : Int).toNat)]) := Off.at_ (S3.na np4) (by rw [← e4]; exact upd_same)
    have S4 : Src H4 a c t := S3.of_same y4
    clear e4
    walk_at "rd"
    refine ⟨⟨by decide, by decide, by decide⟩, ?_⟩
    walk_at "rd"
    refine ⟨(by show 1 ≤ sizeLine; decide), fun p5 np5 => ?_⟩
    generalize e5 : upd H4 p5 _ = H5
    have y5 : Same H4 H5 := by rw [← e5]; exact same_upd np5
    have z5 : Same (Off a c H4) (Off a c H5) := Off.mono y5
    have fp5 : Off a c H5 p5 = some (.tup [.str "up"]) := Off.at_ (S4.na np5) (by rw [← e5]; exact upd_same)
    have S5 : Src H5 a c t := S4.of_same y5
    clear e5
    walk_at "rd"
    refine ⟨(by show 1 ≤ sizeLine; decide), fun p6 np6 => ?_⟩
    generalize e6 : upd H5 p6 _ = H6
    have y6 : Same H5 H6 := by rw [← e6]; exact same_upd np6
    have z6 : Same (Off a c H5) (Off a c H6) := Off.mono y6
    have fp6 : Off a c H6 p6 = some (.lst [.str "up"]) := Off.at_ (S5.na np6) (by rw [← e6]; exact upd_same)
    have S6 : Src H6 a c t := S5.of_same y6
    clear e6
    walk_at "rd"
    refine ⟨(by show 9 ≤ sizeLine; decide), fun p7 np7 => ?_⟩
    generalize e7 : upd H6 p7 _ = H7
    have y7 : Same H6 H7 := by rw [← e7]; exact same_upd np7
    have z7 : Same (Off a c H6) (Off a c H7) := Off.mono y7
    have fp7 : Off a c H7 p7 = some (.lst [V.int (-(10 : Int) ^ (40 : Int).toNat - 1), .str "down", .str "half", .str "Up", .str "half_odd", .str "up ", .ref p5, .ref p6, .ref p]) := Off.at_ (S6.na np7) (by rw [← e7]; exact upd_same)
    have S7 : Src H7 a c t := S6.of_same y7
    clear e7
    refine ⟨_, _, _, _, rfl, rfl, (Off.un (z7 _ _ (z6 _ _ (z5 _ _ fp4)))), (Off.un fp7), (by show 16 + 9 ≤ sizeLine; decide), fun p8 np8 => ?_⟩
    generalize e8 : upd H7 p8 _ = H8
    have y8 : Same H7 H8 := by rw [← e8]; exact same_upd np8
    have z8 : Same (Off a c H7) (Off a c H8) := Off.mono y8
    have fp8 : Off a c H8 p8 = some (.lst ([V.non, .bl true, .bl false, .str "1", .str "", .ref p1, .ref p2, .ref p3, .int 0, .int (-1), .int 1, .int ((10 : Int) ^ (30 : Int).toNat), .int ((10 : Int) ^ (30 : Int).toNat + 1), .int ((10 : Int) ^ (40 : Int).toNat), .int ((10 : Int) ^ (40 : Int).toNat + 1), .int (-(10 : Int) ^ (40 : Int).toNat)] ++ [V.int (-(10 : Int) ^ (40 : Int).toNat - 1), .str "down", .str "half", .str "Up", .str "half_odd", .str "up ", .ref p5, .ref p6, .ref p])) := Off.at_ (S7.na np8) (by rw [← e8]; exact upd_same)
    have S8 : Src H8 a c t := S7.of_same y8
    clear e8
    have odd : ∀ x ∈ ([V.non, .bl true, .bl false, .str "1", .str "", .ref p1, .ref p2, .ref p3, .int 0, .int (-1), .int 1, .int ((10 : Int) ^ (30 : Int).toNat), .int ((10 : Int) ^ (30 : Int).toNat + 1), .int ((10 : Int) ^ (40 : Int).toNat), .int ((10 : Int) ^ (40 : Int).toNat + 1), .int (-(10 : Int) ^ (40 : Int).toNat)] ++ [V.int (-(10 : Int) ^ (40 : Int).toNat - 1), .str "down", .str "half", .str "Up", .str "half_odd", .str "up ", .ref p5, .ref p6, .ref p]), ∃ n, Th (Off a c H8) x n := by
      intro x hx
      simp only [List.cons_append, List.nil_append, List.mem_cons, List.not_mem_nil, or_false] at hx
      rcases hx with h | h | h | h | h | h | h | h | h | h | h | h | h | h | h | h | h | h | h | h | h | h | h | h | h
      · subst h; exact ⟨_, .non⟩
      · subst h; exact ⟨_, .bl _⟩
      · subst h; exact ⟨_, .bl _⟩
      · subst h; exact ⟨_, .str _⟩
      · subst h; exact ⟨_, .str _⟩
      · subst h; exact ⟨_, .lst (z8 _ _ (z7 _ _ (z6 _ _ (z5 _ _ (z4 _ _ (z3 _ _ (z2 _ _ fp1)))))))⟩
      · subst h; exact ⟨_, .tup (z8 _ _ (z7 _ _ (z6 _ _ (z5 _ _ (z4 _ _ (z3 _ _ fp2))))))⟩
      · subst h; exact ⟨_, .dk (z8 _ _ (z7 _ _ (z6 _ _ (z5 _ _ (z4 _ _ fp3)))))⟩
      · subst h; exact ⟨_, .int _⟩
      · subst h; exact ⟨_, .int _⟩
      · subst h; exact ⟨_, .int _⟩
      · subst h; exact ⟨_, .int _⟩
      · subst h; exact ⟨_, .int _⟩
      · subst h; exact ⟨_, .int _⟩
      · subst h; exact ⟨_, .int _⟩
      · subst h; exact ⟨_, .int _⟩
      · subst h; exact ⟨_, .int _⟩
      · subst h; exact ⟨_, .str _⟩
      · subst h; exact ⟨_, .str _⟩
      · subst h; exact ⟨_, .str _⟩
      · subst h; exact ⟨_, .str _⟩
      · subst h; exact ⟨_, .str _⟩
      · subst h; exact ⟨_, .tup (z8 _ _ (z7 _ _ (z6 _ _ fp5)))⟩
      · subst h; exact ⟨_, .lst (z8 _ _ (z7 _ _ fp6))⟩
      · subst h; exact ⟨_, .tup (z8 _ _ (z7 _ _ (z6 _ _ (z5 _ _ (z4 _ _ (z3 _ _ (z2 _ _ (z1 _ _ fp))))))))⟩
    generalize exO : ([V.non, .bl true, .bl false, .str "1", .str "", .ref p1, .ref p2, .ref p3, .int 0, .int (-1), .int 1, .int ((10 : Int) ^ (30 : Int).toNat), .int ((10 : Int) ^ (30 : Int).toNat + 1), .int ((10 : Int) ^ (40 : Int).toNat), .int ((10 : Int) ^ (40 : Int).toNat + 1), .int (-(10 : Int) ^ (40 : Int).toNat)] ++ [V.int (-(10 : Int) ^ (40 : Int).toNat - 1), .str "down", .str "half", .str "Up", .str "half_odd", .str "up ", .ref p5, .ref p6, .ref p]) = xsO at odd fp8
    have lO : xsO.length = 25 := by rw [← exO]; rfl
    walk_at "rd"
    refine ⟨a, c, _, 3, rfl, S8, by omega, (by decide), (by show (3 : Int).natAbs.log2 < 9000; decide), fun kp H9 kp0 kp1 S9 O9 => ?_⟩
    have z9 : Same (Off a c H8) (Off a c H9) := Off.oth O9
    have kp2 : kp = 0 ∨ kp = 1 ∨ kp = 2 := by omega
    walk_at "rd"
    rcases kp2 with rfl | rfl | rfl
    · refine ⟨p, _, rfl, SqT.of (Off.un (z9 _ _ (z8 _ _ (z7 _ _ (z6 _ _ (z5 _ _ (z4 _ _ (z3 _ _ (z2 _ _ (z1 _ _ fp)))))))))), fun z => absurd z (by change ¬ (HT.sIx 3 0 none = 0 ∧ HT.sIx 3 3 (some 0) = 3); decide), fun _ => fun t1 nt1 => ?_⟩
      generalize e10 : upd H9 t1 _ = H10
      have y10 : Same H9 H10 := by rw [← e10]; exact same_upd nt1
      have z10 : Same (Off a c H9) (Off a c H10) := Off.mono y10
      have ft1 : Off a c H10 t1 = some (.tup []) := Off.at_ (S9.na nt1) (by rw [← e10]; exact upd_same)
      have S10 : Src H10 a c _ := S9.of_same y10
      clear e10
      walk_at "rd"
      refine ⟨a, c, _, p8, _, rfl, S10, by omega, (Off.un (z10 _ _ (z9 _ _ fp8))), ((S7).na np8).1, ((S7).na np8).2, (by rw [lO]; decide), (by rw [lO]; decide), fun x H11 hx S11 O11 => ?_⟩
      have z11 : Same (Off a c H10) (Off a c H11) := Off.oth O11
      obtain ⟨nx, tx⟩ := odd x hx
      walk_at "rd"
      refine ⟨(by show 1 ≤ sizeLine; decide), fun t2 nt2 => ?_⟩
      generalize e12 : upd H11 t2 _ = H12
      have y12 : Same H11 H12 := by rw [← e12]; exact same_upd nt2
      have z12 : Same (Off a c H11) (Off a c H12) := Off.mono y12
      have ft2 : Off a c H12 t2 = some (.tup [x]) := Off.at_ (S11.na nt2) (by rw [← e12]; exact upd_same)
      have S12 : Src H12 a c _ := S11.of_same y12
      clear e12
      refine ⟨t1, t2, _, _, rfl, rfl, SqT.of (Off.un (z12 _ _ (z11 _ _ ft1))), SqT.of (Off.un ft2), (by show 0 + 1 ≤ sizeLine; decide), fun _ => ?_, fun z => absurd rfl z, fun z => absurd rfl z⟩
      walk_at "rd"
      refine ⟨p, _, rfl, SqT.of (Off.un (z12 _ _ (z11 _ _ (z10 _ _ (z9 _ _ (z8 _ _ (z7 _ _ (z6 _ _ (z5 _ _ (z4 _ _ (z3 _ _ (z2 _ _ (z1 _ _ fp))))))))))))), fun z => absurd z (by change ¬ (HT.sIx 3 0 (some 1) = 0 ∧ HT.sIx 3 3 none = 3); decide), fun _ => fun t4 nt4 => ?_⟩
      generalize e13 : upd H12 t4 _ = H13
      have y13 : Same H12 H13 := by rw [← e13]; exact same_upd nt4
      have z13 : Same (Off a c H12) (Off a c H13) := Off.mono y13
      have ft4 : Off a c H13 t4 = some (.tup [.int s, .str m]) := Off.at_ (S12.na nt4) (by rw [← e13]; exact upd_same)
      have S13 : Src H13 a c _ := S12.of_same y13
      clear e13
      refine ⟨t2, t4, _, _, rfl, rfl, SqT.of (Off.un (z13 _ _ ft2)), SqT.of (Off.un ft4), (by show 1 + 2 ≤ sizeLine; decide), fun z => absurd z (by simp), fun _ z => absurd z (by simp), fun _ _ => fun t5 nt5 => ?_⟩
      generalize e14 : upd H13 t5 _ = H14
      have y14 : Same H13 H14 := by rw [← e14]; exact same_upd nt5
      have z14 : Same (Off a c H13) (Off a c H14) := Off.mono y14
      have ft5 : Off a c H14 t5 = some (.tup [x, .int s, .str m]) := Off.at_ (S13.na nt5) (by rw [← e14]; exact upd_same)
      have S14 : Src H14 a c _ := S13.of_same y14
      clear e14
      have sq : SdQ (Off a c H14) (.ref t5) := put0 S ((((((tx.same z9).same z10).same z11).same z12).same z13).same z14) ft5
      obtain ⟨T, eT⟩ : ∃ T, T = t5 := ⟨_, rfl⟩
      rw [← eT] at sq ⊢
      walk_at "rd"
      refine ⟨(by show 1 ≤ sizeLine; decide), fun u1 nu1 => ?_⟩
      generalize e15 : upd H14 u1 _ = H15
      have y15 : Same H14 H15 := by rw [← e15]; exact same_upd nu1
      have z15 : Same (Off a c H14) (Off a c H15) := Off.mono y15
      have fu1 : Off a c H15 u1 = some (.lst [.ref T]) := Off.at_ (S14.na nu1) (by rw [← e15]; exact upd_same)
      have S15 : Src H15 a c _ := S14.of_same y15
      clear e15
      walk_at "rd"
      refine ⟨u1, _, _, rfl, rfl, (Off.un fu1), by decide, by decide, (by show 1 * 6 ≤ sizeLine; decide), fun u2 nu2 => ?_⟩
      generalize e16 : upd H15 u2 _ = H16
      have y16 : Same H15 H16 := by rw [← e16]; exact same_upd nu2
      have z16 : Same (Off a c H15) (Off a c H16) := Off.mono y16
      have fu2 : Off a c H16 u2 = some (.lst [V.ref T, V.ref T, V.ref T, V.ref T, V.ref T, V.ref T]) := Off.at_ (S15.na nu2) (by rw [← e16]; exact upd_same)
      have S16 : Src H16 a c _ := S15.of_same y16
      clear e16
      walk_at "rd"
      refine ⟨p, _, rfl, .inr (SqT.of (Off.un (z16 _ _ (z15 _ _ (z14 _ _ (z13 _ _ (z12 _ _ (z11 _ _ (z10 _ _ (z9 _ _ (z8 _ _ (z7 _ _ (z6 _ _ (z5 _ _ (z4 _ _ (z3 _ _ (z2 _ _ (z1 _ _ fp)))))))))))))))))), fun u3 nu3 => ?_⟩
      generalize e17 : upd H16 u3 _ = H17
      have y17 : Same H16 H17 := by rw [← e17]; exact same_upd nu3
      have z17 : Same (Off a c H16) (Off a c H17) := Off.mono y17
      have fu3 : Off a c H17 u3 = some (.lst [.int o, .int s, .str m]) := Off.at_ (S16.na nu3) (by rw [← e17]; exact upd_same)
      have S17 : Src H17 a c _ := S16.of_same y17
      clear e17
      walk_at "rd"
      refine ⟨p, _, rfl, SqT.of (Off.un (z17 _ _ (z16 _ _ (z15 _ _ (z14 _ _ (z13 _ _ (z12 _ _ (z11 _ _ (z10 _ _ (z9 _ _ (z8 _ _ (z7 _ _ (z6 _ _ (z5 _ _ (z4 _ _ (z3 _ _ (z2 _ _ (z1 _ _ fp)))))))))))))))))), fun z => absurd z (by change ¬ (HT.sIx 3 0 none = 0 ∧ HT.sIx 3 3 (some 2) = 3); decide), fun _ => fun u4 nu4 => ?_⟩
      generalize e18 : upd H17 u4 _ = H18
      have y18 : Same H17 H18 := by rw [← e18]; exact same_upd nu4
      have z18 : Same (Off a c H17) (Off a c H18) := Off.mono y18
      have fu4 : Off a c H18 u4 = some (.tup [.int o, .int s]) := Off.at_ (S17.na nu4) (by rw [← e18]; exact upd_same)
      have S18 : Src H18 a c _ := S17.of_same y18
      clear e18
      walk_at "rd"
      refine ⟨(by show 1 ≤ sizeLine; decide), fun u5 nu5 => ?_⟩
      generalize e19 : upd H18 u5 _ = H19
      have y19 : Same H18 H19 := by rw [← e19]; exact same_upd nu5
      have z19 : Same (Off a c H18) (Off a c H19) := Off.mono y19
      have fu5 : Off a c H19 u5 = some (.tup [.int 0]) := Off.at_ (S18.na nu5) (by rw [← e19]; exact upd_same)
      have S19 : Src H19 a c _ := S18.of_same y19
      clear e19
      refine ⟨p, u5, _, _, rfl, rfl, SqT.of (Off.un (z19 _ _ (z18 _ _ (z17 _ _ (z16 _ _ (z15 _ _ (z14 _ _ (z13 _ _ (z12 _ _ (z11 _ _ (z10 _ _ (z9 _ _ (z8 _ _ (z7 _ _ (z6 _ _ (z5 _ _ (z4 _ _ (z3 _ _ (z2 _ _ (z1 _ _ fp)))))))))))))))))))), SqT.of (Off.un fu5), (by show 3 + 1 ≤ sizeLine; decide), fun z => absurd z (by simp), fun _ z => absurd z (by simp), fun _ _ => fun u6 nu6 => ?_⟩
      generalize e20 : upd H19 u6 _ = H20
      have y20 : Same H19 H20 := by rw [← e20]; exact same_upd nu6
      have z20 : Same (Off a c H19) (Off a c H20) := Off.mono y20
      have fu6 : Off a c H20 u6 = some (.tup [.int o, .int s, .str m, .int 0]) := Off.at_ (S19.na nu6) (by rw [← e20]; exact upd_same)
      have S20 : Src H20 a c _ := S19.of_same y20
      clear e20
      walk_at "rd"
      refine ⟨(by show 0 ≤ sizeLine; decide), fun u7 nu7 => ?_⟩
      generalize e21 : upd H20 u7 _ = H21
      have y21 : Same H20 H21 := by rw [← e21]; exact same_upd nu7
      have z21 : Same (Off a c H20) (Off a c H21) := Off.mono y21
      have fu7 : Off a c H21 u7 = some (.tup []) := Off.at_ (S20.na nu7) (by rw [← e21]; exact upd_same)
      have S21 : Src H21 a c _ := S20.of_same y21
      clear e21
      walk_at "rd"
      refine ⟨(by show 0 ≤ sizeLine; decide), fun u8 nu8 => ?_⟩
      generalize e22 : upd H21 u8 _ = H22
      have y22 : Same H21 H22 := by rw [← e22]; exact same_upd nu8
      have z22 : Same (Off a c H21) (Off a c H22) := Off.mono y22
      have fu8 : Off a c H22 u8 = some (.lst []) := Off.at_ (S21.na nu8) (by rw [← e22]; exact upd_same)
      have S22 : Src H22 a c _ := S21.of_same y22
      clear e22
      walk_at "rd"
      refine fun u9 nu9 => ?_
      generalize e23 : upd H22 u9 _ = H23
      have y23 : Same H22 H23 := by rw [← e23]; exact same_upd nu9
      have z23 : Same (Off a c H22) (Off a c H23) := Off.mono y23
      have fu9 : Off a c H23 u9 = some (.dK []) := Off.at_ (S22.na nu9) (by rw [← e23]; exact upd_same)
      have S23 : Src H23 a c _ := S22.of_same y23
      clear e23
      walk_at "rd"
      refine ⟨(by show 1 ≤ sizeLine; decide), fun ua nua => ?_⟩
      generalize e24 : upd H23 ua _ = H24
      have y24 : Same H23 H24 := by rw [← e24]; exact same_upd nua
      have z24 : Same (Off a c H23) (Off a c H24) := Off.mono y24
      have fua : Off a c H24 ua = some (.tup [.ref p]) := Off.at_ (S23.na nua) (by rw [← e24]; exact upd_same)
      have S24 : Src H24 a c _ := S23.of_same y24
      clear e24
      walk_at "rd"
      refine ⟨p, _, _, _, rfl, SqT.of (Off.un (z24 _ _ (z23 _ _ (z22 _ _ (z21 _ _ (z20 _ _ (z19 _ _ (z18 _ _ (z17 _ _ (z16 _ _ (z15 _ _ (z14 _ _ (z13 _ _ (z12 _ _ (z11 _ _ (z10 _ _ (z9 _ _ (z8 _ _ (z7 _ _ (z6 _ _ (z5 _ _ (z4 _ _ (z3 _ _ (z2 _ _ (z1 _ _ fp))))))))))))))))))))))))), fun ub nub => ?_⟩
      generalize e25 : upd H24 ub _ = H25
      have y25 : Same H24 H25 := by rw [← e25]; exact same_upd nub
      have z25 : Same (Off a c H24) (Off a c H25) := Off.mono y25
      have fub : Off a c H25 ub = some (.tup [.str m, .int s, .int o]) := Off.at_ (S24.na nub) (by rw [← e25]; exact upd_same)
      have S25 : Src H25 a c _ := S24.of_same y25
      clear e25
      walk_at "rd"
      refine ⟨(by show 12 ≤ sizeLine; decide), fun uc nuc => ?_⟩
      generalize e26 : upd H25 uc _ = H26
      have y26 : Same H25 H26 := by rw [← e26]; exact same_upd nuc
      have z26 : Same (Off a c H25) (Off a c H26) := Off.mono y26
      have fuc : Off a c H26 uc = some (.lst [V.ref u3, .ref u4, .ref u6, .non, .ref u7, .ref u8, .str "side", .int 0, .ref u9, .ref ua, .ref ub, .bl true]) := Off.at_ (S25.na nuc) (by rw [← e26]; exact upd_same)
      have S26 : Src H26 a c _ := S25.of_same y26
      clear e26
      refine ⟨_, _, _, _, rfl, rfl, (Off.un (z26 _ _ (z25 _ _ (z24 _ _ (z23 _ _ (z22 _ _ (z21 _ _ (z20 _ _ (z19 _ _ (z18 _ _ (z17 _ _ fu2))))))))))), (Off.un fuc), (by show 6 + 12 ≤ sizeLine; decide), fun ud nud => ?_⟩
      generalize e27 : upd H26 ud _ = H27
      have y27 : Same H26 H27 := by rw [← e27]; exact same_upd nud
      have z27 : Same (Off a c H26) (Off a c H27) := Off.mono y27
      have fud : Off a c H27 ud = some (.lst ([V.ref T, V.ref T, V.ref T, V.ref T, V.ref T, V.ref T] ++ [V.ref u3, .ref u4, .ref u6, .non, .ref u7, .ref u8, .str "side", .int 0, .ref u9, .ref ua, .ref ub, .bl true])) := Off.at_ (S26.na nud) (by rw [← e27]; exact upd_same)
      have S27 : Src H27 a c _ := S26.of_same y27
      clear e27
      have all : ∀ x ∈ ([V.ref T, V.ref T, V.ref T, V.ref T, V.ref T, V.ref T] ++ [V.ref u3, .ref u4, .ref u6, .non, .ref u7, .ref u8, .str "side", .int 0, .ref u9, .ref ua, .ref ub, .bl true]), SdQ (Off a c H27) x := by
        intro x hx
        simp only [List.cons_append, List.nil_append, List.mem_cons, List.not_mem_nil, or_false] at hx
        have sq' := (((((((((((((sq.same z15).same z16).same z17).same z18).same z19).same z20).same z21).same z22).same z23).same z24).same z25).same z26).same z27)
        rcases hx with h | h | h | h | h | h | h | h | h | h | h | h | h | h | h | h | h | h
        · subst h; exact sq'
        · subst h; exact sq'
        · subst h; exact sq'
        · subst h; exact sq'
        · subst h; exact sq'
        · subst h; exact sq'
        · subst h; exact .inr (.kind (.lst (z27 _ _ (z26 _ _ (z25 _ _ (z24 _ _ (z23 _ _ (z22 _ _ (z21 _ _ (z20 _ _ (z19 _ _ (z18 _ _ fu3))))))))))) rfl)
        · subst h; exact .inr (.len (z27 _ _ (z26 _ _ (z25 _ _ (z24 _ _ (z23 _ _ (z22 _ _ (z21 _ _ (z20 _ _ (z19 _ _ fu4))))))))) (by simp))
        · subst h; exact .inr (.len (z27 _ _ (z26 _ _ (z25 _ _ (z24 _ _ (z23 _ _ (z22 _ _ (z21 _ _ fu6))))))) (by simp))
        · subst h; exact .inr (.kind .non rfl)
        · subst h; exact .inr (.len (z27 _ _ (z26 _ _ (z25 _ _ (z24 _ _ (z23 _ _ (z22 _ _ fu7)))))) (by simp))
        · subst h; exact .inr (.kind (.lst (z27 _ _ (z26 _ _ (z25 _ _ (z24 _ _ (z23 _ _ fu8)))))) rfl)
        · subst h; exact .inr (.kind (.str _) rfl)
        · subst h; exact .inr (.kind (.int _) rfl)
        · subst h; exact .inr (.kind (.dk (z27 _ _ (z26 _ _ (z25 _ _ (z24 _ _ fu9))))) rfl)
        · subst h; exact .inr (.len (z27 _ _ (z26 _ _ (z25 _ _ fua))) (by simp))
        · subst h; exact .inr (.off (z27 _ _ (z26 _ _ fub)) (.str m) rfl)
        · subst h; exact .inr (.kind (.bl _) rfl)
      generalize exS : ([V.ref T, V.ref T, V.ref T, V.ref T, V.ref T, V.ref T] ++ [V.ref u3, .ref u4, .ref u6, .non, .ref u7, .ref u8, .str "side", .int 0, .ref u9, .ref ua, .ref ub, .bl true]) = xsS at all fud
      have lS : xsS.length = 18 := by rw [← exS]; rfl
      walk_at "rd"
      have OO : Oth a c H H27 := fun b o0 zz n1 n2 => Off.un (z27 _ _ (z26 _ _ (z25 _ _ (z24 _ _ (z23 _ _ (z22 _ _ (z21 _ _ (z20 _ _ (z19 _ _ (z18 _ _ (z17 _ _ (z16 _ _ (z15 _ _ (z14 _ _ (z13 _ _ (z12 _ _ (z11 _ _ (z10 _ _ (z9 _ _ (z8 _ _ (z7 _ _ (z6 _ _ (z5 _ _ (z4 _ _ (z3 _ _ (z2 _ _ (z1 _ _ (Off.at_ ⟨n1, n2⟩ zz))))))))))))))))))))))))))))
      exact ⟨a, c, _, ud, _, rfl, S27, by omega, (Off.un fud), (S26.na nud).1, (S26.na nud).2, (by rw [lS]; decide), (by rw [lS]; decide), fun x Hz hx SZ OZ => q x Hz _ ((all x hx).same (Off.same OZ)) (by omega) SZ (OO.trans OZ)⟩
    · refine ⟨p, _, rfl, SqT.of (Off.un (z9 _ _ (z8 _ _ (z7 _ _ (z6 _ _ (z5 _ _ (z4 _ _ (z3 _ _ (z2 _ _ (z1 _ _ fp)))))))))), fun z => absurd z (by change ¬ (HT.sIx 3 0 none = 0 ∧ HT.sIx 3 3 (some 1) = 3); decide), fun _ => fun t1 nt1 => ?_⟩
      generalize e10 : upd H9 t1 _ = H10
      have y10 : Same H9 H10 := by rw [← e10]; exact same_upd nt1
      have z10 : Same (Off a c H9) (Off a c H10) := Off.mono y10
      have ft1 : Off a c H10 t1 = some (.tup [.int o]) := Off.at_ (S9.na nt1) (by rw [← e10]; exact upd_same)
      have S10 : Src H10 a c _ := S9.of_same y10
      clear e10
      walk_at "rd"
      refine ⟨a, c, _, p8, _, rfl, S10, by omega, (Off.un (z10 _ _ (z9 _ _ fp8))), ((S7).na np8).1, ((S7).na np8).2, (by rw [lO]; decide), (by rw [lO]; decide), fun x H11 hx S11 O11 => ?_⟩
      have z11 : Same (Off a c H10) (Off a c H11) := Off.oth O11
      obtain ⟨nx, tx⟩ := odd x hx
      walk_at "rd"
      refine ⟨(by show 1 ≤ sizeLine; decide), fun t2 nt2 => ?_⟩
      generalize e12 : upd H11 t2 _ = H12
      have y12 : Same H11 H12 := by rw [← e12]; exact same_upd nt2
      have z12 : Same (Off a c H11) (Off a c H12) := Off.mono y12
      have ft2 : Off a c H12 t2 = some (.tup [x]) := Off.at_ (S11.na nt2) (by rw [← e12]; exact upd_same)
      have S12 : Src H12 a c _ := S11.of_same y12
      clear e12
      refine ⟨t1, t2, _, _, rfl, rfl, SqT.of (Off.un (z12 _ _ (z11 _ _ ft1))), SqT.of (Off.un ft2), (by show 1 + 1 ≤ sizeLine; decide), fun z => absurd z (by simp), fun _ z => absurd z (by simp), fun _ _ => fun t3 nt3 => ?_⟩
      generalize e13 : upd H12 t3 _ = H13
      have y13 : Same H12 H13 := by rw [← e13]; exact same_upd nt3
      have z13 : Same (Off a c H12) (Off a c H13) := Off.mono y13
      have ft3 : Off a c H13 t3 = some (.tup [.int o, x]) := Off.at_ (S12.na nt3) (by rw [← e13]; exact upd_same)
      have S13 : Src H13 a c _ := S12.of_same y13
      clear e13
      walk_at "rd"
      refine ⟨p, _, rfl, SqT.of (Off.un (z13 _ _ (z12 _ _ (z11 _ _ (z10 _ _ (z9 _ _ (z8 _ _ (z7 _ _ (z6 _ _ (z5 _ _ (z4 _ _ (z3 _ _ (z2 _ _ (z1 _ _ fp)))))))))))))), fun z => absurd z (by change ¬ (HT.sIx 3 0 (some 2) = 0 ∧ HT.sIx 3 3 none = 3); decide), fun _ => fun t4 nt4 => ?_⟩
      generalize e14 : upd H13 t4 _ = H14
      have y14 : Same H13 H14 := by rw [← e14]; exact same_upd nt4
      have z14 : Same (Off a c H13) (Off a c H14) := Off.mono y14
      have ft4 : Off a c H14 t4 = some (.tup [.str m]) := Off.at_ (S13.na nt4) (by rw [← e14]; exact upd_same)
      have S14 : Src H14 a c _ := S13.of_same y14
      clear e14
      refine ⟨t3, t4, _, _, rfl, rfl, SqT.of (Off.un (z14 _ _ ft3)), SqT.of (Off.un ft4), (by show 2 + 1 ≤ sizeLine; decide), fun z => absurd z (by simp), fun _ z => absurd z (by simp), fun _ _ => fun t5 nt5 => ?_⟩
      generalize e15 : upd H14 t5 _ = H15
      have y15 : Same H14 H15 := by rw [← e15]; exact same_upd nt5
      have z15 : Same (Off a c H14) (Off a c H15) := Off.mono y15
      have ft5 : Off a c H15 t5 = some (.tup [.int o, x, .str m]) := Off.at_ (S14.na nt5) (by rw [← e15]; exact upd_same)
      have S15 : Src H15 a c _ := S14.of_same y15
      clear e15
      have sq : SdQ (Off a c H15) (.ref t5) := put1 S (((((((tx.same z9).same z10).same z11).same z12).same z13).same z14).same z15) ft5
      obtain ⟨T, eT⟩ : ∃ T, T = t5 := ⟨_, rfl⟩
      rw [← eT] at sq ⊢
      walk_at "rd"
      refine ⟨(by show 1 ≤ sizeLine; decide), fun u1 nu1 => ?_⟩
      generalize e16 : upd H15 u1 _ = H16
      have y16 : Same H15 H16 := by rw [← e16]; exact same_upd nu1
      have z16 : Same (Off a c H15) (Off a c H16) := Off.mono y16
      have fu1 : Off a c H16 u1 = some (.lst [.ref T]) := Off.at_ (S15.na nu1) (by rw [← e16]; exact upd_same)
      have S16 : Src H16 a c _ := S15.of_same y16
      clear e16
      walk_at "rd"
      refine ⟨u1, _, _, rfl, rfl, (Off.un fu1), by decide, by decide, (by show 1 * 6 ≤ sizeLine; decide), fun u2 nu2 => ?_⟩
      generalize e17 : upd H16 u2 _ = H17
      have y17 : Same H16 H17 := by rw [← e17]; exact same_upd nu2
      have z17 : Same (Off a c H16) (Off a c H17) := Off.mono y17
      have fu2 : Off a c H17 u2 = some (.lst [V.ref T, V.ref T, V.ref T, V.ref T, V.ref T, V.ref T]) := Off.at_ (S16.na nu2) (by rw [← e17]; exact upd_same)
      have S17 : Src H17 a c _ := S16.of_same y17
      clear e17
      walk_at "rd"
      refine ⟨p, _, rfl, .inr (SqT.of (Off.un (z17 _ _ (z16 _ _ (z15 _ _ (z14 _ _ (z13 _ _ (z12 _ _ (z11 _ _ (z10 _ _ (z9 _ _ (z8 _ _ (z7 _ _ (z6 _ _ (z5 _ _ (z4 _ _ (z3 _ _ (z2 _ _ (z1 _ _ fp))))))))))))))))))), fun u3 nu3 => ?_⟩
      generalize e18 : upd H17 u3 _ = H18
      have y18 : Same H17 H18 := by rw [← e18]; exact same_upd nu3
      have z18 : Same (Off a c H17) (Off a c H18) := Off.mono y18
      have fu3 : Off a c H18 u3 = some (.lst [.int o, .int s, .str m]) := Off.at_ (S17.na nu3) (by rw [← e18]; exact upd_same)
      have S18 : Src H18 a c _ := S17.of_same y18
      clear e18
      walk_at "rd"
      refine ⟨p, _, rfl, SqT.of (Off.un (z18 _ _ (z17 _ _ (z16 _ _ (z15 _ _ (z14 _ _ (z13 _ _ (z12 _ _ (z11 _ _ (z10 _ _ (z9 _ _ (z8 _ _ (z7 _ _ (z6 _ _ (z5 _ _ (z4 _ _ (z3 _ _ (z2 _ _ (z1 _ _ fp))))))))))))))))))), fun z => absurd z (by change ¬ (HT.sIx 3 0 none = 0 ∧ HT.sIx 3 3 (some 2) = 3); decide), fun _ => fun u4 nu4 => ?_⟩
      generalize e19 : upd H18 u4 _ = H19
      have y19 : Same H18 H19 := by rw [← e19]; exact same_upd nu4
      have z19 : Same (Off a c H18) (Off a c H19) := Off.mono y19
      have fu4 : Off a c H19 u4 = some (.tup [.int o, .int s]) := Off.at_ (S18.na nu4) (by rw [← e19]; exact upd_same)
      have S19 : Src H19 a c _ := S18.of_same y19
      clear e19
      walk_at "rd"
      refine ⟨(by show 1 ≤ sizeLine; decide), fun u5 nu5 => ?_⟩
      generalize e20 : upd H19 u5 _ = H20
      have y20 : Same H19 H20 := by rw [← e20]; exact same_upd nu5
      have z20 : Same (Off a c H19) (Off a c H20) := Off.mono y20
      have fu5 : Off a c H20 u5 = some (.tup [.int 0]) := Off.at_ (S19.na nu5) (by rw [← e20]; exact upd_same)
      have S20 : Src H20 a c _ := S19.of_same y20
      clear e20
      refine ⟨p, u5, _, _, rfl, rfl, SqT.of (Off.un (z20 _ _ (z19 _ _ (z18 _ _ (z17 _ _ (z16 _ _ (z15 _ _ (z14 _ _ (z13 _ _ (z12 _ _ (z11 _ _ (z10 _ _ (z9 _ _ (z8 _ _ (z7 _ _ (z6 _ _ (z5 _ _ (z4 _ _ (z3 _ _ (z2 _ _ (z1 _ _ fp))))))))))))))))))))), SqT.of (Off.un fu5), (by show 3 + 1 ≤ sizeLine; decide), fun z => absurd z (by simp), fun _ z => absurd z (by simp), fun _ _ => fun u6 nu6 => ?_⟩
      generalize e21 : upd H20 u6 _ = H21
      have y21 : Same H20 H21 := by rw [← e21]; exact same_upd nu6
      have z21 : Same (Off a c H20) (Off a c H21) := Off.mono y21
      have fu6 : Off a c H21 u6 = some (.tup [.int o, .int s, .str m, .int 0]) := Off.at_ (S20.na nu6) (by rw [← e21]; exact upd_same)
      have S21 : Src H21 a c _ := S20.of_same y21
      clear e21
      walk_at "rd"
      refine ⟨(by show 0 ≤ sizeLine; decide), fun u7 nu7 => ?_⟩
      generalize e22 : upd H21 u7 _ = H22
      have y22 : Same H21 H22 := by rw [← e22]; exact same_upd nu7
      have z22 : Same (Off a c H21) (Off a c H22) := Off.mono y22
      have fu7 : Off a c H22 u7 = some (.tup []) := Off.at_ (S21.na nu7) (by rw [← e22]; exact upd_same)
      have S22 : Src H22 a c _ := S21.of_same y22
      clear e22
      walk_at "rd"
      refine ⟨(by show 0 ≤ sizeLine; decide), fun u8 nu8 => ?_⟩
      generalize e23 : upd H22 u8 _ = H23
      have y23 : Same H22 H23 := by rw [← e23]; exact same_upd nu8
      have z23 : Same (Off a c H22) (Off a c H23) := Off.mono y23
      have fu8 : Off a c H23 u8 = some (.lst []) := Off.at_ (S22.na nu8) (by rw [← e23]; exact upd_same)
      have S23 : Src H23 a c _ := S22.of_same y23
      clear e23
      walk_at "rd"
      refine fun u9 nu9 => ?_
      generalize e24 : upd H23 u9 _ = H24
      have y24 : Same H23 H24 := by rw [← e24]; exact same_upd nu9
      have z24 : Same (Off a c H23) (Off a c H24) := Off.mono y24
      have fu9 : Off a c H24 u9 = some (.dK []) := Off.at_ (S23.na nu9) (by rw [← e24]; exact upd_same)
      have S24 : Src H24 a c _ := S23.of_same y24
      clear e24
      walk_at "rd"
      refine ⟨(by show 1 ≤ sizeLine; decide), fun ua nua => ?_⟩
      generalize e25 : upd H24 ua _ = H25
      have y25 : Same H24 H25 := by rw [← e25]; exact same_upd nua
      have z25 : Same (Off a c H24) (Off a c H25) := Off.mono y25
      have fua : Off a c H25 ua = some (.tup [.ref p]) := Off.at_ (S24.na nua) (by rw [← e25]; exact upd_same)
      have S25 : Src H25 a c _ := S24.of_same y25
      clear e25
      walk_at "rd"
      refine ⟨p, _, _, _, rfl, SqT.of (Off.un (z25 _ _ (z24 _ _ (z23 _ _ (z22 _ _ (z21 _ _ (z20 _ _ (z19 _ _ (z18 _ _ (z17 _ _ (z16 _ _ (z15 _ _ (z14 _ _ (z13 _ _ (z12 _ _ (z11 _ _ (z10 _ _ (z9 _ _ (z8 _ _ (z7 _ _ (z6 _ _ (z5 _ _ (z4 _ _ (z3 _ _ (z2 _ _ (z1 _ _ fp)))))))))))))))))))))))))), fun ub nub => ?_⟩
      generalize e26 : upd H25 ub _ = H26
      have y26 : Same H25 H26 := by rw [← e26]; exact same_upd nub
      have z26 : Same (Off a c H25) (Off a c H26) := Off.mono y26
      have fub : Off a c H26 ub = some (.tup [.str m, .int s, .int o]) := Off.at_ (S25.na nub) (by rw [← e26]; exact upd_same)
      have S26 : Src H26 a c _ := S25.of_same y26
      clear e26
      walk_at "rd"
      refine ⟨(by show 12 ≤ sizeLine; decide), fun uc nuc => ?_⟩
      generalize e27 : upd H26 uc _ = H27
      have y27 : Same H26 H27 := by rw [← e27]; exact same_upd nuc
      have z27 : Same (Off a c H26) (Off a c H27) := Off.mono y27
      have fuc : Off a c H27 uc = some (.lst [V.ref u3, .ref u4, .ref u6, .non, .ref u7, .ref u8, .str "side", .int 0, .ref u9, .ref ua, .ref ub, .bl true]) := Off.at_ (S26.na nuc) (by rw [← e27]; exact upd_same)
      have S27 : Src H27 a c _ := S26.of_same y27
      clear e27
      refine ⟨_, _, _, _, rfl, rfl, (Off.un (z27 _ _ (z26 _ _ (z25 _ _ (z24 _ _ (z23 _ _ (z22 _ _ (z21 _ _ (z20 _ _ (z19 _ _ (z18 _ _ fu2))))))))))), (Off.un fuc), (by show 6 + 12 ≤ sizeLine; decide), fun ud nud => ?_⟩
      generalize e28 : upd H27 ud _ = H28
      have y28 : Same H27 H28 := by rw [← e28]; exact same_upd nud
      have z28 : Same (Off a c H27) (Off a c H28) := Off.mono y28
      have fud : Off a c H28 ud = some (.lst ([V.ref T, V.ref T, V.ref T, V.ref T, V.ref T, V.ref T] ++ [V.ref u3, .ref u4, .ref u6, .non, .ref u7, .ref u8, .str "side", .int 0, .ref u9, .ref ua, .ref ub, .bl true])) := Off.at_ (S27.na nud) (by rw [← e28]; exact upd_same)
      have S28 : Src H28 a c _ := S27.of_same y28
      clear e28
      have all : ∀ x ∈ ([V.ref T, V.ref T, V.ref T, V.ref T, V.ref T, V.ref T] ++ [V.ref u3, .ref u4, .ref u6, .non, .ref u7, .ref u8, .str "side", .int 0, .ref u9, .ref ua, .ref ub, .bl true]), SdQ (Off a c H28) x := by
        intro x hx
        simp only [List.cons_append, List.nil_append, List.mem_cons, List.not_mem_nil, or_false] at hx
        have sq' := (((((((((((((sq.same z16).same z17).same z18).same z19).same z20).same z21).same z22).same z23).same z24).same z25).same z26).same z27).same z28)
        rcases hx with h | h | h | h | h | h | h | h | h | h | h | h | h | h | h | h | h | h
        · subst h; exact sq'
        · subst h; exact sq'
        · subst h; exact sq'
        · subst h; exact sq'
        · subst h; exact sq'
        · subst h; exact sq'
        · subst h; exact .inr (.kind (.lst (z28 _ _ (z27 _ _ (z26 _ _ (z25 _ _ (z24 _ _ (z23 _ _ (z22 _ _ (z21 _ _ (z20 _ _ (z19 _ _ fu3))))))))))) rfl)
        · subst h; exact .inr (.len (z28 _ _ (z27 _ _ (z26 _ _ (z25 _ _ (z24 _ _ (z23 _ _ (z22 _ _ (z21 _ _ (z20 _ _ fu4))))))))) (by simp))
        · subst h; exact .inr (.len (z28 _ _ (z27 _ _ (z26 _ _ (z25 _ _ (z24 _ _ (z23 _ _ (z22 _ _ fu6))))))) (by simp))
        · subst h; exact .inr (.kind .non rfl)
        · subst h; exact .inr (.len (z28 _ _ (z27 _ _ (z26 _ _ (z25 _ _ (z24 _ _ (z23 _ _ fu7)))))) (by simp))
        · subst h; exact .inr (.kind (.lst (z28 _ _ (z27 _ _ (z26 _ _ (z25 _ _ (z24 _ _ fu8)))))) rfl)
        · subst h; exact .inr (.kind (.str _) rfl)
        · subst h; exact .inr (.kind (.int _) rfl)
        · subst h; exact .inr (.kind (.dk (z28 _ _ (z27 _ _ (z26 _ _ (z25 _ _ fu9))))) rfl)
        · subst h; exact .inr (.len (z28 _ _ (z27 _ _ (z26 _ _ fua))) (by simp))
        · subst h; exact .inr (.off (z28 _ _ (z27 _ _ fub)) (.str m) rfl)
        · subst h; exact .inr (.kind (.bl _) rfl)
      generalize exS : ([V.ref T, V.ref T, V.ref T, V.ref T, V.ref T, V.ref T] ++ [V.ref u3, .ref u4, .ref u6, .non, .ref u7, .ref u8, .str "side", .int 0, .ref u9, .ref ua, .ref ub, .bl true]) = xsS at all fud
      have lS : xsS.length = 18 := by rw [← exS]; rfl
      walk_at "rd"
      have OO : Oth a c H H28 := fun b o0 zz n1 n2 => Off.un (z28 _ _ (z27 _ _ (z26 _ _ (z25 _ _ (z24 _ _ (z23 _ _ (z22 _ _ (z21 _ _ (z20 _ _ (z19 _ _ (z18 _ _ (z17 _ _ (z16 _ _ (z15 _ _ (z14 _ _ (z13 _ _ (z12 _ _ (z11 _ _ (z10 _ _ (z9 _ _ (z8 _ _ (z7 _ _ (z6 _ _ (z5 _ _ (z4 _ _ (z3 _ _ (z2 _ _ (z1 _ _ (Off.at_ ⟨n1, n2⟩ zz)))))))))))))))))))))))))))))
      exact ⟨a, c, _, ud, _, rfl, S28, by omega, (Off.un fud), (S27.na nud).1, (S27.na nud).2, (by rw [lS]; decide), (by rw [lS]; decide), fun x Hz hx SZ OZ => q x Hz _ ((all x hx).same (Off.same OZ)) (by omega) SZ (OO.trans OZ)⟩
    · refine ⟨p, _, rfl, SqT.of (Off.un (z9 _ _ (z8 _ _ (z7 _ _ (z6 _ _ (z5 _ _ (z4 _ _ (z3 _ _ (z2 _ _ (z1 _ _ fp)))))))))), fun z => absurd z (by change ¬ (HT.sIx 3 0 none = 0 ∧ HT.sIx 3 3 (some 2) = 3); decide), fun _ => fun t1 nt1 => ?_⟩
      generalize e10 : upd H9 t1 _ = H10
      have y10 : Same H9 H10 := by rw [← e10]; exact same_upd nt1
      have z10 : Same (Off a c H9) (Off a c H10) := Off.mono y10
      have ft1 : Off a c H10 t1 = some (.tup [.int o, .int s]) := Off.at_ (S9.na nt1) (by rw [← e10]; exact upd_same)
      have S10 : Src H10 a c _ := S9.of_same y10
      clear e10
      walk_at "rd"
      refine ⟨a, c, _, p8, _, rfl, S10, by omega, (Off.un (z10 _ _ (z9 _ _ fp8))), ((S7).na np8).1, ((S7).na np8).2, (by rw [lO]; decide), (by rw [lO]; decide), fun x H11 hx S11 O11 => ?_⟩
      have z11 : Same (Off a c H10) (Off a c H11) := Off.oth O11
      obtain ⟨nx, tx⟩ := odd x hx
      walk_at "rd"
      refine ⟨(by show 1 ≤ sizeLine; decide), fun t2 nt2 => ?_⟩
      generalize e12 : upd H11 t2 _ = H12
      have y12 : Same H11 H12 := by rw [← e12]; exact same_upd nt2
      have z12 : Same (Off a c H11) (Off a c H12) := Off.mono y12
      have ft2 : Off a c H12 t2 = some (.tup [x]) := Off.at_ (S11.na nt2) (by rw [← e12]; exact upd_same)
      have S12 : Src H12 a c _ := S11.of_same y12
      clear e12
      refine ⟨t1, t2, _, _, rfl, rfl, SqT.of (Off.un (z12 _ _ (z11 _ _ ft1))), SqT.of (Off.un ft2), (by show 2 + 1 ≤ sizeLine; decide), fun z => absurd z (by simp), fun _ z => absurd z (by simp), fun _ _ => fun t3 nt3 => ?_⟩
      generalize e13 : upd H12 t3 _ = H13
      have y13 : Same H12 H13 := by rw [← e13]; exact same_upd nt3
      have z13 : Same (Off a c H12) (Off a c H13) := Off.mono y13
      have ft3 : Off a c H13 t3 = some (.tup [.int o, .int s, x]) := Off.at_ (S12.na nt3) (by rw [← e13]; exact upd_same)
      have S13 : Src H13 a c _ := S12.of_same y13
      clear e13
      walk_at "rd"
      refine ⟨p, _, rfl, SqT.of (Off.un (z13 _ _ (z12 _ _ (z11 _ _ (z10 _ _ (z9 _ _ (z8 _ _ (z7 _ _ (z6 _ _ (z5 _ _ (z4 _ _ (z3 _ _ (z2 _ _ (z1 _ _ fp)))))))))))))), fun z => absurd z (by change ¬ (HT.sIx 3 0 (some 3) = 0 ∧ HT.sIx 3 3 none = 3); decide), fun _ => fun t4 nt4 => ?_⟩
      generalize e14 : upd H13 t4 _ = H14
      have y14 : Same H13 H14 := by rw [← e14]; exact same_upd nt4
      have z14 : Same (Off a c H13) (Off a c H14) := Off.mono y14
      have ft4 : Off a c H14 t4 = some (.tup []) := Off.at_ (S13.na nt4) (by rw [← e14]; exact upd_same)
      have S14 : Src H14 a c _ := S13.of_same y14
      clear e14
      refine ⟨t3, t4, _, _, rfl, rfl, SqT.of (Off.un (z14 _ _ ft3)), SqT.of (Off.un ft4), (by show 3 + 0 ≤ sizeLine; decide), fun z => absurd z (by simp), fun _ _ => ?_, fun _ z => absurd rfl z⟩
      have sq : SdQ (Off a c H14) (.ref t3) := put2 S ((((((tx.same z9).same z10).same z11).same z12).same z13).same z14) (z14 _ _ ft3)
      obtain ⟨T, eT⟩ : ∃ T, T = t3 := ⟨_, rfl⟩
      rw [← eT] at sq ⊢
      walk_at "rd"
      refine ⟨(by show 1 ≤ sizeLine; decide), fun u1 nu1 => ?_⟩
      generalize e15 : upd H14 u1 _ = H15
      have y15 : Same H14 H15 := by rw [← e15]; exact same_upd nu1
      have z15 : Same (Off a c H14) (Off a c H15) := Off.mono y15
      have fu1 : Off a c H15 u1 = some (.lst [.ref T]) := Off.at_ (S14.na nu1) (by rw [← e15]; exact upd_same)
      have S15 : Src H15 a c _ := S14.of_same y15
      clear e15
      walk_at "rd"
      refine ⟨u1, _, _, rfl, rfl, (Off.un fu1), by decide, by decide, (by show 1 * 6 ≤ sizeLine; decide), fun u2 nu2 => ?_⟩
      generalize e16 : upd H15 u2 _ = H16
      have y16 : Same H15 H16 := by rw [← e16]; exact same_upd nu2
      have z16 : Same (Off a c H15) (Off a c H16) := Off.mono y16
      have fu2 : Off a c H16 u2 = some (.lst [V.ref T, V.ref T, V.ref T, V.ref T, V.ref T, V.ref T]) := Off.at_ (S15.na nu2) (by rw [← e16]; exact upd_same)
      have S16 : Src H16 a c _ := S15.of_same y16
      clear e16
      walk_at "rd"
      refine ⟨p, _, rfl, .inr (SqT.of (Off.un (z16 _ _ (z15 _ _ (z14 _ _ (z13 _ _ (z12 _ _ (z11 _ _ (z10 _ _ (z9 _ _ (z8 _ _ (z7 _ _ (z6 _ _ (z5 _ _ (z4 _ _ (z3 _ _ (z2 _ _ (z1 _ _ fp)))))))))))))))))), fun u3 nu3 => ?_⟩
      generalize e17 : upd H16 u3 _ = H17
      have y17 : Same H16 H17 := by rw [← e17]; exact same_upd nu3
      have z17 : Same (Off a c H16) (Off a c H17) := Off.mono y17
      have fu3 : Off a c H17 u3 = some (.lst [.int o, .int s, .str m]) := Off.at_ (S16.na nu3) (by rw [← e17]; exact upd_same)
      have S17 : Src H17 a c _ := S16.of_same y17
      clear e17
      walk_at "rd"
      refine ⟨p, _, rfl, SqT.of (Off.un (z17 _ _ (z16 _ _ (z15 _ _ (z14 _ _ (z13 _ _ (z12 _ _ (z11 _ _ (z10 _ _ (z9 _ _ (z8 _ _ (z7 _ _ (z6 _ _ (z5 _ _ (z4 _ _ (z3 _ _ (z2 _ _ (z1 _ _ fp)))))))))))))))))), fun z => absurd z (by change ¬ (HT.sIx 3 0 none = 0 ∧ HT.sIx 3 3 (some 2) = 3); decide), fun _ => fun u4 nu4 => ?_⟩
      generalize e18 : upd H17 u4 _ = H18
      have y18 : Same H17 H18 := by rw [← e18]; exact same_upd nu4
      have z18 : Same (Off a c H17) (Off a c H18) := Off.mono y18
      have fu4 : Off a c H18 u4 = some (.tup [.int o, .int s]) := Off.at_ (S17.na nu4) (by rw [← e18]; exact upd_same)
      have S18 : Src H18 a c _ := S17.of_same y18
      clear e18
      walk_at "rd"
      refine ⟨(by show 1 ≤ sizeLine; decide), fun u5 nu5 => ?_⟩
      generalize e19 : upd H18 u5 _ = H19
      have y19 : Same H18 H19 := by rw [← e19]; exact same_upd nu5
      have z19 : Same (Off a c H18) (Off a c H19) := Off.mono y19
      have fu5 : Off a c H19 u5 = some (.tup [.int 0]) := Off.at_ (S18.na nu5) (by rw [← e19]; exact upd_same)
      have S19 : Src H19 a c _ := S18.of_same y19
      clear e19
      refine ⟨p, u5, _, _, rfl, rfl, SqT.of (Off.un (z19 _ _ (z18 _ _ (z17 _ _ (z16 _ _ (z15 _ _ (z14 _ _ (z13 _ _ (z12 _ _ (z11 _ _ (z10 _ _ (z9 _ _ (z8 _ _ (z7 _ _ (z6 _ _ (z5 _ _ (z4 _ _ (z3 _ _ (z2 _ _ (z1 _ _ fp)))))))))))))))))))), SqT.of (Off.un fu5), (by show 3 + 1 ≤ sizeLine; decide), fun z => absurd z (by simp), fun _ z => absurd z (by simp), fun _ _ => fun u6 nu6 => ?_⟩
      generalize e20 : upd H19 u6 _ = H20
      have y20 : Same H19 H20 := by rw [← e20]; exact same_upd nu6
      have z20 : Same (Off a c H19) (Off a c H20) := Off.mono y20
      have fu6 : Off a c H20 u6 = some (.tup [.int o, .int s, .str m, .int 0]) := Off.at_ (S19.na nu6) (by rw [← e20]; exact upd_same)
      have S20 : Src H20 a c _ := S19.of_same y20
      clear e20
      walk_at "rd"
      refine ⟨(by show 0 ≤ sizeLine; decide), fun u7 nu7 => ?_⟩
      generalize e21 : upd H20 u7 _ = H21
      have y21 : Same H20 H21 := by rw [← e21]; exact same_upd nu7
      have z21 : Same (Off a c H20) (Off a c H21) := Off.mono y21
      have fu7 : Off a c H21 u7 = some (.tup []) := Off.at_ (S20.na nu7) (by rw [← e21]; exact upd_same)
      have S21 : Src H21 a c _ := S20.of_same y21
      clear e21
      walk_at "rd"
      refine ⟨(by show 0 ≤ sizeLine; decide), fun u8 nu8 => ?_⟩
      generalize e22 : upd H21 u8 _ = H22
      have y22 : Same H21 H22 := by rw [← e22]; exact same_upd nu8
      have z22 : Same (Off a c H21) (Off a c H22) := Off.mono y22
      have fu8 : Off a c H22 u8 = some (.lst []) := Off.at_ (S21.na nu8) (by rw [← e22]; exact upd_same)
      have S22 : Src H22 a c _ := S21.of_same y22
      clear e22
      walk_at "rd"
      refine fun u9 nu9 => ?_
      generalize e23 : upd H22 u9 _ = H23
      have y23 : Same H22 H23 := by rw [← e23]; exact same_upd nu9
      have z23 : Same (Off a c H22) (Off a c H23) := Off.mono y23
      have fu9 : Off a c H23 u9 = some (.dK []) := Off.at_ (S22.na nu9) (by rw [← e23]; exact upd_same)
      have S23 : Src H23 a c _ := S22.of_same y23
      clear e23
      walk_at "rd"
      refine ⟨(by show 1 ≤ sizeLine; decide), fun ua nua => ?_⟩
      generalize e24 : upd H23 ua _ = H24
      have y24 : Same H23 H24 := by rw [← e24]; exact same_upd nua
      have z24 : Same (Off a c H23) (Off a c H24) := Off.mono y24
      have fua : Off a c H24 ua = some (.tup [.ref p]) := Off.at_ (S23.na nua) (by rw [← e24]; exact upd_same)
      have S24 : Src H24 a c _ := S23.of_same y24
      clear e24
      walk_at "rd"
      refine ⟨p, _, _, _, rfl, SqT.of (Off.un (z24 _ _ (z23 _ _ (z22 _ _ (z21 _ _ (z20 _ _ (z19 _ _ (z18 _ _ (z17 _ _ (z16 _ _ (z15 _ _ (z14 _ _ (z13 _ _ (z12 _ _ (z11 _ _ (z10 _ _ (z9 _ _ (z8 _ _ (z7 _ _ (z6 _ _ (z5 _ _ (z4 _ _ (z3 _ _ (z2 _ _ (z1 _ _ fp))))))))))))))))))))))))), fun ub nub => ?_⟩
      generalize e25 : upd H24 ub _ = H25
      have y25 : Same H24 H25 := by rw [← e25]; exact same_upd nub
      have z25 : Same (Off a c H24) (Off a c H25) := Off.mono y25
      have fub : Off a c H25 ub = some (.tup [.str m, .int s, .int o]) := Off.at_ (S24.na nub) (by rw [← e25]; exact upd_same)
      have S25 : Src H25 a c _ := S24.of_same y25
      clear e25
      walk_at "rd"
      refine ⟨(by show 12 ≤ sizeLine; decide), fun uc nuc => ?_⟩
      generalize e26 : upd H25 uc _ = H26
      have y26 : Same H25 H26 := by rw [← e26]; exact same_upd nuc
      have z26 : Same (Off a c H25) (Off a c H26) := Off.mono y26
      have fuc : Off a c H26 uc = some (.lst [V.ref u3, .ref u4, .ref u6, .non, .ref u7, .ref u8, .str "side", .int 0, .ref u9, .ref ua, .ref ub, .bl true]) := Off.at_ (S25.na nuc) (by rw [← e26]; exact upd_same)
      have S26 : Src H26 a c _ := S25.of_same y26
      clear e26
      refine ⟨_, _, _, _, rfl, rfl, (Off.un (z26 _ _ (z25 _ _ (z24 _ _ (z23 _ _ (z22 _ _ (z21 _ _ (z20 _ _ (z19 _ _ (z18 _ _ (z17 _ _ fu2))))))))))), (Off.un fuc), (by show 6 + 12 ≤ sizeLine; decide), fun ud nud => ?_⟩
      generalize e27 : upd H26 ud _ = H27
      have y27 : Same H26 H27 := by rw [← e27]; exact same_upd nud
      have z27 : Same (Off a c H26) (Off a c H27) := Off.mono y27
      have fud : Off a c H27 ud = some (.lst ([V.ref T, V.ref T, V.ref T, V.ref T, V.ref T, V.ref T] ++ [V.ref u3, .ref u4, .ref u6, .non, .ref u7, .ref u8, .str "side", .int 0, .ref u9, .ref ua, .ref ub, .bl true])) := Off.at_ (S26.na nud) (by rw [← e27]; exact upd_same)
      have S27 : Src H27 a c _ := S26.of_same y27
      clear e27
      have all : ∀ x ∈ ([V.ref T, V.ref T, V.ref T, V.ref T, V.ref T, V.ref T] ++ [V.ref u3, .ref u4, .ref u6, .non, .ref u7, .ref u8, .str "side", .int 0, .ref u9, .ref ua, .ref ub, .bl true]), SdQ (Off a c H27) x := by
        intro x hx
        simp only [List.cons_append, List.nil_append, List.mem_cons, List.not_mem_nil, or_false] at hx
        have sq' := (((((((((((((sq.same z15).same z16).same z17).same z18).same z19).same z20).same z21).same z22).same z23).same z24).same z25).same z26).same z27)
        rcases hx with h | h | h | h | h | h | h | h | h | h | h | h | h | h | h | h | h | h
        · subst h; exact sq'
        · subst h; exact sq'
        · subst h; exact sq'
        · subst h; exact sq'
        · subst h; exact sq'
        · subst h; exact sq'
        · subst h; exact .inr (.kind (.lst (z27 _ _ (z26 _ _ (z25 _ _ (z24 _ _ (z23 _ _ (z22 _ _ (z21 _ _ (z20 _ _ (z19 _ _ (z18 _ _ fu3))))))))))) rfl)
        · subst h; exact .inr (.len (z27 _ _ (z26 _ _ (z25 _ _ (z24 _ _ (z23 _ _ (z22 _ _ (z21 _ _ (z20 _ _ (z19 _ _ fu4))))))))) (by simp))
        · subst h; exact .inr (.len (z27 _ _ (z26 _ _ (z25 _ _ (z24 _ _ (z23 _ _ (z22 _ _ (z21 _ _ fu6))))))) (by simp))
        · subst h; exact .inr (.kind .non rfl)
        · subst h; exact .inr (.len (z27 _ _ (z26 _ _ (z25 _ _ (z24 _ _ (z23 _ _ (z22 _ _ fu7)))))) (by simp))
        · subst h; exact .inr (.kind (.lst (z27 _ _ (z26 _ _ (z25 _ _ (z24 _ _ (z23 _ _ fu8)))))) rfl)
        · subst h; exact .inr (.kind (.str _) rfl)
        · subst h; exact .inr (.kind (.int _) rfl)
        · subst h; exact .inr (.kind (.dk (z27 _ _ (z26 _ _ (z25 _ _ (z24 _ _ fu9))))) rfl)
        · subst h; exact .inr (.len (z27 _ _ (z26 _ _ (z25 _ _ fua))) (by simp))
        · subst h; exact .inr (.off (z27 _ _ (z26 _ _ fub)) (.str m) rfl)
        · subst h; exact .inr (.kind (.bl _) rfl)
      generalize exS : ([V.ref T, V.ref T, V.ref T, V.ref T, V.ref T, V.ref T] ++ [V.ref u3, .ref u4, .ref u6, .non, .ref u7, .ref u8, .str "side", .int 0, .ref u9, .ref ua, .ref ub, .bl true]) = xsS at all fud
      have lS : xsS.length = 18 := by rw [← exS]; rfl
      walk_at "rd"
      have OO : Oth a c H H27 := fun b o0 zz n1 n2 => Off.un (z27 _ _ (z26 _ _ (z25 _ _ (z24 _ _ (z23 _ _ (z22 _ _ (z21 _ _ (z20 _ _ (z19 _ _ (z18 _ _ (z17 _ _ (z16 _ _ (z15 _ _ (z14 _ _ (z13 _ _ (z12 _ _ (z11 _ _ (z10 _ _ (z9 _ _ (z8 _ _ (z7 _ _ (z6 _ _ (z5 _ _ (z4 _ _ (z3 _ _ (z2 _ _ (z1 _ _ (Off.at_ ⟨n1, n2⟩ zz))))))))))))))))))))))))))))
      exact ⟨a, c, _, ud, _, rfl, S27, by omega, (Off.un fud), (S26.na nud).1, (S26.na nud).2, (by rw [lS]; decide), (by rw [lS]; decide), fun x Hz hx SZ OZ => q x Hz _ ((all x hx).same (Off.same OZ)) (by omega) SZ (OO.trans OZ)⟩
end
end HT
namespace HT
open PySem L2
theorem any_side {H : Hp} {p : Addr} {o s : Int} {m : Str} (hp : H p = some (.tup [.int o, .int s, .str m])) : GoodS H (.ref p) ∨ BadS H (.ref p) := by
  cases e1 : inB (.int o) (-10 ^ 40) (10 ^ 40) with
  | false => exact .inr (.off hp (.int o) e1)
  | true =>
    cases e2 : inB (.int s) 1 (10 ^ 30) with
    | false => exact .inr (.stp hp (.int o) e1 (.int s) e2)
    | true =>
      cases e3 : (List.any modesS fun z => eqS z (.str m)) with
      | false => exact .inr (.mod hp (.int o) e1 (.int s) e2 (.str m) e3)
      | true =>
        obtain ⟨i, ei, a, b⟩ := inB_int e1
        obtain ⟨j, ej, c, d⟩ := inB_int e2
        obtain ⟨m', em, md⟩ := mode_any e3
        cases ei
        cases ej
        cases em
        exact .inl ⟨p, o, s, m, rfl, hp, ⟨a, b, c, d, md⟩⟩
def spLaw (K : PySem.W.Frag) : Sp := fun vs H Q _ => ∃ (l : Addr) (ns : List Int), vs = [.ref l] ∧ SqL K H l (ns.map V.int) ∧ ns.length ≤ 63 ∧ ∀ H', Q (.bl true) H'
section
variable {P : Program} {w : World} {K : PySem.W.Frag} {mg : Str → Option Value} {base : Heap} {f0 f1 f2 f3 : Addr} {d0 d1 d2 d3 : FuncData}
theorem ok_law {f : Addr} {fd : FuncData} (F : Fun K "law" "law" s_law f fd) (B : Blt mg) (So : Cal P w K mg base "_law_source" 1 ["_law_script"] (spSource K) f0 d0) (Sd : Cal P w K mg base "_law_side" 3 ["_law_source_here", "_law_digits"] spSide f1 d1)
    (Ft : Cal P w K mg base "_law_fits" 7 ["_law_one"] spFits f2 d2) (Bn : Cal P w K mg base "_law_bent" 3 ["_law_source_here", "_law_one"] spBent f3 d3) : FnOk P w K mg base CX0 8 f fd ["_law_script"] (spLaw K) := by
  refine F.ok sc_law (fun vs H Q E h => ?_) (fun cdv A outer s0 H vs Q E hr h => ?_)
  · obtain ⟨l, ns, rfl, _⟩ := h
    rfl
  · obtain ⟨l, ns, rfl, hL, hn, q⟩ := h
    have nd := sc_law.nd
    refine ⟨_, (pss_cons (ps_set (i := 1) nd rfl (Or.inl rfl) (pcl So hr (by decide) (by rfl) (pa_cons (pv 0) pa_nil)))
      (pss_cons (ps_for PassesOwn.never rfl (pi_list (pe_lst (pa_cons pe_str (pa_cons pe_str (pa_cons pe_str (pa_cons pe_str (pa_cons pe_str (pa_cons pe_str (pa_cons pe_str (pa_cons pe_str pa_nil)))))))))) (pg_name (i := 2) nd rfl (Or.inl rfl)) (pss_one (ps_for PassesOwn.never rfl (pi_list (pe_lst (pa_cons (pe_tup (pa_cons (pe_op op_pow pe_int pe_int) (pa_cons (pe_op op_pow pe_int pe_int) pa_nil))) (pa_cons (pe_tup (pa_cons (pe_un un_neg (pe_op op_pow pe_int pe_int)) (pa_cons pe_int pa_nil))) (pa_cons (pe_tup (pa_cons (pe_op op_add (pe_op op_pow pe_int pe_int) pe_int) (pa_cons pe_int pa_nil))) (pa_cons (pe_tup (pa_cons pe_int (pa_cons pe_int pa_nil))) (pa_cons (pe_tup (pa_cons pe_int (pa_cons (pe_un un_neg pe_int) pa_nil))) pa_nil))))))) (pg_tup (by rfl) (pgs_cons (pg_name (i := 3) nd rfl (Or.inl rfl)) (pgs_cons (pg_name (i := 4) nd rfl (Or.inl rfl)) pgs_nil))) (pss_one (ps_if (pt_not (pt_val (pcl Ft hr (by decide) (by rfl) (pa_cons (pe_tup (pa_cons (pv 3) (pa_cons (pv 4) (pa_cons (pv 2) pa_nil)))) pa_nil)))) (pss_one (ps_ret pe_bl)) pss_nil)))))
      (pss_cons (ps_for PassesOwn.never rfl (pi_range1 (by rfl) B.range (pa_cons pe_int pa_nil)) (pg_name (i := 5) nd rfl (Or.inl rfl)) (pss_cons (ps_set (i := 6) nd rfl (Or.inl rfl) (pcl Sd hr (by decide) (by rfl) (pa_cons (pv 1) (pa_cons pe_int pa_nil))))
      (pss_one (ps_if (PW.pt (pw_or (pt_not (pt_val (pcl Ft hr (by decide) (by rfl) (pa_cons (pv 6) pa_nil)))) (pw_or1 (pt_not (pt_val (pcl Ft hr (by decide) (by rfl) (pa_cons (pcl Bn hr (by decide) (by rfl) (pa_cons (pv 1) (pa_cons (pv 6) pa_nil))) pa_nil))))))) (pss_one (ps_ret pe_bl)) pss_nil))))
      (pss_one (ps_ret pe_bl))))), ?_⟩
    walk_at "rd"
    refine ⟨l, ns, rfl, hL, hn, fun a c H0 sm na nc S0 => ?_⟩
    walk_at "rd"
    refine ⟨(by show 8 ≤ sizeLine; decide), fun p1 n1 => ?_⟩
    generalize e1 : upd H0 p1 _ = H1
    have f1' : H1 p1 = some (.lst [.str "down", .str "up", .str "half_down", .str "half_up", .str "half_even", .str "even", .str "", .str "zero"]) := by rw [← e1]; exact upd_same
    have S1 : Src H1 a c 0 := by rw [← e1]; exact S0.new n1
    clear e1
    refine ⟨p1, rfl, ⟨_, SqL.of f1'⟩, ?_⟩
    refine for_list (K := K) (a := p1) (xs := [.str "down", .str "up", .str "half_down", .str "half_up", .str "half_even", .str "even", .str "", .str "zero"]) (fun i st H' => ∃ x2 x3 x4 : Option V, st = [some (.ref l), some (.ref a), x2, x3, x4, none, none] ∧ Same H1 H') ⟨none, none, none, rfl, Same.refl _⟩ (fun _ _ _ _ ⟨_, _, _, _, s⟩ => SqL.of (s _ _ f1')) ?_ ?_
    · rintro i y st H' hy ⟨x2, x3, x4, rfl, s'⟩
      obtain ⟨m, rfl⟩ : ∃ m, y = .str m := by
        have := List.mem_of_getElem? hy
        simp only [List.mem_cons, List.not_mem_nil, or_false] at this
        rcases this with h | h | h | h | h | h | h | h <;> exact ⟨_, h⟩
      walk_at "rd"
      refine ⟨⟨by decide, by decide, by decide⟩, ?_⟩
      walk_at "rd"
      refine ⟨⟨by decide, by decide, by decide⟩, ?_⟩
      walk_at "rd"
      refine ⟨(by show 2 ≤ sizeLine; decide), fun q0 m0 => ?_⟩
      generalize et0 : upd H' q0 _ = J0
      have wt0 : Same H' J0 := by rw [← et0]; exact same_upd m0
      have gt0 : J0 q0 = some (.tup [.int ((10 : Int) ^ (40 : Int).toNat), .int ((10 : Int) ^ (30 : Int).toNat)]) := by rw [← et0]; exact upd_same
      clear et0
      walk_at "rd"
      refine ⟨⟨by decide, by decide, by decide⟩, ?_⟩
      walk_at "rd"
      refine ⟨(by show 2 ≤ sizeLine; decide), fun q1 m1 => ?_⟩
      generalize et1 : upd J0 q1 _ = J1
      have wt1 : Same J0 J1 := by rw [← et1]; exact same_upd m1
      have gt1 : J1 q1 = some (.tup [.int (-(10 : Int) ^ (40 : Int).toNat), .int 1]) := by rw [← et1]; exact upd_same
      clear et1
      walk_at "rd"
      refine ⟨⟨by decide, by decide, by decide⟩, ?_⟩
      walk_at "rd"
      refine ⟨(by show 2 ≤ sizeLine; decide), fun q2 m2 => ?_⟩
      generalize et2 : upd J1 q2 _ = J2
      have wt2 : Same J1 J2 := by rw [← et2]; exact same_upd m2
      have gt2 : J2 q2 = some (.tup [.int ((10 : Int) ^ (40 : Int).toNat + 1), .int 1]) := by rw [← et2]; exact upd_same
      clear et2
      walk_at "rd"
      refine ⟨(by show 2 ≤ sizeLine; decide), fun q3 m3 => ?_⟩
      generalize et3 : upd J2 q3 _ = J3
      have wt3 : Same J2 J3 := by rw [← et3]; exact same_upd m3
      have gt3 : J3 q3 = some (.tup [.int 0, .int 0]) := by rw [← et3]; exact upd_same
      clear et3
      walk_at "rd"
      refine ⟨(by show 2 ≤ sizeLine; decide), fun q4 m4 => ?_⟩
      generalize et4 : upd J3 q4 _ = J4
      have wt4 : Same J3 J4 := by rw [← et4]; exact same_upd m4
      have gt4 : J4 q4 = some (.tup [.int 0, .int (-3)]) := by rw [← et4]; exact upd_same
      clear et4
      walk_at "rd"
      refine ⟨(by show 5 ≤ sizeLine; decide), fun q5 m5 => ?_⟩
      generalize et5 : upd J4 q5 _ = J5
      have wt5 : Same J4 J5 := by rw [← et5]; exact same_upd m5
      have gt5 : J5 q5 = some (.lst [.ref q0, .ref q1, .ref q2, .ref q3, .ref q4]) := by rw [← et5]; exact upd_same
      clear et5
      have r4 := wt5 _ _ gt4
      have r3 := wt5 _ _ (wt4 _ _ gt3)
      have r2 := wt5 _ _ (wt4 _ _ (wt3 _ _ gt2))
      have r1 := wt5 _ _ (wt4 _ _ (wt3 _ _ (wt2 _ _ gt1)))
      have r0 := wt5 _ _ (wt4 _ _ (wt3 _ _ (wt2 _ _ (wt1 _ _ gt0))))
      have s5 : Same H1 J5 := s'.trans (wt0.trans (wt1.trans (wt2.trans (wt3.trans (wt4.trans wt5)))))
      have pairs : ∀ x ∈ [V.ref q0, .ref q1, .ref q2, .ref q3, .ref q4], ∃ (r : Addr) (i j : Int), x = .ref r ∧ J5 r = some (.tup [.int i, .int j]) := by
        intro x hx
        simp only [List.mem_cons, List.not_mem_nil, or_false] at hx
        rcases hx with h | h | h | h | h
        · exact ⟨_, _, _, h, r0⟩
        · exact ⟨_, _, _, h, r1⟩
        · exact ⟨_, _, _, h, r2⟩
        · exact ⟨_, _, _, h, r3⟩
        · exact ⟨_, _, _, h, r4⟩
      refine ⟨q5, rfl, ⟨_, SqL.of gt5⟩, ?_⟩
      refine for_list (K := K) (a := q5) (xs := [V.ref q0, .ref q1, .ref q2, .ref q3, .ref q4]) (fun i st H'' => ∃ x3 x4 : Option V, st = [some (.ref l), some (.ref a), some (.str m), x3, x4, none, none] ∧ Same J5 H'') ⟨x3, x4, rfl, Same.refl _⟩ (fun _ _ _ _ ⟨_, _, _, s⟩ => SqL.of (s _ _ gt5)) ?_ ?_
      · rintro i2 y2 st H'' hy2 ⟨x3, x4, rfl, s6⟩
        obtain ⟨r, iv, jv, rfl, hr2⟩ := pairs _ (List.mem_of_getElem? hy2)
        replace hr2 := s6 _ _ hr2
        walk_at "rd"
        refine ⟨r, _, rfl, SqT.of hr2, rfl, _, _, rfl, _, _, rfl, rfl, ?_⟩
        walk_at "rd"
        refine ⟨(by show 3 ≤ sizeLine; decide), fun d nd5 => ?_⟩
        have hd : upd H'' d (.tup [.int iv, .int jv, .str m]) d = some (.tup [.int iv, .int jv, .str m]) := upd_same
        have s7 : Same H'' (upd H'' d (.tup [.int iv, .int jv, .str m])) := same_upd nd5
        refine ⟨_, rfl, any_side hd, fun H8 s8 => ?_⟩
        walk_at "rd"
        refine ite2 (fun z => (not_t z rfl).elim) (fun _ => ?_)
        exact ⟨_, _, rfl, s6.trans (s7.trans s8)⟩
      · rintro st H'' ⟨x3, x4, rfl, s6⟩
        exact ⟨_, _, _, rfl, s5.trans s6⟩
    · rintro st H' ⟨x2, x3, x4, rfl, s'⟩
      have S2 : Src H' a c 0 := S1.of_same s'
      walk_at "rd"
      refine ⟨by decide, by decide, ?_⟩
      refine for_range (n := 30) (fun i st H'' => ∃ (x5 x6 : Option V) (t : Nat), st = [some (.ref l), some (.ref a), x2, x3, x4, x5, x6] ∧ t ≤ 300 * i ∧ Src H'' a c t) ⟨none, none, 0, rfl, by omega, S2⟩ ?_ ?_
      · rintro i st H'' hi ⟨x5, x6, t, rfl, ht, S3⟩
        walk_at "rd"
        refine ⟨a, c, t, 40, rfl, S3, by decide, by decide, by omega, fun p o s m H4 t4 np hp SP ht4 S4 O4 => ?_⟩
        walk_at "rd"
        refine ⟨any_side hp, fun H5 s5 => ?_⟩
        walk_at "rd"
        refine ⟨a, c, t4, p, o, s, m, rfl, S4.of_same s5, by omega, s5 _ _ hp, SP, fun x H6 t6 sq ht6 S6 O6 => ?_⟩
        refine ⟨_, rfl, sq, fun H7 s7 => ?_⟩
        walk_at "rd"
        refine ite2 (fun z => (not_t z rfl).elim) (fun _ => ?_)
        exact ⟨_, _, t6, rfl, by omega, S6.of_same s7⟩
      · rintro st H'' ⟨x5, x6, t, rfl, ht, S3⟩
        walk_at "rd"
        exact q _
end
end HT
namespace HT
open PySem L2
def errB (K : PySem.W.Frag) (C : Addr) : Bool := (PySem.W.clsIn K C).isSome && (decide (PySem.W.findIn K (.ref C) "__getattribute__" = some (some (.builtin "BaseException.__getattribute__"))) && (decide (PySem.W.findIn K (.ref C) "__getattr__" = some none) && (decide (PySem.W.subIn K (.ref C) (.type "BaseException") = some true) &&
  (decide (PySem.W.findIn K (.ref C) "__class__" = some (some (.builtin "object.__class__"))) && decide (PySem.W.mroIn K C (.type "object") = some true)))))
theorem errB_ok {K : PySem.W.Frag} {C : Addr} (h : errB K C = true) : ErrC K C := by
  unfold errB at h
  simp only [Bool.and_eq_true, decide_eq_true_eq] at h
  obtain ⟨a, b, c, d, e, f⟩ := h
  exact ⟨a, b, c, d, e, f⟩
def exB (K : PySem.W.Frag) (C : Addr) : Bool := PySem.W.excIn K C [.type "ValueError", .type "Exception", .type "BaseException", .type "object"] "ValueError.__new__" && PySem.W.keepIn K (.ref C)
def erT (K : PySem.W.Frag) (C : Nat → Addr) (B : Addr) (i : Nat) : Bool := errB K (C i) && (exB K (C i) && (decide (PySem.W.kitOne K (.ref (C i)) (.type "ValueError") = some true) && (decide (PySem.W.subIn K (.ref (C i)) (.type "BaseException") = some true) && (decide (PySem.W.typeIn K (.ref (C i)) = some (.type "type")) && (decide (PySem.W.exmOne K (.ref (C i)) (.ref B) = some true) &&
  (List.range 3).all fun j => decide (PySem.W.kitOne K (.ref (C i)) (.ref (C j)) = some (decide (i = j))))))))
def cAt (l : List Addr) (i : Nat) : Addr := l.getD i 0
theorem all_of {p : Nat → Bool} {n : Nat} (h : (List.range n).all p = true) {i : Nat} (hi : i < n) : p i = true := List.all_eq_true.mp h i (List.mem_range.mpr hi)
theorem all_mk {l : PySem.W.OpenLaw} {w : World} {K : PySem.W.Frag} {h : Heap} {mg : Str → Option Value} {fa aM aR c0 c1 c2 cB f_is_int f_is_int_between f_check_value f_check_side f_figure_of f_figure f_goes_up f_handed f_written f_stands f_span f_uspan f_below f_back f_threshold f_mirror f_form f_first_mode f_L_source f_L_draw f_L_pick f_L_great f_L_side f_L_is_whole f_L_is_side f_L_asked f_L_word f_L_fits f_L_bent f_law : Addr} (X : K.In h) (G : h.Ns mainGlobals mg) (hfa : mg "law" = some (.ref fa))
    {odM od_is_int an_is_int od_is_int_between an_is_int_between od_check_value an_check_value od_check_side an_check_side od_figure_of an_figure_of od_figure an_figure od_goes_up an_goes_up od_handed an_handed od_written an_written od_stands an_stands od_span an_span od_uspan an_uspan od_below an_below od_back an_back od_threshold an_threshold od_mirror an_mirror od_form an_form od_first_mode an_first_mode od_L_source an_L_source od_L_draw an_L_draw od_L_pick an_L_pick od_L_great an_L_great od_L_side an_L_side od_L_is_whole an_L_is_whole od_L_is_side an_L_is_side od_L_asked an_L_asked od_L_word an_L_word od_L_fits an_L_fits od_L_bent an_L_bent od_law an_law : Option Addr} {slM sl_is_int sl_is_int_between sl_check_value sl_check_side sl_figure_of sl_figure sl_goes_up sl_handed sl_written sl_stands sl_span sl_uspan sl_below sl_back sl_threshold sl_mirror sl_form sl_first_mode sl_L_source sl_L_draw sl_L_pick sl_L_great sl_L_side sl_L_is_whole sl_L_is_side sl_L_asked sl_L_word sl_L_fits sl_L_bent sl_law : Array (Option Value)} {nM nR : Nat} {itsM : Array Value} {esR : Array DictEntry} {u_down u_up u_half_down u_half_up u_half_even oc_is_int kV_is_int dc_is_int pm_is_int cd_is_int ct_is_int oc_is_int_between kV_is_int_between dc_is_int_between pm_is_int_between cd_is_int_between ct_is_int_between oc_check_value kV_check_value dc_check_value pm_check_value cd_check_value ct_check_value oc_check_side kV_check_side dc_check_side pm_check_side cd_check_side ct_check_side oc_figure_of kV_figure_of dc_figure_of pm_figure_of cd_figure_of ct_figure_of oc_figure kV_figure dc_figure pm_figure cd_figure ct_figure oc_goes_up kV_goes_up dc_goes_up pm_goes_up cd_goes_up ct_goes_up oc_handed kV_handed dc_handed pm_handed cd_handed ct_handed oc_written kV_written dc_written pm_written cd_written ct_written oc_stands kV_stands dc_stands pm_stands cd_stands ct_stands oc_span kV_span dc_span pm_span cd_span ct_span oc_uspan kV_uspan dc_uspan pm_uspan cd_uspan ct_uspan oc_below kV_below dc_below pm_below cd_below ct_below oc_back kV_back dc_back pm_back cd_back ct_back oc_threshold kV_threshold dc_threshold pm_threshold cd_threshold ct_threshold oc_mirror kV_mirror dc_mirror pm_mirror cd_mirror ct_mirror oc_form kV_form dc_form pm_form cd_form ct_form oc_first_mode kV_first_mode dc_first_mode pm_first_mode cd_first_mode ct_first_mode oc_L_source kV_L_source dc_L_source pm_L_source cd_L_source ct_L_source oc_L_draw kV_L_draw dc_L_draw pm_L_draw cd_L_draw ct_L_draw oc_L_pick kV_L_pick dc_L_pick pm_L_pick cd_L_pick ct_L_pick oc_L_great kV_L_great dc_L_great pm_L_great cd_L_great ct_L_great oc_L_side kV_L_side dc_L_side pm_L_side cd_L_side ct_L_side oc_L_is_whole kV_L_is_whole dc_L_is_whole pm_L_is_whole cd_L_is_whole ct_L_is_whole oc_L_is_side kV_L_is_side dc_L_is_side pm_L_is_side cd_L_is_side ct_L_is_side oc_L_asked kV_L_asked dc_L_asked pm_L_asked cd_L_asked ct_L_asked oc_L_word kV_L_word dc_L_word pm_L_word cd_L_word ct_L_word oc_L_fits kV_L_fits dc_L_fits pm_L_fits cd_L_fits ct_L_fits oc_L_bent kV_L_bent dc_L_bent pm_L_bent cd_L_bent ct_L_bent oc_law kV_law dc_law pm_law cd_law ct_law : Value}
    (a_is_int : PySem.W.nsIn K mainGlobals "is_int" = some (some (.ref f_is_int)))
    (l_is_int : K.lookup f_is_int = some ⟨oc_is_int, od_is_int, .func (PySem.W.fnOf "is_int" "is_int" (defArgs s_is_int) (defBody s_is_int) (defScope s_is_int) .none kV_is_int dc_is_int pm_is_int an_is_int cd_is_int ct_is_int), sl_is_int⟩)
    (c_is_int : PySem.W.codeIn K cd_is_int "is_int" = true) (k_is_int : PySem.W.keepIn K (.ref f_is_int) = true)
    (a_is_int_between : PySem.W.nsIn K mainGlobals "is_int_between" = some (some (.ref f_is_int_between)))
    (l_is_int_between : K.lookup f_is_int_between = some ⟨oc_is_int_between, od_is_int_between, .func (PySem.W.fnOf "is_int_between" "is_int_between" (defArgs s_is_int_between) (defBody s_is_int_between) (defScope s_is_int_between) .none kV_is_int_between dc_is_int_between pm_is_int_between an_is_int_between cd_is_int_between ct_is_int_between), sl_is_int_between⟩)
    (c_is_int_between : PySem.W.codeIn K cd_is_int_between "is_int_between" = true) (k_is_int_between : PySem.W.keepIn K (.ref f_is_int_between) = true)
    (a_check_value : PySem.W.nsIn K mainGlobals "check_value" = some (some (.ref f_check_value)))
    (l_check_value : K.lookup f_check_value = some ⟨oc_check_value, od_check_value, .func (PySem.W.fnOf "check_value" "check_value" (defArgs s_check_value) (defBody s_check_value) (defScope s_check_value) .none kV_check_value dc_check_value pm_check_value an_check_value cd_check_value ct_check_value), sl_check_value⟩)
    (c_check_value : PySem.W.codeIn K cd_check_value "check_value" = true) (k_check_value : PySem.W.keepIn K (.ref f_check_value) = true)
    (a_check_side : PySem.W.nsIn K mainGlobals "check_side" = some (some (.ref f_check_side)))
    (l_check_side : K.lookup f_check_side = some ⟨oc_check_side, od_check_side, .func (PySem.W.fnOf "check_side" "check_side" (defArgs s_check_side) (defBody s_check_side) (defScope s_check_side) .none kV_check_side dc_check_side pm_check_side an_check_side cd_check_side ct_check_side), sl_check_side⟩)
    (c_check_side : PySem.W.codeIn K cd_check_side "check_side" = true) (k_check_side : PySem.W.keepIn K (.ref f_check_side) = true)
    (a_figure_of : PySem.W.nsIn K mainGlobals "figure_of" = some (some (.ref f_figure_of)))
    (l_figure_of : K.lookup f_figure_of = some ⟨oc_figure_of, od_figure_of, .func (PySem.W.fnOf "figure_of" "figure_of" (defArgs s_figure_of) (defBody s_figure_of) (defScope s_figure_of) .none kV_figure_of dc_figure_of pm_figure_of an_figure_of cd_figure_of ct_figure_of), sl_figure_of⟩)
    (c_figure_of : PySem.W.codeIn K cd_figure_of "figure_of" = true) (k_figure_of : PySem.W.keepIn K (.ref f_figure_of) = true)
    (a_figure : PySem.W.nsIn K mainGlobals "_figure" = some (some (.ref f_figure)))
    (l_figure : K.lookup f_figure = some ⟨oc_figure, od_figure, .func (PySem.W.fnOf "_figure" "_figure" (defArgs s_figure) (defBody s_figure) (defScope s_figure) .none kV_figure dc_figure pm_figure an_figure cd_figure ct_figure), sl_figure⟩)
    (c_figure : PySem.W.codeIn K cd_figure "_figure" = true) (k_figure : PySem.W.keepIn K (.ref f_figure) = true)
    (a_goes_up : PySem.W.nsIn K mainGlobals "_goes_up" = some (some (.ref f_goes_up)))
    (l_goes_up : K.lookup f_goes_up = some ⟨oc_goes_up, od_goes_up, .func (PySem.W.fnOf "_goes_up" "_goes_up" (defArgs s_goes_up) (defBody s_goes_up) (defScope s_goes_up) .none kV_goes_up dc_goes_up pm_goes_up an_goes_up cd_goes_up ct_goes_up), sl_goes_up⟩)
    (c_goes_up : PySem.W.codeIn K cd_goes_up "_goes_up" = true) (k_goes_up : PySem.W.keepIn K (.ref f_goes_up) = true)
    (a_handed : PySem.W.nsIn K mainGlobals "handed" = some (some (.ref f_handed)))
    (l_handed : K.lookup f_handed = some ⟨oc_handed, od_handed, .func (PySem.W.fnOf "handed" "handed" (defArgs s_handed) (defBody s_handed) (defScope s_handed) .none kV_handed dc_handed pm_handed an_handed cd_handed ct_handed), sl_handed⟩)
    (c_handed : PySem.W.codeIn K cd_handed "handed" = true) (k_handed : PySem.W.keepIn K (.ref f_handed) = true)
    (a_written : PySem.W.nsIn K mainGlobals "written" = some (some (.ref f_written)))
    (l_written : K.lookup f_written = some ⟨oc_written, od_written, .func (PySem.W.fnOf "written" "written" (defArgs s_written) (defBody s_written) (defScope s_written) .none kV_written dc_written pm_written an_written cd_written ct_written), sl_written⟩)
    (c_written : PySem.W.codeIn K cd_written "written" = true) (k_written : PySem.W.keepIn K (.ref f_written) = true)
    (a_stands : PySem.W.nsIn K mainGlobals "stands" = some (some (.ref f_stands)))
    (l_stands : K.lookup f_stands = some ⟨oc_stands, od_stands, .func (PySem.W.fnOf "stands" "stands" (defArgs s_stands) (defBody s_stands) (defScope s_stands) .none kV_stands dc_stands pm_stands an_stands cd_stands ct_stands), sl_stands⟩)
    (c_stands : PySem.W.codeIn K cd_stands "stands" = true) (k_stands : PySem.W.keepIn K (.ref f_stands) = true)
    (a_span : PySem.W.nsIn K mainGlobals "span" = some (some (.ref f_span)))
    (l_span : K.lookup f_span = some ⟨oc_span, od_span, .func (PySem.W.fnOf "span" "span" (defArgs s_span) (defBody s_span) (defScope s_span) .none kV_span dc_span pm_span an_span cd_span ct_span), sl_span⟩)
    (c_span : PySem.W.codeIn K cd_span "span" = true) (k_span : PySem.W.keepIn K (.ref f_span) = true)
    (a_uspan : PySem.W.nsIn K mainGlobals "_span" = some (some (.ref f_uspan)))
    (l_uspan : K.lookup f_uspan = some ⟨oc_uspan, od_uspan, .func (PySem.W.fnOf "_span" "_span" (defArgs s_uspan) (defBody s_uspan) (defScope s_uspan) .none kV_uspan dc_uspan pm_uspan an_uspan cd_uspan ct_uspan), sl_uspan⟩)
    (c_uspan : PySem.W.codeIn K cd_uspan "_span" = true) (k_uspan : PySem.W.keepIn K (.ref f_uspan) = true)
    (a_below : PySem.W.nsIn K mainGlobals "_below" = some (some (.ref f_below)))
    (l_below : K.lookup f_below = some ⟨oc_below, od_below, .func (PySem.W.fnOf "_below" "_below" (defArgs s_below) (defBody s_below) (defScope s_below) .none kV_below dc_below pm_below an_below cd_below ct_below), sl_below⟩)
    (c_below : PySem.W.codeIn K cd_below "_below" = true) (k_below : PySem.W.keepIn K (.ref f_below) = true)
    (a_back : PySem.W.nsIn K mainGlobals "back" = some (some (.ref f_back)))
    (l_back : K.lookup f_back = some ⟨oc_back, od_back, .func (PySem.W.fnOf "back" "back" (defArgs s_back) (defBody s_back) (defScope s_back) .none kV_back dc_back pm_back an_back cd_back ct_back), sl_back⟩)
    (c_back : PySem.W.codeIn K cd_back "back" = true) (k_back : PySem.W.keepIn K (.ref f_back) = true)
    (a_threshold : PySem.W.nsIn K mainGlobals "threshold" = some (some (.ref f_threshold)))
    (l_threshold : K.lookup f_threshold = some ⟨oc_threshold, od_threshold, .func (PySem.W.fnOf "threshold" "threshold" (defArgs s_threshold) (defBody s_threshold) (defScope s_threshold) .none kV_threshold dc_threshold pm_threshold an_threshold cd_threshold ct_threshold), sl_threshold⟩)
    (c_threshold : PySem.W.codeIn K cd_threshold "threshold" = true) (k_threshold : PySem.W.keepIn K (.ref f_threshold) = true)
    (a_mirror : PySem.W.nsIn K mainGlobals "mirror" = some (some (.ref f_mirror)))
    (l_mirror : K.lookup f_mirror = some ⟨oc_mirror, od_mirror, .func (PySem.W.fnOf "mirror" "mirror" (defArgs s_mirror) (defBody s_mirror) (defScope s_mirror) .none kV_mirror dc_mirror pm_mirror an_mirror cd_mirror ct_mirror), sl_mirror⟩)
    (c_mirror : PySem.W.codeIn K cd_mirror "mirror" = true) (k_mirror : PySem.W.keepIn K (.ref f_mirror) = true)
    (a_form : PySem.W.nsIn K mainGlobals "form" = some (some (.ref f_form)))
    (l_form : K.lookup f_form = some ⟨oc_form, od_form, .func (PySem.W.fnOf "form" "form" (defArgs s_form) (defBody s_form) (defScope s_form) .none kV_form dc_form pm_form an_form cd_form ct_form), sl_form⟩)
    (c_form : PySem.W.codeIn K cd_form "form" = true) (k_form : PySem.W.keepIn K (.ref f_form) = true)
    (a_first_mode : PySem.W.nsIn K mainGlobals "_first_mode" = some (some (.ref f_first_mode)))
    (l_first_mode : K.lookup f_first_mode = some ⟨oc_first_mode, od_first_mode, .func (PySem.W.fnOf "_first_mode" "_first_mode" (defArgs s_first_mode) (defBody s_first_mode) (defScope s_first_mode) .none kV_first_mode dc_first_mode pm_first_mode an_first_mode cd_first_mode ct_first_mode), sl_first_mode⟩)
    (c_first_mode : PySem.W.codeIn K cd_first_mode "_first_mode" = true) (k_first_mode : PySem.W.keepIn K (.ref f_first_mode) = true)
    (a_L_source : PySem.W.nsIn K mainGlobals "_law_source" = some (some (.ref f_L_source)))
    (l_L_source : K.lookup f_L_source = some ⟨oc_L_source, od_L_source, .func (PySem.W.fnOf "_law_source" "_law_source" (defArgs s_L_source) (defBody s_L_source) (defScope s_L_source) .none kV_L_source dc_L_source pm_L_source an_L_source cd_L_source ct_L_source), sl_L_source⟩)
    (c_L_source : PySem.W.codeIn K cd_L_source "_law_source" = true) (k_L_source : PySem.W.keepIn K (.ref f_L_source) = true)
    (a_L_draw : PySem.W.nsIn K mainGlobals "_law_draw" = some (some (.ref f_L_draw)))
    (l_L_draw : K.lookup f_L_draw = some ⟨oc_L_draw, od_L_draw, .func (PySem.W.fnOf "_law_draw" "_law_draw" (defArgs s_L_draw) (defBody s_L_draw) (defScope s_L_draw) .none kV_L_draw dc_L_draw pm_L_draw an_L_draw cd_L_draw ct_L_draw), sl_L_draw⟩)
    (c_L_draw : PySem.W.codeIn K cd_L_draw "_law_draw" = true) (k_L_draw : PySem.W.keepIn K (.ref f_L_draw) = true)
    (a_L_pick : PySem.W.nsIn K mainGlobals "_law_pick" = some (some (.ref f_L_pick)))
    (l_L_pick : K.lookup f_L_pick = some ⟨oc_L_pick, od_L_pick, .func (PySem.W.fnOf "_law_pick" "_law_pick" (defArgs s_L_pick) (defBody s_L_pick) (defScope s_L_pick) .none kV_L_pick dc_L_pick pm_L_pick an_L_pick cd_L_pick ct_L_pick), sl_L_pick⟩)
    (c_L_pick : PySem.W.codeIn K cd_L_pick "_law_pick" = true) (k_L_pick : PySem.W.keepIn K (.ref f_L_pick) = true)
    (a_L_great : PySem.W.nsIn K mainGlobals "_law_great" = some (some (.ref f_L_great)))
    (l_L_great : K.lookup f_L_great = some ⟨oc_L_great, od_L_great, .func (PySem.W.fnOf "_law_great" "_law_great" (defArgs s_L_great) (defBody s_L_great) (defScope s_L_great) .none kV_L_great dc_L_great pm_L_great an_L_great cd_L_great ct_L_great), sl_L_great⟩)
    (c_L_great : PySem.W.codeIn K cd_L_great "_law_great" = true) (k_L_great : PySem.W.keepIn K (.ref f_L_great) = true)
    (a_L_side : PySem.W.nsIn K mainGlobals "_law_side" = some (some (.ref f_L_side)))
    (l_L_side : K.lookup f_L_side = some ⟨oc_L_side, od_L_side, .func (PySem.W.fnOf "_law_side" "_law_side" (defArgs s_L_side) (defBody s_L_side) (defScope s_L_side) .none kV_L_side dc_L_side pm_L_side an_L_side cd_L_side ct_L_side), sl_L_side⟩)
    (c_L_side : PySem.W.codeIn K cd_L_side "_law_side" = true) (k_L_side : PySem.W.keepIn K (.ref f_L_side) = true)
    (a_L_is_whole : PySem.W.nsIn K mainGlobals "_law_is_whole" = some (some (.ref f_L_is_whole)))
    (l_L_is_whole : K.lookup f_L_is_whole = some ⟨oc_L_is_whole, od_L_is_whole, .func (PySem.W.fnOf "_law_is_whole" "_law_is_whole" (defArgs s_L_is_whole) (defBody s_L_is_whole) (defScope s_L_is_whole) .none kV_L_is_whole dc_L_is_whole pm_L_is_whole an_L_is_whole cd_L_is_whole ct_L_is_whole), sl_L_is_whole⟩)
    (c_L_is_whole : PySem.W.codeIn K cd_L_is_whole "_law_is_whole" = true) (k_L_is_whole : PySem.W.keepIn K (.ref f_L_is_whole) = true)
    (a_L_is_side : PySem.W.nsIn K mainGlobals "_law_is_side" = some (some (.ref f_L_is_side)))
    (l_L_is_side : K.lookup f_L_is_side = some ⟨oc_L_is_side, od_L_is_side, .func (PySem.W.fnOf "_law_is_side" "_law_is_side" (defArgs s_L_is_side) (defBody s_L_is_side) (defScope s_L_is_side) .none kV_L_is_side dc_L_is_side pm_L_is_side an_L_is_side cd_L_is_side ct_L_is_side), sl_L_is_side⟩)
    (c_L_is_side : PySem.W.codeIn K cd_L_is_side "_law_is_side" = true) (k_L_is_side : PySem.W.keepIn K (.ref f_L_is_side) = true)
    (a_L_asked : PySem.W.nsIn K mainGlobals "_law_asked" = some (some (.ref f_L_asked)))
    (l_L_asked : K.lookup f_L_asked = some ⟨oc_L_asked, od_L_asked, .func (PySem.W.fnOf "_law_asked" "_law_asked" (defArgs s_L_asked) (defBody s_L_asked) (defScope s_L_asked) .none kV_L_asked dc_L_asked pm_L_asked an_L_asked cd_L_asked ct_L_asked), sl_L_asked⟩)
    (c_L_asked : PySem.W.codeIn K cd_L_asked "_law_asked" = true) (k_L_asked : PySem.W.keepIn K (.ref f_L_asked) = true)
    (a_L_word : PySem.W.nsIn K mainGlobals "_law_word" = some (some (.ref f_L_word)))
    (l_L_word : K.lookup f_L_word = some ⟨oc_L_word, od_L_word, .func (PySem.W.fnOf "_law_word" "_law_word" (defArgs s_L_word) (defBody s_L_word) (defScope s_L_word) .none kV_L_word dc_L_word pm_L_word an_L_word cd_L_word ct_L_word), sl_L_word⟩)
    (c_L_word : PySem.W.codeIn K cd_L_word "_law_word" = true) (k_L_word : PySem.W.keepIn K (.ref f_L_word) = true)
    (a_L_fits : PySem.W.nsIn K mainGlobals "_law_fits" = some (some (.ref f_L_fits)))
    (l_L_fits : K.lookup f_L_fits = some ⟨oc_L_fits, od_L_fits, .func (PySem.W.fnOf "_law_fits" "_law_fits" (defArgs s_L_fits) (defBody s_L_fits) (defScope s_L_fits) .none kV_L_fits dc_L_fits pm_L_fits an_L_fits cd_L_fits ct_L_fits), sl_L_fits⟩)
    (c_L_fits : PySem.W.codeIn K cd_L_fits "_law_fits" = true) (k_L_fits : PySem.W.keepIn K (.ref f_L_fits) = true)
    (a_L_bent : PySem.W.nsIn K mainGlobals "_law_bent" = some (some (.ref f_L_bent)))
    (l_L_bent : K.lookup f_L_bent = some ⟨oc_L_bent, od_L_bent, .func (PySem.W.fnOf "_law_bent" "_law_bent" (defArgs s_L_bent) (defBody s_L_bent) (defScope s_L_bent) .none kV_L_bent dc_L_bent pm_L_bent an_L_bent cd_L_bent ct_L_bent), sl_L_bent⟩)
    (c_L_bent : PySem.W.codeIn K cd_L_bent "_law_bent" = true) (k_L_bent : PySem.W.keepIn K (.ref f_L_bent) = true)
    (a_law : PySem.W.nsIn K mainGlobals "law" = some (some (.ref f_law)))
    (l_law : K.lookup f_law = some ⟨oc_law, od_law, .func (PySem.W.fnOf "law" "law" (defArgs s_law) (defBody s_law) (defScope s_law) .none kV_law dc_law pm_law an_law cd_law ct_law), sl_law⟩)
    (c_law : PySem.W.codeIn K cd_law "law" = true) (k_law : PySem.W.keepIn K (.ref f_law) = true)
    (z_len : PySem.W.nsIn K mainGlobals "len" = some none)
    (z_abs : PySem.W.nsIn K mainGlobals "abs" = some none)
    (z_int : PySem.W.nsIn K mainGlobals "int" = some none)
    (z_range : PySem.W.nsIn K mainGlobals "range" = some none)
    (z_isinstance : PySem.W.nsIn K mainGlobals "isinstance" = some none)
    (z_bool : PySem.W.nsIn K mainGlobals "bool" = some none)
    (z_tuple : PySem.W.nsIn K mainGlobals "tuple" = some none)
    (z_list : PySem.W.nsIn K mainGlobals "list" = some none)
    (z_divmod : PySem.W.nsIn K mainGlobals "divmod" = some none)
    (z_str : PySem.W.nsIn K mainGlobals "str" = some none)
    (z_ValueError : PySem.W.nsIn K mainGlobals "ValueError" = some none)
    (g_0 : PySem.W.nsIn K mainGlobals "InvalidSide" = some (some (.ref c0)))
    (g_1 : PySem.W.nsIn K mainGlobals "InvalidValue" = some (some (.ref c1)))
    (g_2 : PySem.W.nsIn K mainGlobals "InvalidStyle" = some (some (.ref c2)))
    (g_B : PySem.W.nsIn K mainGlobals "HandedError" = some (some (.ref cB)))
    (et_0 : erT K (cAt [c0, c1, c2]) cB 0 = true)
    (et_1 : erT K (cAt [c0, c1, c2]) cB 1 = true)
    (et_2 : erT K (cAt [c0, c1, c2]) cB 2 = true)
    (gsp : PySem.W.specialIn K (.builtin "object.__class__") "__get__" = some (some (.builtin "getset_descriptor.__get__")))
    (gtk : PySem.W.takesIn K (.builtin "object.__class__") = some true)
    (a_MODES : PySem.W.nsIn K mainGlobals "MODES" = some (some (.ref aM)))
    (l_MODES : K.lookup aM = some ⟨.type "tuple", odM, .seq itsM nM, slM⟩)
    (v_MODES : itsM.size ≤ sizeLine ∧ Vals modesV itsM.toList)
    (a_MIR : PySem.W.nsIn K mainGlobals "MIRRORED" = some (some (.ref aR)))
    (l_MIR : K.lookup aR = some ⟨.type "dict", none, .dict esR nR, #[]⟩)
    (h_MIR : PySem.W.KeysLit w.params esR.toList)
    (d_down : PySem.W.nsIn K aR "down" = some (some u_down))
    (r_down : RelV (.str "up") u_down)
    (d_up : PySem.W.nsIn K aR "up" = some (some u_up))
    (r_up : RelV (.str "down") u_up)
    (d_half_down : PySem.W.nsIn K aR "half_down" = some (some u_half_down))
    (r_half_down : RelV (.str "half_up") u_half_down)
    (d_half_up : PySem.W.nsIn K aR "half_up" = some (some u_half_up))
    (r_half_up : RelV (.str "half_down") u_half_up)
    (d_half_even : PySem.W.nsIn K aR "half_even" = some (some u_half_even))
    (r_half_even : RelV (.str "half_even") u_half_even) :
    ∃ fd : FuncData, (∀ (s : Shared) (v : Value), BindsTo s fd ⟨[v], []⟩ [("_law_script", v)]) ∧ ∀ base : Heap, K.In base → base.Ns mainGlobals mg → FnOk l.prog w K mg base CX0 8 fa fd ["_law_script"] (spLaw K) := by
  have e := hfa.symm.trans (PySem.W.mg_of X G a_law)
  cases e
  have F_is_int := fun_mk (st := s_is_int) l_is_int c_is_int k_is_int
  have b_is_int := F_is_int.binds (ps := ["thing"]) fun _ _ _ _ _ _ us hl => match us, hl with | [_], _ => rfl
  have m_is_int := PySem.W.mg_of X G a_is_int
  have F_is_int_between := fun_mk (st := s_is_int_between) l_is_int_between c_is_int_between k_is_int_between
  have b_is_int_between := F_is_int_between.binds (ps := ["thing", "least", "most"]) fun _ _ _ _ _ _ us hl => match us, hl with | [_, _, _], _ => rfl
  have m_is_int_between := PySem.W.mg_of X G a_is_int_between
  have F_check_value := fun_mk (st := s_check_value) l_check_value c_check_value k_check_value
  have b_check_value := F_check_value.binds (ps := ["value"]) fun _ _ _ _ _ _ us hl => match us, hl with | [_], _ => rfl
  have m_check_value := PySem.W.mg_of X G a_check_value
  have F_check_side := fun_mk (st := s_check_side) l_check_side c_check_side k_check_side
  have b_check_side := F_check_side.binds (ps := ["side"]) fun _ _ _ _ _ _ us hl => match us, hl with | [_], _ => rfl
  have m_check_side := PySem.W.mg_of X G a_check_side
  have F_figure_of := fun_mk (st := s_figure_of) l_figure_of c_figure_of k_figure_of
  have b_figure_of := F_figure_of.binds (ps := ["side", "value"]) fun _ _ _ _ _ _ us hl => match us, hl with | [_, _], _ => rfl
  have m_figure_of := PySem.W.mg_of X G a_figure_of
  have F_figure := fun_mk (st := s_figure) l_figure c_figure k_figure
  have b_figure := F_figure.binds (ps := ["side", "value"]) fun _ _ _ _ _ _ us hl => match us, hl with | [_, _], _ => rfl
  have m_figure := PySem.W.mg_of X G a_figure
  have F_goes_up := fun_mk (st := s_goes_up) l_goes_up c_goes_up k_goes_up
  have b_goes_up := F_goes_up.binds (ps := ["mode", "step", "figure", "rest"]) fun _ _ _ _ _ _ us hl => match us, hl with | [_, _, _, _], _ => rfl
  have m_goes_up := PySem.W.mg_of X G a_goes_up
  have F_handed := fun_mk (st := s_handed) l_handed c_handed k_handed
  have b_handed := F_handed.binds (ps := ["side", "value"]) fun _ _ _ _ _ _ us hl => match us, hl with | [_, _], _ => rfl
  have m_handed := PySem.W.mg_of X G a_handed
  have F_written := fun_mk (st := s_written) l_written c_written k_written
  have b_written := F_written.binds (ps := ["side", "value"]) fun _ _ _ _ _ _ us hl => match us, hl with | [_, _], _ => rfl
  have m_written := PySem.W.mg_of X G a_written
  have F_stands := fun_mk (st := s_stands) l_stands c_stands k_stands
  have b_stands := F_stands.binds (ps := ["side", "value"]) fun _ _ _ _ _ _ us hl => match us, hl with | [_, _], _ => rfl
  have m_stands := PySem.W.mg_of X G a_stands
  have F_span := fun_mk (st := s_span) l_span c_span k_span
  have b_span := F_span.binds (ps := ["side", "figure"]) fun _ _ _ _ _ _ us hl => match us, hl with | [_, _], _ => rfl
  have m_span := PySem.W.mg_of X G a_span
  have F_uspan := fun_mk (st := s_uspan) l_uspan c_uspan k_uspan
  have b_uspan := F_uspan.binds (ps := ["side", "figure"]) fun _ _ _ _ _ _ us hl => match us, hl with | [_, _], _ => rfl
  have m_uspan := PySem.W.mg_of X G a_uspan
  have F_below := fun_mk (st := s_below) l_below c_below k_below
  have b_below := F_below.binds (ps := ["mode", "step", "figure"]) fun _ _ _ _ _ _ us hl => match us, hl with | [_, _, _], _ => rfl
  have m_below := PySem.W.mg_of X G a_below
  have F_back := fun_mk (st := s_back) l_back c_back k_back
  have b_back := F_back.binds (ps := ["side", "value"]) fun _ _ _ _ _ _ us hl => match us, hl with | [_, _], _ => rfl
  have m_back := PySem.W.mg_of X G a_back
  have F_threshold := fun_mk (st := s_threshold) l_threshold c_threshold k_threshold
  have b_threshold := F_threshold.binds (ps := ["side", "value"]) fun _ _ _ _ _ _ us hl => match us, hl with | [_, _], _ => rfl
  have m_threshold := PySem.W.mg_of X G a_threshold
  have F_mirror := fun_mk (st := s_mirror) l_mirror c_mirror k_mirror
  have b_mirror := F_mirror.binds (ps := ["side"]) fun _ _ _ _ _ _ us hl => match us, hl with | [_], _ => rfl
  have m_mirror := PySem.W.mg_of X G a_mirror
  have F_form := fun_mk (st := s_form) l_form c_form k_form
  have b_form := F_form.binds (ps := ["side"]) fun _ _ _ _ _ _ us hl => match us, hl with | [_], _ => rfl
  have m_form := PySem.W.mg_of X G a_form
  have F_first_mode := fun_mk (st := s_first_mode) l_first_mode c_first_mode k_first_mode
  have b_first_mode := F_first_mode.binds (ps := ["step", "mode"]) fun _ _ _ _ _ _ us hl => match us, hl with | [_, _], _ => rfl
  have m_first_mode := PySem.W.mg_of X G a_first_mode
  have F_L_source := fun_mk (st := s_L_source) l_L_source c_L_source k_L_source
  have b_L_source := F_L_source.binds (ps := ["_law_script"]) fun _ _ _ _ _ _ us hl => match us, hl with | [_], _ => rfl
  have m_L_source := PySem.W.mg_of X G a_L_source
  have F_L_draw := fun_mk (st := s_L_draw) l_L_draw c_L_draw k_L_draw
  have b_L_draw := F_L_draw.binds (ps := ["_law_source_here", "_law_limit"]) fun _ _ _ _ _ _ us hl => match us, hl with | [_, _], _ => rfl
  have m_L_draw := PySem.W.mg_of X G a_L_draw
  have F_L_pick := fun_mk (st := s_L_pick) l_L_pick c_L_pick k_L_pick
  have b_L_pick := F_L_pick.binds (ps := ["_law_source_here", "_law_values"]) fun _ _ _ _ _ _ us hl => match us, hl with | [_, _], _ => rfl
  have m_L_pick := PySem.W.mg_of X G a_L_pick
  have F_L_great := fun_mk (st := s_L_great) l_L_great c_L_great k_L_great
  have b_L_great := F_L_great.binds (ps := ["_law_source_here", "_law_digits"]) fun _ _ _ _ _ _ us hl => match us, hl with | [_, _], _ => rfl
  have m_L_great := PySem.W.mg_of X G a_L_great
  have F_L_side := fun_mk (st := s_L_side) l_L_side c_L_side k_L_side
  have b_L_side := F_L_side.binds (ps := ["_law_source_here", "_law_digits"]) fun _ _ _ _ _ _ us hl => match us, hl with | [_, _], _ => rfl
  have m_L_side := PySem.W.mg_of X G a_L_side
  have F_L_is_whole := fun_mk (st := s_L_is_whole) l_L_is_whole c_L_is_whole k_L_is_whole
  have b_L_is_whole := F_L_is_whole.binds (ps := ["_law_value", "_law_low", "_law_high"]) fun _ _ _ _ _ _ us hl => match us, hl with | [_, _, _], _ => rfl
  have m_L_is_whole := PySem.W.mg_of X G a_L_is_whole
  have F_L_is_side := fun_mk (st := s_L_is_side) l_L_is_side c_L_is_side k_L_is_side
  have b_L_is_side := F_L_is_side.binds (ps := ["_law_value"]) fun _ _ _ _ _ _ us hl => match us, hl with | [_], _ => rfl
  have m_L_is_side := PySem.W.mg_of X G a_L_is_side
  have F_L_asked := fun_mk (st := s_L_asked) l_L_asked c_L_asked k_L_asked
  have b_L_asked := F_L_asked.binds (ps := ["_law_way", "_law_one", "_law_value"]) fun _ _ _ _ _ _ us hl => match us, hl with | [_, _, _], _ => rfl
  have m_L_asked := PySem.W.mg_of X G a_L_asked
  have F_L_word := fun_mk (st := s_L_word) l_L_word c_L_word k_L_word
  have b_L_word := F_L_word.binds (ps := ["_law_way", "_law_one", "_law_value"]) fun _ _ _ _ _ _ us hl => match us, hl with | [_, _, _], _ => rfl
  have m_L_word := PySem.W.mg_of X G a_L_word
  have F_L_fits := fun_mk (st := s_L_fits) l_L_fits c_L_fits k_L_fits
  have b_L_fits := F_L_fits.binds (ps := ["_law_one"]) fun _ _ _ _ _ _ us hl => match us, hl with | [_], _ => rfl
  have m_L_fits := PySem.W.mg_of X G a_L_fits
  have F_L_bent := fun_mk (st := s_L_bent) l_L_bent c_L_bent k_L_bent
  have b_L_bent := F_L_bent.binds (ps := ["_law_source_here", "_law_one"]) fun _ _ _ _ _ _ us hl => match us, hl with | [_, _], _ => rfl
  have m_L_bent := PySem.W.mg_of X G a_L_bent
  have F_law := fun_mk (st := s_law) l_law c_law k_law
  have b_law := F_law.binds (ps := ["_law_script"]) fun _ _ _ _ _ _ us hl => match us, hl with | [_], _ => rfl
  have m_law := PySem.W.mg_of X G a_law
  have n_len := PySem.W.mg_none_of X G z_len
  have n_abs := PySem.W.mg_none_of X G z_abs
  have n_int := PySem.W.mg_none_of X G z_int
  have n_range := PySem.W.mg_none_of X G z_range
  have n_isinstance := PySem.W.mg_none_of X G z_isinstance
  have n_bool := PySem.W.mg_none_of X G z_bool
  have n_tuple := PySem.W.mg_none_of X G z_tuple
  have n_list := PySem.W.mg_none_of X G z_list
  have n_divmod := PySem.W.mg_none_of X G z_divmod
  have n_str := PySem.W.mg_none_of X G z_str
  have n_ValueError := PySem.W.mg_none_of X G z_ValueError
  have BL : Blt mg := ⟨n_len, n_abs, n_int, n_range⟩
  have TC : ChkT mg := ⟨n_isinstance, n_int, n_bool, n_tuple, n_list, n_len⟩
  have TM : ModT K mg aM := ⟨PySem.W.mg_of X G a_MODES, fun _ => .inr ⟨_, _, _, l_MODES, rfl, rfl, v_MODES.1, v_MODES.2⟩⟩
  have TS : SideT K mg aM := ⟨n_isinstance, n_int, n_bool, n_tuple, n_len, n_divmod, TM.gM, TM.tM⟩
  have RT : MirT K w mg aR := ⟨PySem.W.mg_of X G a_MIR, fun m hm => by
    rcases hm with e | e | e | e | e <;> subst e
    · rw [mir_d]; exact ⟨_, _, _, l_MIR, h_MIR, d_down, r_down⟩
    · rw [mir_u]; exact ⟨_, _, _, l_MIR, h_MIR, d_up, r_up⟩
    · rw [mir_hd]; exact ⟨_, _, _, l_MIR, h_MIR, d_half_down, r_half_down⟩
    · rw [mir_hu]; exact ⟨_, _, _, l_MIR, h_MIR, d_half_up, r_half_up⟩
    · rw [mir_he]; exact ⟨_, _, _, l_MIR, h_MIR, d_half_even, r_half_even⟩⟩
  have tab : ∀ i, i < 3 → erT K (cAt [c0, c1, c2]) cB i = true := fun i hi => by
    rcases (by omega : i = 0 ∨ i = 1 ∨ i = 2) with e | e | e <;> subst e
    · exact et_0
    · exact et_1
    · exact et_2
  have tb : ∀ i, i < 3 → errB K (cAt [c0, c1, c2] i) = true ∧ (PySem.W.excIn K (cAt [c0, c1, c2] i) [.type "ValueError", .type "Exception", .type "BaseException", .type "object"] "ValueError.__new__" = true ∧ PySem.W.keepIn K (.ref (cAt [c0, c1, c2] i)) = true) ∧ PySem.W.kitOne K (.ref (cAt [c0, c1, c2] i)) (.type "ValueError") = some true ∧ PySem.W.subIn K (.ref (cAt [c0, c1, c2] i)) (.type "BaseException") = some true ∧ PySem.W.typeIn K (.ref (cAt [c0, c1, c2] i)) = some (.type "type") ∧ PySem.W.exmOne K (.ref (cAt [c0, c1, c2] i)) (.ref cB) = some true ∧ ∀ j, j < 3 → PySem.W.kitOne K (.ref (cAt [c0, c1, c2] i)) (.ref (cAt [c0, c1, c2] j)) = some (decide (i = j)) := fun i hi => by
    have z := tab i hi
    unfold erT exB at z
    simp only [Bool.and_eq_true, decide_eq_true_eq] at z
    obtain ⟨a, b, c, d, e, f, g⟩ := z
    exact ⟨a, b, c, d, e, f, fun j hj => of_decide_eq_true (all_of g hj)⟩
  have R : Er4 K mg (cAt [c0, c1, c2]) cB := { isi := n_isinstance, ve := n_ValueError, gB := PySem.W.mg_of X G g_B, g0 := PySem.W.mg_of X G g_0, g1 := PySem.W.mg_of X G g_1, g2 := PySem.W.mg_of X G g_2, kit := fun i j hi hj => (tb i hi).2.2.2.2.2.2 j hj, kitV := fun i hi => (tb i hi).2.2.1, ec := fun i hi => errB_ok (tb i hi).1, eg := ⟨gsp, gtk⟩, ex := fun i hi => (tb i hi).2.1.1, kp := fun i hi => (tb i hi).2.1.2, sb := fun i hi => (tb i hi).2.2.2.1, ty := fun i hi => (tb i hi).2.2.2.2.1, emB := fun i hi => (tb i hi).2.2.2.2.2.1 }
  refine ⟨PySem.W.fnOf "law" "law" (defArgs s_law) (defBody s_law) (defScope s_law) .none kV_law dc_law pm_law an_law cd_law ct_law, fun s v => .of_eq rfl, fun base _ _ => ?_⟩
  have C_is_int : Cal l.prog w K mg base "is_int" 1 ["thing"] spIsAny f_is_int _ := ⟨ok_is_any F_is_int TC, m_is_int, k_is_int, b_is_int⟩
  have C_is_int_between : Cal l.prog w K mg base "is_int_between" 2 ["thing", "least", "most"] spBetAny f_is_int_between _ := ⟨ok_bet_any F_is_int_between C_is_int, m_is_int_between, k_is_int_between, b_is_int_between⟩
  have C_check_value : CalX l.prog w K mg base "check_value" 2 ["value"] (spValX (cAt [c0, c1, c2])) f_check_value _ := ⟨ok_val04 F_check_value R C_is_int, m_check_value, k_check_value, b_check_value⟩
  have C_check_side : CalX l.prog w K mg base "check_side" 3 ["side"] (spSideX (cAt [c0, c1, c2])) f_check_side _ := ⟨ok_side04 F_check_side TC TM R C_is_int_between, m_check_side, k_check_side, b_check_side⟩
  have C_goes_up : Cal l.prog w K mg base "_goes_up" 1 ["mode", "step", "figure", "rest"] spGo f_goes_up _ := ⟨ok_goes_up F_goes_up, m_goes_up, k_goes_up, b_goes_up⟩
  have C_figure : Cal l.prog w K mg base "_figure" 2 ["side", "value"] spFig f_figure _ := ⟨ok_figure F_figure TS C_goes_up, m_figure, k_figure, b_figure⟩
  have C_written : Cal l.prog w K mg base "written" 3 ["side", "value"] spDue f_written _ := ⟨ok_written F_written C_figure, m_written, k_written, b_written⟩
  have C_below : Cal l.prog w K mg base "_below" 1 ["mode", "step", "figure"] spBelow f_below _ := ⟨ok_below F_below, m_below, k_below, b_below⟩
  have C_uspan : Cal l.prog w K mg base "_span" 2 ["side", "figure"] spSpan f_uspan _ := ⟨ok_uspan F_uspan RT C_below, m_uspan, k_uspan, b_uspan⟩
  have C_threshold : Cal l.prog w K mg base "threshold" 3 ["side", "value"] spBack f_threshold _ := ⟨ok_threshold F_threshold C_below, m_threshold, k_threshold, b_threshold⟩
  have C_first_mode : Cal l.prog w K mg base "_first_mode" 1 ["step", "mode"] spFirst f_first_mode _ := ⟨ok_first F_first_mode, m_first_mode, k_first_mode, b_first_mode⟩
  have C_figure_of : CalX l.prog w K mg base "figure_of" 4 ["side", "value"] (spTwoX (cAt [c0, c1, c2])) f_figure_of _ := ⟨ok_figure_of_x F_figure_of C_check_side C_check_value C_figure, m_figure_of, k_figure_of, b_figure_of⟩
  have C_handed : CalX l.prog w K mg base "handed" 4 ["side", "value"] (spTwoX (cAt [c0, c1, c2])) f_handed _ := ⟨ok_handed_x F_handed C_check_side C_check_value C_written, m_handed, k_handed, b_handed⟩
  have C_span : CalX l.prog w K mg base "span" 4 ["side", "figure"] (spTwoX (cAt [c0, c1, c2])) f_span _ := ⟨ok_span_x F_span C_check_side C_check_value C_uspan, m_span, k_span, b_span⟩
  have C_back : CalX l.prog w K mg base "back" 4 ["side", "value"] (spTwoX (cAt [c0, c1, c2])) f_back _ := ⟨ok_back_x F_back C_check_side C_check_value C_threshold, m_back, k_back, b_back⟩
  have C_stands : CalX l.prog w K mg base "stands" 4 ["side", "value"] (spTwoX (cAt [c0, c1, c2])) f_stands _ := ⟨ok_stands_x F_stands C_check_side C_check_value, m_stands, k_stands, b_stands⟩
  have C_mirror : CalX l.prog w K mg base "mirror" 4 ["side"] (spOneX (cAt [c0, c1, c2])) f_mirror _ := ⟨ok_mirror_x F_mirror RT C_check_side, m_mirror, k_mirror, b_mirror⟩
  have C_form : CalX l.prog w K mg base "form" 4 ["side"] (spOneX (cAt [c0, c1, c2])) f_form _ := ⟨ok_form_x F_form C_check_side C_first_mode, m_form, k_form, b_form⟩
  have C_L_source : Cal l.prog w K mg base "_law_source" 1 ["_law_script"] (spSource K) f_L_source _ := ⟨ok_source F_L_source BL, m_L_source, k_L_source, b_L_source⟩
  have C_L_draw : Cal l.prog w K mg base "_law_draw" 1 ["_law_source_here", "_law_limit"] spDraw f_L_draw _ := ⟨ok_draw F_L_draw BL, m_L_draw, k_L_draw, b_L_draw⟩
  have C_L_pick : Cal l.prog w K mg base "_law_pick" 2 ["_law_source_here", "_law_values"] spPick f_L_pick _ := ⟨ok_pick F_L_pick BL C_L_draw, m_L_pick, k_L_pick, b_L_pick⟩
  have C_L_great : Cal l.prog w K mg base "_law_great" 2 ["_law_source_here", "_law_digits"] spGreat f_L_great _ := ⟨ok_great F_L_great BL C_L_draw, m_L_great, k_L_great, b_L_great⟩
  have C_L_side : Cal l.prog w K mg base "_law_side" 3 ["_law_source_here", "_law_digits"] spSide f_L_side _ := ⟨ok_side F_L_side BL C_L_draw C_L_pick C_L_great, m_L_side, k_L_side, b_L_side⟩
  have C_L_is_whole : Cal l.prog w K mg base "_law_is_whole" 1 ["_law_value", "_law_low", "_law_high"] spWhole f_L_is_whole _ := ⟨ok_whole F_L_is_whole TC, m_L_is_whole, k_L_is_whole, b_L_is_whole⟩
  have C_L_is_side : Cal l.prog w K mg base "_law_is_side" 2 ["_law_value"] spIsS f_L_is_side _ := ⟨ok_isside F_L_is_side TC n_str C_L_is_whole, m_L_is_side, k_L_is_side, b_L_is_side⟩
  have C_L_asked : CalX l.prog w K mg base "_law_asked" 5 ["_law_way", "_law_one", "_law_value"] (spAsked (cAt [c0, c1, c2])) f_L_asked _ := ⟨ok_asked F_L_asked C_check_side C_mirror C_form C_figure_of C_handed C_stands C_span C_back, m_L_asked, k_L_asked, b_L_asked⟩
  have C_L_word : Cal l.prog w K mg base "_law_word" 6 ["_law_way", "_law_one", "_law_value"] spWord f_L_word _ := ⟨ok_word F_L_word R C_L_asked, m_L_word, k_L_word, b_L_word⟩
  have C_L_fits : Cal l.prog w K mg base "_law_fits" 7 ["_law_one"] spFits f_L_fits _ := ⟨ok_fits F_L_fits BL C_L_is_side C_L_is_whole C_L_word C_check_side, m_L_fits, k_L_fits, b_L_fits⟩
  have C_L_bent : Cal l.prog w K mg base "_law_bent" 3 ["_law_source_here", "_law_one"] spBent f_L_bent _ := ⟨ok_bent F_L_bent n_list C_L_draw C_L_pick, m_L_bent, k_L_bent, b_L_bent⟩
  exact ok_law F_law BL C_L_source C_L_side C_L_fits C_L_bent
theorem walk {l : PySem.W.OpenLaw} {q : Program} {loose : List Str} {XP : (Str → Option Value) → Heap → Prop} {YP : World → Heap → Prop} {d : DefRec} {K : Params → PySem.W.Frag} (hn : l.most = some 63) (hdf : d.params.defaults = [])
    (hY : ∀ (w : World) (h : Heap), YP w h → (K w.params).In h)
    (F : ∀ (w : World) (mg : Str → Option Value) (fa : Addr) (h : Heap), (K w.params).In h → h.Ns mainGlobals mg → mg d.name = some (.ref fa) →
      ∃ fd : FuncData, (∀ (s : Shared) (u : Value), BindsTo s fd ⟨[u], []⟩ [("_law_script", u)]) ∧ ∀ base : Heap, (K w.params).In base → base.Ns mainGlobals mg → FnOk l.prog w (K w.params) mg base CX0 8 fa fd ["_law_script"] (spLaw (K w.params))) :
    PySem.W.WalkO q loose XP YP l.row.toRowW d [] (fun f vs => PySem.call f vs) :=
  L2.walk_of (n := 63) (k := 8) (x := "_law_script") (CX := fun _ => CX0) (sp := fun w => spLaw (K w.params)) hn (by decide) hdf ⟨rfl, by decide, by decide⟩ hY F (fun _ _ a ns hl _ hS => ⟨a, ns, rfl, hS, hl, fun _ => rfl⟩) fun _ _ _ _ _ z => z
end HT
open PySem PySem.W PyProof.Rows
set_option maxRecDepth 100000 in
set_option maxHeartbeats 0 in
theorem PySem.Challenge.cw_handedtext_k04_sides_holds : PySem.Challenge.rw_handedtext_k04_sides.Holds := by
  w_on; o_law; k_head; (case hw => w_witness2)
  k_fill
  refine HT.walk (l := PySem.Challenge.rw_handedtext_k04_sides) rfl rfl (fun w h Y => PySem.W.kIn_of Y) ?F
  case F =>
    intro w mg fa h KX G hmg
    refine' HT.all_mk KX G hmg ?a_is_int ?l_is_int ?c_is_int ?k_is_int ?a_is_int_between ?l_is_int_between ?c_is_int_between ?k_is_int_between ?a_check_value ?l_check_value ?c_check_value ?k_check_value ?a_check_side ?l_check_side ?c_check_side ?k_check_side ?a_figure_of ?l_figure_of ?c_figure_of ?k_figure_of ?a_figure ?l_figure ?c_figure ?k_figure ?a_goes_up ?l_goes_up ?c_goes_up ?k_goes_up ?a_handed ?l_handed ?c_handed ?k_handed ?a_written ?l_written ?c_written ?k_written ?a_stands ?l_stands ?c_stands ?k_stands ?a_span ?l_span ?c_span ?k_span ?a_uspan ?l_uspan ?c_uspan ?k_uspan ?a_below ?l_below ?c_below ?k_below ?a_back ?l_back ?c_back ?k_back ?a_threshold ?l_threshold ?c_threshold ?k_threshold ?a_mirror ?l_mirror ?c_mirror ?k_mirror ?a_form ?l_form ?c_form ?k_form ?a_first_mode ?l_first_mode ?c_first_mode ?k_first_mode ?a_L_source ?l_L_source ?c_L_source ?k_L_source ?a_L_draw ?l_L_draw ?c_L_draw ?k_L_draw ?a_L_pick ?l_L_pick ?c_L_pick ?k_L_pick ?a_L_great ?l_L_great ?c_L_great ?k_L_great ?a_L_side ?l_L_side ?c_L_side ?k_L_side ?a_L_is_whole ?l_L_is_whole ?c_L_is_whole ?k_L_is_whole ?a_L_is_side ?l_L_is_side ?c_L_is_side ?k_L_is_side ?a_L_asked ?l_L_asked ?c_L_asked ?k_L_asked ?a_L_word ?l_L_word ?c_L_word ?k_L_word ?a_L_fits ?l_L_fits ?c_L_fits ?k_L_fits ?a_L_bent ?l_L_bent ?c_L_bent ?k_L_bent ?a_law ?l_law ?c_law ?k_law ?z_len ?z_abs ?z_int ?z_range ?z_isinstance ?z_bool ?z_tuple ?z_list ?z_divmod ?z_str ?z_ValueError ?g_0 ?g_1 ?g_2 ?g_B ?et_0 ?et_1 ?et_2 ?gsp ?gtk ?a_MODES ?l_MODES ?v_MODES ?a_MIR ?l_MIR ?h_MIR ?d_down ?r_down ?d_up ?r_up ?d_half_down ?r_half_down ?d_half_up ?r_half_up ?d_half_even ?r_half_even
    (case a_is_int => k_is)
    (case l_is_int => k_is)
    (case c_is_int => k_is)
    (case k_is_int => k_is)
    (case a_is_int_between => k_is)
    (case l_is_int_between => k_is)
    (case c_is_int_between => k_is)
    (case k_is_int_between => k_is)
    (case a_check_value => k_is)
    (case l_check_value => k_is)
    (case c_check_value => k_is)
    (case k_check_value => k_is)
    (case a_check_side => k_is)
    (case l_check_side => k_is)
    (case c_check_side => k_is)
    (case k_check_side => k_is)
    (case a_figure_of => k_is)
    (case l_figure_of => k_is)
    (case c_figure_of => k_is)
    (case k_figure_of => k_is)
    (case a_figure => k_is)
    (case l_figure => k_is)
    (case c_figure => k_is)
    (case k_figure => k_is)
    (case a_goes_up => k_is)
    (case l_goes_up => k_is)
    (case c_goes_up => k_is)
    (case k_goes_up => k_is)
    (case a_handed => k_is)
    (case l_handed => k_is)
    (case c_handed => k_is)
    (case k_handed => k_is)
    (case a_written => k_is)
    (case l_written => k_is)
    (case c_written => k_is)
    (case k_written => k_is)
    (case a_stands => k_is)
    (case l_stands => k_is)
    (case c_stands => k_is)
    (case k_stands => k_is)
    (case a_span => k_is)
    (case l_span => k_is)
    (case c_span => k_is)
    (case k_span => k_is)
    (case a_uspan => k_is)
    (case l_uspan => k_is)
    (case c_uspan => k_is)
    (case k_uspan => k_is)
    (case a_below => k_is)
    (case l_below => k_is)
    (case c_below => k_is)
    (case k_below => k_is)
    (case a_back => k_is)
    (case l_back => k_is)
    (case c_back => k_is)
    (case k_back => k_is)
    (case a_threshold => k_is)
    (case l_threshold => k_is)
    (case c_threshold => k_is)
    (case k_threshold => k_is)
    (case a_mirror => k_is)
    (case l_mirror => k_is)
    (case c_mirror => k_is)
    (case k_mirror => k_is)
    (case a_form => k_is)
    (case l_form => k_is)
    (case c_form => k_is)
    (case k_form => k_is)
    (case a_first_mode => k_is)
    (case l_first_mode => k_is)
    (case c_first_mode => k_is)
    (case k_first_mode => k_is)
    (case a_L_source => k_is)
    (case l_L_source => k_is)
    (case c_L_source => k_is)
    (case k_L_source => k_is)
    (case a_L_draw => k_is)
    (case l_L_draw => k_is)
    (case c_L_draw => k_is)
    (case k_L_draw => k_is)
    (case a_L_pick => k_is)
    (case l_L_pick => k_is)
    (case c_L_pick => k_is)
    (case k_L_pick => k_is)
    (case a_L_great => k_is)
    (case l_L_great => k_is)
    (case c_L_great => k_is)
    (case k_L_great => k_is)
    (case a_L_side => k_is)
    (case l_L_side => k_is)
    (case c_L_side => k_is)
    (case k_L_side => k_is)
    (case a_L_is_whole => k_is)
    (case l_L_is_whole => k_is)
    (case c_L_is_whole => k_is)
    (case k_L_is_whole => k_is)
    (case a_L_is_side => k_is)
    (case l_L_is_side => k_is)
    (case c_L_is_side => k_is)
    (case k_L_is_side => k_is)
    (case a_L_asked => k_is)
    (case l_L_asked => k_is)
    (case c_L_asked => k_is)
    (case k_L_asked => k_is)
    (case a_L_word => k_is)
    (case l_L_word => k_is)
    (case c_L_word => k_is)
    (case k_L_word => k_is)
    (case a_L_fits => k_is)
    (case l_L_fits => k_is)
    (case c_L_fits => k_is)
    (case k_L_fits => k_is)
    (case a_L_bent => k_is)
    (case l_L_bent => k_is)
    (case c_L_bent => k_is)
    (case k_L_bent => k_is)
    (case a_law => k_is)
    (case l_law => k_is)
    (case c_law => k_is)
    (case k_law => k_is)
    (case z_len => k_is)
    (case z_abs => k_is)
    (case z_int => k_is)
    (case z_range => k_is)
    (case z_isinstance => k_is)
    (case z_bool => k_is)
    (case z_tuple => k_is)
    (case z_list => k_is)
    (case z_divmod => k_is)
    (case z_str => k_is)
    (case z_ValueError => k_is)
    (case g_0 => k_is)
    (case g_1 => k_is)
    (case g_2 => k_is)
    (case g_B => k_is)
    (case et_0 => kernel_rfl)
    (case et_1 => kernel_rfl)
    (case et_2 => kernel_rfl)
    (case gsp => k_is)
    (case gtk => k_is)
    (case a_MODES => k_is)
    (case l_MODES => k_is)
    (case v_MODES => exact ⟨by decide, .cons ⟨_, rfl⟩ (.cons ⟨_, rfl⟩ (.cons ⟨_, rfl⟩ (.cons ⟨_, rfl⟩ (.cons ⟨_, rfl⟩ .nil))))⟩)
    (case a_MIR => k_is)
    (case l_MIR => k_is)
    (case h_MIR => k_keys)
    (case d_down => k_is)
    (case r_down => exact ⟨_, rfl⟩)
    (case d_up => k_is)
    (case r_up => exact ⟨_, rfl⟩)
    (case d_half_down => k_is)
    (case r_half_down => exact ⟨_, rfl⟩)
    (case d_half_up => k_is)
    (case r_half_up => exact ⟨_, rfl⟩)
    (case d_half_even => k_is)
    (case r_half_even => exact ⟨_, rfl⟩)
#print axioms PySem.Challenge.cw_handedtext_k04_sides_holds
