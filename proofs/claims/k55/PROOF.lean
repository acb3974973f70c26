import PyProof.Rows.All
import Wide.All
import OpenK.AllK
import Wide.FinOn
import HandS.CallSlots
import HandS.Deep
import HandS.Defaults
import HandS.Exc
import HandS.ExcField
import HandS.ExcInit
import HandS.ExcIs
import HandS.ExcValue
import HandS.ForMost
import HandS.HotCalls
import HandS.IsInst
import HandS.MakeKwOnly
import HandS.More
import HandS.NoneIn
import HandS.RaiseFrom
import HandS.ReplaceLit
import HandS.StrMore
import HandS.Style
import HandS.SuiteRaise
import HandS.TryOnly
import HandS.Wide
import HandS.WideBits
import HandS.WordsExc
import KE.KEqDeep
import KE.KEqSeq
import KE.KExcIs
import HandS.Gcd
import HandS.Walk
import HandS.Conv
import PySem.Challenge.RW_handedtext_k55_whole_fewest_places
set_option Elab.async false
set_option linter.all false
set_option maxRecDepth 100000
set_option maxHeartbeats 4000000
set_option exponentiation.threshold 9000
open PySem L2
local macro_rules | `(tactic| walk_at "rd") => `(tactic| repeat (first | refine ⟨_, rfl, ?_⟩ | refine ⟨_, _, rfl, rfl, ?_⟩ | refine .inl ⟨_, rfl, ?_⟩))
namespace L2
open PySem PySem.Spec PyProof.Rows
/-- an error that was caught and kept, at a -/
def ExK (cls : Value) (a : Addr) : HO := .ext fun hp => ∃ (rec' : Obj) (cells : Array Value), hp.get? a = some rec' ∧ Zc cls none rec' ∧ rec'.data = .fields cells
/-- wKeep: what 'except x as n' wishes, where the error stays tracked behind the suite -/
def wKeep (K : PySem.W.Frag) (c : Value) (i : Nat) (ts : Addr → Value → Option Addr → TS) (Wout : WX) (D : Ends) : WX := fun kl dd st H =>
  ∃ yes, PySem.W.exmOne K kl c = some yes ∧ (yes = true → dd = none ∧ ∀ a, H a = none → ts a kl dd { nx := fun st' H' => D.nx (st'.set i none) (upd H' a (ExK kl a)), rt := D.rt, bk := fun st' H' => D.bk (st'.set i none) H', ct := fun st' H' => D.ct (st'.set i none) H' } (st.set i (some (.ref a))) H) ∧
    (yes = false → Wout kl dd st H)
section
variable {X : Cx} {pins : List (Addr × Obj)} {st : St} {H : Hp} {sh : Shared}
theorem Inv.adopt {a : Addr} {kl : Value} {rc : Obj} {cells : Array Value} (iv : Inv X pins st H sh) (new0 : X.s_0.heap.get? a = none) (free : H a = none) (at0 : sh.heap.get? a = some rc) (zc : Zc kl none rc) (fl : rc.data = .fields cells) (nl : a ≠ X.env.locals)
    (np : ∀ p ∈ X.pn ++ pins, p.1 ≠ a) : Inv X pins st (upd H a (ExK kl a)) sh := by
  have old : ∀ c rr, X.s_0.heap.get? c = some rr → c ≠ a := fun c rr e z => by
    rw [z, new0] at e
    cases e
  have other : ∀ c u, H c = some u → upd H a (ExK kl a) c = some u := fun c u e => (upd_ne (ne_of_none e free)).trans e
  refine ⟨iv.ok, iv.os, iv.bare, ⟨iv.base.keep, iv.base.slot, fun c rr e n0 nx => ?_, iv.base.there, fun c xs e => other _ _ (iv.base.tups c xs e), fun c rr u e => other _ _ (iv.base.frzs c rr u e), fun c ps e => ?_⟩, iv.loc, iv.cell, ?_, fun y c e => ?_, fun p hp => ?_, fun c u e => ?_, iv.len⟩
  · exact (upd_ne (old c rr e)).trans (iv.base.free c rr e n0 nx)
  · obtain ⟨more, e2⟩ := iv.base.tbls c ps e
    exact ⟨more, other _ _ e2⟩
  · exact (upd_ne nl.symm).trans iv.free
  · obtain ⟨w, rr, e2, e3⟩ := iv.cell y c e
    refine (upd_ne fun z => ?_).trans (iv.freeC y c e)
    subst z
    rw [at0] at e2
    cases e2
    simp [fl] at e3
  · obtain ⟨e1, e2, e3, e4, e5⟩ := iv.pin p hp
    exact ⟨e1, (upd_ne (np p hp)).trans e2, e3, e4, e5⟩
  · by_cases ca : c = a
    · subst ca
      rw [upd_same] at e
      cases e
      exact ⟨⟨rc, cells, at0, zc, fl⟩, ⟨rc, at0⟩, fun _ _ ⟨r2, c2, e2, e3⟩ same => ⟨r2, c2, same _ e2, e3⟩⟩
    · rw [upd_ne ca] at e
      exact (iv.hok c u e).stay (fun _ _ _ e2 => e2) (fun c2 e2 => other _ _ e2) fun c2 xs e2 => other _ _ e2
end
end L2
namespace L2
open PySem PySem.Spec PyProof.Rows
section
variable {X : Cx} {x n : Str} {c : Value} {i : Nat} {body suite : List Stmt} {first : Stmt} {np pos pos' : Pos} {tb : WX → TS} {ts : Addr → Value → Option Addr → TS} {Wout : WX}
/-- try: .. except x as n: suite; the caught error stays tracked behind it -/
theorem ps_try_keep (stk : X.stack = X.env :: X.outer) (frm : X.env.frame = some X.env.locals) (noex : X.ex = []) (dist : X.N.Nodup) (slot : X.N[i]? = some n) (loc : X.env.kindOf n = some .local) (nam : Names X x c) (tk : Takes X Wout)
    (inner : ∀ (W : WX) (pn : List (Addr × Obj)) (xe : Value → Shared → Prop), Takes (X.tr pn xe) W → PassesOwn (model X.prog X.w) X.A X.env xe → PSs (X.tr pn xe) body (tb W))
    (caught : ∀ (a : Addr) (rc : Obj) (kl : Value) (dd : Option Addr) (pn : List (Addr × Obj)), Zc kl dd rc → (∃ cells, rc.data = .fields cells) → PSs (X.suite a ((a, rc) :: pn)) (first :: suite) (ts a kl dd)) :
    PS X (.Try body [.ExceptHandler (some (.Name x np)) (some n) (first :: suite) pos'] [] [] pos) (fun D st H => tb (wKeep X.K c i ts Wout D) D st H) where
  run := fun pins sh st H D iv want => by
    have fine := iv.ok
    have frames : X.A.frames = some (X.env :: X.outer) := by rw [fine.frames, stk]
    refine wpAny_Try_except (wpAny_mono ((inner (wKeep X.K c i ts Wout D) (X.pn ++ pins) _ (fun u sh' air => ?_) PassesOwn.looking).run [] sh st H D (iv.toTry _) want) ?_ fun _ _ e => e)
    · obtain ⟨a, B, shI, pins', st1, H1, kl, dd, rfl, ivT, inB, upTo, sky, freeA, sameOs, bareG, yes, dec, onYes, onNo⟩ := air
      have iv1 : Inv X pins st1 H1 shI := ivT.ofTry fine
      rw [stk] at sky
      refine Sky.land Zc.steady frames frm sky fun hp3 fly3 up3 => ?_
      have bNone : B.get? a = none := fly3.2.1
      have iv3 : Inv X pins st1 H1 { sh' with heap := hp3 } := iv1.landed inB fly3.1 (upTo.trans up3) sameOs bareG
      obtain ⟨rc3, cells3, at3, zc3, dt3⟩ := fly3.there
      have offFrames : a ∉ frs (X.env :: X.outer) := fun mem => by
        obtain ⟨_, r2, e2, bad⟩ := fly3.2.2.1.mem mem
        rw [at3] at e2
        cases e2
        exact bad _ dt3
      have offL : a ≠ X.env.locals := fun z => offFrames (List.mem_filterMap.mpr ⟨X.env, List.mem_cons_self, by rw [frm, z]⟩)
      have offF : a ∉ X.fs := fun mem => by
        obtain ⟨ee, inn, ef⟩ := List.mem_filterMap.mp mem
        exact offFrames (List.mem_filterMap.mpr ⟨ee, List.mem_cons_of_mem _ inn, ef⟩)
      have notThere : shI.heap.get? a = none := by
        cases e : shI.heap.get? a with
        | none => rfl
        | some rr =>
          have z := inB a rr e (by rw [stk]; exact offFrames)
          rw [bNone] at z
          cases z
      have new0 : X.s_0.heap.get? a = none := by
        cases e : X.s_0.heap.get? a with
        | none => rfl
        | some rr =>
          obtain ⟨r2, e2⟩ := iv1.base.there a rr e (by rw [noex]; exact List.not_mem_nil)
          rw [notThere] at e2
          cases e2
      have pinsOff : ∀ p ∈ X.pn ++ pins, p.1 ≠ a := fun p hp z => by
        have e2 := (iv1.pin p hp).1
        rw [z, notThere] at e2
        cases e2
      have inSuite := iv3.suite at3 dt3 freeA offL offF
      refine wpAny_handleBy_cons (codeAny_handlers_test ?_) (by intro q; cases q)
      have theClass : PySem.W.Looks (model X.prog X.w) hp3 (typeOf (.ref a)) kl := fun A' Q' E' s' kk qq => wpAny_typeOf_ref (kk _ _ at3) (by rw [zc3.1]; exact qq)
      have theTest := PySem.W.exm_one (M := model X.prog X.w) iv3.kIn theClass dec
      have clause : ∀ {Q' : Value → Shared → Prop} {E' : Value → Shared → Prop}, Q' c { sh' with heap := hp3 } → wpAny (model X.prog X.w) (X.A.mark (some (.ref a))) (eval (.Name x np) X.env) Q' E' { sh' with heap := hp3 } := fun {Q' E'} qq => by
        obtain ⟨g1, g2, g3 | ⟨g3, g4, g5⟩⟩ := nam
        · exact ld_glob (X := X.suite a ((a, rc3) :: (X.pn ++ pins))) inSuite g1 g3 qq g2
        · exact ld_blt (X := X.suite a ((a, rc3) :: (X.pn ++ pins))) inSuite g1 g3 g4 qq g5 g2
      refine clause (theTest.here ?_)
      cases yes with
      | true =>
        obtain ⟨rfl, go⟩ := onYes rfl
        refine codeAny_handlers_suite_as (HandSPX.lands_againZ fly3 fun hp4 fly4 up4 => ?_)
        have iv4 : Inv X pins st1 H1 { sh' with heap := hp4 } := iv1.landed inB fly4.1 ((upTo.trans up3).trans up4) sameOs bareG
        obtain ⟨rc4, cells4, at4, zc4, dt4⟩ := fly4.there
        refine store_ok (X := X.suite a ((a, rc4) :: (X.pn ++ pins))) (v := .ref a) (iv4.suite at4 dt4 freeA offL offF) dist slot (.inl loc) rfl (fun sh5 iv5 => ?_) (.inr loc)
        refine wpAny_mono ((caught a rc4 kl none (X.pn ++ pins) zc4 ⟨_, dt4⟩).run [] sh5 _ H1 _ iv5 (go a freeA)) (fun flow sh6 came => ?_) fun _ _ z => z.elim
        cases flow with
        | next =>
          obtain ⟨st6, H6, iv6, q6⟩ := came
          have more : Inv X ((a, rc4) :: pins) st6 H6 sh6 := ⟨fine, iv6.os, iv6.bare, iv6.base, iv6.loc, iv6.cell, iv6.free, iv6.freeC, fun p hp => iv6.pin p (List.mem_append_left _ ?_), iv6.hok, iv6.len⟩
          refine gone_ok more dist slot loc fun sh7 iv7 => ?_
          have there : (a, rc4) ∈ X.pn ++ (a, rc4) :: pins := List.mem_append_right _ List.mem_cons_self
          obtain ⟨e1, e2, e3, _⟩ := iv7.pin (a, rc4) there
          have less : Inv X pins (st6.set i none) H6 sh7 := ⟨fine, iv7.os, iv7.bare, iv7.base, iv7.loc, iv7.cell, iv7.free, iv7.freeC, fun p hp => iv7.pin p ?_, iv7.hok, iv7.len⟩
          · exact ⟨_, _, less.adopt new0 e2 e1 zc4 dt4 e3 pinsOff, q6⟩
          · rcases List.mem_append.mp hp with hq | hq
            · exact List.mem_append_left _ hq
            · exact List.mem_append_right _ (List.mem_cons_of_mem _ hq)
          · rcases List.mem_append.mp hp with hq | hq
            · exact List.mem_cons_of_mem _ (List.mem_append_left _ hq)
            · rcases List.mem_cons.mp hq with hr | hr
              · rw [hr]; exact List.mem_cons_self
              · exact List.mem_cons_of_mem _ (List.mem_append_right _ hr)
        | brk =>
          obtain ⟨st6, H6, iv6, q6⟩ := came
          exact gone_ok (iv6.unsuite fine) dist slot loc fun sh7 iv7 => ⟨_, _, iv7, q6⟩
        | cont =>
          obtain ⟨st6, H6, iv6, q6⟩ := came
          exact gone_ok (iv6.unsuite fine) dist slot loc fun sh7 iv7 => ⟨_, _, iv7, q6⟩
        | ret u =>
          obtain ⟨v6, st6, H6, iv6, r6, q6⟩ := came
          exact gone_ok (iv6.unsuite fine) dist slot loc fun sh7 iv7 => ⟨_, _, _, iv7, r6, q6⟩
      | false =>
        show wpAny _ X.A (handleBy (.ref a) X.env []) _ _ _
        refine wpAny_handleBy_nil ?_
        obtain ⟨_, _, _, rc5, cells5, tr5, _, _, at5, _, dt5, at1, _⟩ := id fly3
        unfold PySem.passOn
        refine wpAny_bind (wpAny_field at5 dt5 at1 ?_)
        rw [if_neg (by simp : ¬ (Value.ref tr5 == Value.none) = true)]
        have out : wpAny (model X.prog X.w) X.A (setFlight (.ref a) X.env.frame) (fun _ sh8 => wpAny (model X.prog X.w) X.A (throw (.ref a) : Sem Flow) (SP X pins D) X.xe sh8) X.xe { sh' with heap := hp3 } := by
          rw [frm]
          refine HandSPX.setFlight_upZ fly3 fun hp8 held up8 => wpAny_throw (tk _ _ ?_)
          exact ⟨a, B, shI, pins, st1, H1, kl, dd, rfl, iv1, inB, (upTo.trans up3).trans up8, .inr (.inr (by rw [stk]; exact held)), freeA, sameOs, bareG, onNo rfl⟩
        first
          | exact wpAny_bind out
          | exact wpAny_bind (wpAny_pure (wpAny_bind out))
    · intro flow sh1 came
      cases flow with
      | next =>
        obtain ⟨st1, H1, iv1, q1⟩ := came
        exact wpAny_execs_nil ⟨st1, H1, iv1.ofTry fine, q1⟩
      | brk =>
        obtain ⟨st1, H1, iv1, q1⟩ := came
        exact ⟨st1, H1, iv1.ofTry fine, q1⟩
      | cont =>
        obtain ⟨st1, H1, iv1, q1⟩ := came
        exact ⟨st1, H1, iv1.ofTry fine, q1⟩
      | ret u =>
        obtain ⟨v1, st1, H1, iv1, r1, q1⟩ := came
        exact ⟨v1, st1, H1, iv1.ofTry fine, r1, q1⟩
end
end L2
namespace L2
open PySem PySem.Spec PyProof.Rows
/-- what the written part says of an error class, for isinstance -/
structure ErrC (K : PySem.W.Frag) (C : Addr) : Prop where
  cl : (PySem.W.clsIn K C).isSome = true
  ga : PySem.W.findIn K (.ref C) "__getattribute__" = some (some (.builtin "BaseException.__getattribute__"))
  gg : PySem.W.findIn K (.ref C) "__getattr__" = some none
  sb : PySem.W.subIn K (.ref C) (.type "BaseException") = some true
  cn : PySem.W.findIn K (.ref C) "__class__" = some (some (.builtin "object.__class__"))
  mo : PySem.W.mroIn K C (.type "object") = some true
/-- .. of the attribute __class__ of all objects -/
structure ErrG (K : PySem.W.Frag) : Prop where
  sp : PySem.W.specialIn K (.builtin "object.__class__") "__get__" = some (some (.builtin "getset_descriptor.__get__"))
  tk : PySem.W.takesIn K (.builtin "object.__class__") = some true
def rIsKept (K : PySem.W.Frag) : List V → Hp → VK → Prop := fun xs H Q => ∃ (a C : Addr) (c : V) (cv : Value) (b : Bool), xs = [.ref a, c] ∧ ClsV c cv ∧ H a = some (ExK (.ref C) a) ∧ ErrC K C ∧ ErrG K ∧ PySem.W.kitOne K (.ref C) cv = some b ∧ Q (.bl b) H
theorem call_isKept {X : Cx} : CallR X (.builtin "isinstance") (rIsKept X.K) := by
  intro pins sh st H xs us Q iv r h
  obtain ⟨a, C, c, cv, b, rfl, k, at', T, G, e, q⟩ := h
  obtain ⟨u1, u2, rfl, r1, r2⟩ := vals2 r
  have e2 := k.eq r2
  subst e2
  obtain rfl : u1 = Value.ref a := r1
  obtain ⟨⟨oe, vs, ho, hz, hd⟩, _, _⟩ := iv.hok a _ at'
  have J : PySem.W.InstAt sh.heap a oe C none := by
    obtain ⟨oc, od, oda, osl⟩ := oe
    obtain ⟨h1, h2⟩ := hz
    dsimp only at h1 h2 hd
    subst h1 h2 hd
    exact ⟨ho, rfl, rfl, trivial⟩
  exact PySem.W.kia_one (PySem.W.kitx_exc T.cl T.ga T.gg T.sb T.cn G.sp G.tk T.mo) iv.kIn J e (fun z => nomatch z) fun tk => ⟨.bl b, H, iv.tok tk, rfl, q⟩
end L2
namespace L2
open PySem PySem.Spec PyProof.Rows
/-- a def of which any kind of error may come -/
theorem Fun.okAny {CX' : CXT} {P : Program} {w : World} {K : PySem.W.Frag} {mg : Str → Option Value} {base : Heap} {nm qu : Str} {row : Stmt} {at0 : Addr} {fd : FuncData} {names pars : List Str} {lev : Nat} {want : Sp} (F : Fun K nm qu row at0 fd) (S : FnScope names pars (defScope row)) (len : ∀ vs H Q E, want vs H Q E → vs.length = pars.length)
    (body : ∀ (code : Value) (A : Around) (outer : List Env) (sh : Shared) (H : Hp) (vs : List V) (Q : VK) (E : XK), Room lev (A.deeper (envOfC qu (defScope row) sh.heap.objs.size at0 code)) → want vs H Q E →
      ∃ t, PSs (cxOf CX' P w K mg base names qu (defScope row) at0 code A outer sh H E) (defBody row) t ∧ t { nx := fun _ H' => Q .non H', rt := Q } (start names vs) H) : FnOk P w K mg base CX' (lev + 1) at0 fd pars want := by
  obtain ⟨_, _, _, _, _, _, code, _, _, rfl, there, isCode⟩ := F.ex
  exact fn_of there isCode S len (body code)
/-- X('..') of an own class, for a raise .. from None -/
theorem pmk5_own {X : Cx} {C : Addr} {bmB : List Value} {B newId initId : String} {x m : Str} {j : Nat} {p p2 pos : Pos} (F : ExcBaseFacts B newId initId bmB) (q : PySem.W.excIn X.K C bmB newId = true) (gC : X.mg x = some (.ref C)) (kC : PySem.W.keepIn X.K (.ref C) = true) (r : Raises X (.ref C)) (hg : Gl X x)
    (plain : (x == ("__debug__" : Str)) = false := by decide) : L2H.PMk5 X (.Call (.Name x p) [.Constant (.str m) j p2] [] pos) (fun _ H Q => Q (.ref C) none H) := by
  intro pins sh st H Q iv want
  have arg : PA X [.Constant (.str m) j p2] (tCons (tC (.str m)) tNil) := pa_cons pe_str pa_nil
  refine wpAny_Call_Name_kw (ld_glob iv hg gC (PySem.W.callWith_K (h₀ := X.base) iv.ok.mod.kin kC (thn (arg.run pos pins sh st H (fun vs H1 => vs = [V.str m] ∧ H = H1) iv ⟨rfl, rfl⟩) ?_)) plain)
  rintro us sh1 ⟨vs, H1, iv1, rel, rfl, rfl⟩
  refine ⟨iv1.kIn, ?_⟩
  match us, rel with
  | [u], .cons _ .nil =>
    show wpAny _ _ (call (.ref C) [u]) _ _ _
    obtain ⟨_, _, _, _, _, _, _, _, _, _, _, _, _, _, _, _, _, hC, hN, hni, T⟩ := exc_obj iv1.kIn q
    exact wpAny_call_exc_subT F T hC hN hni (fun h' e made => L2H.mk_of5 iv1 made r want (iv1.hok.gone made.new)) (by show 1 ≤ sizeLine; decide)
/-- try: .. except x: suite, the suite raising: ps_try_onlyX with its reading under a name, for a loop around it -/
def tTryX (K : PySem.W.Frag) (c : Value) (ts : Addr → Value → Option Addr → TS) (Wout : WX) (tb : WX → TS) : TS := fun D st H => tb (wOnly K c ts Wout D) D st H
theorem ps_tryX {X : Cx} {x : Str} {c : Value} {body suite : List Stmt} {first : Stmt} {np pos pos' : Pos} {tb : WX → TS} {ts : Addr → Value → Option Addr → TS} {Wout : WX} (h1 : X.stack = X.env :: X.outer) (h2 : X.env.frame = some X.env.locals) (h3 : Names X x c)
    (h4 : ∀ hd : Option Value, PassesOwnAt (model X.prog X.w) (X.A.mark hd) X.A X.env X.xe) (h5 : L2.Takes X Wout)
    (h6 : ∀ (W : WX) (pn : List (Addr × Obj)) (xe : Value → Shared → Prop), L2N.Takes (X.tr pn xe) W → L2.Takes (X.tr pn xe) (L2H.wPass X.K c Wout) → PassesOwn (model X.prog X.w) X.A X.env xe → PSs (X.tr pn xe) body (tb W))
    (h7 : ∀ (a : Addr) (oe : Obj) (cls : Value) (d : Option Addr) (pn : List (Addr × Obj)), L2N.Zn cls d oe → (∃ vs, oe.data = .fields vs) → L2.Takes (L2H.suiteX X a ((a, oe) :: pn)) Wout → L2H.HotC (L2H.suiteX X a ((a, oe) :: pn)) → PSs (L2H.suiteX X a ((a, oe) :: pn)) (first :: suite) (ts a cls d)) :
    PS X (.Try body [.ExceptHandler (some (.Name x np)) none (first :: suite) pos'] [] [] pos) (tTryX X.K c ts Wout tb) := L2H.ps_try_onlyX h1 h2 h3 h4 h5 h6 h7
end L2
namespace HT
open PySem L2
def top (i : Nat) : Stmt := PySem.Challenge.pw_handedtext_k55_whole_fewest_places.main.body.getD i (.Pass ⟨0, 0, 0, 0⟩)
abbrev s_is_int : Stmt := top 7
abbrev s_is_int_between : Stmt := top 8
abbrev s_check_side : Stmt := top 11
abbrev s_is_side : Stmt := top 12
abbrev s_figure : Stmt := top 13
abbrev s_goes_up : Stmt := top 14
abbrev s_written : Stmt := top 15
abbrev s_check_sides : Stmt := top 18
abbrev s_period_of : Stmt := top 19
abbrev s_common_period : Stmt := top 20
abbrev s_unneeded : Stmt := top 23
abbrev s_fewest_places : Stmt := top 26
abbrev s_L_source : Stmt := top 28
abbrev s_L_draw : Stmt := top 29
abbrev s_L_pick : Stmt := top 30
abbrev s_L_divisor : Stmt := top 31
abbrev s_L_small_side : Stmt := top 32
abbrev s_L_figure : Stmt := top 33
abbrev s_L_handed : Stmt := top 34
abbrev s_L_period : Stmt := top 35
abbrev s_L_set : Stmt := top 36
abbrev s_L_written : Stmt := top 37
abbrev s_L_stops : Stmt := top 38
abbrev s_L_due : Stmt := top 39
abbrev s_law : Stmt := top 40
/- is_int: 0:thing -/
theorem sc_is_int : FnScope ["thing"] ["thing"] (defScope s_is_int) := ⟨rfl, rfl, rfl, by decide +kernel, rfl, by decide +kernel, by decide +kernel⟩
/- is_int_between: 0:thing 1:least 2:most -/
theorem sc_is_int_between : FnScope ["thing", "least", "most"] ["thing", "least", "most"] (defScope s_is_int_between) := ⟨rfl, rfl, rfl, by decide +kernel, rfl, by decide +kernel, by decide +kernel⟩
/- check_side: 0:side 1:offset 2:step 3:mode -/
theorem sc_check_side : FnScope ["side", "offset", "step", "mode"] ["side"] (defScope s_check_side) := ⟨rfl, rfl, rfl, by decide +kernel, rfl, by decide +kernel, by decide +kernel⟩
/- is_side: 0:thing -/
theorem sc_is_side : FnScope ["thing"] ["thing"] (defScope s_is_side) := ⟨rfl, rfl, rfl, by decide +kernel, rfl, by decide +kernel, by decide +kernel⟩
/- _figure: 0:side 1:value 2:offset 3:step 4:mode 5:figure 6:rest -/
theorem sc_figure : FnScope ["side", "value", "offset", "step", "mode", "figure", "rest"] ["side", "value"] (defScope s_figure) := ⟨rfl, rfl, rfl, by decide +kernel, rfl, by decide +kernel, by decide +kernel⟩
/- _goes_up: 0:mode 1:step 2:figure 3:rest -/
theorem sc_goes_up : FnScope ["mode", "step", "figure", "rest"] ["mode", "step", "figure", "rest"] (defScope s_goes_up) := ⟨rfl, rfl, rfl, by decide +kernel, rfl, by decide +kernel, by decide +kernel⟩
/- written: 0:side 1:value 2:offset 3:step 4:_ -/
theorem sc_written : FnScope ["side", "value", "offset", "step", "_"] ["side", "value"] (defScope s_written) := ⟨rfl, rfl, rfl, by decide +kernel, rfl, by decide +kernel, by decide +kernel⟩
/- check_sides: 0:sides 1:side -/
theorem sc_check_sides : FnScope ["sides", "side"] ["sides"] (defScope s_check_sides) := ⟨rfl, rfl, rfl, by decide +kernel, rfl, by decide +kernel, by decide +kernel⟩
/- period_of: 0:side 1:_ 2:step 3:mode -/
theorem sc_period_of : FnScope ["side", "_", "step", "mode"] ["side"] (defScope s_period_of) := ⟨rfl, rfl, rfl, by decide +kernel, rfl, by decide +kernel, by decide +kernel⟩
/- common_period: 0:sides 1:many 2:side -/
theorem sc_common_period : FnScope ["sides", "many", "side"] ["sides"] (defScope s_common_period) := ⟨rfl, rfl, rfl, by decide +kernel, rfl, by decide +kernel, by decide +kernel⟩
/- unneeded: 0:sides 1:many 2:needed 3:value 4:side 5:worths 6:number 7:worth 8:raising 9:lowering 10:numbers -/
theorem sc_unneeded : FnScope ["sides", "many", "needed", "value", "side", "worths", "number", "worth", "raising", "lowering", "numbers"] ["sides"] (defScope s_unneeded) := ⟨rfl, rfl, rfl, by decide +kernel, rfl, by decide +kernel, by decide +kernel⟩
/- fewest_places: 0:sides 1:side 2:offset 3:step 4:mode 5:places -/
theorem sc_fewest_places : FnScope ["sides", "side", "offset", "step", "mode", "places"] ["sides", "side"] (defScope s_fewest_places) := ⟨rfl, rfl, rfl, by decide +kernel, rfl, by decide +kernel, by decide +kernel⟩
/- _law_source: 0:_law_script 1:_law_cells 2:_law_k -/
theorem sc_L_source : FnScope ["_law_script", "_law_cells", "_law_k"] ["_law_script"] (defScope s_L_source) := ⟨rfl, rfl, rfl, by decide +kernel, rfl, by decide +kernel, by decide +kernel⟩
/- _law_draw: 0:_law_source_here 1:_law_limit 2:_law_cells 3:_law_turn 4:_law_place 5:_law_cell 6:_law_number -/
theorem sc_L_draw : FnScope ["_law_source_here", "_law_limit", "_law_cells", "_law_turn", "_law_place", "_law_cell", "_law_number"] ["_law_source_here", "_law_limit"] (defScope s_L_draw) := ⟨rfl, rfl, rfl, by decide +kernel, rfl, by decide +kernel, by decide +kernel⟩
/- _law_pick: 0:_law_source_here 1:_law_values -/
theorem sc_L_pick : FnScope ["_law_source_here", "_law_values"] ["_law_source_here", "_law_values"] (defScope s_L_pick) := ⟨rfl, rfl, rfl, by decide +kernel, rfl, by decide +kernel, by decide +kernel⟩
/- _law_divisor: 0:_law_one 1:_law_other -/
theorem sc_L_divisor : FnScope ["_law_one", "_law_other"] ["_law_one", "_law_other"] (defScope s_L_divisor) := ⟨rfl, rfl, rfl, by decide +kernel, rfl, by decide +kernel, by decide +kernel⟩
/- _law_small_side: 0:_law_source_here 1:_law_most 2:_law_offset -/
theorem sc_L_small_side : FnScope ["_law_source_here", "_law_most", "_law_offset"] ["_law_source_here", "_law_most"] (defScope s_L_small_side) := ⟨rfl, rfl, rfl, by decide +kernel, rfl, by decide +kernel, by decide +kernel⟩
/- _law_figure: 0:_law_side 1:_law_value 2:_law_offset 3:_law_step 4:_law_mode 5:_law_low 6:_law_rest -/
theorem sc_L_figure : FnScope ["_law_side", "_law_value", "_law_offset", "_law_step", "_law_mode", "_law_low", "_law_rest"] ["_law_side", "_law_value"] (defScope s_L_figure) := ⟨rfl, rfl, rfl, by decide +kernel, rfl, by decide +kernel, by decide +kernel⟩
/- _law_handed: 0:_law_side 1:_law_value -/
theorem sc_L_handed : FnScope ["_law_side", "_law_value"] ["_law_side", "_law_value"] (defScope s_L_handed) := ⟨rfl, rfl, rfl, by decide +kernel, rfl, by decide +kernel, by decide +kernel⟩
/- _law_period: 0:_law_sides 1:_law_period_here 2:_law_offset 3:_law_step 4:_law_mode 5:_law_length -/
theorem sc_L_period : FnScope ["_law_sides", "_law_period_here", "_law_offset", "_law_step", "_law_mode", "_law_length"] ["_law_sides"] (defScope s_L_period) := ⟨rfl, rfl, rfl, by decide +kernel, rfl, by decide +kernel, by decide +kernel⟩
/- _law_set: 0:_law_source_here 1:_law_most 2:_law_many 3:_law_k -/
theorem sc_L_set : FnScope ["_law_source_here", "_law_most", "_law_many", "_law_k"] ["_law_source_here", "_law_most", "_law_many"] (defScope s_L_set) := ⟨rfl, rfl, rfl, by decide +kernel, rfl, by decide +kernel, by decide +kernel⟩
/- _law_written: 0:_law_sides 1:_law_value 2:_law_one -/
theorem sc_L_written : FnScope ["_law_sides", "_law_value", "_law_one"] ["_law_sides", "_law_value"] (defScope s_L_written) := ⟨rfl, rfl, rfl, by decide +kernel, rfl, by decide +kernel, by decide +kernel⟩
/- _law_stops: 0:_law_sides 1:_law_period_here 2:_law_found 3:_law_value 4:_law_written_here -/
theorem sc_L_stops : FnScope ["_law_sides", "_law_period_here", "_law_found", "_law_value", "_law_written_here"] ["_law_sides", "_law_period_here"] (defScope s_L_stops) := ⟨rfl, rfl, rfl, by decide +kernel, rfl, by decide +kernel, by decide +kernel⟩
/- _law_due: 0:_law_sides 1:_law_further 2:_law_offset 3:_law_step 4:_law_mode 5:_law_places 6:_law_more 7:_law_period_here -/
theorem sc_L_due : FnScope ["_law_sides", "_law_further", "_law_offset", "_law_step", "_law_mode", "_law_places", "_law_more", "_law_period_here"] ["_law_sides", "_law_further"] (defScope s_L_due) := ⟨rfl, rfl, rfl, by decide +kernel, rfl, by decide +kernel, by decide +kernel⟩
/- law: 0:_law_script 1:_law_source_here 2:_law_turn 3:_law_sides 4:_law_further 5:_law_due_here 6:_law_kept 7:_law_step 8:_law_k -/
theorem sc_law : FnScope ["_law_script", "_law_source_here", "_law_turn", "_law_sides", "_law_further", "_law_due_here", "_law_kept", "_law_step", "_law_k"] ["_law_script"] (defScope s_law) := ⟨rfl, rfl, rfl, by decide +kernel, rfl, by decide +kernel, by decide +kernel⟩

end HT
namespace L2
open PySem PySem.Spec PyProof.Rows
/-- powers of great numbers -/
def CPowW (i j : Int) : Prop := 0 ≤ j ∧ (Builtin.Int.intBits i : Int) * j ≤ 2 ^ 27
theorem op_powW {X : Cx} : OpR X (binaryOp .Pow) (rI CPowW fun i j => .int (i ^ j.toNat)) := opI fun _ _ _ _ _ _ _ hc q => pow_int hc.1 hc.2 q
end L2
namespace HT
open PySem L2
/-- the law's source of draws: a list of its cells' list and the turn -/
structure Src (H : Hp) (a c : Addr) (t : Nat) : Prop where
  ne : a ≠ c
  ob : H a = some (.lst [.ref c, .int (t : Int)])
  cl : ∃ cs : List Int, H c = some (.lst (cs.map V.int)) ∧ 0 < cs.length ∧ cs.length ≤ 63
/-- nothing else is touched -/
def Oth (a c : Addr) (H H' : Hp) : Prop := ∀ b o, H b = some o → b ≠ a → b ≠ c → H' b = some o
theorem Oth.refl (a c : Addr) (H : Hp) : Oth a c H H := fun _ _ h _ _ => h
theorem Oth.trans {a c : Addr} {H H1 H2 : Hp} (x : Oth a c H H1) (y : Oth a c H1 H2) : Oth a c H H2 := fun b o h n m => y b o (x b o h n m) n m
theorem Oth.new {a c p : Addr} {H H1 : Hp} {o : HO} (x : Oth a c H H1) (n : H1 p = none) : Oth a c H (upd H1 p o) := fun b u h na nc => by
  rw [upd_ne (ne_of_none (x b u h na nc) n)]
  exact x b u h na nc
theorem Src.new {a c p : Addr} {H : Hp} {t : Nat} {o : HO} (S : Src H a c t) (n : H p = none) : Src (upd H p o) a c t := by
  obtain ⟨cs, h, l⟩ := S.cl
  exact ⟨S.ne, by rw [upd_ne (ne_of_none S.ob n)]; exact S.ob, cs, by rw [upd_ne (ne_of_none h n)]; exact h, l⟩
theorem Src.of_same {a c : Addr} {H H' : Hp} {t : Nat} (S : Src H a c t) (e : Same H H') : Src H' a c t := by
  obtain ⟨cs, h, l⟩ := S.cl
  exact ⟨S.ne, e _ _ S.ob, cs, e _ _ h, l⟩
theorem Src.na {a c p : Addr} {H : Hp} {t : Nat} (S : Src H a c t) (n : H p = none) : p ≠ a ∧ p ≠ c := by
  obtain ⟨cs, h, l⟩ := S.cl
  exact ⟨(ne_of_none S.ob n).symm, (ne_of_none h n).symm⟩
theorem Src.nt {a c p : Addr} {H : Hp} {t : Nat} {xs : List V} (S : Src H a c t) (n : H p = some (.tup xs)) : p ≠ a ∧ p ≠ c := by
  obtain ⟨cs, h, l⟩ := S.cl
  exact ⟨ne_of n S.ob (by intro z; cases z), ne_of n h (by intro z; cases z)⟩
def spSource (K : PySem.W.Frag) : Sp := fun vs H Q _ => ∃ (l : Addr) (ns : List Int), vs = [.ref l] ∧ SqL K H l (ns.map V.int) ∧ ns.length ≤ 63 ∧
  ∀ a c H', Same H H' → H a = none → H c = none → Src H' a c 0 → Q (.ref a) H'
def spDraw : Sp := fun vs H Q _ => ∃ (a c : Addr) (t : Nat) (lim : Int), vs = [.ref a, .int lim] ∧ Src H a c t ∧ t < 2 ^ 30 ∧ 0 < lim ∧ lim.natAbs.log2 < 9000 ∧
  ∀ k H', 0 ≤ k → k < lim → Src H' a c (t + 1) → Oth a c H H' → Q (.int k) H'
/-- what the walk asks of the names that the text does not bind -/
structure Blt (mg : Str → Option Value) : Prop where
  len : mg "len" = none
  abs : mg "abs" = none
  int : mg "int" = none
  range : mg "range" = none
section
variable {P : Program} {w : World} {K : PySem.W.Frag} {mg : Str → Option Value} {base : Heap}
theorem fdiv_ok (i : Int) {j : Int} (h : 0 < j) (h9 : j.natAbs.log2 < 9000) : CDivW i j := ⟨h, h9⟩
theorem atI_in {xs : List Int} {i : Int} (h0 : 0 ≤ i) (h : i < (xs.length : Int)) : atI (xs.map V.int) i = some (.int (xs.getD i.toNat 0)) := by
  have e : ixN (xs.map V.int).length i = some i.toNat := by
    unfold ixN
    rw [List.length_map, if_pos h0, if_pos h]
  unfold atI
  rw [e]
  show (xs.map V.int)[i.toNat]? = _
  have hl : i.toNat < xs.length := by omega
  rw [List.getElem?_map, List.getElem?_eq_getElem hl, List.getD_eq_getElem?_getD, List.getElem?_eq_getElem hl]
  rfl
theorem ixN_in {n : Nat} {i : Int} (h0 : 0 ≤ i) (h : i < (n : Int)) : ixN n i = some i.toNat := by
  unfold ixN
  rw [if_pos h0, if_pos h]
theorem b_mod (x : Int) : -(2 ^ 64) < x % 2147483629 ∧ x % 2147483629 < 2 ^ 64 := by omega
theorem b_mod1 (x : Int) : -(2 ^ 64) < x % 2147483647 ∧ x % 2147483647 < 2 ^ 64 := by omega
theorem b_t {t : Nat} (h : t < 2 ^ 30) : -(2 ^ 64) < (t : Int) ∧ (t : Int) < 2 ^ 64 := by omega
theorem b_tt {t : Nat} (h : t < 2 ^ 30) : -(2 ^ 64) < (t : Int) * t ∧ (t : Int) * t < 2 ^ 64 := by
  have h1 : t * t < 2 ^ 30 * 2 ^ 30 := Nat.mul_lt_mul'' h h
  have h2 : ((t * t : Nat) : Int) = (t : Int) * t := Int.natCast_mul t t
  omega
theorem set_ints (xs : List Int) (j : Nat) (y : Int) : (xs.map V.int).set j (.int y) = (xs.set j y).map V.int := by
  rw [List.map_set]
theorem ok_draw {f : Addr} {fd : FuncData} (F : Fun K "_law_draw" "_law_draw" s_L_draw f fd) (B : Blt mg) : FnOk P w K mg base CX0 1 f fd ["_law_source_here", "_law_limit"] spDraw := by
  refine F.ok sc_L_draw (fun vs H Q E h => ?_) (fun cdv A outer s H vs Q E hr h => ?_)
  · obtain ⟨a, c, t, lim, rfl, _⟩ := h
    rfl
  · obtain ⟨a, c, t, lim, rfl, S, ht, hl0, hl9, q⟩ := h
    obtain ⟨cs, hc, hn0, hn⟩ := S.cl
    have nd := sc_L_draw.nd
    refine ⟨_, pss_cons (ps_asg (pv 0) (pg_unl (n := 2) (by rfl) (pgs_cons (pg_name (i := 2) nd rfl (Or.inl rfl)) (pgs_cons (pg_name (i := 3) nd rfl (Or.inl rfl)) pgs_nil))))
      (pss_cons (ps_set (i := 4) nd rfl (Or.inl rfl) (pe_op op_mod (pe_callTy call_int1 (by rfl) B.int (by decide +kernel) (pa_cons (pv 3) pa_nil)) (pe_callB call_len_seq (by rfl) B.len PySem.boot_len (pa_cons (pv 2) pa_nil))))
      (pss_cons (ps_set (i := 5) nd rfl (Or.inl rfl) (pe_ix ix_list (pv 2) (pv 4) (fun _ _ => rfl)))
      (pss_cons (ps_asg (pe_op op_add (pv 3) pe_int) (pg_sub (pv 0) pe_int set_list))
      (pss_cons (ps_if (pt_cmpR op_ge (pv 5) (pe_op op_pow pe_int pe_int) (nomark _))
        (pss_cons (ps_asg (pe_op op_fdivW (pv 5) (pv 1)) (pg_sub (pv 2) (pv 4) set_list))
          (pss_one (ps_ret (pe_op op_mod (pe_callTy call_int1 (by rfl) B.int (by decide +kernel) (pa_cons (pv 5) pa_nil)) (pv 1))))) pss_nil)
      (pss_cons (ps_set (i := 6) nd rfl (Or.inl rfl) (pe_op op_mod (pe_callTy call_int1 (by rfl) B.int (by decide +kernel) (pa_cons
          (pe_op op_add (pe_op op_add (pe_op op_mul (pe_op op_mod (pe_callTy call_int1 (by rfl) B.int (by decide +kernel) (pa_cons (pv 5) pa_nil)) pe_int) pe_int) (pe_op op_mul (pe_op op_mul (pv 3) (pv 3)) pe_int)) pe_int) pa_nil)) pe_int))
      (pss_cons (ps_set (i := 6) nd rfl (Or.inl rfl) (pe_op op_mod (pe_callTy call_int1 (by rfl) B.int (by decide +kernel) (pa_cons (pe_op op_mul (pv 6) (pv 6)) pa_nil)) pe_int))
      (pss_cons (ps_set (i := 6) nd rfl (Or.inl rfl) (pe_op op_mod (pe_callTy call_int1 (by rfl) B.int (by decide +kernel) (pa_cons (pe_op op_mul (pv 6) (pv 6)) pa_nil)) pe_int))
      (pss_one (ps_ret (pe_op op_mod (pe_callTy call_int1 (by rfl) B.int (by decide +kernel) (pa_cons (pv 6) pa_nil)) (pv 1))))))))))), ?_⟩
    -- _law_cells, _law_turn = _law_source_here
    walk_at "rd"
    refine ⟨a, _, rfl, SqL.of S.ob, rfl, _, _, rfl, _, _, rfl, rfl, ?_⟩
    -- _law_place
    walk_at "rd"
    have hn0' : (0 : Int) < ((cs.map V.int).length : Nat) := by rw [List.length_map]; omega
    refine ⟨c, _, rfl, .inl (SqL.of hc), _, _, rfl, rfl, hn0', ?_⟩
    have hp0 : 0 ≤ (t : Int) % ((cs.map V.int).length : Nat) := Int.emod_nonneg _ (by omega)
    have hp1 : (t : Int) % ((cs.map V.int).length : Nat) < ((cs.map V.int).length : Nat) := Int.emod_lt_of_pos _ hn0'
    have hp1' : (t : Int) % ((cs.map V.int).length : Nat) < (cs.length : Int) := by rw [List.length_map] at hp1 ⊢; exact hp1
    -- _law_cell
    walk_at "rd"
    refine ⟨c, _, _, _, rfl, rfl, SqL.of hc, atI_in hp0 hp1', ?_⟩
    -- _law_source_here[1] = _law_turn + 1
    walk_at "rd"
    refine ⟨a, _, 1, 1, rfl, rfl, S.ob, rfl, ?_⟩
    have S1 : Src (upd H a (.lst ([V.ref c, V.int t].set 1 (.int ((t : Int) + 1))))) a c (t + 1) := ⟨S.ne, by rw [upd_same]; rfl, cs, by rw [upd_ne S.ne.symm]; exact hc, hn0, hn⟩
    have O1 : Oth a c H (upd H a (.lst ([V.ref c, V.int t].set 1 (.int ((t : Int) + 1))))) := fun b o h na _ => by rw [upd_ne na]; exact h
    have hc1 : upd H a (.lst ([V.ref c, V.int t].set 1 (.int ((t : Int) + 1)))) c = some (.lst (cs.map V.int)) := by rw [upd_ne S.ne.symm]; exact hc
    generalize upd H a (.lst ([V.ref c, V.int t].set 1 (.int ((t : Int) + 1)))) = H1 at S1 O1 hc1 ⊢
    -- if _law_cell >= 10 ** 18
    walk_at "rd"
    refine ⟨⟨by decide, by decide, by decide⟩, ?_⟩
    walk_at "rd"
    refine ite2 (fun _ => ?_) (fun _ => ?_)
    · walk_at "rd"
      refine ⟨fdiv_ok _ hl0 hl9, ?_⟩
      walk_at "rd"
      refine ⟨c, _, _, _, rfl, rfl, hc1, ixN_in hp0 hp1, ?_⟩
      walk_at "rd"
      refine ⟨hl0, ?_⟩
      rw [set_ints]
      refine q _ _ (Int.emod_nonneg _ (by omega)) (Int.emod_lt_of_pos _ hl0) ⟨S1.ne, by rw [upd_ne S1.ne]; exact S1.ob, _, upd_same, by rw [List.length_set]; exact hn0, by rw [List.length_set]; exact hn⟩ fun b o h na nc => ?_
      rw [upd_ne nc]
      exact O1 b o h na nc
    · walk_at "rd"
      refine ⟨(by show (0 : Int) < 2147483629; decide), ?_⟩
      walk_at "rd"
      refine ⟨.inl (b_mod _), ?_⟩
      walk_at "rd"
      refine ⟨.inl (b_t ht), ?_⟩
      walk_at "rd"
      refine ⟨.inl (b_tt ht), ?_⟩
      walk_at "rd"
      refine ⟨(by show (0 : Int) < 2147483647; decide), ?_⟩
      walk_at "rd"
      refine ⟨.inl (b_mod1 _), ?_⟩
      walk_at "rd"
      refine ⟨(by show (0 : Int) < 2147483629; decide), ?_⟩
      walk_at "rd"
      refine ⟨.inl (b_mod _), ?_⟩
      walk_at "rd"
      refine ⟨(by show (0 : Int) < 2147483587; decide), ?_⟩
      walk_at "rd"
      refine ⟨hl0, ?_⟩
      exact q _ _ (Int.emod_nonneg _ (by omega)) (Int.emod_lt_of_pos _ hl0) S1 O1
end
end HT
namespace HT
open PySem L2
/-- a def of the text that may be called by its name, and what it promises -/
structure Cal (P : Program) (w : World) (K : PySem.W.Frag) (mg : Str → Option Value) (base : Heap) (x : Str) (k : Nat) (ps : List Str) (sp : Sp) (f : Addr) (fd : FuncData) : Prop where
  ok : FnOk P w K mg base CX0 k f fd ps sp
  gl : mg x = some (.ref f)
  kp : PySem.W.keepIn K (.ref f) = true
  bd : Binds K fd ps []
theorem pcl {X : Cx} {x : Str} {k j : Nat} {ps : List Str} {sp : Sp} {f : Addr} {fd : FuncData} {e : Expr} {es : List Expr} {t : TA} {p pos : Pos} (C : Cal X.prog X.w X.K X.mg X.base x k ps sp f fd) (hr : Room j X.A) (hj : k ≤ j) (hg : Gl X x) (ha : PA X (e :: es) t)
    (hdb : (x == ("__debug__" : Str)) = false := by decide) (he : starEach (e :: es) X.env = (false, eval e X.env) :: starEach es X.env := by rfl) (hpl : (backTo pos (starEach es X.env)).any (·.1) = false := by rfl) : PE X (.Call (.Name x p) (e :: es) [] pos) (tCall sp [] E0 t) :=
  pe_call C.ok (hr.mono hj) hg C.gl C.kp C.bd .nil pass0 ha hdb he hpl
section
variable {P : Program} {w : World} {K : PySem.W.Frag} {mg : Str → Option Value} {base : Heap}
theorem cut63 {ns : List Int} (h : ns.length ≤ 63) : cutV (ns.map V.int) none (some 63) = ns.map V.int := by
  have e1 : HT.sIx (ns.map V.int).length 0 none = 0 := rfl
  have e2 : HT.sIx (ns.map V.int).length (ns.map V.int).length (some 63) = (ns.map V.int).length := by
    have := HT.sIx_nat (ns.map V.int).length (ns.map V.int).length 63
    rw [show ((63 : Nat) : Int) = 63 from rfl] at this
    rw [this, List.length_map]
    omega
  unfold cutV
  rw [e1, e2, List.drop_zero, Nat.sub_zero, List.take_length]
theorem dpInts (H : Hp) : ∀ ns : List Int, DpAll K H (ns.map V.int) (ns.map PyData.int)
  | [] => .nil
  | n :: r => .cons (.int n) (dpInts H r)
theorem pow_ok : CPowW ((10 : Int) ^ (60 : Int).toNat) 20 := ⟨by decide, by decide +kernel⟩
theorem pow_pos' : (0 : Int) < ((10 : Int) ^ (60 : Int).toNat) ^ (20 : Int).toNat := by decide +kernel
theorem ok_source {f : Addr} {fd : FuncData} (F : Fun K "_law_source" "_law_source" s_L_source f fd) (B : Blt mg) : FnOk P w K mg base CX0 1 f fd ["_law_script"] (spSource K) := by
  refine F.ok sc_L_source (fun vs H Q E h => ?_) (fun cdv A outer s H vs Q E hr h => ?_)
  · obtain ⟨l, ns, rfl, _⟩ := h
    rfl
  · obtain ⟨l, ns, rfl, hL, hn, q⟩ := h
    have nd := sc_L_source.nd
    refine ⟨_, pss_cons (ps_set (i := 1) nd rfl (Or.inl rfl) (pe_slice sl_list (pv 0) po_none (po_some pe_int)))
      (pss_cons (ps_for PassesOwn.never rfl (pi_range1 (by rfl) B.range (pa_cons (pe_callB call_len_seq (by rfl) B.len PySem.boot_len (pa_cons (pv 1) pa_nil)) pa_nil)) (pg_name (i := 2) nd rfl (Or.inl rfl))
        (pss_one (ps_if (pt_cmpR op_ge (pe_callB call_abs (by rfl) B.abs (by decide +kernel) (pa_cons (pe_ix ix_list (pv 1) (pv 2) (fun _ _ => rfl)) pa_nil)) (pe_op op_pow pe_int pe_int) (nomark _))
          (pss_one (ps_asg (pe_op op_mod (pe_callTy call_int1 (by rfl) B.int (by decide +kernel) (pa_cons (pe_ix ix_list (pv 1) (pv 2) (fun _ _ => rfl)) pa_nil)) (pe_op op_powW (pe_op op_pow pe_int pe_int) pe_int)) (pg_sub (pv 1) (pv 2) set_list))) pss_nil)))
      (pss_cons (ps_if (pt_cmpR (op_eqD hr.units) (pv 1) (pe_lst pa_nil) (nomark _)) (pss_one (ps_set (i := 1) nd rfl (Or.inl rfl) (pe_lst (pa_cons pe_int pa_nil)))) pss_nil)
      (pss_one (ps_ret (pe_lst (pa_cons (pv 1) (pa_cons pe_int pa_nil))))))), ?_⟩
    walk_at "rd"
    refine ⟨l, _, rfl, hL, fun p np => ?_⟩
    rw [cut63 hn]
    walk_at "rd"
    refine ⟨p, _, rfl, .inl (SqL.of upd_same), _, rfl, by omega, ?_, ?_⟩
    · show ((ns.map V.int).length : Int) < 2 ^ 62
      rw [List.length_map]
      omega
    have en : ((ns.map V.int).length : Int).toNat = ns.length := by rw [List.length_map]; omega
    rw [en]
    refine for_range (fun i σ H' => ∃ (cs : List Int) (kv : Option V), σ = [some (.ref l), some (.ref p), kv] ∧ H' p = some (.lst (cs.map V.int)) ∧ cs.length = ns.length ∧ Same H H') ⟨ns, none, rfl, upd_same, rfl, fun b o e => by rw [upd_ne (ne_of_none e np)]; exact e⟩ ?_ ?_
    · rintro i σ H' hi ⟨cs, kv, rfl, hp, hl, sm⟩
      have h0 : (0 : Int) ≤ 0 + (i : Int) := by omega
      have h1 : (0 : Int) + (i : Int) < (cs.length : Int) := by omega
      walk_at "rd"
      refine ⟨p, _, _, _, rfl, rfl, SqL.of hp, atI_in h0 h1, ?_⟩
      walk_at "rd"
      refine ⟨⟨by decide, by decide, by decide⟩, ?_⟩
      walk_at "rd"
      refine ite2 (fun _ => ?_) (fun _ => ?_)
      · walk_at "rd"
        refine ⟨p, _, _, _, rfl, rfl, SqL.of hp, atI_in h0 h1, ?_⟩
        walk_at "rd"
        refine ⟨⟨by decide, by decide, by decide⟩, ?_⟩
        walk_at "rd"
        refine ⟨pow_ok, ?_⟩
        walk_at "rd"
        refine ⟨pow_pos', ?_⟩
        walk_at "rd"
        refine ⟨p, _, _, _, rfl, rfl, hp, ixN_in h0 (by rw [List.length_map]; exact h1), ?_⟩
        rw [set_ints]
        exact ⟨_, _, rfl, upd_same, by rw [List.length_set]; exact hl, fun b o e => by rw [upd_ne (ne_of_none e np)]; exact sm b o e⟩
      · exact ⟨cs, _, rfl, hp, hl, sm⟩
    · rintro σ H' ⟨cs, kv, rfl, hp, hl, sm⟩
      walk_at "rd"
      refine ⟨by decide, fun e ne => ?_⟩
      have hpe : upd H' e (.lst []) p = some (.lst (cs.map V.int)) := by rw [upd_ne (ne_of_none hp ne)]; exact hp
      have sm1 : Same H (upd H' e (.lst [])) := fun b o z => by rw [upd_ne (ne_of_none (sm b o z) ne)]; exact sm b o z
      refine ⟨_, _, .lst (SqL.of hpe) (dpInts _ cs), .lst (SqL.of upd_same) .nil, PySem.W.ke_shaped_ints cs, by decide +kernel, ?_⟩
      walk_at "rd"
      have hb : PyData.eqv (.list (cs.map PyData.int)) (.list []) = decide (cs = []) := by
        have z := PySem.W.ked_eqvAll cs []
        rw [← z]
        rfl
      rw [hb]
      refine ite2 (fun _ => ?_) (fun hne => ?_)
      · walk_at "rd"
        refine ⟨by decide, fun c nc => ?_⟩
        walk_at "rd"
        refine ⟨(by show 2 ≤ sizeLine; decide), fun a na => ?_⟩
        have sm2 : Same H (upd (upd H' e (.lst [])) c (.lst [.int 0])) := fun b o z => by rw [upd_ne (ne_of_none (sm1 b o z) nc)]; exact sm1 b o z
        have nac : a ≠ c := (ne_of_none upd_same na).symm
        refine q a c _ (fun b o z => by rw [upd_ne (ne_of_none (sm2 b o z) na)]; exact sm2 b o z) (sm2.free na) (sm1.free nc) ⟨nac, upd_same, [0], by rw [upd_ne nac.symm]; exact upd_same, by decide, by decide⟩
      · walk_at "rd"
        refine ⟨(by show 2 ≤ sizeLine; decide), fun a na => ?_⟩
        have nap : a ≠ p := (ne_of_none hpe na).symm
        refine q a p _ (fun b o z => by rw [upd_ne (ne_of_none (sm1 b o z) na)]; exact sm1 b o z) (sm1.free na) np ⟨nap, upd_same, cs, by rw [upd_ne nap.symm]; exact hpe, ?_, by omega⟩
        have : cs ≠ [] := fun z => hne (decide_eq_true z)
        exact List.length_pos_iff.mpr this
end
end HT
namespace HT
open PySem L2
/-- a def of which errors may come, and its call -/
structure CalX (P : Program) (w : World) (K : PySem.W.Frag) (mg : Str → Option Value) (base : Heap) (x : Str) (k : Nat) (ps : List Str) (sp : Sp) (f : Addr) (fd : FuncData) : Prop where
  ok : FnOk P w K mg base (L2.CX P w) k f fd ps sp
  mgf : mg x = some (.ref f)
  kp : PySem.W.keepIn K (.ref f) = true
  b : Binds K fd ps []
theorem pcx {X : Cx} {x : Str} {k j : Nat} {ps : List Str} {sp : Sp} {f : Addr} {fd : FuncData} {e : Expr} {es : List Expr} {t : TA} {p pos : Pos} {W : WX} (C : CalX X.prog X.w X.K X.mg X.base x k ps sp f fd) (hr : Room j X.A) (hj : k ≤ j) (hg : Gl X x) (tk : L2.Takes X W) (ha : PA X (e :: es) t)
    (hdb : (x == ("__debug__" : Str)) = false := by decide) (he : starEach (e :: es) X.env = (false, eval e X.env) :: starEach es X.env := by rfl) (hpl : (backTo pos (starEach es X.env)).any (·.1) = false := by rfl) : PE X (.Call (.Name x p) (e :: es) [] pos) (tCallS sp (WE W) t) :=
  pe_callS C.ok (hr.mono hj) hg C.mgf C.kp C.b (fun σ => L2.passAt tk σ) ha hdb he hpl
end HT
namespace PySem.W
open PySem PySem.Calls
theorem args_lcm3 (a b c : Value) : argsOk "math.lcm" ⟨[a, b, c], []⟩ := by unfold argsOk; kernel_rfl
theorem run_lcm3 (a : Int) (t : Tok) (b : Int) (u : Tok) (c : Int) (v : Tok) (hc0 : ¬(max 1 a.natAbs).log2 / 30 + 1 > 450) (hc1 : ¬(max a.natAbs b.natAbs).log2 / 30 + 1 > 450)
    (hc2 : ¬(max ((Nat.lcm 1 a.natAbs).lcm b.natAbs) c.natAbs).log2 / 30 + 1 > 450)
    (hsz : (((((Nat.lcm 1 a.natAbs).lcm b.natAbs).lcm c.natAbs : Nat) : Int)).natAbs.log2 < bitsLine) :
    Gives (Builtin.«math.lcm» ⟨[.int a t, .int b u, .int c v], []⟩) (.int (((((Nat.lcm 1 a.natAbs).lcm b.natAbs).lcm c.natAbs : Nat) : Int))) :=
  .of_wp fun M A E s Q h => by obtain ⟨hp, g, d, tk, os⟩ := s; wp_walk; refine wpAny_ite_false (decide_eq_false hc2) ?_; wp_walk; (try (refine wpAny_ite_false (decide_eq_false (Nat.not_le.mpr hsz)) ?_; wp_walk)); exact ⟨_, rfl, h⟩
end PySem.W
namespace L2
open PySem PySem.Spec PyProof.Rows
/-- xs.count(y) of flat things -/
def rCntV (K : PySem.W.Frag) : V → List V → Hp → VK → Prop := fun x xs H Q => ∃ (p : Addr) (ys : List V) (y : V), x = .ref p ∧ xs = [y] ∧ SqL K H p ys ∧ flatV y = true ∧ ys.all flatV = true ∧ Q (.int (ys.countP (fun z => eqV z y) : Nat)) H
theorem count_eqU {x : V} : ∀ {xs : List V} {us : List Value}, Vals xs us → xs.all flatV = true → us.countP (eqU x) = xs.countP fun y => eqV y x
  | _, _, .nil, _ => rfl
  | y :: xs, u :: us, .cons r t, f => by
    obtain ⟨f1, f2⟩ := Bool.and_eq_true_iff.mp (List.all_cons ▸ f)
    rw [List.countP_cons, List.countP_cons, eqU_of r f1, count_eqU t f2]
theorem mt_cntV {X : Cx} : MtR X "list.count" (rCntV X.K) := by
  intro pins sh st H x xs v us Q iv rx rxs h
  obtain ⟨p, ys, y, rfl, rfl, hs, fy, fys, q⟩ := h
  cases rx
  obtain ⟨u, rfl, ru⟩ := rxs.one
  obtain ⟨its, rv, ⟨⟨cls, dd, data, sl⟩, n, ho, hc, hdn, hd⟩, hlen⟩ := iv.list hs
  dsimp only at hc hd
  subst hc hd
  refine call_meets PySem.F.slot_list_count ⟨_, ho, rfl⟩ PySem.F.entry_list_count (PySem.F.args_list_count_2 _ _) (SeqAt.list_countAt p its.toArray n dd sl u (eqU y)) ⟨ho, fun w hw => mem_eqAt ru fy rv fys w (by simpa using hw), ?_⟩
  refine ⟨.int (ys.countP (fun z => eqV z y) : Nat), H, iv.tok _, ⟨sh.toks, ?_⟩, q⟩
  rw [show its.toArray.toList.countP (eqU y) = ys.countP (fun z => eqV z y) from count_eqU rv fys]
end L2
namespace HT
open PySem L2
/-! ### pick, great, side -/
def spPick : Sp := fun vs H Q _ => ∃ (a c : Addr) (t : Nat) (l : Addr) (xs : List V), vs = [.ref a, .ref l] ∧ Src H a c t ∧ t < 2 ^ 30 ∧ H l = some (.lst xs) ∧ l ≠ a ∧ l ≠ c ∧ 0 < xs.length ∧ xs.length < 2 ^ 60 ∧
  ∀ x H', x ∈ xs → Src H' a c (t + 1) → Oth a c H H' → Q x H'
def spGreat : Sp := fun vs H Q _ => ∃ (a c : Addr) (t n : Nat), vs = [.ref a, .int (n : Int)] ∧ Src H a c t ∧ n ≤ 1000 ∧ t + n < 2 ^ 30 ∧
  ∀ k H', 0 ≤ k → k < 10 ^ n → Src H' a c (t + n) → Oth a c H H' → Q (.int k) H'
/-- the modes -/
def Mode (m : Str) : Prop := m = "down" ∨ m = "up" ∨ m = "half_down" ∨ m = "half_up" ∨ m = "half_even"
/-- a side's parts -/
structure SideP (o s : Int) (m : Str) : Prop where
  o0 : -10 ^ 40 ≤ o
  o1 : o ≤ 10 ^ 40
  s0 : 1 ≤ s
  s1 : s ≤ 10 ^ 30
  md : Mode m
def sideV (o s : Int) (m : Str) : HO := .tup [.int o, .int s, .str m]
def spSide : Sp := fun vs H Q _ => ∃ (a c : Addr) (t n : Nat), vs = [.ref a, .int (n : Int)] ∧ Src H a c t ∧ 1 ≤ n ∧ n ≤ 40 ∧ t + 200 < 2 ^ 30 ∧
  ∀ p o s m H' t', H p = none → H' p = some (sideV o s m) → SideP o s m → t' ≤ t + 200 → Src H' a c t' → Oth a c H H' → Q (.ref p) H'
theorem lg_nat {n : Nat} (h : n < 2 ^ 200) : ((n : Int)).natAbs.log2 < 9000 := by
  rw [Int.natAbs_natCast]
  by_cases e : n = 0
  · rw [e]; decide
  · have := (Nat.log2_lt e).mpr h
    omega
theorem lg_small {n : Int} (h0 : 0 ≤ n) (h : n < 2 ^ 64) : n.natAbs.log2 < 9000 := by
  obtain ⟨m, rfl⟩ := Int.eq_ofNat_of_zero_le h0
  exact lg_nat (Nat.lt_of_lt_of_le (by omega : m < 2 ^ 64) (Nat.pow_le_pow_right (by decide) (by decide)))
section
variable {P : Program} {w : World} {K : PySem.W.Frag} {mg : Str → Option Value} {base : Heap} {fD fP fG : Addr} {dD dP dG : FuncData}
theorem ok_pick {f : Addr} {fd : FuncData} (F : Fun K "_law_pick" "_law_pick" s_L_pick f fd) (B : Blt mg) (D : Cal P w K mg base "_law_draw" 1 ["_law_source_here", "_law_limit"] spDraw fD dD) :
    FnOk P w K mg base CX0 2 f fd ["_law_source_here", "_law_values"] spPick := by
  refine F.ok sc_L_pick (fun vs H Q E h => ?_) (fun cdv A outer s H vs Q E hr h => ?_)
  · obtain ⟨a, c, t, l, xs, rfl, _⟩ := h
    rfl
  · obtain ⟨a, c, t, l, xs, rfl, S, ht, hl, na, nc, h0, h1, q⟩ := h
    refine ⟨_, pss_one (ps_ret (pe_ix ix_list (pv 1) (pcl D hr (by decide) (by rfl) (pa_cons (pv 0) (pa_cons (pe_callB call_len_seq (by rfl) B.len PySem.boot_len (pa_cons (pv 1) pa_nil)) pa_nil))) (fun _ _ => rfl))), ?_⟩
    walk_at "rd"
    refine ⟨l, _, rfl, .inl (SqL.of hl), ?_⟩
    have p1 : (0 : Int) < (xs.length : Int) := by omega
    refine ⟨a, c, t, _, rfl, S, ht, p1, lg_nat (Nat.lt_of_lt_of_le h1 (Nat.pow_le_pow_right (by decide) (by decide))), fun k H' k0 k1 S' O => ?_⟩
    have hl' : k.toNat < xs.length := by omega
    have e : atI xs k = some xs[k.toNat] := by
      unfold atI
      rw [ixN_in k0 k1]
      exact List.getElem?_eq_getElem hl'
    refine ⟨l, _, _, _, rfl, rfl, SqL.of (O _ _ hl na nc), e, ?_⟩
    exact q _ _ (List.getElem_mem hl') S' O
theorem mode_of {x : V} (h : x ∈ [V.str "down", .str "up", .str "half_down", .str "half_up", .str "half_even"]) : ∃ m : Str, x = .str m ∧ Mode m := by
  simp only [List.mem_cons, List.not_mem_nil, or_false] at h
  rcases h with h | h | h | h | h
  · exact ⟨_, h, .inl rfl⟩
  · exact ⟨_, h, .inr (.inl rfl)⟩
  · exact ⟨_, h, .inr (.inr (.inl rfl))⟩
  · exact ⟨_, h, .inr (.inr (.inr (.inl rfl)))⟩
  · exact ⟨_, h, .inr (.inr (.inr (.inr rfl)))⟩
end
end HT
namespace HT
open PySem L2
/-! ### the mathematics of a side -/
def goesUp (m : Str) (s q r : Int) : Bool := if m = "down" then false else if m = "up" then decide (0 < r) else if 2 * r = s then (if m = "half_even" then decide (q % 2 = 1) else decide (m = "half_up")) else decide (s < 2 * r)
/-- the figure to which v comes -/
def figM (o s : Int) (m : Str) (v : Int) : Int := if goesUp m s ((v - o) / s) ((v - o) % s) = true then (v - o) / s + 1 else (v - o) / s
def dueM (o s : Int) (m : Str) (v : Int) : Int := o + s * figM o s m v
theorem d_u : ¬ (("up" : Str) = "down") := by decide +kernel
theorem hd_d : ¬ (("half_down" : Str) = "down") := by decide +kernel
theorem hd_u : ¬ (("half_down" : Str) = "up") := by decide +kernel
theorem hu_d : ¬ (("half_up" : Str) = "down") := by decide +kernel
theorem hu_u : ¬ (("half_up" : Str) = "up") := by decide +kernel
theorem he_d : ¬ (("half_even" : Str) = "down") := by decide +kernel
theorem he_u : ¬ (("half_even" : Str) = "up") := by decide +kernel
theorem hd_e : ¬ (("half_down" : Str) = "half_even") := by decide +kernel
theorem hu_e : ¬ (("half_up" : Str) = "half_even") := by decide +kernel
theorem hd_hu : ¬ (("half_down" : Str) = "half_up") := by decide +kernel
theorem he_hu : ¬ (("half_even" : Str) = "half_up") := by decide +kernel
theorem u_hd : ¬ (("up" : Str) = "half_down") := by decide +kernel
theorem hu_hd : ¬ (("half_up" : Str) = "half_down") := by decide +kernel
theorem he_hd : ¬ (("half_even" : Str) = "half_down") := by decide +kernel
theorem go_down (s q r : Int) : goesUp "down" s q r = false := by unfold goesUp; rw [if_pos rfl]
theorem go_up (s q r : Int) : goesUp "up" s q r = decide (0 < r) := by unfold goesUp; rw [if_neg d_u, if_pos rfl]
theorem go_hd (s q r : Int) : goesUp "half_down" s q r = decide (s < 2 * r) := by
  unfold goesUp
  rw [if_neg hd_d, if_neg hd_u, if_neg hd_e, decide_eq_false hd_hu]
  by_cases h : 2 * r = s
  · rw [if_pos h, decide_eq_false (by omega)]
  · rw [if_neg h]
theorem go_hu (s q r : Int) : goesUp "half_up" s q r = decide (s ≤ 2 * r) := by
  unfold goesUp
  rw [if_neg hu_d, if_neg hu_u, if_neg hu_e, decide_eq_true rfl]
  by_cases h : 2 * r = s
  · rw [if_pos h, decide_eq_true (by omega)]
  · rw [if_neg h]
    by_cases g : s < 2 * r
    · rw [decide_eq_true g, decide_eq_true (by omega)]
    · rw [decide_eq_false g, decide_eq_false (by omega)]
theorem go_he (s q r : Int) : goesUp "half_even" s q r = (decide (s < 2 * r) || (decide (2 * r = s) && decide (q % 2 = 1))) := by
  unfold goesUp
  rw [if_neg he_d, if_neg he_u, if_pos rfl]
  by_cases h : 2 * r = s
  · rw [if_pos h, decide_eq_false (show ¬ s < 2 * r by omega), decide_eq_true h]
    rfl
  · rw [if_neg h, decide_eq_false h]
    simp
/-- what is known of a figure -/
structure Fig (o s : Int) (m : Str) (v q r k : Int) : Prop where
  eq : v - o = s * q + r
  r0 : 0 ≤ r
  r1 : r < s
  wh : (goesUp m s q r = true ∧ k = q + 1) ∨ (goesUp m s q r = false ∧ k = q)
theorem fig_of {o s : Int} {m : Str} {v : Int} (hs : 1 ≤ s) : Fig o s m v ((v - o) / s) ((v - o) % s) (figM o s m v) := by
  refine ⟨?_, Int.emod_nonneg _ (by omega), Int.emod_lt_of_pos _ (by omega), ?_⟩
  · have := Int.mul_ediv_add_emod (v - o) s
    omega
  · unfold figM
    cases h : goesUp m s ((v - o) / s) ((v - o) % s)
    · exact .inr ⟨rfl, by simp⟩
    · exact .inl ⟨rfl, by simp⟩
theorem divmod_eq {s q r x : Int} (hs : 1 ≤ s) (h : x = s * q + r) (r0 : 0 ≤ r) (r1 : r < s) : x / s = q ∧ x % s = r := by
  subst h
  constructor
  · rw [Int.add_comm, Int.add_mul_ediv_left _ _ (by omega), Int.ediv_eq_zero_of_lt r0 r1]
    omega
  · rw [Int.add_comm, Int.add_mul_emod_self_left]
    exact Int.emod_eq_of_lt r0 r1
theorem fig_uniq {o s : Int} {m : Str} {v q r k : Int} (hs : 1 ≤ s) (F : Fig o s m v q r k) : figM o s m v = k := by
  obtain ⟨e1, e2⟩ := divmod_eq hs F.eq F.r0 F.r1
  unfold figM
  rw [e1, e2]
  rcases F.wh with ⟨h, e⟩ | ⟨h, e⟩
  · rw [h, if_pos rfl, e]
  · rw [h, if_neg (by decide), e]
/-- going up wants a rest, and not going up a small one -/
theorem go_pos {m : Str} {s q r : Int} (hm : Mode m) (hs : 1 ≤ s) (r0 : 0 ≤ r) (h : goesUp m s q r = true) : 0 < r := by
  rcases hm with e | e | e | e | e <;> subst e
  · rw [go_down] at h; cases h
  · rw [go_up] at h; exact of_decide_eq_true h
  · rw [go_hd] at h; have := of_decide_eq_true h; omega
  · rw [go_hu] at h; have := of_decide_eq_true h; omega
  · rw [go_he, Bool.or_eq_true, Bool.and_eq_true] at h
    rcases h with h | ⟨h, _⟩ <;> have := of_decide_eq_true h <;> omega
theorem due_near {o s : Int} {m : Str} {v : Int} (hm : Mode m) (hs : 1 ≤ s) : dueM o s m v - v < s ∧ v - dueM o s m v < s := by
  have F := fig_of (o := o) (m := m) (v := v) hs
  unfold dueM
  generalize (v - o) / s = q at F
  generalize (v - o) % s = r at F
  obtain ⟨eq, r0, r1, wh⟩ := F
  rcases wh with ⟨h, e⟩ | ⟨h, e⟩
  · have := go_pos hm hs r0 h
    rw [e, Int.mul_add, Int.mul_one]
    generalize s * q = z at eq ⊢
    omega
  · rw [e]
    generalize s * q = z at eq ⊢
    omega
def half (m : Str) : Prop := m = "half_down" ∨ m = "half_up" ∨ m = "half_even"
theorem due_half {o s : Int} {m : Str} {v : Int} (hm : half m) (hs : 1 ≤ s) : 2 * (dueM o s m v - v) ≤ s ∧ 2 * (v - dueM o s m v) ≤ s := by
  have F := fig_of (o := o) (m := m) (v := v) hs
  unfold dueM
  generalize (v - o) / s = q at F
  generalize (v - o) % s = r at F
  obtain ⟨eq, r0, r1, wh⟩ := F
  have hb : (goesUp m s q r = true → s ≤ 2 * r) ∧ (goesUp m s q r = false → 2 * r ≤ s) := by
    rcases hm with e | e | e <;> subst e
    · rw [go_hd]; exact ⟨fun h => by have := of_decide_eq_true h; omega, fun h => by have := of_decide_eq_false h; omega⟩
    · rw [go_hu]; exact ⟨fun h => by have := of_decide_eq_true h; omega, fun h => by have := of_decide_eq_false h; omega⟩
    · rw [go_he]
      refine ⟨fun h => ?_, fun h => ?_⟩
      · rw [Bool.or_eq_true, Bool.and_eq_true] at h
        rcases h with h | ⟨h, _⟩ <;> have := of_decide_eq_true h <;> omega
      · rw [Bool.or_eq_false_iff] at h
        have := of_decide_eq_false h.1
        omega
  rcases wh with ⟨h, e⟩ | ⟨h, e⟩
  · have := hb.1 h
    rw [e, Int.mul_add, Int.mul_one]
    generalize s * q = z at eq ⊢
    omega
  · have := hb.2 h
    rw [e]
    generalize s * q = z at eq ⊢
    omega
theorem go_zero {m : Str} {s q : Int} (hm : Mode m) (hs : 1 ≤ s) : goesUp m s q 0 = false := by
  cases h : goesUp m s q 0 with
  | false => rfl
  | true => exact absurd (go_pos hm hs (Int.le_refl _) h) (by omega)
/-- what is written stands and is written as it is -/
theorem fig_at {o s k : Int} {m : Str} (hm : Mode m) (hs : 1 ≤ s) : figM o s m (o + s * k) = k :=
  fig_uniq (q := k) (r := 0) hs ⟨by omega, Int.le_refl _, by omega, .inr ⟨go_zero hm hs, rfl⟩⟩
theorem stands_at {o s k : Int} : (o + s * k - o) % s = 0 := by
  rw [show o + s * k - o = s * k by omega]
  exact Int.mul_emod_right s k
theorem due_eq {o s : Int} {m : Str} {v : Int} (hm : Mode m) (hs : 1 ≤ s) : (v - o) % s = 0 ↔ dueM o s m v = v := by
  have F := fig_of (o := o) (m := m) (v := v) hs
  unfold dueM
  generalize (v - o) / s = q at F
  generalize (v - o) % s = r at F ⊢
  obtain ⟨eq, r0, r1, wh⟩ := F
  rcases wh with ⟨h, e⟩ | ⟨h, e⟩
  · have := go_pos hm hs r0 h
    rw [e, Int.mul_add, Int.mul_one]
    generalize s * q = z at eq ⊢
    omega
  · rw [e]
    generalize s * q = z at eq ⊢
    omega
theorem go_mono {m : Str} {s q r : Int} (hm : Mode m) (h : goesUp m s q r = true) : goesUp m s q (r + 1) = true := by
  rcases hm with e | e | e | e | e <;> subst e
  · rw [go_down] at h; cases h
  · rw [go_up] at h ⊢; have := of_decide_eq_true h; exact decide_eq_true (by omega)
  · rw [go_hd] at h ⊢; have := of_decide_eq_true h; exact decide_eq_true (by omega)
  · rw [go_hu] at h ⊢; have := of_decide_eq_true h; exact decide_eq_true (by omega)
  · rw [go_he] at h ⊢
    have : s ≤ 2 * r := by
      rw [Bool.or_eq_true, Bool.and_eq_true] at h
      rcases h with h | ⟨h, _⟩ <;> have := of_decide_eq_true h <;> omega
    rw [decide_eq_true (show s < 2 * (r + 1) by omega)]
    rfl
theorem fig_mono {o s : Int} {m : Str} {v : Int} (hm : Mode m) (hs : 1 ≤ s) : figM o s m v ≤ figM o s m (v + 1) := by
  have F := fig_of (o := o) (m := m) (v := v) hs
  generalize (v - o) / s = q at F
  generalize (v - o) % s = r at F
  obtain ⟨eq, r0, r1, wh⟩ := F
  by_cases hr : r + 1 < s
  · cases g : goesUp m s q (r + 1) with
    | true =>
      rw [fig_uniq (v := v + 1) (q := q) (r := r + 1) (k := q + 1) hs ⟨by omega, by omega, hr, .inl ⟨g, rfl⟩⟩]
      rcases wh with ⟨_, e⟩ | ⟨_, e⟩ <;> omega
    | false =>
      rw [fig_uniq (v := v + 1) (q := q) (r := r + 1) (k := q) hs ⟨by omega, by omega, hr, .inr ⟨g, rfl⟩⟩]
      rcases wh with ⟨h, e⟩ | ⟨_, e⟩
      · rw [go_mono hm h] at g
        cases g
      · omega
  · rw [fig_uniq (v := v + 1) (q := q + 1) (r := 0) (k := q + 1) hs ⟨by rw [Int.mul_add, Int.mul_one]; omega, by omega, by omega, .inr ⟨go_zero hm hs, rfl⟩⟩]
    rcases wh with ⟨_, e⟩ | ⟨_, e⟩ <;> omega
theorem due_mono {o s : Int} {m : Str} {v : Int} (hm : Mode m) (hs : 1 ≤ s) : dueM o s m v ≤ dueM o s m (v + 1) := by
  unfold dueM
  have := Int.mul_le_mul_of_nonneg_left (fig_mono (o := o) (v := v) hm hs) (show 0 ≤ s by omega)
  omega
theorem go_two {m : Str} {s q r : Int} (hm : Mode m) : goesUp m s (q + 2) r = goesUp m s q r := by
  rcases hm with e | e | e | e | e <;> subst e
  · rw [go_down, go_down]
  · rw [go_up, go_up]
  · rw [go_hd, go_hd]
  · rw [go_hu, go_hu]
  · rw [go_he, go_he, show (q + 2) % 2 = q % 2 by omega]
theorem due_two {o s : Int} {m : Str} {v : Int} (hm : Mode m) (hs : 1 ≤ s) : dueM o s m (v + s * 2) = dueM o s m v + s * 2 := by
  have F := fig_of (o := o) (m := m) (v := v) hs
  unfold dueM
  generalize (v - o) / s = q at F
  generalize (v - o) % s = r at F
  obtain ⟨eq, r0, r1, wh⟩ := F
  rw [fig_uniq (v := v + s * 2) (q := q + 2) (r := r) (k := figM o s m v + 2) hs ⟨by rw [Int.mul_add]; omega, r0, r1, ?_⟩, Int.mul_add]
  · omega
  · rw [go_two hm]
    rcases wh with ⟨h, e⟩ | ⟨h, e⟩
    · exact .inl ⟨h, by omega⟩
    · exact .inr ⟨h, by omega⟩
/-! ### bounds -/
def Bd (x : Int) : Prop := -2 ^ 1000 < x ∧ x < 2 ^ 1000
theorem div_bd {x s b : Int} (hs : 1 ≤ s) (h0 : -b < x) (h1 : x < b) : -b < x / s ∧ x / s < b := by
  by_cases hx : 0 ≤ x
  · have a := Int.ediv_nonneg hx (show 0 ≤ s by omega)
    have c := Int.ediv_le_self s hx
    omega
  · have a : x ≤ x / s := by
      rw [Int.le_ediv_iff_mul_le (by omega)]
      have := Int.mul_le_mul_of_nonpos_left (show x ≤ 0 by omega) hs
      omega
    have c : x / s < 0 := Int.ediv_neg_of_neg_of_pos (by omega) (by omega)
    omega
end HT
namespace HT
open PySem L2
/-! ### spans -/
def below (m : Str) (s k : Int) : Int := if m = "down" then 0 else if m = "up" then s - 1 else if m = "half_up" ∨ (m = "half_even" ∧ k % 2 = 0) then s / 2 else (s - 1) / 2
def mir (m : Str) : Str := if m = "down" then "up" else if m = "up" then "down" else if m = "half_down" then "half_up" else if m = "half_up" then "half_down" else "half_even"
def lowM (o s : Int) (m : Str) (k : Int) : Int := o + s * k - below m s k
def highM (o s : Int) (m : Str) (k : Int) : Int := o + s * k + below (mir m) s k
theorem mir_d : mir "down" = "up" := by unfold mir; rw [if_pos rfl]
theorem mir_u : mir "up" = "down" := by unfold mir; rw [if_neg d_u, if_pos rfl]
theorem mir_hd : mir "half_down" = "half_up" := by unfold mir; rw [if_neg hd_d, if_neg hd_u, if_pos rfl]
theorem mir_hu : mir "half_up" = "half_down" := by unfold mir; rw [if_neg hu_d, if_neg hu_u, if_neg hu_hd, if_pos rfl]
theorem mir_he : mir "half_even" = "half_even" := by unfold mir; rw [if_neg he_d, if_neg he_u, if_neg he_hd, if_neg he_hu]
theorem be_d (s k : Int) : below "down" s k = 0 := by unfold below; rw [if_pos rfl]
theorem be_u (s k : Int) : below "up" s k = s - 1 := by unfold below; rw [if_neg d_u, if_pos rfl]
theorem be_hd (s k : Int) : below "half_down" s k = (s - 1) / 2 := by
  unfold below
  rw [if_neg hd_d, if_neg hd_u, if_neg]
  rintro (z | ⟨z, _⟩)
  · exact hd_hu z
  · exact hd_e z
theorem be_hu (s k : Int) : below "half_up" s k = s / 2 := by unfold below; rw [if_neg hu_d, if_neg hu_u, if_pos (.inl rfl)]
theorem be_he (s k : Int) : below "half_even" s k = if k % 2 = 0 then s / 2 else (s - 1) / 2 := by
  unfold below
  rw [if_neg he_d, if_neg he_u]
  by_cases h : k % 2 = 0
  · rw [if_pos (.inr ⟨rfl, h⟩), if_pos h]
  · rw [if_neg h, if_neg]
    rintro (z | ⟨_, z⟩)
    · exact he_hu z
    · exact h z
theorem mir_mode {m : Str} (h : Mode m) : Mode (mir m) := by
  rcases h with e | e | e | e | e <;> subst e
  · rw [mir_d]; exact .inr (.inl rfl)
  · rw [mir_u]; exact .inl rfl
  · rw [mir_hd]; exact .inr (.inr (.inr (.inl rfl)))
  · rw [mir_hu]; exact .inr (.inr (.inl rfl))
  · rw [mir_he]; exact .inr (.inr (.inr (.inr rfl)))
theorem below_bd {m : Str} {s k : Int} (h : Mode m) (hs : 1 ≤ s) : 0 ≤ below m s k ∧ below m s k < s := by
  rcases h with e | e | e | e | e <;> subst e
  · rw [be_d]; omega
  · rw [be_u]; omega
  · rw [be_hd]; omega
  · rw [be_hu]; omega
  · rw [be_he]; split <;> omega
theorem up_iff {m : Str} {s q r : Int} (h : Mode m) (r0 : 0 ≤ r) (r1 : r < s) : goesUp m s q r = true ↔ below (mir m) s q < r := by
  rcases h with e | e | e | e | e <;> subst e
  · rw [go_down, mir_d, be_u]
    exact ⟨fun z => (Bool.false_ne_true z).elim, fun z => absurd z (by omega)⟩
  · rw [go_up, mir_u, be_d, decide_eq_true_eq]
  · rw [go_hd, mir_hd, be_hu, decide_eq_true_eq]; omega
  · rw [go_hu, mir_hu, be_hd, decide_eq_true_eq]; omega
  · rw [go_he, mir_he, be_he, Bool.or_eq_true, Bool.and_eq_true, decide_eq_true_eq, decide_eq_true_eq, decide_eq_true_eq]
    split <;> omega
theorem touch {m : Str} {s : Int} (q : Int) (h : Mode m) (hs : 1 ≤ s) : below m s (q + 1) + below (mir m) s q = s - 1 := by
  rcases h with e | e | e | e | e <;> subst e
  · rw [be_d, mir_d, be_u]; omega
  · rw [be_u, mir_u, be_d]; omega
  · rw [be_hd, mir_hd, be_hu]; omega
  · rw [be_hu, mir_hu, be_hd]; omega
  · rw [be_he, mir_he, be_he]; split <;> split <;> omega
theorem mul_lt_step {s q k : Int} (hs : 1 ≤ s) (h : q < k) : s * q + s ≤ s * k := by
  have := Int.mul_le_mul_of_nonneg_left (show q + 1 ≤ k by omega) (show 0 ≤ s by omega)
  rw [Int.mul_add, Int.mul_one] at this
  exact this
/-- a value comes to k just between the ends -/
theorem fig_iff {o s : Int} {m : Str} {v k : Int} (h : Mode m) (hs : 1 ≤ s) : figM o s m v = k ↔ lowM o s m k ≤ v ∧ v ≤ highM o s m k := by
  have F := fig_of (o := o) (m := m) (v := v) hs
  generalize (v - o) / s = q at F
  generalize (v - o) % s = r at F
  generalize figM o s m v = f at F ⊢
  obtain ⟨eq, r0, r1, wh⟩ := F
  have ui := up_iff (q := q) h r0 r1
  have t1 := touch (k - 1) h hs
  rw [show k - 1 + 1 = k by omega] at t1
  have bk := below_bd (k := k) (mir_mode h) hs
  have bk1 := below_bd (k := k - 1) (mir_mode h) hs
  have bq := below_bd (k := q) (mir_mode h) hs
  unfold lowM highM
  have hf : (f = q + 1 ∧ below (mir m) s q < r) ∨ (f = q ∧ r ≤ below (mir m) s q) := by
    rcases wh with ⟨g, e⟩ | ⟨g, e⟩
    · exact .inl ⟨e, ui.mp g⟩
    · refine .inr ⟨e, ?_⟩
      have : ¬ below (mir m) s q < r := fun z => by rw [ui.mpr z] at g; cases g
      omega
  rcases Int.lt_trichotomy q k with hq | hq | hq
  · rcases Int.lt_trichotomy (q + 1) k with hq1 | hq1 | hq1
    · have := mul_lt_step hs (show q + 1 < k from hq1)
      rw [Int.mul_add, Int.mul_one] at this
      generalize s * q = a at *
      generalize s * k = b at *
      constructor
      · intro z; omega
      · intro z; omega
    · have e : q = k - 1 := by omega
      subst e
      have : s * (k - 1) = s * k - s := by rw [Int.mul_sub, Int.mul_one]
      generalize s * (k - 1) = a at *
      generalize s * k = b at *
      constructor
      · intro z; omega
      · intro z; omega
    · omega
  · subst hq
    generalize s * q = a at *
    constructor
    · intro z; omega
    · intro z; omega
  · have := mul_lt_step hs hq
    generalize s * q = a at *
    generalize s * k = b at *
    constructor
    · intro z; omega
    · intro z; omega
theorem low_high {o s : Int} {m : Str} {k : Int} (h : Mode m) (hs : 1 ≤ s) : lowM o s m k ≤ o + s * k ∧ o + s * k ≤ highM o s m k := by
  have a := below_bd (k := k) h hs
  have b := below_bd (k := k) (mir_mode h) hs
  unfold lowM highM
  omega
theorem low_next {o s : Int} {m : Str} (k : Int) (h : Mode m) (hs : 1 ≤ s) : lowM o s m (k + 1) = highM o s m k + 1 := by
  have := touch k h hs
  unfold lowM highM
  rw [Int.mul_add, Int.mul_one]
  omega
theorem high_prev {o s : Int} {m : Str} (k : Int) (h : Mode m) (hs : 1 ≤ s) : highM o s m (k - 1) = lowM o s m k - 1 := by
  have := low_next (o := o) (k - 1) h hs
  rw [show k - 1 + 1 = k by omega] at this
  omega
theorem fig_low {o s : Int} {m : Str} (k : Int) (h : Mode m) (hs : 1 ≤ s) : figM o s m (lowM o s m k) = k := by
  have a := low_high (o := o) (k := k) h hs
  exact (fig_iff h hs).mpr ⟨by omega, by omega⟩
theorem fig_high {o s : Int} {m : Str} (k : Int) (h : Mode m) (hs : 1 ≤ s) : figM o s m (highM o s m k) = k := by
  have a := low_high (o := o) (k := k) h hs
  exact (fig_iff h hs).mpr ⟨by omega, by omega⟩
theorem fig_low1 {o s : Int} {m : Str} (k : Int) (h : Mode m) (hs : 1 ≤ s) : figM o s m (lowM o s m k - 1) = k - 1 := by
  rw [← high_prev k h hs]
  exact fig_high _ h hs
theorem fig_high1 {o s : Int} {m : Str} (k : Int) (h : Mode m) (hs : 1 ≤ s) : figM o s m (highM o s m k + 1) = k + 1 := by
  rw [← low_next k h hs]
  exact fig_low _ h hs
/-- the figure of the least standing value that is not less -/
def ceilM (o s v : Int) : Int := -((o - v) / s)
theorem ceil_eq {o s v : Int} (hs : 1 ≤ s) : v ≤ o + s * ceilM o s v ∧ o + s * (ceilM o s v - 1) < v := by
  have a := Int.mul_ediv_add_emod (o - v) s
  have b := Int.emod_nonneg (o - v) (show s ≠ 0 by omega)
  have c := Int.emod_lt_of_pos (o - v) (show 0 < s by omega)
  unfold ceilM
  rw [Int.mul_sub, Int.mul_one, Int.mul_neg]
  omega
def backM (o s : Int) (m : Str) (v : Int) : Int := lowM o s m (ceilM o s v)
theorem back_ge {o s : Int} {m : Str} {v : Int} (h : Mode m) (hs : 1 ≤ s) : v ≤ dueM o s m (backM o s m v) := by
  unfold dueM backM
  rw [fig_low _ h hs]
  exact (ceil_eq hs).1
theorem back_lt {o s : Int} {m : Str} {v : Int} (h : Mode m) (hs : 1 ≤ s) : dueM o s m (backM o s m v - 1) < v := by
  unfold dueM backM
  rw [fig_low1 _ h hs]
  exact (ceil_eq hs).2
theorem mul_b {s k : Int} (s0 : 1 ≤ s) (s1 : s ≤ 10 ^ 30) (h : -2 ^ 720 < k ∧ k < 2 ^ 720) : -2 ^ 820 < s * k ∧ s * k < 2 ^ 820 := by
  have h1 : (s * k).natAbs < 2 ^ (100 + 720) := wide_lt (a := 100) (b := 720) (by omega) (by omega)
  omega
end HT
namespace HT
open PySem L2
theorem lg_big {n : Int} (h0 : 0 ≤ n) (h : n < 2 ^ 200) : n.natAbs.log2 < 9000 := by
  obtain ⟨m, rfl⟩ := Int.eq_ofNat_of_zero_le h0
  exact lg_nat (by omega)
def modesV : List V := [.str "down", .str "up", .str "half_down", .str "half_up", .str "half_even"]
/-- the further names that the text of sides does not bind, and its table of modes -/
structure SideT (K : PySem.W.Frag) (mg : Str → Option Value) (aM : Addr) : Prop where
  isi : mg "isinstance" = none
  int : mg "int" = none
  bool : mg "bool" = none
  tuple : mg "tuple" = none
  len : mg "len" = none
  dm : mg "divmod" = none
  gM : mg "MODES" = some (.ref aM)
  tM : ∀ H, SqT K H aM modesV
def spIsInt : Sp := fun vs H Q _ => ∃ i : Int, vs = [.int i] ∧ Q (.bl true) H
def spBetween : Sp := fun vs H Q _ => ∃ i a b : Int, vs = [.int i, .int a, .int b] ∧ Q (.bl (decide (a ≤ i) && decide (i ≤ b))) H
def spCheckValue : Sp := fun vs H Q _ => ∃ i : Int, vs = [.int i] ∧ Q .non H
def spCheckSide : Sp := fun vs H Q _ => ∃ (p : Addr) (o s : Int) (m : Str), vs = [.ref p] ∧ H p = some (sideV o s m) ∧ SideP o s m ∧ Q .non H
def spGo : Sp := fun vs H Q _ => ∃ (m : Str) (s q r : Int), vs = [.str m, .int s, .int q, .int r] ∧ Q (.bl (goesUp m s q r)) H
def spSV (f : Int → Int → Str → Int → V) : Sp := fun vs H Q _ => ∃ (p : Addr) (o s : Int) (m : Str) (v : Int), vs = [.ref p, .int v] ∧ H p = some (sideV o s m) ∧ SideP o s m ∧ Bd v ∧ ∀ H', Same H H' → Q (f o s m v) H'
def spFig : Sp := spSV fun o s m v => .int (figM o s m v)
def spDue : Sp := spSV fun o s m v => .int (dueM o s m v)
def spStands : Sp := spSV fun o s m v => .bl (decide ((v - o) % s = 0))
theorem dec_int (a b : Int) : decide (V.int a = V.int b) = decide (a = b) := by
  by_cases h : a = b
  · rw [decide_eq_true h, h, decide_eq_true rfl]
  · rw [decide_eq_false h, decide_eq_false (fun z => h (V.int.inj z))]
theorem dec_str (a b : Str) : decide (V.str a = V.str b) = decide (a = b) := by
  by_cases h : a = b
  · rw [decide_eq_true h, h, decide_eq_true rfl]
  · rw [decide_eq_false h, decide_eq_false (fun z => h (V.str.inj z))]
theorem dec_bl (a b : Bool) : decide (V.bl a = V.bl b) = decide (a = b) := by
  by_cases h : a = b
  · rw [decide_eq_true h, h, decide_eq_true rfl]
  · rw [decide_eq_false h, decide_eq_false (fun z => h (V.bl.inj z))]
theorem str_t {a b : Str} (h : decide (V.str a = V.str b) = true) : a = b := V.str.inj (of_decide_eq_true h)
theorem str_f {a b : Str} (h : ¬ decide (V.str a = V.str b) = true) : ¬ a = b := fun z => h (decide_eq_true (congrArg V.str z))
theorem int_t {a b : Int} (h : decide (V.int a = V.int b) = true) : a = b := V.int.inj (of_decide_eq_true h)
theorem int_f {a b : Int} (h : ¬ decide (V.int a = V.int b) = true) : ¬ a = b := fun z => h (decide_eq_true (congrArg V.int z))
theorem not_t {b : Bool} (h : (!b) = true) : ¬ b = true := by cases b <;> simp_all
theorem not_f {b : Bool} (h : ¬ (!b) = true) : b = true := by cases b <;> simp_all
theorem mode_in {m : Str} (h : Mode m) : inV (.str m) modesV = true := by
  rcases h with e | e | e | e | e <;> subst e <;> decide +kernel
theorem divp {o v s : Int} (hs : 1 ≤ s) (ho : -10 ^ 40 ≤ o ∧ o ≤ 10 ^ 40) (hv : Bd v) : CDivP (v - o) s := by
  refine divp_ok (by omega) ?_
  have h : (v - o).natAbs < 2 ^ 1010 := by
    have h1 := hv.1
    have h2 := hv.2
    omega
  have h2 : Builtin.Int.intBits (v - o) ≤ 1011 := by
    unfold Builtin.Int.intBits
    split
    · omega
    · have := PySem.Flt.log2_lt_of (by decide) h
      omega
  omega
theorem mulW {i j : Int} (hi : -2 ^ 1010 < i ∧ i < 2 ^ 1010) (hj : -2 ^ 1010 < j ∧ j < 2 ^ 1010) : CMulW i j := wide_mul (a := 1010) (b := 1010) (by omega) (by omega) (by decide) (by decide) (by decide)
theorem fig_bd {o s : Int} {m : Str} {v : Int} (S : SideP o s m) (hv : Bd v) : -2 ^ 1001 < figM o s m v ∧ figM o s m v < 2 ^ 1001 := by
  obtain ⟨h1, h2⟩ := hv
  obtain ⟨o0, o1, s0, s1, _⟩ := S
  have := div_bd (x := v - o) (b := 2 ^ 1000 + 10 ^ 40) s0 (by omega) (by omega)
  unfold figM
  split <;> omega
section
variable {P : Program} {w : World} {K : PySem.W.Frag} {mg : Str → Option Value} {base : Heap} {aM fI fB fV fC fG fF : Addr} {dI dB dV dC dG dF : FuncData}
theorem ok_is_int {f : Addr} {fd : FuncData} (F : Fun K "is_int" "is_int" s_is_int f fd) (T : SideT K mg aM) : FnOk P w K mg base CX0 1 f fd ["thing"] spIsInt := by
  refine F.ok sc_is_int (fun vs H Q E h => ?_) (fun cdv A outer s H vs Q E hr h => ?_)
  · obtain ⟨i, rfl, _⟩ := h
    rfl
  · obtain ⟨i, rfl, q⟩ := h
    refine ⟨_, pss_one (ps_ret (pe_and (pe_callB call_isi (by rfl) T.isi (by decide +kernel) (pa_cons (pv 0) (pa_cons (pe_bltn (v := .ty "int") (by rfl) T.int (by decide +kernel) rfl) pa_nil)))
      (pe_one (pe_not (pe_callB call_isi (by rfl) T.isi (by decide +kernel) (pa_cons (pv 0) (pa_cons (pe_bltn (v := .ty "bool") (by rfl) T.bool (by decide +kernel) rfl) pa_nil))))))), ?_⟩
    walk_at "rd"
    refine ⟨_, _, _, _, _, rfl, .ty "int", .base (.int _), kit_ty (r := true) (by decide +kernel), ?_⟩
    walk_at "rd"
    refine ⟨_, _, _, _, _, rfl, .ty "bool", .base (.int _), kit_ty (r := false) (by decide +kernel), ?_⟩
    walk_at "rd"
    exact q
theorem ok_between {f : Addr} {fd : FuncData} (F : Fun K "is_int_between" "is_int_between" s_is_int_between f fd) (I : Cal P w K mg base "is_int" 1 ["thing"] spIsInt fI dI) : FnOk P w K mg base CX0 2 f fd ["thing", "least", "most"] spBetween := by
  refine F.ok sc_is_int_between (fun vs H Q E h => ?_) (fun cdv A outer s H vs Q E hr h => ?_)
  · obtain ⟨i, a, b, rfl, _⟩ := h
    rfl
  · obtain ⟨i, a, b, rfl, q⟩ := h
    refine ⟨_, pss_one (ps_ret (pe_and (pcl I hr (by decide) (by rfl) (pa_cons (pv 0) pa_nil)) (pe_one (pe_chain op_le op_le (pv 1) (pv 0) (pv 2))))), ?_⟩
    walk_at "rd"
    refine ite2 (fun h => ?_) (fun h => ?_)
    · walk_at "rd"
      rw [decide_eq_true (of_decide_eq_true h)] at q
      exact q
    · rw [decide_eq_false (of_decide_eq_false (by simpa using h))] at q
      exact q
theorem ok_check_side {f : Addr} {fd : FuncData} (F : Fun K "check_side" "check_side" s_check_side f fd) (T : SideT K mg aM) (B : Cal P w K mg base "is_int_between" 2 ["thing", "least", "most"] spBetween fB dB) : FnOk P w K mg base CX0 3 f fd ["side"] spCheckSide := by
  refine F.ok sc_check_side (fun vs H Q E h => ?_) (fun cdv A outer s H vs Q E hr h => ?_)
  · obtain ⟨p, o, s, m, rfl, _⟩ := h
    rfl
  · obtain ⟨p, o, s, m, rfl, hp, S, q⟩ := h
    have nd := sc_check_side.nd
    refine ⟨_, pss_cons (ps_if (PW.pt (pw_or (pt_not (pt_val (pe_callB call_isi (by rfl) T.isi (by decide +kernel) (pa_cons (pv 0) (pa_cons (pe_bltn (v := .ty "tuple") (by rfl) T.tuple (by decide +kernel) rfl) pa_nil)))))
        (pw_or1 (pt_cmpR op_ne (pe_callB call_len_seq (by rfl) T.len PySem.boot_len (pa_cons (pv 0) pa_nil)) pe_int (nomark _))))) (pss_one ps_never) pss_nil)
      (pss_cons (ps_asg (pv 0) (pg_tup (by rfl) (pgs_cons (pg_name (i := 1) nd rfl (Or.inl rfl)) (pgs_cons (pg_name (i := 2) nd rfl (Or.inl rfl)) (pgs_cons (pg_name (i := 3) nd rfl (Or.inl rfl)) pgs_nil)))))
      (pss_cons (ps_if (pt_not (pt_val (pcl B hr (by decide) (by rfl) (pa_cons (pv 1) (pa_cons (pe_un un_neg (pe_op op_pow pe_int pe_int)) (pa_cons (pe_op op_pow pe_int pe_int) pa_nil)))))) (pss_one ps_never) pss_nil)
      (pss_cons (ps_if (pt_not (pt_val (pcl B hr (by decide) (by rfl) (pa_cons (pv 2) (pa_cons pe_int (pa_cons (pe_op op_pow pe_int pe_int) pa_nil)))))) (pss_one ps_never) pss_nil)
      (pss_one (ps_if (pt_cmpR op_notIn_seq (pv 3) (pe_glob (v := .ref aM) (by rfl) T.gM rfl) (by rfl)) (pss_one ps_never) pss_nil))))), ?_⟩
    walk_at "rd"
    refine ⟨_, _, _, _, _, rfl, .ty "tuple", .base (.tup hp), kit_ty (r := true) (by decide +kernel), ?_⟩
    walk_at "rd"
    refine ⟨p, _, rfl, .inr (SqT.of hp), rfl, ?_⟩
    walk_at "rd"
    refine ⟨p, _, rfl, SqT.of hp, rfl, _, _, rfl, _, _, rfl, _, _, rfl, rfl, ?_⟩
    walk_at "rd"
    refine ⟨⟨by decide, by decide, by decide⟩, ?_⟩
    walk_at "rd"
    refine ⟨⟨by decide, by decide, by decide⟩, _, _, _, rfl, ?_⟩
    have e1 : (decide (-(10 : Int) ^ (40 : Int).toNat ≤ o) && decide (o ≤ (10 : Int) ^ (40 : Int).toNat)) = true := by
      rw [decide_eq_true (show -(10 : Int) ^ (40 : Int).toNat ≤ o from S.o0), decide_eq_true (show o ≤ (10 : Int) ^ (40 : Int).toNat from S.o1)]
      rfl
    refine ⟨_, rfl, ?_⟩
    refine ite2 (fun h => (not_t h e1).elim) (fun _ => ?_)
    walk_at "rd"
    refine ⟨⟨by decide, by decide, by decide⟩, _, _, _, rfl, ?_⟩
    have e2 : (decide ((1 : Int) ≤ s) && decide (s ≤ (10 : Int) ^ (30 : Int).toNat)) = true := by
      rw [decide_eq_true S.s0, decide_eq_true (show s ≤ (10 : Int) ^ (30 : Int).toNat from S.s1)]
      rfl
    refine ⟨_, rfl, ?_⟩
    refine ite2 (fun h => (not_t h e2).elim) (fun _ => ?_)
    walk_at "rd"
    refine ⟨aM, _, rfl, .inr (T.tM H), rfl, by decide, ?_⟩
    walk_at "rd"
    refine ite2 (fun h => (not_t h (mode_in S.md)).elim) (fun _ => ?_)
    exact q
end
end HT
namespace HT
open PySem L2
section
variable {P : Program} {w : World} {K : PySem.W.Frag} {mg : Str → Option Value} {base : Heap} {aM fI fB fV fC fG fF : Addr} {dI dB dV dC dG dF : FuncData}
theorem ok_goes_up {f : Addr} {fd : FuncData} (F : Fun K "_goes_up" "_goes_up" s_goes_up f fd) : FnOk P w K mg base CX0 1 f fd ["mode", "step", "figure", "rest"] spGo := by
  refine F.ok sc_goes_up (fun vs H Q E h => ?_) (fun cdv A outer s H vs Q E hr h => ?_)
  · obtain ⟨m, s, q, r, rfl, _⟩ := h
    rfl
  · obtain ⟨m, s, fg, r, rfl, q⟩ := h
    refine ⟨_, pss_cons (ps_if (pt_cmpR op_eq (pv 0) pe_str (nomark _)) (pss_one (ps_ret pe_bl)) pss_nil)
      (pss_cons (ps_if (pt_cmpR op_eq (pv 0) pe_str (nomark _)) (pss_one (ps_ret (pe_cmpR op_gt (pv 3) pe_int (nomark _)))) pss_nil)
      (pss_cons (ps_if (pt_cmpR op_ne (pe_op op_mul pe_int (pv 3)) (pv 1) (nomark _)) (pss_one (ps_ret (pe_cmpR op_gt (pe_op op_mul pe_int (pv 3)) (pv 1) (nomark _)))) pss_nil)
      (pss_cons (ps_if (pt_cmpR op_eq (pv 0) pe_str (nomark _)) (pss_one (ps_ret (pe_cmpR op_eq (pe_op op_mod (pv 2) pe_int) pe_int (nomark _)))) pss_nil)
      (pss_one (ps_ret (pe_cmpR op_eq (pv 0) pe_str (nomark _))))))), ?_⟩
    unfold goesUp at q
    walk_at "rd"
    refine ⟨rfl, ?_⟩
    walk_at "rd"
    refine ite2 (fun h => ?_) (fun h1 => ?_)
    · rw [if_pos (str_t h)] at q
      exact q
    rw [if_neg (str_f h1)] at q
    walk_at "rd"
    refine ⟨rfl, ?_⟩
    walk_at "rd"
    refine ite2 (fun h => ?_) (fun h2 => ?_)
    · rw [if_pos (str_t h)] at q
      walk_at "rd"
      exact q
    rw [if_neg (str_f h2)] at q
    walk_at "rd"
    refine ⟨.inl ⟨by decide, by decide⟩, ?_⟩
    walk_at "rd"
    refine ⟨rfl, ?_⟩
    walk_at "rd"
    refine ite2 (fun h => ?_) (fun h3 => ?_)
    · rw [if_neg (int_f (not_t h))] at q
      walk_at "rd"
      refine ⟨.inl ⟨by decide, by decide⟩, ?_⟩
      walk_at "rd"
      exact q
    rw [if_pos (int_t (not_f h3))] at q
    walk_at "rd"
    refine ⟨rfl, ?_⟩
    walk_at "rd"
    refine ite2 (fun h => ?_) (fun h4 => ?_)
    · rw [if_pos (str_t h), ← dec_int] at q
      walk_at "rd"
      refine ⟨(by show (0 : Int) < 2; decide), ?_⟩
      walk_at "rd"
      exact ⟨rfl, q⟩
    · rw [if_neg (str_f h4), ← dec_str] at q
      walk_at "rd"
      exact ⟨rfl, q⟩
theorem ok_figure {f : Addr} {fd : FuncData} (F : Fun K "_figure" "_figure" s_figure f fd) (T : SideT K mg aM)
    (G : Cal P w K mg base "_goes_up" 1 ["mode", "step", "figure", "rest"] spGo fG dG) : FnOk P w K mg base CX0 2 f fd ["side", "value"] spFig := by
  refine F.ok sc_figure (fun vs H Q E h => ?_) (fun cdv A outer s H vs Q E hr h => ?_)
  · obtain ⟨p, o, s, m, v, rfl, _⟩ := h
    rfl
  · obtain ⟨p, o, s, m, v, rfl, hp, S, hv, q⟩ := h
    have nd := sc_figure.nd
    refine ⟨_, pss_cons (ps_asg (pv 0) (pg_tup (by rfl) (pgs_cons (pg_name (i := 2) nd rfl (Or.inl rfl)) (pgs_cons (pg_name (i := 3) nd rfl (Or.inl rfl)) (pgs_cons (pg_name (i := 4) nd rfl (Or.inl rfl)) pgs_nil)))))
      (pss_cons (ps_asg (pe_callB call_divmodW (by rfl) T.dm (by decide +kernel) (pa_cons (pe_op op_sub (pv 1) (pv 2)) (pa_cons (pv 3) pa_nil))) (pg_tup (by rfl) (pgs_cons (pg_name (i := 5) nd rfl (Or.inl rfl)) (pgs_cons (pg_name (i := 6) nd rfl (Or.inl rfl)) pgs_nil))))
      (pss_cons (ps_if (pt_val (pcl G hr (by decide) (by rfl) (pa_cons (pv 4) (pa_cons (pv 3) (pa_cons (pv 5) (pa_cons (pv 6) pa_nil)))))) (pss_one (ps_ret (pe_op op_add (pv 5) pe_int))) pss_nil)
      (pss_one (ps_ret (pv 5))))), ?_⟩
    walk_at "rd"
    refine ⟨p, _, rfl, SqT.of hp, rfl, _, _, rfl, _, _, rfl, _, _, rfl, rfl, ?_⟩
    walk_at "rd"
    refine ⟨_, _, rfl, divp S.s0 ⟨S.o0, S.o1⟩ hv, fun d nd' => ?_⟩
    refine ⟨d, _, rfl, SqT.of upd_same, rfl, _, _, rfl, _, _, rfl, rfl, ?_⟩
    have sm : Same H (upd H d (.tup [.int ((v - o) / s), .int ((v - o) % s)])) := fun b u z => by rw [upd_ne (ne_of_none z nd')]; exact z
    have q' : Q (.int (figM o s m v)) (upd H d (.tup [.int ((v - o) / s), .int ((v - o) % s)])) := q _ sm
    unfold figM at q'
    walk_at "rd"
    refine ⟨_, _, _, _, rfl, ?_⟩
    walk_at "rd"
    refine ite2 (fun h => ?_) (fun h => ?_)
    · rw [if_pos h] at q'
      walk_at "rd"
      exact q'
    · rw [if_neg h] at q'
      walk_at "rd"
      exact q'
end
end HT
namespace HT
open PySem L2
section
variable {P : Program} {w : World} {K : PySem.W.Frag} {mg : Str → Option Value} {base : Heap} {fF : Addr} {dF : FuncData}
theorem ok_written {f : Addr} {fd : FuncData} (F : Fun K "written" "written" s_written f fd) (G : Cal P w K mg base "_figure" 2 ["side", "value"] spFig fF dF) : FnOk P w K mg base CX0 3 f fd ["side", "value"] spDue := by
  refine F.ok sc_written (fun vs H Q E h => ?_) (fun cdv A outer s H vs Q E hr h => ?_)
  · obtain ⟨p, o, s, m, v, rfl, _⟩ := h
    rfl
  · obtain ⟨p, o, s, m, v, rfl, hp, S, hv, q⟩ := h
    have nd := sc_written.nd
    refine ⟨_, pss_cons (ps_asg (pv 0) (pg_tup (by rfl) (pgs_cons (pg_name (i := 2) nd rfl (Or.inl rfl)) (pgs_cons (pg_name (i := 3) nd rfl (Or.inl rfl)) (pgs_cons (pg_name (i := 4) nd rfl (Or.inl rfl)) pgs_nil)))))
      (pss_one (ps_ret (pe_op op_add (pv 2) (pe_op op_mulW (pv 3) (pcl G hr (by decide) (by rfl) (pa_cons (pv 0) (pa_cons (pv 1) pa_nil))))))), ?_⟩
    walk_at "rd"
    refine ⟨p, _, rfl, SqT.of hp, rfl, _, _, rfl, _, _, rfl, _, _, rfl, rfl, ?_⟩
    walk_at "rd"
    refine ⟨p, o, s, m, v, rfl, hp, S, hv, fun H' sm => ?_⟩
    walk_at "rd"
    have b1 := fig_bd S hv
    have b2 := S.s0
    have b3 := S.s1
    refine ⟨mulW (by omega) (by omega), ?_⟩
    walk_at "rd"
    exact q H' sm
end
end HT
namespace HT
open PySem L2
/-! ### mirrors and forms -/
theorem mir_mir {m : Str} (h : Mode m) : mir (mir m) = m := by
  rcases h with e | e | e | e | e <;> subst e
  · rw [mir_d, mir_u]
  · rw [mir_u, mir_d]
  · rw [mir_hd, mir_hu]
  · rw [mir_hu, mir_hd]
  · rw [mir_he, mir_he]
theorem below_neg {m : Str} {s : Int} (k : Int) (h : Mode m) : below m s (-k) = below m s k := by
  rcases h with e | e | e | e | e <;> subst e
  · rw [be_d, be_d]
  · rw [be_u, be_u]
  · rw [be_hd, be_hd]
  · rw [be_hu, be_hu]
  · rw [be_he, be_he]; split <;> split <;> omega
theorem due_mirror {o s : Int} {m : Str} {v : Int} (h : Mode m) (hs : 1 ≤ s) : dueM (-o) s (mir m) (-v) = -dueM o s m v := by
  have f := (fig_iff (o := o) (v := v) (k := figM o s m v) h hs).mp rfl
  generalize figM o s m v = k at f
  have e : figM o s m v = k := (fig_iff h hs).mpr f
  have e2 : figM (-o) s (mir m) (-v) = -k := by
    refine (fig_iff (mir_mode h) hs).mpr ?_
    unfold lowM highM at f ⊢
    rw [mir_mir h, below_neg k h, below_neg k (mir_mode h), Int.mul_neg]
    omega
  unfold dueM
  rw [e, e2, Int.mul_neg]
  omega
def firstM (s : Int) (m : Str) : Str := if s = 1 then "down" else if s = 2 ∧ m = "half_down" then "down" else if s = 2 ∧ m = "half_up" then "up" else if s % 2 = 1 ∧ (m = "half_up" ∨ m = "half_even") then "half_down" else m
def formO (o s : Int) (f : Str) : Int := if f = "half_even" then o % (2 * s) else o % s
def ordM (m : Str) : Nat := if m = "down" then 0 else if m = "up" then 1 else if m = "half_down" then 2 else if m = "half_up" then 3 else 4
theorem ord_d : ordM "down" = 0 := by unfold ordM; rw [if_pos rfl]
theorem ord_u : ordM "up" = 1 := by unfold ordM; rw [if_neg d_u, if_pos rfl]
theorem ord_hd : ordM "half_down" = 2 := by unfold ordM; rw [if_neg hd_d, if_neg hd_u, if_pos rfl]
theorem ord_hu : ordM "half_up" = 3 := by unfold ordM; rw [if_neg hu_d, if_neg hu_u, if_neg hu_hd, if_pos rfl]
theorem ord_he : ordM "half_even" = 4 := by unfold ordM; rw [if_neg he_d, if_neg he_u, if_neg he_hd, if_neg he_hu]
theorem u_hu : ¬ (("up" : Str) = "half_up") := by decide +kernel
theorem u_he : ¬ (("up" : Str) = "half_even") := by decide +kernel
theorem dn_hd : ¬ (("down" : Str) = "half_down") := by decide +kernel
theorem dn_hu : ¬ (("down" : Str) = "half_up") := by decide +kernel
theorem dn_he : ¬ (("down" : Str) = "half_even") := by decide +kernel
theorem dn_u : ¬ (("down" : Str) = "up") := by decide +kernel
/-- the first modes, mode by mode -/
theorem fi_one (m : Str) : firstM 1 m = "down" := by unfold firstM; rw [if_pos rfl]
theorem fi_d (s : Int) : firstM s "down" = "down" := by
  unfold firstM
  by_cases h : s = 1
  · rw [if_pos h]
  · rw [if_neg h, if_neg (fun z => dn_hd z.2), if_neg (fun z => dn_hu z.2), if_neg (fun z => z.2.elim dn_hu dn_he)]
theorem fi_u {s : Int} (h : s ≠ 1) : firstM s "up" = "up" := by
  unfold firstM
  rw [if_neg h, if_neg (fun z => u_hd z.2), if_neg (fun z => u_hu z.2), if_neg (fun z => z.2.elim u_hu u_he)]
theorem fi_hd2 : firstM 2 "half_down" = "down" := by unfold firstM; rw [if_neg (by decide), if_pos ⟨rfl, rfl⟩]
theorem fi_hd {s : Int} (h : s ≠ 1) (h2 : s ≠ 2) : firstM s "half_down" = "half_down" := by
  unfold firstM
  rw [if_neg h, if_neg (fun z => h2 z.1), if_neg (fun z => h2 z.1), if_neg (fun z => z.2.elim hd_hu hd_e)]
theorem fi_hu2 : firstM 2 "half_up" = "up" := by unfold firstM; rw [if_neg (by decide), if_neg (fun z => hu_hd z.2), if_pos ⟨rfl, rfl⟩]
theorem fi_huO {s : Int} (h : s ≠ 1) (h2 : s % 2 = 1) : firstM s "half_up" = "half_down" := by
  unfold firstM
  rw [if_neg h, if_neg (fun z => hu_hd z.2), if_neg (fun z => by have := z.1; omega), if_pos ⟨h2, .inl rfl⟩]
theorem fi_huE {s : Int} (h : s ≠ 2) (h2 : s % 2 = 0) : firstM s "half_up" = "half_up" := by
  unfold firstM
  rw [if_neg (by omega), if_neg (fun z => hu_hd z.2), if_neg (fun z => h z.1), if_neg (fun z => by have := z.1; omega)]
theorem fi_heO {s : Int} (h : s ≠ 1) (h2 : s % 2 = 1) : firstM s "half_even" = "half_down" := by
  unfold firstM
  rw [if_neg h, if_neg (fun z => he_hd z.2), if_neg (fun z => he_hu z.2), if_pos ⟨h2, .inr rfl⟩]
theorem fi_heE {s : Int} (h2 : s % 2 = 0) : firstM s "half_even" = "half_even" := by
  unfold firstM
  rw [if_neg (by omega), if_neg (fun z => he_hd z.2), if_neg (fun z => he_hu z.2), if_neg (fun z => by have := z.1; omega)]
/-- what is known of the first mode -/
structure FirstP (s : Int) (m : Str) : Prop where
  md : Mode (firstM s m)
  id : firstM s (firstM s m) = firstM s m
  od : ordM (firstM s m) ≤ ordM m
  go : ∀ q r, 0 ≤ r → r < s → goesUp (firstM s m) s q r = goesUp m s q r
  ev : firstM s m = "half_even" → s % 2 = 0
theorem first_ok {s : Int} {m : Str} (h : Mode m) (hs : 1 ≤ s) : FirstP s m := by
  have D : Mode "down" := .inl rfl
  have U : Mode "up" := .inr (.inl rfl)
  have HD : Mode "half_down" := .inr (.inr (.inl rfl))
  by_cases s1 : s = 1
  · subst s1
    refine ⟨by rw [fi_one]; exact D, by rw [fi_one, fi_one], by rw [fi_one, ord_d]; omega, fun q r r0 r1 => ?_, by rw [fi_one]; exact fun z => (dn_he z).elim⟩
    have : r = 0 := by omega
    subst this
    rw [fi_one, go_zero D (by decide), go_zero h (by decide)]
  rcases h with e | e | e | e | e <;> subst e
  · exact ⟨by rw [fi_d]; exact D, by rw [fi_d, fi_d], by rw [fi_d]; omega, fun q r _ _ => by rw [fi_d], by rw [fi_d]; exact fun z => (dn_he z).elim⟩
  · exact ⟨by rw [fi_u s1]; exact U, by rw [fi_u s1, fi_u s1], by rw [fi_u s1]; omega, fun q r _ _ => by rw [fi_u s1], by rw [fi_u s1]; exact fun z => (u_he z).elim⟩
  · by_cases s2 : s = 2
    · subst s2
      refine ⟨by rw [fi_hd2]; exact D, by rw [fi_hd2, fi_d], by rw [fi_hd2, ord_d]; omega, fun q r r0 r1 => ?_, by rw [fi_hd2]; exact fun z => (dn_he z).elim⟩
      rw [fi_hd2, go_down, go_hd, decide_eq_false (by omega)]
    · exact ⟨by rw [fi_hd s1 s2]; exact HD, by rw [fi_hd s1 s2, fi_hd s1 s2], by rw [fi_hd s1 s2]; omega, fun q r _ _ => by rw [fi_hd s1 s2], by rw [fi_hd s1 s2]; exact fun z => (hd_e z).elim⟩
  · by_cases s2 : s = 2
    · subst s2
      refine ⟨by rw [fi_hu2]; exact U, by rw [fi_hu2, fi_u s1], by rw [fi_hu2, ord_u, ord_hu]; omega, fun q r r0 r1 => ?_, by rw [fi_hu2]; exact fun z => (u_he z).elim⟩
      rw [fi_hu2, go_up, go_hu]
      exact decide_eq_decide.mpr (by omega)
    · by_cases od : s % 2 = 1
      · refine ⟨by rw [fi_huO s1 od]; exact HD, by rw [fi_huO s1 od, fi_hd s1 s2], by rw [fi_huO s1 od, ord_hd, ord_hu]; omega, fun q r r0 r1 => ?_, by rw [fi_huO s1 od]; exact fun z => (hd_e z).elim⟩
        rw [fi_huO s1 od, go_hd, go_hu]
        exact decide_eq_decide.mpr (by omega)
      · have ev : s % 2 = 0 := by omega
        exact ⟨by rw [fi_huE s2 ev]; exact .inr (.inr (.inr (.inl rfl))), by rw [fi_huE s2 ev, fi_huE s2 ev], by rw [fi_huE s2 ev]; omega, fun q r _ _ => by rw [fi_huE s2 ev], by rw [fi_huE s2 ev]; exact fun z => (hu_e z).elim⟩
  · by_cases od : s % 2 = 1
    · refine ⟨by rw [fi_heO s1 od]; exact HD, by rw [fi_heO s1 od, fi_hd s1 (by omega)], by rw [fi_heO s1 od, ord_hd, ord_he]; omega, fun q r r0 r1 => ?_, by rw [fi_heO s1 od]; exact fun z => (hd_e z).elim⟩
      rw [fi_heO s1 od, go_hd, go_he, decide_eq_false (show ¬ 2 * r = s by omega), Bool.false_and, Bool.or_false]
    · have ev : s % 2 = 0 := by omega
      exact ⟨by rw [fi_heE ev]; exact .inr (.inr (.inr (.inr rfl))), by rw [fi_heE ev, fi_heE ev], by rw [fi_heE ev]; omega, fun q r _ _ => by rw [fi_heE ev], fun _ => ev⟩
theorem go_shift {m : Str} {s q r j : Int} (h : Mode m) (hj : m ≠ "half_even" ∨ j % 2 = 0) : goesUp m s (q + j) r = goesUp m s q r := by
  rcases h with e | e | e | e | e <;> subst e
  · rw [go_down, go_down]
  · rw [go_up, go_up]
  · rw [go_hd, go_hd]
  · rw [go_hu, go_hu]
  · have z : j % 2 = 0 := hj.resolve_left (fun z => z rfl)
    rw [go_he, go_he, show (q + j) % 2 = q % 2 by omega]
/-- an offset moved by whole steps, by two of them for the even -/
theorem due_shift {o s j : Int} {m : Str} {v : Int} (h : Mode m) (hs : 1 ≤ s) (hj : m ≠ "half_even" ∨ j % 2 = 0) : dueM (o + s * j) s m v = dueM o s m v := by
  have F := fig_of (o := o + s * j) (m := m) (v := v) hs
  generalize (v - (o + s * j)) / s = q at F
  generalize (v - (o + s * j)) % s = r at F
  generalize hk : figM (o + s * j) s m v = k at F
  obtain ⟨eq, r0, r1, wh⟩ := F
  have e : figM o s m v = k + j := by
    refine fig_uniq (q := q + j) (r := r) hs ⟨by rw [Int.mul_add]; omega, r0, r1, ?_⟩
    rw [go_shift h hj]
    rcases wh with ⟨g, e⟩ | ⟨g, e⟩
    · exact .inl ⟨g, by omega⟩
    · exact .inr ⟨g, by omega⟩
  unfold dueM
  rw [e, hk, Int.mul_add]
  omega
theorem due_go {o s : Int} {m m' : Str} {v : Int} (hs : 1 ≤ s) (h : ∀ q r, 0 ≤ r → r < s → goesUp m s q r = goesUp m' s q r) : dueM o s m v = dueM o s m' v := by
  unfold dueM figM
  rw [h _ _ (Int.emod_nonneg _ (by omega)) (Int.emod_lt_of_pos _ (by omega))]
theorem due_form {o s : Int} {m : Str} (v : Int) (h : Mode m) (hs : 1 ≤ s) : dueM (formO o s (firstM s m)) s (firstM s m) v = dueM o s m v := by
  have P := first_ok h hs
  rw [← due_go hs P.go]
  unfold formO
  by_cases e : firstM s m = "half_even"
  · rw [if_pos e]
    have a := Int.mul_ediv_add_emod o (2 * s)
    have b : o % (2 * s) = o + s * (-(2 * (o / (2 * s)))) := by
      rw [Int.mul_neg, ← Int.mul_assoc, Int.mul_comm s 2]
      omega
    rw [b]
    exact due_shift P.md hs (.inr (by omega))
  · rw [if_neg e]
    have a := Int.mul_ediv_add_emod o s
    have b : o % s = o + s * (-(o / s)) := by
      rw [Int.mul_neg]
      omega
    rw [b]
    exact due_shift P.md hs (.inl e)
theorem form_bd {o s : Int} {f : Str} (hs : 1 ≤ s) : 0 ≤ formO o s f ∧ formO o s f < 2 * s ∧ (f ≠ "half_even" → formO o s f < s) := by
  unfold formO
  by_cases e : f = "half_even"
  · rw [if_pos e]
    exact ⟨Int.emod_nonneg _ (by omega), Int.emod_lt_of_pos _ (by omega), fun z => absurd e z⟩
  · rw [if_neg e]
    have := Int.emod_lt_of_pos o (show 0 < s by omega)
    exact ⟨Int.emod_nonneg _ (by omega), by omega, fun _ => this⟩
theorem form_idem {o s : Int} {f : Str} : formO (formO o s f) s f = formO o s f := by
  unfold formO
  by_cases e : f = "half_even"
  · rw [if_pos e, if_pos e, Int.emod_emod_of_dvd _ (Int.dvd_refl _)]
  · rw [if_neg e, if_neg e, Int.emod_emod_of_dvd _ (Int.dvd_refl _)]
/-- a value told by its figure and rest -/
theorem due_at {o s q r : Int} {m : Str} (hs : 1 ≤ s) (r0 : 0 ≤ r) (r1 : r < s) : dueM o s m (o + s * q + r) = o + s * q + (if goesUp m s q r = true then s else 0) := by
  unfold dueM
  by_cases g : goesUp m s q r = true
  · rw [fig_uniq (q := q) (r := r) (k := q + 1) hs ⟨by omega, r0, r1, .inl ⟨g, rfl⟩⟩, if_pos g, Int.mul_add]
    omega
  · have g' : goesUp m s q r = false := by cases h : goesUp m s q r <;> simp_all
    rw [fig_uniq (q := q) (r := r) (k := q) hs ⟨by omega, r0, r1, .inr ⟨g', rfl⟩⟩, if_neg g]
    omega
end HT
namespace HT
open PySem L2
section
variable {P : Program} {w : World} {K : PySem.W.Frag} {mg : Str → Option Value} {base : Heap} {aM fD fP fG fL fA fF fH fS : Addr} {dD dP dG dL dA dF dH dS : FuncData}
theorem ok_L_figure {f : Addr} {fd : FuncData} (F : Fun K "_law_figure" "_law_figure" s_L_figure f fd) (B : Blt mg) : FnOk P w K mg base CX0 1 f fd ["_law_side", "_law_value"] spFig := by
  refine F.ok sc_L_figure (fun vs H Q E h => ?_) (fun cdv A outer s H vs Q E hr h => ?_)
  · obtain ⟨p, o, s, m, v, rfl, _⟩ := h
    rfl
  · obtain ⟨p, o, s, m, v, rfl, hp, S, hv, q⟩ := h
    have nd := sc_L_figure.nd
    have q' : Q (.int (figM o s m v)) H := q H (Same.refl H)
    have Fg := fig_of (o := o) (m := m) (v := v) S.s0
    refine ⟨_, pss_cons (ps_asg (pv 0) (pg_tup (by rfl) (pgs_cons (pg_name (i := 2) nd rfl (Or.inl rfl)) (pgs_cons (pg_name (i := 3) nd rfl (Or.inl rfl)) (pgs_cons (pg_name (i := 4) nd rfl (Or.inl rfl)) pgs_nil)))))
      (pss_cons (ps_set (i := 5) nd rfl (Or.inl rfl) (pe_op op_fdivW (pe_callTy call_int1 (by rfl) B.int (by decide +kernel) (pa_cons (pe_op op_sub (pv 1) (pv 2)) pa_nil)) (pv 3)))
      (pss_cons (ps_set (i := 6) nd rfl (Or.inl rfl) (pe_op op_sub (pe_op op_sub (pv 1) (pv 2)) (pe_op op_mulW (pv 3) (pv 5))))
      (pss_cons (ps_if (PW.pt (pw_or (pt_cmpR op_eq (pv 4) pe_str (nomark _)) (pw_or1 (pt_cmpR op_eq (pv 6) pe_int (nomark _))))) (pss_one (ps_ret (pv 5))) pss_nil)
      (pss_cons (ps_if (PW.pt (pw_or (pt_cmpR op_eq (pv 4) pe_str (nomark _)) (pw_or1 (pt_cmpR op_gt (pe_op op_mul pe_int (pv 6)) (pv 3) (nomark _))))) (pss_one (ps_ret (pe_op op_add (pv 5) pe_int))) pss_nil)
      (pss_cons (ps_if (PW.pt (pw_or (pt_cmpR op_lt (pe_op op_mul pe_int (pv 6)) (pv 3) (nomark _)) (pw_or1 (pt_cmpR op_eq (pv 4) pe_str (nomark _))))) (pss_one (ps_ret (pv 5))) pss_nil)
      (pss_one (ps_ret (pe_op op_add (pv 5) (pe_callTy call_int1 (by rfl) B.int (by decide +kernel) (pa_cons (pe_or (pe_cmpR op_eq (pv 4) pe_str (nomark _)) (pe_one (pe_cmpR op_eq (pe_op op_mod (pv 5) pe_int) pe_int (nomark _)))) pa_nil)))))))))), ?_⟩
    have b0 := S.s0
    have b1 := S.s1
    have b2 := S.o0
    have b3 := S.o1
    have b4 := hv.1
    have b5 := hv.2
    have b6 := div_bd (x := v - o) (b := 2 ^ 1001) S.s0 (by omega) (by omega)
    have rr : v - o - s * ((v - o) / s) = (v - o) % s := by
      have := Fg.eq
      omega
    walk_at "rd"
    refine ⟨p, _, rfl, SqT.of hp, rfl, _, _, rfl, _, _, rfl, _, _, rfl, rfl, ?_⟩
    walk_at "rd"
    refine ⟨fdiv_ok _ (by omega) (lg_big (by omega) (by omega)), ?_⟩
    walk_at "rd"
    refine ⟨mulW (by omega) (by omega), ?_⟩
    walk_at "rd"
    refine ⟨rfl, ?_⟩
    walk_at "rd"
    obtain ⟨_, r0, r1, wh⟩ := Fg
    generalize figM o s m v = k at q' wh
    -- the three ways of a mode
    have fin0 : k = ((v - o) / s) → Q (.int ((v - o) / s)) H := fun e => by rw [← e]; exact q'
    have fin1 : k = ((v - o) / s) + 1 → Q (.int (((v - o) / s) + 1)) H := fun e => by rw [← e]; exact q'
    have low : goesUp m s ((v - o) / s) ((v - o) % s) = false → k = ((v - o) / s) := fun h => by
      rcases wh with ⟨g, _⟩ | ⟨_, e⟩
      · rw [h] at g; cases g
      · exact e
    have up : goesUp m s ((v - o) / s) ((v - o) % s) = true → k = ((v - o) / s) + 1 := fun h => by
      rcases wh with ⟨_, e⟩ | ⟨g, _⟩
      · exact e
      · rw [h] at g; cases g
    refine ite2 (fun h => ?_) (fun h1 => ?_)
    · walk_at "rd"
      refine fin0 (low ?_)
      rw [str_t h, go_down]
    walk_at "rd"
    refine ⟨rfl, ?_⟩
    walk_at "rd"
    refine ite2 (fun h => ?_) (fun h2 => ?_)
    · walk_at "rd"
      refine fin0 (low ?_)
      have e : ((v - o) % s) = 0 := by have := int_t h; omega
      rw [e]
      exact go_zero S.md S.s0
    have n1 := str_f h1
    have n2 : ¬ ((v - o) % s) = 0 := fun z => int_f h2 (by omega)
    walk_at "rd"
    refine ⟨rfl, ?_⟩
    walk_at "rd"
    refine ite2 (fun h => ?_) (fun h3 => ?_)
    · walk_at "rd"
      refine fin1 (up ?_)
      rw [str_t h, go_up]
      exact decide_eq_true (by omega)
    have n3 := str_f h3
    walk_at "rd"
    refine ⟨.inl ⟨by decide, by decide⟩, ?_⟩
    walk_at "rd"
    have hh : half m := by
      rcases S.md with e | e | e
      · exact absurd e n1
      · exact absurd e n3
      · exact e
    refine ite2 (fun h => ?_) (fun h4 => ?_)
    · walk_at "rd"
      have g : s < 2 * ((v - o) % s) := by have := of_decide_eq_true h; omega
      refine fin1 (up ?_)
      unfold goesUp
      rw [if_neg n1, if_neg n3, if_neg (by omega)]
      exact decide_eq_true g
    have n4 : ¬ s < 2 * ((v - o) % s) := fun z => h4 (decide_eq_true (by omega))
    walk_at "rd"
    refine ⟨.inl ⟨by decide, by decide⟩, ?_⟩
    walk_at "rd"
    refine ite2 (fun h => ?_) (fun h5 => ?_)
    · walk_at "rd"
      have g : 2 * ((v - o) % s) < s := by have := of_decide_eq_true h; omega
      refine fin0 (low ?_)
      unfold goesUp
      rw [if_neg n1, if_neg n3, if_neg (by omega)]
      exact decide_eq_false n4
    have n5 : 2 * ((v - o) % s) = s := by
      have : ¬ 2 * ((v - o) % s) < s := fun z => h5 (decide_eq_true (by omega))
      omega
    walk_at "rd"
    refine ⟨rfl, ?_⟩
    walk_at "rd"
    refine ite2 (fun h => ?_) (fun h6 => ?_)
    · walk_at "rd"
      refine fin0 (low ?_)
      rw [str_t h, go_hd]
      exact decide_eq_false n4
    have n6 := str_f h6
    have kk : k = ((v - o) / s) + (if m = "half_up" then 1 else if ((v - o) / s) % 2 = 1 then 1 else 0) := by
      rcases hh with e | e | e
      · exact absurd e n6
      · rw [if_pos e]
        refine up ?_
        rw [e, go_hu]
        exact decide_eq_true (by omega)
      · have e2 : goesUp m s ((v - o) / s) ((v - o) % s) = decide (((v - o) / s) % 2 = 1) := by
          rw [e, go_he, decide_eq_false n4, decide_eq_true n5]
          rfl
        rw [if_neg (by rw [e]; exact he_hu)]
        by_cases z : ((v - o) / s) % 2 = 1
        · rw [if_pos z]
          exact up (by rw [e2]; exact decide_eq_true z)
        · rw [if_neg z, Int.add_zero]
          exact low (by rw [e2]; exact decide_eq_false z)
    walk_at "rd"
    refine ⟨rfl, ?_⟩
    walk_at "rd"
    refine ite2 (fun h => ?_) (fun h7 => ?_)
    · refine .inr ⟨true, rfl, ?_⟩
      walk_at "rd"
      rw [if_pos (str_t h)] at kk
      exact fin1 kk
    · rw [if_neg (str_f h7)] at kk
      walk_at "rd"
      refine ⟨(by show (0 : Int) < 2; decide), ?_⟩
      walk_at "rd"
      refine ⟨rfl, .inr ⟨_, rfl, ?_⟩⟩
      walk_at "rd"
      show Q (.int (((v - o) / s) + if decide (V.int (((v - o) / s) % 2) = V.int 1) = true then 1 else 0)) H
      rw [dec_int]
      by_cases z : ((v - o) / s) % 2 = 1
      · rw [if_pos z] at kk
        rw [if_pos (decide_eq_true z)]
        exact fin1 kk
      · rw [if_neg z, Int.add_zero] at kk
        rw [if_neg (by rw [decide_eq_false z]; decide), Int.add_zero]
        exact fin0 kk
theorem ok_L_handed {f : Addr} {fd : FuncData} (F : Fun K "_law_handed" "_law_handed" s_L_handed f fd) (L : Cal P w K mg base "_law_figure" 1 ["_law_side", "_law_value"] spFig fL dL) : FnOk P w K mg base CX0 2 f fd ["_law_side", "_law_value"] spDue := by
  refine F.ok sc_L_handed (fun vs H Q E h => ?_) (fun cdv A outer s H vs Q E hr h => ?_)
  · obtain ⟨p, o, s, m, v, rfl, _⟩ := h
    rfl
  · obtain ⟨p, o, s, m, v, rfl, hp, S, hv, q⟩ := h
    refine ⟨_, pss_one (ps_ret (pe_op op_add (pe_ix ix_tup (pv 0) pe_int (fun _ _ => rfl)) (pe_op op_mulW (pe_ix ix_tup (pv 0) pe_int (fun _ _ => rfl)) (pcl L hr (by decide) (by rfl) (pa_cons (pv 0) (pa_cons (pv 1) pa_nil)))))), ?_⟩
    walk_at "rd"
    refine ⟨p, _, 0, _, rfl, rfl, SqT.of hp, rfl, ?_⟩
    walk_at "rd"
    refine ⟨p, _, 1, _, rfl, rfl, SqT.of hp, rfl, ?_⟩
    walk_at "rd"
    refine ⟨p, o, s, m, v, rfl, hp, S, hv, fun H' sm => ?_⟩
    walk_at "rd"
    have b1 := fig_bd S hv
    have b2 := S.s0
    have b3 := S.s1
    refine ⟨mulW (by omega) (by omega), ?_⟩
    walk_at "rd"
    exact q H' sm
end
end HT
namespace HT
open PySem L2
def spDiv : Sp := fun vs H Q _ => ∃ a b : Nat, vs = [.int (a : Int), .int (b : Int)] ∧ Q (.int ((Nat.gcd a b : Nat) : Int)) H
section
variable {P : Program} {w : World} {K : PySem.W.Frag} {mg : Str → Option Value} {base : Heap} {fW fF : Addr} {dW dF : FuncData}
theorem ok_div {f : Addr} {fd : FuncData} (F : Fun K "_law_divisor" "_law_divisor" s_L_divisor f fd) (B : Blt mg) : FnOk P w K mg base CX0 1 f fd ["_law_one", "_law_other"] spDiv := by
  refine F.ok sc_L_divisor (fun vs H Q E h => ?_) (fun cdv A outer s0 H vs Q E hr h => ?_)
  · obtain ⟨a, b, rfl, _⟩ := h
    rfl
  · obtain ⟨a, b, rfl, q⟩ := h
    have nd := sc_L_divisor.nd
    refine ⟨_, pss_cons (ps_while PassesOwn.never (pt_cmpR op_ne (pv 1) pe_int (nomark _)) (pss_one (ps_par (i := 0) (j := 1) rfl nd rfl rfl (by decide) rfl rfl (pa_cons (pv 1) (pa_cons (pe_op op_mod (pe_callTy call_int1 (by rfl) B.int (by decide +kernel) (pa_cons (pv 0) pa_nil)) (pv 1)) pa_nil)) (by rfl))))
      (pss_one (ps_ret (pv 0))), ?_⟩
    refine ⟨fun m σ H' => ∃ c d : Nat, m = d ∧ σ = [some (.int (c : Int)), some (.int (d : Int))] ∧ H' = H ∧ Nat.gcd c d = Nat.gcd a b, ⟨b, a, b, rfl, rfl, rfl, rfl⟩, ?_⟩
    rintro d σ H' ⟨c, _, rfl, rfl, rfl, hg⟩
    walk_at "rd"
    refine ⟨rfl, ?_⟩
    rw [dec_int]
    by_cases e : d = 0
    · subst e
      walk_at "rd"
      show Q (.int (c : Int)) H'
      rw [Nat.gcd_zero_right] at hg
      rw [hg]
      exact q
    · have e2 : (!decide ((d : Int) = 0)) = true := by
        rw [decide_eq_false (by omega)]
        rfl
      rw [e2]
      refine ⟨true, rfl, fun σ' H'' => ∃ c' d' : Nat, d' < d ∧ σ' = [some (V.int (c' : Int)), some (V.int (d' : Int))] ∧ H'' = H' ∧ Nat.gcd c' d' = Nat.gcd a b, fun σ' H'' ⟨c', d', l, e1, e2, e3⟩ => ⟨d', l, c', d', rfl, e1, e2, e3⟩, ?_⟩
      walk_at "rd"
      refine ⟨(by show (0 : Int) < (d : Int); omega), ?_⟩
      refine ⟨_, _, rfl, d, c % d, Nat.mod_lt _ (by omega), ?_, rfl, ?_⟩
      · rw [Int.natCast_emod]
        rfl
      · rw [← hg, Nat.gcd_comm c d, Nat.gcd_rec d c, Nat.gcd_comm]
end
end HT
namespace HT
open PySem L2
structure Sd where
  o : Int
  s : Int
  m : Str
/-- the list at l holds sides with these parts -/
structure SidesAt (H : Hp) (l : Addr) (xs : List V) (ss : List Sd) : Prop where
  hl : H l = some (.lst xs)
  len : xs.length = ss.length
  l1 : 1 ≤ ss.length
  l4 : ss.length ≤ 4
  at_ : ∀ (i : Nat) (d : Sd), ss[i]? = some d → ∃ p : Addr, xs[i]? = some (V.ref p) ∧ H p = some (sideV d.o d.s d.m) ∧ SideP d.o d.s d.m
theorem SidesAt.same {H H' : Hp} {l : Addr} {xs : List V} {ss : List Sd} (S : SidesAt H l xs ss) (e : Same H H') : SidesAt H' l xs ss :=
  ⟨e _ _ S.hl, S.len, S.l1, S.l4, fun i d h => let ⟨p, a, b, c⟩ := S.at_ i d h; ⟨p, a, e _ _ b, c⟩⟩
theorem SidesAt.oth {a c : Addr} {t : Nat} {H H' : Hp} {l : Addr} {xs : List V} {ss : List Sd} (S : SidesAt H l xs ss) (R : Src H a c t) (la : l ≠ a) (lc : l ≠ c) (e : Oth a c H H') : SidesAt H' l xs ss :=
  ⟨e _ _ S.hl la lc, S.len, S.l1, S.l4, fun i d h => let ⟨p, x, b, y⟩ := S.at_ i d h; let z := R.nt b; ⟨p, x, e _ _ b z.1 z.2, y⟩⟩
theorem SidesAt.item {H : Hp} {l : Addr} {xs : List V} {ss : List Sd} (S : SidesAt H l xs ss) {i : Nat} {y : V} (h : xs[i]? = some y) : ∃ d p, ss[i]? = some d ∧ y = .ref p ∧ H p = some (sideV d.o d.s d.m) ∧ SideP d.o d.s d.m := by
  have hi : i < ss.length := by have := (List.getElem?_eq_some_iff.mp h).1; rw [S.len] at this; exact this
  obtain ⟨p, e, hp, sp⟩ := S.at_ i ss[i] (List.getElem?_eq_getElem hi)
  rw [h] at e
  exact ⟨ss[i], p, List.getElem?_eq_getElem hi, Option.some.inj e, hp, sp⟩
/-- a side's period -/
def perM (s : Int) (m : Str) : Int := if m = "half_even" then 2 * s else s
theorem perM_bd {o s : Int} {m : Str} (S : SideP o s m) : 1 ≤ perM s m ∧ perM s m ≤ 2 * 10 ^ 30 := by
  have a := S.s0
  have b := S.s1
  unfold perM
  split <;> omega
def perN (d : Sd) : Nat := (perM d.s d.m).toNat
/-- the common period -/
def comN (ss : List Sd) : Nat := ss.foldl (fun n d => n.lcm (perN d)) 1
theorem com_snoc {ss : List Sd} {i : Nat} {d : Sd} (h : ss[i]? = some d) : comN (ss.take (i + 1)) = (comN (ss.take i)).lcm (perN d) := by
  unfold comN
  rw [List.take_succ, h, List.foldl_append]
  rfl
theorem lcm_le {a b : Nat} : a.lcm b ≤ a * b := Nat.div_le_self _ _
theorem com_le : ∀ (ss : List Sd) (n : Nat), (∀ d ∈ ss, SideP d.o d.s d.m) → ss.foldl (fun n d => n.lcm (perN d)) n ≤ n * (2 * 10 ^ 30) ^ ss.length
  | [], n, _ => by simp
  | d :: ss, n, h => by
    have z := com_le ss (n.lcm (perN d)) fun e he => h e (List.mem_cons_of_mem _ he)
    have b := perM_bd (h d List.mem_cons_self)
    have y : perN d ≤ 2 * 10 ^ 30 := by unfold perN; omega
    refine Nat.le_trans z ?_
    generalize (2 * 10 ^ 30 : Nat) = k at y
    rw [List.length_cons, Nat.pow_succ, Nat.mul_comm (k ^ ss.length), ← Nat.mul_assoc]
    exact Nat.mul_le_mul_right _ (Nat.le_trans lcm_le (Nat.mul_le_mul_left _ y))
theorem SidesAt.side {H : Hp} {l : Addr} {xs : List V} {ss : List Sd} (S : SidesAt H l xs ss) : ∀ d ∈ ss, SideP d.o d.s d.m := fun d hd => by
  obtain ⟨i, hi, rfl⟩ := List.mem_iff_getElem.mp hd
  obtain ⟨_, _, _, sp⟩ := S.at_ i _ (List.getElem?_eq_getElem hi)
  exact sp
theorem com_lt {ss : List Sd} (h : ∀ d ∈ ss, SideP d.o d.s d.m) (l4 : ss.length ≤ 4) : comN ss < 2 ^ 420 := by
  have z := com_le ss 1 h
  rw [Nat.one_mul] at z
  refine Nat.lt_of_le_of_lt z (Nat.lt_of_le_of_lt (Nat.pow_le_pow_right (by decide) l4) ?_)
  decide
theorem com_take {ss : List Sd} (h : ∀ d ∈ ss, SideP d.o d.s d.m) (l4 : ss.length ≤ 4) (i : Nat) : comN (ss.take i) < 2 ^ 420 :=
  com_lt (fun d hd => h d (List.mem_of_mem_take hd)) (Nat.le_trans (List.length_take_le' _ _) l4)
theorem com_pos : ∀ (ss : List Sd) (n : Nat), 0 < n → (∀ d ∈ ss, SideP d.o d.s d.m) → 0 < ss.foldl (fun n d => n.lcm (perN d)) n
  | [], n, hn, _ => hn
  | d :: ss, n, hn, h => by
    have b := perM_bd (h d List.mem_cons_self)
    have y : 0 < perN d := by unfold perN; omega
    exact com_pos ss _ (Nat.lcm_pos hn y) fun e he => h e (List.mem_cons_of_mem _ he)
/-- as the law has it -/
theorem lcm_div (a b : Nat) : a / Nat.gcd a b * b = a.lcm b := by
  unfold Nat.lcm
  rw [Nat.mul_comm (a / Nat.gcd a b), ← Nat.mul_div_assoc _ (Nat.gcd_dvd_left a b), Nat.mul_comm]
end HT
namespace HT
open PySem L2
theorem lg_any {n : Nat} (h : n < 2 ^ 500) : ((n : Int)).natAbs.log2 < 9000 := by
  rw [Int.natAbs_natCast]
  by_cases e : n = 0
  · rw [e]; decide
  · have := (Nat.log2_lt e).mpr h
    omega
def spSmall : Sp := fun vs H Q _ => ∃ (a c : Addr) (t most : Nat), vs = [.ref a, .int (most : Int)] ∧ Src H a c t ∧ 1 ≤ most ∧ most ≤ 1000 ∧ t + 5 < 2 ^ 30 ∧
  ∀ (p : Addr) (o s : Int) (m : Str) (H' : Hp) (t' : Nat), H' p = some (sideV o s m) → -30 ≤ o → o ≤ 29 → 1 ≤ s → s ≤ (most : Int) → Mode m → t' ≤ t + 3 → Src H' a c t' → Oth a c H H' → Q (.ref p) H'
def spPer : Sp := fun vs H Q _ => ∃ (l : Addr) (xs : List V) (ss : List Sd), vs = [.ref l] ∧ SidesAt H l xs ss ∧ Q (.int (comN ss : Int)) H
def spSet : Sp := fun vs H Q _ => ∃ (a c : Addr) (t most many : Nat), vs = [.ref a, .int (most : Int), .int (many : Int)] ∧ Src H a c t ∧ 1 ≤ most ∧ most ≤ 1000 ∧ 1 ≤ many ∧ many ≤ 4 ∧ t + 50 < 2 ^ 30 ∧
  ∀ (l : Addr) (xs : List V) (ss : List Sd) (H' : Hp) (t' : Nat), SidesAt H' l xs ss → ss.length ≤ many → (∀ d ∈ ss, -30 ≤ d.o ∧ d.o ≤ 29 ∧ d.s ≤ (most : Int)) → l ≠ a → l ≠ c → t' ≤ t + 20 → Src H' a c t' → Oth a c H H' → Q (.ref l) H'
section
variable {P : Program} {w : World} {K : PySem.W.Frag} {mg : Str → Option Value} {base : Heap} {fD fP fS fV : Addr} {dD dP dS dV : FuncData}
theorem ok_small {f : Addr} {fd : FuncData} (F : Fun K "_law_small_side" "_law_small_side" s_L_small_side f fd) (D : Cal P w K mg base "_law_draw" 1 ["_law_source_here", "_law_limit"] spDraw fD dD)
    (Pk : Cal P w K mg base "_law_pick" 2 ["_law_source_here", "_law_values"] spPick fP dP) : FnOk P w K mg base CX0 3 f fd ["_law_source_here", "_law_most"] spSmall := by
  refine F.ok sc_L_small_side (fun vs H Q E h => ?_) (fun cdv A outer s0 H vs Q E hr h => ?_)
  · obtain ⟨a, c, t, most, rfl, _⟩ := h
    rfl
  · obtain ⟨a, c, t, most, rfl, S, m1, m2, ht, q⟩ := h
    have nd := sc_L_small_side.nd
    refine ⟨_, (pss_cons (ps_set (i := 2) nd rfl (Or.inl rfl) (pe_op op_sub (pcl D hr (by decide) (by rfl) (pa_cons (pv 0) (pa_cons pe_int pa_nil))) pe_int))
      (pss_one (ps_ret (pe_tup (pa_cons (pv 2) (pa_cons (pe_op op_add pe_int (pcl D hr (by decide) (by rfl) (pa_cons (pv 0) (pa_cons (pv 1) pa_nil)))) (pa_cons (pcl Pk hr (by decide) (by rfl) (pa_cons (pv 0) (pa_cons (pe_lst (pa_cons pe_str (pa_cons pe_str (pa_cons pe_str (pa_cons pe_str (pa_cons pe_str pa_nil)))))) pa_nil))) pa_nil))))))), ?_⟩
    walk_at "rd"
    refine ⟨a, c, t, 60, rfl, S, by omega, by decide, by decide, fun k1 H1 k10 k11 S1 O1 => ?_⟩
    walk_at "rd"
    refine ⟨a, c, t + 1, (most : Int), rfl, S1, by omega, by omega, lg_small (by omega) (by omega), fun k2 H2 k20 k21 S2 O2 => ?_⟩
    walk_at "rd"
    refine ⟨(by show 5 ≤ sizeLine; decide), fun l nl => ?_⟩
    obtain ⟨la, lc⟩ := S2.na nl
    refine ⟨a, c, _, l, _, rfl, S2.new nl, by omega, upd_same, la, lc, by decide, by decide, fun x H3 hx S3 O3 => ?_⟩
    obtain ⟨md, rfl, hmd⟩ := mode_of hx
    refine ⟨(by show 3 ≤ sizeLine; decide), fun p np => ?_⟩
    exact q p _ _ md _ (t + 1 + 1 + 1) upd_same (by omega) (by omega) (by omega) (by omega) hmd (by omega) (S3.new np) ((((O1.trans O2).new nl).trans O3).new np)
theorem ok_period {f : Addr} {fd : FuncData} (F : Fun K "_law_period" "_law_period" s_L_period f fd) (B : Blt mg) (Dv : Cal P w K mg base "_law_divisor" 1 ["_law_one", "_law_other"] spDiv fV dV) : FnOk P w K mg base CX0 2 f fd ["_law_sides"] spPer := by
  refine F.ok sc_L_period (fun vs H Q E h => ?_) (fun cdv A outer s0 H vs Q E hr h => ?_)
  · obtain ⟨l, xs, ss, rfl, _⟩ := h
    rfl
  · obtain ⟨l, xs, ss, rfl, SS, q⟩ := h
    have nd := sc_L_period.nd
    refine ⟨_, (pss_cons (ps_set (i := 1) nd rfl (Or.inl rfl) pe_int)
      (pss_cons (ps_for PassesOwn.never rfl (pi_list (pv 0)) (pg_tup (by rfl) (pgs_cons (pg_name (i := 2) nd rfl (Or.inl rfl)) (pgs_cons (pg_name (i := 3) nd rfl (Or.inl rfl)) (pgs_cons (pg_name (i := 4) nd rfl (Or.inl rfl)) pgs_nil)))) (pss_cons (ps_set (i := 5) nd rfl (Or.inl rfl) (pe_op op_mulW (pv 3) (pe_op op_add pe_int (pe_callTy call_int1 (by rfl) B.int (by decide +kernel) (pa_cons (pe_cmpR op_eq (pv 4) pe_str (nomark _)) pa_nil)))))
      (pss_one (ps_set (i := 1) nd rfl (Or.inl rfl) (pe_op op_mulW (pe_op op_fdivW (pv 1) (pcl Dv hr (by decide) (by rfl) (pa_cons (pv 1) (pa_cons (pv 5) pa_nil)))) (pv 5))))))
      (pss_one (ps_ret (pv 1))))), ?_⟩
    walk_at "rd"
    refine ⟨⟨_, SqL.of SS.hl⟩, ?_⟩
    refine for_list (K := K) (a := l) (xs := xs) (fun i st H' => ∃ x2 x3 x4 x5 : Option V, st = [some (.ref l), some (.int (comN (ss.take i) : Int)), x2, x3, x4, x5] ∧ H' = H) ⟨none, none, none, none, rfl, rfl⟩ (fun _ _ _ _ ⟨_, _, _, _, _, e⟩ => e ▸ SqL.of SS.hl) ?_ ?_
    · rintro i y st H' hy ⟨x2, x3, x4, x5, rfl, rfl⟩
      obtain ⟨d, p, ed, rfl, hp, sp⟩ := SS.item hy
      walk_at "rd"
      refine ⟨p, _, rfl, SqT.of hp, rfl, _, _, rfl, _, _, rfl, _, _, rfl, rfl, ?_⟩
      walk_at "rd"
      refine ⟨rfl, ?_⟩
      walk_at "rd"
      refine .inr ⟨_, rfl, ?_⟩
      have s0 := sp.s0
      have s1 := sp.s1
      have pb := perM_bd sp
      have eN : ((perN d : Nat) : Int) = perM d.s d.m := Int.toNat_of_nonneg (by omega)
      have eL : d.s * (1 + if decide (V.str d.m = V.str "half_even") = true then 1 else 0) = ((perN d : Nat) : Int) := by
        rw [eN, dec_str]
        unfold perM
        by_cases h : d.m = "half_even"
        · rw [if_pos (decide_eq_true h), if_pos h]; omega
        · rw [if_neg (fun z => h (of_decide_eq_true z)), if_neg h]; omega
      have bb : ∀ b : Bool, -2 ^ 1010 < (1 + if b = true then (1 : Int) else 0) ∧ (1 + if b = true then (1 : Int) else 0) < 2 ^ 1010 := by
        intro b
        cases b <;> decide +kernel
      replace bb := bb (decide (V.str d.m = V.str "half_even"))
      generalize (if decide (V.str d.m = V.str "half_even") = true then (1 : Int) else 0) = bI at eL bb
      walk_at "rd"
      refine ⟨mulW (by omega) bb, ?_⟩
      walk_at "rd"
      refine ⟨comN (ss.take i), perN d, (by show [V.int _, V.int (d.s * (1 + bI))] = _; rw [eL]), ?_⟩
      have cp : 0 < comN (ss.take i) := com_pos _ 1 (by decide) fun e he => SS.side e (List.mem_of_mem_take he)
      have cl := com_take SS.side SS.l4 i
      have gp : 0 < Nat.gcd (comN (ss.take i)) (perN d) := Nat.gcd_pos_of_pos_left _ cp
      have gl : Nat.gcd (comN (ss.take i)) (perN d) ≤ comN (ss.take i) := Nat.gcd_le_left _ cp
      walk_at "rd"
      refine ⟨fdiv_ok _ (by omega) (lg_any (Nat.lt_of_le_of_lt gl (Nat.lt_trans cl (Nat.pow_lt_pow_right (by decide) (by decide))))), ?_⟩
      walk_at "rd"
      have ed2 : (comN (ss.take i) : Int) / ((Nat.gcd (comN (ss.take i)) (perN d) : Nat) : Int) = ((comN (ss.take i) / Nat.gcd (comN (ss.take i)) (perN d) : Nat) : Int) := (Int.natCast_ediv _ _).symm
      have dl : comN (ss.take i) / Nat.gcd (comN (ss.take i)) (perN d) ≤ comN (ss.take i) := Nat.div_le_self _ _
      have big : (2 : Nat) ^ 420 < 2 ^ 1010 := Nat.pow_lt_pow_right (by decide) (by decide)
      have dn : (0 : Int) ≤ ((comN (ss.take i) / Nat.gcd (comN (ss.take i)) (perN d) : Nat) : Int) := Int.natCast_nonneg _
      have ml : CMulW ((comN (ss.take i) : Int) / ((Nat.gcd (comN (ss.take i)) (perN d) : Nat) : Int)) (d.s * (1 + bI)) := by
        rw [ed2, eL]
        exact mulW (by omega) (by omega)
      refine ⟨ml, ?_⟩
      refine ⟨some (.int d.o), some (.int d.s), some (.str d.m), some (.int (d.s * (1 + bI))), ?_, rfl⟩
      have e9 : (comN (ss.take i) : Int) / ((Nat.gcd (comN (ss.take i)) (perN d) : Nat) : Int) * (d.s * (1 + bI)) = (comN (ss.take (i + 1)) : Int) := by
        rw [eL, ed2, com_snoc ed, ← lcm_div, Int.natCast_mul]
      rw [← e9]
      rfl
    · rintro st H' ⟨x2, x3, x4, x5, rfl, rfl⟩
      rw [SS.len, List.take_length]
      walk_at "rd"
      exact q
theorem ok_set {f : Addr} {fd : FuncData} (F : Fun K "_law_set" "_law_set" s_L_set f fd) (B : Blt mg) (D : Cal P w K mg base "_law_draw" 1 ["_law_source_here", "_law_limit"] spDraw fD dD)
    (Sm : Cal P w K mg base "_law_small_side" 3 ["_law_source_here", "_law_most"] spSmall fS dS) : FnOk P w K mg base CX0 4 f fd ["_law_source_here", "_law_most", "_law_many"] spSet := by
  refine F.ok sc_L_set (fun vs H Q E h => ?_) (fun cdv A outer s0 H vs Q E hr h => ?_)
  · obtain ⟨a, c, t, most, many, rfl, _⟩ := h
    rfl
  · obtain ⟨a, c, t, most, many, rfl, S, m1, m2, n1, n2, ht, q⟩ := h
    have nd := sc_L_set.nd
    refine ⟨_, (pss_one (ps_ret (pe_lc (own := [("_law_k", 3)]) (g := gName 3) (tt := tYes) rfl nd (pi_range1 (by rfl) B.range (pa_cons (pe_op op_add pe_int (pcl D hr (by decide) (by rfl) (pa_cons (pv 0) (pa_cons (pv 2) pa_nil)))) pa_nil)) (blkOk_by (N := ["_law_source_here", "_law_most", "_law_many", "_law_k"]) (sc := defScope s_L_set) (by decide +kernel)) (fun _ _ _ _ _ => pg_name (i := 3) nd rfl (Or.inl rfl)) (fun _ _ _ _ _ => pts_nil) (fun _ _ _ _ _ => (pcl Sm hr (by decide) (by rfl) (pa_cons (pv 0) (pa_cons (pv 1) pa_nil))))))), ?_⟩
    walk_at "rd"
    refine ⟨a, c, t, (many : Int), rfl, S, by omega, by omega, lg_small (by omega) (by omega), fun y H1 y0 y1 S1 O1 => ?_⟩
    walk_at "rd"
    refine ⟨by omega, by omega, fun L nL => ?_⟩
    obtain ⟨La, Lc⟩ := S1.na nL
    refine lc_range (lo := 0) (n := (1 + y).toNat) (fun j H5 => ∃ (xs : List V) (ss : List Sd) (t' : Nat), H5 L = some (.lst xs) ∧ xs.length = j ∧ ss.length = j ∧ (∀ (i : Nat) (d : Sd), ss[i]? = some d → ∃ p : Addr, xs[i]? = some (V.ref p) ∧ H5 p = some (sideV d.o d.s d.m) ∧ SideP d.o d.s d.m) ∧ (∀ d ∈ ss, -30 ≤ d.o ∧ d.o ≤ 29 ∧ d.s ≤ (most : Int)) ∧ t' ≤ t + 1 + 3 * j ∧ Src H5 a c t' ∧ Oth a c H H5)
      ⟨[], [], t + 1, upd_same, rfl, rfl, (fun i d h => nomatch h), (fun d hd => absurd hd List.not_mem_nil), by omega, S1.new nL, O1.new nL⟩ ?_ ?_
    · rintro j H5 hj ⟨xs, ss, t', hL, lx, ls, at_, small, ht', S5, O5⟩
      refine ⟨rfl, ?_⟩
      walk_at "rd"
      refine ⟨a, c, t', most, rfl, S5, m1, m2, by omega, fun p o s m H6 t6 hp b1 b2 b3 b4 md ht6 S6 O6 => ?_⟩
      have hL6 := O6 _ _ hL La Lc
      refine ⟨_, hL6, (by rw [lx]; exact Nat.lt_of_lt_of_le (by omega : j < 100) (by decide)), xs ++ [.ref p], ss ++ [⟨o, s, m⟩], t6, upd_same, by rw [List.length_append, lx]; rfl, by rw [List.length_append, ls]; rfl, ?_, ?_, by omega, ?_, ?_⟩
      · intro i d hd
        rcases Nat.lt_or_ge i ss.length with z | z
        · rw [List.getElem?_append_left z] at hd
          obtain ⟨p2, e1, hp2, sp⟩ := at_ i d hd
          obtain ⟨z1, z2⟩ := S5.nt hp2
          have hp6 := O6 _ _ hp2 z1 z2
          exact ⟨p2, by rw [List.getElem?_append_left (by omega)]; exact e1, (upd_ne (ne_of hp6 hL6 (by intro y; cases y))).trans hp6, sp⟩
        · rw [List.getElem?_append_right z] at hd
          have e0 : i - ss.length = 0 := by
            have := (List.getElem?_eq_some_iff.mp hd).1
            simp at this
            omega
          rw [e0] at hd
          have ed : d = ⟨o, s, m⟩ := by simpa using hd.symm
          subst ed
          exact ⟨p, by rw [List.getElem?_append_right (by omega), show i - xs.length = 0 by omega]; rfl, (upd_ne (ne_of hp hL6 (by intro y; cases y))).trans hp, ⟨by show -(10 : Int) ^ 40 ≤ o; omega, by show o ≤ (10 : Int) ^ 40; omega, b3, by show s ≤ (10 : Int) ^ 30; omega, md⟩⟩
      · intro d hd
        rcases List.mem_append.mp hd with h | h
        · exact small d h
        · rw [List.mem_singleton.mp h]; exact ⟨b1, b2, b4⟩
      · obtain ⟨cs, hcs, hl2⟩ := S6.cl
        exact ⟨S6.ne, (upd_ne La.symm).trans S6.ob, cs, (upd_ne Lc.symm).trans hcs, hl2⟩
      · intro b u z na nc
        have z5 := O5 b u z na nc
        have z6 := O6 b u z5 na nc
        exact (upd_ne (ne_of_none (O1 b u z na nc) nL)).trans z6
    · rintro H5 ⟨xs, ss, t', hL, lx, ls, at_, small, ht', S5, O5⟩
      exact q L xs ss H5 t' ⟨hL, by omega, by omega, by omega, at_⟩ (by omega) small La Lc (by omega) S5 O5
end
end HT
namespace HT
open PySem L2
def nV (k : Nat) : V := .int (k : Int)
structure AmG (mg : Str → Option Value) : Prop where
  isi : mg "isinstance" = none
  list : mg "list" = none
  len : mg "len" = none
  ms : ∃ t, mg "MOST_SIDES" = some (.int 4 t)
  lcm : mg "lcm" = some (.builtin "math.lcm")
def spIsSide : Sp := fun vs H Q _ => ∃ (p : Addr) (o s : Int) (m : Str), vs = [.ref p] ∧ H p = some (sideV o s m) ∧ SideP o s m ∧ Q (.bl true) H
def spSides : Sp := fun vs H Q _ => ∃ (l : Addr) (xs : List V) (ss : List Sd), vs = [.ref l] ∧ SidesAt H l xs ss ∧ Q .non H
def spPerOf : Sp := fun vs H Q _ => ∃ (p : Addr) (o s : Int) (m : Str), vs = [.ref p] ∧ H p = some (sideV o s m) ∧ SideP o s m ∧ Q (.int (perM s m)) H
def spNums : Sp := fun vs H Q _ => ∃ (kl : Addr) (ks : List Nat) (n : Nat), vs = [.ref kl, .int (n : Int)] ∧ H kl = some (.lst (ks.map nV)) ∧ ks.length ≤ 1000 ∧ (∀ k ∈ ks, k < n) ∧ Q .non H
/-- one hand-over more -/
def stepW (ss : List Sd) (a : List Int × Int) (k : Nat) : List Int × Int :=
  match ss[k]? with
  | some d => (a.1 ++ [dueM d.o d.s d.m a.2], dueM d.o d.s d.m a.2)
  | none => (a.1 ++ [a.2], a.2)
def walkW (ss : List Sd) (ks : List Nat) (v : Int) : List Int × Int := ks.foldl (stepW ss) ([], v)
theorem walk_snoc {ss : List Sd} {ks : List Nat} {v : Int} {i k : Nat} (h : ks[i]? = some k) : walkW ss (ks.take (i + 1)) v = stepW ss (walkW ss (ks.take i) v) k := by
  unfold walkW
  rw [List.take_succ, h, List.foldl_append]
  rfl
theorem due_far {o s v b : Int} {m : Str} (S : SideP o s m) (h : -b < v ∧ v < b) : -(b + 10 ^ 30) < dueM o s m v ∧ dueM o s m v < b + 10 ^ 30 := by
  have h1 := due_near (o := o) (v := v) S.md S.s0
  have h2 := S.s1
  omega
def spAlong : Sp := fun vs H Q _ => ∃ (l : Addr) (xs : List V) (ss : List Sd) (kl : Addr) (ks : List Nat) (v : Int), vs = [.ref l, .ref kl, .int v] ∧ SidesAt H l xs ss ∧ H kl = some (.lst (ks.map nV)) ∧ ks.length ≤ 1000 ∧ (∀ k ∈ ks, k < ss.length) ∧ (-2 ^ 200 < v ∧ v < 2 ^ 200) ∧
  ∀ (d : Addr) (H' : Hp), H d = none → Same H H' → H' d = some (.lst ((walkW ss ks v).1.map V.int)) → Q (.ref d) H'
section
variable {P : Program} {w : World} {K : PySem.W.Frag} {mg : Str → Option Value} {base : Heap} {aM c0 fC fB fV fN fW fS : Addr} {dC dB dV dN dW dS : FuncData}
theorem ok_is_side {f : Addr} {fd : FuncData} (F : Fun K "is_side" "is_side" s_is_side f fd) (g0 : mg "InvalidSide" = some (.ref c0)) (Ck : Cal P w K mg base "check_side" 3 ["side"] spCheckSide fC dC) : FnOk P w K mg base CX0 4 f fd ["thing"] spIsSide := by
  refine F.ok sc_is_side (fun vs H Q E h => ?_) (fun cdv A outer s0 H vs Q E hr h => ?_)
  · obtain ⟨p, o, s, m, rfl, _⟩ := h
    rfl
  · obtain ⟨p, o, s, m, rfl, hp, S, q⟩ := h
    refine ⟨_, pss_cons (ps_try_only rfl rfl ⟨rfl, by decide, .inl g0⟩ takes0 (fun W pn xe tk _ => pss_one (ps_expr (pcl Ck hr (by decide) (by rfl) (pa_cons (pv 0) pa_nil)))) (fun a oe cls d pn _ _ => pss_one (ps_ret pe_bl))) (pss_one (ps_ret pe_bl)), ?_⟩
    walk_at "rd"
    refine ⟨p, o, s, m, rfl, hp, S, ?_⟩
    walk_at "rd"
    exact q
theorem ok_sides {f : Addr} {fd : FuncData} (F : Fun K "check_sides" "check_sides" s_check_sides f fd) (A' : AmG mg) (Ck : Cal P w K mg base "is_side" 4 ["thing"] spIsSide fC dC) : FnOk P w K mg base CX0 5 f fd ["sides"] spSides := by
  refine F.ok sc_check_sides (fun vs H Q E h => ?_) (fun cdv A outer s0 H vs Q E hr h => ?_)
  · obtain ⟨l, xs, ss, rfl, _⟩ := h
    rfl
  · obtain ⟨l, xs, ss, rfl, SS, q⟩ := h
    have nd := sc_check_sides.nd
    obtain ⟨tms, hms⟩ := A'.ms
    refine ⟨_, pss_cons (ps_if (PW.pt (pw_or (pt_not (pt_val (pe_callB call_isi (by rfl) A'.isi (by decide +kernel) (pa_cons (pv 0) (pa_cons (pe_bltn (v := .ty "list") (by rfl) A'.list (by decide +kernel) rfl) pa_nil)))))
        (pw_or1 (pt_not (pt_chain op_le op_le pe_int (pe_callB call_len_seq (by rfl) A'.len PySem.boot_len (pa_cons (pv 0) pa_nil)) (pe_glob (v := .int 4) (by rfl) hms ⟨_, rfl⟩)))))) (pss_one ps_never) pss_nil)
      (pss_one (ps_for PassesOwn.never rfl (pi_list (pv 0)) (pg_name (i := 1) nd rfl (Or.inl rfl))
        (pss_one (ps_if (pt_not (pt_val (pcl Ck hr (by decide) (by rfl) (pa_cons (pv 1) pa_nil)))) (pss_one ps_never) pss_nil)))), ?_⟩
    walk_at "rd"
    refine ⟨_, _, _, _, _, rfl, .ty "list", .base (.lst SS.hl), kit_ty (r := true) (by decide +kernel), ?_⟩
    walk_at "rd"
    refine ⟨l, _, rfl, .inl (SqL.of SS.hl), ?_⟩
    have l1 := SS.l1
    have l4 := SS.l4
    have ln := SS.len
    walk_at "rd"
    refine ite2 (fun _ => ?_) (fun z => absurd (decide_eq_true (by omega)) z)
    walk_at "rd"
    refine ite2 (fun z => ?_) (fun _ => ?_)
    · exfalso
      have e : decide ((xs.length : Int) ≤ 4) = true := decide_eq_true (by omega)
      exact not_t z e
    walk_at "rd"
    refine ⟨⟨_, SqL.of SS.hl⟩, ?_⟩
    refine for_list (K := K) (a := l) (xs := xs) (fun i σ H' => ∃ y : Option V, σ = [some (.ref l), y] ∧ H' = H) ⟨none, rfl, rfl⟩ (fun _ _ _ _ ⟨_, _, e⟩ => e ▸ SqL.of SS.hl) ?_ ?_
    · rintro i y σ H' hy ⟨z, rfl, rfl⟩
      obtain ⟨d, p, ed, rfl, hp, sp⟩ := SS.item hy
      walk_at "rd"
      refine ⟨p, d.o, d.s, d.m, rfl, hp, sp, _, rfl, ?_⟩
      refine ite2 (fun z => (not_t z rfl).elim) (fun _ => ?_)
      exact ⟨_, rfl, rfl⟩
    · rintro σ H' ⟨z, rfl, rfl⟩
      exact q
theorem ok_per {f : Addr} {fd : FuncData} (F : Fun K "period_of" "period_of" s_period_of f fd) : FnOk P w K mg base CX0 1 f fd ["side"] spPerOf := by
  refine F.ok sc_period_of (fun vs H Q E h => ?_) (fun cdv A outer s0 H vs Q E hr h => ?_)
  · obtain ⟨p, o, s, m, rfl, _⟩ := h
    rfl
  · obtain ⟨p, o, s, m, rfl, hp, S, q⟩ := h
    have nd := sc_period_of.nd
    refine ⟨_, (pss_cons (ps_asg (pv 0) (pg_tup (by rfl) (pgs_cons (pg_name (i := 1) nd rfl (Or.inl rfl)) (pgs_cons (pg_name (i := 2) nd rfl (Or.inl rfl)) (pgs_cons (pg_name (i := 3) nd rfl (Or.inl rfl)) pgs_nil)))))
      (pss_cons (ps_if (pt_cmpR op_eq (pv 3) pe_str (nomark _)) (pss_one (ps_ret (pe_op op_mul pe_int (pv 2)))) pss_nil)
      (pss_one (ps_ret (pv 2))))), ?_⟩
    walk_at "rd"
    refine ⟨p, _, rfl, SqT.of hp, rfl, _, _, rfl, _, _, rfl, _, _, rfl, rfl, ?_⟩
    walk_at "rd"
    refine ⟨rfl, ?_⟩
    walk_at "rd"
    unfold perM at q
    refine ite2 (fun h => ?_) (fun h => ?_)
    · rw [if_pos (str_t h)] at q
      walk_at "rd"
      refine ⟨.inl ⟨by decide, by decide⟩, ?_⟩
      exact q
    · rw [if_neg (str_f h)] at q
      walk_at "rd"
      exact q
end
end HT
namespace HT
open PySem L2
theorem log_lt {n k : Nat} (h : n < 2 ^ (k + 1)) : n.log2 ≤ k := by
  by_cases h0 : n = 0
  · subst h0
    rw [Nat.log2_zero]
    exact Nat.zero_le _
  · exact Nat.le_of_lt_succ ((Nat.log2_lt h0).mpr h)
theorem lcm_lt {a b i j : Nat} (ha : a < 2 ^ i) (hb : b < 2 ^ j) : a.lcm b < 2 ^ (i + j) := by
  rw [Nat.pow_add]
  exact Nat.lt_of_le_of_lt (PySem.W.mc_lcm_le a b) (Nat.mul_lt_mul'' ha hb)
def rLcm2 : List V → Hp → VK → Prop := fun vs H Q => ∃ a b : Int, vs = [.int a, .int b] ∧ a.natAbs < 2 ^ 2000 ∧ b.natAbs < 2 ^ 2000 ∧ Q (.int (((a.natAbs.lcm b.natAbs : Nat) : Int))) H
theorem cr_lcm2 {X : Cx} : CallR X (.builtin "math.lcm") rLcm2 := by
  intro pins s σ H vs us Q I r h
  obtain ⟨a, b, rfl, ha, hb, q⟩ := h
  obtain ⟨u1, u2, rfl, r1, r2⟩ := vals2 r
  obtain ⟨t, rfl⟩ := r1
  obtain ⟨u, rfl⟩ := r2
  have hab := lcm_lt ha hb
  have e1 : Nat.lcm 1 a.natAbs = a.natAbs := PySem.W.mc_lcm_one _
  have two : ∀ {k : Nat}, 1 < 2 ^ (k + 1) := fun {k} => Nat.one_lt_two_pow (by omega)
  have g := PySem.W.mg_run_lcm a t b u
    (by have := log_lt (n := max 1 a.natAbs) (k := 1999) (Nat.max_lt.mpr ⟨two, ha⟩); omega)
    (by have := log_lt (n := max a.natAbs b.natAbs) (k := 1999) (Nat.max_lt.mpr ⟨ha, hb⟩); omega)
    (by rw [e1]; exact PySem.W.mc_size (k := 100) (Nat.le_trans (Nat.le_of_lt hab) (Nat.pow_le_pow_right (by decide) (by decide))) (by decide))
  rw [e1] at g
  exact PySem.call_function_meets PySem.W.MGF.kind_lcm PySem.W.MGF.plain_lcm PySem.W.MGF.entry_lcm (PySem.W.MGF.args_lcm _ _) g.meets ⟨.int _, H, I.tok _, ⟨_, rfl⟩, q⟩
section
variable {P : Program} {w : World} {K : PySem.W.Frag} {mg : Str → Option Value} {base : Heap} {aM c0 fC fB fV fN fW fS : Addr} {dC dB dV dN dW dS : FuncData}
theorem ok_common {f : Addr} {fd : FuncData} (F : Fun K "common_period" "common_period" s_common_period f fd) (A' : AmG mg) (Pe : Cal P w K mg base "period_of" 1 ["side"] spPerOf fC dC) : FnOk P w K mg base CX0 2 f fd ["sides"] spPer := by
  refine F.ok sc_common_period (fun vs H Q E h => ?_) (fun cdv A outer s0 H vs Q E hr h => ?_)
  · obtain ⟨l, xs, ss, rfl, _⟩ := h
    rfl
  · obtain ⟨l, xs, ss, rfl, SS, q⟩ := h
    have nd := sc_common_period.nd
    refine ⟨_, pss_cons (ps_set (i := 1) nd rfl (Or.inl rfl) pe_int)
      (pss_cons (ps_for PassesOwn.never rfl (pi_list (pv 0)) (pg_name (i := 2) nd rfl (Or.inl rfl)) (pss_one (ps_set (i := 1) nd rfl (Or.inl rfl) (pe_callBfun cr_lcm2 (by rfl) A'.lcm (pa_cons (pv 1) (pa_cons (pcl Pe hr (by decide) (by rfl) (pa_cons (pv 2) pa_nil)) pa_nil))))))
      (pss_one (ps_ret (pv 1)))), ?_⟩
    walk_at "rd"
    refine ⟨⟨_, SqL.of SS.hl⟩, ?_⟩
    refine for_list (K := K) (a := l) (xs := xs) (fun i st H' => ∃ x2 : Option V, st = [some (.ref l), some (.int (comN (ss.take i) : Int)), x2] ∧ H' = H) ⟨none, rfl, rfl⟩ (fun _ _ _ _ ⟨_, _, e⟩ => e ▸ SqL.of SS.hl) ?_ ?_
    · rintro i y st H' hy ⟨x2, rfl, rfl⟩
      obtain ⟨d, p, ed, rfl, hp, sp⟩ := SS.item hy
      walk_at "rd"
      refine ⟨p, d.o, d.s, d.m, rfl, hp, sp, ?_⟩
      have pb := perM_bd sp
      have cl := com_take SS.side SS.l4 i
      have big : (2 : Nat) ^ 420 < 2 ^ 2000 := Nat.pow_lt_pow_right (by decide) (by decide)
      have big2 : (2 : Nat) ^ 120 < 2 ^ 2000 := Nat.pow_lt_pow_right (by decide) (by decide)
      have e2 : (perM d.s d.m).natAbs = perN d := by unfold perN; omega
      refine ⟨_, _, rfl, ?_, ?_, ?_⟩
      · rw [Int.natAbs_natCast]; omega
      · rw [e2]; unfold perN; omega
      · rw [Int.natAbs_natCast, e2, ← com_snoc ed]
        exact ⟨_, rfl, rfl⟩
    · rintro st H' ⟨x2, rfl, rfl⟩
      rw [SS.len, List.take_length]
      walk_at "rd"
      exact q
end
end HT
namespace HT
open PySem L2
theorem due_more {o s : Int} {m : Str} {v : Int} (hm : Mode m) (hs : 1 ≤ s) (n : Nat) : dueM o s m (v + s * 2 * (n : Int)) = dueM o s m v + s * 2 * (n : Int) := by
  induction n with
  | zero => rw [show v + s * 2 * ((0 : Nat) : Int) = v by simp]; simp
  | succ n ih =>
    have e : s * 2 * ((n + 1 : Nat) : Int) = s * 2 * (n : Int) + s * 2 := by
      rw [show ((n + 1 : Nat) : Int) = (n : Int) + 1 by omega, Int.mul_add, Int.mul_one]
    rw [e, show v + (s * 2 * (n : Int) + s * 2) = v + s * 2 * (n : Int) + s * 2 by omega, due_two hm hs, ih]
    omega
theorem due_per {o s : Int} {m : Str} {v : Int} (hm : Mode m) (hs : 1 ≤ s) (t : Int) : dueM o s m (v + s * 2 * t) = dueM o s m v + s * 2 * t := by
  rcases Int.le_total 0 t with h | h
  · obtain ⟨n, rfl⟩ := Int.eq_ofNat_of_zero_le h
    exact due_more hm hs n
  · obtain ⟨n, hn⟩ := Int.eq_ofNat_of_zero_le (show 0 ≤ -t by omega)
    have := due_more (o := o) (v := v + s * 2 * t) hm hs n
    have e : s * 2 * (n : Int) = -(s * 2 * t) := by rw [← hn, Int.mul_neg]
    rw [e, show v + s * 2 * t + -(s * 2 * t) = v by omega] at this
    omega
/-- the order of the sides (o, s, m) and (p, u, q) matters for x -/
def diffX (o s : Int) (m : Str) (p u : Int) (q : Str) (x : Int) : Prop := dueM p u q (dueM o s m x) ≠ dueM o s m (dueM p u q x)
theorem due_com {o s : Int} {m : Str} {v : Int} (hm : Mode m) (hs : 1 ≤ s) (t : Int) : dueM o s m (v + perM s m * t) = dueM o s m v + perM s m * t := by
  unfold perM
  by_cases e : m = "half_even"
  · rw [if_pos e, Int.mul_comm 2 s]
    exact due_per hm hs t
  · rw [if_neg e]
    obtain ⟨eq, r0, r1, wh⟩ := fig_of (o := o) (m := m) (v := v) hs
    generalize (v - o) / s = q at eq wh
    generalize (v - o) % s = r at eq r0 r1 wh
    have g : goesUp m s (q + t) r = goesUp m s q r := by
      unfold goesUp
      rw [if_neg e, if_neg e]
    have F2 : Fig o s m (v + s * t) (q + t) r (figM o s m v + t) := by
      refine ⟨?_, r0, r1, ?_⟩
      · rw [Int.mul_add]; omega
      · rw [g]
        rcases wh with ⟨a, b⟩ | ⟨a, b⟩
        · exact .inl ⟨a, by omega⟩
        · exact .inr ⟨a, by omega⟩
    have z := fig_uniq hs F2
    unfold dueM
    rw [z, Int.mul_add]
    omega
theorem due_dvd {o s : Int} {m : Str} {v L : Int} (hm : Mode m) (hs : 1 ≤ s) (h : perM s m ∣ L) : dueM o s m (v + L) = dueM o s m v + L := by
  obtain ⟨t, rfl⟩ := h
  exact due_com hm hs t
/-- no side raises the value -/
def UnA (ss : List Sd) (x : Int) : Prop := ∀ d ∈ ss, dueM d.o d.s d.m x ≤ x
theorem com_dvd : ∀ (ss : List Sd) (n : Nat), n ∣ ss.foldl (fun n d => n.lcm (perN d)) n ∧ ∀ d ∈ ss, perN d ∣ ss.foldl (fun n d => n.lcm (perN d)) n
  | [], n => ⟨Nat.dvd_refl _, fun d h => absurd h List.not_mem_nil⟩
  | d :: ss, n => by
    obtain ⟨a, b⟩ := com_dvd ss (n.lcm (perN d))
    rw [List.foldl_cons]
    refine ⟨Nat.dvd_trans (Nat.dvd_lcm_left _ _) a, fun e he => ?_⟩
    rcases List.mem_cons.mp he with z | z
    · rw [z]; exact Nat.dvd_trans (Nat.dvd_lcm_right _ _) a
    · exact b e z
theorem per_com {ss : List Sd} {d : Sd} (h : d ∈ ss) (hd : SideP d.o d.s d.m) : perM d.s d.m ∣ (comN ss : Int) := by
  have pa := perM_bd hd
  have ea : ((perN d : Nat) : Int) = perM d.s d.m := Int.toNat_of_nonneg (by omega)
  rw [← ea]
  exact Int.natCast_dvd_natCast.mpr ((com_dvd ss 1).2 d h)
theorem una_com {ss : List Sd} (hs : ∀ d ∈ ss, SideP d.o d.s d.m) (x t : Int) : UnA ss (x + (comN ss : Int) * t) ↔ UnA ss x := by
  have key : ∀ d ∈ ss, dueM d.o d.s d.m (x + (comN ss : Int) * t) = dueM d.o d.s d.m x + (comN ss : Int) * t := fun d hd =>
    due_dvd (hs d hd).md (hs d hd).s0 (Int.dvd_mul_of_dvd_left (per_com hd (hs d hd)))
  constructor
  · intro h d hd
    have := h d hd
    rw [key d hd] at this
    omega
  · intro h d hd
    rw [key d hd]
    have := h d hd
    omega
theorem in_period {c x : Int} (hc : 0 < c) : ∃ y t : Int, x = y + c * t ∧ 0 ≤ y ∧ y < c := by
  refine ⟨x % c, x / c, ?_, Int.emod_nonneg _ (by omega), Int.emod_lt_of_pos _ hc⟩
  have := Int.emod_add_mul_ediv x c
  omega
end HT
namespace HT
open PySem L2
def spWrL : Sp := fun vs H Q _ => ∃ (l : Addr) (xs : List V) (ss : List Sd) (v : Int), vs = [.ref l, .int v] ∧ SidesAt H l xs ss ∧ (-2 ^ 900 < v ∧ v < 2 ^ 900) ∧ ∀ (L : Addr) (H' : Hp), H L = none → Same H H' → H' L = some (.lst ((ss.map fun d => dueM d.o d.s d.m v).map V.int)) → Q (.ref L) H'
section
variable {P : Program} {w : World} {K : PySem.W.Frag} {mg : Str → Option Value} {base : Heap} {fB fH fI fJ fL fM fN : Addr} {dB dH dI dJ dL dM dN : FuncData}
theorem ok_wrl {f : Addr} {fd : FuncData} (F : Fun K "_law_written" "_law_written" s_L_written f fd) (Wr : Cal P w K mg base "_law_handed" 2 ["_law_side", "_law_value"] spDue fB dB) : FnOk P w K mg base CX0 3 f fd ["_law_sides", "_law_value"] spWrL := by
  refine F.ok sc_L_written (fun vs H Q E h => ?_) (fun cdv A outer s0 H vs Q E hr h => ?_)
  · obtain ⟨l, xs, ss, v, rfl, _⟩ := h
    rfl
  · obtain ⟨l, xs, ss, v, rfl, SS, hv, q⟩ := h
    have nd := sc_L_written.nd
    refine ⟨_, (pss_one (ps_ret (pe_lc (own := [("_law_one", 2)]) (g := gName 2) (tt := tYes) rfl nd (pi_list (pv 0)) (blkOk_by (N := ["_law_sides", "_law_value", "_law_one"]) (sc := defScope s_L_written) (by decide +kernel)) (fun _ _ _ _ _ => pg_name (i := 2) nd rfl (Or.inl rfl)) (fun _ _ _ _ _ => pts_nil) (fun _ _ _ _ _ => (pcl Wr hr (by decide) (by rfl) (pa_cons (pv 2) (pa_cons (pv 1) pa_nil))))))), ?_⟩
    walk_at "rd"
    refine ⟨⟨_, SqL.of SS.hl⟩, fun L nL => ?_⟩
    refine lc_list (K := K) (a := l) (xs := xs) (fun i H3 => H3 L = some (.lst (((ss.take i).map fun d => dueM d.o d.s d.m v).map V.int)) ∧ i ≤ ss.length ∧ Same H H3)
      ⟨upd_same, Nat.zero_le _, fun b u z => (upd_ne (ne_of_none z nL)).trans z⟩ (fun _ _ _ ⟨_, _, sm⟩ => SqL.of (sm _ _ SS.hl)) ?_ ?_
    · rintro i y H3 hy ⟨hD, li, sm⟩
      obtain ⟨d, p, ed, rfl, hp, sp⟩ := SS.item hy
      have il : i < ss.length := (List.getElem?_eq_some_iff.mp ed).1
      refine ⟨rfl, ?_⟩
      walk_at "rd"
      refine ⟨p, d.o, d.s, d.m, v, rfl, sm _ _ hp, sp, (by unfold Bd; omega), fun H4 s34 => ?_⟩
      have hD4 := s34 _ _ hD
      have es : (ss.take (i + 1)).map (fun d => dueM d.o d.s d.m v) = (ss.take i).map (fun d => dueM d.o d.s d.m v) ++ [dueM d.o d.s d.m v] := by
        rw [List.take_succ, ed, List.map_append]
        rfl
      walk_at "rd"
      refine ⟨_, hD4, ?_, ?_, il, fun b u y => (upd_ne (ne_of_none y nL)).trans (s34 _ _ (sm _ _ y))⟩
      · rw [List.length_map, List.length_map]
        exact Nat.lt_of_le_of_lt (Nat.le_trans (List.length_take_le' _ _) SS.l4) (by decide)
      · rw [es, List.map_append]
        exact upd_same
    · rintro H3 ⟨hD, li, sm⟩
      rw [SS.len, List.take_length] at hD
      walk_at "rd"
      exact q L H3 nL sm hD
theorem max_iff {ns : List Int} {m u : Int} (mi : m ∈ ns) (mm : ∀ y ∈ ns, y ≤ m) : m ≤ u ↔ ∀ y ∈ ns, y ≤ u :=
  ⟨fun h y hy => Int.le_trans (mm y hy) h, fun h => h m mi⟩
theorem min_iff {ns : List Int} {m u : Int} (mi : m ∈ ns) (mm : ∀ y ∈ ns, m ≤ y) : u ≤ m ↔ ∀ y ∈ ns, u ≤ y :=
  ⟨fun h y hy => Int.le_trans h (mm y hy), fun h => h m mi⟩
theorem all_due {ss : List Sd} {v : Int} {R : Int → Prop} : (∀ y ∈ ss.map fun d => dueM d.o d.s d.m v, R y) ↔ ∀ d ∈ ss, R (dueM d.o d.s d.m v) := by
  constructor
  · intro h d hd
    exact h _ (List.mem_map.mpr ⟨d, hd, rfl⟩)
  · intro h y hy
    obtain ⟨d, hd, rfl⟩ := List.mem_map.mp hy
    exact h d hd
end
end HT
namespace HT
open PySem L2
theorem lt1 {n : Nat} (h : n + 64 < cLine) : n + 1 < cLine := by omega
theorem same_upd {H : Hp} {a : Addr} {o : HO} (h : H a = none) : Same H (upd H a o) := fun b u z => (upd_ne (ne_of_none z h)).trans z
theorem at0 {x : V} {xs : List V} : atI (x :: xs) 0 = some x := by
  unfold atI ixN
  rw [if_pos (by decide), if_pos (by rw [List.length_cons]; omega)]
  rfl
def sd0 : Sd := ⟨0, 1, "down"⟩
def wD (d : Sd) (x : Int) : Int := dueM d.o d.s d.m x
def upsL (ss : List Sd) (v : Int) : List Nat := (List.range ss.length).filter fun t => decide (v < wD (ss.getD t sd0) v)
def dnsL (ss : List Sd) (v : Int) : List Nat := (List.range ss.length).filter fun t => decide (wD (ss.getD t sd0) v < v)
/-- a side is the only one that raises, or lowers, a value -/
def HitN (ss : List Sd) (v : Int) (i : Nat) : Prop := upsL ss v = [i] ∨ dnsL ss v = [i]
def NeedN (ss : List Sd) (i : Nat) : Prop := ∃ v : Nat, v < comN ss ∧ HitN ss v i
def UnnIs (ss : List Sd) (ns : List Nat) : Prop := (ss.length = 1 ∧ ns = []) ∨ (ss.length ≠ 1 ∧ ns.Pairwise (· < ·) ∧ ∀ i, i ∈ ns ↔ i < ss.length ∧ ¬ NeedN ss i)
def spUnn : Sp := fun vs H Q _ => ∃ (l : Addr) (xs : List V) (ss : List Sd), vs = [.ref l] ∧ SidesAt H l xs ss ∧ comN ss ≤ 20000 ∧ ∀ (L : Addr) (H' : Hp) (ns : List Nat), H L = none → Same H H' → H' L = some (.lst (ns.map nV)) → UnnIs ss ns → Q (.ref L) H'
structure UnG (mg : Str → Option Value) : Prop where
  len : mg "len" = none
  range : mg "range" = none
  enum : mg "enumerate" = none
  mp : ∃ t, mg "MOST_PERIOD_OF_ALL" = some (.int 20000 t)
theorem filt_snoc (p : Nat → Bool) (j : Nat) : (List.range (j + 1)).filter p = (List.range j).filter p ++ (if p j = true then [j] else []) := by
  rw [List.range_succ, List.filter_append, List.filter_cons]
  rfl
/-- the dict of the needed ones -/
def NdK (ss : List Sd) (kvs : List (Key × V)) (i : Nat) : Prop := kvs.length ≤ 2 * i ∧ ∀ n : Nat, (valV kvs (.inl (n : Int))).isSome = true ↔ ∃ v : Nat, v < i ∧ HitN ss v n
def hitK (kvs : List (Key × V)) (L : List Nat) : List (Key × V) := match L with
  | [n] => putK kvs (.inl (n : Int)) (.bl true)
  | _ => kvs
theorem hit_no {kvs : List (Key × V)} {L : List Nat} (h : L.length ≠ 1) : hitK kvs L = kvs := by
  unfold hitK
  split
  · exact absurd rfl h
  · rfl
theorem hit_len (kvs : List (Key × V)) (L : List Nat) : (hitK kvs L).length ≤ kvs.length + 1 := by
  unfold hitK
  split
  · exact length_putK _ _ _
  · omega
theorem hit_some (kvs : List (Key × V)) (L : List Nat) (n : Nat) : (valV (hitK kvs L) (.inl (n : Int))).isSome = true ↔ (valV kvs (.inl (n : Int))).isSome = true ∨ L = [n] := by
  unfold hitK
  split
  · rename_i m
    rw [valV_put]
    by_cases e : (Sum.inl (n : Int) : Key) = .inl (m : Int)
    · have : n = m := by injection e with e; omega
      rw [if_pos e, this]
      exact ⟨fun _ => .inr rfl, fun _ => rfl⟩
    · rw [if_neg e]
      exact ⟨.inl, fun h => h.elim id fun h => absurd (by injection h with h; rw [h]) e⟩
  · rename_i no
    exact ⟨.inl, fun h => h.elim id fun h => absurd h (no n)⟩
theorem NdK.step {ss : List Sd} {kvs : List (Key × V)} {i : Nat} (h : NdK ss kvs i) : NdK ss (hitK (hitK kvs (upsL ss i)) (dnsL ss i)) (i + 1) := by
  obtain ⟨l, k⟩ := h
  have a := hit_len kvs (upsL ss i)
  have b := hit_len (hitK kvs (upsL ss i)) (dnsL ss i)
  refine ⟨by omega, fun n => ?_⟩
  rw [hit_some, hit_some, k]
  constructor
  · rintro ((⟨v, a, b⟩ | h) | h)
    · exact ⟨v, by omega, b⟩
    · exact ⟨i, by omega, .inl h⟩
    · exact ⟨i, by omega, .inr h⟩
  · rintro ⟨v, hv, hb⟩
    by_cases e : v = i
    · subst e
      exact hb.elim (fun h => .inl (.inr h)) .inr
    · exact .inl (.inl ⟨v, by omega, hb⟩)
section
variable {P : Program} {w : World} {K : PySem.W.Frag} {mg : Str → Option Value} {base : Heap} {f1 f2 f3 f4 : Addr} {d1 d2 d3 d4 : FuncData}
theorem ok_unneeded {f : Addr} {fd : FuncData} (F : Fun K "unneeded" "unneeded" s_unneeded f fd) (G : UnG mg) (Sd' : Cal P w K mg base "check_sides" 5 ["sides"] spSides f1 d1) (Pe : Cal P w K mg base "common_period" 2 ["sides"] spPer f2 d2) (Wr : Cal P w K mg base "written" 3 ["side", "value"] spDue f3 d3) : FnOk P w K mg base CX0 6 f fd ["sides"] spUnn := by
  refine F.ok sc_unneeded (fun vs H Q E h => ?_) (fun cdv A outer s0 H vs Q E hr h => ?_)
  · obtain ⟨l, xs, ss, rfl, _⟩ := h
    rfl
  · obtain ⟨l, xs, ss, rfl, SS, c2, q⟩ := h
    have nd := sc_unneeded.nd
    obtain ⟨tmp, hmp⟩ := G.mp
    have hen := G.enum
    refine ⟨_, (pss_cons (ps_expr (pcl Sd' hr (by decide) (by rfl) (pa_cons (pv 0) pa_nil)))
      (pss_cons (ps_set (i := 1) nd rfl (Or.inl rfl) (pcl Pe hr (by decide) (by rfl) (pa_cons (pv 0) pa_nil)))
      (pss_cons (ps_if (pt_cmpR op_gt (pv 1) (pe_glob (v := .int 20000) (by rfl) hmp ⟨_, rfl⟩) (nomark _)) (pss_one ps_never) pss_nil)
      (pss_cons (ps_if (pt_cmpR op_eq (pe_callB call_len_seq (by rfl) G.len PySem.boot_len (pa_cons (pv 0) pa_nil)) pe_int (nomark _)) (pss_one (ps_ret (pe_lst pa_nil))) pss_nil)
      (pss_cons (ps_set (i := 2) nd rfl (Or.inr rfl) pe_dnewK)
      (pss_cons (ps_for PassesOwn.never rfl (pi_range1 (by rfl) G.range (pa_cons (pv 1) pa_nil)) (pg_name (i := 3) nd rfl (Or.inr rfl)) (pss_cons (ps_setLc (i := 5) (own := [("side", 4)]) (g := gName 4) (tt := tYes) rfl nd rfl rfl (sw_true rfl rfl rfl (by decide +kernel)) (pi_list (pv 0)) (blkOk_by (N := ["sides", "many", "needed", "value", "side", "worths", "number", "worth", "raising", "lowering", "numbers"]) (sc := defScope s_unneeded) (by decide +kernel)) (fun _ _ _ _ _ => pg_name (i := 4) nd rfl (Or.inl rfl)) (fun _ _ _ _ _ => pts_nil) (fun _ _ _ _ _ => (pcl Wr hr (by decide) (by rfl) (pa_cons (pv 4) (pa_cons (pv 3) pa_nil)))))
      (pss_cons (ps_setLc (i := 8) (own := [("number", 6), ("worth", 7)]) (g := (gTup K 2 (gCons (gName 6) (gCons (gName 7) gNil)))) rfl nd rfl rfl (sw_true rfl rfl rfl (by decide +kernel)) (pi_enum (by rfl) hen (pa_cons (pv 5) pa_nil)) (blkOk_by (N := ["sides", "many", "needed", "value", "side", "worths", "number", "worth", "raising", "lowering", "numbers"]) (sc := defScope s_unneeded) (by decide +kernel)) (fun _ _ _ _ _ => pg_tup (by rfl) (pgs_cons (pg_name (i := 6) nd rfl (Or.inl rfl)) (pgs_cons (pg_name (i := 7) nd rfl (Or.inl rfl)) pgs_nil))) (fun _ _ _ _ _ => (pts_one (pt_cmpR op_gt (pv 7) (pv 3) (nomark _)))) (fun _ _ _ _ _ => (pv 6)))
      (pss_cons (ps_setLc (i := 9) (own := [("number", 6), ("worth", 7)]) (g := (gTup K 2 (gCons (gName 6) (gCons (gName 7) gNil)))) rfl nd rfl rfl (sw_true rfl rfl rfl (by decide +kernel)) (pi_enum (by rfl) hen (pa_cons (pv 5) pa_nil)) (blkOk_by (N := ["sides", "many", "needed", "value", "side", "worths", "number", "worth", "raising", "lowering", "numbers"]) (sc := defScope s_unneeded) (by decide +kernel)) (fun _ _ _ _ _ => pg_tup (by rfl) (pgs_cons (pg_name (i := 6) nd rfl (Or.inl rfl)) (pgs_cons (pg_name (i := 7) nd rfl (Or.inl rfl)) pgs_nil))) (fun _ _ _ _ _ => (pts_one (pt_cmpR op_lt (pv 7) (pv 3) (nomark _)))) (fun _ _ _ _ _ => (pv 6)))
      (pss_one (ps_for PassesOwn.never rfl (pi_tup (pe_tup (pa_cons (pv 8) (pa_cons (pv 9) pa_nil)))) (pg_name (i := 10) nd rfl (Or.inl rfl)) (pss_one (ps_if (pt_cmpR op_eq (pe_callB call_len_seq (by rfl) G.len PySem.boot_len (pa_cons (pv 10) pa_nil)) pe_int (nomark _)) (pss_one (ps_dput (lt1 hr.units) (pv 2) (pe_ix ix_list (pv 10) pe_int (fun _ _ => rfl)) pe_bl rfl)) pss_nil))))))))
      (pss_one (ps_ret (pe_lc (own := [("number", 6)]) (g := gName 6) rfl nd (pi_range1 (by rfl) G.range (pa_cons (pe_callB call_len_seq (by rfl) G.len PySem.boot_len (pa_cons (pv 0) pa_nil)) pa_nil)) (blkOk_by (N := ["sides", "many", "needed", "value", "side", "worths", "number", "worth", "raising", "lowering", "numbers"]) (sc := defScope s_unneeded) (by decide +kernel)) (fun _ _ _ _ _ => pg_name (i := 6) nd rfl (Or.inl rfl)) (fun _ _ _ _ _ => (pts_one (pt_cmp (pc_dnotin (lt1 hr.units) (pv 6) (pv 2)) (by rfl)))) (fun _ _ _ _ _ => (pv 6))))))))))), ?_⟩
    have l1 := SS.l1
    have l4 := SS.l4
    have ln := SS.len
    walk_at "rd"
    refine ⟨l, xs, ss, rfl, SS, ?_⟩
    walk_at "rd"
    refine ⟨l, xs, ss, rfl, SS, ?_⟩
    walk_at "rd"
    refine ite2 (fun z => absurd (of_decide_eq_true z) (by omega)) (fun _ => ?_)
    walk_at "rd"
    refine ⟨l, _, rfl, .inl (SqL.of SS.hl), ?_⟩
    walk_at "rd"
    refine ⟨rfl, _, rfl, ?_⟩
    refine ite2 (fun z => ?_) (fun z => ?_)
    · walk_at "rd"
      refine ⟨(by show 0 ≤ sizeLine; decide), fun L nL => ?_⟩
      have e1 : (xs.length : Int) = 1 := int_t z
      exact q L _ [] nL (same_upd nL) upd_same (.inl ⟨by omega, rfl⟩)
    have n1 : ss.length ≠ 1 := fun e => int_f z (by omega)
    walk_at "rd"
    intro d nd0
    have gd : upd H d (.dK []) d = some (.dK []) := upd_same
    have sd : Same H (upd H d (.dK [])) := same_upd nd0
    generalize upd H d (.dK []) = H1 at gd sd ⊢
    walk_at "rd"
    refine ⟨by omega, by omega, ?_⟩
    rw [Int.toNat_natCast]
    refine for_range (n := comN ss) (fun i st H' => ∃ (x3 x4 x5 x6 x7 x8 x9 x10 : Option V) (kvs : List (Key × V)), st = [some (.ref l), some (.int (comN ss : Int)), some (.ref d), x3, x4, x5, x6, x7, x8, x9, x10] ∧ H' d = some (.dK kvs) ∧ NdK ss kvs i ∧ ∀ b o, H b = some o → H' b = some o)
      ⟨none, none, none, none, none, none, none, none, [], rfl, gd, ⟨Nat.zero_le _, fun n => ⟨fun z => Bool.noConfusion z, fun ⟨v, a, _⟩ => absurd a (Nat.not_lt_zero _)⟩⟩, sd⟩ ?_ ?_
    · rintro i st H' hi ⟨x3, x4, x5, x6, x7, x8, x9, x10, kvs, rfl, hd, nk, sm⟩
      have SS' := SS.same sm
      walk_at "rd"
      have ei : (0 : Int) + (i : Int) = (i : Int) := Int.zero_add _
      rw [ei]
      refine ⟨⟨_, SqL.of SS'.hl⟩, fun D nD => ?_⟩
      refine lc_list (K := K) (a := l) (xs := xs) (fun j H3 => H3 D = some (.lst ((ss.take j).map fun d => V.int (wD d (i : Int)))) ∧ Same H' H3) ⟨upd_same, same_upd nD⟩ (fun _ _ _ ⟨_, s3⟩ => SqL.of (SS'.same s3).hl) ?_ ?_
      · rintro j y H3 hy ⟨hD, s3⟩
        obtain ⟨e, p2, ed, rfl, hp2, sp2⟩ := (SS'.same s3).item hy
        refine ⟨rfl, ?_⟩
        walk_at "rd"
        refine ⟨p2, e.o, e.s, e.m, (i : Int), rfl, hp2, sp2, (by unfold Bd; omega), fun H4 s4 => ?_⟩
        refine ⟨_, s4 _ _ hD, ?_, ?_, fun b u z => (upd_ne (ne_of_none z nD)).trans (s4 _ _ (s3 _ _ z))⟩
        · rw [List.length_map, List.length_take]
          exact Nat.lt_of_le_of_lt (Nat.le_trans (Nat.min_le_right _ _) SS.l4) (by decide)
        · rw [List.take_succ, ed, List.map_append]
          exact upd_same
      rintro H2 ⟨hD, s2⟩
      rw [ln, List.take_length] at hD
      walk_at "rd"
      refine ⟨D, _, rfl, SqL.of hD, fun D2 nD2 => ?_⟩
      refine lc_it (walk_enum (K := K) (a := D) (xs := ss.map fun d => V.int (wD d (i : Int)))) (fun j H3 => H3 D2 = some (.lst (((List.range j).filter fun t => decide ((i : Int) < wD (ss.getD t sd0) (i : Int)))  |>.map nV)) ∧ Same H2 H3) ⟨upd_same, same_upd nD2⟩ (fun _ _ _ ⟨_, s3⟩ => SqL.of (s3 _ _ hD)) ?_ ?_
      · rintro j y H3 H4 hj ⟨hE, s3⟩ ⟨T, z1, z2, rfl, nT, rfl, e1, e2⟩
        cases e1
        rw [List.length_map] at hj
        obtain ⟨e, ed, rfl⟩ : ∃ e, ss[j]? = some e ∧ z2 = V.int (wD e (i : Int)) := by
          have e3 : (ss.map fun d => V.int (wD d (i : Int)))[j]? = some z2 := e2
          rw [List.getElem?_map] at e3
          obtain ⟨d, a, b⟩ := Option.map_eq_some_iff.mp e3
          exact ⟨d, a, b.symm⟩
        have wT : Same H3 (upd H3 T (.tup [.int (j : Nat), .int (wD e (i : Int))])) := same_upd nT
        have gT : upd H3 T (.tup [.int (j : Nat), .int (wD e (i : Int))]) T = some (.tup [.int (j : Nat), .int (wD e (i : Int))]) := upd_same
        generalize upd H3 T (.tup [.int (j : Nat), .int (wD e (i : Int))]) = H4 at wT gT ⊢
        refine ⟨T, _, rfl, SqT.of gT, rfl, _, _, rfl, _, _, rfl, rfl, ?_⟩
        refine ⟨rfl, ?_⟩
        walk_at "rd"
        have gd' : ss.getD j sd0 = e := by rw [List.getD_eq_getElem?_getD, ed]; rfl
        rw [filt_snoc, gd']
        refine ite2 (fun z => ?_) (fun z => ?_)
        · walk_at "rd"
          refine ⟨_, wT _ _ hE, ?_, ?_, fun b u y => (upd_ne (ne_of_none y nD2)).trans (wT _ _ (s3 _ _ y))⟩
          · rw [List.length_map]
            refine Nat.lt_of_le_of_lt (List.length_filter_le _ _) ?_
            rw [List.length_range]
            exact Nat.lt_of_lt_of_le (by omega : j < 4) (by decide)
          · rw [if_pos z, List.map_append]
            exact upd_same
        · rw [if_neg z, List.append_nil]
          exact ⟨wT _ _ hE, fun b u y => wT _ _ (s3 _ _ y)⟩
      rintro H5 ⟨hD2, sH5⟩
      rw [List.length_map] at hD2
      walk_at "rd"
      have hD5 := sH5 _ _ hD
      refine ⟨D, _, rfl, SqL.of hD5, fun D3 nD3 => ?_⟩
      refine lc_it (walk_enum (K := K) (a := D) (xs := ss.map fun d => V.int (wD d (i : Int)))) (fun j H3 => H3 D3 = some (.lst (((List.range j).filter fun t => decide (wD (ss.getD t sd0) (i : Int) < (i : Int)))  |>.map nV)) ∧ Same H5 H3) ⟨upd_same, same_upd nD3⟩ (fun _ _ _ ⟨_, s3⟩ => SqL.of (s3 _ _ hD5)) ?_ ?_
      · rintro j y H3 H4 hj ⟨hE, s3⟩ ⟨T, z1, z2, rfl, nT, rfl, e1, e2⟩
        cases e1
        rw [List.length_map] at hj
        obtain ⟨e, ed, rfl⟩ : ∃ e, ss[j]? = some e ∧ z2 = V.int (wD e (i : Int)) := by
          have e3 : (ss.map fun d => V.int (wD d (i : Int)))[j]? = some z2 := e2
          rw [List.getElem?_map] at e3
          obtain ⟨d, a, b⟩ := Option.map_eq_some_iff.mp e3
          exact ⟨d, a, b.symm⟩
        have wT : Same H3 (upd H3 T (.tup [.int (j : Nat), .int (wD e (i : Int))])) := same_upd nT
        have gT : upd H3 T (.tup [.int (j : Nat), .int (wD e (i : Int))]) T = some (.tup [.int (j : Nat), .int (wD e (i : Int))]) := upd_same
        generalize upd H3 T (.tup [.int (j : Nat), .int (wD e (i : Int))]) = H4 at wT gT ⊢
        refine ⟨T, _, rfl, SqT.of gT, rfl, _, _, rfl, _, _, rfl, rfl, ?_⟩
        refine ⟨rfl, ?_⟩
        walk_at "rd"
        have gd' : ss.getD j sd0 = e := by rw [List.getD_eq_getElem?_getD, ed]; rfl
        rw [filt_snoc, gd']
        refine ite2 (fun z => ?_) (fun z => ?_)
        · walk_at "rd"
          refine ⟨_, wT _ _ hE, ?_, ?_, fun b u y => (upd_ne (ne_of_none y nD3)).trans (wT _ _ (s3 _ _ y))⟩
          · rw [List.length_map]
            refine Nat.lt_of_le_of_lt (List.length_filter_le _ _) ?_
            rw [List.length_range]
            exact Nat.lt_of_lt_of_le (by omega : j < 4) (by decide)
          · rw [if_pos z, List.map_append]
            exact upd_same
        · rw [if_neg z, List.append_nil]
          exact ⟨wT _ _ hE, fun b u y => wT _ _ (s3 _ _ y)⟩
      rintro H6 ⟨hD3, sH6⟩
      rw [List.length_map] at hD3
      walk_at "rd"
      have hD26 := sH6 _ _ hD2
      refine ⟨(by show 2 ≤ sizeLine; decide), fun T2 nT2 => ?_⟩
      have gT2 : upd H6 T2 (.tup [.ref D2, .ref D3]) T2 = some (.tup [.ref D2, .ref D3]) := upd_same
      have sT2 : Same H6 (upd H6 T2 (.tup [.ref D2, .ref D3])) := same_upd nT2
      generalize upd H6 T2 (.tup [.ref D2, .ref D3]) = H7 at gT2 sT2 ⊢
      have sA : Same H' H7 := s2.trans (sH5.trans (sH6.trans sT2))
      have hd7 := sA _ _ hd
      have hu7 : H7 D2 = some (.lst ((upsL ss (i : Int)).map nV)) := sT2 _ _ hD26
      have hn7 : H7 D3 = some (.lst ((dnsL ss (i : Int)).map nV)) := sT2 _ _ hD3
      walk_at "rd"
      refine ⟨⟨_, SqT.of gT2⟩, ?_⟩
      obtain ⟨kv, k0, k1, k2⟩ : ∃ kv : Nat → List (Key × V), kv 0 = kvs ∧ kv 1 = hitK kvs (upsL ss (i : Int)) ∧ kv 2 = hitK (hitK kvs (upsL ss (i : Int))) (dnsL ss (i : Int)) := ⟨fun j => match j with | 0 => kvs | 1 => hitK kvs (upsL ss (i : Int)) | _ => hitK (hitK kvs (upsL ss (i : Int))) (dnsL ss (i : Int)), rfl, rfl, rfl⟩
      have nkl := nk.1
      have nT2d : T2 ≠ d := (ne_of_none ((s2.trans (sH5.trans sH6)) _ _ hd) nT2).symm
      have nD2d : D2 ≠ d := (ne_of_none (s2 _ _ hd) nD2).symm
      have nD3d : D3 ≠ d := (ne_of_none ((s2.trans sH5) _ _ hd) nD3).symm
      refine for_tup (K := K) (a := T2) (xs := [.ref D2, .ref D3]) (fun j st H8 => ∃ x10 : Option V, st = [some (.ref l), some (.int (comN ss : Int)), some (.ref d), some (.int (i : Int)), x4, some (.ref D), x6, x7, some (.ref D2), some (.ref D3), x10] ∧ H8 d = some (.dK (kv j)) ∧ (kv j).length ≤ 2 * i + j ∧ ∀ b o, b ≠ d → H7 b = some o → H8 b = some o)
        ⟨_, rfl, by rw [k0]; exact hd7, by rw [k0]; exact nkl, fun b o _ h => h⟩ (fun _ _ _ _ ⟨_, _, _, _, s8⟩ => SqT.of (s8 _ _ nT2d gT2)) ?_ ?_
      · rintro j y st H8 ey ⟨y10, rfl, hd8, lk, s8⟩
        obtain ⟨Dx, L, rfl, hx, ek, jl⟩ : ∃ (Dx : Addr) (L : List Nat), y = .ref Dx ∧ H8 Dx = some (.lst (L.map nV)) ∧ kv (j + 1) = hitK (kv j) L ∧ j < 2 := by
          match j, ey with
          | 0, ey => cases ey; exact ⟨D2, _, rfl, s8 _ _ nD2d hu7, by rw [k1, k0], by decide⟩
          | 1, ey => cases ey; exact ⟨D3, _, rfl, s8 _ _ nD3d hn7, by rw [k2, k1], by decide⟩
          | j + 2, ey => cases ey
        have hl := hit_len (kv j) L
        rw [← ek] at hl
        walk_at "rd"
        refine ⟨Dx, _, rfl, .inl (SqL.of hx), ?_⟩
        walk_at "rd"
        refine ⟨rfl, _, rfl, ?_⟩
        refine ite2 (fun z => ?_) (fun z => ?_)
        · have e1 : ((L.map nV).length : Int) = 1 := int_t z
          rw [List.length_map] at e1
          obtain ⟨n, rfl⟩ : ∃ n, L = [n] := by
            match L, e1 with
            | [n], _ => exact ⟨n, rfl⟩
            | [], e => exact absurd e (by decide)
            | _ :: _ :: _, e => rw [List.length_cons, List.length_cons] at e; omega
          walk_at "rd"
          refine ⟨Dx, _, _, _, rfl, rfl, SqL.of hx, at0, ?_⟩
          refine ⟨d, _, rfl, DPut.k (k := .inl (n : Int)) hd8 (Nat.lt_of_lt_of_le (by omega : _ < 100000) (by decide)), ?_⟩
          exact ⟨_, rfl, by rw [ek]; exact upd_same, by omega, fun b o nb hb => (upd_ne nb).trans (s8 _ _ nb hb)⟩
        · have e1 : L.length ≠ 1 := fun e => int_f z (by rw [List.length_map, e]; rfl)
          exact ⟨_, rfl, by rw [ek, hit_no e1]; exact hd8, by omega, s8⟩
      rintro st H8 ⟨y10, rfl, hd8, lk, s8⟩
      refine ⟨_, _, _, _, _, _, _, _, _, rfl, hd8, ?_, fun b o hb => s8 _ _ (ne_of_none hb nd0) (sA _ _ (sm _ _ hb))⟩
      have := nk.step
      rw [← k2] at this
      exact this
    rintro st H' ⟨x3, x4, x5, x6, x7, x8, x9, x10, kvs, rfl, hd, nk, sm⟩
    walk_at "rd"
    refine ⟨l, _, rfl, .inl (SqL.of (sm _ _ SS.hl)), ?_⟩
    walk_at "rd"
    refine ⟨by omega, by omega, fun L nL => ?_⟩
    rw [Int.toNat_natCast]
    refine lc_range (fun j Hj => Hj L = some (.lst (((List.range j).filter fun t : Nat => !(valV kvs (.inl (t : Int))).isSome).map nV)) ∧ Same H' Hj) ⟨upd_same, same_upd nL⟩ ?_ ?_
    · rintro j Hj hj ⟨hL, sj⟩
      refine ⟨rfl, ?_⟩
      walk_at "rd"
      have ej : (0 : Int) + (j : Int) = (j : Int) := Int.zero_add _
      rw [ej]
      refine ⟨d, _, rfl, DGet.k (k := Sum.inl (j : Int)) (sj _ _ hd), ?_⟩
      rw [filt_snoc]
      refine ⟨_, rfl, ?_⟩
      refine ite2 (fun z => ?_) (fun z => ?_)
      · have z' : (!(valV kvs (.inl (j : Int))).isSome) = true := z
        walk_at "rd"
        refine ⟨_, hL, ?_, ?_, fun b u y => (upd_ne (ne_of_none y nL)).trans (sj _ _ y)⟩
        · rw [List.length_map]
          refine Nat.lt_of_le_of_lt (List.length_filter_le _ _) ?_
          rw [List.length_range]
          exact Nat.lt_of_lt_of_le (by omega : j < 5) (by decide)
        · rw [if_pos z', List.map_append]
          exact upd_same
      · have z' : ¬ (!(valV kvs (.inl (j : Int))).isSome) = true := z
        rw [if_neg z', List.append_nil]
        exact ⟨hL, sj⟩
    rintro H2 ⟨hL, s2⟩
    have sm' : Same H H' := sm
    refine q L H2 _ (sm'.free nL) (sm'.trans s2) hL (.inr ⟨n1, List.Pairwise.filter _ List.pairwise_lt_range, fun i => ?_⟩)
    show _ ↔ i < ss.length ∧ ¬ (∃ v : Nat, v < comN ss ∧ HitN ss v i)
    rw [List.mem_filter, List.mem_range, ← nk.2 i, ln]
    cases (valV kvs (.inl (i : Int))).isSome <;> simp
end
end HT
namespace HT
open PySem L2
/-- what comes of dropping noughts off a step -/
inductive FewIs (N : Int → Prop) : Int → Option Nat → Prop
  | done {s : Int} (h : ¬ N s) : FewIs N s (some 0)
  | out {s : Int} (h : N s) (d : s % 10 ≠ 0) : FewIs N s none
  | more {s : Int} {r : Option Nat} (h : N s) (d : s % 10 = 0) (t : FewIs N (s / 10) r) : FewIs N s (r.map (· + 1))
theorem FewIs.uniq {N : Int → Prop} {s : Int} {r : Option Nat} (h : FewIs N s r) : ∀ {r' : Option Nat}, FewIs N s r' → r = r' := by
  induction h with
  | done n =>
    intro r' k
    cases k with
    | done _ => rfl
    | out h _ => exact absurd h n
    | more h _ _ => exact absurd h n
  | out h d =>
    intro r' k
    cases k with
    | done n => exact absurd h n
    | out _ _ => rfl
    | more _ d' _ => exact absurd d' d
  | more h d _ ih =>
    intro r' k
    cases k with
    | done n => exact absurd h n
    | out _ d' => exact absurd d d'
    | more _ _ t => rw [ih t]
/-- on the way: k noughts have been dropped -/
def Drop (N : Int → Prop) (s : Int) (k : Nat) (t : Int) : Prop := s = t * 10 ^ k ∧ 1 ≤ t ∧ ∀ r, FewIs N t r → FewIs N s (r.map (· + k))
theorem drop0 {N : Int → Prop} {s : Int} (h : 1 ≤ s) : Drop N s 0 s := ⟨by simp, h, fun r f => by
  have e : r.map (· + 0) = r := by cases r <;> rfl
  rw [e]
  exact f⟩
theorem drop_succ {N : Int → Prop} {s t : Int} {k : Nat} (h : Drop N s k t) (n : N t) (d : t % 10 = 0) : Drop N s (k + 1) (t / 10) := by
  obtain ⟨a, b, c⟩ := h
  have e : t = t / 10 * 10 := by omega
  refine ⟨?_, by omega, fun r f => ?_⟩
  · rw [Int.pow_succ, Int.mul_comm (10 ^ k), ← Int.mul_assoc, ← e]
    exact a
  · have := c _ (.more n d f)
    have e2 : (r.map (· + 1)).map (· + k) = r.map (· + (k + 1)) := by
      cases r with
      | none => rfl
      | some x => show some (x + 1 + k) = some (x + (k + 1)); congr 1; omega
    rwa [e2] at this
theorem drop_done {N : Int → Prop} {s t : Int} {k : Nat} (h : Drop N s k t) (n : ¬ N t) : FewIs N s (some k) := by
  have := h.2.2 _ (.done n)
  rwa [show (some 0 : Option Nat).map (· + k) = some k by show some (0 + k) = _; rw [Nat.zero_add]] at this
theorem drop_out {N : Int → Prop} {s t : Int} {k : Nat} (h : Drop N s k t) (n : N t) (d : t % 10 ≠ 0) : FewIs N s none := h.2.2 _ (.out n d)
theorem filt_nil {p : Nat → Bool} {n : Nat} : (List.range n).filter p = [] ↔ ∀ t, t < n → ¬ p t = true := by
  rw [List.filter_eq_nil_iff]
  exact ⟨fun h t ht => h t (List.mem_range.mpr ht), fun h t ht => h t (List.mem_range.mp ht)⟩
theorem filt_last {p : Nat → Bool} {n : Nat} : (List.range (n + 1)).filter p = [n] ↔ (∀ t, t < n → ¬ p t = true) ∧ p n = true := by
  rw [filt_snoc]
  by_cases h : p n = true
  · rw [if_pos h]
    constructor
    · intro e
      have : (List.range n).filter p = [] := by
        have l := congrArg List.length e
        rw [List.length_append] at l
        exact List.eq_nil_of_length_eq_zero (by rw [List.length_singleton] at l; omega)
      exact ⟨filt_nil.mp this, h⟩
    · rintro ⟨a, _⟩
      rw [filt_nil.mpr a]
      rfl
  · rw [if_neg h, List.append_nil]
    constructor
    · intro e
      have : n ∈ (List.range n).filter p := by rw [e]; exact List.mem_singleton.mpr rfl
      have := List.mem_range.mp (List.mem_filter.mp this).1
      omega
    · rintro ⟨_, b⟩
      exact absurd b h
theorem getD_left {ss : List Sd} {d : Sd} {t : Nat} (h : t < ss.length) : (ss ++ [d]).getD t sd0 = ss.getD t sd0 := by
  rw [List.getD_eq_getElem?_getD, List.getD_eq_getElem?_getD, List.getElem?_append_left h]
theorem getD_last {ss : List Sd} {d : Sd} : (ss ++ [d]).getD ss.length sd0 = d := by
  rw [List.getD_eq_getElem?_getD, List.getElem?_append_right (Nat.le_refl _), Nat.sub_self]
  rfl
theorem all_getD {ss : List Sd} {R : Sd → Prop} : (∀ t, t < ss.length → R (ss.getD t sd0)) ↔ ∀ d ∈ ss, R d := by
  constructor
  · intro h d hd
    obtain ⟨i, hi, rfl⟩ := List.mem_iff_getElem.mp hd
    have := h i hi
    rwa [List.getD_eq_getElem?_getD, List.getElem?_eq_getElem hi] at this
  · intro h t ht
    rw [List.getD_eq_getElem?_getD, List.getElem?_eq_getElem ht]
    exact h _ (List.getElem_mem ht)
/-- none lowers the value -/
def DnA (ss : List Sd) (x : Int) : Prop := ∀ d ∈ ss, x ≤ dueM d.o d.s d.m x
theorem ups_last {ss : List Sd} {d : Sd} {v : Int} : upsL (ss ++ [d]) v = [ss.length] ↔ UnA ss v ∧ v < wD d v := by
  unfold upsL
  rw [List.length_append, List.length_singleton, filt_last, getD_last, decide_eq_true_eq]
  refine and_congr ?_ Iff.rfl
  unfold UnA
  rw [← all_getD (R := fun d => dueM d.o d.s d.m v ≤ v)]
  refine forall_congr' fun t => forall_congr' fun ht => ?_
  rw [getD_left ht, decide_eq_true_eq]
  unfold wD
  omega
theorem dns_last {ss : List Sd} {d : Sd} {v : Int} : dnsL (ss ++ [d]) v = [ss.length] ↔ DnA ss v ∧ wD d v < v := by
  unfold dnsL
  rw [List.length_append, List.length_singleton, filt_last, getD_last, decide_eq_true_eq]
  refine and_congr ?_ Iff.rfl
  unfold DnA
  rw [← all_getD (R := fun d => v ≤ dueM d.o d.s d.m v)]
  refine forall_congr' fun t => forall_congr' fun ht => ?_
  rw [getD_left ht, decide_eq_true_eq]
  unfold wD
  omega
theorem una_more {ss : List Sd} {d : Sd} {v : Int} : UnA (ss ++ [d]) v ↔ UnA ss v ∧ wD d v ≤ v := by
  unfold UnA wD
  constructor
  · intro h
    exact ⟨fun e he => h e (List.mem_append_left _ he), h d (List.mem_append_right _ (List.mem_singleton.mpr rfl))⟩
  · rintro ⟨a, b⟩ e he
    rcases List.mem_append.mp he with he | he
    · exact a e he
    · rcases List.mem_singleton.mp he with rfl
      exact b
theorem dna_more {ss : List Sd} {d : Sd} {v : Int} : DnA (ss ++ [d]) v ↔ DnA ss v ∧ v ≤ wD d v := by
  unfold DnA wD
  constructor
  · intro h
    exact ⟨fun e he => h e (List.mem_append_left _ he), h d (List.mem_append_right _ (List.mem_singleton.mpr rfl))⟩
  · rintro ⟨a, b⟩ e he
    rcases List.mem_append.mp he with he | he
    · exact a e he
    · rcases List.mem_singleton.mp he with rfl
      exact b
/-- a further side is not needed just if all stops stay -/
theorem need_stops {ss : List Sd} {d : Sd} : ¬ NeedN (ss ++ [d]) ss.length ↔ ∀ v : Nat, v < comN (ss ++ [d]) → (UnA ss v ↔ UnA (ss ++ [d]) v) ∧ (DnA ss v ↔ DnA (ss ++ [d]) v) := by
  unfold NeedN HitN
  constructor
  · intro h v hv
    refine ⟨⟨fun u => una_more.mpr ⟨u, Classical.byContradiction fun n => h ⟨v, hv, .inl (ups_last.mpr ⟨u, by omega⟩)⟩⟩, fun u => (una_more.mp u).1⟩, ⟨fun u => dna_more.mpr ⟨u, Classical.byContradiction fun n => h ⟨v, hv, .inr (dns_last.mpr ⟨u, by omega⟩)⟩⟩, fun u => (dna_more.mp u).1⟩⟩
  · rintro h ⟨v, hv, z | z⟩
    · obtain ⟨u, w⟩ := ups_last.mp z
      have := (una_more.mp ((h v hv).1.mp u)).2
      omega
    · obtain ⟨u, w⟩ := dns_last.mp z
      have := (dna_more.mp ((h v hv).2.mp u)).2
      omega
/-- a shorter step makes no longer common period -/
theorem com_drop {ss : List Sd} {o t : Int} {m : Str} {k : Nat} (h : 1 ≤ t) : comN (ss ++ [⟨o, t, m⟩]) ∣ comN (ss ++ [⟨o, t * 10 ^ k, m⟩]) := by
  unfold comN
  rw [List.foldl_append, List.foldl_append]
  show Nat.lcm _ (perN ⟨o, t, m⟩) ∣ Nat.lcm _ (perN ⟨o, t * 10 ^ k, m⟩)
  refine Nat.lcm_dvd (Nat.dvd_lcm_left _ _) (Nat.dvd_trans ?_ (Nat.dvd_lcm_right _ _))
  obtain ⟨n, rfl⟩ := Int.eq_ofNat_of_zero_le (show 0 ≤ t by omega)
  have e : ((n : Int) * 10 ^ k) = ((n * 10 ^ k : Nat) : Int) := by rw [Int.natCast_mul]; rfl
  unfold perN perM
  show (if m = "half_even" then 2 * (n : Int) else (n : Int)).toNat ∣ (if m = "half_even" then 2 * ((n : Int) * 10 ^ k) else (n : Int) * 10 ^ k).toNat
  rw [e]
  split
  · rw [show (2 * (n : Int)).toNat = 2 * n by omega, show (2 * ((n * 10 ^ k : Nat) : Int)).toNat = 2 * (n * 10 ^ k) by omega]
    exact Nat.mul_dvd_mul_left _ (Nat.dvd_mul_right _ _)
  · rw [Int.toNat_natCast, Int.toNat_natCast]
    exact Nat.dvd_mul_right _ _
end HT
namespace HT
open PySem L2
def NdP (ss : List Sd) (o : Int) (m : Str) : Int → Prop := fun t => NeedN (ss ++ [⟨o, t, m⟩]) ss.length
def optV : Option Nat → V
  | some k => .int (k : Int)
  | none => .non
def spFew : Sp := fun vs H Q _ => ∃ (l p : Addr) (xs : List V) (ss : List Sd) (o s : Int) (m : Str), vs = [.ref l, .ref p] ∧ SidesAt H l xs ss ∧ ss.length ≤ 3 ∧ H p = some (sideV o s m) ∧ SideP o s m ∧ comN (ss ++ [⟨o, s, m⟩]) ≤ 20000 ∧ ∀ (r : Option Nat) (H' : Hp), FewIs (NdP ss o m) s r → Same H H' → Q (optV r) H'
theorem SidesAt.snoc {H : Hp} {l L p : Addr} {xs : List V} {ss : List Sd} {o s : Int} {m : Str} (S : SidesAt H l xs ss) (l3 : ss.length ≤ 3) (hp : H p = some (sideV o s m)) (sp : SideP o s m) (hL : H L = some (.lst (xs ++ [.ref p]))) : SidesAt H L (xs ++ [.ref p]) (ss ++ [⟨o, s, m⟩]) := by
  refine ⟨hL, by rw [List.length_append, List.length_append, S.len]; rfl, by rw [List.length_append, List.length_singleton]; omega, by rw [List.length_append, List.length_singleton]; omega, fun i d hd => ?_⟩
  have sl := S.len
  rcases Nat.lt_or_ge i ss.length with z | z
  · rw [List.getElem?_append_left z] at hd
    obtain ⟨p2, e1, hp2, sp2⟩ := S.at_ i d hd
    exact ⟨p2, by rw [List.getElem?_append_left (by omega)]; exact e1, hp2, sp2⟩
  · rw [List.getElem?_append_right z] at hd
    have e0 : i - ss.length = 0 := by
      have := (List.getElem?_eq_some_iff.mp hd).1
      rw [List.length_singleton] at this
      omega
    rw [e0] at hd
    cases hd
    exact ⟨p, by rw [List.getElem?_append_right (by omega), show i - xs.length = 0 by omega]; rfl, hp, sp⟩
theorem any_nV {n : Nat} {ns : List Nat} : inV (nV n) (ns.map nV) = decide (n ∈ ns) := by
  unfold inV
  rw [Bool.eq_iff_iff, List.any_eq_true, decide_eq_true_eq]
  constructor
  · rintro ⟨y, hy, e⟩
    obtain ⟨k, hk, rfl⟩ := List.mem_map.mp hy
    have : k = n := by
      have e' : ((k : Int) == (n : Int)) = true := e
      have := beq_iff_eq.mp e'
      omega
    rwa [← this]
  · intro h
    exact ⟨nV n, List.mem_map.mpr ⟨n, h, rfl⟩, by show ((n : Int) == (n : Int)) = true; exact beq_self_eq_true _⟩
theorem flat_nV (ns : List Nat) : (ns.map nV).all flatV = true := List.all_eq_true.mpr fun y hy => by
  obtain ⟨k, _, rfl⟩ := List.mem_map.mp hy
  rfl
section
variable {P : Program} {w : World} {K : PySem.W.Frag} {mg : Str → Option Value} {base : Heap} {f1 f2 f3 f4 : Addr} {d1 d2 d3 d4 : FuncData}
theorem ok_few {f : Addr} {fd : FuncData} (F : Fun K "fewest_places" "fewest_places" s_fewest_places f fd) (G : UnG mg) (hma : ∃ t, mg "MOST_SIDES_AHEAD" = some (.int 3 t)) (Sd' : Cal P w K mg base "check_sides" 5 ["sides"] spSides f1 d1) (Ck : Cal P w K mg base "check_side" 3 ["side"] spCheckSide f2 d2) (Un : Cal P w K mg base "unneeded" 6 ["sides"] spUnn f3 d3) : FnOk P w K mg base CX0 7 f fd ["sides", "side"] spFew := by
  refine F.ok sc_fewest_places (fun vs H Q E h => ?_) (fun cdv A outer s0 H vs Q E hr h => ?_)
  · obtain ⟨l, p, xs, ss, o, s, m, rfl, _⟩ := h
    rfl
  · obtain ⟨l, p, xs, ss, o, s, m, rfl, SS, l3, hp, sp, c2, q⟩ := h
    have nd := sc_fewest_places.nd
    obtain ⟨tma, hma⟩ := hma
    refine ⟨_, (pss_cons (ps_expr (pcl Sd' hr (by decide) (by rfl) (pa_cons (pv 0) pa_nil)))
      (pss_cons (ps_if (pt_cmpR op_gt (pe_callB call_len_seq (by rfl) G.len PySem.boot_len (pa_cons (pv 0) pa_nil)) (pe_glob (v := .int 3) (by rfl) hma ⟨_, rfl⟩) (nomark _)) (pss_one ps_never) pss_nil)
      (pss_cons (ps_expr (pcl Ck hr (by decide) (by rfl) (pa_cons (pv 1) pa_nil)))
      (pss_cons (ps_asg (pv 1) (pg_tup (by rfl) (pgs_cons (pg_name (i := 2) nd rfl (Or.inl rfl)) (pgs_cons (pg_name (i := 3) nd rfl (Or.inl rfl)) (pgs_cons (pg_name (i := 4) nd rfl (Or.inl rfl)) pgs_nil)))))
      (pss_cons (ps_set (i := 5) nd rfl (Or.inl rfl) pe_int)
      (pss_cons (ps_while PassesOwn.never (pt_cmpR op_notIn_seq (pe_callB call_len_seq (by rfl) G.len PySem.boot_len (pa_cons (pv 0) pa_nil)) (pcl Un hr (by decide) (by rfl) (pa_cons (pe_op op_cat (pv 0) (pe_lst (pa_cons (pe_tup (pa_cons (pv 2) (pa_cons (pv 3) (pa_cons (pv 4) pa_nil)))) pa_nil))) pa_nil)) (by rfl)) (pss_cons (ps_if (pt_cmpR op_ne (pe_op op_mod (pv 3) pe_int) pe_int (nomark _)) (pss_one (ps_ret pe_non)) pss_nil)
      (pss_cons (ps_set (i := 3) nd rfl (Or.inl rfl) (pe_op op_fdiv (pv 3) pe_int))
      (pss_one (ps_aug (i := 5) nd rfl (Or.inl rfl) pe_int ip_add)))))
      (pss_one (ps_ret (pv 5))))))))), ?_⟩
    have l1 := SS.l1
    have ln := SS.len
    have s0' := sp.s0
    have s1' := sp.s1
    walk_at "rd"
    refine ⟨l, xs, ss, rfl, SS, ?_⟩
    walk_at "rd"
    refine ⟨l, _, rfl, .inl (SqL.of SS.hl), ?_⟩
    walk_at "rd"
    refine ite2 (fun z => absurd (of_decide_eq_true z) (by omega)) (fun _ => ?_)
    walk_at "rd"
    refine ⟨p, o, s, m, rfl, hp, sp, ?_⟩
    walk_at "rd"
    refine ⟨p, _, rfl, SqT.of hp, rfl, _, _, rfl, _, _, rfl, _, _, rfl, rfl, ?_⟩
    walk_at "rd"
    refine ⟨fun n σ H' => ∃ (k : Nat) (t : Int), n = t.toNat ∧ σ = [some (.ref l), some (.ref p), some (.int o), some (.int t), some (.str m), some (.int (k : Int))] ∧ Same H H' ∧ Drop (NdP ss o m) s k t ∧ t ≤ s, ⟨s.toNat, 0, s, rfl, rfl, Same.refl H, drop0 s0', Int.le_refl _⟩, ?_⟩
    rintro n σ H1 ⟨k, t, rfl, rfl, s1, dr, ts⟩
    have t1 := dr.2.1
    have spt : SideP o t m := ⟨sp.o0, sp.o1, t1, by omega, sp.md⟩
    have c2t : comN (ss ++ [⟨o, t, m⟩]) ≤ 20000 := by
      have a := com_drop (ss := ss) (o := o) (m := m) (k := k) t1
      rw [← dr.1] at a
      have b : 0 < comN (ss ++ [⟨o, s, m⟩]) := com_pos _ 1 (by decide) fun d hd => by
        rcases List.mem_append.mp hd with h | h
        · exact SS.side d h
        · rcases List.mem_singleton.mp h with rfl
          exact sp
      exact Nat.le_trans (Nat.le_of_dvd b a) c2
    walk_at "rd"
    refine ⟨l, _, rfl, .inl (SqL.of (s1 _ _ SS.hl)), ?_⟩
    walk_at "rd"
    refine ⟨(by show 3 ≤ sizeLine; decide), fun pt npt => ?_⟩
    have gpt : upd H1 pt (.tup [.int o, .int t, .str m]) pt = some (sideV o t m) := upd_same
    have spt1 : Same H1 (upd H1 pt (.tup [.int o, .int t, .str m])) := same_upd npt
    generalize upd H1 pt (.tup [.int o, .int t, .str m]) = H2 at gpt spt1 ⊢
    walk_at "rd"
    refine ⟨(by show 1 ≤ sizeLine; decide), fun L1 nL1 => ?_⟩
    have gL1 : upd H2 L1 (.lst [.ref pt]) L1 = some (.lst [.ref pt]) := upd_same
    have sL1 : Same H2 (upd H2 L1 (.lst [.ref pt])) := same_upd nL1
    generalize upd H2 L1 (.lst [.ref pt]) = H3 at gL1 sL1 ⊢
    walk_at "rd"
    have hl3 := sL1 _ _ (spt1 _ _ (s1 _ _ SS.hl))
    refine ⟨l, L1, _, _, rfl, rfl, hl3, gL1, (by show xs.length + 1 ≤ sizeLine; exact Nat.le_trans (by omega : _ ≤ 4) (by decide)), fun L2 nL2 => ?_⟩
    have gL2 : upd H3 L2 (.lst (xs ++ [.ref pt])) L2 = some (.lst (xs ++ [.ref pt])) := upd_same
    have sL2 : Same H3 (upd H3 L2 (.lst (xs ++ [.ref pt]))) := same_upd nL2
    generalize upd H3 L2 (.lst (xs ++ [.ref pt])) = H4 at gL2 sL2 ⊢
    have s14 : Same H1 H4 := spt1.trans (sL1.trans sL2)
    have SS4 := (SS.same (s1.trans s14)).snoc l3 (sL2 _ _ (sL1 _ _ gpt)) spt gL2
    refine ⟨L2, _, _, rfl, SS4, c2t, fun L3 H5 ns nL3 s5 h5 un => ?_⟩
    walk_at "rd"
    have iff : ss.length ∈ ns ↔ ¬ NdP ss o m t := by
      rcases un with ⟨a, _⟩ | ⟨_, _, c⟩
      · rw [List.length_append, List.length_singleton] at a; omega
      · rw [c]; exact ⟨fun h => h.2, fun h => ⟨by rw [List.length_append, List.length_singleton]; omega, h⟩⟩
    refine ⟨L3, _, rfl, .inl (SqL.of h5), rfl, flat_nV ns, _, rfl, ?_⟩
    rw [show V.int (xs.length : Int) = nV ss.length by rw [ln]; rfl, any_nV]
    have s05 := s1.trans (s14.trans s5)
    by_cases hn : ss.length ∈ ns
    · refine ite2 (fun z => absurd z (by simp [hn])) (fun _ => ?_)
      walk_at "rd"
      exact q (some k) H5 (drop_done dr (iff.mp hn)) s05
    · have nd : NdP ss o m t := Classical.byContradiction fun z => hn (iff.mpr z)
      refine ite2 (fun _ => ?_) (fun z => absurd (by simp [hn]) z)
      refine ⟨fun σ' H'' => ∃ (k' : Nat) (t' : Int), t' < t ∧ 0 ≤ t' ∧ σ' = [some (.ref l), some (.ref p), some (.int o), some (.int t'), some (.str m), some (.int (k' : Int))] ∧ Same H H'' ∧ Drop (NdP ss o m) s k' t' ∧ t' ≤ s, fun σ' H'' ⟨k', t', a, b, c⟩ => ⟨t'.toNat, by omega, k', t', rfl, c⟩, ?_⟩
      walk_at "rd"
      refine ⟨(by show (0 : Int) < 10; decide), ?_⟩
      walk_at "rd"
      refine ⟨rfl, _, rfl, ?_⟩
      by_cases hd : t % 10 = 0
      · refine ite2 (fun z => absurd z (by simp [hd])) (fun _ => ?_)
        walk_at "rd"
        refine ⟨⟨by decide, by decide⟩, ?_⟩
        walk_at "rd"
        refine ⟨k + 1, t / 10, by omega, by omega, rfl, s05, drop_succ dr nd hd, by omega⟩
      · refine ite2 (fun _ => ?_) (fun z => absurd (by simp [hd]) z)
        walk_at "rd"
        exact q none H5 (drop_out dr nd hd) s05
end
end HT
namespace HT
open PySem L2
def stU (ss : List Sd) (v : Int) : Bool := ss.all fun d => decide (dueM d.o d.s d.m v ≤ v)
def stN (ss : List Sd) (v : Int) : Bool := ss.all fun d => decide (v ≤ dueM d.o d.s d.m v)
theorem stU_t {ss : List Sd} {v : Int} : stU ss v = true ↔ UnA ss v := by
  unfold stU UnA
  rw [List.all_eq_true]
  exact forall_congr' fun d => forall_congr' fun _ => decide_eq_true_iff
theorem stN_t {ss : List Sd} {v : Int} : stN ss v = true ↔ DnA ss v := by
  unfold stN DnA
  rw [List.all_eq_true]
  exact forall_congr' fun d => forall_congr' fun _ => decide_eq_true_iff
def stP (ss : List Sd) (v : Nat) : PyData := .tuple [.bool (stU ss (v : Int)), .bool (stN ss (v : Int))]
def stL (ss : List Sd) (n : Nat) : PyData := .list ((List.range n).map (stP ss))
theorem eqv_maps {f g : Nat → PyData} : ∀ L : List Nat, PyData.eqv (.list (L.map f)) (.list (L.map g)) = L.all fun v => PyData.eqv (f v) (g v) := by
  intro L
  rw [PyData.eqv]
  induction L with
  | nil => rfl
  | cons v L ih => rw [List.map_cons, List.map_cons, PyData.eqvAll, ih, List.all_cons]
theorem eqv_bools (a b c d : Bool) : PyData.eqv (.tuple [.bool a, .bool b]) (.tuple [.bool c, .bool d]) = ((a == c) && (b == d)) := by
  cases a <;> cases b <;> cases c <;> cases d <;> rfl
theorem eqv_stops {ss ts : List Sd} {n : Nat} : PyData.eqv (stL ss n) (stL ts n) = true ↔ ∀ v : Nat, v < n → (UnA ss v ↔ UnA ts v) ∧ (DnA ss v ↔ DnA ts v) := by
  unfold stL
  rw [eqv_maps, List.all_eq_true]
  constructor
  · intro h v hv
    have := h v (List.mem_range.mpr hv)
    unfold stP at this
    rw [eqv_bools, Bool.and_eq_true, beq_iff_eq, beq_iff_eq] at this
    rw [← stU_t, ← stU_t, ← stN_t, ← stN_t, this.1, this.2]
    exact ⟨Iff.rfl, Iff.rfl⟩
  · intro h v hv
    have := h v (List.mem_range.mp hv)
    unfold stP
    rw [eqv_bools, Bool.and_eq_true, beq_iff_eq, beq_iff_eq]
    rw [← stU_t, ← stU_t, ← stN_t, ← stN_t] at this
    exact ⟨Bool.eq_iff_iff.mpr this.1, Bool.eq_iff_iff.mpr this.2⟩
theorem can_all {n : Nat} : ∀ {ds : List PyData}, (∀ d ∈ ds, PyData.canLay0 d = true ∧ PyData.depth d ≤ n) → PyData.canLayAll0 ds = true ∧ PyData.depthAll ds ≤ n
  | [], _ => ⟨rfl, Nat.zero_le _⟩
  | d :: ds, h => by
    obtain ⟨a, b⟩ := can_all (ds := ds) fun e he => h e (List.mem_cons_of_mem _ he)
    obtain ⟨c, e⟩ := h d List.mem_cons_self
    constructor
    · show (PyData.canLay0 d && PyData.canLayAll0 ds) = true
      rw [c, a]
      rfl
    · show max (PyData.depth d) (PyData.depthAll ds) ≤ n
      exact Nat.max_le.mpr ⟨e, b⟩
theorem shaped_stops (ss : List Sd) (n : Nat) : SeqAt.shaped (stL ss n) = true := by
  obtain ⟨a, b⟩ := can_all (n := 1) (ds := (List.range n).map (stP ss)) fun d hd => by
    obtain ⟨v, _, rfl⟩ := List.mem_map.mp hd
    exact ⟨rfl, Nat.le_refl _⟩
  unfold SeqAt.shaped stL
  rw [show PyData.canLay0 (.list ((List.range n).map (stP ss))) = true from a, decide_eq_true (show PyData.depth (.list ((List.range n).map (stP ss))) ≤ 64 from Nat.le_trans (Nat.succ_le_succ b) (by decide))]
  rfl
/-- the list of the stops -/
def StAt (H : Hp) (L : Addr) (ss : List Sd) (n : Nat) : Prop := ∃ ps : List Addr, H L = some (.lst (ps.map V.ref)) ∧ ps.length = n ∧ ∀ (i : Nat) (p : Addr), ps[i]? = some p → H p = some (.tup [.bl (stU ss (i : Int)), .bl (stN ss (i : Int))])
theorem dp_from {K : PySem.W.Frag} {H : Hp} {ss : List Sd} : ∀ (ps : List Addr) (k : Nat), (∀ (i : Nat) (p : Addr), ps[i]? = some p → H p = some (.tup [.bl (stU ss ((k + i : Nat) : Int)), .bl (stN ss ((k + i : Nat) : Int))])) → DpAll K H (ps.map V.ref) ((List.range' k ps.length).map (stP ss))
  | [], k, _ => .nil
  | p :: ps, k, h => by
    refine .cons ?_ ?_
    · exact .tup (SqT.of (h 0 p rfl)) (.cons (.bl _) (.cons (.bl _) .nil))
    · exact dp_from ps (k + 1) fun i q e => by
        have := h (i + 1) q e
        rwa [show k + (i + 1) = k + 1 + i by omega] at this
theorem StAt.dp {K : PySem.W.Frag} {H : Hp} {L : Addr} {ss : List Sd} {n : Nat} (h : StAt H L ss n) : Dp K H (.ref L) (stL ss n) := by
  obtain ⟨ps, a, b, c⟩ := h
  have := dp_from (K := K) (ss := ss) ps 0 fun i p e => by
    rw [Nat.zero_add]
    exact c i p e
  rw [b, ← List.range_eq_range'] at this
  exact .lst (SqL.of a) this
theorem StAt.same {H H' : Hp} {L : Addr} {ss : List Sd} {n : Nat} (h : StAt H L ss n) (s : Same H H') : StAt H' L ss n := let ⟨ps, a, b, c⟩ := h; ⟨ps, s _ _ a, b, fun i p e => s _ _ (c i p e)⟩
structure MaxT (mg : Str → Option Value) : Prop where
  max : mg "max" = none
  min : mg "min" = none
def spStops : Sp := fun vs H Q _ => ∃ (l : Addr) (xs : List V) (ss : List Sd) (n : Nat), vs = [.ref l, .int (n : Int)] ∧ SidesAt H l xs ss ∧ n ≤ 100000 ∧ ∀ (L : Addr) (H' : Hp), H L = none → Same H H' → StAt H' L ss n → Q (.ref L) H'
section
variable {P : Program} {w : World} {K : PySem.W.Frag} {mg : Str → Option Value} {base : Heap} {f1 f2 f3 f4 : Addr} {d1 d2 d3 d4 : FuncData}
theorem ok_stops {f : Addr} {fd : FuncData} (F : Fun K "_law_stops" "_law_stops" s_L_stops f fd) (G : UnG mg) (MT : MaxT mg) (Wr : Cal P w K mg base "_law_written" 3 ["_law_sides", "_law_value"] spWrL f1 d1) : FnOk P w K mg base CX0 4 f fd ["_law_sides", "_law_period_here"] spStops := by
  refine F.ok sc_L_stops (fun vs H Q E h => ?_) (fun cdv A outer s0 H vs Q E hr h => ?_)
  · obtain ⟨l, xs, ss, n, rfl, _⟩ := h
    rfl
  · obtain ⟨l, xs, ss, n, rfl, SS, n5, q⟩ := h
    have nd := sc_L_stops.nd
    refine ⟨_, (pss_cons (ps_set (i := 2) nd rfl (Or.inl rfl) (pe_lst pa_nil))
      (pss_cons (ps_for PassesOwn.never rfl (pi_range1 (by rfl) G.range (pa_cons (pv 1) pa_nil)) (pg_name (i := 3) nd rfl (Or.inl rfl)) (pss_cons (ps_set (i := 4) nd rfl (Or.inl rfl) (pcl Wr hr (by decide) (by rfl) (pa_cons (pv 0) (pa_cons (pv 3) pa_nil))))
      (pss_one (ps_expr (pe_bm PySem.F.plainAttrs_list PySem.F.slot_list_append PySem.F.type_list_append mt_append (pv 2) (pa_cons (pe_tup (pa_cons (pe_cmpR op_le (pe_callB (cr_max rfl) (by rfl) MT.max (by decide +kernel) (pa_cons (pv 4) pa_nil)) (pv 3) (nomark _)) (pa_cons (pe_cmpR op_ge (pe_callB (cr_min rfl) (by rfl) MT.min (by decide +kernel) (pa_cons (pv 4) pa_nil)) (pv 3) (nomark _)) pa_nil))) pa_nil))))))
      (pss_one (ps_ret (pv 2))))), ?_⟩
    walk_at "rd"
    refine ⟨(by show 0 ≤ sizeLine; decide), fun L nL => ?_⟩
    have gL : upd H L (.lst []) L = some (.lst []) := upd_same
    have sL : Same H (upd H L (.lst [])) := same_upd nL
    generalize upd H L (.lst []) = H1 at gL sL ⊢
    walk_at "rd"
    refine ⟨by omega, by omega, ?_⟩
    rw [Int.toNat_natCast]
    refine for_range (n := n) (fun i st H' => ∃ (x3 x4 : Option V) (ps : List Addr), st = [some (.ref l), some (.int (n : Int)), some (.ref L), x3, x4] ∧ H' L = some (.lst (ps.map V.ref)) ∧ ps.length = i ∧ (∀ (j : Nat) (p : Addr), ps[j]? = some p → H' p = some (.tup [.bl (stU ss (j : Int)), .bl (stN ss (j : Int))])) ∧ Same H H')
      ⟨none, none, [], rfl, gL, rfl, (fun j p h => nomatch h), sL⟩ ?_ ?_
    · rintro i st H' hi ⟨x3, x4, ps, rfl, hL, lp, at_, sm⟩
      have ei : (0 : Int) + (i : Int) = (i : Int) := Int.zero_add _
      walk_at "rd"
      rw [ei]
      refine ⟨l, xs, ss, (i : Int), rfl, SS.same sm, by omega, fun W H3 nW s3 hW => ?_⟩
      have hne : 0 < ((ss.map fun d => dueM d.o d.s d.m (i : Int)).map V.int).length := by rw [List.length_map, List.length_map]; exact SS.l1
      have hne' : 0 < (ss.map fun d => dueM d.o d.s d.m (i : Int)).length := by rw [List.length_map]; exact SS.l1
      walk_at "rd"
      refine ⟨.inl ⟨rfl, _, SqL.of (s3 _ _ hL)⟩, ?_⟩
      walk_at "rd"
      refine ⟨W, _, rfl, SqL.of hW, hne', fun m1 mi1 mm1 => ?_⟩
      walk_at "rd"
      refine ⟨W, _, rfl, SqL.of hW, hne', fun m2 mi2 mm2 => ?_⟩
      walk_at "rd"
      have e1 : decide (m1 ≤ (i : Int)) = stU ss (i : Int) := by
        rw [Bool.eq_iff_iff, decide_eq_true_iff, stU_t, max_iff mi1 mm1, all_due (R := fun y => y ≤ (i : Int))]
        exact Iff.rfl
      have e2 : decide ((i : Int) ≤ m2) = stN ss (i : Int) := by
        rw [Bool.eq_iff_iff, decide_eq_true_iff, stN_t, min_iff mi2 mm2, all_due (R := fun y => (i : Int) ≤ y)]
        exact Iff.rfl
      refine ⟨(by show 2 ≤ sizeLine; decide), fun T nT => ?_⟩
      have gT : upd H3 T (.tup [.bl (decide (m1 ≤ (i : Int))), .bl (decide ((i : Int) ≤ m2))]) T = some (.tup [.bl (stU ss (i : Int)), .bl (stN ss (i : Int))]) := by rw [e1, e2]; exact upd_same
      have sT : Same H3 (upd H3 T (.tup [.bl (decide (m1 ≤ (i : Int))), .bl (decide ((i : Int) ≤ m2))])) := same_upd nT
      generalize upd H3 T (.tup [.bl (decide (m1 ≤ (i : Int))), .bl (decide ((i : Int) ≤ m2))]) = H4 at gT sT ⊢
      have s34 := s3.trans sT
      have hL4 := s34 _ _ hL
      refine ⟨L, _, _, rfl, rfl, hL4, ?_, ?_⟩
      · rw [List.length_map]
        exact Nat.lt_of_lt_of_le (by omega : _ < 100001) (by decide)
      have keep : ∀ {q : Addr} {xs : List V}, H4 q = some (.tup xs) → ∀ z, upd H4 L (.lst z) q = some (.tup xs) := fun h z => (upd_ne (ne_of h hL4 (by intro y; cases y))).trans h
      refine ⟨_, _, ps ++ [T], rfl, by rw [List.map_append]; exact upd_same, by rw [List.length_append, lp]; rfl, fun j p hj => ?_, fun b u z => (upd_ne (ne_of_none z nL)).trans (s34 _ _ (sm _ _ z))⟩
      by_cases jl : j < ps.length
      · rw [List.getElem?_append_left jl] at hj
        exact keep (s34 _ _ (at_ j p hj)) _
      · rw [List.getElem?_append_right (by omega)] at hj
        cases e : j - ps.length with
        | zero =>
          rw [e] at hj
          cases hj
          obtain rfl : j = i := by omega
          exact keep gT _
        | succ n => rw [e] at hj; cases hj
    · rintro st H' ⟨x3, x4, ps, rfl, hL, lp, at_, sm⟩
      walk_at "rd"
      exact q L H' nL sm ⟨ps, hL, lp, at_⟩
end
end HT
namespace HT
open PySem L2
def spLDue : Sp := fun vs H Q _ => ∃ (l p : Addr) (xs : List V) (ss : List Sd) (o s : Int) (m : Str), vs = [.ref l, .ref p] ∧ SidesAt H l xs ss ∧ ss.length ≤ 3 ∧ H p = some (sideV o s m) ∧ SideP o s m ∧ comN (ss ++ [⟨o, s, m⟩]) ≤ 20000 ∧ s ≤ 9999 ∧ ∀ (r : Option Nat) (H' : Hp), FewIs (NdP ss o m) s r → (∀ k, r = some k → k ≤ 3) → Same H H' → Q (optV r) H'
section
variable {P : Program} {w : World} {K : PySem.W.Frag} {mg : Str → Option Value} {base : Heap} {f1 f2 f3 f4 : Addr} {d1 d2 d3 d4 : FuncData}
theorem ok_L_due {f : Addr} {fd : FuncData} (F : Fun K "_law_due" "_law_due" s_L_due f fd) (G : UnG mg) (Pe : Cal P w K mg base "_law_period" 2 ["_law_sides"] spPer f1 d1) (St : Cal P w K mg base "_law_stops" 4 ["_law_sides", "_law_period_here"] spStops f2 d2) : FnOk P w K mg base CX0 5 f fd ["_law_sides", "_law_further"] spLDue := by
  refine F.ok sc_L_due (fun vs H Q E h => ?_) (fun cdv A outer s0 H vs Q E hr h => ?_)
  · obtain ⟨l, p, xs, ss, o, s, m, rfl, _⟩ := h
    rfl
  · obtain ⟨l, p, xs, ss, o, s, m, rfl, SS, l3, hp, sp, c2, s9, q⟩ := h
    have nd := sc_L_due.nd
    refine ⟨_, (pss_cons (ps_asg (pv 1) (pg_tup (by rfl) (pgs_cons (pg_name (i := 2) nd rfl (Or.inl rfl)) (pgs_cons (pg_name (i := 3) nd rfl (Or.inl rfl)) (pgs_cons (pg_name (i := 4) nd rfl (Or.inl rfl)) pgs_nil)))))
      (pss_cons (ps_for PassesOwn.never rfl (pi_range1 (by rfl) G.range (pa_cons pe_int pa_nil)) (pg_name (i := 5) nd rfl (Or.inl rfl)) (pss_cons (ps_set (i := 6) nd rfl (Or.inl rfl) (pe_op op_cat (pv 0) (pe_lst (pa_cons (pe_tup (pa_cons (pv 2) (pa_cons (pv 3) (pa_cons (pv 4) pa_nil)))) pa_nil))))
      (pss_cons (ps_set (i := 7) nd rfl (Or.inl rfl) (pcl Pe hr (by decide) (by rfl) (pa_cons (pv 6) pa_nil)))
      (pss_cons (ps_if (pt_cmpR (op_eqD hr.units) (pcl St hr (by decide) (by rfl) (pa_cons (pv 0) (pa_cons (pv 7) pa_nil))) (pcl St hr (by decide) (by rfl) (pa_cons (pv 6) (pa_cons (pv 7) pa_nil))) (nomark _)) (pss_one (ps_ret (pv 5))) pss_nil)
      (pss_cons (ps_if (pt_cmpR op_ne (pe_op op_mod (pv 3) pe_int) pe_int (nomark _)) (pss_one (ps_ret pe_non)) pss_nil)
      (pss_one (ps_set (i := 3) nd rfl (Or.inl rfl) (pe_op op_fdiv (pv 3) pe_int))))))))
      (pss_one (ps_ret pe_non)))), ?_⟩
    have l1 := SS.l1
    have ln := SS.len
    have s0' := sp.s0
    have s1' := sp.s1
    walk_at "rd"
    refine ⟨p, _, rfl, SqT.of hp, rfl, _, _, rfl, _, _, rfl, _, _, rfl, rfl, ?_⟩
    walk_at "rd"
    refine ⟨by decide, by decide, ?_⟩
    refine for_range (fun i σ H' => ∃ (t : Int) (x5 x6 x7 : Option V), σ = [some (.ref l), some (.ref p), some (.int o), some (.int t), some (.str m), x5, x6, x7] ∧ Same H H' ∧ Drop (NdP ss o m) s i t ∧ t ≤ s) ⟨s, none, none, none, rfl, Same.refl H, drop0 s0', Int.le_refl _⟩ ?_ ?_
    · rintro k σ H1 hk ⟨t, x5, x6, x7, rfl, s1, dr, ts⟩
      replace hk : k < 4 := hk
      have t1 := dr.2.1
      have spt : SideP o t m := ⟨sp.o0, sp.o1, t1, by omega, sp.md⟩
      have c2t : comN (ss ++ [⟨o, t, m⟩]) ≤ 20000 := by
        have a := com_drop (ss := ss) (o := o) (m := m) (k := k) t1
        rw [← dr.1] at a
        have b : 0 < comN (ss ++ [⟨o, s, m⟩]) := com_pos _ 1 (by decide) fun d hd => by
          rcases List.mem_append.mp hd with h | h
          · exact SS.side d h
          · rcases List.mem_singleton.mp h with rfl
            exact sp
        exact Nat.le_trans (Nat.le_of_dvd b a) c2
      walk_at "rd"
      rw [show (0 : Int) + (k : Int) = (k : Int) from Int.zero_add _]
      refine ⟨(by show 3 ≤ sizeLine; decide), fun pt npt => ?_⟩
      have gpt : upd H1 pt (.tup [.int o, .int t, .str m]) pt = some (sideV o t m) := upd_same
      have spt1 : Same H1 (upd H1 pt (.tup [.int o, .int t, .str m])) := same_upd npt
      generalize upd H1 pt (.tup [.int o, .int t, .str m]) = H2 at gpt spt1 ⊢
      walk_at "rd"
      refine ⟨(by show 1 ≤ sizeLine; decide), fun L1 nL1 => ?_⟩
      have gL1 : upd H2 L1 (.lst [.ref pt]) L1 = some (.lst [.ref pt]) := upd_same
      have sL1 : Same H2 (upd H2 L1 (.lst [.ref pt])) := same_upd nL1
      generalize upd H2 L1 (.lst [.ref pt]) = H3 at gL1 sL1 ⊢
      walk_at "rd"
      have hl3 := sL1 _ _ (spt1 _ _ (s1 _ _ SS.hl))
      refine ⟨l, L1, _, _, rfl, rfl, hl3, gL1, (by show xs.length + 1 ≤ sizeLine; exact Nat.le_trans (by omega : _ ≤ 4) (by decide)), fun L2 nL2 => ?_⟩
      have gL2 : upd H3 L2 (.lst (xs ++ [.ref pt])) L2 = some (.lst (xs ++ [.ref pt])) := upd_same
      have sL2 : Same H3 (upd H3 L2 (.lst (xs ++ [.ref pt]))) := same_upd nL2
      generalize upd H3 L2 (.lst (xs ++ [.ref pt])) = H4 at gL2 sL2 ⊢
      have s14 : Same H1 H4 := spt1.trans (sL1.trans sL2)
      have SS4 := (SS.same (s1.trans s14)).snoc l3 (sL2 _ _ (sL1 _ _ gpt)) spt gL2
      walk_at "rd"
      refine ⟨L2, _, _, rfl, SS4, ?_⟩
      walk_at "rd"
      refine ⟨l, xs, ss, comN (ss ++ [⟨o, t, m⟩]), rfl, SS.same (s1.trans s14), by omega, fun La H5 nLa s5 ha => ?_⟩
      walk_at "rd"
      refine ⟨L2, _, _, comN (ss ++ [⟨o, t, m⟩]), rfl, SS4.same s5, by omega, fun Lb H6 nLb s6 hb => ?_⟩
      walk_at "rd"
      refine ⟨_, _, (ha.same s6).dp, hb.dp, shaped_stops _ _, shaped_stops _ _, _, rfl, ?_⟩
      have s06 := s1.trans (s14.trans (s5.trans s6))
      have iff : PyData.eqv (stL ss (comN (ss ++ [⟨o, t, m⟩]))) (stL (ss ++ [⟨o, t, m⟩]) (comN (ss ++ [⟨o, t, m⟩]))) = true ↔ ¬ NdP ss o m t := by
        rw [eqv_stops]
        exact need_stops.symm
      refine ite2 (fun z => ?_) (fun z => ?_)
      · walk_at "rd"
        refine q (some k) H6 (drop_done dr (iff.mp z)) (fun j e => by cases e; omega) s06
      · have nd : NdP ss o m t := Classical.byContradiction fun n => z (iff.mpr n)
        walk_at "rd"
        refine ⟨(by show (0 : Int) < 10; decide), ?_⟩
        walk_at "rd"
        refine ⟨rfl, _, rfl, ?_⟩
        by_cases hd : t % 10 = 0
        · refine ite2 (fun z => absurd z (by simp [hd])) (fun _ => ?_)
          walk_at "rd"
          refine ⟨⟨by decide, by decide⟩, ?_⟩
          exact ⟨t / 10, _, _, _, rfl, s06, drop_succ dr nd hd, by omega⟩
        · refine ite2 (fun _ => ?_) (fun z => absurd (by simp [hd]) z)
          walk_at "rd"
          exact q none H6 (drop_out dr nd hd) (fun j e => nomatch e) s06
    · rintro σ H1 ⟨t, x5, x6, x7, rfl, s1, dr, ts⟩
      have e := dr.1
      have t1 := dr.2.1
      have e' : s = t * 10000 := e
      omega
end
end HT
namespace HT
open PySem L2
/-- a test whose ways are joined by a statement of the heap -/
def tMidT (t : TT) : TT := fun σ H Q => ∃ M : Bool → Hp → Prop, t σ H M ∧ ∀ b H', M b H' → Q b H'
def tMidE (t : TE) : TE := fun σ H Q => ∃ M : V → Hp → Prop, t σ H M ∧ ∀ v H', M v H' → Q v H'
def tMidS (t : TS) : TS := fun D σ H => ∃ M : St → Hp → Prop, t { D with nx := M } σ H ∧ ∀ σ' H', M σ' H' → D.nx σ' H'
theorem pt_mid {X : Cx} {e : Expr} {t : TT} (h : PT X e t) : PT X e (tMidT t) :=
  ⟨fun pins s σ H _ I ⟨M, a, b⟩ => thn (h.run pins s σ H M I a) fun c _ ⟨H1, I1, q1⟩ => ⟨H1, I1, b c H1 q1⟩⟩
theorem pe_mid {X : Cx} {e : Expr} {t : TE} (h : PE X e t) : PE X e (tMidE t) :=
  ⟨fun pins s σ H _ I ⟨M, a, b⟩ => thn (h.run pins s σ H M I a) fun _ _ ⟨v, H1, I1, r, q1⟩ => ⟨v, H1, I1, r, b v H1 q1⟩⟩
theorem ps_mid {X : Cx} {st : Stmt} {t : TS} (h : PS X st t) : PS X st (tMidS t) :=
  ⟨fun pins s σ H D I ⟨M, a, b⟩ => thn (h.run pins s σ H { D with nx := M } I a) fun f _ q => by
    cases f with
    | next => obtain ⟨σ', H', I', q⟩ := q; exact ⟨σ', H', I', b σ' H' q⟩
    | brk => exact q
    | cont => exact q
    | ret v => exact q⟩
end HT
namespace HT
open PySem L2
def sdD (d : Sd) : PyData := .tuple [.int d.o, .int d.s, .str d.m]
theorem modes_ok {m : Str} (h : Mode m) : PyData.strOk m = true := by
  rcases h with e | e | e | e | e <;> subst e <;> decide +kernel
theorem can_sides : ∀ {ss : List Sd}, (∀ d ∈ ss, Mode d.m) → PyData.canLayAll0 (ss.map sdD) = true ∧ PyData.depthAll (ss.map sdD) ≤ 2
  | [], _ => ⟨rfl, Nat.zero_le _⟩
  | u :: us, h => by
    obtain ⟨a, b⟩ := can_sides fun d hd => h d (List.mem_cons_of_mem _ hd)
    have c := modes_ok (h u List.mem_cons_self)
    refine ⟨?_, ?_⟩
    · simp [PyData.canLayAll0, sdD, PyData.canLay0, c, a]
    · show max (PyData.depth (sdD u)) (PyData.depthAll (us.map sdD)) ≤ 2
      refine Nat.max_le.mpr ⟨?_, b⟩
      show PyData.depth (.tuple [.int _, .int _, .str _]) ≤ 2
      simp [PyData.depth, PyData.depthAll]
theorem shaped_sides {ss : List Sd} (h : ∀ d ∈ ss, Mode d.m) : SeqAt.shaped (.list (ss.map sdD)) = true := by
  obtain ⟨a, b⟩ := can_sides h
  unfold SeqAt.shaped
  rw [Bool.and_eq_true]
  refine ⟨a, decide_eq_true ?_⟩
  show PyData.depthAll (ss.map sdD) + 1 ≤ 64
  omega
theorem sidesDp {K : PySem.W.Frag} {H : Hp} : ∀ {xs : List V} {ss : List Sd}, xs.length = ss.length → (∀ (i : Nat) (d : Sd), ss[i]? = some d → ∃ p : Addr, xs[i]? = some (V.ref p) ∧ H p = some (sideV d.o d.s d.m) ∧ SideP d.o d.s d.m) → DpAll K H xs (ss.map sdD)
  | [], [], _, _ => .nil
  | [], _ :: _, l, _ => nomatch l
  | _ :: _, [], l, _ => nomatch l
  | x :: xs, d :: ss, l, S => by
    obtain ⟨p, e, hp, _⟩ := S 0 d rfl
    cases e
    exact .cons (.tup (SqT.of hp) (.cons (.int _) (.cons (.int _) (.cons (.str _) .nil)))) (sidesDp (Nat.succ.inj l) fun i e h => S (i + 1) e h)
theorem SidesAt.dp {K : PySem.W.Frag} {H : Hp} {l : Addr} {xs : List V} {ss : List Sd} (S : SidesAt H l xs ss) : Dp K H (.ref l) (.list (ss.map sdD)) := .lst (SqL.of S.hl) (sidesDp S.len S.at_)
end HT
namespace HT
open PySem L2
def optD : Option Nat → PyData
  | some k => .int (k : Int)
  | none => .none
theorem opt_dp {K : PySem.W.Frag} {H : Hp} (r : Option Nat) : Dp K H (optV r) (optD r) := by
  cases r with
  | none => exact .non
  | some k => exact .int _
theorem opt_shaped (r : Option Nat) : SeqAt.shaped (optD r) = true := by cases r <;> rfl
theorem opt_eqv (r : Option Nat) : PyData.eqv (optD r) (optD r) = true := by
  cases r with
  | none => rfl
  | some k => show decide _ = true; simp
/-- law's: a list of at most 63 ints is handed in, True comes out -/
def spLaw (K : PySem.W.Frag) : Sp := fun vs H Q _ => ∃ (l : Addr) (ns : List Int), vs = [.ref l] ∧ SqL K H l (ns.map V.int) ∧ ns.length ≤ 63 ∧ ∀ H', Q (.bl true) H'
theorem FewIs.next {N : Int → Prop} {t : Int} {k : Nat} (h : FewIs N t (some (k + 1))) (t1 : 1 ≤ t) : FewIs N (t / 10) (some k) ∧ t = t / 10 * 10 ∧ 1 ≤ t / 10 := by
  generalize e : some (k + 1) = r at h
  cases h with
  | done _ => cases e
  | out _ _ => cases e
  | @more _ r h d f =>
    cases r with
    | none => cases e
    | some x =>
      have : x = k := by
        have e' : some (k + 1) = some (x + 1) := e
        injection e' with e'
        omega
      subst this
      exact ⟨f, by omega, by omega⟩
theorem FewIs.last {N : Int → Prop} {t : Int} (h : FewIs N t (some 0)) : ¬ N t := by
  generalize e : some 0 = r at h
  cases h with
  | done n => exact n
  | out _ _ => cases e
  | @more _ r h d f => cases r <;> cases e
theorem SidesAt.set0 {H H' : Hp} {l pn : Addr} {xs : List V} {ss : List Sd} {o s : Int} {m : Str} (S : SidesAt H l xs ss) (k : ∀ b ys, H b = some (.tup ys) → H' b = some (.tup ys)) (hp : H' pn = some (sideV o s m)) (sp : SideP o s m) (hl : H' l = some (.lst (xs.set 0 (.ref pn)))) : SidesAt H' l (xs.set 0 (.ref pn)) (ss.set 0 ⟨o, s, m⟩) := by
  refine ⟨hl, by rw [List.length_set, List.length_set, S.len], by rw [List.length_set]; exact S.l1, by rw [List.length_set]; exact S.l4, fun i d hd => ?_⟩
  have l1 := S.l1
  have ln := S.len
  cases i with
  | zero =>
    rw [List.getElem?_set_self (by omega)] at hd
    cases hd
    exact ⟨pn, by rw [List.getElem?_set_self (by omega)], hp, sp⟩
  | succ i =>
    rw [List.getElem?_set_ne (by omega)] at hd
    obtain ⟨p, e, hp2, sp2⟩ := S.at_ _ _ hd
    exact ⟨p, by rw [List.getElem?_set_ne (by omega)]; exact e, k _ _ hp2, sp2⟩
theorem one_side {H : Hp} {l p : Addr} {o s : Int} {m : Str} (hl : H l = some (.lst [.ref p])) (hp : H p = some (sideV o s m)) (sp : SideP o s m) : SidesAt H l [.ref p] [⟨o, s, m⟩] :=
  ⟨hl, rfl, Nat.le_refl _, by show 1 ≤ 4; decide, fun i d hd => by
    cases i with
    | zero => cases hd; exact ⟨p, rfl, hp, sp⟩
    | succ i => cases hd⟩
theorem few_hu : FewIs (NdP [⟨0, 10, "half_up"⟩] 0 "half_up") 10000 (some 3) ∧ FewIs (NdP [⟨0, 10, "half_up"⟩] 0 "half_up") 100 (some 1) := by
  have n4 : NdP [⟨0, 10, "half_up"⟩] 0 "half_up" 10000 := ⟨5000, by decide +kernel, .inl (by decide +kernel)⟩
  have n3 : NdP [⟨0, 10, "half_up"⟩] 0 "half_up" 1000 := ⟨500, by decide +kernel, .inl (by decide +kernel)⟩
  have n2 : NdP [⟨0, 10, "half_up"⟩] 0 "half_up" 100 := ⟨50, by decide +kernel, .inl (by decide +kernel)⟩
  have n1 : ¬ NdP [⟨0, 10, "half_up"⟩] 0 "half_up" 10 := by
    rintro ⟨v, hv, h⟩
    have c : comN ([⟨0, 10, "half_up"⟩] ++ [⟨0, 10, "half_up"⟩]) = 10 := by decide +kernel
    rw [c] at hv
    have k : ∀ v : Fin 10, ¬ (upsL ([⟨0, 10, "half_up"⟩] ++ [⟨0, 10, "half_up"⟩]) ((v.val : Nat) : Int) = [1] ∨ dnsL ([⟨0, 10, "half_up"⟩] ++ [⟨0, 10, "half_up"⟩]) ((v.val : Nat) : Int) = [1]) := by decide +kernel
    exact k ⟨v, hv⟩ h
  have f2 : FewIs (NdP [⟨0, 10, "half_up"⟩] 0 "half_up") 100 (some 1) := .more (r := some 0) n2 (by decide) (.done n1)
  exact ⟨.more (r := some 2) n4 (by decide) (.more (r := some 1) n3 (by decide) f2), f2⟩
theorem few_up : ∀ s : Int, s ∈ ([12, 15, 25, 75] : List Int) → FewIs (NdP [⟨0, 10, "up"⟩] 0 "up") s none := by
  intro s hs
  simp only [List.mem_cons, List.not_mem_nil, or_false] at hs
  rcases hs with rfl | rfl | rfl | rfl
  · exact .out ⟨10, by decide +kernel, .inl (by decide +kernel)⟩ (by decide)
  · exact .out ⟨10, by decide +kernel, .inl (by decide +kernel)⟩ (by decide)
  · exact .out ⟨10, by decide +kernel, .inl (by decide +kernel)⟩ (by decide)
  · exact .out ⟨10, by decide +kernel, .inl (by decide +kernel)⟩ (by decide)
theorem md_hu : Mode "half_up" := .inr (.inr (.inr (.inl rfl)))
theorem md_up : Mode "up" := .inr (.inl rfl)
theorem few_at {o s : Int} {m : Str} (b1 : -30 ≤ o) (b2 : o ≤ 29) (b3 : 1 ≤ s) (b4 : s ≤ 9999) (md : Mode m) : SideP o s m := ⟨by omega, by omega, b3, by omega, md⟩
section
variable {P : Program} {w : World} {K : PySem.W.Frag} {mg : Str → Option Value} {base : Heap} {f1 f2 f3 f4 f5 f6 f7 f8 f9 : Addr} {d1 d2 d3 d4 d5 d6 d7 d8 d9 : FuncData}
theorem ok_law {f : Addr} {fd : FuncData} (F : Fun K "law" "law" s_law f fd) (G : UnG mg) (hlist : mg "list" = none) (So : Cal P w K mg base "_law_source" 1 ["_law_script"] (spSource K) f1 d1) (D : Cal P w K mg base "_law_draw" 1 ["_law_source_here", "_law_limit"] spDraw f2 d2) (Pk : Cal P w K mg base "_law_pick" 2 ["_law_source_here", "_law_values"] spPick f3 d3) (Se : Cal P w K mg base "_law_set" 4 ["_law_source_here", "_law_most", "_law_many"] spSet f4 d4) (Sm : Cal P w K mg base "_law_small_side" 3 ["_law_source_here", "_law_most"] spSmall f5 d5) (Pe : Cal P w K mg base "_law_period" 2 ["_law_sides"] spPer f6 d6) (Du : Cal P w K mg base "_law_due" 5 ["_law_sides", "_law_further"] spLDue f7 d7) (Fp : Cal P w K mg base "fewest_places" 7 ["sides", "side"] spFew f8 d8) (Un : Cal P w K mg base "unneeded" 6 ["sides"] spUnn f9 d9) : FnOk P w K mg base CX0 8 f fd ["_law_script"] (spLaw K) := by
  refine F.ok sc_law (fun vs H Q E h => ?_) (fun cdv A outer s0 H vs Q E hr h => ?_)
  · obtain ⟨l, ns, rfl, _⟩ := h
    rfl
  · obtain ⟨l, ns, rfl, hl, hn, q⟩ := h
    have nd := sc_law.nd
    refine ⟨_, (pss_cons (ps_set (i := 1) nd rfl (Or.inl rfl) (pcl So hr (by decide) (by rfl) (pa_cons (pv 0) pa_nil)))
      (pss_cons (ps_for PassesOwn.never rfl (pi_range1 (by rfl) G.range (pa_cons pe_int pa_nil)) (pg_name (i := 2) nd rfl (Or.inl rfl)) (pss_cons (ps_set (i := 3) nd rfl (Or.inl rfl) (pcl Se hr (by decide) (by rfl) (pa_cons (pv 1) (pa_cons (pcl Pk hr (by decide) (by rfl) (pa_cons (pv 1) (pa_cons (pe_lst (pa_cons pe_int (pa_cons pe_int (pa_cons pe_int pa_nil)))) pa_nil))) (pa_cons pe_int pa_nil)))))
      (pss_cons (ps_set (i := 4) nd rfl (Or.inl rfl) (pcl Sm hr (by decide) (by rfl) (pa_cons (pv 1) (pa_cons (pcl Pk hr (by decide) (by rfl) (pa_cons (pv 1) (pa_cons (pe_lst (pa_cons pe_int (pa_cons pe_int (pa_cons pe_int pa_nil)))) pa_nil))) pa_nil))))
      (pss_cons (ps_set (i := 4) nd rfl (Or.inl rfl) (pe_tup (pa_cons (pe_ix ix_tup (pv 4) pe_int (fun _ _ => rfl)) (pa_cons (pe_op op_mulW (pe_ix ix_tup (pv 4) pe_int (fun _ _ => rfl)) (pcl Pk hr (by decide) (by rfl) (pa_cons (pv 1) (pa_cons (pe_lst (pa_cons pe_int (pa_cons pe_int (pa_cons pe_int (pa_cons pe_int pa_nil))))) pa_nil)))) (pa_cons (pe_ix ix_tup (pv 4) pe_int (fun _ _ => rfl)) pa_nil)))))
      (pss_cons (ps_mid (ps_if (pt_cmpR op_eq (pcl D hr (by decide) (by rfl) (pa_cons (pv 1) (pa_cons pe_int pa_nil))) pe_int (nomark _)) (pss_one (ps_asg (pe_tup (pa_cons (pe_op op_add (pe_ix ix_tup (pv 4) pe_int (fun _ _ => rfl)) (pcl D hr (by decide) (by rfl) (pa_cons (pv 1) (pa_cons pe_int pa_nil)))) (pa_cons (pe_ix ix_tup (pv 4) pe_int (fun _ _ => rfl)) (pa_cons (pe_ix ix_tup (pv 4) pe_int (fun _ _ => rfl)) pa_nil)))) (pg_sub (pv 3) pe_int set_list))) pss_nil))
      (pss_one (ps_if (pt_cmpR op_le (pcl Pe hr (by decide) (by rfl) (pa_cons (pe_op op_cat (pv 3) (pe_lst (pa_cons (pv 4) pa_nil))) pa_nil)) pe_int (nomark _)) (pss_cons (ps_set (i := 5) nd rfl (Or.inl rfl) (pcl Du hr (by decide) (by rfl) (pa_cons (pv 3) (pa_cons (pv 4) pa_nil))))
      (pss_cons (ps_set (i := 6) nd rfl (Or.inl rfl) (pe_callTy call_list_of (by rfl) hlist (by decide +kernel) (pa_cons (pv 3) pa_nil)))
      (pss_cons (ps_if (PW.pt (pw_or (pt_cmpR (op_neD hr.units) (pcl Fp hr (by decide) (by rfl) (pa_cons (pv 3) (pa_cons (pv 4) pa_nil))) (pv 5) (nomark _)) (pw_or1 (pt_cmpR (op_neD hr.units) (pv 3) (pv 6) (nomark _))))) (pss_one (ps_ret pe_bl)) pss_nil)
      (pss_one (ps_if (pt_cmpR op_notN (pv 5) pe_non (nomark _)) (pss_cons (ps_set (i := 7) nd rfl (Or.inl rfl) (pe_ix ix_tup (pv 4) pe_int (fun _ _ => rfl)))
      (pss_cons (ps_for PassesOwn.never rfl (pi_range1 (by rfl) G.range (pa_cons (pv 5) pa_nil)) (pg_name (i := 8) nd rfl (Or.inl rfl)) (pss_one (ps_set (i := 7) nd rfl (Or.inl rfl) (pe_op op_fdiv (pv 7) pe_int))))
      (pss_one (ps_if (pt_cmpR op_notIn_seq (pe_callB call_len_seq (by rfl) G.len PySem.boot_len (pa_cons (pv 3) pa_nil)) (pcl Un hr (by decide) (by rfl) (pa_cons (pe_op op_cat (pv 3) (pe_lst (pa_cons (pe_tup (pa_cons (pe_ix ix_tup (pv 4) pe_int (fun _ _ => rfl)) (pa_cons (pv 7) (pa_cons (pe_ix ix_tup (pv 4) pe_int (fun _ _ => rfl)) pa_nil)))) pa_nil))) pa_nil)) (by rfl)) (pss_one (ps_ret pe_bl)) pss_nil)))) pss_nil))))) pss_nil)))))))
      (pss_cons (ps_if (pt_cmpR (op_neD hr.units) (pcl Fp hr (by decide) (by rfl) (pa_cons (pe_lst (pa_cons (pe_tup (pa_cons pe_int (pa_cons pe_int (pa_cons pe_str pa_nil)))) pa_nil)) (pa_cons (pe_tup (pa_cons pe_int (pa_cons pe_int (pa_cons pe_str pa_nil)))) pa_nil))) pe_int (nomark _)) (pss_one (ps_ret pe_bl)) pss_nil)
      (pss_cons (ps_for PassesOwn.never rfl (pi_list (pe_lst (pa_cons pe_int (pa_cons pe_int (pa_cons pe_int (pa_cons pe_int pa_nil)))))) (pg_name (i := 7) nd rfl (Or.inl rfl)) (pss_one (ps_if (pt_cmpR op_notN (pcl Fp hr (by decide) (by rfl) (pa_cons (pe_lst (pa_cons (pe_tup (pa_cons pe_int (pa_cons pe_int (pa_cons pe_str pa_nil)))) pa_nil)) (pa_cons (pe_tup (pa_cons pe_int (pa_cons (pv 7) (pa_cons pe_str pa_nil)))) pa_nil))) pe_non (nomark _)) (pss_one (ps_ret pe_bl)) pss_nil)))
      (pss_one (ps_ret (pe_cmpR (op_eqD hr.units) (pcl Fp hr (by decide) (by rfl) (pa_cons (pe_lst (pa_cons (pe_tup (pa_cons pe_int (pa_cons pe_int (pa_cons pe_str pa_nil)))) pa_nil)) (pa_cons (pe_tup (pa_cons pe_int (pa_cons pe_int (pa_cons pe_str pa_nil)))) pa_nil))) pe_int (nomark _)))))))), ?_⟩
    walk_at "rd"
    refine ⟨l, ns, rfl, hl, hn, fun a c H1 _ _ _ S1 => ?_⟩
    walk_at "rd"
    refine ⟨by decide, by decide, ?_⟩
    refine for_range (fun i st H' => ∃ (x2 x3 x4 x5 x6 x7 x8 : Option V) (t : Nat), st = [some (.ref l), some (.ref a), x2, x3, x4, x5, x6, x7, x8] ∧ Src H' a c t ∧ t ≤ 100 * i) ⟨none, none, none, none, none, none, none, 0, rfl, S1, by omega⟩ ?_ ?_
    · rintro i st H2 hi ⟨x2, x3, x4, x5, x6, x7, x8, t, rfl, S2, tb⟩
      replace hi : i < 10 := hi
      walk_at "rd"
      refine ⟨(by show 3 ≤ sizeLine; decide), fun v1 nv1 => ?_⟩
      have ac1 := S2.na nv1
      have gv1 : upd H2 v1 (.lst [.int 4, .int 8, .int 12]) v1 = some (.lst [.int 4, .int 8, .int 12]) := upd_same
      have sv1 : Same H2 (upd H2 v1 (.lst [.int 4, .int 8, .int 12])) := same_upd nv1
      generalize upd H2 v1 (.lst [.int 4, .int 8, .int 12]) = H3 at gv1 sv1 ⊢
      refine ⟨a, c, t, v1, _, rfl, S2.of_same sv1, by omega, gv1, ac1.1, ac1.2, by decide, by decide, fun x H4 hx S4 O4 => ?_⟩
      obtain ⟨most, rfl, m1, m2⟩ : ∃ most : Nat, x = .int (most : Int) ∧ 1 ≤ most ∧ most ≤ 12 := by
        simp only [List.mem_cons, List.not_mem_nil, or_false] at hx
        rcases hx with rfl | rfl | rfl
        · exact ⟨4, rfl, by decide, by decide⟩
        · exact ⟨8, rfl, by decide, by decide⟩
        · exact ⟨12, rfl, by decide, by decide⟩
      walk_at "rd"
      refine ⟨a, c, t + 1, most, 3, rfl, S4, m1, by omega, by decide, by decide, by omega, fun ls xs ss H5 t5 SS5 l3 small la lc t5b S5 O5 => ?_⟩
      walk_at "rd"
      refine ⟨(by show 3 ≤ sizeLine; decide), fun v2 nv2 => ?_⟩
      have ac2 := S5.na nv2
      have gv2 : upd H5 v2 (.lst [.int 6, .int 30, .int 99]) v2 = some (.lst [.int 6, .int 30, .int 99]) := upd_same
      have sv2 : Same H5 (upd H5 v2 (.lst [.int 6, .int 30, .int 99])) := same_upd nv2
      generalize upd H5 v2 (.lst [.int 6, .int 30, .int 99]) = H6 at gv2 sv2 ⊢
      have S6 := S5.of_same sv2
      have SS6 := SS5.same sv2
      refine ⟨a, c, t5, v2, _, rfl, S6, by omega, gv2, ac2.1, ac2.2, by decide, by decide, fun x H7 hx S7 O7 => ?_⟩
      have SS7 := SS6.oth S6 la lc O7
      obtain ⟨mo2, rfl, n1, n2⟩ : ∃ most : Nat, x = .int (most : Int) ∧ 1 ≤ most ∧ most ≤ 99 := by
        simp only [List.mem_cons, List.not_mem_nil, or_false] at hx
        rcases hx with rfl | rfl | rfl
        · exact ⟨6, rfl, by decide, by decide⟩
        · exact ⟨30, rfl, by decide, by decide⟩
        · exact ⟨99, rfl, by decide, by decide⟩
      walk_at "rd"
      refine ⟨a, c, t5 + 1, mo2, rfl, S7, n1, by omega, by omega, fun p o s m H8 t8 hp b1 b2 b3 b4 md t8b S8 O8 => ?_⟩
      have SS8 := SS7.oth S7 la lc O8
      walk_at "rd"
      refine ⟨p, _, 0, _, rfl, rfl, SqT.of hp, rfl, ?_⟩
      walk_at "rd"
      refine ⟨p, _, 1, _, rfl, rfl, SqT.of hp, rfl, ?_⟩
      walk_at "rd"
      refine ⟨(by show 4 ≤ sizeLine; decide), fun v3 nv3 => ?_⟩
      have ac3 := S8.na nv3
      have gv3 : upd H8 v3 (.lst [.int 1, .int 10, .int 10, .int 100]) v3 = some (.lst [.int 1, .int 10, .int 10, .int 100]) := upd_same
      have sv3 : Same H8 (upd H8 v3 (.lst [.int 1, .int 10, .int 10, .int 100])) := same_upd nv3
      generalize upd H8 v3 (.lst [.int 1, .int 10, .int 10, .int 100]) = H9 at gv3 sv3 ⊢
      have S9 := S8.of_same sv3
      have SS9 := SS8.same sv3
      have hp9 := sv3 _ _ hp
      refine ⟨a, c, t8, v3, _, rfl, S9, by omega, gv3, ac3.1, ac3.2, by decide, by decide, fun x Ha hx Sa Oa => ?_⟩
      have SSa := SS9.oth S9 la lc Oa
      have hpa := Oa _ _ hp9 (S9.nt hp9).1 (S9.nt hp9).2
      obtain ⟨k, rfl, k1, k2⟩ : ∃ k : Int, x = .int k ∧ 1 ≤ k ∧ k ≤ 100 := by
        simp only [List.mem_cons, List.not_mem_nil, or_false] at hx
        rcases hx with rfl | rfl | rfl | rfl
        · exact ⟨1, rfl, by decide, by decide⟩
        · exact ⟨10, rfl, by decide, by decide⟩
        · exact ⟨10, rfl, by decide, by decide⟩
        · exact ⟨100, rfl, by decide, by decide⟩
      have sk1 : 1 ≤ s * k := by
        have : 1 * 1 ≤ s * k := Int.mul_le_mul b3 k1 (by decide) (by omega)
        omega
      have sk2 : s * k ≤ 9900 := by
        have : s * k ≤ 99 * 100 := Int.mul_le_mul (by omega) k2 (by omega) (by decide)
        omega
      walk_at "rd"
      refine ⟨mulW (by omega) (by omega), ?_⟩
      walk_at "rd"
      refine ⟨p, _, 2, _, rfl, rfl, SqT.of hpa, rfl, ?_⟩
      refine ⟨(by show 3 ≤ sizeLine; decide), fun pf npf => ?_⟩
      generalize eS : s * k = sf at sk1 sk2
      generalize eH : upd Ha pf _ = Hb
      have gpf : Hb pf = some (sideV o sf m) := by rw [← eH, upd_same, ← eS]; rfl
      have spf : Same Ha Hb := by rw [← eH]; exact same_upd npf
      clear eH
      have Sb := Sa.of_same spf
      have SSb := SSa.same spf
      have hls : ∀ {H' : Hp} {b : Addr} {xs : List V} {o : HO}, H' b = some (.lst xs) → H' pf = some (.tup [V.int 0]) → b ≠ pf := fun h1 h2 => ne_of h1 h2 (by intro z; cases z)
      walk_at "rd"
      refine ⟨fun st H' => ∃ (xs' : List V) (ss' : List Sd) (t' : Nat), st = [some (.ref l), some (.ref a), some (.int (0 + (i : Int))), some (.ref ls), some (.ref pf), x5, x6, x7, x8] ∧ Src H' a c t' ∧ t' ≤ t + 60 ∧ SidesAt H' ls xs' ss' ∧ ss'.length ≤ 3 ∧ H' pf = some (sideV o sf m), ?_, ?_⟩
      · walk_at "rd"
        refine ⟨a, c, t8 + 1, 3, rfl, Sb, by omega, by decide, lg_small (by decide) (by decide), fun kk Hc kk0 kk1 Sc Oc => ?_⟩
        have SSc := SSb.oth Sb la lc Oc
        have hpfc := Oc _ _ gpf (Sb.nt gpf).1 (Sb.nt gpf).2
        walk_at "rd"
        refine ⟨rfl, _, rfl, ?_⟩
        refine ite2 (fun _ => ?_) (fun _ => ?_)
        · walk_at "rd"
          refine ⟨pf, _, 0, _, rfl, rfl, SqT.of hpfc, rfl, ?_⟩
          walk_at "rd"
          refine ⟨a, c, t8 + 1 + 1, 2, rfl, Sc, by omega, by decide, lg_small (by decide) (by decide), fun kd Hd kd0 kd1 Sd Od => ?_⟩
          have SSd := SSc.oth Sc la lc Od
          have hpfd := Od _ _ hpfc (Sc.nt hpfc).1 (Sc.nt hpfc).2
          walk_at "rd"
          refine ⟨pf, _, 1, _, rfl, rfl, SqT.of hpfd, rfl, ?_⟩
          walk_at "rd"
          refine ⟨pf, _, 2, _, rfl, rfl, SqT.of hpfd, rfl, ?_⟩
          refine ⟨(by show 3 ≤ sizeLine; decide), fun pn npn => ?_⟩
          generalize eP : upd Hd pn _ = He
          have gpn : He pn = some (sideV (o + kd) sf m) := by rw [← eP, upd_same]; rfl
          have spn : Same Hd He := by rw [← eP]; exact same_upd npn
          clear eP
          walk_at "rd"
          have hlse := spn _ _ SSd.hl
          have lne : 0 < xs.length := by have := SSd.l1; have := SSd.len; omega
          refine ⟨ls, xs, 0, 0, rfl, rfl, hlse, by unfold ixN; rw [if_pos (by decide), if_pos (by omega)]; rfl, ?_⟩
          have Se := Sd.of_same spn
          have keepT : ∀ b ys, Hd b = some (.tup ys) → upd He ls (.lst (xs.set 0 (.ref pn))) b = some (.tup ys) := fun b ys h => (upd_ne (ne_of (spn _ _ h) hlse (by intro z; cases z))).trans (spn _ _ h)
          have npls : pn ≠ ls := ne_of gpn hlse (by intro z; cases z)
          refine ⟨_, _, t8 + 1 + 1 + 1, rfl, ?_, by omega, SSd.set0 (o := o + kd) (s := sf) (m := m) keepT ((upd_ne npls).trans gpn) ⟨by omega, by omega, sk1, by omega, md⟩ upd_same, by rw [List.length_set]; exact l3, keepT _ _ hpfd⟩
          obtain ⟨cs, hcs, hl2⟩ := Se.cl
          exact ⟨Se.ne, (upd_ne la.symm).trans Se.ob, cs, (upd_ne lc.symm).trans hcs, hl2⟩
        · walk_at "rd"
          exact ⟨xs, ss, _, rfl, Sc, by omega, SSc, l3, hpfc⟩
      rintro st Hc ⟨xs', ss', t', rfl, Sc, tc, SSc, l3', hpfc⟩
      clear SSb SSa SS9 SS8 SS7 SS6 SS5 l3 small
      walk_at "rd"
      have spf' : SideP o sf m := ⟨by omega, by omega, sk1, by omega, md⟩
      have hlsc := SSc.hl
      have lnc := SSc.len
      refine ⟨(by show 1 ≤ sizeLine; decide), fun L1 nL1 => ?_⟩
      have gL1 : upd Hc L1 (.lst [.ref pf]) L1 = some (.lst [.ref pf]) := upd_same
      have sL1 : Same Hc (upd Hc L1 (.lst [.ref pf])) := same_upd nL1
      generalize upd Hc L1 (.lst [.ref pf]) = H3 at gL1 sL1 ⊢
      walk_at "rd"
      refine ⟨ls, L1, _, _, rfl, rfl, sL1 _ _ hlsc, gL1, (by show xs'.length + 1 ≤ sizeLine; exact Nat.le_trans (by omega : _ ≤ 4) (by decide)), fun L2 nL2 => ?_⟩
      have gL2 : upd H3 L2 (.lst (xs' ++ [.ref pf])) L2 = some (.lst (xs' ++ [.ref pf])) := upd_same
      have sL2 : Same H3 (upd H3 L2 (.lst (xs' ++ [.ref pf]))) := same_upd nL2
      generalize upd H3 L2 (.lst (xs' ++ [.ref pf])) = H4 at gL2 sL2 ⊢
      have sc4 := sL1.trans sL2
      have SS4 := (SSc.same sc4).snoc l3' (sc4 _ _ hpfc) spf' gL2
      refine ⟨L2, _, _, rfl, SS4, ?_⟩
      walk_at "rd"
      refine ite2 (fun z => ?_) (fun z => ?_)
      · have c6 : comN (ss' ++ [⟨o, sf, m⟩]) ≤ 6000 := by have := of_decide_eq_true z; omega
        have S4 := Sc.of_same sc4
        have SSd := SSc.same sc4
        have hpf4 := sc4 _ _ hpfc
        walk_at "rd"
        refine ⟨ls, pf, xs', ss', o, sf, m, rfl, SSd, l3', hpf4, spf', by omega, by omega, fun r Hd few rk sd => ?_⟩
        walk_at "rd"
        refine ⟨ls, _, rfl, .inl (SqL.of (sd _ _ SSd.hl)), fun kp nkp => ?_⟩
        have gk : upd Hd kp (.lst xs') kp = some (.lst xs') := upd_same
        have sk : Same Hd (upd Hd kp (.lst xs')) := same_upd nkp
        generalize upd Hd kp (.lst xs') = He at gk sk ⊢
        have s4e := sd.trans sk
        have SSe := SSd.same s4e
        have SKe : SidesAt He kp xs' ss' := ⟨gk, SSe.len, SSe.l1, SSe.l4, SSe.at_⟩
        walk_at "rd"
        refine ⟨ls, pf, xs', ss', o, sf, m, rfl, SSe, l3', s4e _ _ hpf4, spf', by omega, fun r' Hf few' sf' => ?_⟩
        obtain rfl := few'.uniq few
        walk_at "rd"
        have md' : ∀ d ∈ ss', Mode d.m := fun d hd => (SSc.side d hd).md
        refine ⟨_, _, opt_dp r', opt_dp r', opt_shaped _, opt_shaped _, _, rfl, ?_⟩
        rw [opt_eqv]
        refine ite2 (fun z => absurd z (by decide)) (fun _ => ?_)
        walk_at "rd"
        refine ⟨_, _, (SSe.same sf').dp, (SKe.same sf').dp, shaped_sides md', shaped_sides md', _, rfl, ?_⟩
        rw [SeqAt.eqv_refl _ (SeqAt.canLay_of_shaped (shaped_sides md'))]
        refine ite2 (fun z => absurd z (by decide)) (fun _ => ?_)
        have s4f := s4e.trans sf'
        have Sf := S4.of_same s4f
        walk_at "rd"
        refine ⟨rfl, _, rfl, ?_⟩
        cases r' with
        | none =>
          refine ite2 (fun z => absurd z (by decide)) (fun _ => ?_)
          exact ⟨_, _, _, _, _, _, _, t', rfl, Sf, by omega⟩
        | some n =>
          refine ite2 (fun _ => ?_) (fun z => absurd (show (!decide (V.int (n : Int) = V.non)) = true by rfl) z)
          have n3 := rk n rfl
          have hpff := s4f _ _ hpf4
          walk_at "rd"
          refine ⟨pf, _, 1, _, rfl, rfl, SqT.of hpff, rfl, ?_⟩
          walk_at "rd"
          refine ⟨by omega, by omega, ?_⟩
          rw [Int.toNat_natCast]
          refine for_range (n := n) (fun j st H' => ∃ (x8 : Option V) (t : Int), st = [some (.ref l), some (.ref a), some (.int (0 + (i : Int))), some (.ref ls), some (.ref pf), some (.int (n : Int)), some (.ref kp), some (.int t), x8] ∧ H' = Hf ∧ FewIs (NdP ss' o m) t (some (n - j)) ∧ sf = t * 10 ^ j ∧ 1 ≤ t) ⟨_, sf, rfl, rfl, few, by simp, sk1⟩ ?_ ?_
          · rintro j st H' hj ⟨x8', t, rfl, rfl, ft, et, t1⟩
            obtain ⟨f2, e2, e3⟩ := FewIs.next (k := n - j - 1) (by rw [show n - j - 1 + 1 = n - j by omega]; exact ft) t1
            walk_at "rd"
            refine ⟨⟨by decide, by decide⟩, ?_⟩
            refine ⟨_, t / 10, rfl, rfl, by rw [show n - (j + 1) = n - j - 1 by omega]; exact f2, ?_, e3⟩
            rw [Int.pow_succ, Int.mul_comm (10 ^ j), ← Int.mul_assoc, ← e2]
            exact et
          rintro st H' ⟨x8', t, rfl, rfl, ft, et, t1⟩
          rw [Nat.sub_self] at ft
          have nN := ft.last
          have ts : t ≤ sf := by
            have : t * 1 ≤ t * 10 ^ n := Int.mul_le_mul_of_nonneg_left (Int.pow_pos (by decide)) (by omega)
            omega
          have spt : SideP o t m := ⟨by omega, by omega, t1, by omega, md⟩
          have c2t : comN (ss' ++ [⟨o, t, m⟩]) ≤ 20000 := by
            have a := com_drop (ss := ss') (o := o) (m := m) (k := n) t1
            rw [← et] at a
            have b : 0 < comN (ss' ++ [⟨o, sf, m⟩]) := com_pos _ 1 (by decide) SS4.side
            exact Nat.le_trans (Nat.le_of_dvd b a) (by omega)
          have SSf := SSe.same sf'
          walk_at "rd"
          refine ⟨ls, _, rfl, .inl (SqL.of SSf.hl), ?_⟩
          walk_at "rd"
          refine ⟨pf, _, 0, _, rfl, rfl, SqT.of hpff, rfl, ?_⟩
          walk_at "rd"
          refine ⟨pf, _, 2, _, rfl, rfl, SqT.of hpff, rfl, ?_⟩
          refine ⟨(by show 3 ≤ sizeLine; decide), fun pt npt => ?_⟩
          have gpt : upd H' pt (.tup [.int o, .int t, .str m]) pt = some (sideV o t m) := upd_same
          have spt1 : Same H' (upd H' pt (.tup [.int o, .int t, .str m])) := same_upd npt
          generalize upd H' pt (.tup [.int o, .int t, .str m]) = H2' at gpt spt1 ⊢
          walk_at "rd"
          refine ⟨(by show 1 ≤ sizeLine; decide), fun L1' nL1' => ?_⟩
          have gL1' : upd H2' L1' (.lst [.ref pt]) L1' = some (.lst [.ref pt]) := upd_same
          have sL1' : Same H2' (upd H2' L1' (.lst [.ref pt])) := same_upd nL1'
          generalize upd H2' L1' (.lst [.ref pt]) = H3' at gL1' sL1' ⊢
          walk_at "rd"
          have hl3' := sL1' _ _ (spt1 _ _ SSf.hl)
          refine ⟨ls, L1', _, _, rfl, rfl, hl3', gL1', (by show xs'.length + 1 ≤ sizeLine; exact Nat.le_trans (by omega : _ ≤ 4) (by decide)), fun L2' nL2' => ?_⟩
          have gL2' : upd H3' L2' (.lst (xs' ++ [.ref pt])) L2' = some (.lst (xs' ++ [.ref pt])) := upd_same
          have sL2' : Same H3' (upd H3' L2' (.lst (xs' ++ [.ref pt]))) := same_upd nL2'
          generalize upd H3' L2' (.lst (xs' ++ [.ref pt])) = H4' at gL2' sL2' ⊢
          have s14' : Same H' H4' := spt1.trans (sL1'.trans sL2')
          have SS4' := (SSf.same s14').snoc l3' (sL2' _ _ (sL1' _ _ gpt)) spt gL2'
          refine ⟨L2', _, _, rfl, SS4', c2t, fun L3 H5' ns nL3 s5 h5 un => ?_⟩
          walk_at "rd"
          have mem : ss'.length ∈ ns := by
            have l1' := SSc.l1
            rcases un with ⟨a, _⟩ | ⟨_, _, c⟩
            · rw [List.length_append, List.length_singleton] at a; omega
            · rw [c]; exact ⟨by rw [List.length_append, List.length_singleton]; omega, nN⟩
          refine ⟨L3, _, rfl, .inl (SqL.of h5), rfl, flat_nV ns, _, rfl, ?_⟩
          rw [show V.int (xs'.length : Int) = nV ss'.length by rw [lnc]; rfl, any_nV]
          refine ite2 (fun z => absurd z (by simp [mem])) (fun _ => ?_)
          exact ⟨_, _, _, _, _, _, _, t', rfl, Sf.of_same (s14'.trans s5), by omega⟩
      · exact ⟨_, _, _, _, _, _, _, t', rfl, Sc.of_same sc4, by omega⟩
    rintro st Hx ⟨x2, x3, x4, x5, x6, x7, x8, t, rfl, Sx, tb⟩
    walk_at "rd"
    refine ⟨(by show 3 ≤ sizeLine; decide), fun pA1 npA1 => ?_⟩
    have gA1 : upd Hx pA1 (.tup [.int 0, .int 10, .str "half_up"]) pA1 = some (sideV 0 10 "half_up") := upd_same
    have sA1 : Same Hx (upd Hx pA1 (.tup [.int 0, .int 10, .str "half_up"])) := same_upd npA1
    generalize upd Hx pA1 (.tup [.int 0, .int 10, .str "half_up"]) = HA1 at gA1 sA1 ⊢
    walk_at "rd"
    refine ⟨(by show 1 ≤ sizeLine; decide), fun lA1 nlA1 => ?_⟩
    have gl1 : upd HA1 lA1 (.lst [.ref pA1]) lA1 = some (.lst [.ref pA1]) := upd_same
    have sl1 : Same HA1 (upd HA1 lA1 (.lst [.ref pA1])) := same_upd nlA1
    generalize upd HA1 lA1 (.lst [.ref pA1]) = HB1 at gl1 sl1 ⊢
    walk_at "rd"
    refine ⟨(by show 3 ≤ sizeLine; decide), fun pB1 npB1 => ?_⟩
    generalize eB1 : upd HB1 pB1 _ = HC1
    have gB1 : HC1 pB1 = some (sideV 0 10000 "half_up") := by rw [← eB1, upd_same]; rfl
    have sB1 : Same HB1 HC1 := by rw [← eB1]; exact same_upd npB1
    clear eB1
    refine ⟨lA1, pB1, [.ref pA1], [⟨0, 10, "half_up"⟩], 0, 10000, "half_up", rfl, one_side (sB1 _ _ gl1) (sB1 _ _ (sl1 _ _ gA1)) (few_at (by decide) (by decide) (by decide) (by decide) md_hu), by show 1 ≤ 3; decide, gB1, ⟨by decide, by decide, by decide, by decide, md_hu⟩, by decide +kernel, fun r1 HD1 fw1 sD1 => ?_⟩
    obtain rfl := fw1.uniq few_hu.1
    walk_at "rd"
    refine ⟨_, _, opt_dp (some 3), .int 3, rfl, rfl, _, rfl, ?_⟩
    refine ite2 (fun z => absurd z (by decide)) (fun _ => ?_)
    walk_at "rd"
    refine ⟨(by show 4 ≤ sizeLine; decide), fun Lf nLf => ?_⟩
    have gLf : upd HD1 Lf (.lst [.int 12, .int 15, .int 25, .int 75]) Lf = some (.lst [.int 12, .int 15, .int 25, .int 75]) := upd_same
    generalize upd HD1 Lf (.lst [.int 12, .int 15, .int 25, .int 75]) = Hf at gLf ⊢
    walk_at "rd"
    refine ⟨⟨_, SqL.of gLf⟩, ?_⟩
    refine for_list (K := K) (a := Lf) (xs := [.int 12, .int 15, .int 25, .int 75]) (fun j st Hy => ∃ x7 : Option V, st = [some (.ref l), some (.ref a), x2, x3, x4, x5, x6, x7, x8] ∧ Hy Lf = some (.lst [.int 12, .int 15, .int 25, .int 75])) ⟨_, rfl, gLf⟩ (fun _ _ _ _ ⟨_, _, h⟩ => SqL.of h) ?_ ?_
    · rintro j y st Hy ey ⟨y7, rfl, hLf⟩
      obtain ⟨sv, rfl, hm⟩ : ∃ sv : Int, y = .int sv ∧ sv ∈ ([12, 15, 25, 75] : List Int) := by
        have m := List.mem_of_getElem? ey
        simp only [List.mem_cons, List.not_mem_nil, or_false] at m
        rcases m with rfl | rfl | rfl | rfl
        · exact ⟨12, rfl, by decide⟩
        · exact ⟨15, rfl, by decide⟩
        · exact ⟨25, rfl, by decide⟩
        · exact ⟨75, rfl, by decide⟩
      obtain ⟨spv, cv⟩ : SideP 0 sv "up" ∧ comN ([⟨0, 10, "up"⟩] ++ [⟨0, sv, "up"⟩]) ≤ 20000 := by
        have hm' := hm
        simp only [List.mem_cons, List.not_mem_nil, or_false] at hm'
        rcases hm' with rfl | rfl | rfl | rfl
        · exact ⟨⟨by decide, by decide, by decide, by decide, md_up⟩, by decide +kernel⟩
        · exact ⟨⟨by decide, by decide, by decide, by decide, md_up⟩, by decide +kernel⟩
        · exact ⟨⟨by decide, by decide, by decide, by decide, md_up⟩, by decide +kernel⟩
        · exact ⟨⟨by decide, by decide, by decide, by decide, md_up⟩, by decide +kernel⟩
      walk_at "rd"
      refine ⟨(by show 3 ≤ sizeLine; decide), fun pA2 npA2 => ?_⟩
      have gA2 : upd Hy pA2 (.tup [.int 0, .int 10, .str "up"]) pA2 = some (sideV 0 10 "up") := upd_same
      have sA2 : Same Hy (upd Hy pA2 (.tup [.int 0, .int 10, .str "up"])) := same_upd npA2
      generalize upd Hy pA2 (.tup [.int 0, .int 10, .str "up"]) = HA2 at gA2 sA2 ⊢
      walk_at "rd"
      refine ⟨(by show 1 ≤ sizeLine; decide), fun lA2 nlA2 => ?_⟩
      have gl2 : upd HA2 lA2 (.lst [.ref pA2]) lA2 = some (.lst [.ref pA2]) := upd_same
      have sl2 : Same HA2 (upd HA2 lA2 (.lst [.ref pA2])) := same_upd nlA2
      generalize upd HA2 lA2 (.lst [.ref pA2]) = HB2 at gl2 sl2 ⊢
      walk_at "rd"
      refine ⟨(by show 3 ≤ sizeLine; decide), fun pB2 npB2 => ?_⟩
      generalize eB2 : upd HB2 pB2 _ = HC2
      have gB2 : HC2 pB2 = some (sideV 0 sv "up") := by rw [← eB2, upd_same]; rfl
      have sB2 : Same HB2 HC2 := by rw [← eB2]; exact same_upd npB2
      clear eB2
      refine ⟨lA2, pB2, [.ref pA2], [⟨0, 10, "up"⟩], 0, sv, "up", rfl, one_side (sB2 _ _ gl2) (sB2 _ _ (sl2 _ _ gA2)) (few_at (by decide) (by decide) (by decide) (by decide) md_up), by show 1 ≤ 3; decide, gB2, spv, cv, fun r2 HD2 fw2 sD2 => ?_⟩
      obtain rfl := fw2.uniq (few_up _ hm)
      walk_at "rd"
      refine ⟨rfl, _, rfl, ?_⟩
      refine ite2 (fun z => absurd z (by decide)) (fun _ => ?_)
      exact ⟨_, rfl, sD2 _ _ (sB2 _ _ (sl2 _ _ (sA2 _ _ hLf)))⟩
    rintro st Hz ⟨y7, rfl, hLf⟩
    walk_at "rd"
    refine ⟨(by show 3 ≤ sizeLine; decide), fun pA3 npA3 => ?_⟩
    have gA3 : upd Hz pA3 (.tup [.int 0, .int 10, .str "half_up"]) pA3 = some (sideV 0 10 "half_up") := upd_same
    have sA3 : Same Hz (upd Hz pA3 (.tup [.int 0, .int 10, .str "half_up"])) := same_upd npA3
    generalize upd Hz pA3 (.tup [.int 0, .int 10, .str "half_up"]) = HA3 at gA3 sA3 ⊢
    walk_at "rd"
    refine ⟨(by show 1 ≤ sizeLine; decide), fun lA3 nlA3 => ?_⟩
    have gl3 : upd HA3 lA3 (.lst [.ref pA3]) lA3 = some (.lst [.ref pA3]) := upd_same
    have sl3 : Same HA3 (upd HA3 lA3 (.lst [.ref pA3])) := same_upd nlA3
    generalize upd HA3 lA3 (.lst [.ref pA3]) = HB3 at gl3 sl3 ⊢
    walk_at "rd"
    refine ⟨(by show 3 ≤ sizeLine; decide), fun pB3 npB3 => ?_⟩
    generalize eB3 : upd HB3 pB3 _ = HC3
    have gB3 : HC3 pB3 = some (sideV 0 100 "half_up") := by rw [← eB3, upd_same]; rfl
    have sB3 : Same HB3 HC3 := by rw [← eB3]; exact same_upd npB3
    clear eB3
    refine ⟨lA3, pB3, [.ref pA3], [⟨0, 10, "half_up"⟩], 0, 100, "half_up", rfl, one_side (sB3 _ _ gl3) (sB3 _ _ (sl3 _ _ gA3)) (few_at (by decide) (by decide) (by decide) (by decide) md_hu), by show 1 ≤ 3; decide, gB3, ⟨by decide, by decide, by decide, by decide, md_hu⟩, by decide +kernel, fun r3 HD3 fw3 sD3 => ?_⟩
    obtain rfl := fw3.uniq few_hu.2
    walk_at "rd"
    refine ⟨_, _, opt_dp (some 1), .int 1, rfl, rfl, ?_⟩
    exact q _
end
end HT
namespace HT
open PySem L2
theorem all_mk {l : PySem.W.OpenLaw} {w : World} {K : PySem.W.Frag} {h : Heap} {mg : Str → Option Value} {fa aM c0 f_is_int f_is_int_between f_check_side f_is_side f_figure f_goes_up f_written f_check_sides f_period_of f_common_period f_unneeded f_fewest_places f_L_source f_L_draw f_L_pick f_L_divisor f_L_small_side f_L_figure f_L_handed f_L_period f_L_set f_L_written f_L_stops f_L_due f_law : Addr} (X : K.In h) (G : h.Ns mainGlobals mg) (hfa : mg "law" = some (.ref fa))
    {odM od_is_int an_is_int od_is_int_between an_is_int_between od_check_side an_check_side od_is_side an_is_side od_figure an_figure od_goes_up an_goes_up od_written an_written od_check_sides an_check_sides od_period_of an_period_of od_common_period an_common_period od_unneeded an_unneeded od_fewest_places an_fewest_places od_L_source an_L_source od_L_draw an_L_draw od_L_pick an_L_pick od_L_divisor an_L_divisor od_L_small_side an_L_small_side od_L_figure an_L_figure od_L_handed an_L_handed od_L_period an_L_period od_L_set an_L_set od_L_written an_L_written od_L_stops an_L_stops od_L_due an_L_due od_law an_law : Option Addr} {slM sl_is_int sl_is_int_between sl_check_side sl_is_side sl_figure sl_goes_up sl_written sl_check_sides sl_period_of sl_common_period sl_unneeded sl_fewest_places sl_L_source sl_L_draw sl_L_pick sl_L_divisor sl_L_small_side sl_L_figure sl_L_handed sl_L_period sl_L_set sl_L_written sl_L_stops sl_L_due sl_law : Array (Option Value)} {nM : Nat} {itsM : Array Value} {tMS tMP tMA : Tok} {oc_is_int kV_is_int dc_is_int pm_is_int cd_is_int ct_is_int oc_is_int_between kV_is_int_between dc_is_int_between pm_is_int_between cd_is_int_between ct_is_int_between oc_check_side kV_check_side dc_check_side pm_check_side cd_check_side ct_check_side oc_is_side kV_is_side dc_is_side pm_is_side cd_is_side ct_is_side oc_figure kV_figure dc_figure pm_figure cd_figure ct_figure oc_goes_up kV_goes_up dc_goes_up pm_goes_up cd_goes_up ct_goes_up oc_written kV_written dc_written pm_written cd_written ct_written oc_check_sides kV_check_sides dc_check_sides pm_check_sides cd_check_sides ct_check_sides oc_period_of kV_period_of dc_period_of pm_period_of cd_period_of ct_period_of oc_common_period kV_common_period dc_common_period pm_common_period cd_common_period ct_common_period oc_unneeded kV_unneeded dc_unneeded pm_unneeded cd_unneeded ct_unneeded oc_fewest_places kV_fewest_places dc_fewest_places pm_fewest_places cd_fewest_places ct_fewest_places oc_L_source kV_L_source dc_L_source pm_L_source cd_L_source ct_L_source oc_L_draw kV_L_draw dc_L_draw pm_L_draw cd_L_draw ct_L_draw oc_L_pick kV_L_pick dc_L_pick pm_L_pick cd_L_pick ct_L_pick oc_L_divisor kV_L_divisor dc_L_divisor pm_L_divisor cd_L_divisor ct_L_divisor oc_L_small_side kV_L_small_side dc_L_small_side pm_L_small_side cd_L_small_side ct_L_small_side oc_L_figure kV_L_figure dc_L_figure pm_L_figure cd_L_figure ct_L_figure oc_L_handed kV_L_handed dc_L_handed pm_L_handed cd_L_handed ct_L_handed oc_L_period kV_L_period dc_L_period pm_L_period cd_L_period ct_L_period oc_L_set kV_L_set dc_L_set pm_L_set cd_L_set ct_L_set oc_L_written kV_L_written dc_L_written pm_L_written cd_L_written ct_L_written oc_L_stops kV_L_stops dc_L_stops pm_L_stops cd_L_stops ct_L_stops oc_L_due kV_L_due dc_L_due pm_L_due cd_L_due ct_L_due oc_law kV_law dc_law pm_law cd_law ct_law : Value}
    (a_is_int : PySem.W.nsIn K mainGlobals "is_int" = some (some (.ref f_is_int)))
    (l_is_int : K.lookup f_is_int = some ⟨oc_is_int, od_is_int, .func (PySem.W.fnOf "is_int" "is_int" (defArgs s_is_int) (defBody s_is_int) (defScope s_is_int) .none kV_is_int dc_is_int pm_is_int an_is_int cd_is_int ct_is_int), sl_is_int⟩)
    (c_is_int : PySem.W.codeIn K cd_is_int "is_int" = true) (k_is_int : PySem.W.keepIn K (.ref f_is_int) = true)
    (a_is_int_between : PySem.W.nsIn K mainGlobals "is_int_between" = some (some (.ref f_is_int_between)))
    (l_is_int_between : K.lookup f_is_int_between = some ⟨oc_is_int_between, od_is_int_between, .func (PySem.W.fnOf "is_int_between" "is_int_between" (defArgs s_is_int_between) (defBody s_is_int_between) (defScope s_is_int_between) .none kV_is_int_between dc_is_int_between pm_is_int_between an_is_int_between cd_is_int_between ct_is_int_between), sl_is_int_between⟩)
    (c_is_int_between : PySem.W.codeIn K cd_is_int_between "is_int_between" = true) (k_is_int_between : PySem.W.keepIn K (.ref f_is_int_between) = true)
    (a_check_side : PySem.W.nsIn K mainGlobals "check_side" = some (some (.ref f_check_side)))
    (l_check_side : K.lookup f_check_side = some ⟨oc_check_side, od_check_side, .func (PySem.W.fnOf "check_side" "check_side" (defArgs s_check_side) (defBody s_check_side) (defScope s_check_side) .none kV_check_side dc_check_side pm_check_side an_check_side cd_check_side ct_check_side), sl_check_side⟩)
    (c_check_side : PySem.W.codeIn K cd_check_side "check_side" = true) (k_check_side : PySem.W.keepIn K (.ref f_check_side) = true)
    (a_is_side : PySem.W.nsIn K mainGlobals "is_side" = some (some (.ref f_is_side)))
    (l_is_side : K.lookup f_is_side = some ⟨oc_is_side, od_is_side, .func (PySem.W.fnOf "is_side" "is_side" (defArgs s_is_side) (defBody s_is_side) (defScope s_is_side) .none kV_is_side dc_is_side pm_is_side an_is_side cd_is_side ct_is_side), sl_is_side⟩)
    (c_is_side : PySem.W.codeIn K cd_is_side "is_side" = true) (k_is_side : PySem.W.keepIn K (.ref f_is_side) = true)
    (a_figure : PySem.W.nsIn K mainGlobals "_figure" = some (some (.ref f_figure)))
    (l_figure : K.lookup f_figure = some ⟨oc_figure, od_figure, .func (PySem.W.fnOf "_figure" "_figure" (defArgs s_figure) (defBody s_figure) (defScope s_figure) .none kV_figure dc_figure pm_figure an_figure cd_figure ct_figure), sl_figure⟩)
    (c_figure : PySem.W.codeIn K cd_figure "_figure" = true) (k_figure : PySem.W.keepIn K (.ref f_figure) = true)
    (a_goes_up : PySem.W.nsIn K mainGlobals "_goes_up" = some (some (.ref f_goes_up)))
    (l_goes_up : K.lookup f_goes_up = some ⟨oc_goes_up, od_goes_up, .func (PySem.W.fnOf "_goes_up" "_goes_up" (defArgs s_goes_up) (defBody s_goes_up) (defScope s_goes_up) .none kV_goes_up dc_goes_up pm_goes_up an_goes_up cd_goes_up ct_goes_up), sl_goes_up⟩)
    (c_goes_up : PySem.W.codeIn K cd_goes_up "_goes_up" = true) (k_goes_up : PySem.W.keepIn K (.ref f_goes_up) = true)
    (a_written : PySem.W.nsIn K mainGlobals "written" = some (some (.ref f_written)))
    (l_written : K.lookup f_written = some ⟨oc_written, od_written, .func (PySem.W.fnOf "written" "written" (defArgs s_written) (defBody s_written) (defScope s_written) .none kV_written dc_written pm_written an_written cd_written ct_written), sl_written⟩)
    (c_written : PySem.W.codeIn K cd_written "written" = true) (k_written : PySem.W.keepIn K (.ref f_written) = true)
    (a_check_sides : PySem.W.nsIn K mainGlobals "check_sides" = some (some (.ref f_check_sides)))
    (l_check_sides : K.lookup f_check_sides = some ⟨oc_check_sides, od_check_sides, .func (PySem.W.fnOf "check_sides" "check_sides" (defArgs s_check_sides) (defBody s_check_sides) (defScope s_check_sides) .none kV_check_sides dc_check_sides pm_check_sides an_check_sides cd_check_sides ct_check_sides), sl_check_sides⟩)
    (c_check_sides : PySem.W.codeIn K cd_check_sides "check_sides" = true) (k_check_sides : PySem.W.keepIn K (.ref f_check_sides) = true)
    (a_period_of : PySem.W.nsIn K mainGlobals "period_of" = some (some (.ref f_period_of)))
    (l_period_of : K.lookup f_period_of = some ⟨oc_period_of, od_period_of, .func (PySem.W.fnOf "period_of" "period_of" (defArgs s_period_of) (defBody s_period_of) (defScope s_period_of) .none kV_period_of dc_period_of pm_period_of an_period_of cd_period_of ct_period_of), sl_period_of⟩)
    (c_period_of : PySem.W.codeIn K cd_period_of "period_of" = true) (k_period_of : PySem.W.keepIn K (.ref f_period_of) = true)
    (a_common_period : PySem.W.nsIn K mainGlobals "common_period" = some (some (.ref f_common_period)))
    (l_common_period : K.lookup f_common_period = some ⟨oc_common_period, od_common_period, .func (PySem.W.fnOf "common_period" "common_period" (defArgs s_common_period) (defBody s_common_period) (defScope s_common_period) .none kV_common_period dc_common_period pm_common_period an_common_period cd_common_period ct_common_period), sl_common_period⟩)
    (c_common_period : PySem.W.codeIn K cd_common_period "common_period" = true) (k_common_period : PySem.W.keepIn K (.ref f_common_period) = true)
    (a_unneeded : PySem.W.nsIn K mainGlobals "unneeded" = some (some (.ref f_unneeded)))
    (l_unneeded : K.lookup f_unneeded = some ⟨oc_unneeded, od_unneeded, .func (PySem.W.fnOf "unneeded" "unneeded" (defArgs s_unneeded) (defBody s_unneeded) (defScope s_unneeded) .none kV_unneeded dc_unneeded pm_unneeded an_unneeded cd_unneeded ct_unneeded), sl_unneeded⟩)
    (c_unneeded : PySem.W.codeIn K cd_unneeded "unneeded" = true) (k_unneeded : PySem.W.keepIn K (.ref f_unneeded) = true)
    (a_fewest_places : PySem.W.nsIn K mainGlobals "fewest_places" = some (some (.ref f_fewest_places)))
    (l_fewest_places : K.lookup f_fewest_places = some ⟨oc_fewest_places, od_fewest_places, .func (PySem.W.fnOf "fewest_places" "fewest_places" (defArgs s_fewest_places) (defBody s_fewest_places) (defScope s_fewest_places) .none kV_fewest_places dc_fewest_places pm_fewest_places an_fewest_places cd_fewest_places ct_fewest_places), sl_fewest_places⟩)
    (c_fewest_places : PySem.W.codeIn K cd_fewest_places "fewest_places" = true) (k_fewest_places : PySem.W.keepIn K (.ref f_fewest_places) = true)
    (a_L_source : PySem.W.nsIn K mainGlobals "_law_source" = some (some (.ref f_L_source)))
    (l_L_source : K.lookup f_L_source = some ⟨oc_L_source, od_L_source, .func (PySem.W.fnOf "_law_source" "_law_source" (defArgs s_L_source) (defBody s_L_source) (defScope s_L_source) .none kV_L_source dc_L_source pm_L_source an_L_source cd_L_source ct_L_source), sl_L_source⟩)
    (c_L_source : PySem.W.codeIn K cd_L_source "_law_source" = true) (k_L_source : PySem.W.keepIn K (.ref f_L_source) = true)
    (a_L_draw : PySem.W.nsIn K mainGlobals "_law_draw" = some (some (.ref f_L_draw)))
    (l_L_draw : K.lookup f_L_draw = some ⟨oc_L_draw, od_L_draw, .func (PySem.W.fnOf "_law_draw" "_law_draw" (defArgs s_L_draw) (defBody s_L_draw) (defScope s_L_draw) .none kV_L_draw dc_L_draw pm_L_draw an_L_draw cd_L_draw ct_L_draw), sl_L_draw⟩)
    (c_L_draw : PySem.W.codeIn K cd_L_draw "_law_draw" = true) (k_L_draw : PySem.W.keepIn K (.ref f_L_draw) = true)
    (a_L_pick : PySem.W.nsIn K mainGlobals "_law_pick" = some (some (.ref f_L_pick)))
    (l_L_pick : K.lookup f_L_pick = some ⟨oc_L_pick, od_L_pick, .func (PySem.W.fnOf "_law_pick" "_law_pick" (defArgs s_L_pick) (defBody s_L_pick) (defScope s_L_pick) .none kV_L_pick dc_L_pick pm_L_pick an_L_pick cd_L_pick ct_L_pick), sl_L_pick⟩)
    (c_L_pick : PySem.W.codeIn K cd_L_pick "_law_pick" = true) (k_L_pick : PySem.W.keepIn K (.ref f_L_pick) = true)
    (a_L_divisor : PySem.W.nsIn K mainGlobals "_law_divisor" = some (some (.ref f_L_divisor)))
    (l_L_divisor : K.lookup f_L_divisor = some ⟨oc_L_divisor, od_L_divisor, .func (PySem.W.fnOf "_law_divisor" "_law_divisor" (defArgs s_L_divisor) (defBody s_L_divisor) (defScope s_L_divisor) .none kV_L_divisor dc_L_divisor pm_L_divisor an_L_divisor cd_L_divisor ct_L_divisor), sl_L_divisor⟩)
    (c_L_divisor : PySem.W.codeIn K cd_L_divisor "_law_divisor" = true) (k_L_divisor : PySem.W.keepIn K (.ref f_L_divisor) = true)
    (a_L_small_side : PySem.W.nsIn K mainGlobals "_law_small_side" = some (some (.ref f_L_small_side)))
    (l_L_small_side : K.lookup f_L_small_side = some ⟨oc_L_small_side, od_L_small_side, .func (PySem.W.fnOf "_law_small_side" "_law_small_side" (defArgs s_L_small_side) (defBody s_L_small_side) (defScope s_L_small_side) .none kV_L_small_side dc_L_small_side pm_L_small_side an_L_small_side cd_L_small_side ct_L_small_side), sl_L_small_side⟩)
    (c_L_small_side : PySem.W.codeIn K cd_L_small_side "_law_small_side" = true) (k_L_small_side : PySem.W.keepIn K (.ref f_L_small_side) = true)
    (a_L_figure : PySem.W.nsIn K mainGlobals "_law_figure" = some (some (.ref f_L_figure)))
    (l_L_figure : K.lookup f_L_figure = some ⟨oc_L_figure, od_L_figure, .func (PySem.W.fnOf "_law_figure" "_law_figure" (defArgs s_L_figure) (defBody s_L_figure) (defScope s_L_figure) .none kV_L_figure dc_L_figure pm_L_figure an_L_figure cd_L_figure ct_L_figure), sl_L_figure⟩)
    (c_L_figure : PySem.W.codeIn K cd_L_figure "_law_figure" = true) (k_L_figure : PySem.W.keepIn K (.ref f_L_figure) = true)
    (a_L_handed : PySem.W.nsIn K mainGlobals "_law_handed" = some (some (.ref f_L_handed)))
    (l_L_handed : K.lookup f_L_handed = some ⟨oc_L_handed, od_L_handed, .func (PySem.W.fnOf "_law_handed" "_law_handed" (defArgs s_L_handed) (defBody s_L_handed) (defScope s_L_handed) .none kV_L_handed dc_L_handed pm_L_handed an_L_handed cd_L_handed ct_L_handed), sl_L_handed⟩)
    (c_L_handed : PySem.W.codeIn K cd_L_handed "_law_handed" = true) (k_L_handed : PySem.W.keepIn K (.ref f_L_handed) = true)
    (a_L_period : PySem.W.nsIn K mainGlobals "_law_period" = some (some (.ref f_L_period)))
    (l_L_period : K.lookup f_L_period = some ⟨oc_L_period, od_L_period, .func (PySem.W.fnOf "_law_period" "_law_period" (defArgs s_L_period) (defBody s_L_period) (defScope s_L_period) .none kV_L_period dc_L_period pm_L_period an_L_period cd_L_period ct_L_period), sl_L_period⟩)
    (c_L_period : PySem.W.codeIn K cd_L_period "_law_period" = true) (k_L_period : PySem.W.keepIn K (.ref f_L_period) = true)
    (a_L_set : PySem.W.nsIn K mainGlobals "_law_set" = some (some (.ref f_L_set)))
    (l_L_set : K.lookup f_L_set = some ⟨oc_L_set, od_L_set, .func (PySem.W.fnOf "_law_set" "_law_set" (defArgs s_L_set) (defBody s_L_set) (defScope s_L_set) .none kV_L_set dc_L_set pm_L_set an_L_set cd_L_set ct_L_set), sl_L_set⟩)
    (c_L_set : PySem.W.codeIn K cd_L_set "_law_set" = true) (k_L_set : PySem.W.keepIn K (.ref f_L_set) = true)
    (a_L_written : PySem.W.nsIn K mainGlobals "_law_written" = some (some (.ref f_L_written)))
    (l_L_written : K.lookup f_L_written = some ⟨oc_L_written, od_L_written, .func (PySem.W.fnOf "_law_written" "_law_written" (defArgs s_L_written) (defBody s_L_written) (defScope s_L_written) .none kV_L_written dc_L_written pm_L_written an_L_written cd_L_written ct_L_written), sl_L_written⟩)
    (c_L_written : PySem.W.codeIn K cd_L_written "_law_written" = true) (k_L_written : PySem.W.keepIn K (.ref f_L_written) = true)
    (a_L_stops : PySem.W.nsIn K mainGlobals "_law_stops" = some (some (.ref f_L_stops)))
    (l_L_stops : K.lookup f_L_stops = some ⟨oc_L_stops, od_L_stops, .func (PySem.W.fnOf "_law_stops" "_law_stops" (defArgs s_L_stops) (defBody s_L_stops) (defScope s_L_stops) .none kV_L_stops dc_L_stops pm_L_stops an_L_stops cd_L_stops ct_L_stops), sl_L_stops⟩)
    (c_L_stops : PySem.W.codeIn K cd_L_stops "_law_stops" = true) (k_L_stops : PySem.W.keepIn K (.ref f_L_stops) = true)
    (a_L_due : PySem.W.nsIn K mainGlobals "_law_due" = some (some (.ref f_L_due)))
    (l_L_due : K.lookup f_L_due = some ⟨oc_L_due, od_L_due, .func (PySem.W.fnOf "_law_due" "_law_due" (defArgs s_L_due) (defBody s_L_due) (defScope s_L_due) .none kV_L_due dc_L_due pm_L_due an_L_due cd_L_due ct_L_due), sl_L_due⟩)
    (c_L_due : PySem.W.codeIn K cd_L_due "_law_due" = true) (k_L_due : PySem.W.keepIn K (.ref f_L_due) = true)
    (a_law : PySem.W.nsIn K mainGlobals "law" = some (some (.ref f_law)))
    (l_law : K.lookup f_law = some ⟨oc_law, od_law, .func (PySem.W.fnOf "law" "law" (defArgs s_law) (defBody s_law) (defScope s_law) .none kV_law dc_law pm_law an_law cd_law ct_law), sl_law⟩)
    (c_law : PySem.W.codeIn K cd_law "law" = true) (k_law : PySem.W.keepIn K (.ref f_law) = true)
    (z_len : PySem.W.nsIn K mainGlobals "len" = some none)
    (z_abs : PySem.W.nsIn K mainGlobals "abs" = some none)
    (z_int : PySem.W.nsIn K mainGlobals "int" = some none)
    (z_range : PySem.W.nsIn K mainGlobals "range" = some none)
    (z_isinstance : PySem.W.nsIn K mainGlobals "isinstance" = some none)
    (z_bool : PySem.W.nsIn K mainGlobals "bool" = some none)
    (z_tuple : PySem.W.nsIn K mainGlobals "tuple" = some none)
    (z_divmod : PySem.W.nsIn K mainGlobals "divmod" = some none)
    (z_max : PySem.W.nsIn K mainGlobals "max" = some none)
    (z_min : PySem.W.nsIn K mainGlobals "min" = some none)
    (z_list : PySem.W.nsIn K mainGlobals "list" = some none)
    (z_enumerate : PySem.W.nsIn K mainGlobals "enumerate" = some none)
    (g_0 : PySem.W.nsIn K mainGlobals "InvalidSide" = some (some (.ref c0)))
    (a_MS : PySem.W.nsIn K mainGlobals "MOST_SIDES" = some (some (.int 4 tMS)))
    (a_MP : PySem.W.nsIn K mainGlobals "MOST_PERIOD_OF_ALL" = some (some (.int 20000 tMP)))
    (a_MA : PySem.W.nsIn K mainGlobals "MOST_SIDES_AHEAD" = some (some (.int 3 tMA)))
    (a_lcm : PySem.W.nsIn K mainGlobals "lcm" = some (some (.builtin "math.lcm")))
    (a_MODES : PySem.W.nsIn K mainGlobals "MODES" = some (some (.ref aM)))
    (l_MODES : K.lookup aM = some ⟨.type "tuple", odM, .seq itsM nM, slM⟩)
    (v_MODES : itsM.size ≤ sizeLine ∧ Vals modesV itsM.toList) :
    ∃ fd : FuncData, (∀ (s : Shared) (v : Value), BindsTo s fd ⟨[v], []⟩ [("_law_script", v)]) ∧ ∀ base : Heap, K.In base → base.Ns mainGlobals mg → FnOk l.prog w K mg base CX0 8 fa fd ["_law_script"] (spLaw K) := by
  have e := hfa.symm.trans (PySem.W.mg_of X G a_law)
  cases e
  have F_is_int := fun_mk (st := s_is_int) l_is_int c_is_int k_is_int
  have b_is_int := F_is_int.binds (ps := ["thing"]) fun _ _ _ _ _ _ us hl => match us, hl with | [_], _ => rfl
  have m_is_int := PySem.W.mg_of X G a_is_int
  have F_is_int_between := fun_mk (st := s_is_int_between) l_is_int_between c_is_int_between k_is_int_between
  have b_is_int_between := F_is_int_between.binds (ps := ["thing", "least", "most"]) fun _ _ _ _ _ _ us hl => match us, hl with | [_, _, _], _ => rfl
  have m_is_int_between := PySem.W.mg_of X G a_is_int_between
  have F_check_side := fun_mk (st := s_check_side) l_check_side c_check_side k_check_side
  have b_check_side := F_check_side.binds (ps := ["side"]) fun _ _ _ _ _ _ us hl => match us, hl with | [_], _ => rfl
  have m_check_side := PySem.W.mg_of X G a_check_side
  have F_is_side := fun_mk (st := s_is_side) l_is_side c_is_side k_is_side
  have b_is_side := F_is_side.binds (ps := ["thing"]) fun _ _ _ _ _ _ us hl => match us, hl with | [_], _ => rfl
  have m_is_side := PySem.W.mg_of X G a_is_side
  have F_figure := fun_mk (st := s_figure) l_figure c_figure k_figure
  have b_figure := F_figure.binds (ps := ["side", "value"]) fun _ _ _ _ _ _ us hl => match us, hl with | [_, _], _ => rfl
  have m_figure := PySem.W.mg_of X G a_figure
  have F_goes_up := fun_mk (st := s_goes_up) l_goes_up c_goes_up k_goes_up
  have b_goes_up := F_goes_up.binds (ps := ["mode", "step", "figure", "rest"]) fun _ _ _ _ _ _ us hl => match us, hl with | [_, _, _, _], _ => rfl
  have m_goes_up := PySem.W.mg_of X G a_goes_up
  have F_written := fun_mk (st := s_written) l_written c_written k_written
  have b_written := F_written.binds (ps := ["side", "value"]) fun _ _ _ _ _ _ us hl => match us, hl with | [_, _], _ => rfl
  have m_written := PySem.W.mg_of X G a_written
  have F_check_sides := fun_mk (st := s_check_sides) l_check_sides c_check_sides k_check_sides
  have b_check_sides := F_check_sides.binds (ps := ["sides"]) fun _ _ _ _ _ _ us hl => match us, hl with | [_], _ => rfl
  have m_check_sides := PySem.W.mg_of X G a_check_sides
  have F_period_of := fun_mk (st := s_period_of) l_period_of c_period_of k_period_of
  have b_period_of := F_period_of.binds (ps := ["side"]) fun _ _ _ _ _ _ us hl => match us, hl with | [_], _ => rfl
  have m_period_of := PySem.W.mg_of X G a_period_of
  have F_common_period := fun_mk (st := s_common_period) l_common_period c_common_period k_common_period
  have b_common_period := F_common_period.binds (ps := ["sides"]) fun _ _ _ _ _ _ us hl => match us, hl with | [_], _ => rfl
  have m_common_period := PySem.W.mg_of X G a_common_period
  have F_unneeded := fun_mk (st := s_unneeded) l_unneeded c_unneeded k_unneeded
  have b_unneeded := F_unneeded.binds (ps := ["sides"]) fun _ _ _ _ _ _ us hl => match us, hl with | [_], _ => rfl
  have m_unneeded := PySem.W.mg_of X G a_unneeded
  have F_fewest_places := fun_mk (st := s_fewest_places) l_fewest_places c_fewest_places k_fewest_places
  have b_fewest_places := F_fewest_places.binds (ps := ["sides", "side"]) fun _ _ _ _ _ _ us hl => match us, hl with | [_, _], _ => rfl
  have m_fewest_places := PySem.W.mg_of X G a_fewest_places
  have F_L_source := fun_mk (st := s_L_source) l_L_source c_L_source k_L_source
  have b_L_source := F_L_source.binds (ps := ["_law_script"]) fun _ _ _ _ _ _ us hl => match us, hl with | [_], _ => rfl
  have m_L_source := PySem.W.mg_of X G a_L_source
  have F_L_draw := fun_mk (st := s_L_draw) l_L_draw c_L_draw k_L_draw
  have b_L_draw := F_L_draw.binds (ps := ["_law_source_here", "_law_limit"]) fun _ _ _ _ _ _ us hl => match us, hl with | [_, _], _ => rfl
  have m_L_draw := PySem.W.mg_of X G a_L_draw
  have F_L_pick := fun_mk (st := s_L_pick) l_L_pick c_L_pick k_L_pick
  have b_L_pick := F_L_pick.binds (ps := ["_law_source_here", "_law_values"]) fun _ _ _ _ _ _ us hl => match us, hl with | [_, _], _ => rfl
  have m_L_pick := PySem.W.mg_of X G a_L_pick
  have F_L_divisor := fun_mk (st := s_L_divisor) l_L_divisor c_L_divisor k_L_divisor
  have b_L_divisor := F_L_divisor.binds (ps := ["_law_one", "_law_other"]) fun _ _ _ _ _ _ us hl => match us, hl with | [_, _], _ => rfl
  have m_L_divisor := PySem.W.mg_of X G a_L_divisor
  have F_L_small_side := fun_mk (st := s_L_small_side) l_L_small_side c_L_small_side k_L_small_side
  have b_L_small_side := F_L_small_side.binds (ps := ["_law_source_here", "_law_most"]) fun _ _ _ _ _ _ us hl => match us, hl with | [_, _], _ => rfl
  have m_L_small_side := PySem.W.mg_of X G a_L_small_side
  have F_L_figure := fun_mk (st := s_L_figure) l_L_figure c_L_figure k_L_figure
  have b_L_figure := F_L_figure.binds (ps := ["_law_side", "_law_value"]) fun _ _ _ _ _ _ us hl => match us, hl with | [_, _], _ => rfl
  have m_L_figure := PySem.W.mg_of X G a_L_figure
  have F_L_handed := fun_mk (st := s_L_handed) l_L_handed c_L_handed k_L_handed
  have b_L_handed := F_L_handed.binds (ps := ["_law_side", "_law_value"]) fun _ _ _ _ _ _ us hl => match us, hl with | [_, _], _ => rfl
  have m_L_handed := PySem.W.mg_of X G a_L_handed
  have F_L_period := fun_mk (st := s_L_period) l_L_period c_L_period k_L_period
  have b_L_period := F_L_period.binds (ps := ["_law_sides"]) fun _ _ _ _ _ _ us hl => match us, hl with | [_], _ => rfl
  have m_L_period := PySem.W.mg_of X G a_L_period
  have F_L_set := fun_mk (st := s_L_set) l_L_set c_L_set k_L_set
  have b_L_set := F_L_set.binds (ps := ["_law_source_here", "_law_most", "_law_many"]) fun _ _ _ _ _ _ us hl => match us, hl with | [_, _, _], _ => rfl
  have m_L_set := PySem.W.mg_of X G a_L_set
  have F_L_written := fun_mk (st := s_L_written) l_L_written c_L_written k_L_written
  have b_L_written := F_L_written.binds (ps := ["_law_sides", "_law_value"]) fun _ _ _ _ _ _ us hl => match us, hl with | [_, _], _ => rfl
  have m_L_written := PySem.W.mg_of X G a_L_written
  have F_L_stops := fun_mk (st := s_L_stops) l_L_stops c_L_stops k_L_stops
  have b_L_stops := F_L_stops.binds (ps := ["_law_sides", "_law_period_here"]) fun _ _ _ _ _ _ us hl => match us, hl with | [_, _], _ => rfl
  have m_L_stops := PySem.W.mg_of X G a_L_stops
  have F_L_due := fun_mk (st := s_L_due) l_L_due c_L_due k_L_due
  have b_L_due := F_L_due.binds (ps := ["_law_sides", "_law_further"]) fun _ _ _ _ _ _ us hl => match us, hl with | [_, _], _ => rfl
  have m_L_due := PySem.W.mg_of X G a_L_due
  have F_law := fun_mk (st := s_law) l_law c_law k_law
  have b_law := F_law.binds (ps := ["_law_script"]) fun _ _ _ _ _ _ us hl => match us, hl with | [_], _ => rfl
  have m_law := PySem.W.mg_of X G a_law
  have n_len := PySem.W.mg_none_of X G z_len
  have n_abs := PySem.W.mg_none_of X G z_abs
  have n_int := PySem.W.mg_none_of X G z_int
  have n_range := PySem.W.mg_none_of X G z_range
  have n_isinstance := PySem.W.mg_none_of X G z_isinstance
  have n_bool := PySem.W.mg_none_of X G z_bool
  have n_tuple := PySem.W.mg_none_of X G z_tuple
  have n_divmod := PySem.W.mg_none_of X G z_divmod
  have n_max := PySem.W.mg_none_of X G z_max
  have n_min := PySem.W.mg_none_of X G z_min
  have n_list := PySem.W.mg_none_of X G z_list
  have n_enumerate := PySem.W.mg_none_of X G z_enumerate
  have BL : Blt mg := ⟨n_len, n_abs, n_int, n_range⟩
  have T : SideT K mg aM := ⟨n_isinstance, n_int, n_bool, n_tuple, n_len, n_divmod, PySem.W.mg_of X G a_MODES, fun _ => .inr ⟨_, _, _, l_MODES, rfl, rfl, v_MODES.1, v_MODES.2⟩⟩
  have MX : MaxT mg := ⟨n_max, n_min⟩
  have AM : AmG mg := ⟨n_isinstance, n_list, n_len, ⟨_, PySem.W.mg_of X G a_MS⟩, PySem.W.mg_of X G a_lcm⟩
  have UG : UnG mg := ⟨n_len, n_range, n_enumerate, ⟨_, PySem.W.mg_of X G a_MP⟩⟩
  refine ⟨PySem.W.fnOf "law" "law" (defArgs s_law) (defBody s_law) (defScope s_law) .none kV_law dc_law pm_law an_law cd_law ct_law, fun s v => .of_eq rfl, fun base _ _ => ?_⟩
  have C_is_int : Cal l.prog w K mg base "is_int" 1 ["thing"] spIsInt f_is_int _ := ⟨ok_is_int F_is_int T, m_is_int, k_is_int, b_is_int⟩
  have C_is_int_between : Cal l.prog w K mg base "is_int_between" 2 ["thing", "least", "most"] spBetween f_is_int_between _ := ⟨ok_between F_is_int_between C_is_int, m_is_int_between, k_is_int_between, b_is_int_between⟩
  have C_check_side : Cal l.prog w K mg base "check_side" 3 ["side"] spCheckSide f_check_side _ := ⟨ok_check_side F_check_side T C_is_int_between, m_check_side, k_check_side, b_check_side⟩
  have C_goes_up : Cal l.prog w K mg base "_goes_up" 1 ["mode", "step", "figure", "rest"] spGo f_goes_up _ := ⟨ok_goes_up F_goes_up, m_goes_up, k_goes_up, b_goes_up⟩
  have C_figure : Cal l.prog w K mg base "_figure" 2 ["side", "value"] spFig f_figure _ := ⟨ok_figure F_figure T C_goes_up, m_figure, k_figure, b_figure⟩
  have C_written : Cal l.prog w K mg base "written" 3 ["side", "value"] spDue f_written _ := ⟨ok_written F_written C_figure, m_written, k_written, b_written⟩
  have C_is_side : Cal l.prog w K mg base "is_side" 4 ["thing"] spIsSide f_is_side _ := ⟨ok_is_side F_is_side (PySem.W.mg_of X G g_0) C_check_side, m_is_side, k_is_side, b_is_side⟩
  have C_check_sides : Cal l.prog w K mg base "check_sides" 5 ["sides"] spSides f_check_sides _ := ⟨ok_sides F_check_sides AM C_is_side, m_check_sides, k_check_sides, b_check_sides⟩
  have C_period_of : Cal l.prog w K mg base "period_of" 1 ["side"] spPerOf f_period_of _ := ⟨ok_per F_period_of, m_period_of, k_period_of, b_period_of⟩
  have C_common_period : Cal l.prog w K mg base "common_period" 2 ["sides"] spPer f_common_period _ := ⟨ok_common F_common_period AM C_period_of, m_common_period, k_common_period, b_common_period⟩
  have C_unneeded : Cal l.prog w K mg base "unneeded" 6 ["sides"] spUnn f_unneeded _ := ⟨ok_unneeded F_unneeded UG C_check_sides C_common_period C_written, m_unneeded, k_unneeded, b_unneeded⟩
  have C_fewest_places : Cal l.prog w K mg base "fewest_places" 7 ["sides", "side"] spFew f_fewest_places _ := ⟨ok_few F_fewest_places UG ⟨_, PySem.W.mg_of X G a_MA⟩ C_check_sides C_check_side C_unneeded, m_fewest_places, k_fewest_places, b_fewest_places⟩
  have C_L_source : Cal l.prog w K mg base "_law_source" 1 ["_law_script"] (spSource K) f_L_source _ := ⟨ok_source F_L_source BL, m_L_source, k_L_source, b_L_source⟩
  have C_L_draw : Cal l.prog w K mg base "_law_draw" 1 ["_law_source_here", "_law_limit"] spDraw f_L_draw _ := ⟨ok_draw F_L_draw BL, m_L_draw, k_L_draw, b_L_draw⟩
  have C_L_pick : Cal l.prog w K mg base "_law_pick" 2 ["_law_source_here", "_law_values"] spPick f_L_pick _ := ⟨ok_pick F_L_pick BL C_L_draw, m_L_pick, k_L_pick, b_L_pick⟩
  have C_L_divisor : Cal l.prog w K mg base "_law_divisor" 1 ["_law_one", "_law_other"] spDiv f_L_divisor _ := ⟨ok_div F_L_divisor BL, m_L_divisor, k_L_divisor, b_L_divisor⟩
  have C_L_small_side : Cal l.prog w K mg base "_law_small_side" 3 ["_law_source_here", "_law_most"] spSmall f_L_small_side _ := ⟨ok_small F_L_small_side C_L_draw C_L_pick, m_L_small_side, k_L_small_side, b_L_small_side⟩
  have C_L_figure : Cal l.prog w K mg base "_law_figure" 1 ["_law_side", "_law_value"] spFig f_L_figure _ := ⟨ok_L_figure F_L_figure BL, m_L_figure, k_L_figure, b_L_figure⟩
  have C_L_handed : Cal l.prog w K mg base "_law_handed" 2 ["_law_side", "_law_value"] spDue f_L_handed _ := ⟨ok_L_handed F_L_handed C_L_figure, m_L_handed, k_L_handed, b_L_handed⟩
  have C_L_period : Cal l.prog w K mg base "_law_period" 2 ["_law_sides"] spPer f_L_period _ := ⟨ok_period F_L_period BL C_L_divisor, m_L_period, k_L_period, b_L_period⟩
  have C_L_set : Cal l.prog w K mg base "_law_set" 4 ["_law_source_here", "_law_most", "_law_many"] spSet f_L_set _ := ⟨ok_set F_L_set BL C_L_draw C_L_small_side, m_L_set, k_L_set, b_L_set⟩
  have C_L_written : Cal l.prog w K mg base "_law_written" 3 ["_law_sides", "_law_value"] spWrL f_L_written _ := ⟨ok_wrl F_L_written C_L_handed, m_L_written, k_L_written, b_L_written⟩
  have C_L_stops : Cal l.prog w K mg base "_law_stops" 4 ["_law_sides", "_law_period_here"] spStops f_L_stops _ := ⟨ok_stops F_L_stops UG MX C_L_written, m_L_stops, k_L_stops, b_L_stops⟩
  have C_L_due : Cal l.prog w K mg base "_law_due" 5 ["_law_sides", "_law_further"] spLDue f_L_due _ := ⟨ok_L_due F_L_due UG C_L_period C_L_stops, m_L_due, k_L_due, b_L_due⟩
  exact ok_law F_law UG n_list C_L_source C_L_draw C_L_pick C_L_set C_L_small_side C_L_period C_L_due C_fewest_places C_unneeded
theorem walk {l : PySem.W.OpenLaw} {q : Program} {loose : List Str} {XP : (Str → Option Value) → Heap → Prop} {YP : World → Heap → Prop} {d : DefRec} {K : Params → PySem.W.Frag} (hn : l.most = some 63) (hdf : d.params.defaults = [])
    (hY : ∀ (w : World) (h : Heap), YP w h → (K w.params).In h)
    (F : ∀ (w : World) (mg : Str → Option Value) (fa : Addr) (h : Heap), (K w.params).In h → h.Ns mainGlobals mg → mg d.name = some (.ref fa) →
      ∃ fd : FuncData, (∀ (s : Shared) (u : Value), BindsTo s fd ⟨[u], []⟩ [("_law_script", u)]) ∧ ∀ base : Heap, (K w.params).In base → base.Ns mainGlobals mg → FnOk l.prog w (K w.params) mg base CX0 8 fa fd ["_law_script"] (spLaw (K w.params))) :
    PySem.W.WalkO q loose XP YP l.row.toRowW d [] (fun f vs => PySem.call f vs) :=
  L2.walk_of (n := 63) (k := 8) (x := "_law_script") (CX := fun _ => CX0) (sp := fun w => spLaw (K w.params)) hn (by decide) hdf ⟨rfl, by decide, by decide⟩ hY F (fun _ _ a ns hl _ hS => ⟨a, ns, rfl, hS, hl, fun _ => rfl⟩) fun _ _ _ _ _ z => z
end HT
open PySem PySem.W PyProof.Rows
set_option maxRecDepth 100000 in
set_option maxHeartbeats 0 in
theorem PySem.Challenge.cw_handedtext_k55_whole_fewest_places_holds : PySem.Challenge.rw_handedtext_k55_whole_fewest_places.Holds := by
  w_on; o_law; k_head; (case hw => w_witness2)
  k_fill
  refine HT.walk (l := PySem.Challenge.rw_handedtext_k55_whole_fewest_places) rfl rfl (fun w h Y => PySem.W.kIn_of Y) ?F
  case F =>
    intro w mg fa h KX G hmg
    refine' HT.all_mk KX G hmg ?a_is_int ?l_is_int ?c_is_int ?k_is_int ?a_is_int_between ?l_is_int_between ?c_is_int_between ?k_is_int_between ?a_check_side ?l_check_side ?c_check_side ?k_check_side ?a_is_side ?l_is_side ?c_is_side ?k_is_side ?a_figure ?l_figure ?c_figure ?k_figure ?a_goes_up ?l_goes_up ?c_goes_up ?k_goes_up ?a_written ?l_written ?c_written ?k_written ?a_check_sides ?l_check_sides ?c_check_sides ?k_check_sides ?a_period_of ?l_period_of ?c_period_of ?k_period_of ?a_common_period ?l_common_period ?c_common_period ?k_common_period ?a_unneeded ?l_unneeded ?c_unneeded ?k_unneeded ?a_fewest_places ?l_fewest_places ?c_fewest_places ?k_fewest_places ?a_L_source ?l_L_source ?c_L_source ?k_L_source ?a_L_draw ?l_L_draw ?c_L_draw ?k_L_draw ?a_L_pick ?l_L_pick ?c_L_pick ?k_L_pick ?a_L_divisor ?l_L_divisor ?c_L_divisor ?k_L_divisor ?a_L_small_side ?l_L_small_side ?c_L_small_side ?k_L_small_side ?a_L_figure ?l_L_figure ?c_L_figure ?k_L_figure ?a_L_handed ?l_L_handed ?c_L_handed ?k_L_handed ?a_L_period ?l_L_period ?c_L_period ?k_L_period ?a_L_set ?l_L_set ?c_L_set ?k_L_set ?a_L_written ?l_L_written ?c_L_written ?k_L_written ?a_L_stops ?l_L_stops ?c_L_stops ?k_L_stops ?a_L_due ?l_L_due ?c_L_due ?k_L_due ?a_law ?l_law ?c_law ?k_law ?z_len ?z_abs ?z_int ?z_range ?z_isinstance ?z_bool ?z_tuple ?z_divmod ?z_max ?z_min ?z_list ?z_enumerate ?g_0 ?a_MS ?a_MP ?a_MA ?a_lcm ?a_MODES ?l_MODES ?v_MODES
    (case a_is_int => k_is)
    (case l_is_int => k_is)
    (case c_is_int => k_is)
    (case k_is_int => k_is)
    (case a_is_int_between => k_is)
    (case l_is_int_between => k_is)
    (case c_is_int_between => k_is)
    (case k_is_int_between => k_is)
    (case a_check_side => k_is)
    (case l_check_side => k_is)
    (case c_check_side => k_is)
    (case k_check_side => k_is)
    (case a_is_side => k_is)
    (case l_is_side => k_is)
    (case c_is_side => k_is)
    (case k_is_side => k_is)
    (case a_figure => k_is)
    (case l_figure => k_is)
    (case c_figure => k_is)
    (case k_figure => k_is)
    (case a_goes_up => k_is)
    (case l_goes_up => k_is)
    (case c_goes_up => k_is)
    (case k_goes_up => k_is)
    (case a_written => k_is)
    (case l_written => k_is)
    (case c_written => k_is)
    (case k_written => k_is)
    (case a_check_sides => k_is)
    (case l_check_sides => k_is)
    (case c_check_sides => k_is)
    (case k_check_sides => k_is)
    (case a_period_of => k_is)
    (case l_period_of => k_is)
    (case c_period_of => k_is)
    (case k_period_of => k_is)
    (case a_common_period => k_is)
    (case l_common_period => k_is)
    (case c_common_period => k_is)
    (case k_common_period => k_is)
    (case a_unneeded => k_is)
    (case l_unneeded => k_is)
    (case c_unneeded => k_is)
    (case k_unneeded => k_is)
    (case a_fewest_places => k_is)
    (case l_fewest_places => k_is)
    (case c_fewest_places => k_is)
    (case k_fewest_places => k_is)
    (case a_L_source => k_is)
    (case l_L_source => k_is)
    (case c_L_source => k_is)
    (case k_L_source => k_is)
    (case a_L_draw => k_is)
    (case l_L_draw => k_is)
    (case c_L_draw => k_is)
    (case k_L_draw => k_is)
    (case a_L_pick => k_is)
    (case l_L_pick => k_is)
    (case c_L_pick => k_is)
    (case k_L_pick => k_is)
    (case a_L_divisor => k_is)
    (case l_L_divisor => k_is)
    (case c_L_divisor => k_is)
    (case k_L_divisor => k_is)
    (case a_L_small_side => k_is)
    (case l_L_small_side => k_is)
    (case c_L_small_side => k_is)
    (case k_L_small_side => k_is)
    (case a_L_figure => k_is)
    (case l_L_figure => k_is)
    (case c_L_figure => k_is)
    (case k_L_figure => k_is)
    (case a_L_handed => k_is)
    (case l_L_handed => k_is)
    (case c_L_handed => k_is)
    (case k_L_handed => k_is)
    (case a_L_period => k_is)
    (case l_L_period => k_is)
    (case c_L_period => k_is)
    (case k_L_period => k_is)
    (case a_L_set => k_is)
    (case l_L_set => k_is)
    (case c_L_set => k_is)
    (case k_L_set => k_is)
    (case a_L_written => k_is)
    (case l_L_written => k_is)
    (case c_L_written => k_is)
    (case k_L_written => k_is)
    (case a_L_stops => k_is)
    (case l_L_stops => k_is)
    (case c_L_stops => k_is)
    (case k_L_stops => k_is)
    (case a_L_due => k_is)
    (case l_L_due => k_is)
    (case c_L_due => k_is)
    (case k_L_due => k_is)
    (case a_law => k_is)
    (case l_law => k_is)
    (case c_law => k_is)
    (case k_law => k_is)
    (case z_len => k_is)
    (case z_abs => k_is)
    (case z_int => k_is)
    (case z_range => k_is)
    (case z_isinstance => k_is)
    (case z_bool => k_is)
    (case z_tuple => k_is)
    (case z_divmod => k_is)
    (case z_max => k_is)
    (case z_min => k_is)
    (case z_list => k_is)
    (case z_enumerate => k_is)
    (case g_0 => k_is)
    (case a_MS => k_is)
    (case a_MP => k_is)
    (case a_MA => k_is)
    (case a_lcm => k_is)
    (case a_MODES => k_is)
    (case l_MODES => k_is)
    (case v_MODES => exact ⟨by decide, .cons ⟨_, rfl⟩ (.cons ⟨_, rfl⟩ (.cons ⟨_, rfl⟩ (.cons ⟨_, rfl⟩ (.cons ⟨_, rfl⟩ .nil))))⟩)
#print axioms PySem.Challenge.cw_handedtext_k55_whole_fewest_places_holds
