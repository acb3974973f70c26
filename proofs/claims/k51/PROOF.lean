import PyProof.Rows.All
import Wide.All
import OpenK.AllK
import Wide.FinOn
import HandS.CallSlots
import HandS.Deep
import HandS.Defaults
import HandS.Exc
import HandS.ExcField
import HandS.ExcInit
import HandS.ExcIs
import HandS.ExcValue
import HandS.ForMost
import HandS.HotCalls
import HandS.IsInst
import HandS.MakeKwOnly
import HandS.More
import HandS.NoneIn
import HandS.RaiseFrom
import HandS.ReplaceLit
import HandS.StrMore
import HandS.Style
import HandS.SuiteRaise
import HandS.TryOnly
import HandS.Wide
import HandS.WideBits
import HandS.WordsExc
import KE.KEqDeep
import KE.KEqSeq
import KE.KExcIs
import HandS.Gcd
import HandS.SortKw
import KE.DataMinMax
import PySem.Challenge.RW_handedtext_k51_whole_great_ways_back
set_option Elab.async false
set_option linter.all false
set_option maxRecDepth 100000
set_option maxHeartbeats 4000000
set_option exponentiation.threshold 9000
open PySem L2
local macro_rules | `(tactic| walk_at "rd") => `(tactic| repeat (first | refine ⟨_, rfl, ?_⟩ | refine ⟨_, _, rfl, rfl, ?_⟩ | refine .inl ⟨_, rfl, ?_⟩))
namespace L2
open PySem PySem.Spec PyProof.Rows
/-- an error that was caught and kept, at a -/
def ExK (cls : Value) (a : Addr) : HO := .ext fun hp => ∃ (rec' : Obj) (cells : Array Value), hp.get? a = some rec' ∧ Zc cls none rec' ∧ rec'.data = .fields cells
/-- wKeep: what 'except x as n' wishes, where the error stays tracked behind the suite -/
def wKeep (K : PySem.W.Frag) (c : Value) (i : Nat) (ts : Addr → Value → Option Addr → TS) (Wout : WX) (D : Ends) : WX := fun kl dd st H =>
  ∃ yes, PySem.W.exmOne K kl c = some yes ∧ (yes = true → dd = none ∧ ∀ a, H a = none → ts a kl dd { nx := fun st' H' => D.nx (st'.set i none) (upd H' a (ExK kl a)), rt := D.rt, bk := fun st' H' => D.bk (st'.set i none) H', ct := fun st' H' => D.ct (st'.set i none) H' } (st.set i (some (.ref a))) H) ∧
    (yes = false → Wout kl dd st H)
section
variable {X : Cx} {pins : List (Addr × Obj)} {st : St} {H : Hp} {sh : Shared}
theorem Inv.adopt {a : Addr} {kl : Value} {rc : Obj} {cells : Array Value} (iv : Inv X pins st H sh) (new0 : X.s_0.heap.get? a = none) (free : H a = none) (at0 : sh.heap.get? a = some rc) (zc : Zc kl none rc) (fl : rc.data = .fields cells) (nl : a ≠ X.env.locals)
    (np : ∀ p ∈ X.pn ++ pins, p.1 ≠ a) : Inv X pins st (upd H a (ExK kl a)) sh := by
  have old : ∀ c rr, X.s_0.heap.get? c = some rr → c ≠ a := fun c rr e z => by
    rw [z, new0] at e
    cases e
  have other : ∀ c u, H c = some u → upd H a (ExK kl a) c = some u := fun c u e => (upd_ne (ne_of_none e free)).trans e
  refine ⟨iv.ok, iv.os, iv.bare, ⟨iv.base.keep, iv.base.slot, fun c rr e n0 nx => ?_, iv.base.there, fun c xs e => other _ _ (iv.base.tups c xs e), fun c rr u e => other _ _ (iv.base.frzs c rr u e), fun c ps e => ?_⟩, iv.loc, iv.cell, ?_, fun y c e => ?_, fun p hp => ?_, fun c u e => ?_, iv.len⟩
  · exact (upd_ne (old c rr e)).trans (iv.base.free c rr e n0 nx)
  · obtain ⟨more, e2⟩ := iv.base.tbls c ps e
    exact ⟨more, other _ _ e2⟩
  · exact (upd_ne nl.symm).trans iv.free
  · obtain ⟨w, rr, e2, e3⟩ := iv.cell y c e
    refine (upd_ne fun z => ?_).trans (iv.freeC y c e)
    subst z
    rw [at0] at e2
    cases e2
    simp [fl] at e3
  · obtain ⟨e1, e2, e3, e4, e5⟩ := iv.pin p hp
    exact ⟨e1, (upd_ne (np p hp)).trans e2, e3, e4, e5⟩
  · by_cases ca : c = a
    · subst ca
      rw [upd_same] at e
      cases e
      exact ⟨⟨rc, cells, at0, zc, fl⟩, ⟨rc, at0⟩, fun _ _ ⟨r2, c2, e2, e3⟩ same => ⟨r2, c2, same _ e2, e3⟩⟩
    · rw [upd_ne ca] at e
      exact (iv.hok c u e).stay (fun _ _ _ e2 => e2) (fun c2 e2 => other _ _ e2) fun c2 xs e2 => other _ _ e2
end
end L2
namespace L2
open PySem PySem.Spec PyProof.Rows
section
variable {X : Cx} {x n : Str} {c : Value} {i : Nat} {body suite : List Stmt} {first : Stmt} {np pos pos' : Pos} {tb : WX → TS} {ts : Addr → Value → Option Addr → TS} {Wout : WX}
/-- try: .. except x as n: suite; the caught error stays tracked behind it -/
theorem ps_try_keep (stk : X.stack = X.env :: X.outer) (frm : X.env.frame = some X.env.locals) (noex : X.ex = []) (dist : X.N.Nodup) (slot : X.N[i]? = some n) (loc : X.env.kindOf n = some .local) (nam : Names X x c) (tk : Takes X Wout)
    (inner : ∀ (W : WX) (pn : List (Addr × Obj)) (xe : Value → Shared → Prop), Takes (X.tr pn xe) W → PassesOwn (model X.prog X.w) X.A X.env xe → PSs (X.tr pn xe) body (tb W))
    (caught : ∀ (a : Addr) (rc : Obj) (kl : Value) (dd : Option Addr) (pn : List (Addr × Obj)), Zc kl dd rc → (∃ cells, rc.data = .fields cells) → PSs (X.suite a ((a, rc) :: pn)) (first :: suite) (ts a kl dd)) :
    PS X (.Try body [.ExceptHandler (some (.Name x np)) (some n) (first :: suite) pos'] [] [] pos) (fun D st H => tb (wKeep X.K c i ts Wout D) D st H) where
  run := fun pins sh st H D iv want => by
    have fine := iv.ok
    have frames : X.A.frames = some (X.env :: X.outer) := by rw [fine.frames, stk]
    refine wpAny_Try_except (wpAny_mono ((inner (wKeep X.K c i ts Wout D) (X.pn ++ pins) _ (fun u sh' air => ?_) PassesOwn.looking).run [] sh st H D (iv.toTry _) want) ?_ fun _ _ e => e)
    · obtain ⟨a, B, shI, pins', st1, H1, kl, dd, rfl, ivT, inB, upTo, sky, freeA, sameOs, bareG, yes, dec, onYes, onNo⟩ := air
      have iv1 : Inv X pins st1 H1 shI := ivT.ofTry fine
      rw [stk] at sky
      refine Sky.land Zc.steady frames frm sky fun hp3 fly3 up3 => ?_
      have bNone : B.get? a = none := fly3.2.1
      have iv3 : Inv X pins st1 H1 { sh' with heap := hp3 } := iv1.landed inB fly3.1 (upTo.trans up3) sameOs bareG
      obtain ⟨rc3, cells3, at3, zc3, dt3⟩ := fly3.there
      have offFrames : a ∉ frs (X.env :: X.outer) := fun mem => by
        obtain ⟨_, r2, e2, bad⟩ := fly3.2.2.1.mem mem
        rw [at3] at e2
        cases e2
        exact bad _ dt3
      have offL : a ≠ X.env.locals := fun z => offFrames (List.mem_filterMap.mpr ⟨X.env, List.mem_cons_self, by rw [frm, z]⟩)
      have offF : a ∉ X.fs := fun mem => by
        obtain ⟨ee, inn, ef⟩ := List.mem_filterMap.mp mem
        exact offFrames (List.mem_filterMap.mpr ⟨ee, List.mem_cons_of_mem _ inn, ef⟩)
      have notThere : shI.heap.get? a = none := by
        cases e : shI.heap.get? a with
        | none => rfl
        | some rr =>
          have z := inB a rr e (by rw [stk]; exact offFrames)
          rw [bNone] at z
          cases z
      have new0 : X.s_0.heap.get? a = none := by
        cases e : X.s_0.heap.get? a with
        | none => rfl
        | some rr =>
          obtain ⟨r2, e2⟩ := iv1.base.there a rr e (by rw [noex]; exact List.not_mem_nil)
          rw [notThere] at e2
          cases e2
      have pinsOff : ∀ p ∈ X.pn ++ pins, p.1 ≠ a := fun p hp z => by
        have e2 := (iv1.pin p hp).1
        rw [z, notThere] at e2
        cases e2
      have inSuite := iv3.suite at3 dt3 freeA offL offF
      refine wpAny_handleBy_cons (codeAny_handlers_test ?_) (by intro q; cases q)
      have theClass : PySem.W.Looks (model X.prog X.w) hp3 (typeOf (.ref a)) kl := fun A' Q' E' s' kk qq => wpAny_typeOf_ref (kk _ _ at3) (by rw [zc3.1]; exact qq)
      have theTest := PySem.W.exm_one (M := model X.prog X.w) iv3.kIn theClass dec
      have clause : ∀ {Q' : Value → Shared → Prop} {E' : Value → Shared → Prop}, Q' c { sh' with heap := hp3 } → wpAny (model X.prog X.w) (X.A.mark (some (.ref a))) (eval (.Name x np) X.env) Q' E' { sh' with heap := hp3 } := fun {Q' E'} qq => by
        obtain ⟨g1, g2, g3 | ⟨g3, g4, g5⟩⟩ := nam
        · exact ld_glob (X := X.suite a ((a, rc3) :: (X.pn ++ pins))) inSuite g1 g3 qq g2
        · exact ld_blt (X := X.suite a ((a, rc3) :: (X.pn ++ pins))) inSuite g1 g3 g4 qq g5 g2
      refine clause (theTest.here ?_)
      cases yes with
      | true =>
        obtain ⟨rfl, go⟩ := onYes rfl
        refine codeAny_handlers_suite_as (HandSPX.lands_againZ fly3 fun hp4 fly4 up4 => ?_)
        have iv4 : Inv X pins st1 H1 { sh' with heap := hp4 } := iv1.landed inB fly4.1 ((upTo.trans up3).trans up4) sameOs bareG
        obtain ⟨rc4, cells4, at4, zc4, dt4⟩ := fly4.there
        refine store_ok (X := X.suite a ((a, rc4) :: (X.pn ++ pins))) (v := .ref a) (iv4.suite at4 dt4 freeA offL offF) dist slot (.inl loc) rfl (fun sh5 iv5 => ?_) (.inr loc)
        refine wpAny_mono ((caught a rc4 kl none (X.pn ++ pins) zc4 ⟨_, dt4⟩).run [] sh5 _ H1 _ iv5 (go a freeA)) (fun flow sh6 came => ?_) fun _ _ z => z.elim
        cases flow with
        | next =>
          obtain ⟨st6, H6, iv6, q6⟩ := came
          have more : Inv X ((a, rc4) :: pins) st6 H6 sh6 := ⟨fine, iv6.os, iv6.bare, iv6.base, iv6.loc, iv6.cell, iv6.free, iv6.freeC, fun p hp => iv6.pin p (List.mem_append_left _ ?_), iv6.hok, iv6.len⟩
          refine gone_ok more dist slot loc fun sh7 iv7 => ?_
          have there : (a, rc4) ∈ X.pn ++ (a, rc4) :: pins := List.mem_append_right _ List.mem_cons_self
          obtain ⟨e1, e2, e3, _⟩ := iv7.pin (a, rc4) there
          have less : Inv X pins (st6.set i none) H6 sh7 := ⟨fine, iv7.os, iv7.bare, iv7.base, iv7.loc, iv7.cell, iv7.free, iv7.freeC, fun p hp => iv7.pin p ?_, iv7.hok, iv7.len⟩
          · exact ⟨_, _, less.adopt new0 e2 e1 zc4 dt4 e3 pinsOff, q6⟩
          · rcases List.mem_append.mp hp with hq | hq
            · exact List.mem_append_left _ hq
            · exact List.mem_append_right _ (List.mem_cons_of_mem _ hq)
          · rcases List.mem_append.mp hp with hq | hq
            · exact List.mem_cons_of_mem _ (List.mem_append_left _ hq)
            · rcases List.mem_cons.mp hq with hr | hr
              · rw [hr]; exact List.mem_cons_self
              · exact List.mem_cons_of_mem _ (List.mem_append_right _ hr)
        | brk =>
          obtain ⟨st6, H6, iv6, q6⟩ := came
          exact gone_ok (iv6.unsuite fine) dist slot loc fun sh7 iv7 => ⟨_, _, iv7, q6⟩
        | cont =>
          obtain ⟨st6, H6, iv6, q6⟩ := came
          exact gone_ok (iv6.unsuite fine) dist slot loc fun sh7 iv7 => ⟨_, _, iv7, q6⟩
        | ret u =>
          obtain ⟨v6, st6, H6, iv6, r6, q6⟩ := came
          exact gone_ok (iv6.unsuite fine) dist slot loc fun sh7 iv7 => ⟨_, _, _, iv7, r6, q6⟩
      | false =>
        show wpAny _ X.A (handleBy (.ref a) X.env []) _ _ _
        refine wpAny_handleBy_nil ?_
        obtain ⟨_, _, _, rc5, cells5, tr5, _, _, at5, _, dt5, at1, _⟩ := id fly3
        unfold PySem.passOn
        refine wpAny_bind (wpAny_field at5 dt5 at1 ?_)
        rw [if_neg (by simp : ¬ (Value.ref tr5 == Value.none) = true)]
        have out : wpAny (model X.prog X.w) X.A (setFlight (.ref a) X.env.frame) (fun _ sh8 => wpAny (model X.prog X.w) X.A (throw (.ref a) : Sem Flow) (SP X pins D) X.xe sh8) X.xe { sh' with heap := hp3 } := by
          rw [frm]
          refine HandSPX.setFlight_upZ fly3 fun hp8 held up8 => wpAny_throw (tk _ _ ?_)
          exact ⟨a, B, shI, pins, st1, H1, kl, dd, rfl, iv1, inB, (upTo.trans up3).trans up8, .inr (.inr (by rw [stk]; exact held)), freeA, sameOs, bareG, onNo rfl⟩
        first
          | exact wpAny_bind out
          | exact wpAny_bind (wpAny_pure (wpAny_bind out))
    · intro flow sh1 came
      cases flow with
      | next =>
        obtain ⟨st1, H1, iv1, q1⟩ := came
        exact wpAny_execs_nil ⟨st1, H1, iv1.ofTry fine, q1⟩
      | brk =>
        obtain ⟨st1, H1, iv1, q1⟩ := came
        exact ⟨st1, H1, iv1.ofTry fine, q1⟩
      | cont =>
        obtain ⟨st1, H1, iv1, q1⟩ := came
        exact ⟨st1, H1, iv1.ofTry fine, q1⟩
      | ret u =>
        obtain ⟨v1, st1, H1, iv1, r1, q1⟩ := came
        exact ⟨v1, st1, H1, iv1.ofTry fine, r1, q1⟩
end
end L2
namespace L2
open PySem PySem.Spec PyProof.Rows
/-- what the written part says of an error class, for isinstance -/
structure ErrC (K : PySem.W.Frag) (C : Addr) : Prop where
  cl : (PySem.W.clsIn K C).isSome = true
  ga : PySem.W.findIn K (.ref C) "__getattribute__" = some (some (.builtin "BaseException.__getattribute__"))
  gg : PySem.W.findIn K (.ref C) "__getattr__" = some none
  sb : PySem.W.subIn K (.ref C) (.type "BaseException") = some true
  cn : PySem.W.findIn K (.ref C) "__class__" = some (some (.builtin "object.__class__"))
  mo : PySem.W.mroIn K C (.type "object") = some true
/-- .. of the attribute __class__ of all objects -/
structure ErrG (K : PySem.W.Frag) : Prop where
  sp : PySem.W.specialIn K (.builtin "object.__class__") "__get__" = some (some (.builtin "getset_descriptor.__get__"))
  tk : PySem.W.takesIn K (.builtin "object.__class__") = some true
def rIsKept (K : PySem.W.Frag) : List V → Hp → VK → Prop := fun xs H Q => ∃ (a C : Addr) (c : V) (cv : Value) (b : Bool), xs = [.ref a, c] ∧ ClsV c cv ∧ H a = some (ExK (.ref C) a) ∧ ErrC K C ∧ ErrG K ∧ PySem.W.kitOne K (.ref C) cv = some b ∧ Q (.bl b) H
theorem call_isKept {X : Cx} : CallR X (.builtin "isinstance") (rIsKept X.K) := by
  intro pins sh st H xs us Q iv r h
  obtain ⟨a, C, c, cv, b, rfl, k, at', T, G, e, q⟩ := h
  obtain ⟨u1, u2, rfl, r1, r2⟩ := vals2 r
  have e2 := k.eq r2
  subst e2
  obtain rfl : u1 = Value.ref a := r1
  obtain ⟨⟨oe, vs, ho, hz, hd⟩, _, _⟩ := iv.hok a _ at'
  have J : PySem.W.InstAt sh.heap a oe C none := by
    obtain ⟨oc, od, oda, osl⟩ := oe
    obtain ⟨h1, h2⟩ := hz
    dsimp only at h1 h2 hd
    subst h1 h2 hd
    exact ⟨ho, rfl, rfl, trivial⟩
  exact PySem.W.kia_one (PySem.W.kitx_exc T.cl T.ga T.gg T.sb T.cn G.sp G.tk T.mo) iv.kIn J e (fun z => nomatch z) fun tk => ⟨.bl b, H, iv.tok tk, rfl, q⟩
end L2
namespace L2
open PySem PySem.Spec PyProof.Rows
/-- a def of which any kind of error may come -/
theorem Fun.okAny {CX' : CXT} {P : Program} {w : World} {K : PySem.W.Frag} {mg : Str → Option Value} {base : Heap} {nm qu : Str} {row : Stmt} {at0 : Addr} {fd : FuncData} {names pars : List Str} {lev : Nat} {want : Sp} (F : Fun K nm qu row at0 fd) (S : FnScope names pars (defScope row)) (len : ∀ vs H Q E, want vs H Q E → vs.length = pars.length)
    (body : ∀ (code : Value) (A : Around) (outer : List Env) (sh : Shared) (H : Hp) (vs : List V) (Q : VK) (E : XK), Room lev (A.deeper (envOfC qu (defScope row) sh.heap.objs.size at0 code)) → want vs H Q E →
      ∃ t, PSs (cxOf CX' P w K mg base names qu (defScope row) at0 code A outer sh H E) (defBody row) t ∧ t { nx := fun _ H' => Q .non H', rt := Q } (start names vs) H) : FnOk P w K mg base CX' (lev + 1) at0 fd pars want := by
  obtain ⟨_, _, _, _, _, _, code, _, _, rfl, there, isCode⟩ := F.ex
  exact fn_of there isCode S len (body code)
/-- X('..') of an own class, for a raise .. from None -/
theorem pmk5_own {X : Cx} {C : Addr} {bmB : List Value} {B newId initId : String} {x m : Str} {j : Nat} {p p2 pos : Pos} (F : ExcBaseFacts B newId initId bmB) (q : PySem.W.excIn X.K C bmB newId = true) (gC : X.mg x = some (.ref C)) (kC : PySem.W.keepIn X.K (.ref C) = true) (r : Raises X (.ref C)) (hg : Gl X x)
    (plain : (x == ("__debug__" : Str)) = false := by decide) : L2H.PMk5 X (.Call (.Name x p) [.Constant (.str m) j p2] [] pos) (fun _ H Q => Q (.ref C) none H) := by
  intro pins sh st H Q iv want
  have arg : PA X [.Constant (.str m) j p2] (tCons (tC (.str m)) tNil) := pa_cons pe_str pa_nil
  refine wpAny_Call_Name_kw (ld_glob iv hg gC (PySem.W.callWith_K (h₀ := X.base) iv.ok.mod.kin kC (thn (arg.run pos pins sh st H (fun vs H1 => vs = [V.str m] ∧ H = H1) iv ⟨rfl, rfl⟩) ?_)) plain)
  rintro us sh1 ⟨vs, H1, iv1, rel, rfl, rfl⟩
  refine ⟨iv1.kIn, ?_⟩
  match us, rel with
  | [u], .cons _ .nil =>
    show wpAny _ _ (call (.ref C) [u]) _ _ _
    obtain ⟨_, _, _, _, _, _, _, _, _, _, _, _, _, _, _, _, _, hC, hN, hni, T⟩ := exc_obj iv1.kIn q
    exact wpAny_call_exc_subT F T hC hN hni (fun h' e made => L2H.mk_of5 iv1 made r want (iv1.hok.gone made.new)) (by show 1 ≤ sizeLine; decide)
/-- try: .. except x: suite, the suite raising: ps_try_onlyX with its reading under a name, for a loop around it -/
def tTryX (K : PySem.W.Frag) (c : Value) (ts : Addr → Value → Option Addr → TS) (Wout : WX) (tb : WX → TS) : TS := fun D st H => tb (wOnly K c ts Wout D) D st H
theorem ps_tryX {X : Cx} {x : Str} {c : Value} {body suite : List Stmt} {first : Stmt} {np pos pos' : Pos} {tb : WX → TS} {ts : Addr → Value → Option Addr → TS} {Wout : WX} (h1 : X.stack = X.env :: X.outer) (h2 : X.env.frame = some X.env.locals) (h3 : Names X x c)
    (h4 : ∀ hd : Option Value, PassesOwnAt (model X.prog X.w) (X.A.mark hd) X.A X.env X.xe) (h5 : L2.Takes X Wout)
    (h6 : ∀ (W : WX) (pn : List (Addr × Obj)) (xe : Value → Shared → Prop), L2N.Takes (X.tr pn xe) W → L2.Takes (X.tr pn xe) (L2H.wPass X.K c Wout) → PassesOwn (model X.prog X.w) X.A X.env xe → PSs (X.tr pn xe) body (tb W))
    (h7 : ∀ (a : Addr) (oe : Obj) (cls : Value) (d : Option Addr) (pn : List (Addr × Obj)), L2N.Zn cls d oe → (∃ vs, oe.data = .fields vs) → L2.Takes (L2H.suiteX X a ((a, oe) :: pn)) Wout → L2H.HotC (L2H.suiteX X a ((a, oe) :: pn)) → PSs (L2H.suiteX X a ((a, oe) :: pn)) (first :: suite) (ts a cls d)) :
    PS X (.Try body [.ExceptHandler (some (.Name x np)) none (first :: suite) pos'] [] [] pos) (tTryX X.K c ts Wout tb) := L2H.ps_try_onlyX h1 h2 h3 h4 h5 h6 h7
end L2
namespace HT
open PySem L2
def top (i : Nat) : Stmt := PySem.Challenge.pw_handedtext_k51_whole_great_ways_back.main.body.getD i (.Pass ⟨0, 0, 0, 0⟩)
abbrev s_is_int : Stmt := top 5
abbrev s_is_int_between : Stmt := top 6
abbrev s_check_value : Stmt := top 7
abbrev s_check_side : Stmt := top 11
abbrev s_figure : Stmt := top 12
abbrev s_goes_up : Stmt := top 13
abbrev s_written : Stmt := top 14
abbrev s_span : Stmt := top 15
abbrev s_uspan : Stmt := top 16
abbrev s_below : Stmt := top 17
abbrev s_threshold : Stmt := top 18
abbrev s_mirror : Stmt := top 19
abbrev s_period_of : Stmt := top 21
abbrev s_first_hit : Stmt := top 23
abbrev s_first_between : Stmt := top 24
abbrev s_unraised : Stmt := top 26
abbrev s_settled : Stmt := top 28
abbrev s_pace : Stmt := top 29
abbrev s_creep : Stmt := top 30
abbrev s_wide_and_narrow : Stmt := top 31
abbrev s_rounds_up : Stmt := top 32
abbrev s_settled_on_wide : Stmt := top 33
abbrev s_settled_on_narrow : Stmt := top 34
abbrev s_L_source : Stmt := top 36
abbrev s_L_draw : Stmt := top 37
abbrev s_L_pick : Stmt := top 38
abbrev s_L_divisor : Stmt := top 39
abbrev s_L_great : Stmt := top 40
abbrev s_L_small_side : Stmt := top 41
abbrev s_L_figure : Stmt := top 42
abbrev s_L_handed : Stmt := top 43
abbrev s_L_period : Stmt := top 44
abbrev s_L_trip : Stmt := top 45
abbrev s_L_settled : Stmt := top 46
abbrev s_L_great_side : Stmt := top 47
abbrev s_L_times : Stmt := top 48
abbrev s_L_lift_fits : Stmt := top 49
abbrev s_L_between_fits : Stmt := top 50
abbrev s_L_down_fits : Stmt := top 51
abbrev s_L_great_fits : Stmt := top 52
abbrev s_law : Stmt := top 53
/- is_int: 0:thing -/
theorem sc_is_int : FnScope ["thing"] ["thing"] (defScope s_is_int) := ⟨rfl, rfl, rfl, by decide +kernel, rfl, by decide +kernel, by decide +kernel⟩
/- is_int_between: 0:thing 1:least 2:most -/
theorem sc_is_int_between : FnScope ["thing", "least", "most"] ["thing", "least", "most"] (defScope s_is_int_between) := ⟨rfl, rfl, rfl, by decide +kernel, rfl, by decide +kernel, by decide +kernel⟩
/- check_value: 0:value -/
theorem sc_check_value : FnScope ["value"] ["value"] (defScope s_check_value) := ⟨rfl, rfl, rfl, by decide +kernel, rfl, by decide +kernel, by decide +kernel⟩
/- check_side: 0:side 1:offset 2:step 3:mode -/
theorem sc_check_side : FnScope ["side", "offset", "step", "mode"] ["side"] (defScope s_check_side) := ⟨rfl, rfl, rfl, by decide +kernel, rfl, by decide +kernel, by decide +kernel⟩
/- _figure: 0:side 1:value 2:offset 3:step 4:mode 5:figure 6:rest -/
theorem sc_figure : FnScope ["side", "value", "offset", "step", "mode", "figure", "rest"] ["side", "value"] (defScope s_figure) := ⟨rfl, rfl, rfl, by decide +kernel, rfl, by decide +kernel, by decide +kernel⟩
/- _goes_up: 0:mode 1:step 2:figure 3:rest -/
theorem sc_goes_up : FnScope ["mode", "step", "figure", "rest"] ["mode", "step", "figure", "rest"] (defScope s_goes_up) := ⟨rfl, rfl, rfl, by decide +kernel, rfl, by decide +kernel, by decide +kernel⟩
/- written: 0:side 1:value 2:offset 3:step 4:_ -/
theorem sc_written : FnScope ["side", "value", "offset", "step", "_"] ["side", "value"] (defScope s_written) := ⟨rfl, rfl, rfl, by decide +kernel, rfl, by decide +kernel, by decide +kernel⟩
/- span: 0:side 1:figure -/
theorem sc_span : FnScope ["side", "figure"] ["side", "figure"] (defScope s_span) := ⟨rfl, rfl, rfl, by decide +kernel, rfl, by decide +kernel, by decide +kernel⟩
/- _span: 0:side 1:figure 2:offset 3:step 4:mode 5:value -/
theorem sc_uspan : FnScope ["side", "figure", "offset", "step", "mode", "value"] ["side", "figure"] (defScope s_uspan) := ⟨rfl, rfl, rfl, by decide +kernel, rfl, by decide +kernel, by decide +kernel⟩
/- _below: 0:mode 1:step 2:figure -/
theorem sc_below : FnScope ["mode", "step", "figure"] ["mode", "step", "figure"] (defScope s_below) := ⟨rfl, rfl, rfl, by decide +kernel, rfl, by decide +kernel, by decide +kernel⟩
/- threshold: 0:side 1:value 2:offset 3:step 4:mode 5:figure -/
theorem sc_threshold : FnScope ["side", "value", "offset", "step", "mode", "figure"] ["side", "value"] (defScope s_threshold) := ⟨rfl, rfl, rfl, by decide +kernel, rfl, by decide +kernel, by decide +kernel⟩
/- mirror: 0:side 1:offset 2:step 3:mode -/
theorem sc_mirror : FnScope ["side", "offset", "step", "mode"] ["side"] (defScope s_mirror) := ⟨rfl, rfl, rfl, by decide +kernel, rfl, by decide +kernel, by decide +kernel⟩
/- period_of: 0:side 1:_ 2:step 3:mode -/
theorem sc_period_of : FnScope ["side", "_", "step", "mode"] ["side"] (defScope s_period_of) := ⟨rfl, rfl, rfl, by decide +kernel, rfl, by decide +kernel, by decide +kernel⟩
/- first_hit: 0:start 1:step 2:most 3:modulus 4:least 5:greatest -/
theorem sc_first_hit : FnScope ["start", "step", "most", "modulus", "least", "greatest"] ["start", "step", "most", "modulus"] (defScope s_first_hit) := ⟨rfl, rfl, rfl, by decide +kernel, rfl, by decide +kernel, by decide +kernel⟩
/- _first_between: 0:step 1:least 2:greatest 3:modulus 4:many 5:rounds -/
theorem sc_first_between : FnScope ["step", "least", "greatest", "modulus", "many", "rounds"] ["step", "least", "greatest", "modulus"] (defScope s_first_between) := ⟨rfl, rfl, rfl, by decide +kernel, rfl, by decide +kernel, by decide +kernel⟩
/- unraised: 0:side 1:least 2:offset 3:step 4:_ 5:period 6:blocks 7:figure 8:low 9:high 10:start -/
theorem sc_unraised : FnScope ["side", "least", "offset", "step", "_", "period", "blocks", "figure", "low", "high", "start"] ["side", "least"] (defScope s_unraised) := ⟨rfl, rfl, rfl, by decide +kernel, rfl, by decide +kernel, by decide +kernel⟩
/- settled: 0:first 1:second 2:value 3:creep 4:start 5:end 6:rounds -/
theorem sc_settled : FnScope ["first", "second", "value", "creep", "start", "end", "rounds"] ["first", "second", "value"] (defScope s_settled) := ⟨rfl, rfl, rfl, by decide +kernel, rfl, by decide +kernel, by decide +kernel⟩
/- pace: 0:first 1:second -/
theorem sc_pace : FnScope ["first", "second"] ["first", "second"] (defScope s_pace) := ⟨rfl, rfl, rfl, by decide +kernel, rfl, by decide +kernel, by decide +kernel⟩
/- _creep: 0:first 1:second 2:wide 3:narrow 4:offset 5:step 6:_ -/
theorem sc_creep : FnScope ["first", "second", "wide", "narrow", "offset", "step", "_"] ["first", "second"] (defScope s_creep) := ⟨rfl, rfl, rfl, by decide +kernel, rfl, by decide +kernel, by decide +kernel⟩
/- wide_and_narrow: 0:first 1:second -/
theorem sc_wide_and_narrow : FnScope ["first", "second"] ["first", "second"] (defScope s_wide_and_narrow) := ⟨rfl, rfl, rfl, by decide +kernel, rfl, by decide +kernel, by decide +kernel⟩
/- rounds_up: 0:wide 1:narrow 2:value 3:_ 4:step 5:turns 6:found 7:turn 8:place 9:least 10:start 11:most 12:period 13:many -/
theorem sc_rounds_up : FnScope ["wide", "narrow", "value", "_", "step", "turns", "found", "turn", "place", "least", "start", "most", "period", "many"] ["wide", "narrow", "value"] (defScope s_rounds_up) := ⟨rfl, rfl, rfl, by decide +kernel, rfl, by decide +kernel, by decide +kernel⟩
/- _settled_on_wide: 0:wide 1:narrow 2:value 3:_ 4:step 5:rounds -/
theorem sc_settled_on_wide : FnScope ["wide", "narrow", "value", "_", "step", "rounds"] ["wide", "narrow", "value"] (defScope s_settled_on_wide) := ⟨rfl, rfl, rfl, by decide +kernel, rfl, by decide +kernel, by decide +kernel⟩
/- _settled_on_narrow: 0:narrow 1:wide 2:value 3:_ 4:step 5:start 6:there 7:rounds 8:end -/
theorem sc_settled_on_narrow : FnScope ["narrow", "wide", "value", "_", "step", "start", "there", "rounds", "end"] ["narrow", "wide", "value"] (defScope s_settled_on_narrow) := ⟨rfl, rfl, rfl, by decide +kernel, rfl, by decide +kernel, by decide +kernel⟩
/- _law_source: 0:_law_script 1:_law_cells 2:_law_k -/
theorem sc_L_source : FnScope ["_law_script", "_law_cells", "_law_k"] ["_law_script"] (defScope s_L_source) := ⟨rfl, rfl, rfl, by decide +kernel, rfl, by decide +kernel, by decide +kernel⟩
/- _law_draw: 0:_law_source_here 1:_law_limit 2:_law_cells 3:_law_turn 4:_law_place 5:_law_cell 6:_law_number -/
theorem sc_L_draw : FnScope ["_law_source_here", "_law_limit", "_law_cells", "_law_turn", "_law_place", "_law_cell", "_law_number"] ["_law_source_here", "_law_limit"] (defScope s_L_draw) := ⟨rfl, rfl, rfl, by decide +kernel, rfl, by decide +kernel, by decide +kernel⟩
/- _law_pick: 0:_law_source_here 1:_law_values -/
theorem sc_L_pick : FnScope ["_law_source_here", "_law_values"] ["_law_source_here", "_law_values"] (defScope s_L_pick) := ⟨rfl, rfl, rfl, by decide +kernel, rfl, by decide +kernel, by decide +kernel⟩
/- _law_divisor: 0:_law_one 1:_law_other -/
theorem sc_L_divisor : FnScope ["_law_one", "_law_other"] ["_law_one", "_law_other"] (defScope s_L_divisor) := ⟨rfl, rfl, rfl, by decide +kernel, rfl, by decide +kernel, by decide +kernel⟩
/- _law_great: 0:_law_source_here 1:_law_digits 2:_law_number 3:_law_k -/
theorem sc_L_great : FnScope ["_law_source_here", "_law_digits", "_law_number", "_law_k"] ["_law_source_here", "_law_digits"] (defScope s_L_great) := ⟨rfl, rfl, rfl, by decide +kernel, rfl, by decide +kernel, by decide +kernel⟩
/- _law_small_side: 0:_law_source_here 1:_law_most 2:_law_offset -/
theorem sc_L_small_side : FnScope ["_law_source_here", "_law_most", "_law_offset"] ["_law_source_here", "_law_most"] (defScope s_L_small_side) := ⟨rfl, rfl, rfl, by decide +kernel, rfl, by decide +kernel, by decide +kernel⟩
/- _law_figure: 0:_law_side 1:_law_value 2:_law_offset 3:_law_step 4:_law_mode 5:_law_low 6:_law_rest -/
theorem sc_L_figure : FnScope ["_law_side", "_law_value", "_law_offset", "_law_step", "_law_mode", "_law_low", "_law_rest"] ["_law_side", "_law_value"] (defScope s_L_figure) := ⟨rfl, rfl, rfl, by decide +kernel, rfl, by decide +kernel, by decide +kernel⟩
/- _law_handed: 0:_law_side 1:_law_value -/
theorem sc_L_handed : FnScope ["_law_side", "_law_value"] ["_law_side", "_law_value"] (defScope s_L_handed) := ⟨rfl, rfl, rfl, by decide +kernel, rfl, by decide +kernel, by decide +kernel⟩
/- _law_period: 0:_law_sides 1:_law_period_here 2:_law_offset 3:_law_step 4:_law_mode 5:_law_length -/
theorem sc_L_period : FnScope ["_law_sides", "_law_period_here", "_law_offset", "_law_step", "_law_mode", "_law_length"] ["_law_sides"] (defScope s_L_period) := ⟨rfl, rfl, rfl, by decide +kernel, rfl, by decide +kernel, by decide +kernel⟩
/- _law_trip: 0:_law_first 1:_law_second 2:_law_value -/
theorem sc_L_trip : FnScope ["_law_first", "_law_second", "_law_value"] ["_law_first", "_law_second", "_law_value"] (defScope s_L_trip) := ⟨rfl, rfl, rfl, by decide +kernel, rfl, by decide +kernel, by decide +kernel⟩
/- _law_settled: 0:_law_first 1:_law_second 2:_law_value 3:_law_here 4:_law_period_here 5:_law_remainders 6:_law_places 7:_law_after 8:_law_at -/
theorem sc_L_settled : FnScope ["_law_first", "_law_second", "_law_value", "_law_here", "_law_period_here", "_law_remainders", "_law_places", "_law_after", "_law_at"] ["_law_first", "_law_second", "_law_value"] (defScope s_L_settled) := ⟨rfl, rfl, rfl, by decide +kernel, rfl, by decide +kernel, by decide +kernel⟩
/- _law_great_side: 0:_law_source_here 1:_law_step 2:_law_offset -/
theorem sc_L_great_side : FnScope ["_law_source_here", "_law_step", "_law_offset"] ["_law_source_here"] (defScope s_L_great_side) := ⟨rfl, rfl, rfl, by decide +kernel, rfl, by decide +kernel, by decide +kernel⟩
/- _law_times: 0:_law_side 1:_law_factor -/
theorem sc_L_times : FnScope ["_law_side", "_law_factor"] ["_law_side", "_law_factor"] (defScope s_L_times) := ⟨rfl, rfl, rfl, by decide +kernel, rfl, by decide +kernel, by decide +kernel⟩
/- _law_lift_fits: 0:_law_source_here 1:_law_first 2:_law_second 3:_law_factor 4:_law_left 5:_law_right 6:_law_k 7:_law_value 8:_law_due -/
theorem sc_L_lift_fits : FnScope ["_law_source_here", "_law_first", "_law_second", "_law_factor", "_law_left", "_law_right", "_law_k", "_law_value", "_law_due"] ["_law_source_here", "_law_first", "_law_second"] (defScope s_L_lift_fits) := ⟨rfl, rfl, rfl, by decide +kernel, rfl, by decide +kernel, by decide +kernel⟩
/- _law_between_fits: 0:_law_source_here 1:_law_first 2:_law_second 3:_law_low 4:_law_high 5:_law_many 6:_law_k 7:_law_value 8:_law_after -/
theorem sc_L_between_fits : FnScope ["_law_source_here", "_law_first", "_law_second", "_law_low", "_law_high", "_law_many", "_law_k", "_law_value", "_law_after"] ["_law_source_here", "_law_first", "_law_second", "_law_low", "_law_high"] (defScope s_L_between_fits) := ⟨rfl, rfl, rfl, by decide +kernel, rfl, by decide +kernel, by decide +kernel⟩
/- _law_down_fits: 0:_law_source_here 1:_law_first 2:_law_second 3:_law_low 4:_law_high 5:_law_many 6:_law_k 7:_law_value 8:_law_after -/
theorem sc_L_down_fits : FnScope ["_law_source_here", "_law_first", "_law_second", "_law_low", "_law_high", "_law_many", "_law_k", "_law_value", "_law_after"] ["_law_source_here", "_law_first", "_law_second", "_law_low", "_law_high"] (defScope s_L_down_fits) := ⟨rfl, rfl, rfl, by decide +kernel, rfl, by decide +kernel, by decide +kernel⟩
/- _law_great_fits: 0:_law_source_here 1:_law_first 2:_law_second 3:_law_value 4:_law_here 5:_law_after 6:_law_found 7:_law_wide 8:_law_other 9:_law_k 10:_law_word 11:_law_end 12:_law_rounds -/
theorem sc_L_great_fits : FnScope ["_law_source_here", "_law_first", "_law_second", "_law_value", "_law_here", "_law_after", "_law_found", "_law_wide", "_law_other", "_law_k", "_law_word", "_law_end", "_law_rounds"] ["_law_source_here", "_law_first", "_law_second", "_law_value"] (defScope s_L_great_fits) := ⟨rfl, rfl, rfl, by decide +kernel, rfl, by decide +kernel, by decide +kernel⟩
/- law: 0:_law_script 1:_law_source_here 2:_law_turn 3:_law_first 4:_law_second 5:_law_move 6:_law_k 7:_law_value -/
theorem sc_law : FnScope ["_law_script", "_law_source_here", "_law_turn", "_law_first", "_law_second", "_law_move", "_law_k", "_law_value"] ["_law_script"] (defScope s_law) := ⟨rfl, rfl, rfl, by decide +kernel, rfl, by decide +kernel, by decide +kernel⟩

end HT
namespace L2
open PySem PySem.Spec PyProof.Rows
/-- powers of great numbers -/
def CPowW (i j : Int) : Prop := 0 ≤ j ∧ (Builtin.Int.intBits i : Int) * j ≤ 2 ^ 27
theorem op_powW {X : Cx} : OpR X (binaryOp .Pow) (rI CPowW fun i j => .int (i ^ j.toNat)) := opI fun _ _ _ _ _ _ _ hc q => pow_int hc.1 hc.2 q
end L2
namespace HT
open PySem L2
/-- the law's source of draws: a list of its cells' list and the turn -/
structure Src (H : Hp) (a c : Addr) (t : Nat) : Prop where
  ne : a ≠ c
  ob : H a = some (.lst [.ref c, .int (t : Int)])
  cl : ∃ cs : List Int, H c = some (.lst (cs.map V.int)) ∧ 0 < cs.length ∧ cs.length ≤ 63
/-- nothing else is touched -/
def Oth (a c : Addr) (H H' : Hp) : Prop := ∀ b o, H b = some o → b ≠ a → b ≠ c → H' b = some o
theorem Oth.refl (a c : Addr) (H : Hp) : Oth a c H H := fun _ _ h _ _ => h
theorem Oth.trans {a c : Addr} {H H1 H2 : Hp} (x : Oth a c H H1) (y : Oth a c H1 H2) : Oth a c H H2 := fun b o h n m => y b o (x b o h n m) n m
theorem Oth.new {a c p : Addr} {H H1 : Hp} {o : HO} (x : Oth a c H H1) (n : H1 p = none) : Oth a c H (upd H1 p o) := fun b u h na nc => by
  rw [upd_ne (ne_of_none (x b u h na nc) n)]
  exact x b u h na nc
theorem Src.new {a c p : Addr} {H : Hp} {t : Nat} {o : HO} (S : Src H a c t) (n : H p = none) : Src (upd H p o) a c t := by
  obtain ⟨cs, h, l⟩ := S.cl
  exact ⟨S.ne, by rw [upd_ne (ne_of_none S.ob n)]; exact S.ob, cs, by rw [upd_ne (ne_of_none h n)]; exact h, l⟩
theorem Src.of_same {a c : Addr} {H H' : Hp} {t : Nat} (S : Src H a c t) (e : Same H H') : Src H' a c t := by
  obtain ⟨cs, h, l⟩ := S.cl
  exact ⟨S.ne, e _ _ S.ob, cs, e _ _ h, l⟩
theorem Src.na {a c p : Addr} {H : Hp} {t : Nat} (S : Src H a c t) (n : H p = none) : p ≠ a ∧ p ≠ c := by
  obtain ⟨cs, h, l⟩ := S.cl
  exact ⟨(ne_of_none S.ob n).symm, (ne_of_none h n).symm⟩
theorem Src.nt {a c p : Addr} {H : Hp} {t : Nat} {xs : List V} (S : Src H a c t) (n : H p = some (.tup xs)) : p ≠ a ∧ p ≠ c := by
  obtain ⟨cs, h, l⟩ := S.cl
  exact ⟨ne_of n S.ob (by intro z; cases z), ne_of n h (by intro z; cases z)⟩
def spSource (K : PySem.W.Frag) : Sp := fun vs H Q _ => ∃ (l : Addr) (ns : List Int), vs = [.ref l] ∧ SqL K H l (ns.map V.int) ∧ ns.length ≤ 63 ∧
  ∀ a c H', Same H H' → H a = none → H c = none → Src H' a c 0 → Q (.ref a) H'
def spDraw : Sp := fun vs H Q _ => ∃ (a c : Addr) (t : Nat) (lim : Int), vs = [.ref a, .int lim] ∧ Src H a c t ∧ t < 2 ^ 30 ∧ 0 < lim ∧ lim.natAbs.log2 < 9000 ∧
  ∀ k H', 0 ≤ k → k < lim → Src H' a c (t + 1) → Oth a c H H' → Q (.int k) H'
/-- what the walk asks of the names that the text does not bind -/
structure Blt (mg : Str → Option Value) : Prop where
  len : mg "len" = none
  abs : mg "abs" = none
  int : mg "int" = none
  range : mg "range" = none
section
variable {P : Program} {w : World} {K : PySem.W.Frag} {mg : Str → Option Value} {base : Heap}
theorem fdiv_ok (i : Int) {j : Int} (h : 0 < j) (h9 : j.natAbs.log2 < 9000) : CDivW i j := ⟨h, h9⟩
theorem atI_in {xs : List Int} {i : Int} (h0 : 0 ≤ i) (h : i < (xs.length : Int)) : atI (xs.map V.int) i = some (.int (xs.getD i.toNat 0)) := by
  have e : ixN (xs.map V.int).length i = some i.toNat := by
    unfold ixN
    rw [List.length_map, if_pos h0, if_pos h]
  unfold atI
  rw [e]
  show (xs.map V.int)[i.toNat]? = _
  have hl : i.toNat < xs.length := by omega
  rw [List.getElem?_map, List.getElem?_eq_getElem hl, List.getD_eq_getElem?_getD, List.getElem?_eq_getElem hl]
  rfl
theorem ixN_in {n : Nat} {i : Int} (h0 : 0 ≤ i) (h : i < (n : Int)) : ixN n i = some i.toNat := by
  unfold ixN
  rw [if_pos h0, if_pos h]
theorem b_mod (x : Int) : -(2 ^ 64) < x % 2147483629 ∧ x % 2147483629 < 2 ^ 64 := by omega
theorem b_mod1 (x : Int) : -(2 ^ 64) < x % 2147483647 ∧ x % 2147483647 < 2 ^ 64 := by omega
theorem b_t {t : Nat} (h : t < 2 ^ 30) : -(2 ^ 64) < (t : Int) ∧ (t : Int) < 2 ^ 64 := by omega
theorem b_tt {t : Nat} (h : t < 2 ^ 30) : -(2 ^ 64) < (t : Int) * t ∧ (t : Int) * t < 2 ^ 64 := by
  have h1 : t * t < 2 ^ 30 * 2 ^ 30 := Nat.mul_lt_mul'' h h
  have h2 : ((t * t : Nat) : Int) = (t : Int) * t := Int.natCast_mul t t
  omega
theorem set_ints (xs : List Int) (j : Nat) (y : Int) : (xs.map V.int).set j (.int y) = (xs.set j y).map V.int := by
  rw [List.map_set]
theorem ok_draw {f : Addr} {fd : FuncData} (F : Fun K "_law_draw" "_law_draw" s_L_draw f fd) (B : Blt mg) : FnOk P w K mg base CX0 1 f fd ["_law_source_here", "_law_limit"] spDraw := by
  refine F.ok sc_L_draw (fun vs H Q E h => ?_) (fun cdv A outer s H vs Q E hr h => ?_)
  · obtain ⟨a, c, t, lim, rfl, _⟩ := h
    rfl
  · obtain ⟨a, c, t, lim, rfl, S, ht, hl0, hl9, q⟩ := h
    obtain ⟨cs, hc, hn0, hn⟩ := S.cl
    have nd := sc_L_draw.nd
    refine ⟨_, pss_cons (ps_asg (pv 0) (pg_unl (n := 2) (by rfl) (pgs_cons (pg_name (i := 2) nd rfl (Or.inl rfl)) (pgs_cons (pg_name (i := 3) nd rfl (Or.inl rfl)) pgs_nil))))
      (pss_cons (ps_set (i := 4) nd rfl (Or.inl rfl) (pe_op op_mod (pe_callTy call_int1 (by rfl) B.int (by decide +kernel) (pa_cons (pv 3) pa_nil)) (pe_callB call_len_seq (by rfl) B.len PySem.boot_len (pa_cons (pv 2) pa_nil))))
      (pss_cons (ps_set (i := 5) nd rfl (Or.inl rfl) (pe_ix ix_list (pv 2) (pv 4) (fun _ _ => rfl)))
      (pss_cons (ps_asg (pe_op op_add (pv 3) pe_int) (pg_sub (pv 0) pe_int set_list))
      (pss_cons (ps_if (pt_cmpR op_ge (pv 5) (pe_op op_pow pe_int pe_int) (nomark _))
        (pss_cons (ps_asg (pe_op op_fdivW (pv 5) (pv 1)) (pg_sub (pv 2) (pv 4) set_list))
          (pss_one (ps_ret (pe_op op_mod (pe_callTy call_int1 (by rfl) B.int (by decide +kernel) (pa_cons (pv 5) pa_nil)) (pv 1))))) pss_nil)
      (pss_cons (ps_set (i := 6) nd rfl (Or.inl rfl) (pe_op op_mod (pe_callTy call_int1 (by rfl) B.int (by decide +kernel) (pa_cons
          (pe_op op_add (pe_op op_add (pe_op op_mul (pe_op op_mod (pe_callTy call_int1 (by rfl) B.int (by decide +kernel) (pa_cons (pv 5) pa_nil)) pe_int) pe_int) (pe_op op_mul (pe_op op_mul (pv 3) (pv 3)) pe_int)) pe_int) pa_nil)) pe_int))
      (pss_cons (ps_set (i := 6) nd rfl (Or.inl rfl) (pe_op op_mod (pe_callTy call_int1 (by rfl) B.int (by decide +kernel) (pa_cons (pe_op op_mul (pv 6) (pv 6)) pa_nil)) pe_int))
      (pss_cons (ps_set (i := 6) nd rfl (Or.inl rfl) (pe_op op_mod (pe_callTy call_int1 (by rfl) B.int (by decide +kernel) (pa_cons (pe_op op_mul (pv 6) (pv 6)) pa_nil)) pe_int))
      (pss_one (ps_ret (pe_op op_mod (pe_callTy call_int1 (by rfl) B.int (by decide +kernel) (pa_cons (pv 6) pa_nil)) (pv 1))))))))))), ?_⟩
    -- _law_cells, _law_turn = _law_source_here
    walk_at "rd"
    refine ⟨a, _, rfl, SqL.of S.ob, rfl, _, _, rfl, _, _, rfl, rfl, ?_⟩
    -- _law_place
    walk_at "rd"
    have hn0' : (0 : Int) < ((cs.map V.int).length : Nat) := by rw [List.length_map]; omega
    refine ⟨c, _, rfl, .inl (SqL.of hc), _, _, rfl, rfl, hn0', ?_⟩
    have hp0 : 0 ≤ (t : Int) % ((cs.map V.int).length : Nat) := Int.emod_nonneg _ (by omega)
    have hp1 : (t : Int) % ((cs.map V.int).length : Nat) < ((cs.map V.int).length : Nat) := Int.emod_lt_of_pos _ hn0'
    have hp1' : (t : Int) % ((cs.map V.int).length : Nat) < (cs.length : Int) := by rw [List.length_map] at hp1 ⊢; exact hp1
    -- _law_cell
    walk_at "rd"
    refine ⟨c, _, _, _, rfl, rfl, SqL.of hc, atI_in hp0 hp1', ?_⟩
    -- _law_source_here[1] = _law_turn + 1
    walk_at "rd"
    refine ⟨a, _, 1, 1, rfl, rfl, S.ob, rfl, ?_⟩
    have S1 : Src (upd H a (.lst ([V.ref c, V.int t].set 1 (.int ((t : Int) + 1))))) a c (t + 1) := ⟨S.ne, by rw [upd_same]; rfl, cs, by rw [upd_ne S.ne.symm]; exact hc, hn0, hn⟩
    have O1 : Oth a c H (upd H a (.lst ([V.ref c, V.int t].set 1 (.int ((t : Int) + 1))))) := fun b o h na _ => by rw [upd_ne na]; exact h
    have hc1 : upd H a (.lst ([V.ref c, V.int t].set 1 (.int ((t : Int) + 1)))) c = some (.lst (cs.map V.int)) := by rw [upd_ne S.ne.symm]; exact hc
    generalize upd H a (.lst ([V.ref c, V.int t].set 1 (.int ((t : Int) + 1)))) = H1 at S1 O1 hc1 ⊢
    -- if _law_cell >= 10 ** 18
    walk_at "rd"
    refine ⟨⟨by decide, by decide, by decide⟩, ?_⟩
    walk_at "rd"
    refine ite2 (fun _ => ?_) (fun _ => ?_)
    · walk_at "rd"
      refine ⟨fdiv_ok _ hl0 hl9, ?_⟩
      walk_at "rd"
      refine ⟨c, _, _, _, rfl, rfl, hc1, ixN_in hp0 hp1, ?_⟩
      walk_at "rd"
      refine ⟨hl0, ?_⟩
      rw [set_ints]
      refine q _ _ (Int.emod_nonneg _ (by omega)) (Int.emod_lt_of_pos _ hl0) ⟨S1.ne, by rw [upd_ne S1.ne]; exact S1.ob, _, upd_same, by rw [List.length_set]; exact hn0, by rw [List.length_set]; exact hn⟩ fun b o h na nc => ?_
      rw [upd_ne nc]
      exact O1 b o h na nc
    · walk_at "rd"
      refine ⟨(by show (0 : Int) < 2147483629; decide), ?_⟩
      walk_at "rd"
      refine ⟨.inl (b_mod _), ?_⟩
      walk_at "rd"
      refine ⟨.inl (b_t ht), ?_⟩
      walk_at "rd"
      refine ⟨.inl (b_tt ht), ?_⟩
      walk_at "rd"
      refine ⟨(by show (0 : Int) < 2147483647; decide), ?_⟩
      walk_at "rd"
      refine ⟨.inl (b_mod1 _), ?_⟩
      walk_at "rd"
      refine ⟨(by show (0 : Int) < 2147483629; decide), ?_⟩
      walk_at "rd"
      refine ⟨.inl (b_mod _), ?_⟩
      walk_at "rd"
      refine ⟨(by show (0 : Int) < 2147483587; decide), ?_⟩
      walk_at "rd"
      refine ⟨hl0, ?_⟩
      exact q _ _ (Int.emod_nonneg _ (by omega)) (Int.emod_lt_of_pos _ hl0) S1 O1
end
end HT
namespace HT
open PySem L2
/-- a def of the text that may be called by its name, and what it promises -/
structure Cal (P : Program) (w : World) (K : PySem.W.Frag) (mg : Str → Option Value) (base : Heap) (x : Str) (k : Nat) (ps : List Str) (sp : Sp) (f : Addr) (fd : FuncData) : Prop where
  ok : FnOk P w K mg base CX0 k f fd ps sp
  gl : mg x = some (.ref f)
  kp : PySem.W.keepIn K (.ref f) = true
  bd : Binds K fd ps []
theorem pcl {X : Cx} {x : Str} {k j : Nat} {ps : List Str} {sp : Sp} {f : Addr} {fd : FuncData} {e : Expr} {es : List Expr} {t : TA} {p pos : Pos} (C : Cal X.prog X.w X.K X.mg X.base x k ps sp f fd) (hr : Room j X.A) (hj : k ≤ j) (hg : Gl X x) (ha : PA X (e :: es) t)
    (hdb : (x == ("__debug__" : Str)) = false := by decide) (he : starEach (e :: es) X.env = (false, eval e X.env) :: starEach es X.env := by rfl) (hpl : (backTo pos (starEach es X.env)).any (·.1) = false := by rfl) : PE X (.Call (.Name x p) (e :: es) [] pos) (tCall sp [] E0 t) :=
  pe_call C.ok (hr.mono hj) hg C.gl C.kp C.bd .nil pass0 ha hdb he hpl
section
variable {P : Program} {w : World} {K : PySem.W.Frag} {mg : Str → Option Value} {base : Heap}
theorem cut63 {ns : List Int} (h : ns.length ≤ 63) : cutV (ns.map V.int) none (some 63) = ns.map V.int := by
  have e1 : HT.sIx (ns.map V.int).length 0 none = 0 := rfl
  have e2 : HT.sIx (ns.map V.int).length (ns.map V.int).length (some 63) = (ns.map V.int).length := by
    have := HT.sIx_nat (ns.map V.int).length (ns.map V.int).length 63
    rw [show ((63 : Nat) : Int) = 63 from rfl] at this
    rw [this, List.length_map]
    omega
  unfold cutV
  rw [e1, e2, List.drop_zero, Nat.sub_zero, List.take_length]
theorem dpInts (H : Hp) : ∀ ns : List Int, DpAll K H (ns.map V.int) (ns.map PyData.int)
  | [] => .nil
  | n :: r => .cons (.int n) (dpInts H r)
theorem pow_ok : CPowW ((10 : Int) ^ (60 : Int).toNat) 20 := ⟨by decide, by decide +kernel⟩
theorem pow_pos' : (0 : Int) < ((10 : Int) ^ (60 : Int).toNat) ^ (20 : Int).toNat := by decide +kernel
theorem ok_source {f : Addr} {fd : FuncData} (F : Fun K "_law_source" "_law_source" s_L_source f fd) (B : Blt mg) : FnOk P w K mg base CX0 1 f fd ["_law_script"] (spSource K) := by
  refine F.ok sc_L_source (fun vs H Q E h => ?_) (fun cdv A outer s H vs Q E hr h => ?_)
  · obtain ⟨l, ns, rfl, _⟩ := h
    rfl
  · obtain ⟨l, ns, rfl, hL, hn, q⟩ := h
    have nd := sc_L_source.nd
    refine ⟨_, pss_cons (ps_set (i := 1) nd rfl (Or.inl rfl) (pe_slice sl_list (pv 0) po_none (po_some pe_int)))
      (pss_cons (ps_for PassesOwn.never rfl (pi_range1 (by rfl) B.range (pa_cons (pe_callB call_len_seq (by rfl) B.len PySem.boot_len (pa_cons (pv 1) pa_nil)) pa_nil)) (pg_name (i := 2) nd rfl (Or.inl rfl))
        (pss_one (ps_if (pt_cmpR op_ge (pe_callB call_abs (by rfl) B.abs (by decide +kernel) (pa_cons (pe_ix ix_list (pv 1) (pv 2) (fun _ _ => rfl)) pa_nil)) (pe_op op_pow pe_int pe_int) (nomark _))
          (pss_one (ps_asg (pe_op op_mod (pe_callTy call_int1 (by rfl) B.int (by decide +kernel) (pa_cons (pe_ix ix_list (pv 1) (pv 2) (fun _ _ => rfl)) pa_nil)) (pe_op op_powW (pe_op op_pow pe_int pe_int) pe_int)) (pg_sub (pv 1) (pv 2) set_list))) pss_nil)))
      (pss_cons (ps_if (pt_cmpR (op_eqD hr.units) (pv 1) (pe_lst pa_nil) (nomark _)) (pss_one (ps_set (i := 1) nd rfl (Or.inl rfl) (pe_lst (pa_cons pe_int pa_nil)))) pss_nil)
      (pss_one (ps_ret (pe_lst (pa_cons (pv 1) (pa_cons pe_int pa_nil))))))), ?_⟩
    walk_at "rd"
    refine ⟨l, _, rfl, hL, fun p np => ?_⟩
    rw [cut63 hn]
    walk_at "rd"
    refine ⟨p, _, rfl, .inl (SqL.of upd_same), _, rfl, by omega, ?_, ?_⟩
    · show ((ns.map V.int).length : Int) < 2 ^ 62
      rw [List.length_map]
      omega
    have en : ((ns.map V.int).length : Int).toNat = ns.length := by rw [List.length_map]; omega
    rw [en]
    refine for_range (fun i σ H' => ∃ (cs : List Int) (kv : Option V), σ = [some (.ref l), some (.ref p), kv] ∧ H' p = some (.lst (cs.map V.int)) ∧ cs.length = ns.length ∧ Same H H') ⟨ns, none, rfl, upd_same, rfl, fun b o e => by rw [upd_ne (ne_of_none e np)]; exact e⟩ ?_ ?_
    · rintro i σ H' hi ⟨cs, kv, rfl, hp, hl, sm⟩
      have h0 : (0 : Int) ≤ 0 + (i : Int) := by omega
      have h1 : (0 : Int) + (i : Int) < (cs.length : Int) := by omega
      walk_at "rd"
      refine ⟨p, _, _, _, rfl, rfl, SqL.of hp, atI_in h0 h1, ?_⟩
      walk_at "rd"
      refine ⟨⟨by decide, by decide, by decide⟩, ?_⟩
      walk_at "rd"
      refine ite2 (fun _ => ?_) (fun _ => ?_)
      · walk_at "rd"
        refine ⟨p, _, _, _, rfl, rfl, SqL.of hp, atI_in h0 h1, ?_⟩
        walk_at "rd"
        refine ⟨⟨by decide, by decide, by decide⟩, ?_⟩
        walk_at "rd"
        refine ⟨pow_ok, ?_⟩
        walk_at "rd"
        refine ⟨pow_pos', ?_⟩
        walk_at "rd"
        refine ⟨p, _, _, _, rfl, rfl, hp, ixN_in h0 (by rw [List.length_map]; exact h1), ?_⟩
        rw [set_ints]
        exact ⟨_, _, rfl, upd_same, by rw [List.length_set]; exact hl, fun b o e => by rw [upd_ne (ne_of_none e np)]; exact sm b o e⟩
      · exact ⟨cs, _, rfl, hp, hl, sm⟩
    · rintro σ H' ⟨cs, kv, rfl, hp, hl, sm⟩
      walk_at "rd"
      refine ⟨by decide, fun e ne => ?_⟩
      have hpe : upd H' e (.lst []) p = some (.lst (cs.map V.int)) := by rw [upd_ne (ne_of_none hp ne)]; exact hp
      have sm1 : Same H (upd H' e (.lst [])) := fun b o z => by rw [upd_ne (ne_of_none (sm b o z) ne)]; exact sm b o z
      refine ⟨_, _, .lst (SqL.of hpe) (dpInts _ cs), .lst (SqL.of upd_same) .nil, PySem.W.ke_shaped_ints cs, by decide +kernel, ?_⟩
      walk_at "rd"
      have hb : PyData.eqv (.list (cs.map PyData.int)) (.list []) = decide (cs = []) := by
        have z := PySem.W.ked_eqvAll cs []
        rw [← z]
        rfl
      rw [hb]
      refine ite2 (fun _ => ?_) (fun hne => ?_)
      · walk_at "rd"
        refine ⟨by decide, fun c nc => ?_⟩
        walk_at "rd"
        refine ⟨(by show 2 ≤ sizeLine; decide), fun a na => ?_⟩
        have sm2 : Same H (upd (upd H' e (.lst [])) c (.lst [.int 0])) := fun b o z => by rw [upd_ne (ne_of_none (sm1 b o z) nc)]; exact sm1 b o z
        have nac : a ≠ c := (ne_of_none upd_same na).symm
        refine q a c _ (fun b o z => by rw [upd_ne (ne_of_none (sm2 b o z) na)]; exact sm2 b o z) (sm2.free na) (sm1.free nc) ⟨nac, upd_same, [0], by rw [upd_ne nac.symm]; exact upd_same, by decide, by decide⟩
      · walk_at "rd"
        refine ⟨(by show 2 ≤ sizeLine; decide), fun a na => ?_⟩
        have nap : a ≠ p := (ne_of_none hpe na).symm
        refine q a p _ (fun b o z => by rw [upd_ne (ne_of_none (sm1 b o z) na)]; exact sm1 b o z) (sm1.free na) np ⟨nap, upd_same, cs, by rw [upd_ne nap.symm]; exact hpe, ?_, by omega⟩
        have : cs ≠ [] := fun z => hne (decide_eq_true z)
        exact List.length_pos_iff.mpr this
end
end HT
namespace HT
open PySem L2
/-- a def of which errors may come, and its call -/
structure CalX (P : Program) (w : World) (K : PySem.W.Frag) (mg : Str → Option Value) (base : Heap) (x : Str) (k : Nat) (ps : List Str) (sp : Sp) (f : Addr) (fd : FuncData) : Prop where
  ok : FnOk P w K mg base (L2.CX P w) k f fd ps sp
  mgf : mg x = some (.ref f)
  kp : PySem.W.keepIn K (.ref f) = true
  b : Binds K fd ps []
theorem pcx {X : Cx} {x : Str} {k j : Nat} {ps : List Str} {sp : Sp} {f : Addr} {fd : FuncData} {e : Expr} {es : List Expr} {t : TA} {p pos : Pos} {W : WX} (C : CalX X.prog X.w X.K X.mg X.base x k ps sp f fd) (hr : Room j X.A) (hj : k ≤ j) (hg : Gl X x) (tk : L2.Takes X W) (ha : PA X (e :: es) t)
    (hdb : (x == ("__debug__" : Str)) = false := by decide) (he : starEach (e :: es) X.env = (false, eval e X.env) :: starEach es X.env := by rfl) (hpl : (backTo pos (starEach es X.env)).any (·.1) = false := by rfl) : PE X (.Call (.Name x p) (e :: es) [] pos) (tCallS sp (WE W) t) :=
  pe_callS C.ok (hr.mono hj) hg C.mgf C.kp C.b (fun σ => L2.passAt tk σ) ha hdb he hpl
end HT
namespace PySem.W
open PySem PySem.Calls
theorem args_lcm3 (a b c : Value) : argsOk "math.lcm" ⟨[a, b, c], []⟩ := by unfold argsOk; kernel_rfl
theorem run_lcm3 (a : Int) (t : Tok) (b : Int) (u : Tok) (c : Int) (v : Tok) (hc0 : ¬(max 1 a.natAbs).log2 / 30 + 1 > 450) (hc1 : ¬(max a.natAbs b.natAbs).log2 / 30 + 1 > 450)
    (hc2 : ¬(max ((Nat.lcm 1 a.natAbs).lcm b.natAbs) c.natAbs).log2 / 30 + 1 > 450)
    (hsz : (((((Nat.lcm 1 a.natAbs).lcm b.natAbs).lcm c.natAbs : Nat) : Int)).natAbs.log2 < bitsLine) :
    Gives (Builtin.«math.lcm» ⟨[.int a t, .int b u, .int c v], []⟩) (.int (((((Nat.lcm 1 a.natAbs).lcm b.natAbs).lcm c.natAbs : Nat) : Int))) :=
  .of_wp fun M A E s Q h => by obtain ⟨hp, g, d, tk, os⟩ := s; wp_walk; refine wpAny_ite_false (decide_eq_false hc2) ?_; wp_walk; (try (refine wpAny_ite_false (decide_eq_false (Nat.not_le.mpr hsz)) ?_; wp_walk)); exact ⟨_, rfl, h⟩
end PySem.W
namespace L2
open PySem PySem.Spec PyProof.Rows
/-- xs.count(y) of flat things -/
def rCntV (K : PySem.W.Frag) : V → List V → Hp → VK → Prop := fun x xs H Q => ∃ (p : Addr) (ys : List V) (y : V), x = .ref p ∧ xs = [y] ∧ SqL K H p ys ∧ flatV y = true ∧ ys.all flatV = true ∧ Q (.int (ys.countP (fun z => eqV z y) : Nat)) H
theorem count_eqU {x : V} : ∀ {xs : List V} {us : List Value}, Vals xs us → xs.all flatV = true → us.countP (eqU x) = xs.countP fun y => eqV y x
  | _, _, .nil, _ => rfl
  | y :: xs, u :: us, .cons r t, f => by
    obtain ⟨f1, f2⟩ := Bool.and_eq_true_iff.mp (List.all_cons ▸ f)
    rw [List.countP_cons, List.countP_cons, eqU_of r f1, count_eqU t f2]
theorem mt_cntV {X : Cx} : MtR X "list.count" (rCntV X.K) := by
  intro pins sh st H x xs v us Q iv rx rxs h
  obtain ⟨p, ys, y, rfl, rfl, hs, fy, fys, q⟩ := h
  cases rx
  obtain ⟨u, rfl, ru⟩ := rxs.one
  obtain ⟨its, rv, ⟨⟨cls, dd, data, sl⟩, n, ho, hc, hdn, hd⟩, hlen⟩ := iv.list hs
  dsimp only at hc hd
  subst hc hd
  refine call_meets PySem.F.slot_list_count ⟨_, ho, rfl⟩ PySem.F.entry_list_count (PySem.F.args_list_count_2 _ _) (SeqAt.list_countAt p its.toArray n dd sl u (eqU y)) ⟨ho, fun w hw => mem_eqAt ru fy rv fys w (by simpa using hw), ?_⟩
  refine ⟨.int (ys.countP (fun z => eqV z y) : Nat), H, iv.tok _, ⟨sh.toks, ?_⟩, q⟩
  rw [show its.toArray.toList.countP (eqU y) = ys.countP (fun z => eqV z y) from count_eqU rv fys]
end L2
namespace HT
open PySem L2
/-! ### pick, great, side -/
def spPick : Sp := fun vs H Q _ => ∃ (a c : Addr) (t : Nat) (l : Addr) (xs : List V), vs = [.ref a, .ref l] ∧ Src H a c t ∧ t < 2 ^ 30 ∧ H l = some (.lst xs) ∧ l ≠ a ∧ l ≠ c ∧ 0 < xs.length ∧ xs.length < 2 ^ 60 ∧
  ∀ x H', x ∈ xs → Src H' a c (t + 1) → Oth a c H H' → Q x H'
def spGreat : Sp := fun vs H Q _ => ∃ (a c : Addr) (t n : Nat), vs = [.ref a, .int (n : Int)] ∧ Src H a c t ∧ n ≤ 1000 ∧ t + n < 2 ^ 30 ∧
  ∀ k H', 0 ≤ k → k < 10 ^ n → Src H' a c (t + n) → Oth a c H H' → Q (.int k) H'
/-- the modes -/
def Mode (m : Str) : Prop := m = "down" ∨ m = "up" ∨ m = "half_down" ∨ m = "half_up" ∨ m = "half_even"
/-- a side's parts -/
structure SideP (o s : Int) (m : Str) : Prop where
  o0 : -10 ^ 40 ≤ o
  o1 : o ≤ 10 ^ 40
  s0 : 1 ≤ s
  s1 : s ≤ 10 ^ 30
  md : Mode m
def sideV (o s : Int) (m : Str) : HO := .tup [.int o, .int s, .str m]
def spSide : Sp := fun vs H Q _ => ∃ (a c : Addr) (t n : Nat), vs = [.ref a, .int (n : Int)] ∧ Src H a c t ∧ 1 ≤ n ∧ n ≤ 40 ∧ t + 200 < 2 ^ 30 ∧
  ∀ p o s m H' t', H p = none → H' p = some (sideV o s m) → SideP o s m → t' ≤ t + 200 → Src H' a c t' → Oth a c H H' → Q (.ref p) H'
theorem lg_nat {n : Nat} (h : n < 2 ^ 200) : ((n : Int)).natAbs.log2 < 9000 := by
  rw [Int.natAbs_natCast]
  by_cases e : n = 0
  · rw [e]; decide
  · have := (Nat.log2_lt e).mpr h
    omega
theorem lg_small {n : Int} (h0 : 0 ≤ n) (h : n < 2 ^ 64) : n.natAbs.log2 < 9000 := by
  obtain ⟨m, rfl⟩ := Int.eq_ofNat_of_zero_le h0
  exact lg_nat (Nat.lt_of_lt_of_le (by omega : m < 2 ^ 64) (Nat.pow_le_pow_right (by decide) (by decide)))
section
variable {P : Program} {w : World} {K : PySem.W.Frag} {mg : Str → Option Value} {base : Heap} {fD fP fG : Addr} {dD dP dG : FuncData}
theorem ok_pick {f : Addr} {fd : FuncData} (F : Fun K "_law_pick" "_law_pick" s_L_pick f fd) (B : Blt mg) (D : Cal P w K mg base "_law_draw" 1 ["_law_source_here", "_law_limit"] spDraw fD dD) :
    FnOk P w K mg base CX0 2 f fd ["_law_source_here", "_law_values"] spPick := by
  refine F.ok sc_L_pick (fun vs H Q E h => ?_) (fun cdv A outer s H vs Q E hr h => ?_)
  · obtain ⟨a, c, t, l, xs, rfl, _⟩ := h
    rfl
  · obtain ⟨a, c, t, l, xs, rfl, S, ht, hl, na, nc, h0, h1, q⟩ := h
    refine ⟨_, pss_one (ps_ret (pe_ix ix_list (pv 1) (pcl D hr (by decide) (by rfl) (pa_cons (pv 0) (pa_cons (pe_callB call_len_seq (by rfl) B.len PySem.boot_len (pa_cons (pv 1) pa_nil)) pa_nil))) (fun _ _ => rfl))), ?_⟩
    walk_at "rd"
    refine ⟨l, _, rfl, .inl (SqL.of hl), ?_⟩
    have p1 : (0 : Int) < (xs.length : Int) := by omega
    refine ⟨a, c, t, _, rfl, S, ht, p1, lg_nat (Nat.lt_of_lt_of_le h1 (Nat.pow_le_pow_right (by decide) (by decide))), fun k H' k0 k1 S' O => ?_⟩
    have hl' : k.toNat < xs.length := by omega
    have e : atI xs k = some xs[k.toNat] := by
      unfold atI
      rw [ixN_in k0 k1]
      exact List.getElem?_eq_getElem hl'
    refine ⟨l, _, _, _, rfl, rfl, SqL.of (O _ _ hl na nc), e, ?_⟩
    exact q _ _ (List.getElem_mem hl') S' O
theorem ok_great {f : Addr} {fd : FuncData} (F : Fun K "_law_great" "_law_great" s_L_great f fd) (B : Blt mg) (D : Cal P w K mg base "_law_draw" 1 ["_law_source_here", "_law_limit"] spDraw fD dD) :
    FnOk P w K mg base CX0 2 f fd ["_law_source_here", "_law_digits"] spGreat := by
  refine F.ok sc_L_great (fun vs H Q E h => ?_) (fun cdv A outer s H vs Q E hr h => ?_)
  · obtain ⟨a, c, t, n, rfl, _⟩ := h
    rfl
  · obtain ⟨a, c, t, n, rfl, S, hn, ht, q⟩ := h
    have nd := sc_L_great.nd
    refine ⟨_, pss_cons (ps_set (i := 2) nd rfl (Or.inl rfl) pe_int)
      (pss_cons (ps_for PassesOwn.never rfl (pi_range1 (by rfl) B.range (pa_cons (pv 1) pa_nil)) (pg_name (i := 3) nd rfl (Or.inl rfl))
        (pss_one (ps_set (i := 2) nd rfl (Or.inl rfl) (pe_op op_add (pe_op op_mul (pv 2) pe_int) (pcl D hr (by decide) (by rfl) (pa_cons (pv 0) (pa_cons pe_int pa_nil)))))))
      (pss_one (ps_ret (pv 2)))), ?_⟩
    walk_at "rd"
    refine ⟨by omega, by omega, ?_⟩
    rw [Int.toNat_natCast]
    refine for_range (fun i σ H' => ∃ (k : Int) (kv : Option V), σ = [some (.ref a), some (.int (n : Int)), some (.int k), kv] ∧ 0 ≤ k ∧ k < 10 ^ i ∧ Src H' a c (t + i) ∧ Oth a c H H') ⟨0, none, rfl, by decide, by decide, S, Oth.refl _ _ _⟩ ?_ ?_
    · rintro i σ H' hi ⟨k, kv, rfl, k0, k1, S', O⟩
      walk_at "rd"
      refine ⟨.inr ⟨by decide, by decide⟩, ?_⟩
      walk_at "rd"
      refine ⟨a, c, t + i, _, rfl, S', by omega, (by show (0 : Int) < 10; decide), (by show (10 : Int).natAbs.log2 < 9000; decide), fun y H2 y0 y1 S2 O2 => ?_⟩
      walk_at "rd"
      have y1' : y < 10 := y1
      refine ⟨_, _, rfl, (by show 0 ≤ k * 10 + y; omega), (by show k * 10 + y < 10 ^ (i + 1); rw [Int.pow_succ]; omega), S2, O.trans O2⟩
    · rintro σ H' ⟨k, kv, rfl, k0, k1, S', O⟩
      walk_at "rd"
      exact q _ _ k0 k1 S' O
theorem mode_of {x : V} (h : x ∈ [V.str "down", .str "up", .str "half_down", .str "half_up", .str "half_even"]) : ∃ m : Str, x = .str m ∧ Mode m := by
  simp only [List.mem_cons, List.not_mem_nil, or_false] at h
  rcases h with h | h | h | h | h
  · exact ⟨_, h, .inl rfl⟩
  · exact ⟨_, h, .inr (.inl rfl)⟩
  · exact ⟨_, h, .inr (.inr (.inl rfl))⟩
  · exact ⟨_, h, .inr (.inr (.inr (.inl rfl)))⟩
  · exact ⟨_, h, .inr (.inr (.inr (.inr rfl)))⟩
end
end HT
namespace HT
open PySem L2
/-! ### the mathematics of a side -/
def goesUp (m : Str) (s q r : Int) : Bool := if m = "down" then false else if m = "up" then decide (0 < r) else if 2 * r = s then (if m = "half_even" then decide (q % 2 = 1) else decide (m = "half_up")) else decide (s < 2 * r)
/-- the figure to which v comes -/
def figM (o s : Int) (m : Str) (v : Int) : Int := if goesUp m s ((v - o) / s) ((v - o) % s) = true then (v - o) / s + 1 else (v - o) / s
def dueM (o s : Int) (m : Str) (v : Int) : Int := o + s * figM o s m v
theorem d_u : ¬ (("up" : Str) = "down") := by decide +kernel
theorem hd_d : ¬ (("half_down" : Str) = "down") := by decide +kernel
theorem hd_u : ¬ (("half_down" : Str) = "up") := by decide +kernel
theorem hu_d : ¬ (("half_up" : Str) = "down") := by decide +kernel
theorem hu_u : ¬ (("half_up" : Str) = "up") := by decide +kernel
theorem he_d : ¬ (("half_even" : Str) = "down") := by decide +kernel
theorem he_u : ¬ (("half_even" : Str) = "up") := by decide +kernel
theorem hd_e : ¬ (("half_down" : Str) = "half_even") := by decide +kernel
theorem hu_e : ¬ (("half_up" : Str) = "half_even") := by decide +kernel
theorem hd_hu : ¬ (("half_down" : Str) = "half_up") := by decide +kernel
theorem he_hu : ¬ (("half_even" : Str) = "half_up") := by decide +kernel
theorem u_hd : ¬ (("up" : Str) = "half_down") := by decide +kernel
theorem hu_hd : ¬ (("half_up" : Str) = "half_down") := by decide +kernel
theorem he_hd : ¬ (("half_even" : Str) = "half_down") := by decide +kernel
theorem go_down (s q r : Int) : goesUp "down" s q r = false := by unfold goesUp; rw [if_pos rfl]
theorem go_up (s q r : Int) : goesUp "up" s q r = decide (0 < r) := by unfold goesUp; rw [if_neg d_u, if_pos rfl]
theorem go_hd (s q r : Int) : goesUp "half_down" s q r = decide (s < 2 * r) := by
  unfold goesUp
  rw [if_neg hd_d, if_neg hd_u, if_neg hd_e, decide_eq_false hd_hu]
  by_cases h : 2 * r = s
  · rw [if_pos h, decide_eq_false (by omega)]
  · rw [if_neg h]
theorem go_hu (s q r : Int) : goesUp "half_up" s q r = decide (s ≤ 2 * r) := by
  unfold goesUp
  rw [if_neg hu_d, if_neg hu_u, if_neg hu_e, decide_eq_true rfl]
  by_cases h : 2 * r = s
  · rw [if_pos h, decide_eq_true (by omega)]
  · rw [if_neg h]
    by_cases g : s < 2 * r
    · rw [decide_eq_true g, decide_eq_true (by omega)]
    · rw [decide_eq_false g, decide_eq_false (by omega)]
theorem go_he (s q r : Int) : goesUp "half_even" s q r = (decide (s < 2 * r) || (decide (2 * r = s) && decide (q % 2 = 1))) := by
  unfold goesUp
  rw [if_neg he_d, if_neg he_u, if_pos rfl]
  by_cases h : 2 * r = s
  · rw [if_pos h, decide_eq_false (show ¬ s < 2 * r by omega), decide_eq_true h]
    rfl
  · rw [if_neg h, decide_eq_false h]
    simp
/-- what is known of a figure -/
structure Fig (o s : Int) (m : Str) (v q r k : Int) : Prop where
  eq : v - o = s * q + r
  r0 : 0 ≤ r
  r1 : r < s
  wh : (goesUp m s q r = true ∧ k = q + 1) ∨ (goesUp m s q r = false ∧ k = q)
theorem fig_of {o s : Int} {m : Str} {v : Int} (hs : 1 ≤ s) : Fig o s m v ((v - o) / s) ((v - o) % s) (figM o s m v) := by
  refine ⟨?_, Int.emod_nonneg _ (by omega), Int.emod_lt_of_pos _ (by omega), ?_⟩
  · have := Int.mul_ediv_add_emod (v - o) s
    omega
  · unfold figM
    cases h : goesUp m s ((v - o) / s) ((v - o) % s)
    · exact .inr ⟨rfl, by simp⟩
    · exact .inl ⟨rfl, by simp⟩
theorem divmod_eq {s q r x : Int} (hs : 1 ≤ s) (h : x = s * q + r) (r0 : 0 ≤ r) (r1 : r < s) : x / s = q ∧ x % s = r := by
  subst h
  constructor
  · rw [Int.add_comm, Int.add_mul_ediv_left _ _ (by omega), Int.ediv_eq_zero_of_lt r0 r1]
    omega
  · rw [Int.add_comm, Int.add_mul_emod_self_left]
    exact Int.emod_eq_of_lt r0 r1
theorem fig_uniq {o s : Int} {m : Str} {v q r k : Int} (hs : 1 ≤ s) (F : Fig o s m v q r k) : figM o s m v = k := by
  obtain ⟨e1, e2⟩ := divmod_eq hs F.eq F.r0 F.r1
  unfold figM
  rw [e1, e2]
  rcases F.wh with ⟨h, e⟩ | ⟨h, e⟩
  · rw [h, if_pos rfl, e]
  · rw [h, if_neg (by decide), e]
/-- going up wants a rest, and not going up a small one -/
theorem go_pos {m : Str} {s q r : Int} (hm : Mode m) (hs : 1 ≤ s) (r0 : 0 ≤ r) (h : goesUp m s q r = true) : 0 < r := by
  rcases hm with e | e | e | e | e <;> subst e
  · rw [go_down] at h; cases h
  · rw [go_up] at h; exact of_decide_eq_true h
  · rw [go_hd] at h; have := of_decide_eq_true h; omega
  · rw [go_hu] at h; have := of_decide_eq_true h; omega
  · rw [go_he, Bool.or_eq_true, Bool.and_eq_true] at h
    rcases h with h | ⟨h, _⟩ <;> have := of_decide_eq_true h <;> omega
theorem due_near {o s : Int} {m : Str} {v : Int} (hm : Mode m) (hs : 1 ≤ s) : dueM o s m v - v < s ∧ v - dueM o s m v < s := by
  have F := fig_of (o := o) (m := m) (v := v) hs
  unfold dueM
  generalize (v - o) / s = q at F
  generalize (v - o) % s = r at F
  obtain ⟨eq, r0, r1, wh⟩ := F
  rcases wh with ⟨h, e⟩ | ⟨h, e⟩
  · have := go_pos hm hs r0 h
    rw [e, Int.mul_add, Int.mul_one]
    generalize s * q = z at eq ⊢
    omega
  · rw [e]
    generalize s * q = z at eq ⊢
    omega
def half (m : Str) : Prop := m = "half_down" ∨ m = "half_up" ∨ m = "half_even"
theorem due_half {o s : Int} {m : Str} {v : Int} (hm : half m) (hs : 1 ≤ s) : 2 * (dueM o s m v - v) ≤ s ∧ 2 * (v - dueM o s m v) ≤ s := by
  have F := fig_of (o := o) (m := m) (v := v) hs
  unfold dueM
  generalize (v - o) / s = q at F
  generalize (v - o) % s = r at F
  obtain ⟨eq, r0, r1, wh⟩ := F
  have hb : (goesUp m s q r = true → s ≤ 2 * r) ∧ (goesUp m s q r = false → 2 * r ≤ s) := by
    rcases hm with e | e | e <;> subst e
    · rw [go_hd]; exact ⟨fun h => by have := of_decide_eq_true h; omega, fun h => by have := of_decide_eq_false h; omega⟩
    · rw [go_hu]; exact ⟨fun h => by have := of_decide_eq_true h; omega, fun h => by have := of_decide_eq_false h; omega⟩
    · rw [go_he]
      refine ⟨fun h => ?_, fun h => ?_⟩
      · rw [Bool.or_eq_true, Bool.and_eq_true] at h
        rcases h with h | ⟨h, _⟩ <;> have := of_decide_eq_true h <;> omega
      · rw [Bool.or_eq_false_iff] at h
        have := of_decide_eq_false h.1
        omega
  rcases wh with ⟨h, e⟩ | ⟨h, e⟩
  · have := hb.1 h
    rw [e, Int.mul_add, Int.mul_one]
    generalize s * q = z at eq ⊢
    omega
  · have := hb.2 h
    rw [e]
    generalize s * q = z at eq ⊢
    omega
theorem go_zero {m : Str} {s q : Int} (hm : Mode m) (hs : 1 ≤ s) : goesUp m s q 0 = false := by
  cases h : goesUp m s q 0 with
  | false => rfl
  | true => exact absurd (go_pos hm hs (Int.le_refl _) h) (by omega)
/-- what is written stands and is written as it is -/
theorem fig_at {o s k : Int} {m : Str} (hm : Mode m) (hs : 1 ≤ s) : figM o s m (o + s * k) = k :=
  fig_uniq (q := k) (r := 0) hs ⟨by omega, Int.le_refl _, by omega, .inr ⟨go_zero hm hs, rfl⟩⟩
theorem stands_at {o s k : Int} : (o + s * k - o) % s = 0 := by
  rw [show o + s * k - o = s * k by omega]
  exact Int.mul_emod_right s k
theorem due_eq {o s : Int} {m : Str} {v : Int} (hm : Mode m) (hs : 1 ≤ s) : (v - o) % s = 0 ↔ dueM o s m v = v := by
  have F := fig_of (o := o) (m := m) (v := v) hs
  unfold dueM
  generalize (v - o) / s = q at F
  generalize (v - o) % s = r at F ⊢
  obtain ⟨eq, r0, r1, wh⟩ := F
  rcases wh with ⟨h, e⟩ | ⟨h, e⟩
  · have := go_pos hm hs r0 h
    rw [e, Int.mul_add, Int.mul_one]
    generalize s * q = z at eq ⊢
    omega
  · rw [e]
    generalize s * q = z at eq ⊢
    omega
theorem go_mono {m : Str} {s q r : Int} (hm : Mode m) (h : goesUp m s q r = true) : goesUp m s q (r + 1) = true := by
  rcases hm with e | e | e | e | e <;> subst e
  · rw [go_down] at h; cases h
  · rw [go_up] at h ⊢; have := of_decide_eq_true h; exact decide_eq_true (by omega)
  · rw [go_hd] at h ⊢; have := of_decide_eq_true h; exact decide_eq_true (by omega)
  · rw [go_hu] at h ⊢; have := of_decide_eq_true h; exact decide_eq_true (by omega)
  · rw [go_he] at h ⊢
    have : s ≤ 2 * r := by
      rw [Bool.or_eq_true, Bool.and_eq_true] at h
      rcases h with h | ⟨h, _⟩ <;> have := of_decide_eq_true h <;> omega
    rw [decide_eq_true (show s < 2 * (r + 1) by omega)]
    rfl
theorem fig_mono {o s : Int} {m : Str} {v : Int} (hm : Mode m) (hs : 1 ≤ s) : figM o s m v ≤ figM o s m (v + 1) := by
  have F := fig_of (o := o) (m := m) (v := v) hs
  generalize (v - o) / s = q at F
  generalize (v - o) % s = r at F
  obtain ⟨eq, r0, r1, wh⟩ := F
  by_cases hr : r + 1 < s
  · cases g : goesUp m s q (r + 1) with
    | true =>
      rw [fig_uniq (v := v + 1) (q := q) (r := r + 1) (k := q + 1) hs ⟨by omega, by omega, hr, .inl ⟨g, rfl⟩⟩]
      rcases wh with ⟨_, e⟩ | ⟨_, e⟩ <;> omega
    | false =>
      rw [fig_uniq (v := v + 1) (q := q) (r := r + 1) (k := q) hs ⟨by omega, by omega, hr, .inr ⟨g, rfl⟩⟩]
      rcases wh with ⟨h, e⟩ | ⟨_, e⟩
      · rw [go_mono hm h] at g
        cases g
      · omega
  · rw [fig_uniq (v := v + 1) (q := q + 1) (r := 0) (k := q + 1) hs ⟨by rw [Int.mul_add, Int.mul_one]; omega, by omega, by omega, .inr ⟨go_zero hm hs, rfl⟩⟩]
    rcases wh with ⟨_, e⟩ | ⟨_, e⟩ <;> omega
theorem due_mono {o s : Int} {m : Str} {v : Int} (hm : Mode m) (hs : 1 ≤ s) : dueM o s m v ≤ dueM o s m (v + 1) := by
  unfold dueM
  have := Int.mul_le_mul_of_nonneg_left (fig_mono (o := o) (v := v) hm hs) (show 0 ≤ s by omega)
  omega
theorem go_two {m : Str} {s q r : Int} (hm : Mode m) : goesUp m s (q + 2) r = goesUp m s q r := by
  rcases hm with e | e | e | e | e <;> subst e
  · rw [go_down, go_down]
  · rw [go_up, go_up]
  · rw [go_hd, go_hd]
  · rw [go_hu, go_hu]
  · rw [go_he, go_he, show (q + 2) % 2 = q % 2 by omega]
theorem due_two {o s : Int} {m : Str} {v : Int} (hm : Mode m) (hs : 1 ≤ s) : dueM o s m (v + s * 2) = dueM o s m v + s * 2 := by
  have F := fig_of (o := o) (m := m) (v := v) hs
  unfold dueM
  generalize (v - o) / s = q at F
  generalize (v - o) % s = r at F
  obtain ⟨eq, r0, r1, wh⟩ := F
  rw [fig_uniq (v := v + s * 2) (q := q + 2) (r := r) (k := figM o s m v + 2) hs ⟨by rw [Int.mul_add]; omega, r0, r1, ?_⟩, Int.mul_add]
  · omega
  · rw [go_two hm]
    rcases wh with ⟨h, e⟩ | ⟨h, e⟩
    · exact .inl ⟨h, by omega⟩
    · exact .inr ⟨h, by omega⟩
/-! ### bounds -/
def Bd (x : Int) : Prop := -2 ^ 1000 < x ∧ x < 2 ^ 1000
theorem div_bd {x s b : Int} (hs : 1 ≤ s) (h0 : -b < x) (h1 : x < b) : -b < x / s ∧ x / s < b := by
  by_cases hx : 0 ≤ x
  · have a := Int.ediv_nonneg hx (show 0 ≤ s by omega)
    have c := Int.ediv_le_self s hx
    omega
  · have a : x ≤ x / s := by
      rw [Int.le_ediv_iff_mul_le (by omega)]
      have := Int.mul_le_mul_of_nonpos_left (show x ≤ 0 by omega) hs
      omega
    have c : x / s < 0 := Int.ediv_neg_of_neg_of_pos (by omega) (by omega)
    omega
end HT
namespace HT
open PySem L2
/-! ### spans -/
def below (m : Str) (s k : Int) : Int := if m = "down" then 0 else if m = "up" then s - 1 else if m = "half_up" ∨ (m = "half_even" ∧ k % 2 = 0) then s / 2 else (s - 1) / 2
def mir (m : Str) : Str := if m = "down" then "up" else if m = "up" then "down" else if m = "half_down" then "half_up" else if m = "half_up" then "half_down" else "half_even"
def lowM (o s : Int) (m : Str) (k : Int) : Int := o + s * k - below m s k
def highM (o s : Int) (m : Str) (k : Int) : Int := o + s * k + below (mir m) s k
theorem mir_d : mir "down" = "up" := by unfold mir; rw [if_pos rfl]
theorem mir_u : mir "up" = "down" := by unfold mir; rw [if_neg d_u, if_pos rfl]
theorem mir_hd : mir "half_down" = "half_up" := by unfold mir; rw [if_neg hd_d, if_neg hd_u, if_pos rfl]
theorem mir_hu : mir "half_up" = "half_down" := by unfold mir; rw [if_neg hu_d, if_neg hu_u, if_neg hu_hd, if_pos rfl]
theorem mir_he : mir "half_even" = "half_even" := by unfold mir; rw [if_neg he_d, if_neg he_u, if_neg he_hd, if_neg he_hu]
theorem be_d (s k : Int) : below "down" s k = 0 := by unfold below; rw [if_pos rfl]
theorem be_u (s k : Int) : below "up" s k = s - 1 := by unfold below; rw [if_neg d_u, if_pos rfl]
theorem be_hd (s k : Int) : below "half_down" s k = (s - 1) / 2 := by
  unfold below
  rw [if_neg hd_d, if_neg hd_u, if_neg]
  rintro (z | ⟨z, _⟩)
  · exact hd_hu z
  · exact hd_e z
theorem be_hu (s k : Int) : below "half_up" s k = s / 2 := by unfold below; rw [if_neg hu_d, if_neg hu_u, if_pos (.inl rfl)]
theorem be_he (s k : Int) : below "half_even" s k = if k % 2 = 0 then s / 2 else (s - 1) / 2 := by
  unfold below
  rw [if_neg he_d, if_neg he_u]
  by_cases h : k % 2 = 0
  · rw [if_pos (.inr ⟨rfl, h⟩), if_pos h]
  · rw [if_neg h, if_neg]
    rintro (z | ⟨_, z⟩)
    · exact he_hu z
    · exact h z
theorem mir_mode {m : Str} (h : Mode m) : Mode (mir m) := by
  rcases h with e | e | e | e | e <;> subst e
  · rw [mir_d]; exact .inr (.inl rfl)
  · rw [mir_u]; exact .inl rfl
  · rw [mir_hd]; exact .inr (.inr (.inr (.inl rfl)))
  · rw [mir_hu]; exact .inr (.inr (.inl rfl))
  · rw [mir_he]; exact .inr (.inr (.inr (.inr rfl)))
theorem below_bd {m : Str} {s k : Int} (h : Mode m) (hs : 1 ≤ s) : 0 ≤ below m s k ∧ below m s k < s := by
  rcases h with e | e | e | e | e <;> subst e
  · rw [be_d]; omega
  · rw [be_u]; omega
  · rw [be_hd]; omega
  · rw [be_hu]; omega
  · rw [be_he]; split <;> omega
theorem up_iff {m : Str} {s q r : Int} (h : Mode m) (r0 : 0 ≤ r) (r1 : r < s) : goesUp m s q r = true ↔ below (mir m) s q < r := by
  rcases h with e | e | e | e | e <;> subst e
  · rw [go_down, mir_d, be_u]
    exact ⟨fun z => (Bool.false_ne_true z).elim, fun z => absurd z (by omega)⟩
  · rw [go_up, mir_u, be_d, decide_eq_true_eq]
  · rw [go_hd, mir_hd, be_hu, decide_eq_true_eq]; omega
  · rw [go_hu, mir_hu, be_hd, decide_eq_true_eq]; omega
  · rw [go_he, mir_he, be_he, Bool.or_eq_true, Bool.and_eq_true, decide_eq_true_eq, decide_eq_true_eq, decide_eq_true_eq]
    split <;> omega
theorem touch {m : Str} {s : Int} (q : Int) (h : Mode m) (hs : 1 ≤ s) : below m s (q + 1) + below (mir m) s q = s - 1 := by
  rcases h with e | e | e | e | e <;> subst e
  · rw [be_d, mir_d, be_u]; omega
  · rw [be_u, mir_u, be_d]; omega
  · rw [be_hd, mir_hd, be_hu]; omega
  · rw [be_hu, mir_hu, be_hd]; omega
  · rw [be_he, mir_he, be_he]; split <;> split <;> omega
theorem mul_lt_step {s q k : Int} (hs : 1 ≤ s) (h : q < k) : s * q + s ≤ s * k := by
  have := Int.mul_le_mul_of_nonneg_left (show q + 1 ≤ k by omega) (show 0 ≤ s by omega)
  rw [Int.mul_add, Int.mul_one] at this
  exact this
/-- a value comes to k just between the ends -/
theorem fig_iff {o s : Int} {m : Str} {v k : Int} (h : Mode m) (hs : 1 ≤ s) : figM o s m v = k ↔ lowM o s m k ≤ v ∧ v ≤ highM o s m k := by
  have F := fig_of (o := o) (m := m) (v := v) hs
  generalize (v - o) / s = q at F
  generalize (v - o) % s = r at F
  generalize figM o s m v = f at F ⊢
  obtain ⟨eq, r0, r1, wh⟩ := F
  have ui := up_iff (q := q) h r0 r1
  have t1 := touch (k - 1) h hs
  rw [show k - 1 + 1 = k by omega] at t1
  have bk := below_bd (k := k) (mir_mode h) hs
  have bk1 := below_bd (k := k - 1) (mir_mode h) hs
  have bq := below_bd (k := q) (mir_mode h) hs
  unfold lowM highM
  have hf : (f = q + 1 ∧ below (mir m) s q < r) ∨ (f = q ∧ r ≤ below (mir m) s q) := by
    rcases wh with ⟨g, e⟩ | ⟨g, e⟩
    · exact .inl ⟨e, ui.mp g⟩
    · refine .inr ⟨e, ?_⟩
      have : ¬ below (mir m) s q < r := fun z => by rw [ui.mpr z] at g; cases g
      omega
  rcases Int.lt_trichotomy q k with hq | hq | hq
  · rcases Int.lt_trichotomy (q + 1) k with hq1 | hq1 | hq1
    · have := mul_lt_step hs (show q + 1 < k from hq1)
      rw [Int.mul_add, Int.mul_one] at this
      generalize s * q = a at *
      generalize s * k = b at *
      constructor
      · intro z; omega
      · intro z; omega
    · have e : q = k - 1 := by omega
      subst e
      have : s * (k - 1) = s * k - s := by rw [Int.mul_sub, Int.mul_one]
      generalize s * (k - 1) = a at *
      generalize s * k = b at *
      constructor
      · intro z; omega
      · intro z; omega
    · omega
  · subst hq
    generalize s * q = a at *
    constructor
    · intro z; omega
    · intro z; omega
  · have := mul_lt_step hs hq
    generalize s * q = a at *
    generalize s * k = b at *
    constructor
    · intro z; omega
    · intro z; omega
theorem low_high {o s : Int} {m : Str} {k : Int} (h : Mode m) (hs : 1 ≤ s) : lowM o s m k ≤ o + s * k ∧ o + s * k ≤ highM o s m k := by
  have a := below_bd (k := k) h hs
  have b := below_bd (k := k) (mir_mode h) hs
  unfold lowM highM
  omega
theorem low_next {o s : Int} {m : Str} (k : Int) (h : Mode m) (hs : 1 ≤ s) : lowM o s m (k + 1) = highM o s m k + 1 := by
  have := touch k h hs
  unfold lowM highM
  rw [Int.mul_add, Int.mul_one]
  omega
theorem high_prev {o s : Int} {m : Str} (k : Int) (h : Mode m) (hs : 1 ≤ s) : highM o s m (k - 1) = lowM o s m k - 1 := by
  have := low_next (o := o) (k - 1) h hs
  rw [show k - 1 + 1 = k by omega] at this
  omega
theorem fig_low {o s : Int} {m : Str} (k : Int) (h : Mode m) (hs : 1 ≤ s) : figM o s m (lowM o s m k) = k := by
  have a := low_high (o := o) (k := k) h hs
  exact (fig_iff h hs).mpr ⟨by omega, by omega⟩
theorem fig_high {o s : Int} {m : Str} (k : Int) (h : Mode m) (hs : 1 ≤ s) : figM o s m (highM o s m k) = k := by
  have a := low_high (o := o) (k := k) h hs
  exact (fig_iff h hs).mpr ⟨by omega, by omega⟩
theorem fig_low1 {o s : Int} {m : Str} (k : Int) (h : Mode m) (hs : 1 ≤ s) : figM o s m (lowM o s m k - 1) = k - 1 := by
  rw [← high_prev k h hs]
  exact fig_high _ h hs
theorem fig_high1 {o s : Int} {m : Str} (k : Int) (h : Mode m) (hs : 1 ≤ s) : figM o s m (highM o s m k + 1) = k + 1 := by
  rw [← low_next k h hs]
  exact fig_low _ h hs
/-- the figure of the least standing value that is not less -/
def ceilM (o s v : Int) : Int := -((o - v) / s)
theorem ceil_eq {o s v : Int} (hs : 1 ≤ s) : v ≤ o + s * ceilM o s v ∧ o + s * (ceilM o s v - 1) < v := by
  have a := Int.mul_ediv_add_emod (o - v) s
  have b := Int.emod_nonneg (o - v) (show s ≠ 0 by omega)
  have c := Int.emod_lt_of_pos (o - v) (show 0 < s by omega)
  unfold ceilM
  rw [Int.mul_sub, Int.mul_one, Int.mul_neg]
  omega
def backM (o s : Int) (m : Str) (v : Int) : Int := lowM o s m (ceilM o s v)
theorem back_ge {o s : Int} {m : Str} {v : Int} (h : Mode m) (hs : 1 ≤ s) : v ≤ dueM o s m (backM o s m v) := by
  unfold dueM backM
  rw [fig_low _ h hs]
  exact (ceil_eq hs).1
theorem back_lt {o s : Int} {m : Str} {v : Int} (h : Mode m) (hs : 1 ≤ s) : dueM o s m (backM o s m v - 1) < v := by
  unfold dueM backM
  rw [fig_low1 _ h hs]
  exact (ceil_eq hs).2
theorem mul_b {s k : Int} (s0 : 1 ≤ s) (s1 : s ≤ 10 ^ 30) (h : -2 ^ 720 < k ∧ k < 2 ^ 720) : -2 ^ 820 < s * k ∧ s * k < 2 ^ 820 := by
  have h1 : (s * k).natAbs < 2 ^ (100 + 720) := wide_lt (a := 100) (b := 720) (by omega) (by omega)
  omega
end HT
namespace HT
open PySem L2
theorem lg_big {n : Int} (h0 : 0 ≤ n) (h : n < 2 ^ 200) : n.natAbs.log2 < 9000 := by
  obtain ⟨m, rfl⟩ := Int.eq_ofNat_of_zero_le h0
  exact lg_nat (by omega)
def modesV : List V := [.str "down", .str "up", .str "half_down", .str "half_up", .str "half_even"]
/-- the further names that the text of sides does not bind, and its table of modes -/
structure SideT (K : PySem.W.Frag) (mg : Str → Option Value) (aM : Addr) : Prop where
  isi : mg "isinstance" = none
  int : mg "int" = none
  bool : mg "bool" = none
  tuple : mg "tuple" = none
  len : mg "len" = none
  dm : mg "divmod" = none
  gM : mg "MODES" = some (.ref aM)
  tM : ∀ H, SqT K H aM modesV
def spIsInt : Sp := fun vs H Q _ => ∃ i : Int, vs = [.int i] ∧ Q (.bl true) H
def spBetween : Sp := fun vs H Q _ => ∃ i a b : Int, vs = [.int i, .int a, .int b] ∧ Q (.bl (decide (a ≤ i) && decide (i ≤ b))) H
def spCheckValue : Sp := fun vs H Q _ => ∃ i : Int, vs = [.int i] ∧ Q .non H
def spCheckSide : Sp := fun vs H Q _ => ∃ (p : Addr) (o s : Int) (m : Str), vs = [.ref p] ∧ H p = some (sideV o s m) ∧ SideP o s m ∧ Q .non H
def spGo : Sp := fun vs H Q _ => ∃ (m : Str) (s q r : Int), vs = [.str m, .int s, .int q, .int r] ∧ Q (.bl (goesUp m s q r)) H
def spSV (f : Int → Int → Str → Int → V) : Sp := fun vs H Q _ => ∃ (p : Addr) (o s : Int) (m : Str) (v : Int), vs = [.ref p, .int v] ∧ H p = some (sideV o s m) ∧ SideP o s m ∧ Bd v ∧ ∀ H', Same H H' → Q (f o s m v) H'
def spFig : Sp := spSV fun o s m v => .int (figM o s m v)
def spDue : Sp := spSV fun o s m v => .int (dueM o s m v)
def spStands : Sp := spSV fun o s m v => .bl (decide ((v - o) % s = 0))
theorem dec_int (a b : Int) : decide (V.int a = V.int b) = decide (a = b) := by
  by_cases h : a = b
  · rw [decide_eq_true h, h, decide_eq_true rfl]
  · rw [decide_eq_false h, decide_eq_false (fun z => h (V.int.inj z))]
theorem dec_str (a b : Str) : decide (V.str a = V.str b) = decide (a = b) := by
  by_cases h : a = b
  · rw [decide_eq_true h, h, decide_eq_true rfl]
  · rw [decide_eq_false h, decide_eq_false (fun z => h (V.str.inj z))]
theorem dec_bl (a b : Bool) : decide (V.bl a = V.bl b) = decide (a = b) := by
  by_cases h : a = b
  · rw [decide_eq_true h, h, decide_eq_true rfl]
  · rw [decide_eq_false h, decide_eq_false (fun z => h (V.bl.inj z))]
theorem str_t {a b : Str} (h : decide (V.str a = V.str b) = true) : a = b := V.str.inj (of_decide_eq_true h)
theorem str_f {a b : Str} (h : ¬ decide (V.str a = V.str b) = true) : ¬ a = b := fun z => h (decide_eq_true (congrArg V.str z))
theorem int_t {a b : Int} (h : decide (V.int a = V.int b) = true) : a = b := V.int.inj (of_decide_eq_true h)
theorem int_f {a b : Int} (h : ¬ decide (V.int a = V.int b) = true) : ¬ a = b := fun z => h (decide_eq_true (congrArg V.int z))
theorem not_t {b : Bool} (h : (!b) = true) : ¬ b = true := by cases b <;> simp_all
theorem not_f {b : Bool} (h : ¬ (!b) = true) : b = true := by cases b <;> simp_all
theorem mode_in {m : Str} (h : Mode m) : inV (.str m) modesV = true := by
  rcases h with e | e | e | e | e <;> subst e <;> decide +kernel
theorem divp {o v s : Int} (hs : 1 ≤ s) (ho : -10 ^ 40 ≤ o ∧ o ≤ 10 ^ 40) (hv : Bd v) : CDivP (v - o) s := by
  refine divp_ok (by omega) ?_
  have h : (v - o).natAbs < 2 ^ 1010 := by
    have h1 := hv.1
    have h2 := hv.2
    omega
  have h2 : Builtin.Int.intBits (v - o) ≤ 1011 := by
    unfold Builtin.Int.intBits
    split
    · omega
    · have := PySem.Flt.log2_lt_of (by decide) h
      omega
  omega
theorem mulW {i j : Int} (hi : -2 ^ 1010 < i ∧ i < 2 ^ 1010) (hj : -2 ^ 1010 < j ∧ j < 2 ^ 1010) : CMulW i j := wide_mul (a := 1010) (b := 1010) (by omega) (by omega) (by decide) (by decide) (by decide)
theorem fig_bd {o s : Int} {m : Str} {v : Int} (S : SideP o s m) (hv : Bd v) : -2 ^ 1001 < figM o s m v ∧ figM o s m v < 2 ^ 1001 := by
  obtain ⟨h1, h2⟩ := hv
  obtain ⟨o0, o1, s0, s1, _⟩ := S
  have := div_bd (x := v - o) (b := 2 ^ 1000 + 10 ^ 40) s0 (by omega) (by omega)
  unfold figM
  split <;> omega
section
variable {P : Program} {w : World} {K : PySem.W.Frag} {mg : Str → Option Value} {base : Heap} {aM fI fB fV fC fG fF : Addr} {dI dB dV dC dG dF : FuncData}
theorem ok_is_int {f : Addr} {fd : FuncData} (F : Fun K "is_int" "is_int" s_is_int f fd) (T : SideT K mg aM) : FnOk P w K mg base CX0 1 f fd ["thing"] spIsInt := by
  refine F.ok sc_is_int (fun vs H Q E h => ?_) (fun cdv A outer s H vs Q E hr h => ?_)
  · obtain ⟨i, rfl, _⟩ := h
    rfl
  · obtain ⟨i, rfl, q⟩ := h
    refine ⟨_, pss_one (ps_ret (pe_and (pe_callB call_isi (by rfl) T.isi (by decide +kernel) (pa_cons (pv 0) (pa_cons (pe_bltn (v := .ty "int") (by rfl) T.int (by decide +kernel) rfl) pa_nil)))
      (pe_one (pe_not (pe_callB call_isi (by rfl) T.isi (by decide +kernel) (pa_cons (pv 0) (pa_cons (pe_bltn (v := .ty "bool") (by rfl) T.bool (by decide +kernel) rfl) pa_nil))))))), ?_⟩
    walk_at "rd"
    refine ⟨_, _, _, _, _, rfl, .ty "int", .base (.int _), kit_ty (r := true) (by decide +kernel), ?_⟩
    walk_at "rd"
    refine ⟨_, _, _, _, _, rfl, .ty "bool", .base (.int _), kit_ty (r := false) (by decide +kernel), ?_⟩
    walk_at "rd"
    exact q
theorem ok_between {f : Addr} {fd : FuncData} (F : Fun K "is_int_between" "is_int_between" s_is_int_between f fd) (I : Cal P w K mg base "is_int" 1 ["thing"] spIsInt fI dI) : FnOk P w K mg base CX0 2 f fd ["thing", "least", "most"] spBetween := by
  refine F.ok sc_is_int_between (fun vs H Q E h => ?_) (fun cdv A outer s H vs Q E hr h => ?_)
  · obtain ⟨i, a, b, rfl, _⟩ := h
    rfl
  · obtain ⟨i, a, b, rfl, q⟩ := h
    refine ⟨_, pss_one (ps_ret (pe_and (pcl I hr (by decide) (by rfl) (pa_cons (pv 0) pa_nil)) (pe_one (pe_chain op_le op_le (pv 1) (pv 0) (pv 2))))), ?_⟩
    walk_at "rd"
    refine ite2 (fun h => ?_) (fun h => ?_)
    · walk_at "rd"
      rw [decide_eq_true (of_decide_eq_true h)] at q
      exact q
    · rw [decide_eq_false (of_decide_eq_false (by simpa using h))] at q
      exact q
theorem ok_check_value {f : Addr} {fd : FuncData} (F : Fun K "check_value" "check_value" s_check_value f fd) (I : Cal P w K mg base "is_int" 1 ["thing"] spIsInt fI dI) : FnOk P w K mg base CX0 2 f fd ["value"] spCheckValue := by
  refine F.ok sc_check_value (fun vs H Q E h => ?_) (fun cdv A outer s H vs Q E hr h => ?_)
  · obtain ⟨i, rfl, _⟩ := h
    rfl
  · obtain ⟨i, rfl, q⟩ := h
    refine ⟨_, pss_one (ps_if (pt_not (pt_val (pcl I hr (by decide) (by rfl) (pa_cons (pv 0) pa_nil)))) (pss_one ps_never) pss_nil), ?_⟩
    walk_at "rd"
    exact q
theorem ok_check_side {f : Addr} {fd : FuncData} (F : Fun K "check_side" "check_side" s_check_side f fd) (T : SideT K mg aM) (B : Cal P w K mg base "is_int_between" 2 ["thing", "least", "most"] spBetween fB dB) : FnOk P w K mg base CX0 3 f fd ["side"] spCheckSide := by
  refine F.ok sc_check_side (fun vs H Q E h => ?_) (fun cdv A outer s H vs Q E hr h => ?_)
  · obtain ⟨p, o, s, m, rfl, _⟩ := h
    rfl
  · obtain ⟨p, o, s, m, rfl, hp, S, q⟩ := h
    have nd := sc_check_side.nd
    refine ⟨_, pss_cons (ps_if (PW.pt (pw_or (pt_not (pt_val (pe_callB call_isi (by rfl) T.isi (by decide +kernel) (pa_cons (pv 0) (pa_cons (pe_bltn (v := .ty "tuple") (by rfl) T.tuple (by decide +kernel) rfl) pa_nil)))))
        (pw_or1 (pt_cmpR op_ne (pe_callB call_len_seq (by rfl) T.len PySem.boot_len (pa_cons (pv 0) pa_nil)) pe_int (nomark _))))) (pss_one ps_never) pss_nil)
      (pss_cons (ps_asg (pv 0) (pg_tup (by rfl) (pgs_cons (pg_name (i := 1) nd rfl (Or.inl rfl)) (pgs_cons (pg_name (i := 2) nd rfl (Or.inl rfl)) (pgs_cons (pg_name (i := 3) nd rfl (Or.inl rfl)) pgs_nil)))))
      (pss_cons (ps_if (pt_not (pt_val (pcl B hr (by decide) (by rfl) (pa_cons (pv 1) (pa_cons (pe_un un_neg (pe_op op_pow pe_int pe_int)) (pa_cons (pe_op op_pow pe_int pe_int) pa_nil)))))) (pss_one ps_never) pss_nil)
      (pss_cons (ps_if (pt_not (pt_val (pcl B hr (by decide) (by rfl) (pa_cons (pv 2) (pa_cons pe_int (pa_cons (pe_op op_pow pe_int pe_int) pa_nil)))))) (pss_one ps_never) pss_nil)
      (pss_one (ps_if (pt_cmpR op_notIn_seq (pv 3) (pe_glob (v := .ref aM) (by rfl) T.gM rfl) (by rfl)) (pss_one ps_never) pss_nil))))), ?_⟩
    walk_at "rd"
    refine ⟨_, _, _, _, _, rfl, .ty "tuple", .base (.tup hp), kit_ty (r := true) (by decide +kernel), ?_⟩
    walk_at "rd"
    refine ⟨p, _, rfl, .inr (SqT.of hp), rfl, ?_⟩
    walk_at "rd"
    refine ⟨p, _, rfl, SqT.of hp, rfl, _, _, rfl, _, _, rfl, _, _, rfl, rfl, ?_⟩
    walk_at "rd"
    refine ⟨⟨by decide, by decide, by decide⟩, ?_⟩
    walk_at "rd"
    refine ⟨⟨by decide, by decide, by decide⟩, _, _, _, rfl, ?_⟩
    have e1 : (decide (-(10 : Int) ^ (40 : Int).toNat ≤ o) && decide (o ≤ (10 : Int) ^ (40 : Int).toNat)) = true := by
      rw [decide_eq_true (show -(10 : Int) ^ (40 : Int).toNat ≤ o from S.o0), decide_eq_true (show o ≤ (10 : Int) ^ (40 : Int).toNat from S.o1)]
      rfl
    refine ⟨_, rfl, ?_⟩
    refine ite2 (fun h => (not_t h e1).elim) (fun _ => ?_)
    walk_at "rd"
    refine ⟨⟨by decide, by decide, by decide⟩, _, _, _, rfl, ?_⟩
    have e2 : (decide ((1 : Int) ≤ s) && decide (s ≤ (10 : Int) ^ (30 : Int).toNat)) = true := by
      rw [decide_eq_true S.s0, decide_eq_true (show s ≤ (10 : Int) ^ (30 : Int).toNat from S.s1)]
      rfl
    refine ⟨_, rfl, ?_⟩
    refine ite2 (fun h => (not_t h e2).elim) (fun _ => ?_)
    walk_at "rd"
    refine ⟨aM, _, rfl, .inr (T.tM H), rfl, by decide, ?_⟩
    walk_at "rd"
    refine ite2 (fun h => (not_t h (mode_in S.md)).elim) (fun _ => ?_)
    exact q
end
end HT
namespace HT
open PySem L2
section
variable {P : Program} {w : World} {K : PySem.W.Frag} {mg : Str → Option Value} {base : Heap} {aM fI fB fV fC fG fF : Addr} {dI dB dV dC dG dF : FuncData}
theorem ok_goes_up {f : Addr} {fd : FuncData} (F : Fun K "_goes_up" "_goes_up" s_goes_up f fd) : FnOk P w K mg base CX0 1 f fd ["mode", "step", "figure", "rest"] spGo := by
  refine F.ok sc_goes_up (fun vs H Q E h => ?_) (fun cdv A outer s H vs Q E hr h => ?_)
  · obtain ⟨m, s, q, r, rfl, _⟩ := h
    rfl
  · obtain ⟨m, s, fg, r, rfl, q⟩ := h
    refine ⟨_, pss_cons (ps_if (pt_cmpR op_eq (pv 0) pe_str (nomark _)) (pss_one (ps_ret pe_bl)) pss_nil)
      (pss_cons (ps_if (pt_cmpR op_eq (pv 0) pe_str (nomark _)) (pss_one (ps_ret (pe_cmpR op_gt (pv 3) pe_int (nomark _)))) pss_nil)
      (pss_cons (ps_if (pt_cmpR op_ne (pe_op op_mul pe_int (pv 3)) (pv 1) (nomark _)) (pss_one (ps_ret (pe_cmpR op_gt (pe_op op_mul pe_int (pv 3)) (pv 1) (nomark _)))) pss_nil)
      (pss_cons (ps_if (pt_cmpR op_eq (pv 0) pe_str (nomark _)) (pss_one (ps_ret (pe_cmpR op_eq (pe_op op_mod (pv 2) pe_int) pe_int (nomark _)))) pss_nil)
      (pss_one (ps_ret (pe_cmpR op_eq (pv 0) pe_str (nomark _))))))), ?_⟩
    unfold goesUp at q
    walk_at "rd"
    refine ⟨rfl, ?_⟩
    walk_at "rd"
    refine ite2 (fun h => ?_) (fun h1 => ?_)
    · rw [if_pos (str_t h)] at q
      exact q
    rw [if_neg (str_f h1)] at q
    walk_at "rd"
    refine ⟨rfl, ?_⟩
    walk_at "rd"
    refine ite2 (fun h => ?_) (fun h2 => ?_)
    · rw [if_pos (str_t h)] at q
      walk_at "rd"
      exact q
    rw [if_neg (str_f h2)] at q
    walk_at "rd"
    refine ⟨.inl ⟨by decide, by decide⟩, ?_⟩
    walk_at "rd"
    refine ⟨rfl, ?_⟩
    walk_at "rd"
    refine ite2 (fun h => ?_) (fun h3 => ?_)
    · rw [if_neg (int_f (not_t h))] at q
      walk_at "rd"
      refine ⟨.inl ⟨by decide, by decide⟩, ?_⟩
      walk_at "rd"
      exact q
    rw [if_pos (int_t (not_f h3))] at q
    walk_at "rd"
    refine ⟨rfl, ?_⟩
    walk_at "rd"
    refine ite2 (fun h => ?_) (fun h4 => ?_)
    · rw [if_pos (str_t h), ← dec_int] at q
      walk_at "rd"
      refine ⟨(by show (0 : Int) < 2; decide), ?_⟩
      walk_at "rd"
      exact ⟨rfl, q⟩
    · rw [if_neg (str_f h4), ← dec_str] at q
      walk_at "rd"
      exact ⟨rfl, q⟩
theorem ok_figure {f : Addr} {fd : FuncData} (F : Fun K "_figure" "_figure" s_figure f fd) (T : SideT K mg aM)
    (G : Cal P w K mg base "_goes_up" 1 ["mode", "step", "figure", "rest"] spGo fG dG) : FnOk P w K mg base CX0 2 f fd ["side", "value"] spFig := by
  refine F.ok sc_figure (fun vs H Q E h => ?_) (fun cdv A outer s H vs Q E hr h => ?_)
  · obtain ⟨p, o, s, m, v, rfl, _⟩ := h
    rfl
  · obtain ⟨p, o, s, m, v, rfl, hp, S, hv, q⟩ := h
    have nd := sc_figure.nd
    refine ⟨_, pss_cons (ps_asg (pv 0) (pg_tup (by rfl) (pgs_cons (pg_name (i := 2) nd rfl (Or.inl rfl)) (pgs_cons (pg_name (i := 3) nd rfl (Or.inl rfl)) (pgs_cons (pg_name (i := 4) nd rfl (Or.inl rfl)) pgs_nil)))))
      (pss_cons (ps_asg (pe_callB call_divmodW (by rfl) T.dm (by decide +kernel) (pa_cons (pe_op op_sub (pv 1) (pv 2)) (pa_cons (pv 3) pa_nil))) (pg_tup (by rfl) (pgs_cons (pg_name (i := 5) nd rfl (Or.inl rfl)) (pgs_cons (pg_name (i := 6) nd rfl (Or.inl rfl)) pgs_nil))))
      (pss_cons (ps_if (pt_val (pcl G hr (by decide) (by rfl) (pa_cons (pv 4) (pa_cons (pv 3) (pa_cons (pv 5) (pa_cons (pv 6) pa_nil)))))) (pss_one (ps_ret (pe_op op_add (pv 5) pe_int))) pss_nil)
      (pss_one (ps_ret (pv 5))))), ?_⟩
    walk_at "rd"
    refine ⟨p, _, rfl, SqT.of hp, rfl, _, _, rfl, _, _, rfl, _, _, rfl, rfl, ?_⟩
    walk_at "rd"
    refine ⟨_, _, rfl, divp S.s0 ⟨S.o0, S.o1⟩ hv, fun d nd' => ?_⟩
    refine ⟨d, _, rfl, SqT.of upd_same, rfl, _, _, rfl, _, _, rfl, rfl, ?_⟩
    have sm : Same H (upd H d (.tup [.int ((v - o) / s), .int ((v - o) % s)])) := fun b u z => by rw [upd_ne (ne_of_none z nd')]; exact z
    have q' : Q (.int (figM o s m v)) (upd H d (.tup [.int ((v - o) / s), .int ((v - o) % s)])) := q _ sm
    unfold figM at q'
    walk_at "rd"
    refine ⟨_, _, _, _, rfl, ?_⟩
    walk_at "rd"
    refine ite2 (fun h => ?_) (fun h => ?_)
    · rw [if_pos h] at q'
      walk_at "rd"
      exact q'
    · rw [if_neg h] at q'
      walk_at "rd"
      exact q'
end
end HT
namespace HT
open PySem L2
section
variable {P : Program} {w : World} {K : PySem.W.Frag} {mg : Str → Option Value} {base : Heap} {fF : Addr} {dF : FuncData}
theorem ok_written {f : Addr} {fd : FuncData} (F : Fun K "written" "written" s_written f fd) (G : Cal P w K mg base "_figure" 2 ["side", "value"] spFig fF dF) : FnOk P w K mg base CX0 3 f fd ["side", "value"] spDue := by
  refine F.ok sc_written (fun vs H Q E h => ?_) (fun cdv A outer s H vs Q E hr h => ?_)
  · obtain ⟨p, o, s, m, v, rfl, _⟩ := h
    rfl
  · obtain ⟨p, o, s, m, v, rfl, hp, S, hv, q⟩ := h
    have nd := sc_written.nd
    refine ⟨_, pss_cons (ps_asg (pv 0) (pg_tup (by rfl) (pgs_cons (pg_name (i := 2) nd rfl (Or.inl rfl)) (pgs_cons (pg_name (i := 3) nd rfl (Or.inl rfl)) (pgs_cons (pg_name (i := 4) nd rfl (Or.inl rfl)) pgs_nil)))))
      (pss_one (ps_ret (pe_op op_add (pv 2) (pe_op op_mulW (pv 3) (pcl G hr (by decide) (by rfl) (pa_cons (pv 0) (pa_cons (pv 1) pa_nil))))))), ?_⟩
    walk_at "rd"
    refine ⟨p, _, rfl, SqT.of hp, rfl, _, _, rfl, _, _, rfl, _, _, rfl, rfl, ?_⟩
    walk_at "rd"
    refine ⟨p, o, s, m, v, rfl, hp, S, hv, fun H' sm => ?_⟩
    walk_at "rd"
    have b1 := fig_bd S hv
    have b2 := S.s0
    have b3 := S.s1
    refine ⟨mulW (by omega) (by omega), ?_⟩
    walk_at "rd"
    exact q H' sm
end
end HT
namespace HT
open PySem L2
structure MirT (K : PySem.W.Frag) (w : World) (mg : Str → Option Value) (aR : Addr) : Prop where
  gR : mg "MIRRORED" = some (.ref aR)
  dR : ∀ m, Mode m → KDct K w aR m (.str (mir m))
def BdK (x : Int) : Prop := -2 ^ 720 < x ∧ x < 2 ^ 720
def spBelow : Sp := fun vs H Q _ => ∃ (m : Str) (s k : Int), vs = [.str m, .int s, .int k] ∧ Mode m ∧ Q (.int (below m s k)) H
def spSpan : Sp := fun vs H Q _ => ∃ (p : Addr) (o s : Int) (m : Str) (k : Int), vs = [.ref p, .int k] ∧ H p = some (sideV o s m) ∧ SideP o s m ∧ BdK k ∧
  ∀ (d : Addr) (H' : Hp), Same H H' → H d = none → H' d = some (.tup [.int (lowM o s m k), .int (highM o s m k)]) → Q (.ref d) H'
def spBack : Sp := fun vs H Q _ => ∃ (p : Addr) (o s : Int) (m : Str) (v : Int), vs = [.ref p, .int v] ∧ H p = some (sideV o s m) ∧ SideP o s m ∧ -2 ^ 700 < v ∧ v < 2 ^ 700 ∧
  ∀ H' : Hp, Same H H' → Q (.int (backM o s m v)) H'
theorem bdK_bd {x : Int} (h : BdK x) : Bd x := by
  unfold BdK at h
  unfold Bd
  omega
section
variable {P : Program} {w : World} {K : PySem.W.Frag} {mg : Str → Option Value} {base : Heap} {aM aR fV fC fB fS : Addr} {dV dC dB dS : FuncData}
theorem ok_below {f : Addr} {fd : FuncData} (F : Fun K "_below" "_below" s_below f fd) : FnOk P w K mg base CX0 1 f fd ["mode", "step", "figure"] spBelow := by
  refine F.ok sc_below (fun vs H Q E h => ?_) (fun cdv A outer s H vs Q E hr h => ?_)
  · obtain ⟨m, s, k, rfl, _⟩ := h
    rfl
  · obtain ⟨m, s, k, rfl, hm, q⟩ := h
    refine ⟨_, pss_cons (ps_if (pt_cmpR op_eq (pv 0) pe_str (nomark _)) (pss_one (ps_ret pe_int)) pss_nil)
      (pss_cons (ps_if (pt_cmpR op_eq (pv 0) pe_str (nomark _)) (pss_one (ps_ret (pe_op op_sub (pv 1) pe_int))) pss_nil)
      (pss_cons (ps_if (PW.pt (pw_or (pt_cmpR op_eq (pv 0) pe_str (nomark _)) (pw_or1 (PW.pt (pw_and (pt_cmpR op_eq (pv 0) pe_str (nomark _)) (pw_and1 (pt_cmpR op_eq (pe_op op_mod (pv 2) pe_int) pe_int (nomark _)))))))) (pss_one (ps_ret (pe_op op_fdiv (pv 1) pe_int))) pss_nil)
      (pss_one (ps_ret (pe_op op_fdiv (pe_op op_sub (pv 1) pe_int) pe_int))))), ?_⟩
    have d2 : ∀ (i : Int), CDiv i 2 := fun _ => ⟨by decide, by decide⟩
    unfold below at q
    walk_at "rd"
    refine ⟨rfl, ?_⟩
    walk_at "rd"
    refine ite2 (fun h => ?_) (fun h1 => ?_)
    · rw [if_pos (str_t h)] at q
      walk_at "rd"
      exact q
    rw [if_neg (str_f h1)] at q
    walk_at "rd"
    refine ⟨rfl, ?_⟩
    walk_at "rd"
    refine ite2 (fun h => ?_) (fun h2 => ?_)
    · rw [if_pos (str_t h)] at q
      walk_at "rd"
      exact q
    rw [if_neg (str_f h2)] at q
    walk_at "rd"
    refine ⟨rfl, ?_⟩
    walk_at "rd"
    refine ite2 (fun h => ?_) (fun h3 => ?_)
    · rw [if_pos (.inl (str_t h))] at q
      walk_at "rd"
      refine ⟨d2 _, ?_⟩
      walk_at "rd"
      exact q
    walk_at "rd"
    refine ⟨rfl, ?_⟩
    walk_at "rd"
    refine ite2 (fun h => ?_) (fun h4 => ?_)
    · walk_at "rd"
      refine ⟨(by show (0 : Int) < 2; decide), ?_⟩
      walk_at "rd"
      refine ⟨rfl, ?_⟩
      walk_at "rd"
      refine ite2 (fun g => ?_) (fun g => ?_)
      · rw [if_pos (.inr ⟨str_t h, int_t g⟩)] at q
        walk_at "rd"
        refine ⟨d2 _, ?_⟩
        walk_at "rd"
        exact q
      · rw [if_neg (by rintro (z | ⟨_, z⟩); exact str_f h3 z; exact int_f g z)] at q
        walk_at "rd"
        refine ⟨d2 _, ?_⟩
        walk_at "rd"
        exact q
    · rw [if_neg (by rintro (z | ⟨z, _⟩); exact str_f h3 z; exact str_f h4 z)] at q
      walk_at "rd"
      refine ⟨d2 _, ?_⟩
      walk_at "rd"
      exact q
theorem ok_uspan {f : Addr} {fd : FuncData} (F : Fun K "_span" "_span" s_uspan f fd) (R : MirT K w mg aR)
    (B : Cal P w K mg base "_below" 1 ["mode", "step", "figure"] spBelow fB dB) : FnOk P w K mg base CX0 2 f fd ["side", "figure"] spSpan := by
  refine F.ok sc_uspan (fun vs H Q E h => ?_) (fun cdv A outer s H vs Q E hr h => ?_)
  · obtain ⟨p, o, s, m, k, rfl, _⟩ := h
    rfl
  · obtain ⟨p, o, s, m, k, rfl, hp, S, hk, q⟩ := h
    have nd := sc_uspan.nd
    refine ⟨_, pss_cons (ps_asg (pv 0) (pg_tup (by rfl) (pgs_cons (pg_name (i := 2) nd rfl (Or.inl rfl)) (pgs_cons (pg_name (i := 3) nd rfl (Or.inl rfl)) (pgs_cons (pg_name (i := 4) nd rfl (Or.inl rfl)) pgs_nil)))))
      (pss_cons (ps_set (i := 5) nd rfl (Or.inl rfl) (pe_op op_add (pv 2) (pe_op op_mulW (pv 3) (pv 1))))
      (pss_one (ps_ret (pe_tup (pa_cons (pe_op op_sub (pv 5) (pcl B hr (by decide) (by rfl) (pa_cons (pv 4) (pa_cons (pv 3) (pa_cons (pv 1) pa_nil)))))
        (pa_cons (pe_op op_add (pv 5) (pcl B hr (by decide) (by rfl) (pa_cons (pe_ix ix_kdict (pe_glob (v := .ref aR) (by rfl) R.gR rfl) (pv 4) (fun _ _ => rfl)) (pa_cons (pv 3) (pa_cons (pv 1) pa_nil))))) pa_nil)))))), ?_⟩
    walk_at "rd"
    refine ⟨p, _, rfl, SqT.of hp, rfl, _, _, rfl, _, _, rfl, _, _, rfl, rfl, ?_⟩
    have s0 := S.s0
    have s1 := S.s1
    have hk' := hk
    unfold BdK at hk'
    walk_at "rd"
    refine ⟨mulW (by omega) (by omega), ?_⟩
    walk_at "rd"
    refine ⟨m, s, k, rfl, S.md, ?_⟩
    walk_at "rd"
    refine ⟨aR, m, _, rfl, rfl, R.dR m S.md, ?_⟩
    walk_at "rd"
    refine ⟨mir m, s, k, rfl, mir_mode S.md, ?_⟩
    walk_at "rd"
    refine ⟨(by show 2 ≤ sizeLine; decide), fun d nd' => ?_⟩
    exact q d _ (fun b u z => (upd_ne (ne_of_none z nd')).trans z) nd' upd_same
theorem ok_span {f : Addr} {fd : FuncData} (F : Fun K "span" "span" s_span f fd) (C : Cal P w K mg base "check_side" 3 ["side"] spCheckSide fC dC) (V' : Cal P w K mg base "check_value" 2 ["value"] spCheckValue fV dV)
    (G : Cal P w K mg base "_span" 2 ["side", "figure"] spSpan fS dS) : FnOk P w K mg base CX0 4 f fd ["side", "figure"] spSpan := by
  refine F.ok sc_span (fun vs H Q E h => ?_) (fun cdv A outer s H vs Q E hr h => ?_)
  · obtain ⟨p, o, s, m, v, rfl, _⟩ := h
    rfl
  · obtain ⟨p, o, s, m, v, rfl, hp, S, q⟩ := h
    refine ⟨_, pss_cons (ps_expr (pcl C hr (by decide) (by rfl) (pa_cons (pv 0) pa_nil)))
      (pss_cons (ps_expr (pcl V' hr (by decide) (by rfl) (pa_cons (pv 1) pa_nil)))
      (pss_one (ps_ret (pcl G hr (by decide) (by rfl) (pa_cons (pv 0) (pa_cons (pv 1) pa_nil)))))), ?_⟩
    walk_at "rd"
    refine ⟨p, o, s, m, rfl, hp, S, ?_⟩
    walk_at "rd"
    exact ⟨p, o, s, m, v, rfl, hp, S, q⟩
theorem ok_threshold {f : Addr} {fd : FuncData} (F : Fun K "threshold" "threshold" s_threshold f fd) (B : Cal P w K mg base "_below" 1 ["mode", "step", "figure"] spBelow fB dB) : FnOk P w K mg base CX0 3 f fd ["side", "value"] spBack := by
  refine F.ok sc_threshold (fun vs H Q E h => ?_) (fun cdv A outer s H vs Q E hr h => ?_)
  · obtain ⟨p, o, s, m, v, rfl, _⟩ := h
    rfl
  · obtain ⟨p, o, s, m, v, rfl, hp, S, hv0, hv1, q⟩ := h
    have nd := sc_threshold.nd
    refine ⟨_, pss_cons (ps_asg (pv 0) (pg_tup (by rfl) (pgs_cons (pg_name (i := 2) nd rfl (Or.inl rfl)) (pgs_cons (pg_name (i := 3) nd rfl (Or.inl rfl)) (pgs_cons (pg_name (i := 4) nd rfl (Or.inl rfl)) pgs_nil)))))
      (pss_cons (ps_set (i := 5) nd rfl (Or.inl rfl) (pe_un un_neg (pe_op op_fdivW (pe_op op_sub (pv 2) (pv 1)) (pv 3))))
      (pss_one (ps_ret (pe_op op_sub (pe_op op_add (pv 2) (pe_op op_mulW (pv 3) (pv 5))) (pcl B hr (by decide) (by rfl) (pa_cons (pv 4) (pa_cons (pv 3) (pa_cons (pv 5) pa_nil)))))))), ?_⟩
    walk_at "rd"
    refine ⟨p, _, rfl, SqT.of hp, rfl, _, _, rfl, _, _, rfl, _, _, rfl, rfl, ?_⟩
    have s0 := S.s0
    have s1 := S.s1
    have o0 := S.o0
    have o1 := S.o1
    walk_at "rd"
    refine ⟨fdiv_ok _ (by omega) (lg_big (by omega) (by omega)), ?_⟩
    walk_at "rd"
    have db := div_bd (x := o - v) (b := 2 ^ 701) s0 (by omega) (by omega)
    refine ⟨mulW (by omega) (by omega), ?_⟩
    walk_at "rd"
    refine ⟨m, s, ceilM o s v, rfl, S.md, ?_⟩
    walk_at "rd"
    exact q H (fun _ _ z => z)
end
end HT
namespace HT
open PySem L2
/-! ### mirrors and forms -/
theorem mir_mir {m : Str} (h : Mode m) : mir (mir m) = m := by
  rcases h with e | e | e | e | e <;> subst e
  · rw [mir_d, mir_u]
  · rw [mir_u, mir_d]
  · rw [mir_hd, mir_hu]
  · rw [mir_hu, mir_hd]
  · rw [mir_he, mir_he]
theorem below_neg {m : Str} {s : Int} (k : Int) (h : Mode m) : below m s (-k) = below m s k := by
  rcases h with e | e | e | e | e <;> subst e
  · rw [be_d, be_d]
  · rw [be_u, be_u]
  · rw [be_hd, be_hd]
  · rw [be_hu, be_hu]
  · rw [be_he, be_he]; split <;> split <;> omega
theorem due_mirror {o s : Int} {m : Str} {v : Int} (h : Mode m) (hs : 1 ≤ s) : dueM (-o) s (mir m) (-v) = -dueM o s m v := by
  have f := (fig_iff (o := o) (v := v) (k := figM o s m v) h hs).mp rfl
  generalize figM o s m v = k at f
  have e : figM o s m v = k := (fig_iff h hs).mpr f
  have e2 : figM (-o) s (mir m) (-v) = -k := by
    refine (fig_iff (mir_mode h) hs).mpr ?_
    unfold lowM highM at f ⊢
    rw [mir_mir h, below_neg k h, below_neg k (mir_mode h), Int.mul_neg]
    omega
  unfold dueM
  rw [e, e2, Int.mul_neg]
  omega
def firstM (s : Int) (m : Str) : Str := if s = 1 then "down" else if s = 2 ∧ m = "half_down" then "down" else if s = 2 ∧ m = "half_up" then "up" else if s % 2 = 1 ∧ (m = "half_up" ∨ m = "half_even") then "half_down" else m
def formO (o s : Int) (f : Str) : Int := if f = "half_even" then o % (2 * s) else o % s
def ordM (m : Str) : Nat := if m = "down" then 0 else if m = "up" then 1 else if m = "half_down" then 2 else if m = "half_up" then 3 else 4
theorem ord_d : ordM "down" = 0 := by unfold ordM; rw [if_pos rfl]
theorem ord_u : ordM "up" = 1 := by unfold ordM; rw [if_neg d_u, if_pos rfl]
theorem ord_hd : ordM "half_down" = 2 := by unfold ordM; rw [if_neg hd_d, if_neg hd_u, if_pos rfl]
theorem ord_hu : ordM "half_up" = 3 := by unfold ordM; rw [if_neg hu_d, if_neg hu_u, if_neg hu_hd, if_pos rfl]
theorem ord_he : ordM "half_even" = 4 := by unfold ordM; rw [if_neg he_d, if_neg he_u, if_neg he_hd, if_neg he_hu]
theorem u_hu : ¬ (("up" : Str) = "half_up") := by decide +kernel
theorem u_he : ¬ (("up" : Str) = "half_even") := by decide +kernel
theorem dn_hd : ¬ (("down" : Str) = "half_down") := by decide +kernel
theorem dn_hu : ¬ (("down" : Str) = "half_up") := by decide +kernel
theorem dn_he : ¬ (("down" : Str) = "half_even") := by decide +kernel
theorem dn_u : ¬ (("down" : Str) = "up") := by decide +kernel
/-- the first modes, mode by mode -/
theorem fi_one (m : Str) : firstM 1 m = "down" := by unfold firstM; rw [if_pos rfl]
theorem fi_d (s : Int) : firstM s "down" = "down" := by
  unfold firstM
  by_cases h : s = 1
  · rw [if_pos h]
  · rw [if_neg h, if_neg (fun z => dn_hd z.2), if_neg (fun z => dn_hu z.2), if_neg (fun z => z.2.elim dn_hu dn_he)]
theorem fi_u {s : Int} (h : s ≠ 1) : firstM s "up" = "up" := by
  unfold firstM
  rw [if_neg h, if_neg (fun z => u_hd z.2), if_neg (fun z => u_hu z.2), if_neg (fun z => z.2.elim u_hu u_he)]
theorem fi_hd2 : firstM 2 "half_down" = "down" := by unfold firstM; rw [if_neg (by decide), if_pos ⟨rfl, rfl⟩]
theorem fi_hd {s : Int} (h : s ≠ 1) (h2 : s ≠ 2) : firstM s "half_down" = "half_down" := by
  unfold firstM
  rw [if_neg h, if_neg (fun z => h2 z.1), if_neg (fun z => h2 z.1), if_neg (fun z => z.2.elim hd_hu hd_e)]
theorem fi_hu2 : firstM 2 "half_up" = "up" := by unfold firstM; rw [if_neg (by decide), if_neg (fun z => hu_hd z.2), if_pos ⟨rfl, rfl⟩]
theorem fi_huO {s : Int} (h : s ≠ 1) (h2 : s % 2 = 1) : firstM s "half_up" = "half_down" := by
  unfold firstM
  rw [if_neg h, if_neg (fun z => hu_hd z.2), if_neg (fun z => by have := z.1; omega), if_pos ⟨h2, .inl rfl⟩]
theorem fi_huE {s : Int} (h : s ≠ 2) (h2 : s % 2 = 0) : firstM s "half_up" = "half_up" := by
  unfold firstM
  rw [if_neg (by omega), if_neg (fun z => hu_hd z.2), if_neg (fun z => h z.1), if_neg (fun z => by have := z.1; omega)]
theorem fi_heO {s : Int} (h : s ≠ 1) (h2 : s % 2 = 1) : firstM s "half_even" = "half_down" := by
  unfold firstM
  rw [if_neg h, if_neg (fun z => he_hd z.2), if_neg (fun z => he_hu z.2), if_pos ⟨h2, .inr rfl⟩]
theorem fi_heE {s : Int} (h2 : s % 2 = 0) : firstM s "half_even" = "half_even" := by
  unfold firstM
  rw [if_neg (by omega), if_neg (fun z => he_hd z.2), if_neg (fun z => he_hu z.2), if_neg (fun z => by have := z.1; omega)]
/-- what is known of the first mode -/
structure FirstP (s : Int) (m : Str) : Prop where
  md : Mode (firstM s m)
  id : firstM s (firstM s m) = firstM s m
  od : ordM (firstM s m) ≤ ordM m
  go : ∀ q r, 0 ≤ r → r < s → goesUp (firstM s m) s q r = goesUp m s q r
  ev : firstM s m = "half_even" → s % 2 = 0
theorem first_ok {s : Int} {m : Str} (h : Mode m) (hs : 1 ≤ s) : FirstP s m := by
  have D : Mode "down" := .inl rfl
  have U : Mode "up" := .inr (.inl rfl)
  have HD : Mode "half_down" := .inr (.inr (.inl rfl))
  by_cases s1 : s = 1
  · subst s1
    refine ⟨by rw [fi_one]; exact D, by rw [fi_one, fi_one], by rw [fi_one, ord_d]; omega, fun q r r0 r1 => ?_, by rw [fi_one]; exact fun z => (dn_he z).elim⟩
    have : r = 0 := by omega
    subst this
    rw [fi_one, go_zero D (by decide), go_zero h (by decide)]
  rcases h with e | e | e | e | e <;> subst e
  · exact ⟨by rw [fi_d]; exact D, by rw [fi_d, fi_d], by rw [fi_d]; omega, fun q r _ _ => by rw [fi_d], by rw [fi_d]; exact fun z => (dn_he z).elim⟩
  · exact ⟨by rw [fi_u s1]; exact U, by rw [fi_u s1, fi_u s1], by rw [fi_u s1]; omega, fun q r _ _ => by rw [fi_u s1], by rw [fi_u s1]; exact fun z => (u_he z).elim⟩
  · by_cases s2 : s = 2
    · subst s2
      refine ⟨by rw [fi_hd2]; exact D, by rw [fi_hd2, fi_d], by rw [fi_hd2, ord_d]; omega, fun q r r0 r1 => ?_, by rw [fi_hd2]; exact fun z => (dn_he z).elim⟩
      rw [fi_hd2, go_down, go_hd, decide_eq_false (by omega)]
    · exact ⟨by rw [fi_hd s1 s2]; exact HD, by rw [fi_hd s1 s2, fi_hd s1 s2], by rw [fi_hd s1 s2]; omega, fun q r _ _ => by rw [fi_hd s1 s2], by rw [fi_hd s1 s2]; exact fun z => (hd_e z).elim⟩
  · by_cases s2 : s = 2
    · subst s2
      refine ⟨by rw [fi_hu2]; exact U, by rw [fi_hu2, fi_u s1], by rw [fi_hu2, ord_u, ord_hu]; omega, fun q r r0 r1 => ?_, by rw [fi_hu2]; exact fun z => (u_he z).elim⟩
      rw [fi_hu2, go_up, go_hu]
      exact decide_eq_decide.mpr (by omega)
    · by_cases od : s % 2 = 1
      · refine ⟨by rw [fi_huO s1 od]; exact HD, by rw [fi_huO s1 od, fi_hd s1 s2], by rw [fi_huO s1 od, ord_hd, ord_hu]; omega, fun q r r0 r1 => ?_, by rw [fi_huO s1 od]; exact fun z => (hd_e z).elim⟩
        rw [fi_huO s1 od, go_hd, go_hu]
        exact decide_eq_decide.mpr (by omega)
      · have ev : s % 2 = 0 := by omega
        exact ⟨by rw [fi_huE s2 ev]; exact .inr (.inr (.inr (.inl rfl))), by rw [fi_huE s2 ev, fi_huE s2 ev], by rw [fi_huE s2 ev]; omega, fun q r _ _ => by rw [fi_huE s2 ev], by rw [fi_huE s2 ev]; exact fun z => (hu_e z).elim⟩
  · by_cases od : s % 2 = 1
    · refine ⟨by rw [fi_heO s1 od]; exact HD, by rw [fi_heO s1 od, fi_hd s1 (by omega)], by rw [fi_heO s1 od, ord_hd, ord_he]; omega, fun q r r0 r1 => ?_, by rw [fi_heO s1 od]; exact fun z => (hd_e z).elim⟩
      rw [fi_heO s1 od, go_hd, go_he, decide_eq_false (show ¬ 2 * r = s by omega), Bool.false_and, Bool.or_false]
    · have ev : s % 2 = 0 := by omega
      exact ⟨by rw [fi_heE ev]; exact .inr (.inr (.inr (.inr rfl))), by rw [fi_heE ev, fi_heE ev], by rw [fi_heE ev]; omega, fun q r _ _ => by rw [fi_heE ev], fun _ => ev⟩
theorem go_shift {m : Str} {s q r j : Int} (h : Mode m) (hj : m ≠ "half_even" ∨ j % 2 = 0) : goesUp m s (q + j) r = goesUp m s q r := by
  rcases h with e | e | e | e | e <;> subst e
  · rw [go_down, go_down]
  · rw [go_up, go_up]
  · rw [go_hd, go_hd]
  · rw [go_hu, go_hu]
  · have z : j % 2 = 0 := hj.resolve_left (fun z => z rfl)
    rw [go_he, go_he, show (q + j) % 2 = q % 2 by omega]
/-- an offset moved by whole steps, by two of them for the even -/
theorem due_shift {o s j : Int} {m : Str} {v : Int} (h : Mode m) (hs : 1 ≤ s) (hj : m ≠ "half_even" ∨ j % 2 = 0) : dueM (o + s * j) s m v = dueM o s m v := by
  have F := fig_of (o := o + s * j) (m := m) (v := v) hs
  generalize (v - (o + s * j)) / s = q at F
  generalize (v - (o + s * j)) % s = r at F
  generalize hk : figM (o + s * j) s m v = k at F
  obtain ⟨eq, r0, r1, wh⟩ := F
  have e : figM o s m v = k + j := by
    refine fig_uniq (q := q + j) (r := r) hs ⟨by rw [Int.mul_add]; omega, r0, r1, ?_⟩
    rw [go_shift h hj]
    rcases wh with ⟨g, e⟩ | ⟨g, e⟩
    · exact .inl ⟨g, by omega⟩
    · exact .inr ⟨g, by omega⟩
  unfold dueM
  rw [e, hk, Int.mul_add]
  omega
theorem due_go {o s : Int} {m m' : Str} {v : Int} (hs : 1 ≤ s) (h : ∀ q r, 0 ≤ r → r < s → goesUp m s q r = goesUp m' s q r) : dueM o s m v = dueM o s m' v := by
  unfold dueM figM
  rw [h _ _ (Int.emod_nonneg _ (by omega)) (Int.emod_lt_of_pos _ (by omega))]
theorem due_form {o s : Int} {m : Str} (v : Int) (h : Mode m) (hs : 1 ≤ s) : dueM (formO o s (firstM s m)) s (firstM s m) v = dueM o s m v := by
  have P := first_ok h hs
  rw [← due_go hs P.go]
  unfold formO
  by_cases e : firstM s m = "half_even"
  · rw [if_pos e]
    have a := Int.mul_ediv_add_emod o (2 * s)
    have b : o % (2 * s) = o + s * (-(2 * (o / (2 * s)))) := by
      rw [Int.mul_neg, ← Int.mul_assoc, Int.mul_comm s 2]
      omega
    rw [b]
    exact due_shift P.md hs (.inr (by omega))
  · rw [if_neg e]
    have a := Int.mul_ediv_add_emod o s
    have b : o % s = o + s * (-(o / s)) := by
      rw [Int.mul_neg]
      omega
    rw [b]
    exact due_shift P.md hs (.inl e)
theorem form_bd {o s : Int} {f : Str} (hs : 1 ≤ s) : 0 ≤ formO o s f ∧ formO o s f < 2 * s ∧ (f ≠ "half_even" → formO o s f < s) := by
  unfold formO
  by_cases e : f = "half_even"
  · rw [if_pos e]
    exact ⟨Int.emod_nonneg _ (by omega), Int.emod_lt_of_pos _ (by omega), fun z => absurd e z⟩
  · rw [if_neg e]
    have := Int.emod_lt_of_pos o (show 0 < s by omega)
    exact ⟨Int.emod_nonneg _ (by omega), by omega, fun _ => this⟩
theorem form_idem {o s : Int} {f : Str} : formO (formO o s f) s f = formO o s f := by
  unfold formO
  by_cases e : f = "half_even"
  · rw [if_pos e, if_pos e, Int.emod_emod_of_dvd _ (Int.dvd_refl _)]
  · rw [if_neg e, if_neg e, Int.emod_emod_of_dvd _ (Int.dvd_refl _)]
/-- a value told by its figure and rest -/
theorem due_at {o s q r : Int} {m : Str} (hs : 1 ≤ s) (r0 : 0 ≤ r) (r1 : r < s) : dueM o s m (o + s * q + r) = o + s * q + (if goesUp m s q r = true then s else 0) := by
  unfold dueM
  by_cases g : goesUp m s q r = true
  · rw [fig_uniq (q := q) (r := r) (k := q + 1) hs ⟨by omega, r0, r1, .inl ⟨g, rfl⟩⟩, if_pos g, Int.mul_add]
    omega
  · have g' : goesUp m s q r = false := by cases h : goesUp m s q r <;> simp_all
    rw [fig_uniq (q := q) (r := r) (k := q) hs ⟨by omega, r0, r1, .inr ⟨g', rfl⟩⟩, if_neg g]
    omega
end HT
namespace HT
open PySem L2
def spMirror : Sp := fun vs H Q _ => ∃ (p : Addr) (o s : Int) (m : Str), vs = [.ref p] ∧ H p = some (sideV o s m) ∧ SideP o s m ∧
  ∀ (d : Addr) (H' : Hp), Same H H' → H d = none → H' d = some (sideV (-o) s (mir m)) → Q (.ref d) H'
def spFirst : Sp := fun vs H Q _ => ∃ (s : Int) (m : Str), vs = [.int s, .str m] ∧ 1 ≤ s ∧ Mode m ∧ ∀ H' : Hp, Same H H' → Q (.str (firstM s m)) H'
def spForm : Sp := fun vs H Q _ => ∃ (p : Addr) (o s : Int) (m : Str), vs = [.ref p] ∧ H p = some (sideV o s m) ∧ SideP o s m ∧
  ∀ (d : Addr) (H' : Hp), Same H H' → H d = none → H' d = some (sideV (formO o s (firstM s m)) s (firstM s m)) → Q (.ref d) H'
theorem side_mir {o s : Int} {m : Str} (S : SideP o s m) : SideP (-o) s (mir m) := by
  obtain ⟨o0, o1, s0, s1, md⟩ := S
  exact ⟨by omega, by omega, s0, s1, mir_mode md⟩
theorem side_form {o s : Int} {m : Str} (S : SideP o s m) : SideP (formO o s (firstM s m)) s (firstM s m) := by
  obtain ⟨o0, o1, s0, s1, md⟩ := S
  obtain ⟨a, b, _⟩ := form_bd (o := o) (f := firstM s m) s0
  exact ⟨by omega, by omega, s0, s1, (first_ok md s0).md⟩
theorem in_two (m : Str) : inV (.str m) [V.str "half_up", .str "half_even"] = decide (m = "half_up" ∨ m = "half_even") := by
  show (eqV (V.str "half_up") (V.str m) || (eqV (V.str "half_even") (V.str m) || false)) = _
  have e : ∀ a b : Str, eqV (V.str a) (V.str b) = decide (a = b) := fun a b => by
    show (a == b) = decide (a = b)
    by_cases h : a = b
    · rw [decide_eq_true h, h, beq_self_eq_true]
    · rw [decide_eq_false h]
      exact beq_eq_false_iff_ne.mpr h
  rw [e, e, Bool.or_false]
  by_cases a : m = "half_up"
  · rw [decide_eq_true a.symm, decide_eq_true (Or.inl a)]
    rfl
  · by_cases b : m = "half_even"
    · rw [decide_eq_true b.symm, decide_eq_true (Or.inr b), Bool.or_true]
    · rw [decide_eq_false (fun z => a z.symm), decide_eq_false (fun z => b z.symm), decide_eq_false (fun z => z.elim a b)]
      rfl
section
variable {P : Program} {w : World} {K : PySem.W.Frag} {mg : Str → Option Value} {base : Heap} {aM aR fV fC fB fS : Addr} {dV dC dB dS : FuncData}
theorem ok_mirror {f : Addr} {fd : FuncData} (F : Fun K "mirror" "mirror" s_mirror f fd) (R : MirT K w mg aR) (C : Cal P w K mg base "check_side" 3 ["side"] spCheckSide fC dC) : FnOk P w K mg base CX0 4 f fd ["side"] spMirror := by
  refine F.ok sc_mirror (fun vs H Q E h => ?_) (fun cdv A outer s H vs Q E hr h => ?_)
  · obtain ⟨p, o, s, m, rfl, _⟩ := h
    rfl
  · obtain ⟨p, o, s, m, rfl, hp, S, q⟩ := h
    have nd := sc_mirror.nd
    refine ⟨_, pss_cons (ps_expr (pcl C hr (by decide) (by rfl) (pa_cons (pv 0) pa_nil)))
      (pss_cons (ps_asg (pv 0) (pg_tup (by rfl) (pgs_cons (pg_name (i := 1) nd rfl (Or.inl rfl)) (pgs_cons (pg_name (i := 2) nd rfl (Or.inl rfl)) (pgs_cons (pg_name (i := 3) nd rfl (Or.inl rfl)) pgs_nil)))))
      (pss_one (ps_ret (pe_tup (pa_cons (pe_un un_neg (pv 1)) (pa_cons (pv 2) (pa_cons (pe_ix ix_kdict (pe_glob (v := .ref aR) (by rfl) R.gR rfl) (pv 3) (fun _ _ => rfl)) pa_nil))))))), ?_⟩
    walk_at "rd"
    refine ⟨p, o, s, m, rfl, hp, S, ?_⟩
    walk_at "rd"
    refine ⟨p, _, rfl, SqT.of hp, rfl, _, _, rfl, _, _, rfl, _, _, rfl, rfl, ?_⟩
    walk_at "rd"
    refine ⟨aR, m, _, rfl, rfl, R.dR m S.md, ?_⟩
    refine ⟨(by show 3 ≤ sizeLine; decide), fun d nd' => ?_⟩
    exact q d _ (fun b u z => (upd_ne (ne_of_none z nd')).trans z) nd' upd_same
end
end HT
namespace HT
open PySem L2
section
variable {P : Program} {w : World} {K : PySem.W.Frag} {mg : Str → Option Value} {base : Heap} {aM fD fP fG fL fA fF fH fS : Addr} {dD dP dG dL dA dF dH dS : FuncData}
theorem ok_L_figure {f : Addr} {fd : FuncData} (F : Fun K "_law_figure" "_law_figure" s_L_figure f fd) (B : Blt mg) : FnOk P w K mg base CX0 1 f fd ["_law_side", "_law_value"] spFig := by
  refine F.ok sc_L_figure (fun vs H Q E h => ?_) (fun cdv A outer s H vs Q E hr h => ?_)
  · obtain ⟨p, o, s, m, v, rfl, _⟩ := h
    rfl
  · obtain ⟨p, o, s, m, v, rfl, hp, S, hv, q⟩ := h
    have nd := sc_L_figure.nd
    have q' : Q (.int (figM o s m v)) H := q H (Same.refl H)
    have Fg := fig_of (o := o) (m := m) (v := v) S.s0
    refine ⟨_, pss_cons (ps_asg (pv 0) (pg_tup (by rfl) (pgs_cons (pg_name (i := 2) nd rfl (Or.inl rfl)) (pgs_cons (pg_name (i := 3) nd rfl (Or.inl rfl)) (pgs_cons (pg_name (i := 4) nd rfl (Or.inl rfl)) pgs_nil)))))
      (pss_cons (ps_set (i := 5) nd rfl (Or.inl rfl) (pe_op op_fdivW (pe_callTy call_int1 (by rfl) B.int (by decide +kernel) (pa_cons (pe_op op_sub (pv 1) (pv 2)) pa_nil)) (pv 3)))
      (pss_cons (ps_set (i := 6) nd rfl (Or.inl rfl) (pe_op op_sub (pe_op op_sub (pv 1) (pv 2)) (pe_op op_mulW (pv 3) (pv 5))))
      (pss_cons (ps_if (PW.pt (pw_or (pt_cmpR op_eq (pv 4) pe_str (nomark _)) (pw_or1 (pt_cmpR op_eq (pv 6) pe_int (nomark _))))) (pss_one (ps_ret (pv 5))) pss_nil)
      (pss_cons (ps_if (PW.pt (pw_or (pt_cmpR op_eq (pv 4) pe_str (nomark _)) (pw_or1 (pt_cmpR op_gt (pe_op op_mul pe_int (pv 6)) (pv 3) (nomark _))))) (pss_one (ps_ret (pe_op op_add (pv 5) pe_int))) pss_nil)
      (pss_cons (ps_if (PW.pt (pw_or (pt_cmpR op_lt (pe_op op_mul pe_int (pv 6)) (pv 3) (nomark _)) (pw_or1 (pt_cmpR op_eq (pv 4) pe_str (nomark _))))) (pss_one (ps_ret (pv 5))) pss_nil)
      (pss_one (ps_ret (pe_op op_add (pv 5) (pe_callTy call_int1 (by rfl) B.int (by decide +kernel) (pa_cons (pe_or (pe_cmpR op_eq (pv 4) pe_str (nomark _)) (pe_one (pe_cmpR op_eq (pe_op op_mod (pv 5) pe_int) pe_int (nomark _)))) pa_nil)))))))))), ?_⟩
    have b0 := S.s0
    have b1 := S.s1
    have b2 := S.o0
    have b3 := S.o1
    have b4 := hv.1
    have b5 := hv.2
    have b6 := div_bd (x := v - o) (b := 2 ^ 1001) S.s0 (by omega) (by omega)
    have rr : v - o - s * ((v - o) / s) = (v - o) % s := by
      have := Fg.eq
      omega
    walk_at "rd"
    refine ⟨p, _, rfl, SqT.of hp, rfl, _, _, rfl, _, _, rfl, _, _, rfl, rfl, ?_⟩
    walk_at "rd"
    refine ⟨fdiv_ok _ (by omega) (lg_big (by omega) (by omega)), ?_⟩
    walk_at "rd"
    refine ⟨mulW (by omega) (by omega), ?_⟩
    walk_at "rd"
    refine ⟨rfl, ?_⟩
    walk_at "rd"
    obtain ⟨_, r0, r1, wh⟩ := Fg
    generalize figM o s m v = k at q' wh
    -- the three ways of a mode
    have fin0 : k = ((v - o) / s) → Q (.int ((v - o) / s)) H := fun e => by rw [← e]; exact q'
    have fin1 : k = ((v - o) / s) + 1 → Q (.int (((v - o) / s) + 1)) H := fun e => by rw [← e]; exact q'
    have low : goesUp m s ((v - o) / s) ((v - o) % s) = false → k = ((v - o) / s) := fun h => by
      rcases wh with ⟨g, _⟩ | ⟨_, e⟩
      · rw [h] at g; cases g
      · exact e
    have up : goesUp m s ((v - o) / s) ((v - o) % s) = true → k = ((v - o) / s) + 1 := fun h => by
      rcases wh with ⟨_, e⟩ | ⟨g, _⟩
      · exact e
      · rw [h] at g; cases g
    refine ite2 (fun h => ?_) (fun h1 => ?_)
    · walk_at "rd"
      refine fin0 (low ?_)
      rw [str_t h, go_down]
    walk_at "rd"
    refine ⟨rfl, ?_⟩
    walk_at "rd"
    refine ite2 (fun h => ?_) (fun h2 => ?_)
    · walk_at "rd"
      refine fin0 (low ?_)
      have e : ((v - o) % s) = 0 := by have := int_t h; omega
      rw [e]
      exact go_zero S.md S.s0
    have n1 := str_f h1
    have n2 : ¬ ((v - o) % s) = 0 := fun z => int_f h2 (by omega)
    walk_at "rd"
    refine ⟨rfl, ?_⟩
    walk_at "rd"
    refine ite2 (fun h => ?_) (fun h3 => ?_)
    · walk_at "rd"
      refine fin1 (up ?_)
      rw [str_t h, go_up]
      exact decide_eq_true (by omega)
    have n3 := str_f h3
    walk_at "rd"
    refine ⟨.inl ⟨by decide, by decide⟩, ?_⟩
    walk_at "rd"
    have hh : half m := by
      rcases S.md with e | e | e
      · exact absurd e n1
      · exact absurd e n3
      · exact e
    refine ite2 (fun h => ?_) (fun h4 => ?_)
    · walk_at "rd"
      have g : s < 2 * ((v - o) % s) := by have := of_decide_eq_true h; omega
      refine fin1 (up ?_)
      unfold goesUp
      rw [if_neg n1, if_neg n3, if_neg (by omega)]
      exact decide_eq_true g
    have n4 : ¬ s < 2 * ((v - o) % s) := fun z => h4 (decide_eq_true (by omega))
    walk_at "rd"
    refine ⟨.inl ⟨by decide, by decide⟩, ?_⟩
    walk_at "rd"
    refine ite2 (fun h => ?_) (fun h5 => ?_)
    · walk_at "rd"
      have g : 2 * ((v - o) % s) < s := by have := of_decide_eq_true h; omega
      refine fin0 (low ?_)
      unfold goesUp
      rw [if_neg n1, if_neg n3, if_neg (by omega)]
      exact decide_eq_false n4
    have n5 : 2 * ((v - o) % s) = s := by
      have : ¬ 2 * ((v - o) % s) < s := fun z => h5 (decide_eq_true (by omega))
      omega
    walk_at "rd"
    refine ⟨rfl, ?_⟩
    walk_at "rd"
    refine ite2 (fun h => ?_) (fun h6 => ?_)
    · walk_at "rd"
      refine fin0 (low ?_)
      rw [str_t h, go_hd]
      exact decide_eq_false n4
    have n6 := str_f h6
    have kk : k = ((v - o) / s) + (if m = "half_up" then 1 else if ((v - o) / s) % 2 = 1 then 1 else 0) := by
      rcases hh with e | e | e
      · exact absurd e n6
      · rw [if_pos e]
        refine up ?_
        rw [e, go_hu]
        exact decide_eq_true (by omega)
      · have e2 : goesUp m s ((v - o) / s) ((v - o) % s) = decide (((v - o) / s) % 2 = 1) := by
          rw [e, go_he, decide_eq_false n4, decide_eq_true n5]
          rfl
        rw [if_neg (by rw [e]; exact he_hu)]
        by_cases z : ((v - o) / s) % 2 = 1
        · rw [if_pos z]
          exact up (by rw [e2]; exact decide_eq_true z)
        · rw [if_neg z, Int.add_zero]
          exact low (by rw [e2]; exact decide_eq_false z)
    walk_at "rd"
    refine ⟨rfl, ?_⟩
    walk_at "rd"
    refine ite2 (fun h => ?_) (fun h7 => ?_)
    · refine .inr ⟨true, rfl, ?_⟩
      walk_at "rd"
      rw [if_pos (str_t h)] at kk
      exact fin1 kk
    · rw [if_neg (str_f h7)] at kk
      walk_at "rd"
      refine ⟨(by show (0 : Int) < 2; decide), ?_⟩
      walk_at "rd"
      refine ⟨rfl, .inr ⟨_, rfl, ?_⟩⟩
      walk_at "rd"
      show Q (.int (((v - o) / s) + if decide (V.int (((v - o) / s) % 2) = V.int 1) = true then 1 else 0)) H
      rw [dec_int]
      by_cases z : ((v - o) / s) % 2 = 1
      · rw [if_pos z] at kk
        rw [if_pos (decide_eq_true z)]
        exact fin1 kk
      · rw [if_neg z, Int.add_zero] at kk
        rw [if_neg (by rw [decide_eq_false z]; decide), Int.add_zero]
        exact fin0 kk
theorem ok_L_handed {f : Addr} {fd : FuncData} (F : Fun K "_law_handed" "_law_handed" s_L_handed f fd) (L : Cal P w K mg base "_law_figure" 1 ["_law_side", "_law_value"] spFig fL dL) : FnOk P w K mg base CX0 2 f fd ["_law_side", "_law_value"] spDue := by
  refine F.ok sc_L_handed (fun vs H Q E h => ?_) (fun cdv A outer s H vs Q E hr h => ?_)
  · obtain ⟨p, o, s, m, v, rfl, _⟩ := h
    rfl
  · obtain ⟨p, o, s, m, v, rfl, hp, S, hv, q⟩ := h
    refine ⟨_, pss_one (ps_ret (pe_op op_add (pe_ix ix_tup (pv 0) pe_int (fun _ _ => rfl)) (pe_op op_mulW (pe_ix ix_tup (pv 0) pe_int (fun _ _ => rfl)) (pcl L hr (by decide) (by rfl) (pa_cons (pv 0) (pa_cons (pv 1) pa_nil)))))), ?_⟩
    walk_at "rd"
    refine ⟨p, _, 0, _, rfl, rfl, SqT.of hp, rfl, ?_⟩
    walk_at "rd"
    refine ⟨p, _, 1, _, rfl, rfl, SqT.of hp, rfl, ?_⟩
    walk_at "rd"
    refine ⟨p, o, s, m, v, rfl, hp, S, hv, fun H' sm => ?_⟩
    walk_at "rd"
    have b1 := fig_bd S hv
    have b2 := S.s0
    have b3 := S.s1
    refine ⟨mulW (by omega) (by omega), ?_⟩
    walk_at "rd"
    exact q H' sm
end
end HT
namespace HT
open PySem L2
def spDiv : Sp := fun vs H Q _ => ∃ a b : Nat, vs = [.int (a : Int), .int (b : Int)] ∧ Q (.int ((Nat.gcd a b : Nat) : Int)) H
section
variable {P : Program} {w : World} {K : PySem.W.Frag} {mg : Str → Option Value} {base : Heap} {fW fF : Addr} {dW dF : FuncData}
theorem ok_div {f : Addr} {fd : FuncData} (F : Fun K "_law_divisor" "_law_divisor" s_L_divisor f fd) (B : Blt mg) : FnOk P w K mg base CX0 1 f fd ["_law_one", "_law_other"] spDiv := by
  refine F.ok sc_L_divisor (fun vs H Q E h => ?_) (fun cdv A outer s0 H vs Q E hr h => ?_)
  · obtain ⟨a, b, rfl, _⟩ := h
    rfl
  · obtain ⟨a, b, rfl, q⟩ := h
    have nd := sc_L_divisor.nd
    refine ⟨_, pss_cons (ps_while PassesOwn.never (pt_cmpR op_ne (pv 1) pe_int (nomark _)) (pss_one (ps_par (i := 0) (j := 1) rfl nd rfl rfl (by decide) rfl rfl (pa_cons (pv 1) (pa_cons (pe_op op_mod (pe_callTy call_int1 (by rfl) B.int (by decide +kernel) (pa_cons (pv 0) pa_nil)) (pv 1)) pa_nil)) (by rfl))))
      (pss_one (ps_ret (pv 0))), ?_⟩
    refine ⟨fun m σ H' => ∃ c d : Nat, m = d ∧ σ = [some (.int (c : Int)), some (.int (d : Int))] ∧ H' = H ∧ Nat.gcd c d = Nat.gcd a b, ⟨b, a, b, rfl, rfl, rfl, rfl⟩, ?_⟩
    rintro d σ H' ⟨c, _, rfl, rfl, rfl, hg⟩
    walk_at "rd"
    refine ⟨rfl, ?_⟩
    rw [dec_int]
    by_cases e : d = 0
    · subst e
      walk_at "rd"
      show Q (.int (c : Int)) H'
      rw [Nat.gcd_zero_right] at hg
      rw [hg]
      exact q
    · have e2 : (!decide ((d : Int) = 0)) = true := by
        rw [decide_eq_false (by omega)]
        rfl
      rw [e2]
      refine ⟨true, rfl, fun σ' H'' => ∃ c' d' : Nat, d' < d ∧ σ' = [some (V.int (c' : Int)), some (V.int (d' : Int))] ∧ H'' = H' ∧ Nat.gcd c' d' = Nat.gcd a b, fun σ' H'' ⟨c', d', l, e1, e2, e3⟩ => ⟨d', l, c', d', rfl, e1, e2, e3⟩, ?_⟩
      walk_at "rd"
      refine ⟨(by show (0 : Int) < (d : Int); omega), ?_⟩
      refine ⟨_, _, rfl, d, c % d, Nat.mod_lt _ (by omega), ?_, rfl, ?_⟩
      · rw [Int.natCast_emod]
        rfl
      · rw [← hg, Nat.gcd_comm c d, Nat.gcd_rec d c, Nat.gcd_comm]
end
end HT
namespace HT
open PySem L2
structure Sd where
  o : Int
  s : Int
  m : Str
/-- the list at l holds sides with these parts -/
structure SidesAt (H : Hp) (l : Addr) (xs : List V) (ss : List Sd) : Prop where
  hl : H l = some (.lst xs)
  len : xs.length = ss.length
  l1 : 1 ≤ ss.length
  l4 : ss.length ≤ 4
  at_ : ∀ (i : Nat) (d : Sd), ss[i]? = some d → ∃ p : Addr, xs[i]? = some (V.ref p) ∧ H p = some (sideV d.o d.s d.m) ∧ SideP d.o d.s d.m
theorem SidesAt.same {H H' : Hp} {l : Addr} {xs : List V} {ss : List Sd} (S : SidesAt H l xs ss) (e : Same H H') : SidesAt H' l xs ss :=
  ⟨e _ _ S.hl, S.len, S.l1, S.l4, fun i d h => let ⟨p, a, b, c⟩ := S.at_ i d h; ⟨p, a, e _ _ b, c⟩⟩
theorem SidesAt.oth {a c : Addr} {t : Nat} {H H' : Hp} {l : Addr} {xs : List V} {ss : List Sd} (S : SidesAt H l xs ss) (R : Src H a c t) (la : l ≠ a) (lc : l ≠ c) (e : Oth a c H H') : SidesAt H' l xs ss :=
  ⟨e _ _ S.hl la lc, S.len, S.l1, S.l4, fun i d h => let ⟨p, x, b, y⟩ := S.at_ i d h; let z := R.nt b; ⟨p, x, e _ _ b z.1 z.2, y⟩⟩
theorem SidesAt.item {H : Hp} {l : Addr} {xs : List V} {ss : List Sd} (S : SidesAt H l xs ss) {i : Nat} {y : V} (h : xs[i]? = some y) : ∃ d p, ss[i]? = some d ∧ y = .ref p ∧ H p = some (sideV d.o d.s d.m) ∧ SideP d.o d.s d.m := by
  have hi : i < ss.length := by have := (List.getElem?_eq_some_iff.mp h).1; rw [S.len] at this; exact this
  obtain ⟨p, e, hp, sp⟩ := S.at_ i ss[i] (List.getElem?_eq_getElem hi)
  rw [h] at e
  exact ⟨ss[i], p, List.getElem?_eq_getElem hi, Option.some.inj e, hp, sp⟩
/-- a side's period -/
def perM (s : Int) (m : Str) : Int := if m = "half_even" then 2 * s else s
theorem perM_bd {o s : Int} {m : Str} (S : SideP o s m) : 1 ≤ perM s m ∧ perM s m ≤ 2 * 10 ^ 30 := by
  have a := S.s0
  have b := S.s1
  unfold perM
  split <;> omega
def perN (d : Sd) : Nat := (perM d.s d.m).toNat
/-- the common period -/
def comN (ss : List Sd) : Nat := ss.foldl (fun n d => n.lcm (perN d)) 1
theorem com_snoc {ss : List Sd} {i : Nat} {d : Sd} (h : ss[i]? = some d) : comN (ss.take (i + 1)) = (comN (ss.take i)).lcm (perN d) := by
  unfold comN
  rw [List.take_succ, h, List.foldl_append]
  rfl
theorem lcm_le {a b : Nat} : a.lcm b ≤ a * b := Nat.div_le_self _ _
theorem com_le : ∀ (ss : List Sd) (n : Nat), (∀ d ∈ ss, SideP d.o d.s d.m) → ss.foldl (fun n d => n.lcm (perN d)) n ≤ n * (2 * 10 ^ 30) ^ ss.length
  | [], n, _ => by simp
  | d :: ss, n, h => by
    have z := com_le ss (n.lcm (perN d)) fun e he => h e (List.mem_cons_of_mem _ he)
    have b := perM_bd (h d List.mem_cons_self)
    have y : perN d ≤ 2 * 10 ^ 30 := by unfold perN; omega
    refine Nat.le_trans z ?_
    generalize (2 * 10 ^ 30 : Nat) = k at y
    rw [List.length_cons, Nat.pow_succ, Nat.mul_comm (k ^ ss.length), ← Nat.mul_assoc]
    exact Nat.mul_le_mul_right _ (Nat.le_trans lcm_le (Nat.mul_le_mul_left _ y))
theorem SidesAt.side {H : Hp} {l : Addr} {xs : List V} {ss : List Sd} (S : SidesAt H l xs ss) : ∀ d ∈ ss, SideP d.o d.s d.m := fun d hd => by
  obtain ⟨i, hi, rfl⟩ := List.mem_iff_getElem.mp hd
  obtain ⟨_, _, _, sp⟩ := S.at_ i _ (List.getElem?_eq_getElem hi)
  exact sp
theorem com_lt {ss : List Sd} (h : ∀ d ∈ ss, SideP d.o d.s d.m) (l4 : ss.length ≤ 4) : comN ss < 2 ^ 420 := by
  have z := com_le ss 1 h
  rw [Nat.one_mul] at z
  refine Nat.lt_of_le_of_lt z (Nat.lt_of_le_of_lt (Nat.pow_le_pow_right (by decide) l4) ?_)
  decide
theorem com_take {ss : List Sd} (h : ∀ d ∈ ss, SideP d.o d.s d.m) (l4 : ss.length ≤ 4) (i : Nat) : comN (ss.take i) < 2 ^ 420 :=
  com_lt (fun d hd => h d (List.mem_of_mem_take hd)) (Nat.le_trans (List.length_take_le' _ _) l4)
theorem com_pos : ∀ (ss : List Sd) (n : Nat), 0 < n → (∀ d ∈ ss, SideP d.o d.s d.m) → 0 < ss.foldl (fun n d => n.lcm (perN d)) n
  | [], n, hn, _ => hn
  | d :: ss, n, hn, h => by
    have b := perM_bd (h d List.mem_cons_self)
    have y : 0 < perN d := by unfold perN; omega
    exact com_pos ss _ (Nat.lcm_pos hn y) fun e he => h e (List.mem_cons_of_mem _ he)
/-- as the law has it -/
theorem lcm_div (a b : Nat) : a / Nat.gcd a b * b = a.lcm b := by
  unfold Nat.lcm
  rw [Nat.mul_comm (a / Nat.gcd a b), ← Nat.mul_div_assoc _ (Nat.gcd_dvd_left a b), Nat.mul_comm]
end HT
namespace HT
open PySem L2
theorem lg_any {n : Nat} (h : n < 2 ^ 500) : ((n : Int)).natAbs.log2 < 9000 := by
  rw [Int.natAbs_natCast]
  by_cases e : n = 0
  · rw [e]; decide
  · have := (Nat.log2_lt e).mpr h
    omega
def spSmall : Sp := fun vs H Q _ => ∃ (a c : Addr) (t most : Nat), vs = [.ref a, .int (most : Int)] ∧ Src H a c t ∧ 1 ≤ most ∧ most ≤ 1000 ∧ t + 5 < 2 ^ 30 ∧
  ∀ (p : Addr) (o s : Int) (m : Str) (H' : Hp) (t' : Nat), H' p = some (sideV o s m) → -30 ≤ o → o ≤ 29 → 1 ≤ s → s ≤ (most : Int) → Mode m → t' ≤ t + 3 → Src H' a c t' → Oth a c H H' → Q (.ref p) H'
def spPer : Sp := fun vs H Q _ => ∃ (l : Addr) (xs : List V) (ss : List Sd), vs = [.ref l] ∧ SidesAt H l xs ss ∧ Q (.int (comN ss : Int)) H
def spSet : Sp := fun vs H Q _ => ∃ (a c : Addr) (t most many : Nat), vs = [.ref a, .int (most : Int), .int (many : Int)] ∧ Src H a c t ∧ 1 ≤ most ∧ most ≤ 1000 ∧ 1 ≤ many ∧ many ≤ 4 ∧ t + 50 < 2 ^ 30 ∧
  ∀ (l : Addr) (xs : List V) (ss : List Sd) (H' : Hp) (t' : Nat), SidesAt H' l xs ss → (∀ d ∈ ss, -30 ≤ d.o ∧ d.o ≤ 29 ∧ d.s ≤ (most : Int)) → l ≠ a → l ≠ c → t' ≤ t + 20 → Src H' a c t' → Oth a c H H' → Q (.ref l) H'
section
variable {P : Program} {w : World} {K : PySem.W.Frag} {mg : Str → Option Value} {base : Heap} {fD fP fS fV : Addr} {dD dP dS dV : FuncData}
theorem ok_small {f : Addr} {fd : FuncData} (F : Fun K "_law_small_side" "_law_small_side" s_L_small_side f fd) (D : Cal P w K mg base "_law_draw" 1 ["_law_source_here", "_law_limit"] spDraw fD dD)
    (Pk : Cal P w K mg base "_law_pick" 2 ["_law_source_here", "_law_values"] spPick fP dP) : FnOk P w K mg base CX0 3 f fd ["_law_source_here", "_law_most"] spSmall := by
  refine F.ok sc_L_small_side (fun vs H Q E h => ?_) (fun cdv A outer s0 H vs Q E hr h => ?_)
  · obtain ⟨a, c, t, most, rfl, _⟩ := h
    rfl
  · obtain ⟨a, c, t, most, rfl, S, m1, m2, ht, q⟩ := h
    have nd := sc_L_small_side.nd
    refine ⟨_, (pss_cons (ps_set (i := 2) nd rfl (Or.inl rfl) (pe_op op_sub (pcl D hr (by decide) (by rfl) (pa_cons (pv 0) (pa_cons pe_int pa_nil))) pe_int))
      (pss_one (ps_ret (pe_tup (pa_cons (pv 2) (pa_cons (pe_op op_add pe_int (pcl D hr (by decide) (by rfl) (pa_cons (pv 0) (pa_cons (pv 1) pa_nil)))) (pa_cons (pcl Pk hr (by decide) (by rfl) (pa_cons (pv 0) (pa_cons (pe_lst (pa_cons pe_str (pa_cons pe_str (pa_cons pe_str (pa_cons pe_str (pa_cons pe_str pa_nil)))))) pa_nil))) pa_nil))))))), ?_⟩
    walk_at "rd"
    refine ⟨a, c, t, 60, rfl, S, by omega, by decide, by decide, fun k1 H1 k10 k11 S1 O1 => ?_⟩
    walk_at "rd"
    refine ⟨a, c, t + 1, (most : Int), rfl, S1, by omega, by omega, lg_small (by omega) (by omega), fun k2 H2 k20 k21 S2 O2 => ?_⟩
    walk_at "rd"
    refine ⟨(by show 5 ≤ sizeLine; decide), fun l nl => ?_⟩
    obtain ⟨la, lc⟩ := S2.na nl
    refine ⟨a, c, _, l, _, rfl, S2.new nl, by omega, upd_same, la, lc, by decide, by decide, fun x H3 hx S3 O3 => ?_⟩
    obtain ⟨md, rfl, hmd⟩ := mode_of hx
    refine ⟨(by show 3 ≤ sizeLine; decide), fun p np => ?_⟩
    exact q p _ _ md _ (t + 1 + 1 + 1) upd_same (by omega) (by omega) (by omega) (by omega) hmd (by omega) (S3.new np) ((((O1.trans O2).new nl).trans O3).new np)
theorem ok_period {f : Addr} {fd : FuncData} (F : Fun K "_law_period" "_law_period" s_L_period f fd) (B : Blt mg) (Dv : Cal P w K mg base "_law_divisor" 1 ["_law_one", "_law_other"] spDiv fV dV) : FnOk P w K mg base CX0 2 f fd ["_law_sides"] spPer := by
  refine F.ok sc_L_period (fun vs H Q E h => ?_) (fun cdv A outer s0 H vs Q E hr h => ?_)
  · obtain ⟨l, xs, ss, rfl, _⟩ := h
    rfl
  · obtain ⟨l, xs, ss, rfl, SS, q⟩ := h
    have nd := sc_L_period.nd
    refine ⟨_, (pss_cons (ps_set (i := 1) nd rfl (Or.inl rfl) pe_int)
      (pss_cons (ps_for PassesOwn.never rfl (pi_list (pv 0)) (pg_tup (by rfl) (pgs_cons (pg_name (i := 2) nd rfl (Or.inl rfl)) (pgs_cons (pg_name (i := 3) nd rfl (Or.inl rfl)) (pgs_cons (pg_name (i := 4) nd rfl (Or.inl rfl)) pgs_nil)))) (pss_cons (ps_set (i := 5) nd rfl (Or.inl rfl) (pe_op op_mulW (pv 3) (pe_op op_add pe_int (pe_callTy call_int1 (by rfl) B.int (by decide +kernel) (pa_cons (pe_cmpR op_eq (pv 4) pe_str (nomark _)) pa_nil)))))
      (pss_one (ps_set (i := 1) nd rfl (Or.inl rfl) (pe_op op_mulW (pe_op op_fdivW (pv 1) (pcl Dv hr (by decide) (by rfl) (pa_cons (pv 1) (pa_cons (pv 5) pa_nil)))) (pv 5))))))
      (pss_one (ps_ret (pv 1))))), ?_⟩
    walk_at "rd"
    refine ⟨⟨_, SqL.of SS.hl⟩, ?_⟩
    refine for_list (K := K) (a := l) (xs := xs) (fun i st H' => ∃ x2 x3 x4 x5 : Option V, st = [some (.ref l), some (.int (comN (ss.take i) : Int)), x2, x3, x4, x5] ∧ H' = H) ⟨none, none, none, none, rfl, rfl⟩ (fun _ _ _ _ ⟨_, _, _, _, _, e⟩ => e ▸ SqL.of SS.hl) ?_ ?_
    · rintro i y st H' hy ⟨x2, x3, x4, x5, rfl, rfl⟩
      obtain ⟨d, p, ed, rfl, hp, sp⟩ := SS.item hy
      walk_at "rd"
      refine ⟨p, _, rfl, SqT.of hp, rfl, _, _, rfl, _, _, rfl, _, _, rfl, rfl, ?_⟩
      walk_at "rd"
      refine ⟨rfl, ?_⟩
      walk_at "rd"
      refine .inr ⟨_, rfl, ?_⟩
      have s0 := sp.s0
      have s1 := sp.s1
      have pb := perM_bd sp
      have eN : ((perN d : Nat) : Int) = perM d.s d.m := Int.toNat_of_nonneg (by omega)
      have eL : d.s * (1 + if decide (V.str d.m = V.str "half_even") = true then 1 else 0) = ((perN d : Nat) : Int) := by
        rw [eN, dec_str]
        unfold perM
        by_cases h : d.m = "half_even"
        · rw [if_pos (decide_eq_true h), if_pos h]; omega
        · rw [if_neg (fun z => h (of_decide_eq_true z)), if_neg h]; omega
      have bb : ∀ b : Bool, -2 ^ 1010 < (1 + if b = true then (1 : Int) else 0) ∧ (1 + if b = true then (1 : Int) else 0) < 2 ^ 1010 := by
        intro b
        cases b <;> decide +kernel
      replace bb := bb (decide (V.str d.m = V.str "half_even"))
      generalize (if decide (V.str d.m = V.str "half_even") = true then (1 : Int) else 0) = bI at eL bb
      walk_at "rd"
      refine ⟨mulW (by omega) bb, ?_⟩
      walk_at "rd"
      refine ⟨comN (ss.take i), perN d, (by show [V.int _, V.int (d.s * (1 + bI))] = _; rw [eL]), ?_⟩
      have cp : 0 < comN (ss.take i) := com_pos _ 1 (by decide) fun e he => SS.side e (List.mem_of_mem_take he)
      have cl := com_take SS.side SS.l4 i
      have gp : 0 < Nat.gcd (comN (ss.take i)) (perN d) := Nat.gcd_pos_of_pos_left _ cp
      have gl : Nat.gcd (comN (ss.take i)) (perN d) ≤ comN (ss.take i) := Nat.gcd_le_left _ cp
      walk_at "rd"
      refine ⟨fdiv_ok _ (by omega) (lg_any (Nat.lt_of_le_of_lt gl (Nat.lt_trans cl (Nat.pow_lt_pow_right (by decide) (by decide))))), ?_⟩
      walk_at "rd"
      have ed2 : (comN (ss.take i) : Int) / ((Nat.gcd (comN (ss.take i)) (perN d) : Nat) : Int) = ((comN (ss.take i) / Nat.gcd (comN (ss.take i)) (perN d) : Nat) : Int) := (Int.natCast_ediv _ _).symm
      have dl : comN (ss.take i) / Nat.gcd (comN (ss.take i)) (perN d) ≤ comN (ss.take i) := Nat.div_le_self _ _
      have big : (2 : Nat) ^ 420 < 2 ^ 1010 := Nat.pow_lt_pow_right (by decide) (by decide)
      have dn : (0 : Int) ≤ ((comN (ss.take i) / Nat.gcd (comN (ss.take i)) (perN d) : Nat) : Int) := Int.natCast_nonneg _
      have ml : CMulW ((comN (ss.take i) : Int) / ((Nat.gcd (comN (ss.take i)) (perN d) : Nat) : Int)) (d.s * (1 + bI)) := by
        rw [ed2, eL]
        exact mulW (by omega) (by omega)
      refine ⟨ml, ?_⟩
      refine ⟨some (.int d.o), some (.int d.s), some (.str d.m), some (.int (d.s * (1 + bI))), ?_, rfl⟩
      have e9 : (comN (ss.take i) : Int) / ((Nat.gcd (comN (ss.take i)) (perN d) : Nat) : Int) * (d.s * (1 + bI)) = (comN (ss.take (i + 1)) : Int) := by
        rw [eL, ed2, com_snoc ed, ← lcm_div, Int.natCast_mul]
      rw [← e9]
      rfl
    · rintro st H' ⟨x2, x3, x4, x5, rfl, rfl⟩
      rw [SS.len, List.take_length]
      walk_at "rd"
      exact q
end
end HT
namespace HT
open PySem L2
def nV (k : Nat) : V := .int (k : Int)
structure AmG (mg : Str → Option Value) : Prop where
  isi : mg "isinstance" = none
  list : mg "list" = none
  len : mg "len" = none
  ms : ∃ t, mg "MOST_SIDES" = some (.int 4 t)
  mp : ∃ t, mg "MOST_PERIOD" = some (.int 100000 t)
  lcm : mg "lcm" = some (.builtin "math.lcm")
  sorted : mg "sorted" = none
def spIsSide : Sp := fun vs H Q _ => ∃ (p : Addr) (o s : Int) (m : Str), vs = [.ref p] ∧ H p = some (sideV o s m) ∧ SideP o s m ∧ Q (.bl true) H
def spSides : Sp := fun vs H Q _ => ∃ (l : Addr) (xs : List V) (ss : List Sd), vs = [.ref l] ∧ SidesAt H l xs ss ∧ Q .non H
def spPerOf : Sp := fun vs H Q _ => ∃ (p : Addr) (o s : Int) (m : Str), vs = [.ref p] ∧ H p = some (sideV o s m) ∧ SideP o s m ∧ Q (.int (perM s m)) H
def spNums : Sp := fun vs H Q _ => ∃ (kl : Addr) (ks : List Nat) (n : Nat), vs = [.ref kl, .int (n : Int)] ∧ H kl = some (.lst (ks.map nV)) ∧ ks.length ≤ 1000 ∧ (∀ k ∈ ks, k < n) ∧ Q .non H
/-- one hand-over more -/
def stepW (ss : List Sd) (a : List Int × Int) (k : Nat) : List Int × Int :=
  match ss[k]? with
  | some d => (a.1 ++ [dueM d.o d.s d.m a.2], dueM d.o d.s d.m a.2)
  | none => (a.1 ++ [a.2], a.2)
def walkW (ss : List Sd) (ks : List Nat) (v : Int) : List Int × Int := ks.foldl (stepW ss) ([], v)
theorem walk_snoc {ss : List Sd} {ks : List Nat} {v : Int} {i k : Nat} (h : ks[i]? = some k) : walkW ss (ks.take (i + 1)) v = stepW ss (walkW ss (ks.take i) v) k := by
  unfold walkW
  rw [List.take_succ, h, List.foldl_append]
  rfl
theorem due_far {o s v b : Int} {m : Str} (S : SideP o s m) (h : -b < v ∧ v < b) : -(b + 10 ^ 30) < dueM o s m v ∧ dueM o s m v < b + 10 ^ 30 := by
  have h1 := due_near (o := o) (v := v) S.md S.s0
  have h2 := S.s1
  omega
def spAlong : Sp := fun vs H Q _ => ∃ (l : Addr) (xs : List V) (ss : List Sd) (kl : Addr) (ks : List Nat) (v : Int), vs = [.ref l, .ref kl, .int v] ∧ SidesAt H l xs ss ∧ H kl = some (.lst (ks.map nV)) ∧ ks.length ≤ 1000 ∧ (∀ k ∈ ks, k < ss.length) ∧ (-2 ^ 200 < v ∧ v < 2 ^ 200) ∧
  ∀ (d : Addr) (H' : Hp), H d = none → Same H H' → H' d = some (.lst ((walkW ss ks v).1.map V.int)) → Q (.ref d) H'
section
variable {P : Program} {w : World} {K : PySem.W.Frag} {mg : Str → Option Value} {base : Heap} {aM c0 fC fB fV fN fW fS : Addr} {dC dB dV dN dW dS : FuncData}
theorem ok_per {f : Addr} {fd : FuncData} (F : Fun K "period_of" "period_of" s_period_of f fd) : FnOk P w K mg base CX0 1 f fd ["side"] spPerOf := by
  refine F.ok sc_period_of (fun vs H Q E h => ?_) (fun cdv A outer s0 H vs Q E hr h => ?_)
  · obtain ⟨p, o, s, m, rfl, _⟩ := h
    rfl
  · obtain ⟨p, o, s, m, rfl, hp, S, q⟩ := h
    have nd := sc_period_of.nd
    refine ⟨_, (pss_cons (ps_asg (pv 0) (pg_tup (by rfl) (pgs_cons (pg_name (i := 1) nd rfl (Or.inl rfl)) (pgs_cons (pg_name (i := 2) nd rfl (Or.inl rfl)) (pgs_cons (pg_name (i := 3) nd rfl (Or.inl rfl)) pgs_nil)))))
      (pss_cons (ps_if (pt_cmpR op_eq (pv 3) pe_str (nomark _)) (pss_one (ps_ret (pe_op op_mul pe_int (pv 2)))) pss_nil)
      (pss_one (ps_ret (pv 2))))), ?_⟩
    walk_at "rd"
    refine ⟨p, _, rfl, SqT.of hp, rfl, _, _, rfl, _, _, rfl, _, _, rfl, rfl, ?_⟩
    walk_at "rd"
    refine ⟨rfl, ?_⟩
    walk_at "rd"
    unfold perM at q
    refine ite2 (fun h => ?_) (fun h => ?_)
    · rw [if_pos (str_t h)] at q
      walk_at "rd"
      refine ⟨.inl ⟨by decide, by decide⟩, ?_⟩
      exact q
    · rw [if_neg (str_f h)] at q
      walk_at "rd"
      exact q
end
end HT
namespace HT
/-- k steps come to a place between two -/
def Hit (step least greatest M : Int) (k : Nat) : Prop := least ≤ (step * (k : Int)) % M ∧ (step * (k : Int)) % M ≤ greatest
/-- the least number with a property, or none -/
def Least (Pr : Nat → Prop) : Option Nat → Prop
  | some k => Pr k ∧ ∀ j, j < k → ¬ Pr j
  | none => ∀ k, ¬ Pr k
theorem least_uniq {Pr : Nat → Prop} {a b : Option Nat} (ha : Least Pr a) (hb : Least Pr b) : a = b := by
  cases a with
  | none =>
    cases b with
    | none => rfl
    | some k => exact absurd hb.1 (ha k)
  | some j =>
    cases b with
    | none => exact absurd ha.1 (hb j)
    | some k =>
      rcases Nat.lt_trichotomy j k with h | h | h
      · exact absurd ha.1 (hb.2 j h)
      · rw [h]
      · exact absurd hb.1 (ha.2 k h)
theorem least_congr {A B : Nat → Prop} (h : ∀ k, A k ↔ B k) {r : Option Nat} (l : Least A r) : Least B r := by
  cases r with
  | none => exact fun k z => l k ((h k).mpr z)
  | some k => exact ⟨(h k).mp l.1, fun j hj z => l.2 j hj ((h j).mpr z)⟩
/-- seen from the other side -/
theorem hit_flip {step least greatest M : Int} (hM : 0 < M) (h0 : 0 < least) (h1 : greatest < M) (k : Nat) : Hit (M - step) (M - greatest) (M - least) M k ↔ Hit step least greatest M k := by
  have e : ((M - step) * (k : Int)) % M = (-(step * (k : Int))) % M := by
    rw [Int.sub_mul, show M * (k : Int) - step * (k : Int) = -(step * (k : Int)) + M * (k : Int) by omega, Int.add_mul_emod_self_left]
  unfold Hit
  rw [e]
  generalize step * (k : Int) = x
  have a := Int.emod_nonneg x (by omega : M ≠ 0)
  have b := Int.emod_lt_of_pos x hM
  have c := Int.emod_nonneg (-x) (by omega : M ≠ 0)
  have d := Int.emod_lt_of_pos (-x) hM
  have e1 := Int.emod_add_mul_ediv x M
  have e2 := Int.emod_add_mul_ediv (-x) M
  -- x % M + (-x) % M is 0 or M
  have s : (x % M + (-x) % M) % M = 0 := by
    rw [← Int.add_emod]
    rw [show x + -x = 0 by omega]
    exact Int.zero_emod M
  have s2 : x % M + (-x) % M = 0 ∨ x % M + (-x) % M = M := by
    have f := Int.emod_add_mul_ediv (x % M + (-x) % M) M
    rw [s] at f
    have g1 : (x % M + (-x) % M) / M = 0 ∨ (x % M + (-x) % M) / M = 1 := by
      have h1 : 0 ≤ (x % M + (-x) % M) / M := Int.ediv_nonneg (by omega) (by omega)
      have h2 : (x % M + (-x) % M) / M < 2 := Int.ediv_lt_of_lt_mul hM (by omega)
      omega
    rcases g1 with g | g
    · rw [g] at f; left; omega
    · rw [g] at f; right; omega
  constructor
  · rintro ⟨p, q⟩
    omega
  · rintro ⟨p, q⟩
    omega
def ceilD (a s : Int) : Int := -((-a) / s)
theorem ceilD_spec {a s : Int} (hs : 0 < s) : a ≤ s * ceilD a s ∧ s * (ceilD a s - 1) < a := by
  unfold ceilD
  have e := Int.emod_add_mul_ediv (-a) s
  have a0 := Int.emod_nonneg (-a) (by omega : s ≠ 0)
  have a1 := Int.emod_lt_of_pos (-a) hs
  generalize (-a) / s = t at e
  have m1 : s * (-t) = -(s * t) := Int.mul_neg s t
  have m2 : s * (-t - 1) = -(s * t) - s := by rw [Int.mul_sub, m1, Int.mul_one]
  rw [m1, m2]
  omega
end HT
namespace HT
theorem mod_small {x M : Int} (h0 : 0 ≤ x) (h1 : x < M) : x % M = x := Int.emod_eq_of_lt h0 h1
theorem divmod_eq' {s q r x : Int} (hs : 0 < s) (h : x = s * q + r) (r0 : 0 ≤ r) (r1 : r < s) : x / s = q ∧ x % s = r := by
  subst h
  constructor
  · rw [Int.add_comm, Int.add_mul_ediv_left _ _ (by omega : s ≠ 0), Int.ediv_eq_zero_of_lt r0 r1, Int.zero_add]
  · rw [Int.add_comm, Int.add_mul_emod_self_left, Int.emod_eq_of_lt r0 r1]
theorem hit_zero {least greatest M : Int} (h0 : 0 < least) (k : Nat) : ¬ Hit 0 least greatest M k := by
  rintro ⟨a, _⟩
  rw [Int.zero_mul, Int.zero_emod] at a
  omega
theorem ceil_le {a s k : Int} (hs : 0 < s) (h : a ≤ s * k) : ceilD a s ≤ k := by
  have c := (ceilD_spec (a := a) hs).2
  refine Decidable.byContradiction fun z => ?_
  have h2 : s * k ≤ s * (ceilD a s - 1) := Int.mul_le_mul_of_nonneg_left (by omega) (by omega)
  omega
theorem ceil_pos {a s : Int} (hs : 0 < s) (ha : 0 < a) : 0 < ceilD a s := by
  have c := (ceilD_spec (a := a) hs).1
  refine Decidable.byContradiction fun z => ?_
  have h2 : s * ceilD a s ≤ s * 0 := Int.mul_le_mul_of_nonneg_left (by omega) (by omega)
  omega
/-- the first round reaches a place -/
theorem hit_direct {s l g M : Int} (hs : 0 < s) (h0 : 0 < l) (h1 : g < M) (h : s * ceilD l s ≤ g) : Least (Hit s l g M) (some (ceilD l s).toNat) := by
  have c := ceilD_spec (a := l) hs
  have cp := ceil_pos hs h0
  have e : (((ceilD l s).toNat : Nat) : Int) = ceilD l s := Int.toNat_of_nonneg (by omega)
  refine ⟨?_, fun j hj => ?_⟩
  · unfold Hit
    rw [e, mod_small (by omega) (by omega)]
    exact ⟨c.1, h⟩
  · rintro ⟨a, b⟩
    have hj' : (j : Int) ≤ ceilD l s - 1 := by omega
    have h2 : s * (j : Int) ≤ s * (ceilD l s - 1) := Int.mul_le_mul_of_nonneg_left hj' (by omega)
    have h3 : 0 ≤ s * (j : Int) := Int.mul_nonneg (by omega) (by omega)
    rw [mod_small h3 (by omega)] at a
    omega
/-- both ends lie in one cell -/
theorem one_cell {s l g : Int} (hs : 0 < s) (h : g < s * ceilD l s) (hl : l ≤ g) : l / s = g / s ∧ 0 < l % s ∧ l % s ≤ g % s := by
  have c := ceilD_spec (a := l) hs
  generalize ceilD l s = t at c h
  have e1 : s * (t - 1) = s * t - s := by rw [Int.mul_sub, Int.mul_one]
  have q1 : l / s = t - 1 := by
    refine (divmod_eq' hs (q := t - 1) (r := l - s * (t - 1)) (by omega) (by omega) (by omega)).1
  have q2 : g / s = t - 1 := by
    refine (divmod_eq' hs (q := t - 1) (r := g - s * (t - 1)) (by omega) (by omega) (by omega)).1
  have m1 := Int.emod_add_mul_ediv l s
  have m2 := Int.emod_add_mul_ediv g s
  rw [q1] at m1
  rw [q2] at m2
  exact ⟨by rw [q1, q2], by omega, by omega⟩
end HT
namespace HT
theorem hit_round {s l g M : Int} (hM : 0 < M) (hs : 0 ≤ s) (h0 : 0 < l) (h1 : g < M) (k : Nat) : Hit s l g M k ↔ ∃ n : Nat, l + M * (n : Int) ≤ s * (k : Int) ∧ s * (k : Int) ≤ g + M * (n : Int) := by
  have p : 0 ≤ s * (k : Int) := Int.mul_nonneg hs (by omega)
  unfold Hit
  generalize s * (k : Int) = x at p
  have e := Int.emod_add_mul_ediv x M
  have q0 : 0 ≤ x / M := Int.ediv_nonneg p (by omega)
  constructor
  · rintro ⟨a, b⟩
    refine ⟨(x / M).toNat, ?_, ?_⟩ <;> rw [Int.toNat_of_nonneg q0] <;> omega
  · rintro ⟨n, a, b⟩
    have d := (divmod_eq' hM (q := (n : Int)) (r := x - M * (n : Int)) (x := x) (by omega) (by omega) (by omega)).2
    rw [d]
    omega
theorem hit_cell {s l g M : Int} (hs : 0 < s) (hl : l ≤ g) (h : g < s * ceilD l s) (n : Nat) : Hit ((-M) % s) (l % s) (g % s) s n ↔ ∃ k : Int, l + M * (n : Int) ≤ s * k ∧ s * k ≤ g + M * (n : Int) := by
  obtain ⟨c1, c2, c3⟩ := one_cell hs h hl
  have el := Int.emod_add_mul_ediv l s
  have eg := Int.emod_add_mul_ediv g s
  rw [← c1] at eg
  have e : (((-M) % s) * (n : Int)) % s = (-(M * (n : Int))) % s := by
    rw [Int.mul_emod, Int.emod_emod, ← Int.mul_emod, Int.neg_mul]
  unfold Hit
  rw [e]
  generalize M * (n : Int) = y
  have ew := Int.emod_add_mul_ediv (-y) s
  have w0 := Int.emod_nonneg (-y) (by omega : s ≠ 0)
  have w1 := Int.emod_lt_of_pos (-y) hs
  have lm := Int.emod_lt_of_pos g hs
  have ll := Int.emod_nonneg l (by omega : s ≠ 0)
  constructor
  · rintro ⟨a, b⟩
    refine ⟨l / s - (-y) / s, ?_, ?_⟩ <;> rw [Int.mul_sub] <;> omega
  · rintro ⟨k, a, b⟩
    -- s k - y lies in the cell of l
    have d := divmod_eq' hs (q := l / s) (r := s * k - y - s * (l / s)) (x := s * k - y) (by omega) (by omega) (by omega)
    have f : (s * k - y) % s = (-y) % s := by
      rw [show s * k - y = -y + s * k by omega, Int.add_mul_emod_self_left]
    rw [f] at d
    omega
theorem mono_mul {M : Int} (hM : 0 < M) {a b : Nat} (h : a ≤ b) : M * (a : Int) ≤ M * (b : Int) := Int.mul_le_mul_of_nonneg_left (by omega) (by omega)
/-- behind the rounds that leap over the places -/
theorem hit_rec {s l g M : Int} (hs : 0 < s) (hM : 0 < M) (h0 : 0 < l) (hl : l ≤ g) (h1 : g < M) (h : g < s * ceilD l s) {r : Option Nat} (L : Least (Hit ((-M) % s) (l % s) (g % s) s) r) :
    Least (Hit s l g M) (r.map fun n => (ceilD (l + M * (n : Int)) s).toNat) := by
  cases r with
  | none =>
    intro k hk
    obtain ⟨n, a, b⟩ := (hit_round hM (by omega) h0 h1 k).mp hk
    exact L n ((hit_cell hs hl h n).mpr ⟨k, a, b⟩)
  | some n =>
    obtain ⟨L1, L2⟩ := L
    obtain ⟨k, a, b⟩ := (hit_cell hs hl h n).mp L1
    have nn : 0 ≤ M * (n : Int) := Int.mul_nonneg (by omega) (by omega)
    have cs := ceilD_spec (a := l + M * (n : Int)) hs
    have cp := ceil_pos hs (show 0 < l + M * (n : Int) by omega)
    have ck := ceil_le hs a
    have e : ((((ceilD (l + M * (n : Int)) s).toNat) : Nat) : Int) = ceilD (l + M * (n : Int)) s := Int.toNat_of_nonneg (by omega)
    refine ⟨?_, fun j hj hit => ?_⟩
    · refine (hit_round hM (by omega) h0 h1 _).mpr ⟨n, ?_, ?_⟩
      · rw [e]; exact cs.1
      · rw [e]
        have : s * ceilD (l + M * (n : Int)) s ≤ s * k := Int.mul_le_mul_of_nonneg_left ck (by omega)
        omega
    · obtain ⟨n2, a2, b2⟩ := (hit_round hM (by omega) h0 h1 j).mp hit
      have nle : n ≤ n2 := Decidable.byContradiction fun z => L2 n2 (by omega) ((hit_cell hs hl h n2).mpr ⟨j, a2, b2⟩)
      have m := mono_mul hM nle
      have := ceil_le hs (show l + M * (n : Int) ≤ s * (j : Int) by omega)
      have hj' : j < (ceilD (l + M * (n : Int)) s).toNat := hj
      omega
/-- the places from start on by their remainder -/
def HitS (start step most M : Int) (k : Nat) : Prop := (start + step * (k : Int)) % M ≤ most
theorem hits_iff {start step most M : Int} (hM : 0 < M) (h0 : 0 ≤ most) (hl : 0 < (-start) % M) (h1 : (-start) % M + most < M) (k : Nat) : HitS start step most M k ↔ Hit (step % M) ((-start) % M) ((-start) % M + most) M k := by
  have e : ((step % M) * (k : Int)) % M = (step * (k : Int)) % M := by
    rw [Int.mul_emod, Int.emod_emod, ← Int.mul_emod]
  unfold HitS Hit
  rw [e]
  generalize step * (k : Int) = x
  have l1 := Int.emod_lt_of_pos (-start) hM
  generalize el : (-start) % M = l at hl h1 l1
  have es : ∃ t, start = -l + M * t := by
    have := Int.emod_add_mul_ediv (-start) M
    rw [el] at this
    exact ⟨-((-start) / M), by rw [Int.mul_neg]; omega⟩
  obtain ⟨t, rfl⟩ := es
  have e2 : (-l + M * t + x) % M = (x - l) % M := by
    rw [show -l + M * t + x = x - l + M * t by omega, Int.add_mul_emod_self_left]
  rw [e2]
  have ex := Int.emod_add_mul_ediv x M
  have x0 := Int.emod_nonneg x (by omega : M ≠ 0)
  have x1 := Int.emod_lt_of_pos x hM
  generalize x % M = r at ex x0 x1
  generalize x / M = qq at ex
  by_cases c : l ≤ r
  · have d := (divmod_eq' hM (q := qq) (r := r - l) (x := x - l) (by omega) (by omega) (by omega)).2
    rw [d]
    omega
  · have d := (divmod_eq' hM (q := qq - 1) (r := r - l + M) (x := x - l) (by rw [Int.mul_sub, Int.mul_one]; omega) (by omega) (by omega)).2
    rw [d]
    omega
theorem hits_zero {start step most M : Int} (hM : 0 < M) (h0 : 0 ≤ most) (h : (-start) % M = 0 ∨ M ≤ (-start) % M + most) : Least (HitS start step most M) (some 0) := by
  refine ⟨?_, fun j hj => absurd hj (Nat.not_lt_zero _)⟩
  unfold HitS
  rw [show start + step * ((0 : Nat) : Int) = start by omega]
  have e := Int.emod_add_mul_ediv (-start) M
  have l0 := Int.emod_nonneg (-start) (by omega : M ≠ 0)
  have l1 := Int.emod_lt_of_pos (-start) hM
  generalize (-start) / M = t at e
  generalize (-start) % M = l at e l0 l1 h
  by_cases c : l = 0
  · have d := (divmod_eq' hM (q := -t) (r := 0) (x := start) (by rw [Int.mul_neg]; omega) (by omega) (by omega)).2
    rw [d]
    exact h0
  · have d := (divmod_eq' hM (q := -t - 1) (r := M - l) (x := start) (by rw [Int.mul_sub, Int.mul_neg, Int.mul_one]; omega) (by omega) (by omega)).2
    rw [d]
    omega
end HT
namespace HT
open PySem L2
def oN : Option Nat → V
  | none => .non
  | some k => .int (k : Int)
def spFB (n : Nat) : Sp := fun vs H Q _ => ∃ s l g M : Int, vs = [.int s, .int l, .int g, .int M] ∧ 0 ≤ s ∧ s < M ∧ 0 < l ∧ l ≤ g ∧ g < M ∧ M < 2 ^ n ∧ ∀ r, Least (Hit s l g M) r → Q (oN r) H
theorem hit_lt {s l g M : Int} (hM : 0 < M) {k : Nat} (h : Least (Hit s l g M) (some k)) : (k : Int) < M := by
  by_cases e : (k : Int) < M
  · exact e
  · exfalso
    obtain ⟨⟨a, b⟩, c⟩ := h
    refine c (k - M.toNat) (by omega) ?_
    have e2 : s * ((k - M.toNat : Nat) : Int) = s * (k : Int) - M * s := by
      rw [show ((k - M.toNat : Nat) : Int) = (k : Int) - M by omega, Int.mul_sub, Int.mul_comm M s]
    unfold Hit
    rw [e2, Int.sub_mul_emod_self_left]
    exact ⟨a, b⟩
section
variable {P : Program} {w : World} {K : PySem.W.Frag} {mg : Str → Option Value} {base : Heap} {fC : Addr} {dC : FuncData}
theorem ok_fb0 {f : Addr} {fd : FuncData} (F : Fun K "_first_between" "_first_between" s_first_between f fd) : FnOk P w K mg base CX0 1 f fd ["step", "least", "greatest", "modulus"] (spFB 0) := by
  refine F.ok sc_first_between (fun vs H Q E h => ?_) (fun cdv A outer s0 H vs Q E hr h => ?_)
  · obtain ⟨s, l, g, M, rfl, _⟩ := h
    rfl
  · exfalso
    obtain ⟨s, l, g, M, rfl, s0, s1, l0, lg, g1, M1, q⟩ := h
    rw [Int.pow_zero] at M1
    omega
theorem ok_fbS {f : Addr} {fd : FuncData} {n : Nat} (F : Fun K "_first_between" "_first_between" s_first_between f fd) (hn : n ≤ 200) (Se : Cal P w K mg base "_first_between" (n + 1) ["step", "least", "greatest", "modulus"] (spFB n) f fd) : FnOk P w K mg base CX0 (n + 2) f fd ["step", "least", "greatest", "modulus"] (spFB (n + 1)) := by
  refine F.ok sc_first_between (fun vs H Q E h => ?_) (fun cdv A outer s0 H vs Q E hr h => ?_)
  · obtain ⟨s, l, g, M, rfl, _⟩ := h
    rfl
  · obtain ⟨s, l, g, M, rfl, s0, s1, l0, lg, g1, M1, q⟩ := h
    have nd := sc_first_between.nd
    refine ⟨_, (pss_cons (ps_if (pt_cmpR op_eq (pv 0) pe_int (nomark _)) (pss_one (ps_ret pe_non)) pss_nil)
      (pss_cons (ps_if (pt_cmpR op_gt (pe_op op_mul pe_int (pv 0)) (pv 3) (nomark _)) (pss_one (ps_par3 (i := 0) (j := 1) (l := 2) (by rfl) nd rfl rfl rfl (by decide) (by decide) (by decide) rfl rfl rfl (pa_cons (pe_op op_sub (pv 3) (pv 0)) (pa_cons (pe_op op_sub (pv 3) (pv 2)) (pa_cons (pe_op op_sub (pv 3) (pv 1)) pa_nil))) (by rfl))) pss_nil)
      (pss_cons (ps_set (i := 4) nd rfl (Or.inl rfl) (pe_un un_neg (pe_op op_fdivW (pe_un un_neg (pv 1)) (pv 0))))
      (pss_cons (ps_if (pt_cmpR op_le (pe_op op_mulW (pv 0) (pv 4)) (pv 2) (nomark _)) (pss_one (ps_ret (pv 4))) pss_nil)
      (pss_cons (ps_set (i := 5) nd rfl (Or.inl rfl) (pcl Se hr (Nat.le_refl _) (by rfl) (pa_cons (pe_op op_mod (pe_un un_neg (pv 3)) (pv 0)) (pa_cons (pe_op op_mod (pv 1) (pv 0)) (pa_cons (pe_op op_mod (pv 2) (pv 0)) (pa_cons (pv 0) pa_nil))))))
      (pss_cons (ps_if (pt_cmpR op_isN (pv 5) pe_non (nomark _)) (pss_one (ps_ret pe_non)) pss_nil)
      (pss_one (ps_ret (pe_un un_neg (pe_op op_fdivW (pe_un un_neg (pe_op op_add (pv 1) (pe_op op_mulW (pv 3) (pv 5)))) (pv 0))))))))))), ?_⟩
    have pw : (2 : Int) ^ (n + 1) = 2 * 2 ^ n := by rw [Int.pow_succ]; omega
    have bigN : (2 : Nat) ^ (n + 1) ≤ 2 ^ 201 := Nat.pow_le_pow_right (by decide) (by omega)
    have big : (2 : Int) ^ (n + 1) ≤ 2 ^ 201 := by exact_mod_cast bigN
    have hM : 0 < M := by omega
    walk_at "rd"
    refine ⟨rfl, ?_⟩
    walk_at "rd"
    refine ite2 (fun z => ?_) (fun z => ?_)
    · have e := int_t z
      subst e
      walk_at "rd"
      exact q none fun k hk => hit_zero l0 k hk
    have sp : 0 < s := by have := int_f z; omega
    walk_at "rd"
    refine ⟨.inl ⟨by decide, by decide⟩, ?_⟩
    walk_at "rd"
    refine ite2 (fun z => ?a) (fun z => ?b)
    case' a =>
      have fl : M < 2 * s := by have := of_decide_eq_true z; omega
      walk_at "rd"
      refine ⟨_, _, _, rfl, ?_⟩
      dsimp only
      have q2 : ∀ r, Least (Hit (M - s) (M - g) (M - l) M) r → Q (oN r) H := fun r L => q r (least_congr (fun k => hit_flip hM l0 g1 k) L)
      have t1 : 0 < M - s := by omega
      have t2 : 2 * (M - s) ≤ M := by omega
      have t3 : 0 < M - g := by omega
      have t4 : M - g ≤ M - l := by omega
      have t5 : M - l < M := by omega
      generalize M - s = s' at q2 t1 t2 ⊢
      generalize M - g = l' at q2 t3 t4 ⊢
      generalize M - l = g' at q2 t4 t5 ⊢
    case' b =>
      have q2 := q
      have t1 := sp
      have t2 : 2 * s ≤ M := by
        have : ¬ M < 2 * s := fun y => z (decide_eq_true (by omega))
        omega
      have t3 := l0
      have t4 := lg
      have t5 := g1
      generalize s = s' at q2 t1 t2 ⊢
      generalize l = l' at q2 t3 t4 ⊢
      generalize g = g' at q2 t4 t5 ⊢
    all_goals
      walk_at "rd"
      refine ⟨fdiv_ok _ t1 (lg_big (by omega) (by omega)), ?_⟩
      walk_at "rd"
      have cp := ceil_pos t1 t3
      have cl : ceilD l' s' ≤ l' := ceil_le t1 (by
        have : 1 * l' ≤ s' * l' := Int.mul_le_mul_of_nonneg_right (by omega) (by omega)
        omega)
      have ec : -((-l') / s') = ceilD l' s' := rfl
      rw [ec]
      refine ⟨mulW (by omega) (by omega), ?_⟩
      walk_at "rd"
      refine ite2 (fun z => ?_) (fun z => ?_)
      · walk_at "rd"
        have y : Q (.int (((ceilD l' s').toNat : Nat) : Int)) H := q2 _ (hit_direct t1 t3 t5 (of_decide_eq_true z))
        have e2 : (((ceilD l' s').toNat : Nat) : Int) = ceilD l' s' := Int.toNat_of_nonneg (by omega)
        rw [e2] at y
        exact y
      · have hh : g' < s' * ceilD l' s' := by
          have : ¬ s' * ceilD l' s' ≤ g' := fun y => z (decide_eq_true y)
          omega
        obtain ⟨o1, o2, o3⟩ := one_cell t1 hh t4
        walk_at "rd"
        refine ⟨t1, ?_⟩
        walk_at "rd"
        refine ⟨t1, ?_⟩
        walk_at "rd"
        refine ⟨t1, ?_⟩
        walk_at "rd"
        refine ⟨(-M) % s', l' % s', g' % s', s', rfl, Int.emod_nonneg _ (by omega), Int.emod_lt_of_pos _ t1, o2, o3, Int.emod_lt_of_pos _ t1, by omega, fun r L => ?_⟩
        have L2 := hit_rec t1 hM t3 t4 t5 hh L
        walk_at "rd"
        cases r with
        | none =>
          refine ⟨rfl, ?_⟩
          walk_at "rd"
          exact q2 none L2
        | some n =>
          have nl := hit_lt t1 L
          refine ⟨rfl, ?_⟩
          walk_at "rd"
          refine ⟨mulW (by omega) (by omega), ?_⟩
          walk_at "rd"
          refine ⟨fdiv_ok _ t1 (lg_big (by omega) (by omega)), ?_⟩
          walk_at "rd"
          have y : Q (.int (((ceilD (l' + M * (n : Int)) s').toNat : Nat) : Int)) H := q2 _ L2
          have mn : 0 ≤ M * (n : Int) := Int.mul_nonneg (by omega) (by omega)
          have c2 := ceil_pos t1 (show 0 < l' + M * (n : Int) by omega)
          have e2 : (((ceilD (l' + M * (n : Int)) s').toNat : Nat) : Int) = ceilD (l' + M * (n : Int)) s' := Int.toNat_of_nonneg (by omega)
          rw [e2] at y
          exact y
theorem ok_fb {f : Addr} {fd : FuncData} (F : Fun K "_first_between" "_first_between" s_first_between f fd) (m : mg "_first_between" = some (.ref f)) (k : PySem.W.keepIn K (.ref f) = true) (b : Binds K fd ["step", "least", "greatest", "modulus"] []) : ∀ n, n ≤ 200 → FnOk P w K mg base CX0 (n + 1) f fd ["step", "least", "greatest", "modulus"] (spFB n)
  | 0, _ => ok_fb0 F
  | n + 1, h => ok_fbS F (by omega) ⟨ok_fb F m k b n (by omega), m, k, b⟩
end
end HT
namespace HT
open PySem L2
theorem due_more {o s : Int} {m : Str} {v : Int} (hm : Mode m) (hs : 1 ≤ s) (n : Nat) : dueM o s m (v + s * 2 * (n : Int)) = dueM o s m v + s * 2 * (n : Int) := by
  induction n with
  | zero => rw [show v + s * 2 * ((0 : Nat) : Int) = v by simp]; simp
  | succ n ih =>
    have e : s * 2 * ((n + 1 : Nat) : Int) = s * 2 * (n : Int) + s * 2 := by
      rw [show ((n + 1 : Nat) : Int) = (n : Int) + 1 by omega, Int.mul_add, Int.mul_one]
    rw [e, show v + (s * 2 * (n : Int) + s * 2) = v + s * 2 * (n : Int) + s * 2 by omega, due_two hm hs, ih]
    omega
theorem due_per {o s : Int} {m : Str} {v : Int} (hm : Mode m) (hs : 1 ≤ s) (t : Int) : dueM o s m (v + s * 2 * t) = dueM o s m v + s * 2 * t := by
  rcases Int.le_total 0 t with h | h
  · obtain ⟨n, rfl⟩ := Int.eq_ofNat_of_zero_le h
    exact due_more hm hs n
  · obtain ⟨n, hn⟩ := Int.eq_ofNat_of_zero_le (show 0 ≤ -t by omega)
    have := due_more (o := o) (v := v + s * 2 * t) hm hs n
    have e : s * 2 * (n : Int) = -(s * 2 * t) := by rw [← hn, Int.mul_neg]
    rw [e, show v + s * 2 * t + -(s * 2 * t) = v by omega] at this
    omega
/-- the order of the sides (o, s, m) and (p, u, q) matters for x -/
def diffX (o s : Int) (m : Str) (p u : Int) (q : Str) (x : Int) : Prop := dueM p u q (dueM o s m x) ≠ dueM o s m (dueM p u q x)
theorem due_com {o s : Int} {m : Str} {v : Int} (hm : Mode m) (hs : 1 ≤ s) (t : Int) : dueM o s m (v + perM s m * t) = dueM o s m v + perM s m * t := by
  unfold perM
  by_cases e : m = "half_even"
  · rw [if_pos e, Int.mul_comm 2 s]
    exact due_per hm hs t
  · rw [if_neg e]
    obtain ⟨eq, r0, r1, wh⟩ := fig_of (o := o) (m := m) (v := v) hs
    generalize (v - o) / s = q at eq wh
    generalize (v - o) % s = r at eq r0 r1 wh
    have g : goesUp m s (q + t) r = goesUp m s q r := by
      unfold goesUp
      rw [if_neg e, if_neg e]
    have F2 : Fig o s m (v + s * t) (q + t) r (figM o s m v + t) := by
      refine ⟨?_, r0, r1, ?_⟩
      · rw [Int.mul_add]; omega
      · rw [g]
        rcases wh with ⟨a, b⟩ | ⟨a, b⟩
        · exact .inl ⟨a, by omega⟩
        · exact .inr ⟨a, by omega⟩
    have z := fig_uniq hs F2
    unfold dueM
    rw [z, Int.mul_add]
    omega
theorem due_dvd {o s : Int} {m : Str} {v L : Int} (hm : Mode m) (hs : 1 ≤ s) (h : perM s m ∣ L) : dueM o s m (v + L) = dueM o s m v + L := by
  obtain ⟨t, rfl⟩ := h
  exact due_com hm hs t
theorem due_monoN {o s : Int} {m : Str} {v : Int} (hm : Mode m) (hs : 1 ≤ s) : ∀ n : Nat, dueM o s m v ≤ dueM o s m (v + (n : Int))
  | 0 => by rw [show v + ((0 : Nat) : Int) = v by omega]; exact Int.le_refl _
  | n + 1 => by
    have a := due_monoN hm hs n (o := o) (v := v)
    have b := due_mono hm hs (o := o) (v := v + (n : Int))
    rw [show v + ((n + 1 : Nat) : Int) = v + (n : Int) + 1 by omega]
    omega
theorem due_le {o s : Int} {m : Str} {v y : Int} (hm : Mode m) (hs : 1 ≤ s) (h : v ≤ y) : dueM o s m v ≤ dueM o s m y := by
  have := due_monoN hm hs (y - v).toNat (o := o) (v := v)
  rw [show v + (((y - v).toNat : Nat) : Int) = y by omega] at this
  exact this
/-- the values of a block -/
def InB (st mo pe v : Int) : Prop := (v - st) % pe ≤ mo
instance (st mo pe v : Int) : Decidable (InB st mo pe v) := by unfold InB; exact inferInstance
def fibM (st mo pe v : Int) : Int := if (v - st) % pe ≤ mo then v else v + pe - (v - st) % pe
theorem inb_add {st mo pe v t : Int} : InB st mo pe (v + pe * t) ↔ InB st mo pe v := by
  unfold InB
  rw [show v + pe * t - st = v - st + pe * t by omega, Int.add_mul_emod_self_left]
theorem inb_of {st mo pe v r t : Int} (h : v = st + pe * t + r) (r0 : 0 ≤ r) (r1 : r < pe) (rm : r ≤ mo) : InB st mo pe v := by
  unfold InB
  rw [show v - st = r + pe * t by omega, Int.add_mul_emod_self_left, Int.emod_eq_of_lt r0 r1]
  exact rm
theorem inb_at {st mo pe v : Int} (hp : 0 < pe) (h : InB st mo pe v) : ∃ t r : Int, v = st + pe * t + r ∧ 0 ≤ r ∧ r ≤ mo ∧ r < pe := by
  refine ⟨(v - st) / pe, (v - st) % pe, ?_, Int.emod_nonneg _ (by omega), h, Int.emod_lt_of_pos _ hp⟩
  have := Int.emod_add_mul_ediv (v - st) pe
  omega
theorem mul_pos_le {pe a b : Int} (hp : 0 < pe) (h : a < b) : pe * a + pe ≤ pe * b := by
  have : pe * (a + 1) ≤ pe * b := Int.mul_le_mul_of_nonneg_left (by omega) (by omega)
  rw [Int.mul_add, Int.mul_one] at this
  exact this
theorem fib_spec {st mo pe v : Int} (hp : 0 < pe) (hm : 0 ≤ mo) : v ≤ fibM st mo pe v ∧ fibM st mo pe v < v + pe ∧ InB st mo pe (fibM st mo pe v) ∧ ∀ y, v ≤ y → y < fibM st mo pe v → ¬ InB st mo pe y := by
  have r0 := Int.emod_nonneg (v - st) (show pe ≠ 0 by omega)
  have r1 := Int.emod_lt_of_pos (v - st) hp
  have ee := Int.emod_add_mul_ediv (v - st) pe
  unfold fibM
  by_cases h : (v - st) % pe ≤ mo
  · rw [if_pos h]
    exact ⟨by omega, by omega, h, fun y a b => by omega⟩
  · rw [if_neg h]
    refine ⟨by omega, by omega, ?_, fun y a b c => ?_⟩
    · refine inb_of (t := (v - st) / pe + 1) (r := 0) ?_ (by omega) hp hm
      rw [Int.mul_add]
      omega
    · obtain ⟨t, r, e1, e2, e3, e4⟩ := inb_at hp c
      rcases Int.lt_trichotomy t ((v - st) / pe) with z | z | z
      · have := mul_pos_le hp z
        omega
      · rw [z] at e1
        omega
      · have := mul_pos_le hp z
        omega
/-- the least value from v on with a property -/
def LeastI (Pr : Int → Prop) (v : Int) : Option Int → Prop
  | some x => v ≤ x ∧ Pr x ∧ ∀ y, v ≤ y → y < x → ¬ Pr y
  | none => ∀ y, v ≤ y → ¬ Pr y
theorem leastI_congr {A B : Int → Prop} {v : Int} {r : Option Int} (h : ∀ x, A x ↔ B x) (e : LeastI A v r) : LeastI B v r := by
  cases r with
  | none => exact fun y z w => e y z ((h y).mpr w)
  | some x => exact ⟨e.1, (h x).mp e.2.1, fun y y0 y1 z => e.2.2 y y0 y1 ((h y).mpr z)⟩
/-- a place of one block holds a value of the other -/
theorem place_iff {b mo os om op : Int} (hp : 0 < op) (hm : 0 ≤ mo) (ho : 0 ≤ om) : (∃ y, b ≤ y ∧ y ≤ b + mo ∧ InB os om op y) ↔ (b + mo - os) % op ≤ mo + om := by
  have r0 := Int.emod_nonneg (b + mo - os) (show op ≠ 0 by omega)
  have r1 := Int.emod_lt_of_pos (b + mo - os) hp
  have ee := Int.emod_add_mul_ediv (b + mo - os) op
  constructor
  · rintro ⟨y, h1, h2, h3⟩
    obtain ⟨t, r, e1, e2, e3, e4⟩ := inb_at hp h3
    have e5 : b + mo - os = (r + (b + mo - y)) + op * t := by omega
    rw [e5, Int.add_mul_emod_self_left]
    have := Int.emod_add_mul_ediv (r + (b + mo - y)) op
    have q0 : 0 ≤ (r + (b + mo - y)) / op := Int.ediv_nonneg (by omega) (by omega)
    have q1 : 0 ≤ op * ((r + (b + mo - y)) / op) := Int.mul_nonneg (by omega) q0
    omega
  · intro h
    by_cases e : (b + mo - os) % op ≤ om
    · exact ⟨b + mo, by omega, by omega, e⟩
    · refine ⟨b + mo - ((b + mo - os) % op - om), by omega, by omega, ?_⟩
      refine inb_of (t := (b + mo - os) / op) (r := om) ?_ ho (by omega) (by omega)
      omega
/-- first_in_both, as the program finds it -/
theorem both_near {st mo pe os om op v : Int} (hp : 0 < pe) (hm : 0 ≤ mo) (hq : 0 < op) (ho : 0 ≤ om) (hmp : mo < pe)
    (h : fibM os om op (fibM st mo pe v) ≤ fibM st mo pe v - (fibM st mo pe v - st) % pe + mo) : LeastI (fun x => InB st mo pe x ∧ InB os om op x) v (some (fibM os om op (fibM st mo pe v))) := by
  obtain ⟨a1, a2, a3, a4⟩ := fib_spec (v := v) (st := st) hp hm
  generalize fibM st mo pe v = x at *
  obtain ⟨b1, b2, b3, b4⟩ := fib_spec (v := x) (st := os) hq ho
  generalize fibM os om op x = z at *
  have r0 := Int.emod_nonneg (x - st) (show pe ≠ 0 by omega)
  have ee := Int.emod_add_mul_ediv (x - st) pe
  refine ⟨by omega, ⟨?_, b3⟩, fun y y0 y1 c => ?_⟩
  · exact inb_of (t := (x - st) / pe) (r := z - (x - (x - st) % pe)) (by omega) (by omega) (by omega) (by omega)
  · by_cases g : y < x
    · exact a4 y y0 g c.1
    · exact b4 y (by omega) y1 c.2
theorem both_far {st mo pe os om op v : Int} (hp : 0 < pe) (hm : 0 ≤ mo) (hq : 0 < op) (ho : 0 ≤ om) (hmp : mo < pe) {r : Option Nat}
    (h : fibM st mo pe v - (fibM st mo pe v - st) % pe + mo < fibM os om op (fibM st mo pe v)) (L : Least (HitS (fibM st mo pe v - (fibM st mo pe v - st) % pe + pe + mo - os) pe (mo + om) op) r) :
    LeastI (fun x => InB st mo pe x ∧ InB os om op x) v (r.map fun k : Nat => fibM os om op (fibM st mo pe v - (fibM st mo pe v - st) % pe + pe + pe * (k : Int))) := by
  obtain ⟨a1, a2, a3, a4⟩ := fib_spec (v := v) (st := st) hp hm
  generalize fibM st mo pe v = x at *
  obtain ⟨b1, b2, b3, b4⟩ := fib_spec (v := x) (st := os) hq ho
  generalize fibM os om op x = z at *
  have r0 := Int.emod_nonneg (x - st) (show pe ≠ 0 by omega)
  have r1 := Int.emod_lt_of_pos (x - st) hp
  have ee := Int.emod_add_mul_ediv (x - st) pe
  have bx : (x - st) % pe ≤ mo := a3
  -- the places behind
  have key : ∀ y, v ≤ y → InB st mo pe y → InB os om op y → ∃ j : Nat, x - (x - st) % pe + pe + pe * (j : Int) ≤ y ∧ y ≤ x - (x - st) % pe + pe + pe * (j : Int) + mo ∧ HitS (x - (x - st) % pe + pe + mo - os) pe (mo + om) op j := by
    intro y y0 c1 c2
    have yx : x ≤ y := by
      by_cases g : y < x
      · exact absurd c1 (a4 y y0 g)
      · omega
    have yz : z ≤ y := by
      by_cases g : y < z
      · exact absurd c2 (b4 y yx g)
      · omega
    obtain ⟨t, r, e1, e2, e3, e4⟩ := inb_at hp c1
    have tj : (x - st) / pe < t := by
      rcases Int.lt_trichotomy t ((x - st) / pe) with q | q | q
      · have := mul_pos_le hp q
        omega
      · rw [q] at e1
        omega
      · exact q
    refine ⟨(t - (x - st) / pe - 1).toNat, ?_⟩
    have en : (((t - (x - st) / pe - 1).toNat : Nat) : Int) = t - (x - st) / pe - 1 := Int.toNat_of_nonneg (by omega)
    rw [en]
    have ep : pe * (t - (x - st) / pe - 1) = pe * t - pe * ((x - st) / pe) - pe := by rw [Int.mul_sub, Int.mul_sub, Int.mul_one]
    have l1 : x - (x - st) % pe + pe + pe * (t - (x - st) / pe - 1) ≤ y := by omega
    have l2 : y ≤ x - (x - st) % pe + pe + pe * (t - (x - st) / pe - 1) + mo := by omega
    refine ⟨l1, l2, ?_⟩
    unfold HitS
    rw [en]
    have := (place_iff hq hm ho).mp ⟨y, l1, l2, c2⟩
    rw [show x - (x - st) % pe + pe + mo - os + pe * (t - (x - st) / pe - 1) = x - (x - st) % pe + pe + pe * (t - (x - st) / pe - 1) + mo - os by omega]
    exact this
  cases r with
  | none =>
    intro y y0 c
    obtain ⟨j, _, _, hj⟩ := key y y0 c.1 c.2
    exact L j hj
  | some k =>
    obtain ⟨L1, L2⟩ := L
    have kk : (x - (x - st) % pe + pe + pe * (k : Int) + mo - os) % op ≤ mo + om := by
      unfold HitS at L1
      rw [show x - (x - st) % pe + pe + pe * (k : Int) + mo - os = x - (x - st) % pe + pe + mo - os + pe * (k : Int) by omega]
      exact L1
    obtain ⟨y, h1, h2, h3⟩ := (place_iff hq hm ho).mpr kk
    have kp : 0 ≤ pe * (k : Int) := Int.mul_nonneg (by omega) (by omega)
    obtain ⟨d1, d2, d3, d4⟩ := fib_spec (v := x - (x - st) % pe + pe + pe * (k : Int)) (st := os) hq ho
    show LeastI _ v (some (fibM os om op (x - (x - st) % pe + pe + pe * (k : Int))))
    generalize hf : fibM os om op (x - (x - st) % pe + pe + pe * (k : Int)) = f at d1 d2 d3 d4
    have fy : f ≤ y := by
      by_cases g : y < f
      · exact absurd h3 (d4 y h1 g)
      · omega
    refine ⟨by omega, ⟨?_, d3⟩, fun w w0 w1 c => ?_⟩
    · refine inb_of (t := (x - st) / pe + 1 + (k : Int)) (r := f - (x - (x - st) % pe + pe + pe * (k : Int))) ?_ (by omega) (by omega) (by omega)
      rw [Int.mul_add, Int.mul_add, Int.mul_one]
      omega
    · obtain ⟨j, j1, j2, j3⟩ := key w w0 c.1 c.2
      have jk : k ≤ j := by
        by_cases g : j < k
        · exact absurd j3 (L2 j g)
        · omega
      have : pe * (k : Int) ≤ pe * (j : Int) := Int.mul_le_mul_of_nonneg_left (by omega) (by omega)
      exact d4 w (by omega) w1 c.2
/-- the figures of a period -/
def figsN (s : Int) (m : Str) : Int := perM s m / s
theorem figs_eq {s : Int} {m : Str} (hs : 1 ≤ s) : figsN s m = if m = "half_even" then 2 else 1 := by
  unfold figsN perM
  by_cases e : m = "half_even"
  · rw [if_pos e, if_pos e, Int.mul_ediv_cancel _ (by omega)]
  · rw [if_neg e, if_neg e, Int.ediv_self (by omega)]
theorem per_figs {s : Int} {m : Str} (hs : 1 ≤ s) : perM s m = s * figsN s m := by
  rw [figs_eq hs]
  unfold perM
  by_cases e : m = "half_even"
  · rw [if_pos e, if_pos e, Int.mul_comm]
  · rw [if_neg e, if_neg e, Int.mul_one]
theorem figs_bd {s : Int} {m : Str} (hs : 1 ≤ s) : 1 ≤ figsN s m ∧ figsN s m ≤ 2 := by
  rw [figs_eq hs]
  split <;> omega
theorem unr_iff {o s : Int} {m : Str} {v : Int} (hm : Mode m) (hs : 1 ≤ s) : dueM o s m v ≤ v ↔ ∃ k, 0 ≤ k ∧ k < figsN s m ∧ InB (o + s * k) (below (mir m) s k) (perM s m) v := by
  have fb := figs_bd (m := m) hs
  have pf := per_figs (m := m) hs
  have pp : s ≤ perM s m := by
    rw [pf]
    have : s * 1 ≤ s * figsN s m := Int.mul_le_mul_of_nonneg_left (by omega) (by omega)
    omega
  constructor
  · intro h
    have e0 := Int.emod_add_mul_ediv (figM o s m v) (figsN s m)
    refine ⟨figM o s m v % figsN s m, Int.emod_nonneg _ (by omega), Int.emod_lt_of_pos _ (by omega), ?_⟩
    generalize hk : figM o s m v % figsN s m = k at *
    generalize hj : figM o s m v / figsN s m = j at *
    have ev : v = (v - perM s m * j) + perM s m * j := by omega
    have dc := due_com (o := o) (v := v - perM s m * j) hm hs j
    rw [← ev] at dc
    have es : s * figM o s m v = s * k + perM s m * j := by
      rw [← e0, Int.mul_add, pf, Int.mul_assoc]
    have ed : dueM o s m v = o + s * k + perM s m * j := by
      unfold dueM
      omega
    have ed2 : dueM o s m (v - perM s m * j) = o + s * k := by omega
    have ef : figM o s m (v - perM s m * j) = k := by
      unfold dueM at ed2
      exact Int.eq_of_mul_eq_mul_left (show s ≠ 0 by omega) (by omega)
    have hi := ((fig_iff hm hs).mp ef).2
    unfold highM at hi
    have bb := below_bd (k := k) (mir_mode hm) hs
    exact inb_of (t := j) (r := v - perM s m * j - (o + s * k)) (by omega) (by omega) (by omega) (by omega)
  · rintro ⟨k, k0, k1, h⟩
    obtain ⟨t, r, e1, e2, e3, e4⟩ := inb_at (by omega) h
    have lh := low_high (o := o) (k := k) hm hs
    have ef : figM o s m (o + s * k + r) = k := (fig_iff hm hs).mpr ⟨by omega, by unfold highM; omega⟩
    have dc := due_com (o := o) (v := o + s * k + r) hm hs t
    rw [show o + s * k + r + perM s m * t = v by omega] at dc
    have ed : dueM o s m (o + s * k + r) = o + s * k := by
      unfold dueM
      rw [ef]
    omega
end HT
namespace HT
open PySem L2
def oV : Option Int → V
  | none => .non
  | some k => .int k
def spFH : Sp := fun vs H Q _ => ∃ st sp mo M : Int, vs = [.int st, .int sp, .int mo, .int M] ∧ 0 < M ∧ M < 2 ^ 102 ∧ 0 ≤ mo ∧ ∀ r, Least (HitS st sp mo M) r → Q (oN r) H
def blkV (st mo pe : Int) : HO := .tup [.int st, .int mo, .int pe]
structure BlkP (st mo pe : Int) : Prop where
  p0 : 0 < pe
  p1 : pe < 2 ^ 102
  m0 : 0 ≤ mo
  m1 : mo < pe
def spFIB : Sp := fun vs H Q _ => ∃ (b : Addr) (st mo pe v : Int), vs = [.ref b, .int v] ∧ H b = some (blkV st mo pe) ∧ BlkP st mo pe ∧ Q (.int (fibM st mo pe v)) H
def spFI2 : Sp := fun vs H Q _ => ∃ (a b : Addr) (st mo pe os om op v : Int), vs = [.ref a, .ref b, .int v] ∧ H a = some (blkV st mo pe) ∧ BlkP st mo pe ∧ H b = some (blkV os om op) ∧ BlkP os om op ∧ ∀ r, LeastI (fun x => InB st mo pe x ∧ InB os om op x) v r → Q (oV r) H
theorem hitS_lt {st sp mo M : Int} (hM : 0 < M) {k : Nat} (h : Least (HitS st sp mo M) (some k)) : (k : Int) < M := by
  by_cases e : (k : Int) < M
  · exact e
  · exfalso
    obtain ⟨a, c⟩ := h
    refine c (k - M.toNat) (by omega) ?_
    have e2 : st + sp * ((k - M.toNat : Nat) : Int) = st + sp * (k : Int) - M * sp := by
      rw [show ((k - M.toNat : Nat) : Int) = (k : Int) - M by omega, Int.mul_sub, Int.mul_comm M sp]
      omega
    unfold HitS
    rw [e2, Int.sub_mul_emod_self_left]
    exact a
section
variable {P : Program} {w : World} {K : PySem.W.Frag} {mg : Str → Option Value} {base : Heap} {fB fH fI : Addr} {dB dH dI : FuncData}
theorem ok_hit {f : Addr} {fd : FuncData} (F : Fun K "first_hit" "first_hit" s_first_hit f fd) (FB : Cal P w K mg base "_first_between" 103 ["step", "least", "greatest", "modulus"] (spFB 102) fB dB) : FnOk P w K mg base CX0 104 f fd ["start", "step", "most", "modulus"] spFH := by
  refine F.ok sc_first_hit (fun vs H Q E h => ?_) (fun cdv A outer s0 H vs Q E hr h => ?_)
  · obtain ⟨st, sp, mo, M, rfl, _⟩ := h
    rfl
  · obtain ⟨st, sp, mo, M, rfl, M0, M1, m0, q⟩ := h
    have nd := sc_first_hit.nd
    refine ⟨_, (pss_cons (ps_set (i := 4) nd rfl (Or.inl rfl) (pe_op op_mod (pe_un un_neg (pv 0)) (pv 3)))
      (pss_cons (ps_set (i := 5) nd rfl (Or.inl rfl) (pe_op op_add (pv 4) (pv 2)))
      (pss_cons (ps_if (PW.pt (pw_or (pt_cmpR op_eq (pv 4) pe_int (nomark _)) (pw_or1 (pt_cmpR op_ge (pv 5) (pv 3) (nomark _))))) (pss_one (ps_ret pe_int)) pss_nil)
      (pss_one (ps_ret (pcl FB hr (by decide) (by rfl) (pa_cons (pe_op op_mod (pv 1) (pv 3)) (pa_cons (pv 4) (pa_cons (pv 5) (pa_cons (pv 3) pa_nil)))))))))), ?_⟩
    have l0 := Int.emod_nonneg (-st) (show M ≠ 0 by omega)
    have l1 := Int.emod_lt_of_pos (-st) M0
    walk_at "rd"
    refine ⟨M0, ?_⟩
    walk_at "rd"
    refine ⟨rfl, ?_⟩
    walk_at "rd"
    refine ite2 (fun z => ?_) (fun z => ?_)
    · have e := int_t z
      walk_at "rd"
      exact q (some 0) (hits_zero M0 m0 (.inl e))
    have e1 := int_f z
    walk_at "rd"
    refine ite2 (fun z => ?_) (fun z => ?_)
    · have e := of_decide_eq_true z
      walk_at "rd"
      exact q (some 0) (hits_zero M0 m0 (.inr e))
    have e2 : (-st) % M + mo < M := by
      have : ¬ M ≤ (-st) % M + mo := fun y => z (decide_eq_true y)
      omega
    walk_at "rd"
    refine ⟨M0, ?_⟩
    walk_at "rd"
    refine ⟨sp % M, (-st) % M, (-st) % M + mo, M, rfl, Int.emod_nonneg _ (by omega), Int.emod_lt_of_pos _ M0, by omega, by omega, e2, M1, fun r L => ?_⟩
    exact q r (least_congr (fun k => (hits_iff M0 m0 (by omega) e2 k).symm) L)
end
end HT
namespace HT
open PySem L2
/-- a def with defaults that may be called by its name -/
structure CalD (P : Program) (w : World) (K : PySem.W.Frag) (mg : Str → Option Value) (base : Heap) (x : Str) (k : Nat) (ps : List Str) (dvs : List V) (sp : Sp) (f : Addr) (fd : FuncData) : Prop where
  ok : FnOk P w K mg base CX0 k f fd ps sp
  gl : mg x = some (.ref f)
  kp : PySem.W.keepIn K (.ref f) = true
  bd : ∃ ds, Vals dvs ds ∧ Binds K fd ps ds
theorem pcd {X : Cx} {x : Str} {k j : Nat} {ps : List Str} {dvs : List V} {sp : Sp} {f : Addr} {fd : FuncData} {e : Expr} {es : List Expr} {t : TA} {p pos : Pos} (C : CalD X.prog X.w X.K X.mg X.base x k ps dvs sp f fd) (hr : Room j X.A) (hj : k ≤ j) (hg : Gl X x) (ha : PA X (e :: es) t)
    (hdb : (x == ("__debug__" : Str)) = false := by decide) (he : starEach (e :: es) X.env = (false, eval e X.env) :: starEach es X.env := by rfl) (hpl : (backTo pos (starEach es X.env)).any (·.1) = false := by rfl) : PE X (.Call (.Name x p) (e :: es) [] pos) (tCall sp dvs E0 t) := by
  obtain ⟨ds, hv, hb⟩ := C.bd
  exact pe_call C.ok (hr.mono hj) hg C.gl C.kp hb hv pass0 ha hdb he hpl
structure MaxT (mg : Str → Option Value) : Prop where
  max : mg "max" = none
  min : mg "min" = none
def BlksAt (H' : Hp) (L : Addr) (o s : Int) (m : Str) : Prop := ∃ ps : List Addr, H' L = some (.lst (ps.map V.ref)) ∧ ps.length = (figsN s m).toNat ∧ ∀ (i : Nat) (p : Addr), ps[i]? = some p → H' p = some (blkV (o + s * (i : Int)) (below (mir m) s (i : Int)) (perM s m))
def spUnr : Sp := fun vs H Q _ => ∃ (p : Addr) (o s : Int) (m : Str), vs = [.ref p, .int 1] ∧ H p = some (sideV o s m) ∧ SideP o s m ∧ ∀ (L : Addr) (H' : Hp), H L = none → Same H H' → BlksAt H' L o s m → Q (.ref L) H'
def spRs : Sp := fun vs H Q _ => ∃ (p : Addr) (o s : Int) (m : Str), vs = [.ref p] ∧ H p = some (sideV o s m) ∧ SideP o s m ∧ ∀ H', Same H H' → Q (.bl (!decide (firstM s m = "down"))) H'
theorem blkP_of {o s k : Int} {m : Str} (S : SideP o s m) : BlkP (o + s * k) (below (mir m) s k) (perM s m) := by
  have b := below_bd (k := k) (mir_mode S.md) S.s0
  have p := perM_bd S
  have pf := per_figs (m := m) S.s0
  have fb := figs_bd (m := m) S.s0
  have s0 := S.s0
  have : s * 1 ≤ s * figsN s m := Int.mul_le_mul_of_nonneg_left (by omega) (by omega)
  exact ⟨by omega, by omega, b.1, by omega⟩
section
variable {P : Program} {w : World} {K : PySem.W.Frag} {mg : Str → Option Value} {base : Heap} {fB fH fI : Addr} {dB dH dI : FuncData}
end
end HT
namespace HT
open PySem L2
theorem back_iff {o s v y : Int} {m : Str} (hm : Mode m) (hs : 1 ≤ s) : backM o s m v ≤ y ↔ v ≤ dueM o s m y := by
  constructor
  · intro h
    exact Int.le_trans (back_ge hm hs) (due_le hm hs h)
  · intro h
    by_cases z : backM o s m v ≤ y
    · exact z
    · exfalso
      have h1 := due_le (o := o) (m := m) hm hs (show y ≤ backM o s m v - 1 by omega)
      have h2 := back_lt (o := o) (v := v) hm hs
      omega
theorem back_com {o s v : Int} {m : Str} (hm : Mode m) (hs : 1 ≤ s) (t : Int) : backM o s m (v + perM s m * t) = backM o s m v + perM s m * t := by
  have key : ∀ y, backM o s m (v + perM s m * t) ≤ y ↔ backM o s m v + perM s m * t ≤ y := fun y => by
    rw [back_iff hm hs]
    have h := due_com (o := o) (v := y - perM s m * t) hm hs t
    rw [show y - perM s m * t + perM s m * t = y by omega] at h
    rw [h]
    have h2 := back_iff (o := o) (v := v) (y := y - perM s m * t) hm hs
    omega
  have a := (key (backM o s m (v + perM s m * t))).mp (Int.le_refl _)
  have b := (key (backM o s m v + perM s m * t)).mpr (Int.le_refl _)
  omega
theorem back_pos {o s v : Int} {m : Str} (hm : Mode m) (hs : 1 ≤ s) : v + 1 ≤ backM o s m (v + s) := by
  by_cases z : backM o s m (v + s) ≤ v
  · exfalso
    have h := (back_iff hm hs).mp z
    have h2 := due_near (o := o) (v := v) hm hs
    omega
  · omega
theorem back_le {o s v : Int} {m : Str} (hm : Mode m) (hs : 1 ≤ s) : backM o s m v ≤ v + s := by
  have h := due_near (o := o) (v := v + s) hm hs
  exact (back_iff hm hs).mpr (by omega)
def dW (d : Sd) (x : Int) : Int := dueM d.o d.s d.m x
/-- there and back: by e, then by d -/
def Rd (d e : Sd) (x : Int) : Int := dW d (dW e x)
/-- the value of a figure -/
def atK (d : Sd) (k : Int) : Int := d.o + d.s * k
theorem dW_at {d : Sd} (h : SideP d.o d.s d.m) (k : Int) : dW d (atK d k) = atK d k := by
  unfold dW dueM atK
  rw [fig_at h.md h.s0]
theorem dW_is (d : Sd) (x : Int) : ∃ k, dW d x = atK d k := ⟨figM d.o d.s d.m x, rfl⟩
theorem atK_lt {d : Sd} (h : SideP d.o d.s d.m) {j k : Int} : atK d j < atK d k ↔ j < k := by
  have s0 := h.s0
  unfold atK
  constructor
  · intro z
    by_cases y : j < k
    · exact y
    · have : d.s * k ≤ d.s * j := Int.mul_le_mul_of_nonneg_left (by omega) (by omega)
      omega
  · intro z
    have : d.s * (j + 1) ≤ d.s * k := Int.mul_le_mul_of_nonneg_left (by omega) (by omega)
    rw [Int.mul_add, Int.mul_one] at this
    omega
theorem atK_le {d : Sd} (h : SideP d.o d.s d.m) {j k : Int} : atK d j ≤ atK d k ↔ j ≤ k := by
  have := atK_lt h (j := k) (k := j)
  omega
theorem atK_succ (d : Sd) (k : Int) : atK d (k + 1) = atK d k + d.s := by
  unfold atK
  rw [Int.mul_add, Int.mul_one]
  omega
theorem atK_add (d : Sd) (k n : Int) : atK d (k + n) = atK d k + d.s * n := by
  unfold atK
  rw [Int.mul_add]
  omega
theorem dW_le {d : Sd} (h : SideP d.o d.s d.m) {x y : Int} (z : x ≤ y) : dW d x ≤ dW d y := due_le h.md h.s0 z
/-- the round raises no value by a step of the wide side -/
def NotUp (d e : Sd) (x : Int) : Prop := dW e x < backM d.o d.s d.m (x + d.s)
instance (d e : Sd) (x : Int) : Decidable (NotUp d e x) := by unfold NotUp; exact inferInstance
theorem notup_iff {d e : Sd} (h : SideP d.o d.s d.m) (k : Int) : NotUp d e (atK d k) ↔ Rd d e (atK d k) ≤ atK d k := by
  unfold NotUp
  have b := back_iff (o := d.o) (v := atK d k + d.s) (y := dW e (atK d k)) h.md h.s0
  have r : dueM d.o d.s d.m (dW e (atK d k)) = Rd d e (atK d k) := rfl
  rw [r, ← atK_succ] at b
  rw [← atK_succ]
  obtain ⟨j, hj⟩ := dW_is d (dW e (atK d k))
  have hj2 : Rd d e (atK d k) = atK d j := hj
  rw [hj2] at b ⊢
  rw [atK_le h] at b
  rw [atK_le h]
  omega
theorem rd_up {d e : Sd} (h : SideP d.o d.s d.m) (he : SideP e.o e.s e.m) (le : e.s ≤ d.s) {k : Int} (z : ¬ NotUp d e (atK d k)) : Rd d e (atK d k) = atK d (k + 1) := by
  have h1 : ¬ Rd d e (atK d k) ≤ atK d k := fun y => z ((notup_iff h k).mpr y)
  have h2 : dW e (atK d k) ≤ atK d (k + 1) := by
    rw [atK_succ]
    have := due_near (o := e.o) (v := atK d k) he.md he.s0
    unfold dW
    omega
  have h3 := dW_le h h2
  rw [dW_at h] at h3
  obtain ⟨j, hj⟩ := dW_is d (dW e (atK d k))
  have hj2 : Rd d e (atK d k) = atK d j := hj
  rw [hj2] at h1 ⊢
  rw [hj] at h3
  rw [atK_le h] at h1 h3
  rw [show j = k + 1 by omega]
theorem rd_mono {d e : Sd} (h : SideP d.o d.s d.m) (he : SideP e.o e.s e.m) {x y : Int} (z : x ≤ y) : Rd d e x ≤ Rd d e y := dW_le h (dW_le he z)
def mirS (d : Sd) : Sd := ⟨-d.o, d.s, mir d.m⟩
theorem mirS_side {d : Sd} (h : SideP d.o d.s d.m) : SideP (mirS d).o (mirS d).s (mirS d).m := by
  obtain ⟨a, b, c, e, f⟩ := h
  exact ⟨by show -10 ^ 40 ≤ -d.o; omega, by show -d.o ≤ 10 ^ 40; omega, c, e, mir_mode f⟩
theorem mirS_dW {d : Sd} (h : SideP d.o d.s d.m) (x : Int) : dW (mirS d) (-x) = -dW d x := due_mirror h.md h.s0
theorem mirS_at (d : Sd) (k : Int) : atK (mirS d) k = -atK d (-k) := by
  unfold atK mirS
  show -d.o + d.s * k = -(d.o + d.s * -k)
  rw [Int.mul_neg]
  omega
theorem mirS_Rd {d e : Sd} (h : SideP d.o d.s d.m) (he : SideP e.o e.s e.m) (x : Int) : Rd (mirS d) (mirS e) (-x) = -Rd d e x := by
  unfold Rd
  rw [mirS_dW he, mirS_dW h]
/-- the figures of the blocks of what e does not raise by so much -/
def stL (e : Sd) (L f : Int) : Int := if e.o + e.s * f - L + 1 > lowM e.o e.s e.m f then e.o + e.s * f - L + 1 else lowM e.o e.s e.m f
def moL (e : Sd) (L f : Int) : Int := highM e.o e.s e.m f - stL e L f
theorem moL_pos {e : Sd} (h : SideP e.o e.s e.m) {L : Int} (hL : 1 ≤ L) (f : Int) : 0 ≤ moL e L f ∧ moL e L f < perM e.s e.m := by
  have lh := low_high (o := e.o) (k := f) h.md h.s0
  have fb := figs_bd (m := e.m) h.s0
  have pf := per_figs (m := e.m) h.s0
  have b1 := below_bd (k := f) h.md h.s0
  have b2 := below_bd (k := f) (mir_mode h.md) h.s0
  have t := touch (f - 1) h.md h.s0
  have nx := low_next (o := e.o) f h.md h.s0
  have p1 : e.s * 1 ≤ e.s * figsN e.s e.m := Int.mul_le_mul_of_nonneg_left (by omega) (by have := h.s0; omega)
  have wid : highM e.o e.s e.m f - lowM e.o e.s e.m f < perM e.s e.m := by
    rw [figs_eq h.s0] at pf
    unfold highM lowM
    by_cases he : e.m = "half_even"
    · rw [if_pos he] at pf
      omega
    · rw [if_neg he] at pf
      have tt := touch f h.md h.s0
      have bb : below e.m e.s (f + 1) = below e.m e.s f := by
        unfold below
        by_cases h1 : e.m = "down"
        · rw [if_pos h1, if_pos h1]
        · by_cases h2 : e.m = "up"
          · rw [if_neg h1, if_pos h2, if_neg h1, if_pos h2]
          · rw [if_neg h1, if_neg h2, if_neg h1, if_neg h2]
            have i1 : ∀ z : Int, (e.m = "half_up" ∨ (e.m = "half_even" ∧ z % 2 = 0)) ↔ e.m = "half_up" := fun z => ⟨fun y => y.elim id fun w => absurd w.1 he, .inl⟩
            by_cases h3 : e.m = "half_up"
            · rw [if_pos (.inl h3), if_pos (.inl h3)]
            · rw [if_neg (fun y => h3 ((i1 _).mp y)), if_neg (fun y => h3 ((i1 _).mp y))]
      omega
  unfold moL stL
  split <;> constructor <;> omega
theorem unrL_iff {e : Sd} (h : SideP e.o e.s e.m) {L v : Int} (hL : 1 ≤ L) : dW e v < v + L ↔ ∃ k, 0 ≤ k ∧ k < figsN e.s e.m ∧ InB (stL e L k) (moL e L k) (perM e.s e.m) v := by
  have hm := h.md
  have hs := h.s0
  have fb := figs_bd (m := e.m) hs
  have pf := per_figs (m := e.m) hs
  have pp : e.s ≤ perM e.s e.m := by
    rw [pf]
    have : e.s * 1 ≤ e.s * figsN e.s e.m := Int.mul_le_mul_of_nonneg_left (by omega) (by omega)
    omega
  constructor
  · intro hh
    have hh : dueM e.o e.s e.m v < v + L := hh
    have e0 := Int.emod_add_mul_ediv (figM e.o e.s e.m v) (figsN e.s e.m)
    refine ⟨figM e.o e.s e.m v % figsN e.s e.m, Int.emod_nonneg _ (by omega), Int.emod_lt_of_pos _ (by omega), ?_⟩
    generalize hk : figM e.o e.s e.m v % figsN e.s e.m = k at *
    generalize hj : figM e.o e.s e.m v / figsN e.s e.m = j at *
    have ev : v = (v - perM e.s e.m * j) + perM e.s e.m * j := by omega
    have dc := due_com (o := e.o) (v := v - perM e.s e.m * j) hm hs j
    rw [← ev] at dc
    have es : e.s * figM e.o e.s e.m v = e.s * k + perM e.s e.m * j := by
      rw [← e0, Int.mul_add, pf, Int.mul_assoc]
    have ed : dueM e.o e.s e.m v = e.o + e.s * k + perM e.s e.m * j := by
      unfold dueM
      omega
    have ed2 : dueM e.o e.s e.m (v - perM e.s e.m * j) = e.o + e.s * k := by omega
    have ef : figM e.o e.s e.m (v - perM e.s e.m * j) = k := by
      unfold dueM at ed2
      exact Int.eq_of_mul_eq_mul_left (show e.s ≠ 0 by omega) (by omega)
    obtain ⟨lo, hi⟩ := (fig_iff hm hs).mp ef
    have mp := moL_pos h hL k
    have sl : stL e L k ≤ v - perM e.s e.m * j := by
      unfold stL
      split <;> omega
    have sh : v - perM e.s e.m * j - stL e L k ≤ moL e L k := by
      unfold moL
      omega
    exact inb_of (t := j) (r := v - perM e.s e.m * j - stL e L k) (by omega) (by omega) (by omega) sh
  · rintro ⟨k, k0, k1, hh⟩
    obtain ⟨t, r, e1, e2, e3, e4⟩ := inb_at (by omega) hh
    have lh := low_high (o := e.o) (k := k) hm hs
    have sl : lowM e.o e.s e.m k ≤ stL e L k ∧ e.o + e.s * k - L + 1 ≤ stL e L k := by
      unfold stL
      split <;> omega
    have sh : stL e L k + r ≤ highM e.o e.s e.m k := by
      unfold moL at e3
      omega
    have ef : figM e.o e.s e.m (stL e L k + r) = k := (fig_iff hm hs).mpr ⟨by omega, sh⟩
    have dc := due_com (o := e.o) (v := stL e L k + r) hm hs t
    rw [show stL e L k + r + perM e.s e.m * t = v by omega] at dc
    have ed : dueM e.o e.s e.m (stL e L k + r) = e.o + e.s * k := by
      unfold dueM
      rw [ef]
    show dueM e.o e.s e.m v < v + L
    omega
end HT
namespace HT
open PySem L2
/-- the values as far as n steps of the wide side -/
def upP (d e : Sd) (v : Int) (n : Nat) : Prop := NotUp d e (v + d.s * (n : Int))
/-- what rounds_up has found so far -/
structure RuF (d e : Sd) (v : Int) (ys : List Int) (done : Nat → Nat → Prop) : Prop where
  tr : ∀ y ∈ ys, ∃ n : Nat, y = (n : Int) ∧ upP d e v n
  al : ∀ t f k : Nat, done t f → HitS (v + d.s * (t : Int) - stL e (backM d.o d.s d.m (v + d.s * (t : Int) + d.s) - (v + d.s * (t : Int))) (f : Int)) (figsN d.s d.m * d.s) (moL e (backM d.o d.s d.m (v + d.s * (t : Int) + d.s) - (v + d.s * (t : Int))) (f : Int)) (perM e.s e.m) k → ∃ y ∈ ys, y ≤ (t : Int) + figsN d.s d.m * (k : Int)
def lessT (d : Sd) (v : Int) (t : Nat) : Int := backM d.o d.s d.m (v + d.s * (t : Int) + d.s) - (v + d.s * (t : Int))
theorem less_pos {d : Sd} (h : SideP d.o d.s d.m) (v : Int) (t : Nat) : 1 ≤ lessT d v t ∧ lessT d v t ≤ 2 * d.s := by
  have a := back_pos (o := d.o) (v := v + d.s * (t : Int)) h.md h.s0
  have b := back_le (o := d.o) (v := v + d.s * (t : Int) + d.s) h.md h.s0
  unfold lessT
  omega
/-- a hit is a value that the round does not raise -/
theorem hit_up {d e : Sd} (h : SideP d.o d.s d.m) (he : SideP e.o e.s e.m) (v : Int) (t k : Nat) : upP d e v (t + (figsN d.s d.m).toNat * k) ↔ ∃ f : Nat, (f : Int) < figsN e.s e.m ∧ HitS (v + d.s * (t : Int) - stL e (lessT d v t) (f : Int)) (figsN d.s d.m * d.s) (moL e (lessT d v t) (f : Int)) (perM e.s e.m) k := by
  have fb := figs_bd (m := d.m) h.s0
  have pf := per_figs (m := d.m) h.s0
  obtain ⟨l1, _⟩ := less_pos h v t
  have ex : v + d.s * ((t + (figsN d.s d.m).toNat * k : Nat) : Int) = v + d.s * (t : Int) + perM d.s d.m * (k : Int) := by
    have e1 : ((t + (figsN d.s d.m).toNat * k : Nat) : Int) = (t : Int) + figsN d.s d.m * (k : Int) := by
      rw [Int.natCast_add, Int.natCast_mul, Int.toNat_of_nonneg (by omega)]
    rw [e1, Int.mul_add, pf, ← Int.mul_assoc]
    omega
  have bc := back_com (o := d.o) (v := v + d.s * (t : Int) + d.s) h.md h.s0 (k : Int)
  have e2 : backM d.o d.s d.m (v + d.s * (t : Int) + perM d.s d.m * (k : Int) + d.s) = v + d.s * (t : Int) + perM d.s d.m * (k : Int) + lessT d v t := by
    rw [show v + d.s * (t : Int) + perM d.s d.m * (k : Int) + d.s = v + d.s * (t : Int) + d.s + perM d.s d.m * (k : Int) by omega, bc]
    unfold lessT
    omega
  have e5 : figsN d.s d.m * d.s * (k : Int) = perM d.s d.m * (k : Int) := by rw [pf, Int.mul_comm d.s (figsN d.s d.m)]
  unfold upP NotUp
  rw [ex, e2, unrL_iff he l1]
  constructor
  · rintro ⟨f, f0, f1, hh⟩
    obtain ⟨n, rfl⟩ := Int.eq_ofNat_of_zero_le f0
    refine ⟨n, f1, ?_⟩
    unfold HitS
    unfold InB at hh
    rw [show v + d.s * (t : Int) - stL e (lessT d v t) (n : Int) + figsN d.s d.m * d.s * (k : Int) = v + d.s * (t : Int) + perM d.s d.m * (k : Int) - stL e (lessT d v t) (n : Int) by rw [e5]; omega]
    exact hh
  · rintro ⟨n, f1, hh⟩
    refine ⟨n, by omega, f1, ?_⟩
    unfold InB
    unfold HitS at hh
    rw [show v + d.s * (t : Int) - stL e (lessT d v t) (n : Int) + figsN d.s d.m * d.s * (k : Int) = v + d.s * (t : Int) + perM d.s d.m * (k : Int) - stL e (lessT d v t) (n : Int) by rw [e5]; omega] at hh
    exact hh
/-- the least of what is found -/
theorem ru_least {d e : Sd} (h : SideP d.o d.s d.m) (he : SideP e.o e.s e.m) {v : Int} {ys : List Int} (R : RuF d e v ys fun t f => (t : Int) < figsN d.s d.m ∧ (f : Int) < figsN e.s e.m) : (ys = [] → Least (upP d e v) none) ∧ ∀ y ∈ ys, (∀ z ∈ ys, y ≤ z) → Least (upP d e v) (some y.toNat) ∧ 0 ≤ y := by
  have fb := figs_bd (m := d.m) h.s0
  have key : ∀ n, upP d e v n → ∃ y ∈ ys, y ≤ (n : Int) := by
    intro n hn
    have e0 := Nat.mod_add_div n (figsN d.s d.m).toNat
    have lt := Nat.mod_lt n (show 0 < (figsN d.s d.m).toNat by omega)
    rw [← e0] at hn
    obtain ⟨f, f1, hh⟩ := (hit_up h he v _ _).mp hn
    obtain ⟨y, hy, le⟩ := R.al _ f _ ⟨by omega, f1⟩ hh
    refine ⟨y, hy, ?_⟩
    have e1 : (n : Int) = ((n % (figsN d.s d.m).toNat : Nat) : Int) + figsN d.s d.m * ((n / (figsN d.s d.m).toNat : Nat) : Int) := by
      have e2 : ((figsN d.s d.m).toNat : Int) = figsN d.s d.m := Int.toNat_of_nonneg (by omega)
      have e3 : ((n % (figsN d.s d.m).toNat + (figsN d.s d.m).toNat * (n / (figsN d.s d.m).toNat) : Nat) : Int) = (n : Int) := by rw [e0]
      rw [Int.natCast_add, Int.natCast_mul, e2] at e3
      exact e3.symm
    omega
  constructor
  · rintro rfl n hn
    obtain ⟨y, hy, _⟩ := key n hn
    exact List.not_mem_nil hy
  · intro y hy mn
    obtain ⟨n, rfl, hn⟩ := R.tr y hy
    refine ⟨⟨by rw [Int.toNat_natCast]; exact hn, fun j hj c => ?_⟩, by omega⟩
    obtain ⟨z, hz, le⟩ := key j c
    have := mn z hz
    omega
end HT
namespace HT
open PySem L2
def it (f : Int → Int) : Nat → Int → Int
  | 0, x => x
  | n + 1, x => f (it f n x)
/-- it settles at E behind r rounds -/
def Stl (f : Int → Int) (v E : Int) (r : Nat) : Prop := it f r v = E ∧ f E = E ∧ ∀ i, i < r → it f (i + 1) v ≠ it f i v
theorem it_fix {f : Int → Int} {v : Int} {n : Nat} (h : it f (n + 1) v = it f n v) : ∀ m, it f (n + m) v = it f n v
  | 0 => rfl
  | m + 1 => by
    have ih := it_fix h m
    show f (it f (n + m) v) = _
    rw [ih]
    exact h
theorem stl_uniq {f : Int → Int} {v E E' : Int} {r r' : Nat} (h : Stl f v E r) (h' : Stl f v E' r') : E = E' ∧ r = r' := by
  have key : ∀ {E E' : Int} {r r' : Nat}, Stl f v E r → Stl f v E' r' → ¬ r < r' := by
    intro E E' r r' h h' lt
    obtain ⟨a, b, _⟩ := h
    refine h'.2.2 r lt ?_
    show f (it f r v) = it f r v
    rw [a]
    exact b
  have e : r = r' := by
    have a := key h h'
    have b := key h' h
    omega
  subst e
  exact ⟨h.1.symm.trans h'.1, rfl⟩
/-- a remainder comes again -/
def RepP (f : Int → Int) (L v c : Int) : Prop := ∃ (j i : Nat) (t : Int), j < i ∧ it f i v = it f j v + L * t ∧ c = (it f i v - it f j v) / ((i - j : Nat) : Int) ∧ ∀ k, k < i → it f (k + 1) v ≠ it f k v
/-- it creeps -/
def Crp (f : Int → Int) (L v c : Int) : Prop := c ≠ 0 ∧ ∃ g : Int → Int, (∀ x t, g (x + L * t) = g x + L * t) ∧ ∀ i : Nat, g (it f i v) = g v + c * (i : Int)
theorem it_shift {f : Int → Int} {L : Int} (hf : ∀ x t, f (x + L * t) = f x + L * t) {v : Int} {i j : Nat} {t : Int} (h : it f i v = it f j v + L * t) : ∀ k, it f (i + k) v = it f (j + k) v + L * t
  | 0 => h
  | k + 1 => by
    show f (it f (i + k) v) = f (it f (j + k) v) + L * t
    rw [it_shift hf h k, hf]
theorem stl_rep {f : Int → Int} {L v E c : Int} {r : Nat} (hf : ∀ x t, f (x + L * t) = f x + L * t) (h : Stl f v E r) (h' : RepP f L v c) : False := by
  obtain ⟨j, i, t, ji, e, _, ne⟩ := h'
  obtain ⟨a, b, d⟩ := h
  have ri : i ≤ r := by
    by_cases z : i ≤ r
    · exact z
    · exfalso
      refine ne r (by omega) ?_
      show f (it f r v) = it f r v
      rw [a]
      exact b
  have s1 := it_shift hf e (r - i)
  have s2 := it_shift hf e (r - i + 1)
  rw [show i + (r - i) = r by omega] at s1
  rw [show i + (r - i + 1) = r + 1 by omega] at s2
  have s3 : it f (r + 1) v = it f r v := by
    show f (it f r v) = it f r v
    rw [a]
    exact b
  refine d (j + (r - i)) (by omega) ?_
  show it f (j + (r - i) + 1) v = _
  rw [show j + (r - i) + 1 = j + (r - i + 1) by omega]
  omega
theorem stl_crp {f : Int → Int} {L v E c : Int} {r : Nat} (h : Stl f v E r) (h' : Crp f L v c) : False := by
  obtain ⟨c0, g, _, hg⟩ := h'
  obtain ⟨a, b, _⟩ := h
  have s3 : it f (r + 1) v = it f r v := by
    show f (it f r v) = it f r v
    rw [a]
    exact b
  have h1 := hg r
  have h2 := hg (r + 1)
  rw [s3, h1, show ((r + 1 : Nat) : Int) = (r : Int) + 1 by omega, Int.mul_add, Int.mul_one] at h2
  omega
theorem rep_crp {f : Int → Int} {L v c c' : Int} (h : RepP f L v c') (h' : Crp f L v c) : c' = c := by
  obtain ⟨j, i, t, ji, e, ec, _⟩ := h
  obtain ⟨c0, g, gp, hg⟩ := h'
  have h1 := hg i
  rw [e, gp, hg j] at h1
  have e2 : it f i v - it f j v = c * ((i - j : Nat) : Int) := by
    rw [show ((i - j : Nat) : Int) = (i : Int) - (j : Int) by omega, Int.mul_sub]
    omega
  rw [ec, e2, Int.mul_ediv_cancel _ (by omega)]
theorem crp_ne {f : Int → Int} {L v c : Int} (h : Crp f L v c) (k : Nat) : it f (k + 1) v ≠ it f k v := by
  intro z
  obtain ⟨c0, g, _, hg⟩ := h
  have h1 := hg k
  have h2 := hg (k + 1)
  rw [z, h1, show ((k + 1 : Nat) : Int) = (k : Int) + 1 by omega, Int.mul_add, Int.mul_one] at h2
  omega
theorem least_ex {P : Nat → Prop} : (∃ n, P n) → ∃ r, Least P (some r) := by
  rintro ⟨n, hn⟩
  induction n using Nat.strongRecOn with
  | _ n ih =>
    by_cases z : ∃ m, m < n ∧ P m
    · obtain ⟨m, lt, hm⟩ := z
      exact ih m lt hm
    · exact ⟨n, hn, fun j hj c => z ⟨j, hj, c⟩⟩
/-! ### the two sides -/
def perL (d e : Sd) : Int := ((comN [d, e] : Nat) : Int)
theorem perL_pos {d e : Sd} (h : SideP d.o d.s d.m) (he : SideP e.o e.s e.m) : 0 < perL d e := by
  have := com_pos [d, e] 1 (by decide) (fun x hx => by
    simp only [List.mem_cons, List.not_mem_nil, or_false] at hx
    rcases hx with rfl | rfl
    · exact h
    · exact he)
  show 0 < (([d, e].foldl (fun n d => n.lcm (perN d)) 1 : Nat) : Int)
  omega
theorem comD : ∀ (ss : List Sd) (n : Nat), n ∣ ss.foldl (fun n d => n.lcm (perN d)) n ∧ ∀ d ∈ ss, perN d ∣ ss.foldl (fun n d => n.lcm (perN d)) n
  | [], n => ⟨Nat.dvd_refl _, fun d h => absurd h List.not_mem_nil⟩
  | d :: ss, n => by
    obtain ⟨a, b⟩ := comD ss (n.lcm (perN d))
    rw [List.foldl_cons]
    refine ⟨Nat.dvd_trans (Nat.dvd_lcm_left _ _) a, fun e he => ?_⟩
    rcases List.mem_cons.mp he with z | z
    · rw [z]; exact Nat.dvd_trans (Nat.dvd_lcm_right _ _) a
    · exact b e z
theorem per_in {ss : List Sd} {d : Sd} (h : d ∈ ss) (hd : SideP d.o d.s d.m) : perM d.s d.m ∣ (comN ss : Int) := by
  have pa := perM_bd hd
  have ea : ((perN d : Nat) : Int) = perM d.s d.m := Int.toNat_of_nonneg (by omega)
  rw [← ea]
  exact Int.natCast_dvd_natCast.mpr ((comD ss 1).2 d h)
theorem dW_per {d : Sd} {ss : List Sd} (h : SideP d.o d.s d.m) (hin : d ∈ ss) (x t : Int) : dW d (x + (comN ss : Int) * t) = dW d x + (comN ss : Int) * t :=
  due_dvd h.md h.s0 (Int.dvd_mul_of_dvd_left (per_in hin h))
theorem rd_per {d e : Sd} {ss : List Sd} (h : SideP d.o d.s d.m) (he : SideP e.o e.s e.m) (hd : d ∈ ss) (hee : e ∈ ss) (x t : Int) : Rd d e (x + (comN ss : Int) * t) = Rd d e x + (comN ss : Int) * t := by
  unfold Rd
  rw [dW_per he hee, dW_per h hd]
theorem step_in {d e : Sd} (h : SideP d.o d.s d.m) (he : SideP e.o e.s e.m) : ∃ j : Int, 1 ≤ j ∧ perL d e = d.s * j := by
  have s0 := h.s0
  obtain ⟨t, ht⟩ := per_in (ss := [d, e]) List.mem_cons_self h
  have pf := per_figs (m := d.m) h.s0
  have pp := perL_pos h he
  refine ⟨figsN d.s d.m * t, ?_, ?_⟩
  · by_cases z : 1 ≤ figsN d.s d.m * t
    · exact z
    · exfalso
      have : d.s * (figsN d.s d.m * t) ≤ d.s * 0 := Int.mul_le_mul_of_nonneg_left (by omega) (by omega)
      rw [← Int.mul_assoc, ← pf] at this
      have e2 : perL d e = perM d.s d.m * t := ht
      omega
  · show (comN [d, e] : Int) = _
    rw [ht, pf, Int.mul_assoc]
/-- what pace tells, of the wide and the narrow one -/
def CreepP (d e : Sd) (c : Int) : Prop := (c = d.s ∧ ∀ k, Rd d e (atK d k) = atK d (k + 1)) ∨ (c = -d.s ∧ ∀ k, Rd d e (atK d k) = atK d (k - 1)) ∨ (c = 0 ∧ (∃ k, Rd d e (atK d k) ≤ atK d k) ∧ ∃ k, atK d k ≤ Rd d e (atK d k))
theorem far {k j : Int} (hj : 1 ≤ j) (k0 : Int) : ∃ t : Int, 0 ≤ t ∧ k0 ≤ k + j * t := by
  refine ⟨((k0 - k).natAbs : Int), by omega, ?_⟩
  have : 1 * ((k0 - k).natAbs : Int) ≤ j * ((k0 - k).natAbs : Int) := Int.mul_le_mul_of_nonneg_right hj (by omega)
  omega
theorem rd_at {d e : Sd} (h : SideP d.o d.s d.m) (he : SideP e.o e.s e.m) {j : Int} (hj : perL d e = d.s * j) (k t : Int) : Rd d e (atK d (k + j * t)) = Rd d e (atK d k) + d.s * (j * t) := by
  have := rd_per (ss := [d, e]) h he (by simp) (by simp) (atK d k) t
  have e1 : (comN [d, e] : Int) * t = d.s * (j * t) := by
    show perL d e * t = _
    rw [hj, Int.mul_assoc]
  rw [e1] at this
  rw [atK_add]
  exact this
theorem creep_up {d e : Sd} (h : SideP d.o d.s d.m) (he : SideP e.o e.s e.m) (le : e.s ≤ d.s) (no : Least (upP d e d.o) none) (k : Int) : Rd d e (atK d k) = atK d (k + 1) := by
  obtain ⟨j, j1, hj⟩ := step_in h he
  obtain ⟨t, t0, ht⟩ := far (k := k) j1 0
  obtain ⟨n, hn⟩ := Int.eq_ofNat_of_zero_le ht
  have h1 : ¬ NotUp d e (atK d (n : Int)) := no n
  have h2 := rd_up h he le h1
  rw [← hn, rd_at h he hj, show k + j * t + 1 = k + 1 + j * t by omega, atK_add d (k + 1)] at h2
  omega
theorem not_creep {d e : Sd} (h : SideP d.o d.s d.m) (he : SideP e.o e.s e.m) {k1 : Int} (no : Rd d e (atK d k1) ≤ atK d k1) (k0 : Int) : ∃ n, upP d e (atK d k0) n := by
  obtain ⟨j, j1, hj⟩ := step_in h he
  obtain ⟨t, t0, ht⟩ := far (k := k1) j1 k0
  refine ⟨(k1 + j * t - k0).toNat, ?_⟩
  unfold upP
  rw [← atK_add, Int.toNat_of_nonneg (by omega), show k0 + (k1 + j * t - k0) = k1 + j * t by omega, notup_iff h, rd_at h he hj, atK_add]
  omega
/-- it settles on the wide side -/
def SetW (d e : Sd) (v E : Int) (r : Nat) : Prop := ∃ c : Int, (c = d.s ∨ c = -d.s) ∧ E = v + c * (r : Int) ∧ (∀ i : Nat, i < r → Rd d e (v + c * (i : Int)) = v + c * (i : Int) + c) ∧ Rd d e E = E
theorem up_set {d e : Sd} (h : SideP d.o d.s d.m) (he : SideP e.o e.s e.m) (le : e.s ≤ d.s) {k : Int} {r : Nat} (nl : atK d k ≤ Rd d e (atK d k)) (L : Least (upP d e (atK d k)) (some r)) : SetW d e (atK d k) (atK d k + d.s * (r : Int)) r := by
  have st : ∀ i : Nat, i < r → Rd d e (atK d k + d.s * (i : Int)) = atK d k + d.s * (i : Int) + d.s := fun i hi => by
    have h1 := L.2 i hi
    unfold upP at h1
    rw [← atK_add] at h1 ⊢
    rw [rd_up h he le h1, atK_succ]
  refine ⟨d.s, .inl rfl, rfl, st, ?_⟩
  have h1 := L.1
  unfold upP at h1
  rw [← atK_add] at h1 ⊢
  have h2 := (notup_iff h _).mp h1
  have h3 : atK d (k + (r : Int)) ≤ Rd d e (atK d (k + (r : Int))) := by
    cases r with
    | zero =>
      rw [show k + ((0 : Nat) : Int) = k by omega]
      exact nl
    | succ n =>
      have h4 := st n (by omega)
      rw [← atK_add, ← atK_succ] at h4
      have h5 := rd_mono h he (show atK d (k + (n : Int)) ≤ atK d (k + ((n + 1 : Nat) : Int)) from (atK_le h).mpr (by omega))
      rw [h4] at h5
      rw [show k + ((n + 1 : Nat) : Int) = k + (n : Int) + 1 by omega] at h5 ⊢
      exact h5
  omega
theorem down_set {d e : Sd} (h : SideP d.o d.s d.m) (he : SideP e.o e.s e.m) (le : e.s ≤ d.s) {k : Int} {r : Nat} (nl : Rd d e (atK d k) ≤ atK d k) (L : Least (upP (mirS d) (mirS e) (-atK d k)) (some r)) : SetW d e (atK d k) (atK d k - d.s * (r : Int)) r := by
  have ea : -atK d k = atK (mirS d) (-k) := by rw [mirS_at, Int.neg_neg]
  rw [ea] at L
  have nl2 : atK (mirS d) (-k) ≤ Rd (mirS d) (mirS e) (atK (mirS d) (-k)) := by
    rw [← ea, mirS_Rd h he]
    omega
  obtain ⟨c, hc, eE, st, fx⟩ := up_set (mirS_side h) (mirS_side he) le nl2 L
  have c' : c = d.s ∨ c = -d.s := hc
  have eE2 : atK (mirS d) (-k) + (mirS d).s * (r : Int) = atK (mirS d) (-k) + c * (r : Int) := eE
  have ms : (mirS d).s = d.s := rfl
  rw [ms] at eE2 fx
  rw [← ea] at st fx eE2
  refine ⟨-c, by omega, ?_, fun i hi => ?_, ?_⟩
  · rw [Int.neg_mul]
    omega
  · have h1 := st i hi
    rw [show -atK d k + c * (i : Int) = -(atK d k + -c * (i : Int)) by rw [Int.neg_mul]; omega, mirS_Rd h he] at h1
    omega
  · rw [show -atK d k + d.s * (r : Int) = -(atK d k - d.s * (r : Int)) by omega, mirS_Rd h he] at fx
    omega
theorem setw_it {d e : Sd} {v E : Int} {r : Nat} {c : Int} (st : ∀ i : Nat, i < r → Rd d e (v + c * (i : Int)) = v + c * (i : Int) + c) : ∀ i : Nat, i ≤ r → it (Rd d e) i v = v + c * (i : Int)
  | 0, _ => by show v = _; simp
  | i + 1, h => by
    show Rd d e (it (Rd d e) i v) = _
    rw [setw_it (E := E) st i (by omega), st i (by omega), show ((i + 1 : Nat) : Int) = (i : Int) + 1 by omega, Int.mul_add, Int.mul_one]
    omega
theorem setw_stl {d e : Sd} (h : SideP d.o d.s d.m) {v E : Int} {r : Nat} (S : SetW d e v E r) : Stl (Rd d e) v E r := by
  obtain ⟨c, hc, eE, st, fx⟩ := S
  have s0 := h.s0
  have ei := setw_it (E := E) st
  refine ⟨by rw [ei r (Nat.le_refl _)]; exact eE.symm, fx, fun i hi => ?_⟩
  rw [ei i (by omega), ei (i + 1) (by omega), show ((i + 1 : Nat) : Int) = (i : Int) + 1 by omega, Int.mul_add, Int.mul_one]
  rcases hc with e1 | e1 <;> omega
/-- the narrow side is the first one -/
def fT (a b : Sd) (x : Int) : Int := dW a (dW b x)
def lastN (d e : Sd) (y w0 E : Int) : Int := if w0 < E then dW e (E - d.s) else if E < w0 then dW e (E + d.s) else y
theorem setn_stl {d e : Sd} (h : SideP d.o d.s d.m) {y E : Int} {r : Nat} (S : SetW d e (dW d y) E r) : Stl (fT e d) y (dW e E) (if lastN d e y (dW d y) E = dW e E then r else r + 1) := by
  obtain ⟨c, hc, eE, st, fx⟩ := S
  have s0 := h.s0
  have ei : ∀ i : Nat, i ≤ r → dW d (it (fT e d) i y) = dW d y + c * (i : Int) := by
    intro i
    induction i with
    | zero => intro _; show dW d y = _; simp
    | succ i ih =>
      intro hi
      show dW d (dW e (dW d (it (fT e d) i y))) = _
      rw [ih (by omega)]
      have := st i (by omega)
      unfold Rd at this
      rw [this, show ((i + 1 : Nat) : Int) = (i : Int) + 1 by omega, Int.mul_add, Int.mul_one]
      omega
  have e1 : it (fT e d) (r + 1) y = dW e E := by
    show dW e (dW d (it (fT e d) r y)) = _
    rw [ei r (Nat.le_refl _), ← eE]
  have fx2 : fT e d (dW e E) = dW e E := by
    show dW e (dW d (dW e E)) = _
    have : dW d (dW e E) = E := fx
    rw [this]
  have ne : ∀ i, i < r → it (fT e d) (i + 1) y ≠ it (fT e d) i y := by
    intro i hi z
    have h1 := ei i (by omega)
    have h2 := ei (i + 1) (by omega)
    rw [z, h1, show ((i + 1 : Nat) : Int) = (i : Int) + 1 by omega, Int.mul_add, Int.mul_one] at h2
    rcases hc with e1 | e1 <;> omega
  have el : it (fT e d) r y = lastN d e y (dW d y) E := by
    unfold lastN
    cases r with
    | zero =>
      have : E = dW d y := by rw [eE]; simp
      rw [if_neg (by omega), if_neg (by omega)]
      rfl
    | succ n =>
      have h1 : it (fT e d) (n + 1) y = dW e (dW d y + c * (n : Int)) := by
        show dW e (dW d (it (fT e d) n y)) = _
        rw [ei n (by omega)]
      have h2 : E = dW d y + c * (n : Int) + c := by
        rw [eE, show ((n + 1 : Nat) : Int) = (n : Int) + 1 by omega, Int.mul_add, Int.mul_one]
        omega
      rw [h1]
      rcases hc with e1 | e1
      · have p : 0 ≤ c * (n : Int) := Int.mul_nonneg (by omega) (by omega)
        rw [if_pos (by omega)]
        congr 1
        omega
      · have p : (-c) * (n : Int) ≥ 0 := Int.mul_nonneg (by omega) (by omega)
        rw [Int.neg_mul] at p
        rw [if_neg (by omega), if_pos (by omega)]
        congr 1
        omega
  by_cases z : lastN d e y (dW d y) E = dW e E
  · rw [if_pos z]
    exact ⟨el.trans z, fx2, ne⟩
  · rw [if_neg z]
    refine ⟨e1, fx2, fun i hi => ?_⟩
    by_cases y' : i < r
    · exact ne i y'
    · obtain rfl : i = r := by omega
      rw [e1, el]
      exact fun w => z w.symm
/-- a creeping value creeps from each side -/
theorem creep_crp {d e : Sd} (h : SideP d.o d.s d.m) {c : Int} (ch : (c = d.s ∧ ∀ k, Rd d e (atK d k) = atK d (k + 1)) ∨ (c = -d.s ∧ ∀ k, Rd d e (atK d k) = atK d (k - 1))) : c ≠ 0 ∧ ∀ k, Rd d e (atK d k) = atK d k + c := by
  have s0 := h.s0
  rcases ch with ⟨e1, st⟩ | ⟨e1, st⟩
  · exact ⟨by omega, fun k => by rw [st, atK_succ, e1]⟩
  · refine ⟨by omega, fun k => ?_⟩
    rw [st]
    have := atK_succ d (k - 1)
    rw [show k - 1 + 1 = k by omega] at this
    omega
theorem crp_wide {d e : Sd} (h : SideP d.o d.s d.m) {ss : List Sd} (hd : d ∈ ss) {c : Int} (ch : c ≠ 0 ∧ ∀ k, Rd d e (atK d k) = atK d k + c) (v : Int) : Crp (fT d e) (comN ss : Int) (dW d v) c := by
  obtain ⟨c0, st⟩ := ch
  refine ⟨c0, dW d, dW_per h hd, fun i => ?_⟩
  obtain ⟨k, hk⟩ := dW_is d v
  have ei : ∀ i : Nat, ∃ k', it (fT d e) i (dW d v) = atK d k' ∧ atK d k' = dW d v + c * (i : Int) := by
    intro i
    induction i with
    | zero => exact ⟨k, hk, by rw [← hk]; simp⟩
    | succ i ih =>
      obtain ⟨k', e1, e2⟩ := ih
      have h1 : it (fT d e) (i + 1) (dW d v) = Rd d e (atK d k') := by
        show fT d e (it (fT d e) i (dW d v)) = _
        rw [e1]
        rfl
      rw [h1]
      obtain ⟨k2, hk2⟩ := dW_is d (dW e (atK d k'))
      have hk3 : Rd d e (atK d k') = atK d k2 := hk2
      refine ⟨k2, hk3, ?_⟩
      rw [← hk3, st, e2, show ((i + 1 : Nat) : Int) = (i : Int) + 1 by omega, Int.mul_add, Int.mul_one]
      omega
  obtain ⟨k', e1, e2⟩ := ei i
  rw [e1, dW_at h, e2, hk, dW_at h]
theorem crp_narrow {d e : Sd} (h : SideP d.o d.s d.m) {ss : List Sd} (hd : d ∈ ss) {c : Int} (ch : c ≠ 0 ∧ ∀ k, Rd d e (atK d k) = atK d k + c) (y : Int) : Crp (fT e d) (comN ss : Int) y c := by
  obtain ⟨c0, st⟩ := ch
  refine ⟨c0, dW d, dW_per h hd, fun i => ?_⟩
  induction i with
  | zero => show dW d y = _; simp
  | succ i ih =>
    show dW d (dW e (dW d (it (fT e d) i y))) = _
    obtain ⟨k, hk⟩ := dW_is d (it (fT e d) i y)
    have h1 := st k
    unfold Rd at h1
    rw [hk, h1, ← hk, ih, show ((i + 1 : Nat) : Int) = (i : Int) + 1 by omega, Int.mul_add, Int.mul_one]
    omega
theorem creep_uniq {d e : Sd} (h : SideP d.o d.s d.m) {c c' : Int} (a : CreepP d e c) (b : CreepP d e c') : c = c' := by
  have s0 := h.s0
  have two : ∀ {c c' : Int}, CreepP d e c → CreepP d e c' → c ≠ c' → (c = d.s ∨ c = -d.s) → (c' = d.s ∨ c' = -d.s) → False := by
    intro c c' a b ne _ _
    rcases a with ⟨e1, st⟩ | ⟨e1, st⟩ | ⟨e1, _⟩ <;> rcases b with ⟨e2, st2⟩ | ⟨e2, st2⟩ | ⟨e2, _⟩ <;> try omega
    · have h1 := st 0
      rw [st2 0] at h1
      have := (atK_lt h (j := 0 - 1) (k := 0 + 1)).mpr (by omega)
      omega
    · have h1 := st 0
      rw [st2 0] at h1
      have := (atK_lt h (j := 0 - 1) (k := 0 + 1)).mpr (by omega)
      omega
  have zero : ∀ {c : Int}, CreepP d e c → (∃ k, Rd d e (atK d k) ≤ atK d k) → (∃ k, atK d k ≤ Rd d e (atK d k)) → c = 0 := by
    intro c a ⟨k1, h1⟩ ⟨k2, h2⟩
    rcases a with ⟨e1, st⟩ | ⟨e1, st⟩ | ⟨e1, _⟩
    · exfalso
      rw [st, atK_le h] at h1
      omega
    · exfalso
      rw [st, atK_le h] at h2
      omega
    · exact e1
  have a2 := a
  have b2 := b
  rcases a2 with ⟨e1, st⟩ | ⟨e1, st⟩ | ⟨e1, x, y⟩
  · rcases b2 with ⟨e2, st2⟩ | ⟨e2, st2⟩ | ⟨e2, x, y⟩
    · omega
    · by_cases z : c = c'
      · exact z
      · exact (two a b z (.inl e1) (.inr e2)).elim
    · rw [e2]; exact zero a x y
  · rcases b2 with ⟨e2, st2⟩ | ⟨e2, st2⟩ | ⟨e2, x, y⟩
    · by_cases z : c = c'
      · exact z
      · exact (two a b z (.inr e1) (.inl e2)).elim
    · omega
    · rw [e2]; exact zero a x y
  · rw [e1]; exact (zero b x y).symm
end HT
namespace HT
open PySem L2
def BlksL (H' : Hp) (A : Addr) (d : Sd) (L : Int) : Prop := ∃ ps : List Addr, H' A = some (.lst (ps.map V.ref)) ∧ ps.length = (figsN d.s d.m).toNat ∧ ∀ (i : Nat) (b : Addr), ps[i]? = some b → H' b = some (blkV (stL d L (i : Int)) (moL d L (i : Int)) (perM d.s d.m))
def spUnrL : Sp := fun vs H Q _ => ∃ (p : Addr) (d : Sd) (L : Int), vs = [.ref p, .int L] ∧ H p = some (sideV d.o d.s d.m) ∧ SideP d.o d.s d.m ∧ 1 ≤ L ∧ L < 2 ^ 200 ∧ ∀ (A : Addr) (H' : Hp), H A = none → Same H H' → BlksL H' A d L → Q (.ref A) H'
section
variable {P : Program} {w : World} {K : PySem.W.Frag} {mg : Str → Option Value} {base : Heap} {fB fH fI : Addr} {dB dH dI : FuncData}
theorem ok_unrL {f : Addr} {fd : FuncData} (F : FunD K "unraised" "unraised" (defArgs s_unraised) (defBody s_unraised) (defScope s_unraised) [.int 1] [] f fd) (B : Blt mg) (MT : MaxT mg) (Pe : Cal P w K mg base "period_of" 1 ["side"] spPerOf fB dB) (Sp' : Cal P w K mg base "span" 4 ["side", "figure"] spSpan fH dH) : FnOk P w K mg base CX0 5 f fd ["side", "least"] spUnrL := by
  refine F.ok sc_unraised (fun vs H Q E h => ?_) (fun cdv A outer s0 H vs Q E hr h => ?_)
  · obtain ⟨p, d, L0, rfl, _⟩ := h
    rfl
  · obtain ⟨p, ⟨o, s, m⟩, L0, rfl, hp, S, l1, l2, q⟩ := h
    dsimp only at hp S
    have nd := sc_unraised.nd
    refine ⟨_, (pss_cons (ps_asg (pv 0) (pg_tup (by rfl) (pgs_cons (pg_name (i := 2) nd rfl (Or.inl rfl)) (pgs_cons (pg_name (i := 3) nd rfl (Or.inl rfl)) (pgs_cons (pg_name (i := 4) nd rfl (Or.inl rfl)) pgs_nil)))))
      (pss_cons (ps_set (i := 5) nd rfl (Or.inl rfl) (pcl Pe hr (by decide) (by rfl) (pa_cons (pv 0) pa_nil)))
      (pss_cons (ps_set (i := 6) nd rfl (Or.inl rfl) (pe_lst pa_nil))
      (pss_cons (ps_for (passes_of rfl) rfl (pi_range1 (by rfl) B.range (pa_cons (pe_op op_fdivW (pv 5) (pv 3)) pa_nil)) (pg_name (i := 7) nd rfl (Or.inl rfl)) (pss_cons (ps_asg (pcl Sp' hr (by decide) (by rfl) (pa_cons (pv 0) (pa_cons (pv 7) pa_nil))) (pg_tup (by rfl) (pgs_cons (pg_name (i := 8) nd rfl (Or.inl rfl)) (pgs_cons (pg_name (i := 9) nd rfl (Or.inl rfl)) pgs_nil))))
      (pss_cons (ps_set (i := 10) nd rfl (Or.inl rfl) (pe_callB (call_max2 rfl) (by rfl) MT.max (by decide +kernel) (pa_cons (pv 8) (pa_cons (pe_op op_add (pe_op op_sub (pe_op op_add (pv 2) (pe_op op_mulW (pv 3) (pv 7))) (pv 1)) pe_int) pa_nil))))
      (pss_one (ps_expr (pe_bm PySem.F.plainAttrs_list PySem.F.slot_list_append PySem.F.type_list_append mt_append (pv 6) (pa_cons (pe_tup (pa_cons (pv 10) (pa_cons (pe_op op_sub (pv 9) (pv 10)) (pa_cons (pv 5) pa_nil)))) pa_nil)))))))
      (pss_one (ps_ret (pv 6))))))), ?_⟩
    have s1 := S.s0
    have s2 := S.s1
    have o0 := S.o0
    have o1 := S.o1
    have fb := figs_bd (m := m) S.s0
    walk_at "rd"
    refine ⟨p, _, rfl, SqT.of hp, rfl, _, _, rfl, _, _, rfl, _, _, rfl, rfl, ?_⟩
    walk_at "rd"
    refine ⟨p, o, s, m, rfl, hp, S, ?_⟩
    walk_at "rd"
    refine ⟨(by show 0 ≤ sizeLine; decide), fun L nL => ?_⟩
    walk_at "rd"
    refine ⟨fdiv_ok _ (by omega) (lg_big (by omega) (by omega)), ?_⟩
    walk_at "rd"
    have ef : perM s m / s = figsN s m := rfl
    refine ⟨by omega, by omega, ?_⟩
    refine for_range (n := (perM s m / s).toNat) (fun i st H' => ∃ (x7 x8 x9 x10 : Option V) (ps : List Addr), st = [some (.ref p), some (.int L0), some (.int o), some (.int s), some (.str m), some (.int (perM s m)), some (.ref L), x7, x8, x9, x10] ∧ Same H H' ∧ H' L = some (.lst (ps.map V.ref)) ∧ ps.length = i ∧ (∀ (j : Nat) (b : Addr), ps[j]? = some b → H' b = some (blkV (stL ⟨o, s, m⟩ L0 (j : Int)) (moL ⟨o, s, m⟩ L0 (j : Int)) (perM s m)))) ⟨none, none, none, none, [], rfl, fun b u z => (upd_ne (ne_of_none z nL)).trans z, upd_same, rfl, fun j b z => nomatch z⟩ ?_ ?_
    · rintro i st H' hi ⟨x7, x8, x9, x10, ps, rfl, sm, hL, lp, at_⟩
      have hi2 : i < 2 := by omega
      have hp' := sm _ _ hp
      walk_at "rd"
      refine ⟨p, o, s, m, 0 + (i : Int), rfl, hp', S, (by unfold BdK; omega), fun d H2 s2' nd2 hd => ?_⟩
      refine ⟨d, _, rfl, SqT.of hd, rfl, _, _, rfl, _, _, rfl, rfl, ?_⟩
      walk_at "rd"
      refine ⟨mulW (by omega) (by omega), ?_⟩
      walk_at "rd"
      refine ⟨_, _, rfl, ?_⟩
      walk_at "rd"
      have hL2 := s2' _ _ hL
      refine ⟨.inl ⟨rfl, _, SqL.of hL2⟩, ?_⟩
      walk_at "rd"
      refine ⟨(by show 3 ≤ sizeLine; decide), fun b nb => ?_⟩
      have nbL : b ≠ L := ne_of_none hL2 nb |>.symm
      have lh := low_high (o := o) (k := (i : Int)) S.md S.s0
      have e0 : (0 : Int) + (i : Int) = (i : Int) := by omega
      refine ⟨L, _, _, rfl, rfl, (upd_ne nbL.symm).trans hL2, (by rw [List.length_map, lp]; exact Nat.lt_of_lt_of_le (by omega : i < 8) (by decide)), ?_⟩
      refine ⟨_, _, _, _, ps ++ [b], rfl, ?_, ?_, by rw [List.length_append, lp]; rfl, ?_⟩
      · intro c u z
        have z3 := s2' _ _ (sm _ _ z)
        exact (upd_ne (ne_of_none z nL)).trans ((upd_ne (ne_of_none z3 nb)).trans z3)
      · rw [List.map_append]; exact upd_same
      · intro j c hc
        rcases Nat.lt_or_ge j ps.length with y | y
        · rw [List.getElem?_append_left y] at hc
          have g := s2' _ _ (at_ j c hc)
          exact (upd_ne (ne_of g hL2 (by intro y; cases y))).trans ((upd_ne (ne_of_none g nb)).trans g)
        · rw [List.getElem?_append_right y] at hc
          have ej : j - ps.length = 0 := by
            have := (List.getElem?_eq_some_iff.mp hc).1
            simp at this
            omega
          rw [ej] at hc
          cases hc
          rw [show j = i by omega]
          refine (upd_ne nbL).trans (upd_same.trans ?_)
          rw [e0]
          rfl
    · rintro st H' ⟨x7, x8, x9, x10, ps, rfl, sm, hL, lp, at_⟩
      walk_at "rd"
      exact q L H' nL sm ⟨ps, hL, by rw [lp, ef], at_⟩
end
end HT
namespace L2
open PySem PySem.Spec PyProof.Rows PySem.W PySem.SeqAt
theorem reads_ints {h : Heap} : ∀ {ns : List Int} {its : List Value}, Vals (ns.map V.int) its → ∃ as, ReadsAll h its (ns.map PyData.int) as
  | [], its, r => by rw [List.map_nil] at r; cases r; exact ⟨_, .nil⟩
  | n :: ns, its, r => by
    rw [List.map_cons] at r
    cases r with
    | @cons x y xs ys h1 t =>
      obtain ⟨as, ra⟩ := reads_ints (h := h) t
      obtain ⟨tk, rfl⟩ := h1
      exact ⟨_, .cons (.int n tk) ra⟩
theorem depth_ints : ∀ ns : List Int, PyData.depthAll (ns.map PyData.int) = 0
  | [] => rfl
  | n :: ns => by
    show max 0 (PyData.depthAll (ns.map PyData.int)) = 0
    rw [depth_ints ns]; rfl
theorem alike_ints (ns : List Int) : AlikeAll (ns.map PyData.int) := by
  refine ⟨fun x hx y hy => ?_, fun x hx e => ?_⟩
  · obtain ⟨a, _, rfl⟩ := List.mem_map.mp hx
    obtain ⟨b, _, rfl⟩ := List.mem_map.mp hy
    simp [alike]
  · obtain ⟨a, _, rfl⟩ := List.mem_map.mp hx
    cases e
theorem fold_min : ∀ (ns : List Int) (n : Int), ns.foldl min n ∈ n :: ns ∧ ∀ y ∈ n :: ns, ns.foldl min n ≤ y
  | [], n => ⟨List.mem_cons_self, fun y hy => by rw [List.mem_singleton.mp hy]; exact Int.le_refl _⟩
  | k :: r, n => by
    obtain ⟨a, b⟩ := fold_min r (min n k)
    rw [List.foldl_cons]
    have m0 := b (min n k) List.mem_cons_self
    refine ⟨?_, fun y hy => ?_⟩
    · rcases List.mem_cons.mp a with e | e
      · rw [e]
        by_cases h : n ≤ k
        · rw [show min n k = n by omega]; exact List.mem_cons_self
        · rw [show min n k = k by omega]; exact List.mem_cons_of_mem _ List.mem_cons_self
      · exact List.mem_cons_of_mem _ (List.mem_cons_of_mem _ e)
    · rcases List.mem_cons.mp hy with e | e
      · omega
      · rcases List.mem_cons.mp e with e | e
        · omega
        · exact b y (List.mem_cons_of_mem _ e)
theorem fold_max : ∀ (ns : List Int) (n : Int), ns.foldl max n ∈ n :: ns ∧ ∀ y ∈ n :: ns, y ≤ ns.foldl max n
  | [], n => ⟨List.mem_cons_self, fun y hy => by rw [List.mem_singleton.mp hy]; exact Int.le_refl _⟩
  | k :: r, n => by
    obtain ⟨a, b⟩ := fold_max r (max n k)
    rw [List.foldl_cons]
    have m0 := b (max n k) List.mem_cons_self
    refine ⟨?_, fun y hy => ?_⟩
    · rcases List.mem_cons.mp a with e | e
      · rw [e]
        by_cases h : k ≤ n
        · rw [show max n k = n by omega]; exact List.mem_cons_self
        · rw [show max n k = k by omega]; exact List.mem_cons_of_mem _ List.mem_cons_self
      · exact List.mem_cons_of_mem _ (List.mem_cons_of_mem _ e)
    · rcases List.mem_cons.mp hy with e | e
      · omega
      · rcases List.mem_cons.mp e with e | e
        · omega
        · exact b y (List.mem_cons_of_mem _ e)
def rMinDf (K : PySem.W.Frag) : List V → List V → Hp → VK → Prop := fun vs zs H Q => ∃ (a : Addr) (ns : List Int) (d : V), vs = [V.ref a] ∧ zs = [d] ∧ SqL K H a (ns.map V.int) ∧ (ns = [] → Q d H) ∧ ∀ m, m ∈ ns → (∀ y, y ∈ ns → m ≤ y) → Q (.int m) H
def rMaxDf (K : PySem.W.Frag) : List V → List V → Hp → VK → Prop := fun vs zs H Q => ∃ (a : Addr) (ns : List Int) (d : V), vs = [V.ref a] ∧ zs = [d] ∧ SqL K H a (ns.map V.int) ∧ (ns = [] → Q d H) ∧ ∀ m, m ∈ ns → (∀ y, y ∈ ns → y ≤ m) → Q (.int m) H
theorem cr_minDf {X : Cx} (hc : X.calm = true) (hu : X.A.units + 64 < cLine) : CallRK X (.builtin "min") [Str.ofString "default"] (rMinDf X.K) := by
  intro pins s σ H vs zs us ws Q I r rz h
  obtain ⟨a, ns, d, rfl, rfl, hs, q0, q1⟩ := h
  obtain ⟨its, rv, hl, _⟩ := I.list hs
  obtain rfl := Vals.ref1 r
  obtain ⟨w1, rfl, e1⟩ := vals1 rz
  obtain ⟨as, ra⟩ := reads_ints (h := s.heap) rv
  refine min_list_default (I.ok.hd hc) hl.isList (by simpa using ra) (alike_ints ns) (by rw [depth_ints]; omega) (fun e h' tk hk => ?_) (fun y ys i v h' tk bs e hv rd hk => ?_)
  · cases ns with
    | nil => exact ⟨d, H, I.kept hk, e1, q0 rfl⟩
    | cons n r => cases e
  · cases ns with
    | nil => cases e
    | cons n r =>
      rw [List.map_cons] at e
      injection e with ey es
      subst ey es
      rw [minD_ints] at rd
      obtain ⟨f1, f2⟩ := fold_min r n
      cases rd with
      | int _ t => exact ⟨.int _, H, I.kept hk, ⟨t, rfl⟩, q1 _ f1 f2⟩
theorem cr_maxDf {X : Cx} (hc : X.calm = true) (hu : X.A.units + 64 < cLine) : CallRK X (.builtin "max") [Str.ofString "default"] (rMaxDf X.K) := by
  intro pins s σ H vs zs us ws Q I r rz h
  obtain ⟨a, ns, d, rfl, rfl, hs, q0, q1⟩ := h
  obtain ⟨its, rv, hl, _⟩ := I.list hs
  obtain rfl := Vals.ref1 r
  obtain ⟨w1, rfl, e1⟩ := vals1 rz
  obtain ⟨as, ra⟩ := reads_ints (h := s.heap) rv
  refine max_list_default (I.ok.hd hc) hl.isList (by simpa using ra) (alike_ints ns) (by rw [depth_ints]; omega) (fun e h' tk hk => ?_) (fun y ys i v h' tk bs e hv rd hk => ?_)
  · cases ns with
    | nil => exact ⟨d, H, I.kept hk, e1, q0 rfl⟩
    | cons n r => cases e
  · cases ns with
    | nil => cases e
    | cons n r =>
      rw [List.map_cons] at e
      injection e with ey es
      subst ey es
      rw [maxD_ints] at rd
      obtain ⟨f1, f2⟩ := fold_max r n
      cases rd with
      | int _ t => exact ⟨.int _, H, I.kept hk, ⟨t, rfl⟩, q1 _ f1 f2⟩
end L2
namespace HT
open PySem L2
def spWN : Sp := fun vs H Q _ => ∃ (a b : Addr) (d e : Sd), vs = [.ref a, .ref b] ∧ H a = some (sideV d.o d.s d.m) ∧ H b = some (sideV e.o e.s e.m) ∧ ∀ (T : Addr) (H' : Hp), H T = none → Same H H' → H' T = some (.tup (if e.s < d.s then [.ref a, .ref b] else [.ref b, .ref a])) → Q (.ref T) H'
def spRU : Sp := fun vs H Q _ => ∃ (a b : Addr) (d e : Sd) (v : Int), vs = [.ref a, .ref b, .int v] ∧ H a = some (sideV d.o d.s d.m) ∧ SideP d.o d.s d.m ∧ H b = some (sideV e.o e.s e.m) ∧ SideP e.o e.s e.m ∧ (-2 ^ 600 < v ∧ v < 2 ^ 600) ∧ ∀ r H', Least (upP d e v) r → Same H H' → Q (oN r) H'
theorem ru_nil {d e : Sd} {v : Int} : RuF d e v [] fun t f => (t : Int) < (0 : Int) ∧ (f : Int) < figsN e.s e.m := ⟨fun y h => absurd h List.not_mem_nil, fun t f k h => by omega⟩
def doneP (e : Sd) (i j : Nat) (t f : Nat) : Prop := (t < i ∧ (f : Int) < figsN e.s e.m) ∨ (t = i ∧ f < j)
theorem ru_add {d e : Sd} (h : SideP d.o d.s d.m) (he : SideP e.o e.s e.m) {v : Int} {ys : List Int} {i j : Nat} (hj : (j : Int) < figsN e.s e.m) (R : RuF d e v ys (doneP e i j)) {r : Option Nat}
    (L : Least (HitS (v + d.s * (i : Int) - stL e (lessT d v i) (j : Int)) (figsN d.s d.m * d.s) (moL e (lessT d v i) (j : Int)) (perM e.s e.m)) r) : RuF d e v (ys ++ (r.map fun k : Nat => (i : Int) + figsN d.s d.m * (k : Int)).toList) (doneP e i (j + 1)) := by
  have fb := figs_bd (m := d.m) h.s0
  refine ⟨fun y hy => ?_, fun t f k D hk => ?_⟩
  · rcases List.mem_append.mp hy with z | z
    · exact R.tr y z
    · cases r with
      | none => exact absurd z List.not_mem_nil
      | some k =>
        have ey : y = (i : Int) + figsN d.s d.m * (k : Int) := List.mem_singleton.mp z
        refine ⟨i + (figsN d.s d.m).toNat * k, ?_, (hit_up h he v i k).mpr ⟨j, hj, L.1⟩⟩
        rw [ey, Int.natCast_add, Int.natCast_mul, Int.toNat_of_nonneg (by omega)]
  · have D2 : doneP e i j t f ∨ (t = i ∧ f = j) := by
      rcases D with z | ⟨z1, z2⟩
      · exact .inl (.inl z)
      · by_cases g : f = j
        · exact .inr ⟨z1, g⟩
        · exact .inl (.inr ⟨z1, by omega⟩)
    rcases D2 with z | ⟨rfl, rfl⟩
    · obtain ⟨y, hy, le⟩ := R.al t f k z hk
      exact ⟨y, List.mem_append_left _ hy, le⟩
    · cases r with
      | none => exact absurd hk (L k)
      | some k0 =>
        refine ⟨(t : Int) + figsN d.s d.m * (k0 : Int), List.mem_append_right _ (List.mem_singleton.mpr rfl), ?_⟩
        have : k0 ≤ k := by
          by_cases g : k < k0
          · exact absurd hk (L.2 k g)
          · omega
        have := Int.mul_le_mul_of_nonneg_left (show (k0 : Int) ≤ (k : Int) by omega) (show (0 : Int) ≤ figsN d.s d.m by omega)
        omega
theorem ru_row {d e : Sd} {v : Int} {ys : List Int} {i : Nat} (he : 1 ≤ figsN e.s e.m) (R : RuF d e v ys (doneP e i (figsN e.s e.m).toNat)) : RuF d e v ys (doneP e (i + 1) 0) :=
  ⟨R.tr, fun t f k D hk => R.al t f k (by
    rcases D with ⟨z1, z2⟩ | ⟨_, z2⟩
    · by_cases g : t = i
      · exact .inr ⟨g, by omega⟩
      · exact .inl ⟨by omega, z2⟩
    · omega) hk⟩
section
variable {P : Program} {w : World} {K : PySem.W.Frag} {mg : Str → Option Value} {base : Heap} {fB fH fI fJ fL : Addr} {dB dH dI dJ dL : FuncData}
theorem ok_wn {f : Addr} {fd : FuncData} (F : Fun K "wide_and_narrow" "wide_and_narrow" s_wide_and_narrow f fd) : FnOk P w K mg base CX0 1 f fd ["first", "second"] spWN := by
  refine F.ok sc_wide_and_narrow (fun vs H Q E h => ?_) (fun cdv A outer s0 H vs Q E hr h => ?_)
  · obtain ⟨a, b, d, e, rfl, _⟩ := h
    rfl
  · obtain ⟨a, b, d, e, rfl, ha, hb, q⟩ := h
    refine ⟨_, (pss_cons (ps_if (pt_cmpR op_gt (pe_ix ix_tup (pv 0) pe_int (fun _ _ => rfl)) (pe_ix ix_tup (pv 1) pe_int (fun _ _ => rfl)) (nomark _)) (pss_one (ps_ret (pe_tup (pa_cons (pv 0) (pa_cons (pv 1) pa_nil))))) pss_nil)
      (pss_one (ps_ret (pe_tup (pa_cons (pv 1) (pa_cons (pv 0) pa_nil)))))), ?_⟩
    walk_at "rd"
    refine ⟨a, _, _, _, rfl, rfl, SqT.of ha, rfl, ?_⟩
    walk_at "rd"
    refine ⟨b, _, _, _, rfl, rfl, SqT.of hb, rfl, ?_⟩
    walk_at "rd"
    refine ite2 (fun z => ?_) (fun z => ?_)
    · have lt := of_decide_eq_true z
      walk_at "rd"
      refine ⟨(by show 2 ≤ sizeLine; decide), fun T nT => ?_⟩
      exact q T _ nT (fun b u z => (upd_ne (ne_of_none z nT)).trans z) (by rw [if_pos lt]; exact upd_same)
    · have lt : ¬ e.s < d.s := fun y => z (decide_eq_true y)
      walk_at "rd"
      refine ⟨(by show 2 ≤ sizeLine; decide), fun T nT => ?_⟩
      exact q T _ nT (fun b u z => (upd_ne (ne_of_none z nT)).trans z) (by rw [if_neg lt]; exact upd_same)
theorem ok_ru {f : Addr} {fd : FuncData} (F : Fun K "rounds_up" "rounds_up" s_rounds_up f fd) (B : Blt mg) (MT : MaxT mg) (Pe : Cal P w K mg base "period_of" 1 ["side"] spPerOf fB dB) (Th : Cal P w K mg base "threshold" 3 ["side", "value"] spBack fH dH) (Un : Cal P w K mg base "unraised" 5 ["side", "least"] spUnrL fI dI) (Fh : Cal P w K mg base "first_hit" 104 ["start", "step", "most", "modulus"] spFH fJ dJ) : FnOk P w K mg base CX0 105 f fd ["wide", "narrow", "value"] spRU := by
  refine F.ok sc_rounds_up (fun vs H Q E h => ?_) (fun cdv A outer s0 H vs Q E hr h => ?_)
  · obtain ⟨a, b, d, e, v, rfl, _⟩ := h
    rfl
  · obtain ⟨a, b, d, e, v, rfl, ha, S, hb, T, hv, q⟩ := h
    have nd := sc_rounds_up.nd
    refine ⟨_, (pss_cons (ps_asg (pv 0) (pg_tup (by rfl) (pgs_cons (pg_name (i := 3) nd rfl (Or.inl rfl)) (pgs_cons (pg_name (i := 4) nd rfl (Or.inl rfl)) (pgs_cons (pg_name (i := 3) nd rfl (Or.inl rfl)) pgs_nil)))))
      (pss_cons (ps_set (i := 5) nd rfl (Or.inl rfl) (pe_op op_fdivW (pcl Pe hr (by decide) (by rfl) (pa_cons (pv 0) pa_nil)) (pv 4)))
      (pss_cons (ps_set (i := 6) nd rfl (Or.inl rfl) (pe_lst pa_nil))
      (pss_cons (ps_for PassesOwn.never rfl (pi_range1 (by rfl) B.range (pa_cons (pv 5) pa_nil)) (pg_name (i := 7) nd rfl (Or.inl rfl)) (pss_cons (ps_set (i := 8) nd rfl (Or.inl rfl) (pe_op op_add (pv 2) (pe_op op_mulW (pv 4) (pv 7))))
      (pss_cons (ps_set (i := 9) nd rfl (Or.inl rfl) (pe_op op_sub (pcl Th hr (by decide) (by rfl) (pa_cons (pv 0) (pa_cons (pe_op op_add (pv 8) (pv 4)) pa_nil))) (pv 8)))
      (pss_one (ps_for PassesOwn.never rfl (pi_list (pcl Un hr (by decide) (by rfl) (pa_cons (pv 1) (pa_cons (pv 9) pa_nil)))) (pg_tup (by rfl) (pgs_cons (pg_name (i := 10) nd rfl (Or.inl rfl)) (pgs_cons (pg_name (i := 11) nd rfl (Or.inl rfl)) (pgs_cons (pg_name (i := 12) nd rfl (Or.inl rfl)) pgs_nil)))) (pss_cons (ps_set (i := 13) nd rfl (Or.inl rfl) (pcl Fh hr (by decide) (by rfl) (pa_cons (pe_op op_sub (pv 8) (pv 10)) (pa_cons (pe_op op_mulW (pv 5) (pv 4)) (pa_cons (pv 11) (pa_cons (pv 12) pa_nil))))))
      (pss_one (ps_if (pt_cmpR op_notN (pv 13) pe_non (nomark _)) (pss_one (ps_expr (pe_bm PySem.F.plainAttrs_list PySem.F.slot_list_append PySem.F.type_list_append mt_append (pv 6) (pa_cons (pe_op op_add (pv 7) (pe_op op_mulW (pv 5) (pv 13))) pa_nil)))) pss_nil))))))))
      (pss_one (ps_ret (pe_callBK (cr_minDf rfl hr.units) (by rfl) MT.min (by decide +kernel) (pa_cons (pv 6) pa_nil) (pk_cons pe_non pk_nil)))))))), ?_⟩
    have s1 := S.s0
    have s2 := S.s1
    have o0 := S.o0
    have o1 := S.o1
    have fb := figs_bd (m := d.m) S.s0
    have fe := figs_bd (m := e.m) T.s0
    walk_at "rd"
    refine ⟨a, _, rfl, SqT.of ha, rfl, _, _, rfl, _, _, rfl, _, _, rfl, rfl, ?_⟩
    walk_at "rd"
    refine ⟨a, d.o, d.s, d.m, rfl, ha, S, ?_⟩
    walk_at "rd"
    refine ⟨fdiv_ok _ (by omega) (lg_big (by omega) (by omega)), ?_⟩
    walk_at "rd"
    walk_at "rd"
    refine ⟨(by show 0 ≤ sizeLine; decide), fun N nN => ?_⟩
    generalize e_N : upd H N _ = H1
    have fN : H1 N = some (.lst []) := by rw [← e_N]; exact upd_same
    have s01 : Same H H1 := by rw [← e_N]; exact fun b u z => (upd_ne (ne_of_none z nN)).trans z
    clear e_N
    walk_at "rd"
    have ef : perM d.s d.m / d.s = figsN d.s d.m := rfl
    rw [ef]
    refine ⟨by omega, by omega, ?_⟩
    refine for_range (n := (figsN d.s d.m).toNat) (fun i st H' => ∃ (x7 x8 x9 x10 x11 x12 x13 : Option V) (ys : List Int), st = [some (.ref a), some (.ref b), some (.int v), some (.str d.m), some (.int d.s), some (.int (figsN d.s d.m)), some (.ref N), x7, x8, x9, x10, x11, x12, x13] ∧ Same H H' ∧ H' N = some (.lst (ys.map V.int)) ∧ ys.length ≤ 2 * i ∧ RuF d e v ys (doneP e i 0))
      ⟨none, none, none, none, none, none, none, [], rfl, s01, fN, Nat.zero_le _, ⟨fun y h => absurd h List.not_mem_nil, fun t f k D => by rcases D with ⟨x, _⟩ | ⟨_, y⟩ <;> omega⟩⟩ ?_ ?_
    · rintro i st H' hi ⟨x7, x8, x9, x10, x11, x12, x13, ys, rfl, sm, hN, ln, R⟩
      have hi2 : i < 2 := by omega
      have ha' := sm _ _ ha
      have hb' := sm _ _ hb
      have ei : (0 : Int) + (i : Int) = (i : Int) := by omega
      obtain ⟨lp, lq⟩ := less_pos S v i
      have si : d.s * (i : Int) ≤ d.s * 1 := Int.mul_le_mul_of_nonneg_left (by omega) (by omega)
      have si0 : 0 ≤ d.s * (i : Int) := Int.mul_nonneg (by omega) (by omega)
      walk_at "rd"
      refine ⟨mulW (by omega) (by omega), ?_⟩
      rw [ei]
      walk_at "rd"
      refine ⟨a, d.o, d.s, d.m, v + d.s * (i : Int) + d.s, rfl, ha', S, by omega, by omega, fun H2 s12 => ?_⟩
      walk_at "rd"
      refine ⟨b, e, lessT d v i, rfl, s12 _ _ hb', T, lp, by omega, fun L2 H4 nL2 s34 B2 => ?_⟩
      obtain ⟨ps2, hL2, lp2, at2⟩ := B2
      have hN4 := s34 _ _ (s12 _ _ hN)
      have nL2N : L2 ≠ N := fun z => by rw [z, s12 _ _ hN] at nL2; cases nL2
      have nNH : H N = none := nN
      walk_at "rd"
      refine ⟨⟨_, SqL.of hL2⟩, ?_⟩
      refine for_list (K := K) (a := L2) (xs := ps2.map V.ref) (fun j st H5 => ∃ (y10 y11 y12 y13 : Option V) (ys : List Int), st = [some (.ref a), some (.ref b), some (.int v), some (.str d.m), some (.int d.s), some (.int (figsN d.s d.m)), some (.ref N), some (.int (i : Int)), some (.int (v + d.s * (i : Int))), some (.int (lessT d v i)), y10, y11, y12, y13] ∧ (∀ b u, H4 b = some u → b ≠ N → H5 b = some u) ∧ H5 N = some (.lst (ys.map V.int)) ∧ ys.length ≤ 2 * i + j ∧ RuF d e v ys (doneP e i j))
        ⟨x10, x11, x12, x13, ys, rfl, fun b u z _ => z, hN4, ln, R⟩ (fun _ _ _ _ ⟨_, _, _, _, _, _, pr, _⟩ => SqL.of (pr _ _ hL2 nL2N)) ?_ ?_
      · rintro j y st H5 hy ⟨y10, y11, y12, y13, ys, rfl, pr4, hN5, ln, R⟩
        obtain ⟨b2, hb2, rfl⟩ : ∃ b, ps2[j]? = some b ∧ y = .ref b := by
          rw [List.getElem?_map] at hy
          cases e : ps2[j]? with
          | none => rw [e] at hy; cases hy
          | some b => rw [e] at hy; exact ⟨b, rfl, (Option.some.inj hy).symm⟩
        have jl : j < 2 := by
          have := (List.getElem?_eq_some_iff.mp hb2).1
          omega
        have jf : (j : Int) < figsN e.s e.m := by
          have := (List.getElem?_eq_some_iff.mp hb2).1
          omega
        have g2 := at2 j b2 hb2
        have g2n : b2 ≠ N := fun z => by rw [z, hN4] at g2; cases g2
        have g2' := pr4 _ _ g2 g2n
        have pe := perM_bd T
        obtain ⟨m0, m1⟩ := moL_pos T lp (j : Int)
        walk_at "rd"
        refine ⟨b2, _, rfl, SqT.of g2', rfl, _, _, rfl, _, _, rfl, _, _, rfl, rfl, ?_⟩
        walk_at "rd"
        refine ⟨mulW (by omega) (by omega), ?_⟩
        walk_at "rd"
        refine ⟨_, _, _, _, rfl, by omega, by omega, m0, fun r L => ?_⟩
        have R2 := ru_add S T jf R L
        walk_at "rd"
        cases r with
        | none =>
          refine ⟨rfl, ?_⟩
          walk_at "rd"
          rw [Option.map_none, Option.toList_none, List.append_nil] at R2
          exact ⟨_, _, _, _, ys, rfl, pr4, hN5, by omega, R2⟩
        | some k =>
          refine ⟨rfl, ?_⟩
          walk_at "rd"
          have kl := hitS_lt (show 0 < perM e.s e.m by omega) L
          refine ⟨.inl ⟨rfl, _, SqL.of hN5⟩, ?_⟩
          walk_at "rd"
          refine ⟨mulW (by omega) (by omega), ?_⟩
          walk_at "rd"
          refine ⟨N, _, _, rfl, rfl, hN5, (by rw [List.length_map]; exact Nat.lt_of_le_of_lt ln (Nat.lt_of_lt_of_le (by omega : 2 * i + j < 100) (by decide))), ?_⟩
          refine ⟨_, _, _, _, ys ++ [(i : Int) + figsN d.s d.m * (k : Int)], rfl, fun b u z nb => (upd_ne nb).trans (pr4 _ _ z nb), ?_, by rw [List.length_append]; show ys.length + 1 ≤ _; omega, R2⟩
          rw [List.map_append]
          exact upd_same
      · rintro st H5 ⟨y10, y11, y12, y13, ys, rfl, pr4, hN5, ln, R⟩
        rw [List.length_map, lp2] at R ln
        refine ⟨_, _, _, _, _, _, _, ys, rfl, fun b u z => ?_, hN5, by omega, ru_row (by omega) R⟩
        exact pr4 _ _ (s34 _ _ (s12 _ _ (sm _ _ z))) (ne_of_none z nNH)
    · rintro st H' ⟨x7, x8, x9, x10, x11, x12, x13, ys, rfl, sm, hN, ln, R⟩
      have R2 : RuF d e v ys fun t f => (t : Int) < figsN d.s d.m ∧ (f : Int) < figsN e.s e.m := ⟨R.tr, fun t f k D hk => R.al t f k (.inl ⟨by omega, D.2⟩) hk⟩
      obtain ⟨r1, r2⟩ := ru_least S T R2
      walk_at "rd"
      refine ⟨N, ys, .non, rfl, rfl, SqL.of hN, fun z => q none H' (r1 z) sm, fun m mi mm => ?_⟩
      obtain ⟨L, m0⟩ := r2 m mi mm
      have := q (some m.toNat) H' L sm
      rw [show oN (some m.toNat) = V.int m from congrArg V.int (Int.toNat_of_nonneg m0)] at this
      exact this
end
end HT
namespace HT
open PySem L2
theorem perL_lt {d e : Sd} (h : SideP d.o d.s d.m) (he : SideP e.o e.s e.m) : perL d e < 2 ^ 420 := by
  have := com_lt (ss := [d, e]) (fun x hx => by
    simp only [List.mem_cons, List.not_mem_nil, or_false] at hx
    rcases hx with rfl | rfl
    · exact h
    · exact he) (by show 2 ≤ 4; decide)
  show ((comN [d, e] : Nat) : Int) < 2 ^ 420
  exact_mod_cast this
theorem least_bd {d e : Sd} (h : SideP d.o d.s d.m) (he : SideP e.o e.s e.m) {k : Int} {r : Nat} (L : Least (upP d e (atK d k)) (some r)) : d.s * (r : Int) < 2 ^ 420 := by
  obtain ⟨j, j1, hj⟩ := step_in h he
  have s0 := h.s0
  have pl := perL_lt h he
  by_cases z : (r : Int) < j
  · have : d.s * (r : Int) ≤ d.s * j := Int.mul_le_mul_of_nonneg_left (by omega) (by omega)
    omega
  · exfalso
    refine L.2 (r - j.toNat) (by omega) ?_
    have h1 := L.1
    unfold upP at h1 ⊢
    rw [← atK_add] at h1 ⊢
    rw [notup_iff h] at h1 ⊢
    have e1 : k + (r : Int) = k + ((r - j.toNat : Nat) : Int) + j * 1 := by omega
    rw [e1, rd_at h he hj, atK_add d (k + ((r - j.toNat : Nat) : Int))] at h1
    omega
theorem creep_dn {d e : Sd} (h : SideP d.o d.s d.m) (he : SideP e.o e.s e.m) (le : e.s ≤ d.s) (no : Least (upP (mirS d) (mirS e) (-d.o)) none) (k : Int) : Rd d e (atK d k) = atK d (k - 1) := by
  have h1 := creep_up (mirS_side h) (mirS_side he) le no (-k)
  rw [mirS_at, mirS_at, Int.neg_neg, mirS_Rd h he, show -(-k + 1) = k - 1 by omega] at h1
  omega
theorem creep_no {d e : Sd} (h : SideP d.o d.s d.m) (he : SideP e.o e.s e.m) {r r' : Nat} (a : Least (upP d e d.o) (some r)) (b : Least (upP (mirS d) (mirS e) (-d.o)) (some r')) : CreepP d e 0 := by
  refine .inr (.inr ⟨rfl, ⟨(r : Int), (notup_iff h _).mp a.1⟩, ⟨-(r' : Int), ?_⟩⟩)
  have h1 := (notup_iff (e := mirS e) (mirS_side h) (r' : Int)).mp b.1
  rw [mirS_at, mirS_Rd h he] at h1
  omega
def wdS (A B : Sd) : Sd := if B.s < A.s then A else B
def nwS (A B : Sd) : Sd := if B.s < A.s then B else A
def spCreep : Sp := fun vs H Q _ => ∃ (a b : Addr) (A B : Sd), vs = [.ref a, .ref b] ∧ H a = some (sideV A.o A.s A.m) ∧ SideP A.o A.s A.m ∧ H b = some (sideV B.o B.s B.m) ∧ SideP B.o B.s B.m ∧ ∀ c H', CreepP (wdS A B) (nwS A B) c → Same H H' → Q (.int c) H'
def spSW : Sp := fun vs H Q _ => ∃ (a b : Addr) (d e : Sd) (k : Int), vs = [.ref a, .ref b, .int (atK d k)] ∧ H a = some (sideV d.o d.s d.m) ∧ SideP d.o d.s d.m ∧ H b = some (sideV e.o e.s e.m) ∧ SideP e.o e.s e.m ∧ e.s ≤ d.s ∧ CreepP d e 0 ∧ (-2 ^ 590 < atK d k ∧ atK d k < 2 ^ 590) ∧ ∀ (T : Addr) (H' : Hp) (E : Int) (r : Nat), H T = none → Same H H' → H' T = some (.tup [.int E, .int (r : Int)]) → SetW d e (atK d k) E r → (-2 ^ 600 < E ∧ E < 2 ^ 600) → Q (.ref T) H'
section
variable {P : Program} {w : World} {K : PySem.W.Frag} {mg : Str → Option Value} {base : Heap} {fB fH fI fJ fL : Addr} {dB dH dI dJ dL : FuncData}
theorem ok_creep {f : Addr} {fd : FuncData} (F : Fun K "_creep" "_creep" s_creep f fd) (WN : Cal P w K mg base "wide_and_narrow" 1 ["first", "second"] spWN fB dB) (Ru : Cal P w K mg base "rounds_up" 105 ["wide", "narrow", "value"] spRU fH dH) (Mi : Cal P w K mg base "mirror" 4 ["side"] spMirror fI dI) : FnOk P w K mg base CX0 106 f fd ["first", "second"] spCreep := by
  refine F.ok sc_creep (fun vs H Q E h => ?_) (fun cdv A outer s0 H vs Q E hr h => ?_)
  · obtain ⟨a, b, A, B, rfl, _⟩ := h
    rfl
  · obtain ⟨a, b, A1, B1, rfl, ha, S, hb, T, q⟩ := h
    have nd := sc_creep.nd
    refine ⟨_, (pss_cons (ps_asg (pcl WN hr (by decide) (by rfl) (pa_cons (pv 0) (pa_cons (pv 1) pa_nil))) (pg_tup (by rfl) (pgs_cons (pg_name (i := 2) nd rfl (Or.inl rfl)) (pgs_cons (pg_name (i := 3) nd rfl (Or.inl rfl)) pgs_nil))))
      (pss_cons (ps_asg (pv 2) (pg_tup (by rfl) (pgs_cons (pg_name (i := 4) nd rfl (Or.inl rfl)) (pgs_cons (pg_name (i := 5) nd rfl (Or.inl rfl)) (pgs_cons (pg_name (i := 6) nd rfl (Or.inl rfl)) pgs_nil)))))
      (pss_cons (ps_if (pt_cmpR op_isN (pcl Ru hr (by decide) (by rfl) (pa_cons (pv 2) (pa_cons (pv 3) (pa_cons (pv 4) pa_nil)))) pe_non (nomark _)) (pss_one (ps_ret (pv 5))) pss_nil)
      (pss_cons (ps_if (pt_cmpR op_isN (pcl Ru hr (by decide) (by rfl) (pa_cons (pcl Mi hr (by decide) (by rfl) (pa_cons (pv 2) pa_nil)) (pa_cons (pcl Mi hr (by decide) (by rfl) (pa_cons (pv 3) pa_nil)) (pa_cons (pe_un un_neg (pv 4)) pa_nil)))) pe_non (nomark _)) (pss_one (ps_ret (pe_un un_neg (pv 5)))) pss_nil)
      (pss_one (ps_ret pe_int)))))), ?_⟩
    walk_at "rd"
    refine ⟨a, b, A1, B1, rfl, ha, hb, fun T1 H1 nT1 s1 hT1 => ?_⟩
    obtain ⟨wa, na, d, e, hT, hw, hn, Sd', Se', le, ed, ee⟩ : ∃ (wa na : Addr) (d e : Sd), H1 T1 = some (.tup [.ref wa, .ref na]) ∧ H1 wa = some (sideV d.o d.s d.m) ∧ H1 na = some (sideV e.o e.s e.m) ∧ SideP d.o d.s d.m ∧ SideP e.o e.s e.m ∧ e.s ≤ d.s ∧ d = wdS A1 B1 ∧ e = nwS A1 B1 := by
      by_cases z : B1.s < A1.s
      · rw [if_pos z] at hT1
        exact ⟨a, b, A1, B1, hT1, s1 _ _ ha, s1 _ _ hb, S, T, by omega, by unfold wdS; rw [if_pos z], by unfold nwS; rw [if_pos z]⟩
      · rw [if_neg z] at hT1
        exact ⟨b, a, B1, A1, hT1, s1 _ _ hb, s1 _ _ ha, T, S, by omega, by unfold wdS; rw [if_neg z], by unfold nwS; rw [if_neg z]⟩
    rw [← ed, ← ee] at q
    clear hT1 ed ee
    have o0 := Sd'.o0
    have o1 := Sd'.o1
    refine ⟨T1, _, rfl, SqT.of hT, rfl, _, _, rfl, _, _, rfl, rfl, ?_⟩
    walk_at "rd"
    refine ⟨wa, _, rfl, SqT.of hw, rfl, _, _, rfl, _, _, rfl, _, _, rfl, rfl, ?_⟩
    walk_at "rd"
    refine ⟨wa, na, d, e, d.o, rfl, hw, Sd', hn, Se', by omega, fun r H2 L s2 => ?_⟩
    walk_at "rd"
    cases r with
    | none =>
      refine ⟨rfl, ?_⟩
      walk_at "rd"
      exact q d.s H2 (.inl ⟨rfl, creep_up Sd' Se' le L⟩) (s1.trans s2)
    | some r =>
      refine ⟨rfl, ?_⟩
      walk_at "rd"
      refine ⟨wa, d.o, d.s, d.m, rfl, s2 _ _ hw, Sd', fun m1 H3 s3 n3 h3 => ?_⟩
      walk_at "rd"
      refine ⟨na, e.o, e.s, e.m, rfl, s3 _ _ (s2 _ _ hn), Se', fun m2 H4 s4 n4 h4 => ?_⟩
      walk_at "rd"
      refine ⟨m1, m2, mirS d, mirS e, -d.o, rfl, s4 _ _ h3, mirS_side Sd', h4, mirS_side Se', by omega, fun r' H5 L' s5 => ?_⟩
      have sA := s1.trans (s2.trans (s3.trans (s4.trans s5)))
      walk_at "rd"
      cases r' with
      | none =>
        refine ⟨rfl, ?_⟩
        walk_at "rd"
        exact q (-d.s) H5 (.inr (.inl ⟨rfl, creep_dn Sd' Se' le L'⟩)) sA
      | some r' =>
        refine ⟨rfl, ?_⟩
        walk_at "rd"
        exact q 0 H5 (creep_no Sd' Se' L L') sA
theorem ok_sw {f : Addr} {fd : FuncData} (F : Fun K "_settled_on_wide" "_settled_on_wide" s_settled_on_wide f fd) (Ru : Cal P w K mg base "rounds_up" 105 ["wide", "narrow", "value"] spRU fH dH) (Mi : Cal P w K mg base "mirror" 4 ["side"] spMirror fI dI) (Wr : Cal P w K mg base "written" 3 ["side", "value"] spDue fJ dJ) : FnOk P w K mg base CX0 106 f fd ["wide", "narrow", "value"] spSW := by
  refine F.ok sc_settled_on_wide (fun vs H Q E h => ?_) (fun cdv A outer s0 H vs Q E hr h => ?_)
  · obtain ⟨a, b, d, e, k, rfl, _⟩ := h
    rfl
  · obtain ⟨a, b, d, e, k, rfl, ha, S, hb, T, le, cr, vb, q⟩ := h
    have nd := sc_settled_on_wide.nd
    refine ⟨_, (pss_cons (ps_asg (pv 0) (pg_tup (by rfl) (pgs_cons (pg_name (i := 3) nd rfl (Or.inl rfl)) (pgs_cons (pg_name (i := 4) nd rfl (Or.inl rfl)) (pgs_cons (pg_name (i := 3) nd rfl (Or.inl rfl)) pgs_nil)))))
      (pss_cons (ps_if (pt_cmpR op_lt (pcl Wr hr (by decide) (by rfl) (pa_cons (pv 0) (pa_cons (pcl Wr hr (by decide) (by rfl) (pa_cons (pv 1) (pa_cons (pv 2) pa_nil))) pa_nil))) (pv 2) (nomark _)) (pss_cons (ps_set (i := 5) nd rfl (Or.inl rfl) (pcl Ru hr (by decide) (by rfl) (pa_cons (pcl Mi hr (by decide) (by rfl) (pa_cons (pv 0) pa_nil)) (pa_cons (pcl Mi hr (by decide) (by rfl) (pa_cons (pv 1) pa_nil)) (pa_cons (pe_un un_neg (pv 2)) pa_nil)))))
      (pss_one (ps_ret (pe_tup (pa_cons (pe_op op_sub (pv 2) (pe_op op_mulW (pv 4) (pv 5))) (pa_cons (pv 5) pa_nil)))))) pss_nil)
      (pss_cons (ps_set (i := 5) nd rfl (Or.inl rfl) (pcl Ru hr (by decide) (by rfl) (pa_cons (pv 0) (pa_cons (pv 1) (pa_cons (pv 2) pa_nil)))))
      (pss_one (ps_ret (pe_tup (pa_cons (pe_op op_add (pv 2) (pe_op op_mulW (pv 4) (pv 5))) (pa_cons (pv 5) pa_nil)))))))), ?_⟩
    have s0' := S.s0
    have s1' := S.s1
    have t0' := T.s0
    have t1' := T.s1
    obtain ⟨⟨k1, c1⟩, k2, c2⟩ : (∃ k, Rd d e (atK d k) ≤ atK d k) ∧ ∃ k, atK d k ≤ Rd d e (atK d k) := by
      rcases cr with ⟨z, _⟩ | ⟨z, _⟩ | ⟨_, x⟩
      · omega
      · omega
      · exact x
    have near := due_near (o := e.o) (v := atK d k) T.md t0'
    walk_at "rd"
    refine ⟨a, _, rfl, SqT.of ha, rfl, _, _, rfl, _, _, rfl, _, _, rfl, rfl, ?_⟩
    walk_at "rd"
    refine ⟨b, e.o, e.s, e.m, _, rfl, hb, T, (by unfold Bd; omega), fun H1 s1 => ?_⟩
    refine ⟨a, d.o, d.s, d.m, _, rfl, s1 _ _ ha, S, (by unfold Bd; omega), fun H2 s2 => ?_⟩
    have ha2 := s2 _ _ (s1 _ _ ha)
    have hb2 := s2 _ _ (s1 _ _ hb)
    walk_at "rd"
    refine ite2 (fun z => ?_) (fun z => ?_)
    · have lt : Rd d e (atK d k) < atK d k := of_decide_eq_true z
      walk_at "rd"
      refine ⟨a, d.o, d.s, d.m, rfl, ha2, S, fun m1 H3 s3 n3 h3 => ?_⟩
      walk_at "rd"
      refine ⟨b, e.o, e.s, e.m, rfl, s3 _ _ hb2, T, fun m2 H4 s4 n4 h4 => ?_⟩
      walk_at "rd"
      refine ⟨m1, m2, mirS d, mirS e, -atK d k, rfl, s4 _ _ h3, mirS_side S, h4, mirS_side T, by omega, fun r H5 L s5 => ?_⟩
      walk_at "rd"
      have sA := s1.trans (s2.trans (s3.trans (s4.trans s5)))
      have ea : -atK d k = atK (mirS d) (-k) := by rw [mirS_at, Int.neg_neg]
      cases r with
      | none =>
        exfalso
        have c3 : Rd (mirS d) (mirS e) (atK (mirS d) (-k2)) ≤ atK (mirS d) (-k2) := by
          rw [mirS_at, Int.neg_neg, mirS_Rd S T]
          omega
        obtain ⟨n, hn⟩ := not_creep (mirS_side S) (mirS_side T) c3 (-k)
        rw [← ea] at hn
        exact L n hn
      | some r =>
        have lb := least_bd (mirS_side S) (mirS_side T) (k := -k) (by rw [← ea]; exact L)
        have lb2 : d.s * (r : Int) < 2 ^ 420 := lb
        have r0 : 1 * (r : Int) ≤ d.s * (r : Int) := Int.mul_le_mul_of_nonneg_right s0' (by omega)
        walk_at "rd"
        refine ⟨mulW (by omega) (by omega), ?_⟩
        walk_at "rd"
        refine ⟨(by show 2 ≤ sizeLine; decide), fun p np => ?_⟩
        exact q p _ _ r (sA.free np) (fun b u z => (upd_ne (ne_of_none (sA _ _ z) np)).trans (sA _ _ z)) upd_same (down_set S T le (by omega) L) (by omega)
    · have ge : ¬ Rd d e (atK d k) < atK d k := fun y => z (decide_eq_true y)
      walk_at "rd"
      refine ⟨a, b, d, e, atK d k, rfl, ha2, S, hb2, T, by omega, fun r H5 L s5 => ?_⟩
      walk_at "rd"
      have sA := s1.trans (s2.trans s5)
      cases r with
      | none =>
        exfalso
        obtain ⟨n, hn⟩ := not_creep S T c1 k
        exact L n hn
      | some r =>
        have lb2 := least_bd S T (k := k) L
        have r0 : 1 * (r : Int) ≤ d.s * (r : Int) := Int.mul_le_mul_of_nonneg_right s0' (by omega)
        walk_at "rd"
        refine ⟨mulW (by omega) (by omega), ?_⟩
        walk_at "rd"
        refine ⟨(by show 2 ≤ sizeLine; decide), fun p np => ?_⟩
        exact q p _ _ r (sA.free np) (fun b u z => (upd_ne (ne_of_none (sA _ _ z) np)).trans (sA _ _ z)) upd_same (up_set S T le (by omega) L) (by omega)
end
end HT
namespace HT
open PySem L2
def spSN : Sp := fun vs H Q _ => ∃ (a b : Addr) (d e : Sd) (y : Int), vs = [.ref b, .ref a, .int y] ∧ H a = some (sideV d.o d.s d.m) ∧ SideP d.o d.s d.m ∧ H b = some (sideV e.o e.s e.m) ∧ SideP e.o e.s e.m ∧ e.s ≤ d.s ∧ CreepP d e 0 ∧ (-2 ^ 580 < y ∧ y < 2 ^ 580) ∧ ∀ (T : Addr) (H' : Hp) (E : Int) (r : Nat), H T = none → Same H H' → H' T = some (.tup [.int E, .int (r : Int)]) → Stl (fT e d) y E r → Q (.ref T) H'
def ResP (A B : Sd) (v c : Int) (o : HO) : Prop := (c ≠ 0 ∧ o = .tup [.str "creeps", .int c]) ∨ (c = 0 ∧ ∃ (E : Int) (r : Nat), Stl (fT A B) (dW A v) E r ∧ o = .tup [.str "settles", .int E, .int (r : Int)])
def spSettled : Sp := fun vs H Q _ => ∃ (a b : Addr) (A B : Sd) (v : Int), vs = [.ref a, .ref b, .int v] ∧ H a = some (sideV A.o A.s A.m) ∧ SideP A.o A.s A.m ∧ H b = some (sideV B.o B.s B.m) ∧ SideP B.o B.s B.m ∧ (-2 ^ 570 < v ∧ v < 2 ^ 570) ∧ ∀ (c : Int) (T : Addr) (H' : Hp) (o : HO), CreepP (wdS A B) (nwS A B) c → H T = none → Same H H' → H' T = some o → ResP A B v c o → Q (.ref T) H'
section
variable {P : Program} {w : World} {K : PySem.W.Frag} {mg : Str → Option Value} {base : Heap} {fB fH fI fJ fL fM : Addr} {dB dH dI dJ dL dM : FuncData}
theorem ok_sn {f : Addr} {fd : FuncData} (F : Fun K "_settled_on_narrow" "_settled_on_narrow" s_settled_on_narrow f fd) (SW : Cal P w K mg base "_settled_on_wide" 106 ["wide", "narrow", "value"] spSW fH dH) (Wr : Cal P w K mg base "written" 3 ["side", "value"] spDue fJ dJ) : FnOk P w K mg base CX0 107 f fd ["narrow", "wide", "value"] spSN := by
  refine F.ok sc_settled_on_narrow (fun vs H Q E h => ?_) (fun cdv A outer s0 H vs Q E hr h => ?_)
  · obtain ⟨a, b, d, e, y, rfl, _⟩ := h
    rfl
  · obtain ⟨a, b, d, e, y, rfl, ha, S, hb, T, le, cr, vb, q⟩ := h
    have nd := sc_settled_on_narrow.nd
    refine ⟨_, (pss_cons (ps_asg (pv 1) (pg_tup (by rfl) (pgs_cons (pg_name (i := 3) nd rfl (Or.inl rfl)) (pgs_cons (pg_name (i := 4) nd rfl (Or.inl rfl)) (pgs_cons (pg_name (i := 3) nd rfl (Or.inl rfl)) pgs_nil)))))
      (pss_cons (ps_set (i := 5) nd rfl (Or.inl rfl) (pcl Wr hr (by decide) (by rfl) (pa_cons (pv 1) (pa_cons (pv 2) pa_nil))))
      (pss_cons (ps_asg (pcl SW hr (by decide) (by rfl) (pa_cons (pv 1) (pa_cons (pv 0) (pa_cons (pv 5) pa_nil)))) (pg_tup (by rfl) (pgs_cons (pg_name (i := 6) nd rfl (Or.inl rfl)) (pgs_cons (pg_name (i := 7) nd rfl (Or.inl rfl)) pgs_nil))))
      (pss_cons (ps_set (i := 8) nd rfl (Or.inl rfl) (pcl Wr hr (by decide) (by rfl) (pa_cons (pv 0) (pa_cons (pv 6) pa_nil))))
      (pss_cons (ps_if (pt_cmpR op_gt (pv 6) (pv 5) (nomark _)) (pss_one (ps_set (i := 2) nd rfl (Or.inl rfl) (pcl Wr hr (by decide) (by rfl) (pa_cons (pv 0) (pa_cons (pe_op op_sub (pv 6) (pv 4)) pa_nil))))) pss_nil)
      (pss_cons (ps_if (pt_cmpR op_lt (pv 6) (pv 5) (nomark _)) (pss_one (ps_set (i := 2) nd rfl (Or.inl rfl) (pcl Wr hr (by decide) (by rfl) (pa_cons (pv 0) (pa_cons (pe_op op_add (pv 6) (pv 4)) pa_nil))))) pss_nil)
      (pss_cons (ps_if (pt_cmpR op_eq (pv 2) (pv 8) (nomark _)) (pss_one (ps_ret (pe_tup (pa_cons (pv 8) (pa_cons (pv 7) pa_nil))))) pss_nil)
      (pss_one (ps_ret (pe_tup (pa_cons (pv 8) (pa_cons (pe_op op_add (pv 7) pe_int) pa_nil)))))))))))), ?_⟩
    have s0' := S.s0
    have s1' := S.s1
    have t0' := T.s0
    have t1' := T.s1
    have near := due_near (o := d.o) (v := y) S.md s0'
    walk_at "rd"
    refine ⟨a, _, rfl, SqT.of ha, rfl, _, _, rfl, _, _, rfl, _, _, rfl, rfl, ?_⟩
    walk_at "rd"
    refine ⟨a, d.o, d.s, d.m, y, rfl, ha, S, (by unfold Bd; omega), fun H1 s1 => ?_⟩
    obtain ⟨k, hk⟩ := dW_is d y
    have hk2 : dueM d.o d.s d.m y = atK d k := hk
    have bk : -2 ^ 590 < atK d k ∧ atK d k < 2 ^ 590 := by rw [← hk2]; omega
    walk_at "rd"
    refine ⟨a, b, d, e, k, (by show [V.ref a, V.ref b, V.int (dueM d.o d.s d.m y)] = _; rw [hk2]), s1 _ _ ha, S, s1 _ _ hb, T, le, cr, bk, fun T1 H2 E1 r nT1 s2 hT1 SE bE => ?_⟩
    have ha2 := s2 _ _ (s1 _ _ ha)
    have hb2 := s2 _ _ (s1 _ _ hb)
    have stl := setn_stl (y := y) S (by rw [hk]; exact SE)
    refine ⟨T1, _, rfl, SqT.of hT1, rfl, _, _, rfl, _, _, rfl, rfl, ?_⟩
    walk_at "rd"
    refine ⟨b, e.o, e.s, e.m, E1, rfl, hb2, T, (by unfold Bd; omega), fun H3 s3 => ?_⟩
    have hb3 := s3 _ _ hb2
    have sA := s1.trans (s2.trans s3)
    have fin : ∀ (z : Int) (H' : Hp), Same H H' → z = lastN d e y (dW d y) E1 → ∀ (T : Addr), H' T = none → ∀ (H'' : Hp) (r2 : Nat), Same H' H'' → r2 = (if z = dW e E1 then r else r + 1) → H'' T = some (.tup [.int (dW e E1), .int (r2 : Int)]) → Q (.ref T) H'' := by
      intro z H' sm ez T3 nT H'' r2 sm2 er hT
      refine q T3 H'' (dW e E1) r2 (sm.free nT) (sm.trans sm2) hT ?_
      rw [er, ez]
      exact stl
    clear stl
    walk_at "rd"
    refine ite2 (fun z => ?_) (fun z => ?_)
    · have lt : dW d y < E1 := of_decide_eq_true z
      walk_at "rd"
      refine ⟨b, e.o, e.s, e.m, E1 - d.s, rfl, hb3, T, (by unfold Bd; omega), fun H4 s4 => ?_⟩
      walk_at "rd"
      refine ite2 (fun z2 => (by have z3 : E1 < dW d y := of_decide_eq_true z2; omega)) (fun _ => ?_)
      have ez : dueM e.o e.s e.m (E1 - d.s) = lastN d e y (dW d y) E1 := by unfold lastN; rw [if_pos lt]; rfl
      walk_at "rd"
      refine ⟨rfl, ?_⟩
      walk_at "rd"
      refine ite2 (fun y1 => ?_) (fun y1 => ?_)
      · have ey : dueM e.o e.s e.m (E1 - d.s) = dW e E1 := int_t y1
        walk_at "rd"
        refine ⟨(by show 2 ≤ sizeLine; decide), fun p np => ?_⟩
        exact fin _ H4 (sA.trans s4) ez p np _ r (fun b u z => (upd_ne (ne_of_none z np)).trans z) (by rw [if_pos ey]) upd_same
      · have ey : ¬ dueM e.o e.s e.m (E1 - d.s) = dW e E1 := int_f y1
        walk_at "rd"
        refine ⟨(by show 2 ≤ sizeLine; decide), fun p np => ?_⟩
        exact fin _ H4 (sA.trans s4) ez p np _ (r + 1) (fun b u z => (upd_ne (ne_of_none z np)).trans z) (by rw [if_neg ey]) upd_same
    · have lt : ¬ dW d y < E1 := fun w => z (decide_eq_true w)
      walk_at "rd"
      refine ite2 (fun z2 => ?_) (fun z2 => ?_)
      · have gt : E1 < dW d y := of_decide_eq_true z2
        walk_at "rd"
        refine ⟨b, e.o, e.s, e.m, E1 + d.s, rfl, hb3, T, (by unfold Bd; omega), fun H4 s4 => ?_⟩
        have ez : dueM e.o e.s e.m (E1 + d.s) = lastN d e y (dW d y) E1 := by unfold lastN; rw [if_neg lt, if_pos gt]; rfl
        walk_at "rd"
        refine ⟨rfl, ?_⟩
        walk_at "rd"
        refine ite2 (fun y1 => ?_) (fun y1 => ?_)
        · have ey : dueM e.o e.s e.m (E1 + d.s) = dW e E1 := int_t y1
          walk_at "rd"
          refine ⟨(by show 2 ≤ sizeLine; decide), fun p np => ?_⟩
          exact fin _ H4 (sA.trans s4) ez p np _ r (fun b u z => (upd_ne (ne_of_none z np)).trans z) (by rw [if_pos ey]) upd_same
        · have ey : ¬ dueM e.o e.s e.m (E1 + d.s) = dW e E1 := int_f y1
          walk_at "rd"
          refine ⟨(by show 2 ≤ sizeLine; decide), fun p np => ?_⟩
          exact fin _ H4 (sA.trans s4) ez p np _ (r + 1) (fun b u z => (upd_ne (ne_of_none z np)).trans z) (by rw [if_neg ey]) upd_same
      · have gt : ¬ E1 < dW d y := fun w => z2 (decide_eq_true w)
        have ez : y = lastN d e y (dW d y) E1 := by unfold lastN; rw [if_neg lt, if_neg gt]
        walk_at "rd"
        refine ⟨rfl, ?_⟩
        walk_at "rd"
        refine ite2 (fun y1 => ?_) (fun y1 => ?_)
        · have ey : y = dW e E1 := int_t y1
          walk_at "rd"
          refine ⟨(by show 2 ≤ sizeLine; decide), fun p np => ?_⟩
          exact fin _ H3 sA ez p np _ r (fun b u z => (upd_ne (ne_of_none z np)).trans z) (by rw [if_pos ey]) upd_same
        · have ey : ¬ y = dW e E1 := int_f y1
          walk_at "rd"
          refine ⟨(by show 2 ≤ sizeLine; decide), fun p np => ?_⟩
          exact fin _ H3 sA ez p np _ (r + 1) (fun b u z => (upd_ne (ne_of_none z np)).trans z) (by rw [if_neg ey]) upd_same
theorem ok_settled {f : Addr} {fd : FuncData} (F : Fun K "settled" "settled" s_settled f fd) (Cs : Cal P w K mg base "check_side" 3 ["side"] spCheckSide fB dB) (Cv : Cal P w K mg base "check_value" 2 ["value"] spCheckValue fH dH) (Cr : Cal P w K mg base "_creep" 106 ["first", "second"] spCreep fI dI) (SW : Cal P w K mg base "_settled_on_wide" 106 ["wide", "narrow", "value"] spSW fJ dJ) (SN : Cal P w K mg base "_settled_on_narrow" 107 ["narrow", "wide", "value"] spSN fL dL) (Wr : Cal P w K mg base "written" 3 ["side", "value"] spDue fM dM) : FnOk P w K mg base CX0 108 f fd ["first", "second", "value"] spSettled := by
  refine F.ok sc_settled (fun vs H Q E h => ?_) (fun cdv A outer s0 H vs Q E hr h => ?_)
  · obtain ⟨a, b, A, B, v, rfl, _⟩ := h
    rfl
  · obtain ⟨a, b, A1, B1, v, rfl, ha, S, hb, T, vb, q⟩ := h
    have nd := sc_settled.nd
    refine ⟨_, (pss_cons (ps_expr (pcl Cs hr (by decide) (by rfl) (pa_cons (pv 0) pa_nil)))
      (pss_cons (ps_expr (pcl Cs hr (by decide) (by rfl) (pa_cons (pv 1) pa_nil)))
      (pss_cons (ps_expr (pcl Cv hr (by decide) (by rfl) (pa_cons (pv 2) pa_nil)))
      (pss_cons (ps_set (i := 3) nd rfl (Or.inl rfl) (pcl Cr hr (by decide) (by rfl) (pa_cons (pv 0) (pa_cons (pv 1) pa_nil))))
      (pss_cons (ps_if (pt_cmpR op_ne (pv 3) pe_int (nomark _)) (pss_one (ps_ret (pe_tup (pa_cons pe_str (pa_cons (pv 3) pa_nil))))) pss_nil)
      (pss_cons (ps_set (i := 4) nd rfl (Or.inl rfl) (pcl Wr hr (by decide) (by rfl) (pa_cons (pv 0) (pa_cons (pv 2) pa_nil))))
      (pss_cons (ps_if (pt_cmpR op_gt (pe_ix ix_tup (pv 0) pe_int (fun _ _ => rfl)) (pe_ix ix_tup (pv 1) pe_int (fun _ _ => rfl)) (nomark _)) (pss_one (ps_asg (pcl SW hr (by decide) (by rfl) (pa_cons (pv 0) (pa_cons (pv 1) (pa_cons (pv 4) pa_nil)))) (pg_tup (by rfl) (pgs_cons (pg_name (i := 5) nd rfl (Or.inl rfl)) (pgs_cons (pg_name (i := 6) nd rfl (Or.inl rfl)) pgs_nil))))) (pss_one (ps_asg (pcl SN hr (by decide) (by rfl) (pa_cons (pv 0) (pa_cons (pv 1) (pa_cons (pv 4) pa_nil)))) (pg_tup (by rfl) (pgs_cons (pg_name (i := 5) nd rfl (Or.inl rfl)) (pgs_cons (pg_name (i := 6) nd rfl (Or.inl rfl)) pgs_nil))))))
      (pss_one (ps_ret (pe_tup (pa_cons pe_str (pa_cons (pv 5) (pa_cons (pv 6) pa_nil))))))))))))), ?_⟩
    have s0' := S.s0
    have s1' := S.s1
    have near := due_near (o := A1.o) (v := v) S.md s0'
    walk_at "rd"
    refine ⟨a, _, _, _, rfl, ha, S, ?_⟩
    walk_at "rd"
    refine ⟨b, _, _, _, rfl, hb, T, ?_⟩
    walk_at "rd"
    refine ⟨a, b, A1, B1, rfl, ha, S, hb, T, fun c H1 cr s1 => ?_⟩
    have ha1 := s1 _ _ ha
    have hb1 := s1 _ _ hb
    walk_at "rd"
    refine ⟨rfl, ?_⟩
    walk_at "rd"
    refine ite2 (fun z => ?_) (fun z => ?_)
    · have c0 : c ≠ 0 := fun e => not_t z (decide_eq_true (congrArg V.int e))
      walk_at "rd"
      refine ⟨(by show 2 ≤ sizeLine; decide), fun p np => ?_⟩
      exact q c p _ _ cr (s1.free np) (fun b u z => (upd_ne (ne_of_none (s1 _ _ z) np)).trans (s1 _ _ z)) upd_same (.inl ⟨c0, rfl⟩)
    · have c0 : c = 0 := int_t (not_f z)
      subst c0
      walk_at "rd"
      refine ⟨a, A1.o, A1.s, A1.m, v, rfl, ha1, S, (by unfold Bd; omega), fun H2 s2 => ?_⟩
      have ha2 := s2 _ _ ha1
      have hb2 := s2 _ _ hb1
      have s02 := s1.trans s2
      walk_at "rd"
      refine ⟨a, _, _, _, rfl, rfl, SqT.of ha2, rfl, ?_⟩
      walk_at "rd"
      refine ⟨b, _, _, _, rfl, rfl, SqT.of hb2, rfl, ?_⟩
      walk_at "rd"
      refine ite2 (fun y => ?_) (fun y => ?_)
      · have lt : B1.s < A1.s := of_decide_eq_true y
        obtain ⟨k, hk⟩ := dW_is A1 v
        have hk2 : dueM A1.o A1.s A1.m v = atK A1 k := hk
        have cr2 : CreepP A1 B1 0 := by
          have := cr
          unfold wdS nwS at this
          rw [if_pos lt, if_pos lt] at this
          exact this
        walk_at "rd"
        refine ⟨a, b, A1, B1, k, (by show [V.ref a, V.ref b, V.int (dueM A1.o A1.s A1.m v)] = _; rw [hk2]), ha2, S, hb2, T, by omega, cr2, by rw [← hk2]; omega, fun T1 H3 E1 r nT1 s3 hT1 SE bE => ?_⟩
        have stl : Stl (fT A1 B1) (dW A1 v) E1 r := by rw [hk]; exact setw_stl S SE
        refine ⟨T1, _, rfl, SqT.of hT1, rfl, _, _, rfl, _, _, rfl, rfl, ?_⟩
        walk_at "rd"
        refine ⟨(by show 3 ≤ sizeLine; decide), fun p np => ?_⟩
        have sA := s02.trans s3
        exact q 0 p _ _ cr (sA.free np) (fun b u z => (upd_ne (ne_of_none (sA _ _ z) np)).trans (sA _ _ z)) upd_same (.inr ⟨rfl, E1, r, stl, rfl⟩)
      · have lt : ¬ B1.s < A1.s := fun w => y (decide_eq_true w)
        have cr2 : CreepP B1 A1 0 := by
          have := cr
          unfold wdS nwS at this
          rw [if_neg lt, if_neg lt] at this
          exact this
        walk_at "rd"
        refine ⟨b, a, B1, A1, dueM A1.o A1.s A1.m v, rfl, hb2, T, ha2, S, by omega, cr2, by omega, fun T1 H3 E1 r nT1 s3 hT1 stl => ?_⟩
        refine ⟨T1, _, rfl, SqT.of hT1, rfl, _, _, rfl, _, _, rfl, rfl, ?_⟩
        walk_at "rd"
        refine ⟨(by show 3 ≤ sizeLine; decide), fun p np => ?_⟩
        have sA := s02.trans s3
        exact q 0 p _ _ cr (sA.free np) (fun b u z => (upd_ne (ne_of_none (sA _ _ z) np)).trans (sA _ _ z)) upd_same (.inr ⟨rfl, E1, r, stl, rfl⟩)
theorem ok_pace {f : Addr} {fd : FuncData} (F : Fun K "pace" "pace" s_pace f fd) (Cs : Cal P w K mg base "check_side" 3 ["side"] spCheckSide fB dB) (Cr : Cal P w K mg base "_creep" 106 ["first", "second"] spCreep fI dI) : FnOk P w K mg base CX0 107 f fd ["first", "second"] spCreep := by
  refine F.ok sc_pace (fun vs H Q E h => ?_) (fun cdv A outer s0 H vs Q E hr h => ?_)
  · obtain ⟨a, b, A, B, rfl, _⟩ := h
    rfl
  · obtain ⟨a, b, A1, B1, rfl, ha, S, hb, T, q⟩ := h
    refine ⟨_, (pss_cons (ps_expr (pcl Cs hr (by decide) (by rfl) (pa_cons (pv 0) pa_nil)))
      (pss_cons (ps_expr (pcl Cs hr (by decide) (by rfl) (pa_cons (pv 1) pa_nil)))
      (pss_one (ps_ret (pcl Cr hr (by decide) (by rfl) (pa_cons (pv 0) (pa_cons (pv 1) pa_nil))))))), ?_⟩
    walk_at "rd"
    refine ⟨a, _, _, _, rfl, ha, S, ?_⟩
    walk_at "rd"
    refine ⟨b, _, _, _, rfl, hb, T, ?_⟩
    walk_at "rd"
    exact ⟨a, b, A1, B1, rfl, ha, S, hb, T, q⟩
end
end HT
namespace HT
open PySem L2
/-- what the law's own walk tells -/
def LSP (A B : Sd) (v : Int) (o : HO) : Prop := (∃ (E : Int) (r : Nat), Stl (fT A B) (dW A v) E r ∧ o = .tup [.str "settles", .int E, .int (r : Int)]) ∨ (∃ c, RepP (fT A B) (comN [A, B] : Int) (dW A v) c ∧ o = .tup [.str "creeps", .int c])
def spTrip : Sp := fun vs H Q _ => ∃ (a b : Addr) (A B : Sd) (v : Int), vs = [.ref a, .ref b, .int v] ∧ H a = some (sideV A.o A.s A.m) ∧ SideP A.o A.s A.m ∧ H b = some (sideV B.o B.s B.m) ∧ SideP B.o B.s B.m ∧ (-2 ^ 900 < v ∧ v < 2 ^ 900) ∧ ∀ H', Same H H' → Q (.int (fT A B v)) H'
def spLS : Sp := fun vs H Q _ => ∃ (a b : Addr) (A B : Sd) (v : Int), vs = [.ref a, .ref b, .int v] ∧ H a = some (sideV A.o A.s A.m) ∧ SideP A.o A.s A.m ∧ H b = some (sideV B.o B.s B.m) ∧ SideP B.o B.s B.m ∧ (A.s ≤ 40 ∧ B.s ≤ 40) ∧ (-2 ^ 500 < v ∧ v < 2 ^ 500) ∧ ∀ (T : Addr) (H' : Hp) (o : HO), H T = none → Same H H' → H' T = some o → LSP A B v o → Q (.ref T) H'
theorem com_small2 {A B : Sd} (ha : SideP A.o A.s A.m) (hb : SideP B.o B.s B.m) (la : A.s ≤ 40) (lb : B.s ≤ 40) : comN [A, B] ≤ 6400 := by
  have e : comN [A, B] = ((1 : Nat).lcm (perN A)).lcm (perN B) := rfl
  have a0 := ha.s0
  have b0 := hb.s0
  have pa : perN A ≤ 80 := by
    unfold perN perM
    split <;> omega
  have pb : perN B ≤ 80 := by
    unfold perN perM
    split <;> omega
  rw [e, Nat.lcm_one_left]
  refine Nat.le_trans lcm_le (Nat.le_trans (Nat.mul_le_mul pa pb) (by decide))
theorem pig : ∀ (n : Nat) (l : List Nat), l.Nodup → (∀ x ∈ l, x < n) → l.length ≤ n
  | 0, [], _, _ => Nat.le_refl _
  | 0, x :: l, _, h => absurd (h x List.mem_cons_self) (Nat.not_lt_zero _)
  | n + 1, l, nd, h => by
    have nd2 : (l.erase n).Nodup := nd.erase n
    have h2 : ∀ x ∈ l.erase n, x < n := fun x hx => by
      have hx2 := (nd.mem_erase_iff).mp hx
      have := h x hx2.2
      omega
    have ih := pig n _ nd2 h2
    by_cases hm : n ∈ l
    · rw [List.length_erase_of_mem hm] at ih
      omega
    · rw [List.erase_of_not_mem hm] at ih
      omega
theorem fT_near {A B : Sd} (ha : SideP A.o A.s A.m) (hb : SideP B.o B.s B.m) (la : A.s ≤ 40) (lb : B.s ≤ 40) (x : Int) : x - 80 ≤ fT A B x ∧ fT A B x ≤ x + 80 := by
  have n1 := due_near (o := B.o) (v := x) hb.md hb.s0
  have n2 := due_near (o := A.o) (v := dW B x) ha.md ha.s0
  unfold fT
  unfold dW at n2 ⊢
  omega
theorem it_near {A B : Sd} (ha : SideP A.o A.s A.m) (hb : SideP B.o B.s B.m) (la : A.s ≤ 40) (lb : B.s ≤ 40) (h : Int) : ∀ i : Nat, h - 80 * (i : Int) ≤ it (fT A B) i h ∧ it (fT A B) i h ≤ h + 80 * (i : Int)
  | 0 => by show h - _ ≤ h ∧ h ≤ _; omega
  | i + 1 => by
    have ih := it_near ha hb la lb h i
    have n1 := fT_near ha hb la lb (it (fT A B) i h)
    show h - _ ≤ fT A B (it (fT A B) i h) ∧ fT A B (it (fT A B) i h) ≤ _
    omega
theorem inV_ints (x : Int) : ∀ l : List Int, inV (V.int x) (l.map V.int) = decide (x ∈ l)
  | [] => rfl
  | y :: l => by
    show ((y == x) || inV (V.int x) (l.map V.int)) = _
    rw [inV_ints x l]
    by_cases h : y = x
    · subst h
      simp
    · rw [beq_eq_false_iff_ne.mpr h, Bool.false_or]
      refine decide_eq_decide.mpr ⟨fun z => List.mem_cons_of_mem _ z, fun z => ?_⟩
      rcases List.mem_cons.mp z with w | w
      · exact absurd w.symm h
      · exact w
theorem flat_ints (l : List Int) : (l.map V.int).all flatV = true := by
  induction l with
  | nil => rfl
  | cons x l ih => rw [List.map_cons, List.all_cons, ih]; rfl
def itR (f : Int → Int) (L h : Int) (i : Nat) : List Int := (List.range i).map fun k => it f k h % L
def itP (f : Int → Int) (h : Int) (i : Nat) : List Int := (List.range i).map fun k => it f k h
theorem itR_succ (f : Int → Int) (L h : Int) (i : Nat) : itR f L h (i + 1) = itR f L h i ++ [it f i h % L] := by
  unfold itR
  rw [List.range_succ, List.map_append]
  rfl
theorem itP_succ (f : Int → Int) (h : Int) (i : Nat) : itP f h (i + 1) = itP f h i ++ [it f i h] := by
  unfold itP
  rw [List.range_succ, List.map_append]
  rfl
theorem itR_len (f : Int → Int) (L h : Int) (i : Nat) : (itR f L h i).length = i := by
  unfold itR
  rw [List.length_map, List.length_range]
theorem itP_len (f : Int → Int) (h : Int) (i : Nat) : (itP f h i).length = i := by
  unfold itP
  rw [List.length_map, List.length_range]
theorem itR_at {f : Int → Int} {L h : Int} {i k : Nat} (hk : k < i) : (itR f L h i)[k]? = some (it f k h % L) := by
  unfold itR
  rw [List.getElem?_map, List.getElem?_range hk]
  rfl
theorem itP_at {f : Int → Int} {h : Int} {i k : Nat} (hk : k < i) : (itP f h i)[k]? = some (it f k h) := by
  unfold itP
  rw [List.getElem?_map, List.getElem?_range hk]
  rfl
theorem itR_in {f : Int → Int} {L h x : Int} {i : Nat} : x ∈ itR f L h i ↔ ∃ k, k < i ∧ it f k h % L = x := by
  unfold itR
  rw [List.mem_map]
  constructor
  · rintro ⟨k, hk, e⟩
    exact ⟨k, List.mem_range.mp hk, e⟩
  · rintro ⟨k, hk, e⟩
    exact ⟨k, List.mem_range.mpr hk, e⟩
/-- so far no remainder came again -/
def NoRep (f : Int → Int) (L h : Int) (i : Nat) : Prop := ∀ j k, j < k → k < i → it f j h % L ≠ it f k h % L
theorem norep_le {f : Int → Int} {L h : Int} (hL : 0 < L) {i : Nat} (n : NoRep f L h i) : (i : Int) ≤ L := by
  have p := pig L.toNat ((List.range i).map fun k => (it f k h % L).toNat) ?_ ?_
  · rw [List.length_map, List.length_range] at p
    omega
  · rw [List.nodup_iff_pairwise_ne]
    rw [List.pairwise_map]
    refine List.Pairwise.imp_of_mem ?_ (List.pairwise_lt_range (n := i))
    intro a b ha hb lt e
    have r1 := Int.emod_nonneg (it f a h) (show L ≠ 0 by omega)
    have r2 := Int.emod_nonneg (it f b h) (show L ≠ 0 by omega)
    exact n a b lt (List.mem_range.mp hb) (by omega)
  · intro x hx
    obtain ⟨k, hk, rfl⟩ := List.mem_map.mp hx
    have r1 := Int.emod_nonneg (it f k h) (show L ≠ 0 by omega)
    have r2 := Int.emod_lt_of_pos (it f k h) hL
    show (it f k h % L).toNat < L.toNat
    omega
end HT
namespace HT
open PySem L2
theorem sidesAt1 {H : Hp} {l p : Addr} {o s : Int} {m : Str} (hl : H l = some (.lst [.ref p])) (h : H p = some (sideV o s m)) (S : SideP o s m) : SidesAt H l [.ref p] [⟨o, s, m⟩] :=
  ⟨hl, rfl, by show 1 ≤ 1; decide, by show 1 ≤ 4; decide, fun i d e => match i, e with
    | 0, e => by cases e; exact ⟨p, rfl, h, S⟩
    | i + 1, e => by cases e⟩
theorem sidesAt2 {H : Hp} {l p p2 : Addr} {o s o2 s2 : Int} {m m2 : Str} (hl : H l = some (.lst [.ref p, .ref p2])) (h : H p = some (sideV o s m)) (S : SideP o s m) (h2 : H p2 = some (sideV o2 s2 m2)) (S2 : SideP o2 s2 m2) : SidesAt H l [.ref p, .ref p2] [⟨o, s, m⟩, ⟨o2, s2, m2⟩] :=
  ⟨hl, rfl, by show 1 ≤ 2; decide, by show 2 ≤ 4; decide, fun i d e => match i, e with
    | 0, e => by cases e; exact ⟨p, rfl, h, S⟩
    | 1, e => by cases e; exact ⟨p2, rfl, h2, S2⟩
    | i + 2, e => by cases e⟩
theorem sidesAt3 {H : Hp} {l p p2 p3 : Addr} {o s o2 s2 o3 s3 : Int} {m m2 m3 : Str} (hl : H l = some (.lst [.ref p, .ref p2, .ref p3])) (h : H p = some (sideV o s m)) (S : SideP o s m) (h2 : H p2 = some (sideV o2 s2 m2)) (S2 : SideP o2 s2 m2) (h3 : H p3 = some (sideV o3 s3 m3)) (S3 : SideP o3 s3 m3) : SidesAt H l [.ref p, .ref p2, .ref p3] [⟨o, s, m⟩, ⟨o2, s2, m2⟩, ⟨o3, s3, m3⟩] :=
  ⟨hl, rfl, by show 1 ≤ 3; decide, by show 3 ≤ 4; decide, fun i d e => match i, e with
    | 0, e => by cases e; exact ⟨p, rfl, h, S⟩
    | 1, e => by cases e; exact ⟨p2, rfl, h2, S2⟩
    | 2, e => by cases e; exact ⟨p3, rfl, h3, S3⟩
    | i + 3, e => by cases e⟩
section
variable {P : Program} {w : World} {K : PySem.W.Frag} {mg : Str → Option Value} {base : Heap} {fB fH fI fJ : Addr} {dB dH dI dJ : FuncData}
theorem ok_trip {f : Addr} {fd : FuncData} (F : Fun K "_law_trip" "_law_trip" s_L_trip f fd) (Ha : Cal P w K mg base "_law_handed" 2 ["_law_side", "_law_value"] spDue fB dB) : FnOk P w K mg base CX0 3 f fd ["_law_first", "_law_second", "_law_value"] spTrip := by
  refine F.ok sc_L_trip (fun vs H Q E h => ?_) (fun cdv A outer s0 H vs Q E hr h => ?_)
  · obtain ⟨a, b, A, B, v, rfl, _⟩ := h
    rfl
  · obtain ⟨a, b, A1, B1, v, rfl, ha, S, hb, T, vb, q⟩ := h
    refine ⟨_, (pss_one (ps_ret (pcl Ha hr (by decide) (by rfl) (pa_cons (pv 0) (pa_cons (pcl Ha hr (by decide) (by rfl) (pa_cons (pv 1) (pa_cons (pv 2) pa_nil))) pa_nil))))), ?_⟩
    have near := due_near (o := B1.o) (v := v) T.md T.s0
    have t1 := T.s1
    walk_at "rd"
    refine ⟨b, B1.o, B1.s, B1.m, v, rfl, hb, T, (by unfold Bd; omega), fun H1 s1 => ?_⟩
    refine ⟨a, A1.o, A1.s, A1.m, _, rfl, s1 _ _ ha, S, (by unfold Bd; omega), fun H2 s2 => ?_⟩
    exact q H2 (s1.trans s2)
theorem ok_lset {f : Addr} {fd : FuncData} (F : Fun K "_law_settled" "_law_settled" s_L_settled f fd) (B : Blt mg) (Ha : Cal P w K mg base "_law_handed" 2 ["_law_side", "_law_value"] spDue fB dB) (Pe : Cal P w K mg base "_law_period" 2 ["_law_sides"] spPer fH dH) (Tr : Cal P w K mg base "_law_trip" 3 ["_law_first", "_law_second", "_law_value"] spTrip fI dI) : FnOk P w K mg base CX0 4 f fd ["_law_first", "_law_second", "_law_value"] spLS := by
  refine F.ok sc_L_settled (fun vs H Q E h => ?_) (fun cdv A outer s0 H vs Q E hr h => ?_)
  · obtain ⟨a, b, A, B, v, rfl, _⟩ := h
    rfl
  · obtain ⟨a, b, A1, B1, v, rfl, ha, S, hb, T, ⟨la, lb⟩, vb, q⟩ := h
    have nd := sc_L_settled.nd
    refine ⟨_, (pss_cons (ps_set (i := 3) nd rfl (Or.inl rfl) (pcl Ha hr (by decide) (by rfl) (pa_cons (pv 0) (pa_cons (pv 2) pa_nil))))
      (pss_cons (ps_set (i := 4) nd rfl (Or.inl rfl) (pcl Pe hr (by decide) (by rfl) (pa_cons (pe_lst (pa_cons (pv 0) (pa_cons (pv 1) pa_nil))) pa_nil)))
      (pss_cons (ps_par (i := 5) (j := 6) (by rfl) nd rfl rfl (by decide) rfl rfl (pa_cons (pe_lst pa_nil) (pa_cons (pe_lst pa_nil) pa_nil)) (by rfl))
      (pss_cons (ps_while PassesOwn.never (pt_cmpR op_notIn_seq (pe_op op_mod (pv 3) (pv 4)) (pv 5) (by rfl)) (pss_cons (ps_set (i := 7) nd rfl (Or.inl rfl) (pcl Tr hr (by decide) (by rfl) (pa_cons (pv 0) (pa_cons (pv 1) (pa_cons (pv 3) pa_nil)))))
      (pss_cons (ps_if (pt_cmpR op_eq (pv 7) (pv 3) (nomark _)) (pss_one (ps_ret (pe_tup (pa_cons pe_str (pa_cons (pv 3) (pa_cons (pe_callB call_len_seq (by rfl) B.len PySem.boot_len (pa_cons (pv 6) pa_nil)) pa_nil)))))) pss_nil)
      (pss_cons (ps_expr (pe_bm PySem.F.plainAttrs_list PySem.F.slot_list_append PySem.F.type_list_append mt_append (pv 5) (pa_cons (pe_op op_mod (pv 3) (pv 4)) pa_nil)))
      (pss_cons (ps_expr (pe_bm PySem.F.plainAttrs_list PySem.F.slot_list_append PySem.F.type_list_append mt_append (pv 6) (pa_cons (pv 3) pa_nil)))
      (pss_one (ps_set (i := 3) nd rfl (Or.inl rfl) (pv 7))))))))
      (pss_cons (ps_set (i := 8) nd rfl (Or.inl rfl) (pe_bm PySem.F.plainAttrs_list PySem.F.slot_list_index PySem.F.type_list_index mt_index (pv 5) (pa_cons (pe_op op_mod (pv 3) (pv 4)) pa_nil)))
      (pss_one (ps_ret (pe_tup (pa_cons pe_str (pa_cons (pe_op op_fdivW (pe_op op_sub (pv 3) (pe_ix ix_list (pv 6) (pv 8) (fun _ _ => rfl))) (pe_op op_sub (pe_callB call_len_seq (by rfl) B.len PySem.boot_len (pa_cons (pv 6) pa_nil)) (pv 8))) pa_nil)))))))))), ?_⟩
    have near := due_near (o := A1.o) (v := v) S.md S.s0
    walk_at "rd"
    refine ⟨a, A1.o, A1.s, A1.m, v, rfl, ha, S, (by unfold Bd; omega), fun H1 s1 => ?_⟩
    walk_at "rd"
    refine ⟨(by show 2 ≤ sizeLine; decide), fun pl npl => ?_⟩
    generalize e_pl : upd H1 pl _ = H2
    have fl : H2 pl = some (.lst [.ref a, .ref b]) := by rw [← e_pl]; exact upd_same
    have s2 : Same H1 H2 := by rw [← e_pl]; exact fun b u z => (upd_ne (ne_of_none z npl)).trans z
    clear e_pl
    have s12 := s1.trans s2
    have SS : SidesAt H2 pl [.ref a, .ref b] [A1, B1] := sidesAt2 fl (s12 _ _ ha) S (s12 _ _ hb) T
    walk_at "rd"
    refine ⟨pl, _, [A1, B1], rfl, SS, ?_⟩
    have cs := com_small2 S T la lb
    have cp := perL_pos S T
    have cp2 : (0 : Int) < (comN [A1, B1] : Int) := cp
    have hvb : -2 ^ 510 < dW A1 v ∧ dW A1 v < 2 ^ 510 := by
      have := S.s1
      unfold dW
      omega
    walk_at "rd"
    refine ⟨(by show 0 ≤ sizeLine; decide), fun R nR => ?_⟩
    generalize e_R : upd H2 R _ = H3
    have fR : H3 R = some (.lst []) := by rw [← e_R]; exact upd_same
    have s3 : Same H2 H3 := by rw [← e_R]; exact fun b u z => (upd_ne (ne_of_none z nR)).trans z
    clear e_R
    walk_at "rd"
    refine ⟨(by show 0 ≤ sizeLine; decide), fun Pp nPp => ?_⟩
    generalize e_Pp : upd H3 Pp _ = H4
    have fP : H4 Pp = some (.lst []) := by rw [← e_Pp]; exact upd_same
    have s4 : Same H3 H4 := by rw [← e_Pp]; exact fun b u z => (upd_ne (ne_of_none z nPp)).trans z
    clear e_Pp
    walk_at "rd"
    refine ⟨_, _, rfl, ?_⟩
    have s24 := s3.trans s4
    have s04 := s12.trans s24
    have RP : R ≠ Pp := ne_of_none fR nPp
    have hNR : H R = none := s12.free nR
    have hNP : H Pp = none := (s12.trans s3).free nPp
    walk_at "rd"
    refine ⟨fun m st H' => ∃ (i : Nat) (x7 : Option V), m + i = (comN [A1, B1]) ∧ st = [some (.ref a), some (.ref b), some (.int v), some (.int (it (fT A1 B1) i (dW A1 v))), some (.int (comN [A1, B1] : Int)), some (.ref R), some (.ref Pp), x7, none] ∧ Same H H' ∧ H' R = some (.lst ((itR (fT A1 B1) (comN [A1, B1] : Int) (dW A1 v) i).map V.int)) ∧ H' Pp = some (.lst ((itP (fT A1 B1) (dW A1 v) i).map V.int)) ∧ NoRep (fT A1 B1) (comN [A1, B1] : Int) (dW A1 v) i ∧ ∀ k, k < i → it (fT A1 B1) (k + 1) (dW A1 v) ≠ it (fT A1 B1) k (dW A1 v),
      ⟨comN [A1, B1], 0, none, rfl, rfl, s04, s4 _ _ fR, fP, fun j k _ hk => absurd hk (Nat.not_lt_zero _), fun k hk => absurd hk (Nat.not_lt_zero _)⟩, ?_⟩
    rintro m st H' ⟨i, x7, em, rfl, sm, hR, hP, nrp, nst⟩
    have hi := norep_le cp2 nrp
    have inr := it_near S T la lb (dW A1 v) i
    walk_at "rd"
    have cnn : (i : Int) ≤ 6400 := by omega
    have el : ((itP (fT A1 B1) (dW A1 v) i).map V.int).length = i := by rw [List.length_map, itP_len]
    have elR : ((itR (fT A1 B1) (comN [A1, B1] : Int) (dW A1 v) i).map V.int).length = i := by rw [List.length_map, itR_len]
    have ibd : -2 ^ 520 < it (fT A1 B1) i (dW A1 v) ∧ it (fT A1 B1) i (dW A1 v) < 2 ^ 520 := by omega
    refine ⟨cp2, ?_⟩
    walk_at "rd"
    refine ⟨R, _, rfl, .inl (SqL.of hR), rfl, flat_ints _, ?_⟩
    refine ⟨_, rfl, ?_⟩
    refine ite2 (fun z => ?_) (fun z => ?_)
    · have z2 : ¬ it (fT A1 B1) i (dW A1 v) % (comN [A1, B1] : Int) ∈ itR (fT A1 B1) (comN [A1, B1] : Int) (dW A1 v) i := fun y => not_t z ((inV_ints _ _).trans (decide_eq_true y))
      have nrp2 : NoRep (fT A1 B1) (comN [A1, B1] : Int) (dW A1 v) (i + 1) := fun j k jk ki => by
        by_cases y : k < i
        · exact nrp j k jk y
        · obtain rfl : k = i := by omega
          exact fun w => z2 (itR_in.mpr ⟨j, jk, w⟩)
      have hi2 := norep_le cp2 nrp2
      refine ⟨fun σ' H'' => ∃ (x7 : Option V), σ' = [some (.ref a), some (.ref b), some (.int v), some (.int (it (fT A1 B1) (i + 1) (dW A1 v))), some (.int (comN [A1, B1] : Int)), some (.ref R), some (.ref Pp), x7, none] ∧ Same H H'' ∧ H'' R = some (.lst ((itR (fT A1 B1) (comN [A1, B1] : Int) (dW A1 v) (i + 1)).map V.int)) ∧ H'' Pp = some (.lst ((itP (fT A1 B1) (dW A1 v) (i + 1)).map V.int)) ∧ it (fT A1 B1) (i + 1) (dW A1 v) ≠ it (fT A1 B1) i (dW A1 v),
        fun σ' H'' ⟨x7, e1, e2, e3, e4, e5⟩ => ⟨m - 1, by omega, i + 1, x7, by omega, e1, e2, e3, e4, nrp2, fun k hk => ?_⟩, ?_⟩
      · by_cases y : k < i
        · exact nst k y
        · obtain rfl : k = i := by omega
          exact e5
      walk_at "rd"
      refine ⟨a, b, A1, B1, _, rfl, sm _ _ ha, S, sm _ _ hb, T, by omega, fun H5 s5 => ?_⟩
      have hR5 := s5 _ _ hR
      have hP5 := s5 _ _ hP
      have s05 := sm.trans s5
      walk_at "rd"
      refine ⟨rfl, ?_⟩
      walk_at "rd"
      refine ite2 (fun y => ?_) (fun y => ?_)
      · have ey : fT A1 B1 (it (fT A1 B1) i (dW A1 v)) = it (fT A1 B1) i (dW A1 v) := int_t y
        walk_at "rd"
        refine ⟨Pp, _, rfl, .inl (SqL.of hP5), ?_⟩
        walk_at "rd"
        refine ⟨(by show 3 ≤ sizeLine; decide), fun p np => ?_⟩
        exact q p _ _ (s05.free np) (fun b u z => (upd_ne (ne_of_none (s05 _ _ z) np)).trans (s05 _ _ z)) upd_same (.inl ⟨_, i, ⟨rfl, ey, nst⟩, by rw [el]⟩)
      · have ey : ¬ fT A1 B1 (it (fT A1 B1) i (dW A1 v)) = it (fT A1 B1) i (dW A1 v) := int_f y
        walk_at "rd"
        refine ⟨.inl ⟨rfl, _, SqL.of hR5⟩, ?_⟩
        walk_at "rd"
        refine ⟨cp2, ?_⟩
        walk_at "rd"
        refine ⟨R, _, _, rfl, rfl, hR5, (by rw [elR]; exact Nat.lt_of_lt_of_le (by omega : i < 7000) (by decide)), ?_⟩
        generalize e_6 : upd H5 R _ = H6
        have hR6 : H6 R = some (.lst ((itR (fT A1 B1) (comN [A1, B1] : Int) (dW A1 v) (i + 1)).map V.int)) := by
          rw [← e_6, itR_succ, List.map_append]
          exact upd_same
        have hP6 : H6 Pp = some (.lst ((itP (fT A1 B1) (dW A1 v) i).map V.int)) := by rw [← e_6]; exact (upd_ne (Ne.symm RP)).trans hP5
        have s06 : Same H H6 := by rw [← e_6]; exact fun b u z => (upd_ne (ne_of_none z hNR)).trans (s05 _ _ z)
        clear e_6
        walk_at "rd"
        refine ⟨.inl ⟨rfl, _, SqL.of hP6⟩, ?_⟩
        walk_at "rd"
        refine ⟨Pp, _, _, rfl, rfl, hP6, (by rw [el]; exact Nat.lt_of_lt_of_le (by omega : i < 7000) (by decide)), ?_⟩
        refine ⟨_, rfl, _, rfl, fun b u z => (upd_ne (ne_of_none z hNP)).trans (s06 _ _ z), (upd_ne RP).trans hR6, ?_, ey⟩
        rw [itP_succ, List.map_append]
        exact upd_same
    · have z2 : it (fT A1 B1) i (dW A1 v) % (comN [A1, B1] : Int) ∈ itR (fT A1 B1) (comN [A1, B1] : Int) (dW A1 v) i := of_decide_eq_true ((inV_ints _ _).symm.trans (not_f z))
      obtain ⟨k, ki, ek⟩ := itR_in.mp z2
      walk_at "rd"
      refine ⟨.inl ⟨rfl, _, SqL.of hR⟩, ?_⟩
      walk_at "rd"
      refine ⟨cp2, ?_⟩
      walk_at "rd"
      refine ⟨R, _, .int (it (fT A1 B1) i (dW A1 v) % (comN [A1, B1] : Int)), k, .int (it (fT A1 B1) k (dW A1 v) % (comN [A1, B1] : Int)), rfl, rfl, SqL.of hR, rfl, flat_ints _, ?_, ?_, fun m2 z' hm hz => ?_, ?_⟩
      · rw [List.getElem?_map, itR_at ki]
        rfl
      · show (it (fT A1 B1) k (dW A1 v) % (comN [A1, B1] : Int) == it (fT A1 B1) i (dW A1 v) % (comN [A1, B1] : Int)) = true
        rw [ek]
        exact beq_self_eq_true _
      · rw [List.getElem?_map, itR_at (show m2 < i by omega)] at hz
        cases hz
        show (it (fT A1 B1) m2 (dW A1 v) % (comN [A1, B1] : Int) == it (fT A1 B1) i (dW A1 v) % (comN [A1, B1] : Int)) = false
        rw [← ek]
        exact beq_eq_false_iff_ne.mpr (nrp m2 k hm ki)
      walk_at "rd"
      refine ⟨Pp, _, _, .int (it (fT A1 B1) k (dW A1 v)), rfl, rfl, SqL.of hP, atI_nat (show ((itP (fT A1 B1) (dW A1 v) i).map V.int)[k]? = _ by rw [List.getElem?_map, itP_at ki]; rfl), ?_⟩
      walk_at "rd"
      refine ⟨Pp, _, rfl, .inl (SqL.of hP), ?_⟩
      walk_at "rd"
      have ed : (((itP (fT A1 B1) (dW A1 v) i).map V.int).length : Int) - (k : Int) = ((i - k : Nat) : Int) := by rw [el]; omega
      refine ⟨fdiv_ok _ (by omega) (lg_big (by omega) (by omega)), ?_⟩
      walk_at "rd"
      refine ⟨(by show 2 ≤ sizeLine; decide), fun p np => ?_⟩
      refine q p _ _ (sm.free np) (fun b u z => (upd_ne (ne_of_none (sm _ _ z) np)).trans (sm _ _ z)) upd_same (.inr ⟨_, ⟨k, i, it (fT A1 B1) i (dW A1 v) / (comN [A1, B1] : Int) - it (fT A1 B1) k (dW A1 v) / (comN [A1, B1] : Int), ki, ?_, rfl, nst⟩, ?_⟩)
      · have e1 := Int.emod_add_mul_ediv (it (fT A1 B1) i (dW A1 v)) (comN [A1, B1] : Int)
        have e2 := Int.emod_add_mul_ediv (it (fT A1 B1) k (dW A1 v)) (comN [A1, B1] : Int)
        rw [Int.mul_sub]
        omega
      · rw [← ed]
end
end HT
namespace HT
open PySem L2
theorem set_ex {d e : Sd} (h : SideP d.o d.s d.m) (he : SideP e.o e.s e.m) (le : e.s ≤ d.s) (cr : CreepP d e 0) (k : Int) : ∃ E r, SetW d e (atK d k) E r := by
  have s0 := h.s0
  obtain ⟨⟨k1, c1⟩, k2, c2⟩ : (∃ k, Rd d e (atK d k) ≤ atK d k) ∧ ∃ k, atK d k ≤ Rd d e (atK d k) := by
    rcases cr with ⟨z, _⟩ | ⟨z, _⟩ | ⟨_, x⟩
    · omega
    · omega
    · exact x
  by_cases z : atK d k ≤ Rd d e (atK d k)
  · obtain ⟨r, L⟩ := least_ex (not_creep h he c1 k)
    exact ⟨_, r, up_set h he le z L⟩
  · have ea : -atK d k = atK (mirS d) (-k) := by rw [mirS_at, Int.neg_neg]
    have c3 : Rd (mirS d) (mirS e) (atK (mirS d) (-k2)) ≤ atK (mirS d) (-k2) := by
      rw [mirS_at, Int.neg_neg, mirS_Rd h he]
      omega
    obtain ⟨r, L⟩ := least_ex (not_creep (mirS_side h) (mirS_side he) c3 (-k))
    rw [← ea] at L
    exact ⟨_, r, down_set h he le (by omega) L⟩
theorem stl_ex {A B : Sd} (h : SideP A.o A.s A.m) (he : SideP B.o B.s B.m) (cr : CreepP (wdS A B) (nwS A B) 0) (v : Int) : ∃ E r, Stl (fT A B) (dW A v) E r := by
  by_cases lt : B.s < A.s
  · unfold wdS nwS at cr
    rw [if_pos lt, if_pos lt] at cr
    obtain ⟨k, hk⟩ := dW_is A v
    obtain ⟨E, r, S⟩ := set_ex h he (by omega) cr k
    exact ⟨E, r, by rw [hk]; exact setw_stl h S⟩
  · unfold wdS nwS at cr
    rw [if_neg lt, if_neg lt] at cr
    obtain ⟨k, hk⟩ := dW_is B (dW A v)
    obtain ⟨E, r, S⟩ := set_ex he h (by omega) cr k
    exact ⟨_, _, setn_stl he (by rw [hk]; exact S)⟩
theorem crp_of {A B : Sd} (h : SideP A.o A.s A.m) (he : SideP B.o B.s B.m) {c : Int} (cr : CreepP (wdS A B) (nwS A B) c) (c0 : c ≠ 0) (v : Int) : Crp (fT A B) (comN [A, B] : Int) (dW A v) c := by
  by_cases lt : B.s < A.s
  · unfold wdS nwS at cr
    rw [if_pos lt, if_pos lt] at cr
    have ch : (c = A.s ∧ ∀ k, Rd A B (atK A k) = atK A (k + 1)) ∨ (c = -A.s ∧ ∀ k, Rd A B (atK A k) = atK A (k - 1)) := by
      rcases cr with x | x | ⟨z, _⟩
      · exact .inl x
      · exact .inr x
      · exact absurd z c0
    exact crp_wide h (by simp) (creep_crp h ch) v
  · unfold wdS nwS at cr
    rw [if_neg lt, if_neg lt] at cr
    have ch : (c = B.s ∧ ∀ k, Rd B A (atK B k) = atK B (k + 1)) ∨ (c = -B.s ∧ ∀ k, Rd B A (atK B k) = atK B (k - 1)) := by
      rcases cr with x | x | ⟨z, _⟩
      · exact .inl x
      · exact .inr x
      · exact absurd z c0
    exact crp_narrow he (by simp) (creep_crp he ch) (dW A v)
theorem fT_per {A B : Sd} (h : SideP A.o A.s A.m) (he : SideP B.o B.s B.m) (x t : Int) : fT A B (x + (comN [A, B] : Int) * t) = fT A B x + (comN [A, B] : Int) * t := by
  unfold fT
  rw [dW_per he (by simp), dW_per h (by simp)]
theorem lsp_res {A B : Sd} (h : SideP A.o A.s A.m) (he : SideP B.o B.s B.m) {c v : Int} {o : HO} (cr : CreepP (wdS A B) (nwS A B) c) (L : LSP A B v o) : ResP A B v c o := by
  by_cases c0 : c = 0
  · subst c0
    rcases L with ⟨E, r, s, e⟩ | ⟨c', rp, e⟩
    · exact .inr ⟨rfl, E, r, s, e⟩
    · obtain ⟨E, r, s⟩ := stl_ex h he cr v
      exact (stl_rep (fT_per h he) s rp).elim
  · have cp := crp_of h he cr c0 v
    rcases L with ⟨E, r, s, e⟩ | ⟨c', rp, e⟩
    · exact (stl_crp s cp).elim
    · have := rep_crp rp cp
      subst this
      exact .inl ⟨c0, e⟩
theorem res_uniq {A B : Sd} {c v : Int} {o o' : HO} (a : ResP A B v c o) (b : ResP A B v c o') : o = o' := by
  rcases a with ⟨c0, e⟩ | ⟨c0, E, r, s, e⟩
  · rcases b with ⟨_, e'⟩ | ⟨z, _⟩
    · rw [e, e']
    · exact absurd z c0
  · rcases b with ⟨z, _⟩ | ⟨_, E', r', s', e'⟩
    · exact absurd c0 z
    · obtain ⟨e1, e2⟩ := stl_uniq s s'
      subst e1 e2
      rw [e, e']
theorem cd_uniq {A B : Sd} (h : SideP A.o A.s A.m) (he : SideP B.o B.s B.m) {c c' : Int} (a : CreepP (wdS A B) (nwS A B) c) (b : CreepP (wdS A B) (nwS A B) c') : c = c' := by
  by_cases lt : B.s < A.s
  · unfold wdS nwS at a b
    rw [if_pos lt, if_pos lt] at a b
    exact creep_uniq h a b
  · unfold wdS nwS at a b
    rw [if_neg lt, if_neg lt] at a b
    exact creep_uniq he a b
def sA : Sd := ⟨0, 10, "up"⟩
def sB : Sd := ⟨0, 4, "up"⟩
theorem sA_side : SideP sA.o sA.s sA.m := ⟨by decide, by decide, by decide, by decide, .inr (.inl rfl)⟩
theorem sB_side : SideP sB.o sB.s sB.m := ⟨by decide, by decide, by decide, by decide, .inr (.inl rfl)⟩
theorem ab_creep : CreepP (wdS sA sB) (nwS sA sB) 0 := .inr (.inr ⟨rfl, ⟨2, by decide +kernel⟩, ⟨2, by decide +kernel⟩⟩)
theorem ab_stl : Stl (fT sA sB) (dW sA 1) 20 1 := ⟨by decide +kernel, by decide +kernel, fun i hi => by
  obtain rfl : i = 0 := by omega
  decide +kernel⟩
theorem ab_res {c : Int} {o : HO} (cr : CreepP (wdS sA sB) (nwS sA sB) c) (r : ResP sA sB 1 c o) : o = .tup [.str "settles", .int 20, .int 1] := by
  have := cd_uniq sA_side sB_side cr ab_creep
  subst this
  exact res_uniq r (.inr ⟨rfl, 20, 1, ab_stl, rfl⟩)
/-- the parts of what is told -/
def wordH (c : Int) : Str := if c = 0 then "settles" else "creeps"
inductive PartsP (c : Int) : HO → List V → List PyData → Prop where
  | cr (c0 : c ≠ 0) : PartsP c (.tup [.str "creeps", .int c]) [.str "creeps", .int c] [.str "creeps", .int c]
  | st (c0 : c = 0) (E : Int) (r : Nat) : PartsP c (.tup [.str "settles", .int E, .int (r : Int)]) [.str "settles", .int E, .int (r : Int)] [.str "settles", .int E, .int (r : Int)]
theorem res_parts {A B : Sd} {c v : Int} {o : HO} (a : ResP A B v c o) : ∃ xs ds, PartsP c o xs ds := by
  rcases a with ⟨c0, e⟩ | ⟨c0, E, r, s, e⟩
  · subst e
    exact ⟨_, _, .cr c0⟩
  · subst e
    exact ⟨_, _, .st c0 E r⟩
end HT
namespace HT
open PySem L2
theorem goes_scale {m : Str} {s q r f : Int} (h : Mode m) (hf : 1 ≤ f) : goesUp m (s * f) q (r * f) = goesUp m s q r := by
  have key : ∀ a b : Int, a * f < b * f ↔ a < b := fun a b => Int.mul_lt_mul_right (by omega)
  have key2 : ∀ a b : Int, a * f ≤ b * f ↔ a ≤ b := fun a b => by
    rw [← Int.not_lt, key, Int.not_lt]
  have e0 : (0 : Int) < r * f ↔ 0 < r := by
    have := key 0 r
    rw [Int.zero_mul] at this
    exact this
  have e1 : s * f < 2 * (r * f) ↔ s < 2 * r := by
    have := key s (2 * r)
    rw [Int.mul_assoc] at this
    exact this
  have e2 : s * f ≤ 2 * (r * f) ↔ s ≤ 2 * r := by
    have := key2 s (2 * r)
    rw [Int.mul_assoc] at this
    exact this
  have e3 : 2 * (r * f) = s * f ↔ 2 * r = s := by
    rw [← Int.mul_assoc]
    exact Int.mul_eq_mul_right_iff (by omega)
  rcases h with e | e | e | e | e <;> subst e
  · rw [go_down, go_down]
  · rw [go_up, go_up]; exact decide_eq_decide.mpr e0
  · rw [go_hd, go_hd]; exact decide_eq_decide.mpr e1
  · rw [go_hu, go_hu]; exact decide_eq_decide.mpr e2
  · rw [go_he, go_he, decide_eq_decide.mpr e1, decide_eq_decide.mpr e3]
theorem due_scale {o s v f : Int} {m : Str} (h : Mode m) (hs : 1 ≤ s) (hf : 1 ≤ f) : dueM (o * f) (s * f) m (v * f) = dueM o s m v * f := by
  have F := fig_of (o := o) (m := m) (v := v) hs
  have sf : 1 ≤ s * f := Int.mul_pos (by omega) (by omega)
  obtain ⟨eq, r0, r1, wh⟩ := F
  generalize (v - o) / s = q at eq wh
  generalize (v - o) % s = r at eq r0 r1 wh
  have F2 : Fig (o * f) (s * f) m (v * f) q (r * f) (figM o s m v) := by
    refine ⟨?_, Int.mul_nonneg r0 (by omega), (Int.mul_lt_mul_right (by omega)).mpr r1, ?_⟩
    · rw [← Int.sub_mul, eq, Int.add_mul, Int.mul_assoc, Int.mul_assoc, Int.mul_comm q f]
    · rw [goes_scale h hf]; exact wh
  have e := fig_uniq sf F2
  unfold dueM
  rw [e, Int.add_mul, Int.mul_assoc, Int.mul_assoc, Int.mul_comm f]
def lift (f : Int) (d : Sd) : Sd := ⟨d.o * f, d.s * f, d.m⟩
theorem lift_dW {d : Sd} (h : SideP d.o d.s d.m) {f : Int} (hf : 1 ≤ f) (x : Int) : dW (lift f d) (x * f) = dW d x * f := due_scale h.md h.s0 hf
theorem lift_at (f : Int) (d : Sd) (k : Int) : atK (lift f d) k = atK d k * f := by
  unfold atK lift
  show d.o * f + d.s * f * k = (d.o + d.s * k) * f
  rw [Int.add_mul, Int.mul_assoc, Int.mul_assoc, Int.mul_comm f k]
theorem lift_Rd {d e : Sd} (h : SideP d.o d.s d.m) (he : SideP e.o e.s e.m) {f : Int} (hf : 1 ≤ f) (x : Int) : Rd (lift f d) (lift f e) (x * f) = Rd d e x * f := by
  unfold Rd
  rw [lift_dW he hf, lift_dW h hf]
theorem lift_fT {A B : Sd} (h : SideP A.o A.s A.m) (he : SideP B.o B.s B.m) {f : Int} (hf : 1 ≤ f) (x : Int) : fT (lift f A) (lift f B) (x * f) = fT A B x * f := by
  unfold fT
  rw [lift_dW he hf, lift_dW h hf]
theorem lift_creep {d e : Sd} (h : SideP d.o d.s d.m) (he : SideP e.o e.s e.m) {f : Int} (hf : 1 ≤ f) {c : Int} (cr : CreepP d e c) : CreepP (lift f d) (lift f e) (c * f) := by
  have sc : ∀ a b : Int, a * f ≤ b * f ↔ a ≤ b := fun a b => Int.mul_le_mul_right (by omega)
  rcases cr with ⟨e1, st⟩ | ⟨e1, st⟩ | ⟨e1, ⟨k1, x⟩, k2, y⟩
  · exact .inl ⟨by rw [e1]; rfl, fun k => by rw [lift_at, lift_Rd h he hf, st, lift_at]⟩
  · exact .inr (.inl ⟨by rw [e1]; show -d.s * f = -(d.s * f); rw [Int.neg_mul], fun k => by rw [lift_at, lift_Rd h he hf, st, lift_at]⟩)
  · exact .inr (.inr ⟨by rw [e1, Int.zero_mul], ⟨k1, by rw [lift_at, lift_Rd h he hf]; exact (sc _ _).mpr x⟩, ⟨k2, by rw [lift_at, lift_Rd h he hf]; exact (sc _ _).mpr y⟩⟩)
theorem lift_wd (A B : Sd) {f : Int} (hf : 1 ≤ f) : wdS (lift f A) (lift f B) = lift f (wdS A B) ∧ nwS (lift f A) (lift f B) = lift f (nwS A B) := by
  have i : (lift f B).s < (lift f A).s ↔ B.s < A.s := Int.mul_lt_mul_right (by omega)
  unfold wdS nwS
  by_cases z : B.s < A.s
  · rw [if_pos z, if_pos z, if_pos (i.mpr z), if_pos (i.mpr z)]
    exact ⟨rfl, rfl⟩
  · rw [if_neg z, if_neg z, if_neg (fun y => z (i.mp y)), if_neg (fun y => z (i.mp y))]
    exact ⟨rfl, rfl⟩
theorem wd_sides {A B : Sd} (h : SideP A.o A.s A.m) (he : SideP B.o B.s B.m) : SideP (wdS A B).o (wdS A B).s (wdS A B).m ∧ SideP (nwS A B).o (nwS A B).s (nwS A B).m := by
  unfold wdS nwS
  split
  · exact ⟨h, he⟩
  · exact ⟨he, h⟩
theorem lift_creep2 {A B : Sd} (h : SideP A.o A.s A.m) (he : SideP B.o B.s B.m) {f : Int} (hf : 1 ≤ f) {c : Int} (cr : CreepP (wdS A B) (nwS A B) c) : CreepP (wdS (lift f A) (lift f B)) (nwS (lift f A) (lift f B)) (c * f) := by
  obtain ⟨e1, e2⟩ := lift_wd A B hf
  obtain ⟨s1, s2⟩ := wd_sides h he
  rw [e1, e2]
  exact lift_creep s1 s2 hf cr
theorem lift_stl {A B : Sd} (h : SideP A.o A.s A.m) (he : SideP B.o B.s B.m) {f : Int} (hf : 1 ≤ f) {v E : Int} {r : Nat} (s : Stl (fT A B) v E r) : Stl (fT (lift f A) (lift f B)) (v * f) (E * f) r := by
  have ei : ∀ i, it (fT (lift f A) (lift f B)) i (v * f) = it (fT A B) i v * f := by
    intro i
    induction i with
    | zero => rfl
    | succ i ih =>
      show fT (lift f A) (lift f B) (it (fT (lift f A) (lift f B)) i (v * f)) = _
      rw [ih, lift_fT h he hf]
      rfl
  obtain ⟨a, b, c⟩ := s
  refine ⟨by rw [ei, a], by rw [lift_fT h he hf, b], fun i hi z => c i hi ?_⟩
  rw [ei, ei] at z
  exact Int.eq_of_mul_eq_mul_right (by omega) z
/-- what is told of lifted sides -/
inductive LiftO (f : Int) : HO → HO → Prop where
  | cr (c : Int) : LiftO f (.tup [.str "creeps", .int c]) (.tup [.str "creeps", .int (c * f)])
  | st (E : Int) (r : Nat) : LiftO f (.tup [.str "settles", .int E, .int (r : Int)]) (.tup [.str "settles", .int (E * f), .int (r : Int)])
theorem res_lift {A B : Sd} (h : SideP A.o A.s A.m) (he : SideP B.o B.s B.m) {f : Int} (hf : 1 ≤ f) (h2 : SideP (lift f A).o (lift f A).s (lift f A).m) (he2 : SideP (lift f B).o (lift f B).s (lift f B).m) {v c c' : Int} {o o' : HO} (cr : CreepP (wdS A B) (nwS A B) c) (R : ResP A B v c o) (cr' : CreepP (wdS (lift f A) (lift f B)) (nwS (lift f A) (lift f B)) c') (R' : ResP (lift f A) (lift f B) (v * f) c' o') : c' = c * f ∧ LiftO f o o' := by
  have ec := cd_uniq h2 he2 cr' (lift_creep2 h he hf cr)
  refine ⟨ec, ?_⟩
  subst ec
  rcases R with ⟨c0, e⟩ | ⟨c0, E, r, s, e⟩
  · rcases R' with ⟨c0', e'⟩ | ⟨z, _⟩
    · rw [e, e']
      exact .cr c
    · exact absurd z (Int.mul_ne_zero c0 (by omega))
  · subst c0
    rcases R' with ⟨z, _⟩ | ⟨_, E', r', s', e'⟩
    · exact absurd (Int.zero_mul f) z
    · have s2 := lift_stl h he hf s
      rw [← lift_dW h hf] at s2
      obtain ⟨e1, e2⟩ := stl_uniq s' s2
      subst e1 e2
      rw [e, e']
      exact .st E _
theorem fT_mono {A B : Sd} (h : SideP A.o A.s A.m) (he : SideP B.o B.s B.m) {x y : Int} (z : x ≤ y) : fT A B x ≤ fT A B y := dW_le h (dW_le he z)
/-- what lies between goes on -/
theorem stl_up {f : Int → Int} (mono : ∀ {x y : Int}, x ≤ y → f x ≤ f y) {h E x : Int} {r : Nat} (s : Stl f h E r) (h1 : h ≤ x) (h2 : x ≤ E) : f x ≤ E ∧ (x ≠ E → x < f x) := by
  obtain ⟨a, b, _⟩ := s
  refine ⟨by rw [← b]; exact mono h2, fun ne => ?_⟩
  have key : ∀ n, x < it f n h → ∃ i, it f i h ≤ x ∧ x < it f (i + 1) h := by
    intro n
    induction n with
    | zero => intro z; have : x < h := z; omega
    | succ n ih =>
      intro z
      by_cases y : x < it f n h
      · exact ih y
      · exact ⟨n, by omega, z⟩
  obtain ⟨i, c, d⟩ := key r (by omega)
  have := mono c
  have e : it f (i + 1) h = f (it f i h) := rfl
  omega
theorem stl_dn {f : Int → Int} (mono : ∀ {x y : Int}, x ≤ y → f x ≤ f y) {h E x : Int} {r : Nat} (s : Stl f h E r) (h1 : x ≤ h) (h2 : E ≤ x) : E ≤ f x ∧ (x ≠ E → f x < x) := by
  obtain ⟨a, b, _⟩ := s
  refine ⟨by rw [← b]; exact mono h2, fun ne => ?_⟩
  have key : ∀ n, it f n h < x → ∃ i, x ≤ it f i h ∧ it f (i + 1) h < x := by
    intro n
    induction n with
    | zero => intro z; have : h < x := z; omega
    | succ n ih =>
      intro z
      by_cases y : it f n h < x
      · exact ih y
      · exact ⟨n, by omega, z⟩
  obtain ⟨i, c, d⟩ := key r (by omega)
  have := mono c
  have e : it f (i + 1) h = f (it f i h) := rfl
  omega
theorem it_add (f : Int → Int) (x : Int) : ∀ n, it f n (f x) = it f (n + 1) x
  | 0 => rfl
  | n + 1 => by
    show f (it f n (f x)) = f (it f (n + 1) x)
    rw [it_add f x n]
theorem stl_next {f : Int → Int} {h E : Int} {r : Nat} (s : Stl f h E (r + 1)) : Stl f (f h) E r := by
  obtain ⟨a, b, c⟩ := s
  exact ⟨by rw [it_add]; exact a, b, fun i hi => by rw [it_add, it_add]; exact c (i + 1) (by omega)⟩
theorem stl_zero {f : Int → Int} {h E : Int} {r : Nat} (s : Stl f h E r) : r = 0 ↔ f h = h := by
  obtain ⟨a, b, c⟩ := s
  constructor
  · intro e
    subst e
    have : h = E := a
    rw [this]; exact b
  · intro e
    by_cases z : r = 0
    · exact z
    · exact absurd (show it f 1 h = it f 0 h from e) (c 0 (by omega))
/-- a creeping round goes the pace's way -/
theorem creep_way {A B : Sd} (h : SideP A.o A.s A.m) (he : SideP B.o B.s B.m) {c : Int} (cr : CreepP (wdS A B) (nwS A B) c) (c0 : c ≠ 0) (v : Int) : (0 < c → dW A v < fT A B (dW A v)) ∧ (c < 0 → fT A B (dW A v) < dW A v) := by
  by_cases lt : B.s < A.s
  · unfold wdS nwS at cr
    rw [if_pos lt, if_pos lt] at cr
    have ch : (c = A.s ∧ ∀ k, Rd A B (atK A k) = atK A (k + 1)) ∨ (c = -A.s ∧ ∀ k, Rd A B (atK A k) = atK A (k - 1)) := by
      rcases cr with x | x | ⟨z, _⟩
      · exact .inl x
      · exact .inr x
      · exact absurd z c0
    obtain ⟨_, st⟩ := creep_crp h ch
    obtain ⟨k, hk⟩ := dW_is A v
    have e : fT A B (dW A v) = dW A v + c := by rw [hk]; exact st k
    omega
  · unfold wdS nwS at cr
    rw [if_neg lt, if_neg lt] at cr
    have ch : (c = B.s ∧ ∀ k, Rd B A (atK B k) = atK B (k + 1)) ∨ (c = -B.s ∧ ∀ k, Rd B A (atK B k) = atK B (k - 1)) := by
      rcases cr with x | x | ⟨z, _⟩
      · exact .inl x
      · exact .inr x
      · exact absurd z c0
    obtain ⟨_, st⟩ := creep_crp he ch
    obtain ⟨k, hk⟩ := dW_is B (dW A v)
    have e : dW B (fT A B (dW A v)) = dW B (dW A v) + c := by
      show dW B (dW A (dW B (dW A v))) = _
      rw [hk]
      exact st k
    constructor
    · intro p
      by_cases z : dW A v < fT A B (dW A v)
      · exact z
      · have := dW_le he (show fT A B (dW A v) ≤ dW A v by omega)
        omega
    · intro p
      by_cases z : fT A B (dW A v) < dW A v
      · exact z
      · have := dW_le he (show dW A v ≤ fT A B (dW A v) by omega)
        omega
theorem creep_size {A B : Sd} (h : SideP A.o A.s A.m) (he : SideP B.o B.s B.m) {c : Int} (cr : CreepP (wdS A B) (nwS A B) c) (c0 : c ≠ 0) : (c.natAbs : Int) = if B.s > A.s then B.s else A.s := by
  have a0 := h.s0
  have b0 := he.s0
  have ch : c = (wdS A B).s ∨ c = -(wdS A B).s := by
    rcases cr with ⟨x, _⟩ | ⟨x, _⟩ | ⟨z, _⟩
    · exact .inl x
    · exact .inr x
    · exact absurd z c0
  have e : (wdS A B).s = if B.s > A.s then B.s else A.s := by
    unfold wdS
    split
    · rw [if_neg (by omega)]
    · split <;> omega
  have p : 1 ≤ (wdS A B).s := by
    rw [e]
    split <;> omega
  rw [← e]
  rcases ch with x | x <;> omega
/-- the law's own wide and narrow side -/
def lwS (A B : Sd) : Sd := if A.s < B.s then B else A
def loS (A B : Sd) : Sd := if B.s ≤ A.s then B else A
theorem creep_law {A B : Sd} (h : SideP A.o A.s A.m) (he : SideP B.o B.s B.m) {c : Int} (cr : CreepP (wdS A B) (nwS A B) c) (c0 : c ≠ 0) (y : Int) : dW (lwS A B) (dW (loS A B) (dW (lwS A B) y)) = dW (lwS A B) y + c := by
  rcases Int.lt_trichotomy A.s B.s with lt | eq | lt
  · unfold wdS nwS at cr
    rw [if_neg (by omega), if_neg (by omega)] at cr
    have ch : (c = B.s ∧ ∀ k, Rd B A (atK B k) = atK B (k + 1)) ∨ (c = -B.s ∧ ∀ k, Rd B A (atK B k) = atK B (k - 1)) := by
      rcases cr with x | x | ⟨z, _⟩
      · exact .inl x
      · exact .inr x
      · exact absurd z c0
    obtain ⟨_, st⟩ := creep_crp he ch
    unfold lwS loS
    rw [if_pos lt, if_neg (by omega)]
    obtain ⟨k, hk⟩ := dW_is B y
    rw [hk]
    exact st k
  · unfold wdS nwS at cr
    rw [if_neg (by omega), if_neg (by omega)] at cr
    have ch : (c = B.s ∧ ∀ k, Rd B A (atK B k) = atK B (k + 1)) ∨ (c = -B.s ∧ ∀ k, Rd B A (atK B k) = atK B (k - 1)) := by
      rcases cr with x | x | ⟨z, _⟩
      · exact .inl x
      · exact .inr x
      · exact absurd z c0
    obtain ⟨_, st⟩ := creep_crp he ch
    have cs : c = B.s ∨ c = -B.s := ch.elim (fun x => .inl x.1) (fun x => .inr x.1)
    unfold lwS loS
    rw [if_neg (by omega), if_pos (by omega)]
    have a0 := h.s0
    obtain ⟨k, hk⟩ := dW_is A y
    obtain ⟨j, hj⟩ := dW_is A (dW B (dW A y))
    obtain ⟨i, hi⟩ := dW_is B (dW A y)
    have e : dW B (dW A (dW B (dW A y))) = dW B (dW A y) + c := by
      rw [hi]
      exact st i
    have n1 := due_near (o := B.o) (v := dW A y) he.md he.s0
    have n2 := due_near (o := A.o) (v := dW B (dW A y)) h.md h.s0
    have n1' : dW B (dW A y) - dW A y < B.s ∧ dW A y - dW B (dW A y) < B.s := n1
    have n2' : dW A (dW B (dW A y)) - dW B (dW A y) < A.s ∧ dW B (dW A y) - dW A (dW B (dW A y)) < A.s := n2
    have up : ∀ t : Int, atK A (k + t) = atK A k + A.s * t := fun t => atK_add A k t
    have jd : dW A (dW B (dW A y)) = dW A y + A.s * (j - k) := by
      rw [hj, hk, ← up, show k + (j - k) = j by omega]
    have b1 : j - k < 2 := by
      by_cases z : j - k < 2
      · exact z
      · have : A.s * 2 ≤ A.s * (j - k) := Int.mul_le_mul_of_nonneg_left (by omega) (by omega)
        omega
    have b2 : -2 < j - k := by
      by_cases z : -2 < j - k
      · exact z
      · have : A.s * (j - k) ≤ A.s * (-2) := Int.mul_le_mul_of_nonneg_left (by omega) (by omega)
        omega
    rcases cs with x | x
    · have g : dW A y < dW A (dW B (dW A y)) := by
        by_cases z : dW A y < dW A (dW B (dW A y))
        · exact z
        · have := dW_le he (show dW A (dW B (dW A y)) ≤ dW A y by omega)
          omega
      have j1 : j - k = 1 := by
        rcases (by omega : j - k = -1 ∨ j - k = 0 ∨ j - k = 1) with w | w | w
        · rw [w] at jd; omega
        · rw [w] at jd; omega
        · exact w
      rw [j1] at jd
      omega
    · have g : dW A (dW B (dW A y)) < dW A y := by
        by_cases z : dW A (dW B (dW A y)) < dW A y
        · exact z
        · have := dW_le he (show dW A y ≤ dW A (dW B (dW A y)) by omega)
          omega
      have j1 : j - k = -1 := by
        rcases (by omega : j - k = -1 ∨ j - k = 0 ∨ j - k = 1) with w | w | w
        · exact w
        · rw [w] at jd; omega
        · rw [w] at jd; omega
      rw [j1] at jd
      omega
  · unfold wdS nwS at cr
    rw [if_pos lt, if_pos lt] at cr
    have ch : (c = A.s ∧ ∀ k, Rd A B (atK A k) = atK A (k + 1)) ∨ (c = -A.s ∧ ∀ k, Rd A B (atK A k) = atK A (k - 1)) := by
      rcases cr with x | x | ⟨z, _⟩
      · exact .inl x
      · exact .inr x
      · exact absurd z c0
    obtain ⟨_, st⟩ := creep_crp h ch
    unfold lwS loS
    rw [if_neg (by omega), if_pos (by omega)]
    obtain ⟨k, hk⟩ := dW_is A y
    rw [hk]
    exact st k
end HT
namespace HT
open PySem L2
theorem p10_mono {a b : Nat} (h : a ≤ b) : (10 : Int) ^ a ≤ 10 ^ b := by
  have : (10 : Nat) ^ a ≤ 10 ^ b := Nat.pow_le_pow_right (by decide) h
  exact_mod_cast this
theorem digs_of {x : V} (h : x ∈ [V.int 1, .int 12, .int 40]) : ∃ n : Nat, x = .int (n : Int) ∧ n ≤ 40 := by
  simp only [List.mem_cons, List.not_mem_nil, or_false] at h
  rcases h with h | h | h
  · exact ⟨1, h, by decide⟩
  · exact ⟨12, h, by decide⟩
  · exact ⟨40, h, by decide⟩
theorem digs_of2 {x : V} (h : x ∈ [V.int 1, .int 30, .int 40]) : ∃ n : Nat, x = .int (n : Int) ∧ n ≤ 40 := by
  simp only [List.mem_cons, List.not_mem_nil, or_false] at h
  rcases h with h | h | h
  · exact ⟨1, h, by decide⟩
  · exact ⟨30, h, by decide⟩
  · exact ⟨40, h, by decide⟩
theorem sg_of {x : V} (h : x ∈ [V.int 1, .int (-1)]) : ∃ j : Int, x = .int j ∧ (j = 1 ∨ j = -1) := by
  simp only [List.mem_cons, List.not_mem_nil, or_false] at h
  rcases h with h | h
  · exact ⟨_, h, .inl rfl⟩
  · exact ⟨_, h, .inr rfl⟩
theorem md_of {x : V} (h : x ∈ [V.str "down", .str "up", .str "half_down", .str "half_up", .str "half_even"]) : ∃ m : Str, x = .str m ∧ Mode m := by
  simp only [List.mem_cons, List.not_mem_nil, or_false] at h
  rcases h with h | h | h | h | h
  · exact ⟨_, h, .inl rfl⟩
  · exact ⟨_, h, .inr (.inl rfl)⟩
  · exact ⟨_, h, .inr (.inr (.inl rfl))⟩
  · exact ⟨_, h, .inr (.inr (.inr (.inl rfl)))⟩
  · exact ⟨_, h, .inr (.inr (.inr (.inr rfl)))⟩
def spGS : Sp := fun vs H Q _ => ∃ (a c : Addr) (t : Nat), vs = [.ref a] ∧ Src H a c t ∧ t + 200 < 2 ^ 30 ∧ ∀ (p : Addr) (d : Sd) (H' : Hp) (t' : Nat), H' p = some (sideV d.o d.s d.m) → SideP d.o d.s d.m → t' ≤ t + 90 → Src H' a c t' → Oth a c H H' → Q (.ref p) H'
def spTimes : Sp := fun vs H Q _ => ∃ (p : Addr) (d : Sd) (f : Int), vs = [.ref p, .int f] ∧ H p = some (sideV d.o d.s d.m) ∧ (-2 ^ 100 < d.o ∧ d.o < 2 ^ 100) ∧ (-2 ^ 100 < d.s ∧ d.s < 2 ^ 100) ∧ (-2 ^ 200 < f ∧ f < 2 ^ 200) ∧ ∀ (T : Addr) (H' : Hp), H T = none → Same H H' → H' T = some (sideV (d.o * f) (d.s * f) d.m) → Q (.ref T) H'
/-- between two places each value of the first side goes on -/
def BetP (A B : Sd) (lo hi : Int) (up : Bool) : Prop := ∀ x, lo ≤ x → x ≤ hi → if up = true then fT A B x ≤ hi ∧ (x ≠ hi → x < fT A B x) else lo ≤ fT A B x ∧ (x ≠ lo → fT A B x < x)
def spBet (up : Bool) : Sp := fun vs H Q _ => ∃ (a c p1 p2 : Addr) (t : Nat) (A B : Sd) (lo hi : Int), vs = [.ref a, .ref p1, .ref p2, .int lo, .int hi] ∧ Src H a c t ∧ t + 300 < 2 ^ 30 ∧ H p1 = some (sideV A.o A.s A.m) ∧ SideP A.o A.s A.m ∧ H p2 = some (sideV B.o B.s B.m) ∧ SideP B.o B.s B.m ∧ (-2 ^ 600 < lo ∧ lo ≤ hi ∧ hi < 2 ^ 600) ∧ BetP A B lo hi up ∧ ∀ (H' : Hp) (t' : Nat), t' ≤ t + 136 → Src H' a c t' → Oth a c H H' → Q (.bl true) H'
section
variable {P : Program} {w : World} {K : PySem.W.Frag} {mg : Str → Option Value} {base : Heap} {fB fH fI fJ : Addr} {dB dH dI dJ : FuncData}
theorem ok_gs {f : Addr} {fd : FuncData} (F : Fun K "_law_great_side" "_law_great_side" s_L_great_side f fd) (D : Cal P w K mg base "_law_draw" 1 ["_law_source_here", "_law_limit"] spDraw fB dB) (Pi : Cal P w K mg base "_law_pick" 2 ["_law_source_here", "_law_values"] spPick fH dH) (Gr : Cal P w K mg base "_law_great" 2 ["_law_source_here", "_law_digits"] spGreat fI dI) : FnOk P w K mg base CX0 3 f fd ["_law_source_here"] spGS := by
  refine F.ok sc_L_great_side (fun vs H Q E h => ?_) (fun cdv A outer s0 H vs Q E hr h => ?_)
  · obtain ⟨a, c, t, rfl, _⟩ := h
    rfl
  · obtain ⟨a, c, t, rfl, S, ht, q⟩ := h
    have nd := sc_L_great_side.nd
    refine ⟨_, (pss_cons (ps_set (i := 1) nd rfl (Or.inl rfl) (pe_op op_add pe_int (pe_op op_mod (pcl Gr hr (by decide) (by rfl) (pa_cons (pv 0) (pa_cons (pe_op op_add pe_int (pcl D hr (by decide) (by rfl) (pa_cons (pv 0) (pa_cons pe_int pa_nil)))) pa_nil))) (pe_op op_pow pe_int pe_int))))
      (pss_cons (ps_set (i := 2) nd rfl (Or.inl rfl) (pe_op op_mulW (pcl Gr hr (by decide) (by rfl) (pa_cons (pv 0) (pa_cons (pcl Pi hr (by decide) (by rfl) (pa_cons (pv 0) (pa_cons (pe_lst (pa_cons pe_int (pa_cons pe_int (pa_cons pe_int pa_nil)))) pa_nil))) pa_nil))) (pcl Pi hr (by decide) (by rfl) (pa_cons (pv 0) (pa_cons (pe_lst (pa_cons pe_int (pa_cons (pe_un un_neg pe_int) pa_nil))) pa_nil)))))
      (pss_one (ps_ret (pe_tup (pa_cons (pv 2) (pa_cons (pv 1) (pa_cons (pcl Pi hr (by decide) (by rfl) (pa_cons (pv 0) (pa_cons (pe_lst (pa_cons pe_str (pa_cons pe_str (pa_cons pe_str (pa_cons pe_str (pa_cons pe_str pa_nil)))))) pa_nil))) pa_nil)))))))), ?_⟩
    walk_at "rd"
    refine ⟨a, c, t, 30, rfl, S, by omega, by decide, by decide, fun k1 H1 k10 k11 S1 O1 => ?_⟩
    obtain ⟨m1, rfl⟩ := Int.eq_ofNat_of_zero_le k10
    walk_at "rd"
    have g1 : (1 : Int) + (m1 : Int) = ((m1 + 1 : Nat) : Int) := by omega
    refine ⟨a, c, t + 1, m1 + 1, (by show [V.ref a, V.int (1 + (m1 : Int))] = _; rw [g1]), S1, by omega, by omega, fun k2 H2 k20 k21 S2 O2 => ?_⟩
    walk_at "rd"
    refine ⟨⟨by decide, by decide, by decide⟩, ?_⟩
    walk_at "rd"
    refine ⟨(by show (0 : Int) < 10 ^ (30 : Int).toNat; decide), ?_⟩
    have st0 : (1 : Int) ≤ 1 + k2 % 10 ^ (30 : Int).toNat := by
      have := Int.emod_nonneg k2 (show (10 : Int) ^ (30 : Int).toNat ≠ 0 by decide)
      omega
    have st1 : 1 + k2 % (10 : Int) ^ (30 : Int).toNat ≤ 10 ^ 30 := by
      have := Int.emod_lt_of_pos k2 (show (0 : Int) < 10 ^ (30 : Int).toNat by decide)
      have e : (10 : Int) ^ (30 : Int).toNat = 10 ^ 30 := by decide
      omega
    walk_at "rd"
    refine ⟨(by show 3 ≤ sizeLine; decide), fun l1 nl1 => ?_⟩
    obtain ⟨la1, lc1⟩ := S2.na nl1
    refine ⟨a, c, _, l1, _, rfl, S2.new nl1, by omega, upd_same, la1, lc1, by decide, by decide, fun x3 H3 hx3 S3 O3 => ?_⟩
    obtain ⟨n3, rfl, n40⟩ := digs_of hx3
    walk_at "rd"
    refine ⟨a, c, _, n3, rfl, S3, by omega, by omega, fun k4 H4 k40 k41 S4 O4 => ?_⟩
    walk_at "rd"
    refine ⟨(by show 2 ≤ sizeLine; decide), fun l2 nl2 => ?_⟩
    obtain ⟨la2, lc2⟩ := S4.na nl2
    refine ⟨a, c, _, l2, _, rfl, S4.new nl2, by omega, upd_same, la2, lc2, by decide, by decide, fun x5 H5 hx5 S5 O5 => ?_⟩
    obtain ⟨j, rfl, hj⟩ := sg_of hx5
    have z4 : k4 < 10 ^ 40 := Int.lt_of_lt_of_le k41 (p10_mono n40)
    walk_at "rd"
    refine ⟨mulW (by omega) (by rcases hj with e | e <;> subst e <;> omega), ?_⟩
    have of0 : -10 ^ 40 ≤ k4 * j ∧ k4 * j ≤ 10 ^ 40 := by rcases hj with e | e <;> subst e <;> omega
    walk_at "rd"
    refine ⟨(by show 5 ≤ sizeLine; decide), fun l3 nl3 => ?_⟩
    obtain ⟨la3, lc3⟩ := S5.na nl3
    refine ⟨a, c, _, l3, _, rfl, S5.new nl3, by omega, upd_same, la3, lc3, by decide, by decide, fun x6 H6 hx6 S6 O6 => ?_⟩
    obtain ⟨md, rfl, hmd⟩ := md_of hx6
    have O06 : Oth a c H H6 := (((((((O1.trans O2).new nl1).trans O3).trans O4).new nl2).trans O5).new nl3).trans O6
    refine ⟨(by show 3 ≤ sizeLine; decide), fun p np => ?_⟩
    exact q p ⟨k4 * j, 1 + k2 % 10 ^ (30 : Int).toNat, md⟩ _ _ upd_same ⟨of0.1, of0.2, st0, st1, hmd⟩ (by omega) (S6.new np) (O06.new np)
theorem ok_times {f : Addr} {fd : FuncData} (F : Fun K "_law_times" "_law_times" s_L_times f fd) : FnOk P w K mg base CX0 1 f fd ["_law_side", "_law_factor"] spTimes := by
  refine F.ok sc_L_times (fun vs H Q E h => ?_) (fun cdv A outer s0 H vs Q E hr h => ?_)
  · obtain ⟨p, d, f, rfl, _⟩ := h
    rfl
  · obtain ⟨p, d, f, rfl, hp, b1, b2, b3, q⟩ := h
    refine ⟨_, (pss_one (ps_ret (pe_tup (pa_cons (pe_op op_mulW (pe_ix ix_tup (pv 0) pe_int (fun _ _ => rfl)) (pv 1)) (pa_cons (pe_op op_mulW (pe_ix ix_tup (pv 0) pe_int (fun _ _ => rfl)) (pv 1)) (pa_cons (pe_ix ix_tup (pv 0) pe_int (fun _ _ => rfl)) pa_nil)))))), ?_⟩
    walk_at "rd"
    refine ⟨p, _, _, _, rfl, rfl, SqT.of hp, rfl, ?_⟩
    walk_at "rd"
    refine ⟨mulW (by omega) (by omega), ?_⟩
    walk_at "rd"
    refine ⟨p, _, _, _, rfl, rfl, SqT.of hp, rfl, ?_⟩
    walk_at "rd"
    refine ⟨mulW (by omega) (by omega), ?_⟩
    walk_at "rd"
    refine ⟨p, _, _, _, rfl, rfl, SqT.of hp, rfl, ?_⟩
    refine ⟨(by show 3 ≤ sizeLine; decide), fun T nT => ?_⟩
    exact q T _ nT (fun b u z => (upd_ne (ne_of_none z nT)).trans z) upd_same
theorem ok_bet {f : Addr} {fd : FuncData} (F : Fun K "_law_between_fits" "_law_between_fits" s_L_between_fits f fd) (B : Blt mg) (Gr : Cal P w K mg base "_law_great" 2 ["_law_source_here", "_law_digits"] spGreat fB dB) (Tr : Cal P w K mg base "_law_trip" 3 ["_law_first", "_law_second", "_law_value"] spTrip fI dI) : FnOk P w K mg base CX0 4 f fd ["_law_source_here", "_law_first", "_law_second", "_law_low", "_law_high"] (spBet true) := by
  refine F.ok sc_L_between_fits (fun vs H Q E h => ?_) (fun cdv A outer s0 H vs Q E hr h => ?_)
  · obtain ⟨a, c, p1, p2, t, A, B, lo, hi, rfl, _⟩ := h
    rfl
  · obtain ⟨a, c, p1, p2, t, A1, B1, lo, hi, rfl, S, ht, h1, SA, h2, SB, ⟨l0, lh, l1⟩, BP, q⟩ := h
    have nd := sc_L_between_fits.nd
    refine ⟨_, (pss_cons (ps_set (i := 5) nd rfl (Or.inl rfl) (pe_op op_fdivW (pe_op op_sub (pv 4) (pv 3)) (pe_ix ix_tup (pv 1) pe_int (fun _ _ => rfl))))
      (pss_cons (ps_for PassesOwn.never rfl (pi_range1 (by rfl) B.range (pa_cons pe_int pa_nil)) (pg_name (i := 6) nd rfl (Or.inl rfl)) (pss_cons (ps_set (i := 7) nd rfl (Or.inl rfl) (pe_op op_add (pv 3) (pe_op op_mulW (pe_ix ix_tup (pv 1) pe_int (fun _ _ => rfl)) (pe_op op_mod (pcl Gr hr (by decide) (by rfl) (pa_cons (pv 0) (pa_cons pe_int pa_nil))) (pe_op op_add (pv 5) pe_int)))))
      (pss_cons (ps_set (i := 8) nd rfl (Or.inl rfl) (pcl Tr hr (by decide) (by rfl) (pa_cons (pv 1) (pa_cons (pv 2) (pa_cons (pv 7) pa_nil)))))
      (pss_one (ps_if (PW.pt (pw_or (PW.pt (pw_and (pt_cmpR op_ne (pv 7) (pv 4) (nomark _)) (pw_and1 (pt_cmpR op_le (pv 8) (pv 7) (nomark _))))) (pw_or1 (pt_cmpR op_gt (pv 8) (pv 4) (nomark _))))) (pss_one (ps_ret pe_bl)) pss_nil)))))
      (pss_one (ps_ret pe_bl)))), ?_⟩
    have a0 := SA.s0
    have a1 := SA.s1
    obtain ⟨pa, pc⟩ := S.nt h1
    obtain ⟨qa, qc⟩ := S.nt h2
    walk_at "rd"
    refine ⟨p1, _, _, _, rfl, rfl, SqT.of h1, rfl, ?_⟩
    walk_at "rd"
    refine ⟨fdiv_ok _ (by omega) (lg_big (by omega) (by omega)), ?_⟩
    obtain ⟨mn, emn⟩ : ∃ mn : Int, mn = (hi - lo) / A1.s := ⟨_, rfl⟩
    have mn0 : 0 ≤ mn := by rw [emn]; exact Int.ediv_nonneg (by omega) (by omega)
    have mn1 : A1.s * mn ≤ hi - lo := by rw [emn]; exact Int.mul_ediv_self_le (by omega)
    have mn2 : 1 * mn ≤ A1.s * mn := Int.mul_le_mul_of_nonneg_right a0 mn0
    walk_at "rd"
    refine ⟨by decide, by decide, ?_⟩
    refine for_range (n := 4) (fun k σ H' => ∃ (x6 x7 x8 : Option V) (t' : Nat), σ = [some (.ref a), some (.ref p1), some (.ref p2), some (.int lo), some (.int hi), some (.int mn), x6, x7, x8] ∧ t' ≤ t + 34 * k ∧ Src H' a c t' ∧ Oth a c H H') ⟨none, none, none, t, (by rw [emn]; rfl), by omega, S, Oth.refl _ _ _⟩ ?_ ?_
    · rintro k σ H' hk ⟨x6, x7, x8, t', rfl, ht', S', O'⟩
      walk_at "rd"
      refine ⟨p1, _, _, _, rfl, rfl, SqT.of (O' _ _ h1 pa pc), rfl, ?_⟩
      walk_at "rd"
      refine ⟨a, c, t', 34, rfl, S', by decide, by omega, fun g H2 g0 g1 S2 O2 => ?_⟩
      walk_at "rd"
      refine ⟨(by show (0 : Int) < mn + 1; omega), ?_⟩
      have r0 := Int.emod_nonneg g (show mn + 1 ≠ 0 by omega)
      have r1 := Int.emod_lt_of_pos g (show 0 < mn + 1 by omega)
      have sx : A1.s * (g % (mn + 1)) ≤ A1.s * mn := Int.mul_le_mul_of_nonneg_left (by omega) (by omega)
      have sx0 : 0 ≤ A1.s * (g % (mn + 1)) := Int.mul_nonneg (by omega) r0
      have O02 := O'.trans O2
      walk_at "rd"
      refine ⟨mulW (by omega) (by omega), ?_⟩
      walk_at "rd"
      refine ⟨p1, p2, A1, B1, lo + A1.s * (g % (mn + 1)), rfl, O02 _ _ h1 pa pc, SA, O02 _ _ h2 qa qc, SB, by omega, fun H3 s3 => ?_⟩
      obtain ⟨u1, u2⟩ : fT A1 B1 (lo + A1.s * (g % (mn + 1))) ≤ hi ∧ (lo + A1.s * (g % (mn + 1)) ≠ hi → lo + A1.s * (g % (mn + 1)) < fT A1 B1 (lo + A1.s * (g % (mn + 1)))) := by
        have := BP (lo + A1.s * (g % (mn + 1))) (by omega) (by omega)
        rw [if_pos rfl] at this
        exact this
      have fin : ∃ (x6 x7 x8 : Option V) (t' : Nat), [some (V.ref a), some (V.ref p1), some (.ref p2), some (.int lo), some (.int hi), some (.int mn), some (.int (0 + (k : Int))), some (.int (lo + A1.s * (g % (mn + 1)))), some (.int (fT A1 B1 (lo + A1.s * (g % (mn + 1)))))] = [some (.ref a), some (.ref p1), some (.ref p2), some (.int lo), some (.int hi), some (.int mn), x6, x7, x8] ∧ t' ≤ t + 34 * (k + 1) ∧ Src H3 a c t' ∧ Oth a c H H3 := ⟨_, _, _, _, rfl, by omega, S2.of_same s3, fun b u z na nc => s3 _ _ (O02 _ _ z na nc)⟩
      walk_at "rd"
      refine ⟨rfl, ?_⟩
      walk_at "rd"
      refine ite2 (fun z => ?_) (fun z => ?_)
      · have ne : lo + A1.s * (g % (mn + 1)) ≠ hi := fun e => not_t z (decide_eq_true (congrArg V.int e))
        have gt := u2 ne
        walk_at "rd"
        refine ite2 (fun y => absurd (of_decide_eq_true y) (by omega)) (fun _ => ?_)
        walk_at "rd"
        refine ite2 (fun y => absurd (of_decide_eq_true y) (by omega)) (fun _ => ?_)
        exact fin
      · walk_at "rd"
        refine ite2 (fun y => absurd (of_decide_eq_true y) (by omega)) (fun _ => ?_)
        exact fin
    · rintro σ H' ⟨x6, x7, x8, t', rfl, ht', S', O'⟩
      walk_at "rd"
      exact q H' t' (by omega) S' O'
theorem ok_dwn {f : Addr} {fd : FuncData} (F : Fun K "_law_down_fits" "_law_down_fits" s_L_down_fits f fd) (B : Blt mg) (Gr : Cal P w K mg base "_law_great" 2 ["_law_source_here", "_law_digits"] spGreat fB dB) (Tr : Cal P w K mg base "_law_trip" 3 ["_law_first", "_law_second", "_law_value"] spTrip fI dI) : FnOk P w K mg base CX0 4 f fd ["_law_source_here", "_law_first", "_law_second", "_law_low", "_law_high"] (spBet false) := by
  refine F.ok sc_L_down_fits (fun vs H Q E h => ?_) (fun cdv A outer s0 H vs Q E hr h => ?_)
  · obtain ⟨a, c, p1, p2, t, A, B, lo, hi, rfl, _⟩ := h
    rfl
  · obtain ⟨a, c, p1, p2, t, A1, B1, lo, hi, rfl, S, ht, h1, SA, h2, SB, ⟨l0, lh, l1⟩, BP, q⟩ := h
    have nd := sc_L_down_fits.nd
    refine ⟨_, (pss_cons (ps_set (i := 5) nd rfl (Or.inl rfl) (pe_op op_fdivW (pe_op op_sub (pv 4) (pv 3)) (pe_ix ix_tup (pv 1) pe_int (fun _ _ => rfl))))
      (pss_cons (ps_for PassesOwn.never rfl (pi_range1 (by rfl) B.range (pa_cons pe_int pa_nil)) (pg_name (i := 6) nd rfl (Or.inl rfl)) (pss_cons (ps_set (i := 7) nd rfl (Or.inl rfl) (pe_op op_sub (pv 4) (pe_op op_mulW (pe_ix ix_tup (pv 1) pe_int (fun _ _ => rfl)) (pe_op op_mod (pcl Gr hr (by decide) (by rfl) (pa_cons (pv 0) (pa_cons pe_int pa_nil))) (pe_op op_add (pv 5) pe_int)))))
      (pss_cons (ps_set (i := 8) nd rfl (Or.inl rfl) (pcl Tr hr (by decide) (by rfl) (pa_cons (pv 1) (pa_cons (pv 2) (pa_cons (pv 7) pa_nil)))))
      (pss_one (ps_if (PW.pt (pw_or (PW.pt (pw_and (pt_cmpR op_ne (pv 7) (pv 3) (nomark _)) (pw_and1 (pt_cmpR op_ge (pv 8) (pv 7) (nomark _))))) (pw_or1 (pt_cmpR op_lt (pv 8) (pv 3) (nomark _))))) (pss_one (ps_ret pe_bl)) pss_nil)))))
      (pss_one (ps_ret pe_bl)))), ?_⟩
    have a0 := SA.s0
    have a1 := SA.s1
    obtain ⟨pa, pc⟩ := S.nt h1
    obtain ⟨qa, qc⟩ := S.nt h2
    walk_at "rd"
    refine ⟨p1, _, _, _, rfl, rfl, SqT.of h1, rfl, ?_⟩
    walk_at "rd"
    refine ⟨fdiv_ok _ (by omega) (lg_big (by omega) (by omega)), ?_⟩
    obtain ⟨mn, emn⟩ : ∃ mn : Int, mn = (hi - lo) / A1.s := ⟨_, rfl⟩
    have mn0 : 0 ≤ mn := by rw [emn]; exact Int.ediv_nonneg (by omega) (by omega)
    have mn1 : A1.s * mn ≤ hi - lo := by rw [emn]; exact Int.mul_ediv_self_le (by omega)
    have mn2 : 1 * mn ≤ A1.s * mn := Int.mul_le_mul_of_nonneg_right a0 mn0
    walk_at "rd"
    refine ⟨by decide, by decide, ?_⟩
    refine for_range (n := 4) (fun k σ H' => ∃ (x6 x7 x8 : Option V) (t' : Nat), σ = [some (.ref a), some (.ref p1), some (.ref p2), some (.int lo), some (.int hi), some (.int mn), x6, x7, x8] ∧ t' ≤ t + 34 * k ∧ Src H' a c t' ∧ Oth a c H H') ⟨none, none, none, t, (by rw [emn]; rfl), by omega, S, Oth.refl _ _ _⟩ ?_ ?_
    · rintro k σ H' hk ⟨x6, x7, x8, t', rfl, ht', S', O'⟩
      walk_at "rd"
      refine ⟨p1, _, _, _, rfl, rfl, SqT.of (O' _ _ h1 pa pc), rfl, ?_⟩
      walk_at "rd"
      refine ⟨a, c, t', 34, rfl, S', by decide, by omega, fun g H2 g0 g1 S2 O2 => ?_⟩
      walk_at "rd"
      refine ⟨(by show (0 : Int) < mn + 1; omega), ?_⟩
      have r0 := Int.emod_nonneg g (show mn + 1 ≠ 0 by omega)
      have r1 := Int.emod_lt_of_pos g (show 0 < mn + 1 by omega)
      have sx : A1.s * (g % (mn + 1)) ≤ A1.s * mn := Int.mul_le_mul_of_nonneg_left (by omega) (by omega)
      have sx0 : 0 ≤ A1.s * (g % (mn + 1)) := Int.mul_nonneg (by omega) r0
      have O02 := O'.trans O2
      walk_at "rd"
      refine ⟨mulW (by omega) (by omega), ?_⟩
      walk_at "rd"
      refine ⟨p1, p2, A1, B1, hi - A1.s * (g % (mn + 1)), rfl, O02 _ _ h1 pa pc, SA, O02 _ _ h2 qa qc, SB, by omega, fun H3 s3 => ?_⟩
      obtain ⟨u1, u2⟩ : lo ≤ fT A1 B1 (hi - A1.s * (g % (mn + 1))) ∧ (hi - A1.s * (g % (mn + 1)) ≠ lo → fT A1 B1 (hi - A1.s * (g % (mn + 1))) < hi - A1.s * (g % (mn + 1))) := by
        have := BP (hi - A1.s * (g % (mn + 1))) (by omega) (by omega)
        rw [if_neg (by decide)] at this
        exact this
      have fin : ∃ (x6 x7 x8 : Option V) (t' : Nat), [some (V.ref a), some (V.ref p1), some (.ref p2), some (.int lo), some (.int hi), some (.int mn), some (.int (0 + (k : Int))), some (.int (hi - A1.s * (g % (mn + 1)))), some (.int (fT A1 B1 (hi - A1.s * (g % (mn + 1)))))] = [some (.ref a), some (.ref p1), some (.ref p2), some (.int lo), some (.int hi), some (.int mn), x6, x7, x8] ∧ t' ≤ t + 34 * (k + 1) ∧ Src H3 a c t' ∧ Oth a c H H3 := ⟨_, _, _, _, rfl, by omega, S2.of_same s3, fun b u z na nc => s3 _ _ (O02 _ _ z na nc)⟩
      walk_at "rd"
      refine ⟨rfl, ?_⟩
      walk_at "rd"
      refine ite2 (fun z => ?_) (fun z => ?_)
      · have ne : hi - A1.s * (g % (mn + 1)) ≠ lo := fun e => not_t z (decide_eq_true (congrArg V.int e))
        have gt := u2 ne
        walk_at "rd"
        refine ite2 (fun y => absurd (of_decide_eq_true y) (by omega)) (fun _ => ?_)
        walk_at "rd"
        refine ite2 (fun y => absurd (of_decide_eq_true y) (by omega)) (fun _ => ?_)
        exact fin
      · walk_at "rd"
        refine ite2 (fun y => absurd (of_decide_eq_true y) (by omega)) (fun _ => ?_)
        exact fin
    · rintro σ H' ⟨x6, x7, x8, t', rfl, ht', S', O'⟩
      walk_at "rd"
      exact q H' t' (by omega) S' O'
end
end HT
namespace HT
open PySem L2
theorem creep_ex {d e : Sd} (h : SideP d.o d.s d.m) (he : SideP e.o e.s e.m) (le : e.s ≤ d.s) : ∃ c, CreepP d e c := by
  by_cases z1 : ∃ k, Rd d e (atK d k) ≤ atK d k
  · by_cases z2 : ∃ k, atK d k ≤ Rd d e (atK d k)
    · exact ⟨0, .inr (.inr ⟨rfl, z1, z2⟩)⟩
    · refine ⟨-d.s, .inr (.inl ⟨rfl, fun k => ?_⟩)⟩
      have nu : ¬ NotUp (mirS d) (mirS e) (atK (mirS d) (-k)) := fun y => by
        have := (notup_iff (e := mirS e) (mirS_side h) (-k)).mp y
        rw [mirS_at, Int.neg_neg, mirS_Rd h he] at this
        exact z2 ⟨k, by omega⟩
      have h1 := rd_up (mirS_side h) (mirS_side he) (show (mirS e).s ≤ (mirS d).s from le) nu
      rw [mirS_at, mirS_at, Int.neg_neg, mirS_Rd h he, show -(-k + 1) = k - 1 by omega] at h1
      omega
  · refine ⟨d.s, .inl ⟨rfl, fun k => rd_up h he le fun y => z1 ⟨k, (notup_iff h k).mp y⟩⟩⟩
theorem creep_ex2 {A B : Sd} (h : SideP A.o A.s A.m) (he : SideP B.o B.s B.m) : ∃ c, CreepP (wdS A B) (nwS A B) c := by
  unfold wdS nwS
  by_cases z : B.s < A.s
  · rw [if_pos z, if_pos z]
    exact creep_ex h he (by omega)
  · rw [if_neg z, if_neg z]
    exact creep_ex he h (by omega)
theorem stl_bd {A B : Sd} (h : SideP A.o A.s A.m) (he : SideP B.o B.s B.m) (la : A.s ≤ 40) (lb : B.s ≤ 40) {v E : Int} {r : Nat} (s : Stl (fT A B) v E r) : v - 600000 ≤ E ∧ E ≤ v + 600000 ∧ (r : Int) ≤ 6400 := by
  have cp := perL_pos h he
  have cs := com_small2 h he la lb
  have cs2 : perL A B ≤ 6400 := by
    show ((comN [A, B] : Nat) : Int) ≤ 6400
    omega
  have nr : NoRep (fT A B) (comN [A, B] : Int) v (r + 1) := fun j k jk kr e => by
    refine stl_rep (c := (it (fT A B) k v - it (fT A B) j v) / ((k - j : Nat) : Int)) (fT_per h he) s ⟨j, k, it (fT A B) k v / (comN [A, B] : Int) - it (fT A B) j v / (comN [A, B] : Int), jk, ?_, rfl, fun i hi => s.2.2 i (by omega)⟩
    have e1 := Int.emod_add_mul_ediv (it (fT A B) k v) (comN [A, B] : Int)
    have e2 := Int.emod_add_mul_ediv (it (fT A B) j v) (comN [A, B] : Int)
    rw [Int.mul_sub]
    omega
  have rl : ((r + 1 : Nat) : Int) ≤ perL A B := norep_le cp nr
  have n := it_near h he la lb v r
  rw [s.1] at n
  omega
theorem creep_bd {A B : Sd} (h : SideP A.o A.s A.m) (he : SideP B.o B.s B.m) {c : Int} (cr : CreepP (wdS A B) (nwS A B) c) : -10 ^ 30 ≤ c ∧ c ≤ 10 ^ 30 := by
  have a0 := h.s0
  have b0 := he.s0
  have a1 := h.s1
  have b1 := he.s1
  by_cases c0 : c = 0
  · omega
  · have := creep_size h he cr c0
    split at this <;> omega
def spLift : Sp := fun vs H Q _ => ∃ (a c p1 p2 : Addr) (t : Nat) (A B : Sd), vs = [.ref a, .ref p1, .ref p2] ∧ Src H a c t ∧ t + 300 < 2 ^ 30 ∧ H p1 = some (sideV A.o A.s A.m) ∧ SideP A.o A.s A.m ∧ H p2 = some (sideV B.o B.s B.m) ∧ SideP B.o B.s B.m ∧ (-30 ≤ A.o ∧ A.o ≤ 29 ∧ A.s ≤ 40) ∧ (-30 ≤ B.o ∧ B.o ≤ 29 ∧ B.s ≤ 40) ∧ ∀ (H' : Hp) (t' : Nat), t' ≤ t + 31 → Src H' a c t' → Oth a c H H' → Q (.bl true) H'
theorem lift_side {d : Sd} {f : Int} (sp : SideP d.o d.s d.m) (b : -30 ≤ d.o ∧ d.o ≤ 29 ∧ d.s ≤ 40) (h1 : 1 ≤ f) (h2 : f ≤ 1 + 10 ^ 28) : SideP (lift f d).o (lift f d).s (lift f d).m := by
  obtain ⟨o0, o1, s0, s1, md⟩ := sp
  obtain ⟨b1, b2, b3⟩ := b
  have x1 : (-30) * f ≤ d.o * f := Int.mul_le_mul_of_nonneg_right b1 (by omega)
  have x2 : d.o * f ≤ 29 * f := Int.mul_le_mul_of_nonneg_right b2 (by omega)
  have x3 : d.s * f ≤ 40 * f := Int.mul_le_mul_of_nonneg_right b3 (by omega)
  have x4 : 1 * f ≤ d.s * f := Int.mul_le_mul_of_nonneg_right s0 (by omega)
  refine ⟨?_, ?_, ?_, ?_, md⟩
  · show -10 ^ 40 ≤ d.o * f; omega
  · show d.o * f ≤ 10 ^ 40; omega
  · show 1 ≤ d.s * f; omega
  · show d.s * f ≤ 10 ^ 30; omega
theorem shaped2 (c : Int) : SeqAt.shaped (.tuple [.str "creeps", .int c]) = true := by
  have h : PyData.strOk "creeps" = true := by decide +kernel
  simp [SeqAt.shaped, PyData.canLayAll0, PyData.canLay0, PyData.depth, PyData.depthAll, h]
theorem shaped3 (c r : Int) : SeqAt.shaped (.tuple [.str "settles", .int c, .int r]) = true := by
  have h : PyData.strOk "settles" = true := by decide +kernel
  simp [SeqAt.shaped, PyData.canLayAll0, PyData.canLay0, PyData.depth, PyData.depthAll, h]
section
variable {P : Program} {w : World} {K : PySem.W.Frag} {mg : Str → Option Value} {base : Heap} {f0 f1 f2 f3 f4 f5 : Addr} {d0 d1 d2 d3 d4 d5 : FuncData}
theorem ok_lift {f : Addr} {fd : FuncData} (F : Fun K "_law_lift_fits" "_law_lift_fits" s_L_lift_fits f fd) (B : Blt mg) (Gr : Cal P w K mg base "_law_great" 2 ["_law_source_here", "_law_digits"] spGreat f0 d0) (Ti : Cal P w K mg base "_law_times" 1 ["_law_side", "_law_factor"] spTimes f1 d1) (D : Cal P w K mg base "_law_draw" 1 ["_law_source_here", "_law_limit"] spDraw f2 d2)
    (Ls : Cal P w K mg base "_law_settled" 4 ["_law_first", "_law_second", "_law_value"] spLS f3 d3) (Se : Cal P w K mg base "settled" 108 ["first", "second", "value"] spSettled f4 d4) (Pa : Cal P w K mg base "pace" 107 ["first", "second"] spCreep f5 d5) : FnOk P w K mg base CX0 109 f fd ["_law_source_here", "_law_first", "_law_second"] spLift := by
  refine F.ok sc_L_lift_fits (fun vs H Q E h => ?_) (fun cdv A outer s0 H vs Q E hr h => ?_)
  · obtain ⟨a, c, p1, p2, t, A, B, rfl, _⟩ := h
    rfl
  · obtain ⟨a, c, p1, p2, t, A1, B1, rfl, S, ht, h1, SA, h2, SB, bA, bB, q⟩ := h
    have nd := sc_L_lift_fits.nd
    refine ⟨_, (pss_cons (ps_set (i := 3) nd rfl (Or.inl rfl) (pe_op op_add pe_int (pcl Gr hr (by decide) (by rfl) (pa_cons (pv 0) (pa_cons pe_int pa_nil)))))
      (pss_cons (ps_par (i := 4) (j := 5) (by rfl) nd rfl rfl (by decide) rfl rfl (pa_cons (pcl Ti hr (by decide) (by rfl) (pa_cons (pv 1) (pa_cons (pv 3) pa_nil))) (pa_cons (pcl Ti hr (by decide) (by rfl) (pa_cons (pv 2) (pa_cons (pv 3) pa_nil))) pa_nil)) (by rfl))
      (pss_cons (ps_for PassesOwn.never rfl (pi_range1 (by rfl) B.range (pa_cons pe_int pa_nil)) (pg_name (i := 6) nd rfl (Or.inl rfl)) (pss_cons (ps_set (i := 7) nd rfl (Or.inl rfl) (pe_op op_sub (pcl D hr (by decide) (by rfl) (pa_cons (pv 0) (pa_cons pe_int pa_nil))) pe_int))
      (pss_cons (ps_set (i := 8) nd rfl (Or.inl rfl) (pcl Ls hr (by decide) (by rfl) (pa_cons (pv 1) (pa_cons (pv 2) (pa_cons (pv 7) pa_nil)))))
      (pss_cons (ps_set (i := 8) nd rfl (Or.inl rfl) (pe_op op_catT (pe_tup (pa_cons (pe_ix ix_tup (pv 8) pe_int (fun _ _ => rfl)) (pa_cons (pe_op op_mulW (pe_ix ix_tup (pv 8) pe_int (fun _ _ => rfl)) (pv 3)) pa_nil))) (pe_slice sl_tup (pv 8) (po_some pe_int) po_none)))
      (pss_cons (ps_if (pt_cmpR (op_neD hr.units) (pcl Se hr (by decide) (by rfl) (pa_cons (pv 4) (pa_cons (pv 5) (pa_cons (pe_op op_mulW (pv 7) (pv 3)) pa_nil)))) (pv 8) (nomark _)) (pss_one (ps_ret pe_bl)) pss_nil)
      (pss_one (ps_if (pt_cmpR op_ne (pcl Pa hr (by decide) (by rfl) (pa_cons (pv 4) (pa_cons (pv 5) pa_nil))) (pe_ix ix_list (pe_lst (pa_cons pe_int (pa_cons (pe_ix ix_tup (pv 8) pe_int (fun _ _ => rfl)) pa_nil))) (pe_callTy call_int1 (by rfl) B.int (by decide +kernel) (pa_cons (pe_cmpR op_eq (pe_ix ix_tup (pv 8) pe_int (fun _ _ => rfl)) pe_str (nomark _)) pa_nil)) (fun _ _ => rfl)) (nomark _)) (pss_one (ps_ret pe_bl)) pss_nil)))))))
      (pss_one (ps_ret pe_bl))))), ?_⟩
    obtain ⟨pa, pc⟩ := S.nt h1
    obtain ⟨qa, qc⟩ := S.nt h2
    have sa0 := SA.s0
    have sb0 := SB.s0
    walk_at "rd"
    refine ⟨a, c, t, 28, rfl, S, by decide, by omega, fun g H1 g0 g1 S1 O1 => ?_⟩
    have g2 : g < 10 ^ 28 := g1
    walk_at "rd"
    refine ⟨p1, A1, 1 + g, rfl, O1 _ _ h1 pa pc, by omega, by omega, by omega, fun T1 H2 nT1 s2 hT1 => ?_⟩
    obtain ⟨ta, tc⟩ := S1.na nT1
    walk_at "rd"
    refine ⟨p2, B1, 1 + g, rfl, s2 _ _ (O1 _ _ h2 qa qc), by omega, by omega, by omega, fun T2 H3 nT2 s3 hT2 => ?_⟩
    have S2 := S1.of_same s2
    obtain ⟨ua, uc⟩ := S2.na nT2
    have S3 := S2.of_same s3
    have O3 : Oth a c H H3 := fun b u z na nc => s3 _ _ (s2 _ _ (O1 _ _ z na nc))
    have hT1' := s3 _ _ hT1
    obtain ⟨ff, eff⟩ : ∃ ff, ff = 1 + g := ⟨_, rfl⟩
    have f1 : 1 ≤ ff := by omega
    have f2 : ff ≤ 1 + 10 ^ 28 := by omega
    have LA := lift_side SA bA f1 f2
    have LB := lift_side SB bB f1 f2
    have hL : H3 T1 = some (sideV (lift ff A1).o (lift ff A1).s (lift ff A1).m) := by rw [eff]; exact hT1'
    have hR : H3 T2 = some (sideV (lift ff B1).o (lift ff B1).s (lift ff B1).m) := by rw [eff]; exact hT2
    obtain ⟨cc, cr⟩ := creep_ex2 SA SB
    have cb := creep_bd SA SB cr
    walk_at "rd"
    refine ⟨_, _, rfl, ?_⟩
    walk_at "rd"
    refine ⟨by decide, by decide, ?_⟩
    refine for_range (n := 3) (fun k σ H' => ∃ (x6 x7 x8 : Option V) (t' : Nat), σ = [some (.ref a), some (.ref p1), some (.ref p2), some (.int ff), some (.ref T1), some (.ref T2), x6, x7, x8] ∧ t' ≤ t + 28 + k ∧ Src H' a c t' ∧ Oth a c H3 H') ⟨none, none, none, t + 28, (by rw [eff]; rfl), by omega, S3, Oth.refl _ _ _⟩ ?_ ?_
    · rintro k σ H' hk ⟨x6, x7, x8, t', rfl, ht', S', O'⟩
      walk_at "rd"
      refine ⟨a, c, t', 400, rfl, S', by omega, by decide, by decide, fun y H4 y0 y1 S4 O4 => ?_⟩
      have h1' := O4 _ _ (O' _ _ (O3 _ _ h1 pa pc) pa pc) pa pc
      have h2' := O4 _ _ (O' _ _ (O3 _ _ h2 qa qc) qa qc) qa qc
      have hL' := O4 _ _ (O' _ _ hL ta tc) ta tc
      have hR' := O4 _ _ (O' _ _ hR ua uc) ua uc
      walk_at "rd"
      refine ⟨p1, p2, A1, B1, y - 200, rfl, h1', SA, h2', SB, ⟨bA.2.2, bB.2.2⟩, by omega, fun TD H5 od nTD s5 hTD L0 => ?_⟩
      have R0 := lsp_res SA SB cr L0
      clear L0
      have S5 := S4.of_same s5
      have near := due_near (o := A1.o) (v := y - 200) SA.md SA.s0
      have vb1 : (-200) * ff ≤ (y - 200) * ff := Int.mul_le_mul_of_nonneg_right (by omega) (by omega)
      have vb2 : (y - 200) * ff ≤ 200 * ff := Int.mul_le_mul_of_nonneg_right (by omega) (by omega)
      rcases R0 with ⟨c0, rfl⟩ | ⟨c0, E1, r1, st1, rfl⟩
      · walk_at "rd"
        refine ⟨TD, _, _, _, rfl, rfl, SqT.of hTD, rfl, ?_⟩
        walk_at "rd"
        refine ⟨TD, _, _, _, rfl, rfl, SqT.of hTD, rfl, ?_⟩
        walk_at "rd"
        refine ⟨mulW (by omega) (by omega), ?_⟩
        walk_at "rd"
        refine ⟨(by show 2 ≤ sizeLine; decide), fun T3 nT3 => ?_⟩
        generalize e_T3 : upd H5 T3 _ = H6
        have g6 : H6 T3 = some (.tup [.str "creeps", .int (cc * ff)]) := by rw [← e_T3]; exact upd_same
        have w6 : Same H5 H6 := by rw [← e_T3]; exact fun b u z => (upd_ne (ne_of_none z nT3)).trans z
        clear e_T3
        walk_at "rd"
        refine ⟨TD, _, rfl, SqT.of (w6 _ _ hTD), (by show ¬ (HT.sIx 2 0 (some 2) = 0 ∧ HT.sIx 2 2 none = 2); decide), fun T4 nT4 => ?_⟩
        generalize e_T4 : upd H6 T4 _ = H7
        have g7 : H7 T4 = some (.tup []) := by rw [← e_T4]; exact upd_same
        have w7 : Same H6 H7 := by rw [← e_T4]; exact fun b u z => (upd_ne (ne_of_none z nT4)).trans z
        clear e_T4
        refine ⟨T3, T4, _, _, rfl, rfl, SqT.of (w7 _ _ g6), SqT.of g7, (fun z => nomatch z), (by show 2 ≤ sizeLine; decide), fun _ => ?_, fun z => absurd rfl z⟩
        have g8 := w7 _ _ g6
        have w8 := w6.trans w7
        obtain ⟨T5, e5⟩ : ∃ T5, T5 = T3 := ⟨_, rfl⟩
        subst e5
        obtain ⟨H8, e8⟩ : ∃ H8, H8 = H7 := ⟨_, rfl⟩
        subst e8
        have w58 := s5.trans w8
        walk_at "rd"
        refine ⟨mulW (by omega) (by omega), ?_⟩
        walk_at "rd"
        refine ⟨T1, T2, lift ff A1, lift ff B1, (y - 200) * ff, rfl, w58 _ _ hL', LA, w58 _ _ hR', LB, by omega, fun c' TS H9 os cr' nTS s9 hTS R' => ?_⟩
        obtain ⟨ec, LO⟩ := res_lift SA SB f1 LA LB cr (.inl ⟨c0, rfl⟩) cr' R'
        cases LO
        walk_at "rd"
        refine ⟨.tuple [.str "creeps", .int (cc * ff)], .tuple [.str "creeps", .int (cc * ff)], .tup (SqT.of hTS) (.cons (.str _) (.cons (.int _) .nil)), .tup (SqT.of (s9 _ _ g8)) (.cons (.str _) (.cons (.int _) .nil)), (shaped2 (cc * ff)), (shaped2 (cc * ff)), ?_⟩
        walk_at "rd"
        refine ite2 (fun z => (not_t z (SeqAt.eqv_refl _ (SeqAt.canLay_of_shaped (shaped2 (cc * ff))))).elim) (fun _ => ?_)
        walk_at "rd"
        refine ⟨T1, T2, lift ff A1, lift ff B1, rfl, s9 _ _ (w58 _ _ hL'), LA, s9 _ _ (w58 _ _ hR'), LB, fun c2 H10 cr2 s10 => ?_⟩
        have ec2 := cd_uniq LA LB cr2 cr'
        subst ec2
        have g10 := s10 _ _ (s9 _ _ g8)
        walk_at "rd"
        refine ⟨T5, _, _, _, rfl, rfl, SqT.of g10, rfl, ?_⟩
        walk_at "rd"
        refine ⟨(by show 2 ≤ sizeLine; decide), fun L2 nL2 => ?_⟩
        generalize e_L2 : upd H10 L2 _ = H11
        have g11 : H11 L2 = some (.lst [.int 0, .int (cc * ff)]) := by rw [← e_L2]; exact upd_same
        have w11 : Same H10 H11 := by rw [← e_L2]; exact fun b u z => (upd_ne (ne_of_none z nL2)).trans z
        clear e_L2
        walk_at "rd"
        refine ⟨T5, _, _, _, rfl, rfl, SqT.of (w11 _ _ g10), rfl, ?_⟩
        walk_at "rd"
        refine ⟨rfl, ?_⟩
        walk_at "rd"
        refine .inr ⟨_, rfl, ?_⟩
        refine ⟨L2, _, 1, _, rfl, rfl, SqL.of g11, rfl, ?_⟩
        refine ⟨rfl, ?_⟩
        walk_at "rd"
        refine ite2 (fun z => (not_t z (decide_eq_true (congrArg V.int ec))).elim) (fun _ => ?_)
        have wA := w58.trans (s9.trans (s10.trans w11))
        exact ⟨_, _, _, _, rfl, by omega, S4.of_same wA, fun b u z na nc => wA _ _ (O4 _ _ (O' _ _ z na nc) na nc)⟩
      · obtain ⟨eb1, eb2, rb⟩ := stl_bd SA SB bA.2.2 bB.2.2 st1
        unfold dW at eb1 eb2
        walk_at "rd"
        refine ⟨TD, _, _, _, rfl, rfl, SqT.of hTD, rfl, ?_⟩
        walk_at "rd"
        refine ⟨TD, _, _, _, rfl, rfl, SqT.of hTD, rfl, ?_⟩
        walk_at "rd"
        refine ⟨mulW (by omega) (by omega), ?_⟩
        walk_at "rd"
        refine ⟨(by show 2 ≤ sizeLine; decide), fun T3 nT3 => ?_⟩
        generalize e_T3 : upd H5 T3 _ = H6
        have g6 : H6 T3 = some (.tup [.str "settles", .int (E1 * ff)]) := by rw [← e_T3]; exact upd_same
        have w6 : Same H5 H6 := by rw [← e_T3]; exact fun b u z => (upd_ne (ne_of_none z nT3)).trans z
        clear e_T3
        walk_at "rd"
        refine ⟨TD, _, rfl, SqT.of (w6 _ _ hTD), (by show ¬ (HT.sIx 3 0 (some 2) = 0 ∧ HT.sIx 3 3 none = 3); decide), fun T4 nT4 => ?_⟩
        generalize e_T4 : upd H6 T4 _ = H7
        have g7 : H7 T4 = some (.tup [.int (r1 : Int)]) := by rw [← e_T4]; exact upd_same
        have w7 : Same H6 H7 := by rw [← e_T4]; exact fun b u z => (upd_ne (ne_of_none z nT4)).trans z
        clear e_T4
        refine ⟨T3, T4, _, _, rfl, rfl, SqT.of (w7 _ _ g6), SqT.of g7, (fun z => nomatch z), (by show 3 ≤ sizeLine; decide), (fun z => nomatch z), fun _ T5 nT5 => ?_⟩
        generalize e_T5 : upd H7 T5 _ = H8
        have g8 : H8 T5 = some (.tup [.str "settles", .int (E1 * ff), .int (r1 : Int)]) := by rw [← e_T5]; exact upd_same
        have w78 : Same H7 H8 := by rw [← e_T5]; exact fun b u z => (upd_ne (ne_of_none z nT5)).trans z
        clear e_T5
        have w8 := w6.trans (w7.trans w78)
        have w58 := s5.trans w8
        walk_at "rd"
        refine ⟨mulW (by omega) (by omega), ?_⟩
        walk_at "rd"
        refine ⟨T1, T2, lift ff A1, lift ff B1, (y - 200) * ff, rfl, w58 _ _ hL', LA, w58 _ _ hR', LB, by omega, fun c' TS H9 os cr' nTS s9 hTS R' => ?_⟩
        obtain ⟨ec, LO⟩ := res_lift SA SB f1 LA LB cr (.inr ⟨c0, E1, r1, st1, rfl⟩) cr' R'
        cases LO
        walk_at "rd"
        refine ⟨.tuple [.str "settles", .int (E1 * ff), .int (r1 : Int)], .tuple [.str "settles", .int (E1 * ff), .int (r1 : Int)], .tup (SqT.of hTS) (.cons (.str _) (.cons (.int _) (.cons (.int _) .nil))), .tup (SqT.of (s9 _ _ g8)) (.cons (.str _) (.cons (.int _) (.cons (.int _) .nil))), (shaped3 (E1 * ff) r1), (shaped3 (E1 * ff) r1), ?_⟩
        walk_at "rd"
        refine ite2 (fun z => (not_t z (SeqAt.eqv_refl _ (SeqAt.canLay_of_shaped (shaped3 (E1 * ff) r1)))).elim) (fun _ => ?_)
        walk_at "rd"
        refine ⟨T1, T2, lift ff A1, lift ff B1, rfl, s9 _ _ (w58 _ _ hL'), LA, s9 _ _ (w58 _ _ hR'), LB, fun c2 H10 cr2 s10 => ?_⟩
        have ec2 := cd_uniq LA LB cr2 cr'
        subst ec2
        have g10 := s10 _ _ (s9 _ _ g8)
        walk_at "rd"
        refine ⟨T5, _, _, _, rfl, rfl, SqT.of g10, rfl, ?_⟩
        walk_at "rd"
        refine ⟨(by show 2 ≤ sizeLine; decide), fun L2 nL2 => ?_⟩
        generalize e_L2 : upd H10 L2 _ = H11
        have g11 : H11 L2 = some (.lst [.int 0, .int (E1 * ff)]) := by rw [← e_L2]; exact upd_same
        have w11 : Same H10 H11 := by rw [← e_L2]; exact fun b u z => (upd_ne (ne_of_none z nL2)).trans z
        clear e_L2
        walk_at "rd"
        refine ⟨T5, _, _, _, rfl, rfl, SqT.of (w11 _ _ g10), rfl, ?_⟩
        walk_at "rd"
        refine ⟨rfl, ?_⟩
        walk_at "rd"
        refine .inr ⟨_, rfl, ?_⟩
        refine ⟨L2, _, 0, _, rfl, rfl, SqL.of g11, rfl, ?_⟩
        refine ⟨rfl, ?_⟩
        walk_at "rd"
        refine ite2 (fun z => (not_t z (decide_eq_true (congrArg V.int (by rw [ec, c0, Int.zero_mul])))).elim) (fun _ => ?_)
        have wA := w58.trans (s9.trans (s10.trans w11))
        exact ⟨_, _, _, _, rfl, by omega, S4.of_same wA, fun b u z na nc => wA _ _ (O4 _ _ (O' _ _ z na nc) na nc)⟩
    · rintro σ H' ⟨x6, x7, x8, t', rfl, ht', S', O'⟩
      walk_at "rd"
      exact q H' t' (by omega) S' (O3.trans O')
end
end HT
namespace HT
open PySem L2
theorem it_near2 {A B : Sd} (ha : SideP A.o A.s A.m) (hb : SideP B.o B.s B.m) (h : Int) : ∀ i : Nat, h - 2 * 10 ^ 30 * (i : Int) ≤ it (fT A B) i h ∧ it (fT A B) i h ≤ h + 2 * 10 ^ 30 * (i : Int)
  | 0 => by show h - _ ≤ h ∧ h ≤ _; omega
  | i + 1 => by
    have ih := it_near2 ha hb h i
    have a1 := ha.s1
    have b1 := hb.s1
    obtain ⟨x, ex⟩ : ∃ x, x = it (fT A B) i h := ⟨_, rfl⟩
    rw [← ex] at ih
    have n1 : dW B x - x < B.s ∧ x - dW B x < B.s := due_near (o := B.o) (v := x) hb.md hb.s0
    have n2 : dW A (dW B x) - dW B x < A.s ∧ dW B x - dW A (dW B x) < A.s := due_near (o := A.o) (v := dW B x) ha.md ha.s0
    show h - _ ≤ fT A B (it (fT A B) i h) ∧ fT A B (it (fT A B) i h) ≤ _
    rw [← ex]
    show h - _ ≤ dW A (dW B x) ∧ dW A (dW B x) ≤ _
    omega
theorem stl_bd2 {A B : Sd} (h : SideP A.o A.s A.m) (he : SideP B.o B.s B.m) {v E : Int} {r : Nat} (s : Stl (fT A B) v E r) : v - 2 ^ 550 ≤ E ∧ E ≤ v + 2 ^ 550 ∧ (r : Int) < 2 ^ 420 := by
  have cp := perL_pos h he
  have cs2 := perL_lt h he
  have nr : NoRep (fT A B) (comN [A, B] : Int) v (r + 1) := fun j k jk kr e => by
    refine stl_rep (c := (it (fT A B) k v - it (fT A B) j v) / ((k - j : Nat) : Int)) (fT_per h he) s ⟨j, k, it (fT A B) k v / (comN [A, B] : Int) - it (fT A B) j v / (comN [A, B] : Int), jk, ?_, rfl, fun i hi => s.2.2 i (by omega)⟩
    have e1 := Int.emod_add_mul_ediv (it (fT A B) k v) (comN [A, B] : Int)
    have e2 := Int.emod_add_mul_ediv (it (fT A B) j v) (comN [A, B] : Int)
    rw [Int.mul_sub]
    omega
  have rl : ((r + 1 : Nat) : Int) ≤ perL A B := norep_le cp nr
  have n := it_near2 h he v r
  rw [s.1] at n
  omega
theorem dW_dW {A : Sd} (h : SideP A.o A.s A.m) (x : Int) : dW A (dW A x) = dW A x := by
  obtain ⟨k, hk⟩ := dW_is A x
  rw [hk, dW_at h]
def spGF : Sp := fun vs H Q _ => ∃ (a c p1 p2 : Addr) (t : Nat) (A B : Sd) (v : Int), vs = [.ref a, .ref p1, .ref p2, .int v] ∧ Src H a c t ∧ t + 500 < 2 ^ 30 ∧ H p1 = some (sideV A.o A.s A.m) ∧ SideP A.o A.s A.m ∧ H p2 = some (sideV B.o B.s B.m) ∧ SideP B.o B.s B.m ∧ (-2 ^ 200 < v ∧ v < 2 ^ 200) ∧ ∀ (H' : Hp) (t' : Nat), t' ≤ t + 136 → Src H' a c t' → Oth a c H H' → Q (.bl true) H'
section
variable {P : Program} {w : World} {K : PySem.W.Frag} {mg : Str → Option Value} {base : Heap} {f0 f1 f2 f3 f4 f5 f6 : Addr} {d0 d1 d2 d3 d4 d5 d6 : FuncData}
theorem ok_gf {f : Addr} {fd : FuncData} (F : Fun K "_law_great_fits" "_law_great_fits" s_L_great_fits f fd) (B : Blt mg) (MT : MaxT mg) (Gr : Cal P w K mg base "_law_great" 2 ["_law_source_here", "_law_digits"] spGreat f0 d0) (Tr : Cal P w K mg base "_law_trip" 3 ["_law_first", "_law_second", "_law_value"] spTrip f1 d1) (Ha : Cal P w K mg base "_law_handed" 2 ["_law_side", "_law_value"] spDue f2 d2)
    (Se : Cal P w K mg base "settled" 108 ["first", "second", "value"] spSettled f3 d3) (Pa : Cal P w K mg base "pace" 107 ["first", "second"] spCreep f4 d4) (Bf : Cal P w K mg base "_law_between_fits" 4 ["_law_source_here", "_law_first", "_law_second", "_law_low", "_law_high"] (spBet true) f5 d5) (Df : Cal P w K mg base "_law_down_fits" 4 ["_law_source_here", "_law_first", "_law_second", "_law_low", "_law_high"] (spBet false) f6 d6) : FnOk P w K mg base CX0 109 f fd ["_law_source_here", "_law_first", "_law_second", "_law_value"] spGF := by
  refine F.ok sc_L_great_fits (fun vs H Q E h => ?_) (fun cdv A outer s0 H vs Q E hr h => ?_)
  · obtain ⟨a, c, p1, p2, t, A, B, v, rfl, _⟩ := h
    rfl
  · obtain ⟨a, c, p1, p2, t, A1, B1, v, rfl, S, ht, h1, SA, h2, SB, vb, q⟩ := h
    have nd := sc_L_great_fits.nd
    refine ⟨_, (pss_cons (ps_set (i := 4) nd rfl (Or.inl rfl) (pcl Ha hr (by decide) (by rfl) (pa_cons (pv 1) (pa_cons (pv 3) pa_nil))))
      (pss_cons (ps_set (i := 5) nd rfl (Or.inl rfl) (pcl Tr hr (by decide) (by rfl) (pa_cons (pv 1) (pa_cons (pv 2) (pa_cons (pv 4) pa_nil)))))
      (pss_cons (ps_set (i := 6) nd rfl (Or.inl rfl) (pcl Se hr (by decide) (by rfl) (pa_cons (pv 1) (pa_cons (pv 2) (pa_cons (pv 3) pa_nil)))))
      (pss_cons (ps_if (pt_cmpR op_eq (pe_ix ix_tup (pv 6) pe_int (fun _ _ => rfl)) pe_str (nomark _)) (pss_cons (ps_if (PW.pt (pw_or (pt_cmpR op_ne (pe_callB call_abs (by rfl) B.abs (by decide +kernel) (pa_cons (pe_ix ix_tup (pv 6) pe_int (fun _ _ => rfl)) pa_nil)) (pe_callB (call_max2 rfl) (by rfl) MT.max (by decide +kernel) (pa_cons (pe_ix ix_tup (pv 1) pe_int (fun _ _ => rfl)) (pa_cons (pe_ix ix_tup (pv 2) pe_int (fun _ _ => rfl)) pa_nil))) (nomark _)) (pw_or (pt_cmpR op_ne (pe_cmpR op_gt (pe_ix ix_tup (pv 6) pe_int (fun _ _ => rfl)) pe_int (nomark _)) (pe_cmpR op_gt (pv 5) (pv 4) (nomark _)) (nomark _)) (pw_or1 (pt_cmpR op_eq (pv 5) (pv 4) (nomark _)))))) (pss_one (ps_ret pe_bl)) pss_nil)
      (pss_cons (ps_set (i := 7) nd rfl (Or.inl rfl) (pe_ix ix_list (pe_lst (pa_cons (pv 1) (pa_cons (pv 2) pa_nil))) (pe_callTy call_int1 (by rfl) B.int (by decide +kernel) (pa_cons (pe_cmpR op_gt (pe_ix ix_tup (pv 2) pe_int (fun _ _ => rfl)) (pe_ix ix_tup (pv 1) pe_int (fun _ _ => rfl)) (nomark _)) pa_nil)) (fun _ _ => rfl)))
      (pss_cons (ps_set (i := 8) nd rfl (Or.inl rfl) (pe_ix ix_list (pe_lst (pa_cons (pv 1) (pa_cons (pv 2) pa_nil))) (pe_callTy call_int1 (by rfl) B.int (by decide +kernel) (pa_cons (pe_cmpR op_le (pe_ix ix_tup (pv 2) pe_int (fun _ _ => rfl)) (pe_ix ix_tup (pv 1) pe_int (fun _ _ => rfl)) (nomark _)) pa_nil)) (fun _ _ => rfl)))
      (pss_cons (ps_for PassesOwn.never rfl (pi_range1 (by rfl) B.range (pa_cons pe_int pa_nil)) (pg_name (i := 9) nd rfl (Or.inl rfl)) (pss_cons (ps_set (i := 3) nd rfl (Or.inl rfl) (pcl Ha hr (by decide) (by rfl) (pa_cons (pv 7) (pa_cons (pcl Gr hr (by decide) (by rfl) (pa_cons (pv 0) (pa_cons pe_int pa_nil))) pa_nil))))
      (pss_one (ps_if (pt_cmpR op_ne (pcl Ha hr (by decide) (by rfl) (pa_cons (pv 7) (pa_cons (pcl Ha hr (by decide) (by rfl) (pa_cons (pv 8) (pa_cons (pv 3) pa_nil))) pa_nil))) (pe_op op_add (pv 3) (pe_ix ix_tup (pv 6) pe_int (fun _ _ => rfl))) (nomark _)) (pss_one (ps_ret pe_bl)) pss_nil))))
      (pss_one (ps_ret (pe_and (pe_cmpR op_eq (pcl Pa hr (by decide) (by rfl) (pa_cons (pv 1) (pa_cons (pv 2) pa_nil))) (pe_ix ix_tup (pv 6) pe_int (fun _ _ => rfl)) (nomark _)) (pe_one (pe_cmpR (op_eqD hr.units) (pcl Se hr (by decide) (by rfl) (pa_cons (pv 1) (pa_cons (pv 2) (pa_cons (pv 5) pa_nil)))) (pv 6) (nomark _)))))))))) pss_nil)
      (pss_cons (ps_asg (pv 6) (pg_tup (by rfl) (pgs_cons (pg_name (i := 10) nd rfl (Or.inl rfl)) (pgs_cons (pg_name (i := 11) nd rfl (Or.inl rfl)) (pgs_cons (pg_name (i := 12) nd rfl (Or.inl rfl)) pgs_nil)))))
      (pss_cons (ps_if (PW.pt (pw_or (pt_cmpR op_ne (pcl Tr hr (by decide) (by rfl) (pa_cons (pv 1) (pa_cons (pv 2) (pa_cons (pv 11) pa_nil)))) (pv 11) (nomark _)) (pw_or (pt_cmpR op_ne (pcl Ha hr (by decide) (by rfl) (pa_cons (pv 1) (pa_cons (pv 11) pa_nil))) (pv 11) (nomark _)) (pw_or1 (pt_cmpR op_ne (pe_cmpR op_eq (pv 12) pe_int (nomark _)) (pe_cmpR op_eq (pv 5) (pv 4) (nomark _)) (nomark _)))))) (pss_one (ps_ret pe_bl)) pss_nil)
      (pss_cons (ps_if (PW.pt (pw_or (PW.pt (pw_and (pt_cmpR op_gt (pv 12) pe_int (nomark _)) (pw_and1 (pt_cmpR (op_neD hr.units) (pcl Se hr (by decide) (by rfl) (pa_cons (pv 1) (pa_cons (pv 2) (pa_cons (pv 5) pa_nil)))) (pe_tup (pa_cons (pv 10) (pa_cons (pv 11) (pa_cons (pe_op op_sub (pv 12) pe_int) pa_nil)))) (nomark _))))) (pw_or1 (pt_cmpR op_ne (pcl Pa hr (by decide) (by rfl) (pa_cons (pv 1) (pa_cons (pv 2) pa_nil))) pe_int (nomark _))))) (pss_one (ps_ret pe_bl)) pss_nil)
      (pss_cons (ps_if (pt_cmpR op_ge (pv 11) (pv 4) (nomark _)) (pss_one (ps_ret (pcl Bf hr (by decide) (by rfl) (pa_cons (pv 0) (pa_cons (pv 1) (pa_cons (pv 2) (pa_cons (pv 4) (pa_cons (pv 11) pa_nil)))))))) pss_nil)
      (pss_one (ps_ret (pcl Df hr (by decide) (by rfl) (pa_cons (pv 0) (pa_cons (pv 1) (pa_cons (pv 2) (pa_cons (pv 11) (pa_cons (pv 4) pa_nil)))))))))))))))), ?_⟩
    obtain ⟨pa, pc⟩ := S.nt h1
    obtain ⟨qa, qc⟩ := S.nt h2
    have a0 := SA.s0
    have a1 := SA.s1
    have b0 := SB.s0
    have b1 := SB.s1
    have near := due_near (o := A1.o) (v := v) SA.md a0
    have near' : dW A1 v - v < A1.s ∧ v - dW A1 v < A1.s := near
    have n2 := it_near2 SA SB (dW A1 v) 1
    have n2' : dW A1 v - 2 * 10 ^ 30 ≤ fT A1 B1 (dW A1 v) ∧ fT A1 B1 (dW A1 v) ≤ dW A1 v + 2 * 10 ^ 30 := by
      have e : it (fT A1 B1) 1 (dW A1 v) = fT A1 B1 (dW A1 v) := rfl
      rw [e] at n2
      omega
    clear n2
    walk_at "rd"
    refine ⟨p1, A1.o, A1.s, A1.m, v, rfl, h1, SA, (by unfold Bd; omega), fun H1 s1 => ?_⟩
    walk_at "rd"
    refine ⟨p1, p2, A1, B1, dW A1 v, rfl, s1 _ _ h1, SA, s1 _ _ h2, SB, by omega, fun H2 s2 => ?_⟩
    have s02 := s1.trans s2
    walk_at "rd"
    refine ⟨p1, p2, A1, B1, v, rfl, s02 _ _ h1, SA, s02 _ _ h2, SB, by omega, fun cc TS H3 os cr nTS s3 hTS R => ?_⟩
    have s03 := s02.trans s3
    have h1' := s03 _ _ h1
    have h2' := s03 _ _ h2
    have S3 := S.of_same s03
    have O3 : Oth a c H H3 := fun b u z _ _ => s03 _ _ z
    clear s1 s2 s3 s02
    have cb := creep_bd SA SB cr
    rcases R with ⟨c0, rfl⟩ | ⟨c0, E1, r1, st1, rfl⟩
    · walk_at "rd"
      refine ⟨TS, _, _, _, rfl, rfl, SqT.of hTS, rfl, ?_⟩
      walk_at "rd"
      refine ⟨rfl, ?_⟩
      walk_at "rd"
      refine ⟨TS, _, _, _, rfl, rfl, SqT.of hTS, rfl, ?_⟩
      walk_at "rd"
      refine ⟨p1, _, _, _, rfl, rfl, SqT.of h1', rfl, ?_⟩
      walk_at "rd"
      refine ⟨p2, _, _, _, rfl, rfl, SqT.of h2', rfl, ?_⟩
      walk_at "rd"
      have ab : (if cc < 0 then -cc else cc) = if B1.s > A1.s then B1.s else A1.s := by
        rw [← creep_size SA SB cr c0]
        split <;> omega
      refine ite2 (fun z => (not_t z (decide_eq_true (congrArg V.int ab))).elim) (fun _ => ?_)
      obtain ⟨w1, w2⟩ := creep_way SA SB cr c0 v
      walk_at "rd"
      refine ⟨TS, _, _, _, rfl, rfl, SqT.of hTS, rfl, ?_⟩
      walk_at "rd"
      refine ⟨rfl, ?_⟩
      walk_at "rd"
      refine ite2 (fun z => (not_t z (decide_eq_true (congrArg V.bl (decide_eq_decide.mpr ⟨fun y => w1 y, fun y => (by
        have y2 : dW A1 v < fT A1 B1 (dW A1 v) := y
        by_cases k0 : 0 < cc
        · exact k0
        · have := w2 (by omega)
          omega)⟩)))).elim) (fun _ => ?_)
      walk_at "rd"
      refine ⟨rfl, ?_⟩
      walk_at "rd"
      refine ite2 (fun z => (by
        have y2 : fT A1 B1 (dW A1 v) = dW A1 v := int_t z
        by_cases k0 : 0 < cc
        · have := w1 k0
          omega
        · have := w2 (by omega)
          omega)) (fun _ => ?_)
      walk_at "rd"
      obtain ⟨sa, sc⟩ := S3.nt hTS
      have hw : atI [V.ref p1, .ref p2] (if decide (A1.s < B1.s) = true then 1 else 0) = some (.ref (if A1.s < B1.s then p2 else p1)) := by
        by_cases z : A1.s < B1.s
        · rw [decide_eq_true z, if_pos rfl, if_pos z]
          rfl
        · rw [decide_eq_false z, if_neg (by decide), if_neg z]
          rfl
      have ho : atI [V.ref p1, .ref p2] (if decide (B1.s ≤ A1.s) = true then 1 else 0) = some (.ref (if B1.s ≤ A1.s then p2 else p1)) := by
        by_cases z : B1.s ≤ A1.s
        · rw [decide_eq_true z, if_pos rfl, if_pos z]
          rfl
        · rw [decide_eq_false z, if_neg (by decide), if_neg z]
          rfl
      obtain ⟨wa, ewa, hWa, SW, wna, wnc⟩ : ∃ wa, wa = (if A1.s < B1.s then p2 else p1) ∧ H3 wa = some (sideV (lwS A1 B1).o (lwS A1 B1).s (lwS A1 B1).m) ∧ SideP (lwS A1 B1).o (lwS A1 B1).s (lwS A1 B1).m ∧ wa ≠ a ∧ wa ≠ c := by
        unfold lwS
        by_cases z : A1.s < B1.s
        · rw [if_pos z, if_pos z]
          exact ⟨p2, rfl, h2', SB, qa, qc⟩
        · rw [if_neg z, if_neg z]
          exact ⟨p1, rfl, h1', SA, pa, pc⟩
      obtain ⟨oa, eoa, hOa, SO, ona, onc⟩ : ∃ oa, oa = (if B1.s ≤ A1.s then p2 else p1) ∧ H3 oa = some (sideV (loS A1 B1).o (loS A1 B1).s (loS A1 B1).m) ∧ SideP (loS A1 B1).o (loS A1 B1).s (loS A1 B1).m ∧ oa ≠ a ∧ oa ≠ c := by
        unfold loS
        by_cases z : B1.s ≤ A1.s
        · rw [if_pos z, if_pos z]
          exact ⟨p2, rfl, h2', SB, qa, qc⟩
        · rw [if_neg z, if_neg z]
          exact ⟨p1, rfl, h1', SA, pa, pc⟩
      rw [← ewa] at hw
      rw [← eoa] at ho
      clear ewa eoa
      walk_at "rd"
      refine ⟨(by show 2 ≤ sizeLine; decide), fun LL nLL => ?_⟩
      generalize e_LL : upd H3 LL _ = H4
      have gL : H4 LL = some (.lst [.ref p1, .ref p2]) := by rw [← e_LL]; exact upd_same
      have wL : Same H3 H4 := by rw [← e_LL]; exact fun b u z => (upd_ne (ne_of_none z nLL)).trans z
      clear e_LL
      walk_at "rd"
      refine ⟨p2, _, _, _, rfl, rfl, SqT.of (wL _ _ h2'), rfl, ?_⟩
      walk_at "rd"
      refine ⟨p1, _, _, _, rfl, rfl, SqT.of (wL _ _ h1'), rfl, ?_⟩
      walk_at "rd"
      refine .inr ⟨_, rfl, ?_⟩
      refine ⟨LL, _, _, _, rfl, rfl, SqL.of gL, hw, ?_⟩
      walk_at "rd"
      refine ⟨(by show 2 ≤ sizeLine; decide), fun L2 nL2 => ?_⟩
      generalize e_L2 : upd H4 L2 _ = H5
      have g5 : H5 L2 = some (.lst [.ref p1, .ref p2]) := by rw [← e_L2]; exact upd_same
      have w5 : Same H4 H5 := by rw [← e_L2]; exact fun b u z => (upd_ne (ne_of_none z nL2)).trans z
      clear e_L2
      have w35 := wL.trans w5
      walk_at "rd"
      refine ⟨p2, _, _, _, rfl, rfl, SqT.of (w35 _ _ h2'), rfl, ?_⟩
      walk_at "rd"
      refine ⟨p1, _, _, _, rfl, rfl, SqT.of (w35 _ _ h1'), rfl, ?_⟩
      walk_at "rd"
      refine .inr ⟨_, rfl, ?_⟩
      refine ⟨L2, _, _, _, rfl, rfl, SqL.of g5, ho, ?_⟩
      walk_at "rd"
      refine ⟨by decide, by decide, ?_⟩
      have S5 := S3.of_same w35
      refine for_range (n := 3) (fun k σ H' => ∃ (x3 x9 : Option V) (t' : Nat), σ = [some (.ref a), some (.ref p1), some (.ref p2), x3, some (.int (dW A1 v)), some (.int (fT A1 B1 (dW A1 v))), some (.ref TS), some (.ref wa), some (.ref oa), x9, none, none, none] ∧ t' ≤ t + 40 * k ∧ Src H' a c t' ∧ Oth a c H5 H') ⟨_, none, t, rfl, by omega, S5, Oth.refl _ _ _⟩ ?_ ?_
      · rintro k σ H' hk ⟨x3, x9, t', rfl, ht', S', O'⟩
        walk_at "rd"
        refine ⟨a, c, t', 40, rfl, S', by decide, by omega, fun g H6 g0 g1 S6 O6 => ?_⟩
        have g2 : g < 10 ^ 40 := g1
        have O56 := O'.trans O6
        have hW6 := O56 _ _ (w35 _ _ hWa) wna wnc
        have hO6 := O56 _ _ (w35 _ _ hOa) ona onc
        have hT6 := O56 _ _ (w35 _ _ hTS) sa sc
        have ws1 := SW.s1
        have os1 := SO.s1
        have m1 : dW (lwS A1 B1) g - g < (lwS A1 B1).s ∧ g - dW (lwS A1 B1) g < (lwS A1 B1).s := due_near (o := (lwS A1 B1).o) (v := g) SW.md SW.s0
        have m2 : dW (loS A1 B1) (dW (lwS A1 B1) g) - dW (lwS A1 B1) g < (loS A1 B1).s ∧ dW (lwS A1 B1) g - dW (loS A1 B1) (dW (lwS A1 B1) g) < (loS A1 B1).s := due_near (o := (loS A1 B1).o) (v := dW (lwS A1 B1) g) SO.md SO.s0
        refine ⟨wa, _, _, _, g, rfl, hW6, SW, (by unfold Bd; omega), fun H7 s7 => ?_⟩
        walk_at "rd"
        refine ⟨oa, _, _, _, dW (lwS A1 B1) g, rfl, s7 _ _ hO6, SO, (by unfold Bd; omega), fun H8 s8 => ?_⟩
        refine ⟨wa, _, _, _, dW (loS A1 B1) (dW (lwS A1 B1) g), rfl, s8 _ _ (s7 _ _ hW6), SW, (by unfold Bd; omega), fun H9 s9 => ?_⟩
        walk_at "rd"
        refine ⟨TS, _, _, _, rfl, rfl, SqT.of (s9 _ _ (s8 _ _ (s7 _ _ hT6))), rfl, ?_⟩
        walk_at "rd"
        refine ⟨rfl, ?_⟩
        walk_at "rd"
        refine ite2 (fun z => (not_t z (decide_eq_true (congrArg V.int (creep_law SA SB cr c0 g)))).elim) (fun _ => ?_)
        have w79 := s7.trans (s8.trans s9)
        exact ⟨_, _, _, rfl, by omega, S6.of_same w79, fun b u z na nc => w79 _ _ (O56 _ _ z na nc)⟩
      · rintro σ H' ⟨x3, x9, t', rfl, ht', S', O'⟩
        have h1'' := O' _ _ (w35 _ _ h1') pa pc
        have h2'' := O' _ _ (w35 _ _ h2') qa qc
        have hT' := O' _ _ (w35 _ _ hTS) sa sc
        walk_at "rd"
        refine ⟨p1, p2, A1, B1, rfl, h1'', SA, h2'', SB, fun c3 H6 cr3 s6 => ?_⟩
        have ec3 := cd_uniq SA SB cr3 cr
        subst ec3
        walk_at "rd"
        refine ⟨TS, _, _, _, rfl, rfl, SqT.of (s6 _ _ hT'), rfl, ?_⟩
        walk_at "rd"
        refine ⟨rfl, ?_⟩
        walk_at "rd"
        refine ite2 (fun _ => ?_) (fun z => absurd (decide_eq_true rfl) z)
        walk_at "rd"
        refine ⟨p1, p2, A1, B1, fT A1 B1 (dW A1 v), rfl, s6 _ _ h1'', SA, s6 _ _ h2'', SB, by omega, fun c2 T2 H7 o2 cr2 nT2 s7 hT2 R2 => ?_⟩
        have ec := cd_uniq SA SB cr2 cr
        subst ec
        have e2 : o2 = .tup [.str "creeps", .int c2] := res_uniq R2 (.inl ⟨c0, rfl⟩)
        subst e2
        walk_at "rd"
        refine ⟨.tuple [.str "creeps", .int c2], .tuple [.str "creeps", .int c2], .tup (SqT.of hT2) (.cons (.str _) (.cons (.int _) .nil)), .tup (SqT.of (s7 _ _ (s6 _ _ hT'))) (.cons (.str _) (.cons (.int _) .nil)), shaped2 c2, shaped2 c2, ?_⟩
        rw [SeqAt.eqv_refl _ (SeqAt.canLay_of_shaped (shaped2 c2))]
        have w67 := s6.trans s7
        exact q H7 t' (by omega) (S'.of_same w67) (fun b u z na nc => w67 _ _ (O' _ _ (w35 _ _ (O3 _ _ z na nc)) na nc))
    · walk_at "rd"
      refine ⟨TS, _, _, _, rfl, rfl, SqT.of hTS, rfl, ?_⟩
      walk_at "rd"
      refine ⟨rfl, ?_⟩
      walk_at "rd"
      refine ⟨TS, _, rfl, SqT.of hTS, rfl, _, _, rfl, _, _, rfl, _, _, rfl, rfl, ?_⟩
      obtain ⟨eb1, eb2, rb⟩ := stl_bd2 SA SB st1
      have fx : fT A1 B1 E1 = E1 := st1.2.1
      have hx : dW A1 E1 = E1 := by
        have e2 := dW_dW SA (dW B1 E1)
        have e3 : dW A1 (dW B1 E1) = E1 := fx
        rw [e3] at e2
        exact e2
      have hx2 : dueM A1.o A1.s A1.m E1 = E1 := hx
      walk_at "rd"
      refine ⟨p1, p2, A1, B1, E1, rfl, h1', SA, h2', SB, by omega, fun H4 s4 => ?_⟩
      walk_at "rd"
      refine ⟨rfl, ?_⟩
      walk_at "rd"
      refine ite2 (fun z => (not_t z (decide_eq_true (congrArg V.int fx))).elim) (fun _ => ?_)
      walk_at "rd"
      refine ⟨p1, A1.o, A1.s, A1.m, E1, rfl, s4 _ _ h1', SA, (by unfold Bd; omega), fun H5 s5 => ?_⟩
      walk_at "rd"
      refine ⟨rfl, ?_⟩
      walk_at "rd"
      refine ite2 (fun z => (not_t z (decide_eq_true (congrArg V.int hx2))).elim) (fun _ => ?_)
      walk_at "rd"
      refine ⟨rfl, ?_⟩
      walk_at "rd"
      refine ⟨rfl, ?_⟩
      walk_at "rd"
      refine ⟨rfl, ?_⟩
      walk_at "rd"
      refine ite2 (fun z => (not_t z (decide_eq_true (congrArg V.bl (decide_eq_decide.mpr ⟨fun y => (by
        have y2 : (r1 : Int) = 0 := V.int.inj y
        have y3 := (stl_zero st1).mp (by omega)
        exact congrArg V.int y3), fun y => (by
        have y2 : fT A1 B1 (dW A1 v) = dW A1 v := V.int.inj y
        have y3 := (stl_zero st1).mpr y2
        rw [y3]
        rfl)⟩)))).elim) (fun _ => ?_)
      have h15 := s5 _ _ (s4 _ _ h1')
      have h25 := s5 _ _ (s4 _ _ h2')
      have S5 := (S3.of_same s4).of_same s5
      have O5 : Oth a c H H5 := fun b u z na nc => s5 _ _ (s4 _ _ (O3 _ _ z na nc))
      walk_at "rd"
      have bp : ∀ x : Int, dW A1 v ≤ x → x ≤ E1 → fT A1 B1 x ≤ E1 ∧ (x ≠ E1 → x < fT A1 B1 x) := fun x x0 x1 => stl_up (fun z => fT_mono SA SB z) st1 x0 x1
      have dp : ∀ x : Int, E1 ≤ x → x ≤ dW A1 v → E1 ≤ fT A1 B1 x ∧ (x ≠ E1 → fT A1 B1 x < x) := fun x x0 x1 => stl_dn (fun z => fT_mono SA SB z) st1 x1 x0
      have aft : dW A1 (fT A1 B1 (dW A1 v)) = fT A1 B1 (dW A1 v) := dW_dW SA (dW B1 (dW A1 v))
      refine ite2 (fun z => ?_) (fun z => ?_)
      · have rp := of_decide_eq_true z
        obtain ⟨n, rfl⟩ : ∃ n, r1 = n + 1 := ⟨r1 - 1, by omega⟩
        walk_at "rd"
        refine ⟨p1, p2, A1, B1, fT A1 B1 (dW A1 v), rfl, h15, SA, h25, SB, by omega, fun c2 T2 H6 o2 cr2 nT2 s6 hT2 R2 => ?_⟩
        have ec := cd_uniq SA SB cr2 cr
        have e2 : o2 = .tup [.str "settles", .int E1, .int (n : Int)] := res_uniq R2 (.inr ⟨ec.trans c0, E1, n, (by rw [aft]; exact stl_next st1), rfl⟩)
        subst e2
        walk_at "rd"
        have en : ((n + 1 : Nat) : Int) - 1 = (n : Int) := by omega
        walk_at "rd"
        refine ⟨(by show 3 ≤ sizeLine; decide), fun T3 nT3 => ?_⟩
        generalize e_T3 : upd H6 T3 _ = H7
        have g7 : H7 T3 = some (.tup [.str "settles", .int E1, .int (((n + 1 : Nat) : Int) - 1)]) := by rw [← e_T3]; exact upd_same
        have w7 : Same H6 H7 := by rw [← e_T3]; exact fun b u z => (upd_ne (ne_of_none z nT3)).trans z
        clear e_T3
        rw [en] at g7
        have h17 := w7 _ _ (s6 _ _ h15)
        have h27 := w7 _ _ (s6 _ _ h25)
        have S7 := (S5.of_same s6).of_same w7
        have O7 : Oth a c H H7 := fun b u y na nc => w7 _ _ (s6 _ _ (O5 _ _ y na nc))
        refine ⟨.tuple [.str "settles", .int E1, .int (n : Int)], .tuple [.str "settles", .int E1, .int (n : Int)], .tup (SqT.of (w7 _ _ hT2)) (.cons (.str _) (.cons (.int _) (.cons (.int _) .nil))), .tup (SqT.of g7) (.cons (.str _) (.cons (.int _) (.cons (.int _) .nil))), shaped3 E1 n, shaped3 E1 n, ?_⟩
        walk_at "rd"
        refine ite2 (fun y => (not_t y (SeqAt.eqv_refl _ (SeqAt.canLay_of_shaped (shaped3 E1 n)))).elim) (fun _ => ?_)
        walk_at "rd"
        refine ⟨p1, p2, A1, B1, rfl, h17, SA, h27, SB, fun c3 H8 cr3 s8 => ?_⟩
        have ec3 := cd_uniq SA SB cr3 cr
        walk_at "rd"
        refine ⟨rfl, ?_⟩
        walk_at "rd"
        refine ite2 (fun y => (not_t y (decide_eq_true (congrArg V.int (ec3.trans c0)))).elim) (fun _ => ?_)
        have S8 := S7.of_same s8
        have O8 : Oth a c H H8 := fun b u y na nc => s8 _ _ (O7 _ _ y na nc)
        walk_at "rd"
        refine ite2 (fun y => ?_) (fun y => ?_)
        · have ge : dW A1 v ≤ E1 := of_decide_eq_true y
          walk_at "rd"
          refine ⟨a, c, p1, p2, t, A1, B1, dW A1 v, E1, rfl, S8, by omega, s8 _ _ h17, SA, s8 _ _ h27, SB, ⟨by omega, ge, by omega⟩, fun x x0 x1 => by rw [if_pos rfl]; exact bp x x0 x1, fun H9 t9 ht9 S9 O9 => ?_⟩
          exact q H9 t9 ht9 S9 (O8.trans O9)
        · have lt : ¬ dW A1 v ≤ E1 := fun e => y (decide_eq_true e)
          walk_at "rd"
          refine ⟨a, c, p1, p2, t, A1, B1, E1, dW A1 v, rfl, S8, by omega, s8 _ _ h17, SA, s8 _ _ h27, SB, ⟨by omega, by omega, by omega⟩, fun x x0 x1 => by rw [if_neg (by decide)]; exact dp x x0 x1, fun H9 t9 ht9 S9 O9 => ?_⟩
          exact q H9 t9 ht9 S9 (O8.trans O9)
      · walk_at "rd"
        refine ⟨p1, p2, A1, B1, rfl, h15, SA, h25, SB, fun c3 H8 cr3 s8 => ?_⟩
        have ec3 := cd_uniq SA SB cr3 cr
        walk_at "rd"
        refine ⟨rfl, ?_⟩
        walk_at "rd"
        refine ite2 (fun y => (not_t y (decide_eq_true (congrArg V.int (ec3.trans c0)))).elim) (fun _ => ?_)
        have S8 := S5.of_same s8
        have O8 : Oth a c H H8 := fun b u y na nc => s8 _ _ (O5 _ _ y na nc)
        walk_at "rd"
        refine ite2 (fun y => ?_) (fun y => ?_)
        · have ge : dW A1 v ≤ E1 := of_decide_eq_true y
          walk_at "rd"
          refine ⟨a, c, p1, p2, t, A1, B1, dW A1 v, E1, rfl, S8, by omega, s8 _ _ h15, SA, s8 _ _ h25, SB, ⟨by omega, ge, by omega⟩, fun x x0 x1 => by rw [if_pos rfl]; exact bp x x0 x1, fun H9 t9 ht9 S9 O9 => ?_⟩
          exact q H9 t9 ht9 S9 (O8.trans O9)
        · have lt : ¬ dW A1 v ≤ E1 := fun e => y (decide_eq_true e)
          walk_at "rd"
          refine ⟨a, c, p1, p2, t, A1, B1, E1, dW A1 v, rfl, S8, by omega, s8 _ _ h15, SA, s8 _ _ h25, SB, ⟨by omega, by omega, by omega⟩, fun x x0 x1 => by rw [if_neg (by decide)]; exact dp x x0 x1, fun H9 t9 ht9 S9 O9 => ?_⟩
          exact q H9 t9 ht9 S9 (O8.trans O9)
end
end HT
namespace HT
open PySem L2
def spLaw (K : PySem.W.Frag) : Sp := fun vs H Q _ => ∃ (l : Addr) (ns : List Int), vs = [.ref l] ∧ SqL K H l (ns.map V.int) ∧ ns.length ≤ 63 ∧ ∀ H', Q (.bl true) H'
theorem pk_of {x : V} (h : x ∈ [V.int 1, .int 1, .int 3]) : ∃ j : Int, x = .int j ∧ (j = 1 ∨ j = 3) := by
  simp only [List.mem_cons, List.not_mem_nil, or_false] at h
  rcases h with h | h | h
  · exact ⟨1, h, .inl rfl⟩
  · exact ⟨1, h, .inl rfl⟩
  · exact ⟨3, h, .inr rfl⟩
section
variable {P : Program} {w : World} {K : PySem.W.Frag} {mg : Str → Option Value} {base : Heap} {f0 f1 f2 f3 f4 f5 f6 : Addr} {d0 d1 d2 d3 d4 d5 d6 : FuncData}
theorem ok_law {f : Addr} {fd : FuncData} (F : Fun K "law" "law" s_law f fd) (B : Blt mg) (So : Cal P w K mg base "_law_source" 1 ["_law_script"] (spSource K) f0 d0) (Gr : Cal P w K mg base "_law_great" 2 ["_law_source_here", "_law_digits"] spGreat f1 d1)
    (Pi : Cal P w K mg base "_law_pick" 2 ["_law_source_here", "_law_values"] spPick f2 d2) (Sm : Cal P w K mg base "_law_small_side" 3 ["_law_source_here", "_law_most"] spSmall f3 d3) (Gs : Cal P w K mg base "_law_great_side" 3 ["_law_source_here"] spGS f4 d4)
    (Lf : Cal P w K mg base "_law_lift_fits" 109 ["_law_source_here", "_law_first", "_law_second"] spLift f5 d5) (Gf : Cal P w K mg base "_law_great_fits" 109 ["_law_source_here", "_law_first", "_law_second", "_law_value"] spGF f6 d6) : FnOk P w K mg base CX0 110 f fd ["_law_script"] (spLaw K) := by
  refine F.ok sc_law (fun vs H Q E h => ?_) (fun cdv A outer s H vs Q E hr h => ?_)
  · obtain ⟨l, ns, rfl, _⟩ := h
    rfl
  · obtain ⟨l, ns, rfl, hL, hn, q⟩ := h
    have nd := sc_law.nd
    refine ⟨_, (pss_cons (ps_set (i := 1) nd rfl (Or.inl rfl) (pcl So hr (by decide) (by rfl) (pa_cons (pv 0) pa_nil)))
      (pss_cons (ps_for PassesOwn.never rfl (pi_range1 (by rfl) B.range (pa_cons pe_int pa_nil)) (pg_name (i := 2) nd rfl (Or.inl rfl)) (pss_cons (ps_par (i := 3) (j := 4) (by rfl) nd rfl rfl (by decide) rfl rfl (pa_cons (pcl Sm hr (by decide) (by rfl) (pa_cons (pv 1) (pa_cons pe_int pa_nil))) (pa_cons (pcl Sm hr (by decide) (by rfl) (pa_cons (pv 1) (pa_cons pe_int pa_nil))) pa_nil)) (by rfl))
      (pss_cons (ps_if (pt_not (pt_val (pcl Lf hr (by decide) (by rfl) (pa_cons (pv 1) (pa_cons (pv 3) (pa_cons (pv 4) pa_nil)))))) (pss_one (ps_ret pe_bl)) pss_nil)
      (pss_cons (ps_par (i := 3) (j := 4) (by rfl) nd rfl rfl (by decide) rfl rfl (pa_cons (pcl Gs hr (by decide) (by rfl) (pa_cons (pv 1) pa_nil)) (pa_cons (pcl Gs hr (by decide) (by rfl) (pa_cons (pv 1) pa_nil)) pa_nil)) (by rfl))
      (pss_cons (ps_if (pt_cmpR op_eq (pe_op op_mod (pv 2) pe_int) pe_int (nomark _)) (pss_cons (ps_set (i := 5) nd rfl (Or.inl rfl) (pe_op op_mulW (pe_op op_mulW (pcl Pi hr (by decide) (by rfl) (pa_cons (pv 1) (pa_cons (pe_lst (pa_cons pe_int (pa_cons pe_int (pa_cons pe_int pa_nil)))) pa_nil))) (pe_op op_fdiv (pe_ix ix_tup (pv 3) pe_int (fun _ _ => rfl)) pe_int)) (pe_op op_sub pe_int (pe_op op_mulW pe_int (pe_callTy call_int1 (by rfl) B.int (by decide +kernel) (pa_cons (pe_cmpR op_gt (pe_ix ix_tup (pv 3) pe_int (fun _ _ => rfl)) pe_int (nomark _)) pa_nil))))))
      (pss_one (ps_set (i := 4) nd rfl (Or.inl rfl) (pe_tup (pa_cons (pe_op op_add (pe_ix ix_tup (pv 3) pe_int (fun _ _ => rfl)) (pv 5)) (pa_cons (pe_ix ix_tup (pv 3) pe_int (fun _ _ => rfl)) (pa_cons (pe_ix ix_tup (pv 4) pe_int (fun _ _ => rfl)) pa_nil))))))) pss_nil)
      (pss_one (ps_for PassesOwn.never rfl (pi_range1 (by rfl) B.range (pa_cons pe_int pa_nil)) (pg_name (i := 6) nd rfl (Or.inl rfl)) (pss_cons (ps_set (i := 7) nd rfl (Or.inl rfl) (pe_op op_mulW (pcl Gr hr (by decide) (by rfl) (pa_cons (pv 1) (pa_cons (pcl Pi hr (by decide) (by rfl) (pa_cons (pv 1) (pa_cons (pe_lst (pa_cons pe_int (pa_cons pe_int (pa_cons pe_int pa_nil)))) pa_nil))) pa_nil))) (pcl Pi hr (by decide) (by rfl) (pa_cons (pv 1) (pa_cons (pe_lst (pa_cons pe_int (pa_cons (pe_un un_neg pe_int) pa_nil))) pa_nil)))))
      (pss_one (ps_if (pt_not (pt_val (pcl Gf hr (by decide) (by rfl) (pa_cons (pv 1) (pa_cons (pv 3) (pa_cons (pv 4) (pa_cons (pv 7) pa_nil))))))) (pss_one (ps_ret pe_bl)) pss_nil))))))))))
      (pss_one (ps_ret pe_bl)))), ?_⟩
    walk_at "rd"
    refine ⟨l, ns, rfl, hL, hn, fun a c H0 sm na nc S0 => ?_⟩
    walk_at "rd"
    refine ⟨by decide, by decide, ?_⟩
    refine for_range (n := 10) (fun i σ H' => ∃ (x2 x3 x4 x5 x6 x7 : Option V) (t : Nat), σ = [some (.ref l), some (.ref a), x2, x3, x4, x5, x6, x7] ∧ t ≤ 1000 * i ∧ Src H' a c t) ⟨none, none, none, none, none, none, 0, rfl, by omega, S0⟩ ?_ ?_
    · rintro i σ H' hi ⟨x2, x3, x4, x5, x6, x7, t, rfl, ht, S'⟩
      walk_at "rd"
      refine ⟨a, c, t, 40, rfl, S', by decide, by decide, by omega, fun p1 o1 u1 m1 H2 t2 hp1 b1 b2 b3 b4 md1 ht2 S2 O2 => ?_⟩
      walk_at "rd"
      refine ⟨a, c, t2, 40, rfl, S2, by decide, by decide, by omega, fun p2 o2 u2 m2 H3 t3 hp2 c1 c2 c3 c4 md2 ht3 S3 O3 => ?_⟩
      obtain ⟨pa, pc⟩ := S2.nt hp1
      have hp1' := O3 _ _ hp1 pa pc
      walk_at "rd"
      refine ⟨_, _, rfl, ?_⟩
      walk_at "rd"
      refine ⟨a, c, p1, p2, t3, ⟨o1, u1, m1⟩, ⟨o2, u2, m2⟩, rfl, S3, by omega, hp1', ⟨by show -(10 : Int) ^ 40 ≤ o1; omega, by show o1 ≤ (10 : Int) ^ 40; omega, b3, by show u1 ≤ (10 : Int) ^ 30; omega, md1⟩, hp2, ⟨by show -(10 : Int) ^ 40 ≤ o2; omega, by show o2 ≤ (10 : Int) ^ 40; omega, c3, by show u2 ≤ (10 : Int) ^ 30; omega, md2⟩, ⟨b1, b2, b4⟩, ⟨c1, c2, c4⟩, fun H4 t4 ht4 S4 O4 => ?_⟩
      clear hp1' hp2 hp1 O3 O2 O4
      walk_at "rd"
      refine ⟨a, c, t4, rfl, S4, by omega, fun p3 A1 H5 t5 hp3 SA ht5 S5 O5 => ?_⟩
      walk_at "rd"
      refine ⟨a, c, t5, rfl, S5, by omega, fun p4 B0 H6 t6 hp4 SB0 ht6 S6 O6 => ?_⟩
      obtain ⟨ra, rc⟩ := S5.nt hp3
      have hp3' := O6 _ _ hp3 ra rc
      obtain ⟨qa, qc⟩ := S6.nt hp4
      have a0 := SA.o0
      have a1 := SA.o1
      have a2 := SA.s0
      have a3 := SA.s1
      walk_at "rd"
      refine ⟨_, _, rfl, ?_⟩
      walk_at "rd"
      refine ⟨(by show (0 : Int) < 3; decide), ?_⟩
      walk_at "rd"
      refine ⟨rfl, ?_⟩
      walk_at "rd"
      refine ite2 (fun z => ?a) (fun z => ?b)
      case' b =>
        have G : ∃ (B1 : Sd) (t7 : Nat), H6 p4 = some (sideV B1.o B1.s B1.m) ∧ SideP B1.o B1.s B1.m ∧ t7 ≤ t + 300 ∧ Src H6 a c t7 ∧ H6 p3 = some (sideV A1.o A1.s A1.m) := ⟨B0, t6, hp4, SB0, by omega, S6, hp3'⟩
        obtain ⟨x5', e5⟩ : ∃ x5', x5' = x5 := ⟨_, rfl⟩
        subst e5
        obtain ⟨p5, e6⟩ : ∃ p5, p5 = p4 := ⟨_, rfl⟩
        subst e6
        obtain ⟨H9, e7⟩ : ∃ H9, H9 = H6 := ⟨_, rfl⟩
        subst e7
        clear hp4 hp3' S6 O6 SB0 qa qc hp3 S5 O5
      case' a =>
        walk_at "rd"
        refine ⟨(by show 3 ≤ sizeLine; decide), fun L1 nL1 => ?_⟩
        generalize e_L1 : upd H6 L1 _ = H7
        have g7 : H7 L1 = some (.lst [.int 1, .int 1, .int 3]) := by rw [← e_L1]; exact upd_same
        have w7 : Same H6 H7 := by rw [← e_L1]; exact fun b u z => (upd_ne (ne_of_none z nL1)).trans z
        clear e_L1
        have S7 := S6.of_same w7
        obtain ⟨la, lc⟩ := S6.na nL1
        refine ⟨a, c, _, L1, _, rfl, S7, by omega, g7, la, lc, (by show 0 < 3; decide), (by show 3 < 2 ^ 60; decide), fun x H8 hx S8 O8 => ?_⟩
        obtain ⟨pk, rfl, hpk⟩ := pk_of hx
        have h38 := O8 _ _ (w7 _ _ hp3') ra rc
        have h48 := O8 _ _ (w7 _ _ hp4) qa qc
        walk_at "rd"
        refine ⟨p3, _, _, _, rfl, rfl, SqT.of h38, rfl, ?_⟩
        walk_at "rd"
        refine ⟨⟨by decide, by decide⟩, ?_⟩
        obtain ⟨hf, ehf, hf0, hf1⟩ : ∃ hf : Int, hf = A1.s / 2 ∧ 0 ≤ hf ∧ hf ≤ 10 ^ 30 := ⟨_, rfl, by omega, by omega⟩
        obtain ⟨sg, esg, sg0, sg1, sgp⟩ : ∃ sg : Int, sg = (if decide (0 < A1.o) = true then 1 else 0) ∧ 0 ≤ sg ∧ sg ≤ 1 ∧ (0 < A1.o ↔ sg = 1) := by
          by_cases z : 0 < A1.o
          · exact ⟨1, by rw [decide_eq_true z, if_pos rfl], by decide, by decide, ⟨fun _ => rfl, fun _ => z⟩⟩
          · exact ⟨0, by rw [decide_eq_false z, if_neg (by decide)], by decide, by decide, ⟨fun y => absurd y z, fun y => absurd y (by decide)⟩⟩
        walk_at "rd"
        refine ⟨mulW (by rcases hpk with e | e <;> subst e <;> omega) (by rw [← ehf]; omega), ?_⟩
        walk_at "rd"
        refine ⟨p3, _, _, _, rfl, rfl, SqT.of h38, rfl, ?_⟩
        walk_at "rd"
        refine .inr ⟨_, rfl, ?_⟩
        walk_at "rd"
        refine ⟨mulW (by decide) (by rw [← esg]; omega), ?_⟩
        walk_at "rd"
        refine ⟨mulW (by rw [← ehf]; rcases hpk with e | e <;> subst e <;> omega) (by rw [← esg]; omega), ?_⟩
        walk_at "rd"
        refine ⟨p3, _, _, _, rfl, rfl, SqT.of h38, rfl, ?_⟩
        walk_at "rd"
        refine ⟨p3, _, _, _, rfl, rfl, SqT.of h38, rfl, ?_⟩
        walk_at "rd"
        refine ⟨p4, _, _, _, rfl, rfl, SqT.of h48, rfl, ?_⟩
        walk_at "rd"
        refine ⟨(by show 3 ≤ sizeLine; decide), fun p5 np5 => ?_⟩
        generalize e_p5 : upd H8 p5 _ = H9
        have g9 : H9 p5 = some (sideV (A1.o + pk * hf * (1 - 2 * sg)) A1.s B0.m) := by rw [← e_p5, ehf, esg]; exact upd_same
        have w9 : Same H8 H9 := by rw [← e_p5]; exact fun b u z => (upd_ne (ne_of_none z np5)).trans z
        clear e_p5
        have mb : -10 ^ 40 ≤ A1.o + pk * hf * (1 - 2 * sg) ∧ A1.o + pk * hf * (1 - 2 * sg) ≤ 10 ^ 40 := by
          by_cases y : 0 < A1.o
          · have e := sgp.mp y
            subst e
            rcases hpk with e | e <;> subst e <;> omega
          · have e : sg = 0 := by
              have : ¬ sg = 1 := fun w => y (sgp.mpr w)
              omega
            subst e
            rcases hpk with e | e <;> subst e <;> omega
        have G : ∃ (B1 : Sd) (t7 : Nat), H9 p5 = some (sideV B1.o B1.s B1.m) ∧ SideP B1.o B1.s B1.m ∧ t7 ≤ t + 300 ∧ Src H9 a c t7 ∧ H9 p3 = some (sideV A1.o A1.s A1.m) := ⟨⟨A1.o + pk * hf * (1 - 2 * sg), A1.s, B0.m⟩, _, g9, ⟨mb.1, mb.2, a2, a3, SB0.md⟩, by omega, S8.of_same w9, w9 _ _ h38⟩
        clear hp4 hp3' S6 O6 SB0 qa qc h38 h48 S7 S8 O8 g7 g9 w7 w9 hp3 S5 O5
      all_goals
        obtain ⟨B1, t7, h5, SB, ht7, S9, h3⟩ := G
        obtain ⟨ua, uc⟩ := S9.nt h5
        obtain ⟨va, vc⟩ := S9.nt h3
        walk_at "rd"
        refine ⟨by decide, by decide, ?_⟩
        refine for_range (n := 3) (fun k σ H' => ∃ (x5 x6 x7 : Option V) (t' : Nat), σ = [some (.ref l), some (.ref a), some (.int (0 + (i : Int))), some (.ref p3), some (.ref p5), x5, x6, x7] ∧ t' ≤ t + 300 + 180 * k ∧ Src H' a c t' ∧ Oth a c H9 H') ⟨_, _, _, t7, rfl, by omega, S9, Oth.refl _ _ _⟩ ?_ ?_
        · rintro k σ H' hk ⟨x5, x6, x7, t', rfl, ht', S', O'⟩
          walk_at "rd"
          refine ⟨(by show 3 ≤ sizeLine; decide), fun l1 nl1 => ?_⟩
          obtain ⟨la1, lc1⟩ := S'.na nl1
          refine ⟨a, c, _, l1, _, rfl, S'.new nl1, by omega, upd_same, la1, lc1, by decide, by decide, fun y1 H10 hy1 S10 O10 => ?_⟩
          obtain ⟨n3, rfl, n40⟩ := digs_of2 hy1
          walk_at "rd"
          refine ⟨a, c, _, n3, rfl, S10, by omega, by omega, fun g H11 g0 g1 S11 O11 => ?_⟩
          walk_at "rd"
          refine ⟨(by show 2 ≤ sizeLine; decide), fun l2 nl2 => ?_⟩
          obtain ⟨la2, lc2⟩ := S11.na nl2
          refine ⟨a, c, _, l2, _, rfl, S11.new nl2, by omega, upd_same, la2, lc2, by decide, by decide, fun y2 H12 hy2 S12 O12 => ?_⟩
          obtain ⟨j, rfl, hj⟩ := sg_of hy2
          have z4 : g < 10 ^ 40 := Int.lt_of_lt_of_le g1 (p10_mono n40)
          walk_at "rd"
          refine ⟨mulW (by omega) (by rcases hj with e | e <;> subst e <;> omega), ?_⟩
          have vb : -2 ^ 200 < g * j ∧ g * j < 2 ^ 200 := by rcases hj with e | e <;> subst e <;> omega
          have O12' : Oth a c H9 H12 := ((((O'.new nl1).trans O10).trans O11).new nl2).trans O12
          walk_at "rd"
          refine ⟨a, c, p3, p5, _, A1, B1, g * j, rfl, S12, by omega, O12' _ _ h3 va vc, SA, O12' _ _ h5 ua uc, SB, vb, fun H13 t13 ht13 S13 O13 => ?_⟩
          walk_at "rd"
          exact ⟨_, _, _, t13, rfl, by omega, S13, O12'.trans O13⟩
        · rintro σ H' ⟨x5, x6, x7, t', rfl, ht', S', O'⟩
          exact ⟨_, _, _, _, _, _, t', rfl, by omega, S'⟩
    · rintro σ H' ⟨x2, x3, x4, x5, x6, x7, t, rfl, ht, S'⟩
      walk_at "rd"
      exact q H'
end
end HT
namespace HT
open PySem L2
theorem all_mk {l : PySem.W.OpenLaw} {w : World} {K : PySem.W.Frag} {h : Heap} {mg : Str → Option Value} {fa aM aR aU f_is_int f_is_int_between f_check_value f_check_side f_figure f_goes_up f_written f_span f_uspan f_below f_threshold f_mirror f_period_of f_first_hit f_first_between f_unraised f_settled f_pace f_creep f_wide_and_narrow f_rounds_up f_settled_on_wide f_settled_on_narrow f_L_source f_L_draw f_L_pick f_L_divisor f_L_great f_L_small_side f_L_figure f_L_handed f_L_period f_L_trip f_L_settled f_L_great_side f_L_times f_L_lift_fits f_L_between_fits f_L_down_fits f_L_great_fits f_law : Addr} (X : K.In h) (G : h.Ns mainGlobals mg) (hfa : mg "law" = some (.ref fa))
    {odM odU od_is_int an_is_int od_is_int_between an_is_int_between od_check_value an_check_value od_check_side an_check_side od_figure an_figure od_goes_up an_goes_up od_written an_written od_span an_span od_uspan an_uspan od_below an_below od_threshold an_threshold od_mirror an_mirror od_period_of an_period_of od_first_hit an_first_hit od_first_between an_first_between od_unraised an_unraised od_settled an_settled od_pace an_pace od_creep an_creep od_wide_and_narrow an_wide_and_narrow od_rounds_up an_rounds_up od_settled_on_wide an_settled_on_wide od_settled_on_narrow an_settled_on_narrow od_L_source an_L_source od_L_draw an_L_draw od_L_pick an_L_pick od_L_divisor an_L_divisor od_L_great an_L_great od_L_small_side an_L_small_side od_L_figure an_L_figure od_L_handed an_L_handed od_L_period an_L_period od_L_trip an_L_trip od_L_settled an_L_settled od_L_great_side an_L_great_side od_L_times an_L_times od_L_lift_fits an_L_lift_fits od_L_between_fits an_L_between_fits od_L_down_fits an_L_down_fits od_L_great_fits an_L_great_fits od_law an_law : Option Addr} {slM slU sl_is_int sl_is_int_between sl_check_value sl_check_side sl_figure sl_goes_up sl_written sl_span sl_uspan sl_below sl_threshold sl_mirror sl_period_of sl_first_hit sl_first_between sl_unraised sl_settled sl_pace sl_creep sl_wide_and_narrow sl_rounds_up sl_settled_on_wide sl_settled_on_narrow sl_L_source sl_L_draw sl_L_pick sl_L_divisor sl_L_great sl_L_small_side sl_L_figure sl_L_handed sl_L_period sl_L_trip sl_L_settled sl_L_great_side sl_L_times sl_L_lift_fits sl_L_between_fits sl_L_down_fits sl_L_great_fits sl_law : Array (Option Value)} {nM nR nU : Nat} {itsM itsU : Array Value} {esR : Array DictEntry} {u_down u_up u_half_down u_half_up u_half_even oc_is_int kV_is_int dc_is_int pm_is_int cd_is_int ct_is_int oc_is_int_between kV_is_int_between dc_is_int_between pm_is_int_between cd_is_int_between ct_is_int_between oc_check_value kV_check_value dc_check_value pm_check_value cd_check_value ct_check_value oc_check_side kV_check_side dc_check_side pm_check_side cd_check_side ct_check_side oc_figure kV_figure dc_figure pm_figure cd_figure ct_figure oc_goes_up kV_goes_up dc_goes_up pm_goes_up cd_goes_up ct_goes_up oc_written kV_written dc_written pm_written cd_written ct_written oc_span kV_span dc_span pm_span cd_span ct_span oc_uspan kV_uspan dc_uspan pm_uspan cd_uspan ct_uspan oc_below kV_below dc_below pm_below cd_below ct_below oc_threshold kV_threshold dc_threshold pm_threshold cd_threshold ct_threshold oc_mirror kV_mirror dc_mirror pm_mirror cd_mirror ct_mirror oc_period_of kV_period_of dc_period_of pm_period_of cd_period_of ct_period_of oc_first_hit kV_first_hit dc_first_hit pm_first_hit cd_first_hit ct_first_hit oc_first_between kV_first_between dc_first_between pm_first_between cd_first_between ct_first_between oc_unraised kV_unraised dc_unraised pm_unraised cd_unraised ct_unraised oc_settled kV_settled dc_settled pm_settled cd_settled ct_settled oc_pace kV_pace dc_pace pm_pace cd_pace ct_pace oc_creep kV_creep dc_creep pm_creep cd_creep ct_creep oc_wide_and_narrow kV_wide_and_narrow dc_wide_and_narrow pm_wide_and_narrow cd_wide_and_narrow ct_wide_and_narrow oc_rounds_up kV_rounds_up dc_rounds_up pm_rounds_up cd_rounds_up ct_rounds_up oc_settled_on_wide kV_settled_on_wide dc_settled_on_wide pm_settled_on_wide cd_settled_on_wide ct_settled_on_wide oc_settled_on_narrow kV_settled_on_narrow dc_settled_on_narrow pm_settled_on_narrow cd_settled_on_narrow ct_settled_on_narrow oc_L_source kV_L_source dc_L_source pm_L_source cd_L_source ct_L_source oc_L_draw kV_L_draw dc_L_draw pm_L_draw cd_L_draw ct_L_draw oc_L_pick kV_L_pick dc_L_pick pm_L_pick cd_L_pick ct_L_pick oc_L_divisor kV_L_divisor dc_L_divisor pm_L_divisor cd_L_divisor ct_L_divisor oc_L_great kV_L_great dc_L_great pm_L_great cd_L_great ct_L_great oc_L_small_side kV_L_small_side dc_L_small_side pm_L_small_side cd_L_small_side ct_L_small_side oc_L_figure kV_L_figure dc_L_figure pm_L_figure cd_L_figure ct_L_figure oc_L_handed kV_L_handed dc_L_handed pm_L_handed cd_L_handed ct_L_handed oc_L_period kV_L_period dc_L_period pm_L_period cd_L_period ct_L_period oc_L_trip kV_L_trip dc_L_trip pm_L_trip cd_L_trip ct_L_trip oc_L_settled kV_L_settled dc_L_settled pm_L_settled cd_L_settled ct_L_settled oc_L_great_side kV_L_great_side dc_L_great_side pm_L_great_side cd_L_great_side ct_L_great_side oc_L_times kV_L_times dc_L_times pm_L_times cd_L_times ct_L_times oc_L_lift_fits kV_L_lift_fits dc_L_lift_fits pm_L_lift_fits cd_L_lift_fits ct_L_lift_fits oc_L_between_fits kV_L_between_fits dc_L_between_fits pm_L_between_fits cd_L_between_fits ct_L_between_fits oc_L_down_fits kV_L_down_fits dc_L_down_fits pm_L_down_fits cd_L_down_fits ct_L_down_fits oc_L_great_fits kV_L_great_fits dc_L_great_fits pm_L_great_fits cd_L_great_fits ct_L_great_fits oc_law kV_law dc_law pm_law cd_law ct_law : Value}
    (a_is_int : PySem.W.nsIn K mainGlobals "is_int" = some (some (.ref f_is_int)))
    (l_is_int : K.lookup f_is_int = some ⟨oc_is_int, od_is_int, .func (PySem.W.fnOf "is_int" "is_int" (defArgs s_is_int) (defBody s_is_int) (defScope s_is_int) .none kV_is_int dc_is_int pm_is_int an_is_int cd_is_int ct_is_int), sl_is_int⟩)
    (c_is_int : PySem.W.codeIn K cd_is_int "is_int" = true) (k_is_int : PySem.W.keepIn K (.ref f_is_int) = true)
    (a_is_int_between : PySem.W.nsIn K mainGlobals "is_int_between" = some (some (.ref f_is_int_between)))
    (l_is_int_between : K.lookup f_is_int_between = some ⟨oc_is_int_between, od_is_int_between, .func (PySem.W.fnOf "is_int_between" "is_int_between" (defArgs s_is_int_between) (defBody s_is_int_between) (defScope s_is_int_between) .none kV_is_int_between dc_is_int_between pm_is_int_between an_is_int_between cd_is_int_between ct_is_int_between), sl_is_int_between⟩)
    (c_is_int_between : PySem.W.codeIn K cd_is_int_between "is_int_between" = true) (k_is_int_between : PySem.W.keepIn K (.ref f_is_int_between) = true)
    (a_check_value : PySem.W.nsIn K mainGlobals "check_value" = some (some (.ref f_check_value)))
    (l_check_value : K.lookup f_check_value = some ⟨oc_check_value, od_check_value, .func (PySem.W.fnOf "check_value" "check_value" (defArgs s_check_value) (defBody s_check_value) (defScope s_check_value) .none kV_check_value dc_check_value pm_check_value an_check_value cd_check_value ct_check_value), sl_check_value⟩)
    (c_check_value : PySem.W.codeIn K cd_check_value "check_value" = true) (k_check_value : PySem.W.keepIn K (.ref f_check_value) = true)
    (a_check_side : PySem.W.nsIn K mainGlobals "check_side" = some (some (.ref f_check_side)))
    (l_check_side : K.lookup f_check_side = some ⟨oc_check_side, od_check_side, .func (PySem.W.fnOf "check_side" "check_side" (defArgs s_check_side) (defBody s_check_side) (defScope s_check_side) .none kV_check_side dc_check_side pm_check_side an_check_side cd_check_side ct_check_side), sl_check_side⟩)
    (c_check_side : PySem.W.codeIn K cd_check_side "check_side" = true) (k_check_side : PySem.W.keepIn K (.ref f_check_side) = true)
    (a_figure : PySem.W.nsIn K mainGlobals "_figure" = some (some (.ref f_figure)))
    (l_figure : K.lookup f_figure = some ⟨oc_figure, od_figure, .func (PySem.W.fnOf "_figure" "_figure" (defArgs s_figure) (defBody s_figure) (defScope s_figure) .none kV_figure dc_figure pm_figure an_figure cd_figure ct_figure), sl_figure⟩)
    (c_figure : PySem.W.codeIn K cd_figure "_figure" = true) (k_figure : PySem.W.keepIn K (.ref f_figure) = true)
    (a_goes_up : PySem.W.nsIn K mainGlobals "_goes_up" = some (some (.ref f_goes_up)))
    (l_goes_up : K.lookup f_goes_up = some ⟨oc_goes_up, od_goes_up, .func (PySem.W.fnOf "_goes_up" "_goes_up" (defArgs s_goes_up) (defBody s_goes_up) (defScope s_goes_up) .none kV_goes_up dc_goes_up pm_goes_up an_goes_up cd_goes_up ct_goes_up), sl_goes_up⟩)
    (c_goes_up : PySem.W.codeIn K cd_goes_up "_goes_up" = true) (k_goes_up : PySem.W.keepIn K (.ref f_goes_up) = true)
    (a_written : PySem.W.nsIn K mainGlobals "written" = some (some (.ref f_written)))
    (l_written : K.lookup f_written = some ⟨oc_written, od_written, .func (PySem.W.fnOf "written" "written" (defArgs s_written) (defBody s_written) (defScope s_written) .none kV_written dc_written pm_written an_written cd_written ct_written), sl_written⟩)
    (c_written : PySem.W.codeIn K cd_written "written" = true) (k_written : PySem.W.keepIn K (.ref f_written) = true)
    (a_span : PySem.W.nsIn K mainGlobals "span" = some (some (.ref f_span)))
    (l_span : K.lookup f_span = some ⟨oc_span, od_span, .func (PySem.W.fnOf "span" "span" (defArgs s_span) (defBody s_span) (defScope s_span) .none kV_span dc_span pm_span an_span cd_span ct_span), sl_span⟩)
    (c_span : PySem.W.codeIn K cd_span "span" = true) (k_span : PySem.W.keepIn K (.ref f_span) = true)
    (a_uspan : PySem.W.nsIn K mainGlobals "_span" = some (some (.ref f_uspan)))
    (l_uspan : K.lookup f_uspan = some ⟨oc_uspan, od_uspan, .func (PySem.W.fnOf "_span" "_span" (defArgs s_uspan) (defBody s_uspan) (defScope s_uspan) .none kV_uspan dc_uspan pm_uspan an_uspan cd_uspan ct_uspan), sl_uspan⟩)
    (c_uspan : PySem.W.codeIn K cd_uspan "_span" = true) (k_uspan : PySem.W.keepIn K (.ref f_uspan) = true)
    (a_below : PySem.W.nsIn K mainGlobals "_below" = some (some (.ref f_below)))
    (l_below : K.lookup f_below = some ⟨oc_below, od_below, .func (PySem.W.fnOf "_below" "_below" (defArgs s_below) (defBody s_below) (defScope s_below) .none kV_below dc_below pm_below an_below cd_below ct_below), sl_below⟩)
    (c_below : PySem.W.codeIn K cd_below "_below" = true) (k_below : PySem.W.keepIn K (.ref f_below) = true)
    (a_threshold : PySem.W.nsIn K mainGlobals "threshold" = some (some (.ref f_threshold)))
    (l_threshold : K.lookup f_threshold = some ⟨oc_threshold, od_threshold, .func (PySem.W.fnOf "threshold" "threshold" (defArgs s_threshold) (defBody s_threshold) (defScope s_threshold) .none kV_threshold dc_threshold pm_threshold an_threshold cd_threshold ct_threshold), sl_threshold⟩)
    (c_threshold : PySem.W.codeIn K cd_threshold "threshold" = true) (k_threshold : PySem.W.keepIn K (.ref f_threshold) = true)
    (a_mirror : PySem.W.nsIn K mainGlobals "mirror" = some (some (.ref f_mirror)))
    (l_mirror : K.lookup f_mirror = some ⟨oc_mirror, od_mirror, .func (PySem.W.fnOf "mirror" "mirror" (defArgs s_mirror) (defBody s_mirror) (defScope s_mirror) .none kV_mirror dc_mirror pm_mirror an_mirror cd_mirror ct_mirror), sl_mirror⟩)
    (c_mirror : PySem.W.codeIn K cd_mirror "mirror" = true) (k_mirror : PySem.W.keepIn K (.ref f_mirror) = true)
    (a_period_of : PySem.W.nsIn K mainGlobals "period_of" = some (some (.ref f_period_of)))
    (l_period_of : K.lookup f_period_of = some ⟨oc_period_of, od_period_of, .func (PySem.W.fnOf "period_of" "period_of" (defArgs s_period_of) (defBody s_period_of) (defScope s_period_of) .none kV_period_of dc_period_of pm_period_of an_period_of cd_period_of ct_period_of), sl_period_of⟩)
    (c_period_of : PySem.W.codeIn K cd_period_of "period_of" = true) (k_period_of : PySem.W.keepIn K (.ref f_period_of) = true)
    (a_first_hit : PySem.W.nsIn K mainGlobals "first_hit" = some (some (.ref f_first_hit)))
    (l_first_hit : K.lookup f_first_hit = some ⟨oc_first_hit, od_first_hit, .func (PySem.W.fnOf "first_hit" "first_hit" (defArgs s_first_hit) (defBody s_first_hit) (defScope s_first_hit) .none kV_first_hit dc_first_hit pm_first_hit an_first_hit cd_first_hit ct_first_hit), sl_first_hit⟩)
    (c_first_hit : PySem.W.codeIn K cd_first_hit "first_hit" = true) (k_first_hit : PySem.W.keepIn K (.ref f_first_hit) = true)
    (a_first_between : PySem.W.nsIn K mainGlobals "_first_between" = some (some (.ref f_first_between)))
    (l_first_between : K.lookup f_first_between = some ⟨oc_first_between, od_first_between, .func (PySem.W.fnOf "_first_between" "_first_between" (defArgs s_first_between) (defBody s_first_between) (defScope s_first_between) .none kV_first_between dc_first_between pm_first_between an_first_between cd_first_between ct_first_between), sl_first_between⟩)
    (c_first_between : PySem.W.codeIn K cd_first_between "_first_between" = true) (k_first_between : PySem.W.keepIn K (.ref f_first_between) = true)
    (a_unraised : PySem.W.nsIn K mainGlobals "unraised" = some (some (.ref f_unraised)))
    (l_unraised : K.lookup f_unraised = some ⟨oc_unraised, od_unraised, .func (PySem.W.fnOf "unraised" "unraised" (defArgs s_unraised) (defBody s_unraised) (defScope s_unraised) (.ref aU) kV_unraised dc_unraised pm_unraised an_unraised cd_unraised ct_unraised), sl_unraised⟩)
    (c_unraised : PySem.W.codeIn K cd_unraised "unraised" = true) (k_unraised : PySem.W.keepIn K (.ref f_unraised) = true)
    (a_settled : PySem.W.nsIn K mainGlobals "settled" = some (some (.ref f_settled)))
    (l_settled : K.lookup f_settled = some ⟨oc_settled, od_settled, .func (PySem.W.fnOf "settled" "settled" (defArgs s_settled) (defBody s_settled) (defScope s_settled) .none kV_settled dc_settled pm_settled an_settled cd_settled ct_settled), sl_settled⟩)
    (c_settled : PySem.W.codeIn K cd_settled "settled" = true) (k_settled : PySem.W.keepIn K (.ref f_settled) = true)
    (a_pace : PySem.W.nsIn K mainGlobals "pace" = some (some (.ref f_pace)))
    (l_pace : K.lookup f_pace = some ⟨oc_pace, od_pace, .func (PySem.W.fnOf "pace" "pace" (defArgs s_pace) (defBody s_pace) (defScope s_pace) .none kV_pace dc_pace pm_pace an_pace cd_pace ct_pace), sl_pace⟩)
    (c_pace : PySem.W.codeIn K cd_pace "pace" = true) (k_pace : PySem.W.keepIn K (.ref f_pace) = true)
    (a_creep : PySem.W.nsIn K mainGlobals "_creep" = some (some (.ref f_creep)))
    (l_creep : K.lookup f_creep = some ⟨oc_creep, od_creep, .func (PySem.W.fnOf "_creep" "_creep" (defArgs s_creep) (defBody s_creep) (defScope s_creep) .none kV_creep dc_creep pm_creep an_creep cd_creep ct_creep), sl_creep⟩)
    (c_creep : PySem.W.codeIn K cd_creep "_creep" = true) (k_creep : PySem.W.keepIn K (.ref f_creep) = true)
    (a_wide_and_narrow : PySem.W.nsIn K mainGlobals "wide_and_narrow" = some (some (.ref f_wide_and_narrow)))
    (l_wide_and_narrow : K.lookup f_wide_and_narrow = some ⟨oc_wide_and_narrow, od_wide_and_narrow, .func (PySem.W.fnOf "wide_and_narrow" "wide_and_narrow" (defArgs s_wide_and_narrow) (defBody s_wide_and_narrow) (defScope s_wide_and_narrow) .none kV_wide_and_narrow dc_wide_and_narrow pm_wide_and_narrow an_wide_and_narrow cd_wide_and_narrow ct_wide_and_narrow), sl_wide_and_narrow⟩)
    (c_wide_and_narrow : PySem.W.codeIn K cd_wide_and_narrow "wide_and_narrow" = true) (k_wide_and_narrow : PySem.W.keepIn K (.ref f_wide_and_narrow) = true)
    (a_rounds_up : PySem.W.nsIn K mainGlobals "rounds_up" = some (some (.ref f_rounds_up)))
    (l_rounds_up : K.lookup f_rounds_up = some ⟨oc_rounds_up, od_rounds_up, .func (PySem.W.fnOf "rounds_up" "rounds_up" (defArgs s_rounds_up) (defBody s_rounds_up) (defScope s_rounds_up) .none kV_rounds_up dc_rounds_up pm_rounds_up an_rounds_up cd_rounds_up ct_rounds_up), sl_rounds_up⟩)
    (c_rounds_up : PySem.W.codeIn K cd_rounds_up "rounds_up" = true) (k_rounds_up : PySem.W.keepIn K (.ref f_rounds_up) = true)
    (a_settled_on_wide : PySem.W.nsIn K mainGlobals "_settled_on_wide" = some (some (.ref f_settled_on_wide)))
    (l_settled_on_wide : K.lookup f_settled_on_wide = some ⟨oc_settled_on_wide, od_settled_on_wide, .func (PySem.W.fnOf "_settled_on_wide" "_settled_on_wide" (defArgs s_settled_on_wide) (defBody s_settled_on_wide) (defScope s_settled_on_wide) .none kV_settled_on_wide dc_settled_on_wide pm_settled_on_wide an_settled_on_wide cd_settled_on_wide ct_settled_on_wide), sl_settled_on_wide⟩)
    (c_settled_on_wide : PySem.W.codeIn K cd_settled_on_wide "_settled_on_wide" = true) (k_settled_on_wide : PySem.W.keepIn K (.ref f_settled_on_wide) = true)
    (a_settled_on_narrow : PySem.W.nsIn K mainGlobals "_settled_on_narrow" = some (some (.ref f_settled_on_narrow)))
    (l_settled_on_narrow : K.lookup f_settled_on_narrow = some ⟨oc_settled_on_narrow, od_settled_on_narrow, .func (PySem.W.fnOf "_settled_on_narrow" "_settled_on_narrow" (defArgs s_settled_on_narrow) (defBody s_settled_on_narrow) (defScope s_settled_on_narrow) .none kV_settled_on_narrow dc_settled_on_narrow pm_settled_on_narrow an_settled_on_narrow cd_settled_on_narrow ct_settled_on_narrow), sl_settled_on_narrow⟩)
    (c_settled_on_narrow : PySem.W.codeIn K cd_settled_on_narrow "_settled_on_narrow" = true) (k_settled_on_narrow : PySem.W.keepIn K (.ref f_settled_on_narrow) = true)
    (a_L_source : PySem.W.nsIn K mainGlobals "_law_source" = some (some (.ref f_L_source)))
    (l_L_source : K.lookup f_L_source = some ⟨oc_L_source, od_L_source, .func (PySem.W.fnOf "_law_source" "_law_source" (defArgs s_L_source) (defBody s_L_source) (defScope s_L_source) .none kV_L_source dc_L_source pm_L_source an_L_source cd_L_source ct_L_source), sl_L_source⟩)
    (c_L_source : PySem.W.codeIn K cd_L_source "_law_source" = true) (k_L_source : PySem.W.keepIn K (.ref f_L_source) = true)
    (a_L_draw : PySem.W.nsIn K mainGlobals "_law_draw" = some (some (.ref f_L_draw)))
    (l_L_draw : K.lookup f_L_draw = some ⟨oc_L_draw, od_L_draw, .func (PySem.W.fnOf "_law_draw" "_law_draw" (defArgs s_L_draw) (defBody s_L_draw) (defScope s_L_draw) .none kV_L_draw dc_L_draw pm_L_draw an_L_draw cd_L_draw ct_L_draw), sl_L_draw⟩)
    (c_L_draw : PySem.W.codeIn K cd_L_draw "_law_draw" = true) (k_L_draw : PySem.W.keepIn K (.ref f_L_draw) = true)
    (a_L_pick : PySem.W.nsIn K mainGlobals "_law_pick" = some (some (.ref f_L_pick)))
    (l_L_pick : K.lookup f_L_pick = some ⟨oc_L_pick, od_L_pick, .func (PySem.W.fnOf "_law_pick" "_law_pick" (defArgs s_L_pick) (defBody s_L_pick) (defScope s_L_pick) .none kV_L_pick dc_L_pick pm_L_pick an_L_pick cd_L_pick ct_L_pick), sl_L_pick⟩)
    (c_L_pick : PySem.W.codeIn K cd_L_pick "_law_pick" = true) (k_L_pick : PySem.W.keepIn K (.ref f_L_pick) = true)
    (a_L_divisor : PySem.W.nsIn K mainGlobals "_law_divisor" = some (some (.ref f_L_divisor)))
    (l_L_divisor : K.lookup f_L_divisor = some ⟨oc_L_divisor, od_L_divisor, .func (PySem.W.fnOf "_law_divisor" "_law_divisor" (defArgs s_L_divisor) (defBody s_L_divisor) (defScope s_L_divisor) .none kV_L_divisor dc_L_divisor pm_L_divisor an_L_divisor cd_L_divisor ct_L_divisor), sl_L_divisor⟩)
    (c_L_divisor : PySem.W.codeIn K cd_L_divisor "_law_divisor" = true) (k_L_divisor : PySem.W.keepIn K (.ref f_L_divisor) = true)
    (a_L_great : PySem.W.nsIn K mainGlobals "_law_great" = some (some (.ref f_L_great)))
    (l_L_great : K.lookup f_L_great = some ⟨oc_L_great, od_L_great, .func (PySem.W.fnOf "_law_great" "_law_great" (defArgs s_L_great) (defBody s_L_great) (defScope s_L_great) .none kV_L_great dc_L_great pm_L_great an_L_great cd_L_great ct_L_great), sl_L_great⟩)
    (c_L_great : PySem.W.codeIn K cd_L_great "_law_great" = true) (k_L_great : PySem.W.keepIn K (.ref f_L_great) = true)
    (a_L_small_side : PySem.W.nsIn K mainGlobals "_law_small_side" = some (some (.ref f_L_small_side)))
    (l_L_small_side : K.lookup f_L_small_side = some ⟨oc_L_small_side, od_L_small_side, .func (PySem.W.fnOf "_law_small_side" "_law_small_side" (defArgs s_L_small_side) (defBody s_L_small_side) (defScope s_L_small_side) .none kV_L_small_side dc_L_small_side pm_L_small_side an_L_small_side cd_L_small_side ct_L_small_side), sl_L_small_side⟩)
    (c_L_small_side : PySem.W.codeIn K cd_L_small_side "_law_small_side" = true) (k_L_small_side : PySem.W.keepIn K (.ref f_L_small_side) = true)
    (a_L_figure : PySem.W.nsIn K mainGlobals "_law_figure" = some (some (.ref f_L_figure)))
    (l_L_figure : K.lookup f_L_figure = some ⟨oc_L_figure, od_L_figure, .func (PySem.W.fnOf "_law_figure" "_law_figure" (defArgs s_L_figure) (defBody s_L_figure) (defScope s_L_figure) .none kV_L_figure dc_L_figure pm_L_figure an_L_figure cd_L_figure ct_L_figure), sl_L_figure⟩)
    (c_L_figure : PySem.W.codeIn K cd_L_figure "_law_figure" = true) (k_L_figure : PySem.W.keepIn K (.ref f_L_figure) = true)
    (a_L_handed : PySem.W.nsIn K mainGlobals "_law_handed" = some (some (.ref f_L_handed)))
    (l_L_handed : K.lookup f_L_handed = some ⟨oc_L_handed, od_L_handed, .func (PySem.W.fnOf "_law_handed" "_law_handed" (defArgs s_L_handed) (defBody s_L_handed) (defScope s_L_handed) .none kV_L_handed dc_L_handed pm_L_handed an_L_handed cd_L_handed ct_L_handed), sl_L_handed⟩)
    (c_L_handed : PySem.W.codeIn K cd_L_handed "_law_handed" = true) (k_L_handed : PySem.W.keepIn K (.ref f_L_handed) = true)
    (a_L_period : PySem.W.nsIn K mainGlobals "_law_period" = some (some (.ref f_L_period)))
    (l_L_period : K.lookup f_L_period = some ⟨oc_L_period, od_L_period, .func (PySem.W.fnOf "_law_period" "_law_period" (defArgs s_L_period) (defBody s_L_period) (defScope s_L_period) .none kV_L_period dc_L_period pm_L_period an_L_period cd_L_period ct_L_period), sl_L_period⟩)
    (c_L_period : PySem.W.codeIn K cd_L_period "_law_period" = true) (k_L_period : PySem.W.keepIn K (.ref f_L_period) = true)
    (a_L_trip : PySem.W.nsIn K mainGlobals "_law_trip" = some (some (.ref f_L_trip)))
    (l_L_trip : K.lookup f_L_trip = some ⟨oc_L_trip, od_L_trip, .func (PySem.W.fnOf "_law_trip" "_law_trip" (defArgs s_L_trip) (defBody s_L_trip) (defScope s_L_trip) .none kV_L_trip dc_L_trip pm_L_trip an_L_trip cd_L_trip ct_L_trip), sl_L_trip⟩)
    (c_L_trip : PySem.W.codeIn K cd_L_trip "_law_trip" = true) (k_L_trip : PySem.W.keepIn K (.ref f_L_trip) = true)
    (a_L_settled : PySem.W.nsIn K mainGlobals "_law_settled" = some (some (.ref f_L_settled)))
    (l_L_settled : K.lookup f_L_settled = some ⟨oc_L_settled, od_L_settled, .func (PySem.W.fnOf "_law_settled" "_law_settled" (defArgs s_L_settled) (defBody s_L_settled) (defScope s_L_settled) .none kV_L_settled dc_L_settled pm_L_settled an_L_settled cd_L_settled ct_L_settled), sl_L_settled⟩)
    (c_L_settled : PySem.W.codeIn K cd_L_settled "_law_settled" = true) (k_L_settled : PySem.W.keepIn K (.ref f_L_settled) = true)
    (a_L_great_side : PySem.W.nsIn K mainGlobals "_law_great_side" = some (some (.ref f_L_great_side)))
    (l_L_great_side : K.lookup f_L_great_side = some ⟨oc_L_great_side, od_L_great_side, .func (PySem.W.fnOf "_law_great_side" "_law_great_side" (defArgs s_L_great_side) (defBody s_L_great_side) (defScope s_L_great_side) .none kV_L_great_side dc_L_great_side pm_L_great_side an_L_great_side cd_L_great_side ct_L_great_side), sl_L_great_side⟩)
    (c_L_great_side : PySem.W.codeIn K cd_L_great_side "_law_great_side" = true) (k_L_great_side : PySem.W.keepIn K (.ref f_L_great_side) = true)
    (a_L_times : PySem.W.nsIn K mainGlobals "_law_times" = some (some (.ref f_L_times)))
    (l_L_times : K.lookup f_L_times = some ⟨oc_L_times, od_L_times, .func (PySem.W.fnOf "_law_times" "_law_times" (defArgs s_L_times) (defBody s_L_times) (defScope s_L_times) .none kV_L_times dc_L_times pm_L_times an_L_times cd_L_times ct_L_times), sl_L_times⟩)
    (c_L_times : PySem.W.codeIn K cd_L_times "_law_times" = true) (k_L_times : PySem.W.keepIn K (.ref f_L_times) = true)
    (a_L_lift_fits : PySem.W.nsIn K mainGlobals "_law_lift_fits" = some (some (.ref f_L_lift_fits)))
    (l_L_lift_fits : K.lookup f_L_lift_fits = some ⟨oc_L_lift_fits, od_L_lift_fits, .func (PySem.W.fnOf "_law_lift_fits" "_law_lift_fits" (defArgs s_L_lift_fits) (defBody s_L_lift_fits) (defScope s_L_lift_fits) .none kV_L_lift_fits dc_L_lift_fits pm_L_lift_fits an_L_lift_fits cd_L_lift_fits ct_L_lift_fits), sl_L_lift_fits⟩)
    (c_L_lift_fits : PySem.W.codeIn K cd_L_lift_fits "_law_lift_fits" = true) (k_L_lift_fits : PySem.W.keepIn K (.ref f_L_lift_fits) = true)
    (a_L_between_fits : PySem.W.nsIn K mainGlobals "_law_between_fits" = some (some (.ref f_L_between_fits)))
    (l_L_between_fits : K.lookup f_L_between_fits = some ⟨oc_L_between_fits, od_L_between_fits, .func (PySem.W.fnOf "_law_between_fits" "_law_between_fits" (defArgs s_L_between_fits) (defBody s_L_between_fits) (defScope s_L_between_fits) .none kV_L_between_fits dc_L_between_fits pm_L_between_fits an_L_between_fits cd_L_between_fits ct_L_between_fits), sl_L_between_fits⟩)
    (c_L_between_fits : PySem.W.codeIn K cd_L_between_fits "_law_between_fits" = true) (k_L_between_fits : PySem.W.keepIn K (.ref f_L_between_fits) = true)
    (a_L_down_fits : PySem.W.nsIn K mainGlobals "_law_down_fits" = some (some (.ref f_L_down_fits)))
    (l_L_down_fits : K.lookup f_L_down_fits = some ⟨oc_L_down_fits, od_L_down_fits, .func (PySem.W.fnOf "_law_down_fits" "_law_down_fits" (defArgs s_L_down_fits) (defBody s_L_down_fits) (defScope s_L_down_fits) .none kV_L_down_fits dc_L_down_fits pm_L_down_fits an_L_down_fits cd_L_down_fits ct_L_down_fits), sl_L_down_fits⟩)
    (c_L_down_fits : PySem.W.codeIn K cd_L_down_fits "_law_down_fits" = true) (k_L_down_fits : PySem.W.keepIn K (.ref f_L_down_fits) = true)
    (a_L_great_fits : PySem.W.nsIn K mainGlobals "_law_great_fits" = some (some (.ref f_L_great_fits)))
    (l_L_great_fits : K.lookup f_L_great_fits = some ⟨oc_L_great_fits, od_L_great_fits, .func (PySem.W.fnOf "_law_great_fits" "_law_great_fits" (defArgs s_L_great_fits) (defBody s_L_great_fits) (defScope s_L_great_fits) .none kV_L_great_fits dc_L_great_fits pm_L_great_fits an_L_great_fits cd_L_great_fits ct_L_great_fits), sl_L_great_fits⟩)
    (c_L_great_fits : PySem.W.codeIn K cd_L_great_fits "_law_great_fits" = true) (k_L_great_fits : PySem.W.keepIn K (.ref f_L_great_fits) = true)
    (a_law : PySem.W.nsIn K mainGlobals "law" = some (some (.ref f_law)))
    (l_law : K.lookup f_law = some ⟨oc_law, od_law, .func (PySem.W.fnOf "law" "law" (defArgs s_law) (defBody s_law) (defScope s_law) .none kV_law dc_law pm_law an_law cd_law ct_law), sl_law⟩)
    (c_law : PySem.W.codeIn K cd_law "law" = true) (k_law : PySem.W.keepIn K (.ref f_law) = true)
    (z_len : PySem.W.nsIn K mainGlobals "len" = some none)
    (z_abs : PySem.W.nsIn K mainGlobals "abs" = some none)
    (z_int : PySem.W.nsIn K mainGlobals "int" = some none)
    (z_range : PySem.W.nsIn K mainGlobals "range" = some none)
    (z_isinstance : PySem.W.nsIn K mainGlobals "isinstance" = some none)
    (z_bool : PySem.W.nsIn K mainGlobals "bool" = some none)
    (z_tuple : PySem.W.nsIn K mainGlobals "tuple" = some none)
    (z_divmod : PySem.W.nsIn K mainGlobals "divmod" = some none)
    (z_max : PySem.W.nsIn K mainGlobals "max" = some none)
    (z_min : PySem.W.nsIn K mainGlobals "min" = some none)
    (l_U : K.lookup aU = some ⟨.type "tuple", odU, .seq itsU nU, slU⟩)
    (v_U : Vals [V.int 1] itsU.toList)
    (a_MODES : PySem.W.nsIn K mainGlobals "MODES" = some (some (.ref aM)))
    (l_MODES : K.lookup aM = some ⟨.type "tuple", odM, .seq itsM nM, slM⟩)
    (v_MODES : itsM.size ≤ sizeLine ∧ Vals modesV itsM.toList)
    (a_MIR : PySem.W.nsIn K mainGlobals "MIRRORED" = some (some (.ref aR)))
    (l_MIR : K.lookup aR = some ⟨.type "dict", none, .dict esR nR, #[]⟩)
    (h_MIR : PySem.W.KeysLit w.params esR.toList)
    (d_down : PySem.W.nsIn K aR "down" = some (some u_down)) (r_down : RelV (.str "up") u_down)
    (d_up : PySem.W.nsIn K aR "up" = some (some u_up)) (r_up : RelV (.str "down") u_up)
    (d_half_down : PySem.W.nsIn K aR "half_down" = some (some u_half_down)) (r_half_down : RelV (.str "half_up") u_half_down)
    (d_half_up : PySem.W.nsIn K aR "half_up" = some (some u_half_up)) (r_half_up : RelV (.str "half_down") u_half_up)
    (d_half_even : PySem.W.nsIn K aR "half_even" = some (some u_half_even)) (r_half_even : RelV (.str "half_even") u_half_even) :
    ∃ fd : FuncData, (∀ (s : Shared) (v : Value), BindsTo s fd ⟨[v], []⟩ [("_law_script", v)]) ∧ ∀ base : Heap, K.In base → base.Ns mainGlobals mg → FnOk l.prog w K mg base CX0 110 fa fd ["_law_script"] (spLaw K) := by
  have e := hfa.symm.trans (PySem.W.mg_of X G a_law)
  cases e
  have F_is_int := fun_mk (st := s_is_int) l_is_int c_is_int k_is_int
  have b_is_int := F_is_int.binds (ps := ["thing"]) fun _ _ _ _ _ _ us hl => match us, hl with | [_], _ => rfl
  have m_is_int := PySem.W.mg_of X G a_is_int
  have F_is_int_between := fun_mk (st := s_is_int_between) l_is_int_between c_is_int_between k_is_int_between
  have b_is_int_between := F_is_int_between.binds (ps := ["thing", "least", "most"]) fun _ _ _ _ _ _ us hl => match us, hl with | [_, _, _], _ => rfl
  have m_is_int_between := PySem.W.mg_of X G a_is_int_between
  have F_check_value := fun_mk (st := s_check_value) l_check_value c_check_value k_check_value
  have b_check_value := F_check_value.binds (ps := ["value"]) fun _ _ _ _ _ _ us hl => match us, hl with | [_], _ => rfl
  have m_check_value := PySem.W.mg_of X G a_check_value
  have F_check_side := fun_mk (st := s_check_side) l_check_side c_check_side k_check_side
  have b_check_side := F_check_side.binds (ps := ["side"]) fun _ _ _ _ _ _ us hl => match us, hl with | [_], _ => rfl
  have m_check_side := PySem.W.mg_of X G a_check_side
  have F_figure := fun_mk (st := s_figure) l_figure c_figure k_figure
  have b_figure := F_figure.binds (ps := ["side", "value"]) fun _ _ _ _ _ _ us hl => match us, hl with | [_, _], _ => rfl
  have m_figure := PySem.W.mg_of X G a_figure
  have F_goes_up := fun_mk (st := s_goes_up) l_goes_up c_goes_up k_goes_up
  have b_goes_up := F_goes_up.binds (ps := ["mode", "step", "figure", "rest"]) fun _ _ _ _ _ _ us hl => match us, hl with | [_, _, _, _], _ => rfl
  have m_goes_up := PySem.W.mg_of X G a_goes_up
  have F_written := fun_mk (st := s_written) l_written c_written k_written
  have b_written := F_written.binds (ps := ["side", "value"]) fun _ _ _ _ _ _ us hl => match us, hl with | [_, _], _ => rfl
  have m_written := PySem.W.mg_of X G a_written
  have F_span := fun_mk (st := s_span) l_span c_span k_span
  have b_span := F_span.binds (ps := ["side", "figure"]) fun _ _ _ _ _ _ us hl => match us, hl with | [_, _], _ => rfl
  have m_span := PySem.W.mg_of X G a_span
  have F_uspan := fun_mk (st := s_uspan) l_uspan c_uspan k_uspan
  have b_uspan := F_uspan.binds (ps := ["side", "figure"]) fun _ _ _ _ _ _ us hl => match us, hl with | [_, _], _ => rfl
  have m_uspan := PySem.W.mg_of X G a_uspan
  have F_below := fun_mk (st := s_below) l_below c_below k_below
  have b_below := F_below.binds (ps := ["mode", "step", "figure"]) fun _ _ _ _ _ _ us hl => match us, hl with | [_, _, _], _ => rfl
  have m_below := PySem.W.mg_of X G a_below
  have F_threshold := fun_mk (st := s_threshold) l_threshold c_threshold k_threshold
  have b_threshold := F_threshold.binds (ps := ["side", "value"]) fun _ _ _ _ _ _ us hl => match us, hl with | [_, _], _ => rfl
  have m_threshold := PySem.W.mg_of X G a_threshold
  have F_mirror := fun_mk (st := s_mirror) l_mirror c_mirror k_mirror
  have b_mirror := F_mirror.binds (ps := ["side"]) fun _ _ _ _ _ _ us hl => match us, hl with | [_], _ => rfl
  have m_mirror := PySem.W.mg_of X G a_mirror
  have F_period_of := fun_mk (st := s_period_of) l_period_of c_period_of k_period_of
  have b_period_of := F_period_of.binds (ps := ["side"]) fun _ _ _ _ _ _ us hl => match us, hl with | [_], _ => rfl
  have m_period_of := PySem.W.mg_of X G a_period_of
  have F_first_hit := fun_mk (st := s_first_hit) l_first_hit c_first_hit k_first_hit
  have b_first_hit := F_first_hit.binds (ps := ["start", "step", "most", "modulus"]) fun _ _ _ _ _ _ us hl => match us, hl with | [_, _, _, _], _ => rfl
  have m_first_hit := PySem.W.mg_of X G a_first_hit
  have F_first_between := fun_mk (st := s_first_between) l_first_between c_first_between k_first_between
  have b_first_between := F_first_between.binds (ps := ["step", "least", "greatest", "modulus"]) fun _ _ _ _ _ _ us hl => match us, hl with | [_, _, _, _], _ => rfl
  have m_first_between := PySem.W.mg_of X G a_first_between
  have m_unraised := PySem.W.mg_of X G a_unraised
  have F_settled := fun_mk (st := s_settled) l_settled c_settled k_settled
  have b_settled := F_settled.binds (ps := ["first", "second", "value"]) fun _ _ _ _ _ _ us hl => match us, hl with | [_, _, _], _ => rfl
  have m_settled := PySem.W.mg_of X G a_settled
  have F_pace := fun_mk (st := s_pace) l_pace c_pace k_pace
  have b_pace := F_pace.binds (ps := ["first", "second"]) fun _ _ _ _ _ _ us hl => match us, hl with | [_, _], _ => rfl
  have m_pace := PySem.W.mg_of X G a_pace
  have F_creep := fun_mk (st := s_creep) l_creep c_creep k_creep
  have b_creep := F_creep.binds (ps := ["first", "second"]) fun _ _ _ _ _ _ us hl => match us, hl with | [_, _], _ => rfl
  have m_creep := PySem.W.mg_of X G a_creep
  have F_wide_and_narrow := fun_mk (st := s_wide_and_narrow) l_wide_and_narrow c_wide_and_narrow k_wide_and_narrow
  have b_wide_and_narrow := F_wide_and_narrow.binds (ps := ["first", "second"]) fun _ _ _ _ _ _ us hl => match us, hl with | [_, _], _ => rfl
  have m_wide_and_narrow := PySem.W.mg_of X G a_wide_and_narrow
  have F_rounds_up := fun_mk (st := s_rounds_up) l_rounds_up c_rounds_up k_rounds_up
  have b_rounds_up := F_rounds_up.binds (ps := ["wide", "narrow", "value"]) fun _ _ _ _ _ _ us hl => match us, hl with | [_, _, _], _ => rfl
  have m_rounds_up := PySem.W.mg_of X G a_rounds_up
  have F_settled_on_wide := fun_mk (st := s_settled_on_wide) l_settled_on_wide c_settled_on_wide k_settled_on_wide
  have b_settled_on_wide := F_settled_on_wide.binds (ps := ["wide", "narrow", "value"]) fun _ _ _ _ _ _ us hl => match us, hl with | [_, _, _], _ => rfl
  have m_settled_on_wide := PySem.W.mg_of X G a_settled_on_wide
  have F_settled_on_narrow := fun_mk (st := s_settled_on_narrow) l_settled_on_narrow c_settled_on_narrow k_settled_on_narrow
  have b_settled_on_narrow := F_settled_on_narrow.binds (ps := ["narrow", "wide", "value"]) fun _ _ _ _ _ _ us hl => match us, hl with | [_, _, _], _ => rfl
  have m_settled_on_narrow := PySem.W.mg_of X G a_settled_on_narrow
  have F_L_source := fun_mk (st := s_L_source) l_L_source c_L_source k_L_source
  have b_L_source := F_L_source.binds (ps := ["_law_script"]) fun _ _ _ _ _ _ us hl => match us, hl with | [_], _ => rfl
  have m_L_source := PySem.W.mg_of X G a_L_source
  have F_L_draw := fun_mk (st := s_L_draw) l_L_draw c_L_draw k_L_draw
  have b_L_draw := F_L_draw.binds (ps := ["_law_source_here", "_law_limit"]) fun _ _ _ _ _ _ us hl => match us, hl with | [_, _], _ => rfl
  have m_L_draw := PySem.W.mg_of X G a_L_draw
  have F_L_pick := fun_mk (st := s_L_pick) l_L_pick c_L_pick k_L_pick
  have b_L_pick := F_L_pick.binds (ps := ["_law_source_here", "_law_values"]) fun _ _ _ _ _ _ us hl => match us, hl with | [_, _], _ => rfl
  have m_L_pick := PySem.W.mg_of X G a_L_pick
  have F_L_divisor := fun_mk (st := s_L_divisor) l_L_divisor c_L_divisor k_L_divisor
  have b_L_divisor := F_L_divisor.binds (ps := ["_law_one", "_law_other"]) fun _ _ _ _ _ _ us hl => match us, hl with | [_, _], _ => rfl
  have m_L_divisor := PySem.W.mg_of X G a_L_divisor
  have F_L_great := fun_mk (st := s_L_great) l_L_great c_L_great k_L_great
  have b_L_great := F_L_great.binds (ps := ["_law_source_here", "_law_digits"]) fun _ _ _ _ _ _ us hl => match us, hl with | [_, _], _ => rfl
  have m_L_great := PySem.W.mg_of X G a_L_great
  have F_L_small_side := fun_mk (st := s_L_small_side) l_L_small_side c_L_small_side k_L_small_side
  have b_L_small_side := F_L_small_side.binds (ps := ["_law_source_here", "_law_most"]) fun _ _ _ _ _ _ us hl => match us, hl with | [_, _], _ => rfl
  have m_L_small_side := PySem.W.mg_of X G a_L_small_side
  have F_L_figure := fun_mk (st := s_L_figure) l_L_figure c_L_figure k_L_figure
  have b_L_figure := F_L_figure.binds (ps := ["_law_side", "_law_value"]) fun _ _ _ _ _ _ us hl => match us, hl with | [_, _], _ => rfl
  have m_L_figure := PySem.W.mg_of X G a_L_figure
  have F_L_handed := fun_mk (st := s_L_handed) l_L_handed c_L_handed k_L_handed
  have b_L_handed := F_L_handed.binds (ps := ["_law_side", "_law_value"]) fun _ _ _ _ _ _ us hl => match us, hl with | [_, _], _ => rfl
  have m_L_handed := PySem.W.mg_of X G a_L_handed
  have F_L_period := fun_mk (st := s_L_period) l_L_period c_L_period k_L_period
  have b_L_period := F_L_period.binds (ps := ["_law_sides"]) fun _ _ _ _ _ _ us hl => match us, hl with | [_], _ => rfl
  have m_L_period := PySem.W.mg_of X G a_L_period
  have F_L_trip := fun_mk (st := s_L_trip) l_L_trip c_L_trip k_L_trip
  have b_L_trip := F_L_trip.binds (ps := ["_law_first", "_law_second", "_law_value"]) fun _ _ _ _ _ _ us hl => match us, hl with | [_, _, _], _ => rfl
  have m_L_trip := PySem.W.mg_of X G a_L_trip
  have F_L_settled := fun_mk (st := s_L_settled) l_L_settled c_L_settled k_L_settled
  have b_L_settled := F_L_settled.binds (ps := ["_law_first", "_law_second", "_law_value"]) fun _ _ _ _ _ _ us hl => match us, hl with | [_, _, _], _ => rfl
  have m_L_settled := PySem.W.mg_of X G a_L_settled
  have F_L_great_side := fun_mk (st := s_L_great_side) l_L_great_side c_L_great_side k_L_great_side
  have b_L_great_side := F_L_great_side.binds (ps := ["_law_source_here"]) fun _ _ _ _ _ _ us hl => match us, hl with | [_], _ => rfl
  have m_L_great_side := PySem.W.mg_of X G a_L_great_side
  have F_L_times := fun_mk (st := s_L_times) l_L_times c_L_times k_L_times
  have b_L_times := F_L_times.binds (ps := ["_law_side", "_law_factor"]) fun _ _ _ _ _ _ us hl => match us, hl with | [_, _], _ => rfl
  have m_L_times := PySem.W.mg_of X G a_L_times
  have F_L_lift_fits := fun_mk (st := s_L_lift_fits) l_L_lift_fits c_L_lift_fits k_L_lift_fits
  have b_L_lift_fits := F_L_lift_fits.binds (ps := ["_law_source_here", "_law_first", "_law_second"]) fun _ _ _ _ _ _ us hl => match us, hl with | [_, _, _], _ => rfl
  have m_L_lift_fits := PySem.W.mg_of X G a_L_lift_fits
  have F_L_between_fits := fun_mk (st := s_L_between_fits) l_L_between_fits c_L_between_fits k_L_between_fits
  have b_L_between_fits := F_L_between_fits.binds (ps := ["_law_source_here", "_law_first", "_law_second", "_law_low", "_law_high"]) fun _ _ _ _ _ _ us hl => match us, hl with | [_, _, _, _, _], _ => rfl
  have m_L_between_fits := PySem.W.mg_of X G a_L_between_fits
  have F_L_down_fits := fun_mk (st := s_L_down_fits) l_L_down_fits c_L_down_fits k_L_down_fits
  have b_L_down_fits := F_L_down_fits.binds (ps := ["_law_source_here", "_law_first", "_law_second", "_law_low", "_law_high"]) fun _ _ _ _ _ _ us hl => match us, hl with | [_, _, _, _, _], _ => rfl
  have m_L_down_fits := PySem.W.mg_of X G a_L_down_fits
  have F_L_great_fits := fun_mk (st := s_L_great_fits) l_L_great_fits c_L_great_fits k_L_great_fits
  have b_L_great_fits := F_L_great_fits.binds (ps := ["_law_source_here", "_law_first", "_law_second", "_law_value"]) fun _ _ _ _ _ _ us hl => match us, hl with | [_, _, _, _], _ => rfl
  have m_L_great_fits := PySem.W.mg_of X G a_L_great_fits
  have F_law := fun_mk (st := s_law) l_law c_law k_law
  have b_law := F_law.binds (ps := ["_law_script"]) fun _ _ _ _ _ _ us hl => match us, hl with | [_], _ => rfl
  have m_law := PySem.W.mg_of X G a_law
  have n_len := PySem.W.mg_none_of X G z_len
  have n_abs := PySem.W.mg_none_of X G z_abs
  have n_int := PySem.W.mg_none_of X G z_int
  have n_range := PySem.W.mg_none_of X G z_range
  have n_isinstance := PySem.W.mg_none_of X G z_isinstance
  have n_bool := PySem.W.mg_none_of X G z_bool
  have n_tuple := PySem.W.mg_none_of X G z_tuple
  have n_divmod := PySem.W.mg_none_of X G z_divmod
  have n_max := PySem.W.mg_none_of X G z_max
  have n_min := PySem.W.mg_none_of X G z_min
  have BL : Blt mg := ⟨n_len, n_abs, n_int, n_range⟩
  have T : SideT K mg aM := ⟨n_isinstance, n_int, n_bool, n_tuple, n_len, n_divmod, PySem.W.mg_of X G a_MODES, fun _ => .inr ⟨_, _, _, l_MODES, rfl, rfl, v_MODES.1, v_MODES.2⟩⟩
  have RT : MirT K w mg aR := ⟨PySem.W.mg_of X G a_MIR, fun m hm => by
    rcases hm with e | e | e | e | e <;> subst e
    · rw [mir_d]; exact ⟨_, _, _, l_MIR, h_MIR, d_down, r_down⟩
    · rw [mir_u]; exact ⟨_, _, _, l_MIR, h_MIR, d_up, r_up⟩
    · rw [mir_hd]; exact ⟨_, _, _, l_MIR, h_MIR, d_half_down, r_half_down⟩
    · rw [mir_hu]; exact ⟨_, _, _, l_MIR, h_MIR, d_half_up, r_half_up⟩
    · rw [mir_he]; exact ⟨_, _, _, l_MIR, h_MIR, d_half_even, r_half_even⟩⟩
  have MX : MaxT mg := ⟨n_max, n_min⟩
  have D_unraised : FunD K "unraised" "unraised" (defArgs s_unraised) (defBody s_unraised) (defScope s_unraised) [.int 1] [] f_unraised _ := ⟨⟨_, _, _, _, _, _, _, _, _, _, rfl, l_unraised, c_unraised, .inr ⟨(fun z => nomatch z), aU, _, itsU.toList, nU, rfl, l_U, rfl, v_U⟩, .inl rfl⟩, k_unraised⟩
  have bd_unraised := D_unraised.binds1 (ps := ["side", "least"]) 2 1 (fun z => nomatch z) rfl (fun T kV doc pm an cdv ct us its h1 h2 => match us, its, h1, h2 with | [_, _], [_], _, _ => ⟨_, rfl, rfl⟩)
  obtain ⟨ds_u, vz_u, b_unraised⟩ := bd_unraised
  have ez_u : ds_u = [] := by cases (show Vals [] ds_u from vz_u); rfl
  subst ez_u
  refine ⟨PySem.W.fnOf "law" "law" (defArgs s_law) (defBody s_law) (defScope s_law) .none kV_law dc_law pm_law an_law cd_law ct_law, fun s v => .of_eq rfl, fun base _ _ => ?_⟩
  have C_is_int : Cal l.prog w K mg base "is_int" 1 ["thing"] spIsInt f_is_int _ := ⟨ok_is_int F_is_int T, m_is_int, k_is_int, b_is_int⟩
  have C_is_int_between : Cal l.prog w K mg base "is_int_between" 2 ["thing", "least", "most"] spBetween f_is_int_between _ := ⟨ok_between F_is_int_between C_is_int, m_is_int_between, k_is_int_between, b_is_int_between⟩
  have C_check_value : Cal l.prog w K mg base "check_value" 2 ["value"] spCheckValue f_check_value _ := ⟨ok_check_value F_check_value C_is_int, m_check_value, k_check_value, b_check_value⟩
  have C_check_side : Cal l.prog w K mg base "check_side" 3 ["side"] spCheckSide f_check_side _ := ⟨ok_check_side F_check_side T C_is_int_between, m_check_side, k_check_side, b_check_side⟩
  have C_goes_up : Cal l.prog w K mg base "_goes_up" 1 ["mode", "step", "figure", "rest"] spGo f_goes_up _ := ⟨ok_goes_up F_goes_up, m_goes_up, k_goes_up, b_goes_up⟩
  have C_figure : Cal l.prog w K mg base "_figure" 2 ["side", "value"] spFig f_figure _ := ⟨ok_figure F_figure T C_goes_up, m_figure, k_figure, b_figure⟩
  have C_written : Cal l.prog w K mg base "written" 3 ["side", "value"] spDue f_written _ := ⟨ok_written F_written C_figure, m_written, k_written, b_written⟩
  have C_below : Cal l.prog w K mg base "_below" 1 ["mode", "step", "figure"] spBelow f_below _ := ⟨ok_below F_below, m_below, k_below, b_below⟩
  have C_uspan : Cal l.prog w K mg base "_span" 2 ["side", "figure"] spSpan f_uspan _ := ⟨ok_uspan F_uspan RT C_below, m_uspan, k_uspan, b_uspan⟩
  have C_span : Cal l.prog w K mg base "span" 4 ["side", "figure"] spSpan f_span _ := ⟨ok_span F_span C_check_side C_check_value C_uspan, m_span, k_span, b_span⟩
  have C_threshold : Cal l.prog w K mg base "threshold" 3 ["side", "value"] spBack f_threshold _ := ⟨ok_threshold F_threshold C_below, m_threshold, k_threshold, b_threshold⟩
  have C_mirror : Cal l.prog w K mg base "mirror" 4 ["side"] spMirror f_mirror _ := ⟨ok_mirror F_mirror RT C_check_side, m_mirror, k_mirror, b_mirror⟩
  have C_period_of : Cal l.prog w K mg base "period_of" 1 ["side"] spPerOf f_period_of _ := ⟨ok_per F_period_of, m_period_of, k_period_of, b_period_of⟩
  have C_first_between : ∀ n, n ≤ 200 → Cal l.prog w K mg base "_first_between" (n + 1) ["step", "least", "greatest", "modulus"] (spFB n) f_first_between _ := fun n hn => ⟨ok_fb F_first_between m_first_between k_first_between b_first_between n hn, m_first_between, k_first_between, b_first_between⟩
  have C_first_hit : Cal l.prog w K mg base "first_hit" 104 ["start", "step", "most", "modulus"] spFH f_first_hit _ := ⟨ok_hit F_first_hit (C_first_between 102 (by decide)), m_first_hit, k_first_hit, b_first_hit⟩
  have C_unraised : Cal l.prog w K mg base "unraised" 5 ["side", "least"] spUnrL f_unraised _ := ⟨ok_unrL D_unraised BL MX C_period_of C_span, m_unraised, k_unraised, b_unraised⟩
  have C_wide_and_narrow : Cal l.prog w K mg base "wide_and_narrow" 1 ["first", "second"] spWN f_wide_and_narrow _ := ⟨ok_wn F_wide_and_narrow, m_wide_and_narrow, k_wide_and_narrow, b_wide_and_narrow⟩
  have C_rounds_up : Cal l.prog w K mg base "rounds_up" 105 ["wide", "narrow", "value"] spRU f_rounds_up _ := ⟨ok_ru F_rounds_up BL MX C_period_of C_threshold C_unraised C_first_hit, m_rounds_up, k_rounds_up, b_rounds_up⟩
  have C_creep : Cal l.prog w K mg base "_creep" 106 ["first", "second"] spCreep f_creep _ := ⟨ok_creep F_creep C_wide_and_narrow C_rounds_up C_mirror, m_creep, k_creep, b_creep⟩
  have C_settled_on_wide : Cal l.prog w K mg base "_settled_on_wide" 106 ["wide", "narrow", "value"] spSW f_settled_on_wide _ := ⟨ok_sw F_settled_on_wide C_rounds_up C_mirror C_written, m_settled_on_wide, k_settled_on_wide, b_settled_on_wide⟩
  have C_settled_on_narrow : Cal l.prog w K mg base "_settled_on_narrow" 107 ["narrow", "wide", "value"] spSN f_settled_on_narrow _ := ⟨ok_sn F_settled_on_narrow C_settled_on_wide C_written, m_settled_on_narrow, k_settled_on_narrow, b_settled_on_narrow⟩
  have C_settled : Cal l.prog w K mg base "settled" 108 ["first", "second", "value"] spSettled f_settled _ := ⟨ok_settled F_settled C_check_side C_check_value C_creep C_settled_on_wide C_settled_on_narrow C_written, m_settled, k_settled, b_settled⟩
  have C_pace : Cal l.prog w K mg base "pace" 107 ["first", "second"] spCreep f_pace _ := ⟨ok_pace F_pace C_check_side C_creep, m_pace, k_pace, b_pace⟩
  have C_L_source : Cal l.prog w K mg base "_law_source" 1 ["_law_script"] (spSource K) f_L_source _ := ⟨ok_source F_L_source BL, m_L_source, k_L_source, b_L_source⟩
  have C_L_draw : Cal l.prog w K mg base "_law_draw" 1 ["_law_source_here", "_law_limit"] spDraw f_L_draw _ := ⟨ok_draw F_L_draw BL, m_L_draw, k_L_draw, b_L_draw⟩
  have C_L_pick : Cal l.prog w K mg base "_law_pick" 2 ["_law_source_here", "_law_values"] spPick f_L_pick _ := ⟨ok_pick F_L_pick BL C_L_draw, m_L_pick, k_L_pick, b_L_pick⟩
  have C_L_divisor : Cal l.prog w K mg base "_law_divisor" 1 ["_law_one", "_law_other"] spDiv f_L_divisor _ := ⟨ok_div F_L_divisor BL, m_L_divisor, k_L_divisor, b_L_divisor⟩
  have C_L_great : Cal l.prog w K mg base "_law_great" 2 ["_law_source_here", "_law_digits"] spGreat f_L_great _ := ⟨ok_great F_L_great BL C_L_draw, m_L_great, k_L_great, b_L_great⟩
  have C_L_small_side : Cal l.prog w K mg base "_law_small_side" 3 ["_law_source_here", "_law_most"] spSmall f_L_small_side _ := ⟨ok_small F_L_small_side C_L_draw C_L_pick, m_L_small_side, k_L_small_side, b_L_small_side⟩
  have C_L_figure : Cal l.prog w K mg base "_law_figure" 1 ["_law_side", "_law_value"] spFig f_L_figure _ := ⟨ok_L_figure F_L_figure BL, m_L_figure, k_L_figure, b_L_figure⟩
  have C_L_handed : Cal l.prog w K mg base "_law_handed" 2 ["_law_side", "_law_value"] spDue f_L_handed _ := ⟨ok_L_handed F_L_handed C_L_figure, m_L_handed, k_L_handed, b_L_handed⟩
  have C_L_period : Cal l.prog w K mg base "_law_period" 2 ["_law_sides"] spPer f_L_period _ := ⟨ok_period F_L_period BL C_L_divisor, m_L_period, k_L_period, b_L_period⟩
  have C_L_trip : Cal l.prog w K mg base "_law_trip" 3 ["_law_first", "_law_second", "_law_value"] spTrip f_L_trip _ := ⟨ok_trip F_L_trip C_L_handed, m_L_trip, k_L_trip, b_L_trip⟩
  have C_L_settled : Cal l.prog w K mg base "_law_settled" 4 ["_law_first", "_law_second", "_law_value"] spLS f_L_settled _ := ⟨ok_lset F_L_settled BL C_L_handed C_L_period C_L_trip, m_L_settled, k_L_settled, b_L_settled⟩
  have C_L_great_side : Cal l.prog w K mg base "_law_great_side" 3 ["_law_source_here"] spGS f_L_great_side _ := ⟨ok_gs F_L_great_side C_L_draw C_L_pick C_L_great, m_L_great_side, k_L_great_side, b_L_great_side⟩
  have C_L_times : Cal l.prog w K mg base "_law_times" 1 ["_law_side", "_law_factor"] spTimes f_L_times _ := ⟨ok_times F_L_times, m_L_times, k_L_times, b_L_times⟩
  have C_L_lift_fits : Cal l.prog w K mg base "_law_lift_fits" 109 ["_law_source_here", "_law_first", "_law_second"] spLift f_L_lift_fits _ := ⟨ok_lift F_L_lift_fits BL C_L_great C_L_times C_L_draw C_L_settled C_settled C_pace, m_L_lift_fits, k_L_lift_fits, b_L_lift_fits⟩
  have C_L_between_fits : Cal l.prog w K mg base "_law_between_fits" 4 ["_law_source_here", "_law_first", "_law_second", "_law_low", "_law_high"] (spBet true) f_L_between_fits _ := ⟨ok_bet F_L_between_fits BL C_L_great C_L_trip, m_L_between_fits, k_L_between_fits, b_L_between_fits⟩
  have C_L_down_fits : Cal l.prog w K mg base "_law_down_fits" 4 ["_law_source_here", "_law_first", "_law_second", "_law_low", "_law_high"] (spBet false) f_L_down_fits _ := ⟨ok_dwn F_L_down_fits BL C_L_great C_L_trip, m_L_down_fits, k_L_down_fits, b_L_down_fits⟩
  have C_L_great_fits : Cal l.prog w K mg base "_law_great_fits" 109 ["_law_source_here", "_law_first", "_law_second", "_law_value"] spGF f_L_great_fits _ := ⟨ok_gf F_L_great_fits BL MX C_L_great C_L_trip C_L_handed C_settled C_pace C_L_between_fits C_L_down_fits, m_L_great_fits, k_L_great_fits, b_L_great_fits⟩
  exact ok_law F_law BL C_L_source C_L_great C_L_pick C_L_small_side C_L_great_side C_L_lift_fits C_L_great_fits
theorem walk {l : PySem.W.OpenLaw} {q : Program} {loose : List Str} {XP : (Str → Option Value) → Heap → Prop} {YP : World → Heap → Prop} {d : DefRec} {K : Params → PySem.W.Frag} (hn : l.most = some 63) (hdf : d.params.defaults = [])
    (hY : ∀ (w : World) (h : Heap), YP w h → (K w.params).In h)
    (F : ∀ (w : World) (mg : Str → Option Value) (fa : Addr) (h : Heap), (K w.params).In h → h.Ns mainGlobals mg → mg d.name = some (.ref fa) →
      ∃ fd : FuncData, (∀ (s : Shared) (u : Value), BindsTo s fd ⟨[u], []⟩ [("_law_script", u)]) ∧ ∀ base : Heap, (K w.params).In base → base.Ns mainGlobals mg → FnOk l.prog w (K w.params) mg base CX0 110 fa fd ["_law_script"] (spLaw (K w.params))) :
    PySem.W.WalkO q loose XP YP l.row.toRowW d [] (fun f vs => PySem.call f vs) :=
  L2.walk_of (n := 63) (k := 110) (x := "_law_script") (CX := fun _ => CX0) (sp := fun w => spLaw (K w.params)) hn (by decide) hdf ⟨rfl, by decide, by decide⟩ hY F (fun _ _ a ns hl _ hS => ⟨a, ns, rfl, hS, hl, fun _ => rfl⟩) fun _ _ _ _ _ z => z
end HT
open PySem PySem.W PyProof.Rows
set_option maxRecDepth 100000 in
set_option maxHeartbeats 0 in
theorem PySem.Challenge.cw_handedtext_k51_whole_great_ways_back_holds : PySem.Challenge.rw_handedtext_k51_whole_great_ways_back.Holds := by
  w_on; o_law; k_head; (case hw => w_witness2)
  k_fill
  refine HT.walk (l := PySem.Challenge.rw_handedtext_k51_whole_great_ways_back) rfl rfl (fun w h Y => PySem.W.kIn_of Y) ?F
  case F =>
    intro w mg fa h KX G hmg
    refine' HT.all_mk KX G hmg ?a_is_int ?l_is_int ?c_is_int ?k_is_int ?a_is_int_between ?l_is_int_between ?c_is_int_between ?k_is_int_between ?a_check_value ?l_check_value ?c_check_value ?k_check_value ?a_check_side ?l_check_side ?c_check_side ?k_check_side ?a_figure ?l_figure ?c_figure ?k_figure ?a_goes_up ?l_goes_up ?c_goes_up ?k_goes_up ?a_written ?l_written ?c_written ?k_written ?a_span ?l_span ?c_span ?k_span ?a_uspan ?l_uspan ?c_uspan ?k_uspan ?a_below ?l_below ?c_below ?k_below ?a_threshold ?l_threshold ?c_threshold ?k_threshold ?a_mirror ?l_mirror ?c_mirror ?k_mirror ?a_period_of ?l_period_of ?c_period_of ?k_period_of ?a_first_hit ?l_first_hit ?c_first_hit ?k_first_hit ?a_first_between ?l_first_between ?c_first_between ?k_first_between ?a_unraised ?l_unraised ?c_unraised ?k_unraised ?a_settled ?l_settled ?c_settled ?k_settled ?a_pace ?l_pace ?c_pace ?k_pace ?a_creep ?l_creep ?c_creep ?k_creep ?a_wide_and_narrow ?l_wide_and_narrow ?c_wide_and_narrow ?k_wide_and_narrow ?a_rounds_up ?l_rounds_up ?c_rounds_up ?k_rounds_up ?a_settled_on_wide ?l_settled_on_wide ?c_settled_on_wide ?k_settled_on_wide ?a_settled_on_narrow ?l_settled_on_narrow ?c_settled_on_narrow ?k_settled_on_narrow ?a_L_source ?l_L_source ?c_L_source ?k_L_source ?a_L_draw ?l_L_draw ?c_L_draw ?k_L_draw ?a_L_pick ?l_L_pick ?c_L_pick ?k_L_pick ?a_L_divisor ?l_L_divisor ?c_L_divisor ?k_L_divisor ?a_L_great ?l_L_great ?c_L_great ?k_L_great ?a_L_small_side ?l_L_small_side ?c_L_small_side ?k_L_small_side ?a_L_figure ?l_L_figure ?c_L_figure ?k_L_figure ?a_L_handed ?l_L_handed ?c_L_handed ?k_L_handed ?a_L_period ?l_L_period ?c_L_period ?k_L_period ?a_L_trip ?l_L_trip ?c_L_trip ?k_L_trip ?a_L_settled ?l_L_settled ?c_L_settled ?k_L_settled ?a_L_great_side ?l_L_great_side ?c_L_great_side ?k_L_great_side ?a_L_times ?l_L_times ?c_L_times ?k_L_times ?a_L_lift_fits ?l_L_lift_fits ?c_L_lift_fits ?k_L_lift_fits ?a_L_between_fits ?l_L_between_fits ?c_L_between_fits ?k_L_between_fits ?a_L_down_fits ?l_L_down_fits ?c_L_down_fits ?k_L_down_fits ?a_L_great_fits ?l_L_great_fits ?c_L_great_fits ?k_L_great_fits ?a_law ?l_law ?c_law ?k_law ?z_len ?z_abs ?z_int ?z_range ?z_isinstance ?z_bool ?z_tuple ?z_divmod ?z_max ?z_min ?l_U ?v_U ?a_MODES ?l_MODES ?v_MODES ?a_MIR ?l_MIR ?h_MIR ?d_down ?r_down ?d_up ?r_up ?d_half_down ?r_half_down ?d_half_up ?r_half_up ?d_half_even ?r_half_even
    (case a_is_int => k_is)
    (case l_is_int => k_is)
    (case c_is_int => k_is)
    (case k_is_int => k_is)
    (case a_is_int_between => k_is)
    (case l_is_int_between => k_is)
    (case c_is_int_between => k_is)
    (case k_is_int_between => k_is)
    (case a_check_value => k_is)
    (case l_check_value => k_is)
    (case c_check_value => k_is)
    (case k_check_value => k_is)
    (case a_check_side => k_is)
    (case l_check_side => k_is)
    (case c_check_side => k_is)
    (case k_check_side => k_is)
    (case a_figure => k_is)
    (case l_figure => k_is)
    (case c_figure => k_is)
    (case k_figure => k_is)
    (case a_goes_up => k_is)
    (case l_goes_up => k_is)
    (case c_goes_up => k_is)
    (case k_goes_up => k_is)
    (case a_written => k_is)
    (case l_written => k_is)
    (case c_written => k_is)
    (case k_written => k_is)
    (case a_span => k_is)
    (case l_span => k_is)
    (case c_span => k_is)
    (case k_span => k_is)
    (case a_uspan => k_is)
    (case l_uspan => k_is)
    (case c_uspan => k_is)
    (case k_uspan => k_is)
    (case a_below => k_is)
    (case l_below => k_is)
    (case c_below => k_is)
    (case k_below => k_is)
    (case a_threshold => k_is)
    (case l_threshold => k_is)
    (case c_threshold => k_is)
    (case k_threshold => k_is)
    (case a_mirror => k_is)
    (case l_mirror => k_is)
    (case c_mirror => k_is)
    (case k_mirror => k_is)
    (case a_period_of => k_is)
    (case l_period_of => k_is)
    (case c_period_of => k_is)
    (case k_period_of => k_is)
    (case a_first_hit => k_is)
    (case l_first_hit => k_is)
    (case c_first_hit => k_is)
    (case k_first_hit => k_is)
    (case a_first_between => k_is)
    (case l_first_between => k_is)
    (case c_first_between => k_is)
    (case k_first_between => k_is)
    (case a_unraised => k_is)
    (case l_unraised => k_is)
    (case c_unraised => k_is)
    (case k_unraised => k_is)
    (case a_settled => k_is)
    (case l_settled => k_is)
    (case c_settled => k_is)
    (case k_settled => k_is)
    (case a_pace => k_is)
    (case l_pace => k_is)
    (case c_pace => k_is)
    (case k_pace => k_is)
    (case a_creep => k_is)
    (case l_creep => k_is)
    (case c_creep => k_is)
    (case k_creep => k_is)
    (case a_wide_and_narrow => k_is)
    (case l_wide_and_narrow => k_is)
    (case c_wide_and_narrow => k_is)
    (case k_wide_and_narrow => k_is)
    (case a_rounds_up => k_is)
    (case l_rounds_up => k_is)
    (case c_rounds_up => k_is)
    (case k_rounds_up => k_is)
    (case a_settled_on_wide => k_is)
    (case l_settled_on_wide => k_is)
    (case c_settled_on_wide => k_is)
    (case k_settled_on_wide => k_is)
    (case a_settled_on_narrow => k_is)
    (case l_settled_on_narrow => k_is)
    (case c_settled_on_narrow => k_is)
    (case k_settled_on_narrow => k_is)
    (case a_L_source => k_is)
    (case l_L_source => k_is)
    (case c_L_source => k_is)
    (case k_L_source => k_is)
    (case a_L_draw => k_is)
    (case l_L_draw => k_is)
    (case c_L_draw => k_is)
    (case k_L_draw => k_is)
    (case a_L_pick => k_is)
    (case l_L_pick => k_is)
    (case c_L_pick => k_is)
    (case k_L_pick => k_is)
    (case a_L_divisor => k_is)
    (case l_L_divisor => k_is)
    (case c_L_divisor => k_is)
    (case k_L_divisor => k_is)
    (case a_L_great => k_is)
    (case l_L_great => k_is)
    (case c_L_great => k_is)
    (case k_L_great => k_is)
    (case a_L_small_side => k_is)
    (case l_L_small_side => k_is)
    (case c_L_small_side => k_is)
    (case k_L_small_side => k_is)
    (case a_L_figure => k_is)
    (case l_L_figure => k_is)
    (case c_L_figure => k_is)
    (case k_L_figure => k_is)
    (case a_L_handed => k_is)
    (case l_L_handed => k_is)
    (case c_L_handed => k_is)
    (case k_L_handed => k_is)
    (case a_L_period => k_is)
    (case l_L_period => k_is)
    (case c_L_period => k_is)
    (case k_L_period => k_is)
    (case a_L_trip => k_is)
    (case l_L_trip => k_is)
    (case c_L_trip => k_is)
    (case k_L_trip => k_is)
    (case a_L_settled => k_is)
    (case l_L_settled => k_is)
    (case c_L_settled => k_is)
    (case k_L_settled => k_is)
    (case a_L_great_side => k_is)
    (case l_L_great_side => k_is)
    (case c_L_great_side => k_is)
    (case k_L_great_side => k_is)
    (case a_L_times => k_is)
    (case l_L_times => k_is)
    (case c_L_times => k_is)
    (case k_L_times => k_is)
    (case a_L_lift_fits => k_is)
    (case l_L_lift_fits => k_is)
    (case c_L_lift_fits => k_is)
    (case k_L_lift_fits => k_is)
    (case a_L_between_fits => k_is)
    (case l_L_between_fits => k_is)
    (case c_L_between_fits => k_is)
    (case k_L_between_fits => k_is)
    (case a_L_down_fits => k_is)
    (case l_L_down_fits => k_is)
    (case c_L_down_fits => k_is)
    (case k_L_down_fits => k_is)
    (case a_L_great_fits => k_is)
    (case l_L_great_fits => k_is)
    (case c_L_great_fits => k_is)
    (case k_L_great_fits => k_is)
    (case a_law => k_is)
    (case l_law => k_is)
    (case c_law => k_is)
    (case k_law => k_is)
    (case z_len => k_is)
    (case z_abs => k_is)
    (case z_int => k_is)
    (case z_range => k_is)
    (case z_isinstance => k_is)
    (case z_bool => k_is)
    (case z_tuple => k_is)
    (case z_divmod => k_is)
    (case z_max => k_is)
    (case z_min => k_is)
    (case l_U => k_is)
    (case v_U => exact .cons ⟨_, rfl⟩ .nil)
    (case a_MODES => k_is)
    (case l_MODES => k_is)
    (case v_MODES => exact ⟨by decide, .cons ⟨_, rfl⟩ (.cons ⟨_, rfl⟩ (.cons ⟨_, rfl⟩ (.cons ⟨_, rfl⟩ (.cons ⟨_, rfl⟩ .nil))))⟩)
    (case a_MIR => k_is)
    (case l_MIR => k_is)
    (case h_MIR => k_keys)
    (case d_down => k_is)
    (case r_down => exact ⟨_, rfl⟩)
    (case d_up => k_is)
    (case r_up => exact ⟨_, rfl⟩)
    (case d_half_down => k_is)
    (case r_half_down => exact ⟨_, rfl⟩)
    (case d_half_up => k_is)
    (case r_half_up => exact ⟨_, rfl⟩)
    (case d_half_even => k_is)
    (case r_half_even => exact ⟨_, rfl⟩)
#print axioms PySem.Challenge.cw_handedtext_k51_whole_great_ways_back_holds
