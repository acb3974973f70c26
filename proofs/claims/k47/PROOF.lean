import PyProof.Rows.All
import Wide.All
import OpenK.AllK
import Wide.FinOn
import HandS.ForMost
import HandS.Wide
import HandS.NoneIn
import HandS.IsInst
import HandS.Exc
import HandS.ExcInit
import HandS.ExcValue
import HandS.ExcField
import HandS.ExcIs
import KE.KExcIs
import KE.KEqSeq
import KE.KEqDeep
import PySem.Challenge.RW_handedtext_k47_errors
set_option Elab.async false
set_option linter.all false
set_option maxRecDepth 100000
set_option maxHeartbeats 4000000
set_option exponentiation.threshold 3000
namespace L2
open PySem PySem.Spec PyProof.Rows
/-! ### objects of own error classes, as values -/
/-- an object of the class at C, made plainly, or by an own __init__ (its fields fs in the dict at d) -/
inductive ErrAt (H : Hp) (a C : Addr) : Prop where
  | plain (h : H a = some (ExO (.ref C) a))
  | made (d : Addr) (fs : List (Str × V)) (h : H a = some (exo a C (some d))) (hd : H d = some (exd d fs))
/-- what the written part says of an error class, for isinstance -/
structure ErrC (K : PySem.W.Frag) (C : Addr) : Prop where
  cl : (PySem.W.clsIn K C).isSome = true
  ga : PySem.W.findIn K (.ref C) "__getattribute__" = some (some (.builtin "BaseException.__getattribute__"))
  gg : PySem.W.findIn K (.ref C) "__getattr__" = some none
  sb : PySem.W.subIn K (.ref C) (.type "BaseException") = some true
  cn : PySem.W.findIn K (.ref C) "__class__" = some (some (.builtin "object.__class__"))
  mo : PySem.W.mroIn K C (.type "object") = some true
/-- .. of the attribute __class__ of all objects -/
structure ErrG (K : PySem.W.Frag) : Prop where
  sp : PySem.W.specialIn K (.builtin "object.__class__") "__get__" = some (some (.builtin "getset_descriptor.__get__"))
  tk : PySem.W.takesIn K (.builtin "object.__class__") = some true
def rIsX (K : PySem.W.Frag) : List V → Hp → VK → Prop := fun xs H Q => ∃ (a C : Addr) (c : V) (cv : Value) (b : Bool), xs = [.ref a, c] ∧ ClsV c cv ∧ ErrAt H a C ∧ ErrC K C ∧ ErrG K ∧ PySem.W.kitOne K (.ref C) cv = some b ∧ Q (.bl b) H
section
variable {X : Cx}
theorem call_isX : CallR X (.builtin "isinstance") (rIsX X.K) := by
  intro pins s σ H xs us Q I r h
  obtain ⟨a, C, c, cv, b, rfl, k, at', T, G, e, q⟩ := h
  obtain ⟨u1, u2, rfl, r1, r2⟩ := vals2 r
  have e2 := k.eq r2
  subst e2
  obtain rfl : u1 = Value.ref a := r1
  cases at' with
  | plain h =>
    obtain ⟨⟨oe, vs, ho, hz, hd, _⟩, _, _⟩ := I.hok a _ h
    have J : PySem.W.InstAt s.heap a oe C none := by
      obtain ⟨oc, od, oda, osl⟩ := oe
      obtain ⟨h1, h2⟩ := hz
      dsimp only at h1 h2 hd
      subst h1 h2 hd
      exact ⟨ho, rfl, rfl, trivial⟩
    exact PySem.W.kia_one (PySem.W.kitx_exc T.cl T.ga T.gg T.sb T.cn G.sp G.tk T.mo) I.kIn J e (fun z => nomatch z) fun tk => ⟨.bl b, H, I.tok tk, rfl, q⟩
  | made d fs h hd =>
    obtain ⟨t1, ho⟩ := exo_at I.hok h
    obtain ⟨mA, hns, _⟩ := exd_at I.hok hd
    obtain ⟨od, hod, _⟩ := lookIn_ns hns
    have J : PySem.W.InstAt s.heap a _ C (some od) := ⟨ho, rfl, rfl, hod⟩
    exact PySem.W.kia_one (PySem.W.kitx_exc T.cl T.ga T.gg T.sb T.cn G.sp G.tk T.mo) I.kIn J e (fun z => nomatch z) fun tk => ⟨.bl b, H, I.tok tk, rfl, q⟩
/-- C(), a class without own __init__ -/
theorem pe_exc0 {C : Addr} {bmB : List Value} {B newId initId : String} {x : Str} {p pos : Pos} (F : ExcBaseFacts B newId initId bmB) (q : PySem.W.excIn X.K C bmB newId = true) (gC : X.mg x = some (.ref C)) (kC : PySem.W.keepIn X.K (.ref C) = true) (hg : Gl X x)
    (hdb : (x == ("__debug__" : Str)) = false := by decide) : PE X (.Call (.Name x p) [] [] pos) (fun _ H Q => ∀ a, H a = none → Q (.ref a) (upd H a (ExO (.ref C) a))) := by
  refine ⟨fun pins s σ H Q I h => ?_⟩
  refine wpAny_Call_Name_kw (ld_glob I hg gC ?_ hdb)
  refine PySem.W.callWith_K0 I.kIn kC ?_
  obtain ⟨bm, N, nm, qn, bs, hdct, sn, sub, ab, col, dd, k0, k1, k2, k3, k5, mN, hC, hN, hni, T⟩ := exc_obj I.kIn q
  refine wpAny_call_exc_subT F T hC hN hni (fun h' a hm => ?_) (by show 0 ≤ sizeLine; exact Nat.zero_le _)
  have hn : H a = none := I.hok.gone hm.new
  obtain ⟨t, ht, _, _⟩ := hm.there
  exact ⟨.ref a, upd H a (ExO (.ref C) a), I.laidN hm.keeps hm.new hn (exO_ok ht ⟨rfl, rfl⟩ rfl rfl rfl (show 4 < 6 by decide)), rfl, h a hn⟩
/-- C(e, ..), C's own __init__ keeping sp: the object stays -/
theorem pe_oex {CX : CXT} {x : Str} {C fI : Addr} {k : Nat} {fd : FuncData} {ps : List Str} {sp : Sp} {ds : List Value} {dvs : List V} {e : Expr} {es : List Expr} {ta : TA} {p pos : Pos} (T : OexC X.K C) (iC : PySem.W.findIn X.K (.ref C) "__init__" = some (some (.ref fI))) (tI : PySem.W.typeIn X.K (.ref fI) = some (.type "function"))
    (F1 : FnOk X.prog X.w X.K X.mg X.base CX k fI fd ps sp) (hr : Room (k + 1) X.A) (hb : Binds X.K fd ps ds) (hd : Vals dvs ds) (hx : Passes CX X (fun _ _ _ => False)) (hg : Gl X x) (hm : X.mg x = some (.ref C)) (ha : PA X (e :: es) ta)
    (hdb : (x == ("__debug__" : Str)) = false := by decide) (he : starEach (e :: es) X.env = (false, eval e X.env) :: starEach es X.env := by rfl) (hpl : (backTo pos (starEach es X.env)).any (·.1) = false := by rfl) :
    PE X (.Call (.Name x p) (e :: es) [] pos) (fun σ H Q => ta σ H fun vs H1 => vs.length ≤ 1000 ∧ ∀ a, H1 a = none → sp (.ref a :: (vs ++ dvs)) (upd H1 a (exo a C none)) (fun v H2 => v = .non ∧ Q (.ref a) H2) (fun _ _ _ => False)) := by
  refine ⟨fun pins s σ H Q I h => ?_⟩
  obtain ⟨nm, q, N, bs, bm, sn, sub, ab, col, dd, k0, k1, k2, k3, k5, hC, hbm⟩ := T.cls
  refine wpAny_Call_Name_kw (ld_glob I hg hm ?_ hdb)
  refine PySem.W.callWith_K (h₀ := X.base) I.ok.mod.kin T.kC (thn (ha.run pos pins s σ H _ I h) fun us s1 ⟨vs, H1, I1, r1, hz, q1⟩ => ⟨I1.kIn, ?_⟩) he hpl
  show wpAny _ _ (call (.ref C) us) _ _ _
  obtain ⟨hp, g, dr, tk, os⟩ := s1
  have hsz : hp.objs.size ≤ hp.objs.size + 1 := Nat.le_succ _
  have hn : H1 (hp.objs.size + 1) = none := I1.hok.fresh hsz
  have hq := q1 (hp.objs.size + 1) hn
  have kk : ∀ b o, hp.get? b = some o → ((hp.push (PySem.W.kdv_tup us)).push (PySem.HandSPX.excO C hp.objs.size)).get? b = some o := fun b o z => Heap.get?_push_of_some _ (Heap.get?_push_of_some _ z)
  have gg : ((hp.push (PySem.W.kdv_tup us)).push (PySem.HandSPX.excO C hp.objs.size)).get? (hp.objs.size + 1) = some (PySem.HandSPX.excO C hp.objs.size) := by heap_get
  have I2 : Inv X pins σ (upd H1 (hp.objs.size + 1) (exo (hp.objs.size + 1) C none)) ⟨(hp.push (PySem.W.kdv_tup us)).push (PySem.HandSPX.excO C hp.objs.size), g, dr, tk, os⟩ :=
    I1.laid (t' := tk) (a := hp.objs.size + 1) (o := exo (hp.objs.size + 1) C none) (h' := (hp.push (PySem.W.kdv_tup us)).push (PySem.HandSPX.excO C hp.objs.size)) kk hsz (exo_ok gg)
  have r2 : Vals (V.ref (hp.objs.size + 1) :: (vs ++ dvs)) (Value.ref (hp.objs.size + 1) :: (us ++ ds)) := .cons rfl (r1.append hd)
  have ll : (Value.ref (hp.objs.size + 1) :: us ++ ds).length = ps.length := by
    have z := r2.length
    rw [F1.len _ _ _ _ hq] at z
    exact z.symm
  have lus : us.length ≤ sizeLine := by
    rw [← Paired.length r1, sizeLine_eq]
    omega
  refine wpAny_call (PySem.HandSPX.call_own F.excBase_ValueError (fun Y => PySem.HandSPX.refsVE_contains Y bm hbm) (I1.kIn _ _ hC) (PySem.W.looks_findIn I1.kIn iC) (fun self => PySem.W.bind_fn I1.kIn self tI) lus
    (codeAny_mono (F1.run _ X.stack _ _ ⟨Value.ref (hp.objs.size + 1) :: us, []⟩ (Value.ref (hp.objs.size + 1) :: (us ++ ds)) _ _ (fun _ _ _ => False) (hr.make C us []) (I2.env0.make C us []) (hb _ (Value.ref (hp.objs.size + 1) :: us) I2.kIn ll) r2 hq) fun r s' hq' => ?_))
  cases r with
  | error er => exact hx pins σ _ _ er s' I2 hq'
  | ok fl =>
    cases fl with
    | ret u =>
      have J := I2.after hq'
      obtain ⟨v, H2, I3, rv, ev, q2⟩ := J
      subst ev
      exact ⟨rv, .ref (hp.objs.size + 1), H2, I3, rfl, q2⟩
    | next => exact False.elim hq'
    | brk => exact False.elim hq'
    | cont => exact False.elim hq'
/-- e.f of an object made by an own __init__ -/
theorem pe_eat {e : Expr} {te : TE} {pos : Pos} {n : Str} (he : PE X e te) (hb : attributeBase e n X.env (eval e X.env) = eval e X.env := by rfl) :
    PE X (.Attribute e n pos) (fun σ H Q => te σ H fun x H1 => ∃ (a C d : Addr) (fs : List (Str × V)) (v : V), x = .ref a ∧ XfC X.K C ∧ PySem.W.findIn X.K (.ref C) n = some none ∧ H1 a = some (exo a C (some d)) ∧ H1 d = some (exd d fs) ∧ fs.lookup n = some v ∧ Q v H1) := by
  refine ⟨fun pins s σ H Q I h => ?_⟩
  refine attr_of hb (thn (he.run pins s σ H _ I h) fun u s1 hh => ?_)
  obtain ⟨x, H1, I1, rx, a, C, d, fs, v, ex, T, no, ha, hd, l, q⟩ := hh
  subst ex
  obtain rfl : u = Value.ref a := rx
  obtain ⟨t1, ho⟩ := exo_at I1.hok ha
  obtain ⟨mA, hns, hr⟩ := exd_at I1.hok hd
  obtain ⟨od, hod, hl⟩ := lookIn_ns hns
  obtain ⟨u, hu, ru⟩ := RelO.some_of (v := v) (o := mA n) (by rw [← l]; exact hr n)
  have J : PySem.W.InstAt s1.heap a _ C (some od) := ⟨ho, rfl, rfl, hod⟩
  exact HandSPX.exc_get I1.kIn J T.ga T.gg T.exC (PySem.W.findObj_own T.hdC no rfl (by rw [hl, hu])) (handed_of ru) ⟨v, H1, I1.tok _, ru, q⟩
end
theorem ErrAt.same {H H' : Hp} {a C : Addr} (e : ErrAt H a C) (m : Same H H') : ErrAt H' a C := by
  cases e with
  | plain h => exact .plain (m _ _ h)
  | made d fs h hd => exact .made d fs (m _ _ h) (m _ _ hd)
theorem Same.new {H H1 : Hp} {p : Addr} {o : HO} (m : Same H H1) (n : H1 p = none) : Same H (upd H1 p o) := fun b u z => (upd_ne (ne_of_none (m b u z) n)).trans (m b u z)
end L2
namespace HT
open PySem L2
def top (i : Nat) : Stmt := PySem.Challenge.pw_handedtext_k47_errors.main.body.getD i (.Pass ⟨0, 0, 0, 0⟩)
abbrev s_L_source : Stmt := top 21
abbrev s_L_draw : Stmt := top 22
abbrev s_L_pick : Stmt := top 23
abbrev s_L_kinds : Stmt := top 24
abbrev s_L_made : Stmt := top 25
abbrev s_L_made_with : Stmt := top 26
abbrev s_law : Stmt := top 27
/- _law_source: 0:_law_script 1:_law_cells 2:_law_k -/
theorem sc_L_source : FnScope ["_law_script", "_law_cells", "_law_k"] ["_law_script"] (defScope s_L_source) := ⟨rfl, rfl, rfl, by decide +kernel, rfl, by decide +kernel, by decide +kernel⟩
/- _law_draw: 0:_law_source_here 1:_law_limit 2:_law_cells 3:_law_turn 4:_law_place 5:_law_cell 6:_law_number -/
theorem sc_L_draw : FnScope ["_law_source_here", "_law_limit", "_law_cells", "_law_turn", "_law_place", "_law_cell", "_law_number"] ["_law_source_here", "_law_limit"] (defScope s_L_draw) := ⟨rfl, rfl, rfl, by decide +kernel, rfl, by decide +kernel, by decide +kernel⟩
/- _law_pick: 0:_law_source_here 1:_law_values -/
theorem sc_L_pick : FnScope ["_law_source_here", "_law_values"] ["_law_source_here", "_law_values"] (defScope s_L_pick) := ⟨rfl, rfl, rfl, by decide +kernel, rfl, by decide +kernel, by decide +kernel⟩
/- _law_kinds: 0:_law_e 1:_law_found -/
theorem sc_L_kinds : FnScope ["_law_e", "_law_found"] ["_law_e"] (defScope s_L_kinds) := ⟨rfl, rfl, rfl, by decide +kernel, rfl, by decide +kernel, by decide +kernel⟩
/- _law_made: 0:_law_found -/
theorem sc_L_made : FnScope ["_law_found"] [] (defScope s_L_made) := ⟨rfl, rfl, rfl, by decide +kernel, rfl, by decide +kernel, by decide +kernel⟩
/- _law_made_with: 0:_law_word 1:_law_found -/
theorem sc_L_made_with : FnScope ["_law_word", "_law_found"] ["_law_word"] (defScope s_L_made_with) := ⟨rfl, rfl, rfl, by decide +kernel, rfl, by decide +kernel, by decide +kernel⟩
/- law: 0:_law_script 1:_law_source_here 2:_law_word 3:_law_line 4:_law_reason 5:_law_last 6:_law_further 7:_law_more 8:_law_made_here 9:_law_at 10:_law_k -/
theorem sc_law : FnScope ["_law_script", "_law_source_here", "_law_word", "_law_line", "_law_reason", "_law_last", "_law_further", "_law_more", "_law_made_here", "_law_at", "_law_k"] ["_law_script"] (defScope s_law) := ⟨rfl, rfl, rfl, by decide +kernel, rfl, by decide +kernel, by decide +kernel⟩

end HT
open PySem L2
local macro_rules | `(tactic| walk_at "rd") => `(tactic| repeat (first | refine ⟨_, rfl, ?_⟩ | refine ⟨_, _, rfl, rfl, ?_⟩ | refine .inl ⟨_, rfl, ?_⟩))
namespace L2
open PySem PySem.Spec PyProof.Rows
/-- powers of great numbers -/
def CPowW (i j : Int) : Prop := 0 ≤ j ∧ (Builtin.Int.intBits i : Int) * j ≤ 2 ^ 27
theorem op_powW {X : Cx} : OpR X (binaryOp .Pow) (rI CPowW fun i j => .int (i ^ j.toNat)) := opI fun _ _ _ _ _ _ _ hc q => pow_int hc.1 hc.2 q
end L2
namespace HT
open PySem L2
/-- the law's source of draws: a list of its cells' list and the turn -/
structure Src (H : Hp) (a c : Addr) (t : Nat) : Prop where
  ne : a ≠ c
  ob : H a = some (.lst [.ref c, .int (t : Int)])
  cl : ∃ cs : List Int, H c = some (.lst (cs.map V.int)) ∧ 0 < cs.length ∧ cs.length ≤ 63
/-- nothing else is touched -/
def Oth (a c : Addr) (H H' : Hp) : Prop := ∀ b o, H b = some o → b ≠ a → b ≠ c → H' b = some o
theorem Oth.refl (a c : Addr) (H : Hp) : Oth a c H H := fun _ _ h _ _ => h
theorem Oth.trans {a c : Addr} {H H1 H2 : Hp} (x : Oth a c H H1) (y : Oth a c H1 H2) : Oth a c H H2 := fun b o h n m => y b o (x b o h n m) n m
theorem Oth.new {a c p : Addr} {H H1 : Hp} {o : HO} (x : Oth a c H H1) (n : H1 p = none) : Oth a c H (upd H1 p o) := fun b u h na nc => by
  rw [upd_ne (ne_of_none (x b u h na nc) n)]
  exact x b u h na nc
theorem Src.new {a c p : Addr} {H : Hp} {t : Nat} {o : HO} (S : Src H a c t) (n : H p = none) : Src (upd H p o) a c t := by
  obtain ⟨cs, h, l⟩ := S.cl
  exact ⟨S.ne, by rw [upd_ne (ne_of_none S.ob n)]; exact S.ob, cs, by rw [upd_ne (ne_of_none h n)]; exact h, l⟩
theorem Src.of_same {a c : Addr} {H H' : Hp} {t : Nat} (S : Src H a c t) (e : Same H H') : Src H' a c t := by
  obtain ⟨cs, h, l⟩ := S.cl
  exact ⟨S.ne, e _ _ S.ob, cs, e _ _ h, l⟩
theorem Src.na {a c p : Addr} {H : Hp} {t : Nat} (S : Src H a c t) (n : H p = none) : p ≠ a ∧ p ≠ c := by
  obtain ⟨cs, h, l⟩ := S.cl
  exact ⟨(ne_of_none S.ob n).symm, (ne_of_none h n).symm⟩
theorem Src.nt {a c p : Addr} {H : Hp} {t : Nat} {xs : List V} (S : Src H a c t) (n : H p = some (.tup xs)) : p ≠ a ∧ p ≠ c := by
  obtain ⟨cs, h, l⟩ := S.cl
  exact ⟨ne_of n S.ob (by intro z; cases z), ne_of n h (by intro z; cases z)⟩
def spSource (K : PySem.W.Frag) : Sp := fun vs H Q _ => ∃ (l : Addr) (ns : List Int), vs = [.ref l] ∧ SqL K H l (ns.map V.int) ∧ ns.length ≤ 63 ∧
  ∀ a c H', Same H H' → H a = none → H c = none → Src H' a c 0 → Q (.ref a) H'
def spDraw : Sp := fun vs H Q _ => ∃ (a c : Addr) (t : Nat) (lim : Int), vs = [.ref a, .int lim] ∧ Src H a c t ∧ t < 2 ^ 30 ∧ 0 < lim ∧ lim.natAbs.log2 < 9000 ∧
  ∀ k H', 0 ≤ k → k < lim → Src H' a c (t + 1) → Oth a c H H' → Q (.int k) H'
/-- what the walk asks of the names that the text does not bind -/
structure Blt (mg : Str → Option Value) : Prop where
  len : mg "len" = none
  abs : mg "abs" = none
  int : mg "int" = none
  range : mg "range" = none
section
variable {P : Program} {w : World} {K : PySem.W.Frag} {mg : Str → Option Value} {base : Heap}
theorem fdiv_ok (i : Int) {j : Int} (h : 0 < j) (h9 : j.natAbs.log2 < 9000) : CDivW i j := ⟨h, h9⟩
theorem atI_in {xs : List Int} {i : Int} (h0 : 0 ≤ i) (h : i < (xs.length : Int)) : atI (xs.map V.int) i = some (.int (xs.getD i.toNat 0)) := by
  have e : ixN (xs.map V.int).length i = some i.toNat := by
    unfold ixN
    rw [List.length_map, if_pos h0, if_pos h]
  unfold atI
  rw [e]
  show (xs.map V.int)[i.toNat]? = _
  have hl : i.toNat < xs.length := by omega
  rw [List.getElem?_map, List.getElem?_eq_getElem hl, List.getD_eq_getElem?_getD, List.getElem?_eq_getElem hl]
  rfl
theorem ixN_in {n : Nat} {i : Int} (h0 : 0 ≤ i) (h : i < (n : Int)) : ixN n i = some i.toNat := by
  unfold ixN
  rw [if_pos h0, if_pos h]
theorem b_mod (x : Int) : -(2 ^ 64) < x % 2147483629 ∧ x % 2147483629 < 2 ^ 64 := by omega
theorem b_mod1 (x : Int) : -(2 ^ 64) < x % 2147483647 ∧ x % 2147483647 < 2 ^ 64 := by omega
theorem b_t {t : Nat} (h : t < 2 ^ 30) : -(2 ^ 64) < (t : Int) ∧ (t : Int) < 2 ^ 64 := by omega
theorem b_tt {t : Nat} (h : t < 2 ^ 30) : -(2 ^ 64) < (t : Int) * t ∧ (t : Int) * t < 2 ^ 64 := by
  have h1 : t * t < 2 ^ 30 * 2 ^ 30 := Nat.mul_lt_mul'' h h
  have h2 : ((t * t : Nat) : Int) = (t : Int) * t := Int.natCast_mul t t
  omega
theorem set_ints (xs : List Int) (j : Nat) (y : Int) : (xs.map V.int).set j (.int y) = (xs.set j y).map V.int := by
  rw [List.map_set]
theorem ok_draw {f : Addr} {fd : FuncData} (F : Fun K "_law_draw" "_law_draw" s_L_draw f fd) (B : Blt mg) : FnOk P w K mg base CX0 1 f fd ["_law_source_here", "_law_limit"] spDraw := by
  refine F.ok sc_L_draw (fun vs H Q E h => ?_) (fun cdv A outer s H vs Q E hr h => ?_)
  · obtain ⟨a, c, t, lim, rfl, _⟩ := h
    rfl
  · obtain ⟨a, c, t, lim, rfl, S, ht, hl0, hl9, q⟩ := h
    obtain ⟨cs, hc, hn0, hn⟩ := S.cl
    have nd := sc_L_draw.nd
    refine ⟨_, pss_cons (ps_asg (pv 0) (pg_unl (n := 2) (by rfl) (pgs_cons (pg_name (i := 2) nd rfl (Or.inl rfl)) (pgs_cons (pg_name (i := 3) nd rfl (Or.inl rfl)) pgs_nil))))
      (pss_cons (ps_set (i := 4) nd rfl (Or.inl rfl) (pe_op op_mod (pe_callTy call_int1 (by rfl) B.int (by decide +kernel) (pa_cons (pv 3) pa_nil)) (pe_callB call_len_seq (by rfl) B.len PySem.boot_len (pa_cons (pv 2) pa_nil))))
      (pss_cons (ps_set (i := 5) nd rfl (Or.inl rfl) (pe_ix ix_list (pv 2) (pv 4) (fun _ _ => rfl)))
      (pss_cons (ps_asg (pe_op op_add (pv 3) pe_int) (pg_sub (pv 0) pe_int set_list))
      (pss_cons (ps_if (pt_cmpR op_ge (pv 5) (pe_op op_pow pe_int pe_int) (nomark _))
        (pss_cons (ps_asg (pe_op op_fdivW (pv 5) (pv 1)) (pg_sub (pv 2) (pv 4) set_list))
          (pss_one (ps_ret (pe_op op_mod (pe_callTy call_int1 (by rfl) B.int (by decide +kernel) (pa_cons (pv 5) pa_nil)) (pv 1))))) pss_nil)
      (pss_cons (ps_set (i := 6) nd rfl (Or.inl rfl) (pe_op op_mod (pe_callTy call_int1 (by rfl) B.int (by decide +kernel) (pa_cons
          (pe_op op_add (pe_op op_add (pe_op op_mul (pe_op op_mod (pe_callTy call_int1 (by rfl) B.int (by decide +kernel) (pa_cons (pv 5) pa_nil)) pe_int) pe_int) (pe_op op_mul (pe_op op_mul (pv 3) (pv 3)) pe_int)) pe_int) pa_nil)) pe_int))
      (pss_cons (ps_set (i := 6) nd rfl (Or.inl rfl) (pe_op op_mod (pe_callTy call_int1 (by rfl) B.int (by decide +kernel) (pa_cons (pe_op op_mul (pv 6) (pv 6)) pa_nil)) pe_int))
      (pss_cons (ps_set (i := 6) nd rfl (Or.inl rfl) (pe_op op_mod (pe_callTy call_int1 (by rfl) B.int (by decide +kernel) (pa_cons (pe_op op_mul (pv 6) (pv 6)) pa_nil)) pe_int))
      (pss_one (ps_ret (pe_op op_mod (pe_callTy call_int1 (by rfl) B.int (by decide +kernel) (pa_cons (pv 6) pa_nil)) (pv 1))))))))))), ?_⟩
    -- _law_cells, _law_turn = _law_source_here
    walk_at "rd"
    refine ⟨a, _, rfl, SqL.of S.ob, rfl, _, _, rfl, _, _, rfl, rfl, ?_⟩
    -- _law_place
    walk_at "rd"
    have hn0' : (0 : Int) < ((cs.map V.int).length : Nat) := by rw [List.length_map]; omega
    refine ⟨c, _, rfl, .inl (SqL.of hc), _, _, rfl, rfl, hn0', ?_⟩
    have hp0 : 0 ≤ (t : Int) % ((cs.map V.int).length : Nat) := Int.emod_nonneg _ (by omega)
    have hp1 : (t : Int) % ((cs.map V.int).length : Nat) < ((cs.map V.int).length : Nat) := Int.emod_lt_of_pos _ hn0'
    have hp1' : (t : Int) % ((cs.map V.int).length : Nat) < (cs.length : Int) := by rw [List.length_map] at hp1 ⊢; exact hp1
    -- _law_cell
    walk_at "rd"
    refine ⟨c, _, _, _, rfl, rfl, SqL.of hc, atI_in hp0 hp1', ?_⟩
    -- _law_source_here[1] = _law_turn + 1
    walk_at "rd"
    refine ⟨a, _, 1, 1, rfl, rfl, S.ob, rfl, ?_⟩
    have S1 : Src (upd H a (.lst ([V.ref c, V.int t].set 1 (.int ((t : Int) + 1))))) a c (t + 1) := ⟨S.ne, by rw [upd_same]; rfl, cs, by rw [upd_ne S.ne.symm]; exact hc, hn0, hn⟩
    have O1 : Oth a c H (upd H a (.lst ([V.ref c, V.int t].set 1 (.int ((t : Int) + 1))))) := fun b o h na _ => by rw [upd_ne na]; exact h
    have hc1 : upd H a (.lst ([V.ref c, V.int t].set 1 (.int ((t : Int) + 1)))) c = some (.lst (cs.map V.int)) := by rw [upd_ne S.ne.symm]; exact hc
    generalize upd H a (.lst ([V.ref c, V.int t].set 1 (.int ((t : Int) + 1)))) = H1 at S1 O1 hc1 ⊢
    -- if _law_cell >= 10 ** 18
    walk_at "rd"
    refine ⟨⟨by decide, by decide, by decide⟩, ?_⟩
    walk_at "rd"
    refine ite2 (fun _ => ?_) (fun _ => ?_)
    · walk_at "rd"
      refine ⟨fdiv_ok _ hl0 hl9, ?_⟩
      walk_at "rd"
      refine ⟨c, _, _, _, rfl, rfl, hc1, ixN_in hp0 hp1, ?_⟩
      walk_at "rd"
      refine ⟨hl0, ?_⟩
      rw [set_ints]
      refine q _ _ (Int.emod_nonneg _ (by omega)) (Int.emod_lt_of_pos _ hl0) ⟨S1.ne, by rw [upd_ne S1.ne]; exact S1.ob, _, upd_same, by rw [List.length_set]; exact hn0, by rw [List.length_set]; exact hn⟩ fun b o h na nc => ?_
      rw [upd_ne nc]
      exact O1 b o h na nc
    · walk_at "rd"
      refine ⟨(by show (0 : Int) < 2147483629; decide), ?_⟩
      walk_at "rd"
      refine ⟨.inl (b_mod _), ?_⟩
      walk_at "rd"
      refine ⟨.inl (b_t ht), ?_⟩
      walk_at "rd"
      refine ⟨.inl (b_tt ht), ?_⟩
      walk_at "rd"
      refine ⟨(by show (0 : Int) < 2147483647; decide), ?_⟩
      walk_at "rd"
      refine ⟨.inl (b_mod1 _), ?_⟩
      walk_at "rd"
      refine ⟨(by show (0 : Int) < 2147483629; decide), ?_⟩
      walk_at "rd"
      refine ⟨.inl (b_mod _), ?_⟩
      walk_at "rd"
      refine ⟨(by show (0 : Int) < 2147483587; decide), ?_⟩
      walk_at "rd"
      refine ⟨hl0, ?_⟩
      exact q _ _ (Int.emod_nonneg _ (by omega)) (Int.emod_lt_of_pos _ hl0) S1 O1
end
end HT
namespace HT
open PySem L2
/-- a def of the text that may be called by its name, and what it promises -/
structure Cal (P : Program) (w : World) (K : PySem.W.Frag) (mg : Str → Option Value) (base : Heap) (x : Str) (k : Nat) (ps : List Str) (sp : Sp) (f : Addr) (fd : FuncData) : Prop where
  ok : FnOk P w K mg base CX0 k f fd ps sp
  gl : mg x = some (.ref f)
  kp : PySem.W.keepIn K (.ref f) = true
  bd : Binds K fd ps []
theorem pcl {X : Cx} {x : Str} {k j : Nat} {ps : List Str} {sp : Sp} {f : Addr} {fd : FuncData} {e : Expr} {es : List Expr} {t : TA} {p pos : Pos} (C : Cal X.prog X.w X.K X.mg X.base x k ps sp f fd) (hr : Room j X.A) (hj : k ≤ j) (hg : Gl X x) (ha : PA X (e :: es) t)
    (hdb : (x == ("__debug__" : Str)) = false := by decide) (he : starEach (e :: es) X.env = (false, eval e X.env) :: starEach es X.env := by rfl) (hpl : (backTo pos (starEach es X.env)).any (·.1) = false := by rfl) : PE X (.Call (.Name x p) (e :: es) [] pos) (tCall sp [] E0 t) :=
  pe_call C.ok (hr.mono hj) hg C.gl C.kp C.bd .nil pass0 ha hdb he hpl
section
variable {P : Program} {w : World} {K : PySem.W.Frag} {mg : Str → Option Value} {base : Heap}
theorem cut63 {ns : List Int} (h : ns.length ≤ 63) : cutV (ns.map V.int) none (some 63) = ns.map V.int := by
  have e1 : HT.sIx (ns.map V.int).length 0 none = 0 := rfl
  have e2 : HT.sIx (ns.map V.int).length (ns.map V.int).length (some 63) = (ns.map V.int).length := by
    have := HT.sIx_nat (ns.map V.int).length (ns.map V.int).length 63
    rw [show ((63 : Nat) : Int) = 63 from rfl] at this
    rw [this, List.length_map]
    omega
  unfold cutV
  rw [e1, e2, List.drop_zero, Nat.sub_zero, List.take_length]
theorem dpInts (H : Hp) : ∀ ns : List Int, DpAll K H (ns.map V.int) (ns.map PyData.int)
  | [] => .nil
  | n :: r => .cons (.int n) (dpInts H r)
theorem pow_ok : CPowW ((10 : Int) ^ (60 : Int).toNat) 20 := ⟨by decide, by decide +kernel⟩
theorem pow_pos' : (0 : Int) < ((10 : Int) ^ (60 : Int).toNat) ^ (20 : Int).toNat := by decide +kernel
theorem ok_source {f : Addr} {fd : FuncData} (F : Fun K "_law_source" "_law_source" s_L_source f fd) (B : Blt mg) : FnOk P w K mg base CX0 1 f fd ["_law_script"] (spSource K) := by
  refine F.ok sc_L_source (fun vs H Q E h => ?_) (fun cdv A outer s H vs Q E hr h => ?_)
  · obtain ⟨l, ns, rfl, _⟩ := h
    rfl
  · obtain ⟨l, ns, rfl, hL, hn, q⟩ := h
    have nd := sc_L_source.nd
    refine ⟨_, pss_cons (ps_set (i := 1) nd rfl (Or.inl rfl) (pe_slice sl_list (pv 0) po_none (po_some pe_int)))
      (pss_cons (ps_for PassesOwn.never rfl (pi_range1 (by rfl) B.range (pa_cons (pe_callB call_len_seq (by rfl) B.len PySem.boot_len (pa_cons (pv 1) pa_nil)) pa_nil)) (pg_name (i := 2) nd rfl (Or.inl rfl))
        (pss_one (ps_if (pt_cmpR op_ge (pe_callB call_abs (by rfl) B.abs (by decide +kernel) (pa_cons (pe_ix ix_list (pv 1) (pv 2) (fun _ _ => rfl)) pa_nil)) (pe_op op_pow pe_int pe_int) (nomark _))
          (pss_one (ps_asg (pe_op op_mod (pe_callTy call_int1 (by rfl) B.int (by decide +kernel) (pa_cons (pe_ix ix_list (pv 1) (pv 2) (fun _ _ => rfl)) pa_nil)) (pe_op op_powW (pe_op op_pow pe_int pe_int) pe_int)) (pg_sub (pv 1) (pv 2) set_list))) pss_nil)))
      (pss_cons (ps_if (pt_cmpR (op_eqD hr.units) (pv 1) (pe_lst pa_nil) (nomark _)) (pss_one (ps_set (i := 1) nd rfl (Or.inl rfl) (pe_lst (pa_cons pe_int pa_nil)))) pss_nil)
      (pss_one (ps_ret (pe_lst (pa_cons (pv 1) (pa_cons pe_int pa_nil))))))), ?_⟩
    walk_at "rd"
    refine ⟨l, _, rfl, hL, fun p np => ?_⟩
    rw [cut63 hn]
    walk_at "rd"
    refine ⟨p, _, rfl, .inl (SqL.of upd_same), _, rfl, by omega, ?_, ?_⟩
    · show ((ns.map V.int).length : Int) < 2 ^ 62
      rw [List.length_map]
      omega
    have en : ((ns.map V.int).length : Int).toNat = ns.length := by rw [List.length_map]; omega
    rw [en]
    refine for_range (fun i σ H' => ∃ (cs : List Int) (kv : Option V), σ = [some (.ref l), some (.ref p), kv] ∧ H' p = some (.lst (cs.map V.int)) ∧ cs.length = ns.length ∧ Same H H') ⟨ns, none, rfl, upd_same, rfl, fun b o e => by rw [upd_ne (ne_of_none e np)]; exact e⟩ ?_ ?_
    · rintro i σ H' hi ⟨cs, kv, rfl, hp, hl, sm⟩
      have h0 : (0 : Int) ≤ 0 + (i : Int) := by omega
      have h1 : (0 : Int) + (i : Int) < (cs.length : Int) := by omega
      walk_at "rd"
      refine ⟨p, _, _, _, rfl, rfl, SqL.of hp, atI_in h0 h1, ?_⟩
      walk_at "rd"
      refine ⟨⟨by decide, by decide, by decide⟩, ?_⟩
      walk_at "rd"
      refine ite2 (fun _ => ?_) (fun _ => ?_)
      · walk_at "rd"
        refine ⟨p, _, _, _, rfl, rfl, SqL.of hp, atI_in h0 h1, ?_⟩
        walk_at "rd"
        refine ⟨⟨by decide, by decide, by decide⟩, ?_⟩
        walk_at "rd"
        refine ⟨pow_ok, ?_⟩
        walk_at "rd"
        refine ⟨pow_pos', ?_⟩
        walk_at "rd"
        refine ⟨p, _, _, _, rfl, rfl, hp, ixN_in h0 (by rw [List.length_map]; exact h1), ?_⟩
        rw [set_ints]
        exact ⟨_, _, rfl, upd_same, by rw [List.length_set]; exact hl, fun b o e => by rw [upd_ne (ne_of_none e np)]; exact sm b o e⟩
      · exact ⟨cs, _, rfl, hp, hl, sm⟩
    · rintro σ H' ⟨cs, kv, rfl, hp, hl, sm⟩
      walk_at "rd"
      refine ⟨by decide, fun e ne => ?_⟩
      have hpe : upd H' e (.lst []) p = some (.lst (cs.map V.int)) := by rw [upd_ne (ne_of_none hp ne)]; exact hp
      have sm1 : Same H (upd H' e (.lst [])) := fun b o z => by rw [upd_ne (ne_of_none (sm b o z) ne)]; exact sm b o z
      refine ⟨_, _, .lst (SqL.of hpe) (dpInts _ cs), .lst (SqL.of upd_same) .nil, PySem.W.ke_shaped_ints cs, by decide +kernel, ?_⟩
      walk_at "rd"
      have hb : PyData.eqv (.list (cs.map PyData.int)) (.list []) = decide (cs = []) := by
        have z := PySem.W.ked_eqvAll cs []
        rw [← z]
        rfl
      rw [hb]
      refine ite2 (fun _ => ?_) (fun hne => ?_)
      · walk_at "rd"
        refine ⟨by decide, fun c nc => ?_⟩
        walk_at "rd"
        refine ⟨(by show 2 ≤ sizeLine; decide), fun a na => ?_⟩
        have sm2 : Same H (upd (upd H' e (.lst [])) c (.lst [.int 0])) := fun b o z => by rw [upd_ne (ne_of_none (sm1 b o z) nc)]; exact sm1 b o z
        have nac : a ≠ c := (ne_of_none upd_same na).symm
        refine q a c _ (fun b o z => by rw [upd_ne (ne_of_none (sm2 b o z) na)]; exact sm2 b o z) (sm2.free na) (sm1.free nc) ⟨nac, upd_same, [0], by rw [upd_ne nac.symm]; exact upd_same, by decide, by decide⟩
      · walk_at "rd"
        refine ⟨(by show 2 ≤ sizeLine; decide), fun a na => ?_⟩
        have nap : a ≠ p := (ne_of_none hpe na).symm
        refine q a p _ (fun b o z => by rw [upd_ne (ne_of_none (sm1 b o z) na)]; exact sm1 b o z) (sm1.free na) np ⟨nap, upd_same, cs, by rw [upd_ne nap.symm]; exact hpe, ?_, by omega⟩
        have : cs ≠ [] := fun z => hne (decide_eq_true z)
        exact List.length_pos_iff.mpr this
end
end HT
namespace HT
open PySem L2
def spPick : Sp := fun vs H Q _ => ∃ (a c : Addr) (t : Nat) (l : Addr) (xs : List V), vs = [.ref a, .ref l] ∧ Src H a c t ∧ t < 2 ^ 30 ∧ H l = some (.lst xs) ∧ l ≠ a ∧ l ≠ c ∧ 0 < xs.length ∧ xs.length < 2 ^ 60 ∧
  ∀ x H', x ∈ xs → Src H' a c (t + 1) → Oth a c H H' → Q x H'
theorem lg_nat {n : Nat} (h : n < 2 ^ 200) : ((n : Int)).natAbs.log2 < 9000 := by
  rw [Int.natAbs_natCast]
  by_cases e : n = 0
  · rw [e]; decide
  · have := (Nat.log2_lt e).mpr h
    omega
section
variable {P : Program} {w : World} {K : PySem.W.Frag} {mg : Str → Option Value} {base : Heap} {fD fP fG : Addr} {dD dP dG : FuncData}
theorem ok_pick {f : Addr} {fd : FuncData} (F : Fun K "_law_pick" "_law_pick" s_L_pick f fd) (B : Blt mg) (D : Cal P w K mg base "_law_draw" 1 ["_law_source_here", "_law_limit"] spDraw fD dD) :
    FnOk P w K mg base CX0 2 f fd ["_law_source_here", "_law_values"] spPick := by
  refine F.ok sc_L_pick (fun vs H Q E h => ?_) (fun cdv A outer s H vs Q E hr h => ?_)
  · obtain ⟨a, c, t, l, xs, rfl, _⟩ := h
    rfl
  · obtain ⟨a, c, t, l, xs, rfl, S, ht, hl, na, nc, h0, h1, q⟩ := h
    refine ⟨_, pss_one (ps_ret (pe_ix ix_list (pv 1) (pcl D hr (by decide) (by rfl) (pa_cons (pv 0) (pa_cons (pe_callB call_len_seq (by rfl) B.len PySem.boot_len (pa_cons (pv 1) pa_nil)) pa_nil))) (fun _ _ => rfl))), ?_⟩
    walk_at "rd"
    refine ⟨l, _, rfl, .inl (SqL.of hl), ?_⟩
    have p1 : (0 : Int) < (xs.length : Int) := by omega
    refine ⟨a, c, t, _, rfl, S, ht, p1, lg_nat (Nat.lt_of_lt_of_le h1 (Nat.pow_le_pow_right (by decide) (by decide))), fun k H' k0 k1 S' O => ?_⟩
    have hl' : k.toNat < xs.length := by omega
    have e : atI xs k = some xs[k.toNat] := by
      unfold atI
      rw [ixN_in k0 k1]
      exact List.getElem?_eq_getElem hl'
    refine ⟨l, _, _, _, rfl, rfl, SqL.of (O _ _ hl na nc), e, ?_⟩
    exact q _ _ (List.getElem_mem hl') S' O
end
end HT
namespace HT
open PySem L2
theorem op_mul_str {X : Cx} : OpR X (binaryOp .Mult) (fun x y H Q => ∃ z n, x = .str z ∧ y = .int n ∧ MulOk z n ∧ Q (.str (Txt.mul z n)) H) := by
  intro pins s σ H x y v u Q I rx ry h
  obtain ⟨z, n, rfl, rfl, ok, q⟩ := h
  obtain ⟨t, rfl⟩ := rx
  obtain ⟨t', rfl⟩ := ry
  exact SB.mul ok fun t' k => ⟨.str (Txt.mul z n), H, I.tok _, ⟨_, rfl⟩, q⟩
/-- the eighteen classes by number, and their base class at B -/
structure Errs (K : PySem.W.Frag) (mg : Str → Option Value) (C : Nat → Addr) (B : Addr) : Prop where
  isi : mg "isinstance" = none
  ve : mg "ValueError" = none
  gB : mg "HandedError" = some (.ref B)
  g0 : mg "InvalidSide" = some (.ref (C 0))
  g1 : mg "InvalidValue" = some (.ref (C 1))
  g2 : mg "InvalidPlaces" = some (.ref (C 2))
  g3 : mg "InvalidStyle" = some (.ref (C 3))
  g4 : mg "InvalidUnits" = some (.ref (C 4))
  g5 : mg "TooMany" = some (.ref (C 5))
  g6 : mg "InvalidNumber" = some (.ref (C 6))
  g7 : mg "InvalidSides" = some (.ref (C 7))
  g8 : mg "InvalidSeen" = some (.ref (C 8))
  g9 : mg "InvalidEntries" = some (.ref (C 9))
  g10 : mg "UnknownName" = some (.ref (C 10))
  g11 : mg "CannotBe" = some (.ref (C 11))
  g12 : mg "NothingToUndo" = some (.ref (C 12))
  g13 : mg "NothingToRedo" = some (.ref (C 13))
  g14 : mg "UnknownDeed" = some (.ref (C 14))
  g15 : mg "InvalidNumbers" = some (.ref (C 15))
  g16 : mg "InvalidText" = some (.ref (C 16))
  g17 : mg "InvalidLine" = some (.ref (C 17))
  kit : ∀ i j, i < 18 → j < 18 → PySem.W.kitOne K (.ref (C i)) (.ref (C j)) = some (decide (i = j))
  kitB : ∀ i, i < 18 → PySem.W.kitOne K (.ref (C i)) (.ref B) = some true
  kitV : ∀ i, i < 18 → PySem.W.kitOne K (.ref (C i)) (.type "ValueError") = some true
  kitN : ∀ j, j < 18 → PySem.W.kitOne K (.ref B) (.ref (C j)) = some false
  ec : ∀ i, i < 18 → ErrC K (C i)
  ecB : ErrC K B
  eg : ErrG K
  ex : ∀ i, i < 16 → PySem.W.excIn K (C i) [.type "ValueError", .type "Exception", .type "BaseException", .type "object"] "ValueError.__new__" = true
  exB : PySem.W.excIn K B [.type "ValueError", .type "Exception", .type "BaseException", .type "object"] "ValueError.__new__" = true
  kp : ∀ i, i < 16 → PySem.W.keepIn K (.ref (C i)) = true
  kpB : PySem.W.keepIn K (.ref B) = true
/-- what an object of class D is an instance of -/
def blV (b : Nat → Bool) : List V := (List.range 18).map fun j => .bl (b j)
def spKinds (K : PySem.W.Frag) (C : Nat → Addr) : Sp := fun vs H Q _ => ∃ (a D : Addr) (b : Nat → Bool), vs = [.ref a] ∧ ErrAt H a D ∧ ErrC K D ∧ (∀ j, j < 18 → PySem.W.kitOne K (.ref D) (.ref (C j)) = some (b j)) ∧
  ∀ (l : Addr) (H' : Hp), Same H H' → H l = none → H' l = some (.lst (blV b)) → Q (.ref l) H'
/-- the objects of a list are of the classes in their order -/
def AllErr (C : Nat → Addr) (H : Hp) (as : List Addr) : Prop := ∀ i a, as[i]? = some a → ErrAt H a (C i)
theorem AllErr.nil (C : Nat → Addr) (H : Hp) : AllErr C H [] := fun i a z => by simp at z
theorem AllErr.new {C : Nat → Addr} {H : Hp} {as : List Addr} {p : Addr} {o : HO} (e : AllErr C H as) (n : H p = none) : AllErr C (upd H p o) as := fun i a z => (e i a z).same ((Same.refl H).new n)
theorem AllErr.snoc {C : Nat → Addr} {H : Hp} {as : List Addr} {p : Addr} (e : AllErr C H as) (n : H p = none) : AllErr C (upd H p (ExO (.ref (C as.length)) p)) (as ++ [p]) := fun i a z => by
  by_cases h : i < as.length
  · rw [List.getElem?_append_left h] at z
    exact (e i a z).same ((Same.refl H).new n)
  · rw [List.getElem?_append_right (by omega)] at z
    have hi : i = as.length := by
      have hl := (List.getElem?_eq_some_iff.mp z).1
      have : i - as.length < 1 := hl
      omega
    subst hi
    rw [Nat.sub_self] at z
    cases z
    exact .plain upd_same
theorem put_new {H : Hp} {p : Addr} {o : HO} (_ : H p = none) : upd H p o p = some o := upd_same
def spMade (C : Nat → Addr) (args : List V) : Sp := fun vs H Q _ => vs = args ∧ ∀ (l : Addr) (as : List Addr) (H' : Hp), Same H H' → H l = none → as.length = 16 → H' l = some (.lst (as.map V.ref)) → AllErr C H' as → Q (.ref l) H'
section
variable {P : Program} {w : World} {K : PySem.W.Frag} {mg : Str → Option Value} {base : Heap} {C : Nat → Addr} {BA : Addr}
theorem ok_kinds {f : Addr} {fd : FuncData} (F : Fun K "_law_kinds" "_law_kinds" s_L_kinds f fd) (T : Errs K mg C BA) : FnOk P w K mg base CX0 1 f fd ["_law_e"] (spKinds K C) := by
  refine F.ok sc_L_kinds (fun vs H Q E h => ?_) (fun cdv A outer s H vs Q E hr h => ?_)
  · obtain ⟨a, D, b, rfl, _⟩ := h
    rfl
  · obtain ⟨a, D, b, rfl, ea, ec, kt, q⟩ := h
    have nd := sc_L_kinds.nd
    refine ⟨_, pss_cons (ps_set (i := 1) nd rfl (Or.inl rfl) (pe_lst (pa_cons (pe_callB call_isX (by rfl) T.isi (by decide +kernel) (pa_cons (pv 0) (pa_cons (pe_glob (v := .ref (C 0)) (by rfl) T.g0 rfl) pa_nil))) (pa_cons (pe_callB call_isX (by rfl) T.isi (by decide +kernel) (pa_cons (pv 0) (pa_cons (pe_glob (v := .ref (C 1)) (by rfl) T.g1 rfl) pa_nil))) (pa_cons (pe_callB call_isX (by rfl) T.isi (by decide +kernel) (pa_cons (pv 0) (pa_cons (pe_glob (v := .ref (C 2)) (by rfl) T.g2 rfl) pa_nil))) pa_nil)))))
      (pss_cons (ps_set (i := 1) nd rfl (Or.inl rfl) (pe_op op_cat (pv 1) (pe_lst (pa_cons (pe_callB call_isX (by rfl) T.isi (by decide +kernel) (pa_cons (pv 0) (pa_cons (pe_glob (v := .ref (C 3)) (by rfl) T.g3 rfl) pa_nil))) (pa_cons (pe_callB call_isX (by rfl) T.isi (by decide +kernel) (pa_cons (pv 0) (pa_cons (pe_glob (v := .ref (C 4)) (by rfl) T.g4 rfl) pa_nil))) pa_nil)))))
      (pss_cons (ps_set (i := 1) nd rfl (Or.inl rfl) (pe_op op_cat (pv 1) (pe_lst (pa_cons (pe_callB call_isX (by rfl) T.isi (by decide +kernel) (pa_cons (pv 0) (pa_cons (pe_glob (v := .ref (C 5)) (by rfl) T.g5 rfl) pa_nil))) (pa_cons (pe_callB call_isX (by rfl) T.isi (by decide +kernel) (pa_cons (pv 0) (pa_cons (pe_glob (v := .ref (C 6)) (by rfl) T.g6 rfl) pa_nil))) pa_nil)))))
      (pss_cons (ps_set (i := 1) nd rfl (Or.inl rfl) (pe_op op_cat (pv 1) (pe_lst (pa_cons (pe_callB call_isX (by rfl) T.isi (by decide +kernel) (pa_cons (pv 0) (pa_cons (pe_glob (v := .ref (C 7)) (by rfl) T.g7 rfl) pa_nil))) (pa_cons (pe_callB call_isX (by rfl) T.isi (by decide +kernel) (pa_cons (pv 0) (pa_cons (pe_glob (v := .ref (C 8)) (by rfl) T.g8 rfl) pa_nil))) pa_nil)))))
      (pss_cons (ps_set (i := 1) nd rfl (Or.inl rfl) (pe_op op_cat (pv 1) (pe_lst (pa_cons (pe_callB call_isX (by rfl) T.isi (by decide +kernel) (pa_cons (pv 0) (pa_cons (pe_glob (v := .ref (C 9)) (by rfl) T.g9 rfl) pa_nil))) (pa_cons (pe_callB call_isX (by rfl) T.isi (by decide +kernel) (pa_cons (pv 0) (pa_cons (pe_glob (v := .ref (C 10)) (by rfl) T.g10 rfl) pa_nil))) pa_nil)))))
      (pss_cons (ps_set (i := 1) nd rfl (Or.inl rfl) (pe_op op_cat (pv 1) (pe_lst (pa_cons (pe_callB call_isX (by rfl) T.isi (by decide +kernel) (pa_cons (pv 0) (pa_cons (pe_glob (v := .ref (C 11)) (by rfl) T.g11 rfl) pa_nil))) (pa_cons (pe_callB call_isX (by rfl) T.isi (by decide +kernel) (pa_cons (pv 0) (pa_cons (pe_glob (v := .ref (C 12)) (by rfl) T.g12 rfl) pa_nil))) pa_nil)))))
      (pss_cons (ps_set (i := 1) nd rfl (Or.inl rfl) (pe_op op_cat (pv 1) (pe_lst (pa_cons (pe_callB call_isX (by rfl) T.isi (by decide +kernel) (pa_cons (pv 0) (pa_cons (pe_glob (v := .ref (C 13)) (by rfl) T.g13 rfl) pa_nil))) (pa_cons (pe_callB call_isX (by rfl) T.isi (by decide +kernel) (pa_cons (pv 0) (pa_cons (pe_glob (v := .ref (C 14)) (by rfl) T.g14 rfl) pa_nil))) pa_nil)))))
      (pss_cons (ps_set (i := 1) nd rfl (Or.inl rfl) (pe_op op_cat (pv 1) (pe_lst (pa_cons (pe_callB call_isX (by rfl) T.isi (by decide +kernel) (pa_cons (pv 0) (pa_cons (pe_glob (v := .ref (C 15)) (by rfl) T.g15 rfl) pa_nil))) (pa_cons (pe_callB call_isX (by rfl) T.isi (by decide +kernel) (pa_cons (pv 0) (pa_cons (pe_glob (v := .ref (C 16)) (by rfl) T.g16 rfl) pa_nil))) pa_nil)))))
      (pss_cons (ps_set (i := 1) nd rfl (Or.inl rfl) (pe_op op_cat (pv 1) (pe_lst (pa_cons (pe_callB call_isX (by rfl) T.isi (by decide +kernel) (pa_cons (pv 0) (pa_cons (pe_glob (v := .ref (C 17)) (by rfl) T.g17 rfl) pa_nil))) pa_nil))))
      (pss_one (ps_ret (pv 1))))))))))), ?_⟩
    have m0 : Same H H := Same.refl H
    walk_at "rd"
    refine ⟨a, D, .ref (C 0), .ref (C 0), b 0, rfl, .own _, ea.same m0, ec, T.eg, kt 0 (by decide), ?_⟩
    walk_at "rd"
    refine ⟨a, D, .ref (C 1), .ref (C 1), b 1, rfl, .own _, ea.same m0, ec, T.eg, kt 1 (by decide), ?_⟩
    walk_at "rd"
    refine ⟨a, D, .ref (C 2), .ref (C 2), b 2, rfl, .own _, ea.same m0, ec, T.eg, kt 2 (by decide), ?_⟩
    walk_at "rd"
    refine ⟨(by show 3 ≤ sizeLine; decide), fun l0 n0 => ?_⟩
    have h1 := put_new (o := .lst [.bl (b 0), .bl (b 1), .bl (b 2)]) n0
    have m1 := m0.new (o := .lst [.bl (b 0), .bl (b 1), .bl (b 2)]) n0
    walk_at "rd"
    refine ⟨a, D, .ref (C 3), .ref (C 3), b 3, rfl, .own _, ea.same m1, ec, T.eg, kt 3 (by decide), ?_⟩
    walk_at "rd"
    refine ⟨a, D, .ref (C 4), .ref (C 4), b 4, rfl, .own _, ea.same m1, ec, T.eg, kt 4 (by decide), ?_⟩
    walk_at "rd"
    refine ⟨(by show 2 ≤ sizeLine; decide), fun l1 n1 => ?_⟩
    have g1 := (upd_ne (o := .lst [.bl (b 3), .bl (b 4)]) (ne_of_none h1 n1)).trans h1
    have s1 := m1.new (o := .lst [.bl (b 3), .bl (b 4)]) n1
    refine ⟨_, l1, _, _, rfl, rfl, g1, upd_same, (by show 5 ≤ sizeLine; decide), fun p1 q1 => ?_⟩
    have h2 := put_new (o := .lst [.bl (b 0), .bl (b 1), .bl (b 2), .bl (b 3), .bl (b 4)]) q1
    have m2 := s1.new (o := .lst [.bl (b 0), .bl (b 1), .bl (b 2), .bl (b 3), .bl (b 4)]) q1
    walk_at "rd"
    refine ⟨a, D, .ref (C 5), .ref (C 5), b 5, rfl, .own _, ea.same m2, ec, T.eg, kt 5 (by decide), ?_⟩
    walk_at "rd"
    refine ⟨a, D, .ref (C 6), .ref (C 6), b 6, rfl, .own _, ea.same m2, ec, T.eg, kt 6 (by decide), ?_⟩
    walk_at "rd"
    refine ⟨(by show 2 ≤ sizeLine; decide), fun l2 n2 => ?_⟩
    have g2 := (upd_ne (o := .lst [.bl (b 5), .bl (b 6)]) (ne_of_none h2 n2)).trans h2
    have s2 := m2.new (o := .lst [.bl (b 5), .bl (b 6)]) n2
    refine ⟨_, l2, _, _, rfl, rfl, g2, upd_same, (by show 7 ≤ sizeLine; decide), fun p2 q2 => ?_⟩
    have h3 := put_new (o := .lst [.bl (b 0), .bl (b 1), .bl (b 2), .bl (b 3), .bl (b 4), .bl (b 5), .bl (b 6)]) q2
    have m3 := s2.new (o := .lst [.bl (b 0), .bl (b 1), .bl (b 2), .bl (b 3), .bl (b 4), .bl (b 5), .bl (b 6)]) q2
    walk_at "rd"
    refine ⟨a, D, .ref (C 7), .ref (C 7), b 7, rfl, .own _, ea.same m3, ec, T.eg, kt 7 (by decide), ?_⟩
    walk_at "rd"
    refine ⟨a, D, .ref (C 8), .ref (C 8), b 8, rfl, .own _, ea.same m3, ec, T.eg, kt 8 (by decide), ?_⟩
    walk_at "rd"
    refine ⟨(by show 2 ≤ sizeLine; decide), fun l3 n3 => ?_⟩
    have g3 := (upd_ne (o := .lst [.bl (b 7), .bl (b 8)]) (ne_of_none h3 n3)).trans h3
    have s3 := m3.new (o := .lst [.bl (b 7), .bl (b 8)]) n3
    refine ⟨_, l3, _, _, rfl, rfl, g3, upd_same, (by show 9 ≤ sizeLine; decide), fun p3 q3 => ?_⟩
    have h4 := put_new (o := .lst [.bl (b 0), .bl (b 1), .bl (b 2), .bl (b 3), .bl (b 4), .bl (b 5), .bl (b 6), .bl (b 7), .bl (b 8)]) q3
    have m4 := s3.new (o := .lst [.bl (b 0), .bl (b 1), .bl (b 2), .bl (b 3), .bl (b 4), .bl (b 5), .bl (b 6), .bl (b 7), .bl (b 8)]) q3
    walk_at "rd"
    refine ⟨a, D, .ref (C 9), .ref (C 9), b 9, rfl, .own _, ea.same m4, ec, T.eg, kt 9 (by decide), ?_⟩
    walk_at "rd"
    refine ⟨a, D, .ref (C 10), .ref (C 10), b 10, rfl, .own _, ea.same m4, ec, T.eg, kt 10 (by decide), ?_⟩
    walk_at "rd"
    refine ⟨(by show 2 ≤ sizeLine; decide), fun l4 n4 => ?_⟩
    have g4 := (upd_ne (o := .lst [.bl (b 9), .bl (b 10)]) (ne_of_none h4 n4)).trans h4
    have s4 := m4.new (o := .lst [.bl (b 9), .bl (b 10)]) n4
    refine ⟨_, l4, _, _, rfl, rfl, g4, upd_same, (by show 11 ≤ sizeLine; decide), fun p4 q4 => ?_⟩
    have h5 := put_new (o := .lst [.bl (b 0), .bl (b 1), .bl (b 2), .bl (b 3), .bl (b 4), .bl (b 5), .bl (b 6), .bl (b 7), .bl (b 8), .bl (b 9), .bl (b 10)]) q4
    have m5 := s4.new (o := .lst [.bl (b 0), .bl (b 1), .bl (b 2), .bl (b 3), .bl (b 4), .bl (b 5), .bl (b 6), .bl (b 7), .bl (b 8), .bl (b 9), .bl (b 10)]) q4
    walk_at "rd"
    refine ⟨a, D, .ref (C 11), .ref (C 11), b 11, rfl, .own _, ea.same m5, ec, T.eg, kt 11 (by decide), ?_⟩
    walk_at "rd"
    refine ⟨a, D, .ref (C 12), .ref (C 12), b 12, rfl, .own _, ea.same m5, ec, T.eg, kt 12 (by decide), ?_⟩
    walk_at "rd"
    refine ⟨(by show 2 ≤ sizeLine; decide), fun l5 n5 => ?_⟩
    have g5 := (upd_ne (o := .lst [.bl (b 11), .bl (b 12)]) (ne_of_none h5 n5)).trans h5
    have s5 := m5.new (o := .lst [.bl (b 11), .bl (b 12)]) n5
    refine ⟨_, l5, _, _, rfl, rfl, g5, upd_same, (by show 13 ≤ sizeLine; decide), fun p5 q5 => ?_⟩
    have h6 := put_new (o := .lst [.bl (b 0), .bl (b 1), .bl (b 2), .bl (b 3), .bl (b 4), .bl (b 5), .bl (b 6), .bl (b 7), .bl (b 8), .bl (b 9), .bl (b 10), .bl (b 11), .bl (b 12)]) q5
    have m6 := s5.new (o := .lst [.bl (b 0), .bl (b 1), .bl (b 2), .bl (b 3), .bl (b 4), .bl (b 5), .bl (b 6), .bl (b 7), .bl (b 8), .bl (b 9), .bl (b 10), .bl (b 11), .bl (b 12)]) q5
    walk_at "rd"
    refine ⟨a, D, .ref (C 13), .ref (C 13), b 13, rfl, .own _, ea.same m6, ec, T.eg, kt 13 (by decide), ?_⟩
    walk_at "rd"
    refine ⟨a, D, .ref (C 14), .ref (C 14), b 14, rfl, .own _, ea.same m6, ec, T.eg, kt 14 (by decide), ?_⟩
    walk_at "rd"
    refine ⟨(by show 2 ≤ sizeLine; decide), fun l6 n6 => ?_⟩
    have g6 := (upd_ne (o := .lst [.bl (b 13), .bl (b 14)]) (ne_of_none h6 n6)).trans h6
    have s6 := m6.new (o := .lst [.bl (b 13), .bl (b 14)]) n6
    refine ⟨_, l6, _, _, rfl, rfl, g6, upd_same, (by show 15 ≤ sizeLine; decide), fun p6 q6 => ?_⟩
    have h7 := put_new (o := .lst [.bl (b 0), .bl (b 1), .bl (b 2), .bl (b 3), .bl (b 4), .bl (b 5), .bl (b 6), .bl (b 7), .bl (b 8), .bl (b 9), .bl (b 10), .bl (b 11), .bl (b 12), .bl (b 13), .bl (b 14)]) q6
    have m7 := s6.new (o := .lst [.bl (b 0), .bl (b 1), .bl (b 2), .bl (b 3), .bl (b 4), .bl (b 5), .bl (b 6), .bl (b 7), .bl (b 8), .bl (b 9), .bl (b 10), .bl (b 11), .bl (b 12), .bl (b 13), .bl (b 14)]) q6
    walk_at "rd"
    refine ⟨a, D, .ref (C 15), .ref (C 15), b 15, rfl, .own _, ea.same m7, ec, T.eg, kt 15 (by decide), ?_⟩
    walk_at "rd"
    refine ⟨a, D, .ref (C 16), .ref (C 16), b 16, rfl, .own _, ea.same m7, ec, T.eg, kt 16 (by decide), ?_⟩
    walk_at "rd"
    refine ⟨(by show 2 ≤ sizeLine; decide), fun l7 n7 => ?_⟩
    have g7 := (upd_ne (o := .lst [.bl (b 15), .bl (b 16)]) (ne_of_none h7 n7)).trans h7
    have s7 := m7.new (o := .lst [.bl (b 15), .bl (b 16)]) n7
    refine ⟨_, l7, _, _, rfl, rfl, g7, upd_same, (by show 17 ≤ sizeLine; decide), fun p7 q7 => ?_⟩
    have h8 := put_new (o := .lst [.bl (b 0), .bl (b 1), .bl (b 2), .bl (b 3), .bl (b 4), .bl (b 5), .bl (b 6), .bl (b 7), .bl (b 8), .bl (b 9), .bl (b 10), .bl (b 11), .bl (b 12), .bl (b 13), .bl (b 14), .bl (b 15), .bl (b 16)]) q7
    have m8 := s7.new (o := .lst [.bl (b 0), .bl (b 1), .bl (b 2), .bl (b 3), .bl (b 4), .bl (b 5), .bl (b 6), .bl (b 7), .bl (b 8), .bl (b 9), .bl (b 10), .bl (b 11), .bl (b 12), .bl (b 13), .bl (b 14), .bl (b 15), .bl (b 16)]) q7
    walk_at "rd"
    refine ⟨a, D, .ref (C 17), .ref (C 17), b 17, rfl, .own _, ea.same m8, ec, T.eg, kt 17 (by decide), ?_⟩
    walk_at "rd"
    refine ⟨(by show 1 ≤ sizeLine; decide), fun l8 n8 => ?_⟩
    have g8 := (upd_ne (o := .lst [.bl (b 17)]) (ne_of_none h8 n8)).trans h8
    have s8 := m8.new (o := .lst [.bl (b 17)]) n8
    refine ⟨_, l8, _, _, rfl, rfl, g8, upd_same, (by show 18 ≤ sizeLine; decide), fun p8 q8 => ?_⟩
    have h9 := put_new (o := .lst [.bl (b 0), .bl (b 1), .bl (b 2), .bl (b 3), .bl (b 4), .bl (b 5), .bl (b 6), .bl (b 7), .bl (b 8), .bl (b 9), .bl (b 10), .bl (b 11), .bl (b 12), .bl (b 13), .bl (b 14), .bl (b 15), .bl (b 16), .bl (b 17)]) q8
    have m9 := s8.new (o := .lst [.bl (b 0), .bl (b 1), .bl (b 2), .bl (b 3), .bl (b 4), .bl (b 5), .bl (b 6), .bl (b 7), .bl (b 8), .bl (b 9), .bl (b 10), .bl (b 11), .bl (b 12), .bl (b 13), .bl (b 14), .bl (b 15), .bl (b 16), .bl (b 17)]) q8
    walk_at "rd"
    exact q p8 _ m9 (s8.free q8) upd_same
theorem ok_L_made {f : Addr} {fd : FuncData} {x : V} (F : Fun K "_law_made" "_law_made" s_L_made f fd) (T : Errs K mg C BA) : FnOk P w K mg base CX0 1 f fd [] (spMade C []) := by
  refine F.ok sc_L_made (fun vs H Q E h => ?_) (fun cdv A outer s H vs Q E hr h => ?_)
  · obtain ⟨rfl, _⟩ := h
    rfl
  · obtain ⟨rfl, q⟩ := h
    have nd := sc_L_made.nd
    refine ⟨_, pss_cons (ps_set (i := 0) nd rfl (Or.inl rfl) (pe_lst (pa_cons (pe_exc0 PySem.F.excBase_ValueError (T.ex 0 (by decide)) T.g0 (T.kp 0 (by decide)) (by rfl)) (pa_cons (pe_exc0 PySem.F.excBase_ValueError (T.ex 1 (by decide)) T.g1 (T.kp 1 (by decide)) (by rfl)) (pa_cons (pe_exc0 PySem.F.excBase_ValueError (T.ex 2 (by decide)) T.g2 (T.kp 2 (by decide)) (by rfl)) (pa_cons (pe_exc0 PySem.F.excBase_ValueError (T.ex 3 (by decide)) T.g3 (T.kp 3 (by decide)) (by rfl)) (pa_cons (pe_exc0 PySem.F.excBase_ValueError (T.ex 4 (by decide)) T.g4 (T.kp 4 (by decide)) (by rfl)) pa_nil)))))))
      (pss_cons (ps_set (i := 0) nd rfl (Or.inl rfl) (pe_op op_cat (pv 0) (pe_lst (pa_cons (pe_exc0 PySem.F.excBase_ValueError (T.ex 5 (by decide)) T.g5 (T.kp 5 (by decide)) (by rfl)) (pa_cons (pe_exc0 PySem.F.excBase_ValueError (T.ex 6 (by decide)) T.g6 (T.kp 6 (by decide)) (by rfl)) (pa_cons (pe_exc0 PySem.F.excBase_ValueError (T.ex 7 (by decide)) T.g7 (T.kp 7 (by decide)) (by rfl)) (pa_cons (pe_exc0 PySem.F.excBase_ValueError (T.ex 8 (by decide)) T.g8 (T.kp 8 (by decide)) (by rfl)) (pa_cons (pe_exc0 PySem.F.excBase_ValueError (T.ex 9 (by decide)) T.g9 (T.kp 9 (by decide)) (by rfl)) pa_nil))))))))
      (pss_cons (ps_set (i := 0) nd rfl (Or.inl rfl) (pe_op op_cat (pv 0) (pe_lst (pa_cons (pe_exc0 PySem.F.excBase_ValueError (T.ex 10 (by decide)) T.g10 (T.kp 10 (by decide)) (by rfl)) (pa_cons (pe_exc0 PySem.F.excBase_ValueError (T.ex 11 (by decide)) T.g11 (T.kp 11 (by decide)) (by rfl)) (pa_cons (pe_exc0 PySem.F.excBase_ValueError (T.ex 12 (by decide)) T.g12 (T.kp 12 (by decide)) (by rfl)) (pa_cons (pe_exc0 PySem.F.excBase_ValueError (T.ex 13 (by decide)) T.g13 (T.kp 13 (by decide)) (by rfl)) (pa_cons (pe_exc0 PySem.F.excBase_ValueError (T.ex 14 (by decide)) T.g14 (T.kp 14 (by decide)) (by rfl)) pa_nil))))))))
      (pss_cons (ps_set (i := 0) nd rfl (Or.inl rfl) (pe_op op_cat (pv 0) (pe_lst (pa_cons (pe_exc0 PySem.F.excBase_ValueError (T.ex 15 (by decide)) T.g15 (T.kp 15 (by decide)) (by rfl)) pa_nil))))
      (pss_one (ps_ret (pv 0)))))), ?_⟩
    have m0 : Same H H := Same.refl H
    walk_at "rd"
    intro a0 z0
    have t0 := m0.new (o := ExO (.ref (C 0)) a0) z0
    have e0 := AllErr.snoc (AllErr.nil C H) z0
    intro a1 z1
    have t1 := t0.new (o := ExO (.ref (C 1)) a1) z1
    have e1 := AllErr.snoc e0 z1
    intro a2 z2
    have t2 := t1.new (o := ExO (.ref (C 2)) a2) z2
    have e2 := AllErr.snoc e1 z2
    intro a3 z3
    have t3 := t2.new (o := ExO (.ref (C 3)) a3) z3
    have e3 := AllErr.snoc e2 z3
    intro a4 z4
    have t4 := t3.new (o := ExO (.ref (C 4)) a4) z4
    have e4 := AllErr.snoc e3 z4
    walk_at "rd"
    refine ⟨(by show 5 ≤ sizeLine; decide), fun l0 n0 => ?_⟩
    have u0 := t4.new (o := .lst [.ref a0, .ref a1, .ref a2, .ref a3, .ref a4]) n0
    have x0 := AllErr.new (o := .lst [.ref a0, .ref a1, .ref a2, .ref a3, .ref a4]) e4 n0
    have h0 := put_new (o := .lst [.ref a0, .ref a1, .ref a2, .ref a3, .ref a4]) n0
    walk_at "rd"
    intro a5 z5
    have t5 := u0.new (o := ExO (.ref (C 5)) a5) z5
    have e5 := AllErr.snoc x0 z5
    have h0x5 := (upd_ne (o := ExO (.ref (C 5)) a5) (ne_of_none h0 z5)).trans h0
    intro a6 z6
    have t6 := t5.new (o := ExO (.ref (C 6)) a6) z6
    have e6 := AllErr.snoc e5 z6
    have h0x6 := (upd_ne (o := ExO (.ref (C 6)) a6) (ne_of_none h0x5 z6)).trans h0x5
    intro a7 z7
    have t7 := t6.new (o := ExO (.ref (C 7)) a7) z7
    have e7 := AllErr.snoc e6 z7
    have h0x7 := (upd_ne (o := ExO (.ref (C 7)) a7) (ne_of_none h0x6 z7)).trans h0x6
    intro a8 z8
    have t8 := t7.new (o := ExO (.ref (C 8)) a8) z8
    have e8 := AllErr.snoc e7 z8
    have h0x8 := (upd_ne (o := ExO (.ref (C 8)) a8) (ne_of_none h0x7 z8)).trans h0x7
    intro a9 z9
    have t9 := t8.new (o := ExO (.ref (C 9)) a9) z9
    have e9 := AllErr.snoc e8 z9
    have h0x9 := (upd_ne (o := ExO (.ref (C 9)) a9) (ne_of_none h0x8 z9)).trans h0x8
    walk_at "rd"
    refine ⟨(by show 5 ≤ sizeLine; decide), fun l1 n1 => ?_⟩
    have u1 := t9.new (o := .lst [.ref a5, .ref a6, .ref a7, .ref a8, .ref a9]) n1
    have x1 := AllErr.new (o := .lst [.ref a5, .ref a6, .ref a7, .ref a8, .ref a9]) e9 n1
    have y1 := (upd_ne (o := .lst [.ref a5, .ref a6, .ref a7, .ref a8, .ref a9]) (ne_of_none h0x9 n1)).trans h0x9
    refine ⟨_, l1, _, _, rfl, rfl, y1, upd_same, (by show 10 ≤ sizeLine; decide), fun p1 q1 => ?_⟩
    have v1 := u1.new (o := .lst [.ref a0, .ref a1, .ref a2, .ref a3, .ref a4, .ref a5, .ref a6, .ref a7, .ref a8, .ref a9]) q1
    have h1 := put_new (o := .lst [.ref a0, .ref a1, .ref a2, .ref a3, .ref a4, .ref a5, .ref a6, .ref a7, .ref a8, .ref a9]) q1
    have w1 := AllErr.new (o := .lst [.ref a0, .ref a1, .ref a2, .ref a3, .ref a4, .ref a5, .ref a6, .ref a7, .ref a8, .ref a9]) x1 q1
    walk_at "rd"
    intro a10 z10
    have t10 := v1.new (o := ExO (.ref (C 10)) a10) z10
    have e10 := AllErr.snoc w1 z10
    have h1x10 := (upd_ne (o := ExO (.ref (C 10)) a10) (ne_of_none h1 z10)).trans h1
    intro a11 z11
    have t11 := t10.new (o := ExO (.ref (C 11)) a11) z11
    have e11 := AllErr.snoc e10 z11
    have h1x11 := (upd_ne (o := ExO (.ref (C 11)) a11) (ne_of_none h1x10 z11)).trans h1x10
    intro a12 z12
    have t12 := t11.new (o := ExO (.ref (C 12)) a12) z12
    have e12 := AllErr.snoc e11 z12
    have h1x12 := (upd_ne (o := ExO (.ref (C 12)) a12) (ne_of_none h1x11 z12)).trans h1x11
    intro a13 z13
    have t13 := t12.new (o := ExO (.ref (C 13)) a13) z13
    have e13 := AllErr.snoc e12 z13
    have h1x13 := (upd_ne (o := ExO (.ref (C 13)) a13) (ne_of_none h1x12 z13)).trans h1x12
    intro a14 z14
    have t14 := t13.new (o := ExO (.ref (C 14)) a14) z14
    have e14 := AllErr.snoc e13 z14
    have h1x14 := (upd_ne (o := ExO (.ref (C 14)) a14) (ne_of_none h1x13 z14)).trans h1x13
    walk_at "rd"
    refine ⟨(by show 5 ≤ sizeLine; decide), fun l2 n2 => ?_⟩
    have u2 := t14.new (o := .lst [.ref a10, .ref a11, .ref a12, .ref a13, .ref a14]) n2
    have x2 := AllErr.new (o := .lst [.ref a10, .ref a11, .ref a12, .ref a13, .ref a14]) e14 n2
    have y2 := (upd_ne (o := .lst [.ref a10, .ref a11, .ref a12, .ref a13, .ref a14]) (ne_of_none h1x14 n2)).trans h1x14
    refine ⟨_, l2, _, _, rfl, rfl, y2, upd_same, (by show 15 ≤ sizeLine; decide), fun p2 q2 => ?_⟩
    have v2 := u2.new (o := .lst [.ref a0, .ref a1, .ref a2, .ref a3, .ref a4, .ref a5, .ref a6, .ref a7, .ref a8, .ref a9, .ref a10, .ref a11, .ref a12, .ref a13, .ref a14]) q2
    have h2 := put_new (o := .lst [.ref a0, .ref a1, .ref a2, .ref a3, .ref a4, .ref a5, .ref a6, .ref a7, .ref a8, .ref a9, .ref a10, .ref a11, .ref a12, .ref a13, .ref a14]) q2
    have w2 := AllErr.new (o := .lst [.ref a0, .ref a1, .ref a2, .ref a3, .ref a4, .ref a5, .ref a6, .ref a7, .ref a8, .ref a9, .ref a10, .ref a11, .ref a12, .ref a13, .ref a14]) x2 q2
    walk_at "rd"
    intro a15 z15
    have t15 := v2.new (o := ExO (.ref (C 15)) a15) z15
    have e15 := AllErr.snoc w2 z15
    have h2x15 := (upd_ne (o := ExO (.ref (C 15)) a15) (ne_of_none h2 z15)).trans h2
    walk_at "rd"
    refine ⟨(by show 1 ≤ sizeLine; decide), fun l3 n3 => ?_⟩
    have u3 := t15.new (o := .lst [.ref a15]) n3
    have x3 := AllErr.new (o := .lst [.ref a15]) e15 n3
    have y3 := (upd_ne (o := .lst [.ref a15]) (ne_of_none h2x15 n3)).trans h2x15
    refine ⟨_, l3, _, _, rfl, rfl, y3, upd_same, (by show 16 ≤ sizeLine; decide), fun p3 q3 => ?_⟩
    have v3 := u3.new (o := .lst [.ref a0, .ref a1, .ref a2, .ref a3, .ref a4, .ref a5, .ref a6, .ref a7, .ref a8, .ref a9, .ref a10, .ref a11, .ref a12, .ref a13, .ref a14, .ref a15]) q3
    have h3 := put_new (o := .lst [.ref a0, .ref a1, .ref a2, .ref a3, .ref a4, .ref a5, .ref a6, .ref a7, .ref a8, .ref a9, .ref a10, .ref a11, .ref a12, .ref a13, .ref a14, .ref a15]) q3
    have w3 := AllErr.new (o := .lst [.ref a0, .ref a1, .ref a2, .ref a3, .ref a4, .ref a5, .ref a6, .ref a7, .ref a8, .ref a9, .ref a10, .ref a11, .ref a12, .ref a13, .ref a14, .ref a15]) x3 q3
    walk_at "rd"
    exact q p3 [a0, a1, a2, a3, a4, a5, a6, a7, a8, a9, a10, a11, a12, a13, a14, a15] _ v3 (u3.free q3) rfl h3 w3
theorem ok_L_made_with {f : Addr} {fd : FuncData} {x : V} (F : Fun K "_law_made_with" "_law_made_with" s_L_made_with f fd) (T : Errs K mg C BA) : FnOk P w K mg base CX0 1 f fd ["_law_word"] (spMade C [x]) := by
  refine F.ok sc_L_made_with (fun vs H Q E h => ?_) (fun cdv A outer s H vs Q E hr h => ?_)
  · obtain ⟨rfl, _⟩ := h
    rfl
  · obtain ⟨rfl, q⟩ := h
    have nd := sc_L_made_with.nd
    refine ⟨_, pss_cons (ps_set (i := 1) nd rfl (Or.inl rfl) (pe_lst (pa_cons (pe_exc1 PySem.F.excBase_ValueError (T.ex 0 (by decide)) T.g0 (T.kp 0 (by decide)) (by rfl) (pv 0)) (pa_cons (pe_exc1 PySem.F.excBase_ValueError (T.ex 1 (by decide)) T.g1 (T.kp 1 (by decide)) (by rfl) (pv 0)) (pa_cons (pe_exc1 PySem.F.excBase_ValueError (T.ex 2 (by decide)) T.g2 (T.kp 2 (by decide)) (by rfl) (pv 0)) (pa_cons (pe_exc1 PySem.F.excBase_ValueError (T.ex 3 (by decide)) T.g3 (T.kp 3 (by decide)) (by rfl) (pv 0)) pa_nil))))))
      (pss_cons (ps_set (i := 1) nd rfl (Or.inl rfl) (pe_op op_cat (pv 1) (pe_lst (pa_cons (pe_exc1 PySem.F.excBase_ValueError (T.ex 4 (by decide)) T.g4 (T.kp 4 (by decide)) (by rfl) (pv 0)) (pa_cons (pe_exc1 PySem.F.excBase_ValueError (T.ex 5 (by decide)) T.g5 (T.kp 5 (by decide)) (by rfl) (pv 0)) (pa_cons (pe_exc1 PySem.F.excBase_ValueError (T.ex 6 (by decide)) T.g6 (T.kp 6 (by decide)) (by rfl) (pv 0)) (pa_cons (pe_exc1 PySem.F.excBase_ValueError (T.ex 7 (by decide)) T.g7 (T.kp 7 (by decide)) (by rfl) (pv 0)) pa_nil)))))))
      (pss_cons (ps_set (i := 1) nd rfl (Or.inl rfl) (pe_op op_cat (pv 1) (pe_lst (pa_cons (pe_exc1 PySem.F.excBase_ValueError (T.ex 8 (by decide)) T.g8 (T.kp 8 (by decide)) (by rfl) (pv 0)) (pa_cons (pe_exc1 PySem.F.excBase_ValueError (T.ex 9 (by decide)) T.g9 (T.kp 9 (by decide)) (by rfl) (pv 0)) (pa_cons (pe_exc1 PySem.F.excBase_ValueError (T.ex 10 (by decide)) T.g10 (T.kp 10 (by decide)) (by rfl) (pv 0)) (pa_cons (pe_exc1 PySem.F.excBase_ValueError (T.ex 11 (by decide)) T.g11 (T.kp 11 (by decide)) (by rfl) (pv 0)) pa_nil)))))))
      (pss_cons (ps_set (i := 1) nd rfl (Or.inl rfl) (pe_op op_cat (pv 1) (pe_lst (pa_cons (pe_exc1 PySem.F.excBase_ValueError (T.ex 12 (by decide)) T.g12 (T.kp 12 (by decide)) (by rfl) (pv 0)) (pa_cons (pe_exc1 PySem.F.excBase_ValueError (T.ex 13 (by decide)) T.g13 (T.kp 13 (by decide)) (by rfl) (pv 0)) (pa_cons (pe_exc1 PySem.F.excBase_ValueError (T.ex 14 (by decide)) T.g14 (T.kp 14 (by decide)) (by rfl) (pv 0)) pa_nil))))))
      (pss_cons (ps_set (i := 1) nd rfl (Or.inl rfl) (pe_op op_cat (pv 1) (pe_lst (pa_cons (pe_exc1 PySem.F.excBase_ValueError (T.ex 15 (by decide)) T.g15 (T.kp 15 (by decide)) (by rfl) (pv 0)) pa_nil))))
      (pss_one (ps_ret (pv 1))))))), ?_⟩
    have m0 : Same H H := Same.refl H
    walk_at "rd"
    walk_at "rd"
    intro a0 z0
    have t0 := m0.new (o := ExO (.ref (C 0)) a0) z0
    have e0 := AllErr.snoc (AllErr.nil C H) z0
    walk_at "rd"
    intro a1 z1
    have t1 := t0.new (o := ExO (.ref (C 1)) a1) z1
    have e1 := AllErr.snoc e0 z1
    walk_at "rd"
    intro a2 z2
    have t2 := t1.new (o := ExO (.ref (C 2)) a2) z2
    have e2 := AllErr.snoc e1 z2
    walk_at "rd"
    intro a3 z3
    have t3 := t2.new (o := ExO (.ref (C 3)) a3) z3
    have e3 := AllErr.snoc e2 z3
    walk_at "rd"
    refine ⟨(by show 4 ≤ sizeLine; decide), fun l0 n0 => ?_⟩
    have u0 := t3.new (o := .lst [.ref a0, .ref a1, .ref a2, .ref a3]) n0
    have x0 := AllErr.new (o := .lst [.ref a0, .ref a1, .ref a2, .ref a3]) e3 n0
    have h0 := put_new (o := .lst [.ref a0, .ref a1, .ref a2, .ref a3]) n0
    walk_at "rd"
    walk_at "rd"
    intro a4 z4
    have t4 := u0.new (o := ExO (.ref (C 4)) a4) z4
    have e4 := AllErr.snoc x0 z4
    have h0x4 := (upd_ne (o := ExO (.ref (C 4)) a4) (ne_of_none h0 z4)).trans h0
    walk_at "rd"
    intro a5 z5
    have t5 := t4.new (o := ExO (.ref (C 5)) a5) z5
    have e5 := AllErr.snoc e4 z5
    have h0x5 := (upd_ne (o := ExO (.ref (C 5)) a5) (ne_of_none h0x4 z5)).trans h0x4
    walk_at "rd"
    intro a6 z6
    have t6 := t5.new (o := ExO (.ref (C 6)) a6) z6
    have e6 := AllErr.snoc e5 z6
    have h0x6 := (upd_ne (o := ExO (.ref (C 6)) a6) (ne_of_none h0x5 z6)).trans h0x5
    walk_at "rd"
    intro a7 z7
    have t7 := t6.new (o := ExO (.ref (C 7)) a7) z7
    have e7 := AllErr.snoc e6 z7
    have h0x7 := (upd_ne (o := ExO (.ref (C 7)) a7) (ne_of_none h0x6 z7)).trans h0x6
    walk_at "rd"
    refine ⟨(by show 4 ≤ sizeLine; decide), fun l1 n1 => ?_⟩
    have u1 := t7.new (o := .lst [.ref a4, .ref a5, .ref a6, .ref a7]) n1
    have x1 := AllErr.new (o := .lst [.ref a4, .ref a5, .ref a6, .ref a7]) e7 n1
    have y1 := (upd_ne (o := .lst [.ref a4, .ref a5, .ref a6, .ref a7]) (ne_of_none h0x7 n1)).trans h0x7
    refine ⟨_, l1, _, _, rfl, rfl, y1, upd_same, (by show 8 ≤ sizeLine; decide), fun p1 q1 => ?_⟩
    have v1 := u1.new (o := .lst [.ref a0, .ref a1, .ref a2, .ref a3, .ref a4, .ref a5, .ref a6, .ref a7]) q1
    have h1 := put_new (o := .lst [.ref a0, .ref a1, .ref a2, .ref a3, .ref a4, .ref a5, .ref a6, .ref a7]) q1
    have w1 := AllErr.new (o := .lst [.ref a0, .ref a1, .ref a2, .ref a3, .ref a4, .ref a5, .ref a6, .ref a7]) x1 q1
    walk_at "rd"
    walk_at "rd"
    intro a8 z8
    have t8 := v1.new (o := ExO (.ref (C 8)) a8) z8
    have e8 := AllErr.snoc w1 z8
    have h1x8 := (upd_ne (o := ExO (.ref (C 8)) a8) (ne_of_none h1 z8)).trans h1
    walk_at "rd"
    intro a9 z9
    have t9 := t8.new (o := ExO (.ref (C 9)) a9) z9
    have e9 := AllErr.snoc e8 z9
    have h1x9 := (upd_ne (o := ExO (.ref (C 9)) a9) (ne_of_none h1x8 z9)).trans h1x8
    walk_at "rd"
    intro a10 z10
    have t10 := t9.new (o := ExO (.ref (C 10)) a10) z10
    have e10 := AllErr.snoc e9 z10
    have h1x10 := (upd_ne (o := ExO (.ref (C 10)) a10) (ne_of_none h1x9 z10)).trans h1x9
    walk_at "rd"
    intro a11 z11
    have t11 := t10.new (o := ExO (.ref (C 11)) a11) z11
    have e11 := AllErr.snoc e10 z11
    have h1x11 := (upd_ne (o := ExO (.ref (C 11)) a11) (ne_of_none h1x10 z11)).trans h1x10
    walk_at "rd"
    refine ⟨(by show 4 ≤ sizeLine; decide), fun l2 n2 => ?_⟩
    have u2 := t11.new (o := .lst [.ref a8, .ref a9, .ref a10, .ref a11]) n2
    have x2 := AllErr.new (o := .lst [.ref a8, .ref a9, .ref a10, .ref a11]) e11 n2
    have y2 := (upd_ne (o := .lst [.ref a8, .ref a9, .ref a10, .ref a11]) (ne_of_none h1x11 n2)).trans h1x11
    refine ⟨_, l2, _, _, rfl, rfl, y2, upd_same, (by show 12 ≤ sizeLine; decide), fun p2 q2 => ?_⟩
    have v2 := u2.new (o := .lst [.ref a0, .ref a1, .ref a2, .ref a3, .ref a4, .ref a5, .ref a6, .ref a7, .ref a8, .ref a9, .ref a10, .ref a11]) q2
    have h2 := put_new (o := .lst [.ref a0, .ref a1, .ref a2, .ref a3, .ref a4, .ref a5, .ref a6, .ref a7, .ref a8, .ref a9, .ref a10, .ref a11]) q2
    have w2 := AllErr.new (o := .lst [.ref a0, .ref a1, .ref a2, .ref a3, .ref a4, .ref a5, .ref a6, .ref a7, .ref a8, .ref a9, .ref a10, .ref a11]) x2 q2
    walk_at "rd"
    walk_at "rd"
    intro a12 z12
    have t12 := v2.new (o := ExO (.ref (C 12)) a12) z12
    have e12 := AllErr.snoc w2 z12
    have h2x12 := (upd_ne (o := ExO (.ref (C 12)) a12) (ne_of_none h2 z12)).trans h2
    walk_at "rd"
    intro a13 z13
    have t13 := t12.new (o := ExO (.ref (C 13)) a13) z13
    have e13 := AllErr.snoc e12 z13
    have h2x13 := (upd_ne (o := ExO (.ref (C 13)) a13) (ne_of_none h2x12 z13)).trans h2x12
    walk_at "rd"
    intro a14 z14
    have t14 := t13.new (o := ExO (.ref (C 14)) a14) z14
    have e14 := AllErr.snoc e13 z14
    have h2x14 := (upd_ne (o := ExO (.ref (C 14)) a14) (ne_of_none h2x13 z14)).trans h2x13
    walk_at "rd"
    refine ⟨(by show 3 ≤ sizeLine; decide), fun l3 n3 => ?_⟩
    have u3 := t14.new (o := .lst [.ref a12, .ref a13, .ref a14]) n3
    have x3 := AllErr.new (o := .lst [.ref a12, .ref a13, .ref a14]) e14 n3
    have y3 := (upd_ne (o := .lst [.ref a12, .ref a13, .ref a14]) (ne_of_none h2x14 n3)).trans h2x14
    refine ⟨_, l3, _, _, rfl, rfl, y3, upd_same, (by show 15 ≤ sizeLine; decide), fun p3 q3 => ?_⟩
    have v3 := u3.new (o := .lst [.ref a0, .ref a1, .ref a2, .ref a3, .ref a4, .ref a5, .ref a6, .ref a7, .ref a8, .ref a9, .ref a10, .ref a11, .ref a12, .ref a13, .ref a14]) q3
    have h3 := put_new (o := .lst [.ref a0, .ref a1, .ref a2, .ref a3, .ref a4, .ref a5, .ref a6, .ref a7, .ref a8, .ref a9, .ref a10, .ref a11, .ref a12, .ref a13, .ref a14]) q3
    have w3 := AllErr.new (o := .lst [.ref a0, .ref a1, .ref a2, .ref a3, .ref a4, .ref a5, .ref a6, .ref a7, .ref a8, .ref a9, .ref a10, .ref a11, .ref a12, .ref a13, .ref a14]) x3 q3
    walk_at "rd"
    walk_at "rd"
    intro a15 z15
    have t15 := v3.new (o := ExO (.ref (C 15)) a15) z15
    have e15 := AllErr.snoc w3 z15
    have h3x15 := (upd_ne (o := ExO (.ref (C 15)) a15) (ne_of_none h3 z15)).trans h3
    walk_at "rd"
    refine ⟨(by show 1 ≤ sizeLine; decide), fun l4 n4 => ?_⟩
    have u4 := t15.new (o := .lst [.ref a15]) n4
    have x4 := AllErr.new (o := .lst [.ref a15]) e15 n4
    have y4 := (upd_ne (o := .lst [.ref a15]) (ne_of_none h3x15 n4)).trans h3x15
    refine ⟨_, l4, _, _, rfl, rfl, y4, upd_same, (by show 16 ≤ sizeLine; decide), fun p4 q4 => ?_⟩
    have v4 := u4.new (o := .lst [.ref a0, .ref a1, .ref a2, .ref a3, .ref a4, .ref a5, .ref a6, .ref a7, .ref a8, .ref a9, .ref a10, .ref a11, .ref a12, .ref a13, .ref a14, .ref a15]) q4
    have h4 := put_new (o := .lst [.ref a0, .ref a1, .ref a2, .ref a3, .ref a4, .ref a5, .ref a6, .ref a7, .ref a8, .ref a9, .ref a10, .ref a11, .ref a12, .ref a13, .ref a14, .ref a15]) q4
    have w4 := AllErr.new (o := .lst [.ref a0, .ref a1, .ref a2, .ref a3, .ref a4, .ref a5, .ref a6, .ref a7, .ref a8, .ref a9, .ref a10, .ref a11, .ref a12, .ref a13, .ref a14, .ref a15]) x4 q4
    walk_at "rd"
    exact q p4 [a0, a1, a2, a3, a4, a5, a6, a7, a8, a9, a10, a11, a12, a13, a14, a15] _ v4 (u4.free q4) rfl h4 w4
end
end HT
namespace HT
open PySem L2
/-- law's: a list of at most 63 ints is handed in, True comes out -/
def spLaw (K : PySem.W.Frag) : Sp := fun vs H Q _ => ∃ (l : Addr) (ns : List Int), vs = [.ref l] ∧ SqL K H l (ns.map V.int) ∧ ns.length ≤ 63 ∧ ∀ H', Q (.bl true) H'
abbrev sIT : Stmt := inClass (top 10) 0
abbrev sIL : Stmt := inClass (top 18) 0
theorem scIT : FnScope ["self", "at"] ["self", "at"] (defScope sIT) := ⟨rfl, rfl, rfl, by decide +kernel, rfl, by decide +kernel, by decide +kernel⟩
theorem scIL : FnScope ["self", "line", "reason"] ["self", "line", "reason"] (defScope sIL) := ⟨rfl, rfl, rfl, by decide +kernel, rfl, by decide +kernel, by decide +kernel⟩
def spIT (D : Addr) : Sp := fun vs H Q _ => ∃ (a : Addr) (y : V), vs = [.ref a, y] ∧ H a = some (exo a D none) ∧ ∀ dx, H dx = none → dx ≠ a → Q .non (upd (upd H dx (exd dx [("at", y)])) a (exo a D (some dx)))
def spIL (D : Addr) : Sp := fun vs H Q _ => ∃ (a : Addr) (y z : V), vs = [.ref a, y, z] ∧ H a = some (exo a D none) ∧ ∀ dx, H dx = none → dx ≠ a → Q .non (upd (upd (upd H dx (exd dx [("line", y)])) a (exo a D (some dx))) dx (exd dx [("reason", z), ("line", y)]))
/-- what the walk asks of a class with an own __init__ at fI -/
structure Ini (K : PySem.W.Frag) (D fI : Addr) : Prop where
  o : OexC K D
  xf : XfC K D
  i : PySem.W.findIn K (.ref D) "__init__" = some (some (.ref fI))
  t : PySem.W.typeIn K (.ref fI) = some (.type "function")
/-- an object made by the __init__ that stores one field, two fields -/
theorem made_it {H1 : Hp} {a dx D : Addr} {y : V} (na : H1 a = none) (nd : upd H1 a (exo a D none) dx = none) (ne : dx ≠ a) :
    Same H1 (upd (upd (upd H1 a (exo a D none)) dx (exd dx [("at", y)])) a (exo a D (some dx))) ∧ upd (upd (upd H1 a (exo a D none)) dx (exd dx [("at", y)])) a (exo a D (some dx)) a = some (exo a D (some dx)) ∧
      upd (upd (upd H1 a (exo a D none)) dx (exd dx [("at", y)])) a (exo a D (some dx)) dx = some (exd dx [("at", y)]) := by
  refine ⟨fun b u z => ?_, upd_same, by rw [upd_ne ne, upd_same]⟩
  have n1 := ne_of_none z na
  have z1 := (upd_ne (o := exo a D none) n1).trans z
  rw [upd_ne n1, upd_ne (ne_of_none z1 nd)]
  exact z1
theorem made_il {H1 : Hp} {a dx D : Addr} {y x : V} (na : H1 a = none) (nd : upd H1 a (exo a D none) dx = none) (ne : dx ≠ a) :
    Same H1 (upd (upd (upd (upd H1 a (exo a D none)) dx (exd dx [("line", y)])) a (exo a D (some dx))) dx (exd dx [("reason", x), ("line", y)])) ∧
      upd (upd (upd (upd H1 a (exo a D none)) dx (exd dx [("line", y)])) a (exo a D (some dx))) dx (exd dx [("reason", x), ("line", y)]) a = some (exo a D (some dx)) ∧
      upd (upd (upd (upd H1 a (exo a D none)) dx (exd dx [("line", y)])) a (exo a D (some dx))) dx (exd dx [("reason", x), ("line", y)]) dx = some (exd dx [("reason", x), ("line", y)]) := by
  refine ⟨fun b u z => ?_, by rw [upd_ne ne.symm, upd_same], upd_same⟩
  have n1 := ne_of_none z na
  have z1 := (upd_ne (o := exo a D none) n1).trans z
  rw [upd_ne (ne_of_none z1 nd), upd_ne n1, upd_ne (ne_of_none z1 nd)]
  exact z1
section
variable {P : Program} {w : World} {K : PySem.W.Frag} {mg : Str → Option Value} {base : Heap} {C : Nat → Addr} {BA : Addr}
theorem ok_IT {D f : Addr} {fd : FuncData} (F : Fun K "__init__" "InvalidText.__init__" sIT f fd) (O : OexC K D) (no : PySem.W.findIn K (.ref D) "at" = some none) : FnOk P w K mg base CX0 1 f fd ["self", "at"] (spIT D) := by
  refine F.ok scIT (fun vs H Q E h => ?_) (fun cdv A outer s H vs Q E hr h => ?_)
  · obtain ⟨a, y, rfl, _⟩ := h
    rfl
  · obtain ⟨a, y, rfl, ha, q⟩ := h
    refine ⟨_, pss_one (ps_ost (pv 0) (pv 1)), ?_⟩
    walk_at "rd"
    refine ⟨a, D, rfl, O, no, .inl ⟨ha, fun dx nd ne => ?_⟩⟩
    exact q dx nd ne
theorem ok_IL {D f : Addr} {fd : FuncData} (F : Fun K "__init__" "InvalidLine.__init__" sIL f fd) (O : OexC K D) (n1 : PySem.W.findIn K (.ref D) "line" = some none) (n2 : PySem.W.findIn K (.ref D) "reason" = some none) : FnOk P w K mg base CX0 1 f fd ["self", "line", "reason"] (spIL D) := by
  refine F.ok scIL (fun vs H Q E h => ?_) (fun cdv A outer s H vs Q E hr h => ?_)
  · obtain ⟨a, y, z, rfl, _⟩ := h
    rfl
  · obtain ⟨a, y, z, rfl, ha, q⟩ := h
    refine ⟨_, pss_cons (ps_ost (pv 0) (pv 1)) (pss_one (ps_ost (pv 0) (pv 2))), ?_⟩
    walk_at "rd"
    refine ⟨a, D, rfl, O, n1, .inl ⟨ha, fun dx nd ne => ?_⟩⟩
    walk_at "rd"
    refine ⟨a, D, rfl, O, n2, .inr ⟨dx, [("line", y)], upd_same, (upd_ne ne).trans upd_same, (by show 1 ≤ 900; decide), ?_⟩⟩
    exact q dx nd ne
/-- the reasons, and the one behind each -/
theorem reason_of {x : V} (h : x ∈ [V.str "line", .str "name", .str "value", .str "text"]) : ∃ r r' : Str, x = .str r ∧ PyData.canLay0 (.str r) = true ∧ PyData.canLay0 (.str r') = true ∧ valV (mergeK [] [(Sum.inr "line", V.str "name"), (Sum.inr "name", .str "value"), (Sum.inr "value", .str "text"), (Sum.inr "text", .str "line")]) (Sum.inr r) = some (.str r') := by
  simp only [List.mem_cons, List.not_mem_nil, or_false] at h
  rcases h with h | h | h | h
  · exact ⟨"line", "name", h, by decide +kernel, by decide +kernel, by decide +kernel⟩
  · exact ⟨"name", "value", h, by decide +kernel, by decide +kernel, by decide +kernel⟩
  · exact ⟨"value", "text", h, by decide +kernel, by decide +kernel, by decide +kernel⟩
  · exact ⟨"text", "line", h, by decide +kernel, by decide +kernel, by decide +kernel⟩
theorem word_of {z : Str} {x : V} (h : x ∈ [V.str "", .str "a", .str "wrong", .str z]) : ∃ r : Str, x = .str r := by
  simp only [List.mem_cons, List.not_mem_nil, or_false] at h
  rcases h with h | h | h | h <;> exact ⟨_, h⟩
theorem not_t {b : Bool} (h : (!b) = true) : ¬ b = true := by cases b <;> simp_all
def three (i j : Int) (z : Str) : PyData := .list [.int i, .int j, .str z]
theorem shaped3 (i j : Int) {z : Str} (h : PyData.canLay0 (.str z) = true) : SeqAt.shaped (three i j z) = true := by
  show ((true && (true && (PyData.canLay0 (.str z) && true))) && true) = true
  rw [h]
  rfl
theorem eqv3 (i j : Int) {z : Str} (h : PyData.canLay0 (.str z) = true) : PyData.eqv (three i j z) (three i j z) = true := SeqAt.eqv_refl _ (SeqAt.canLay_of_shaped (shaped3 i j h))
theorem dp3 {K : PySem.W.Frag} {H : Hp} {l : Addr} {i j : Int} {z : Str} (h : H l = some (.lst [.int i, .int j, .str z])) : Dp K H (.ref l) (three i j z) := .lst (SqL.of h) (.cons (.int _) (.cons (.int _) (.cons (.str _) .nil)))
def blD (b : Nat → Bool) : List PyData := (List.range 18).map fun j => PyData.bool (b j)
theorem dpBl {K : PySem.W.Frag} {H : Hp} (b : Nat → Bool) : ∀ l : List Nat, DpAll K H (l.map fun j => V.bl (b j)) (l.map fun j => PyData.bool (b j))
  | [] => .nil
  | j :: r => .cons (.bl _) (dpBl b r)
theorem shapedBl (b : Nat → Bool) : SeqAt.shaped (.list (blD b)) = true := rfl
theorem eqvBl (b : Nat → Bool) : PyData.eqv (.list (blD b)) (.list (blD b)) = true := SeqAt.eqv_refl _ (SeqAt.canLay_of_shaped (shapedBl b))
/-- a list of eighteen objects, one of each class -/
structure Row (C : Nat → Addr) (H : Hp) (p : Addr) (as : List Addr) : Prop where
  len : as.length = 18
  at' : H p = some (.lst (as.map V.ref))
  all : AllErr C H as
theorem Row.same {C : Nat → Addr} {H H' : Hp} {p : Addr} {as : List Addr} (r : Row C H p as) (m : Same H H') : Row C H' p as := ⟨r.len, m _ _ r.at', fun i a z => (r.all i a z).same m⟩
theorem row_mk {C : Nat → Addr} {H : Hp} {p x y : Addr} {as : List Addr} (l : as.length = 16) (h : H p = some (.lst (as.map V.ref ++ [.ref x, .ref y]))) (e : AllErr C H as) (ex : ErrAt H x (C 16)) (ey : ErrAt H y (C 17)) : Row C H p (as ++ [x, y]) := by
  refine ⟨by rw [List.length_append, l]; rfl, by rw [List.map_append]; exact h, fun i a z => ?_⟩
  by_cases hi : i < as.length
  · rw [List.getElem?_append_left hi] at z
    exact e i a z
  · rw [List.getElem?_append_right (by omega)] at z
    have hl := (List.getElem?_eq_some_iff.mp z).1
    have hl' : i - as.length < 2 := hl
    rcases (by omega : i = 16 ∨ i = 17) with q | q <;> subst q <;> rw [l] at z <;> cases z
    · exact ex
    · exact ey
theorem at_ref {as : List Addr} {i : Nat} (h : i < as.length) : atI (as.map V.ref) (0 + (i : Int)) = some (.ref as[i]) := by
  unfold atI
  rw [ixN_in (by omega) (by rw [List.length_map]; omega)]
  show (as.map V.ref)[(0 + (i : Int)).toNat]? = _
  rw [show (0 + (i : Int)).toNat = i by omega, List.getElem?_map, List.getElem?_eq_getElem h]
  rfl
theorem in_none {b : Nat → Bool} (h : ∀ j, j < 18 → b j = false) : inV (.bl true) (blV b) = false := by
  unfold inV blV
  rw [List.any_map, List.any_eq_false]
  intro j hj
  have := h j (List.mem_range.mp hj)
  show ¬ eqV (.bl (b j)) (.bl true) = true
  rw [this]
  decide
theorem blV_flat (b : Nat → Bool) : (blV b).all flatV = true := by
  unfold blV
  rw [List.all_map, List.all_eq_true]
  intro j _
  rfl

theorem ok_law {f fS fP fD fK fM fW fT fL : Addr} {fd dS dP dD dK dM dT dL : FuncData} {dW : FuncData} (F : Fun K "law" "law" s_law f fd) (T : Errs K mg C BA) (B : Blt mg) (So : Cal P w K mg base "_law_source" 1 ["_law_script"] (spSource K) fS dS)
    (Dr : Cal P w K mg base "_law_draw" 1 ["_law_source_here", "_law_limit"] spDraw fD dD) (Pk : Cal P w K mg base "_law_pick" 2 ["_law_source_here", "_law_values"] spPick fP dP) (Kd : Cal P w K mg base "_law_kinds" 1 ["_law_e"] (spKinds K C) fK dK)
    (Md : Cal P w K mg base "_law_made" 1 [] (spMade C []) fM dM) (MwA : ∀ x, Cal P w K mg base "_law_made_with" 1 ["_law_word"] (spMade C [x]) fW dW) (IT : Ini K (C 16) fT) (IL : Ini K (C 17) fL)
    (GT : FnOk P w K mg base CX0 1 fT dT ["self", "at"] (spIT (C 16))) (bT : Binds K dT ["self", "at"] []) (GL : FnOk P w K mg base CX0 1 fL dL ["self", "line", "reason"] (spIL (C 17))) (bL : Binds K dL ["self", "line", "reason"] [])
    (nat : PySem.W.findIn K (.ref (C 16)) "at" = some none) (nli : PySem.W.findIn K (.ref (C 17)) "line" = some none) (nre : PySem.W.findIn K (.ref (C 17)) "reason" = some none) : FnOk P w K mg base CX0 6 f fd ["_law_script"] (spLaw K) := by
  refine F.ok sc_law (fun vs H Q E h => ?_) (fun cdv A outer s H vs Q E hr h => ?_)
  · obtain ⟨l, ns, rfl, _⟩ := h
    rfl
  · obtain ⟨l, ns, rfl, hL, hn, q⟩ := h
    have nd := sc_law.nd
    have Mw : Cal P w K mg base "_law_made_with" 1 ["_law_word"] (fun vs H Q E => ∃ x, spMade C [x] vs H Q E) fW dW := ⟨⟨fun vs H Q E z => by obtain ⟨x, z⟩ := z; exact (MwA x).ok.len vs H Q E z, fun A outer s H args us vs Q E hr he hb hv z => by obtain ⟨x, z⟩ := z; exact (MwA x).ok.run A outer s H args us vs Q E hr he hb hv z⟩, (MwA .non).gl, (MwA .non).kp, (MwA .non).bd⟩
    refine ⟨_, pss_cons (ps_set (i := 1) nd rfl (Or.inl rfl) (pcl So hr (by decide) (by rfl) (pa_cons (pv 0) pa_nil)))
      (pss_cons (ps_set (i := 2) nd rfl (Or.inl rfl) (pcl Pk hr (by decide) (by rfl) (pa_cons (pv 1) (pa_cons (pe_lst (pa_cons pe_str (pa_cons pe_str (pa_cons pe_str (pa_cons (pe_op op_mul_str pe_str pe_int) pa_nil))))) pa_nil))))
      (pss_cons (ps_par (i := 3) (j := 4) (by rfl) nd rfl rfl (by decide) rfl rfl (pa_cons (pcl Dr hr (by decide) (by rfl) (pa_cons (pv 1) (pa_cons pe_int pa_nil))) (pa_cons (pcl Pk hr (by decide) (by rfl) (pa_cons (pv 1) (pa_cons (pe_lst (pa_cons pe_str (pa_cons pe_str (pa_cons pe_str (pa_cons pe_str pa_nil))))) pa_nil))) pa_nil)) (by rfl))
      (pss_cons (ps_set (i := 5) nd rfl (Or.inl rfl) (pe_lst (pa_cons (pe_oex IT.o IT.i IT.t GT (hr.mono (by decide)) bT .nil pass0 (by rfl) T.g16 (pa_cons (pv 3) pa_nil)) (pa_cons (pe_oex IL.o IL.i IL.t GL (hr.mono (by decide)) bL .nil pass0 (by rfl) T.g17 (pa_cons (pv 3) (pa_cons (pv 4) pa_nil))) pa_nil))))
      (pss_cons (ps_set (i := 6) nd rfl (Or.inl rfl) (pe_dget (hu_of hr) (pe_disp (pps_cons pe_str pe_str (pps_cons pe_str pe_str (pps_cons pe_str pe_str (pps_cons pe_str pe_str pps_nil)))) (by rfl) (by rfl) (fun z => by cases z) (by decide)) (pv 4) (fun _ _ => rfl)))
      (pss_cons (ps_set (i := 7) nd rfl (Or.inl rfl) (pe_lst (pa_cons (pe_oex IT.o IT.i IT.t GT (hr.mono (by decide)) bT .nil pass0 (by rfl) T.g16 (pa_cons (pe_op op_add (pv 3) pe_int) pa_nil)) (pa_cons (pe_oex IL.o IL.i IL.t GL (hr.mono (by decide)) bL .nil pass0 (by rfl) T.g17 (pa_cons (pe_op op_add (pv 3) pe_int) (pa_cons (pv 6) pa_nil))) pa_nil))))
      (pss_cons (ps_if (pt_cmpR (op_neD hr.units) (pe_lst (pa_cons (pe_eat (pe_ix ix_list (pv 5) pe_int (fun _ _ => rfl))) (pa_cons (pe_eat (pe_ix ix_list (pv 5) pe_int (fun _ _ => rfl))) (pa_cons (pe_eat (pe_ix ix_list (pv 5) pe_int (fun _ _ => rfl))) pa_nil)))) (pe_lst (pa_cons (pv 3) (pa_cons (pv 3) (pa_cons (pv 4) pa_nil)))) (nomark _)) (pss_one (ps_ret pe_bl)) pss_nil)
      (pss_cons (ps_if (pt_cmpR (op_neD hr.units) (pe_lst (pa_cons (pe_eat (pe_ix ix_list (pv 7) pe_int (fun _ _ => rfl))) (pa_cons (pe_eat (pe_ix ix_list (pv 7) pe_int (fun _ _ => rfl))) (pa_cons (pe_eat (pe_ix ix_list (pv 7) pe_int (fun _ _ => rfl))) pa_nil)))) (pe_lst (pa_cons (pe_op op_add (pv 3) pe_int) (pa_cons (pe_op op_add (pv 3) pe_int) (pa_cons (pv 6) pa_nil)))) (nomark _)) (pss_one (ps_ret pe_bl)) pss_nil)
      (pss_cons (ps_if (PW.pt (pw_or (pt_cmpR op_in_seq pe_bl (pcl Kd hr (by decide) (by rfl) (pa_cons (pe_exc0 PySem.F.excBase_ValueError T.exB T.gB T.kpB (by rfl)) pa_nil)) (by rfl)) (pw_or1 (pt_cmpR op_in_seq pe_bl (pcl Kd hr (by decide) (by rfl) (pa_cons (pe_exc1 PySem.F.excBase_ValueError T.exB T.gB T.kpB (by rfl) (pv 2)) pa_nil)) (by rfl))))) (pss_one (ps_ret pe_bl)) pss_nil)
      (pss_cons (ps_for PassesOwn.never rfl (pi_list (pe_lst (pa_cons (pe_op op_cat (pe_call0 Md.ok (hr.mono (by decide)) (by rfl) Md.gl Md.kp Md.bd .nil pass0) (pv 5)) (pa_cons (pe_op op_cat (pcl Mw hr (by decide) (by rfl) (pa_cons (pv 2) pa_nil)) (pv 7)) pa_nil)))) (pg_name (i := 8) nd rfl (Or.inl rfl)) (pss_one (ps_for PassesOwn.never rfl (pi_range1 (by rfl) B.range (pa_cons (pe_callB call_len_seq (by rfl) B.len PySem.boot_len (pa_cons (pv 8) pa_nil)) pa_nil)) (pg_name (i := 9) nd rfl (Or.inr rfl)) (pss_cons (ps_if (pt_cmpR (op_neD hr.units) (pcl Kd hr (by decide) (by rfl) (pa_cons (pe_ix ix_list (pv 8) (pv 9) (fun _ _ => rfl)) pa_nil)) (pe_lc (own := [("_law_k", 10)]) (g := gName 10) (tt := tYes) rfl nd (pi_range1 (by rfl) B.range (pa_cons (pe_callB call_len_seq (by rfl) B.len PySem.boot_len (pa_cons (pv 8) pa_nil)) pa_nil)) (blkOk_by (N := ["_law_script", "_law_source_here", "_law_word", "_law_line", "_law_reason", "_law_last", "_law_further", "_law_more", "_law_made_here", "_law_at", "_law_k"]) (sc := defScope s_law) (by decide +kernel)) (fun _ _ _ _ _ => pg_name (i := 10) nd rfl (Or.inl rfl)) (fun _ _ _ _ _ => pts_nil) (fun _ _ _ _ _ => pe_cmpR op_eq (pv 10) (pv 9) (nomark _))) (nomark _)) (pss_one (ps_ret pe_bl)) pss_nil)
      (pss_one (ps_if (PW.pt (pw_or (pt_not (pt_val (pe_callB call_isX (by rfl) T.isi (by decide +kernel) (pa_cons (pe_ix ix_list (pv 8) (pv 9) (fun _ _ => rfl)) (pa_cons (pe_glob (v := .ref BA) (by rfl) T.gB rfl) pa_nil))))) (pw_or1 (pt_not (pt_val (pe_callB call_isX (by rfl) T.isi (by decide +kernel) (pa_cons (pe_ix ix_list (pv 8) (pv 9) (fun _ _ => rfl)) (pa_cons (pe_bltn (v := .ty "ValueError") (by rfl) T.ve (by decide +kernel) rfl) pa_nil))))))))  (pss_one (ps_ret pe_bl)) pss_nil))))))
      (pss_one (ps_ret pe_bl))))))))))), ?_⟩
    walk_at "rd"
    refine ⟨l, ns, rfl, hL, hn, fun a c H0 sm na nc S0 => ?_⟩
    walk_at "rd"
    refine ⟨(by unfold MulOk; decide +kernel), ?_⟩
    refine ⟨(by show 4 ≤ sizeLine; decide), fun l1 nl1 => ?_⟩
    obtain ⟨la1, lc1⟩ := S0.na nl1
    refine ⟨a, c, 0, l1, _, rfl, S0.new nl1, by decide, upd_same, la1, lc1, (by show 0 < 4; decide), (by show 4 < 2 ^ 60; decide), fun x1 H1 hx1 S1 O1 => ?_⟩
    obtain ⟨wd, rfl⟩ := word_of hx1
    walk_at "rd"
    refine ⟨a, c, 1, 1000, rfl, S1, by decide, by decide, by decide, fun ln H2 ln0 ln1 S2 O2 => ?_⟩
    walk_at "rd"
    refine ⟨(by show 4 ≤ sizeLine; decide), fun l3 nl3 => ?_⟩
    obtain ⟨la3, lc3⟩ := S2.na nl3
    refine ⟨a, c, _, l3, _, rfl, S2.new nl3, by decide, upd_same, la3, lc3, (by show 0 < 4; decide), (by show 4 < 2 ^ 60; decide), fun x3 H3 hx3 S3 O3 => ?_⟩
    obtain ⟨rs, rs', rfl, cl1, cl2, hrs⟩ := reason_of hx3
    walk_at "rd"
    refine ⟨_, _, rfl, ?_⟩
    -- the last two
    walk_at "rd"
    refine ⟨(by show 1 ≤ 1000; decide), fun a1 z1 => ?_⟩
    refine ⟨a1, .int ln, rfl, upd_same, fun d1 w1 v1 => ⟨rfl, ?_⟩⟩
    obtain ⟨m1, e1, f1⟩ := made_it (y := V.int ln) z1 w1 v1
    generalize upd (upd (upd H3 a1 (exo a1 (C 16) none)) d1 (exd d1 [("at", V.int ln)])) a1 (exo a1 (C 16) (some d1)) = G1 at m1 e1 f1 ⊢
    walk_at "rd"
    refine ⟨(by show 2 ≤ 1000; decide), fun a2 z2 => ?_⟩
    refine ⟨a2, .int ln, .str rs, rfl, upd_same, fun d2 w2 v2 => ⟨rfl, ?_⟩⟩
    obtain ⟨m2, e2, f2⟩ := made_il (y := V.int ln) (x := V.str rs) z2 w2 v2
    generalize upd (upd (upd (upd G1 a2 (exo a2 (C 17) none)) d2 (exd d2 [("line", V.int ln)])) a2 (exo a2 (C 17) (some d2))) d2 (exd d2 [("reason", V.str rs), ("line", V.int ln)]) = G2 at m2 e2 f2 ⊢
    have e1' := m2 _ _ e1
    have f1' := m2 _ _ f1
    walk_at "rd"
    refine ⟨(by show 2 ≤ sizeLine; decide), fun la nla => ?_⟩
    have m3 := (Same.refl G2).new (o := .lst [.ref a1, .ref a2]) nla
    have hla := put_new (o := .lst [.ref a1, .ref a2]) nla
    generalize upd G2 la (.lst [.ref a1, .ref a2]) = G3 at m3 hla ⊢
    -- further
    walk_at "rd"
    intro dk ndk
    walk_at "rd"
    refine ⟨upd_same, [(Sum.inr "line", V.str "name"), (Sum.inr "name", .str "value"), (Sum.inr "value", .str "text"), (Sum.inr "text", .str "line")], rfl, by decide, ?_⟩
    have hdk : upd (upd G3 dk (.dK [])) dk (.dK (mergeK [] [(Sum.inr "line", V.str "name"), (Sum.inr "name", .str "value"), (Sum.inr "value", .str "text"), (Sum.inr "text", .str "line")])) dk = some (.dK (mergeK [] [(Sum.inr "line", V.str "name"), (Sum.inr "name", .str "value"), (Sum.inr "value", .str "text"), (Sum.inr "text", .str "line")])) := upd_same
    have m4 : Same G3 (upd (upd G3 dk (.dK [])) dk (.dK (mergeK [] [(Sum.inr "line", V.str "name"), (Sum.inr "name", .str "value"), (Sum.inr "value", .str "text"), (Sum.inr "text", .str "line")]))) := fun b u z => by rw [upd_upd, upd_ne (ne_of_none z ndk)]; exact z
    generalize upd (upd G3 dk (.dK [])) dk (.dK (mergeK [] [(Sum.inr "line", V.str "name"), (Sum.inr "name", .str "value"), (Sum.inr "value", .str "text"), (Sum.inr "text", .str "line")])) = G4 at m4 hdk ⊢
    walk_at "rd"
    refine ⟨dk, .str rs', rfl, (by rw [← hrs]; exact DGet.k (k := Sum.inr rs) hdk), ?_⟩
    have m24 := m3.trans m4
    -- the more two
    walk_at "rd"
    refine ⟨(by show 1 ≤ 1000; decide), fun a5 z5 => ?_⟩
    refine ⟨a5, .int (ln + 1), rfl, upd_same, fun d5 w5 v5 => ⟨rfl, ?_⟩⟩
    obtain ⟨m5, e5, f5⟩ := made_it (y := V.int (ln + 1)) z5 w5 v5
    generalize upd (upd (upd G4 a5 (exo a5 (C 16) none)) d5 (exd d5 [("at", V.int (ln + 1))])) a5 (exo a5 (C 16) (some d5)) = G5 at m5 e5 f5 ⊢
    walk_at "rd"
    refine ⟨(by show 2 ≤ 1000; decide), fun a6 z6 => ?_⟩
    refine ⟨a6, .int (ln + 2), .str rs', rfl, upd_same, fun d6 w6 v6 => ⟨rfl, ?_⟩⟩
    obtain ⟨m6, e6, f6⟩ := made_il (y := V.int (ln + 2)) (x := V.str rs') z6 w6 v6
    generalize upd (upd (upd (upd G5 a6 (exo a6 (C 17) none)) d6 (exd d6 [("line", V.int (ln + 2))])) a6 (exo a6 (C 17) (some d6))) d6 (exd d6 [("reason", V.str rs'), ("line", V.int (ln + 2))]) = G6 at m6 e6 f6 ⊢
    walk_at "rd"
    refine ⟨(by show 2 ≤ sizeLine; decide), fun lb nlb => ?_⟩
    have m7 := (Same.refl G6).new (o := .lst [.ref a5, .ref a6]) nlb
    have hlb := put_new (o := .lst [.ref a5, .ref a6]) nlb
    generalize upd G6 lb (.lst [.ref a5, .ref a6]) = G7 at m7 hlb ⊢
    have m37 : Same G3 G7 := ((m4.trans m5).trans m6).trans m7
    have m27 : Same G2 G7 := m3.trans m37
    have m57 : Same G5 G7 := m6.trans m7
    have A1 := m27 _ _ e1'
    have A1d := m27 _ _ f1'
    have A2 := m27 _ _ e2
    have A2d := m27 _ _ f2
    have B1 := m57 _ _ e5
    have B1d := m57 _ _ f5
    have B2 := m7 _ _ e6
    have B2d := m7 _ _ f6
    have LA := m37 _ _ hla
    walk_at "rd"
    refine ⟨la, _, 0, _, rfl, rfl, SqL.of LA, rfl, ?_⟩
    refine ⟨a1, C 16, d1, _, .int ln, rfl, IT.xf, nat, A1, A1d, rfl, ?_⟩
    walk_at "rd"
    refine ⟨la, _, 1, _, rfl, rfl, SqL.of LA, rfl, ?_⟩
    refine ⟨a2, C 17, d2, _, .int ln, rfl, IL.xf, nli, A2, A2d, rfl, ?_⟩
    walk_at "rd"
    refine ⟨la, _, 1, _, rfl, rfl, SqL.of LA, rfl, ?_⟩
    refine ⟨a2, C 17, d2, _, .str rs, rfl, IL.xf, nre, A2, A2d, rfl, ?_⟩
    walk_at "rd"
    refine ⟨(by show 3 ≤ sizeLine; decide), fun l8 n8 => ?_⟩
    have m8 := (Same.refl G7).new (o := .lst [.int ln, .int ln, .str rs]) n8
    have h8 := put_new (o := .lst [.int ln, .int ln, .str rs]) n8
    generalize upd G7 l8 (.lst [.int ln, .int ln, .str rs]) = G8 at m8 h8 ⊢
    walk_at "rd"
    refine ⟨(by show 3 ≤ sizeLine; decide), fun l9 n9 => ?_⟩
    have m9 := (Same.refl G8).new (o := .lst [.int ln, .int ln, .str rs]) n9
    have h9 := put_new (o := .lst [.int ln, .int ln, .str rs]) n9
    have h8' := m9 _ _ h8
    refine ⟨_, _, dp3 h8', dp3 h9, shaped3 _ _ cl1, shaped3 _ _ cl1, ?_⟩
    walk_at "rd"
    refine ite2 (fun h => (not_t h (eqv3 _ _ cl1)).elim) (fun _ => ?_)
    generalize upd G8 l9 (.lst [.int ln, .int ln, .str rs]) = G9 at m9 ⊢
    have m79 := m8.trans m9
    have LB := m79 _ _ hlb
    have A1 := m79 _ _ A1
    have A1d := m79 _ _ A1d
    have A2 := m79 _ _ A2
    have A2d := m79 _ _ A2d
    have B1 := m79 _ _ B1
    have B1d := m79 _ _ B1d
    have B2 := m79 _ _ B2
    have B2d := m79 _ _ B2d
    have LA := m79 _ _ LA
    walk_at "rd"
    refine ⟨lb, _, 0, _, rfl, rfl, SqL.of LB, rfl, ?_⟩
    refine ⟨a5, C 16, d5, _, .int (ln + 1), rfl, IT.xf, nat, B1, B1d, rfl, ?_⟩
    walk_at "rd"
    refine ⟨lb, _, 1, _, rfl, rfl, SqL.of LB, rfl, ?_⟩
    refine ⟨a6, C 17, d6, _, .int (ln + 2), rfl, IL.xf, nli, B2, B2d, rfl, ?_⟩
    walk_at "rd"
    refine ⟨lb, _, 1, _, rfl, rfl, SqL.of LB, rfl, ?_⟩
    refine ⟨a6, C 17, d6, _, .str rs', rfl, IL.xf, nre, B2, B2d, rfl, ?_⟩
    walk_at "rd"
    refine ⟨(by show 3 ≤ sizeLine; decide), fun l10 n10 => ?_⟩
    have m10 := (Same.refl G9).new (o := .lst [.int (ln + 1), .int (ln + 2), .str rs']) n10
    have h10 := put_new (o := .lst [.int (ln + 1), .int (ln + 2), .str rs']) n10
    generalize upd G9 l10 (.lst [.int (ln + 1), .int (ln + 2), .str rs']) = G10 at m10 h10 ⊢
    walk_at "rd"
    refine ⟨(by show 3 ≤ sizeLine; decide), fun l11 n11 => ?_⟩
    have m11 := (Same.refl G10).new (o := .lst [.int (ln + 1), .int (ln + 2), .str rs']) n11
    have h11 := put_new (o := .lst [.int (ln + 1), .int (ln + 2), .str rs']) n11
    have h10' := m11 _ _ h10
    refine ⟨_, _, dp3 h10', dp3 h11, shaped3 _ _ cl2, shaped3 _ _ cl2, ?_⟩
    walk_at "rd"
    refine ite2 (fun h => (not_t h (eqv3 _ _ cl2)).elim) (fun _ => ?_)
    have m911 := m10.trans m11
    -- the base class
    walk_at "rd"
    intro ah zh
    have m12 := m911.new (o := ExO (.ref BA) ah) zh
    refine ⟨ah, BA, fun _ => false, rfl, .plain (put_new zh), T.ecB, fun j hj => T.kitN j hj, fun lk H12 sm12 nlk hlk => ?_⟩
    refine ⟨lk, _, rfl, .inl (SqL.of hlk), rfl, blV_flat _, ?_⟩
    walk_at "rd"
    have m912 := m12.trans sm12
    walk_at "rd"
    intro ai zi
    have m13 := m912.new (o := ExO (.ref BA) ai) zi
    refine ⟨ai, BA, fun _ => false, rfl, .plain (put_new zi), T.ecB, fun j hj => T.kitN j hj, fun lk2 H13 sm13 nlk2 hlk2 => ?_⟩
    refine ⟨lk2, _, rfl, .inl (SqL.of hlk2), rfl, blV_flat _, ?_⟩
    walk_at "rd"
    have m913 := m13.trans sm13
    -- the two rows
    walk_at "rd"
    refine ⟨rfl, fun lm as H14 sm14 nlm alen hlm aall => ?_⟩
    have m914 := m913.trans sm14
    walk_at "rd"
    refine ⟨lm, la, _, _, rfl, rfl, hlm, m914 _ _ LA, (by rw [List.length_map, alen]; show 18 ≤ sizeLine; decide), fun p1 np1 => ?_⟩
    have m15 := (Same.refl H14).new (o := .lst (as.map V.ref ++ [.ref a1, .ref a2])) np1
    have m915 := m914.trans m15
    have r1 := row_mk (C := C) (x := a1) (y := a2) alen (put_new np1) (aall.new np1) (.made d1 _ (m915 _ _ A1) (m915 _ _ A1d)) (.made d2 _ (m915 _ _ A2) (m915 _ _ A2d))
    generalize upd H14 p1 (.lst (as.map V.ref ++ [.ref a1, .ref a2])) = H15 at m15 m915 r1 ⊢
    walk_at "rd"
    refine fun lw bs H16 sm16 nlw blen hlw ball => ?_
    have m916 := m915.trans sm16
    walk_at "rd"
    refine ⟨lw, lb, _, _, rfl, rfl, hlw, m916 _ _ LB, (by rw [List.length_map, blen]; show 18 ≤ sizeLine; decide), fun p2 np2 => ?_⟩
    have m17 := (Same.refl H16).new (o := .lst (bs.map V.ref ++ [.ref a5, .ref a6])) np2
    have m917 := m916.trans m17
    have r2 := row_mk (C := C) (x := a5) (y := a6) blen (put_new np2) (ball.new np2) (.made d5 _ (m917 _ _ B1) (m917 _ _ B1d)) (.made d6 _ (m917 _ _ B2) (m917 _ _ B2d))
    have r1 := (r1.same sm16).same m17
    generalize upd H16 p2 (.lst (bs.map V.ref ++ [.ref a5, .ref a6])) = H17 at r1 r2 ⊢
    walk_at "rd"
    refine ⟨(by show 2 ≤ sizeLine; decide), fun lo nlo => ?_⟩
    have r1 := r1.same ((Same.refl H17).new (o := .lst [.ref p1, .ref p2]) nlo)
    have r2 := r2.same ((Same.refl H17).new (o := .lst [.ref p1, .ref p2]) nlo)
    have hlo := put_new (o := .lst [.ref p1, .ref p2]) nlo
    generalize upd H17 lo (.lst [.ref p1, .ref p2]) = G at r1 r2 hlo ⊢
    refine ⟨lo, rfl, ⟨_, SqL.of hlo⟩, ?_⟩
    refine for_list (K := K) (a := lo) (xs := [.ref p1, .ref p2]) (fun _ σ H1 => ∃ x8 x9 : Option V, σ = [some (.ref l), some (.ref a), some (.str wd), some (.int ln), some (.str rs), some (.ref la), some (.str rs'), some (.ref lb), x8, x9, none] ∧ Same G H1)
      ⟨none, none, rfl, Same.refl G⟩ (fun _ _ _ _ ⟨_, _, _, m⟩ => SqL.of (m _ _ hlo)) ?_ ?_
    · rintro i x σ H1 hx ⟨x8, x9, rfl, mG⟩
      obtain ⟨p, cs, rfl, rp⟩ : ∃ p cs, x = V.ref p ∧ Row C G p cs := by
        have hi : i < 2 := (List.getElem?_eq_some_iff.mp hx).1
        rcases (by omega : i = 0 ∨ i = 1) with e | e <;> subst e <;> cases hx
        · exact ⟨p1, _, rfl, r1⟩
        · exact ⟨p2, _, rfl, r2⟩
      have rp1 := rp.same mG
      have lenE : ((cs.map V.ref).length : Int).toNat = 18 := by rw [List.length_map, rp.len]; rfl
      walk_at "rd"
      refine ⟨p, _, rfl, .inl (SqL.of rp1.at'), _, rfl, by omega, (by rw [List.length_map, rp.len]; decide), ?_⟩
      rw [lenE]
      refine for_range (n := 18) (fun _ σ H2 => ∃ x9 : Option V, σ = [some (.ref l), some (.ref a), some (.str wd), some (.int ln), some (.str rs), some (.ref la), some (.str rs'), some (.ref lb), some (.ref p), x9, none] ∧ Same G H2) ⟨x9, rfl, mG⟩ ?_ ?_
      · rintro k σ H2 hk ⟨x9, rfl, m2⟩
        have rp2 := rp.same m2
        have hk' : k < cs.length := by rw [rp.len]; exact hk
        have ek : cs[k]? = some cs[k] := List.getElem?_eq_getElem hk'
        walk_at "rd"
        refine ⟨p, _, _, _, rfl, rfl, SqL.of rp2.at', at_ref hk', ?_⟩
        refine ⟨cs[k], C k, fun j => decide (k = j), rfl, rp2.all _ _ ek, T.ec k hk, fun j hj => T.kit k j hk hj, fun lk3 H3 sm3 nlk3 hlk3 => ?_⟩
        have mG3 := m2.trans sm3
        have rp3 := rp.same mG3
        walk_at "rd"
        refine ⟨p, _, rfl, .inl (SqL.of rp3.at'), _, rfl, by omega, (by rw [List.length_map, rp.len]; decide), fun D nD => ?_⟩
        rw [lenE]
        refine lc_range (lo := 0) (n := 18) (fun j H5 => H5 D = some (.lst ((List.range j).map fun t => V.bl (decide (k = t)))) ∧ Same H3 H5) ⟨upd_same, fun b u z => (upd_ne (ne_of_none z nD)).trans z⟩ ?_ ?_
        · rintro j H5 hj ⟨hD, m5⟩
          refine ⟨rfl, ?_⟩
          walk_at "rd"
          refine ⟨rfl, _, hD, (by rw [List.length_map, List.length_range]; exact Nat.lt_trans hj (by decide)), ?_⟩
          have ev : (V.bl (decide (V.int (0 + (j : Int)) = V.int (0 + (k : Int))))) = .bl (decide (k = j)) := by
            by_cases z : k = j
            · subst z
              rw [decide_eq_true rfl, decide_eq_true rfl]
            · rw [decide_eq_false z, decide_eq_false]
              intro y
              have := V.int.inj y
              exact z (by omega)
          have el : ((List.range j).map fun t => V.bl (decide (k = t))) ++ [V.bl (decide (V.int (0 + (j : Int)) = V.int (0 + (k : Int))))] = (List.range (j + 1)).map fun t => V.bl (decide (k = t)) := by
            rw [ev, List.range_succ, List.map_append]
            rfl
          refine ⟨upd_same.trans (congrArg (fun y => some (HO.lst y)) el), fun b u z => ?_⟩
          have zb : b ≠ D := fun y => by
            subst y
            exact ne_of_none z nD rfl
          rw [upd_ne zb]
          exact m5 _ _ z
        · rintro H5 ⟨hD, m5⟩
          have hb := m5 _ _ hlk3
          have mG5 := mG3.trans m5
          have rp5 := rp.same mG5
          refine ⟨_, _, .lst (SqL.of hb) (dpBl _ _), .lst (SqL.of hD) (dpBl _ _), shapedBl _, shapedBl _, ?_⟩
          walk_at "rd"
          refine ite2 (fun h => (not_t h (eqvBl _)).elim) (fun _ => ?_)
          walk_at "rd"
          refine ⟨p, _, _, _, rfl, rfl, SqL.of rp5.at', at_ref hk', ?_⟩
          refine ⟨cs[k], C k, .ref BA, .ref BA, true, rfl, .own _, rp5.all _ _ ek, T.ec k hk, T.eg, T.kitB k hk, ?_⟩
          walk_at "rd"
          refine ⟨p, _, _, _, rfl, rfl, SqL.of rp5.at', at_ref hk', ?_⟩
          refine ⟨cs[k], C k, .ty "ValueError", .type "ValueError", true, rfl, .ty _, rp5.all _ _ ek, T.ec k hk, T.eg, T.kitV k hk, ?_⟩
          walk_at "rd"
          exact mG5
      · rintro σ H2 ⟨x9, rfl, m2⟩
        exact ⟨_, _, rfl, m2⟩
    · rintro σ H1 ⟨x8, x9, rfl, mG⟩
      exact q _
end
end HT
namespace HT
open PySem L2
/-- the tables of the classes, each one evaluation -/
def errB (K : PySem.W.Frag) (C : Addr) : Bool := (PySem.W.clsIn K C).isSome && (decide (PySem.W.findIn K (.ref C) "__getattribute__" = some (some (.builtin "BaseException.__getattribute__"))) && (decide (PySem.W.findIn K (.ref C) "__getattr__" = some none) && (decide (PySem.W.subIn K (.ref C) (.type "BaseException") = some true) &&
  (decide (PySem.W.findIn K (.ref C) "__class__" = some (some (.builtin "object.__class__"))) && decide (PySem.W.mroIn K C (.type "object") = some true)))))
theorem errB_ok {K : PySem.W.Frag} {C : Addr} (h : errB K C = true) : ErrC K C := by
  unfold errB at h
  simp only [Bool.and_eq_true, decide_eq_true_eq] at h
  obtain ⟨a, b, c, d, e, f⟩ := h
  exact ⟨a, b, c, d, e, f⟩
def exB (K : PySem.W.Frag) (C : Addr) : Bool := PySem.W.excIn K C [.type "ValueError", .type "Exception", .type "BaseException", .type "object"] "ValueError.__new__" && PySem.W.keepIn K (.ref C)
def kitT (K : PySem.W.Frag) (C : Nat → Addr) (B : Addr) (i : Nat) : Bool := errB K (C i) && (decide (PySem.W.kitOne K (.ref (C i)) (.ref B) = some true) && (decide (PySem.W.kitOne K (.ref (C i)) (.type "ValueError") = some true) && (decide (PySem.W.kitOne K (.ref B) (.ref (C i)) = some false) &&
  (List.range 18).all fun j => decide (PySem.W.kitOne K (.ref (C i)) (.ref (C j)) = some (decide (i = j))))))
def cAt (l : List Addr) (i : Nat) : Addr := l.getD i 0
theorem all_of {p : Nat → Bool} {n : Nat} (h : (List.range n).all p = true) {i : Nat} (hi : i < n) : p i = true := List.all_eq_true.mp h i (List.mem_range.mpr hi)
theorem all_mk {l : PySem.W.OpenLaw} {w : World} {K : PySem.W.Frag} {h : Heap} {mg : Str → Option Value} {fa c0 c1 c2 c3 c4 c5 c6 c7 c8 c9 c10 c11 c12 c13 c14 c15 c16 c17 cB fiT fiL f_L_source f_L_draw f_L_pick f_L_kinds f_L_made f_L_made_with f_law : Addr} (X : K.In h) (G : h.Ns mainGlobals mg) (hfa : mg "law" = some (.ref fa))
    {od_L_source an_L_source od_L_draw an_L_draw od_L_pick an_L_pick od_L_kinds an_L_kinds od_L_made an_L_made od_L_made_with an_L_made_with od_law an_law : Option Addr} {sl_L_source sl_L_draw sl_L_pick sl_L_kinds sl_L_made sl_L_made_with sl_law : Array (Option Value)} {oc_L_source kV_L_source dc_L_source pm_L_source cd_L_source ct_L_source oc_L_draw kV_L_draw dc_L_draw pm_L_draw cd_L_draw ct_L_draw oc_L_pick kV_L_pick dc_L_pick pm_L_pick cd_L_pick ct_L_pick oc_L_kinds kV_L_kinds dc_L_kinds pm_L_kinds cd_L_kinds ct_L_kinds oc_L_made kV_L_made dc_L_made pm_L_made cd_L_made ct_L_made oc_L_made_with kV_L_made_with dc_L_made_with pm_L_made_with cd_L_made_with ct_L_made_with oc_law kV_law dc_law pm_law cd_law ct_law : Value} {nmT qT : Str} {NT : Addr} {bsT subT : List Value} {snT : List Str} {abT : Bool} {colT : Option Bool} {ddT : Option Addr} {m0T m1T m2T m3T m5T : Option Value} {odT anT : Option Addr} {slT : Array (Option Value)} {ocT kVT dcT pmT cdT ctT : Value} {nmL qL : Str} {NL : Addr} {bsL subL : List Value} {snL : List Str} {abL : Bool} {colL : Option Bool} {ddL : Option Addr} {m0L m1L m2L m3L m5L : Option Value} {odL anL : Option Addr} {slL : Array (Option Value)} {ocL kVL dcL pmL cdL ctL : Value}
    (a_L_source : PySem.W.nsIn K mainGlobals "_law_source" = some (some (.ref f_L_source)))
    (l_L_source : K.lookup f_L_source = some ⟨oc_L_source, od_L_source, .func (PySem.W.fnOf "_law_source" "_law_source" (defArgs s_L_source) (defBody s_L_source) (defScope s_L_source) .none kV_L_source dc_L_source pm_L_source an_L_source cd_L_source ct_L_source), sl_L_source⟩)
    (c_L_source : PySem.W.codeIn K cd_L_source "_law_source" = true) (k_L_source : PySem.W.keepIn K (.ref f_L_source) = true)
    (a_L_draw : PySem.W.nsIn K mainGlobals "_law_draw" = some (some (.ref f_L_draw)))
    (l_L_draw : K.lookup f_L_draw = some ⟨oc_L_draw, od_L_draw, .func (PySem.W.fnOf "_law_draw" "_law_draw" (defArgs s_L_draw) (defBody s_L_draw) (defScope s_L_draw) .none kV_L_draw dc_L_draw pm_L_draw an_L_draw cd_L_draw ct_L_draw), sl_L_draw⟩)
    (c_L_draw : PySem.W.codeIn K cd_L_draw "_law_draw" = true) (k_L_draw : PySem.W.keepIn K (.ref f_L_draw) = true)
    (a_L_pick : PySem.W.nsIn K mainGlobals "_law_pick" = some (some (.ref f_L_pick)))
    (l_L_pick : K.lookup f_L_pick = some ⟨oc_L_pick, od_L_pick, .func (PySem.W.fnOf "_law_pick" "_law_pick" (defArgs s_L_pick) (defBody s_L_pick) (defScope s_L_pick) .none kV_L_pick dc_L_pick pm_L_pick an_L_pick cd_L_pick ct_L_pick), sl_L_pick⟩)
    (c_L_pick : PySem.W.codeIn K cd_L_pick "_law_pick" = true) (k_L_pick : PySem.W.keepIn K (.ref f_L_pick) = true)
    (a_L_kinds : PySem.W.nsIn K mainGlobals "_law_kinds" = some (some (.ref f_L_kinds)))
    (l_L_kinds : K.lookup f_L_kinds = some ⟨oc_L_kinds, od_L_kinds, .func (PySem.W.fnOf "_law_kinds" "_law_kinds" (defArgs s_L_kinds) (defBody s_L_kinds) (defScope s_L_kinds) .none kV_L_kinds dc_L_kinds pm_L_kinds an_L_kinds cd_L_kinds ct_L_kinds), sl_L_kinds⟩)
    (c_L_kinds : PySem.W.codeIn K cd_L_kinds "_law_kinds" = true) (k_L_kinds : PySem.W.keepIn K (.ref f_L_kinds) = true)
    (a_L_made : PySem.W.nsIn K mainGlobals "_law_made" = some (some (.ref f_L_made)))
    (l_L_made : K.lookup f_L_made = some ⟨oc_L_made, od_L_made, .func (PySem.W.fnOf "_law_made" "_law_made" (defArgs s_L_made) (defBody s_L_made) (defScope s_L_made) .none kV_L_made dc_L_made pm_L_made an_L_made cd_L_made ct_L_made), sl_L_made⟩)
    (c_L_made : PySem.W.codeIn K cd_L_made "_law_made" = true) (k_L_made : PySem.W.keepIn K (.ref f_L_made) = true)
    (a_L_made_with : PySem.W.nsIn K mainGlobals "_law_made_with" = some (some (.ref f_L_made_with)))
    (l_L_made_with : K.lookup f_L_made_with = some ⟨oc_L_made_with, od_L_made_with, .func (PySem.W.fnOf "_law_made_with" "_law_made_with" (defArgs s_L_made_with) (defBody s_L_made_with) (defScope s_L_made_with) .none kV_L_made_with dc_L_made_with pm_L_made_with an_L_made_with cd_L_made_with ct_L_made_with), sl_L_made_with⟩)
    (c_L_made_with : PySem.W.codeIn K cd_L_made_with "_law_made_with" = true) (k_L_made_with : PySem.W.keepIn K (.ref f_L_made_with) = true)
    (a_law : PySem.W.nsIn K mainGlobals "law" = some (some (.ref f_law)))
    (l_law : K.lookup f_law = some ⟨oc_law, od_law, .func (PySem.W.fnOf "law" "law" (defArgs s_law) (defBody s_law) (defScope s_law) .none kV_law dc_law pm_law an_law cd_law ct_law), sl_law⟩)
    (c_law : PySem.W.codeIn K cd_law "law" = true) (k_law : PySem.W.keepIn K (.ref f_law) = true)
    (z_len : PySem.W.nsIn K mainGlobals "len" = some none)
    (z_abs : PySem.W.nsIn K mainGlobals "abs" = some none)
    (z_int : PySem.W.nsIn K mainGlobals "int" = some none)
    (z_range : PySem.W.nsIn K mainGlobals "range" = some none)
    (z_isinstance : PySem.W.nsIn K mainGlobals "isinstance" = some none)
    (z_ValueError : PySem.W.nsIn K mainGlobals "ValueError" = some none)
    (g_0 : PySem.W.nsIn K mainGlobals "InvalidSide" = some (some (.ref c0)))
    (g_1 : PySem.W.nsIn K mainGlobals "InvalidValue" = some (some (.ref c1)))
    (g_2 : PySem.W.nsIn K mainGlobals "InvalidPlaces" = some (some (.ref c2)))
    (g_3 : PySem.W.nsIn K mainGlobals "InvalidStyle" = some (some (.ref c3)))
    (g_4 : PySem.W.nsIn K mainGlobals "InvalidUnits" = some (some (.ref c4)))
    (g_5 : PySem.W.nsIn K mainGlobals "TooMany" = some (some (.ref c5)))
    (g_6 : PySem.W.nsIn K mainGlobals "InvalidNumber" = some (some (.ref c6)))
    (g_7 : PySem.W.nsIn K mainGlobals "InvalidSides" = some (some (.ref c7)))
    (g_8 : PySem.W.nsIn K mainGlobals "InvalidSeen" = some (some (.ref c8)))
    (g_9 : PySem.W.nsIn K mainGlobals "InvalidEntries" = some (some (.ref c9)))
    (g_10 : PySem.W.nsIn K mainGlobals "UnknownName" = some (some (.ref c10)))
    (g_11 : PySem.W.nsIn K mainGlobals "CannotBe" = some (some (.ref c11)))
    (g_12 : PySem.W.nsIn K mainGlobals "NothingToUndo" = some (some (.ref c12)))
    (g_13 : PySem.W.nsIn K mainGlobals "NothingToRedo" = some (some (.ref c13)))
    (g_14 : PySem.W.nsIn K mainGlobals "UnknownDeed" = some (some (.ref c14)))
    (g_15 : PySem.W.nsIn K mainGlobals "InvalidNumbers" = some (some (.ref c15)))
    (g_16 : PySem.W.nsIn K mainGlobals "InvalidText" = some (some (.ref c16)))
    (g_17 : PySem.W.nsIn K mainGlobals "InvalidLine" = some (some (.ref c17)))
    (g_B : PySem.W.nsIn K mainGlobals "HandedError" = some (some (.ref cB)))
    (kt_0 : kitT K (cAt [c0, c1, c2, c3, c4, c5, c6, c7, c8, c9, c10, c11, c12, c13, c14, c15, c16, c17]) cB 0 = true)
    (kt_1 : kitT K (cAt [c0, c1, c2, c3, c4, c5, c6, c7, c8, c9, c10, c11, c12, c13, c14, c15, c16, c17]) cB 1 = true)
    (kt_2 : kitT K (cAt [c0, c1, c2, c3, c4, c5, c6, c7, c8, c9, c10, c11, c12, c13, c14, c15, c16, c17]) cB 2 = true)
    (kt_3 : kitT K (cAt [c0, c1, c2, c3, c4, c5, c6, c7, c8, c9, c10, c11, c12, c13, c14, c15, c16, c17]) cB 3 = true)
    (kt_4 : kitT K (cAt [c0, c1, c2, c3, c4, c5, c6, c7, c8, c9, c10, c11, c12, c13, c14, c15, c16, c17]) cB 4 = true)
    (kt_5 : kitT K (cAt [c0, c1, c2, c3, c4, c5, c6, c7, c8, c9, c10, c11, c12, c13, c14, c15, c16, c17]) cB 5 = true)
    (kt_6 : kitT K (cAt [c0, c1, c2, c3, c4, c5, c6, c7, c8, c9, c10, c11, c12, c13, c14, c15, c16, c17]) cB 6 = true)
    (kt_7 : kitT K (cAt [c0, c1, c2, c3, c4, c5, c6, c7, c8, c9, c10, c11, c12, c13, c14, c15, c16, c17]) cB 7 = true)
    (kt_8 : kitT K (cAt [c0, c1, c2, c3, c4, c5, c6, c7, c8, c9, c10, c11, c12, c13, c14, c15, c16, c17]) cB 8 = true)
    (kt_9 : kitT K (cAt [c0, c1, c2, c3, c4, c5, c6, c7, c8, c9, c10, c11, c12, c13, c14, c15, c16, c17]) cB 9 = true)
    (kt_10 : kitT K (cAt [c0, c1, c2, c3, c4, c5, c6, c7, c8, c9, c10, c11, c12, c13, c14, c15, c16, c17]) cB 10 = true)
    (kt_11 : kitT K (cAt [c0, c1, c2, c3, c4, c5, c6, c7, c8, c9, c10, c11, c12, c13, c14, c15, c16, c17]) cB 11 = true)
    (kt_12 : kitT K (cAt [c0, c1, c2, c3, c4, c5, c6, c7, c8, c9, c10, c11, c12, c13, c14, c15, c16, c17]) cB 12 = true)
    (kt_13 : kitT K (cAt [c0, c1, c2, c3, c4, c5, c6, c7, c8, c9, c10, c11, c12, c13, c14, c15, c16, c17]) cB 13 = true)
    (kt_14 : kitT K (cAt [c0, c1, c2, c3, c4, c5, c6, c7, c8, c9, c10, c11, c12, c13, c14, c15, c16, c17]) cB 14 = true)
    (kt_15 : kitT K (cAt [c0, c1, c2, c3, c4, c5, c6, c7, c8, c9, c10, c11, c12, c13, c14, c15, c16, c17]) cB 15 = true)
    (kt_16 : kitT K (cAt [c0, c1, c2, c3, c4, c5, c6, c7, c8, c9, c10, c11, c12, c13, c14, c15, c16, c17]) cB 16 = true)
    (kt_17 : kitT K (cAt [c0, c1, c2, c3, c4, c5, c6, c7, c8, c9, c10, c11, c12, c13, c14, c15, c16, c17]) cB 17 = true)
    (xb_0 : exB K c0 = true)
    (xb_1 : exB K c1 = true)
    (xb_2 : exB K c2 = true)
    (xb_3 : exB K c3 = true)
    (xb_4 : exB K c4 = true)
    (xb_5 : exB K c5 = true)
    (xb_6 : exB K c6 = true)
    (xb_7 : exB K c7 = true)
    (xb_8 : exB K c8 = true)
    (xb_9 : exB K c9 = true)
    (xb_10 : exB K c10 = true)
    (xb_11 : exB K c11 = true)
    (xb_12 : exB K c12 = true)
    (xb_13 : exB K c13 = true)
    (xb_14 : exB K c14 = true)
    (xb_15 : exB K c15 = true)
    (eb : errB K cB = true)
    (xbB : exB K cB = true)
    (gsp : PySem.W.specialIn K (.builtin "object.__class__") "__get__" = some (some (.builtin "getset_descriptor.__get__")))
    (gtk : PySem.W.takesIn K (.builtin "object.__class__") = some true)
    (xT : K.lookup c16 = some (excClassObj nmT qT c16 NT bsT [.ref cB, .type "ValueError", .type "Exception", .type "BaseException", .type "object"] true snT subT abT colT ddT m0T m1T m2T m3T m5T "ValueError.__new__"))
    (saT : PySem.W.findIn K (.ref c16) "__setattr__" = some (some (.builtin "object.__setattr__")))
    (tyT : PySem.W.typeIn K (.ref c16) = some (.type "type"))
    (kcT : PySem.W.keepIn K (.ref c16) = true)
    (hdT : PySem.W.hasDictIn K c16 = true)
    (inT : PySem.W.findIn K (.ref c16) "__init__" = some (some (.ref fiT)))
    (tfT : PySem.W.typeIn K (.ref fiT) = some (.type "function"))
    (liT : K.lookup fiT = some ⟨ocT, odT, .func (PySem.W.fnOf "__init__" "InvalidText.__init__" (defArgs sIT) (defBody sIT) (defScope sIT) .none kVT dcT pmT anT cdT ctT), slT⟩)
    (ciT : PySem.W.codeIn K cdT "InvalidText.__init__" = true)
    (kiT : PySem.W.keepIn K (.ref fiT) = true)
    (noat : PySem.W.findIn K (.ref c16) "at" = some none)
    (xL : K.lookup c17 = some (excClassObj nmL qL c17 NL bsL [.ref cB, .type "ValueError", .type "Exception", .type "BaseException", .type "object"] true snL subL abL colL ddL m0L m1L m2L m3L m5L "ValueError.__new__"))
    (saL : PySem.W.findIn K (.ref c17) "__setattr__" = some (some (.builtin "object.__setattr__")))
    (tyL : PySem.W.typeIn K (.ref c17) = some (.type "type"))
    (kcL : PySem.W.keepIn K (.ref c17) = true)
    (hdL : PySem.W.hasDictIn K c17 = true)
    (inL : PySem.W.findIn K (.ref c17) "__init__" = some (some (.ref fiL)))
    (tfL : PySem.W.typeIn K (.ref fiL) = some (.type "function"))
    (liL : K.lookup fiL = some ⟨ocL, odL, .func (PySem.W.fnOf "__init__" "InvalidLine.__init__" (defArgs sIL) (defBody sIL) (defScope sIL) .none kVL dcL pmL anL cdL ctL), slL⟩)
    (ciL : PySem.W.codeIn K cdL "InvalidLine.__init__" = true)
    (kiL : PySem.W.keepIn K (.ref fiL) = true)
    (noline : PySem.W.findIn K (.ref c17) "line" = some none)
    (noreason : PySem.W.findIn K (.ref c17) "reason" = some none) :
    ∃ fd : FuncData, (∀ (s : Shared) (v : Value), BindsTo s fd ⟨[v], []⟩ [("_law_script", v)]) ∧ ∀ base : Heap, K.In base → base.Ns mainGlobals mg → FnOk l.prog w K mg base CX0 6 fa fd ["_law_script"] (spLaw K) := by
  have e := hfa.symm.trans (PySem.W.mg_of X G a_law)
  cases e
  have F_L_source := fun_mk (st := s_L_source) l_L_source c_L_source k_L_source
  have b_L_source := F_L_source.binds (ps := ["_law_script"]) fun _ _ _ _ _ _ us hl => match us, hl with | [_], _ => rfl
  have m_L_source := PySem.W.mg_of X G a_L_source
  have F_L_draw := fun_mk (st := s_L_draw) l_L_draw c_L_draw k_L_draw
  have b_L_draw := F_L_draw.binds (ps := ["_law_source_here", "_law_limit"]) fun _ _ _ _ _ _ us hl => match us, hl with | [_, _], _ => rfl
  have m_L_draw := PySem.W.mg_of X G a_L_draw
  have F_L_pick := fun_mk (st := s_L_pick) l_L_pick c_L_pick k_L_pick
  have b_L_pick := F_L_pick.binds (ps := ["_law_source_here", "_law_values"]) fun _ _ _ _ _ _ us hl => match us, hl with | [_, _], _ => rfl
  have m_L_pick := PySem.W.mg_of X G a_L_pick
  have F_L_kinds := fun_mk (st := s_L_kinds) l_L_kinds c_L_kinds k_L_kinds
  have b_L_kinds := F_L_kinds.binds (ps := ["_law_e"]) fun _ _ _ _ _ _ us hl => match us, hl with | [_], _ => rfl
  have m_L_kinds := PySem.W.mg_of X G a_L_kinds
  have F_L_made := fun_mk (st := s_L_made) l_L_made c_L_made k_L_made
  have b_L_made := F_L_made.binds (ps := []) fun _ _ _ _ _ _ us hl => match us, hl with | [], _ => rfl
  have m_L_made := PySem.W.mg_of X G a_L_made
  have F_L_made_with := fun_mk (st := s_L_made_with) l_L_made_with c_L_made_with k_L_made_with
  have b_L_made_with := F_L_made_with.binds (ps := ["_law_word"]) fun _ _ _ _ _ _ us hl => match us, hl with | [_], _ => rfl
  have m_L_made_with := PySem.W.mg_of X G a_L_made_with
  have F_law := fun_mk (st := s_law) l_law c_law k_law
  have b_law := F_law.binds (ps := ["_law_script"]) fun _ _ _ _ _ _ us hl => match us, hl with | [_], _ => rfl
  have m_law := PySem.W.mg_of X G a_law
  have n_len := PySem.W.mg_none_of X G z_len
  have n_abs := PySem.W.mg_none_of X G z_abs
  have n_int := PySem.W.mg_none_of X G z_int
  have n_range := PySem.W.mg_none_of X G z_range
  have n_isinstance := PySem.W.mg_none_of X G z_isinstance
  have n_ValueError := PySem.W.mg_none_of X G z_ValueError
  have BL : Blt mg := ⟨n_len, n_abs, n_int, n_range⟩
  have tab : ∀ i, i < 18 → kitT K (cAt [c0, c1, c2, c3, c4, c5, c6, c7, c8, c9, c10, c11, c12, c13, c14, c15, c16, c17]) cB i = true := fun i hi => by
    rcases (by omega : i = 0 ∨ i = 1 ∨ i = 2 ∨ i = 3 ∨ i = 4 ∨ i = 5 ∨ i = 6 ∨ i = 7 ∨ i = 8 ∨ i = 9 ∨ i = 10 ∨ i = 11 ∨ i = 12 ∨ i = 13 ∨ i = 14 ∨ i = 15 ∨ i = 16 ∨ i = 17) with e | e | e | e | e | e | e | e | e | e | e | e | e | e | e | e | e | e <;> subst e
    · exact kt_0
    · exact kt_1
    · exact kt_2
    · exact kt_3
    · exact kt_4
    · exact kt_5
    · exact kt_6
    · exact kt_7
    · exact kt_8
    · exact kt_9
    · exact kt_10
    · exact kt_11
    · exact kt_12
    · exact kt_13
    · exact kt_14
    · exact kt_15
    · exact kt_16
    · exact kt_17
  have xt : ∀ i, i < 16 → exB K (cAt [c0, c1, c2, c3, c4, c5, c6, c7, c8, c9, c10, c11, c12, c13, c14, c15, c16, c17] i) = true := fun i hi => by
    rcases (by omega : i = 0 ∨ i = 1 ∨ i = 2 ∨ i = 3 ∨ i = 4 ∨ i = 5 ∨ i = 6 ∨ i = 7 ∨ i = 8 ∨ i = 9 ∨ i = 10 ∨ i = 11 ∨ i = 12 ∨ i = 13 ∨ i = 14 ∨ i = 15) with e | e | e | e | e | e | e | e | e | e | e | e | e | e | e | e <;> subst e
    · exact xb_0
    · exact xb_1
    · exact xb_2
    · exact xb_3
    · exact xb_4
    · exact xb_5
    · exact xb_6
    · exact xb_7
    · exact xb_8
    · exact xb_9
    · exact xb_10
    · exact xb_11
    · exact xb_12
    · exact xb_13
    · exact xb_14
    · exact xb_15
  have tb : ∀ i, i < 18 → errB K (cAt [c0, c1, c2, c3, c4, c5, c6, c7, c8, c9, c10, c11, c12, c13, c14, c15, c16, c17] i) = true ∧ PySem.W.kitOne K (.ref (cAt [c0, c1, c2, c3, c4, c5, c6, c7, c8, c9, c10, c11, c12, c13, c14, c15, c16, c17] i)) (.ref cB) = some true ∧ PySem.W.kitOne K (.ref (cAt [c0, c1, c2, c3, c4, c5, c6, c7, c8, c9, c10, c11, c12, c13, c14, c15, c16, c17] i)) (.type "ValueError") = some true ∧ PySem.W.kitOne K (.ref cB) (.ref (cAt [c0, c1, c2, c3, c4, c5, c6, c7, c8, c9, c10, c11, c12, c13, c14, c15, c16, c17] i)) = some false ∧ ∀ j, j < 18 → PySem.W.kitOne K (.ref (cAt [c0, c1, c2, c3, c4, c5, c6, c7, c8, c9, c10, c11, c12, c13, c14, c15, c16, c17] i)) (.ref (cAt [c0, c1, c2, c3, c4, c5, c6, c7, c8, c9, c10, c11, c12, c13, c14, c15, c16, c17] j)) = some (decide (i = j)) := fun i hi => by
    have z := tab i hi
    unfold kitT at z
    simp only [Bool.and_eq_true, decide_eq_true_eq] at z
    obtain ⟨a, b, c, d, e⟩ := z
    exact ⟨a, b, c, d, fun j hj => of_decide_eq_true (all_of e hj)⟩
  have xt2 : ∀ i, i < 16 → PySem.W.excIn K (cAt [c0, c1, c2, c3, c4, c5, c6, c7, c8, c9, c10, c11, c12, c13, c14, c15, c16, c17] i) [.type "ValueError", .type "Exception", .type "BaseException", .type "object"] "ValueError.__new__" = true ∧ PySem.W.keepIn K (.ref (cAt [c0, c1, c2, c3, c4, c5, c6, c7, c8, c9, c10, c11, c12, c13, c14, c15, c16, c17] i)) = true := fun i hi => by
    have z := xt i hi
    unfold exB at z
    rw [Bool.and_eq_true] at z
    exact z
  have xB2 : PySem.W.excIn K cB [.type "ValueError", .type "Exception", .type "BaseException", .type "object"] "ValueError.__new__" = true ∧ PySem.W.keepIn K (.ref cB) = true := by
    have z := xbB
    unfold exB at z
    rw [Bool.and_eq_true] at z
    exact z
  have T : Errs K mg (cAt [c0, c1, c2, c3, c4, c5, c6, c7, c8, c9, c10, c11, c12, c13, c14, c15, c16, c17]) cB := { isi := n_isinstance, ve := n_ValueError, gB := PySem.W.mg_of X G g_B, g0 := PySem.W.mg_of X G g_0, g1 := PySem.W.mg_of X G g_1, g2 := PySem.W.mg_of X G g_2, g3 := PySem.W.mg_of X G g_3, g4 := PySem.W.mg_of X G g_4, g5 := PySem.W.mg_of X G g_5, g6 := PySem.W.mg_of X G g_6, g7 := PySem.W.mg_of X G g_7, g8 := PySem.W.mg_of X G g_8, g9 := PySem.W.mg_of X G g_9, g10 := PySem.W.mg_of X G g_10, g11 := PySem.W.mg_of X G g_11, g12 := PySem.W.mg_of X G g_12, g13 := PySem.W.mg_of X G g_13, g14 := PySem.W.mg_of X G g_14, g15 := PySem.W.mg_of X G g_15, g16 := PySem.W.mg_of X G g_16, g17 := PySem.W.mg_of X G g_17, kit := fun i j hi hj => (tb i hi).2.2.2.2 j hj, kitB := fun i hi => (tb i hi).2.1, kitV := fun i hi => (tb i hi).2.2.1, kitN := fun j hj => (tb j hj).2.2.2.1, ec := fun i hi => errB_ok (tb i hi).1, ecB := errB_ok eb, eg := ⟨gsp, gtk⟩, ex := fun i hi => (xt2 i hi).1, exB := xB2.1, kp := fun i hi => (xt2 i hi).2, kpB := xB2.2 }
  have ET := errB_ok (tb 16 (by decide)).1
  have OT : OexC K c16 := ⟨⟨_, _, _, _, _, _, _, _, _, _, _, _, _, _, _, xT, rfl⟩, saT, ET.sb, tyT, kcT⟩
  have IT : Ini K c16 fiT := ⟨OT, ⟨ET.ga, ET.gg, ET.sb, hdT⟩, inT, tfT⟩
  have FT := fun_mk (st := sIT) liT ciT kiT
  have bT := FT.binds (ps := ["self", "at"]) fun _ _ _ _ _ _ us hl => match us, hl with | [_, _], _ => rfl
  have EL := errB_ok (tb 17 (by decide)).1
  have OL : OexC K c17 := ⟨⟨_, _, _, _, _, _, _, _, _, _, _, _, _, _, _, xL, rfl⟩, saL, EL.sb, tyL, kcL⟩
  have IL : Ini K c17 fiL := ⟨OL, ⟨EL.ga, EL.gg, EL.sb, hdL⟩, inL, tfL⟩
  have FL := fun_mk (st := sIL) liL ciL kiL
  have bL := FL.binds (ps := ["self", "line", "reason"]) fun _ _ _ _ _ _ us hl => match us, hl with | [_, _, _], _ => rfl
  refine ⟨PySem.W.fnOf "law" "law" (defArgs s_law) (defBody s_law) (defScope s_law) .none kV_law dc_law pm_law an_law cd_law ct_law, fun s v => .of_eq rfl, fun base _ _ => ?_⟩
  have C_L_source : Cal l.prog w K mg base "_law_source" 1 ["_law_script"] (spSource K) f_L_source _ := ⟨ok_source F_L_source BL, m_L_source, k_L_source, b_L_source⟩
  have C_L_draw : Cal l.prog w K mg base "_law_draw" 1 ["_law_source_here", "_law_limit"] spDraw f_L_draw _ := ⟨ok_draw F_L_draw BL, m_L_draw, k_L_draw, b_L_draw⟩
  have C_L_pick : Cal l.prog w K mg base "_law_pick" 2 ["_law_source_here", "_law_values"] spPick f_L_pick _ := ⟨ok_pick F_L_pick BL C_L_draw, m_L_pick, k_L_pick, b_L_pick⟩
  have C_L_kinds : Cal l.prog w K mg base "_law_kinds" 1 ["_law_e"] (spKinds K (cAt [c0, c1, c2, c3, c4, c5, c6, c7, c8, c9, c10, c11, c12, c13, c14, c15, c16, c17])) f_L_kinds _ := ⟨ok_kinds F_L_kinds T, m_L_kinds, k_L_kinds, b_L_kinds⟩
  have C_L_made : Cal l.prog w K mg base "_law_made" 1 [] (spMade (cAt [c0, c1, c2, c3, c4, c5, c6, c7, c8, c9, c10, c11, c12, c13, c14, c15, c16, c17]) []) f_L_made _ := ⟨ok_L_made (x := .non) F_L_made T, m_L_made, k_L_made, b_L_made⟩
  have C_L_made_with : ∀ x : V, Cal l.prog w K mg base "_law_made_with" 1 ["_law_word"] (spMade (cAt [c0, c1, c2, c3, c4, c5, c6, c7, c8, c9, c10, c11, c12, c13, c14, c15, c16, c17]) [x]) f_L_made_with _ := fun x => ⟨ok_L_made_with F_L_made_with T, m_L_made_with, k_L_made_with, b_L_made_with⟩
  exact ok_law F_law T BL C_L_source C_L_draw C_L_pick C_L_kinds C_L_made C_L_made_with IT IL (ok_IT FT OT noat) bT (ok_IL FL OL noline noreason) bL noat noline noreason
theorem walk {l : PySem.W.OpenLaw} {q : Program} {loose : List Str} {XP : (Str → Option Value) → Heap → Prop} {YP : World → Heap → Prop} {d : DefRec} {K : Params → PySem.W.Frag} (hn : l.most = some 63) (hdf : d.params.defaults = [])
    (hY : ∀ (w : World) (h : Heap), YP w h → (K w.params).In h)
    (F : ∀ (w : World) (mg : Str → Option Value) (fa : Addr) (h : Heap), (K w.params).In h → h.Ns mainGlobals mg → mg d.name = some (.ref fa) →
      ∃ fd : FuncData, (∀ (s : Shared) (u : Value), BindsTo s fd ⟨[u], []⟩ [("_law_script", u)]) ∧ ∀ base : Heap, (K w.params).In base → base.Ns mainGlobals mg → FnOk l.prog w (K w.params) mg base CX0 6 fa fd ["_law_script"] (spLaw (K w.params))) :
    PySem.W.WalkO q loose XP YP l.row.toRowW d [] (fun f vs => PySem.call f vs) :=
  L2.walk_of (n := 63) (k := 6) (x := "_law_script") (CX := fun _ => CX0) (sp := fun w => spLaw (K w.params)) hn (by decide) hdf ⟨rfl, by decide, by decide⟩ hY F (fun _ _ a ns hl _ hS => ⟨a, ns, rfl, hS, hl, fun _ => rfl⟩) fun _ _ _ _ _ z => z
end HT
open PySem PySem.W PyProof.Rows
set_option maxRecDepth 100000 in
set_option maxHeartbeats 0 in
theorem PySem.Challenge.cw_handedtext_k47_errors_holds : PySem.Challenge.rw_handedtext_k47_errors.Holds := by
  w_on; o_law; k_head; (case hw => w_witness2)
  k_fill
  refine HT.walk (l := PySem.Challenge.rw_handedtext_k47_errors) rfl rfl (fun w h Y => PySem.W.kIn_of Y) ?F
  case F =>
    intro w mg fa h KX G hmg
    refine' HT.all_mk KX G hmg ?a_L_source ?l_L_source ?c_L_source ?k_L_source ?a_L_draw ?l_L_draw ?c_L_draw ?k_L_draw ?a_L_pick ?l_L_pick ?c_L_pick ?k_L_pick ?a_L_kinds ?l_L_kinds ?c_L_kinds ?k_L_kinds ?a_L_made ?l_L_made ?c_L_made ?k_L_made ?a_L_made_with ?l_L_made_with ?c_L_made_with ?k_L_made_with ?a_law ?l_law ?c_law ?k_law ?z_len ?z_abs ?z_int ?z_range ?z_isinstance ?z_ValueError ?g_0 ?g_1 ?g_2 ?g_3 ?g_4 ?g_5 ?g_6 ?g_7 ?g_8 ?g_9 ?g_10 ?g_11 ?g_12 ?g_13 ?g_14 ?g_15 ?g_16 ?g_17 ?g_B ?kt_0 ?kt_1 ?kt_2 ?kt_3 ?kt_4 ?kt_5 ?kt_6 ?kt_7 ?kt_8 ?kt_9 ?kt_10 ?kt_11 ?kt_12 ?kt_13 ?kt_14 ?kt_15 ?kt_16 ?kt_17 ?xb_0 ?xb_1 ?xb_2 ?xb_3 ?xb_4 ?xb_5 ?xb_6 ?xb_7 ?xb_8 ?xb_9 ?xb_10 ?xb_11 ?xb_12 ?xb_13 ?xb_14 ?xb_15 ?eb ?xbB ?gsp ?gtk ?xT ?saT ?tyT ?kcT ?hdT ?inT ?tfT ?liT ?ciT ?kiT ?noat ?xL ?saL ?tyL ?kcL ?hdL ?inL ?tfL ?liL ?ciL ?kiL ?noline ?noreason
    (case a_L_source => k_is)
    (case l_L_source => k_is)
    (case c_L_source => k_is)
    (case k_L_source => k_is)
    (case a_L_draw => k_is)
    (case l_L_draw => k_is)
    (case c_L_draw => k_is)
    (case k_L_draw => k_is)
    (case a_L_pick => k_is)
    (case l_L_pick => k_is)
    (case c_L_pick => k_is)
    (case k_L_pick => k_is)
    (case a_L_kinds => k_is)
    (case l_L_kinds => k_is)
    (case c_L_kinds => k_is)
    (case k_L_kinds => k_is)
    (case a_L_made => k_is)
    (case l_L_made => k_is)
    (case c_L_made => k_is)
    (case k_L_made => k_is)
    (case a_L_made_with => k_is)
    (case l_L_made_with => k_is)
    (case c_L_made_with => k_is)
    (case k_L_made_with => k_is)
    (case a_law => k_is)
    (case l_law => k_is)
    (case c_law => k_is)
    (case k_law => k_is)
    (case z_len => k_is)
    (case z_abs => k_is)
    (case z_int => k_is)
    (case z_range => k_is)
    (case z_isinstance => k_is)
    (case z_ValueError => k_is)
    (case g_0 => k_is)
    (case g_1 => k_is)
    (case g_2 => k_is)
    (case g_3 => k_is)
    (case g_4 => k_is)
    (case g_5 => k_is)
    (case g_6 => k_is)
    (case g_7 => k_is)
    (case g_8 => k_is)
    (case g_9 => k_is)
    (case g_10 => k_is)
    (case g_11 => k_is)
    (case g_12 => k_is)
    (case g_13 => k_is)
    (case g_14 => k_is)
    (case g_15 => k_is)
    (case g_16 => k_is)
    (case g_17 => k_is)
    (case g_B => k_is)
    (case kt_0 => kernel_rfl)
    (case kt_1 => kernel_rfl)
    (case kt_2 => kernel_rfl)
    (case kt_3 => kernel_rfl)
    (case kt_4 => kernel_rfl)
    (case kt_5 => kernel_rfl)
    (case kt_6 => kernel_rfl)
    (case kt_7 => kernel_rfl)
    (case kt_8 => kernel_rfl)
    (case kt_9 => kernel_rfl)
    (case kt_10 => kernel_rfl)
    (case kt_11 => kernel_rfl)
    (case kt_12 => kernel_rfl)
    (case kt_13 => kernel_rfl)
    (case kt_14 => kernel_rfl)
    (case kt_15 => kernel_rfl)
    (case kt_16 => kernel_rfl)
    (case kt_17 => kernel_rfl)
    (case xb_0 => kernel_rfl)
    (case xb_1 => kernel_rfl)
    (case xb_2 => kernel_rfl)
    (case xb_3 => kernel_rfl)
    (case xb_4 => kernel_rfl)
    (case xb_5 => kernel_rfl)
    (case xb_6 => kernel_rfl)
    (case xb_7 => kernel_rfl)
    (case xb_8 => kernel_rfl)
    (case xb_9 => kernel_rfl)
    (case xb_10 => kernel_rfl)
    (case xb_11 => kernel_rfl)
    (case xb_12 => kernel_rfl)
    (case xb_13 => kernel_rfl)
    (case xb_14 => kernel_rfl)
    (case xb_15 => kernel_rfl)
    (case eb => kernel_rfl)
    (case xbB => kernel_rfl)
    (case gsp => k_is)
    (case gtk => k_is)
    (case xT => k_is)
    (case saT => k_is)
    (case tyT => k_is)
    (case kcT => k_is)
    (case hdT => k_is)
    (case inT => k_is)
    (case tfT => k_is)
    (case liT => k_is)
    (case ciT => k_is)
    (case kiT => k_is)
    (case noat => k_is)
    (case xL => k_is)
    (case saL => k_is)
    (case tyL => k_is)
    (case kcL => k_is)
    (case hdL => k_is)
    (case inL => k_is)
    (case tfL => k_is)
    (case liL => k_is)
    (case ciL => k_is)
    (case kiL => k_is)
    (case noline => k_is)
    (case noreason => k_is)
#print axioms PySem.Challenge.cw_handedtext_k47_errors_holds
