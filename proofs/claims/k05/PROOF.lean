import PyProof.Rows.All
import Wide.All
import OpenK.AllK
import Wide.FinOn
import HandS.ForMost
import HandS.Wide
import HandS.NoneIn
import HandS.IsInst
import HandS.WideBits
import KE.KEqSeq
import KE.KEqDeep
import PySem.Challenge.RW_handedtext_k05_whole_written_values
set_option Elab.async false
set_option linter.all false
set_option maxRecDepth 100000
set_option maxHeartbeats 4000000
open PySem L2
local macro_rules | `(tactic| walk_at "rd") => `(tactic| repeat (first | refine ⟨_, rfl, ?_⟩ | refine ⟨_, _, rfl, rfl, ?_⟩ | refine .inl ⟨_, rfl, ?_⟩))
namespace HT
open PySem L2
def top (i : Nat) : Stmt := PySem.Challenge.pw_handedtext_k05_whole_written_values.main.body.getD i (.Pass ⟨0, 0, 0, 0⟩)
abbrev s_is_int : Stmt := top 5
abbrev s_is_int_between : Stmt := top 6
abbrev s_check_value : Stmt := top 7
abbrev s_check_side : Stmt := top 10
abbrev s_figure_of : Stmt := top 11
abbrev s_figure : Stmt := top 12
abbrev s_goes_up : Stmt := top 13
abbrev s_handed : Stmt := top 14
abbrev s_written : Stmt := top 15
abbrev s_stands : Stmt := top 16
abbrev s_L_source : Stmt := top 18
abbrev s_L_draw : Stmt := top 19
abbrev s_L_pick : Stmt := top 20
abbrev s_L_great : Stmt := top 21
abbrev s_L_side : Stmt := top 22
abbrev s_L_figure : Stmt := top 23
abbrev s_L_handed : Stmt := top 24
abbrev s_L_values : Stmt := top 25
abbrev s_L_fits : Stmt := top 26
abbrev s_law : Stmt := top 27
/- is_int: 0:thing -/
theorem sc_is_int : FnScope ["thing"] ["thing"] (defScope s_is_int) := ⟨rfl, rfl, rfl, by decide +kernel, rfl, by decide +kernel, by decide +kernel⟩
/- is_int_between: 0:thing 1:least 2:most -/
theorem sc_is_int_between : FnScope ["thing", "least", "most"] ["thing", "least", "most"] (defScope s_is_int_between) := ⟨rfl, rfl, rfl, by decide +kernel, rfl, by decide +kernel, by decide +kernel⟩
/- check_value: 0:value -/
theorem sc_check_value : FnScope ["value"] ["value"] (defScope s_check_value) := ⟨rfl, rfl, rfl, by decide +kernel, rfl, by decide +kernel, by decide +kernel⟩
/- check_side: 0:side 1:offset 2:step 3:mode -/
theorem sc_check_side : FnScope ["side", "offset", "step", "mode"] ["side"] (defScope s_check_side) := ⟨rfl, rfl, rfl, by decide +kernel, rfl, by decide +kernel, by decide +kernel⟩
/- figure_of: 0:side 1:value -/
theorem sc_figure_of : FnScope ["side", "value"] ["side", "value"] (defScope s_figure_of) := ⟨rfl, rfl, rfl, by decide +kernel, rfl, by decide +kernel, by decide +kernel⟩
/- _figure: 0:side 1:value 2:offset 3:step 4:mode 5:figure 6:rest -/
theorem sc_figure : FnScope ["side", "value", "offset", "step", "mode", "figure", "rest"] ["side", "value"] (defScope s_figure) := ⟨rfl, rfl, rfl, by decide +kernel, rfl, by decide +kernel, by decide +kernel⟩
/- _goes_up: 0:mode 1:step 2:figure 3:rest -/
theorem sc_goes_up : FnScope ["mode", "step", "figure", "rest"] ["mode", "step", "figure", "rest"] (defScope s_goes_up) := ⟨rfl, rfl, rfl, by decide +kernel, rfl, by decide +kernel, by decide +kernel⟩
/- handed: 0:side 1:value -/
theorem sc_handed : FnScope ["side", "value"] ["side", "value"] (defScope s_handed) := ⟨rfl, rfl, rfl, by decide +kernel, rfl, by decide +kernel, by decide +kernel⟩
/- written: 0:side 1:value 2:offset 3:step 4:_ -/
theorem sc_written : FnScope ["side", "value", "offset", "step", "_"] ["side", "value"] (defScope s_written) := ⟨rfl, rfl, rfl, by decide +kernel, rfl, by decide +kernel, by decide +kernel⟩
/- stands: 0:side 1:value 2:offset 3:step 4:_ -/
theorem sc_stands : FnScope ["side", "value", "offset", "step", "_"] ["side", "value"] (defScope s_stands) := ⟨rfl, rfl, rfl, by decide +kernel, rfl, by decide +kernel, by decide +kernel⟩
/- _law_source: 0:_law_script 1:_law_cells 2:_law_k -/
theorem sc_L_source : FnScope ["_law_script", "_law_cells", "_law_k"] ["_law_script"] (defScope s_L_source) := ⟨rfl, rfl, rfl, by decide +kernel, rfl, by decide +kernel, by decide +kernel⟩
/- _law_draw: 0:_law_source_here 1:_law_limit 2:_law_cells 3:_law_turn 4:_law_place 5:_law_cell 6:_law_number -/
theorem sc_L_draw : FnScope ["_law_source_here", "_law_limit", "_law_cells", "_law_turn", "_law_place", "_law_cell", "_law_number"] ["_law_source_here", "_law_limit"] (defScope s_L_draw) := ⟨rfl, rfl, rfl, by decide +kernel, rfl, by decide +kernel, by decide +kernel⟩
/- _law_pick: 0:_law_source_here 1:_law_values_here -/
theorem sc_L_pick : FnScope ["_law_source_here", "_law_values_here"] ["_law_source_here", "_law_values_here"] (defScope s_L_pick) := ⟨rfl, rfl, rfl, by decide +kernel, rfl, by decide +kernel, by decide +kernel⟩
/- _law_great: 0:_law_source_here 1:_law_digits 2:_law_number 3:_law_k -/
theorem sc_L_great : FnScope ["_law_source_here", "_law_digits", "_law_number", "_law_k"] ["_law_source_here", "_law_digits"] (defScope s_L_great) := ⟨rfl, rfl, rfl, by decide +kernel, rfl, by decide +kernel, by decide +kernel⟩
/- _law_side: 0:_law_source_here 1:_law_digits 2:_law_step 3:_law_offset -/
theorem sc_L_side : FnScope ["_law_source_here", "_law_digits", "_law_step", "_law_offset"] ["_law_source_here", "_law_digits"] (defScope s_L_side) := ⟨rfl, rfl, rfl, by decide +kernel, rfl, by decide +kernel, by decide +kernel⟩
/- _law_figure: 0:_law_side_here 1:_law_value 2:_law_offset 3:_law_step 4:_law_mode 5:_law_low 6:_law_rest -/
theorem sc_L_figure : FnScope ["_law_side_here", "_law_value", "_law_offset", "_law_step", "_law_mode", "_law_low", "_law_rest"] ["_law_side_here", "_law_value"] (defScope s_L_figure) := ⟨rfl, rfl, rfl, by decide +kernel, rfl, by decide +kernel, by decide +kernel⟩
/- _law_handed: 0:_law_side_here 1:_law_value -/
theorem sc_L_handed : FnScope ["_law_side_here", "_law_value"] ["_law_side_here", "_law_value"] (defScope s_L_handed) := ⟨rfl, rfl, rfl, by decide +kernel, rfl, by decide +kernel, by decide +kernel⟩
/- _law_values: 0:_law_source_here 1:_law_one 2:_law_offset 3:_law_step 4:_law_mode 5:_law_figure_here 6:_law_value 7:_law_found -/
theorem sc_L_values : FnScope ["_law_source_here", "_law_one", "_law_offset", "_law_step", "_law_mode", "_law_figure_here", "_law_value", "_law_found"] ["_law_source_here", "_law_one"] (defScope s_L_values) := ⟨rfl, rfl, rfl, by decide +kernel, rfl, by decide +kernel, by decide +kernel⟩
/- _law_fits: 0:_law_one 1:_law_value 2:_law_offset 3:_law_step 4:_law_mode 5:_law_figure_here 6:_law_due -/
theorem sc_L_fits : FnScope ["_law_one", "_law_value", "_law_offset", "_law_step", "_law_mode", "_law_figure_here", "_law_due"] ["_law_one", "_law_value"] (defScope s_L_fits) := ⟨rfl, rfl, rfl, by decide +kernel, rfl, by decide +kernel, by decide +kernel⟩
/- law: 0:_law_script 1:_law_source_here 2:_law_turn 3:_law_one 4:_law_value 5:_law_mode 6:_law_found -/
theorem sc_law : FnScope ["_law_script", "_law_source_here", "_law_turn", "_law_one", "_law_value", "_law_mode", "_law_found"] ["_law_script"] (defScope s_law) := ⟨rfl, rfl, rfl, by decide +kernel, rfl, by decide +kernel, by decide +kernel⟩

end HT
namespace L2
open PySem PySem.Spec PyProof.Rows
/-- powers of great numbers -/
def CPowW (i j : Int) : Prop := 0 ≤ j ∧ (Builtin.Int.intBits i : Int) * j ≤ 2 ^ 27
theorem op_powW {X : Cx} : OpR X (binaryOp .Pow) (rI CPowW fun i j => .int (i ^ j.toNat)) := opI fun _ _ _ _ _ _ _ hc q => pow_int hc.1 hc.2 q
end L2
namespace HT
open PySem L2
/-- the law's source of draws: a list of its cells' list and the turn -/
structure Src (H : Hp) (a c : Addr) (t : Nat) : Prop where
  ne : a ≠ c
  ob : H a = some (.lst [.ref c, .int (t : Int)])
  cl : ∃ cs : List Int, H c = some (.lst (cs.map V.int)) ∧ 0 < cs.length ∧ cs.length ≤ 63
/-- nothing else is touched -/
def Oth (a c : Addr) (H H' : Hp) : Prop := ∀ b o, H b = some o → b ≠ a → b ≠ c → H' b = some o
theorem Oth.refl (a c : Addr) (H : Hp) : Oth a c H H := fun _ _ h _ _ => h
theorem Oth.trans {a c : Addr} {H H1 H2 : Hp} (x : Oth a c H H1) (y : Oth a c H1 H2) : Oth a c H H2 := fun b o h n m => y b o (x b o h n m) n m
theorem Oth.new {a c p : Addr} {H H1 : Hp} {o : HO} (x : Oth a c H H1) (n : H1 p = none) : Oth a c H (upd H1 p o) := fun b u h na nc => by
  rw [upd_ne (ne_of_none (x b u h na nc) n)]
  exact x b u h na nc
theorem Src.new {a c p : Addr} {H : Hp} {t : Nat} {o : HO} (S : Src H a c t) (n : H p = none) : Src (upd H p o) a c t := by
  obtain ⟨cs, h, l⟩ := S.cl
  exact ⟨S.ne, by rw [upd_ne (ne_of_none S.ob n)]; exact S.ob, cs, by rw [upd_ne (ne_of_none h n)]; exact h, l⟩
theorem Src.of_same {a c : Addr} {H H' : Hp} {t : Nat} (S : Src H a c t) (e : Same H H') : Src H' a c t := by
  obtain ⟨cs, h, l⟩ := S.cl
  exact ⟨S.ne, e _ _ S.ob, cs, e _ _ h, l⟩
theorem Src.na {a c p : Addr} {H : Hp} {t : Nat} (S : Src H a c t) (n : H p = none) : p ≠ a ∧ p ≠ c := by
  obtain ⟨cs, h, l⟩ := S.cl
  exact ⟨(ne_of_none S.ob n).symm, (ne_of_none h n).symm⟩
theorem Src.nt {a c p : Addr} {H : Hp} {t : Nat} {xs : List V} (S : Src H a c t) (n : H p = some (.tup xs)) : p ≠ a ∧ p ≠ c := by
  obtain ⟨cs, h, l⟩ := S.cl
  exact ⟨ne_of n S.ob (by intro z; cases z), ne_of n h (by intro z; cases z)⟩
def spSource (K : PySem.W.Frag) : Sp := fun vs H Q _ => ∃ (l : Addr) (ns : List Int), vs = [.ref l] ∧ SqL K H l (ns.map V.int) ∧ ns.length ≤ 63 ∧
  ∀ a c H', Same H H' → H a = none → H c = none → Src H' a c 0 → Q (.ref a) H'
def spDraw : Sp := fun vs H Q _ => ∃ (a c : Addr) (t : Nat) (lim : Int), vs = [.ref a, .int lim] ∧ Src H a c t ∧ t < 2 ^ 30 ∧ 0 < lim ∧ lim.natAbs.log2 < 9000 ∧
  ∀ k H', 0 ≤ k → k < lim → Src H' a c (t + 1) → Oth a c H H' → Q (.int k) H'
/-- what the walk asks of the names that the text does not bind -/
structure Blt (mg : Str → Option Value) : Prop where
  len : mg "len" = none
  abs : mg "abs" = none
  int : mg "int" = none
  range : mg "range" = none
section
variable {P : Program} {w : World} {K : PySem.W.Frag} {mg : Str → Option Value} {base : Heap}
theorem fdiv_ok (i : Int) {j : Int} (h : 0 < j) (h9 : j.natAbs.log2 < 9000) : CDivW i j := ⟨h, h9⟩
theorem atI_in {xs : List Int} {i : Int} (h0 : 0 ≤ i) (h : i < (xs.length : Int)) : atI (xs.map V.int) i = some (.int (xs.getD i.toNat 0)) := by
  have e : ixN (xs.map V.int).length i = some i.toNat := by
    unfold ixN
    rw [List.length_map, if_pos h0, if_pos h]
  unfold atI
  rw [e]
  show (xs.map V.int)[i.toNat]? = _
  have hl : i.toNat < xs.length := by omega
  rw [List.getElem?_map, List.getElem?_eq_getElem hl, List.getD_eq_getElem?_getD, List.getElem?_eq_getElem hl]
  rfl
theorem ixN_in {n : Nat} {i : Int} (h0 : 0 ≤ i) (h : i < (n : Int)) : ixN n i = some i.toNat := by
  unfold ixN
  rw [if_pos h0, if_pos h]
theorem b_mod (x : Int) : -(2 ^ 64) < x % 2147483629 ∧ x % 2147483629 < 2 ^ 64 := by omega
theorem b_mod1 (x : Int) : -(2 ^ 64) < x % 2147483647 ∧ x % 2147483647 < 2 ^ 64 := by omega
theorem b_t {t : Nat} (h : t < 2 ^ 30) : -(2 ^ 64) < (t : Int) ∧ (t : Int) < 2 ^ 64 := by omega
theorem b_tt {t : Nat} (h : t < 2 ^ 30) : -(2 ^ 64) < (t : Int) * t ∧ (t : Int) * t < 2 ^ 64 := by
  have h1 : t * t < 2 ^ 30 * 2 ^ 30 := Nat.mul_lt_mul'' h h
  have h2 : ((t * t : Nat) : Int) = (t : Int) * t := Int.natCast_mul t t
  omega
theorem set_ints (xs : List Int) (j : Nat) (y : Int) : (xs.map V.int).set j (.int y) = (xs.set j y).map V.int := by
  rw [List.map_set]
theorem ok_draw {f : Addr} {fd : FuncData} (F : Fun K "_law_draw" "_law_draw" s_L_draw f fd) (B : Blt mg) : FnOk P w K mg base CX0 1 f fd ["_law_source_here", "_law_limit"] spDraw := by
  refine F.ok sc_L_draw (fun vs H Q E h => ?_) (fun cdv A outer s H vs Q E hr h => ?_)
  · obtain ⟨a, c, t, lim, rfl, _⟩ := h
    rfl
  · obtain ⟨a, c, t, lim, rfl, S, ht, hl0, hl9, q⟩ := h
    obtain ⟨cs, hc, hn0, hn⟩ := S.cl
    have nd := sc_L_draw.nd
    refine ⟨_, pss_cons (ps_asg (pv 0) (pg_unl (n := 2) (by rfl) (pgs_cons (pg_name (i := 2) nd rfl (Or.inl rfl)) (pgs_cons (pg_name (i := 3) nd rfl (Or.inl rfl)) pgs_nil))))
      (pss_cons (ps_set (i := 4) nd rfl (Or.inl rfl) (pe_op op_mod (pe_callTy call_int1 (by rfl) B.int (by decide +kernel) (pa_cons (pv 3) pa_nil)) (pe_callB call_len_seq (by rfl) B.len PySem.boot_len (pa_cons (pv 2) pa_nil))))
      (pss_cons (ps_set (i := 5) nd rfl (Or.inl rfl) (pe_ix ix_list (pv 2) (pv 4) (fun _ _ => rfl)))
      (pss_cons (ps_asg (pe_op op_add (pv 3) pe_int) (pg_sub (pv 0) pe_int set_list))
      (pss_cons (ps_if (pt_cmpR op_ge (pv 5) (pe_op op_pow pe_int pe_int) (nomark _))
        (pss_cons (ps_asg (pe_op op_fdivW (pv 5) (pv 1)) (pg_sub (pv 2) (pv 4) set_list))
          (pss_one (ps_ret (pe_op op_mod (pe_callTy call_int1 (by rfl) B.int (by decide +kernel) (pa_cons (pv 5) pa_nil)) (pv 1))))) pss_nil)
      (pss_cons (ps_set (i := 6) nd rfl (Or.inl rfl) (pe_op op_mod (pe_callTy call_int1 (by rfl) B.int (by decide +kernel) (pa_cons
          (pe_op op_add (pe_op op_add (pe_op op_mul (pe_op op_mod (pe_callTy call_int1 (by rfl) B.int (by decide +kernel) (pa_cons (pv 5) pa_nil)) pe_int) pe_int) (pe_op op_mul (pe_op op_mul (pv 3) (pv 3)) pe_int)) pe_int) pa_nil)) pe_int))
      (pss_cons (ps_set (i := 6) nd rfl (Or.inl rfl) (pe_op op_mod (pe_callTy call_int1 (by rfl) B.int (by decide +kernel) (pa_cons (pe_op op_mul (pv 6) (pv 6)) pa_nil)) pe_int))
      (pss_cons (ps_set (i := 6) nd rfl (Or.inl rfl) (pe_op op_mod (pe_callTy call_int1 (by rfl) B.int (by decide +kernel) (pa_cons (pe_op op_mul (pv 6) (pv 6)) pa_nil)) pe_int))
      (pss_one (ps_ret (pe_op op_mod (pe_callTy call_int1 (by rfl) B.int (by decide +kernel) (pa_cons (pv 6) pa_nil)) (pv 1))))))))))), ?_⟩
    -- _law_cells, _law_turn = _law_source_here
    walk_at "rd"
    refine ⟨a, _, rfl, SqL.of S.ob, rfl, _, _, rfl, _, _, rfl, rfl, ?_⟩
    -- _law_place
    walk_at "rd"
    have hn0' : (0 : Int) < ((cs.map V.int).length : Nat) := by rw [List.length_map]; omega
    refine ⟨c, _, rfl, .inl (SqL.of hc), _, _, rfl, rfl, hn0', ?_⟩
    have hp0 : 0 ≤ (t : Int) % ((cs.map V.int).length : Nat) := Int.emod_nonneg _ (by omega)
    have hp1 : (t : Int) % ((cs.map V.int).length : Nat) < ((cs.map V.int).length : Nat) := Int.emod_lt_of_pos _ hn0'
    have hp1' : (t : Int) % ((cs.map V.int).length : Nat) < (cs.length : Int) := by rw [List.length_map] at hp1 ⊢; exact hp1
    -- _law_cell
    walk_at "rd"
    refine ⟨c, _, _, _, rfl, rfl, SqL.of hc, atI_in hp0 hp1', ?_⟩
    -- _law_source_here[1] = _law_turn + 1
    walk_at "rd"
    refine ⟨a, _, 1, 1, rfl, rfl, S.ob, rfl, ?_⟩
    have S1 : Src (upd H a (.lst ([V.ref c, V.int t].set 1 (.int ((t : Int) + 1))))) a c (t + 1) := ⟨S.ne, by rw [upd_same]; rfl, cs, by rw [upd_ne S.ne.symm]; exact hc, hn0, hn⟩
    have O1 : Oth a c H (upd H a (.lst ([V.ref c, V.int t].set 1 (.int ((t : Int) + 1))))) := fun b o h na _ => by rw [upd_ne na]; exact h
    have hc1 : upd H a (.lst ([V.ref c, V.int t].set 1 (.int ((t : Int) + 1)))) c = some (.lst (cs.map V.int)) := by rw [upd_ne S.ne.symm]; exact hc
    generalize upd H a (.lst ([V.ref c, V.int t].set 1 (.int ((t : Int) + 1)))) = H1 at S1 O1 hc1 ⊢
    -- if _law_cell >= 10 ** 18
    walk_at "rd"
    refine ⟨⟨by decide, by decide, by decide⟩, ?_⟩
    walk_at "rd"
    refine ite2 (fun _ => ?_) (fun _ => ?_)
    · walk_at "rd"
      refine ⟨fdiv_ok _ hl0 hl9, ?_⟩
      walk_at "rd"
      refine ⟨c, _, _, _, rfl, rfl, hc1, ixN_in hp0 hp1, ?_⟩
      walk_at "rd"
      refine ⟨hl0, ?_⟩
      rw [set_ints]
      refine q _ _ (Int.emod_nonneg _ (by omega)) (Int.emod_lt_of_pos _ hl0) ⟨S1.ne, by rw [upd_ne S1.ne]; exact S1.ob, _, upd_same, by rw [List.length_set]; exact hn0, by rw [List.length_set]; exact hn⟩ fun b o h na nc => ?_
      rw [upd_ne nc]
      exact O1 b o h na nc
    · walk_at "rd"
      refine ⟨(by show (0 : Int) < 2147483629; decide), ?_⟩
      walk_at "rd"
      refine ⟨.inl (b_mod _), ?_⟩
      walk_at "rd"
      refine ⟨.inl (b_t ht), ?_⟩
      walk_at "rd"
      refine ⟨.inl (b_tt ht), ?_⟩
      walk_at "rd"
      refine ⟨(by show (0 : Int) < 2147483647; decide), ?_⟩
      walk_at "rd"
      refine ⟨.inl (b_mod1 _), ?_⟩
      walk_at "rd"
      refine ⟨(by show (0 : Int) < 2147483629; decide), ?_⟩
      walk_at "rd"
      refine ⟨.inl (b_mod _), ?_⟩
      walk_at "rd"
      refine ⟨(by show (0 : Int) < 2147483587; decide), ?_⟩
      walk_at "rd"
      refine ⟨hl0, ?_⟩
      exact q _ _ (Int.emod_nonneg _ (by omega)) (Int.emod_lt_of_pos _ hl0) S1 O1
end
end HT
namespace HT
open PySem L2
/-- a def of the text that may be called by its name, and what it promises -/
structure Cal (P : Program) (w : World) (K : PySem.W.Frag) (mg : Str → Option Value) (base : Heap) (x : Str) (k : Nat) (ps : List Str) (sp : Sp) (f : Addr) (fd : FuncData) : Prop where
  ok : FnOk P w K mg base CX0 k f fd ps sp
  gl : mg x = some (.ref f)
  kp : PySem.W.keepIn K (.ref f) = true
  bd : Binds K fd ps []
theorem pcl {X : Cx} {x : Str} {k j : Nat} {ps : List Str} {sp : Sp} {f : Addr} {fd : FuncData} {e : Expr} {es : List Expr} {t : TA} {p pos : Pos} (C : Cal X.prog X.w X.K X.mg X.base x k ps sp f fd) (hr : Room j X.A) (hj : k ≤ j) (hg : Gl X x) (ha : PA X (e :: es) t)
    (hdb : (x == ("__debug__" : Str)) = false := by decide) (he : starEach (e :: es) X.env = (false, eval e X.env) :: starEach es X.env := by rfl) (hpl : (backTo pos (starEach es X.env)).any (·.1) = false := by rfl) : PE X (.Call (.Name x p) (e :: es) [] pos) (tCall sp [] E0 t) :=
  pe_call C.ok (hr.mono hj) hg C.gl C.kp C.bd .nil pass0 ha hdb he hpl
section
variable {P : Program} {w : World} {K : PySem.W.Frag} {mg : Str → Option Value} {base : Heap}
theorem cut63 {ns : List Int} (h : ns.length ≤ 63) : cutV (ns.map V.int) none (some 63) = ns.map V.int := by
  have e1 : HT.sIx (ns.map V.int).length 0 none = 0 := rfl
  have e2 : HT.sIx (ns.map V.int).length (ns.map V.int).length (some 63) = (ns.map V.int).length := by
    have := HT.sIx_nat (ns.map V.int).length (ns.map V.int).length 63
    rw [show ((63 : Nat) : Int) = 63 from rfl] at this
    rw [this, List.length_map]
    omega
  unfold cutV
  rw [e1, e2, List.drop_zero, Nat.sub_zero, List.take_length]
theorem dpInts (H : Hp) : ∀ ns : List Int, DpAll K H (ns.map V.int) (ns.map PyData.int)
  | [] => .nil
  | n :: r => .cons (.int n) (dpInts H r)
theorem pow_ok : CPowW ((10 : Int) ^ (60 : Int).toNat) 20 := ⟨by decide, by decide +kernel⟩
theorem pow_pos' : (0 : Int) < ((10 : Int) ^ (60 : Int).toNat) ^ (20 : Int).toNat := by decide +kernel
theorem ok_source {f : Addr} {fd : FuncData} (F : Fun K "_law_source" "_law_source" s_L_source f fd) (B : Blt mg) : FnOk P w K mg base CX0 1 f fd ["_law_script"] (spSource K) := by
  refine F.ok sc_L_source (fun vs H Q E h => ?_) (fun cdv A outer s H vs Q E hr h => ?_)
  · obtain ⟨l, ns, rfl, _⟩ := h
    rfl
  · obtain ⟨l, ns, rfl, hL, hn, q⟩ := h
    have nd := sc_L_source.nd
    refine ⟨_, pss_cons (ps_set (i := 1) nd rfl (Or.inl rfl) (pe_slice sl_list (pv 0) po_none (po_some pe_int)))
      (pss_cons (ps_for PassesOwn.never rfl (pi_range1 (by rfl) B.range (pa_cons (pe_callB call_len_seq (by rfl) B.len PySem.boot_len (pa_cons (pv 1) pa_nil)) pa_nil)) (pg_name (i := 2) nd rfl (Or.inl rfl))
        (pss_one (ps_if (pt_cmpR op_ge (pe_callB call_abs (by rfl) B.abs (by decide +kernel) (pa_cons (pe_ix ix_list (pv 1) (pv 2) (fun _ _ => rfl)) pa_nil)) (pe_op op_pow pe_int pe_int) (nomark _))
          (pss_one (ps_asg (pe_op op_mod (pe_callTy call_int1 (by rfl) B.int (by decide +kernel) (pa_cons (pe_ix ix_list (pv 1) (pv 2) (fun _ _ => rfl)) pa_nil)) (pe_op op_powW (pe_op op_pow pe_int pe_int) pe_int)) (pg_sub (pv 1) (pv 2) set_list))) pss_nil)))
      (pss_cons (ps_if (pt_cmpR (op_eqD hr.units) (pv 1) (pe_lst pa_nil) (nomark _)) (pss_one (ps_set (i := 1) nd rfl (Or.inl rfl) (pe_lst (pa_cons pe_int pa_nil)))) pss_nil)
      (pss_one (ps_ret (pe_lst (pa_cons (pv 1) (pa_cons pe_int pa_nil))))))), ?_⟩
    walk_at "rd"
    refine ⟨l, _, rfl, hL, fun p np => ?_⟩
    rw [cut63 hn]
    walk_at "rd"
    refine ⟨p, _, rfl, .inl (SqL.of upd_same), _, rfl, by omega, ?_, ?_⟩
    · show ((ns.map V.int).length : Int) < 2 ^ 62
      rw [List.length_map]
      omega
    have en : ((ns.map V.int).length : Int).toNat = ns.length := by rw [List.length_map]; omega
    rw [en]
    refine for_range (fun i σ H' => ∃ (cs : List Int) (kv : Option V), σ = [some (.ref l), some (.ref p), kv] ∧ H' p = some (.lst (cs.map V.int)) ∧ cs.length = ns.length ∧ Same H H') ⟨ns, none, rfl, upd_same, rfl, fun b o e => by rw [upd_ne (ne_of_none e np)]; exact e⟩ ?_ ?_
    · rintro i σ H' hi ⟨cs, kv, rfl, hp, hl, sm⟩
      have h0 : (0 : Int) ≤ 0 + (i : Int) := by omega
      have h1 : (0 : Int) + (i : Int) < (cs.length : Int) := by omega
      walk_at "rd"
      refine ⟨p, _, _, _, rfl, rfl, SqL.of hp, atI_in h0 h1, ?_⟩
      walk_at "rd"
      refine ⟨⟨by decide, by decide, by decide⟩, ?_⟩
      walk_at "rd"
      refine ite2 (fun _ => ?_) (fun _ => ?_)
      · walk_at "rd"
        refine ⟨p, _, _, _, rfl, rfl, SqL.of hp, atI_in h0 h1, ?_⟩
        walk_at "rd"
        refine ⟨⟨by decide, by decide, by decide⟩, ?_⟩
        walk_at "rd"
        refine ⟨pow_ok, ?_⟩
        walk_at "rd"
        refine ⟨pow_pos', ?_⟩
        walk_at "rd"
        refine ⟨p, _, _, _, rfl, rfl, hp, ixN_in h0 (by rw [List.length_map]; exact h1), ?_⟩
        rw [set_ints]
        exact ⟨_, _, rfl, upd_same, by rw [List.length_set]; exact hl, fun b o e => by rw [upd_ne (ne_of_none e np)]; exact sm b o e⟩
      · exact ⟨cs, _, rfl, hp, hl, sm⟩
    · rintro σ H' ⟨cs, kv, rfl, hp, hl, sm⟩
      walk_at "rd"
      refine ⟨by decide, fun e ne => ?_⟩
      have hpe : upd H' e (.lst []) p = some (.lst (cs.map V.int)) := by rw [upd_ne (ne_of_none hp ne)]; exact hp
      have sm1 : Same H (upd H' e (.lst [])) := fun b o z => by rw [upd_ne (ne_of_none (sm b o z) ne)]; exact sm b o z
      refine ⟨_, _, .lst (SqL.of hpe) (dpInts _ cs), .lst (SqL.of upd_same) .nil, PySem.W.ke_shaped_ints cs, by decide +kernel, ?_⟩
      walk_at "rd"
      have hb : PyData.eqv (.list (cs.map PyData.int)) (.list []) = decide (cs = []) := by
        have z := PySem.W.ked_eqvAll cs []
        rw [← z]
        rfl
      rw [hb]
      refine ite2 (fun _ => ?_) (fun hne => ?_)
      · walk_at "rd"
        refine ⟨by decide, fun c nc => ?_⟩
        walk_at "rd"
        refine ⟨(by show 2 ≤ sizeLine; decide), fun a na => ?_⟩
        have sm2 : Same H (upd (upd H' e (.lst [])) c (.lst [.int 0])) := fun b o z => by rw [upd_ne (ne_of_none (sm1 b o z) nc)]; exact sm1 b o z
        have nac : a ≠ c := (ne_of_none upd_same na).symm
        refine q a c _ (fun b o z => by rw [upd_ne (ne_of_none (sm2 b o z) na)]; exact sm2 b o z) (sm2.free na) (sm1.free nc) ⟨nac, upd_same, [0], by rw [upd_ne nac.symm]; exact upd_same, by decide, by decide⟩
      · walk_at "rd"
        refine ⟨(by show 2 ≤ sizeLine; decide), fun a na => ?_⟩
        have nap : a ≠ p := (ne_of_none hpe na).symm
        refine q a p _ (fun b o z => by rw [upd_ne (ne_of_none (sm1 b o z) na)]; exact sm1 b o z) (sm1.free na) np ⟨nap, upd_same, cs, by rw [upd_ne nap.symm]; exact hpe, ?_, by omega⟩
        have : cs ≠ [] := fun z => hne (decide_eq_true z)
        exact List.length_pos_iff.mpr this
end
end HT
namespace HT
open PySem L2
/-! ### pick, great, side -/
def spPick : Sp := fun vs H Q _ => ∃ (a c : Addr) (t : Nat) (l : Addr) (xs : List V), vs = [.ref a, .ref l] ∧ Src H a c t ∧ t < 2 ^ 30 ∧ H l = some (.lst xs) ∧ l ≠ a ∧ l ≠ c ∧ 0 < xs.length ∧ xs.length < 2 ^ 60 ∧
  ∀ x H', x ∈ xs → Src H' a c (t + 1) → Oth a c H H' → Q x H'
def spGreat : Sp := fun vs H Q _ => ∃ (a c : Addr) (t n : Nat), vs = [.ref a, .int (n : Int)] ∧ Src H a c t ∧ n ≤ 1000 ∧ t + n < 2 ^ 30 ∧
  ∀ k H', 0 ≤ k → k < 10 ^ n → Src H' a c (t + n) → Oth a c H H' → Q (.int k) H'
/-- the modes -/
def Mode (m : Str) : Prop := m = "down" ∨ m = "up" ∨ m = "half_down" ∨ m = "half_up" ∨ m = "half_even"
/-- a side's parts -/
structure SideP (o s : Int) (m : Str) : Prop where
  o0 : -10 ^ 40 ≤ o
  o1 : o ≤ 10 ^ 40
  s0 : 1 ≤ s
  s1 : s ≤ 10 ^ 30
  md : Mode m
def sideV (o s : Int) (m : Str) : HO := .tup [.int o, .int s, .str m]
def spSide : Sp := fun vs H Q _ => ∃ (a c : Addr) (t n : Nat), vs = [.ref a, .int (n : Int)] ∧ Src H a c t ∧ 1 ≤ n ∧ n ≤ 40 ∧ t + 200 < 2 ^ 30 ∧
  ∀ p o s m H' t', H p = none → H' p = some (sideV o s m) → SideP o s m → t' ≤ t + 200 → Src H' a c t' → Oth a c H H' → Q (.ref p) H'
theorem lg_nat {n : Nat} (h : n < 2 ^ 200) : ((n : Int)).natAbs.log2 < 9000 := by
  rw [Int.natAbs_natCast]
  by_cases e : n = 0
  · rw [e]; decide
  · have := (Nat.log2_lt e).mpr h
    omega
theorem lg_small {n : Int} (h0 : 0 ≤ n) (h : n < 2 ^ 64) : n.natAbs.log2 < 9000 := by
  obtain ⟨m, rfl⟩ := Int.eq_ofNat_of_zero_le h0
  exact lg_nat (Nat.lt_of_lt_of_le (by omega : m < 2 ^ 64) (Nat.pow_le_pow_right (by decide) (by decide)))
section
variable {P : Program} {w : World} {K : PySem.W.Frag} {mg : Str → Option Value} {base : Heap} {fD fP fG : Addr} {dD dP dG : FuncData}
theorem ok_pick {f : Addr} {fd : FuncData} (F : Fun K "_law_pick" "_law_pick" s_L_pick f fd) (B : Blt mg) (D : Cal P w K mg base "_law_draw" 1 ["_law_source_here", "_law_limit"] spDraw fD dD) :
    FnOk P w K mg base CX0 2 f fd ["_law_source_here", "_law_values_here"] spPick := by
  refine F.ok sc_L_pick (fun vs H Q E h => ?_) (fun cdv A outer s H vs Q E hr h => ?_)
  · obtain ⟨a, c, t, l, xs, rfl, _⟩ := h
    rfl
  · obtain ⟨a, c, t, l, xs, rfl, S, ht, hl, na, nc, h0, h1, q⟩ := h
    refine ⟨_, pss_one (ps_ret (pe_ix ix_list (pv 1) (pcl D hr (by decide) (by rfl) (pa_cons (pv 0) (pa_cons (pe_callB call_len_seq (by rfl) B.len PySem.boot_len (pa_cons (pv 1) pa_nil)) pa_nil))) (fun _ _ => rfl))), ?_⟩
    walk_at "rd"
    refine ⟨l, _, rfl, .inl (SqL.of hl), ?_⟩
    have p1 : (0 : Int) < (xs.length : Int) := by omega
    refine ⟨a, c, t, _, rfl, S, ht, p1, lg_nat (Nat.lt_of_lt_of_le h1 (Nat.pow_le_pow_right (by decide) (by decide))), fun k H' k0 k1 S' O => ?_⟩
    have hl' : k.toNat < xs.length := by omega
    have e : atI xs k = some xs[k.toNat] := by
      unfold atI
      rw [ixN_in k0 k1]
      exact List.getElem?_eq_getElem hl'
    refine ⟨l, _, _, _, rfl, rfl, SqL.of (O _ _ hl na nc), e, ?_⟩
    exact q _ _ (List.getElem_mem hl') S' O
theorem ok_great {f : Addr} {fd : FuncData} (F : Fun K "_law_great" "_law_great" s_L_great f fd) (B : Blt mg) (D : Cal P w K mg base "_law_draw" 1 ["_law_source_here", "_law_limit"] spDraw fD dD) :
    FnOk P w K mg base CX0 2 f fd ["_law_source_here", "_law_digits"] spGreat := by
  refine F.ok sc_L_great (fun vs H Q E h => ?_) (fun cdv A outer s H vs Q E hr h => ?_)
  · obtain ⟨a, c, t, n, rfl, _⟩ := h
    rfl
  · obtain ⟨a, c, t, n, rfl, S, hn, ht, q⟩ := h
    have nd := sc_L_great.nd
    refine ⟨_, pss_cons (ps_set (i := 2) nd rfl (Or.inl rfl) pe_int)
      (pss_cons (ps_for PassesOwn.never rfl (pi_range1 (by rfl) B.range (pa_cons (pv 1) pa_nil)) (pg_name (i := 3) nd rfl (Or.inl rfl))
        (pss_one (ps_set (i := 2) nd rfl (Or.inl rfl) (pe_op op_add (pe_op op_mul (pv 2) pe_int) (pcl D hr (by decide) (by rfl) (pa_cons (pv 0) (pa_cons pe_int pa_nil)))))))
      (pss_one (ps_ret (pv 2)))), ?_⟩
    walk_at "rd"
    refine ⟨by omega, by omega, ?_⟩
    rw [Int.toNat_natCast]
    refine for_range (fun i σ H' => ∃ (k : Int) (kv : Option V), σ = [some (.ref a), some (.int (n : Int)), some (.int k), kv] ∧ 0 ≤ k ∧ k < 10 ^ i ∧ Src H' a c (t + i) ∧ Oth a c H H') ⟨0, none, rfl, by decide, by decide, S, Oth.refl _ _ _⟩ ?_ ?_
    · rintro i σ H' hi ⟨k, kv, rfl, k0, k1, S', O⟩
      walk_at "rd"
      refine ⟨.inr ⟨by decide, by decide⟩, ?_⟩
      walk_at "rd"
      refine ⟨a, c, t + i, _, rfl, S', by omega, (by show (0 : Int) < 10; decide), (by show (10 : Int).natAbs.log2 < 9000; decide), fun y H2 y0 y1 S2 O2 => ?_⟩
      walk_at "rd"
      have y1' : y < 10 := y1
      refine ⟨_, _, rfl, (by show 0 ≤ k * 10 + y; omega), (by show k * 10 + y < 10 ^ (i + 1); rw [Int.pow_succ]; omega), S2, O.trans O2⟩
    · rintro σ H' ⟨k, kv, rfl, k0, k1, S', O⟩
      walk_at "rd"
      exact q _ _ k0 k1 S' O
theorem pow10_le {n : Nat} (h : n ≤ 40) : (10 : Int) ^ n ≤ 10 ^ 40 := by
  have : (10 : Nat) ^ n ≤ 10 ^ 40 := Nat.pow_le_pow_right (by decide) h
  exact_mod_cast this
theorem mode_of {x : V} (h : x ∈ [V.str "down", .str "up", .str "half_down", .str "half_up", .str "half_even"]) : ∃ m : Str, x = .str m ∧ Mode m := by
  simp only [List.mem_cons, List.not_mem_nil, or_false] at h
  rcases h with h | h | h | h | h
  · exact ⟨_, h, .inl rfl⟩
  · exact ⟨_, h, .inr (.inl rfl)⟩
  · exact ⟨_, h, .inr (.inr (.inl rfl))⟩
  · exact ⟨_, h, .inr (.inr (.inr (.inl rfl)))⟩
  · exact ⟨_, h, .inr (.inr (.inr (.inr rfl)))⟩
theorem sgn_of {x : V} (h : x ∈ [V.int 1, .int (-1), .int 0]) : ∃ j : Int, x = .int j ∧ (j = 1 ∨ j = -1 ∨ j = 0) := by
  simp only [List.mem_cons, List.not_mem_nil, or_false] at h
  rcases h with h | h | h
  · exact ⟨_, h, .inl rfl⟩
  · exact ⟨_, h, .inr (.inl rfl)⟩
  · exact ⟨_, h, .inr (.inr rfl)⟩
theorem ok_side {f : Addr} {fd : FuncData} (F : Fun K "_law_side" "_law_side" s_L_side f fd) (B : Blt mg) (D : Cal P w K mg base "_law_draw" 1 ["_law_source_here", "_law_limit"] spDraw fD dD)
    (Pk : Cal P w K mg base "_law_pick" 2 ["_law_source_here", "_law_values_here"] spPick fP dP) (G : Cal P w K mg base "_law_great" 2 ["_law_source_here", "_law_digits"] spGreat fG dG) :
    FnOk P w K mg base CX0 3 f fd ["_law_source_here", "_law_digits"] spSide := by
  refine F.ok sc_L_side (fun vs H Q E h => ?_) (fun cdv A outer s H vs Q E hr h => ?_)
  · obtain ⟨a, c, t, n, rfl, _⟩ := h
    rfl
  · obtain ⟨a, c, t, n, rfl, S, hn0, hn, ht, q⟩ := h
    have nd := sc_L_side.nd
    refine ⟨_, pss_cons (ps_set (i := 2) nd rfl (Or.inl rfl) (pe_op op_add pe_int (pe_op op_mod (pcl G hr (by decide) (by rfl) (pa_cons (pv 0) (pa_cons (pe_op op_add pe_int (pcl D hr (by decide) (by rfl) (pa_cons (pv 0) (pa_cons (pv 1) pa_nil)))) pa_nil))) (pe_op op_pow pe_int pe_int))))
      (pss_cons (ps_if (pt_cmpR op_eq (pcl D hr (by decide) (by rfl) (pa_cons (pv 0) (pa_cons pe_int pa_nil))) pe_int (nomark _))
        (pss_one (ps_set (i := 2) nd rfl (Or.inl rfl) (pe_op op_add pe_int (pcl D hr (by decide) (by rfl) (pa_cons (pv 0) (pa_cons pe_int pa_nil)))))) pss_nil)
      (pss_cons (ps_set (i := 3) nd rfl (Or.inl rfl) (pe_op op_mul (pcl G hr (by decide) (by rfl) (pa_cons (pv 0) (pa_cons (pe_op op_add pe_int (pcl D hr (by decide) (by rfl) (pa_cons (pv 0) (pa_cons (pv 1) pa_nil)))) pa_nil)))
        (pcl Pk hr (by decide) (by rfl) (pa_cons (pv 0) (pa_cons (pe_lst (pa_cons pe_int (pa_cons (pe_un un_neg pe_int) (pa_cons pe_int pa_nil)))) pa_nil)))))
      (pss_one (ps_ret (pe_tup (pa_cons (pv 3) (pa_cons (pv 2) (pa_cons (pcl Pk hr (by decide) (by rfl) (pa_cons (pv 0) (pa_cons (pe_lst (pa_cons pe_str (pa_cons pe_str (pa_cons pe_str (pa_cons pe_str (pa_cons pe_str pa_nil)))))) pa_nil))) pa_nil)))))))), ?_⟩
    have nl0 : (0 : Int) < (n : Int) := by omega
    have nl9 : ((n : Int)).natAbs.log2 < 9000 := lg_nat (Nat.lt_of_lt_of_le (by omega : n < 2 ^ 64) (Nat.pow_le_pow_right (by decide) (by decide)))
    -- step
    walk_at "rd"
    refine ⟨a, c, t, _, rfl, S, by omega, nl0, nl9, fun k1 H1 k10 k11 S1 O1 => ?_⟩
    obtain ⟨m1, rfl⟩ := Int.eq_ofNat_of_zero_le k10
    walk_at "rd"
    have g1 : (1 : Int) + (m1 : Int) = ((m1 + 1 : Nat) : Int) := by omega
    refine ⟨a, c, t + 1, m1 + 1, (by show [V.ref a, V.int (1 + (m1 : Int))] = _; rw [g1]), S1, by omega, by omega, fun k2 H2 k20 k21 S2 O2 => ?_⟩
    walk_at "rd"
    refine ⟨⟨by decide, by decide, by decide⟩, ?_⟩
    walk_at "rd"
    refine ⟨(by show (0 : Int) < 10 ^ (30 : Int).toNat; decide), ?_⟩
    walk_at "rd"
    have st0 : (1 : Int) ≤ 1 + k2 % 10 ^ (30 : Int).toNat := by
      have := Int.emod_nonneg k2 (show (10 : Int) ^ (30 : Int).toNat ≠ 0 by decide)
      omega
    have st1 : 1 + k2 % (10 : Int) ^ (30 : Int).toNat ≤ 10 ^ 30 := by
      have := Int.emod_lt_of_pos k2 (show (0 : Int) < 10 ^ (30 : Int).toNat by decide)
      have e : (10 : Int) ^ (30 : Int).toNat = 10 ^ 30 := by decide
      omega
    refine ⟨a, c, t + 1 + (m1 + 1), _, rfl, S2, by omega, (by show (0 : Int) < 3; decide), (by show (3 : Int).natAbs.log2 < 9000; decide), fun k3 H3 k30 k31 S3 O3 => ?_⟩
    walk_at "rd"
    have O13 : Oth a c H H3 := (O1.trans O2).trans O3
    refine ⟨rfl, ?_⟩
    walk_at "rd"
    refine ite2 (fun _ => ?A) (fun _ => ?B)
    case' A =>
      walk_at "rd"
      refine ⟨a, c, _, _, rfl, S3, by omega, (by show (0 : Int) < 12; decide), (by show (12 : Int).natAbs.log2 < 9000; decide), fun k4 H4 k40 k41 S4 O4 => ?_⟩
      walk_at "rd"
      have k41' : k4 < 12 := k41
      have hs0 : 1 ≤ 1 + k4 := by omega
      have hs1 : 1 + k4 ≤ 10 ^ 30 := by omega
      obtain ⟨t5, ht5, S5⟩ : ∃ t5, t5 ≤ t + 100 ∧ Src H4 a c t5 := ⟨_, (by omega), S4⟩
      have O5 := O13.trans O4
    case' B =>
      have hs0 := st0
      have hs1 := st1
      obtain ⟨t5, ht5, S5⟩ : ∃ t5, t5 ≤ t + 100 ∧ Src H3 a c t5 := ⟨_, (by omega), S3⟩
      have O5 := O13
    all_goals
      walk_at "rd"
      refine ⟨a, c, t5, _, rfl, S5, by omega, nl0, nl9, fun k6 H6 k60 k61 S6 O6 => ?_⟩
      obtain ⟨m6, rfl⟩ := Int.eq_ofNat_of_zero_le k60
      walk_at "rd"
      have g6 : (1 : Int) + (m6 : Int) = ((m6 + 1 : Nat) : Int) := by omega
      refine ⟨a, c, t5 + 1, m6 + 1, (by show [V.ref a, V.int (1 + (m6 : Int))] = _; rw [g6]), S6, by omega, by omega, fun k7 H7 k70 k71 S7 O7 => ?_⟩
      walk_at "rd"
      refine ⟨(by show 3 ≤ sizeLine; decide), fun l nl => ?_⟩
      obtain ⟨la, lc⟩ := S7.na nl
      refine ⟨a, c, _, l, _, rfl, S7.new nl, by omega, upd_same, la, lc, by decide, by decide, fun x H8 hx S8 O8 => ?_⟩
      obtain ⟨j, rfl, hj⟩ := sgn_of hx
      walk_at "rd"
      refine ⟨.inr (by rcases hj with e | e | e <;> subst e <;> exact ⟨by decide, by decide⟩), ?_⟩
      have z7 : k7 < 10 ^ 40 := Int.lt_of_lt_of_le k71 (pow10_le (by omega))
      have of0 : -10 ^ 40 ≤ k7 * j := by rcases hj with e | e | e <;> subst e <;> omega
      have of1 : k7 * j ≤ 10 ^ 40 := by rcases hj with e | e | e <;> subst e <;> omega
      have O8' : Oth a c H H8 := (((O5.trans O6).trans O7).new nl).trans O8
      walk_at "rd"
      refine ⟨(by show 5 ≤ sizeLine; decide), fun l2 nl2 => ?_⟩
      obtain ⟨la2, lc2⟩ := S8.na nl2
      refine ⟨a, c, _, l2, _, rfl, S8.new nl2, by omega, upd_same, la2, lc2, by decide, by decide, fun x2 H9 hx2 S9 O9 => ?_⟩
      obtain ⟨md, rfl, hmd⟩ := mode_of hx2
      refine ⟨(by show 3 ≤ sizeLine; decide), fun p np => ?_⟩
      have O9' : Oth a c H H9 := (O8'.new nl2).trans O9
      have npH : H p = none := by
        cases e : H p with
        | none => rfl
        | some o =>
          by_cases ea : p = a
          · subst ea
            rw [S9.ob] at np
            cases np
          · by_cases ec : p = c
            · subst ec
              obtain ⟨cs, z, _⟩ := S9.cl
              rw [z] at np
              cases np
            · have z := O9' p o e ea ec
              rw [np] at z
              cases z
      refine q p _ _ md _ _ npH upd_same ⟨of0, of1, hs0, hs1, hmd⟩ ?_ (S9.new np) (O9'.new np)
      omega
end
end HT
namespace HT
open PySem L2
/-! ### the mathematics of a side -/
def goesUp (m : Str) (s q r : Int) : Bool := if m = "down" then false else if m = "up" then decide (0 < r) else if 2 * r = s then (if m = "half_even" then decide (q % 2 = 1) else decide (m = "half_up")) else decide (s < 2 * r)
/-- the figure to which v comes -/
def figM (o s : Int) (m : Str) (v : Int) : Int := if goesUp m s ((v - o) / s) ((v - o) % s) = true then (v - o) / s + 1 else (v - o) / s
def dueM (o s : Int) (m : Str) (v : Int) : Int := o + s * figM o s m v
theorem d_u : ¬ (("up" : Str) = "down") := by decide +kernel
theorem hd_d : ¬ (("half_down" : Str) = "down") := by decide +kernel
theorem hd_u : ¬ (("half_down" : Str) = "up") := by decide +kernel
theorem hu_d : ¬ (("half_up" : Str) = "down") := by decide +kernel
theorem hu_u : ¬ (("half_up" : Str) = "up") := by decide +kernel
theorem he_d : ¬ (("half_even" : Str) = "down") := by decide +kernel
theorem he_u : ¬ (("half_even" : Str) = "up") := by decide +kernel
theorem hd_e : ¬ (("half_down" : Str) = "half_even") := by decide +kernel
theorem hu_e : ¬ (("half_up" : Str) = "half_even") := by decide +kernel
theorem hd_hu : ¬ (("half_down" : Str) = "half_up") := by decide +kernel
theorem he_hu : ¬ (("half_even" : Str) = "half_up") := by decide +kernel
theorem u_hd : ¬ (("up" : Str) = "half_down") := by decide +kernel
theorem hu_hd : ¬ (("half_up" : Str) = "half_down") := by decide +kernel
theorem he_hd : ¬ (("half_even" : Str) = "half_down") := by decide +kernel
theorem go_down (s q r : Int) : goesUp "down" s q r = false := by unfold goesUp; rw [if_pos rfl]
theorem go_up (s q r : Int) : goesUp "up" s q r = decide (0 < r) := by unfold goesUp; rw [if_neg d_u, if_pos rfl]
theorem go_hd (s q r : Int) : goesUp "half_down" s q r = decide (s < 2 * r) := by
  unfold goesUp
  rw [if_neg hd_d, if_neg hd_u, if_neg hd_e, decide_eq_false hd_hu]
  by_cases h : 2 * r = s
  · rw [if_pos h, decide_eq_false (by omega)]
  · rw [if_neg h]
theorem go_hu (s q r : Int) : goesUp "half_up" s q r = decide (s ≤ 2 * r) := by
  unfold goesUp
  rw [if_neg hu_d, if_neg hu_u, if_neg hu_e, decide_eq_true rfl]
  by_cases h : 2 * r = s
  · rw [if_pos h, decide_eq_true (by omega)]
  · rw [if_neg h]
    by_cases g : s < 2 * r
    · rw [decide_eq_true g, decide_eq_true (by omega)]
    · rw [decide_eq_false g, decide_eq_false (by omega)]
theorem go_he (s q r : Int) : goesUp "half_even" s q r = (decide (s < 2 * r) || (decide (2 * r = s) && decide (q % 2 = 1))) := by
  unfold goesUp
  rw [if_neg he_d, if_neg he_u, if_pos rfl]
  by_cases h : 2 * r = s
  · rw [if_pos h, decide_eq_false (show ¬ s < 2 * r by omega), decide_eq_true h]
    rfl
  · rw [if_neg h, decide_eq_false h]
    simp
/-- what is known of a figure -/
structure Fig (o s : Int) (m : Str) (v q r k : Int) : Prop where
  eq : v - o = s * q + r
  r0 : 0 ≤ r
  r1 : r < s
  wh : (goesUp m s q r = true ∧ k = q + 1) ∨ (goesUp m s q r = false ∧ k = q)
theorem fig_of {o s : Int} {m : Str} {v : Int} (hs : 1 ≤ s) : Fig o s m v ((v - o) / s) ((v - o) % s) (figM o s m v) := by
  refine ⟨?_, Int.emod_nonneg _ (by omega), Int.emod_lt_of_pos _ (by omega), ?_⟩
  · have := Int.mul_ediv_add_emod (v - o) s
    omega
  · unfold figM
    cases h : goesUp m s ((v - o) / s) ((v - o) % s)
    · exact .inr ⟨rfl, by simp⟩
    · exact .inl ⟨rfl, by simp⟩
theorem divmod_eq {s q r x : Int} (hs : 1 ≤ s) (h : x = s * q + r) (r0 : 0 ≤ r) (r1 : r < s) : x / s = q ∧ x % s = r := by
  subst h
  constructor
  · rw [Int.add_comm, Int.add_mul_ediv_left _ _ (by omega), Int.ediv_eq_zero_of_lt r0 r1]
    omega
  · rw [Int.add_comm, Int.add_mul_emod_self_left]
    exact Int.emod_eq_of_lt r0 r1
theorem fig_uniq {o s : Int} {m : Str} {v q r k : Int} (hs : 1 ≤ s) (F : Fig o s m v q r k) : figM o s m v = k := by
  obtain ⟨e1, e2⟩ := divmod_eq hs F.eq F.r0 F.r1
  unfold figM
  rw [e1, e2]
  rcases F.wh with ⟨h, e⟩ | ⟨h, e⟩
  · rw [h, if_pos rfl, e]
  · rw [h, if_neg (by decide), e]
/-- going up wants a rest, and not going up a small one -/
theorem go_pos {m : Str} {s q r : Int} (hm : Mode m) (hs : 1 ≤ s) (r0 : 0 ≤ r) (h : goesUp m s q r = true) : 0 < r := by
  rcases hm with e | e | e | e | e <;> subst e
  · rw [go_down] at h; cases h
  · rw [go_up] at h; exact of_decide_eq_true h
  · rw [go_hd] at h; have := of_decide_eq_true h; omega
  · rw [go_hu] at h; have := of_decide_eq_true h; omega
  · rw [go_he, Bool.or_eq_true, Bool.and_eq_true] at h
    rcases h with h | ⟨h, _⟩ <;> have := of_decide_eq_true h <;> omega
theorem due_near {o s : Int} {m : Str} {v : Int} (hm : Mode m) (hs : 1 ≤ s) : dueM o s m v - v < s ∧ v - dueM o s m v < s := by
  have F := fig_of (o := o) (m := m) (v := v) hs
  unfold dueM
  generalize (v - o) / s = q at F
  generalize (v - o) % s = r at F
  obtain ⟨eq, r0, r1, wh⟩ := F
  rcases wh with ⟨h, e⟩ | ⟨h, e⟩
  · have := go_pos hm hs r0 h
    rw [e, Int.mul_add, Int.mul_one]
    generalize s * q = z at eq ⊢
    omega
  · rw [e]
    generalize s * q = z at eq ⊢
    omega
def half (m : Str) : Prop := m = "half_down" ∨ m = "half_up" ∨ m = "half_even"
theorem due_half {o s : Int} {m : Str} {v : Int} (hm : half m) (hs : 1 ≤ s) : 2 * (dueM o s m v - v) ≤ s ∧ 2 * (v - dueM o s m v) ≤ s := by
  have F := fig_of (o := o) (m := m) (v := v) hs
  unfold dueM
  generalize (v - o) / s = q at F
  generalize (v - o) % s = r at F
  obtain ⟨eq, r0, r1, wh⟩ := F
  have hb : (goesUp m s q r = true → s ≤ 2 * r) ∧ (goesUp m s q r = false → 2 * r ≤ s) := by
    rcases hm with e | e | e <;> subst e
    · rw [go_hd]; exact ⟨fun h => by have := of_decide_eq_true h; omega, fun h => by have := of_decide_eq_false h; omega⟩
    · rw [go_hu]; exact ⟨fun h => by have := of_decide_eq_true h; omega, fun h => by have := of_decide_eq_false h; omega⟩
    · rw [go_he]
      refine ⟨fun h => ?_, fun h => ?_⟩
      · rw [Bool.or_eq_true, Bool.and_eq_true] at h
        rcases h with h | ⟨h, _⟩ <;> have := of_decide_eq_true h <;> omega
      · rw [Bool.or_eq_false_iff] at h
        have := of_decide_eq_false h.1
        omega
  rcases wh with ⟨h, e⟩ | ⟨h, e⟩
  · have := hb.1 h
    rw [e, Int.mul_add, Int.mul_one]
    generalize s * q = z at eq ⊢
    omega
  · have := hb.2 h
    rw [e]
    generalize s * q = z at eq ⊢
    omega
theorem go_zero {m : Str} {s q : Int} (hm : Mode m) (hs : 1 ≤ s) : goesUp m s q 0 = false := by
  cases h : goesUp m s q 0 with
  | false => rfl
  | true => exact absurd (go_pos hm hs (Int.le_refl _) h) (by omega)
/-- what is written stands and is written as it is -/
theorem fig_at {o s k : Int} {m : Str} (hm : Mode m) (hs : 1 ≤ s) : figM o s m (o + s * k) = k :=
  fig_uniq (q := k) (r := 0) hs ⟨by omega, Int.le_refl _, by omega, .inr ⟨go_zero hm hs, rfl⟩⟩
theorem stands_at {o s k : Int} : (o + s * k - o) % s = 0 := by
  rw [show o + s * k - o = s * k by omega]
  exact Int.mul_emod_right s k
theorem due_eq {o s : Int} {m : Str} {v : Int} (hm : Mode m) (hs : 1 ≤ s) : (v - o) % s = 0 ↔ dueM o s m v = v := by
  have F := fig_of (o := o) (m := m) (v := v) hs
  unfold dueM
  generalize (v - o) / s = q at F
  generalize (v - o) % s = r at F ⊢
  obtain ⟨eq, r0, r1, wh⟩ := F
  rcases wh with ⟨h, e⟩ | ⟨h, e⟩
  · have := go_pos hm hs r0 h
    rw [e, Int.mul_add, Int.mul_one]
    generalize s * q = z at eq ⊢
    omega
  · rw [e]
    generalize s * q = z at eq ⊢
    omega
theorem go_mono {m : Str} {s q r : Int} (hm : Mode m) (h : goesUp m s q r = true) : goesUp m s q (r + 1) = true := by
  rcases hm with e | e | e | e | e <;> subst e
  · rw [go_down] at h; cases h
  · rw [go_up] at h ⊢; have := of_decide_eq_true h; exact decide_eq_true (by omega)
  · rw [go_hd] at h ⊢; have := of_decide_eq_true h; exact decide_eq_true (by omega)
  · rw [go_hu] at h ⊢; have := of_decide_eq_true h; exact decide_eq_true (by omega)
  · rw [go_he] at h ⊢
    have : s ≤ 2 * r := by
      rw [Bool.or_eq_true, Bool.and_eq_true] at h
      rcases h with h | ⟨h, _⟩ <;> have := of_decide_eq_true h <;> omega
    rw [decide_eq_true (show s < 2 * (r + 1) by omega)]
    rfl
theorem fig_mono {o s : Int} {m : Str} {v : Int} (hm : Mode m) (hs : 1 ≤ s) : figM o s m v ≤ figM o s m (v + 1) := by
  have F := fig_of (o := o) (m := m) (v := v) hs
  generalize (v - o) / s = q at F
  generalize (v - o) % s = r at F
  obtain ⟨eq, r0, r1, wh⟩ := F
  by_cases hr : r + 1 < s
  · cases g : goesUp m s q (r + 1) with
    | true =>
      rw [fig_uniq (v := v + 1) (q := q) (r := r + 1) (k := q + 1) hs ⟨by omega, by omega, hr, .inl ⟨g, rfl⟩⟩]
      rcases wh with ⟨_, e⟩ | ⟨_, e⟩ <;> omega
    | false =>
      rw [fig_uniq (v := v + 1) (q := q) (r := r + 1) (k := q) hs ⟨by omega, by omega, hr, .inr ⟨g, rfl⟩⟩]
      rcases wh with ⟨h, e⟩ | ⟨_, e⟩
      · rw [go_mono hm h] at g
        cases g
      · omega
  · rw [fig_uniq (v := v + 1) (q := q + 1) (r := 0) (k := q + 1) hs ⟨by rw [Int.mul_add, Int.mul_one]; omega, by omega, by omega, .inr ⟨go_zero hm hs, rfl⟩⟩]
    rcases wh with ⟨_, e⟩ | ⟨_, e⟩ <;> omega
theorem due_mono {o s : Int} {m : Str} {v : Int} (hm : Mode m) (hs : 1 ≤ s) : dueM o s m v ≤ dueM o s m (v + 1) := by
  unfold dueM
  have := Int.mul_le_mul_of_nonneg_left (fig_mono (o := o) (v := v) hm hs) (show 0 ≤ s by omega)
  omega
theorem go_two {m : Str} {s q r : Int} (hm : Mode m) : goesUp m s (q + 2) r = goesUp m s q r := by
  rcases hm with e | e | e | e | e <;> subst e
  · rw [go_down, go_down]
  · rw [go_up, go_up]
  · rw [go_hd, go_hd]
  · rw [go_hu, go_hu]
  · rw [go_he, go_he, show (q + 2) % 2 = q % 2 by omega]
theorem due_two {o s : Int} {m : Str} {v : Int} (hm : Mode m) (hs : 1 ≤ s) : dueM o s m (v + s * 2) = dueM o s m v + s * 2 := by
  have F := fig_of (o := o) (m := m) (v := v) hs
  unfold dueM
  generalize (v - o) / s = q at F
  generalize (v - o) % s = r at F
  obtain ⟨eq, r0, r1, wh⟩ := F
  rw [fig_uniq (v := v + s * 2) (q := q + 2) (r := r) (k := figM o s m v + 2) hs ⟨by rw [Int.mul_add]; omega, r0, r1, ?_⟩, Int.mul_add]
  · omega
  · rw [go_two hm]
    rcases wh with ⟨h, e⟩ | ⟨h, e⟩
    · exact .inl ⟨h, by omega⟩
    · exact .inr ⟨h, by omega⟩
/-! ### bounds -/
def Bd (x : Int) : Prop := -2 ^ 240 < x ∧ x < 2 ^ 240
theorem div_bd {x s b : Int} (hs : 1 ≤ s) (h0 : -b < x) (h1 : x < b) : -b < x / s ∧ x / s < b := by
  by_cases hx : 0 ≤ x
  · have a := Int.ediv_nonneg hx (show 0 ≤ s by omega)
    have c := Int.ediv_le_self s hx
    omega
  · have a : x ≤ x / s := by
      rw [Int.le_ediv_iff_mul_le (by omega)]
      have := Int.mul_le_mul_of_nonpos_left (show x ≤ 0 by omega) hs
      omega
    have c : x / s < 0 := Int.ediv_neg_of_neg_of_pos (by omega) (by omega)
    omega
end HT
namespace HT
open PySem L2
def modesV : List V := [.str "down", .str "up", .str "half_down", .str "half_up", .str "half_even"]
/-- the further names that the text of sides does not bind, and its table of modes -/
structure SideT (K : PySem.W.Frag) (mg : Str → Option Value) (aM : Addr) : Prop where
  isi : mg "isinstance" = none
  int : mg "int" = none
  bool : mg "bool" = none
  tuple : mg "tuple" = none
  len : mg "len" = none
  dm : mg "divmod" = none
  gM : mg "MODES" = some (.ref aM)
  tM : ∀ H, SqT K H aM modesV
def spIsInt : Sp := fun vs H Q _ => ∃ i : Int, vs = [.int i] ∧ Q (.bl true) H
def spBetween : Sp := fun vs H Q _ => ∃ i a b : Int, vs = [.int i, .int a, .int b] ∧ Q (.bl (decide (a ≤ i) && decide (i ≤ b))) H
def spCheckValue : Sp := fun vs H Q _ => ∃ i : Int, vs = [.int i] ∧ Q .non H
def spCheckSide : Sp := fun vs H Q _ => ∃ (p : Addr) (o s : Int) (m : Str), vs = [.ref p] ∧ H p = some (sideV o s m) ∧ SideP o s m ∧ Q .non H
def spGo : Sp := fun vs H Q _ => ∃ (m : Str) (s q r : Int), vs = [.str m, .int s, .int q, .int r] ∧ Q (.bl (goesUp m s q r)) H
def spSV (f : Int → Int → Str → Int → V) : Sp := fun vs H Q _ => ∃ (p : Addr) (o s : Int) (m : Str) (v : Int), vs = [.ref p, .int v] ∧ H p = some (sideV o s m) ∧ SideP o s m ∧ Bd v ∧ ∀ H', Same H H' → Q (f o s m v) H'
def spFig : Sp := spSV fun o s m v => .int (figM o s m v)
def spDue : Sp := spSV fun o s m v => .int (dueM o s m v)
def spStands : Sp := spSV fun o s m v => .bl (decide ((v - o) % s = 0))
theorem dec_int (a b : Int) : decide (V.int a = V.int b) = decide (a = b) := by
  by_cases h : a = b
  · rw [decide_eq_true h, h, decide_eq_true rfl]
  · rw [decide_eq_false h, decide_eq_false (fun z => h (V.int.inj z))]
theorem dec_str (a b : Str) : decide (V.str a = V.str b) = decide (a = b) := by
  by_cases h : a = b
  · rw [decide_eq_true h, h, decide_eq_true rfl]
  · rw [decide_eq_false h, decide_eq_false (fun z => h (V.str.inj z))]
theorem dec_bl (a b : Bool) : decide (V.bl a = V.bl b) = decide (a = b) := by
  by_cases h : a = b
  · rw [decide_eq_true h, h, decide_eq_true rfl]
  · rw [decide_eq_false h, decide_eq_false (fun z => h (V.bl.inj z))]
theorem str_t {a b : Str} (h : decide (V.str a = V.str b) = true) : a = b := V.str.inj (of_decide_eq_true h)
theorem str_f {a b : Str} (h : ¬ decide (V.str a = V.str b) = true) : ¬ a = b := fun z => h (decide_eq_true (congrArg V.str z))
theorem int_t {a b : Int} (h : decide (V.int a = V.int b) = true) : a = b := V.int.inj (of_decide_eq_true h)
theorem int_f {a b : Int} (h : ¬ decide (V.int a = V.int b) = true) : ¬ a = b := fun z => h (decide_eq_true (congrArg V.int z))
theorem not_t {b : Bool} (h : (!b) = true) : ¬ b = true := by cases b <;> simp_all
theorem not_f {b : Bool} (h : ¬ (!b) = true) : b = true := by cases b <;> simp_all
theorem mode_in {m : Str} (h : Mode m) : inV (.str m) modesV = true := by
  rcases h with e | e | e | e | e <;> subst e <;> decide +kernel
theorem divp {o v s : Int} (hs : 1 ≤ s) (ho : -10 ^ 40 ≤ o ∧ o ≤ 10 ^ 40) (hv : Bd v) : CDivP (v - o) s := by
  refine divp_ok (by omega) ?_
  have h : (v - o).natAbs < 2 ^ 250 := by
    have h1 := hv.1
    have h2 := hv.2
    omega
  have h2 : Builtin.Int.intBits (v - o) ≤ 251 := by
    unfold Builtin.Int.intBits
    split
    · omega
    · have := PySem.Flt.log2_lt_of (by decide) h
      omega
  omega
theorem mulW {i j : Int} (hi : -2 ^ 250 < i ∧ i < 2 ^ 250) (hj : -2 ^ 250 < j ∧ j < 2 ^ 250) : CMulW i j := wide_mul (a := 250) (b := 250) (by omega) (by omega) (by decide) (by decide) (by decide)
theorem fig_bd {o s : Int} {m : Str} {v : Int} (S : SideP o s m) (hv : Bd v) : -2 ^ 241 < figM o s m v ∧ figM o s m v < 2 ^ 241 := by
  obtain ⟨h1, h2⟩ := hv
  obtain ⟨o0, o1, s0, s1, _⟩ := S
  have := div_bd (x := v - o) (b := 2 ^ 240 + 10 ^ 40) s0 (by omega) (by omega)
  unfold figM
  split <;> omega
section
variable {P : Program} {w : World} {K : PySem.W.Frag} {mg : Str → Option Value} {base : Heap} {aM fI fB fV fC fG fF : Addr} {dI dB dV dC dG dF : FuncData}
theorem ok_is_int {f : Addr} {fd : FuncData} (F : Fun K "is_int" "is_int" s_is_int f fd) (T : SideT K mg aM) : FnOk P w K mg base CX0 1 f fd ["thing"] spIsInt := by
  refine F.ok sc_is_int (fun vs H Q E h => ?_) (fun cdv A outer s H vs Q E hr h => ?_)
  · obtain ⟨i, rfl, _⟩ := h
    rfl
  · obtain ⟨i, rfl, q⟩ := h
    refine ⟨_, pss_one (ps_ret (pe_and (pe_callB call_isi (by rfl) T.isi (by decide +kernel) (pa_cons (pv 0) (pa_cons (pe_bltn (v := .ty "int") (by rfl) T.int (by decide +kernel) rfl) pa_nil)))
      (pe_one (pe_not (pe_callB call_isi (by rfl) T.isi (by decide +kernel) (pa_cons (pv 0) (pa_cons (pe_bltn (v := .ty "bool") (by rfl) T.bool (by decide +kernel) rfl) pa_nil))))))), ?_⟩
    walk_at "rd"
    refine ⟨_, _, _, _, _, rfl, .ty "int", .base (.int _), kit_ty (r := true) (by decide +kernel), ?_⟩
    walk_at "rd"
    refine ⟨_, _, _, _, _, rfl, .ty "bool", .base (.int _), kit_ty (r := false) (by decide +kernel), ?_⟩
    walk_at "rd"
    exact q
theorem ok_between {f : Addr} {fd : FuncData} (F : Fun K "is_int_between" "is_int_between" s_is_int_between f fd) (I : Cal P w K mg base "is_int" 1 ["thing"] spIsInt fI dI) : FnOk P w K mg base CX0 2 f fd ["thing", "least", "most"] spBetween := by
  refine F.ok sc_is_int_between (fun vs H Q E h => ?_) (fun cdv A outer s H vs Q E hr h => ?_)
  · obtain ⟨i, a, b, rfl, _⟩ := h
    rfl
  · obtain ⟨i, a, b, rfl, q⟩ := h
    refine ⟨_, pss_one (ps_ret (pe_and (pcl I hr (by decide) (by rfl) (pa_cons (pv 0) pa_nil)) (pe_one (pe_chain op_le op_le (pv 1) (pv 0) (pv 2))))), ?_⟩
    walk_at "rd"
    refine ite2 (fun h => ?_) (fun h => ?_)
    · walk_at "rd"
      rw [decide_eq_true (of_decide_eq_true h)] at q
      exact q
    · rw [decide_eq_false (of_decide_eq_false (by simpa using h))] at q
      exact q
theorem ok_check_value {f : Addr} {fd : FuncData} (F : Fun K "check_value" "check_value" s_check_value f fd) (I : Cal P w K mg base "is_int" 1 ["thing"] spIsInt fI dI) : FnOk P w K mg base CX0 2 f fd ["value"] spCheckValue := by
  refine F.ok sc_check_value (fun vs H Q E h => ?_) (fun cdv A outer s H vs Q E hr h => ?_)
  · obtain ⟨i, rfl, _⟩ := h
    rfl
  · obtain ⟨i, rfl, q⟩ := h
    refine ⟨_, pss_one (ps_if (pt_not (pt_val (pcl I hr (by decide) (by rfl) (pa_cons (pv 0) pa_nil)))) (pss_one ps_never) pss_nil), ?_⟩
    walk_at "rd"
    exact q
theorem ok_check_side {f : Addr} {fd : FuncData} (F : Fun K "check_side" "check_side" s_check_side f fd) (T : SideT K mg aM) (B : Cal P w K mg base "is_int_between" 2 ["thing", "least", "most"] spBetween fB dB) : FnOk P w K mg base CX0 3 f fd ["side"] spCheckSide := by
  refine F.ok sc_check_side (fun vs H Q E h => ?_) (fun cdv A outer s H vs Q E hr h => ?_)
  · obtain ⟨p, o, s, m, rfl, _⟩ := h
    rfl
  · obtain ⟨p, o, s, m, rfl, hp, S, q⟩ := h
    have nd := sc_check_side.nd
    refine ⟨_, pss_cons (ps_if (PW.pt (pw_or (pt_not (pt_val (pe_callB call_isi (by rfl) T.isi (by decide +kernel) (pa_cons (pv 0) (pa_cons (pe_bltn (v := .ty "tuple") (by rfl) T.tuple (by decide +kernel) rfl) pa_nil)))))
        (pw_or1 (pt_cmpR op_ne (pe_callB call_len_seq (by rfl) T.len PySem.boot_len (pa_cons (pv 0) pa_nil)) pe_int (nomark _))))) (pss_one ps_never) pss_nil)
      (pss_cons (ps_asg (pv 0) (pg_tup (by rfl) (pgs_cons (pg_name (i := 1) nd rfl (Or.inl rfl)) (pgs_cons (pg_name (i := 2) nd rfl (Or.inl rfl)) (pgs_cons (pg_name (i := 3) nd rfl (Or.inl rfl)) pgs_nil)))))
      (pss_cons (ps_if (pt_not (pt_val (pcl B hr (by decide) (by rfl) (pa_cons (pv 1) (pa_cons (pe_un un_neg (pe_op op_pow pe_int pe_int)) (pa_cons (pe_op op_pow pe_int pe_int) pa_nil)))))) (pss_one ps_never) pss_nil)
      (pss_cons (ps_if (pt_not (pt_val (pcl B hr (by decide) (by rfl) (pa_cons (pv 2) (pa_cons pe_int (pa_cons (pe_op op_pow pe_int pe_int) pa_nil)))))) (pss_one ps_never) pss_nil)
      (pss_one (ps_if (pt_cmpR op_notIn_seq (pv 3) (pe_glob (v := .ref aM) (by rfl) T.gM rfl) (by rfl)) (pss_one ps_never) pss_nil))))), ?_⟩
    walk_at "rd"
    refine ⟨_, _, _, _, _, rfl, .ty "tuple", .base (.tup hp), kit_ty (r := true) (by decide +kernel), ?_⟩
    walk_at "rd"
    refine ⟨p, _, rfl, .inr (SqT.of hp), rfl, ?_⟩
    walk_at "rd"
    refine ⟨p, _, rfl, SqT.of hp, rfl, _, _, rfl, _, _, rfl, _, _, rfl, rfl, ?_⟩
    walk_at "rd"
    refine ⟨⟨by decide, by decide, by decide⟩, ?_⟩
    walk_at "rd"
    refine ⟨⟨by decide, by decide, by decide⟩, _, _, _, rfl, ?_⟩
    have e1 : (decide (-(10 : Int) ^ (40 : Int).toNat ≤ o) && decide (o ≤ (10 : Int) ^ (40 : Int).toNat)) = true := by
      rw [decide_eq_true (show -(10 : Int) ^ (40 : Int).toNat ≤ o from S.o0), decide_eq_true (show o ≤ (10 : Int) ^ (40 : Int).toNat from S.o1)]
      rfl
    refine ⟨_, rfl, ?_⟩
    refine ite2 (fun h => (not_t h e1).elim) (fun _ => ?_)
    walk_at "rd"
    refine ⟨⟨by decide, by decide, by decide⟩, _, _, _, rfl, ?_⟩
    have e2 : (decide ((1 : Int) ≤ s) && decide (s ≤ (10 : Int) ^ (30 : Int).toNat)) = true := by
      rw [decide_eq_true S.s0, decide_eq_true (show s ≤ (10 : Int) ^ (30 : Int).toNat from S.s1)]
      rfl
    refine ⟨_, rfl, ?_⟩
    refine ite2 (fun h => (not_t h e2).elim) (fun _ => ?_)
    walk_at "rd"
    refine ⟨aM, _, rfl, .inr (T.tM H), rfl, by decide, ?_⟩
    walk_at "rd"
    refine ite2 (fun h => (not_t h (mode_in S.md)).elim) (fun _ => ?_)
    exact q
theorem ok_goes_up {f : Addr} {fd : FuncData} (F : Fun K "_goes_up" "_goes_up" s_goes_up f fd) : FnOk P w K mg base CX0 1 f fd ["mode", "step", "figure", "rest"] spGo := by
  refine F.ok sc_goes_up (fun vs H Q E h => ?_) (fun cdv A outer s H vs Q E hr h => ?_)
  · obtain ⟨m, s, q, r, rfl, _⟩ := h
    rfl
  · obtain ⟨m, s, fg, r, rfl, q⟩ := h
    refine ⟨_, pss_cons (ps_if (pt_cmpR op_eq (pv 0) pe_str (nomark _)) (pss_one (ps_ret pe_bl)) pss_nil)
      (pss_cons (ps_if (pt_cmpR op_eq (pv 0) pe_str (nomark _)) (pss_one (ps_ret (pe_cmpR op_gt (pv 3) pe_int (nomark _)))) pss_nil)
      (pss_cons (ps_if (pt_cmpR op_ne (pe_op op_mul pe_int (pv 3)) (pv 1) (nomark _)) (pss_one (ps_ret (pe_cmpR op_gt (pe_op op_mul pe_int (pv 3)) (pv 1) (nomark _)))) pss_nil)
      (pss_cons (ps_if (pt_cmpR op_eq (pv 0) pe_str (nomark _)) (pss_one (ps_ret (pe_cmpR op_eq (pe_op op_mod (pv 2) pe_int) pe_int (nomark _)))) pss_nil)
      (pss_one (ps_ret (pe_cmpR op_eq (pv 0) pe_str (nomark _))))))), ?_⟩
    unfold goesUp at q
    walk_at "rd"
    refine ⟨rfl, ?_⟩
    walk_at "rd"
    refine ite2 (fun h => ?_) (fun h1 => ?_)
    · rw [if_pos (str_t h)] at q
      exact q
    rw [if_neg (str_f h1)] at q
    walk_at "rd"
    refine ⟨rfl, ?_⟩
    walk_at "rd"
    refine ite2 (fun h => ?_) (fun h2 => ?_)
    · rw [if_pos (str_t h)] at q
      walk_at "rd"
      exact q
    rw [if_neg (str_f h2)] at q
    walk_at "rd"
    refine ⟨.inl ⟨by decide, by decide⟩, ?_⟩
    walk_at "rd"
    refine ⟨rfl, ?_⟩
    walk_at "rd"
    refine ite2 (fun h => ?_) (fun h3 => ?_)
    · rw [if_neg (int_f (not_t h))] at q
      walk_at "rd"
      refine ⟨.inl ⟨by decide, by decide⟩, ?_⟩
      walk_at "rd"
      exact q
    rw [if_pos (int_t (not_f h3))] at q
    walk_at "rd"
    refine ⟨rfl, ?_⟩
    walk_at "rd"
    refine ite2 (fun h => ?_) (fun h4 => ?_)
    · rw [if_pos (str_t h), ← dec_int] at q
      walk_at "rd"
      refine ⟨(by show (0 : Int) < 2; decide), ?_⟩
      walk_at "rd"
      exact ⟨rfl, q⟩
    · rw [if_neg (str_f h4), ← dec_str] at q
      walk_at "rd"
      exact ⟨rfl, q⟩
theorem ok_figure {f : Addr} {fd : FuncData} (F : Fun K "_figure" "_figure" s_figure f fd) (T : SideT K mg aM)
    (G : Cal P w K mg base "_goes_up" 1 ["mode", "step", "figure", "rest"] spGo fG dG) : FnOk P w K mg base CX0 2 f fd ["side", "value"] spFig := by
  refine F.ok sc_figure (fun vs H Q E h => ?_) (fun cdv A outer s H vs Q E hr h => ?_)
  · obtain ⟨p, o, s, m, v, rfl, _⟩ := h
    rfl
  · obtain ⟨p, o, s, m, v, rfl, hp, S, hv, q⟩ := h
    have nd := sc_figure.nd
    refine ⟨_, pss_cons (ps_asg (pv 0) (pg_tup (by rfl) (pgs_cons (pg_name (i := 2) nd rfl (Or.inl rfl)) (pgs_cons (pg_name (i := 3) nd rfl (Or.inl rfl)) (pgs_cons (pg_name (i := 4) nd rfl (Or.inl rfl)) pgs_nil)))))
      (pss_cons (ps_asg (pe_callB call_divmodW (by rfl) T.dm (by decide +kernel) (pa_cons (pe_op op_sub (pv 1) (pv 2)) (pa_cons (pv 3) pa_nil))) (pg_tup (by rfl) (pgs_cons (pg_name (i := 5) nd rfl (Or.inl rfl)) (pgs_cons (pg_name (i := 6) nd rfl (Or.inl rfl)) pgs_nil))))
      (pss_cons (ps_if (pt_val (pcl G hr (by decide) (by rfl) (pa_cons (pv 4) (pa_cons (pv 3) (pa_cons (pv 5) (pa_cons (pv 6) pa_nil)))))) (pss_one (ps_ret (pe_op op_add (pv 5) pe_int))) pss_nil)
      (pss_one (ps_ret (pv 5))))), ?_⟩
    walk_at "rd"
    refine ⟨p, _, rfl, SqT.of hp, rfl, _, _, rfl, _, _, rfl, _, _, rfl, rfl, ?_⟩
    walk_at "rd"
    refine ⟨_, _, rfl, divp S.s0 ⟨S.o0, S.o1⟩ hv, fun d nd' => ?_⟩
    refine ⟨d, _, rfl, SqT.of upd_same, rfl, _, _, rfl, _, _, rfl, rfl, ?_⟩
    have sm : Same H (upd H d (.tup [.int ((v - o) / s), .int ((v - o) % s)])) := fun b u z => by rw [upd_ne (ne_of_none z nd')]; exact z
    have q' : Q (.int (figM o s m v)) (upd H d (.tup [.int ((v - o) / s), .int ((v - o) % s)])) := q _ sm
    unfold figM at q'
    walk_at "rd"
    refine ⟨_, _, _, _, rfl, ?_⟩
    walk_at "rd"
    refine ite2 (fun h => ?_) (fun h => ?_)
    · rw [if_pos h] at q'
      walk_at "rd"
      exact q'
    · rw [if_neg h] at q'
      walk_at "rd"
      exact q'
theorem ok_figure_of {f : Addr} {fd : FuncData} (F : Fun K "figure_of" "figure_of" s_figure_of f fd) (C : Cal P w K mg base "check_side" 3 ["side"] spCheckSide fC dC) (V' : Cal P w K mg base "check_value" 2 ["value"] spCheckValue fV dV)
    (G : Cal P w K mg base "_figure" 2 ["side", "value"] spFig fF dF) : FnOk P w K mg base CX0 4 f fd ["side", "value"] spFig := by
  refine F.ok sc_figure_of (fun vs H Q E h => ?_) (fun cdv A outer s H vs Q E hr h => ?_)
  · obtain ⟨p, o, s, m, v, rfl, _⟩ := h
    rfl
  · obtain ⟨p, o, s, m, v, rfl, hp, S, hv, q⟩ := h
    refine ⟨_, pss_cons (ps_expr (pcl C hr (by decide) (by rfl) (pa_cons (pv 0) pa_nil)))
      (pss_cons (ps_expr (pcl V' hr (by decide) (by rfl) (pa_cons (pv 1) pa_nil)))
      (pss_one (ps_ret (pcl G hr (by decide) (by rfl) (pa_cons (pv 0) (pa_cons (pv 1) pa_nil)))))), ?_⟩
    walk_at "rd"
    refine ⟨p, o, s, m, rfl, hp, S, ?_⟩
    walk_at "rd"
    exact ⟨p, o, s, m, v, rfl, hp, S, hv, q⟩
theorem ok_written {f : Addr} {fd : FuncData} (F : Fun K "written" "written" s_written f fd) (G : Cal P w K mg base "_figure" 2 ["side", "value"] spFig fF dF) : FnOk P w K mg base CX0 3 f fd ["side", "value"] spDue := by
  refine F.ok sc_written (fun vs H Q E h => ?_) (fun cdv A outer s H vs Q E hr h => ?_)
  · obtain ⟨p, o, s, m, v, rfl, _⟩ := h
    rfl
  · obtain ⟨p, o, s, m, v, rfl, hp, S, hv, q⟩ := h
    have nd := sc_written.nd
    refine ⟨_, pss_cons (ps_asg (pv 0) (pg_tup (by rfl) (pgs_cons (pg_name (i := 2) nd rfl (Or.inl rfl)) (pgs_cons (pg_name (i := 3) nd rfl (Or.inl rfl)) (pgs_cons (pg_name (i := 4) nd rfl (Or.inl rfl)) pgs_nil)))))
      (pss_one (ps_ret (pe_op op_add (pv 2) (pe_op op_mulW (pv 3) (pcl G hr (by decide) (by rfl) (pa_cons (pv 0) (pa_cons (pv 1) pa_nil))))))), ?_⟩
    walk_at "rd"
    refine ⟨p, _, rfl, SqT.of hp, rfl, _, _, rfl, _, _, rfl, _, _, rfl, rfl, ?_⟩
    walk_at "rd"
    refine ⟨p, o, s, m, v, rfl, hp, S, hv, fun H' sm => ?_⟩
    walk_at "rd"
    have b1 := fig_bd S hv
    have b2 := S.s0
    have b3 := S.s1
    refine ⟨mulW (by omega) (by omega), ?_⟩
    walk_at "rd"
    exact q H' sm
theorem ok_handed {f : Addr} {fd : FuncData} (F : Fun K "handed" "handed" s_handed f fd) (C : Cal P w K mg base "check_side" 3 ["side"] spCheckSide fC dC) (V' : Cal P w K mg base "check_value" 2 ["value"] spCheckValue fV dV)
    (G : Cal P w K mg base "written" 3 ["side", "value"] spDue fF dF) : FnOk P w K mg base CX0 5 f fd ["side", "value"] spDue := by
  refine F.ok sc_handed (fun vs H Q E h => ?_) (fun cdv A outer s H vs Q E hr h => ?_)
  · obtain ⟨p, o, s, m, v, rfl, _⟩ := h
    rfl
  · obtain ⟨p, o, s, m, v, rfl, hp, S, hv, q⟩ := h
    refine ⟨_, pss_cons (ps_expr (pcl C hr (by decide) (by rfl) (pa_cons (pv 0) pa_nil)))
      (pss_cons (ps_expr (pcl V' hr (by decide) (by rfl) (pa_cons (pv 1) pa_nil)))
      (pss_one (ps_ret (pcl G hr (by decide) (by rfl) (pa_cons (pv 0) (pa_cons (pv 1) pa_nil)))))), ?_⟩
    walk_at "rd"
    refine ⟨p, o, s, m, rfl, hp, S, ?_⟩
    walk_at "rd"
    exact ⟨p, o, s, m, v, rfl, hp, S, hv, q⟩
theorem ok_stands {f : Addr} {fd : FuncData} (F : Fun K "stands" "stands" s_stands f fd) (C : Cal P w K mg base "check_side" 3 ["side"] spCheckSide fC dC) (V' : Cal P w K mg base "check_value" 2 ["value"] spCheckValue fV dV) : FnOk P w K mg base CX0 4 f fd ["side", "value"] spStands := by
  refine F.ok sc_stands (fun vs H Q E h => ?_) (fun cdv A outer s H vs Q E hr h => ?_)
  · obtain ⟨p, o, s, m, v, rfl, _⟩ := h
    rfl
  · obtain ⟨p, o, s, m, v, rfl, hp, S, hv, q⟩ := h
    have nd := sc_stands.nd
    refine ⟨_, pss_cons (ps_expr (pcl C hr (by decide) (by rfl) (pa_cons (pv 0) pa_nil)))
      (pss_cons (ps_expr (pcl V' hr (by decide) (by rfl) (pa_cons (pv 1) pa_nil)))
      (pss_cons (ps_asg (pv 0) (pg_tup (by rfl) (pgs_cons (pg_name (i := 2) nd rfl (Or.inl rfl)) (pgs_cons (pg_name (i := 3) nd rfl (Or.inl rfl)) (pgs_cons (pg_name (i := 4) nd rfl (Or.inl rfl)) pgs_nil)))))
      (pss_one (ps_ret (pe_cmpR op_eq (pe_op op_mod (pe_op op_sub (pv 1) (pv 2)) (pv 3)) pe_int (nomark _)))))), ?_⟩
    walk_at "rd"
    refine ⟨p, o, s, m, rfl, hp, S, ?_⟩
    walk_at "rd"
    refine ⟨p, _, rfl, SqT.of hp, rfl, _, _, rfl, _, _, rfl, _, _, rfl, rfl, ?_⟩
    walk_at "rd"
    have b2 := S.s0
    refine ⟨(by omega), ?_⟩
    walk_at "rd"
    have q' : Q (.bl (decide ((v - o) % s = 0))) H := q H (Same.refl H)
    rw [← dec_int] at q'
    exact ⟨rfl, q'⟩
end
end HT
namespace HT
open PySem L2
def Bd2 (x : Int) : Prop := -2 ^ 220 < x ∧ x < 2 ^ 220
def spFits : Sp := fun vs H Q _ => ∃ (p : Addr) (o s : Int) (m : Str) (v : Int), vs = [.ref p, .int v] ∧ H p = some (sideV o s m) ∧ SideP o s m ∧ Bd2 v ∧ ∀ H', Same H H' → Q (.bl true) H'
def spValues : Sp := fun vs H Q _ => ∃ (a c : Addr) (t : Nat) (p : Addr) (o s : Int) (m : Str), vs = [.ref a, .ref p] ∧ Src H a c t ∧ t + 400 < 2 ^ 30 ∧ H p = some (sideV o s m) ∧ SideP o s m ∧
  ∀ (l : Addr) (ns : List Int) (H' : Hp) (t' : Nat), H l = none → H' l = some (.lst (ns.map V.int)) → (∀ n ∈ ns, Bd2 n) → ns.length ≤ 20 → t' ≤ t + 400 → Src H' a c t' → Oth a c H H' → Q (.ref l) H'
theorem lg_big {n : Int} (h0 : 0 ≤ n) (h : n < 2 ^ 200) : n.natAbs.log2 < 9000 := by
  obtain ⟨m, rfl⟩ := Int.eq_ofNat_of_zero_le h0
  exact lg_nat (by omega)
theorem bd_of2 {x : Int} (h : Bd2 x) : Bd x := by
  unfold Bd2 at h
  unfold Bd
  omega
theorem half_mode {m : Str} (h : Mode m) (e : cutS m none (some 4) = "half") : half m := by
  rcases h with z | z | z | z | z <;> subst z
  · exact absurd e (by decide +kernel)
  · exact absurd e (by decide +kernel)
  · exact .inl rfl
  · exact .inr (.inl rfl)
  · exact .inr (.inr rfl)
theorem mode_len {m : Str} (h : Mode m) : m.length ≤ sizeLine := by
  rcases h with z | z | z | z | z <;> subst z <;> decide +kernel
section
variable {P : Program} {w : World} {K : PySem.W.Frag} {mg : Str → Option Value} {base : Heap} {aM fD fP fG fL fA fF fH fS : Addr} {dD dP dG dL dA dF dH dS : FuncData}
theorem ok_L_figure {f : Addr} {fd : FuncData} (F : Fun K "_law_figure" "_law_figure" s_L_figure f fd) (B : Blt mg) : FnOk P w K mg base CX0 1 f fd ["_law_side_here", "_law_value"] spFig := by
  refine F.ok sc_L_figure (fun vs H Q E h => ?_) (fun cdv A outer s H vs Q E hr h => ?_)
  · obtain ⟨p, o, s, m, v, rfl, _⟩ := h
    rfl
  · obtain ⟨p, o, s, m, v, rfl, hp, S, hv, q⟩ := h
    have nd := sc_L_figure.nd
    have q' : Q (.int (figM o s m v)) H := q H (Same.refl H)
    have Fg := fig_of (o := o) (m := m) (v := v) S.s0
    refine ⟨_, pss_cons (ps_asg (pv 0) (pg_tup (by rfl) (pgs_cons (pg_name (i := 2) nd rfl (Or.inl rfl)) (pgs_cons (pg_name (i := 3) nd rfl (Or.inl rfl)) (pgs_cons (pg_name (i := 4) nd rfl (Or.inl rfl)) pgs_nil)))))
      (pss_cons (ps_set (i := 5) nd rfl (Or.inl rfl) (pe_op op_fdivW (pe_callTy call_int1 (by rfl) B.int (by decide +kernel) (pa_cons (pe_op op_sub (pv 1) (pv 2)) pa_nil)) (pv 3)))
      (pss_cons (ps_set (i := 6) nd rfl (Or.inl rfl) (pe_op op_sub (pe_op op_sub (pv 1) (pv 2)) (pe_op op_mulW (pv 3) (pv 5))))
      (pss_cons (ps_if (PW.pt (pw_or (pt_cmpR op_eq (pv 4) pe_str (nomark _)) (pw_or1 (pt_cmpR op_eq (pv 6) pe_int (nomark _))))) (pss_one (ps_ret (pv 5))) pss_nil)
      (pss_cons (ps_if (PW.pt (pw_or (pt_cmpR op_eq (pv 4) pe_str (nomark _)) (pw_or1 (pt_cmpR op_gt (pe_op op_mul pe_int (pv 6)) (pv 3) (nomark _))))) (pss_one (ps_ret (pe_op op_add (pv 5) pe_int))) pss_nil)
      (pss_cons (ps_if (PW.pt (pw_or (pt_cmpR op_lt (pe_op op_mul pe_int (pv 6)) (pv 3) (nomark _)) (pw_or1 (pt_cmpR op_eq (pv 4) pe_str (nomark _))))) (pss_one (ps_ret (pv 5))) pss_nil)
      (pss_one (ps_ret (pe_op op_add (pv 5) (pe_callTy call_int1 (by rfl) B.int (by decide +kernel) (pa_cons (pe_or (pe_cmpR op_eq (pv 4) pe_str (nomark _)) (pe_one (pe_cmpR op_eq (pe_op op_mod (pv 5) pe_int) pe_int (nomark _)))) pa_nil)))))))))), ?_⟩
    have b0 := S.s0
    have b1 := S.s1
    have b2 := S.o0
    have b3 := S.o1
    have b4 := hv.1
    have b5 := hv.2
    have b6 := div_bd (x := v - o) (b := 2 ^ 241) S.s0 (by omega) (by omega)
    have rr : v - o - s * ((v - o) / s) = (v - o) % s := by
      have := Fg.eq
      omega
    walk_at "rd"
    refine ⟨p, _, rfl, SqT.of hp, rfl, _, _, rfl, _, _, rfl, _, _, rfl, rfl, ?_⟩
    walk_at "rd"
    refine ⟨fdiv_ok _ (by omega) (lg_big (by omega) (by omega)), ?_⟩
    walk_at "rd"
    refine ⟨mulW (by omega) (by omega), ?_⟩
    walk_at "rd"
    refine ⟨rfl, ?_⟩
    walk_at "rd"
    obtain ⟨_, r0, r1, wh⟩ := Fg
    generalize figM o s m v = k at q' wh
    -- the three ways of a mode
    have fin0 : k = ((v - o) / s) → Q (.int ((v - o) / s)) H := fun e => by rw [← e]; exact q'
    have fin1 : k = ((v - o) / s) + 1 → Q (.int (((v - o) / s) + 1)) H := fun e => by rw [← e]; exact q'
    have low : goesUp m s ((v - o) / s) ((v - o) % s) = false → k = ((v - o) / s) := fun h => by
      rcases wh with ⟨g, _⟩ | ⟨_, e⟩
      · rw [h] at g; cases g
      · exact e
    have up : goesUp m s ((v - o) / s) ((v - o) % s) = true → k = ((v - o) / s) + 1 := fun h => by
      rcases wh with ⟨_, e⟩ | ⟨g, _⟩
      · exact e
      · rw [h] at g; cases g
    refine ite2 (fun h => ?_) (fun h1 => ?_)
    · walk_at "rd"
      refine fin0 (low ?_)
      rw [str_t h, go_down]
    walk_at "rd"
    refine ⟨rfl, ?_⟩
    walk_at "rd"
    refine ite2 (fun h => ?_) (fun h2 => ?_)
    · walk_at "rd"
      refine fin0 (low ?_)
      have e : ((v - o) % s) = 0 := by have := int_t h; omega
      rw [e]
      exact go_zero S.md S.s0
    have n1 := str_f h1
    have n2 : ¬ ((v - o) % s) = 0 := fun z => int_f h2 (by omega)
    walk_at "rd"
    refine ⟨rfl, ?_⟩
    walk_at "rd"
    refine ite2 (fun h => ?_) (fun h3 => ?_)
    · walk_at "rd"
      refine fin1 (up ?_)
      rw [str_t h, go_up]
      exact decide_eq_true (by omega)
    have n3 := str_f h3
    walk_at "rd"
    refine ⟨.inl ⟨by decide, by decide⟩, ?_⟩
    walk_at "rd"
    have hh : half m := by
      rcases S.md with e | e | e
      · exact absurd e n1
      · exact absurd e n3
      · exact e
    refine ite2 (fun h => ?_) (fun h4 => ?_)
    · walk_at "rd"
      have g : s < 2 * ((v - o) % s) := by have := of_decide_eq_true h; omega
      refine fin1 (up ?_)
      unfold goesUp
      rw [if_neg n1, if_neg n3, if_neg (by omega)]
      exact decide_eq_true g
    have n4 : ¬ s < 2 * ((v - o) % s) := fun z => h4 (decide_eq_true (by omega))
    walk_at "rd"
    refine ⟨.inl ⟨by decide, by decide⟩, ?_⟩
    walk_at "rd"
    refine ite2 (fun h => ?_) (fun h5 => ?_)
    · walk_at "rd"
      have g : 2 * ((v - o) % s) < s := by have := of_decide_eq_true h; omega
      refine fin0 (low ?_)
      unfold goesUp
      rw [if_neg n1, if_neg n3, if_neg (by omega)]
      exact decide_eq_false n4
    have n5 : 2 * ((v - o) % s) = s := by
      have : ¬ 2 * ((v - o) % s) < s := fun z => h5 (decide_eq_true (by omega))
      omega
    walk_at "rd"
    refine ⟨rfl, ?_⟩
    walk_at "rd"
    refine ite2 (fun h => ?_) (fun h6 => ?_)
    · walk_at "rd"
      refine fin0 (low ?_)
      rw [str_t h, go_hd]
      exact decide_eq_false n4
    have n6 := str_f h6
    have kk : k = ((v - o) / s) + (if m = "half_up" then 1 else if ((v - o) / s) % 2 = 1 then 1 else 0) := by
      rcases hh with e | e | e
      · exact absurd e n6
      · rw [if_pos e]
        refine up ?_
        rw [e, go_hu]
        exact decide_eq_true (by omega)
      · have e2 : goesUp m s ((v - o) / s) ((v - o) % s) = decide (((v - o) / s) % 2 = 1) := by
          rw [e, go_he, decide_eq_false n4, decide_eq_true n5]
          rfl
        rw [if_neg (by rw [e]; exact he_hu)]
        by_cases z : ((v - o) / s) % 2 = 1
        · rw [if_pos z]
          exact up (by rw [e2]; exact decide_eq_true z)
        · rw [if_neg z, Int.add_zero]
          exact low (by rw [e2]; exact decide_eq_false z)
    walk_at "rd"
    refine ⟨rfl, ?_⟩
    walk_at "rd"
    refine ite2 (fun h => ?_) (fun h7 => ?_)
    · refine .inr ⟨true, rfl, ?_⟩
      walk_at "rd"
      rw [if_pos (str_t h)] at kk
      exact fin1 kk
    · rw [if_neg (str_f h7)] at kk
      walk_at "rd"
      refine ⟨(by show (0 : Int) < 2; decide), ?_⟩
      walk_at "rd"
      refine ⟨rfl, .inr ⟨_, rfl, ?_⟩⟩
      walk_at "rd"
      show Q (.int (((v - o) / s) + if decide (V.int (((v - o) / s) % 2) = V.int 1) = true then 1 else 0)) H
      rw [dec_int]
      by_cases z : ((v - o) / s) % 2 = 1
      · rw [if_pos z] at kk
        rw [if_pos (decide_eq_true z)]
        exact fin1 kk
      · rw [if_neg z, Int.add_zero] at kk
        rw [if_neg (by rw [decide_eq_false z]; decide), Int.add_zero]
        exact fin0 kk
theorem ok_L_handed {f : Addr} {fd : FuncData} (F : Fun K "_law_handed" "_law_handed" s_L_handed f fd) (L : Cal P w K mg base "_law_figure" 1 ["_law_side_here", "_law_value"] spFig fL dL) : FnOk P w K mg base CX0 2 f fd ["_law_side_here", "_law_value"] spDue := by
  refine F.ok sc_L_handed (fun vs H Q E h => ?_) (fun cdv A outer s H vs Q E hr h => ?_)
  · obtain ⟨p, o, s, m, v, rfl, _⟩ := h
    rfl
  · obtain ⟨p, o, s, m, v, rfl, hp, S, hv, q⟩ := h
    refine ⟨_, pss_one (ps_ret (pe_op op_add (pe_ix ix_tup (pv 0) pe_int (fun _ _ => rfl)) (pe_op op_mulW (pe_ix ix_tup (pv 0) pe_int (fun _ _ => rfl)) (pcl L hr (by decide) (by rfl) (pa_cons (pv 0) (pa_cons (pv 1) pa_nil)))))), ?_⟩
    walk_at "rd"
    refine ⟨p, _, 0, _, rfl, rfl, SqT.of hp, rfl, ?_⟩
    walk_at "rd"
    refine ⟨p, _, 1, _, rfl, rfl, SqT.of hp, rfl, ?_⟩
    walk_at "rd"
    refine ⟨p, o, s, m, v, rfl, hp, S, hv, fun H' sm => ?_⟩
    walk_at "rd"
    have b1 := fig_bd S hv
    have b2 := S.s0
    have b3 := S.s1
    refine ⟨mulW (by omega) (by omega), ?_⟩
    walk_at "rd"
    exact q H' sm
end
end HT
namespace HT
open PySem L2
section
variable {P : Program} {w : World} {K : PySem.W.Frag} {mg : Str → Option Value} {base : Heap} {aM fD fP fG fL fA fF fH fS : Addr} {dD dP dG dL dA dF dH dS : FuncData}
theorem sg2_of {x : V} (h : x ∈ [V.int 1, .int (-1)]) : ∃ j : Int, x = .int j ∧ (j = 1 ∨ j = -1) := by
  simp only [List.mem_cons, List.not_mem_nil, or_false] at h
  rcases h with h | h
  · exact ⟨_, h, .inl rfl⟩
  · exact ⟨_, h, .inr rfl⟩
theorem pow10_29 {n : Nat} (h : n ≤ 29) : (10 : Int) ^ n ≤ 10 ^ 29 := by
  have : (10 : Nat) ^ n ≤ 10 ^ 29 := Nat.pow_le_pow_right (by decide) h
  exact_mod_cast this
theorem mul_bd {s f : Int} (s0 : 1 ≤ s) (s1 : s ≤ 10 ^ 30) (f0 : -10 ^ 29 ≤ f) (f1 : f ≤ 10 ^ 29) : -10 ^ 59 ≤ s * f ∧ s * f ≤ 10 ^ 59 := by
  have h1 : (s * f).natAbs ≤ 10 ^ 30 * 10 ^ 29 := by
    rw [Int.natAbs_mul]
    exact Nat.mul_le_mul (by omega) (by omega)
  omega
theorem src_fresh {a c l : Addr} {H H' : Hp} {t : Nat} (S : Src H' a c t) (O : Oth a c H H') (n : H' l = none) : H l = none := by
  cases e : H l with
  | none => rfl
  | some o =>
    by_cases ea : l = a
    · subst ea
      rw [S.ob] at n
      cases n
    · by_cases ec : l = c
      · subst ec
        obtain ⟨cs, z, _⟩ := S.cl
        rw [z] at n
        cases n
      · have z := O l o e ea ec
        rw [n] at z
        cases z
theorem ok_L_values {f : Addr} {fd : FuncData} (F : Fun K "_law_values" "_law_values" s_L_values f fd) (D : Cal P w K mg base "_law_draw" 1 ["_law_source_here", "_law_limit"] spDraw fD dD)
    (Pk : Cal P w K mg base "_law_pick" 2 ["_law_source_here", "_law_values_here"] spPick fP dP) (G : Cal P w K mg base "_law_great" 2 ["_law_source_here", "_law_digits"] spGreat fG dG) :
    FnOk P w K mg base CX0 3 f fd ["_law_source_here", "_law_one"] spValues := by
  refine F.ok sc_L_values (fun vs H Q E h => ?_) (fun cdv A outer s H vs Q E hr h => ?_)
  · obtain ⟨a, c, t, p, o, s, m, rfl, _⟩ := h
    rfl
  · obtain ⟨a, c, t, p, o, s, m, rfl, S, ht, hp, SD, q⟩ := h
    have nd := sc_L_values.nd
    refine ⟨_, pss_cons (ps_asg (pv 1) (pg_tup (by rfl) (pgs_cons (pg_name (i := 2) nd rfl (Or.inl rfl)) (pgs_cons (pg_name (i := 3) nd rfl (Or.inl rfl)) (pgs_cons (pg_name (i := 4) nd rfl (Or.inl rfl)) pgs_nil)))))
      (pss_cons (ps_set (i := 5) nd rfl (Or.inl rfl) (pe_op op_mul (pcl G hr (by decide) (by rfl) (pa_cons (pv 0) (pa_cons (pe_op op_add pe_int (pcl D hr (by decide) (by rfl) (pa_cons (pv 0) (pa_cons pe_int pa_nil)))) pa_nil)))
        (pcl Pk hr (by decide) (by rfl) (pa_cons (pv 0) (pa_cons (pe_lst (pa_cons pe_int (pa_cons (pe_un un_neg pe_int) pa_nil))) pa_nil)))))
      (pss_cons (ps_set (i := 6) nd rfl (Or.inl rfl) (pe_op op_add (pv 2) (pe_op op_mulW (pv 3) (pv 5))))
      (pss_cons (ps_set (i := 7) nd rfl (Or.inl rfl) (pe_lst (pa_cons (pv 6) (pa_cons (pe_op op_add (pv 6) pe_int) (pa_cons (pe_op op_sub (pv 6) pe_int) (pa_cons (pe_op op_add (pv 6) (pe_op op_fdiv (pv 3) pe_int))
        (pa_cons (pe_op op_add (pe_op op_add (pv 6) (pe_op op_fdiv (pv 3) pe_int)) pe_int) (pa_cons (pe_op op_sub (pv 6) (pe_op op_fdiv (pv 3) pe_int)) pa_nil))))))))
      (pss_cons (ps_set (i := 7) nd rfl (Or.inl rfl) (pe_op op_cat (pv 7) (pe_lst (pa_cons (pe_op op_sub (pe_op op_sub (pv 6) pe_int) (pe_op op_fdiv (pv 3) pe_int)) (pa_cons (pe_op op_sub (pe_op op_add (pv 6) (pv 3)) pe_int) (pa_cons pe_int (pa_cons (pv 2) (pa_cons (pe_op op_sub pe_int (pv 2)) pa_nil))))))))
      (pss_one (ps_ret (pe_op op_cat (pv 7) (pe_lst (pa_cons (pcl G hr (by decide) (by rfl) (pa_cons (pv 0) (pa_cons pe_int pa_nil))) (pa_cons (pe_un un_neg (pcl G hr (by decide) (by rfl) (pa_cons (pv 0) (pa_cons pe_int pa_nil)))) pa_nil)))))))))), ?_⟩
    obtain ⟨pa', pc'⟩ := S.nt hp
    walk_at "rd"
    refine ⟨p, _, rfl, SqT.of hp, rfl, _, _, rfl, _, _, rfl, _, _, rfl, rfl, ?_⟩
    walk_at "rd"
    refine ⟨a, c, t, _, rfl, S, by omega, (by show (0 : Int) < 29; decide), (by show (29 : Int).natAbs.log2 < 9000; decide), fun k1 H1 k10 k11 S1 O1 => ?_⟩
    obtain ⟨m1, rfl⟩ := Int.eq_ofNat_of_zero_le k10
    walk_at "rd"
    have g1 : (1 : Int) + (m1 : Int) = ((m1 + 1 : Nat) : Int) := by omega
    have k11' : (m1 : Int) < 29 := k11
    refine ⟨a, c, t + 1, m1 + 1, (by show [V.ref a, V.int (1 + (m1 : Int))] = _; rw [g1]), S1, by omega, by omega, fun k2 H2 k20 k21 S2 O2 => ?_⟩
    walk_at "rd"
    refine ⟨(by show 2 ≤ sizeLine; decide), fun l nl => ?_⟩
    obtain ⟨la, lc⟩ := S2.na nl
    refine ⟨a, c, _, l, _, rfl, S2.new nl, by omega, upd_same, la, lc, by decide, by decide, fun x H3 hx S3 O3 => ?_⟩
    obtain ⟨j, rfl, hj⟩ := sg2_of hx
    walk_at "rd"
    refine ⟨.inr (by rcases hj with e | e <;> subst e <;> exact ⟨by decide, by decide⟩), ?_⟩
    have z2 : k2 < 10 ^ 29 := Int.lt_of_lt_of_le k21 (pow10_29 (by omega))
    have fg0 : -10 ^ 29 ≤ k2 * j := by rcases hj with e | e <;> subst e <;> omega
    have fg1 : k2 * j ≤ 10 ^ 29 := by rcases hj with e | e <;> subst e <;> omega
    have O13 : Oth a c H H3 := ((O1.trans O2).new nl).trans O3
    have s0 := SD.s0
    have s1 := SD.s1
    have o0 := SD.o0
    have o1 := SD.o1
    obtain ⟨v0, v1⟩ := mul_bd s0 s1 fg0 fg1
    walk_at "rd"
    refine ⟨mulW (by omega) (by omega), ?_⟩
    walk_at "rd"
    have d2 : ∀ (i : Int), CDiv i 2 := fun _ => ⟨by decide, by decide⟩
    refine ⟨d2 _, ?_⟩
    walk_at "rd"
    refine ⟨d2 _, ?_⟩
    walk_at "rd"
    refine ⟨d2 _, ?_⟩
    walk_at "rd"
    refine ⟨(by show 6 ≤ sizeLine; decide), fun l1 nl1 => ?_⟩
    walk_at "rd"
    refine ⟨d2 _, ?_⟩
    walk_at "rd"
    refine ⟨(by show 5 ≤ sizeLine; decide), fun l2 nl2 => ?_⟩
    have e1 := ne_of_none upd_same nl2
    refine ⟨l1, l2, _, _, rfl, rfl, (upd_ne e1).trans upd_same, upd_same, (by show 11 ≤ sizeLine; decide), fun l3 nl3 => ?_⟩
    have O4 : ∀ z, Oth a c H _ := fun z => ((O13.new nl1).new nl2).new (o := z) nl3
    have S4 : ∀ z, Src _ a c _ := fun z => ((S3.new nl1).new nl2).new (o := z) nl3
    walk_at "rd"
    refine ⟨a, c, _, 60, rfl, S4 _, by decide, by omega, fun k4 H4 k40 k41 S5 O5 => ?_⟩
    walk_at "rd"
    refine ⟨a, c, _, 60, rfl, S5, by decide, by omega, fun k5 H5 k50 k51 S6 O6 => ?_⟩
    walk_at "rd"
    refine ⟨(by show 2 ≤ sizeLine; decide), fun l4 nl4 => ?_⟩
    obtain ⟨l3a, l3c⟩ := ((S3.new nl1).new nl2).na nl3
    have h3 := O6 _ _ (O5 l3 _ upd_same l3a l3c) l3a l3c
    have e3 := ne_of_none h3 nl4
    refine ⟨l3, l4, _, _, rfl, rfl, (upd_ne e3).trans h3, upd_same, (by show 13 ≤ sizeLine; decide), fun l5 nl5 => ?_⟩
    have Oe : ∀ z, Oth a c H _ := fun z => (((O4 _).trans O5).trans O6).new (o := z) nl4
    have Se : ∀ z, Src _ a c _ := fun z => S6.new (o := z) nl4
    have h60 : (10 : Int) ^ 60 < 2 ^ 220 := by decide
    have k41' : k4 < 10 ^ 60 := k41
    have k51' : k5 < 10 ^ 60 := k51
    have hs2 : 0 ≤ s / 2 ∧ s / 2 ≤ 10 ^ 30 := by omega
    refine q l5 [o + s * (k2 * j), o + s * (k2 * j) + 1, o + s * (k2 * j) - 1, o + s * (k2 * j) + s / 2, o + s * (k2 * j) + s / 2 + 1, o + s * (k2 * j) - s / 2, o + s * (k2 * j) - 1 - s / 2, o + s * (k2 * j) + s - 1, 0, o, 1 - o, k4, -k5] _ _ (src_fresh (Se _) (Oe _) nl5) upd_same ?_ (by show 13 ≤ 20; decide) ?_ ((Se _).new nl5) ((Oe _).new nl5)
    · generalize s * (k2 * j) = y at v0 v1 ⊢
      intro n hn
      simp only [List.mem_cons, List.not_mem_nil, or_false] at hn
      unfold Bd2
      omega
    · omega
end
end HT
namespace HT
open PySem L2
section
variable {P : Program} {w : World} {K : PySem.W.Frag} {mg : Str → Option Value} {base : Heap} {aM fD fP fG fL fA fF fH fS : Addr} {dD dP dG dL dA dF dH dS : FuncData}
theorem abs_le {x s : Int} (h1 : 2 * x ≤ s) (h2 : 2 * (-x) ≤ s) : ¬ s < 2 * (if x < 0 then -x else x) := by
  split <;> omega
theorem due_bd {o s : Int} {m : Str} {v : Int} (S : SideP o s m) (hv : Bd2 v) : -2 ^ 221 < dueM o s m v ∧ dueM o s m v < 2 ^ 221 := by
  obtain ⟨h1, h2⟩ := hv
  have := due_near (o := o) (v := v) S.md S.s0
  have := S.s1
  omega
theorem ok_L_fits {f : Addr} {fd : FuncData} (F : Fun K "_law_fits" "_law_fits" s_L_fits f fd) (B : Blt mg) (T : SideT K mg aM) (L : Cal P w K mg base "_law_figure" 1 ["_law_side_here", "_law_value"] spFig fL dL) (A' : Cal P w K mg base "_law_handed" 2 ["_law_side_here", "_law_value"] spDue fA dA)
    (Fi : Cal P w K mg base "figure_of" 4 ["side", "value"] spFig fF dF) (Ha : Cal P w K mg base "handed" 5 ["side", "value"] spDue fH dH) (St : Cal P w K mg base "stands" 4 ["side", "value"] spStands fS dS) :
    FnOk P w K mg base CX0 6 f fd ["_law_one", "_law_value"] spFits := by
  refine F.ok sc_L_fits (fun vs H Q E h => ?_) (fun cdv A outer s H vs Q E hr h => ?_)
  · obtain ⟨p, o, s, m, v, rfl, _⟩ := h
    rfl
  · obtain ⟨p, o, s, m, v, rfl, hp, S, hv, q⟩ := h
    have nd := sc_L_fits.nd
    refine ⟨_, pss_cons (ps_asg (pv 0) (pg_tup (by rfl) (pgs_cons (pg_name (i := 2) nd rfl (Or.inl rfl)) (pgs_cons (pg_name (i := 3) nd rfl (Or.inl rfl)) (pgs_cons (pg_name (i := 4) nd rfl (Or.inl rfl)) pgs_nil)))))
      (pss_cons (ps_par (i := 5) (j := 6) (by rfl) nd rfl rfl (by decide) rfl rfl (pa_cons (pcl L hr (by decide) (by rfl) (pa_cons (pv 0) (pa_cons (pv 1) pa_nil))) (pa_cons (pcl A' hr (by decide) (by rfl) (pa_cons (pv 0) (pa_cons (pv 1) pa_nil))) pa_nil)) (by rfl))
      (pss_cons (ps_if (PW.pt (pw_or (pt_cmpR op_ne (pcl Fi hr (by decide) (by rfl) (pa_cons (pv 0) (pa_cons (pv 1) pa_nil))) (pv 5) (nomark _)) (pw_or (pt_cmpR op_ne (pcl Ha hr (by decide) (by rfl) (pa_cons (pv 0) (pa_cons (pv 1) pa_nil))) (pv 6) (nomark _))
          (pw_or1 (pt_cmpR op_ne (pcl St hr (by decide) (by rfl) (pa_cons (pv 0) (pa_cons (pv 1) pa_nil))) (pe_cmpR op_eq (pv 6) (pv 1) (nomark _)) (nomark _)))))) (pss_one (ps_ret pe_bl)) pss_nil)
      (pss_cons (ps_if (PW.pt (pw_or (pt_not (pt_val (pe_callB call_isi (by rfl) T.isi (by decide +kernel) (pa_cons (pcl St hr (by decide) (by rfl) (pa_cons (pv 0) (pa_cons (pv 1) pa_nil))) (pa_cons (pe_bltn (v := .ty "bool") (by rfl) T.bool (by decide +kernel) rfl) pa_nil)))))
          (pw_or (pt_not (pt_val (pcl St hr (by decide) (by rfl) (pa_cons (pv 0) (pa_cons (pv 6) pa_nil))))) (pw_or1 (pt_cmpR op_ne (pcl Ha hr (by decide) (by rfl) (pa_cons (pv 0) (pa_cons (pv 6) pa_nil))) (pv 6) (nomark _)))))) (pss_one (ps_ret pe_bl)) pss_nil)
      (pss_cons (ps_if (PW.pt (pw_or (pt_cmpR op_ge (pe_op op_sub (pv 6) (pv 1)) (pv 3) (nomark _)) (pw_or (pt_cmpR op_ge (pe_op op_sub (pv 1) (pv 6)) (pv 3) (nomark _))
          (pw_or1 (pt_cmpR op_ne (pv 6) (pe_op op_add (pv 2) (pe_op op_mulW (pv 3) (pv 5))) (nomark _)))))) (pss_one (ps_ret pe_bl)) pss_nil)
      (pss_cons (ps_if (PW.pt (pw_and (pt_cmpR op_eq (pe_slice sl_str (pv 4) po_none (po_some pe_int)) pe_str (nomark _)) (pw_and1 (pt_cmpR op_gt (pe_op op_mul pe_int (pe_callB call_abs (by rfl) B.abs (by decide +kernel) (pa_cons (pe_op op_sub (pv 6) (pv 1)) pa_nil))) (pv 3) (nomark _))))) (pss_one (ps_ret pe_bl)) pss_nil)
      (pss_one (ps_ret (pe_and (pe_cmpR op_ge (pcl Ha hr (by decide) (by rfl) (pa_cons (pv 0) (pa_cons (pe_op op_add (pv 1) pe_int) pa_nil))) (pv 6) (nomark _))
          (pe_one (pe_cmpR op_eq (pcl Ha hr (by decide) (by rfl) (pa_cons (pv 0) (pa_cons (pe_op op_add (pv 1) (pe_op op_mul (pv 3) pe_int)) pa_nil))) (pe_op op_add (pv 6) (pe_op op_mul (pv 3) pe_int)) (nomark _))))))))))), ?_⟩
    have s0 := S.s0
    have s1 := S.s1
    have o0 := S.o0
    have o1 := S.o1
    have hb := bd_of2 hv
    have hd := due_bd S hv
    have hdB : Bd (dueM o s m v) := by unfold Bd; omega
    have hf := fig_bd S hb
    have near := due_near (o := o) (v := v) S.md s0
    walk_at "rd"
    refine ⟨p, _, rfl, SqT.of hp, rfl, _, _, rfl, _, _, rfl, _, _, rfl, rfl, ?_⟩
    walk_at "rd"
    refine ⟨p, o, s, m, v, rfl, hp, S, hb, fun H1 m1 => ?_⟩
    walk_at "rd"
    refine ⟨p, o, s, m, v, rfl, m1 _ _ hp, S, hb, fun H2 m2 => ?_⟩
    have m12 := m1.trans m2
    walk_at "rd"
    refine ⟨_, _, rfl, ?_⟩
    walk_at "rd"
    refine ⟨p, o, s, m, v, rfl, m12 _ _ hp, S, hb, fun H3 m3 => ?_⟩
    have m13 := m12.trans m3
    walk_at "rd"
    refine ⟨rfl, ?_⟩
    walk_at "rd"
    refine iteNS rfl ?_
    walk_at "rd"
    refine ⟨p, o, s, m, v, rfl, m13 _ _ hp, S, hb, fun H4 m4 => ?_⟩
    have m14 := m13.trans m4
    walk_at "rd"
    refine ⟨rfl, ?_⟩
    walk_at "rd"
    refine iteNS rfl ?_
    walk_at "rd"
    refine ⟨p, o, s, m, v, rfl, m14 _ _ hp, S, hb, fun H5 m5 => ?_⟩
    have m15 := m14.trans m5
    walk_at "rd"
    refine ⟨rfl, ?_⟩
    walk_at "rd"
    refine ⟨rfl, ?_⟩
    walk_at "rd"
    have e2 : (decide ((v - o) % s = 0)) = decide (V.int (dueM o s m v) = V.int v) := by
      rw [dec_int]
      have := due_eq (o := o) (v := v) S.md s0
      by_cases z : (v - o) % s = 0
      · rw [decide_eq_true z, decide_eq_true (this.mp z)]
      · rw [decide_eq_false z, decide_eq_false (fun y => z (this.mpr y))]
    refine iteNS (congrArg V.bl e2) ?_
    walk_at "rd"
    refine ⟨p, o, s, m, v, rfl, m15 _ _ hp, S, hb, fun H6 m6 => ?_⟩
    have m16 := m15.trans m6
    walk_at "rd"
    refine ⟨_, _, _, _, _, rfl, .ty "bool", .base (.bl _), kit_ty (r := true) (by decide +kernel), ?_⟩
    walk_at "rd"
    refine ⟨p, o, s, m, dueM o s m v, rfl, m16 _ _ hp, S, hdB, fun H7 m7 => ?_⟩
    have m17 := m16.trans m7
    walk_at "rd"
    refine ite2 (fun h => (not_t h (decide_eq_true stands_at)).elim) (fun _ => ?_)
    walk_at "rd"
    refine ⟨p, o, s, m, dueM o s m v, rfl, m17 _ _ hp, S, hdB, fun H8 m8 => ?_⟩
    have m18 := m17.trans m8
    have dd : dueM o s m (dueM o s m v) = dueM o s m v := by
      show o + s * figM o s m (o + s * figM o s m v) = _
      rw [fig_at S.md s0]
      rfl
    walk_at "rd"
    refine ⟨rfl, ?_⟩
    walk_at "rd"
    refine iteNS (congrArg V.int dd) ?_
    walk_at "rd"
    refine ite2 (fun h => absurd (of_decide_eq_true h) (by omega)) (fun _ => ?_)
    walk_at "rd"
    refine ite2 (fun h => absurd (of_decide_eq_true h) (by omega)) (fun _ => ?_)
    walk_at "rd"
    refine ⟨mulW (by omega) (by omega), ?_⟩
    walk_at "rd"
    refine ⟨rfl, ?_⟩
    walk_at "rd"
    refine iteNS rfl ?_
    walk_at "rd"
    refine ⟨mode_len S.md, ?_⟩
    walk_at "rd"
    refine ⟨rfl, ?_⟩
    walk_at "rd"
    have fin : ∀ H9, Same H H9 → Q (.bl true) H9 := q
    refine ite2 (fun h => ?A) (fun _ => ?B)
    case' A =>
      have hh := due_half (o := o) (v := v) (half_mode S.md (str_t h)) s0
      walk_at "rd"
      refine ⟨.inl ⟨by decide, by decide⟩, ?_⟩
      walk_at "rd"
      refine ite2 (fun h => absurd (of_decide_eq_true h) (abs_le hh.1 (by omega))) (fun _ => ?_)
    all_goals
      walk_at "rd"
      refine ⟨p, o, s, m, v + 1, rfl, m18 _ _ hp, S, (by unfold Bd at *; omega), fun H9 m9 => ?_⟩
      have m19 := m18.trans m9
      walk_at "rd"
      refine ite2 (fun _ => ?_) (fun h => absurd (decide_eq_true (due_mono (o := o) (v := v) S.md s0)) h)
      walk_at "rd"
      refine ⟨.inr ⟨by decide, by decide⟩, ?_⟩
      walk_at "rd"
      refine ⟨p, o, s, m, v + s * 2, rfl, m19 _ _ hp, S, (by unfold Bd Bd2 at *; omega), fun H10 m10 => ?_⟩
      have m20 := m19.trans m10
      walk_at "rd"
      refine ⟨.inr ⟨by decide, by decide⟩, ?_⟩
      walk_at "rd"
      refine ⟨rfl, ?_⟩
      have e : (V.bl (decide (V.int (dueM o s m (v + s * 2)) = V.int (dueM o s m v + s * 2)))) = .bl true := by
        rw [due_two S.md s0, decide_eq_true rfl]
      have z := fin _ m20
      rw [← e] at z
      exact z
end
end HT
namespace HT
open PySem L2
/-- law's: a list of at most 63 ints is handed in, True comes out -/
def spLaw (K : PySem.W.Frag) : Sp := fun vs H Q _ => ∃ (l : Addr) (ns : List Int), vs = [.ref l] ∧ SqL K H l (ns.map V.int) ∧ ns.length ≤ 63 ∧ ∀ H', Q (.bl true) H'
theorem getI {ns : List Int} {i : Nat} {x : V} (h : (ns.map V.int)[i]? = some x) : ∃ z, x = V.int z ∧ z ∈ ns := by
  rw [List.getElem?_map] at h
  cases e : ns[i]? with
  | none =>
    rw [e] at h
    cases h
  | some z =>
    rw [e] at h
    exact ⟨z, (Option.some.inj h).symm, List.mem_of_getElem? e⟩
def resA : List V := [0, 10, 0, 10, 0].map V.int
theorem res_mode {i : Nat} {x : V} (h : modesV[i]? = some x) : ∃ m : Str, x = .str m ∧ Mode m ∧ resA.take i ++ [V.int (dueM 0 10 m 5)] = resA.take (i + 1) := by
  have hi : i < 5 := (List.getElem?_eq_some_iff.mp h).1
  rcases (by omega : i = 0 ∨ i = 1 ∨ i = 2 ∨ i = 3 ∨ i = 4) with e | e | e | e | e <;> subst e <;> cases h
  · exact ⟨_, rfl, .inl rfl, by decide +kernel⟩
  · exact ⟨_, rfl, .inr (.inl rfl), by decide +kernel⟩
  · exact ⟨_, rfl, .inr (.inr (.inl rfl)), by decide +kernel⟩
  · exact ⟨_, rfl, .inr (.inr (.inr (.inl rfl))), by decide +kernel⟩
  · exact ⟨_, rfl, .inr (.inr (.inr (.inr rfl))), by decide +kernel⟩
theorem res_ne (j : Nat) : ¬ modesV = resA.take j := by
  intro z
  have h : modesV[0]? = (resA.take j)[0]? := by rw [z]
  rw [List.getElem?_take] at h
  split at h <;> cases h
def valsB : List V := [15, 25, -5, -15].map V.int
def resB : List V := [20, 20, 0, -20].map V.int
theorem res_val {i : Nat} {x : V} (h : valsB[i]? = some x) : ∃ v : Int, x = .int v ∧ Bd v ∧ resB.take i ++ [V.int (dueM 0 10 "half_even" v)] = resB.take (i + 1) := by
  have hi : i < 4 := (List.getElem?_eq_some_iff.mp h).1
  rcases (by omega : i = 0 ∨ i = 1 ∨ i = 2 ∨ i = 3) with e | e | e | e <;> subst e <;> cases h
  · exact ⟨_, rfl, by unfold Bd; decide, by decide +kernel⟩
  · exact ⟨_, rfl, by unfold Bd; decide, by decide +kernel⟩
  · exact ⟨_, rfl, by unfold Bd; decide, by decide +kernel⟩
  · exact ⟨_, rfl, by unfold Bd; decide, by decide +kernel⟩
section
variable {P : Program} {w : World} {K : PySem.W.Frag} {mg : Str → Option Value} {base : Heap} {aM fS fD fV fT fH : Addr} {dS dD dV dT dH : FuncData}
theorem ok_law {f : Addr} {fd : FuncData} (F : Fun K "law" "law" s_law f fd) (B : Blt mg) (S : Cal P w K mg base "_law_source" 1 ["_law_script"] (spSource K) fS dS) (Sd : Cal P w K mg base "_law_side" 3 ["_law_source_here", "_law_digits"] spSide fD dD)
    (Vs : Cal P w K mg base "_law_values" 3 ["_law_source_here", "_law_one"] spValues fV dV) (Ft : Cal P w K mg base "_law_fits" 6 ["_law_one", "_law_value"] spFits fT dT) (Ha : Cal P w K mg base "handed" 5 ["side", "value"] spDue fH dH) :
    FnOk P w K mg base CX0 8 f fd ["_law_script"] (spLaw K) := by
  refine F.ok sc_law (fun vs H Q E h => ?_) (fun cdv A outer s H vs Q E hr h => ?_)
  · obtain ⟨l, ns, rfl, _⟩ := h
    rfl
  · obtain ⟨l, ns, rfl, hL, hn, q⟩ := h
    have nd := sc_law.nd
    refine ⟨_, pss_cons (ps_set (i := 1) nd rfl (Or.inl rfl) (pcl S hr (by decide) (by rfl) (pa_cons (pv 0) pa_nil)))
      (pss_cons (ps_for PassesOwn.never rfl (pi_range1 (by rfl) B.range (pa_cons pe_int pa_nil)) (pg_name (i := 2) nd rfl (Or.inl rfl))
        (pss_cons (ps_set (i := 3) nd rfl (Or.inr rfl) (pcl Sd hr (by decide) (by rfl) (pa_cons (pv 1) (pa_cons pe_int pa_nil))))
        (pss_one (ps_if (pt_cmpR (op_neD hr.units) (pe_lc (own := [("_law_value", 4)]) (g := gName 4) rfl nd (pi_list (pcl Vs hr (by decide) (by rfl) (pa_cons (pv 1) (pa_cons (pv 3) pa_nil)))) (blkOk_by (N := ["_law_script", "_law_source_here", "_law_turn", "_law_one", "_law_value", "_law_mode", "_law_found"]) (sc := defScope s_law) (by decide +kernel))
            (fun _ _ _ _ _ => pg_name (i := 4) nd rfl (Or.inl rfl)) (fun _ _ _ _ _ => pts_one (pt_not (pt_val (pcl Ft hr (by decide) (by rfl) (pa_cons (pv 3) (pa_cons (pv 4) pa_nil)))))) (fun _ _ _ _ _ => pv 4))
          (pe_lst pa_nil) (nomark _)) (pss_one (ps_ret pe_bl)) pss_nil))))
      (pss_cons (ps_setLc (i := 6) (own := [("_law_mode", 5)]) (g := gName 5) (tt := tYes) rfl nd rfl rfl (sw_true rfl rfl rfl (by decide +kernel)) (pi_list (pe_lst (pa_cons pe_str (pa_cons pe_str (pa_cons pe_str (pa_cons pe_str (pa_cons pe_str pa_nil)))))))
          (blkOk_by (N := ["_law_script", "_law_source_here", "_law_turn", "_law_one", "_law_value", "_law_mode", "_law_found"]) (sc := defScope s_law) (by decide +kernel))
          (fun _ _ _ _ _ => pg_name (i := 5) nd rfl (Or.inl rfl)) (fun _ _ _ _ _ => pts_nil) (fun _ _ _ _ _ => pcl Ha hr (by decide) (by rfl) (pa_cons (pe_tup (pa_cons pe_int (pa_cons pe_int (pa_cons (pv 5) pa_nil)))) (pa_cons pe_int pa_nil))))
      (pss_cons (ps_if (pt_cmpR (op_neD hr.units) (pv 6) (pe_lst (pa_cons pe_int (pa_cons pe_int (pa_cons pe_int (pa_cons pe_int (pa_cons pe_int pa_nil)))))) (nomark _)) (pss_one (ps_ret pe_bl)) pss_nil)
      (pss_cons (ps_if (pt_cmpR (op_neD hr.units) (pe_lc (own := [("_law_value", 4)]) (g := gName 4) (tt := tYes) rfl nd (pi_list (pe_lst (pa_cons pe_int (pa_cons pe_int (pa_cons (pe_un un_neg pe_int) (pa_cons (pe_un un_neg pe_int) pa_nil))))))
            (blkOk_by (N := ["_law_script", "_law_source_here", "_law_turn", "_law_one", "_law_value", "_law_mode", "_law_found"]) (sc := defScope s_law) (by decide +kernel))
            (fun _ _ _ _ _ => pg_name (i := 4) nd rfl (Or.inl rfl)) (fun _ _ _ _ _ => pts_nil) (fun _ _ _ _ _ => pcl Ha hr (by decide) (by rfl) (pa_cons (pe_tup (pa_cons pe_int (pa_cons pe_int (pa_cons pe_str pa_nil)))) (pa_cons (pv 4) pa_nil))))
          (pe_lst (pa_cons pe_int (pa_cons pe_int (pa_cons pe_int (pa_cons (pe_un un_neg pe_int) pa_nil))))) (nomark _)) (pss_one (ps_ret pe_bl)) pss_nil)
      (pss_one (ps_ret (pe_and (pe_cmpR op_eq (pcl Ha hr (by decide) (by rfl) (pa_cons (pe_tup (pa_cons pe_int (pa_cons pe_int (pa_cons pe_str pa_nil)))) (pa_cons pe_int pa_nil))) pe_int (nomark _))
          (pe_one (pe_cmpR op_eq (pcl Ha hr (by decide) (by rfl) (pa_cons (pe_tup (pa_cons pe_int (pa_cons pe_int (pa_cons pe_str pa_nil)))) (pa_cons pe_int pa_nil))) pe_int (nomark _)))))))))), ?_⟩
    walk_at "rd"
    refine ⟨l, ns, rfl, hL, hn, fun a c H0 sm na nc S0 => ?_⟩
    walk_at "rd"
    refine ⟨by decide, by decide, ?_⟩
    refine for_range (n := 30) (fun i σ H' => ∃ (kv one : Option V) (t : Nat), σ = [some (.ref l), some (.ref a), kv, one, none, none, none] ∧ t ≤ 1000 * i ∧ Src H' a c t) ⟨none, none, 0, rfl, by omega, S0⟩ ?_ ?_
    · rintro i σ H' hi ⟨kv, one, t, rfl, ht, S'⟩
      walk_at "rd"
      refine ⟨a, c, t, 40, rfl, S', by decide, by decide, by omega, fun p o s m H1 t1 np hp SD ht1 S1 O1 => ?_⟩
      walk_at "rd"
      refine ⟨a, c, t1, p, o, s, m, rfl, S1, by omega, hp, SD, fun l2 vs H2 t2 nl2 hl2 hbd hlen ht2 S2 O2 => ?_⟩
      obtain ⟨pa, pc⟩ := S1.nt hp
      have hp2 := O2 _ _ hp pa pc
      refine ⟨l2, rfl, ⟨_, SqL.of hl2⟩, fun D nD => ?_⟩
      refine lc_list (K := K) (a := l2) (xs := vs.map V.int) (fun _ H3 => H3 D = some (.lst []) ∧ H3 l2 = some (.lst (vs.map V.int)) ∧ H3 p = some (sideV o s m) ∧ Src H3 a c t2)
        ⟨upd_same, by rw [upd_ne (ne_of_none hl2 nD)]; exact hl2, by rw [upd_ne (ne_of_none hp2 nD)]; exact hp2, S2.new nD⟩ (fun _ _ _ z => SqL.of z.2.1) ?_ ?_
      · rintro j x H3 hx ⟨hD, hl3, hp3, S3⟩
        obtain ⟨z, rfl, hz⟩ := getI hx
        refine ⟨rfl, ?_⟩
        walk_at "rd"
        refine ⟨p, o, s, m, z, rfl, hp3, SD, hbd z hz, fun H4 m4 => ?_⟩
        walk_at "rd"
        exact ⟨m4 _ _ hD, m4 _ _ hl3, m4 _ _ hp3, S3.of_same m4⟩
      · rintro H3 ⟨hD, hl3, hp3, S3⟩
        walk_at "rd"
        refine ⟨by decide, fun e ne => ?_⟩
        refine ⟨_, _, .lst (SqL.of ((upd_ne (ne_of_none hD ne)).trans hD)) .nil, .lst (SqL.of upd_same) .nil, by decide +kernel, by decide +kernel, ?_⟩
        walk_at "rd"
        exact ⟨_, _, t2, rfl, by omega, S3.new ne⟩
    · rintro σ H' ⟨kv, one, t, rfl, ht, S'⟩
      walk_at "rd"
      refine ⟨(by show 5 ≤ sizeLine; decide), fun l1 nl1 => ?_⟩
      refine ⟨l1, rfl, ⟨_, SqL.of upd_same⟩, fun D nD => ?_⟩
      refine lc_list (K := K) (a := l1) (xs := modesV) (fun i H3 => H3 D = some (.lst (resA.take i)) ∧ H3 l1 = some (.lst modesV))
        ⟨upd_same, (upd_ne (ne_of_none upd_same nD)).trans upd_same⟩ (fun _ _ _ z => SqL.of z.2) ?_ ?_
      · rintro j x H3 hx ⟨hD, hl3⟩
        obtain ⟨m, rfl, hm, hr1⟩ := res_mode hx
        refine ⟨rfl, ?_⟩
        walk_at "rd"
        refine ⟨(by show 3 ≤ sizeLine; decide), fun p np => ?_⟩
        refine ⟨p, 0, 10, m, 5, rfl, upd_same, ⟨by decide, by decide, by decide, by decide, hm⟩, (by unfold Bd; decide), fun H4 m4 => ?_⟩
        have k4 : Same H3 H4 := fun b u z => m4 b u ((upd_ne (ne_of_none z np)).trans z)
        have z := k4 _ _ hD
        have hln : (resA.take j).length < sizeLine := Nat.lt_of_le_of_lt (List.length_take_le' _ _) (by decide)
        refine ⟨_, z, hln, ?_⟩
        have zl := k4 _ _ hl3
        have ne1 : l1 ≠ D := ne_of hl3 hD (by intro y; have := (HO.lst.inj y); exact res_ne j this)
        exact ⟨by rw [upd_same]; exact congrArg (fun y => some (HO.lst y)) hr1, (upd_ne ne1).trans zl⟩
      · rintro H3 ⟨hD, hl3⟩
        have hD1 : H3 D = some (.lst (([0, 10, 0, 10, 0] : List Int).map V.int)) := hD
        walk_at "rd"
        refine ⟨(by show 5 ≤ sizeLine; decide), fun e ne => ?_⟩
        refine ⟨_, _, .lst (SqL.of ((upd_ne (ne_of_none hD1 ne)).trans hD1)) (dpInts _ [0, 10, 0, 10, 0]), .lst (SqL.of upd_same) (dpInts _ [0, 10, 0, 10, 0]), by decide +kernel, by decide +kernel, ?_⟩
        walk_at "rd"
        refine ⟨(by show 4 ≤ sizeLine; decide), fun l4 nl4 => ?_⟩
        refine ⟨l4, rfl, ⟨_, SqL.of upd_same⟩, fun D2 nD2 => ?_⟩
        refine lc_list (K := K) (a := l4) (xs := valsB) (fun i H5 => H5 D2 = some (.lst (resB.take i)) ∧ H5 l4 = some (.lst valsB))
          ⟨upd_same, (upd_ne (ne_of_none upd_same nD2)).trans upd_same⟩ (fun _ _ _ z => SqL.of z.2) ?_ ?_
        · rintro j x H5 hx ⟨hD5, hl5⟩
          obtain ⟨v, rfl, hv, hr1⟩ := res_val hx
          refine ⟨rfl, ?_⟩
          walk_at "rd"
          refine ⟨(by show 3 ≤ sizeLine; decide), fun p np => ?_⟩
          walk_at "rd"
          refine ⟨p, 0, 10, "half_even", v, rfl, upd_same, ⟨by decide, by decide, by decide, by decide, .inr (.inr (.inr (.inr rfl)))⟩, hv, fun H6 m6 => ?_⟩
          have k6 : Same H5 H6 := fun b u z => m6 b u ((upd_ne (ne_of_none z np)).trans z)
          have z := k6 _ _ hD5
          have hln : (resB.take j).length < sizeLine := Nat.lt_of_le_of_lt (List.length_take_le' _ _) (by decide)
          refine ⟨_, z, hln, ?_⟩
          have zl := k6 _ _ hl5
          have ne1 : l4 ≠ D2 := (ne_of_none (upd_same (H := _) (a := l4)) nD2)
          exact ⟨by rw [upd_same]; exact congrArg (fun y => some (HO.lst y)) hr1, (upd_ne ne1).trans zl⟩
        · rintro H5 ⟨hD5, hl5⟩
          have hD6 : H5 D2 = some (.lst (([20, 20, 0, -20] : List Int).map V.int)) := hD5
          walk_at "rd"
          refine ⟨(by show 4 ≤ sizeLine; decide), fun e6 ne6 => ?_⟩
          refine ⟨_, _, .lst (SqL.of ((upd_ne (ne_of_none hD6 ne6)).trans hD6)) (dpInts _ [20, 20, 0, -20]), .lst (SqL.of upd_same) (dpInts _ [20, 20, 0, -20]), by decide +kernel, by decide +kernel, ?_⟩
          walk_at "rd"
          refine ⟨(by show 3 ≤ sizeLine; decide), fun p np => ?_⟩
          walk_at "rd"
          refine ⟨p, 3, 10, "half_even", 8, rfl, upd_same, ⟨by decide, by decide, by decide, by decide, .inr (.inr (.inr (.inr rfl)))⟩, by unfold Bd; decide, fun H7 m7 => ?_⟩
          walk_at "rd"
          have e3 : dueM 3 10 "half_even" 8 = 3 := by decide +kernel
          have e4 : dueM 13 10 "half_even" 8 = 13 := by decide +kernel
          refine ⟨rfl, ?_⟩
          walk_at "rd"
          refine ite2 (fun h => ?_) (fun h => absurd (decide_eq_true (congrArg V.int e3)) h)
          walk_at "rd"
          refine ⟨(by show 3 ≤ sizeLine; decide), fun p2 np2 => ?_⟩
          walk_at "rd"
          refine ⟨p2, 13, 10, "half_even", 8, rfl, upd_same, ⟨by decide, by decide, by decide, by decide, .inr (.inr (.inr (.inr rfl)))⟩, by unfold Bd; decide, fun H8 m8 => ?_⟩
          walk_at "rd"
          refine ⟨rfl, ?_⟩
          have z := q H8
          rw [← (decide_eq_true (congrArg V.int e4) : decide (V.int (dueM 13 10 "half_even" 8) = V.int 13) = true)] at z
          exact z
end
end HT
namespace HT
open PySem L2
theorem all_mk {l : PySem.W.OpenLaw} {w : World} {K : PySem.W.Frag} {h : Heap} {mg : Str → Option Value} {fa aM f_is_int f_is_int_between f_check_value f_check_side f_figure_of f_figure f_goes_up f_handed f_written f_stands f_L_source f_L_draw f_L_pick f_L_great f_L_side f_L_figure f_L_handed f_L_values f_L_fits f_law : Addr} (X : K.In h) (G : h.Ns mainGlobals mg) (hfa : mg "law" = some (.ref fa))
    {odM od_is_int an_is_int od_is_int_between an_is_int_between od_check_value an_check_value od_check_side an_check_side od_figure_of an_figure_of od_figure an_figure od_goes_up an_goes_up od_handed an_handed od_written an_written od_stands an_stands od_L_source an_L_source od_L_draw an_L_draw od_L_pick an_L_pick od_L_great an_L_great od_L_side an_L_side od_L_figure an_L_figure od_L_handed an_L_handed od_L_values an_L_values od_L_fits an_L_fits od_law an_law : Option Addr} {slM sl_is_int sl_is_int_between sl_check_value sl_check_side sl_figure_of sl_figure sl_goes_up sl_handed sl_written sl_stands sl_L_source sl_L_draw sl_L_pick sl_L_great sl_L_side sl_L_figure sl_L_handed sl_L_values sl_L_fits sl_law : Array (Option Value)} {nM : Nat} {itsM : Array Value} {oc_is_int kV_is_int dc_is_int pm_is_int cd_is_int ct_is_int oc_is_int_between kV_is_int_between dc_is_int_between pm_is_int_between cd_is_int_between ct_is_int_between oc_check_value kV_check_value dc_check_value pm_check_value cd_check_value ct_check_value oc_check_side kV_check_side dc_check_side pm_check_side cd_check_side ct_check_side oc_figure_of kV_figure_of dc_figure_of pm_figure_of cd_figure_of ct_figure_of oc_figure kV_figure dc_figure pm_figure cd_figure ct_figure oc_goes_up kV_goes_up dc_goes_up pm_goes_up cd_goes_up ct_goes_up oc_handed kV_handed dc_handed pm_handed cd_handed ct_handed oc_written kV_written dc_written pm_written cd_written ct_written oc_stands kV_stands dc_stands pm_stands cd_stands ct_stands oc_L_source kV_L_source dc_L_source pm_L_source cd_L_source ct_L_source oc_L_draw kV_L_draw dc_L_draw pm_L_draw cd_L_draw ct_L_draw oc_L_pick kV_L_pick dc_L_pick pm_L_pick cd_L_pick ct_L_pick oc_L_great kV_L_great dc_L_great pm_L_great cd_L_great ct_L_great oc_L_side kV_L_side dc_L_side pm_L_side cd_L_side ct_L_side oc_L_figure kV_L_figure dc_L_figure pm_L_figure cd_L_figure ct_L_figure oc_L_handed kV_L_handed dc_L_handed pm_L_handed cd_L_handed ct_L_handed oc_L_values kV_L_values dc_L_values pm_L_values cd_L_values ct_L_values oc_L_fits kV_L_fits dc_L_fits pm_L_fits cd_L_fits ct_L_fits oc_law kV_law dc_law pm_law cd_law ct_law : Value}
    (a_is_int : PySem.W.nsIn K mainGlobals "is_int" = some (some (.ref f_is_int)))
    (l_is_int : K.lookup f_is_int = some ⟨oc_is_int, od_is_int, .func (PySem.W.fnOf "is_int" "is_int" (defArgs s_is_int) (defBody s_is_int) (defScope s_is_int) .none kV_is_int dc_is_int pm_is_int an_is_int cd_is_int ct_is_int), sl_is_int⟩)
    (c_is_int : PySem.W.codeIn K cd_is_int "is_int" = true) (k_is_int : PySem.W.keepIn K (.ref f_is_int) = true)
    (a_is_int_between : PySem.W.nsIn K mainGlobals "is_int_between" = some (some (.ref f_is_int_between)))
    (l_is_int_between : K.lookup f_is_int_between = some ⟨oc_is_int_between, od_is_int_between, .func (PySem.W.fnOf "is_int_between" "is_int_between" (defArgs s_is_int_between) (defBody s_is_int_between) (defScope s_is_int_between) .none kV_is_int_between dc_is_int_between pm_is_int_between an_is_int_between cd_is_int_between ct_is_int_between), sl_is_int_between⟩)
    (c_is_int_between : PySem.W.codeIn K cd_is_int_between "is_int_between" = true) (k_is_int_between : PySem.W.keepIn K (.ref f_is_int_between) = true)
    (a_check_value : PySem.W.nsIn K mainGlobals "check_value" = some (some (.ref f_check_value)))
    (l_check_value : K.lookup f_check_value = some ⟨oc_check_value, od_check_value, .func (PySem.W.fnOf "check_value" "check_value" (defArgs s_check_value) (defBody s_check_value) (defScope s_check_value) .none kV_check_value dc_check_value pm_check_value an_check_value cd_check_value ct_check_value), sl_check_value⟩)
    (c_check_value : PySem.W.codeIn K cd_check_value "check_value" = true) (k_check_value : PySem.W.keepIn K (.ref f_check_value) = true)
    (a_check_side : PySem.W.nsIn K mainGlobals "check_side" = some (some (.ref f_check_side)))
    (l_check_side : K.lookup f_check_side = some ⟨oc_check_side, od_check_side, .func (PySem.W.fnOf "check_side" "check_side" (defArgs s_check_side) (defBody s_check_side) (defScope s_check_side) .none kV_check_side dc_check_side pm_check_side an_check_side cd_check_side ct_check_side), sl_check_side⟩)
    (c_check_side : PySem.W.codeIn K cd_check_side "check_side" = true) (k_check_side : PySem.W.keepIn K (.ref f_check_side) = true)
    (a_figure_of : PySem.W.nsIn K mainGlobals "figure_of" = some (some (.ref f_figure_of)))
    (l_figure_of : K.lookup f_figure_of = some ⟨oc_figure_of, od_figure_of, .func (PySem.W.fnOf "figure_of" "figure_of" (defArgs s_figure_of) (defBody s_figure_of) (defScope s_figure_of) .none kV_figure_of dc_figure_of pm_figure_of an_figure_of cd_figure_of ct_figure_of), sl_figure_of⟩)
    (c_figure_of : PySem.W.codeIn K cd_figure_of "figure_of" = true) (k_figure_of : PySem.W.keepIn K (.ref f_figure_of) = true)
    (a_figure : PySem.W.nsIn K mainGlobals "_figure" = some (some (.ref f_figure)))
    (l_figure : K.lookup f_figure = some ⟨oc_figure, od_figure, .func (PySem.W.fnOf "_figure" "_figure" (defArgs s_figure) (defBody s_figure) (defScope s_figure) .none kV_figure dc_figure pm_figure an_figure cd_figure ct_figure), sl_figure⟩)
    (c_figure : PySem.W.codeIn K cd_figure "_figure" = true) (k_figure : PySem.W.keepIn K (.ref f_figure) = true)
    (a_goes_up : PySem.W.nsIn K mainGlobals "_goes_up" = some (some (.ref f_goes_up)))
    (l_goes_up : K.lookup f_goes_up = some ⟨oc_goes_up, od_goes_up, .func (PySem.W.fnOf "_goes_up" "_goes_up" (defArgs s_goes_up) (defBody s_goes_up) (defScope s_goes_up) .none kV_goes_up dc_goes_up pm_goes_up an_goes_up cd_goes_up ct_goes_up), sl_goes_up⟩)
    (c_goes_up : PySem.W.codeIn K cd_goes_up "_goes_up" = true) (k_goes_up : PySem.W.keepIn K (.ref f_goes_up) = true)
    (a_handed : PySem.W.nsIn K mainGlobals "handed" = some (some (.ref f_handed)))
    (l_handed : K.lookup f_handed = some ⟨oc_handed, od_handed, .func (PySem.W.fnOf "handed" "handed" (defArgs s_handed) (defBody s_handed) (defScope s_handed) .none kV_handed dc_handed pm_handed an_handed cd_handed ct_handed), sl_handed⟩)
    (c_handed : PySem.W.codeIn K cd_handed "handed" = true) (k_handed : PySem.W.keepIn K (.ref f_handed) = true)
    (a_written : PySem.W.nsIn K mainGlobals "written" = some (some (.ref f_written)))
    (l_written : K.lookup f_written = some ⟨oc_written, od_written, .func (PySem.W.fnOf "written" "written" (defArgs s_written) (defBody s_written) (defScope s_written) .none kV_written dc_written pm_written an_written cd_written ct_written), sl_written⟩)
    (c_written : PySem.W.codeIn K cd_written "written" = true) (k_written : PySem.W.keepIn K (.ref f_written) = true)
    (a_stands : PySem.W.nsIn K mainGlobals "stands" = some (some (.ref f_stands)))
    (l_stands : K.lookup f_stands = some ⟨oc_stands, od_stands, .func (PySem.W.fnOf "stands" "stands" (defArgs s_stands) (defBody s_stands) (defScope s_stands) .none kV_stands dc_stands pm_stands an_stands cd_stands ct_stands), sl_stands⟩)
    (c_stands : PySem.W.codeIn K cd_stands "stands" = true) (k_stands : PySem.W.keepIn K (.ref f_stands) = true)
    (a_L_source : PySem.W.nsIn K mainGlobals "_law_source" = some (some (.ref f_L_source)))
    (l_L_source : K.lookup f_L_source = some ⟨oc_L_source, od_L_source, .func (PySem.W.fnOf "_law_source" "_law_source" (defArgs s_L_source) (defBody s_L_source) (defScope s_L_source) .none kV_L_source dc_L_source pm_L_source an_L_source cd_L_source ct_L_source), sl_L_source⟩)
    (c_L_source : PySem.W.codeIn K cd_L_source "_law_source" = true) (k_L_source : PySem.W.keepIn K (.ref f_L_source) = true)
    (a_L_draw : PySem.W.nsIn K mainGlobals "_law_draw" = some (some (.ref f_L_draw)))
    (l_L_draw : K.lookup f_L_draw = some ⟨oc_L_draw, od_L_draw, .func (PySem.W.fnOf "_law_draw" "_law_draw" (defArgs s_L_draw) (defBody s_L_draw) (defScope s_L_draw) .none kV_L_draw dc_L_draw pm_L_draw an_L_draw cd_L_draw ct_L_draw), sl_L_draw⟩)
    (c_L_draw : PySem.W.codeIn K cd_L_draw "_law_draw" = true) (k_L_draw : PySem.W.keepIn K (.ref f_L_draw) = true)
    (a_L_pick : PySem.W.nsIn K mainGlobals "_law_pick" = some (some (.ref f_L_pick)))
    (l_L_pick : K.lookup f_L_pick = some ⟨oc_L_pick, od_L_pick, .func (PySem.W.fnOf "_law_pick" "_law_pick" (defArgs s_L_pick) (defBody s_L_pick) (defScope s_L_pick) .none kV_L_pick dc_L_pick pm_L_pick an_L_pick cd_L_pick ct_L_pick), sl_L_pick⟩)
    (c_L_pick : PySem.W.codeIn K cd_L_pick "_law_pick" = true) (k_L_pick : PySem.W.keepIn K (.ref f_L_pick) = true)
    (a_L_great : PySem.W.nsIn K mainGlobals "_law_great" = some (some (.ref f_L_great)))
    (l_L_great : K.lookup f_L_great = some ⟨oc_L_great, od_L_great, .func (PySem.W.fnOf "_law_great" "_law_great" (defArgs s_L_great) (defBody s_L_great) (defScope s_L_great) .none kV_L_great dc_L_great pm_L_great an_L_great cd_L_great ct_L_great), sl_L_great⟩)
    (c_L_great : PySem.W.codeIn K cd_L_great "_law_great" = true) (k_L_great : PySem.W.keepIn K (.ref f_L_great) = true)
    (a_L_side : PySem.W.nsIn K mainGlobals "_law_side" = some (some (.ref f_L_side)))
    (l_L_side : K.lookup f_L_side = some ⟨oc_L_side, od_L_side, .func (PySem.W.fnOf "_law_side" "_law_side" (defArgs s_L_side) (defBody s_L_side) (defScope s_L_side) .none kV_L_side dc_L_side pm_L_side an_L_side cd_L_side ct_L_side), sl_L_side⟩)
    (c_L_side : PySem.W.codeIn K cd_L_side "_law_side" = true) (k_L_side : PySem.W.keepIn K (.ref f_L_side) = true)
    (a_L_figure : PySem.W.nsIn K mainGlobals "_law_figure" = some (some (.ref f_L_figure)))
    (l_L_figure : K.lookup f_L_figure = some ⟨oc_L_figure, od_L_figure, .func (PySem.W.fnOf "_law_figure" "_law_figure" (defArgs s_L_figure) (defBody s_L_figure) (defScope s_L_figure) .none kV_L_figure dc_L_figure pm_L_figure an_L_figure cd_L_figure ct_L_figure), sl_L_figure⟩)
    (c_L_figure : PySem.W.codeIn K cd_L_figure "_law_figure" = true) (k_L_figure : PySem.W.keepIn K (.ref f_L_figure) = true)
    (a_L_handed : PySem.W.nsIn K mainGlobals "_law_handed" = some (some (.ref f_L_handed)))
    (l_L_handed : K.lookup f_L_handed = some ⟨oc_L_handed, od_L_handed, .func (PySem.W.fnOf "_law_handed" "_law_handed" (defArgs s_L_handed) (defBody s_L_handed) (defScope s_L_handed) .none kV_L_handed dc_L_handed pm_L_handed an_L_handed cd_L_handed ct_L_handed), sl_L_handed⟩)
    (c_L_handed : PySem.W.codeIn K cd_L_handed "_law_handed" = true) (k_L_handed : PySem.W.keepIn K (.ref f_L_handed) = true)
    (a_L_values : PySem.W.nsIn K mainGlobals "_law_values" = some (some (.ref f_L_values)))
    (l_L_values : K.lookup f_L_values = some ⟨oc_L_values, od_L_values, .func (PySem.W.fnOf "_law_values" "_law_values" (defArgs s_L_values) (defBody s_L_values) (defScope s_L_values) .none kV_L_values dc_L_values pm_L_values an_L_values cd_L_values ct_L_values), sl_L_values⟩)
    (c_L_values : PySem.W.codeIn K cd_L_values "_law_values" = true) (k_L_values : PySem.W.keepIn K (.ref f_L_values) = true)
    (a_L_fits : PySem.W.nsIn K mainGlobals "_law_fits" = some (some (.ref f_L_fits)))
    (l_L_fits : K.lookup f_L_fits = some ⟨oc_L_fits, od_L_fits, .func (PySem.W.fnOf "_law_fits" "_law_fits" (defArgs s_L_fits) (defBody s_L_fits) (defScope s_L_fits) .none kV_L_fits dc_L_fits pm_L_fits an_L_fits cd_L_fits ct_L_fits), sl_L_fits⟩)
    (c_L_fits : PySem.W.codeIn K cd_L_fits "_law_fits" = true) (k_L_fits : PySem.W.keepIn K (.ref f_L_fits) = true)
    (a_law : PySem.W.nsIn K mainGlobals "law" = some (some (.ref f_law)))
    (l_law : K.lookup f_law = some ⟨oc_law, od_law, .func (PySem.W.fnOf "law" "law" (defArgs s_law) (defBody s_law) (defScope s_law) .none kV_law dc_law pm_law an_law cd_law ct_law), sl_law⟩)
    (c_law : PySem.W.codeIn K cd_law "law" = true) (k_law : PySem.W.keepIn K (.ref f_law) = true)
    (z_len : PySem.W.nsIn K mainGlobals "len" = some none)
    (z_abs : PySem.W.nsIn K mainGlobals "abs" = some none)
    (z_int : PySem.W.nsIn K mainGlobals "int" = some none)
    (z_range : PySem.W.nsIn K mainGlobals "range" = some none)
    (z_isinstance : PySem.W.nsIn K mainGlobals "isinstance" = some none)
    (z_bool : PySem.W.nsIn K mainGlobals "bool" = some none)
    (z_tuple : PySem.W.nsIn K mainGlobals "tuple" = some none)
    (z_divmod : PySem.W.nsIn K mainGlobals "divmod" = some none)
    (a_MODES : PySem.W.nsIn K mainGlobals "MODES" = some (some (.ref aM)))
    (l_MODES : K.lookup aM = some ⟨.type "tuple", odM, .seq itsM nM, slM⟩)
    (v_MODES : itsM.size ≤ sizeLine ∧ Vals modesV itsM.toList) :
    ∃ fd : FuncData, (∀ (s : Shared) (v : Value), BindsTo s fd ⟨[v], []⟩ [("_law_script", v)]) ∧ ∀ base : Heap, K.In base → base.Ns mainGlobals mg → FnOk l.prog w K mg base CX0 8 fa fd ["_law_script"] (spLaw K) := by
  have e := hfa.symm.trans (PySem.W.mg_of X G a_law)
  cases e
  have F_is_int := fun_mk (st := s_is_int) l_is_int c_is_int k_is_int
  have b_is_int := F_is_int.binds (ps := ["thing"]) fun _ _ _ _ _ _ us hl => match us, hl with | [_], _ => rfl
  have m_is_int := PySem.W.mg_of X G a_is_int
  have F_is_int_between := fun_mk (st := s_is_int_between) l_is_int_between c_is_int_between k_is_int_between
  have b_is_int_between := F_is_int_between.binds (ps := ["thing", "least", "most"]) fun _ _ _ _ _ _ us hl => match us, hl with | [_, _, _], _ => rfl
  have m_is_int_between := PySem.W.mg_of X G a_is_int_between
  have F_check_value := fun_mk (st := s_check_value) l_check_value c_check_value k_check_value
  have b_check_value := F_check_value.binds (ps := ["value"]) fun _ _ _ _ _ _ us hl => match us, hl with | [_], _ => rfl
  have m_check_value := PySem.W.mg_of X G a_check_value
  have F_check_side := fun_mk (st := s_check_side) l_check_side c_check_side k_check_side
  have b_check_side := F_check_side.binds (ps := ["side"]) fun _ _ _ _ _ _ us hl => match us, hl with | [_], _ => rfl
  have m_check_side := PySem.W.mg_of X G a_check_side
  have F_figure_of := fun_mk (st := s_figure_of) l_figure_of c_figure_of k_figure_of
  have b_figure_of := F_figure_of.binds (ps := ["side", "value"]) fun _ _ _ _ _ _ us hl => match us, hl with | [_, _], _ => rfl
  have m_figure_of := PySem.W.mg_of X G a_figure_of
  have F_figure := fun_mk (st := s_figure) l_figure c_figure k_figure
  have b_figure := F_figure.binds (ps := ["side", "value"]) fun _ _ _ _ _ _ us hl => match us, hl with | [_, _], _ => rfl
  have m_figure := PySem.W.mg_of X G a_figure
  have F_goes_up := fun_mk (st := s_goes_up) l_goes_up c_goes_up k_goes_up
  have b_goes_up := F_goes_up.binds (ps := ["mode", "step", "figure", "rest"]) fun _ _ _ _ _ _ us hl => match us, hl with | [_, _, _, _], _ => rfl
  have m_goes_up := PySem.W.mg_of X G a_goes_up
  have F_handed := fun_mk (st := s_handed) l_handed c_handed k_handed
  have b_handed := F_handed.binds (ps := ["side", "value"]) fun _ _ _ _ _ _ us hl => match us, hl with | [_, _], _ => rfl
  have m_handed := PySem.W.mg_of X G a_handed
  have F_written := fun_mk (st := s_written) l_written c_written k_written
  have b_written := F_written.binds (ps := ["side", "value"]) fun _ _ _ _ _ _ us hl => match us, hl with | [_, _], _ => rfl
  have m_written := PySem.W.mg_of X G a_written
  have F_stands := fun_mk (st := s_stands) l_stands c_stands k_stands
  have b_stands := F_stands.binds (ps := ["side", "value"]) fun _ _ _ _ _ _ us hl => match us, hl with | [_, _], _ => rfl
  have m_stands := PySem.W.mg_of X G a_stands
  have F_L_source := fun_mk (st := s_L_source) l_L_source c_L_source k_L_source
  have b_L_source := F_L_source.binds (ps := ["_law_script"]) fun _ _ _ _ _ _ us hl => match us, hl with | [_], _ => rfl
  have m_L_source := PySem.W.mg_of X G a_L_source
  have F_L_draw := fun_mk (st := s_L_draw) l_L_draw c_L_draw k_L_draw
  have b_L_draw := F_L_draw.binds (ps := ["_law_source_here", "_law_limit"]) fun _ _ _ _ _ _ us hl => match us, hl with | [_, _], _ => rfl
  have m_L_draw := PySem.W.mg_of X G a_L_draw
  have F_L_pick := fun_mk (st := s_L_pick) l_L_pick c_L_pick k_L_pick
  have b_L_pick := F_L_pick.binds (ps := ["_law_source_here", "_law_values_here"]) fun _ _ _ _ _ _ us hl => match us, hl with | [_, _], _ => rfl
  have m_L_pick := PySem.W.mg_of X G a_L_pick
  have F_L_great := fun_mk (st := s_L_great) l_L_great c_L_great k_L_great
  have b_L_great := F_L_great.binds (ps := ["_law_source_here", "_law_digits"]) fun _ _ _ _ _ _ us hl => match us, hl with | [_, _], _ => rfl
  have m_L_great := PySem.W.mg_of X G a_L_great
  have F_L_side := fun_mk (st := s_L_side) l_L_side c_L_side k_L_side
  have b_L_side := F_L_side.binds (ps := ["_law_source_here", "_law_digits"]) fun _ _ _ _ _ _ us hl => match us, hl with | [_, _], _ => rfl
  have m_L_side := PySem.W.mg_of X G a_L_side
  have F_L_figure := fun_mk (st := s_L_figure) l_L_figure c_L_figure k_L_figure
  have b_L_figure := F_L_figure.binds (ps := ["_law_side_here", "_law_value"]) fun _ _ _ _ _ _ us hl => match us, hl with | [_, _], _ => rfl
  have m_L_figure := PySem.W.mg_of X G a_L_figure
  have F_L_handed := fun_mk (st := s_L_handed) l_L_handed c_L_handed k_L_handed
  have b_L_handed := F_L_handed.binds (ps := ["_law_side_here", "_law_value"]) fun _ _ _ _ _ _ us hl => match us, hl with | [_, _], _ => rfl
  have m_L_handed := PySem.W.mg_of X G a_L_handed
  have F_L_values := fun_mk (st := s_L_values) l_L_values c_L_values k_L_values
  have b_L_values := F_L_values.binds (ps := ["_law_source_here", "_law_one"]) fun _ _ _ _ _ _ us hl => match us, hl with | [_, _], _ => rfl
  have m_L_values := PySem.W.mg_of X G a_L_values
  have F_L_fits := fun_mk (st := s_L_fits) l_L_fits c_L_fits k_L_fits
  have b_L_fits := F_L_fits.binds (ps := ["_law_one", "_law_value"]) fun _ _ _ _ _ _ us hl => match us, hl with | [_, _], _ => rfl
  have m_L_fits := PySem.W.mg_of X G a_L_fits
  have F_law := fun_mk (st := s_law) l_law c_law k_law
  have b_law := F_law.binds (ps := ["_law_script"]) fun _ _ _ _ _ _ us hl => match us, hl with | [_], _ => rfl
  have m_law := PySem.W.mg_of X G a_law
  have n_len := PySem.W.mg_none_of X G z_len
  have n_abs := PySem.W.mg_none_of X G z_abs
  have n_int := PySem.W.mg_none_of X G z_int
  have n_range := PySem.W.mg_none_of X G z_range
  have n_isinstance := PySem.W.mg_none_of X G z_isinstance
  have n_bool := PySem.W.mg_none_of X G z_bool
  have n_tuple := PySem.W.mg_none_of X G z_tuple
  have n_divmod := PySem.W.mg_none_of X G z_divmod
  have BL : Blt mg := ⟨n_len, n_abs, n_int, n_range⟩
  have T : SideT K mg aM := ⟨n_isinstance, n_int, n_bool, n_tuple, n_len, n_divmod, PySem.W.mg_of X G a_MODES, fun _ => .inr ⟨_, _, _, l_MODES, rfl, rfl, v_MODES.1, v_MODES.2⟩⟩
  refine ⟨PySem.W.fnOf "law" "law" (defArgs s_law) (defBody s_law) (defScope s_law) .none kV_law dc_law pm_law an_law cd_law ct_law, fun s v => .of_eq rfl, fun base _ _ => ?_⟩
  have C_is_int : Cal l.prog w K mg base "is_int" 1 ["thing"] spIsInt f_is_int _ := ⟨ok_is_int F_is_int T, m_is_int, k_is_int, b_is_int⟩
  have C_is_int_between : Cal l.prog w K mg base "is_int_between" 2 ["thing", "least", "most"] spBetween f_is_int_between _ := ⟨ok_between F_is_int_between C_is_int, m_is_int_between, k_is_int_between, b_is_int_between⟩
  have C_check_value : Cal l.prog w K mg base "check_value" 2 ["value"] spCheckValue f_check_value _ := ⟨ok_check_value F_check_value C_is_int, m_check_value, k_check_value, b_check_value⟩
  have C_check_side : Cal l.prog w K mg base "check_side" 3 ["side"] spCheckSide f_check_side _ := ⟨ok_check_side F_check_side T C_is_int_between, m_check_side, k_check_side, b_check_side⟩
  have C_goes_up : Cal l.prog w K mg base "_goes_up" 1 ["mode", "step", "figure", "rest"] spGo f_goes_up _ := ⟨ok_goes_up F_goes_up, m_goes_up, k_goes_up, b_goes_up⟩
  have C_figure : Cal l.prog w K mg base "_figure" 2 ["side", "value"] spFig f_figure _ := ⟨ok_figure F_figure T C_goes_up, m_figure, k_figure, b_figure⟩
  have C_figure_of : Cal l.prog w K mg base "figure_of" 4 ["side", "value"] spFig f_figure_of _ := ⟨ok_figure_of F_figure_of C_check_side C_check_value C_figure, m_figure_of, k_figure_of, b_figure_of⟩
  have C_written : Cal l.prog w K mg base "written" 3 ["side", "value"] spDue f_written _ := ⟨ok_written F_written C_figure, m_written, k_written, b_written⟩
  have C_handed : Cal l.prog w K mg base "handed" 5 ["side", "value"] spDue f_handed _ := ⟨ok_handed F_handed C_check_side C_check_value C_written, m_handed, k_handed, b_handed⟩
  have C_stands : Cal l.prog w K mg base "stands" 4 ["side", "value"] spStands f_stands _ := ⟨ok_stands F_stands C_check_side C_check_value, m_stands, k_stands, b_stands⟩
  have C_L_source : Cal l.prog w K mg base "_law_source" 1 ["_law_script"] (spSource K) f_L_source _ := ⟨ok_source F_L_source BL, m_L_source, k_L_source, b_L_source⟩
  have C_L_draw : Cal l.prog w K mg base "_law_draw" 1 ["_law_source_here", "_law_limit"] spDraw f_L_draw _ := ⟨ok_draw F_L_draw BL, m_L_draw, k_L_draw, b_L_draw⟩
  have C_L_pick : Cal l.prog w K mg base "_law_pick" 2 ["_law_source_here", "_law_values_here"] spPick f_L_pick _ := ⟨ok_pick F_L_pick BL C_L_draw, m_L_pick, k_L_pick, b_L_pick⟩
  have C_L_great : Cal l.prog w K mg base "_law_great" 2 ["_law_source_here", "_law_digits"] spGreat f_L_great _ := ⟨ok_great F_L_great BL C_L_draw, m_L_great, k_L_great, b_L_great⟩
  have C_L_side : Cal l.prog w K mg base "_law_side" 3 ["_law_source_here", "_law_digits"] spSide f_L_side _ := ⟨ok_side F_L_side BL C_L_draw C_L_pick C_L_great, m_L_side, k_L_side, b_L_side⟩
  have C_L_figure : Cal l.prog w K mg base "_law_figure" 1 ["_law_side_here", "_law_value"] spFig f_L_figure _ := ⟨ok_L_figure F_L_figure BL, m_L_figure, k_L_figure, b_L_figure⟩
  have C_L_handed : Cal l.prog w K mg base "_law_handed" 2 ["_law_side_here", "_law_value"] spDue f_L_handed _ := ⟨ok_L_handed F_L_handed C_L_figure, m_L_handed, k_L_handed, b_L_handed⟩
  have C_L_values : Cal l.prog w K mg base "_law_values" 3 ["_law_source_here", "_law_one"] spValues f_L_values _ := ⟨ok_L_values F_L_values C_L_draw C_L_pick C_L_great, m_L_values, k_L_values, b_L_values⟩
  have C_L_fits : Cal l.prog w K mg base "_law_fits" 6 ["_law_one", "_law_value"] spFits f_L_fits _ := ⟨ok_L_fits F_L_fits BL T C_L_figure C_L_handed C_figure_of C_handed C_stands, m_L_fits, k_L_fits, b_L_fits⟩
  exact ok_law F_law BL C_L_source C_L_side C_L_values C_L_fits C_handed
theorem walk {l : PySem.W.OpenLaw} {q : Program} {loose : List Str} {XP : (Str → Option Value) → Heap → Prop} {YP : World → Heap → Prop} {d : DefRec} {K : Params → PySem.W.Frag} (hn : l.most = some 63) (hdf : d.params.defaults = [])
    (hY : ∀ (w : World) (h : Heap), YP w h → (K w.params).In h)
    (F : ∀ (w : World) (mg : Str → Option Value) (fa : Addr) (h : Heap), (K w.params).In h → h.Ns mainGlobals mg → mg d.name = some (.ref fa) →
      ∃ fd : FuncData, (∀ (s : Shared) (u : Value), BindsTo s fd ⟨[u], []⟩ [("_law_script", u)]) ∧ ∀ base : Heap, (K w.params).In base → base.Ns mainGlobals mg → FnOk l.prog w (K w.params) mg base CX0 8 fa fd ["_law_script"] (spLaw (K w.params))) :
    PySem.W.WalkO q loose XP YP l.row.toRowW d [] (fun f vs => PySem.call f vs) :=
  L2.walk_of (n := 63) (k := 8) (x := "_law_script") (CX := fun _ => CX0) (sp := fun w => spLaw (K w.params)) hn (by decide) hdf ⟨rfl, by decide, by decide⟩ hY F (fun _ _ a ns hl _ hS => ⟨a, ns, rfl, hS, hl, fun _ => rfl⟩) fun _ _ _ _ _ z => z
end HT
open PySem PySem.W PyProof.Rows
set_option maxRecDepth 100000 in
set_option maxHeartbeats 0 in
theorem PySem.Challenge.cw_handedtext_k05_whole_written_values_holds : PySem.Challenge.rw_handedtext_k05_whole_written_values.Holds := by
  w_on; o_law; k_head; (case hw => w_witness2)
  k_fill
  refine HT.walk (l := PySem.Challenge.rw_handedtext_k05_whole_written_values) rfl rfl (fun w h Y => PySem.W.kIn_of Y) ?F
  case F =>
    intro w mg fa h KX G hmg
    refine' HT.all_mk KX G hmg ?a_is_int ?l_is_int ?c_is_int ?k_is_int ?a_is_int_between ?l_is_int_between ?c_is_int_between ?k_is_int_between ?a_check_value ?l_check_value ?c_check_value ?k_check_value ?a_check_side ?l_check_side ?c_check_side ?k_check_side ?a_figure_of ?l_figure_of ?c_figure_of ?k_figure_of ?a_figure ?l_figure ?c_figure ?k_figure ?a_goes_up ?l_goes_up ?c_goes_up ?k_goes_up ?a_handed ?l_handed ?c_handed ?k_handed ?a_written ?l_written ?c_written ?k_written ?a_stands ?l_stands ?c_stands ?k_stands ?a_L_source ?l_L_source ?c_L_source ?k_L_source ?a_L_draw ?l_L_draw ?c_L_draw ?k_L_draw ?a_L_pick ?l_L_pick ?c_L_pick ?k_L_pick ?a_L_great ?l_L_great ?c_L_great ?k_L_great ?a_L_side ?l_L_side ?c_L_side ?k_L_side ?a_L_figure ?l_L_figure ?c_L_figure ?k_L_figure ?a_L_handed ?l_L_handed ?c_L_handed ?k_L_handed ?a_L_values ?l_L_values ?c_L_values ?k_L_values ?a_L_fits ?l_L_fits ?c_L_fits ?k_L_fits ?a_law ?l_law ?c_law ?k_law ?z_len ?z_abs ?z_int ?z_range ?z_isinstance ?z_bool ?z_tuple ?z_divmod ?a_MODES ?l_MODES ?v_MODES
    (case a_is_int => k_is)
    (case l_is_int => k_is)
    (case c_is_int => k_is)
    (case k_is_int => k_is)
    (case a_is_int_between => k_is)
    (case l_is_int_between => k_is)
    (case c_is_int_between => k_is)
    (case k_is_int_between => k_is)
    (case a_check_value => k_is)
    (case l_check_value => k_is)
    (case c_check_value => k_is)
    (case k_check_value => k_is)
    (case a_check_side => k_is)
    (case l_check_side => k_is)
    (case c_check_side => k_is)
    (case k_check_side => k_is)
    (case a_figure_of => k_is)
    (case l_figure_of => k_is)
    (case c_figure_of => k_is)
    (case k_figure_of => k_is)
    (case a_figure => k_is)
    (case l_figure => k_is)
    (case c_figure => k_is)
    (case k_figure => k_is)
    (case a_goes_up => k_is)
    (case l_goes_up => k_is)
    (case c_goes_up => k_is)
    (case k_goes_up => k_is)
    (case a_handed => k_is)
    (case l_handed => k_is)
    (case c_handed => k_is)
    (case k_handed => k_is)
    (case a_written => k_is)
    (case l_written => k_is)
    (case c_written => k_is)
    (case k_written => k_is)
    (case a_stands => k_is)
    (case l_stands => k_is)
    (case c_stands => k_is)
    (case k_stands => k_is)
    (case a_L_source => k_is)
    (case l_L_source => k_is)
    (case c_L_source => k_is)
    (case k_L_source => k_is)
    (case a_L_draw => k_is)
    (case l_L_draw => k_is)
    (case c_L_draw => k_is)
    (case k_L_draw => k_is)
    (case a_L_pick => k_is)
    (case l_L_pick => k_is)
    (case c_L_pick => k_is)
    (case k_L_pick => k_is)
    (case a_L_great => k_is)
    (case l_L_great => k_is)
    (case c_L_great => k_is)
    (case k_L_great => k_is)
    (case a_L_side => k_is)
    (case l_L_side => k_is)
    (case c_L_side => k_is)
    (case k_L_side => k_is)
    (case a_L_figure => k_is)
    (case l_L_figure => k_is)
    (case c_L_figure => k_is)
    (case k_L_figure => k_is)
    (case a_L_handed => k_is)
    (case l_L_handed => k_is)
    (case c_L_handed => k_is)
    (case k_L_handed => k_is)
    (case a_L_values => k_is)
    (case l_L_values => k_is)
    (case c_L_values => k_is)
    (case k_L_values => k_is)
    (case a_L_fits => k_is)
    (case l_L_fits => k_is)
    (case c_L_fits => k_is)
    (case k_L_fits => k_is)
    (case a_law => k_is)
    (case l_law => k_is)
    (case c_law => k_is)
    (case k_law => k_is)
    (case z_len => k_is)
    (case z_abs => k_is)
    (case z_int => k_is)
    (case z_range => k_is)
    (case z_isinstance => k_is)
    (case z_bool => k_is)
    (case z_tuple => k_is)
    (case z_divmod => k_is)
    (case a_MODES => k_is)
    (case l_MODES => k_is)
    (case v_MODES => exact ⟨by decide, .cons ⟨_, rfl⟩ (.cons ⟨_, rfl⟩ (.cons ⟨_, rfl⟩ (.cons ⟨_, rfl⟩ (.cons ⟨_, rfl⟩ .nil))))⟩)
#print axioms PySem.Challenge.cw_handedtext_k05_whole_written_values_holds
