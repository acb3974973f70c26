import PyProof.Rows.All
import Wide.All
import OpenK.AllK
import Wide.FinOn
import HandS.ForMost
import HandS.Wide
import HandS.NoneIn
import HandS.IsInst
import HandS.WideBits
import HandS.More
import HandS.Style
import KE.KEqSeq
import KE.KEqDeep
import PySem.Challenge.RW_handedtext_k07_whole_mirrors_and_forms
set_option Elab.async false
set_option linter.all false
set_option maxRecDepth 100000
set_option maxHeartbeats 4000000
set_option exponentiation.threshold 3000
open PySem L2
local macro_rules | `(tactic| walk_at "rd") => `(tactic| repeat (first | refine ⟨_, rfl, ?_⟩ | refine ⟨_, _, rfl, rfl, ?_⟩ | refine .inl ⟨_, rfl, ?_⟩))
namespace HT
open PySem L2
def top (i : Nat) : Stmt := PySem.Challenge.pw_handedtext_k07_whole_mirrors_and_forms.main.body.getD i (.Pass ⟨0, 0, 0, 0⟩)
abbrev s_is_int : Stmt := top 5
abbrev s_is_int_between : Stmt := top 6
abbrev s_check_value : Stmt := top 7
abbrev s_check_side : Stmt := top 11
abbrev s_figure : Stmt := top 12
abbrev s_goes_up : Stmt := top 13
abbrev s_handed : Stmt := top 14
abbrev s_written : Stmt := top 15
abbrev s_mirror : Stmt := top 16
abbrev s_form : Stmt := top 17
abbrev s_first_mode : Stmt := top 18
abbrev s_L_source : Stmt := top 20
abbrev s_L_draw : Stmt := top 21
abbrev s_L_pick : Stmt := top 22
abbrev s_L_great : Stmt := top 23
abbrev s_L_side : Stmt := top 24
abbrev s_L_figure : Stmt := top 25
abbrev s_L_handed : Stmt := top 26
abbrev s_L_mirror_fits : Stmt := top 27
abbrev s_L_form_fits : Stmt := top 28
abbrev s_L_first_mode : Stmt := top 29
abbrev s_L_small_fits : Stmt := top 30
abbrev s_law : Stmt := top 31
/- is_int: 0:thing -/
theorem sc_is_int : FnScope ["thing"] ["thing"] (defScope s_is_int) := ⟨rfl, rfl, rfl, by decide +kernel, rfl, by decide +kernel, by decide +kernel⟩
/- is_int_between: 0:thing 1:least 2:most -/
theorem sc_is_int_between : FnScope ["thing", "least", "most"] ["thing", "least", "most"] (defScope s_is_int_between) := ⟨rfl, rfl, rfl, by decide +kernel, rfl, by decide +kernel, by decide +kernel⟩
/- check_value: 0:value -/
theorem sc_check_value : FnScope ["value"] ["value"] (defScope s_check_value) := ⟨rfl, rfl, rfl, by decide +kernel, rfl, by decide +kernel, by decide +kernel⟩
/- check_side: 0:side 1:offset 2:step 3:mode -/
theorem sc_check_side : FnScope ["side", "offset", "step", "mode"] ["side"] (defScope s_check_side) := ⟨rfl, rfl, rfl, by decide +kernel, rfl, by decide +kernel, by decide +kernel⟩
/- _figure: 0:side 1:value 2:offset 3:step 4:mode 5:figure 6:rest -/
theorem sc_figure : FnScope ["side", "value", "offset", "step", "mode", "figure", "rest"] ["side", "value"] (defScope s_figure) := ⟨rfl, rfl, rfl, by decide +kernel, rfl, by decide +kernel, by decide +kernel⟩
/- _goes_up: 0:mode 1:step 2:figure 3:rest -/
theorem sc_goes_up : FnScope ["mode", "step", "figure", "rest"] ["mode", "step", "figure", "rest"] (defScope s_goes_up) := ⟨rfl, rfl, rfl, by decide +kernel, rfl, by decide +kernel, by decide +kernel⟩
/- handed: 0:side 1:value -/
theorem sc_handed : FnScope ["side", "value"] ["side", "value"] (defScope s_handed) := ⟨rfl, rfl, rfl, by decide +kernel, rfl, by decide +kernel, by decide +kernel⟩
/- written: 0:side 1:value 2:offset 3:step 4:_ -/
theorem sc_written : FnScope ["side", "value", "offset", "step", "_"] ["side", "value"] (defScope s_written) := ⟨rfl, rfl, rfl, by decide +kernel, rfl, by decide +kernel, by decide +kernel⟩
/- mirror: 0:side 1:offset 2:step 3:mode -/
theorem sc_mirror : FnScope ["side", "offset", "step", "mode"] ["side"] (defScope s_mirror) := ⟨rfl, rfl, rfl, by decide +kernel, rfl, by decide +kernel, by decide +kernel⟩
/- form: 0:side 1:offset 2:step 3:mode 4:first -/
theorem sc_form : FnScope ["side", "offset", "step", "mode", "first"] ["side"] (defScope s_form) := ⟨rfl, rfl, rfl, by decide +kernel, rfl, by decide +kernel, by decide +kernel⟩
/- _first_mode: 0:step 1:mode -/
theorem sc_first_mode : FnScope ["step", "mode"] ["step", "mode"] (defScope s_first_mode) := ⟨rfl, rfl, rfl, by decide +kernel, rfl, by decide +kernel, by decide +kernel⟩
/- _law_source: 0:_law_script 1:_law_cells 2:_law_k -/
theorem sc_L_source : FnScope ["_law_script", "_law_cells", "_law_k"] ["_law_script"] (defScope s_L_source) := ⟨rfl, rfl, rfl, by decide +kernel, rfl, by decide +kernel, by decide +kernel⟩
/- _law_draw: 0:_law_source_here 1:_law_limit 2:_law_cells 3:_law_turn 4:_law_place 5:_law_cell 6:_law_number -/
theorem sc_L_draw : FnScope ["_law_source_here", "_law_limit", "_law_cells", "_law_turn", "_law_place", "_law_cell", "_law_number"] ["_law_source_here", "_law_limit"] (defScope s_L_draw) := ⟨rfl, rfl, rfl, by decide +kernel, rfl, by decide +kernel, by decide +kernel⟩
/- _law_pick: 0:_law_source_here 1:_law_values -/
theorem sc_L_pick : FnScope ["_law_source_here", "_law_values"] ["_law_source_here", "_law_values"] (defScope s_L_pick) := ⟨rfl, rfl, rfl, by decide +kernel, rfl, by decide +kernel, by decide +kernel⟩
/- _law_great: 0:_law_source_here 1:_law_digits 2:_law_number 3:_law_k -/
theorem sc_L_great : FnScope ["_law_source_here", "_law_digits", "_law_number", "_law_k"] ["_law_source_here", "_law_digits"] (defScope s_L_great) := ⟨rfl, rfl, rfl, by decide +kernel, rfl, by decide +kernel, by decide +kernel⟩
/- _law_side: 0:_law_source_here 1:_law_digits 2:_law_step 3:_law_offset -/
theorem sc_L_side : FnScope ["_law_source_here", "_law_digits", "_law_step", "_law_offset"] ["_law_source_here", "_law_digits"] (defScope s_L_side) := ⟨rfl, rfl, rfl, by decide +kernel, rfl, by decide +kernel, by decide +kernel⟩
/- _law_figure: 0:_law_side_here 1:_law_value 2:_law_offset 3:_law_step 4:_law_mode 5:_law_low 6:_law_rest -/
theorem sc_L_figure : FnScope ["_law_side_here", "_law_value", "_law_offset", "_law_step", "_law_mode", "_law_low", "_law_rest"] ["_law_side_here", "_law_value"] (defScope s_L_figure) := ⟨rfl, rfl, rfl, by decide +kernel, rfl, by decide +kernel, by decide +kernel⟩
/- _law_handed: 0:_law_side_here 1:_law_value -/
theorem sc_L_handed : FnScope ["_law_side_here", "_law_value"] ["_law_side_here", "_law_value"] (defScope s_L_handed) := ⟨rfl, rfl, rfl, by decide +kernel, rfl, by decide +kernel, by decide +kernel⟩
/- _law_mirror_fits: 0:_law_one 1:_law_value 2:_law_other 3:_law_words -/
theorem sc_L_mirror_fits : FnScope ["_law_one", "_law_value", "_law_other", "_law_words"] ["_law_one", "_law_value"] (defScope s_L_mirror_fits) := ⟨rfl, rfl, rfl, by decide +kernel, rfl, by decide +kernel, by decide +kernel⟩
/- _law_form_fits: 0:_law_one 1:_law_values 2:_law_found 3:_law_modes 4:_law_most 5:_law_value -/
theorem sc_L_form_fits : FnScope ["_law_one", "_law_values", "_law_found", "_law_modes", "_law_most", "_law_value"] ["_law_one", "_law_values"] (defScope s_L_form_fits) := ⟨rfl, rfl, rfl, by decide +kernel, rfl, by decide +kernel, by decide +kernel⟩
/- _law_first_mode: 0:_law_one 1:_law_mode 2:_law_value 3:_law_same -/
theorem sc_L_first_mode : FnScope ["_law_one", "_law_mode", "_law_value", "_law_same"] ["_law_one"] (defScope s_L_first_mode) := ⟨rfl, rfl, rfl, by decide +kernel, rfl, by decide +kernel, by decide +kernel⟩
/- _law_small_fits: 0:_law_source_here 1:_law_step 2:_law_modes 3:_law_one 4:_law_other 5:_law_value 6:_law_alike -/
theorem sc_L_small_fits : FnScope ["_law_source_here", "_law_step", "_law_modes", "_law_one", "_law_other", "_law_value", "_law_alike"] ["_law_source_here"] (defScope s_L_small_fits) := ⟨rfl, rfl, rfl, by decide +kernel, rfl, by decide +kernel, by decide +kernel⟩
/- law: 0:_law_script 1:_law_source_here 2:_law_turn 3:_law_one 4:_law_value 5:_law_near 6:_law_values 7:_law_more 8:_law_less -/
theorem sc_law : FnScope ["_law_script", "_law_source_here", "_law_turn", "_law_one", "_law_value", "_law_near", "_law_values", "_law_more", "_law_less"] ["_law_script"] (defScope s_law) := ⟨rfl, rfl, rfl, by decide +kernel, rfl, by decide +kernel, by decide +kernel⟩

end HT
namespace L2
open PySem PySem.Spec PyProof.Rows
/-- powers of great numbers -/
def CPowW (i j : Int) : Prop := 0 ≤ j ∧ (Builtin.Int.intBits i : Int) * j ≤ 2 ^ 27
theorem op_powW {X : Cx} : OpR X (binaryOp .Pow) (rI CPowW fun i j => .int (i ^ j.toNat)) := opI fun _ _ _ _ _ _ _ hc q => pow_int hc.1 hc.2 q
end L2
namespace HT
open PySem L2
/-- the law's source of draws: a list of its cells' list and the turn -/
structure Src (H : Hp) (a c : Addr) (t : Nat) : Prop where
  ne : a ≠ c
  ob : H a = some (.lst [.ref c, .int (t : Int)])
  cl : ∃ cs : List Int, H c = some (.lst (cs.map V.int)) ∧ 0 < cs.length ∧ cs.length ≤ 63
/-- nothing else is touched -/
def Oth (a c : Addr) (H H' : Hp) : Prop := ∀ b o, H b = some o → b ≠ a → b ≠ c → H' b = some o
theorem Oth.refl (a c : Addr) (H : Hp) : Oth a c H H := fun _ _ h _ _ => h
theorem Oth.trans {a c : Addr} {H H1 H2 : Hp} (x : Oth a c H H1) (y : Oth a c H1 H2) : Oth a c H H2 := fun b o h n m => y b o (x b o h n m) n m
theorem Oth.new {a c p : Addr} {H H1 : Hp} {o : HO} (x : Oth a c H H1) (n : H1 p = none) : Oth a c H (upd H1 p o) := fun b u h na nc => by
  rw [upd_ne (ne_of_none (x b u h na nc) n)]
  exact x b u h na nc
theorem Src.new {a c p : Addr} {H : Hp} {t : Nat} {o : HO} (S : Src H a c t) (n : H p = none) : Src (upd H p o) a c t := by
  obtain ⟨cs, h, l⟩ := S.cl
  exact ⟨S.ne, by rw [upd_ne (ne_of_none S.ob n)]; exact S.ob, cs, by rw [upd_ne (ne_of_none h n)]; exact h, l⟩
theorem Src.of_same {a c : Addr} {H H' : Hp} {t : Nat} (S : Src H a c t) (e : Same H H') : Src H' a c t := by
  obtain ⟨cs, h, l⟩ := S.cl
  exact ⟨S.ne, e _ _ S.ob, cs, e _ _ h, l⟩
theorem Src.na {a c p : Addr} {H : Hp} {t : Nat} (S : Src H a c t) (n : H p = none) : p ≠ a ∧ p ≠ c := by
  obtain ⟨cs, h, l⟩ := S.cl
  exact ⟨(ne_of_none S.ob n).symm, (ne_of_none h n).symm⟩
theorem Src.nt {a c p : Addr} {H : Hp} {t : Nat} {xs : List V} (S : Src H a c t) (n : H p = some (.tup xs)) : p ≠ a ∧ p ≠ c := by
  obtain ⟨cs, h, l⟩ := S.cl
  exact ⟨ne_of n S.ob (by intro z; cases z), ne_of n h (by intro z; cases z)⟩
def spSource (K : PySem.W.Frag) : Sp := fun vs H Q _ => ∃ (l : Addr) (ns : List Int), vs = [.ref l] ∧ SqL K H l (ns.map V.int) ∧ ns.length ≤ 63 ∧
  ∀ a c H', Same H H' → H a = none → H c = none → Src H' a c 0 → Q (.ref a) H'
def spDraw : Sp := fun vs H Q _ => ∃ (a c : Addr) (t : Nat) (lim : Int), vs = [.ref a, .int lim] ∧ Src H a c t ∧ t < 2 ^ 30 ∧ 0 < lim ∧ lim.natAbs.log2 < 9000 ∧
  ∀ k H', 0 ≤ k → k < lim → Src H' a c (t + 1) → Oth a c H H' → Q (.int k) H'
/-- what the walk asks of the names that the text does not bind -/
structure Blt (mg : Str → Option Value) : Prop where
  len : mg "len" = none
  abs : mg "abs" = none
  int : mg "int" = none
  range : mg "range" = none
section
variable {P : Program} {w : World} {K : PySem.W.Frag} {mg : Str → Option Value} {base : Heap}
theorem fdiv_ok (i : Int) {j : Int} (h : 0 < j) (h9 : j.natAbs.log2 < 9000) : CDivW i j := ⟨h, h9⟩
theorem atI_in {xs : List Int} {i : Int} (h0 : 0 ≤ i) (h : i < (xs.length : Int)) : atI (xs.map V.int) i = some (.int (xs.getD i.toNat 0)) := by
  have e : ixN (xs.map V.int).length i = some i.toNat := by
    unfold ixN
    rw [List.length_map, if_pos h0, if_pos h]
  unfold atI
  rw [e]
  show (xs.map V.int)[i.toNat]? = _
  have hl : i.toNat < xs.length := by omega
  rw [List.getElem?_map, List.getElem?_eq_getElem hl, List.getD_eq_getElem?_getD, List.getElem?_eq_getElem hl]
  rfl
theorem ixN_in {n : Nat} {i : Int} (h0 : 0 ≤ i) (h : i < (n : Int)) : ixN n i = some i.toNat := by
  unfold ixN
  rw [if_pos h0, if_pos h]
theorem b_mod (x : Int) : -(2 ^ 64) < x % 2147483629 ∧ x % 2147483629 < 2 ^ 64 := by omega
theorem b_mod1 (x : Int) : -(2 ^ 64) < x % 2147483647 ∧ x % 2147483647 < 2 ^ 64 := by omega
theorem b_t {t : Nat} (h : t < 2 ^ 30) : -(2 ^ 64) < (t : Int) ∧ (t : Int) < 2 ^ 64 := by omega
theorem b_tt {t : Nat} (h : t < 2 ^ 30) : -(2 ^ 64) < (t : Int) * t ∧ (t : Int) * t < 2 ^ 64 := by
  have h1 : t * t < 2 ^ 30 * 2 ^ 30 := Nat.mul_lt_mul'' h h
  have h2 : ((t * t : Nat) : Int) = (t : Int) * t := Int.natCast_mul t t
  omega
theorem set_ints (xs : List Int) (j : Nat) (y : Int) : (xs.map V.int).set j (.int y) = (xs.set j y).map V.int := by
  rw [List.map_set]
theorem ok_draw {f : Addr} {fd : FuncData} (F : Fun K "_law_draw" "_law_draw" s_L_draw f fd) (B : Blt mg) : FnOk P w K mg base CX0 1 f fd ["_law_source_here", "_law_limit"] spDraw := by
  refine F.ok sc_L_draw (fun vs H Q E h => ?_) (fun cdv A outer s H vs Q E hr h => ?_)
  · obtain ⟨a, c, t, lim, rfl, _⟩ := h
    rfl
  · obtain ⟨a, c, t, lim, rfl, S, ht, hl0, hl9, q⟩ := h
    obtain ⟨cs, hc, hn0, hn⟩ := S.cl
    have nd := sc_L_draw.nd
    refine ⟨_, pss_cons (ps_asg (pv 0) (pg_unl (n := 2) (by rfl) (pgs_cons (pg_name (i := 2) nd rfl (Or.inl rfl)) (pgs_cons (pg_name (i := 3) nd rfl (Or.inl rfl)) pgs_nil))))
      (pss_cons (ps_set (i := 4) nd rfl (Or.inl rfl) (pe_op op_mod (pe_callTy call_int1 (by rfl) B.int (by decide +kernel) (pa_cons (pv 3) pa_nil)) (pe_callB call_len_seq (by rfl) B.len PySem.boot_len (pa_cons (pv 2) pa_nil))))
      (pss_cons (ps_set (i := 5) nd rfl (Or.inl rfl) (pe_ix ix_list (pv 2) (pv 4) (fun _ _ => rfl)))
      (pss_cons (ps_asg (pe_op op_add (pv 3) pe_int) (pg_sub (pv 0) pe_int set_list))
      (pss_cons (ps_if (pt_cmpR op_ge (pv 5) (pe_op op_pow pe_int pe_int) (nomark _))
        (pss_cons (ps_asg (pe_op op_fdivW (pv 5) (pv 1)) (pg_sub (pv 2) (pv 4) set_list))
          (pss_one (ps_ret (pe_op op_mod (pe_callTy call_int1 (by rfl) B.int (by decide +kernel) (pa_cons (pv 5) pa_nil)) (pv 1))))) pss_nil)
      (pss_cons (ps_set (i := 6) nd rfl (Or.inl rfl) (pe_op op_mod (pe_callTy call_int1 (by rfl) B.int (by decide +kernel) (pa_cons
          (pe_op op_add (pe_op op_add (pe_op op_mul (pe_op op_mod (pe_callTy call_int1 (by rfl) B.int (by decide +kernel) (pa_cons (pv 5) pa_nil)) pe_int) pe_int) (pe_op op_mul (pe_op op_mul (pv 3) (pv 3)) pe_int)) pe_int) pa_nil)) pe_int))
      (pss_cons (ps_set (i := 6) nd rfl (Or.inl rfl) (pe_op op_mod (pe_callTy call_int1 (by rfl) B.int (by decide +kernel) (pa_cons (pe_op op_mul (pv 6) (pv 6)) pa_nil)) pe_int))
      (pss_cons (ps_set (i := 6) nd rfl (Or.inl rfl) (pe_op op_mod (pe_callTy call_int1 (by rfl) B.int (by decide +kernel) (pa_cons (pe_op op_mul (pv 6) (pv 6)) pa_nil)) pe_int))
      (pss_one (ps_ret (pe_op op_mod (pe_callTy call_int1 (by rfl) B.int (by decide +kernel) (pa_cons (pv 6) pa_nil)) (pv 1))))))))))), ?_⟩
    -- _law_cells, _law_turn = _law_source_here
    walk_at "rd"
    refine ⟨a, _, rfl, SqL.of S.ob, rfl, _, _, rfl, _, _, rfl, rfl, ?_⟩
    -- _law_place
    walk_at "rd"
    have hn0' : (0 : Int) < ((cs.map V.int).length : Nat) := by rw [List.length_map]; omega
    refine ⟨c, _, rfl, .inl (SqL.of hc), _, _, rfl, rfl, hn0', ?_⟩
    have hp0 : 0 ≤ (t : Int) % ((cs.map V.int).length : Nat) := Int.emod_nonneg _ (by omega)
    have hp1 : (t : Int) % ((cs.map V.int).length : Nat) < ((cs.map V.int).length : Nat) := Int.emod_lt_of_pos _ hn0'
    have hp1' : (t : Int) % ((cs.map V.int).length : Nat) < (cs.length : Int) := by rw [List.length_map] at hp1 ⊢; exact hp1
    -- _law_cell
    walk_at "rd"
    refine ⟨c, _, _, _, rfl, rfl, SqL.of hc, atI_in hp0 hp1', ?_⟩
    -- _law_source_here[1] = _law_turn + 1
    walk_at "rd"
    refine ⟨a, _, 1, 1, rfl, rfl, S.ob, rfl, ?_⟩
    have S1 : Src (upd H a (.lst ([V.ref c, V.int t].set 1 (.int ((t : Int) + 1))))) a c (t + 1) := ⟨S.ne, by rw [upd_same]; rfl, cs, by rw [upd_ne S.ne.symm]; exact hc, hn0, hn⟩
    have O1 : Oth a c H (upd H a (.lst ([V.ref c, V.int t].set 1 (.int ((t : Int) + 1))))) := fun b o h na _ => by rw [upd_ne na]; exact h
    have hc1 : upd H a (.lst ([V.ref c, V.int t].set 1 (.int ((t : Int) + 1)))) c = some (.lst (cs.map V.int)) := by rw [upd_ne S.ne.symm]; exact hc
    generalize upd H a (.lst ([V.ref c, V.int t].set 1 (.int ((t : Int) + 1)))) = H1 at S1 O1 hc1 ⊢
    -- if _law_cell >= 10 ** 18
    walk_at "rd"
    refine ⟨⟨by decide, by decide, by decide⟩, ?_⟩
    walk_at "rd"
    refine ite2 (fun _ => ?_) (fun _ => ?_)
    · walk_at "rd"
      refine ⟨fdiv_ok _ hl0 hl9, ?_⟩
      walk_at "rd"
      refine ⟨c, _, _, _, rfl, rfl, hc1, ixN_in hp0 hp1, ?_⟩
      walk_at "rd"
      refine ⟨hl0, ?_⟩
      rw [set_ints]
      refine q _ _ (Int.emod_nonneg _ (by omega)) (Int.emod_lt_of_pos _ hl0) ⟨S1.ne, by rw [upd_ne S1.ne]; exact S1.ob, _, upd_same, by rw [List.length_set]; exact hn0, by rw [List.length_set]; exact hn⟩ fun b o h na nc => ?_
      rw [upd_ne nc]
      exact O1 b o h na nc
    · walk_at "rd"
      refine ⟨(by show (0 : Int) < 2147483629; decide), ?_⟩
      walk_at "rd"
      refine ⟨.inl (b_mod _), ?_⟩
      walk_at "rd"
      refine ⟨.inl (b_t ht), ?_⟩
      walk_at "rd"
      refine ⟨.inl (b_tt ht), ?_⟩
      walk_at "rd"
      refine ⟨(by show (0 : Int) < 2147483647; decide), ?_⟩
      walk_at "rd"
      refine ⟨.inl (b_mod1 _), ?_⟩
      walk_at "rd"
      refine ⟨(by show (0 : Int) < 2147483629; decide), ?_⟩
      walk_at "rd"
      refine ⟨.inl (b_mod _), ?_⟩
      walk_at "rd"
      refine ⟨(by show (0 : Int) < 2147483587; decide), ?_⟩
      walk_at "rd"
      refine ⟨hl0, ?_⟩
      exact q _ _ (Int.emod_nonneg _ (by omega)) (Int.emod_lt_of_pos _ hl0) S1 O1
end
end HT
namespace HT
open PySem L2
/-- a def of the text that may be called by its name, and what it promises -/
structure Cal (P : Program) (w : World) (K : PySem.W.Frag) (mg : Str → Option Value) (base : Heap) (x : Str) (k : Nat) (ps : List Str) (sp : Sp) (f : Addr) (fd : FuncData) : Prop where
  ok : FnOk P w K mg base CX0 k f fd ps sp
  gl : mg x = some (.ref f)
  kp : PySem.W.keepIn K (.ref f) = true
  bd : Binds K fd ps []
theorem pcl {X : Cx} {x : Str} {k j : Nat} {ps : List Str} {sp : Sp} {f : Addr} {fd : FuncData} {e : Expr} {es : List Expr} {t : TA} {p pos : Pos} (C : Cal X.prog X.w X.K X.mg X.base x k ps sp f fd) (hr : Room j X.A) (hj : k ≤ j) (hg : Gl X x) (ha : PA X (e :: es) t)
    (hdb : (x == ("__debug__" : Str)) = false := by decide) (he : starEach (e :: es) X.env = (false, eval e X.env) :: starEach es X.env := by rfl) (hpl : (backTo pos (starEach es X.env)).any (·.1) = false := by rfl) : PE X (.Call (.Name x p) (e :: es) [] pos) (tCall sp [] E0 t) :=
  pe_call C.ok (hr.mono hj) hg C.gl C.kp C.bd .nil pass0 ha hdb he hpl
section
variable {P : Program} {w : World} {K : PySem.W.Frag} {mg : Str → Option Value} {base : Heap}
theorem cut63 {ns : List Int} (h : ns.length ≤ 63) : cutV (ns.map V.int) none (some 63) = ns.map V.int := by
  have e1 : HT.sIx (ns.map V.int).length 0 none = 0 := rfl
  have e2 : HT.sIx (ns.map V.int).length (ns.map V.int).length (some 63) = (ns.map V.int).length := by
    have := HT.sIx_nat (ns.map V.int).length (ns.map V.int).length 63
    rw [show ((63 : Nat) : Int) = 63 from rfl] at this
    rw [this, List.length_map]
    omega
  unfold cutV
  rw [e1, e2, List.drop_zero, Nat.sub_zero, List.take_length]
theorem dpInts (H : Hp) : ∀ ns : List Int, DpAll K H (ns.map V.int) (ns.map PyData.int)
  | [] => .nil
  | n :: r => .cons (.int n) (dpInts H r)
theorem pow_ok : CPowW ((10 : Int) ^ (60 : Int).toNat) 20 := ⟨by decide, by decide +kernel⟩
theorem pow_pos' : (0 : Int) < ((10 : Int) ^ (60 : Int).toNat) ^ (20 : Int).toNat := by decide +kernel
theorem ok_source {f : Addr} {fd : FuncData} (F : Fun K "_law_source" "_law_source" s_L_source f fd) (B : Blt mg) : FnOk P w K mg base CX0 1 f fd ["_law_script"] (spSource K) := by
  refine F.ok sc_L_source (fun vs H Q E h => ?_) (fun cdv A outer s H vs Q E hr h => ?_)
  · obtain ⟨l, ns, rfl, _⟩ := h
    rfl
  · obtain ⟨l, ns, rfl, hL, hn, q⟩ := h
    have nd := sc_L_source.nd
    refine ⟨_, pss_cons (ps_set (i := 1) nd rfl (Or.inl rfl) (pe_slice sl_list (pv 0) po_none (po_some pe_int)))
      (pss_cons (ps_for PassesOwn.never rfl (pi_range1 (by rfl) B.range (pa_cons (pe_callB call_len_seq (by rfl) B.len PySem.boot_len (pa_cons (pv 1) pa_nil)) pa_nil)) (pg_name (i := 2) nd rfl (Or.inl rfl))
        (pss_one (ps_if (pt_cmpR op_ge (pe_callB call_abs (by rfl) B.abs (by decide +kernel) (pa_cons (pe_ix ix_list (pv 1) (pv 2) (fun _ _ => rfl)) pa_nil)) (pe_op op_pow pe_int pe_int) (nomark _))
          (pss_one (ps_asg (pe_op op_mod (pe_callTy call_int1 (by rfl) B.int (by decide +kernel) (pa_cons (pe_ix ix_list (pv 1) (pv 2) (fun _ _ => rfl)) pa_nil)) (pe_op op_powW (pe_op op_pow pe_int pe_int) pe_int)) (pg_sub (pv 1) (pv 2) set_list))) pss_nil)))
      (pss_cons (ps_if (pt_cmpR (op_eqD hr.units) (pv 1) (pe_lst pa_nil) (nomark _)) (pss_one (ps_set (i := 1) nd rfl (Or.inl rfl) (pe_lst (pa_cons pe_int pa_nil)))) pss_nil)
      (pss_one (ps_ret (pe_lst (pa_cons (pv 1) (pa_cons pe_int pa_nil))))))), ?_⟩
    walk_at "rd"
    refine ⟨l, _, rfl, hL, fun p np => ?_⟩
    rw [cut63 hn]
    walk_at "rd"
    refine ⟨p, _, rfl, .inl (SqL.of upd_same), _, rfl, by omega, ?_, ?_⟩
    · show ((ns.map V.int).length : Int) < 2 ^ 62
      rw [List.length_map]
      omega
    have en : ((ns.map V.int).length : Int).toNat = ns.length := by rw [List.length_map]; omega
    rw [en]
    refine for_range (fun i σ H' => ∃ (cs : List Int) (kv : Option V), σ = [some (.ref l), some (.ref p), kv] ∧ H' p = some (.lst (cs.map V.int)) ∧ cs.length = ns.length ∧ Same H H') ⟨ns, none, rfl, upd_same, rfl, fun b o e => by rw [upd_ne (ne_of_none e np)]; exact e⟩ ?_ ?_
    · rintro i σ H' hi ⟨cs, kv, rfl, hp, hl, sm⟩
      have h0 : (0 : Int) ≤ 0 + (i : Int) := by omega
      have h1 : (0 : Int) + (i : Int) < (cs.length : Int) := by omega
      walk_at "rd"
      refine ⟨p, _, _, _, rfl, rfl, SqL.of hp, atI_in h0 h1, ?_⟩
      walk_at "rd"
      refine ⟨⟨by decide, by decide, by decide⟩, ?_⟩
      walk_at "rd"
      refine ite2 (fun _ => ?_) (fun _ => ?_)
      · walk_at "rd"
        refine ⟨p, _, _, _, rfl, rfl, SqL.of hp, atI_in h0 h1, ?_⟩
        walk_at "rd"
        refine ⟨⟨by decide, by decide, by decide⟩, ?_⟩
        walk_at "rd"
        refine ⟨pow_ok, ?_⟩
        walk_at "rd"
        refine ⟨pow_pos', ?_⟩
        walk_at "rd"
        refine ⟨p, _, _, _, rfl, rfl, hp, ixN_in h0 (by rw [List.length_map]; exact h1), ?_⟩
        rw [set_ints]
        exact ⟨_, _, rfl, upd_same, by rw [List.length_set]; exact hl, fun b o e => by rw [upd_ne (ne_of_none e np)]; exact sm b o e⟩
      · exact ⟨cs, _, rfl, hp, hl, sm⟩
    · rintro σ H' ⟨cs, kv, rfl, hp, hl, sm⟩
      walk_at "rd"
      refine ⟨by decide, fun e ne => ?_⟩
      have hpe : upd H' e (.lst []) p = some (.lst (cs.map V.int)) := by rw [upd_ne (ne_of_none hp ne)]; exact hp
      have sm1 : Same H (upd H' e (.lst [])) := fun b o z => by rw [upd_ne (ne_of_none (sm b o z) ne)]; exact sm b o z
      refine ⟨_, _, .lst (SqL.of hpe) (dpInts _ cs), .lst (SqL.of upd_same) .nil, PySem.W.ke_shaped_ints cs, by decide +kernel, ?_⟩
      walk_at "rd"
      have hb : PyData.eqv (.list (cs.map PyData.int)) (.list []) = decide (cs = []) := by
        have z := PySem.W.ked_eqvAll cs []
        rw [← z]
        rfl
      rw [hb]
      refine ite2 (fun _ => ?_) (fun hne => ?_)
      · walk_at "rd"
        refine ⟨by decide, fun c nc => ?_⟩
        walk_at "rd"
        refine ⟨(by show 2 ≤ sizeLine; decide), fun a na => ?_⟩
        have sm2 : Same H (upd (upd H' e (.lst [])) c (.lst [.int 0])) := fun b o z => by rw [upd_ne (ne_of_none (sm1 b o z) nc)]; exact sm1 b o z
        have nac : a ≠ c := (ne_of_none upd_same na).symm
        refine q a c _ (fun b o z => by rw [upd_ne (ne_of_none (sm2 b o z) na)]; exact sm2 b o z) (sm2.free na) (sm1.free nc) ⟨nac, upd_same, [0], by rw [upd_ne nac.symm]; exact upd_same, by decide, by decide⟩
      · walk_at "rd"
        refine ⟨(by show 2 ≤ sizeLine; decide), fun a na => ?_⟩
        have nap : a ≠ p := (ne_of_none hpe na).symm
        refine q a p _ (fun b o z => by rw [upd_ne (ne_of_none (sm1 b o z) na)]; exact sm1 b o z) (sm1.free na) np ⟨nap, upd_same, cs, by rw [upd_ne nap.symm]; exact hpe, ?_, by omega⟩
        have : cs ≠ [] := fun z => hne (decide_eq_true z)
        exact List.length_pos_iff.mpr this
end
end HT
namespace HT
open PySem L2
/-! ### pick, great, side -/
def spPick : Sp := fun vs H Q _ => ∃ (a c : Addr) (t : Nat) (l : Addr) (xs : List V), vs = [.ref a, .ref l] ∧ Src H a c t ∧ t < 2 ^ 30 ∧ H l = some (.lst xs) ∧ l ≠ a ∧ l ≠ c ∧ 0 < xs.length ∧ xs.length < 2 ^ 60 ∧
  ∀ x H', x ∈ xs → Src H' a c (t + 1) → Oth a c H H' → Q x H'
def spGreat : Sp := fun vs H Q _ => ∃ (a c : Addr) (t n : Nat), vs = [.ref a, .int (n : Int)] ∧ Src H a c t ∧ n ≤ 1000 ∧ t + n < 2 ^ 30 ∧
  ∀ k H', 0 ≤ k → k < 10 ^ n → Src H' a c (t + n) → Oth a c H H' → Q (.int k) H'
/-- the modes -/
def Mode (m : Str) : Prop := m = "down" ∨ m = "up" ∨ m = "half_down" ∨ m = "half_up" ∨ m = "half_even"
/-- a side's parts -/
structure SideP (o s : Int) (m : Str) : Prop where
  o0 : -10 ^ 40 ≤ o
  o1 : o ≤ 10 ^ 40
  s0 : 1 ≤ s
  s1 : s ≤ 10 ^ 30
  md : Mode m
def sideV (o s : Int) (m : Str) : HO := .tup [.int o, .int s, .str m]
def spSide : Sp := fun vs H Q _ => ∃ (a c : Addr) (t n : Nat), vs = [.ref a, .int (n : Int)] ∧ Src H a c t ∧ 1 ≤ n ∧ n ≤ 40 ∧ t + 200 < 2 ^ 30 ∧
  ∀ p o s m H' t', H p = none → H' p = some (sideV o s m) → SideP o s m → (-10 ^ n ≤ o ∧ o ≤ 10 ^ n) → t' ≤ t + 200 → Src H' a c t' → Oth a c H H' → Q (.ref p) H'
theorem lg_nat {n : Nat} (h : n < 2 ^ 200) : ((n : Int)).natAbs.log2 < 9000 := by
  rw [Int.natAbs_natCast]
  by_cases e : n = 0
  · rw [e]; decide
  · have := (Nat.log2_lt e).mpr h
    omega
theorem lg_small {n : Int} (h0 : 0 ≤ n) (h : n < 2 ^ 64) : n.natAbs.log2 < 9000 := by
  obtain ⟨m, rfl⟩ := Int.eq_ofNat_of_zero_le h0
  exact lg_nat (Nat.lt_of_lt_of_le (by omega : m < 2 ^ 64) (Nat.pow_le_pow_right (by decide) (by decide)))
section
variable {P : Program} {w : World} {K : PySem.W.Frag} {mg : Str → Option Value} {base : Heap} {fD fP fG : Addr} {dD dP dG : FuncData}
theorem ok_pick {f : Addr} {fd : FuncData} (F : Fun K "_law_pick" "_law_pick" s_L_pick f fd) (B : Blt mg) (D : Cal P w K mg base "_law_draw" 1 ["_law_source_here", "_law_limit"] spDraw fD dD) :
    FnOk P w K mg base CX0 2 f fd ["_law_source_here", "_law_values"] spPick := by
  refine F.ok sc_L_pick (fun vs H Q E h => ?_) (fun cdv A outer s H vs Q E hr h => ?_)
  · obtain ⟨a, c, t, l, xs, rfl, _⟩ := h
    rfl
  · obtain ⟨a, c, t, l, xs, rfl, S, ht, hl, na, nc, h0, h1, q⟩ := h
    refine ⟨_, pss_one (ps_ret (pe_ix ix_list (pv 1) (pcl D hr (by decide) (by rfl) (pa_cons (pv 0) (pa_cons (pe_callB call_len_seq (by rfl) B.len PySem.boot_len (pa_cons (pv 1) pa_nil)) pa_nil))) (fun _ _ => rfl))), ?_⟩
    walk_at "rd"
    refine ⟨l, _, rfl, .inl (SqL.of hl), ?_⟩
    have p1 : (0 : Int) < (xs.length : Int) := by omega
    refine ⟨a, c, t, _, rfl, S, ht, p1, lg_nat (Nat.lt_of_lt_of_le h1 (Nat.pow_le_pow_right (by decide) (by decide))), fun k H' k0 k1 S' O => ?_⟩
    have hl' : k.toNat < xs.length := by omega
    have e : atI xs k = some xs[k.toNat] := by
      unfold atI
      rw [ixN_in k0 k1]
      exact List.getElem?_eq_getElem hl'
    refine ⟨l, _, _, _, rfl, rfl, SqL.of (O _ _ hl na nc), e, ?_⟩
    exact q _ _ (List.getElem_mem hl') S' O
theorem ok_great {f : Addr} {fd : FuncData} (F : Fun K "_law_great" "_law_great" s_L_great f fd) (B : Blt mg) (D : Cal P w K mg base "_law_draw" 1 ["_law_source_here", "_law_limit"] spDraw fD dD) :
    FnOk P w K mg base CX0 2 f fd ["_law_source_here", "_law_digits"] spGreat := by
  refine F.ok sc_L_great (fun vs H Q E h => ?_) (fun cdv A outer s H vs Q E hr h => ?_)
  · obtain ⟨a, c, t, n, rfl, _⟩ := h
    rfl
  · obtain ⟨a, c, t, n, rfl, S, hn, ht, q⟩ := h
    have nd := sc_L_great.nd
    refine ⟨_, pss_cons (ps_set (i := 2) nd rfl (Or.inl rfl) pe_int)
      (pss_cons (ps_for PassesOwn.never rfl (pi_range1 (by rfl) B.range (pa_cons (pv 1) pa_nil)) (pg_name (i := 3) nd rfl (Or.inl rfl))
        (pss_one (ps_set (i := 2) nd rfl (Or.inl rfl) (pe_op op_add (pe_op op_mul (pv 2) pe_int) (pcl D hr (by decide) (by rfl) (pa_cons (pv 0) (pa_cons pe_int pa_nil)))))))
      (pss_one (ps_ret (pv 2)))), ?_⟩
    walk_at "rd"
    refine ⟨by omega, by omega, ?_⟩
    rw [Int.toNat_natCast]
    refine for_range (fun i σ H' => ∃ (k : Int) (kv : Option V), σ = [some (.ref a), some (.int (n : Int)), some (.int k), kv] ∧ 0 ≤ k ∧ k < 10 ^ i ∧ Src H' a c (t + i) ∧ Oth a c H H') ⟨0, none, rfl, by decide, by decide, S, Oth.refl _ _ _⟩ ?_ ?_
    · rintro i σ H' hi ⟨k, kv, rfl, k0, k1, S', O⟩
      walk_at "rd"
      refine ⟨.inr ⟨by decide, by decide⟩, ?_⟩
      walk_at "rd"
      refine ⟨a, c, t + i, _, rfl, S', by omega, (by show (0 : Int) < 10; decide), (by show (10 : Int).natAbs.log2 < 9000; decide), fun y H2 y0 y1 S2 O2 => ?_⟩
      walk_at "rd"
      have y1' : y < 10 := y1
      refine ⟨_, _, rfl, (by show 0 ≤ k * 10 + y; omega), (by show k * 10 + y < 10 ^ (i + 1); rw [Int.pow_succ]; omega), S2, O.trans O2⟩
    · rintro σ H' ⟨k, kv, rfl, k0, k1, S', O⟩
      walk_at "rd"
      exact q _ _ k0 k1 S' O
theorem pow10_le {n : Nat} (h : n ≤ 40) : (10 : Int) ^ n ≤ 10 ^ 40 := by
  have : (10 : Nat) ^ n ≤ 10 ^ 40 := Nat.pow_le_pow_right (by decide) h
  exact_mod_cast this
theorem pow10_mono {a b : Nat} (h : a ≤ b) : (10 : Int) ^ a ≤ 10 ^ b := by
  have : (10 : Nat) ^ a ≤ 10 ^ b := Nat.pow_le_pow_right (by decide) h
  exact_mod_cast this
theorem mode_of {x : V} (h : x ∈ [V.str "down", .str "up", .str "half_down", .str "half_up", .str "half_even"]) : ∃ m : Str, x = .str m ∧ Mode m := by
  simp only [List.mem_cons, List.not_mem_nil, or_false] at h
  rcases h with h | h | h | h | h
  · exact ⟨_, h, .inl rfl⟩
  · exact ⟨_, h, .inr (.inl rfl)⟩
  · exact ⟨_, h, .inr (.inr (.inl rfl))⟩
  · exact ⟨_, h, .inr (.inr (.inr (.inl rfl)))⟩
  · exact ⟨_, h, .inr (.inr (.inr (.inr rfl)))⟩
theorem sgn_of {x : V} (h : x ∈ [V.int 1, .int (-1), .int 0]) : ∃ j : Int, x = .int j ∧ (j = 1 ∨ j = -1 ∨ j = 0) := by
  simp only [List.mem_cons, List.not_mem_nil, or_false] at h
  rcases h with h | h | h
  · exact ⟨_, h, .inl rfl⟩
  · exact ⟨_, h, .inr (.inl rfl)⟩
  · exact ⟨_, h, .inr (.inr rfl)⟩
theorem ok_side {f : Addr} {fd : FuncData} (F : Fun K "_law_side" "_law_side" s_L_side f fd) (B : Blt mg) (D : Cal P w K mg base "_law_draw" 1 ["_law_source_here", "_law_limit"] spDraw fD dD)
    (Pk : Cal P w K mg base "_law_pick" 2 ["_law_source_here", "_law_values"] spPick fP dP) (G : Cal P w K mg base "_law_great" 2 ["_law_source_here", "_law_digits"] spGreat fG dG) :
    FnOk P w K mg base CX0 3 f fd ["_law_source_here", "_law_digits"] spSide := by
  refine F.ok sc_L_side (fun vs H Q E h => ?_) (fun cdv A outer s H vs Q E hr h => ?_)
  · obtain ⟨a, c, t, n, rfl, _⟩ := h
    rfl
  · obtain ⟨a, c, t, n, rfl, S, hn0, hn, ht, q⟩ := h
    have nd := sc_L_side.nd
    refine ⟨_, pss_cons (ps_set (i := 2) nd rfl (Or.inl rfl) (pe_op op_add pe_int (pe_op op_mod (pcl G hr (by decide) (by rfl) (pa_cons (pv 0) (pa_cons (pe_op op_add pe_int (pcl D hr (by decide) (by rfl) (pa_cons (pv 0) (pa_cons (pv 1) pa_nil)))) pa_nil))) (pe_op op_pow pe_int pe_int))))
      (pss_cons (ps_if (pt_cmpR op_eq (pcl D hr (by decide) (by rfl) (pa_cons (pv 0) (pa_cons pe_int pa_nil))) pe_int (nomark _))
        (pss_one (ps_set (i := 2) nd rfl (Or.inl rfl) (pe_op op_add pe_int (pcl D hr (by decide) (by rfl) (pa_cons (pv 0) (pa_cons pe_int pa_nil)))))) pss_nil)
      (pss_cons (ps_set (i := 3) nd rfl (Or.inl rfl) (pe_op op_mul (pcl G hr (by decide) (by rfl) (pa_cons (pv 0) (pa_cons (pe_op op_add pe_int (pcl D hr (by decide) (by rfl) (pa_cons (pv 0) (pa_cons (pv 1) pa_nil)))) pa_nil)))
        (pcl Pk hr (by decide) (by rfl) (pa_cons (pv 0) (pa_cons (pe_lst (pa_cons pe_int (pa_cons (pe_un un_neg pe_int) (pa_cons pe_int pa_nil)))) pa_nil)))))
      (pss_one (ps_ret (pe_tup (pa_cons (pv 3) (pa_cons (pv 2) (pa_cons (pcl Pk hr (by decide) (by rfl) (pa_cons (pv 0) (pa_cons (pe_lst (pa_cons pe_str (pa_cons pe_str (pa_cons pe_str (pa_cons pe_str (pa_cons pe_str pa_nil)))))) pa_nil))) pa_nil)))))))), ?_⟩
    have nl0 : (0 : Int) < (n : Int) := by omega
    have nl9 : ((n : Int)).natAbs.log2 < 9000 := lg_nat (Nat.lt_of_lt_of_le (by omega : n < 2 ^ 64) (Nat.pow_le_pow_right (by decide) (by decide)))
    -- step
    walk_at "rd"
    refine ⟨a, c, t, _, rfl, S, by omega, nl0, nl9, fun k1 H1 k10 k11 S1 O1 => ?_⟩
    obtain ⟨m1, rfl⟩ := Int.eq_ofNat_of_zero_le k10
    walk_at "rd"
    have g1 : (1 : Int) + (m1 : Int) = ((m1 + 1 : Nat) : Int) := by omega
    refine ⟨a, c, t + 1, m1 + 1, (by show [V.ref a, V.int (1 + (m1 : Int))] = _; rw [g1]), S1, by omega, by omega, fun k2 H2 k20 k21 S2 O2 => ?_⟩
    walk_at "rd"
    refine ⟨⟨by decide, by decide, by decide⟩, ?_⟩
    walk_at "rd"
    refine ⟨(by show (0 : Int) < 10 ^ (30 : Int).toNat; decide), ?_⟩
    walk_at "rd"
    have st0 : (1 : Int) ≤ 1 + k2 % 10 ^ (30 : Int).toNat := by
      have := Int.emod_nonneg k2 (show (10 : Int) ^ (30 : Int).toNat ≠ 0 by decide)
      omega
    have st1 : 1 + k2 % (10 : Int) ^ (30 : Int).toNat ≤ 10 ^ 30 := by
      have := Int.emod_lt_of_pos k2 (show (0 : Int) < 10 ^ (30 : Int).toNat by decide)
      have e : (10 : Int) ^ (30 : Int).toNat = 10 ^ 30 := by decide
      omega
    refine ⟨a, c, t + 1 + (m1 + 1), _, rfl, S2, by omega, (by show (0 : Int) < 3; decide), (by show (3 : Int).natAbs.log2 < 9000; decide), fun k3 H3 k30 k31 S3 O3 => ?_⟩
    walk_at "rd"
    have O13 : Oth a c H H3 := (O1.trans O2).trans O3
    refine ⟨rfl, ?_⟩
    walk_at "rd"
    refine ite2 (fun _ => ?A) (fun _ => ?B)
    case' A =>
      walk_at "rd"
      refine ⟨a, c, _, _, rfl, S3, by omega, (by show (0 : Int) < 12; decide), (by show (12 : Int).natAbs.log2 < 9000; decide), fun k4 H4 k40 k41 S4 O4 => ?_⟩
      walk_at "rd"
      have k41' : k4 < 12 := k41
      have hs0 : 1 ≤ 1 + k4 := by omega
      have hs1 : 1 + k4 ≤ 10 ^ 30 := by omega
      obtain ⟨t5, ht5, S5⟩ : ∃ t5, t5 ≤ t + 100 ∧ Src H4 a c t5 := ⟨_, (by omega), S4⟩
      have O5 := O13.trans O4
    case' B =>
      have hs0 := st0
      have hs1 := st1
      obtain ⟨t5, ht5, S5⟩ : ∃ t5, t5 ≤ t + 100 ∧ Src H3 a c t5 := ⟨_, (by omega), S3⟩
      have O5 := O13
    all_goals
      walk_at "rd"
      refine ⟨a, c, t5, _, rfl, S5, by omega, nl0, nl9, fun k6 H6 k60 k61 S6 O6 => ?_⟩
      obtain ⟨m6, rfl⟩ := Int.eq_ofNat_of_zero_le k60
      walk_at "rd"
      have g6 : (1 : Int) + (m6 : Int) = ((m6 + 1 : Nat) : Int) := by omega
      refine ⟨a, c, t5 + 1, m6 + 1, (by show [V.ref a, V.int (1 + (m6 : Int))] = _; rw [g6]), S6, by omega, by omega, fun k7 H7 k70 k71 S7 O7 => ?_⟩
      walk_at "rd"
      refine ⟨(by show 3 ≤ sizeLine; decide), fun l nl => ?_⟩
      obtain ⟨la, lc⟩ := S7.na nl
      refine ⟨a, c, _, l, _, rfl, S7.new nl, by omega, upd_same, la, lc, by decide, by decide, fun x H8 hx S8 O8 => ?_⟩
      obtain ⟨j, rfl, hj⟩ := sgn_of hx
      walk_at "rd"
      refine ⟨.inr (by rcases hj with e | e | e <;> subst e <;> exact ⟨by decide, by decide⟩), ?_⟩
      have z7 : k7 < 10 ^ 40 := Int.lt_of_lt_of_le k71 (pow10_le (by omega))
      have of0 : -10 ^ 40 ≤ k7 * j := by rcases hj with e | e | e <;> subst e <;> omega
      have of1 : k7 * j ≤ 10 ^ 40 := by rcases hj with e | e | e <;> subst e <;> omega
      have O8' : Oth a c H H8 := (((O5.trans O6).trans O7).new nl).trans O8
      walk_at "rd"
      refine ⟨(by show 5 ≤ sizeLine; decide), fun l2 nl2 => ?_⟩
      obtain ⟨la2, lc2⟩ := S8.na nl2
      refine ⟨a, c, _, l2, _, rfl, S8.new nl2, by omega, upd_same, la2, lc2, by decide, by decide, fun x2 H9 hx2 S9 O9 => ?_⟩
      obtain ⟨md, rfl, hmd⟩ := mode_of hx2
      refine ⟨(by show 3 ≤ sizeLine; decide), fun p np => ?_⟩
      have O9' : Oth a c H H9 := (O8'.new nl2).trans O9
      have npH : H p = none := by
        cases e : H p with
        | none => rfl
        | some o =>
          by_cases ea : p = a
          · subst ea
            rw [S9.ob] at np
            cases np
          · by_cases ec : p = c
            · subst ec
              obtain ⟨cs, z, _⟩ := S9.cl
              rw [z] at np
              cases np
            · have z := O9' p o e ea ec
              rw [np] at z
              cases z
      have zn : k7 < 10 ^ n := Int.lt_of_lt_of_le k71 (pow10_mono (by omega))
      have on0 : -10 ^ n ≤ k7 * j := by rcases hj with e | e | e <;> subst e <;> omega
      have on1 : k7 * j ≤ 10 ^ n := by rcases hj with e | e | e <;> subst e <;> omega
      refine q p _ _ md _ _ npH upd_same ⟨of0, of1, hs0, hs1, hmd⟩ ⟨on0, on1⟩ ?_ (S9.new np) (O9'.new np)
      omega
end
end HT
namespace HT
open PySem L2
/-! ### the mathematics of a side -/
def goesUp (m : Str) (s q r : Int) : Bool := if m = "down" then false else if m = "up" then decide (0 < r) else if 2 * r = s then (if m = "half_even" then decide (q % 2 = 1) else decide (m = "half_up")) else decide (s < 2 * r)
/-- the figure to which v comes -/
def figM (o s : Int) (m : Str) (v : Int) : Int := if goesUp m s ((v - o) / s) ((v - o) % s) = true then (v - o) / s + 1 else (v - o) / s
def dueM (o s : Int) (m : Str) (v : Int) : Int := o + s * figM o s m v
theorem d_u : ¬ (("up" : Str) = "down") := by decide +kernel
theorem hd_d : ¬ (("half_down" : Str) = "down") := by decide +kernel
theorem hd_u : ¬ (("half_down" : Str) = "up") := by decide +kernel
theorem hu_d : ¬ (("half_up" : Str) = "down") := by decide +kernel
theorem hu_u : ¬ (("half_up" : Str) = "up") := by decide +kernel
theorem he_d : ¬ (("half_even" : Str) = "down") := by decide +kernel
theorem he_u : ¬ (("half_even" : Str) = "up") := by decide +kernel
theorem hd_e : ¬ (("half_down" : Str) = "half_even") := by decide +kernel
theorem hu_e : ¬ (("half_up" : Str) = "half_even") := by decide +kernel
theorem hd_hu : ¬ (("half_down" : Str) = "half_up") := by decide +kernel
theorem he_hu : ¬ (("half_even" : Str) = "half_up") := by decide +kernel
theorem u_hd : ¬ (("up" : Str) = "half_down") := by decide +kernel
theorem hu_hd : ¬ (("half_up" : Str) = "half_down") := by decide +kernel
theorem he_hd : ¬ (("half_even" : Str) = "half_down") := by decide +kernel
theorem go_down (s q r : Int) : goesUp "down" s q r = false := by unfold goesUp; rw [if_pos rfl]
theorem go_up (s q r : Int) : goesUp "up" s q r = decide (0 < r) := by unfold goesUp; rw [if_neg d_u, if_pos rfl]
theorem go_hd (s q r : Int) : goesUp "half_down" s q r = decide (s < 2 * r) := by
  unfold goesUp
  rw [if_neg hd_d, if_neg hd_u, if_neg hd_e, decide_eq_false hd_hu]
  by_cases h : 2 * r = s
  · rw [if_pos h, decide_eq_false (by omega)]
  · rw [if_neg h]
theorem go_hu (s q r : Int) : goesUp "half_up" s q r = decide (s ≤ 2 * r) := by
  unfold goesUp
  rw [if_neg hu_d, if_neg hu_u, if_neg hu_e, decide_eq_true rfl]
  by_cases h : 2 * r = s
  · rw [if_pos h, decide_eq_true (by omega)]
  · rw [if_neg h]
    by_cases g : s < 2 * r
    · rw [decide_eq_true g, decide_eq_true (by omega)]
    · rw [decide_eq_false g, decide_eq_false (by omega)]
theorem go_he (s q r : Int) : goesUp "half_even" s q r = (decide (s < 2 * r) || (decide (2 * r = s) && decide (q % 2 = 1))) := by
  unfold goesUp
  rw [if_neg he_d, if_neg he_u, if_pos rfl]
  by_cases h : 2 * r = s
  · rw [if_pos h, decide_eq_false (show ¬ s < 2 * r by omega), decide_eq_true h]
    rfl
  · rw [if_neg h, decide_eq_false h]
    simp
/-- what is known of a figure -/
structure Fig (o s : Int) (m : Str) (v q r k : Int) : Prop where
  eq : v - o = s * q + r
  r0 : 0 ≤ r
  r1 : r < s
  wh : (goesUp m s q r = true ∧ k = q + 1) ∨ (goesUp m s q r = false ∧ k = q)
theorem fig_of {o s : Int} {m : Str} {v : Int} (hs : 1 ≤ s) : Fig o s m v ((v - o) / s) ((v - o) % s) (figM o s m v) := by
  refine ⟨?_, Int.emod_nonneg _ (by omega), Int.emod_lt_of_pos _ (by omega), ?_⟩
  · have := Int.mul_ediv_add_emod (v - o) s
    omega
  · unfold figM
    cases h : goesUp m s ((v - o) / s) ((v - o) % s)
    · exact .inr ⟨rfl, by simp⟩
    · exact .inl ⟨rfl, by simp⟩
theorem divmod_eq {s q r x : Int} (hs : 1 ≤ s) (h : x = s * q + r) (r0 : 0 ≤ r) (r1 : r < s) : x / s = q ∧ x % s = r := by
  subst h
  constructor
  · rw [Int.add_comm, Int.add_mul_ediv_left _ _ (by omega), Int.ediv_eq_zero_of_lt r0 r1]
    omega
  · rw [Int.add_comm, Int.add_mul_emod_self_left]
    exact Int.emod_eq_of_lt r0 r1
theorem fig_uniq {o s : Int} {m : Str} {v q r k : Int} (hs : 1 ≤ s) (F : Fig o s m v q r k) : figM o s m v = k := by
  obtain ⟨e1, e2⟩ := divmod_eq hs F.eq F.r0 F.r1
  unfold figM
  rw [e1, e2]
  rcases F.wh with ⟨h, e⟩ | ⟨h, e⟩
  · rw [h, if_pos rfl, e]
  · rw [h, if_neg (by decide), e]
/-- going up wants a rest, and not going up a small one -/
theorem go_pos {m : Str} {s q r : Int} (hm : Mode m) (hs : 1 ≤ s) (r0 : 0 ≤ r) (h : goesUp m s q r = true) : 0 < r := by
  rcases hm with e | e | e | e | e <;> subst e
  · rw [go_down] at h; cases h
  · rw [go_up] at h; exact of_decide_eq_true h
  · rw [go_hd] at h; have := of_decide_eq_true h; omega
  · rw [go_hu] at h; have := of_decide_eq_true h; omega
  · rw [go_he, Bool.or_eq_true, Bool.and_eq_true] at h
    rcases h with h | ⟨h, _⟩ <;> have := of_decide_eq_true h <;> omega
theorem due_near {o s : Int} {m : Str} {v : Int} (hm : Mode m) (hs : 1 ≤ s) : dueM o s m v - v < s ∧ v - dueM o s m v < s := by
  have F := fig_of (o := o) (m := m) (v := v) hs
  unfold dueM
  generalize (v - o) / s = q at F
  generalize (v - o) % s = r at F
  obtain ⟨eq, r0, r1, wh⟩ := F
  rcases wh with ⟨h, e⟩ | ⟨h, e⟩
  · have := go_pos hm hs r0 h
    rw [e, Int.mul_add, Int.mul_one]
    generalize s * q = z at eq ⊢
    omega
  · rw [e]
    generalize s * q = z at eq ⊢
    omega
def half (m : Str) : Prop := m = "half_down" ∨ m = "half_up" ∨ m = "half_even"
theorem due_half {o s : Int} {m : Str} {v : Int} (hm : half m) (hs : 1 ≤ s) : 2 * (dueM o s m v - v) ≤ s ∧ 2 * (v - dueM o s m v) ≤ s := by
  have F := fig_of (o := o) (m := m) (v := v) hs
  unfold dueM
  generalize (v - o) / s = q at F
  generalize (v - o) % s = r at F
  obtain ⟨eq, r0, r1, wh⟩ := F
  have hb : (goesUp m s q r = true → s ≤ 2 * r) ∧ (goesUp m s q r = false → 2 * r ≤ s) := by
    rcases hm with e | e | e <;> subst e
    · rw [go_hd]; exact ⟨fun h => by have := of_decide_eq_true h; omega, fun h => by have := of_decide_eq_false h; omega⟩
    · rw [go_hu]; exact ⟨fun h => by have := of_decide_eq_true h; omega, fun h => by have := of_decide_eq_false h; omega⟩
    · rw [go_he]
      refine ⟨fun h => ?_, fun h => ?_⟩
      · rw [Bool.or_eq_true, Bool.and_eq_true] at h
        rcases h with h | ⟨h, _⟩ <;> have := of_decide_eq_true h <;> omega
      · rw [Bool.or_eq_false_iff] at h
        have := of_decide_eq_false h.1
        omega
  rcases wh with ⟨h, e⟩ | ⟨h, e⟩
  · have := hb.1 h
    rw [e, Int.mul_add, Int.mul_one]
    generalize s * q = z at eq ⊢
    omega
  · have := hb.2 h
    rw [e]
    generalize s * q = z at eq ⊢
    omega
theorem go_zero {m : Str} {s q : Int} (hm : Mode m) (hs : 1 ≤ s) : goesUp m s q 0 = false := by
  cases h : goesUp m s q 0 with
  | false => rfl
  | true => exact absurd (go_pos hm hs (Int.le_refl _) h) (by omega)
/-- what is written stands and is written as it is -/
theorem fig_at {o s k : Int} {m : Str} (hm : Mode m) (hs : 1 ≤ s) : figM o s m (o + s * k) = k :=
  fig_uniq (q := k) (r := 0) hs ⟨by omega, Int.le_refl _, by omega, .inr ⟨go_zero hm hs, rfl⟩⟩
theorem stands_at {o s k : Int} : (o + s * k - o) % s = 0 := by
  rw [show o + s * k - o = s * k by omega]
  exact Int.mul_emod_right s k
theorem due_eq {o s : Int} {m : Str} {v : Int} (hm : Mode m) (hs : 1 ≤ s) : (v - o) % s = 0 ↔ dueM o s m v = v := by
  have F := fig_of (o := o) (m := m) (v := v) hs
  unfold dueM
  generalize (v - o) / s = q at F
  generalize (v - o) % s = r at F ⊢
  obtain ⟨eq, r0, r1, wh⟩ := F
  rcases wh with ⟨h, e⟩ | ⟨h, e⟩
  · have := go_pos hm hs r0 h
    rw [e, Int.mul_add, Int.mul_one]
    generalize s * q = z at eq ⊢
    omega
  · rw [e]
    generalize s * q = z at eq ⊢
    omega
theorem go_mono {m : Str} {s q r : Int} (hm : Mode m) (h : goesUp m s q r = true) : goesUp m s q (r + 1) = true := by
  rcases hm with e | e | e | e | e <;> subst e
  · rw [go_down] at h; cases h
  · rw [go_up] at h ⊢; have := of_decide_eq_true h; exact decide_eq_true (by omega)
  · rw [go_hd] at h ⊢; have := of_decide_eq_true h; exact decide_eq_true (by omega)
  · rw [go_hu] at h ⊢; have := of_decide_eq_true h; exact decide_eq_true (by omega)
  · rw [go_he] at h ⊢
    have : s ≤ 2 * r := by
      rw [Bool.or_eq_true, Bool.and_eq_true] at h
      rcases h with h | ⟨h, _⟩ <;> have := of_decide_eq_true h <;> omega
    rw [decide_eq_true (show s < 2 * (r + 1) by omega)]
    rfl
theorem fig_mono {o s : Int} {m : Str} {v : Int} (hm : Mode m) (hs : 1 ≤ s) : figM o s m v ≤ figM o s m (v + 1) := by
  have F := fig_of (o := o) (m := m) (v := v) hs
  generalize (v - o) / s = q at F
  generalize (v - o) % s = r at F
  obtain ⟨eq, r0, r1, wh⟩ := F
  by_cases hr : r + 1 < s
  · cases g : goesUp m s q (r + 1) with
    | true =>
      rw [fig_uniq (v := v + 1) (q := q) (r := r + 1) (k := q + 1) hs ⟨by omega, by omega, hr, .inl ⟨g, rfl⟩⟩]
      rcases wh with ⟨_, e⟩ | ⟨_, e⟩ <;> omega
    | false =>
      rw [fig_uniq (v := v + 1) (q := q) (r := r + 1) (k := q) hs ⟨by omega, by omega, hr, .inr ⟨g, rfl⟩⟩]
      rcases wh with ⟨h, e⟩ | ⟨_, e⟩
      · rw [go_mono hm h] at g
        cases g
      · omega
  · rw [fig_uniq (v := v + 1) (q := q + 1) (r := 0) (k := q + 1) hs ⟨by rw [Int.mul_add, Int.mul_one]; omega, by omega, by omega, .inr ⟨go_zero hm hs, rfl⟩⟩]
    rcases wh with ⟨_, e⟩ | ⟨_, e⟩ <;> omega
theorem due_mono {o s : Int} {m : Str} {v : Int} (hm : Mode m) (hs : 1 ≤ s) : dueM o s m v ≤ dueM o s m (v + 1) := by
  unfold dueM
  have := Int.mul_le_mul_of_nonneg_left (fig_mono (o := o) (v := v) hm hs) (show 0 ≤ s by omega)
  omega
theorem go_two {m : Str} {s q r : Int} (hm : Mode m) : goesUp m s (q + 2) r = goesUp m s q r := by
  rcases hm with e | e | e | e | e <;> subst e
  · rw [go_down, go_down]
  · rw [go_up, go_up]
  · rw [go_hd, go_hd]
  · rw [go_hu, go_hu]
  · rw [go_he, go_he, show (q + 2) % 2 = q % 2 by omega]
theorem due_two {o s : Int} {m : Str} {v : Int} (hm : Mode m) (hs : 1 ≤ s) : dueM o s m (v + s * 2) = dueM o s m v + s * 2 := by
  have F := fig_of (o := o) (m := m) (v := v) hs
  unfold dueM
  generalize (v - o) / s = q at F
  generalize (v - o) % s = r at F
  obtain ⟨eq, r0, r1, wh⟩ := F
  rw [fig_uniq (v := v + s * 2) (q := q + 2) (r := r) (k := figM o s m v + 2) hs ⟨by rw [Int.mul_add]; omega, r0, r1, ?_⟩, Int.mul_add]
  · omega
  · rw [go_two hm]
    rcases wh with ⟨h, e⟩ | ⟨h, e⟩
    · exact .inl ⟨h, by omega⟩
    · exact .inr ⟨h, by omega⟩
/-! ### bounds -/
def Bd (x : Int) : Prop := -2 ^ 1000 < x ∧ x < 2 ^ 1000
theorem div_bd {x s b : Int} (hs : 1 ≤ s) (h0 : -b < x) (h1 : x < b) : -b < x / s ∧ x / s < b := by
  by_cases hx : 0 ≤ x
  · have a := Int.ediv_nonneg hx (show 0 ≤ s by omega)
    have c := Int.ediv_le_self s hx
    omega
  · have a : x ≤ x / s := by
      rw [Int.le_ediv_iff_mul_le (by omega)]
      have := Int.mul_le_mul_of_nonpos_left (show x ≤ 0 by omega) hs
      omega
    have c : x / s < 0 := Int.ediv_neg_of_neg_of_pos (by omega) (by omega)
    omega
end HT
namespace HT
open PySem L2
/-! ### spans -/
def below (m : Str) (s k : Int) : Int := if m = "down" then 0 else if m = "up" then s - 1 else if m = "half_up" ∨ (m = "half_even" ∧ k % 2 = 0) then s / 2 else (s - 1) / 2
def mir (m : Str) : Str := if m = "down" then "up" else if m = "up" then "down" else if m = "half_down" then "half_up" else if m = "half_up" then "half_down" else "half_even"
def lowM (o s : Int) (m : Str) (k : Int) : Int := o + s * k - below m s k
def highM (o s : Int) (m : Str) (k : Int) : Int := o + s * k + below (mir m) s k
theorem mir_d : mir "down" = "up" := by unfold mir; rw [if_pos rfl]
theorem mir_u : mir "up" = "down" := by unfold mir; rw [if_neg d_u, if_pos rfl]
theorem mir_hd : mir "half_down" = "half_up" := by unfold mir; rw [if_neg hd_d, if_neg hd_u, if_pos rfl]
theorem mir_hu : mir "half_up" = "half_down" := by unfold mir; rw [if_neg hu_d, if_neg hu_u, if_neg hu_hd, if_pos rfl]
theorem mir_he : mir "half_even" = "half_even" := by unfold mir; rw [if_neg he_d, if_neg he_u, if_neg he_hd, if_neg he_hu]
theorem be_d (s k : Int) : below "down" s k = 0 := by unfold below; rw [if_pos rfl]
theorem be_u (s k : Int) : below "up" s k = s - 1 := by unfold below; rw [if_neg d_u, if_pos rfl]
theorem be_hd (s k : Int) : below "half_down" s k = (s - 1) / 2 := by
  unfold below
  rw [if_neg hd_d, if_neg hd_u, if_neg]
  rintro (z | ⟨z, _⟩)
  · exact hd_hu z
  · exact hd_e z
theorem be_hu (s k : Int) : below "half_up" s k = s / 2 := by unfold below; rw [if_neg hu_d, if_neg hu_u, if_pos (.inl rfl)]
theorem be_he (s k : Int) : below "half_even" s k = if k % 2 = 0 then s / 2 else (s - 1) / 2 := by
  unfold below
  rw [if_neg he_d, if_neg he_u]
  by_cases h : k % 2 = 0
  · rw [if_pos (.inr ⟨rfl, h⟩), if_pos h]
  · rw [if_neg h, if_neg]
    rintro (z | ⟨_, z⟩)
    · exact he_hu z
    · exact h z
theorem mir_mode {m : Str} (h : Mode m) : Mode (mir m) := by
  rcases h with e | e | e | e | e <;> subst e
  · rw [mir_d]; exact .inr (.inl rfl)
  · rw [mir_u]; exact .inl rfl
  · rw [mir_hd]; exact .inr (.inr (.inr (.inl rfl)))
  · rw [mir_hu]; exact .inr (.inr (.inl rfl))
  · rw [mir_he]; exact .inr (.inr (.inr (.inr rfl)))
theorem below_bd {m : Str} {s k : Int} (h : Mode m) (hs : 1 ≤ s) : 0 ≤ below m s k ∧ below m s k < s := by
  rcases h with e | e | e | e | e <;> subst e
  · rw [be_d]; omega
  · rw [be_u]; omega
  · rw [be_hd]; omega
  · rw [be_hu]; omega
  · rw [be_he]; split <;> omega
theorem up_iff {m : Str} {s q r : Int} (h : Mode m) (r0 : 0 ≤ r) (r1 : r < s) : goesUp m s q r = true ↔ below (mir m) s q < r := by
  rcases h with e | e | e | e | e <;> subst e
  · rw [go_down, mir_d, be_u]
    exact ⟨fun z => (Bool.false_ne_true z).elim, fun z => absurd z (by omega)⟩
  · rw [go_up, mir_u, be_d, decide_eq_true_eq]
  · rw [go_hd, mir_hd, be_hu, decide_eq_true_eq]; omega
  · rw [go_hu, mir_hu, be_hd, decide_eq_true_eq]; omega
  · rw [go_he, mir_he, be_he, Bool.or_eq_true, Bool.and_eq_true, decide_eq_true_eq, decide_eq_true_eq, decide_eq_true_eq]
    split <;> omega
theorem touch {m : Str} {s : Int} (q : Int) (h : Mode m) (hs : 1 ≤ s) : below m s (q + 1) + below (mir m) s q = s - 1 := by
  rcases h with e | e | e | e | e <;> subst e
  · rw [be_d, mir_d, be_u]; omega
  · rw [be_u, mir_u, be_d]; omega
  · rw [be_hd, mir_hd, be_hu]; omega
  · rw [be_hu, mir_hu, be_hd]; omega
  · rw [be_he, mir_he, be_he]; split <;> split <;> omega
theorem mul_lt_step {s q k : Int} (hs : 1 ≤ s) (h : q < k) : s * q + s ≤ s * k := by
  have := Int.mul_le_mul_of_nonneg_left (show q + 1 ≤ k by omega) (show 0 ≤ s by omega)
  rw [Int.mul_add, Int.mul_one] at this
  exact this
/-- a value comes to k just between the ends -/
theorem fig_iff {o s : Int} {m : Str} {v k : Int} (h : Mode m) (hs : 1 ≤ s) : figM o s m v = k ↔ lowM o s m k ≤ v ∧ v ≤ highM o s m k := by
  have F := fig_of (o := o) (m := m) (v := v) hs
  generalize (v - o) / s = q at F
  generalize (v - o) % s = r at F
  generalize figM o s m v = f at F ⊢
  obtain ⟨eq, r0, r1, wh⟩ := F
  have ui := up_iff (q := q) h r0 r1
  have t1 := touch (k - 1) h hs
  rw [show k - 1 + 1 = k by omega] at t1
  have bk := below_bd (k := k) (mir_mode h) hs
  have bk1 := below_bd (k := k - 1) (mir_mode h) hs
  have bq := below_bd (k := q) (mir_mode h) hs
  unfold lowM highM
  have hf : (f = q + 1 ∧ below (mir m) s q < r) ∨ (f = q ∧ r ≤ below (mir m) s q) := by
    rcases wh with ⟨g, e⟩ | ⟨g, e⟩
    · exact .inl ⟨e, ui.mp g⟩
    · refine .inr ⟨e, ?_⟩
      have : ¬ below (mir m) s q < r := fun z => by rw [ui.mpr z] at g; cases g
      omega
  rcases Int.lt_trichotomy q k with hq | hq | hq
  · rcases Int.lt_trichotomy (q + 1) k with hq1 | hq1 | hq1
    · have := mul_lt_step hs (show q + 1 < k from hq1)
      rw [Int.mul_add, Int.mul_one] at this
      generalize s * q = a at *
      generalize s * k = b at *
      constructor
      · intro z; omega
      · intro z; omega
    · have e : q = k - 1 := by omega
      subst e
      have : s * (k - 1) = s * k - s := by rw [Int.mul_sub, Int.mul_one]
      generalize s * (k - 1) = a at *
      generalize s * k = b at *
      constructor
      · intro z; omega
      · intro z; omega
    · omega
  · subst hq
    generalize s * q = a at *
    constructor
    · intro z; omega
    · intro z; omega
  · have := mul_lt_step hs hq
    generalize s * q = a at *
    generalize s * k = b at *
    constructor
    · intro z; omega
    · intro z; omega
theorem low_high {o s : Int} {m : Str} {k : Int} (h : Mode m) (hs : 1 ≤ s) : lowM o s m k ≤ o + s * k ∧ o + s * k ≤ highM o s m k := by
  have a := below_bd (k := k) h hs
  have b := below_bd (k := k) (mir_mode h) hs
  unfold lowM highM
  omega
theorem low_next {o s : Int} {m : Str} (k : Int) (h : Mode m) (hs : 1 ≤ s) : lowM o s m (k + 1) = highM o s m k + 1 := by
  have := touch k h hs
  unfold lowM highM
  rw [Int.mul_add, Int.mul_one]
  omega
theorem high_prev {o s : Int} {m : Str} (k : Int) (h : Mode m) (hs : 1 ≤ s) : highM o s m (k - 1) = lowM o s m k - 1 := by
  have := low_next (o := o) (k - 1) h hs
  rw [show k - 1 + 1 = k by omega] at this
  omega
theorem fig_low {o s : Int} {m : Str} (k : Int) (h : Mode m) (hs : 1 ≤ s) : figM o s m (lowM o s m k) = k := by
  have a := low_high (o := o) (k := k) h hs
  exact (fig_iff h hs).mpr ⟨by omega, by omega⟩
theorem fig_high {o s : Int} {m : Str} (k : Int) (h : Mode m) (hs : 1 ≤ s) : figM o s m (highM o s m k) = k := by
  have a := low_high (o := o) (k := k) h hs
  exact (fig_iff h hs).mpr ⟨by omega, by omega⟩
theorem fig_low1 {o s : Int} {m : Str} (k : Int) (h : Mode m) (hs : 1 ≤ s) : figM o s m (lowM o s m k - 1) = k - 1 := by
  rw [← high_prev k h hs]
  exact fig_high _ h hs
theorem fig_high1 {o s : Int} {m : Str} (k : Int) (h : Mode m) (hs : 1 ≤ s) : figM o s m (highM o s m k + 1) = k + 1 := by
  rw [← low_next k h hs]
  exact fig_low _ h hs
/-- the figure of the least standing value that is not less -/
def ceilM (o s v : Int) : Int := -((o - v) / s)
theorem ceil_eq {o s v : Int} (hs : 1 ≤ s) : v ≤ o + s * ceilM o s v ∧ o + s * (ceilM o s v - 1) < v := by
  have a := Int.mul_ediv_add_emod (o - v) s
  have b := Int.emod_nonneg (o - v) (show s ≠ 0 by omega)
  have c := Int.emod_lt_of_pos (o - v) (show 0 < s by omega)
  unfold ceilM
  rw [Int.mul_sub, Int.mul_one, Int.mul_neg]
  omega
def backM (o s : Int) (m : Str) (v : Int) : Int := lowM o s m (ceilM o s v)
theorem back_ge {o s : Int} {m : Str} {v : Int} (h : Mode m) (hs : 1 ≤ s) : v ≤ dueM o s m (backM o s m v) := by
  unfold dueM backM
  rw [fig_low _ h hs]
  exact (ceil_eq hs).1
theorem back_lt {o s : Int} {m : Str} {v : Int} (h : Mode m) (hs : 1 ≤ s) : dueM o s m (backM o s m v - 1) < v := by
  unfold dueM backM
  rw [fig_low1 _ h hs]
  exact (ceil_eq hs).2
theorem mul_b {s k : Int} (s0 : 1 ≤ s) (s1 : s ≤ 10 ^ 30) (h : -2 ^ 720 < k ∧ k < 2 ^ 720) : -2 ^ 820 < s * k ∧ s * k < 2 ^ 820 := by
  have h1 : (s * k).natAbs < 2 ^ (100 + 720) := wide_lt (a := 100) (b := 720) (by omega) (by omega)
  omega
end HT
namespace HT
open PySem L2
theorem lg_big {n : Int} (h0 : 0 ≤ n) (h : n < 2 ^ 200) : n.natAbs.log2 < 9000 := by
  obtain ⟨m, rfl⟩ := Int.eq_ofNat_of_zero_le h0
  exact lg_nat (by omega)
def modesV : List V := [.str "down", .str "up", .str "half_down", .str "half_up", .str "half_even"]
/-- the further names that the text of sides does not bind, and its table of modes -/
structure SideT (K : PySem.W.Frag) (mg : Str → Option Value) (aM : Addr) : Prop where
  isi : mg "isinstance" = none
  int : mg "int" = none
  bool : mg "bool" = none
  tuple : mg "tuple" = none
  len : mg "len" = none
  dm : mg "divmod" = none
  gM : mg "MODES" = some (.ref aM)
  tM : ∀ H, SqT K H aM modesV
def spIsInt : Sp := fun vs H Q _ => ∃ i : Int, vs = [.int i] ∧ Q (.bl true) H
def spBetween : Sp := fun vs H Q _ => ∃ i a b : Int, vs = [.int i, .int a, .int b] ∧ Q (.bl (decide (a ≤ i) && decide (i ≤ b))) H
def spCheckValue : Sp := fun vs H Q _ => ∃ i : Int, vs = [.int i] ∧ Q .non H
def spCheckSide : Sp := fun vs H Q _ => ∃ (p : Addr) (o s : Int) (m : Str), vs = [.ref p] ∧ H p = some (sideV o s m) ∧ SideP o s m ∧ Q .non H
def spGo : Sp := fun vs H Q _ => ∃ (m : Str) (s q r : Int), vs = [.str m, .int s, .int q, .int r] ∧ Q (.bl (goesUp m s q r)) H
def spSV (f : Int → Int → Str → Int → V) : Sp := fun vs H Q _ => ∃ (p : Addr) (o s : Int) (m : Str) (v : Int), vs = [.ref p, .int v] ∧ H p = some (sideV o s m) ∧ SideP o s m ∧ Bd v ∧ ∀ H', Same H H' → Q (f o s m v) H'
def spFig : Sp := spSV fun o s m v => .int (figM o s m v)
def spDue : Sp := spSV fun o s m v => .int (dueM o s m v)
def spStands : Sp := spSV fun o s m v => .bl (decide ((v - o) % s = 0))
theorem dec_int (a b : Int) : decide (V.int a = V.int b) = decide (a = b) := by
  by_cases h : a = b
  · rw [decide_eq_true h, h, decide_eq_true rfl]
  · rw [decide_eq_false h, decide_eq_false (fun z => h (V.int.inj z))]
theorem dec_str (a b : Str) : decide (V.str a = V.str b) = decide (a = b) := by
  by_cases h : a = b
  · rw [decide_eq_true h, h, decide_eq_true rfl]
  · rw [decide_eq_false h, decide_eq_false (fun z => h (V.str.inj z))]
theorem dec_bl (a b : Bool) : decide (V.bl a = V.bl b) = decide (a = b) := by
  by_cases h : a = b
  · rw [decide_eq_true h, h, decide_eq_true rfl]
  · rw [decide_eq_false h, decide_eq_false (fun z => h (V.bl.inj z))]
theorem str_t {a b : Str} (h : decide (V.str a = V.str b) = true) : a = b := V.str.inj (of_decide_eq_true h)
theorem str_f {a b : Str} (h : ¬ decide (V.str a = V.str b) = true) : ¬ a = b := fun z => h (decide_eq_true (congrArg V.str z))
theorem int_t {a b : Int} (h : decide (V.int a = V.int b) = true) : a = b := V.int.inj (of_decide_eq_true h)
theorem int_f {a b : Int} (h : ¬ decide (V.int a = V.int b) = true) : ¬ a = b := fun z => h (decide_eq_true (congrArg V.int z))
theorem not_t {b : Bool} (h : (!b) = true) : ¬ b = true := by cases b <;> simp_all
theorem not_f {b : Bool} (h : ¬ (!b) = true) : b = true := by cases b <;> simp_all
theorem mode_in {m : Str} (h : Mode m) : inV (.str m) modesV = true := by
  rcases h with e | e | e | e | e <;> subst e <;> decide +kernel
theorem divp {o v s : Int} (hs : 1 ≤ s) (ho : -10 ^ 40 ≤ o ∧ o ≤ 10 ^ 40) (hv : Bd v) : CDivP (v - o) s := by
  refine divp_ok (by omega) ?_
  have h : (v - o).natAbs < 2 ^ 1010 := by
    have h1 := hv.1
    have h2 := hv.2
    omega
  have h2 : Builtin.Int.intBits (v - o) ≤ 1011 := by
    unfold Builtin.Int.intBits
    split
    · omega
    · have := PySem.Flt.log2_lt_of (by decide) h
      omega
  omega
theorem mulW {i j : Int} (hi : -2 ^ 1010 < i ∧ i < 2 ^ 1010) (hj : -2 ^ 1010 < j ∧ j < 2 ^ 1010) : CMulW i j := wide_mul (a := 1010) (b := 1010) (by omega) (by omega) (by decide) (by decide) (by decide)
theorem fig_bd {o s : Int} {m : Str} {v : Int} (S : SideP o s m) (hv : Bd v) : -2 ^ 1001 < figM o s m v ∧ figM o s m v < 2 ^ 1001 := by
  obtain ⟨h1, h2⟩ := hv
  obtain ⟨o0, o1, s0, s1, _⟩ := S
  have := div_bd (x := v - o) (b := 2 ^ 1000 + 10 ^ 40) s0 (by omega) (by omega)
  unfold figM
  split <;> omega
section
variable {P : Program} {w : World} {K : PySem.W.Frag} {mg : Str → Option Value} {base : Heap} {aM fI fB fV fC fG fF : Addr} {dI dB dV dC dG dF : FuncData}
theorem ok_is_int {f : Addr} {fd : FuncData} (F : Fun K "is_int" "is_int" s_is_int f fd) (T : SideT K mg aM) : FnOk P w K mg base CX0 1 f fd ["thing"] spIsInt := by
  refine F.ok sc_is_int (fun vs H Q E h => ?_) (fun cdv A outer s H vs Q E hr h => ?_)
  · obtain ⟨i, rfl, _⟩ := h
    rfl
  · obtain ⟨i, rfl, q⟩ := h
    refine ⟨_, pss_one (ps_ret (pe_and (pe_callB call_isi (by rfl) T.isi (by decide +kernel) (pa_cons (pv 0) (pa_cons (pe_bltn (v := .ty "int") (by rfl) T.int (by decide +kernel) rfl) pa_nil)))
      (pe_one (pe_not (pe_callB call_isi (by rfl) T.isi (by decide +kernel) (pa_cons (pv 0) (pa_cons (pe_bltn (v := .ty "bool") (by rfl) T.bool (by decide +kernel) rfl) pa_nil))))))), ?_⟩
    walk_at "rd"
    refine ⟨_, _, _, _, _, rfl, .ty "int", .base (.int _), kit_ty (r := true) (by decide +kernel), ?_⟩
    walk_at "rd"
    refine ⟨_, _, _, _, _, rfl, .ty "bool", .base (.int _), kit_ty (r := false) (by decide +kernel), ?_⟩
    walk_at "rd"
    exact q
theorem ok_between {f : Addr} {fd : FuncData} (F : Fun K "is_int_between" "is_int_between" s_is_int_between f fd) (I : Cal P w K mg base "is_int" 1 ["thing"] spIsInt fI dI) : FnOk P w K mg base CX0 2 f fd ["thing", "least", "most"] spBetween := by
  refine F.ok sc_is_int_between (fun vs H Q E h => ?_) (fun cdv A outer s H vs Q E hr h => ?_)
  · obtain ⟨i, a, b, rfl, _⟩ := h
    rfl
  · obtain ⟨i, a, b, rfl, q⟩ := h
    refine ⟨_, pss_one (ps_ret (pe_and (pcl I hr (by decide) (by rfl) (pa_cons (pv 0) pa_nil)) (pe_one (pe_chain op_le op_le (pv 1) (pv 0) (pv 2))))), ?_⟩
    walk_at "rd"
    refine ite2 (fun h => ?_) (fun h => ?_)
    · walk_at "rd"
      rw [decide_eq_true (of_decide_eq_true h)] at q
      exact q
    · rw [decide_eq_false (of_decide_eq_false (by simpa using h))] at q
      exact q
theorem ok_check_value {f : Addr} {fd : FuncData} (F : Fun K "check_value" "check_value" s_check_value f fd) (I : Cal P w K mg base "is_int" 1 ["thing"] spIsInt fI dI) : FnOk P w K mg base CX0 2 f fd ["value"] spCheckValue := by
  refine F.ok sc_check_value (fun vs H Q E h => ?_) (fun cdv A outer s H vs Q E hr h => ?_)
  · obtain ⟨i, rfl, _⟩ := h
    rfl
  · obtain ⟨i, rfl, q⟩ := h
    refine ⟨_, pss_one (ps_if (pt_not (pt_val (pcl I hr (by decide) (by rfl) (pa_cons (pv 0) pa_nil)))) (pss_one ps_never) pss_nil), ?_⟩
    walk_at "rd"
    exact q
theorem ok_check_side {f : Addr} {fd : FuncData} (F : Fun K "check_side" "check_side" s_check_side f fd) (T : SideT K mg aM) (B : Cal P w K mg base "is_int_between" 2 ["thing", "least", "most"] spBetween fB dB) : FnOk P w K mg base CX0 3 f fd ["side"] spCheckSide := by
  refine F.ok sc_check_side (fun vs H Q E h => ?_) (fun cdv A outer s H vs Q E hr h => ?_)
  · obtain ⟨p, o, s, m, rfl, _⟩ := h
    rfl
  · obtain ⟨p, o, s, m, rfl, hp, S, q⟩ := h
    have nd := sc_check_side.nd
    refine ⟨_, pss_cons (ps_if (PW.pt (pw_or (pt_not (pt_val (pe_callB call_isi (by rfl) T.isi (by decide +kernel) (pa_cons (pv 0) (pa_cons (pe_bltn (v := .ty "tuple") (by rfl) T.tuple (by decide +kernel) rfl) pa_nil)))))
        (pw_or1 (pt_cmpR op_ne (pe_callB call_len_seq (by rfl) T.len PySem.boot_len (pa_cons (pv 0) pa_nil)) pe_int (nomark _))))) (pss_one ps_never) pss_nil)
      (pss_cons (ps_asg (pv 0) (pg_tup (by rfl) (pgs_cons (pg_name (i := 1) nd rfl (Or.inl rfl)) (pgs_cons (pg_name (i := 2) nd rfl (Or.inl rfl)) (pgs_cons (pg_name (i := 3) nd rfl (Or.inl rfl)) pgs_nil)))))
      (pss_cons (ps_if (pt_not (pt_val (pcl B hr (by decide) (by rfl) (pa_cons (pv 1) (pa_cons (pe_un un_neg (pe_op op_pow pe_int pe_int)) (pa_cons (pe_op op_pow pe_int pe_int) pa_nil)))))) (pss_one ps_never) pss_nil)
      (pss_cons (ps_if (pt_not (pt_val (pcl B hr (by decide) (by rfl) (pa_cons (pv 2) (pa_cons pe_int (pa_cons (pe_op op_pow pe_int pe_int) pa_nil)))))) (pss_one ps_never) pss_nil)
      (pss_one (ps_if (pt_cmpR op_notIn_seq (pv 3) (pe_glob (v := .ref aM) (by rfl) T.gM rfl) (by rfl)) (pss_one ps_never) pss_nil))))), ?_⟩
    walk_at "rd"
    refine ⟨_, _, _, _, _, rfl, .ty "tuple", .base (.tup hp), kit_ty (r := true) (by decide +kernel), ?_⟩
    walk_at "rd"
    refine ⟨p, _, rfl, .inr (SqT.of hp), rfl, ?_⟩
    walk_at "rd"
    refine ⟨p, _, rfl, SqT.of hp, rfl, _, _, rfl, _, _, rfl, _, _, rfl, rfl, ?_⟩
    walk_at "rd"
    refine ⟨⟨by decide, by decide, by decide⟩, ?_⟩
    walk_at "rd"
    refine ⟨⟨by decide, by decide, by decide⟩, _, _, _, rfl, ?_⟩
    have e1 : (decide (-(10 : Int) ^ (40 : Int).toNat ≤ o) && decide (o ≤ (10 : Int) ^ (40 : Int).toNat)) = true := by
      rw [decide_eq_true (show -(10 : Int) ^ (40 : Int).toNat ≤ o from S.o0), decide_eq_true (show o ≤ (10 : Int) ^ (40 : Int).toNat from S.o1)]
      rfl
    refine ⟨_, rfl, ?_⟩
    refine ite2 (fun h => (not_t h e1).elim) (fun _ => ?_)
    walk_at "rd"
    refine ⟨⟨by decide, by decide, by decide⟩, _, _, _, rfl, ?_⟩
    have e2 : (decide ((1 : Int) ≤ s) && decide (s ≤ (10 : Int) ^ (30 : Int).toNat)) = true := by
      rw [decide_eq_true S.s0, decide_eq_true (show s ≤ (10 : Int) ^ (30 : Int).toNat from S.s1)]
      rfl
    refine ⟨_, rfl, ?_⟩
    refine ite2 (fun h => (not_t h e2).elim) (fun _ => ?_)
    walk_at "rd"
    refine ⟨aM, _, rfl, .inr (T.tM H), rfl, by decide, ?_⟩
    walk_at "rd"
    refine ite2 (fun h => (not_t h (mode_in S.md)).elim) (fun _ => ?_)
    exact q
end
end HT
namespace HT
open PySem L2
section
variable {P : Program} {w : World} {K : PySem.W.Frag} {mg : Str → Option Value} {base : Heap} {aM fI fB fV fC fG fF : Addr} {dI dB dV dC dG dF : FuncData}
theorem ok_goes_up {f : Addr} {fd : FuncData} (F : Fun K "_goes_up" "_goes_up" s_goes_up f fd) : FnOk P w K mg base CX0 1 f fd ["mode", "step", "figure", "rest"] spGo := by
  refine F.ok sc_goes_up (fun vs H Q E h => ?_) (fun cdv A outer s H vs Q E hr h => ?_)
  · obtain ⟨m, s, q, r, rfl, _⟩ := h
    rfl
  · obtain ⟨m, s, fg, r, rfl, q⟩ := h
    refine ⟨_, pss_cons (ps_if (pt_cmpR op_eq (pv 0) pe_str (nomark _)) (pss_one (ps_ret pe_bl)) pss_nil)
      (pss_cons (ps_if (pt_cmpR op_eq (pv 0) pe_str (nomark _)) (pss_one (ps_ret (pe_cmpR op_gt (pv 3) pe_int (nomark _)))) pss_nil)
      (pss_cons (ps_if (pt_cmpR op_ne (pe_op op_mul pe_int (pv 3)) (pv 1) (nomark _)) (pss_one (ps_ret (pe_cmpR op_gt (pe_op op_mul pe_int (pv 3)) (pv 1) (nomark _)))) pss_nil)
      (pss_cons (ps_if (pt_cmpR op_eq (pv 0) pe_str (nomark _)) (pss_one (ps_ret (pe_cmpR op_eq (pe_op op_mod (pv 2) pe_int) pe_int (nomark _)))) pss_nil)
      (pss_one (ps_ret (pe_cmpR op_eq (pv 0) pe_str (nomark _))))))), ?_⟩
    unfold goesUp at q
    walk_at "rd"
    refine ⟨rfl, ?_⟩
    walk_at "rd"
    refine ite2 (fun h => ?_) (fun h1 => ?_)
    · rw [if_pos (str_t h)] at q
      exact q
    rw [if_neg (str_f h1)] at q
    walk_at "rd"
    refine ⟨rfl, ?_⟩
    walk_at "rd"
    refine ite2 (fun h => ?_) (fun h2 => ?_)
    · rw [if_pos (str_t h)] at q
      walk_at "rd"
      exact q
    rw [if_neg (str_f h2)] at q
    walk_at "rd"
    refine ⟨.inl ⟨by decide, by decide⟩, ?_⟩
    walk_at "rd"
    refine ⟨rfl, ?_⟩
    walk_at "rd"
    refine ite2 (fun h => ?_) (fun h3 => ?_)
    · rw [if_neg (int_f (not_t h))] at q
      walk_at "rd"
      refine ⟨.inl ⟨by decide, by decide⟩, ?_⟩
      walk_at "rd"
      exact q
    rw [if_pos (int_t (not_f h3))] at q
    walk_at "rd"
    refine ⟨rfl, ?_⟩
    walk_at "rd"
    refine ite2 (fun h => ?_) (fun h4 => ?_)
    · rw [if_pos (str_t h), ← dec_int] at q
      walk_at "rd"
      refine ⟨(by show (0 : Int) < 2; decide), ?_⟩
      walk_at "rd"
      exact ⟨rfl, q⟩
    · rw [if_neg (str_f h4), ← dec_str] at q
      walk_at "rd"
      exact ⟨rfl, q⟩
theorem ok_figure {f : Addr} {fd : FuncData} (F : Fun K "_figure" "_figure" s_figure f fd) (T : SideT K mg aM)
    (G : Cal P w K mg base "_goes_up" 1 ["mode", "step", "figure", "rest"] spGo fG dG) : FnOk P w K mg base CX0 2 f fd ["side", "value"] spFig := by
  refine F.ok sc_figure (fun vs H Q E h => ?_) (fun cdv A outer s H vs Q E hr h => ?_)
  · obtain ⟨p, o, s, m, v, rfl, _⟩ := h
    rfl
  · obtain ⟨p, o, s, m, v, rfl, hp, S, hv, q⟩ := h
    have nd := sc_figure.nd
    refine ⟨_, pss_cons (ps_asg (pv 0) (pg_tup (by rfl) (pgs_cons (pg_name (i := 2) nd rfl (Or.inl rfl)) (pgs_cons (pg_name (i := 3) nd rfl (Or.inl rfl)) (pgs_cons (pg_name (i := 4) nd rfl (Or.inl rfl)) pgs_nil)))))
      (pss_cons (ps_asg (pe_callB call_divmodW (by rfl) T.dm (by decide +kernel) (pa_cons (pe_op op_sub (pv 1) (pv 2)) (pa_cons (pv 3) pa_nil))) (pg_tup (by rfl) (pgs_cons (pg_name (i := 5) nd rfl (Or.inl rfl)) (pgs_cons (pg_name (i := 6) nd rfl (Or.inl rfl)) pgs_nil))))
      (pss_cons (ps_if (pt_val (pcl G hr (by decide) (by rfl) (pa_cons (pv 4) (pa_cons (pv 3) (pa_cons (pv 5) (pa_cons (pv 6) pa_nil)))))) (pss_one (ps_ret (pe_op op_add (pv 5) pe_int))) pss_nil)
      (pss_one (ps_ret (pv 5))))), ?_⟩
    walk_at "rd"
    refine ⟨p, _, rfl, SqT.of hp, rfl, _, _, rfl, _, _, rfl, _, _, rfl, rfl, ?_⟩
    walk_at "rd"
    refine ⟨_, _, rfl, divp S.s0 ⟨S.o0, S.o1⟩ hv, fun d nd' => ?_⟩
    refine ⟨d, _, rfl, SqT.of upd_same, rfl, _, _, rfl, _, _, rfl, rfl, ?_⟩
    have sm : Same H (upd H d (.tup [.int ((v - o) / s), .int ((v - o) % s)])) := fun b u z => by rw [upd_ne (ne_of_none z nd')]; exact z
    have q' : Q (.int (figM o s m v)) (upd H d (.tup [.int ((v - o) / s), .int ((v - o) % s)])) := q _ sm
    unfold figM at q'
    walk_at "rd"
    refine ⟨_, _, _, _, rfl, ?_⟩
    walk_at "rd"
    refine ite2 (fun h => ?_) (fun h => ?_)
    · rw [if_pos h] at q'
      walk_at "rd"
      exact q'
    · rw [if_neg h] at q'
      walk_at "rd"
      exact q'
theorem ok_written {f : Addr} {fd : FuncData} (F : Fun K "written" "written" s_written f fd) (G : Cal P w K mg base "_figure" 2 ["side", "value"] spFig fF dF) : FnOk P w K mg base CX0 3 f fd ["side", "value"] spDue := by
  refine F.ok sc_written (fun vs H Q E h => ?_) (fun cdv A outer s H vs Q E hr h => ?_)
  · obtain ⟨p, o, s, m, v, rfl, _⟩ := h
    rfl
  · obtain ⟨p, o, s, m, v, rfl, hp, S, hv, q⟩ := h
    have nd := sc_written.nd
    refine ⟨_, pss_cons (ps_asg (pv 0) (pg_tup (by rfl) (pgs_cons (pg_name (i := 2) nd rfl (Or.inl rfl)) (pgs_cons (pg_name (i := 3) nd rfl (Or.inl rfl)) (pgs_cons (pg_name (i := 4) nd rfl (Or.inl rfl)) pgs_nil)))))
      (pss_one (ps_ret (pe_op op_add (pv 2) (pe_op op_mulW (pv 3) (pcl G hr (by decide) (by rfl) (pa_cons (pv 0) (pa_cons (pv 1) pa_nil))))))), ?_⟩
    walk_at "rd"
    refine ⟨p, _, rfl, SqT.of hp, rfl, _, _, rfl, _, _, rfl, _, _, rfl, rfl, ?_⟩
    walk_at "rd"
    refine ⟨p, o, s, m, v, rfl, hp, S, hv, fun H' sm => ?_⟩
    walk_at "rd"
    have b1 := fig_bd S hv
    have b2 := S.s0
    have b3 := S.s1
    refine ⟨mulW (by omega) (by omega), ?_⟩
    walk_at "rd"
    exact q H' sm
theorem ok_handed {f : Addr} {fd : FuncData} (F : Fun K "handed" "handed" s_handed f fd) (C : Cal P w K mg base "check_side" 3 ["side"] spCheckSide fC dC) (V' : Cal P w K mg base "check_value" 2 ["value"] spCheckValue fV dV)
    (G : Cal P w K mg base "written" 3 ["side", "value"] spDue fF dF) : FnOk P w K mg base CX0 5 f fd ["side", "value"] spDue := by
  refine F.ok sc_handed (fun vs H Q E h => ?_) (fun cdv A outer s H vs Q E hr h => ?_)
  · obtain ⟨p, o, s, m, v, rfl, _⟩ := h
    rfl
  · obtain ⟨p, o, s, m, v, rfl, hp, S, hv, q⟩ := h
    refine ⟨_, pss_cons (ps_expr (pcl C hr (by decide) (by rfl) (pa_cons (pv 0) pa_nil)))
      (pss_cons (ps_expr (pcl V' hr (by decide) (by rfl) (pa_cons (pv 1) pa_nil)))
      (pss_one (ps_ret (pcl G hr (by decide) (by rfl) (pa_cons (pv 0) (pa_cons (pv 1) pa_nil)))))), ?_⟩
    walk_at "rd"
    refine ⟨p, o, s, m, rfl, hp, S, ?_⟩
    walk_at "rd"
    exact ⟨p, o, s, m, v, rfl, hp, S, hv, q⟩
end
end HT
namespace HT
open PySem L2
def Bd2 (x : Int) : Prop := -2 ^ 980 < x ∧ x < 2 ^ 980
def spFits : Sp := fun vs H Q _ => ∃ (p : Addr) (o s : Int) (m : Str) (v : Int), vs = [.ref p, .int v] ∧ H p = some (sideV o s m) ∧ SideP o s m ∧ Bd2 v ∧ ∀ H', Same H H' → Q (.bl true) H'
def spValues : Sp := fun vs H Q _ => ∃ (a c : Addr) (t : Nat) (p : Addr) (o s : Int) (m : Str), vs = [.ref a, .ref p] ∧ Src H a c t ∧ t + 400 < 2 ^ 30 ∧ H p = some (sideV o s m) ∧ SideP o s m ∧
  ∀ (l : Addr) (ns : List Int) (H' : Hp) (t' : Nat), H l = none → H' l = some (.lst (ns.map V.int)) → (∀ n ∈ ns, Bd2 n) → ns.length ≤ 20 → t' ≤ t + 400 → Src H' a c t' → Oth a c H H' → Q (.ref l) H'
theorem bd_of2 {x : Int} (h : Bd2 x) : Bd x := by
  unfold Bd2 at h
  unfold Bd
  omega
theorem half_mode {m : Str} (h : Mode m) (e : cutS m none (some 4) = "half") : half m := by
  rcases h with z | z | z | z | z <;> subst z
  · exact absurd e (by decide +kernel)
  · exact absurd e (by decide +kernel)
  · exact .inl rfl
  · exact .inr (.inl rfl)
  · exact .inr (.inr rfl)
theorem mode_len {m : Str} (h : Mode m) : m.length ≤ sizeLine := by
  rcases h with z | z | z | z | z <;> subst z <;> decide +kernel
section
variable {P : Program} {w : World} {K : PySem.W.Frag} {mg : Str → Option Value} {base : Heap} {aM fD fP fG fL fA fF fH fS : Addr} {dD dP dG dL dA dF dH dS : FuncData}
theorem ok_L_figure {f : Addr} {fd : FuncData} (F : Fun K "_law_figure" "_law_figure" s_L_figure f fd) (B : Blt mg) : FnOk P w K mg base CX0 1 f fd ["_law_side_here", "_law_value"] spFig := by
  refine F.ok sc_L_figure (fun vs H Q E h => ?_) (fun cdv A outer s H vs Q E hr h => ?_)
  · obtain ⟨p, o, s, m, v, rfl, _⟩ := h
    rfl
  · obtain ⟨p, o, s, m, v, rfl, hp, S, hv, q⟩ := h
    have nd := sc_L_figure.nd
    have q' : Q (.int (figM o s m v)) H := q H (Same.refl H)
    have Fg := fig_of (o := o) (m := m) (v := v) S.s0
    refine ⟨_, pss_cons (ps_asg (pv 0) (pg_tup (by rfl) (pgs_cons (pg_name (i := 2) nd rfl (Or.inl rfl)) (pgs_cons (pg_name (i := 3) nd rfl (Or.inl rfl)) (pgs_cons (pg_name (i := 4) nd rfl (Or.inl rfl)) pgs_nil)))))
      (pss_cons (ps_set (i := 5) nd rfl (Or.inl rfl) (pe_op op_fdivW (pe_callTy call_int1 (by rfl) B.int (by decide +kernel) (pa_cons (pe_op op_sub (pv 1) (pv 2)) pa_nil)) (pv 3)))
      (pss_cons (ps_set (i := 6) nd rfl (Or.inl rfl) (pe_op op_sub (pe_op op_sub (pv 1) (pv 2)) (pe_op op_mulW (pv 3) (pv 5))))
      (pss_cons (ps_if (PW.pt (pw_or (pt_cmpR op_eq (pv 4) pe_str (nomark _)) (pw_or1 (pt_cmpR op_eq (pv 6) pe_int (nomark _))))) (pss_one (ps_ret (pv 5))) pss_nil)
      (pss_cons (ps_if (PW.pt (pw_or (pt_cmpR op_eq (pv 4) pe_str (nomark _)) (pw_or1 (pt_cmpR op_gt (pe_op op_mul pe_int (pv 6)) (pv 3) (nomark _))))) (pss_one (ps_ret (pe_op op_add (pv 5) pe_int))) pss_nil)
      (pss_cons (ps_if (PW.pt (pw_or (pt_cmpR op_lt (pe_op op_mul pe_int (pv 6)) (pv 3) (nomark _)) (pw_or1 (pt_cmpR op_eq (pv 4) pe_str (nomark _))))) (pss_one (ps_ret (pv 5))) pss_nil)
      (pss_one (ps_ret (pe_op op_add (pv 5) (pe_callTy call_int1 (by rfl) B.int (by decide +kernel) (pa_cons (pe_or (pe_cmpR op_eq (pv 4) pe_str (nomark _)) (pe_one (pe_cmpR op_eq (pe_op op_mod (pv 5) pe_int) pe_int (nomark _)))) pa_nil)))))))))), ?_⟩
    have b0 := S.s0
    have b1 := S.s1
    have b2 := S.o0
    have b3 := S.o1
    have b4 := hv.1
    have b5 := hv.2
    have b6 := div_bd (x := v - o) (b := 2 ^ 1001) S.s0 (by omega) (by omega)
    have rr : v - o - s * ((v - o) / s) = (v - o) % s := by
      have := Fg.eq
      omega
    walk_at "rd"
    refine ⟨p, _, rfl, SqT.of hp, rfl, _, _, rfl, _, _, rfl, _, _, rfl, rfl, ?_⟩
    walk_at "rd"
    refine ⟨fdiv_ok _ (by omega) (lg_big (by omega) (by omega)), ?_⟩
    walk_at "rd"
    refine ⟨mulW (by omega) (by omega), ?_⟩
    walk_at "rd"
    refine ⟨rfl, ?_⟩
    walk_at "rd"
    obtain ⟨_, r0, r1, wh⟩ := Fg
    generalize figM o s m v = k at q' wh
    -- the three ways of a mode
    have fin0 : k = ((v - o) / s) → Q (.int ((v - o) / s)) H := fun e => by rw [← e]; exact q'
    have fin1 : k = ((v - o) / s) + 1 → Q (.int (((v - o) / s) + 1)) H := fun e => by rw [← e]; exact q'
    have low : goesUp m s ((v - o) / s) ((v - o) % s) = false → k = ((v - o) / s) := fun h => by
      rcases wh with ⟨g, _⟩ | ⟨_, e⟩
      · rw [h] at g; cases g
      · exact e
    have up : goesUp m s ((v - o) / s) ((v - o) % s) = true → k = ((v - o) / s) + 1 := fun h => by
      rcases wh with ⟨_, e⟩ | ⟨g, _⟩
      · exact e
      · rw [h] at g; cases g
    refine ite2 (fun h => ?_) (fun h1 => ?_)
    · walk_at "rd"
      refine fin0 (low ?_)
      rw [str_t h, go_down]
    walk_at "rd"
    refine ⟨rfl, ?_⟩
    walk_at "rd"
    refine ite2 (fun h => ?_) (fun h2 => ?_)
    · walk_at "rd"
      refine fin0 (low ?_)
      have e : ((v - o) % s) = 0 := by have := int_t h; omega
      rw [e]
      exact go_zero S.md S.s0
    have n1 := str_f h1
    have n2 : ¬ ((v - o) % s) = 0 := fun z => int_f h2 (by omega)
    walk_at "rd"
    refine ⟨rfl, ?_⟩
    walk_at "rd"
    refine ite2 (fun h => ?_) (fun h3 => ?_)
    · walk_at "rd"
      refine fin1 (up ?_)
      rw [str_t h, go_up]
      exact decide_eq_true (by omega)
    have n3 := str_f h3
    walk_at "rd"
    refine ⟨.inl ⟨by decide, by decide⟩, ?_⟩
    walk_at "rd"
    have hh : half m := by
      rcases S.md with e | e | e
      · exact absurd e n1
      · exact absurd e n3
      · exact e
    refine ite2 (fun h => ?_) (fun h4 => ?_)
    · walk_at "rd"
      have g : s < 2 * ((v - o) % s) := by have := of_decide_eq_true h; omega
      refine fin1 (up ?_)
      unfold goesUp
      rw [if_neg n1, if_neg n3, if_neg (by omega)]
      exact decide_eq_true g
    have n4 : ¬ s < 2 * ((v - o) % s) := fun z => h4 (decide_eq_true (by omega))
    walk_at "rd"
    refine ⟨.inl ⟨by decide, by decide⟩, ?_⟩
    walk_at "rd"
    refine ite2 (fun h => ?_) (fun h5 => ?_)
    · walk_at "rd"
      have g : 2 * ((v - o) % s) < s := by have := of_decide_eq_true h; omega
      refine fin0 (low ?_)
      unfold goesUp
      rw [if_neg n1, if_neg n3, if_neg (by omega)]
      exact decide_eq_false n4
    have n5 : 2 * ((v - o) % s) = s := by
      have : ¬ 2 * ((v - o) % s) < s := fun z => h5 (decide_eq_true (by omega))
      omega
    walk_at "rd"
    refine ⟨rfl, ?_⟩
    walk_at "rd"
    refine ite2 (fun h => ?_) (fun h6 => ?_)
    · walk_at "rd"
      refine fin0 (low ?_)
      rw [str_t h, go_hd]
      exact decide_eq_false n4
    have n6 := str_f h6
    have kk : k = ((v - o) / s) + (if m = "half_up" then 1 else if ((v - o) / s) % 2 = 1 then 1 else 0) := by
      rcases hh with e | e | e
      · exact absurd e n6
      · rw [if_pos e]
        refine up ?_
        rw [e, go_hu]
        exact decide_eq_true (by omega)
      · have e2 : goesUp m s ((v - o) / s) ((v - o) % s) = decide (((v - o) / s) % 2 = 1) := by
          rw [e, go_he, decide_eq_false n4, decide_eq_true n5]
          rfl
        rw [if_neg (by rw [e]; exact he_hu)]
        by_cases z : ((v - o) / s) % 2 = 1
        · rw [if_pos z]
          exact up (by rw [e2]; exact decide_eq_true z)
        · rw [if_neg z, Int.add_zero]
          exact low (by rw [e2]; exact decide_eq_false z)
    walk_at "rd"
    refine ⟨rfl, ?_⟩
    walk_at "rd"
    refine ite2 (fun h => ?_) (fun h7 => ?_)
    · refine .inr ⟨true, rfl, ?_⟩
      walk_at "rd"
      rw [if_pos (str_t h)] at kk
      exact fin1 kk
    · rw [if_neg (str_f h7)] at kk
      walk_at "rd"
      refine ⟨(by show (0 : Int) < 2; decide), ?_⟩
      walk_at "rd"
      refine ⟨rfl, .inr ⟨_, rfl, ?_⟩⟩
      walk_at "rd"
      show Q (.int (((v - o) / s) + if decide (V.int (((v - o) / s) % 2) = V.int 1) = true then 1 else 0)) H
      rw [dec_int]
      by_cases z : ((v - o) / s) % 2 = 1
      · rw [if_pos z] at kk
        rw [if_pos (decide_eq_true z)]
        exact fin1 kk
      · rw [if_neg z, Int.add_zero] at kk
        rw [if_neg (by rw [decide_eq_false z]; decide), Int.add_zero]
        exact fin0 kk
theorem ok_L_handed {f : Addr} {fd : FuncData} (F : Fun K "_law_handed" "_law_handed" s_L_handed f fd) (L : Cal P w K mg base "_law_figure" 1 ["_law_side_here", "_law_value"] spFig fL dL) : FnOk P w K mg base CX0 2 f fd ["_law_side_here", "_law_value"] spDue := by
  refine F.ok sc_L_handed (fun vs H Q E h => ?_) (fun cdv A outer s H vs Q E hr h => ?_)
  · obtain ⟨p, o, s, m, v, rfl, _⟩ := h
    rfl
  · obtain ⟨p, o, s, m, v, rfl, hp, S, hv, q⟩ := h
    refine ⟨_, pss_one (ps_ret (pe_op op_add (pe_ix ix_tup (pv 0) pe_int (fun _ _ => rfl)) (pe_op op_mulW (pe_ix ix_tup (pv 0) pe_int (fun _ _ => rfl)) (pcl L hr (by decide) (by rfl) (pa_cons (pv 0) (pa_cons (pv 1) pa_nil)))))), ?_⟩
    walk_at "rd"
    refine ⟨p, _, 0, _, rfl, rfl, SqT.of hp, rfl, ?_⟩
    walk_at "rd"
    refine ⟨p, _, 1, _, rfl, rfl, SqT.of hp, rfl, ?_⟩
    walk_at "rd"
    refine ⟨p, o, s, m, v, rfl, hp, S, hv, fun H' sm => ?_⟩
    walk_at "rd"
    have b1 := fig_bd S hv
    have b2 := S.s0
    have b3 := S.s1
    refine ⟨mulW (by omega) (by omega), ?_⟩
    walk_at "rd"
    exact q H' sm
end
end HT
namespace HT
open PySem L2
/-! ### mirrors and forms -/
theorem mir_mir {m : Str} (h : Mode m) : mir (mir m) = m := by
  rcases h with e | e | e | e | e <;> subst e
  · rw [mir_d, mir_u]
  · rw [mir_u, mir_d]
  · rw [mir_hd, mir_hu]
  · rw [mir_hu, mir_hd]
  · rw [mir_he, mir_he]
theorem below_neg {m : Str} {s : Int} (k : Int) (h : Mode m) : below m s (-k) = below m s k := by
  rcases h with e | e | e | e | e <;> subst e
  · rw [be_d, be_d]
  · rw [be_u, be_u]
  · rw [be_hd, be_hd]
  · rw [be_hu, be_hu]
  · rw [be_he, be_he]; split <;> split <;> omega
theorem due_mirror {o s : Int} {m : Str} {v : Int} (h : Mode m) (hs : 1 ≤ s) : dueM (-o) s (mir m) (-v) = -dueM o s m v := by
  have f := (fig_iff (o := o) (v := v) (k := figM o s m v) h hs).mp rfl
  generalize figM o s m v = k at f
  have e : figM o s m v = k := (fig_iff h hs).mpr f
  have e2 : figM (-o) s (mir m) (-v) = -k := by
    refine (fig_iff (mir_mode h) hs).mpr ?_
    unfold lowM highM at f ⊢
    rw [mir_mir h, below_neg k h, below_neg k (mir_mode h), Int.mul_neg]
    omega
  unfold dueM
  rw [e, e2, Int.mul_neg]
  omega
def firstM (s : Int) (m : Str) : Str := if s = 1 then "down" else if s = 2 ∧ m = "half_down" then "down" else if s = 2 ∧ m = "half_up" then "up" else if s % 2 = 1 ∧ (m = "half_up" ∨ m = "half_even") then "half_down" else m
def formO (o s : Int) (f : Str) : Int := if f = "half_even" then o % (2 * s) else o % s
def ordM (m : Str) : Nat := if m = "down" then 0 else if m = "up" then 1 else if m = "half_down" then 2 else if m = "half_up" then 3 else 4
theorem ord_d : ordM "down" = 0 := by unfold ordM; rw [if_pos rfl]
theorem ord_u : ordM "up" = 1 := by unfold ordM; rw [if_neg d_u, if_pos rfl]
theorem ord_hd : ordM "half_down" = 2 := by unfold ordM; rw [if_neg hd_d, if_neg hd_u, if_pos rfl]
theorem ord_hu : ordM "half_up" = 3 := by unfold ordM; rw [if_neg hu_d, if_neg hu_u, if_neg hu_hd, if_pos rfl]
theorem ord_he : ordM "half_even" = 4 := by unfold ordM; rw [if_neg he_d, if_neg he_u, if_neg he_hd, if_neg he_hu]
theorem u_hu : ¬ (("up" : Str) = "half_up") := by decide +kernel
theorem u_he : ¬ (("up" : Str) = "half_even") := by decide +kernel
theorem dn_hd : ¬ (("down" : Str) = "half_down") := by decide +kernel
theorem dn_hu : ¬ (("down" : Str) = "half_up") := by decide +kernel
theorem dn_he : ¬ (("down" : Str) = "half_even") := by decide +kernel
theorem dn_u : ¬ (("down" : Str) = "up") := by decide +kernel
/-- the first modes, mode by mode -/
theorem fi_one (m : Str) : firstM 1 m = "down" := by unfold firstM; rw [if_pos rfl]
theorem fi_d (s : Int) : firstM s "down" = "down" := by
  unfold firstM
  by_cases h : s = 1
  · rw [if_pos h]
  · rw [if_neg h, if_neg (fun z => dn_hd z.2), if_neg (fun z => dn_hu z.2), if_neg (fun z => z.2.elim dn_hu dn_he)]
theorem fi_u {s : Int} (h : s ≠ 1) : firstM s "up" = "up" := by
  unfold firstM
  rw [if_neg h, if_neg (fun z => u_hd z.2), if_neg (fun z => u_hu z.2), if_neg (fun z => z.2.elim u_hu u_he)]
theorem fi_hd2 : firstM 2 "half_down" = "down" := by unfold firstM; rw [if_neg (by decide), if_pos ⟨rfl, rfl⟩]
theorem fi_hd {s : Int} (h : s ≠ 1) (h2 : s ≠ 2) : firstM s "half_down" = "half_down" := by
  unfold firstM
  rw [if_neg h, if_neg (fun z => h2 z.1), if_neg (fun z => h2 z.1), if_neg (fun z => z.2.elim hd_hu hd_e)]
theorem fi_hu2 : firstM 2 "half_up" = "up" := by unfold firstM; rw [if_neg (by decide), if_neg (fun z => hu_hd z.2), if_pos ⟨rfl, rfl⟩]
theorem fi_huO {s : Int} (h : s ≠ 1) (h2 : s % 2 = 1) : firstM s "half_up" = "half_down" := by
  unfold firstM
  rw [if_neg h, if_neg (fun z => hu_hd z.2), if_neg (fun z => by have := z.1; omega), if_pos ⟨h2, .inl rfl⟩]
theorem fi_huE {s : Int} (h : s ≠ 2) (h2 : s % 2 = 0) : firstM s "half_up" = "half_up" := by
  unfold firstM
  rw [if_neg (by omega), if_neg (fun z => hu_hd z.2), if_neg (fun z => h z.1), if_neg (fun z => by have := z.1; omega)]
theorem fi_heO {s : Int} (h : s ≠ 1) (h2 : s % 2 = 1) : firstM s "half_even" = "half_down" := by
  unfold firstM
  rw [if_neg h, if_neg (fun z => he_hd z.2), if_neg (fun z => he_hu z.2), if_pos ⟨h2, .inr rfl⟩]
theorem fi_heE {s : Int} (h2 : s % 2 = 0) : firstM s "half_even" = "half_even" := by
  unfold firstM
  rw [if_neg (by omega), if_neg (fun z => he_hd z.2), if_neg (fun z => he_hu z.2), if_neg (fun z => by have := z.1; omega)]
/-- what is known of the first mode -/
structure FirstP (s : Int) (m : Str) : Prop where
  md : Mode (firstM s m)
  id : firstM s (firstM s m) = firstM s m
  od : ordM (firstM s m) ≤ ordM m
  go : ∀ q r, 0 ≤ r → r < s → goesUp (firstM s m) s q r = goesUp m s q r
  ev : firstM s m = "half_even" → s % 2 = 0
theorem first_ok {s : Int} {m : Str} (h : Mode m) (hs : 1 ≤ s) : FirstP s m := by
  have D : Mode "down" := .inl rfl
  have U : Mode "up" := .inr (.inl rfl)
  have HD : Mode "half_down" := .inr (.inr (.inl rfl))
  by_cases s1 : s = 1
  · subst s1
    refine ⟨by rw [fi_one]; exact D, by rw [fi_one, fi_one], by rw [fi_one, ord_d]; omega, fun q r r0 r1 => ?_, by rw [fi_one]; exact fun z => (dn_he z).elim⟩
    have : r = 0 := by omega
    subst this
    rw [fi_one, go_zero D (by decide), go_zero h (by decide)]
  rcases h with e | e | e | e | e <;> subst e
  · exact ⟨by rw [fi_d]; exact D, by rw [fi_d, fi_d], by rw [fi_d]; omega, fun q r _ _ => by rw [fi_d], by rw [fi_d]; exact fun z => (dn_he z).elim⟩
  · exact ⟨by rw [fi_u s1]; exact U, by rw [fi_u s1, fi_u s1], by rw [fi_u s1]; omega, fun q r _ _ => by rw [fi_u s1], by rw [fi_u s1]; exact fun z => (u_he z).elim⟩
  · by_cases s2 : s = 2
    · subst s2
      refine ⟨by rw [fi_hd2]; exact D, by rw [fi_hd2, fi_d], by rw [fi_hd2, ord_d]; omega, fun q r r0 r1 => ?_, by rw [fi_hd2]; exact fun z => (dn_he z).elim⟩
      rw [fi_hd2, go_down, go_hd, decide_eq_false (by omega)]
    · exact ⟨by rw [fi_hd s1 s2]; exact HD, by rw [fi_hd s1 s2, fi_hd s1 s2], by rw [fi_hd s1 s2]; omega, fun q r _ _ => by rw [fi_hd s1 s2], by rw [fi_hd s1 s2]; exact fun z => (hd_e z).elim⟩
  · by_cases s2 : s = 2
    · subst s2
      refine ⟨by rw [fi_hu2]; exact U, by rw [fi_hu2, fi_u s1], by rw [fi_hu2, ord_u, ord_hu]; omega, fun q r r0 r1 => ?_, by rw [fi_hu2]; exact fun z => (u_he z).elim⟩
      rw [fi_hu2, go_up, go_hu]
      exact decide_eq_decide.mpr (by omega)
    · by_cases od : s % 2 = 1
      · refine ⟨by rw [fi_huO s1 od]; exact HD, by rw [fi_huO s1 od, fi_hd s1 s2], by rw [fi_huO s1 od, ord_hd, ord_hu]; omega, fun q r r0 r1 => ?_, by rw [fi_huO s1 od]; exact fun z => (hd_e z).elim⟩
        rw [fi_huO s1 od, go_hd, go_hu]
        exact decide_eq_decide.mpr (by omega)
      · have ev : s % 2 = 0 := by omega
        exact ⟨by rw [fi_huE s2 ev]; exact .inr (.inr (.inr (.inl rfl))), by rw [fi_huE s2 ev, fi_huE s2 ev], by rw [fi_huE s2 ev]; omega, fun q r _ _ => by rw [fi_huE s2 ev], by rw [fi_huE s2 ev]; exact fun z => (hu_e z).elim⟩
  · by_cases od : s % 2 = 1
    · refine ⟨by rw [fi_heO s1 od]; exact HD, by rw [fi_heO s1 od, fi_hd s1 (by omega)], by rw [fi_heO s1 od, ord_hd, ord_he]; omega, fun q r r0 r1 => ?_, by rw [fi_heO s1 od]; exact fun z => (hd_e z).elim⟩
      rw [fi_heO s1 od, go_hd, go_he, decide_eq_false (show ¬ 2 * r = s by omega), Bool.false_and, Bool.or_false]
    · have ev : s % 2 = 0 := by omega
      exact ⟨by rw [fi_heE ev]; exact .inr (.inr (.inr (.inr rfl))), by rw [fi_heE ev, fi_heE ev], by rw [fi_heE ev]; omega, fun q r _ _ => by rw [fi_heE ev], fun _ => ev⟩
theorem go_shift {m : Str} {s q r j : Int} (h : Mode m) (hj : m ≠ "half_even" ∨ j % 2 = 0) : goesUp m s (q + j) r = goesUp m s q r := by
  rcases h with e | e | e | e | e <;> subst e
  · rw [go_down, go_down]
  · rw [go_up, go_up]
  · rw [go_hd, go_hd]
  · rw [go_hu, go_hu]
  · have z : j % 2 = 0 := hj.resolve_left (fun z => z rfl)
    rw [go_he, go_he, show (q + j) % 2 = q % 2 by omega]
/-- an offset moved by whole steps, by two of them for the even -/
theorem due_shift {o s j : Int} {m : Str} {v : Int} (h : Mode m) (hs : 1 ≤ s) (hj : m ≠ "half_even" ∨ j % 2 = 0) : dueM (o + s * j) s m v = dueM o s m v := by
  have F := fig_of (o := o + s * j) (m := m) (v := v) hs
  generalize (v - (o + s * j)) / s = q at F
  generalize (v - (o + s * j)) % s = r at F
  generalize hk : figM (o + s * j) s m v = k at F
  obtain ⟨eq, r0, r1, wh⟩ := F
  have e : figM o s m v = k + j := by
    refine fig_uniq (q := q + j) (r := r) hs ⟨by rw [Int.mul_add]; omega, r0, r1, ?_⟩
    rw [go_shift h hj]
    rcases wh with ⟨g, e⟩ | ⟨g, e⟩
    · exact .inl ⟨g, by omega⟩
    · exact .inr ⟨g, by omega⟩
  unfold dueM
  rw [e, hk, Int.mul_add]
  omega
theorem due_go {o s : Int} {m m' : Str} {v : Int} (hs : 1 ≤ s) (h : ∀ q r, 0 ≤ r → r < s → goesUp m s q r = goesUp m' s q r) : dueM o s m v = dueM o s m' v := by
  unfold dueM figM
  rw [h _ _ (Int.emod_nonneg _ (by omega)) (Int.emod_lt_of_pos _ (by omega))]
theorem due_form {o s : Int} {m : Str} (v : Int) (h : Mode m) (hs : 1 ≤ s) : dueM (formO o s (firstM s m)) s (firstM s m) v = dueM o s m v := by
  have P := first_ok h hs
  rw [← due_go hs P.go]
  unfold formO
  by_cases e : firstM s m = "half_even"
  · rw [if_pos e]
    have a := Int.mul_ediv_add_emod o (2 * s)
    have b : o % (2 * s) = o + s * (-(2 * (o / (2 * s)))) := by
      rw [Int.mul_neg, ← Int.mul_assoc, Int.mul_comm s 2]
      omega
    rw [b]
    exact due_shift P.md hs (.inr (by omega))
  · rw [if_neg e]
    have a := Int.mul_ediv_add_emod o s
    have b : o % s = o + s * (-(o / s)) := by
      rw [Int.mul_neg]
      omega
    rw [b]
    exact due_shift P.md hs (.inl e)
theorem form_bd {o s : Int} {f : Str} (hs : 1 ≤ s) : 0 ≤ formO o s f ∧ formO o s f < 2 * s ∧ (f ≠ "half_even" → formO o s f < s) := by
  unfold formO
  by_cases e : f = "half_even"
  · rw [if_pos e]
    exact ⟨Int.emod_nonneg _ (by omega), Int.emod_lt_of_pos _ (by omega), fun z => absurd e z⟩
  · rw [if_neg e]
    have := Int.emod_lt_of_pos o (show 0 < s by omega)
    exact ⟨Int.emod_nonneg _ (by omega), by omega, fun _ => this⟩
theorem form_idem {o s : Int} {f : Str} : formO (formO o s f) s f = formO o s f := by
  unfold formO
  by_cases e : f = "half_even"
  · rw [if_pos e, if_pos e, Int.emod_emod_of_dvd _ (Int.dvd_refl _)]
  · rw [if_neg e, if_neg e, Int.emod_emod_of_dvd _ (Int.dvd_refl _)]
/-- a value told by its figure and rest -/
theorem due_at {o s q r : Int} {m : Str} (hs : 1 ≤ s) (r0 : 0 ≤ r) (r1 : r < s) : dueM o s m (o + s * q + r) = o + s * q + (if goesUp m s q r = true then s else 0) := by
  unfold dueM
  by_cases g : goesUp m s q r = true
  · rw [fig_uniq (q := q) (r := r) (k := q + 1) hs ⟨by omega, r0, r1, .inl ⟨g, rfl⟩⟩, if_pos g, Int.mul_add]
    omega
  · have g' : goesUp m s q r = false := by cases h : goesUp m s q r <;> simp_all
    rw [fig_uniq (q := q) (r := r) (k := q) hs ⟨by omega, r0, r1, .inr ⟨g', rfl⟩⟩, if_neg g]
    omega
end HT
namespace HT
open PySem L2
/-- a mode that is its own first mode -/
def Fix (s : Int) (f : Str) : Prop := firstM s f = f
theorem fix_two {s : Int} {f : Str} (h : Mode f) (hf : Fix s f) (s1 : s = 1) : f = "down" := by
  unfold Fix at hf
  rw [s1, fi_one] at hf
  exact hf.symm
theorem fix_hd {s : Int} (hf : Fix s "half_down") (hs : 1 ≤ s) : 3 ≤ s := by
  unfold Fix at hf
  by_cases s1 : s = 1
  · subst s1
    rw [fi_one] at hf
    exact absurd hf dn_hd
  · by_cases s2 : s = 2
    · subst s2
      rw [fi_hd2] at hf
      exact absurd hf dn_hd
    · omega
theorem fix_hu {s : Int} (hf : Fix s "half_up") (hs : 1 ≤ s) : 4 ≤ s ∧ s % 2 = 0 := by
  unfold Fix at hf
  by_cases s1 : s = 1
  · subst s1
    rw [fi_one] at hf
    exact absurd hf dn_hu
  · by_cases s2 : s = 2
    · subst s2
      rw [fi_hu2] at hf
      exact absurd hf u_hu
    · by_cases od : s % 2 = 1
      · rw [fi_huO s1 od] at hf
        exact absurd hf hd_hu
      · omega
theorem fix_he {s : Int} (hf : Fix s "half_even") (hs : 1 ≤ s) : 2 ≤ s ∧ s % 2 = 0 := by
  unfold Fix at hf
  by_cases s1 : s = 1
  · subst s1
    rw [fi_one] at hf
    exact absurd hf dn_he
  · by_cases od : s % 2 = 1
    · rw [fi_heO s1 od] at hf
      exact absurd hf hd_e
    · omega
theorem fix_u {s : Int} (hf : Fix s "up") (hs : 1 ≤ s) : 2 ≤ s := by
  unfold Fix at hf
  by_cases s1 : s = 1
  · subst s1
    rw [fi_one] at hf
    exact absurd hf dn_u
  · omega
/-- two own first modes, none the even, that go up alike are the same -/
theorem fix_uniq {s : Int} {f g : Str} (hf : Mode f) (hg : Mode g) (Ff : Fix s f) (Fg : Fix s g) (hs : 1 ≤ s) (nf : f ≠ "half_even") (ng : g ≠ "half_even")
    (h : ∀ r, 0 ≤ r → r < s → goesUp f s 0 r = goesUp g s 0 r) : f = g := by
  have key : ∀ r, 0 ≤ r → r < s → (goesUp f s 0 r = true ↔ goesUp g s 0 r = true) := fun r a b => by rw [h r a b]
  rcases hf with e | e | e | e | e <;> rcases hg with e' | e' | e' | e' | e' <;> subst e <;> subst e' <;> first
    | rfl
    | exact absurd rfl nf
    | exact absurd rfl ng
    | skip
  · have := fix_u Fg hs
    have k := key 1 (by omega) (by omega)
    rw [go_down, go_up, decide_eq_true_eq] at k
    exact absurd (k.mpr (by omega)) (by decide)
  · have := fix_hd Fg hs
    have k := key (s - 1) (by omega) (by omega)
    rw [go_down, go_hd, decide_eq_true_eq] at k
    exact absurd (k.mpr (by omega)) (by decide)
  · have := fix_hu Fg hs
    have k := key (s - 1) (by omega) (by omega)
    rw [go_down, go_hu, decide_eq_true_eq] at k
    exact absurd (k.mpr (by omega)) (by decide)
  · have := fix_u Ff hs
    have k := key 1 (by omega) (by omega)
    rw [go_down, go_up, decide_eq_true_eq] at k
    exact absurd (k.mp (by omega)) (by decide)
  · have := fix_hd Fg hs
    have k := key 1 (by omega) (by omega)
    rw [go_up, go_hd, decide_eq_true_eq, decide_eq_true_eq] at k
    exact absurd (k.mp (by omega)) (by omega)
  · have := fix_hu Fg hs
    have k := key 1 (by omega) (by omega)
    rw [go_up, go_hu, decide_eq_true_eq, decide_eq_true_eq] at k
    exact absurd (k.mp (by omega)) (by omega)
  · have := fix_hd Ff hs
    have k := key (s - 1) (by omega) (by omega)
    rw [go_down, go_hd, decide_eq_true_eq] at k
    exact absurd (k.mp (by omega)) (by decide)
  · have := fix_hd Ff hs
    have k := key 1 (by omega) (by omega)
    rw [go_up, go_hd, decide_eq_true_eq, decide_eq_true_eq] at k
    exact absurd (k.mpr (by omega)) (by omega)
  · have := fix_hu Fg hs
    have k := key (s / 2) (by omega) (by omega)
    rw [go_hd, go_hu, decide_eq_true_eq, decide_eq_true_eq] at k
    exact absurd (k.mpr (by omega)) (by omega)
  · have := fix_hu Ff hs
    have k := key (s - 1) (by omega) (by omega)
    rw [go_down, go_hu, decide_eq_true_eq] at k
    exact absurd (k.mp (by omega)) (by decide)
  · have := fix_hu Ff hs
    have k := key 1 (by omega) (by omega)
    rw [go_up, go_hu, decide_eq_true_eq, decide_eq_true_eq] at k
    exact absurd (k.mpr (by omega)) (by omega)
  · have := fix_hu Ff hs
    have k := key (s / 2) (by omega) (by omega)
    rw [go_hd, go_hu, decide_eq_true_eq, decide_eq_true_eq] at k
    exact absurd (k.mp (by omega)) (by omega)
theorem tie_he {s : Int} (q : Int) (ev : s % 2 = 0) : goesUp "half_even" s q (s / 2) = decide (q % 2 = 1) := by
  rw [go_he, decide_eq_false (by omega), decide_eq_true (show 2 * (s / 2) = s by omega), Bool.false_or, Bool.true_and]
/-- an even side and another one do not write alike -/
theorem he_not {s a a' : Int} {g : Str} (hg : Mode g) (ng : g ≠ "half_even") (hs : 1 ≤ s) (Fe : Fix s "half_even") (s6 : s ≤ 6) (a0 : 0 ≤ a) (a1 : a < 2 * s) (j : Int) (hj : a = a' + s * j)
    (h : ∀ v, 0 ≤ v → v < 24 → dueM a s "half_even" v = dueM a' s g v) : False := by
  obtain ⟨s2, ev⟩ := fix_he Fe hs
  have hr0 : 0 ≤ s / 2 := by omega
  have hr1 : s / 2 < s := by omega
  have h1 := h (a + s * 0 + s / 2) (by omega) (by omega)
  have h2 := h (a + s * 1 + s / 2) (by omega) (by omega)
  rw [due_at hs hr0 hr1, tie_he _ ev] at h1 h2
  rw [show a + s * 0 + s / 2 = a' + s * j + s / 2 by omega, due_at hs hr0 hr1] at h1
  rw [show a + s * 1 + s / 2 = a' + s * (j + 1) + s / 2 by rw [Int.mul_add]; omega, due_at hs hr0 hr1, go_shift hg (.inl ng)] at h2
  rw [if_neg (by decide)] at h1
  rw [if_pos (by decide)] at h2
  rw [Int.mul_add, Int.mul_one] at h2
  generalize s * j = y at *
  split at h1 <;> split at h2 <;> first | omega | contradiction
theorem form_eq {o o' s : Int} {m m' : Str} (hm : Mode m) (hm' : Mode m') (hs : 1 ≤ s) (s6 : s ≤ 6) (h : ∀ v, 0 ≤ v → v < 24 → dueM o s m v = dueM o' s m' v) :
    formO o s (firstM s m) = formO o' s (firstM s m') ∧ firstM s m = firstM s m' := by
  have P := first_ok hm hs
  have P' := first_ok hm' hs
  have h' : ∀ v, 0 ≤ v → v < 24 → dueM (formO o s (firstM s m)) s (firstM s m) v = dueM (formO o' s (firstM s m')) s (firstM s m') v := fun v a b => by
    rw [due_form v hm hs, due_form v hm' hs]
    exact h v a b
  obtain ⟨a0, a1, a2⟩ := form_bd (o := o) (f := firstM s m) hs
  obtain ⟨b0, b1, b2⟩ := form_bd (o := o') (f := firstM s m') hs
  have Ff : Fix s (firstM s m) := P.id
  have Fg : Fix s (firstM s m') := P'.id
  have md := P.md
  have md' := P'.md
  generalize formO o s (firstM s m) = a at *
  generalize formO o' s (firstM s m') = a' at *
  generalize firstM s m = f at *
  generalize firstM s m' = g at *
  -- the standing values are the same
  have st : (a - a') % s = 0 := by
    rw [due_eq md' hs, ← h' a a0 (by omega)]
    exact (due_eq md hs).mp (by rw [Int.sub_self]; exact Int.zero_emod _)
  obtain ⟨j, hj⟩ : ∃ j, a = a' + s * j := ⟨(a - a') / s, by have := Int.mul_ediv_add_emod (a - a') s; omega⟩
  by_cases e : f = "half_even"
  · by_cases e' : g = "half_even"
    · subst e
      subst e'
      refine ⟨?_, rfl⟩
      obtain ⟨s2, ev⟩ := fix_he Ff hs
      have h1 := h' (a + s * 0 + s / 2) (by omega) (by omega)
      rw [due_at hs (by omega) (by omega), tie_he _ ev, show a + s * 0 + s / 2 = a' + s * j + s / 2 by omega, due_at hs (by omega) (by omega), tie_he _ ev] at h1
      rw [if_neg (by decide)] at h1
      have j2 : -2 < j ∧ j < 2 := by
        constructor
        · apply Classical.byContradiction
          intro z
          have := Int.mul_le_mul_of_nonneg_left (show j ≤ -2 by omega) (show 0 ≤ s by omega)
          omega
        · apply Classical.byContradiction
          intro z
          have := Int.mul_le_mul_of_nonneg_left (show 2 ≤ j by omega) (show 0 ≤ s by omega)
          omega
      have : j = 0 := by
        apply Classical.byContradiction
        intro z
        rw [if_pos (decide_eq_true (by omega))] at h1
        omega
      subst this
      omega
    · subst e
      exact (he_not md' e' hs Ff s6 a0 a1 j hj h').elim
  · by_cases e' : g = "half_even"
    · subst e'
      exact (he_not md e hs Fg s6 b0 b1 (-j) (by rw [Int.mul_neg]; omega) (fun v x y => (h' v x y).symm)).elim
    · have a3 := a2 e
      have b3 := b2 e'
      have : j = 0 := by
        apply Classical.byContradiction
        intro z
        rcases (show j ≤ -1 ∨ 1 ≤ j by omega) with z | z
        · have := Int.mul_le_mul_of_nonneg_left z (show 0 ≤ s by omega)
          omega
        · have := Int.mul_le_mul_of_nonneg_left z (show 0 ≤ s by omega)
          omega
      subst this
      have ea : a = a' := by omega
      subst ea
      refine ⟨rfl, fix_uniq md md' Ff Fg hs e e' fun r r0 r1 => ?_⟩
      have h1 := h' (a + s * 0 + r) (by omega) (by omega)
      rw [due_at hs r0 r1, due_at hs r0 r1] at h1
      have hx : (if goesUp f s 0 r = true then s else 0) = (if goesUp g s 0 r = true then s else 0) := by omega
      by_cases x : goesUp f s 0 r = true
      · rw [if_pos x] at hx
        by_cases y : goesUp g s 0 r = true
        · rw [x, y]
        · rw [if_neg y] at hx
          omega
      · rw [if_neg x] at hx
        by_cases y : goesUp g s 0 r = true
        · rw [if_pos y] at hx
          omega
        · rw [Bool.not_eq_true] at x y
          rw [x, y]
end HT
namespace HT
open PySem L2
structure MirT (K : PySem.W.Frag) (w : World) (mg : Str → Option Value) (aR : Addr) : Prop where
  gR : mg "MIRRORED" = some (.ref aR)
  dR : ∀ m, Mode m → KDct K w aR m (.str (mir m))
def spMirror : Sp := fun vs H Q _ => ∃ (p : Addr) (o s : Int) (m : Str), vs = [.ref p] ∧ H p = some (sideV o s m) ∧ SideP o s m ∧
  ∀ (d : Addr) (H' : Hp), Same H H' → H d = none → H' d = some (sideV (-o) s (mir m)) → Q (.ref d) H'
def spFirst : Sp := fun vs H Q _ => ∃ (s : Int) (m : Str), vs = [.int s, .str m] ∧ 1 ≤ s ∧ Mode m ∧ ∀ H' : Hp, Same H H' → Q (.str (firstM s m)) H'
def spForm : Sp := fun vs H Q _ => ∃ (p : Addr) (o s : Int) (m : Str), vs = [.ref p] ∧ H p = some (sideV o s m) ∧ SideP o s m ∧
  ∀ (d : Addr) (H' : Hp), Same H H' → H d = none → H' d = some (sideV (formO o s (firstM s m)) s (firstM s m)) → Q (.ref d) H'
theorem side_mir {o s : Int} {m : Str} (S : SideP o s m) : SideP (-o) s (mir m) := by
  obtain ⟨o0, o1, s0, s1, md⟩ := S
  exact ⟨by omega, by omega, s0, s1, mir_mode md⟩
theorem side_form {o s : Int} {m : Str} (S : SideP o s m) : SideP (formO o s (firstM s m)) s (firstM s m) := by
  obtain ⟨o0, o1, s0, s1, md⟩ := S
  obtain ⟨a, b, _⟩ := form_bd (o := o) (f := firstM s m) s0
  exact ⟨by omega, by omega, s0, s1, (first_ok md s0).md⟩
theorem in_two (m : Str) : inV (.str m) [V.str "half_up", .str "half_even"] = decide (m = "half_up" ∨ m = "half_even") := by
  show (eqV (V.str "half_up") (V.str m) || (eqV (V.str "half_even") (V.str m) || false)) = _
  have e : ∀ a b : Str, eqV (V.str a) (V.str b) = decide (a = b) := fun a b => by
    show (a == b) = decide (a = b)
    by_cases h : a = b
    · rw [decide_eq_true h, h, beq_self_eq_true]
    · rw [decide_eq_false h]
      exact beq_eq_false_iff_ne.mpr h
  rw [e, e, Bool.or_false]
  by_cases a : m = "half_up"
  · rw [decide_eq_true a.symm, decide_eq_true (Or.inl a)]
    rfl
  · by_cases b : m = "half_even"
    · rw [decide_eq_true b.symm, decide_eq_true (Or.inr b), Bool.or_true]
    · rw [decide_eq_false (fun z => a z.symm), decide_eq_false (fun z => b z.symm), decide_eq_false (fun z => z.elim a b)]
      rfl
section
variable {P : Program} {w : World} {K : PySem.W.Frag} {mg : Str → Option Value} {base : Heap} {aM aR fV fC fB fS : Addr} {dV dC dB dS : FuncData}
theorem ok_mirror {f : Addr} {fd : FuncData} (F : Fun K "mirror" "mirror" s_mirror f fd) (R : MirT K w mg aR) (C : Cal P w K mg base "check_side" 3 ["side"] spCheckSide fC dC) : FnOk P w K mg base CX0 4 f fd ["side"] spMirror := by
  refine F.ok sc_mirror (fun vs H Q E h => ?_) (fun cdv A outer s H vs Q E hr h => ?_)
  · obtain ⟨p, o, s, m, rfl, _⟩ := h
    rfl
  · obtain ⟨p, o, s, m, rfl, hp, S, q⟩ := h
    have nd := sc_mirror.nd
    refine ⟨_, pss_cons (ps_expr (pcl C hr (by decide) (by rfl) (pa_cons (pv 0) pa_nil)))
      (pss_cons (ps_asg (pv 0) (pg_tup (by rfl) (pgs_cons (pg_name (i := 1) nd rfl (Or.inl rfl)) (pgs_cons (pg_name (i := 2) nd rfl (Or.inl rfl)) (pgs_cons (pg_name (i := 3) nd rfl (Or.inl rfl)) pgs_nil)))))
      (pss_one (ps_ret (pe_tup (pa_cons (pe_un un_neg (pv 1)) (pa_cons (pv 2) (pa_cons (pe_ix ix_kdict (pe_glob (v := .ref aR) (by rfl) R.gR rfl) (pv 3) (fun _ _ => rfl)) pa_nil))))))), ?_⟩
    walk_at "rd"
    refine ⟨p, o, s, m, rfl, hp, S, ?_⟩
    walk_at "rd"
    refine ⟨p, _, rfl, SqT.of hp, rfl, _, _, rfl, _, _, rfl, _, _, rfl, rfl, ?_⟩
    walk_at "rd"
    refine ⟨aR, m, _, rfl, rfl, R.dR m S.md, ?_⟩
    refine ⟨(by show 3 ≤ sizeLine; decide), fun d nd' => ?_⟩
    exact q d _ (fun b u z => (upd_ne (ne_of_none z nd')).trans z) nd' upd_same
theorem ok_first {f : Addr} {fd : FuncData} (F : Fun K "_first_mode" "_first_mode" s_first_mode f fd) : FnOk P w K mg base CX0 1 f fd ["step", "mode"] spFirst := by
  refine F.ok sc_first_mode (fun vs H Q E h => ?_) (fun cdv A outer s H vs Q E hr h => ?_)
  · obtain ⟨s, m, rfl, _⟩ := h
    rfl
  · obtain ⟨s, m, rfl, s0, md, q⟩ := h
    refine ⟨_, pss_cons (ps_if (pt_cmpR op_eq (pv 0) pe_int (nomark _)) (pss_one (ps_ret pe_str)) pss_nil)
      (pss_cons (ps_if (PW.pt (pw_and (pt_cmpR op_eq (pv 0) pe_int (nomark _)) (pw_and1 (pt_cmpR op_eq (pv 1) pe_str (nomark _))))) (pss_one (ps_ret pe_str)) pss_nil)
      (pss_cons (ps_if (PW.pt (pw_and (pt_cmpR op_eq (pv 0) pe_int (nomark _)) (pw_and1 (pt_cmpR op_eq (pv 1) pe_str (nomark _))))) (pss_one (ps_ret pe_str)) pss_nil)
      (pss_cons (ps_if (PW.pt (pw_and (pt_cmpR op_eq (pe_op op_mod (pv 0) pe_int) pe_int (nomark _)) (pw_and1 (pt_cmpR op_in_seq (pv 1) (pe_tup (pa_cons pe_str (pa_cons pe_str pa_nil))) (by rfl))))) (pss_one (ps_ret pe_str)) pss_nil)
      (pss_one (ps_ret (pv 1)))))), ?_⟩
    have fin : ∀ (x : Str) (H' : Hp), firstM s m = x → Same H H' → Q (.str x) H' := fun x H' e sm => by
      rw [← e]
      exact q H' sm
    walk_at "rd"
    refine ⟨rfl, ?_⟩
    walk_at "rd"
    refine ite2 (fun h => ?_) (fun h1 => ?_)
    · walk_at "rd"
      exact fin "down" H (by rw [int_t h]; exact fi_one m) (Same.refl H)
    have n1 := int_f h1
    walk_at "rd"
    refine ⟨rfl, ?_⟩
    walk_at "rd"
    refine ite2 (fun h => ?_) (fun h2 => ?_)
    · have e2 := int_t h
      walk_at "rd"
      refine ⟨rfl, ?_⟩
      walk_at "rd"
      refine ite2 (fun g => ?_) (fun g1 => ?_)
      · walk_at "rd"
        exact fin "down" H (by rw [str_t g, e2]; exact fi_hd2) (Same.refl H)
      walk_at "rd"
      refine ⟨rfl, ?_⟩
      walk_at "rd"
      refine ite2 (fun _ => ?_) (fun z => absurd h z)
      walk_at "rd"
      refine ⟨rfl, ?_⟩
      walk_at "rd"
      refine ite2 (fun g => ?_) (fun g2 => ?_)
      · walk_at "rd"
        exact fin "up" H (by rw [str_t g, e2]; exact fi_hu2) (Same.refl H)
      walk_at "rd"
      refine ⟨(by show (0 : Int) < 2; decide), ?_⟩
      walk_at "rd"
      refine ⟨rfl, ?_⟩
      walk_at "rd"
      refine ite2 (fun g => absurd (int_t g) (by omega)) (fun _ => ?_)
      walk_at "rd"
      refine fin m H ?_ (Same.refl H)
      unfold firstM
      rw [if_neg n1, if_neg (fun z => str_f g1 z.2), if_neg (fun z => str_f g2 z.2), if_neg (fun z => by have := z.1; omega)]
    · have n2 := int_f h2
      walk_at "rd"
      refine ⟨rfl, ?_⟩
      walk_at "rd"
      refine ite2 (fun z => absurd z h2) (fun _ => ?_)
      walk_at "rd"
      refine ⟨(by show (0 : Int) < 2; decide), ?_⟩
      walk_at "rd"
      refine ⟨rfl, ?_⟩
      walk_at "rd"
      refine ite2 (fun g => ?_) (fun g => ?_)
      · have od := int_t g
        walk_at "rd"
        refine ⟨(by show 2 ≤ sizeLine; decide), fun d nd' => ?_⟩
        refine ⟨d, _, rfl, .inr (SqT.of upd_same), rfl, by decide, ?_⟩
        walk_at "rd"
        have sm : ∀ o, Same H (upd H d o) := fun o b u z => (upd_ne (ne_of_none z nd')).trans z
        refine ite2 (fun k => ?_) (fun k => ?_)
        · walk_at "rd"
          have k' : inV (.str m) [V.str "half_up", .str "half_even"] = true := k
          rw [in_two] at k'
          refine fin "half_down" _ ?_ (sm _)
          unfold firstM
          rw [if_neg n1, if_neg (fun z => n2 z.1), if_neg (fun z => n2 z.1), if_pos ⟨od, of_decide_eq_true k'⟩]
        · walk_at "rd"
          have k' : ¬ inV (.str m) [V.str "half_up", .str "half_even"] = true := k
          rw [in_two] at k'
          refine fin m _ ?_ (sm _)
          unfold firstM
          rw [if_neg n1, if_neg (fun z => n2 z.1), if_neg (fun z => n2 z.1), if_neg (fun z => k' (decide_eq_true z.2))]
      · have od := int_f g
        walk_at "rd"
        refine fin m H ?_ (Same.refl H)
        unfold firstM
        rw [if_neg n1, if_neg (fun z => n2 z.1), if_neg (fun z => n2 z.1), if_neg (fun z => od z.1)]
theorem ok_form {f : Addr} {fd : FuncData} (F : Fun K "form" "form" s_form f fd) (C : Cal P w K mg base "check_side" 3 ["side"] spCheckSide fC dC) (M : Cal P w K mg base "_first_mode" 1 ["step", "mode"] spFirst fB dB) : FnOk P w K mg base CX0 4 f fd ["side"] spForm := by
  refine F.ok sc_form (fun vs H Q E h => ?_) (fun cdv A outer s H vs Q E hr h => ?_)
  · obtain ⟨p, o, s, m, rfl, _⟩ := h
    rfl
  · obtain ⟨p, o, s, m, rfl, hp, S, q⟩ := h
    have nd := sc_form.nd
    refine ⟨_, pss_cons (ps_expr (pcl C hr (by decide) (by rfl) (pa_cons (pv 0) pa_nil)))
      (pss_cons (ps_asg (pv 0) (pg_tup (by rfl) (pgs_cons (pg_name (i := 1) nd rfl (Or.inl rfl)) (pgs_cons (pg_name (i := 2) nd rfl (Or.inl rfl)) (pgs_cons (pg_name (i := 3) nd rfl (Or.inl rfl)) pgs_nil)))))
      (pss_cons (ps_set (i := 4) nd rfl (Or.inl rfl) (pcl M hr (by decide) (by rfl) (pa_cons (pv 2) (pa_cons (pv 3) pa_nil))))
      (pss_cons (ps_if (pt_cmpR op_eq (pv 4) pe_str (nomark _)) (pss_one (ps_ret (pe_tup (pa_cons (pe_op op_mod (pv 1) (pe_op op_mul pe_int (pv 2))) (pa_cons (pv 2) (pa_cons (pv 4) pa_nil)))))) pss_nil)
      (pss_one (ps_ret (pe_tup (pa_cons (pe_op op_mod (pv 1) (pv 2)) (pa_cons (pv 2) (pa_cons (pv 4) pa_nil))))))))), ?_⟩
    have s0 := S.s0
    walk_at "rd"
    refine ⟨p, o, s, m, rfl, hp, S, ?_⟩
    walk_at "rd"
    refine ⟨p, _, rfl, SqT.of hp, rfl, _, _, rfl, _, _, rfl, _, _, rfl, rfl, ?_⟩
    walk_at "rd"
    refine ⟨s, m, rfl, s0, S.md, fun H1 m1 => ?_⟩
    walk_at "rd"
    refine ⟨rfl, ?_⟩
    walk_at "rd"
    refine ite2 (fun h => ?_) (fun h => ?_)
    · have e := str_t h
      walk_at "rd"
      refine ⟨.inl ⟨by decide, by decide⟩, ?_⟩
      walk_at "rd"
      refine ⟨(by show (0 : Int) < 2 * s; omega), ?_⟩
      walk_at "rd"
      refine ⟨(by show 3 ≤ sizeLine; decide), fun d nd' => ?_⟩
      have e2 : formO o s (firstM s m) = o % (2 * s) := by unfold formO; rw [if_pos e]
      refine q d _ (fun b u z => (upd_ne (ne_of_none (m1 _ _ z) nd')).trans (m1 _ _ z)) (m1.free nd') ?_
      rw [e2]
      exact upd_same
    · have e := str_f h
      walk_at "rd"
      refine ⟨(by omega), ?_⟩
      walk_at "rd"
      refine ⟨(by show 3 ≤ sizeLine; decide), fun d nd' => ?_⟩
      have e2 : formO o s (firstM s m) = o % s := by unfold formO; rw [if_neg e]
      refine q d _ (fun b u z => (upd_ne (ne_of_none (m1 _ _ z) nd')).trans (m1 _ _ z)) (m1.free nd') ?_
      rw [e2]
      exact upd_same
end
end HT
namespace HT
open PySem L2
def sideD (o s : Int) (m : Str) : PyData := .tuple [.int o, .int s, .str m]
theorem dpSide {K : PySem.W.Frag} {H : Hp} {p : Addr} {o s : Int} {m : Str} (h : H p = some (sideV o s m)) : Dp K H (.ref p) (sideD o s m) := .tup (SqT.of h) (.cons (.int _) (.cons (.int _) (.cons (.str _) .nil)))
theorem shaped_side {o s : Int} {m : Str} (h : Mode m) : SeqAt.shaped (sideD o s m) = true := by
  have key : ∀ x : Str, PyData.canLay0 (.str x) = true → SeqAt.shaped (sideD o s x) = true := fun x hx => by
    show ((true && (true && (PyData.canLay0 (.str x) && true))) && true) = true
    rw [hx]
    rfl
  rcases h with e | e | e | e | e <;> subst e <;> exact key _ (by decide +kernel)
theorem eqv_side (o s o' s' : Int) (m m' : Str) : PyData.eqv (sideD o s m) (sideD o' s' m') = decide (o = o' ∧ s = s' ∧ m = m') := by
  unfold sideD
  simp only [PyData.eqv, PyData.eqvAll, Bool.and_true]
  by_cases a : o = o'
  · by_cases b : s = s'
    · by_cases c : m = m'
      · subst a; subst b; subst c; simp
      · subst a; subst b; simp [c]
    · subst a; simp [b]
  · simp [a]
def wordsV : List V := [.str "down", .str "half_down", .str "half_even", .str "half_up", .str "up"]
/-- where a mode stands in a list of texts -/
structure Idx (xs : List V) (m : Str) (j : Nat) : Prop where
  at' : xs[j]? = some (.str m)
  no : ∀ (n : Nat) (z : V), n < j → xs[n]? = some z → eqV z (.str m) = false
theorem idx_of {xs : List V} {m : Str} {j : Nat} (h : xs[j]? = some (.str m)) (no : ((xs.take j).all fun z => !eqV z (.str m)) = true) : Idx xs m j := by
  refine ⟨h, fun n z hn hz => ?_⟩
  have hm : z ∈ xs.take j := by
    have : (xs.take j)[n]? = some z := by rw [List.getElem?_take, if_pos hn]; exact hz
    exact List.mem_of_getElem? this
  have := List.all_eq_true.mp no z hm
  simpa using this
theorem words_ix {m : Str} (h : Mode m) : ∃ j : Nat, Idx wordsV m j ∧ atI wordsV.reverse ((j : Nat) : Int) = some (.str (mir m)) := by
  rcases h with e | e | e | e | e <;> subst e
  · exact ⟨0, idx_of rfl (by decide +kernel), by rw [mir_d]; rfl⟩
  · exact ⟨4, idx_of rfl (by decide +kernel), by rw [mir_u]; rfl⟩
  · exact ⟨1, idx_of rfl (by decide +kernel), by rw [mir_hd]; rfl⟩
  · exact ⟨3, idx_of rfl (by decide +kernel), by rw [mir_hu]; rfl⟩
  · exact ⟨2, idx_of rfl (by decide +kernel), by rw [mir_he]; rfl⟩
theorem modes_ix {m : Str} (h : Mode m) : Idx modesV m (ordM m) := by
  rcases h with e | e | e | e | e <;> subst e
  · rw [ord_d]; exact idx_of rfl (by decide +kernel)
  · rw [ord_u]; exact idx_of rfl (by decide +kernel)
  · rw [ord_hd]; exact idx_of rfl (by decide +kernel)
  · rw [ord_hu]; exact idx_of rfl (by decide +kernel)
  · rw [ord_he]; exact idx_of rfl (by decide +kernel)
theorem eqV_self (m : Str) : eqV (.str m) (.str m) = true := by
  show (m == m) = true
  exact beq_self_eq_true m
def spMirFits : Sp := fun vs H Q _ => ∃ (p : Addr) (o s : Int) (m : Str) (v : Int), vs = [.ref p, .int v] ∧ H p = some (sideV o s m) ∧ SideP o s m ∧ Bd2 v ∧ ∀ H', Same H H' → Q (.bl true) H'
section
variable {P : Program} {w : World} {K : PySem.W.Frag} {mg : Str → Option Value} {base : Heap} {aM aR fC fM fH fA : Addr} {dC dM dH dA : FuncData}
theorem ok_mirror_fits {f : Addr} {fd : FuncData} (F : Fun K "_law_mirror_fits" "_law_mirror_fits" s_L_mirror_fits f fd) (T : SideT K mg aM) (C : Cal P w K mg base "check_side" 3 ["side"] spCheckSide fC dC) (Mi : Cal P w K mg base "mirror" 4 ["side"] spMirror fM dM)
    (Ha : Cal P w K mg base "handed" 5 ["side", "value"] spDue fH dH) (A' : Cal P w K mg base "_law_handed" 2 ["_law_side_here", "_law_value"] spDue fA dA) :
    FnOk P w K mg base CX0 6 f fd ["_law_one", "_law_value"] spMirFits := by
  refine F.ok sc_L_mirror_fits (fun vs H Q E h => ?_) (fun cdv A outer s H vs Q E hr h => ?_)
  · obtain ⟨p, o, s, m, v, rfl, _⟩ := h
    rfl
  · obtain ⟨p, o, s, m, v, rfl, hp, S, hv, q⟩ := h
    have nd := sc_L_mirror_fits.nd
    refine ⟨_, pss_cons (ps_set (i := 2) nd rfl (Or.inl rfl) (pcl Mi hr (by decide) (by rfl) (pa_cons (pv 0) pa_nil)))
      (pss_cons (ps_if (PW.pt (pw_or (pt_not (pt_val (pe_callB call_isi (by rfl) T.isi (by decide +kernel) (pa_cons (pv 2) (pa_cons (pe_bltn (v := .ty "tuple") (by rfl) T.tuple (by decide +kernel) rfl) pa_nil)))))
        (pw_or (pt_cmpR op_ne (pe_callB call_len_seq (by rfl) T.len PySem.boot_len (pa_cons (pv 2) pa_nil)) pe_int (nomark _))
        (pw_or (pt_cmpR op_ne (pe_ix ix_tup (pv 2) pe_int (fun _ _ => rfl)) (pe_un un_neg (pe_ix ix_tup (pv 0) pe_int (fun _ _ => rfl))) (nomark _))
        (pw_or1 (pt_cmpR op_ne (pe_ix ix_tup (pv 2) pe_int (fun _ _ => rfl)) (pe_ix ix_tup (pv 0) pe_int (fun _ _ => rfl)) (nomark _))))))) (pss_one (ps_ret pe_bl)) pss_nil)
      (pss_cons (ps_set (i := 3) nd rfl (Or.inl rfl) (pe_lst (pa_cons pe_str (pa_cons pe_str (pa_cons pe_str (pa_cons pe_str (pa_cons pe_str pa_nil)))))))
      (pss_cons (ps_if (pt_cmpR op_ne (pe_ix ix_tup (pv 2) pe_int (fun _ _ => rfl)) (pe_ix ix_list (pe_revL (pv 3)) (pe_bm PySem.F.plainAttrs_list PySem.F.slot_list_index PySem.F.type_list_index mt_index (pv 3) (pa_cons (pe_ix ix_tup (pv 0) pe_int (fun _ _ => rfl)) pa_nil)) (fun _ _ => rfl)) (nomark _)) (pss_one (ps_ret pe_bl)) pss_nil)
      (pss_one (ps_ret (pe_and (pe_cmpR op_isN (pcl C hr (by decide) (by rfl) (pa_cons (pv 2) pa_nil)) pe_non (nomark _)) (pe_and (pe_cmpR (op_eqD hr.units) (pcl Mi hr (by decide) (by rfl) (pa_cons (pv 2) pa_nil)) (pv 0) (nomark _))
        (pe_one (pe_cmpR op_eq (pcl Ha hr (by decide) (by rfl) (pa_cons (pv 2) (pa_cons (pe_un un_neg (pv 1)) pa_nil))) (pe_un un_neg (pcl A' hr (by decide) (by rfl) (pa_cons (pv 0) (pa_cons (pv 1) pa_nil)))) (nomark _)))))))))), ?_⟩
    have S' := side_mir S
    obtain ⟨j, ix, hj⟩ := words_ix S.md
    walk_at "rd"
    refine ⟨p, o, s, m, rfl, hp, S, fun d H1 m1 nd1 hd => ?_⟩
    have hp1 := m1 _ _ hp
    walk_at "rd"
    refine ⟨_, _, _, _, _, rfl, .ty "tuple", .base (.tup hd), kit_ty (r := true) (by decide +kernel), ?_⟩
    walk_at "rd"
    refine ⟨d, _, rfl, .inr (SqT.of hd), rfl, ?_⟩
    walk_at "rd"
    refine ⟨d, _, 0, _, rfl, rfl, SqT.of hd, rfl, ?_⟩
    walk_at "rd"
    refine ⟨p, _, 0, _, rfl, rfl, SqT.of hp1, rfl, ?_⟩
    walk_at "rd"
    refine ⟨rfl, ?_⟩
    walk_at "rd"
    refine iteNS rfl ?_
    walk_at "rd"
    refine ⟨d, _, 1, _, rfl, rfl, SqT.of hd, rfl, ?_⟩
    walk_at "rd"
    refine ⟨p, _, 1, _, rfl, rfl, SqT.of hp1, rfl, ?_⟩
    refine ⟨rfl, ?_⟩
    walk_at "rd"
    refine iteNS rfl ?_
    walk_at "rd"
    refine ⟨(by show 5 ≤ sizeLine; decide), fun l nl => ?_⟩
    have hd2 := (upd_ne (o := .lst wordsV) (ne_of_none hd nl)).trans hd
    have hp2 := (upd_ne (o := .lst wordsV) (ne_of_none hp1 nl)).trans hp1
    have hl2 : upd H1 l (.lst wordsV) l = some (.lst wordsV) := upd_same
    have m2 : Same H (upd H1 l (.lst wordsV)) := fun b u z => (upd_ne (ne_of_none (m1 _ _ z) nl)).trans (m1 _ _ z)
    walk_at "rd"
    refine ⟨d, _, 2, _, rfl, rfl, SqT.of hd2, rfl, ?_⟩
    walk_at "rd"
    refine ⟨l, _, rfl, SqL.of hl2, fun r nr => ?_⟩
    have hp3 := (upd_ne (o := .lst wordsV.reverse) (ne_of_none hp2 nr)).trans hp2
    have hd3 := (upd_ne (o := .lst wordsV.reverse) (ne_of_none hd2 nr)).trans hd2
    have hl3 := (upd_ne (o := .lst wordsV.reverse) (ne_of_none hl2 nr)).trans hl2
    have hr3 : upd (upd H1 l (.lst wordsV)) r (.lst wordsV.reverse) r = some (.lst wordsV.reverse) := upd_same
    have m3 : Same H (upd (upd H1 l (.lst wordsV)) r (.lst wordsV.reverse)) := fun b u z => (upd_ne (ne_of_none (m2 _ _ z) nr)).trans (m2 _ _ z)
    walk_at "rd"
    refine ⟨.inl ⟨rfl, _, SqL.of hl3⟩, ?_⟩
    walk_at "rd"
    refine ⟨p, _, 2, _, rfl, rfl, SqT.of hp3, rfl, ?_⟩
    refine ⟨l, wordsV, .str m, j, .str m, rfl, rfl, SqL.of hl3, rfl, by decide +kernel, ix.at', eqV_self m, ix.no, ?_⟩
    refine ⟨r, _, _, _, rfl, rfl, SqL.of hr3, hj, ?_⟩
    refine ⟨rfl, ?_⟩
    walk_at "rd"
    refine iteNS rfl ?_
    walk_at "rd"
    refine ⟨d, -o, s, mir m, rfl, hd3, S', ?_⟩
    refine ⟨rfl, ?_⟩
    walk_at "rd"
    refine ⟨d, -o, s, mir m, rfl, hd3, S', fun d4 H4 m4 nd4 hd4 => ?_⟩
    have m34 := m3.trans m4
    walk_at "rd"
    rw [Int.neg_neg, mir_mir S.md] at hd4
    refine ⟨_, _, dpSide hd4, dpSide (m34 _ _ hp), shaped_side S.md, shaped_side S.md, ?_⟩
    have ee : PyData.eqv (sideD o s m) (sideD o s m) = true := by rw [eqv_side]; exact decide_eq_true ⟨rfl, rfl, rfl⟩
    rw [ee]
    walk_at "rd"
    refine ⟨d, -o, s, mir m, -v, rfl, m4 _ _ hd3, S', (by unfold Bd2 at hv; unfold Bd; omega), fun H5 m5 => ?_⟩
    have m35 := m34.trans m5
    walk_at "rd"
    refine ⟨p, o, s, m, v, rfl, m35 _ _ hp, S, bd_of2 hv, fun H6 m6 => ?_⟩
    walk_at "rd"
    refine ⟨rfl, ?_⟩
    have z := q _ (m35.trans m6)
    rw [← (decide_eq_true (congrArg V.int (due_mirror (o := o) (v := v) S.md S.s0)) : decide (V.int (dueM (-o) s (mir m) (-v)) = V.int (-dueM o s m v)) = true)] at z
    exact z
end
end HT
namespace HT
open PySem L2
theorem ord_inj {a b : Str} (ha : Mode a) (hb : Mode b) (h : ordM a = ordM b) : a = b := by
  rcases ha with e | e | e | e | e <;> rcases hb with e' | e' | e' | e' | e' <;> subst e <;> subst e' <;> first
    | rfl
    | (simp only [ord_d, ord_u, ord_hd, ord_hu, ord_he] at h; exact absurd h (by decide))
theorem half_cut {m : Str} (h : Mode m) : cutS m none (some 4) = "half" ↔ half m := by
  refine ⟨half_mode h, fun z => ?_⟩
  rcases z with e | e | e <;> subst e <;> decide +kernel
theorem first_gt1 {s : Int} {m : Str} (hs : 2 < s) (od : s % 2 = 1) (h : half m) : firstM s m = "half_down" := by
  rcases h with e | e | e <;> subst e
  · rw [fi_hd (by omega) (by omega)]
  · rw [fi_huO (by omega) od]
  · rw [fi_heO (by omega) od]
theorem first_gt0 {s : Int} {m : Str} (h : Mode m) (hs : 2 < s) (n : ¬ (s % 2 = 1 ∧ half m)) : firstM s m = m := by
  rcases h with e | e | e | e | e <;> subst e
  · rw [fi_d]
  · rw [fi_u (by omega)]
  · rw [fi_hd (by omega) (by omega)]
  · rw [fi_huE (by omega) (by have : ¬ s % 2 = 1 := fun z => n ⟨z, .inr (.inl rfl)⟩; omega)]
  · rw [fi_heE (by have : ¬ s % 2 = 1 := fun z => n ⟨z, .inr (.inr rfl)⟩; omega)]
def spFormFits : Sp := fun vs H Q _ => ∃ (p l : Addr) (o s : Int) (m : Str) (ns : List Int), vs = [.ref p, .ref l] ∧ H p = some (sideV o s m) ∧ SideP o s m ∧ H l = some (.lst (ns.map V.int)) ∧ (∀ n ∈ ns, Bd2 n) ∧ ∀ H', Same H H' → Q (.bl true) H'
theorem getI {ns : List Int} {i : Nat} {x : V} (h : (ns.map V.int)[i]? = some x) : ∃ z, x = V.int z ∧ z ∈ ns := by
  rw [List.getElem?_map] at h
  cases e : ns[i]? with
  | none =>
    rw [e] at h
    cases h
  | some z =>
    rw [e] at h
    exact ⟨z, (Option.some.inj h).symm, List.mem_of_getElem? e⟩
section
variable {P : Program} {w : World} {K : PySem.W.Frag} {mg : Str → Option Value} {base : Heap} {aM aR fC fM fH fA fF : Addr} {dC dM dH dA dF : FuncData}
theorem ok_form_fits {f : Addr} {fd : FuncData} (F : Fun K "_law_form_fits" "_law_form_fits" s_L_form_fits f fd) (B : Blt mg) (T : SideT K mg aM) (Fo : Cal P w K mg base "form" 4 ["side"] spForm fF dF)
    (Ha : Cal P w K mg base "handed" 5 ["side", "value"] spDue fH dH) (A' : Cal P w K mg base "_law_handed" 2 ["_law_side_here", "_law_value"] spDue fA dA) :
    FnOk P w K mg base CX0 6 f fd ["_law_one", "_law_values"] spFormFits := by
  refine F.ok sc_L_form_fits (fun vs H Q E h => ?_) (fun cdv A outer s H vs Q E hr h => ?_)
  · obtain ⟨p, l, o, s, m, ns, rfl, _⟩ := h
    rfl
  · obtain ⟨p, l, o, s, m, ns, rfl, hp, S, hl, hns, q⟩ := h
    have nd := sc_L_form_fits.nd
    refine ⟨_, pss_cons (ps_set (i := 2) nd rfl (Or.inr rfl) (pcl Fo hr (by decide) (by rfl) (pa_cons (pv 0) pa_nil)))
      (pss_cons (ps_set (i := 3) nd rfl (Or.inl rfl) (pe_lst (pa_cons pe_str (pa_cons pe_str (pa_cons pe_str (pa_cons pe_str (pa_cons pe_str pa_nil)))))))
      (pss_cons (ps_if (PW.pt (pw_or (pt_not (pt_val (pe_callB call_isi (by rfl) T.isi (by decide +kernel) (pa_cons (pv 2) (pa_cons (pe_bltn (v := .ty "tuple") (by rfl) T.tuple (by decide +kernel) rfl) pa_nil)))))
        (pw_or (pt_cmpR op_ne (pe_callB call_len_seq (by rfl) T.len PySem.boot_len (pa_cons (pv 2) pa_nil)) pe_int (nomark _))
        (pw_or (pt_cmpR op_ne (pe_ix ix_tup (pv 2) pe_int (fun _ _ => rfl)) (pe_ix ix_tup (pv 0) pe_int (fun _ _ => rfl)) (nomark _))
        (pw_or1 (pt_cmpR (op_neD hr.units) (pcl Fo hr (by decide) (by rfl) (pa_cons (pv 2) pa_nil)) (pv 2) (nomark _))))))) (pss_one (ps_ret pe_bl)) pss_nil)
      (pss_cons (ps_set (i := 4) nd rfl (Or.inl rfl) (pe_op op_mul (pe_ix ix_tup (pv 0) pe_int (fun _ _ => rfl)) (pe_op op_add pe_int (pe_callTy call_int1 (by rfl) B.int (by decide +kernel) (pa_cons (pe_cmpR op_eq (pe_ix ix_tup (pv 2) pe_int (fun _ _ => rfl)) pe_str (nomark _)) pa_nil)))))
      (pss_cons (ps_if (PW.pt (pw_or (pt_cmpR op_lt (pe_ix ix_tup (pv 2) pe_int (fun _ _ => rfl)) pe_int (nomark _)) (pw_or (pt_cmpR op_ge (pe_ix ix_tup (pv 2) pe_int (fun _ _ => rfl)) (pv 4) (nomark _))
        (pw_or1 (pt_cmpR op_gt (pe_bm PySem.F.plainAttrs_list PySem.F.slot_list_index PySem.F.type_list_index mt_index (pv 3) (pa_cons (pe_ix ix_tup (pv 2) pe_int (fun _ _ => rfl)) pa_nil)) (pe_bm PySem.F.plainAttrs_list PySem.F.slot_list_index PySem.F.type_list_index mt_index (pv 3) (pa_cons (pe_ix ix_tup (pv 0) pe_int (fun _ _ => rfl)) pa_nil)) (nomark _)))))) (pss_one (ps_ret pe_bl)) pss_nil)
      (pss_cons (ps_if (PW.pt (pw_and (pt_cmpR op_gt (pe_ix ix_tup (pv 0) pe_int (fun _ _ => rfl)) pe_int (nomark _)) (pw_and1 (pt_cmpR op_ne (pe_ix ix_tup (pv 2) pe_int (fun _ _ => rfl))
        (pe_ix ix_list (pe_lst (pa_cons (pe_ix ix_tup (pv 0) pe_int (fun _ _ => rfl)) (pa_cons pe_str pa_nil))) (pe_callTy call_int1 (by rfl) B.int (by decide +kernel) (pa_cons (pe_and (pe_cmpR op_eq (pe_op op_mod (pe_ix ix_tup (pv 0) pe_int (fun _ _ => rfl)) pe_int) pe_int (nomark _))
          (pe_one (pe_cmpR op_eq (pe_slice sl_str (pe_ix ix_tup (pv 0) pe_int (fun _ _ => rfl)) po_none (po_some pe_int)) pe_str (nomark _)))) pa_nil)) (fun _ _ => rfl)) (nomark _))))) (pss_one (ps_ret pe_bl)) pss_nil)
      (pss_one (ps_ret (pe_cmpR (op_eqD hr.units) (pe_lc (own := [("_law_value", 5)]) (g := gName 5) rfl nd (pi_list (pv 1)) (blkOk_by (N := ["_law_one", "_law_values", "_law_found", "_law_modes", "_law_most", "_law_value"]) (sc := defScope s_L_form_fits) (by decide +kernel))
          (fun _ _ _ _ _ => pg_name (i := 5) nd rfl (Or.inl rfl)) (fun _ _ _ _ _ => pts_one (pt_cmpR op_ne (pcl Ha hr (by decide) (by rfl) (pa_cons (pv 2) (pa_cons (pv 5) pa_nil))) (pcl A' hr (by decide) (by rfl) (pa_cons (pv 0) (pa_cons (pv 5) pa_nil))) (nomark _))) (fun _ _ _ _ _ => pv 5))
        (pe_lst pa_nil) (nomark _))))))))), ?_⟩
    have S' := side_form S
    have P' := first_ok S.md S.s0
    have s0 := S.s0
    obtain ⟨a0, a1, a2⟩ := form_bd (o := o) (f := firstM s m) s0
    walk_at "rd"
    refine ⟨p, o, s, m, rfl, hp, S, fun d H1 m1 nd1 hd => ?_⟩
    have hp1 := m1 _ _ hp
    have hl1 := m1 _ _ hl
    walk_at "rd"
    refine ⟨(by show 5 ≤ sizeLine; decide), fun c nc => ?_⟩
    have hd2 := (upd_ne (o := .lst modesV) (ne_of_none hd nc)).trans hd
    have m2 : Same H (upd H1 c (.lst modesV)) := fun b u z => (upd_ne (ne_of_none (m1 _ _ z) nc)).trans (m1 _ _ z)
    have hc2 : upd H1 c (.lst modesV) c = some (.lst modesV) := upd_same
    have hp2 := m2 _ _ hp
    walk_at "rd"
    refine ⟨_, _, _, _, _, rfl, .ty "tuple", .base (.tup hd2), kit_ty (r := true) (by decide +kernel), ?_⟩
    walk_at "rd"
    refine ⟨d, _, rfl, .inr (SqT.of hd2), rfl, ?_⟩
    walk_at "rd"
    refine ⟨d, _, 1, _, rfl, rfl, SqT.of hd2, rfl, ?_⟩
    walk_at "rd"
    refine ⟨p, _, 1, _, rfl, rfl, SqT.of hp2, rfl, ?_⟩
    refine ⟨rfl, ?_⟩
    walk_at "rd"
    refine iteNS rfl ?_
    walk_at "rd"
    refine ⟨d, _, _, _, rfl, hd2, S', fun e H3 m3 nd3 he => ?_⟩
    have m13 := m2.trans m3
    have hd3 := m3 _ _ hd2
    have hc3 := m3 _ _ hc2
    have hp3 := m13 _ _ hp
    rw [P'.id, form_idem] at he
    walk_at "rd"
    refine ⟨_, _, dpSide he, dpSide hd3, shaped_side P'.md, shaped_side P'.md, ?_⟩
    have ee : PyData.eqv (sideD (formO o s (firstM s m)) s (firstM s m)) (sideD (formO o s (firstM s m)) s (firstM s m)) = true := by rw [eqv_side]; exact decide_eq_true ⟨rfl, rfl, rfl⟩
    walk_at "rd"
    refine ite2 (fun h => (not_t h ee).elim) (fun _ => ?_)
    -- most
    walk_at "rd"
    refine ⟨p, _, 1, _, rfl, rfl, SqT.of hp3, rfl, ?_⟩
    walk_at "rd"
    refine ⟨d, _, 2, _, rfl, rfl, SqT.of hd3, rfl, ?_⟩
    walk_at "rd"
    refine ⟨rfl, .inr ⟨_, rfl, ?_⟩⟩
    walk_at "rd"
    have mo : formO o s (firstM s m) < s * (1 + if decide (V.str (firstM s m) = V.str "half_even") = true then 1 else 0) := by
      rw [dec_str]
      by_cases z : firstM s m = "half_even"
      · rw [if_pos (decide_eq_true z)]
        omega
      · rw [if_neg (by rw [decide_eq_false z]; decide)]
        have := a2 z
        omega
    refine ⟨.inr (by constructor <;> split <;> decide), ?_⟩
    walk_at "rd"
    refine ⟨d, _, 0, _, rfl, rfl, SqT.of hd3, rfl, ?_⟩
    walk_at "rd"
    refine ite2 (fun h => absurd (of_decide_eq_true h) (by omega)) (fun _ => ?_)
    walk_at "rd"
    refine ⟨d, _, 0, _, rfl, rfl, SqT.of hd3, rfl, ?_⟩
    walk_at "rd"
    refine ite2 (fun h => absurd (of_decide_eq_true h) (Int.not_le.mpr mo)) (fun _ => ?_)
    walk_at "rd"
    refine ⟨.inl ⟨rfl, _, SqL.of hc3⟩, ?_⟩
    walk_at "rd"
    refine ⟨d, _, 2, _, rfl, rfl, SqT.of hd3, rfl, ?_⟩
    have ix1 := modes_ix P'.md
    have ix2 := modes_ix S.md
    refine ⟨c, modesV, .str (firstM s m), ordM (firstM s m), .str (firstM s m), rfl, rfl, SqL.of hc3, rfl, by decide +kernel, ix1.at', eqV_self _, ix1.no, ?_⟩
    walk_at "rd"
    refine ⟨.inl ⟨rfl, _, SqL.of hc3⟩, ?_⟩
    walk_at "rd"
    refine ⟨p, _, 2, _, rfl, rfl, SqT.of hp3, rfl, ?_⟩
    refine ⟨c, modesV, .str m, ordM m, .str m, rfl, rfl, SqL.of hc3, rfl, by decide +kernel, ix2.at', eqV_self _, ix2.no, ?_⟩
    walk_at "rd"
    have od := P'.od
    refine ite2 (fun h => absurd (of_decide_eq_true h) (by omega)) (fun _ => ?_)
    walk_at "rd"
    refine ⟨p, _, 1, _, rfl, rfl, SqT.of hp3, rfl, ?_⟩
    walk_at "rd"
    have fin : ∀ H', Same H3 H' → Q (.bl true) H' := fun H' m' => q H' (m13.trans m')
    -- the last row, wherever the values stand
    refine ite2 (fun h => ?A) (fun _ => ?B)
    case' A =>
      have g2 : 2 < s := of_decide_eq_true h
      walk_at "rd"
      refine ⟨d, _, 2, _, rfl, rfl, SqT.of hd3, rfl, ?_⟩
      walk_at "rd"
      refine ⟨p, _, 2, _, rfl, rfl, SqT.of hp3, rfl, ?_⟩
      refine ⟨(by show 2 ≤ sizeLine; decide), fun x nx => ?_⟩
      have hp4 := (upd_ne (o := .lst [.str m, .str "half_down"]) (ne_of_none hp3 nx)).trans hp3
      have hx4 : upd H3 x (.lst [.str m, .str "half_down"]) x = some (.lst [.str m, .str "half_down"]) := upd_same
      have m4 : Same H3 (upd H3 x (.lst [.str m, .str "half_down"])) := fun b u z => (upd_ne (ne_of_none z nx)).trans z
      walk_at "rd"
      refine ⟨p, _, 1, _, rfl, rfl, SqT.of hp4, rfl, ?_⟩
      walk_at "rd"
      refine ⟨(by show (0 : Int) < 2; decide), ?_⟩
      walk_at "rd"
      refine ⟨rfl, ?_⟩
      walk_at "rd"
      refine ite2 (fun h => ?A1) (fun h => ?A2)
      case' A1 =>
        have od1 := int_t h
        walk_at "rd"
        refine ⟨p, _, 2, _, rfl, rfl, SqT.of hp4, rfl, ?_⟩
        walk_at "rd"
        refine ⟨mode_len S.md, ?_⟩
        walk_at "rd"
        refine ⟨rfl, .inr ⟨_, rfl, ?_⟩⟩
        have val : atI [V.str m, .str "half_down"] (if decide (V.str (cutS m none (some 4)) = V.str "half") = true then 1 else 0) = some (.str (firstM s m)) := by
          rw [dec_str]
          by_cases z : cutS m none (some 4) = "half"
          · rw [if_pos (decide_eq_true z), first_gt1 g2 od1 ((half_cut S.md).mp z)]
            rfl
          · rw [if_neg (by rw [decide_eq_false z]; decide), first_gt0 S.md g2 (fun y => z ((half_cut S.md).mpr y.2))]
            rfl
      case' A2 =>
        have od0 := int_f h
        refine .inr ⟨false, rfl, ?_⟩
        have val : atI [V.str m, .str "half_down"] (if false = true then 1 else 0) = some (.str (firstM s m)) := by
          rw [first_gt0 S.md g2 (fun y => od0 y.1)]
          rfl
      all_goals
        refine ⟨x, _, _, _, rfl, rfl, SqL.of hx4, val, ?_⟩
        refine ⟨rfl, ?_⟩
        walk_at "rd"
        refine iteNS rfl ?_
    case' B =>
      have m4 := Same.refl H3
    all_goals
      walk_at "rd"
      have hl4 := m4 _ _ (m13 _ _ hl)
      have hd4 := m4 _ _ hd3
      have hp5 := m4 _ _ hp3
      refine ⟨⟨_, SqL.of hl4⟩, fun D nD => ?_⟩
      refine lc_list (K := K) (a := l) (xs := ns.map V.int) (fun _ H5 => H5 D = some (.lst []) ∧ Same H3 H5)
        ⟨upd_same, fun b u z => (upd_ne (ne_of_none (m4 _ _ z) nD)).trans (m4 _ _ z)⟩ (fun _ _ _ z => SqL.of (z.2 _ _ (m13 _ _ hl))) ?_ ?_
      · rintro j x H5 hx ⟨hD, m5⟩
        obtain ⟨z, rfl, hz⟩ := getI hx
        refine ⟨rfl, ?_⟩
        walk_at "rd"
        refine ⟨d, _, _, _, z, rfl, m5 _ _ hd3, S', bd_of2 (hns z hz), fun H6 m6 => ?_⟩
        have m56 := m5.trans m6
        walk_at "rd"
        refine ⟨p, o, s, m, z, rfl, m56 _ _ hp3, S, bd_of2 (hns z hz), fun H7 m7 => ?_⟩
        walk_at "rd"
        refine ⟨rfl, ?_⟩
        walk_at "rd"
        refine ite2 (fun h => (not_t h (decide_eq_true (congrArg V.int (due_form z S.md s0)))).elim) (fun _ => ?_)
        exact ⟨m7 _ _ (m6 _ _ hD), m56.trans m7⟩
      · rintro H5 ⟨hD, m5⟩
        walk_at "rd"
        refine ⟨by decide, fun e ne => ?_⟩
        refine ⟨_, _, .lst (SqL.of ((upd_ne (ne_of_none hD ne)).trans hD)) .nil, .lst (SqL.of upd_same) .nil, by decide +kernel, by decide +kernel, ?_⟩
        exact fin _ fun b u z => (upd_ne (ne_of_none (m5 _ _ z) ne)).trans (m5 _ _ z)
end
end HT
namespace HT
open PySem L2
/-- a list of the places so far at which two things differ -/
def DiffL (j : Nat) (acc : List Int) (p : Int → Prop) : Prop := acc.length ≤ j ∧ (acc = [] ↔ ∀ v : Int, 0 ≤ v → v < (j : Int) → p v)
theorem diff_zero (p : Int → Prop) : DiffL 0 [] p := ⟨by decide, fun _ v a b => absurd b (by omega), fun _ => rfl⟩
theorem diff_same {j : Nat} {acc : List Int} {p : Int → Prop} (d : DiffL j acc p) (h : p (0 + (j : Int))) : DiffL (j + 1) acc p := by
  refine ⟨by have := d.1; omega, fun z v a b => ?_, fun z => d.2.mpr fun v a b => z v a (by omega)⟩
  by_cases e : v < (j : Int)
  · exact d.2.mp z v a e
  · have : v = 0 + (j : Int) := by omega
    rw [this]
    exact h
theorem diff_more {j : Nat} {acc : List Int} {p : Int → Prop} (d : DiffL j acc p) (h : ¬ p (0 + (j : Int))) : DiffL (j + 1) (acc ++ [0 + (j : Int)]) p := by
  refine ⟨by rw [List.length_append]; have := d.1; show acc.length + 1 ≤ j + 1; omega, fun z => ?_, fun z => ?_⟩
  · exact absurd z (by simp)
  · exact absurd (z (0 + (j : Int)) (by omega) (by omega)) h
theorem eqv_nil (acc : List Int) : PyData.eqv (.list (acc.map PyData.int)) (.list []) = decide (acc = []) := by
  have z := PySem.W.ked_eqvAll acc []
  rw [← z]
  rfl
theorem map_app (acc : List Int) (x : Int) : acc.map V.int ++ [V.int x] = (acc ++ [x]).map V.int := by
  rw [List.map_append]
  rfl
def fourV : List V := [.str "down", .str "up", .str "half_down", .str "half_up"]
theorem four_at {i : Nat} {x : V} (h : fourV[i]? = some x) : ∃ b : Str, x = .str b ∧ Mode b ∧ ordM b = i := by
  have hi : i < 4 := (List.getElem?_eq_some_iff.mp h).1
  rcases (by omega : i = 0 ∨ i = 1 ∨ i = 2 ∨ i = 3) with e | e | e | e <;> subst e <;> cases h
  · exact ⟨_, rfl, .inl rfl, ord_d⟩
  · exact ⟨_, rfl, .inr (.inl rfl), ord_u⟩
  · exact ⟨_, rfl, .inr (.inr (.inl rfl)), ord_hd⟩
  · exact ⟨_, rfl, .inr (.inr (.inr (.inl rfl))), ord_hu⟩
theorem ord_4 {f : Str} (h : Mode f) (h4 : 4 ≤ ordM f) : f = "half_even" := by
  rcases h with e | e | e | e | e <;> subst e
  · rw [ord_d] at h4; omega
  · rw [ord_u] at h4; omega
  · rw [ord_hd] at h4; omega
  · rw [ord_hu] at h4; omega
  · rfl
def spFirstM : Sp := fun vs H Q _ => ∃ (p : Addr) (o s : Int) (m : Str), vs = [.ref p] ∧ H p = some (sideV o s m) ∧ SideP o s m ∧ s ≤ 6 ∧ ∀ H', Same H H' → Q (.str (firstM s m)) H'
section
variable {P : Program} {w : World} {K : PySem.W.Frag} {mg : Str → Option Value} {base : Heap} {aM fA : Addr} {dA : FuncData}
theorem ok_L_first {f : Addr} {fd : FuncData} (F : Fun K "_law_first_mode" "_law_first_mode" s_L_first_mode f fd) (B : Blt mg) (A' : Cal P w K mg base "_law_handed" 2 ["_law_side_here", "_law_value"] spDue fA dA) :
    FnOk P w K mg base CX0 4 f fd ["_law_one"] spFirstM := by
  refine F.ok sc_L_first_mode (fun vs H Q E h => ?_) (fun cdv A outer s H vs Q E hr h => ?_)
  · obtain ⟨p, o, s, m, rfl, _⟩ := h
    rfl
  · obtain ⟨p, o, s, m, rfl, hp, S, s6, q⟩ := h
    have nd := sc_L_first_mode.nd
    refine ⟨_, pss_cons (ps_for PassesOwn.never rfl (pi_list (pe_lst (pa_cons pe_str (pa_cons pe_str (pa_cons pe_str (pa_cons pe_str pa_nil)))))) (pg_name (i := 1) nd rfl (Or.inr rfl))
        (pss_cons (ps_setLc (i := 3) (own := [("_law_value", 2)]) (g := gName 2) rfl nd rfl rfl (sw_true rfl rfl rfl (by decide +kernel)) (pi_range1 (by rfl) B.range (pa_cons pe_int pa_nil))
          (blkOk_by (N := ["_law_one", "_law_mode", "_law_value", "_law_same"]) (sc := defScope s_L_first_mode) (by decide +kernel))
          (fun _ _ _ _ _ => pg_name (i := 2) nd rfl (Or.inl rfl)) (fun _ _ _ _ _ => pts_one (pt_cmpR op_ne (pcl A' hr (by decide) (by rfl) (pa_cons (pe_tup (pa_cons (pe_ix (r := rIxT K) (by exact ix_tup) (pv 0) pe_int (fun _ _ => rfl)) (pa_cons (pe_ix (r := rIxT K) (by exact ix_tup) (pv 0) pe_int (fun _ _ => rfl)) (pa_cons (pv 1) pa_nil)))) (pa_cons (pv 2) pa_nil))) (pcl A' hr (by decide) (by rfl) (pa_cons (pv 0) (pa_cons (pv 2) pa_nil))) (nomark _))) (fun _ _ _ _ _ => pv 2))
        (pss_one (ps_if (pt_cmpR (op_eqD hr.units) (pv 3) (pe_lst pa_nil) (nomark _)) (pss_one (ps_ret (pv 1))) pss_nil))))
      (pss_one (ps_ret pe_str)), ?_⟩
    have P' := first_ok S.md S.s0
    have s0 := S.s0
    walk_at "rd"
    refine ⟨(by show 4 ≤ sizeLine; decide), fun l nl => ?_⟩
    have hp1 := (upd_ne (o := .lst fourV) (ne_of_none hp nl)).trans hp
    refine ⟨l, rfl, ⟨_, SqL.of upd_same⟩, ?_⟩
    refine for_list (K := K) (a := l) (xs := fourV) (fun i σ H1 => ∃ x1 x3 : Option V, σ = [some (.ref p), x1, none, x3] ∧ H1 l = some (.lst fourV) ∧ Same H H1 ∧ i ≤ ordM (firstM s m))
      ⟨none, none, rfl, upd_same, fun b u z => (upd_ne (ne_of_none z nl)).trans z, Nat.zero_le _⟩ (fun _ _ _ _ ⟨_, _, _, z, _⟩ => SqL.of z) ?_ ?_
    · rintro i x σ H1 hx ⟨x1, x3, rfl, hl1, m1, hi⟩
      obtain ⟨b, rfl, mb, ob⟩ := four_at hx
      have Sb : SideP o s b := ⟨S.o0, S.o1, S.s0, S.s1, mb⟩
      walk_at "rd"
      refine ⟨by decide, by decide, fun D nD => ?_⟩
      refine lc_range (lo := 0) (n := 24) (fun j H5 => ∃ acc : List Int, H5 D = some (.lst (acc.map V.int)) ∧ DiffL j acc (fun v => dueM o s b v = dueM o s m v) ∧ Same H1 H5 ∧ j ≤ 24) ⟨[], upd_same, diff_zero _, fun c u z => (upd_ne (ne_of_none z nD)).trans z, by decide⟩ ?_ ?_
      · rintro j H5 hj ⟨acc, hD, dl, m5, _⟩
        have hp5 := m5 _ _ (m1 _ _ hp)
        refine ⟨rfl, ?_⟩
        walk_at "rd"
        refine ⟨p, _, 0, _, rfl, rfl, SqT.of hp5, rfl, ?_⟩
        walk_at "rd"
        refine ⟨p, _, 1, _, rfl, rfl, SqT.of hp5, rfl, ?_⟩
        walk_at "rd"
        refine ⟨(by show 3 ≤ sizeLine; decide), fun t nt => ?_⟩
        have ms : Same H5 (upd H5 t (sideV o s b)) := fun c u z => (upd_ne (ne_of_none z nt)).trans z
        have vb : Bd (0 + (j : Int)) := by unfold Bd; omega
        walk_at "rd"
        refine ⟨t, o, s, b, 0 + (j : Int), rfl, upd_same, Sb, vb, fun H6 m6 => ?_⟩
        have m56 := ms.trans m6
        walk_at "rd"
        refine ⟨p, o, s, m, 0 + (j : Int), rfl, m56 _ _ hp5, S, vb, fun H7 m7 => ?_⟩
        have m57 := m56.trans m7
        walk_at "rd"
        refine ⟨rfl, ?_⟩
        walk_at "rd"
        refine ite2 (fun h => ?_) (fun h => ?_)
        · walk_at "rd"
          have ln : (acc.map V.int).length < sizeLine := by rw [List.length_map]; exact Nat.lt_of_le_of_lt (show acc.length ≤ 24 by have := dl.1; omega) (by decide)
          refine ⟨_, m57 _ _ hD, ln, acc ++ [0 + (j : Int)], ?_, diff_more dl (fun z => not_t h (decide_eq_true (congrArg V.int z))), ?_, by omega⟩
          · rw [upd_same]
            exact congrArg (fun y => some (HO.lst y)) (map_app acc _)
          · intro c u z
            have zc : c ≠ D := fun y => by
              subst y
              exact ne_of_none z nD rfl
            rw [upd_ne zc]
            exact m57 _ _ (m5 _ _ z)
        · exact ⟨acc, m57 _ _ hD, diff_same dl (int_t (not_f h)), m5.trans m57, by omega⟩
      · rintro H5 ⟨acc, hD, dl, m5, _⟩
        walk_at "rd"
        refine ⟨by decide, fun e ne => ?_⟩
        have m5e : Same H1 (upd H5 e (.lst [])) := fun c u z => (upd_ne (ne_of_none (m5 _ _ z) ne)).trans (m5 _ _ z)
        refine ⟨_, _, .lst (SqL.of ((upd_ne (ne_of_none hD ne)).trans hD)) (dpInts _ acc), .lst (SqL.of upd_same) .nil, PySem.W.ke_shaped_ints acc, by decide +kernel, ?_⟩
        walk_at "rd"
        rw [eqv_nil]
        refine ite2 (fun h => ?_) (fun h => ?_)
        · have all := dl.2.mp (of_decide_eq_true h)
          have fe := (form_eq mb S.md s0 s6 all).2
          have ob' := (first_ok mb s0).od
          rw [fe] at ob'
          have be : b = firstM s m := ord_inj mb P'.md (by omega)
          walk_at "rd"
          rw [← be] at q
          exact q _ (m1.trans m5e)
        · refine ⟨_, _, rfl, m5e _ _ hl1, m1.trans m5e, ?_⟩
          have : ordM (firstM s m) ≠ i := fun z => by
            have be : b = firstM s m := ord_inj mb P'.md (by omega)
            apply h
            refine decide_eq_true (dl.2.mpr fun v _ _ => ?_)
            rw [be]
            exact due_go s0 P'.go
          omega
    · rintro σ H1 ⟨x1, x3, rfl, hl1, m1, hi⟩
      walk_at "rd"
      have z := q _ m1
      rw [ord_4 P'.md hi] at z
      exact z
end
end HT
namespace HT
open PySem L2
def spSmall : Sp := fun vs H Q _ => ∃ (a c : Addr) (t : Nat), vs = [.ref a] ∧ Src H a c t ∧ t + 300 < 2 ^ 30 ∧ ∀ (H' : Hp) (t' : Nat), t' ≤ t + 300 → Src H' a c t' → Oth a c H H' → Q (.bl true) H'
theorem same_oth {a c : Addr} {H H' : Hp} (m : Same H H') : Oth a c H H' := fun b o h _ _ => m b o h
section
variable {P : Program} {w : World} {K : PySem.W.Frag} {mg : Str → Option Value} {base : Heap} {aM fA fD fP fF fM : Addr} {dA dD dP dF dM : FuncData}
theorem alike_form {o o' s : Int} {m m' : Str} (hm : Mode m) (hm' : Mode m') (hs : 1 ≤ s) (s6 : s ≤ 6) :
    (∀ v : Int, 0 ≤ v → v < ((60 : Nat) : Int) → dueM o s m v = dueM o' s m' v) ↔ (formO o s (firstM s m) = formO o' s (firstM s m') ∧ s = s ∧ firstM s m = firstM s m') := by
  refine ⟨fun h => ?_, fun h v _ _ => ?_⟩
  · obtain ⟨a, b⟩ := form_eq hm hm' hs s6 (fun v x y => h v x (by omega))
    exact ⟨a, rfl, b⟩
  · rw [← due_form v hm hs, ← due_form v hm' hs, h.1, h.2.2]
theorem ok_small_fits {f : Addr} {fd : FuncData} (F : Fun K "_law_small_fits" "_law_small_fits" s_L_small_fits f fd) (B : Blt mg) (D : Cal P w K mg base "_law_draw" 1 ["_law_source_here", "_law_limit"] spDraw fD dD)
    (Pk : Cal P w K mg base "_law_pick" 2 ["_law_source_here", "_law_values"] spPick fP dP) (A' : Cal P w K mg base "_law_handed" 2 ["_law_side_here", "_law_value"] spDue fA dA)
    (Fo : Cal P w K mg base "form" 4 ["side"] spForm fF dF) (Fm : Cal P w K mg base "_law_first_mode" 4 ["_law_one"] spFirstM fM dM) :
    FnOk P w K mg base CX0 6 f fd ["_law_source_here"] spSmall := by
  refine F.ok sc_L_small_fits (fun vs H Q E h => ?_) (fun cdv A outer s H vs Q E hr h => ?_)
  · obtain ⟨a, c, t, rfl, _⟩ := h
    rfl
  · obtain ⟨a, c, t, rfl, S, ht, q⟩ := h
    have nd := sc_L_small_fits.nd
    refine ⟨_, pss_cons (ps_set (i := 1) nd rfl (Or.inl rfl) (pe_op op_add pe_int (pcl D hr (by decide) (by rfl) (pa_cons (pv 0) (pa_cons pe_int pa_nil)))))
      (pss_cons (ps_set (i := 2) nd rfl (Or.inl rfl) (pe_lst (pa_cons pe_str (pa_cons pe_str (pa_cons pe_str (pa_cons pe_str (pa_cons pe_str pa_nil)))))))
      (pss_cons (ps_set (i := 3) nd rfl (Or.inr rfl) (pe_tup (pa_cons (pe_op op_sub (pcl D hr (by decide) (by rfl) (pa_cons (pv 0) (pa_cons pe_int pa_nil))) pe_int) (pa_cons (pv 1) (pa_cons (pcl Pk hr (by decide) (by rfl) (pa_cons (pv 0) (pa_cons (pv 2) pa_nil))) pa_nil)))))
      (pss_cons (ps_set (i := 4) nd rfl (Or.inr rfl) (pe_tup (pa_cons (pe_op op_add (pe_op op_add (pe_ix ix_tup (pv 3) pe_int (fun _ _ => rfl)) (pe_op op_mul (pcl D hr (by decide) (by rfl) (pa_cons (pv 0) (pa_cons pe_int pa_nil))) (pv 1))) (pcl D hr (by decide) (by rfl) (pa_cons (pv 0) (pa_cons pe_int pa_nil)))) (pa_cons (pv 1) (pa_cons (pcl Pk hr (by decide) (by rfl) (pa_cons (pv 0) (pa_cons (pv 2) pa_nil))) pa_nil)))))
      (pss_cons (ps_set (i := 6) nd rfl (Or.inl rfl) (pe_cmpR (op_eqD hr.units) (pe_lc (own := [("_law_value", 5)]) (g := gName 5) rfl nd (pi_range1 (by rfl) B.range (pa_cons pe_int pa_nil))
          (blkOk_by (N := ["_law_source_here", "_law_step", "_law_modes", "_law_one", "_law_other", "_law_value", "_law_alike"]) (sc := defScope s_L_small_fits) (by decide +kernel))
          (fun _ _ _ _ _ => pg_name (i := 5) nd rfl (Or.inl rfl)) (fun _ _ _ _ _ => pts_one (pt_cmpR op_ne (pcl A' hr (by decide) (by rfl) (pa_cons (pv 3) (pa_cons (pv 5) pa_nil))) (pcl A' hr (by decide) (by rfl) (pa_cons (pv 4) (pa_cons (pv 5) pa_nil))) (nomark _))) (fun _ _ _ _ _ => pv 5))
        (pe_lst pa_nil) (nomark _)))
      (pss_one (ps_ret (pe_and (pe_cmpR op_eq (pe_cmpR (op_eqD hr.units) (pcl Fo hr (by decide) (by rfl) (pa_cons (pv 3) pa_nil)) (pcl Fo hr (by decide) (by rfl) (pa_cons (pv 4) pa_nil)) (nomark _)) (pv 6) (nomark _))
        (pe_one (pe_cmpR op_eq (pe_ix ix_tup (pcl Fo hr (by decide) (by rfl) (pa_cons (pv 3) pa_nil)) pe_int (fun _ _ => rfl)) (pcl Fm hr (by decide) (by rfl) (pa_cons (pv 3) pa_nil)) (nomark _)))))))))), ?_⟩
    walk_at "rd"
    refine ⟨a, c, t, 6, rfl, S, by omega, by decide, by decide, fun k1 H1 k10 k11 S1 O1 => ?_⟩
    have k11' : k1 < 6 := k11
    walk_at "rd"
    refine ⟨(by show 5 ≤ sizeLine; decide), fun l nl => ?_⟩
    obtain ⟨la, lc⟩ := S1.na nl
    have S2 : Src (upd H1 l (.lst modesV)) a c (t + 1) := S1.new nl
    have hl2 : upd H1 l (.lst modesV) l = some (.lst modesV) := upd_same
    have O2 : Oth a c H (upd H1 l (.lst modesV)) := O1.new nl
    walk_at "rd"
    refine ⟨a, c, t + 1, 40, rfl, S2, by omega, by decide, by decide, fun k3 H3 k30 k31 S3 O3 => ?_⟩
    have k31' : k3 < 40 := k31
    have hl3 := O3 _ _ hl2 la lc
    walk_at "rd"
    refine ⟨a, c, t + 1 + 1, l, modesV, rfl, S3, by omega, hl3, la, lc, by decide, by decide, fun x4 H4 hx4 S4 O4 => ?_⟩
    obtain ⟨m, rfl, md⟩ := mode_of hx4
    have hl4 := O4 _ _ hl3 la lc
    refine ⟨(by show 3 ≤ sizeLine; decide), fun p np => ?_⟩
    have So : SideP (k3 - 20) (1 + k1) m := ⟨by omega, by omega, by omega, by omega, md⟩
    have hp5 : upd H4 p (sideV (k3 - 20) (1 + k1) m) p = some (sideV (k3 - 20) (1 + k1) m) := upd_same
    have S5 : Src (upd H4 p (sideV (k3 - 20) (1 + k1) m)) a c (t + 1 + 1 + 1) := S4.new np
    have hl5 := (upd_ne (o := sideV (k3 - 20) (1 + k1) m) (ne_of_none hl4 np)).trans hl4
    have O5 : Oth a c H (upd H4 p (sideV (k3 - 20) (1 + k1) m)) := ((O2.trans O3).trans O4).new np
    obtain ⟨pa, pc⟩ := S5.nt hp5
    walk_at "rd"
    refine ⟨p, _, 0, _, rfl, rfl, SqT.of hp5, rfl, ?_⟩
    walk_at "rd"
    refine ⟨a, c, _, 3, rfl, S5, by omega, by decide, by decide, fun k6 H6 k60 k61 S6 O6 => ?_⟩
    have k61' : k6 < 3 := k61
    walk_at "rd"
    refine ⟨.inl ⟨by omega, by omega⟩, ?_⟩
    walk_at "rd"
    refine ⟨a, c, _, 2, rfl, S6, by omega, by decide, by decide, fun k7 H7 k70 k71 S7 O7 => ?_⟩
    have k71' : k7 < 2 := k71
    have hl7 := O7 _ _ (O6 _ _ hl5 la lc) la lc
    walk_at "rd"
    refine ⟨a, c, _, l, modesV, rfl, S7, by omega, hl7, la, lc, by decide, by decide, fun x8 H8 hx8 S8 O8 => ?_⟩
    obtain ⟨m', rfl, md'⟩ := mode_of hx8
    have hp8 := O8 _ _ (O7 _ _ (O6 _ _ hp5 pa pc) pa pc) pa pc
    refine ⟨(by show 3 ≤ sizeLine; decide), fun p' np' => ?_⟩
    have kk : 0 ≤ k6 * (1 + k1) ∧ k6 * (1 + k1) ≤ 12 := by
      have a1 := Int.mul_nonneg k60 (show 0 ≤ 1 + k1 by omega)
      have a2 := Int.mul_le_mul (show k6 ≤ 2 by omega) (show 1 + k1 ≤ 6 by omega) (show 0 ≤ 1 + k1 by omega) (by decide)
      omega
    obtain ⟨o', ho'⟩ : ∃ o', o' = k3 - 20 + k6 * (1 + k1) + k7 := ⟨_, rfl⟩
    have So' : SideP o' (1 + k1) m' := ⟨by omega, by omega, by omega, by omega, md'⟩
    have hp9 := (upd_ne (o := sideV o' (1 + k1) m') (ne_of_none hp8 np')).trans hp8
    have hp'9 : upd H8 p' (sideV o' (1 + k1) m') p' = some (sideV o' (1 + k1) m') := upd_same
    have eH : upd H8 p' (sideV o' (1 + k1) m') = upd H8 p' (.tup [.int (k3 - 20 + k6 * (1 + k1) + k7), .int (1 + k1), .str m']) := by rw [ho']; rfl
    have S9 : Src (upd H8 p' (sideV o' (1 + k1) m')) a c _ := S8.new np'
    have O9 : Oth a c H (upd H8 p' (sideV o' (1 + k1) m')) := (((O5.trans O6).trans O7).trans O8).new np'
    show tSeq _ _ _ _ (upd H8 p' (.tup [.int (k3 - 20 + k6 * (1 + k1) + k7), .int (1 + k1), .str m']))
    rw [← eH]
    generalize upd H8 p' (sideV o' (1 + k1) m') = H9 at hp9 hp'9 S9 O9 ⊢
    have fin : ∀ H', Same H9 H' → Q (.bl true) H' := fun H' m9 => q H' _ (by omega) (S9.of_same m9) (O9.trans (same_oth m9))
    have al := alike_form (o := k3 - 20) (o' := o') md md' (show 1 ≤ 1 + k1 by omega) (show 1 + k1 ≤ 6 by omega)
    walk_at "rd"
    refine ⟨by decide, by decide, fun D nD => ?_⟩
    refine lc_range (lo := 0) (n := 60) (fun j H5 => ∃ acc : List Int, H5 D = some (.lst (acc.map V.int)) ∧ DiffL j acc (fun v => dueM (k3 - 20) (1 + k1) m v = dueM o' (1 + k1) m' v) ∧ Same H9 H5 ∧ j ≤ 60) ⟨[], upd_same, diff_zero _, fun c u z => (upd_ne (ne_of_none z nD)).trans z, by decide⟩ ?_ ?_
    · rintro j H5 hj ⟨acc, hD, dl, m5, _⟩
      have vb : Bd (0 + (j : Int)) := by unfold Bd; omega
      refine ⟨rfl, ?_⟩
      walk_at "rd"
      refine ⟨p, _, _, _, 0 + (j : Int), rfl, m5 _ _ hp9, So, vb, fun H6 m6 => ?_⟩
      have m56 := m5.trans m6
      walk_at "rd"
      refine ⟨p', _, _, _, 0 + (j : Int), rfl, m56 _ _ hp'9, So', vb, fun H7 m7 => ?_⟩
      have m57 := m6.trans m7
      walk_at "rd"
      refine ⟨rfl, ?_⟩
      walk_at "rd"
      refine ite2 (fun h => ?_) (fun h => ?_)
      · walk_at "rd"
        have ln : (acc.map V.int).length < sizeLine := by rw [List.length_map]; exact Nat.lt_of_le_of_lt (show acc.length ≤ 60 by have := dl.1; omega) (by decide)
        refine ⟨_, m57 _ _ hD, ln, acc ++ [0 + (j : Int)], ?_, diff_more dl (fun z => not_t h (decide_eq_true (congrArg V.int z))), ?_, by omega⟩
        · rw [upd_same]
          exact congrArg (fun y => some (HO.lst y)) (map_app acc _)
        · intro c u z
          have zc : c ≠ D := fun y => by
            subst y
            exact ne_of_none z nD rfl
          rw [upd_ne zc]
          exact m57 _ _ (m5 _ _ z)
      · exact ⟨acc, m57 _ _ hD, diff_same dl (int_t (not_f h)), m5.trans m57, by omega⟩
    · rintro H5 ⟨acc, hD, dl, m5, _⟩
      walk_at "rd"
      refine ⟨by decide, fun e ne => ?_⟩
      have m5e : Same H9 (upd H5 e (.lst [])) := fun c u z => (upd_ne (ne_of_none (m5 _ _ z) ne)).trans (m5 _ _ z)
      refine ⟨_, _, .lst (SqL.of ((upd_ne (ne_of_none hD ne)).trans hD)) (dpInts _ acc), .lst (SqL.of upd_same) .nil, PySem.W.ke_shaped_ints acc, by decide +kernel, ?_⟩
      rw [eqv_nil]
      walk_at "rd"
      refine ⟨p, _, _, _, rfl, m5e _ _ hp9, So, fun d1 H10 m10 nd1 hd1 => ?_⟩
      have m510 := m5e.trans m10
      walk_at "rd"
      refine ⟨p', _, _, _, rfl, m510 _ _ hp'9, So', fun d2 H11 m11 nd2 hd2 => ?_⟩
      have m511 := m510.trans m11
      have P1 := first_ok md (show 1 ≤ 1 + k1 by omega)
      have P2 := first_ok md' (show 1 ≤ 1 + k1 by omega)
      refine ⟨_, _, dpSide (m11 _ _ hd1), dpSide hd2, shaped_side P1.md, shaped_side P2.md, ?_⟩
      rw [eqv_side]
      walk_at "rd"
      have eb : (decide (formO (k3 - 20) (1 + k1) (firstM (1 + k1) m) = formO o' (1 + k1) (firstM (1 + k1) m') ∧ 1 + k1 = 1 + k1 ∧ firstM (1 + k1) m = firstM (1 + k1) m')) = decide (acc = []) := decide_eq_decide.mpr (al.symm.trans dl.2.symm)
      refine ⟨rfl, ?_⟩
      walk_at "rd"
      refine ite2 (fun _ => ?_) (fun h => absurd (decide_eq_true (congrArg V.bl eb)) h)
      walk_at "rd"
      refine ⟨p, _, _, _, rfl, m511 _ _ hp9, So, fun d3 H12 m12 nd3 hd3 => ?_⟩
      have m512 := m511.trans m12
      walk_at "rd"
      refine ⟨d3, _, 2, _, rfl, rfl, SqT.of hd3, rfl, ?_⟩
      walk_at "rd"
      refine ⟨p, _, _, _, rfl, m512 _ _ hp9, So, (by omega), fun H13 m13 => ?_⟩
      walk_at "rd"
      refine ⟨rfl, ?_⟩
      have z := fin _ (m512.trans m13)
      rw [← (decide_eq_true rfl : decide (V.str (firstM (1 + k1) m) = V.str (firstM (1 + k1) m)) = true)] at z
      exact z
end
end HT
namespace HT
open PySem L2
/-- law's: a list of at most 63 ints is handed in, True comes out -/
def spLaw (K : PySem.W.Frag) : Sp := fun vs H Q _ => ∃ (l : Addr) (ns : List Int), vs = [.ref l] ∧ SqL K H l (ns.map V.int) ∧ ns.length ≤ 63 ∧ ∀ H', Q (.bl true) H'
theorem sg2_of {x : V} (h : x ∈ [V.int 1, .int (-1)]) : ∃ j : Int, x = .int j ∧ (j = 1 ∨ j = -1) := by
  simp only [List.mem_cons, List.not_mem_nil, or_false] at h
  rcases h with h | h
  · exact ⟨_, h, .inl rfl⟩
  · exact ⟨_, h, .inr rfl⟩
/-- an offset less by whole periods has the same form -/
theorem form_less {o s j : Int} {m : Str} (hm : Mode m) (hs : 1 ≤ s) : formO (o - s * (1 + if m = "half_even" then 1 else 0) * j) s (firstM s m) = formO o s (firstM s m) := by
  unfold formO
  by_cases e : firstM s m = "half_even"
  · rw [if_pos e, if_pos e]
    have hm' : m = "half_even" := by
      have P := first_ok hm hs
      refine ord_inj hm (.inr (.inr (.inr (.inr rfl)))) ?_
      have od := P.od
      rw [e, ord_he] at od
      rw [ord_he]
      have : ordM m ≤ 4 := by
        rcases hm with z | z | z | z | z <;> subst z
        · rw [ord_d]; decide
        · rw [ord_u]; decide
        · rw [ord_hd]; decide
        · rw [ord_hu]; decide
        · rw [ord_he]; decide
      omega
    rw [if_pos hm', show o - s * (1 + 1) * j = o + (2 * s) * (-j) by rw [Int.mul_neg, Int.mul_comm s (1 + 1)]; exact Int.sub_eq_add_neg]
    exact Int.add_mul_emod_self_left _ _ _
  · rw [if_neg e, if_neg e, show o - s * (1 + if m = "half_even" then 1 else 0) * j = o + s * (-((1 + if m = "half_even" then 1 else 0) * j)) by rw [Int.mul_neg, Int.mul_assoc]; exact Int.sub_eq_add_neg]
    exact Int.add_mul_emod_self_left _ _ _
section
variable {P : Program} {w : World} {K : PySem.W.Frag} {mg : Str → Option Value} {base : Heap} {aM f0 f1 f2 f3 f4 f5 f6 f7 f8 : Addr} {d0 d1 d2 d3 d4 d5 d6 d7 d8 : FuncData}
theorem ok_law {f : Addr} {fd : FuncData} (F : Fun K "law" "law" s_law f fd) (B : Blt mg) (So : Cal P w K mg base "_law_source" 1 ["_law_script"] (spSource K) f0 d0) (D : Cal P w K mg base "_law_draw" 1 ["_law_source_here", "_law_limit"] spDraw f1 d1)
    (Pk : Cal P w K mg base "_law_pick" 2 ["_law_source_here", "_law_values"] spPick f2 d2) (G : Cal P w K mg base "_law_great" 2 ["_law_source_here", "_law_digits"] spGreat f3 d3) (Sd : Cal P w K mg base "_law_side" 3 ["_law_source_here", "_law_digits"] spSide f4 d4)
    (Mf : Cal P w K mg base "_law_mirror_fits" 6 ["_law_one", "_law_value"] spMirFits f5 d5) (Ff : Cal P w K mg base "_law_form_fits" 6 ["_law_one", "_law_values"] spFormFits f6 d6) (Sm : Cal P w K mg base "_law_small_fits" 6 ["_law_source_here"] spSmall f7 d7)
    (Fo : Cal P w K mg base "form" 4 ["side"] spForm f8 d8) :
    FnOk P w K mg base CX0 10 f fd ["_law_script"] (spLaw K) := by
  refine F.ok sc_law (fun vs H Q E h => ?_) (fun cdv A outer s H vs Q E hr h => ?_)
  · obtain ⟨l, ns, rfl, _⟩ := h
    rfl
  · obtain ⟨l, ns, rfl, hL, hn, q⟩ := h
    have nd := sc_law.nd
    refine ⟨_, pss_cons (ps_set (i := 1) nd rfl (Or.inl rfl) (pcl So hr (by decide) (by rfl) (pa_cons (pv 0) pa_nil)))
      (pss_cons (ps_for PassesOwn.never rfl (pi_range1 (by rfl) B.range (pa_cons pe_int pa_nil)) (pg_name (i := 2) nd rfl (Or.inl rfl))
        (pss_cons (ps_set (i := 3) nd rfl (Or.inr rfl) (pcl Sd hr (by decide) (by rfl) (pa_cons (pv 1) (pa_cons pe_int pa_nil))))
        (pss_cons (ps_set (i := 4) nd rfl (Or.inl rfl) (pe_op op_mul (pcl G hr (by decide) (by rfl) (pa_cons (pv 1) (pa_cons pe_int pa_nil)))
          (pcl Pk hr (by decide) (by rfl) (pa_cons (pv 1) (pa_cons (pe_lst (pa_cons pe_int (pa_cons (pe_un un_neg pe_int) pa_nil))) pa_nil)))))
        (pss_cons (ps_set (i := 5) nd rfl (Or.inl rfl) (pe_op op_add (pe_op op_add (pe_ix ix_tup (pv 3) pe_int (fun _ _ => rfl)) (pe_op op_mulW (pe_ix ix_tup (pv 3) pe_int (fun _ _ => rfl)) (pcl G hr (by decide) (by rfl) (pa_cons (pv 1) (pa_cons pe_int pa_nil))))) (pe_op op_fdiv (pe_ix ix_tup (pv 3) pe_int (fun _ _ => rfl)) pe_int)))
        (pss_cons (ps_set (i := 6) nd rfl (Or.inl rfl) (pe_lst (pa_cons pe_int (pa_cons pe_int (pa_cons (pe_un un_neg pe_int) (pa_cons (pv 4) (pa_cons (pv 5) (pa_cons (pe_op op_add (pv 5) pe_int) (pa_cons (pe_op op_sub (pv 5) pe_int) (pa_cons (pe_op op_add (pv 5) (pe_ix ix_tup (pv 3) pe_int (fun _ _ => rfl)))
          (pa_cons (pe_op op_add (pe_op op_add (pv 5) (pe_ix ix_tup (pv 3) pe_int (fun _ _ => rfl))) pe_int) (pa_cons (pe_un un_neg (pv 5)) pa_nil))))))))))))
        (pss_cons (ps_if (PW.pt (pw_or (pt_cmpR (op_neD hr.units) (pe_lc (own := [("_law_more", 7)]) (g := gName 7) rfl nd (pi_list (pv 6)) (blkOk_by (N := ["_law_script", "_law_source_here", "_law_turn", "_law_one", "_law_value", "_law_near", "_law_values", "_law_more", "_law_less"]) (sc := defScope s_law) (by decide +kernel))
            (fun _ _ _ _ _ => pg_name (i := 7) nd rfl (Or.inl rfl)) (fun _ _ _ _ _ => pts_one (pt_not (pt_val (pcl Mf hr (by decide) (by rfl) (pa_cons (pv 3) (pa_cons (pv 7) pa_nil)))))) (fun _ _ _ _ _ => pv 7))
          (pe_lst pa_nil) (nomark _)) (pw_or1 (pt_not (pt_val (pcl Ff hr (by decide) (by rfl) (pa_cons (pv 3) (pa_cons (pv 6) pa_nil)))))))) (pss_one (ps_ret pe_bl)) pss_nil)
        (pss_cons (ps_set (i := 8) nd rfl (Or.inl rfl) (pe_op op_sub (pe_ix ix_tup (pv 3) pe_int (fun _ _ => rfl)) (pe_op op_mulW (pe_op op_mul (pe_ix ix_tup (pv 3) pe_int (fun _ _ => rfl)) (pe_op op_add pe_int (pe_callTy call_int1 (by rfl) B.int (by decide +kernel) (pa_cons (pe_cmpR op_eq (pe_ix ix_tup (pv 3) pe_int (fun _ _ => rfl)) pe_str (nomark _)) pa_nil))))
          (pcl D hr (by decide) (by rfl) (pa_cons (pv 1) (pa_cons pe_int pa_nil))))))
        (pss_one (ps_if (PW.pt (pw_or (pt_cmpR (op_neD hr.units) (pcl Fo hr (by decide) (by rfl) (pa_cons (pe_tup (pa_cons (pv 8) (pa_cons (pe_ix ix_tup (pv 3) pe_int (fun _ _ => rfl)) (pa_cons (pe_ix ix_tup (pv 3) pe_int (fun _ _ => rfl)) pa_nil)))) pa_nil)) (pcl Fo hr (by decide) (by rfl) (pa_cons (pv 3) pa_nil)) (nomark _))
          (pw_or1 (pt_not (pt_val (pcl Sm hr (by decide) (by rfl) (pa_cons (pv 1) pa_nil))))))) (pss_one (ps_ret pe_bl)) pss_nil)))))))))
      (pss_one (ps_ret (pe_and (pe_cmpR (op_eqD hr.units) (pcl Fo hr (by decide) (by rfl) (pa_cons (pe_tup (pa_cons (pe_un un_neg pe_int) (pa_cons pe_int (pa_cons pe_str pa_nil)))) pa_nil)) (pe_tup (pa_cons pe_int (pa_cons pe_int (pa_cons pe_str pa_nil)))) (nomark _))
        (pe_one (pe_cmpR (op_eqD hr.units) (pcl Fo hr (by decide) (by rfl) (pa_cons (pe_tup (pa_cons pe_int (pa_cons pe_int (pa_cons pe_str pa_nil)))) pa_nil)) (pe_tup (pa_cons pe_int (pa_cons pe_int (pa_cons pe_str pa_nil)))) (nomark _))))))), ?_⟩
    walk_at "rd"
    refine ⟨l, ns, rfl, hL, hn, fun a c H0 sm na nc S0 => ?_⟩
    walk_at "rd"
    refine ⟨by decide, by decide, ?_⟩
    refine for_range (n := 30) (fun i σ H' => ∃ (x2 x3 x4 x5 x6 x8 : Option V) (t : Nat), σ = [some (.ref l), some (.ref a), x2, x3, x4, x5, x6, none, x8] ∧ t ≤ 1000 * i ∧ Src H' a c t) ⟨none, none, none, none, none, none, 0, rfl, by omega, S0⟩ ?_ ?_
    · rintro i σ H' hi ⟨x2, x3, x4, x5, x6, x8, t, rfl, ht, S'⟩
      walk_at "rd"
      refine ⟨a, c, t, 39, rfl, S', by decide, by decide, by omega, fun p o s m H1 t1 np hp SD on ht1 S1 O1 => ?_⟩
      obtain ⟨pa, pc⟩ := S1.nt hp
      walk_at "rd"
      refine ⟨a, c, t1, 50, rfl, S1, by decide, by omega, fun k2 H2 k20 k21 S2 O2 => ?_⟩
      walk_at "rd"
      refine ⟨(by show 2 ≤ sizeLine; decide), fun l1 nl1 => ?_⟩
      obtain ⟨la, lc⟩ := S2.na nl1
      refine ⟨a, c, _, l1, _, rfl, S2.new nl1, by omega, upd_same, la, lc, by decide, by decide, fun x H3 hx S3 O3 => ?_⟩
      obtain ⟨j, rfl, hj⟩ := sg2_of hx
      have hp3 := (((O2.new nl1).trans O3) _ _ hp pa pc)
      walk_at "rd"
      refine ⟨.inr (by rcases hj with e | e <;> subst e <;> exact ⟨by decide, by decide⟩), ?_⟩
      have k21' : k2 < 10 ^ 50 := k21
      have fg0 : -10 ^ 50 ≤ k2 * j := by rcases hj with e | e <;> subst e <;> omega
      have fg1 : k2 * j ≤ 10 ^ 50 := by rcases hj with e | e <;> subst e <;> omega
      have s0 := SD.s0
      have s1 := SD.s1
      have o0 := SD.o0
      have o1 := SD.o1
      walk_at "rd"
      refine ⟨p, _, 0, _, rfl, rfl, SqT.of hp3, rfl, ?_⟩
      walk_at "rd"
      refine ⟨p, _, 1, _, rfl, rfl, SqT.of hp3, rfl, ?_⟩
      walk_at "rd"
      refine ⟨a, c, _, 5, rfl, S3, by decide, by omega, fun k4 H4 k40 k41 S4 O4 => ?_⟩
      have hp4 := O4 _ _ hp3 pa pc
      have k41' : k4 < 10 ^ 5 := k41
      walk_at "rd"
      refine ⟨mulW (by omega) (by omega), ?_⟩
      have vb : (s * k4).natAbs < 2 ^ (100 + 20) := wide_lt (a := 100) (b := 20) (by omega) (by omega)
      walk_at "rd"
      refine ⟨p, _, 1, _, rfl, rfl, SqT.of hp4, rfl, ?_⟩
      walk_at "rd"
      refine ⟨⟨by decide, by decide⟩, ?_⟩
      walk_at "rd"
      refine ⟨p, _, 1, _, rfl, rfl, SqT.of hp4, rfl, ?_⟩
      walk_at "rd"
      refine ⟨p, _, 1, _, rfl, rfl, SqT.of hp4, rfl, ?_⟩
      walk_at "rd"
      refine ⟨(by show 10 ≤ sizeLine; decide), fun lv nlv => ?_⟩
      obtain ⟨n, hn0⟩ : ∃ n, n = o + s * k4 + s / 2 := ⟨_, rfl⟩
      obtain ⟨v, hv0⟩ : ∃ v, v = k2 * j := ⟨_, rfl⟩
      have hnb : -2 ^ 200 < n ∧ n < 2 ^ 200 := by omega
      have hvb : -2 ^ 200 < v ∧ v < 2 ^ 200 := by omega
      have eL : [0, 1, -1, v, n, n + 1, n - 1, n + s, n + s + 1, -n].map V.int = [V.int 0, V.int 1, V.int (-1), V.int (k2 * j), V.int (o + s * k4 + s / 2), V.int (o + s * k4 + s / 2 + 1), V.int (o + s * k4 + s / 2 - 1), V.int (o + s * k4 + s / 2 + s), V.int (o + s * k4 + s / 2 + s + 1), V.int (-(o + s * k4 + s / 2))] := by rw [hn0, hv0]; rfl
      have eH : upd H4 lv (.lst [V.int 0, V.int 1, V.int (-1), V.int (k2 * j), V.int (o + s * k4 + s / 2), V.int (o + s * k4 + s / 2 + 1), V.int (o + s * k4 + s / 2 - 1), V.int (o + s * k4 + s / 2 + s), V.int (o + s * k4 + s / 2 + s + 1), V.int (-(o + s * k4 + s / 2))]) = upd H4 lv (.lst ([0, 1, -1, v, n, n + 1, n - 1, n + s, n + s + 1, -n].map V.int)) := by rw [eL]
      have hns : ∀ z ∈ [0, 1, -1, v, n, n + 1, n - 1, n + s, n + s + 1, -n], Bd2 z := by
        intro z hz
        simp only [List.mem_cons, List.not_mem_nil, or_false] at hz
        unfold Bd2
        omega
      show tSeq _ _ _ _ (upd H4 lv (.lst [V.int 0, V.int 1, V.int (-1), V.int (k2 * j), V.int (o + s * k4 + s / 2), V.int (o + s * k4 + s / 2 + 1), V.int (o + s * k4 + s / 2 - 1), V.int (o + s * k4 + s / 2 + s), V.int (o + s * k4 + s / 2 + s + 1), V.int (-(o + s * k4 + s / 2))]))
      rw [eH]
      have hl5 : upd H4 lv (.lst ([0, 1, -1, v, n, n + 1, n - 1, n + s, n + s + 1, -n].map V.int)) lv = some (.lst ([0, 1, -1, v, n, n + 1, n - 1, n + s, n + s + 1, -n].map V.int)) := upd_same
      have hp5 := (upd_ne (o := .lst ([0, 1, -1, v, n, n + 1, n - 1, n + s, n + s + 1, -n].map V.int)) (ne_of_none hp4 nlv)).trans hp4
      have S5 := S4.new (o := .lst ([0, 1, -1, v, n, n + 1, n - 1, n + s, n + s + 1, -n].map V.int)) nlv
      generalize upd H4 lv (.lst ([0, 1, -1, v, n, n + 1, n - 1, n + s, n + s + 1, -n].map V.int)) = H5 at hl5 hp5 S5 ⊢
      generalize [0, 1, -1, v, n, n + 1, n - 1, n + s, n + s + 1, -n] = vals at hl5 hns
      walk_at "rd"
      refine ⟨⟨_, SqL.of hl5⟩, fun D nD => ?_⟩
      refine lc_list (K := K) (a := lv) (xs := vals.map V.int) (fun _ H6 => H6 D = some (.lst []) ∧ Same H5 H6)
        ⟨upd_same, fun b u z => (upd_ne (ne_of_none z nD)).trans z⟩ (fun _ _ _ z => SqL.of (z.2 _ _ hl5)) ?_ ?_
      · rintro y x H6 hx ⟨hD, m6⟩
        obtain ⟨z, rfl, hz⟩ := getI hx
        refine ⟨rfl, ?_⟩
        walk_at "rd"
        refine ⟨p, o, s, m, z, rfl, m6 _ _ hp5, SD, hns z hz, fun H7 m7 => ?_⟩
        walk_at "rd"
        exact ⟨m7 _ _ hD, m6.trans m7⟩
      · rintro H6 ⟨hD, m6⟩
        walk_at "rd"
        refine ⟨by decide, fun e ne => ?_⟩
        refine ⟨_, _, .lst (SqL.of ((upd_ne (ne_of_none hD ne)).trans hD)) .nil, .lst (SqL.of upd_same) .nil, by decide +kernel, by decide +kernel, ?_⟩
        have m6e : Same H5 (upd H6 e (.lst [])) := fun b u z => (upd_ne (ne_of_none (m6 _ _ z) ne)).trans (m6 _ _ z)
        walk_at "rd"
        refine ⟨p, lv, o, s, m, vals, rfl, m6e _ _ hp5, SD, m6e _ _ hl5, hns, fun H7 m7 => ?_⟩
        have m57 := m6e.trans m7
        have hp7 := m57 _ _ hp5
        have S7 := S5.of_same m57
        walk_at "rd"
        refine ⟨p, _, 0, _, rfl, rfl, SqT.of hp7, rfl, ?_⟩
        walk_at "rd"
        refine ⟨p, _, 1, _, rfl, rfl, SqT.of hp7, rfl, ?_⟩
        walk_at "rd"
        refine ⟨p, _, 2, _, rfl, rfl, SqT.of hp7, rfl, ?_⟩
        walk_at "rd"
        refine ⟨rfl, .inr ⟨_, rfl, ?_⟩⟩
        walk_at "rd"
        refine ⟨.inr (by constructor <;> split <;> decide), ?_⟩
        walk_at "rd"
        refine ⟨a, c, _, 9, rfl, S7, by omega, by decide, by decide, fun k8 H8 k80 k81 S8 O8 => ?_⟩
        have k81' : k8 < 9 := k81
        have hp8 := O8 _ _ hp7 pa pc
        have fb : 0 ≤ s * (1 + if decide (V.str m = V.str "half_even") = true then 1 else 0) ∧ s * (1 + if decide (V.str m = V.str "half_even") = true then 1 else 0) ≤ 2 * 10 ^ 30 := by
          split <;> omega
        walk_at "rd"
        refine ⟨mulW (by omega) (by omega), ?_⟩
        have eI : (if decide (V.str m = V.str "half_even") = true then (1 : Int) else 0) = (if m = "half_even" then 1 else 0) := by
          rw [dec_str]
          by_cases z : m = "half_even"
          · rw [if_pos z, if_pos (decide_eq_true z)]
          · rw [if_neg z, if_neg (by rw [decide_eq_false z]; decide)]
        have lessb : 0 ≤ s * (1 + if decide (V.str m = V.str "half_even") = true then 1 else 0) * k8 ∧ s * (1 + if decide (V.str m = V.str "half_even") = true then 1 else 0) * k8 ≤ 2 * 10 ^ 30 * 8 := by
          have a1 := Int.mul_nonneg fb.1 k80
          have a2 := Int.mul_le_mul fb.2 (show k8 ≤ 8 by omega) k80 (by decide)
          exact ⟨a1, a2⟩
        have SL : SideP (o - s * (1 + if decide (V.str m = V.str "half_even") = true then 1 else 0) * k8) s m := ⟨by omega, by omega, s0, s1, SD.md⟩
        have fl := form_less (o := o) (j := k8) SD.md s0
        rw [← eI] at fl
        walk_at "rd"
        refine ⟨p, _, 1, _, rfl, rfl, SqT.of hp8, rfl, ?_⟩
        walk_at "rd"
        refine ⟨p, _, 2, _, rfl, rfl, SqT.of hp8, rfl, ?_⟩
        refine ⟨(by show 3 ≤ sizeLine; decide), fun g ng => ?_⟩
        walk_at "rd"
        refine ⟨g, _, _, _, rfl, upd_same, SL, fun d9 H9 m9 nd9 hd9 => ?_⟩
        have m89 : Same H8 H9 := fun b u z => m9 _ _ ((upd_ne (ne_of_none z ng)).trans z)
        rw [fl] at hd9
        walk_at "rd"
        refine ⟨p, _, _, _, rfl, m89 _ _ hp8, SD, fun d10 H10 m10 nd10 hd10 => ?_⟩
        have P' := first_ok SD.md s0
        refine ⟨_, _, dpSide (m10 _ _ hd9), dpSide hd10, shaped_side P'.md, shaped_side P'.md, ?_⟩
        have ee : PyData.eqv (sideD (formO o s (firstM s m)) s (firstM s m)) (sideD (formO o s (firstM s m)) s (firstM s m)) = true := by rw [eqv_side]; exact decide_eq_true ⟨rfl, rfl, rfl⟩
        walk_at "rd"
        refine ite2 (fun h => (not_t h ee).elim) (fun _ => ?_)
        walk_at "rd"
        refine ⟨a, c, _, rfl, S8.of_same (m89.trans m10), by omega, fun H11 t11 ht11 S11 O11 => ?_⟩
        walk_at "rd"
        refine ⟨_, _, _, _, _, _, t11, rfl, ?_, S11⟩
        omega
    · rintro σ H' ⟨x2, x3, x4, x5, x6, x8, t, rfl, ht, S'⟩
      have HE : Mode "half_even" := .inr (.inr (.inr (.inr rfl)))
      walk_at "rd"
      refine ⟨(by show 3 ≤ sizeLine; decide), fun p np => ?_⟩
      walk_at "rd"
      refine ⟨p, -3, 10, "half_even", rfl, upd_same, ⟨by decide, by decide, by decide, by decide, HE⟩, fun d H1 m1 nd1 hd1 => ?_⟩
      have e1 : sideV (formO (-3) 10 (firstM 10 "half_even")) 10 (firstM 10 "half_even") = sideV 17 10 "half_even" := by
        rw [fi_heE (by decide)]
        unfold formO
        rw [if_pos rfl]
        rfl
      rw [e1] at hd1
      walk_at "rd"
      refine ⟨(by show 3 ≤ sizeLine; decide), fun e ne => ?_⟩
      refine ⟨sideD 17 10 "half_even", sideD 17 10 "half_even", dpSide ((upd_ne (ne_of_none hd1 ne)).trans hd1), dpSide upd_same, shaped_side HE, shaped_side HE, ?_⟩
      have ee : PyData.eqv (sideD 17 10 "half_even") (sideD 17 10 "half_even") = true := by rw [eqv_side]; exact decide_eq_true ⟨rfl, rfl, rfl⟩
      rw [ee]
      walk_at "rd"
      refine ⟨(by show 3 ≤ sizeLine; decide), fun p2 np2 => ?_⟩
      walk_at "rd"
      refine ⟨p2, 7, 5, "half_even", rfl, upd_same, ⟨by decide, by decide, by decide, by decide, HE⟩, fun d2 H2 m2 nd2 hd2 => ?_⟩
      have e2 : sideV (formO 7 5 (firstM 5 "half_even")) 5 (firstM 5 "half_even") = sideV 2 5 "half_down" := by
        rw [fi_heO (by decide) (by decide)]
        unfold formO
        rw [if_neg hd_e]
        rfl
      rw [e2] at hd2
      walk_at "rd"
      refine ⟨(by show 3 ≤ sizeLine; decide), fun e' ne' => ?_⟩
      have HD : Mode "half_down" := .inr (.inr (.inl rfl))
      refine ⟨sideD 2 5 "half_down", sideD 2 5 "half_down", dpSide ((upd_ne (ne_of_none hd2 ne')).trans hd2), dpSide upd_same, shaped_side HD, shaped_side HD, ?_⟩
      have e3 : PyData.eqv (sideD 2 5 "half_down") (sideD 2 5 "half_down") = true := by rw [eqv_side]; exact decide_eq_true ⟨rfl, rfl, rfl⟩
      rw [e3]
      exact q _
end
end HT
namespace HT
open PySem L2
theorem all_mk {l : PySem.W.OpenLaw} {w : World} {K : PySem.W.Frag} {h : Heap} {mg : Str → Option Value} {fa aM aR f_is_int f_is_int_between f_check_value f_check_side f_figure f_goes_up f_handed f_written f_mirror f_form f_first_mode f_L_source f_L_draw f_L_pick f_L_great f_L_side f_L_figure f_L_handed f_L_mirror_fits f_L_form_fits f_L_first_mode f_L_small_fits f_law : Addr} (X : K.In h) (G : h.Ns mainGlobals mg) (hfa : mg "law" = some (.ref fa))
    {odM od_is_int an_is_int od_is_int_between an_is_int_between od_check_value an_check_value od_check_side an_check_side od_figure an_figure od_goes_up an_goes_up od_handed an_handed od_written an_written od_mirror an_mirror od_form an_form od_first_mode an_first_mode od_L_source an_L_source od_L_draw an_L_draw od_L_pick an_L_pick od_L_great an_L_great od_L_side an_L_side od_L_figure an_L_figure od_L_handed an_L_handed od_L_mirror_fits an_L_mirror_fits od_L_form_fits an_L_form_fits od_L_first_mode an_L_first_mode od_L_small_fits an_L_small_fits od_law an_law : Option Addr} {slM sl_is_int sl_is_int_between sl_check_value sl_check_side sl_figure sl_goes_up sl_handed sl_written sl_mirror sl_form sl_first_mode sl_L_source sl_L_draw sl_L_pick sl_L_great sl_L_side sl_L_figure sl_L_handed sl_L_mirror_fits sl_L_form_fits sl_L_first_mode sl_L_small_fits sl_law : Array (Option Value)} {nM nR : Nat} {itsM : Array Value} {esR : Array DictEntry} {u_down u_up u_half_down u_half_up u_half_even oc_is_int kV_is_int dc_is_int pm_is_int cd_is_int ct_is_int oc_is_int_between kV_is_int_between dc_is_int_between pm_is_int_between cd_is_int_between ct_is_int_between oc_check_value kV_check_value dc_check_value pm_check_value cd_check_value ct_check_value oc_check_side kV_check_side dc_check_side pm_check_side cd_check_side ct_check_side oc_figure kV_figure dc_figure pm_figure cd_figure ct_figure oc_goes_up kV_goes_up dc_goes_up pm_goes_up cd_goes_up ct_goes_up oc_handed kV_handed dc_handed pm_handed cd_handed ct_handed oc_written kV_written dc_written pm_written cd_written ct_written oc_mirror kV_mirror dc_mirror pm_mirror cd_mirror ct_mirror oc_form kV_form dc_form pm_form cd_form ct_form oc_first_mode kV_first_mode dc_first_mode pm_first_mode cd_first_mode ct_first_mode oc_L_source kV_L_source dc_L_source pm_L_source cd_L_source ct_L_source oc_L_draw kV_L_draw dc_L_draw pm_L_draw cd_L_draw ct_L_draw oc_L_pick kV_L_pick dc_L_pick pm_L_pick cd_L_pick ct_L_pick oc_L_great kV_L_great dc_L_great pm_L_great cd_L_great ct_L_great oc_L_side kV_L_side dc_L_side pm_L_side cd_L_side ct_L_side oc_L_figure kV_L_figure dc_L_figure pm_L_figure cd_L_figure ct_L_figure oc_L_handed kV_L_handed dc_L_handed pm_L_handed cd_L_handed ct_L_handed oc_L_mirror_fits kV_L_mirror_fits dc_L_mirror_fits pm_L_mirror_fits cd_L_mirror_fits ct_L_mirror_fits oc_L_form_fits kV_L_form_fits dc_L_form_fits pm_L_form_fits cd_L_form_fits ct_L_form_fits oc_L_first_mode kV_L_first_mode dc_L_first_mode pm_L_first_mode cd_L_first_mode ct_L_first_mode oc_L_small_fits kV_L_small_fits dc_L_small_fits pm_L_small_fits cd_L_small_fits ct_L_small_fits oc_law kV_law dc_law pm_law cd_law ct_law : Value}
    (a_is_int : PySem.W.nsIn K mainGlobals "is_int" = some (some (.ref f_is_int)))
    (l_is_int : K.lookup f_is_int = some ⟨oc_is_int, od_is_int, .func (PySem.W.fnOf "is_int" "is_int" (defArgs s_is_int) (defBody s_is_int) (defScope s_is_int) .none kV_is_int dc_is_int pm_is_int an_is_int cd_is_int ct_is_int), sl_is_int⟩)
    (c_is_int : PySem.W.codeIn K cd_is_int "is_int" = true) (k_is_int : PySem.W.keepIn K (.ref f_is_int) = true)
    (a_is_int_between : PySem.W.nsIn K mainGlobals "is_int_between" = some (some (.ref f_is_int_between)))
    (l_is_int_between : K.lookup f_is_int_between = some ⟨oc_is_int_between, od_is_int_between, .func (PySem.W.fnOf "is_int_between" "is_int_between" (defArgs s_is_int_between) (defBody s_is_int_between) (defScope s_is_int_between) .none kV_is_int_between dc_is_int_between pm_is_int_between an_is_int_between cd_is_int_between ct_is_int_between), sl_is_int_between⟩)
    (c_is_int_between : PySem.W.codeIn K cd_is_int_between "is_int_between" = true) (k_is_int_between : PySem.W.keepIn K (.ref f_is_int_between) = true)
    (a_check_value : PySem.W.nsIn K mainGlobals "check_value" = some (some (.ref f_check_value)))
    (l_check_value : K.lookup f_check_value = some ⟨oc_check_value, od_check_value, .func (PySem.W.fnOf "check_value" "check_value" (defArgs s_check_value) (defBody s_check_value) (defScope s_check_value) .none kV_check_value dc_check_value pm_check_value an_check_value cd_check_value ct_check_value), sl_check_value⟩)
    (c_check_value : PySem.W.codeIn K cd_check_value "check_value" = true) (k_check_value : PySem.W.keepIn K (.ref f_check_value) = true)
    (a_check_side : PySem.W.nsIn K mainGlobals "check_side" = some (some (.ref f_check_side)))
    (l_check_side : K.lookup f_check_side = some ⟨oc_check_side, od_check_side, .func (PySem.W.fnOf "check_side" "check_side" (defArgs s_check_side) (defBody s_check_side) (defScope s_check_side) .none kV_check_side dc_check_side pm_check_side an_check_side cd_check_side ct_check_side), sl_check_side⟩)
    (c_check_side : PySem.W.codeIn K cd_check_side "check_side" = true) (k_check_side : PySem.W.keepIn K (.ref f_check_side) = true)
    (a_figure : PySem.W.nsIn K mainGlobals "_figure" = some (some (.ref f_figure)))
    (l_figure : K.lookup f_figure = some ⟨oc_figure, od_figure, .func (PySem.W.fnOf "_figure" "_figure" (defArgs s_figure) (defBody s_figure) (defScope s_figure) .none kV_figure dc_figure pm_figure an_figure cd_figure ct_figure), sl_figure⟩)
    (c_figure : PySem.W.codeIn K cd_figure "_figure" = true) (k_figure : PySem.W.keepIn K (.ref f_figure) = true)
    (a_goes_up : PySem.W.nsIn K mainGlobals "_goes_up" = some (some (.ref f_goes_up)))
    (l_goes_up : K.lookup f_goes_up = some ⟨oc_goes_up, od_goes_up, .func (PySem.W.fnOf "_goes_up" "_goes_up" (defArgs s_goes_up) (defBody s_goes_up) (defScope s_goes_up) .none kV_goes_up dc_goes_up pm_goes_up an_goes_up cd_goes_up ct_goes_up), sl_goes_up⟩)
    (c_goes_up : PySem.W.codeIn K cd_goes_up "_goes_up" = true) (k_goes_up : PySem.W.keepIn K (.ref f_goes_up) = true)
    (a_handed : PySem.W.nsIn K mainGlobals "handed" = some (some (.ref f_handed)))
    (l_handed : K.lookup f_handed = some ⟨oc_handed, od_handed, .func (PySem.W.fnOf "handed" "handed" (defArgs s_handed) (defBody s_handed) (defScope s_handed) .none kV_handed dc_handed pm_handed an_handed cd_handed ct_handed), sl_handed⟩)
    (c_handed : PySem.W.codeIn K cd_handed "handed" = true) (k_handed : PySem.W.keepIn K (.ref f_handed) = true)
    (a_written : PySem.W.nsIn K mainGlobals "written" = some (some (.ref f_written)))
    (l_written : K.lookup f_written = some ⟨oc_written, od_written, .func (PySem.W.fnOf "written" "written" (defArgs s_written) (defBody s_written) (defScope s_written) .none kV_written dc_written pm_written an_written cd_written ct_written), sl_written⟩)
    (c_written : PySem.W.codeIn K cd_written "written" = true) (k_written : PySem.W.keepIn K (.ref f_written) = true)
    (a_mirror : PySem.W.nsIn K mainGlobals "mirror" = some (some (.ref f_mirror)))
    (l_mirror : K.lookup f_mirror = some ⟨oc_mirror, od_mirror, .func (PySem.W.fnOf "mirror" "mirror" (defArgs s_mirror) (defBody s_mirror) (defScope s_mirror) .none kV_mirror dc_mirror pm_mirror an_mirror cd_mirror ct_mirror), sl_mirror⟩)
    (c_mirror : PySem.W.codeIn K cd_mirror "mirror" = true) (k_mirror : PySem.W.keepIn K (.ref f_mirror) = true)
    (a_form : PySem.W.nsIn K mainGlobals "form" = some (some (.ref f_form)))
    (l_form : K.lookup f_form = some ⟨oc_form, od_form, .func (PySem.W.fnOf "form" "form" (defArgs s_form) (defBody s_form) (defScope s_form) .none kV_form dc_form pm_form an_form cd_form ct_form), sl_form⟩)
    (c_form : PySem.W.codeIn K cd_form "form" = true) (k_form : PySem.W.keepIn K (.ref f_form) = true)
    (a_first_mode : PySem.W.nsIn K mainGlobals "_first_mode" = some (some (.ref f_first_mode)))
    (l_first_mode : K.lookup f_first_mode = some ⟨oc_first_mode, od_first_mode, .func (PySem.W.fnOf "_first_mode" "_first_mode" (defArgs s_first_mode) (defBody s_first_mode) (defScope s_first_mode) .none kV_first_mode dc_first_mode pm_first_mode an_first_mode cd_first_mode ct_first_mode), sl_first_mode⟩)
    (c_first_mode : PySem.W.codeIn K cd_first_mode "_first_mode" = true) (k_first_mode : PySem.W.keepIn K (.ref f_first_mode) = true)
    (a_L_source : PySem.W.nsIn K mainGlobals "_law_source" = some (some (.ref f_L_source)))
    (l_L_source : K.lookup f_L_source = some ⟨oc_L_source, od_L_source, .func (PySem.W.fnOf "_law_source" "_law_source" (defArgs s_L_source) (defBody s_L_source) (defScope s_L_source) .none kV_L_source dc_L_source pm_L_source an_L_source cd_L_source ct_L_source), sl_L_source⟩)
    (c_L_source : PySem.W.codeIn K cd_L_source "_law_source" = true) (k_L_source : PySem.W.keepIn K (.ref f_L_source) = true)
    (a_L_draw : PySem.W.nsIn K mainGlobals "_law_draw" = some (some (.ref f_L_draw)))
    (l_L_draw : K.lookup f_L_draw = some ⟨oc_L_draw, od_L_draw, .func (PySem.W.fnOf "_law_draw" "_law_draw" (defArgs s_L_draw) (defBody s_L_draw) (defScope s_L_draw) .none kV_L_draw dc_L_draw pm_L_draw an_L_draw cd_L_draw ct_L_draw), sl_L_draw⟩)
    (c_L_draw : PySem.W.codeIn K cd_L_draw "_law_draw" = true) (k_L_draw : PySem.W.keepIn K (.ref f_L_draw) = true)
    (a_L_pick : PySem.W.nsIn K mainGlobals "_law_pick" = some (some (.ref f_L_pick)))
    (l_L_pick : K.lookup f_L_pick = some ⟨oc_L_pick, od_L_pick, .func (PySem.W.fnOf "_law_pick" "_law_pick" (defArgs s_L_pick) (defBody s_L_pick) (defScope s_L_pick) .none kV_L_pick dc_L_pick pm_L_pick an_L_pick cd_L_pick ct_L_pick), sl_L_pick⟩)
    (c_L_pick : PySem.W.codeIn K cd_L_pick "_law_pick" = true) (k_L_pick : PySem.W.keepIn K (.ref f_L_pick) = true)
    (a_L_great : PySem.W.nsIn K mainGlobals "_law_great" = some (some (.ref f_L_great)))
    (l_L_great : K.lookup f_L_great = some ⟨oc_L_great, od_L_great, .func (PySem.W.fnOf "_law_great" "_law_great" (defArgs s_L_great) (defBody s_L_great) (defScope s_L_great) .none kV_L_great dc_L_great pm_L_great an_L_great cd_L_great ct_L_great), sl_L_great⟩)
    (c_L_great : PySem.W.codeIn K cd_L_great "_law_great" = true) (k_L_great : PySem.W.keepIn K (.ref f_L_great) = true)
    (a_L_side : PySem.W.nsIn K mainGlobals "_law_side" = some (some (.ref f_L_side)))
    (l_L_side : K.lookup f_L_side = some ⟨oc_L_side, od_L_side, .func (PySem.W.fnOf "_law_side" "_law_side" (defArgs s_L_side) (defBody s_L_side) (defScope s_L_side) .none kV_L_side dc_L_side pm_L_side an_L_side cd_L_side ct_L_side), sl_L_side⟩)
    (c_L_side : PySem.W.codeIn K cd_L_side "_law_side" = true) (k_L_side : PySem.W.keepIn K (.ref f_L_side) = true)
    (a_L_figure : PySem.W.nsIn K mainGlobals "_law_figure" = some (some (.ref f_L_figure)))
    (l_L_figure : K.lookup f_L_figure = some ⟨oc_L_figure, od_L_figure, .func (PySem.W.fnOf "_law_figure" "_law_figure" (defArgs s_L_figure) (defBody s_L_figure) (defScope s_L_figure) .none kV_L_figure dc_L_figure pm_L_figure an_L_figure cd_L_figure ct_L_figure), sl_L_figure⟩)
    (c_L_figure : PySem.W.codeIn K cd_L_figure "_law_figure" = true) (k_L_figure : PySem.W.keepIn K (.ref f_L_figure) = true)
    (a_L_handed : PySem.W.nsIn K mainGlobals "_law_handed" = some (some (.ref f_L_handed)))
    (l_L_handed : K.lookup f_L_handed = some ⟨oc_L_handed, od_L_handed, .func (PySem.W.fnOf "_law_handed" "_law_handed" (defArgs s_L_handed) (defBody s_L_handed) (defScope s_L_handed) .none kV_L_handed dc_L_handed pm_L_handed an_L_handed cd_L_handed ct_L_handed), sl_L_handed⟩)
    (c_L_handed : PySem.W.codeIn K cd_L_handed "_law_handed" = true) (k_L_handed : PySem.W.keepIn K (.ref f_L_handed) = true)
    (a_L_mirror_fits : PySem.W.nsIn K mainGlobals "_law_mirror_fits" = some (some (.ref f_L_mirror_fits)))
    (l_L_mirror_fits : K.lookup f_L_mirror_fits = some ⟨oc_L_mirror_fits, od_L_mirror_fits, .func (PySem.W.fnOf "_law_mirror_fits" "_law_mirror_fits" (defArgs s_L_mirror_fits) (defBody s_L_mirror_fits) (defScope s_L_mirror_fits) .none kV_L_mirror_fits dc_L_mirror_fits pm_L_mirror_fits an_L_mirror_fits cd_L_mirror_fits ct_L_mirror_fits), sl_L_mirror_fits⟩)
    (c_L_mirror_fits : PySem.W.codeIn K cd_L_mirror_fits "_law_mirror_fits" = true) (k_L_mirror_fits : PySem.W.keepIn K (.ref f_L_mirror_fits) = true)
    (a_L_form_fits : PySem.W.nsIn K mainGlobals "_law_form_fits" = some (some (.ref f_L_form_fits)))
    (l_L_form_fits : K.lookup f_L_form_fits = some ⟨oc_L_form_fits, od_L_form_fits, .func (PySem.W.fnOf "_law_form_fits" "_law_form_fits" (defArgs s_L_form_fits) (defBody s_L_form_fits) (defScope s_L_form_fits) .none kV_L_form_fits dc_L_form_fits pm_L_form_fits an_L_form_fits cd_L_form_fits ct_L_form_fits), sl_L_form_fits⟩)
    (c_L_form_fits : PySem.W.codeIn K cd_L_form_fits "_law_form_fits" = true) (k_L_form_fits : PySem.W.keepIn K (.ref f_L_form_fits) = true)
    (a_L_first_mode : PySem.W.nsIn K mainGlobals "_law_first_mode" = some (some (.ref f_L_first_mode)))
    (l_L_first_mode : K.lookup f_L_first_mode = some ⟨oc_L_first_mode, od_L_first_mode, .func (PySem.W.fnOf "_law_first_mode" "_law_first_mode" (defArgs s_L_first_mode) (defBody s_L_first_mode) (defScope s_L_first_mode) .none kV_L_first_mode dc_L_first_mode pm_L_first_mode an_L_first_mode cd_L_first_mode ct_L_first_mode), sl_L_first_mode⟩)
    (c_L_first_mode : PySem.W.codeIn K cd_L_first_mode "_law_first_mode" = true) (k_L_first_mode : PySem.W.keepIn K (.ref f_L_first_mode) = true)
    (a_L_small_fits : PySem.W.nsIn K mainGlobals "_law_small_fits" = some (some (.ref f_L_small_fits)))
    (l_L_small_fits : K.lookup f_L_small_fits = some ⟨oc_L_small_fits, od_L_small_fits, .func (PySem.W.fnOf "_law_small_fits" "_law_small_fits" (defArgs s_L_small_fits) (defBody s_L_small_fits) (defScope s_L_small_fits) .none kV_L_small_fits dc_L_small_fits pm_L_small_fits an_L_small_fits cd_L_small_fits ct_L_small_fits), sl_L_small_fits⟩)
    (c_L_small_fits : PySem.W.codeIn K cd_L_small_fits "_law_small_fits" = true) (k_L_small_fits : PySem.W.keepIn K (.ref f_L_small_fits) = true)
    (a_law : PySem.W.nsIn K mainGlobals "law" = some (some (.ref f_law)))
    (l_law : K.lookup f_law = some ⟨oc_law, od_law, .func (PySem.W.fnOf "law" "law" (defArgs s_law) (defBody s_law) (defScope s_law) .none kV_law dc_law pm_law an_law cd_law ct_law), sl_law⟩)
    (c_law : PySem.W.codeIn K cd_law "law" = true) (k_law : PySem.W.keepIn K (.ref f_law) = true)
    (z_len : PySem.W.nsIn K mainGlobals "len" = some none)
    (z_abs : PySem.W.nsIn K mainGlobals "abs" = some none)
    (z_int : PySem.W.nsIn K mainGlobals "int" = some none)
    (z_range : PySem.W.nsIn K mainGlobals "range" = some none)
    (z_isinstance : PySem.W.nsIn K mainGlobals "isinstance" = some none)
    (z_bool : PySem.W.nsIn K mainGlobals "bool" = some none)
    (z_tuple : PySem.W.nsIn K mainGlobals "tuple" = some none)
    (z_divmod : PySem.W.nsIn K mainGlobals "divmod" = some none)
    (a_MODES : PySem.W.nsIn K mainGlobals "MODES" = some (some (.ref aM)))
    (l_MODES : K.lookup aM = some ⟨.type "tuple", odM, .seq itsM nM, slM⟩)
    (v_MODES : itsM.size ≤ sizeLine ∧ Vals modesV itsM.toList)
    (a_MIR : PySem.W.nsIn K mainGlobals "MIRRORED" = some (some (.ref aR)))
    (l_MIR : K.lookup aR = some ⟨.type "dict", none, .dict esR nR, #[]⟩)
    (h_MIR : PySem.W.KeysLit w.params esR.toList)
    (d_down : PySem.W.nsIn K aR "down" = some (some u_down)) (r_down : RelV (.str "up") u_down)
    (d_up : PySem.W.nsIn K aR "up" = some (some u_up)) (r_up : RelV (.str "down") u_up)
    (d_half_down : PySem.W.nsIn K aR "half_down" = some (some u_half_down)) (r_half_down : RelV (.str "half_up") u_half_down)
    (d_half_up : PySem.W.nsIn K aR "half_up" = some (some u_half_up)) (r_half_up : RelV (.str "half_down") u_half_up)
    (d_half_even : PySem.W.nsIn K aR "half_even" = some (some u_half_even)) (r_half_even : RelV (.str "half_even") u_half_even) :
    ∃ fd : FuncData, (∀ (s : Shared) (v : Value), BindsTo s fd ⟨[v], []⟩ [("_law_script", v)]) ∧ ∀ base : Heap, K.In base → base.Ns mainGlobals mg → FnOk l.prog w K mg base CX0 10 fa fd ["_law_script"] (spLaw K) := by
  have e := hfa.symm.trans (PySem.W.mg_of X G a_law)
  cases e
  have F_is_int := fun_mk (st := s_is_int) l_is_int c_is_int k_is_int
  have b_is_int := F_is_int.binds (ps := ["thing"]) fun _ _ _ _ _ _ us hl => match us, hl with | [_], _ => rfl
  have m_is_int := PySem.W.mg_of X G a_is_int
  have F_is_int_between := fun_mk (st := s_is_int_between) l_is_int_between c_is_int_between k_is_int_between
  have b_is_int_between := F_is_int_between.binds (ps := ["thing", "least", "most"]) fun _ _ _ _ _ _ us hl => match us, hl with | [_, _, _], _ => rfl
  have m_is_int_between := PySem.W.mg_of X G a_is_int_between
  have F_check_value := fun_mk (st := s_check_value) l_check_value c_check_value k_check_value
  have b_check_value := F_check_value.binds (ps := ["value"]) fun _ _ _ _ _ _ us hl => match us, hl with | [_], _ => rfl
  have m_check_value := PySem.W.mg_of X G a_check_value
  have F_check_side := fun_mk (st := s_check_side) l_check_side c_check_side k_check_side
  have b_check_side := F_check_side.binds (ps := ["side"]) fun _ _ _ _ _ _ us hl => match us, hl with | [_], _ => rfl
  have m_check_side := PySem.W.mg_of X G a_check_side
  have F_figure := fun_mk (st := s_figure) l_figure c_figure k_figure
  have b_figure := F_figure.binds (ps := ["side", "value"]) fun _ _ _ _ _ _ us hl => match us, hl with | [_, _], _ => rfl
  have m_figure := PySem.W.mg_of X G a_figure
  have F_goes_up := fun_mk (st := s_goes_up) l_goes_up c_goes_up k_goes_up
  have b_goes_up := F_goes_up.binds (ps := ["mode", "step", "figure", "rest"]) fun _ _ _ _ _ _ us hl => match us, hl with | [_, _, _, _], _ => rfl
  have m_goes_up := PySem.W.mg_of X G a_goes_up
  have F_handed := fun_mk (st := s_handed) l_handed c_handed k_handed
  have b_handed := F_handed.binds (ps := ["side", "value"]) fun _ _ _ _ _ _ us hl => match us, hl with | [_, _], _ => rfl
  have m_handed := PySem.W.mg_of X G a_handed
  have F_written := fun_mk (st := s_written) l_written c_written k_written
  have b_written := F_written.binds (ps := ["side", "value"]) fun _ _ _ _ _ _ us hl => match us, hl with | [_, _], _ => rfl
  have m_written := PySem.W.mg_of X G a_written
  have F_mirror := fun_mk (st := s_mirror) l_mirror c_mirror k_mirror
  have b_mirror := F_mirror.binds (ps := ["side"]) fun _ _ _ _ _ _ us hl => match us, hl with | [_], _ => rfl
  have m_mirror := PySem.W.mg_of X G a_mirror
  have F_form := fun_mk (st := s_form) l_form c_form k_form
  have b_form := F_form.binds (ps := ["side"]) fun _ _ _ _ _ _ us hl => match us, hl with | [_], _ => rfl
  have m_form := PySem.W.mg_of X G a_form
  have F_first_mode := fun_mk (st := s_first_mode) l_first_mode c_first_mode k_first_mode
  have b_first_mode := F_first_mode.binds (ps := ["step", "mode"]) fun _ _ _ _ _ _ us hl => match us, hl with | [_, _], _ => rfl
  have m_first_mode := PySem.W.mg_of X G a_first_mode
  have F_L_source := fun_mk (st := s_L_source) l_L_source c_L_source k_L_source
  have b_L_source := F_L_source.binds (ps := ["_law_script"]) fun _ _ _ _ _ _ us hl => match us, hl with | [_], _ => rfl
  have m_L_source := PySem.W.mg_of X G a_L_source
  have F_L_draw := fun_mk (st := s_L_draw) l_L_draw c_L_draw k_L_draw
  have b_L_draw := F_L_draw.binds (ps := ["_law_source_here", "_law_limit"]) fun _ _ _ _ _ _ us hl => match us, hl with | [_, _], _ => rfl
  have m_L_draw := PySem.W.mg_of X G a_L_draw
  have F_L_pick := fun_mk (st := s_L_pick) l_L_pick c_L_pick k_L_pick
  have b_L_pick := F_L_pick.binds (ps := ["_law_source_here", "_law_values"]) fun _ _ _ _ _ _ us hl => match us, hl with | [_, _], _ => rfl
  have m_L_pick := PySem.W.mg_of X G a_L_pick
  have F_L_great := fun_mk (st := s_L_great) l_L_great c_L_great k_L_great
  have b_L_great := F_L_great.binds (ps := ["_law_source_here", "_law_digits"]) fun _ _ _ _ _ _ us hl => match us, hl with | [_, _], _ => rfl
  have m_L_great := PySem.W.mg_of X G a_L_great
  have F_L_side := fun_mk (st := s_L_side) l_L_side c_L_side k_L_side
  have b_L_side := F_L_side.binds (ps := ["_law_source_here", "_law_digits"]) fun _ _ _ _ _ _ us hl => match us, hl with | [_, _], _ => rfl
  have m_L_side := PySem.W.mg_of X G a_L_side
  have F_L_figure := fun_mk (st := s_L_figure) l_L_figure c_L_figure k_L_figure
  have b_L_figure := F_L_figure.binds (ps := ["_law_side_here", "_law_value"]) fun _ _ _ _ _ _ us hl => match us, hl with | [_, _], _ => rfl
  have m_L_figure := PySem.W.mg_of X G a_L_figure
  have F_L_handed := fun_mk (st := s_L_handed) l_L_handed c_L_handed k_L_handed
  have b_L_handed := F_L_handed.binds (ps := ["_law_side_here", "_law_value"]) fun _ _ _ _ _ _ us hl => match us, hl with | [_, _], _ => rfl
  have m_L_handed := PySem.W.mg_of X G a_L_handed
  have F_L_mirror_fits := fun_mk (st := s_L_mirror_fits) l_L_mirror_fits c_L_mirror_fits k_L_mirror_fits
  have b_L_mirror_fits := F_L_mirror_fits.binds (ps := ["_law_one", "_law_value"]) fun _ _ _ _ _ _ us hl => match us, hl with | [_, _], _ => rfl
  have m_L_mirror_fits := PySem.W.mg_of X G a_L_mirror_fits
  have F_L_form_fits := fun_mk (st := s_L_form_fits) l_L_form_fits c_L_form_fits k_L_form_fits
  have b_L_form_fits := F_L_form_fits.binds (ps := ["_law_one", "_law_values"]) fun _ _ _ _ _ _ us hl => match us, hl with | [_, _], _ => rfl
  have m_L_form_fits := PySem.W.mg_of X G a_L_form_fits
  have F_L_first_mode := fun_mk (st := s_L_first_mode) l_L_first_mode c_L_first_mode k_L_first_mode
  have b_L_first_mode := F_L_first_mode.binds (ps := ["_law_one"]) fun _ _ _ _ _ _ us hl => match us, hl with | [_], _ => rfl
  have m_L_first_mode := PySem.W.mg_of X G a_L_first_mode
  have F_L_small_fits := fun_mk (st := s_L_small_fits) l_L_small_fits c_L_small_fits k_L_small_fits
  have b_L_small_fits := F_L_small_fits.binds (ps := ["_law_source_here"]) fun _ _ _ _ _ _ us hl => match us, hl with | [_], _ => rfl
  have m_L_small_fits := PySem.W.mg_of X G a_L_small_fits
  have F_law := fun_mk (st := s_law) l_law c_law k_law
  have b_law := F_law.binds (ps := ["_law_script"]) fun _ _ _ _ _ _ us hl => match us, hl with | [_], _ => rfl
  have m_law := PySem.W.mg_of X G a_law
  have n_len := PySem.W.mg_none_of X G z_len
  have n_abs := PySem.W.mg_none_of X G z_abs
  have n_int := PySem.W.mg_none_of X G z_int
  have n_range := PySem.W.mg_none_of X G z_range
  have n_isinstance := PySem.W.mg_none_of X G z_isinstance
  have n_bool := PySem.W.mg_none_of X G z_bool
  have n_tuple := PySem.W.mg_none_of X G z_tuple
  have n_divmod := PySem.W.mg_none_of X G z_divmod
  have BL : Blt mg := ⟨n_len, n_abs, n_int, n_range⟩
  have T : SideT K mg aM := ⟨n_isinstance, n_int, n_bool, n_tuple, n_len, n_divmod, PySem.W.mg_of X G a_MODES, fun _ => .inr ⟨_, _, _, l_MODES, rfl, rfl, v_MODES.1, v_MODES.2⟩⟩
  have RT : MirT K w mg aR := ⟨PySem.W.mg_of X G a_MIR, fun m hm => by
    rcases hm with e | e | e | e | e <;> subst e
    · rw [mir_d]; exact ⟨_, _, _, l_MIR, h_MIR, d_down, r_down⟩
    · rw [mir_u]; exact ⟨_, _, _, l_MIR, h_MIR, d_up, r_up⟩
    · rw [mir_hd]; exact ⟨_, _, _, l_MIR, h_MIR, d_half_down, r_half_down⟩
    · rw [mir_hu]; exact ⟨_, _, _, l_MIR, h_MIR, d_half_up, r_half_up⟩
    · rw [mir_he]; exact ⟨_, _, _, l_MIR, h_MIR, d_half_even, r_half_even⟩⟩
  refine ⟨PySem.W.fnOf "law" "law" (defArgs s_law) (defBody s_law) (defScope s_law) .none kV_law dc_law pm_law an_law cd_law ct_law, fun s v => .of_eq rfl, fun base _ _ => ?_⟩
  have C_is_int : Cal l.prog w K mg base "is_int" 1 ["thing"] spIsInt f_is_int _ := ⟨ok_is_int F_is_int T, m_is_int, k_is_int, b_is_int⟩
  have C_is_int_between : Cal l.prog w K mg base "is_int_between" 2 ["thing", "least", "most"] spBetween f_is_int_between _ := ⟨ok_between F_is_int_between C_is_int, m_is_int_between, k_is_int_between, b_is_int_between⟩
  have C_check_value : Cal l.prog w K mg base "check_value" 2 ["value"] spCheckValue f_check_value _ := ⟨ok_check_value F_check_value C_is_int, m_check_value, k_check_value, b_check_value⟩
  have C_check_side : Cal l.prog w K mg base "check_side" 3 ["side"] spCheckSide f_check_side _ := ⟨ok_check_side F_check_side T C_is_int_between, m_check_side, k_check_side, b_check_side⟩
  have C_goes_up : Cal l.prog w K mg base "_goes_up" 1 ["mode", "step", "figure", "rest"] spGo f_goes_up _ := ⟨ok_goes_up F_goes_up, m_goes_up, k_goes_up, b_goes_up⟩
  have C_figure : Cal l.prog w K mg base "_figure" 2 ["side", "value"] spFig f_figure _ := ⟨ok_figure F_figure T C_goes_up, m_figure, k_figure, b_figure⟩
  have C_written : Cal l.prog w K mg base "written" 3 ["side", "value"] spDue f_written _ := ⟨ok_written F_written C_figure, m_written, k_written, b_written⟩
  have C_handed : Cal l.prog w K mg base "handed" 5 ["side", "value"] spDue f_handed _ := ⟨ok_handed F_handed C_check_side C_check_value C_written, m_handed, k_handed, b_handed⟩
  have C_mirror : Cal l.prog w K mg base "mirror" 4 ["side"] spMirror f_mirror _ := ⟨ok_mirror F_mirror RT C_check_side, m_mirror, k_mirror, b_mirror⟩
  have C_first_mode : Cal l.prog w K mg base "_first_mode" 1 ["step", "mode"] spFirst f_first_mode _ := ⟨ok_first F_first_mode, m_first_mode, k_first_mode, b_first_mode⟩
  have C_form : Cal l.prog w K mg base "form" 4 ["side"] spForm f_form _ := ⟨ok_form F_form C_check_side C_first_mode, m_form, k_form, b_form⟩
  have C_L_source : Cal l.prog w K mg base "_law_source" 1 ["_law_script"] (spSource K) f_L_source _ := ⟨ok_source F_L_source BL, m_L_source, k_L_source, b_L_source⟩
  have C_L_draw : Cal l.prog w K mg base "_law_draw" 1 ["_law_source_here", "_law_limit"] spDraw f_L_draw _ := ⟨ok_draw F_L_draw BL, m_L_draw, k_L_draw, b_L_draw⟩
  have C_L_pick : Cal l.prog w K mg base "_law_pick" 2 ["_law_source_here", "_law_values"] spPick f_L_pick _ := ⟨ok_pick F_L_pick BL C_L_draw, m_L_pick, k_L_pick, b_L_pick⟩
  have C_L_great : Cal l.prog w K mg base "_law_great" 2 ["_law_source_here", "_law_digits"] spGreat f_L_great _ := ⟨ok_great F_L_great BL C_L_draw, m_L_great, k_L_great, b_L_great⟩
  have C_L_side : Cal l.prog w K mg base "_law_side" 3 ["_law_source_here", "_law_digits"] spSide f_L_side _ := ⟨ok_side F_L_side BL C_L_draw C_L_pick C_L_great, m_L_side, k_L_side, b_L_side⟩
  have C_L_figure : Cal l.prog w K mg base "_law_figure" 1 ["_law_side_here", "_law_value"] spFig f_L_figure _ := ⟨ok_L_figure F_L_figure BL, m_L_figure, k_L_figure, b_L_figure⟩
  have C_L_handed : Cal l.prog w K mg base "_law_handed" 2 ["_law_side_here", "_law_value"] spDue f_L_handed _ := ⟨ok_L_handed F_L_handed C_L_figure, m_L_handed, k_L_handed, b_L_handed⟩
  have C_L_mirror_fits : Cal l.prog w K mg base "_law_mirror_fits" 6 ["_law_one", "_law_value"] spMirFits f_L_mirror_fits _ := ⟨ok_mirror_fits F_L_mirror_fits T C_check_side C_mirror C_handed C_L_handed, m_L_mirror_fits, k_L_mirror_fits, b_L_mirror_fits⟩
  have C_L_form_fits : Cal l.prog w K mg base "_law_form_fits" 6 ["_law_one", "_law_values"] spFormFits f_L_form_fits _ := ⟨ok_form_fits F_L_form_fits BL T C_form C_handed C_L_handed, m_L_form_fits, k_L_form_fits, b_L_form_fits⟩
  have C_L_first_mode : Cal l.prog w K mg base "_law_first_mode" 4 ["_law_one"] spFirstM f_L_first_mode _ := ⟨ok_L_first F_L_first_mode BL C_L_handed, m_L_first_mode, k_L_first_mode, b_L_first_mode⟩
  have C_L_small_fits : Cal l.prog w K mg base "_law_small_fits" 6 ["_law_source_here"] spSmall f_L_small_fits _ := ⟨ok_small_fits F_L_small_fits BL C_L_draw C_L_pick C_L_handed C_form C_L_first_mode, m_L_small_fits, k_L_small_fits, b_L_small_fits⟩
  exact ok_law F_law BL C_L_source C_L_draw C_L_pick C_L_great C_L_side C_L_mirror_fits C_L_form_fits C_L_small_fits C_form
theorem walk {l : PySem.W.OpenLaw} {q : Program} {loose : List Str} {XP : (Str → Option Value) → Heap → Prop} {YP : World → Heap → Prop} {d : DefRec} {K : Params → PySem.W.Frag} (hn : l.most = some 63) (hdf : d.params.defaults = [])
    (hY : ∀ (w : World) (h : Heap), YP w h → (K w.params).In h)
    (F : ∀ (w : World) (mg : Str → Option Value) (fa : Addr) (h : Heap), (K w.params).In h → h.Ns mainGlobals mg → mg d.name = some (.ref fa) →
      ∃ fd : FuncData, (∀ (s : Shared) (u : Value), BindsTo s fd ⟨[u], []⟩ [("_law_script", u)]) ∧ ∀ base : Heap, (K w.params).In base → base.Ns mainGlobals mg → FnOk l.prog w (K w.params) mg base CX0 10 fa fd ["_law_script"] (spLaw (K w.params))) :
    PySem.W.WalkO q loose XP YP l.row.toRowW d [] (fun f vs => PySem.call f vs) :=
  L2.walk_of (n := 63) (k := 10) (x := "_law_script") (CX := fun _ => CX0) (sp := fun w => spLaw (K w.params)) hn (by decide) hdf ⟨rfl, by decide, by decide⟩ hY F (fun _ _ a ns hl _ hS => ⟨a, ns, rfl, hS, hl, fun _ => rfl⟩) fun _ _ _ _ _ z => z
end HT
open PySem PySem.W PyProof.Rows
set_option maxRecDepth 100000 in
set_option maxHeartbeats 0 in
theorem PySem.Challenge.cw_handedtext_k07_whole_mirrors_and_forms_holds : PySem.Challenge.rw_handedtext_k07_whole_mirrors_and_forms.Holds := by
  w_on; o_law; k_head; (case hw => w_witness2)
  k_fill
  refine HT.walk (l := PySem.Challenge.rw_handedtext_k07_whole_mirrors_and_forms) rfl rfl (fun w h Y => PySem.W.kIn_of Y) ?F
  case F =>
    intro w mg fa h KX G hmg
    refine' HT.all_mk KX G hmg ?a_is_int ?l_is_int ?c_is_int ?k_is_int ?a_is_int_between ?l_is_int_between ?c_is_int_between ?k_is_int_between ?a_check_value ?l_check_value ?c_check_value ?k_check_value ?a_check_side ?l_check_side ?c_check_side ?k_check_side ?a_figure ?l_figure ?c_figure ?k_figure ?a_goes_up ?l_goes_up ?c_goes_up ?k_goes_up ?a_handed ?l_handed ?c_handed ?k_handed ?a_written ?l_written ?c_written ?k_written ?a_mirror ?l_mirror ?c_mirror ?k_mirror ?a_form ?l_form ?c_form ?k_form ?a_first_mode ?l_first_mode ?c_first_mode ?k_first_mode ?a_L_source ?l_L_source ?c_L_source ?k_L_source ?a_L_draw ?l_L_draw ?c_L_draw ?k_L_draw ?a_L_pick ?l_L_pick ?c_L_pick ?k_L_pick ?a_L_great ?l_L_great ?c_L_great ?k_L_great ?a_L_side ?l_L_side ?c_L_side ?k_L_side ?a_L_figure ?l_L_figure ?c_L_figure ?k_L_figure ?a_L_handed ?l_L_handed ?c_L_handed ?k_L_handed ?a_L_mirror_fits ?l_L_mirror_fits ?c_L_mirror_fits ?k_L_mirror_fits ?a_L_form_fits ?l_L_form_fits ?c_L_form_fits ?k_L_form_fits ?a_L_first_mode ?l_L_first_mode ?c_L_first_mode ?k_L_first_mode ?a_L_small_fits ?l_L_small_fits ?c_L_small_fits ?k_L_small_fits ?a_law ?l_law ?c_law ?k_law ?z_len ?z_abs ?z_int ?z_range ?z_isinstance ?z_bool ?z_tuple ?z_divmod ?a_MODES ?l_MODES ?v_MODES ?a_MIR ?l_MIR ?h_MIR ?d_down ?r_down ?d_up ?r_up ?d_half_down ?r_half_down ?d_half_up ?r_half_up ?d_half_even ?r_half_even
    (case a_is_int => k_is)
    (case l_is_int => k_is)
    (case c_is_int => k_is)
    (case k_is_int => k_is)
    (case a_is_int_between => k_is)
    (case l_is_int_between => k_is)
    (case c_is_int_between => k_is)
    (case k_is_int_between => k_is)
    (case a_check_value => k_is)
    (case l_check_value => k_is)
    (case c_check_value => k_is)
    (case k_check_value => k_is)
    (case a_check_side => k_is)
    (case l_check_side => k_is)
    (case c_check_side => k_is)
    (case k_check_side => k_is)
    (case a_figure => k_is)
    (case l_figure => k_is)
    (case c_figure => k_is)
    (case k_figure => k_is)
    (case a_goes_up => k_is)
    (case l_goes_up => k_is)
    (case c_goes_up => k_is)
    (case k_goes_up => k_is)
    (case a_handed => k_is)
    (case l_handed => k_is)
    (case c_handed => k_is)
    (case k_handed => k_is)
    (case a_written => k_is)
    (case l_written => k_is)
    (case c_written => k_is)
    (case k_written => k_is)
    (case a_mirror => k_is)
    (case l_mirror => k_is)
    (case c_mirror => k_is)
    (case k_mirror => k_is)
    (case a_form => k_is)
    (case l_form => k_is)
    (case c_form => k_is)
    (case k_form => k_is)
    (case a_first_mode => k_is)
    (case l_first_mode => k_is)
    (case c_first_mode => k_is)
    (case k_first_mode => k_is)
    (case a_L_source => k_is)
    (case l_L_source => k_is)
    (case c_L_source => k_is)
    (case k_L_source => k_is)
    (case a_L_draw => k_is)
    (case l_L_draw => k_is)
    (case c_L_draw => k_is)
    (case k_L_draw => k_is)
    (case a_L_pick => k_is)
    (case l_L_pick => k_is)
    (case c_L_pick => k_is)
    (case k_L_pick => k_is)
    (case a_L_great => k_is)
    (case l_L_great => k_is)
    (case c_L_great => k_is)
    (case k_L_great => k_is)
    (case a_L_side => k_is)
    (case l_L_side => k_is)
    (case c_L_side => k_is)
    (case k_L_side => k_is)
    (case a_L_figure => k_is)
    (case l_L_figure => k_is)
    (case c_L_figure => k_is)
    (case k_L_figure => k_is)
    (case a_L_handed => k_is)
    (case l_L_handed => k_is)
    (case c_L_handed => k_is)
    (case k_L_handed => k_is)
    (case a_L_mirror_fits => k_is)
    (case l_L_mirror_fits => k_is)
    (case c_L_mirror_fits => k_is)
    (case k_L_mirror_fits => k_is)
    (case a_L_form_fits => k_is)
    (case l_L_form_fits => k_is)
    (case c_L_form_fits => k_is)
    (case k_L_form_fits => k_is)
    (case a_L_first_mode => k_is)
    (case l_L_first_mode => k_is)
    (case c_L_first_mode => k_is)
    (case k_L_first_mode => k_is)
    (case a_L_small_fits => k_is)
    (case l_L_small_fits => k_is)
    (case c_L_small_fits => k_is)
    (case k_L_small_fits => k_is)
    (case a_law => k_is)
    (case l_law => k_is)
    (case c_law => k_is)
    (case k_law => k_is)
    (case z_len => k_is)
    (case z_abs => k_is)
    (case z_int => k_is)
    (case z_range => k_is)
    (case z_isinstance => k_is)
    (case z_bool => k_is)
    (case z_tuple => k_is)
    (case z_divmod => k_is)
    (case a_MODES => k_is)
    (case l_MODES => k_is)
    (case v_MODES => exact ⟨by decide, .cons ⟨_, rfl⟩ (.cons ⟨_, rfl⟩ (.cons ⟨_, rfl⟩ (.cons ⟨_, rfl⟩ (.cons ⟨_, rfl⟩ .nil))))⟩)
    (case a_MIR => k_is)
    (case l_MIR => k_is)
    (case h_MIR => k_keys)
    (case d_down => k_is)
    (case r_down => exact ⟨_, rfl⟩)
    (case d_up => k_is)
    (case r_up => exact ⟨_, rfl⟩)
    (case d_half_down => k_is)
    (case r_half_down => exact ⟨_, rfl⟩)
    (case d_half_up => k_is)
    (case r_half_up => exact ⟨_, rfl⟩)
    (case d_half_even => k_is)
    (case r_half_even => exact ⟨_, rfl⟩)
#print axioms PySem.Challenge.cw_handedtext_k07_whole_mirrors_and_forms_holds
