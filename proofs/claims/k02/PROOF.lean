import PyProof.Rows.All
import Wide.All
import OpenK.AllK
import Wide.FinOn
import HandS.ForMost
import HandS.Wide
import HandS.NoneIn
import HandS.IsInst
import HandS.StrMore
import HandS.Defaults
import KE.KEqSeq
import KE.KEqDeep
import HandS.ReplaceLit
import HandS.MakeKwOnly
import PySem.Challenge.RW_handedtext_k02_whole_texts_read
set_option Elab.async false
set_option linter.all false
set_option maxRecDepth 100000
set_option maxHeartbeats 4000000
set_option exponentiation.threshold 3000
open PySem L2
local macro_rules | `(tactic| walk_at "rd") => `(tactic| repeat (first | refine ⟨_, rfl, ?_⟩ | refine ⟨_, _, rfl, rfl, ?_⟩ | refine .inl ⟨_, rfl, ?_⟩))
namespace HT
open PySem L2
def top (i : Nat) : Stmt := PySem.Challenge.pw_handedtext_k02_whole_texts_read.main.body.getD i (.Pass ⟨0, 0, 0, 0⟩)
abbrev s_is_int : Stmt := top 7
abbrev s_is_int_between : Stmt := top 8
abbrev s_check_value : Stmt := top 9
abbrev s_text_of : Stmt := top 14
abbrev s_check_style : Stmt := top 15
abbrev s_grouped : Stmt := top 16
abbrev s_mark : Stmt := top 17
abbrev s_read_text : Stmt := top 18
abbrev s_past_whole : Stmt := top 19
abbrev s_past_groups : Stmt := top 20
abbrev s_past_places : Stmt := top 21
abbrev s_past_digits : Stmt := top 22
abbrev s_L_source : Stmt := top 24
abbrev s_L_draw : Stmt := top 25
abbrev s_L_pick : Stmt := top 26
abbrev s_L_great : Stmt := top 27
abbrev s_L_styles : Stmt := top 28
abbrev s_law : Stmt := top 29
/- is_int: 0:thing -/
theorem sc_is_int : FnScope ["thing"] ["thing"] (defScope s_is_int) := ⟨rfl, rfl, rfl, by decide +kernel, rfl, by decide +kernel, by decide +kernel⟩
/- is_int_between: 0:thing 1:least 2:most -/
theorem sc_is_int_between : FnScope ["thing", "least", "most"] ["thing", "least", "most"] (defScope s_is_int_between) := ⟨rfl, rfl, rfl, by decide +kernel, rfl, by decide +kernel, by decide +kernel⟩
/- check_value: 0:value -/
theorem sc_check_value : FnScope ["value"] ["value"] (defScope s_check_value) := ⟨rfl, rfl, rfl, by decide +kernel, rfl, by decide +kernel, by decide +kernel⟩
/- text_of: 0:figure 1:places 2:sign 3:group 4:width 5:digits 6:point 7:text -/
theorem sc_text_of : FnScope ["figure", "places", "sign", "group", "width", "digits", "point", "text"] ["figure", "places", "sign", "group", "width"] (defScope s_text_of) := ⟨rfl, rfl, rfl, by decide +kernel, rfl, by decide +kernel, by decide +kernel⟩
/- _check_style: 0:sign 1:group 2:width -/
theorem sc_check_style : FnScope ["sign", "group", "width"] ["sign", "group", "width"] (defScope s_check_style) := ⟨rfl, rfl, rfl, by decide +kernel, rfl, by decide +kernel, by decide +kernel⟩
/- _grouped: 0:digits 1:first 2:parts 3:at -/
theorem sc_grouped : FnScope ["digits", "first", "parts", "at"] ["digits"] (defScope s_grouped) := ⟨rfl, rfl, rfl, by decide +kernel, rfl, by decide +kernel, by decide +kernel⟩
/- _mark: 0:figure 1:sign -/
theorem sc_mark : FnScope ["figure", "sign"] ["figure", "sign"] (defScope s_mark) := ⟨rfl, rfl, rfl, by decide +kernel, rfl, by decide +kernel, by decide +kernel⟩
/- read_text: 0:text 1:start 2:whole 3:point 4:end 5:figure -/
theorem sc_read_text : FnScope ["text", "start", "whole", "point", "end", "figure"] ["text"] (defScope s_read_text) := ⟨rfl, rfl, rfl, by decide +kernel, rfl, by decide +kernel, by decide +kernel⟩
/- _past_whole: 0:text 1:at 2:end -/
theorem sc_past_whole : FnScope ["text", "at", "end"] ["text", "at"] (defScope s_past_whole) := ⟨rfl, rfl, rfl, by decide +kernel, rfl, by decide +kernel, by decide +kernel⟩
/- _past_groups: 0:text 1:at 2:end -/
theorem sc_past_groups : FnScope ["text", "at", "end"] ["text", "at"] (defScope s_past_groups) := ⟨rfl, rfl, rfl, by decide +kernel, rfl, by decide +kernel, by decide +kernel⟩
/- _past_places: 0:text 1:at 2:end -/
theorem sc_past_places : FnScope ["text", "at", "end"] ["text", "at"] (defScope s_past_places) := ⟨rfl, rfl, rfl, by decide +kernel, rfl, by decide +kernel, by decide +kernel⟩
/- _past_digits: 0:text 1:at 2:most 3:end -/
theorem sc_past_digits : FnScope ["text", "at", "most", "end"] ["text", "at", "most"] (defScope s_past_digits) := ⟨rfl, rfl, rfl, by decide +kernel, rfl, by decide +kernel, by decide +kernel⟩
/- _law_source: 0:_law_script 1:_law_cells 2:_law_k -/
theorem sc_L_source : FnScope ["_law_script", "_law_cells", "_law_k"] ["_law_script"] (defScope s_L_source) := ⟨rfl, rfl, rfl, by decide +kernel, rfl, by decide +kernel, by decide +kernel⟩
/- _law_draw: 0:_law_source_here 1:_law_limit 2:_law_cells 3:_law_turn 4:_law_place 5:_law_cell 6:_law_number -/
theorem sc_L_draw : FnScope ["_law_source_here", "_law_limit", "_law_cells", "_law_turn", "_law_place", "_law_cell", "_law_number"] ["_law_source_here", "_law_limit"] (defScope s_L_draw) := ⟨rfl, rfl, rfl, by decide +kernel, rfl, by decide +kernel, by decide +kernel⟩
/- _law_pick: 0:_law_source_here 1:_law_values -/
theorem sc_L_pick : FnScope ["_law_source_here", "_law_values"] ["_law_source_here", "_law_values"] (defScope s_L_pick) := ⟨rfl, rfl, rfl, by decide +kernel, rfl, by decide +kernel, by decide +kernel⟩
/- _law_great: 0:_law_source_here 1:_law_digits 2:_law_number 3:_law_k -/
theorem sc_L_great : FnScope ["_law_source_here", "_law_digits", "_law_number", "_law_k"] ["_law_source_here", "_law_digits"] (defScope s_L_great) := ⟨rfl, rfl, rfl, by decide +kernel, rfl, by decide +kernel, by decide +kernel⟩
/- _law_styles: 0:_law_figure 1:_law_places 2:_law_found 3:_law_signed 4:_law_by_three 5:_law_wide -/
theorem sc_L_styles : FnScope ["_law_figure", "_law_places", "_law_found", "_law_signed", "_law_by_three", "_law_wide"] ["_law_figure", "_law_places"] (defScope s_L_styles) := ⟨rfl, rfl, rfl, by decide +kernel, rfl, by decide +kernel, by decide +kernel⟩
/- law: 0:_law_script 1:_law_source_here 2:_law_turn 3:_law_figure 4:_law_places 5:_law_text 6:_law_other 7:_law_nought -/
theorem sc_law : FnScope ["_law_script", "_law_source_here", "_law_turn", "_law_figure", "_law_places", "_law_text", "_law_other", "_law_nought"] ["_law_script"] (defScope s_law) := ⟨rfl, rfl, rfl, by decide +kernel, rfl, by decide +kernel, by decide +kernel⟩

end HT
namespace L2
open PySem PySem.Spec PyProof.Rows
/-- powers of great numbers -/
def CPowW (i j : Int) : Prop := 0 ≤ j ∧ (Builtin.Int.intBits i : Int) * j ≤ 2 ^ 27
theorem op_powW {X : Cx} : OpR X (binaryOp .Pow) (rI CPowW fun i j => .int (i ^ j.toNat)) := opI fun _ _ _ _ _ _ _ hc q => pow_int hc.1 hc.2 q
end L2
namespace HT
open PySem L2
/-- the law's source of draws: a list of its cells' list and the turn -/
structure Src (H : Hp) (a c : Addr) (t : Nat) : Prop where
  ne : a ≠ c
  ob : H a = some (.lst [.ref c, .int (t : Int)])
  cl : ∃ cs : List Int, H c = some (.lst (cs.map V.int)) ∧ 0 < cs.length ∧ cs.length ≤ 63
/-- nothing else is touched -/
def Oth (a c : Addr) (H H' : Hp) : Prop := ∀ b o, H b = some o → b ≠ a → b ≠ c → H' b = some o
theorem Oth.refl (a c : Addr) (H : Hp) : Oth a c H H := fun _ _ h _ _ => h
theorem Oth.trans {a c : Addr} {H H1 H2 : Hp} (x : Oth a c H H1) (y : Oth a c H1 H2) : Oth a c H H2 := fun b o h n m => y b o (x b o h n m) n m
theorem Oth.new {a c p : Addr} {H H1 : Hp} {o : HO} (x : Oth a c H H1) (n : H1 p = none) : Oth a c H (upd H1 p o) := fun b u h na nc => by
  rw [upd_ne (ne_of_none (x b u h na nc) n)]
  exact x b u h na nc
theorem Src.new {a c p : Addr} {H : Hp} {t : Nat} {o : HO} (S : Src H a c t) (n : H p = none) : Src (upd H p o) a c t := by
  obtain ⟨cs, h, l⟩ := S.cl
  exact ⟨S.ne, by rw [upd_ne (ne_of_none S.ob n)]; exact S.ob, cs, by rw [upd_ne (ne_of_none h n)]; exact h, l⟩
theorem Src.of_same {a c : Addr} {H H' : Hp} {t : Nat} (S : Src H a c t) (e : Same H H') : Src H' a c t := by
  obtain ⟨cs, h, l⟩ := S.cl
  exact ⟨S.ne, e _ _ S.ob, cs, e _ _ h, l⟩
theorem Src.na {a c p : Addr} {H : Hp} {t : Nat} (S : Src H a c t) (n : H p = none) : p ≠ a ∧ p ≠ c := by
  obtain ⟨cs, h, l⟩ := S.cl
  exact ⟨(ne_of_none S.ob n).symm, (ne_of_none h n).symm⟩
theorem Src.nt {a c p : Addr} {H : Hp} {t : Nat} {xs : List V} (S : Src H a c t) (n : H p = some (.tup xs)) : p ≠ a ∧ p ≠ c := by
  obtain ⟨cs, h, l⟩ := S.cl
  exact ⟨ne_of n S.ob (by intro z; cases z), ne_of n h (by intro z; cases z)⟩
def spSource (K : PySem.W.Frag) : Sp := fun vs H Q _ => ∃ (l : Addr) (ns : List Int), vs = [.ref l] ∧ SqL K H l (ns.map V.int) ∧ ns.length ≤ 63 ∧
  ∀ a c H', Same H H' → H a = none → H c = none → Src H' a c 0 → Q (.ref a) H'
def spDraw : Sp := fun vs H Q _ => ∃ (a c : Addr) (t : Nat) (lim : Int), vs = [.ref a, .int lim] ∧ Src H a c t ∧ t < 2 ^ 30 ∧ 0 < lim ∧ lim.natAbs.log2 < 9000 ∧
  ∀ k H', 0 ≤ k → k < lim → Src H' a c (t + 1) → Oth a c H H' → Q (.int k) H'
/-- what the walk asks of the names that the text does not bind -/
structure Blt (mg : Str → Option Value) : Prop where
  len : mg "len" = none
  abs : mg "abs" = none
  int : mg "int" = none
  range : mg "range" = none
section
variable {P : Program} {w : World} {K : PySem.W.Frag} {mg : Str → Option Value} {base : Heap}
theorem fdiv_ok (i : Int) {j : Int} (h : 0 < j) (h9 : j.natAbs.log2 < 9000) : CDivW i j := ⟨h, h9⟩
theorem atI_in {xs : List Int} {i : Int} (h0 : 0 ≤ i) (h : i < (xs.length : Int)) : atI (xs.map V.int) i = some (.int (xs.getD i.toNat 0)) := by
  have e : ixN (xs.map V.int).length i = some i.toNat := by
    unfold ixN
    rw [List.length_map, if_pos h0, if_pos h]
  unfold atI
  rw [e]
  show (xs.map V.int)[i.toNat]? = _
  have hl : i.toNat < xs.length := by omega
  rw [List.getElem?_map, List.getElem?_eq_getElem hl, List.getD_eq_getElem?_getD, List.getElem?_eq_getElem hl]
  rfl
theorem ixN_in {n : Nat} {i : Int} (h0 : 0 ≤ i) (h : i < (n : Int)) : ixN n i = some i.toNat := by
  unfold ixN
  rw [if_pos h0, if_pos h]
theorem b_mod (x : Int) : -(2 ^ 64) < x % 2147483629 ∧ x % 2147483629 < 2 ^ 64 := by omega
theorem b_mod1 (x : Int) : -(2 ^ 64) < x % 2147483647 ∧ x % 2147483647 < 2 ^ 64 := by omega
theorem b_t {t : Nat} (h : t < 2 ^ 30) : -(2 ^ 64) < (t : Int) ∧ (t : Int) < 2 ^ 64 := by omega
theorem b_tt {t : Nat} (h : t < 2 ^ 30) : -(2 ^ 64) < (t : Int) * t ∧ (t : Int) * t < 2 ^ 64 := by
  have h1 : t * t < 2 ^ 30 * 2 ^ 30 := Nat.mul_lt_mul'' h h
  have h2 : ((t * t : Nat) : Int) = (t : Int) * t := Int.natCast_mul t t
  omega
theorem set_ints (xs : List Int) (j : Nat) (y : Int) : (xs.map V.int).set j (.int y) = (xs.set j y).map V.int := by
  rw [List.map_set]
theorem ok_draw {f : Addr} {fd : FuncData} (F : Fun K "_law_draw" "_law_draw" s_L_draw f fd) (B : Blt mg) : FnOk P w K mg base CX0 1 f fd ["_law_source_here", "_law_limit"] spDraw := by
  refine F.ok sc_L_draw (fun vs H Q E h => ?_) (fun cdv A outer s H vs Q E hr h => ?_)
  · obtain ⟨a, c, t, lim, rfl, _⟩ := h
    rfl
  · obtain ⟨a, c, t, lim, rfl, S, ht, hl0, hl9, q⟩ := h
    obtain ⟨cs, hc, hn0, hn⟩ := S.cl
    have nd := sc_L_draw.nd
    refine ⟨_, pss_cons (ps_asg (pv 0) (pg_unl (n := 2) (by rfl) (pgs_cons (pg_name (i := 2) nd rfl (Or.inl rfl)) (pgs_cons (pg_name (i := 3) nd rfl (Or.inl rfl)) pgs_nil))))
      (pss_cons (ps_set (i := 4) nd rfl (Or.inl rfl) (pe_op op_mod (pe_callTy call_int1 (by rfl) B.int (by decide +kernel) (pa_cons (pv 3) pa_nil)) (pe_callB call_len_seq (by rfl) B.len PySem.boot_len (pa_cons (pv 2) pa_nil))))
      (pss_cons (ps_set (i := 5) nd rfl (Or.inl rfl) (pe_ix ix_list (pv 2) (pv 4) (fun _ _ => rfl)))
      (pss_cons (ps_asg (pe_op op_add (pv 3) pe_int) (pg_sub (pv 0) pe_int set_list))
      (pss_cons (ps_if (pt_cmpR op_ge (pv 5) (pe_op op_pow pe_int pe_int) (nomark _))
        (pss_cons (ps_asg (pe_op op_fdivW (pv 5) (pv 1)) (pg_sub (pv 2) (pv 4) set_list))
          (pss_one (ps_ret (pe_op op_mod (pe_callTy call_int1 (by rfl) B.int (by decide +kernel) (pa_cons (pv 5) pa_nil)) (pv 1))))) pss_nil)
      (pss_cons (ps_set (i := 6) nd rfl (Or.inl rfl) (pe_op op_mod (pe_callTy call_int1 (by rfl) B.int (by decide +kernel) (pa_cons
          (pe_op op_add (pe_op op_add (pe_op op_mul (pe_op op_mod (pe_callTy call_int1 (by rfl) B.int (by decide +kernel) (pa_cons (pv 5) pa_nil)) pe_int) pe_int) (pe_op op_mul (pe_op op_mul (pv 3) (pv 3)) pe_int)) pe_int) pa_nil)) pe_int))
      (pss_cons (ps_set (i := 6) nd rfl (Or.inl rfl) (pe_op op_mod (pe_callTy call_int1 (by rfl) B.int (by decide +kernel) (pa_cons (pe_op op_mul (pv 6) (pv 6)) pa_nil)) pe_int))
      (pss_cons (ps_set (i := 6) nd rfl (Or.inl rfl) (pe_op op_mod (pe_callTy call_int1 (by rfl) B.int (by decide +kernel) (pa_cons (pe_op op_mul (pv 6) (pv 6)) pa_nil)) pe_int))
      (pss_one (ps_ret (pe_op op_mod (pe_callTy call_int1 (by rfl) B.int (by decide +kernel) (pa_cons (pv 6) pa_nil)) (pv 1))))))))))), ?_⟩
    -- _law_cells, _law_turn = _law_source_here
    walk_at "rd"
    refine ⟨a, _, rfl, SqL.of S.ob, rfl, _, _, rfl, _, _, rfl, rfl, ?_⟩
    -- _law_place
    walk_at "rd"
    have hn0' : (0 : Int) < ((cs.map V.int).length : Nat) := by rw [List.length_map]; omega
    refine ⟨c, _, rfl, .inl (SqL.of hc), _, _, rfl, rfl, hn0', ?_⟩
    have hp0 : 0 ≤ (t : Int) % ((cs.map V.int).length : Nat) := Int.emod_nonneg _ (by omega)
    have hp1 : (t : Int) % ((cs.map V.int).length : Nat) < ((cs.map V.int).length : Nat) := Int.emod_lt_of_pos _ hn0'
    have hp1' : (t : Int) % ((cs.map V.int).length : Nat) < (cs.length : Int) := by rw [List.length_map] at hp1 ⊢; exact hp1
    -- _law_cell
    walk_at "rd"
    refine ⟨c, _, _, _, rfl, rfl, SqL.of hc, atI_in hp0 hp1', ?_⟩
    -- _law_source_here[1] = _law_turn + 1
    walk_at "rd"
    refine ⟨a, _, 1, 1, rfl, rfl, S.ob, rfl, ?_⟩
    have S1 : Src (upd H a (.lst ([V.ref c, V.int t].set 1 (.int ((t : Int) + 1))))) a c (t + 1) := ⟨S.ne, by rw [upd_same]; rfl, cs, by rw [upd_ne S.ne.symm]; exact hc, hn0, hn⟩
    have O1 : Oth a c H (upd H a (.lst ([V.ref c, V.int t].set 1 (.int ((t : Int) + 1))))) := fun b o h na _ => by rw [upd_ne na]; exact h
    have hc1 : upd H a (.lst ([V.ref c, V.int t].set 1 (.int ((t : Int) + 1)))) c = some (.lst (cs.map V.int)) := by rw [upd_ne S.ne.symm]; exact hc
    generalize upd H a (.lst ([V.ref c, V.int t].set 1 (.int ((t : Int) + 1)))) = H1 at S1 O1 hc1 ⊢
    -- if _law_cell >= 10 ** 18
    walk_at "rd"
    refine ⟨⟨by decide, by decide, by decide⟩, ?_⟩
    walk_at "rd"
    refine ite2 (fun _ => ?_) (fun _ => ?_)
    · walk_at "rd"
      refine ⟨fdiv_ok _ hl0 hl9, ?_⟩
      walk_at "rd"
      refine ⟨c, _, _, _, rfl, rfl, hc1, ixN_in hp0 hp1, ?_⟩
      walk_at "rd"
      refine ⟨hl0, ?_⟩
      rw [set_ints]
      refine q _ _ (Int.emod_nonneg _ (by omega)) (Int.emod_lt_of_pos _ hl0) ⟨S1.ne, by rw [upd_ne S1.ne]; exact S1.ob, _, upd_same, by rw [List.length_set]; exact hn0, by rw [List.length_set]; exact hn⟩ fun b o h na nc => ?_
      rw [upd_ne nc]
      exact O1 b o h na nc
    · walk_at "rd"
      refine ⟨(by show (0 : Int) < 2147483629; decide), ?_⟩
      walk_at "rd"
      refine ⟨.inl (b_mod _), ?_⟩
      walk_at "rd"
      refine ⟨.inl (b_t ht), ?_⟩
      walk_at "rd"
      refine ⟨.inl (b_tt ht), ?_⟩
      walk_at "rd"
      refine ⟨(by show (0 : Int) < 2147483647; decide), ?_⟩
      walk_at "rd"
      refine ⟨.inl (b_mod1 _), ?_⟩
      walk_at "rd"
      refine ⟨(by show (0 : Int) < 2147483629; decide), ?_⟩
      walk_at "rd"
      refine ⟨.inl (b_mod _), ?_⟩
      walk_at "rd"
      refine ⟨(by show (0 : Int) < 2147483587; decide), ?_⟩
      walk_at "rd"
      refine ⟨hl0, ?_⟩
      exact q _ _ (Int.emod_nonneg _ (by omega)) (Int.emod_lt_of_pos _ hl0) S1 O1
end
end HT
namespace HT
open PySem L2
/-- a def of the text that may be called by its name, and what it promises -/
structure Cal (P : Program) (w : World) (K : PySem.W.Frag) (mg : Str → Option Value) (base : Heap) (x : Str) (k : Nat) (ps : List Str) (sp : Sp) (f : Addr) (fd : FuncData) : Prop where
  ok : FnOk P w K mg base CX0 k f fd ps sp
  gl : mg x = some (.ref f)
  kp : PySem.W.keepIn K (.ref f) = true
  bd : Binds K fd ps []
theorem pcl {X : Cx} {x : Str} {k j : Nat} {ps : List Str} {sp : Sp} {f : Addr} {fd : FuncData} {e : Expr} {es : List Expr} {t : TA} {p pos : Pos} (C : Cal X.prog X.w X.K X.mg X.base x k ps sp f fd) (hr : Room j X.A) (hj : k ≤ j) (hg : Gl X x) (ha : PA X (e :: es) t)
    (hdb : (x == ("__debug__" : Str)) = false := by decide) (he : starEach (e :: es) X.env = (false, eval e X.env) :: starEach es X.env := by rfl) (hpl : (backTo pos (starEach es X.env)).any (·.1) = false := by rfl) : PE X (.Call (.Name x p) (e :: es) [] pos) (tCall sp [] E0 t) :=
  pe_call C.ok (hr.mono hj) hg C.gl C.kp C.bd .nil pass0 ha hdb he hpl
section
variable {P : Program} {w : World} {K : PySem.W.Frag} {mg : Str → Option Value} {base : Heap}
theorem cut63 {ns : List Int} (h : ns.length ≤ 63) : cutV (ns.map V.int) none (some 63) = ns.map V.int := by
  have e1 : HT.sIx (ns.map V.int).length 0 none = 0 := rfl
  have e2 : HT.sIx (ns.map V.int).length (ns.map V.int).length (some 63) = (ns.map V.int).length := by
    have := HT.sIx_nat (ns.map V.int).length (ns.map V.int).length 63
    rw [show ((63 : Nat) : Int) = 63 from rfl] at this
    rw [this, List.length_map]
    omega
  unfold cutV
  rw [e1, e2, List.drop_zero, Nat.sub_zero, List.take_length]
theorem dpInts (H : Hp) : ∀ ns : List Int, DpAll K H (ns.map V.int) (ns.map PyData.int)
  | [] => .nil
  | n :: r => .cons (.int n) (dpInts H r)
theorem pow_ok : CPowW ((10 : Int) ^ (60 : Int).toNat) 20 := ⟨by decide, by decide +kernel⟩
theorem pow_pos' : (0 : Int) < ((10 : Int) ^ (60 : Int).toNat) ^ (20 : Int).toNat := by decide +kernel
theorem ok_source {f : Addr} {fd : FuncData} (F : Fun K "_law_source" "_law_source" s_L_source f fd) (B : Blt mg) : FnOk P w K mg base CX0 1 f fd ["_law_script"] (spSource K) := by
  refine F.ok sc_L_source (fun vs H Q E h => ?_) (fun cdv A outer s H vs Q E hr h => ?_)
  · obtain ⟨l, ns, rfl, _⟩ := h
    rfl
  · obtain ⟨l, ns, rfl, hL, hn, q⟩ := h
    have nd := sc_L_source.nd
    refine ⟨_, pss_cons (ps_set (i := 1) nd rfl (Or.inl rfl) (pe_slice sl_list (pv 0) po_none (po_some pe_int)))
      (pss_cons (ps_for PassesOwn.never rfl (pi_range1 (by rfl) B.range (pa_cons (pe_callB call_len_seq (by rfl) B.len PySem.boot_len (pa_cons (pv 1) pa_nil)) pa_nil)) (pg_name (i := 2) nd rfl (Or.inl rfl))
        (pss_one (ps_if (pt_cmpR op_ge (pe_callB call_abs (by rfl) B.abs (by decide +kernel) (pa_cons (pe_ix ix_list (pv 1) (pv 2) (fun _ _ => rfl)) pa_nil)) (pe_op op_pow pe_int pe_int) (nomark _))
          (pss_one (ps_asg (pe_op op_mod (pe_callTy call_int1 (by rfl) B.int (by decide +kernel) (pa_cons (pe_ix ix_list (pv 1) (pv 2) (fun _ _ => rfl)) pa_nil)) (pe_op op_powW (pe_op op_pow pe_int pe_int) pe_int)) (pg_sub (pv 1) (pv 2) set_list))) pss_nil)))
      (pss_cons (ps_if (pt_cmpR (op_eqD hr.units) (pv 1) (pe_lst pa_nil) (nomark _)) (pss_one (ps_set (i := 1) nd rfl (Or.inl rfl) (pe_lst (pa_cons pe_int pa_nil)))) pss_nil)
      (pss_one (ps_ret (pe_lst (pa_cons (pv 1) (pa_cons pe_int pa_nil))))))), ?_⟩
    walk_at "rd"
    refine ⟨l, _, rfl, hL, fun p np => ?_⟩
    rw [cut63 hn]
    walk_at "rd"
    refine ⟨p, _, rfl, .inl (SqL.of upd_same), _, rfl, by omega, ?_, ?_⟩
    · show ((ns.map V.int).length : Int) < 2 ^ 62
      rw [List.length_map]
      omega
    have en : ((ns.map V.int).length : Int).toNat = ns.length := by rw [List.length_map]; omega
    rw [en]
    refine for_range (fun i σ H' => ∃ (cs : List Int) (kv : Option V), σ = [some (.ref l), some (.ref p), kv] ∧ H' p = some (.lst (cs.map V.int)) ∧ cs.length = ns.length ∧ Same H H') ⟨ns, none, rfl, upd_same, rfl, fun b o e => by rw [upd_ne (ne_of_none e np)]; exact e⟩ ?_ ?_
    · rintro i σ H' hi ⟨cs, kv, rfl, hp, hl, sm⟩
      have h0 : (0 : Int) ≤ 0 + (i : Int) := by omega
      have h1 : (0 : Int) + (i : Int) < (cs.length : Int) := by omega
      walk_at "rd"
      refine ⟨p, _, _, _, rfl, rfl, SqL.of hp, atI_in h0 h1, ?_⟩
      walk_at "rd"
      refine ⟨⟨by decide, by decide, by decide⟩, ?_⟩
      walk_at "rd"
      refine ite2 (fun _ => ?_) (fun _ => ?_)
      · walk_at "rd"
        refine ⟨p, _, _, _, rfl, rfl, SqL.of hp, atI_in h0 h1, ?_⟩
        walk_at "rd"
        refine ⟨⟨by decide, by decide, by decide⟩, ?_⟩
        walk_at "rd"
        refine ⟨pow_ok, ?_⟩
        walk_at "rd"
        refine ⟨pow_pos', ?_⟩
        walk_at "rd"
        refine ⟨p, _, _, _, rfl, rfl, hp, ixN_in h0 (by rw [List.length_map]; exact h1), ?_⟩
        rw [set_ints]
        exact ⟨_, _, rfl, upd_same, by rw [List.length_set]; exact hl, fun b o e => by rw [upd_ne (ne_of_none e np)]; exact sm b o e⟩
      · exact ⟨cs, _, rfl, hp, hl, sm⟩
    · rintro σ H' ⟨cs, kv, rfl, hp, hl, sm⟩
      walk_at "rd"
      refine ⟨by decide, fun e ne => ?_⟩
      have hpe : upd H' e (.lst []) p = some (.lst (cs.map V.int)) := by rw [upd_ne (ne_of_none hp ne)]; exact hp
      have sm1 : Same H (upd H' e (.lst [])) := fun b o z => by rw [upd_ne (ne_of_none (sm b o z) ne)]; exact sm b o z
      refine ⟨_, _, .lst (SqL.of hpe) (dpInts _ cs), .lst (SqL.of upd_same) .nil, PySem.W.ke_shaped_ints cs, by decide +kernel, ?_⟩
      walk_at "rd"
      have hb : PyData.eqv (.list (cs.map PyData.int)) (.list []) = decide (cs = []) := by
        have z := PySem.W.ked_eqvAll cs []
        rw [← z]
        rfl
      rw [hb]
      refine ite2 (fun _ => ?_) (fun hne => ?_)
      · walk_at "rd"
        refine ⟨by decide, fun c nc => ?_⟩
        walk_at "rd"
        refine ⟨(by show 2 ≤ sizeLine; decide), fun a na => ?_⟩
        have sm2 : Same H (upd (upd H' e (.lst [])) c (.lst [.int 0])) := fun b o z => by rw [upd_ne (ne_of_none (sm1 b o z) nc)]; exact sm1 b o z
        have nac : a ≠ c := (ne_of_none upd_same na).symm
        refine q a c _ (fun b o z => by rw [upd_ne (ne_of_none (sm2 b o z) na)]; exact sm2 b o z) (sm2.free na) (sm1.free nc) ⟨nac, upd_same, [0], by rw [upd_ne nac.symm]; exact upd_same, by decide, by decide⟩
      · walk_at "rd"
        refine ⟨(by show 2 ≤ sizeLine; decide), fun a na => ?_⟩
        have nap : a ≠ p := (ne_of_none hpe na).symm
        refine q a p _ (fun b o z => by rw [upd_ne (ne_of_none (sm1 b o z) na)]; exact sm1 b o z) (sm1.free na) np ⟨nap, upd_same, cs, by rw [upd_ne nap.symm]; exact hpe, ?_, by omega⟩
        have : cs ≠ [] := fun z => hne (decide_eq_true z)
        exact List.length_pos_iff.mpr this
end
end HT
namespace HT
open PySem L2
def spPick : Sp := fun vs H Q _ => ∃ (a c : Addr) (t : Nat) (l : Addr) (xs : List V), vs = [.ref a, .ref l] ∧ Src H a c t ∧ t < 2 ^ 30 ∧ H l = some (.lst xs) ∧ l ≠ a ∧ l ≠ c ∧ 0 < xs.length ∧ xs.length < 2 ^ 60 ∧
  ∀ x H', x ∈ xs → Src H' a c (t + 1) → Oth a c H H' → Q x H'
theorem lg_nat {n : Nat} (h : n < 2 ^ 200) : ((n : Int)).natAbs.log2 < 9000 := by
  rw [Int.natAbs_natCast]
  by_cases e : n = 0
  · rw [e]; decide
  · have := (Nat.log2_lt e).mpr h
    omega
section
variable {P : Program} {w : World} {K : PySem.W.Frag} {mg : Str → Option Value} {base : Heap} {fD fP fG : Addr} {dD dP dG : FuncData}
theorem ok_pick {f : Addr} {fd : FuncData} (F : Fun K "_law_pick" "_law_pick" s_L_pick f fd) (B : Blt mg) (D : Cal P w K mg base "_law_draw" 1 ["_law_source_here", "_law_limit"] spDraw fD dD) :
    FnOk P w K mg base CX0 2 f fd ["_law_source_here", "_law_values"] spPick := by
  refine F.ok sc_L_pick (fun vs H Q E h => ?_) (fun cdv A outer s H vs Q E hr h => ?_)
  · obtain ⟨a, c, t, l, xs, rfl, _⟩ := h
    rfl
  · obtain ⟨a, c, t, l, xs, rfl, S, ht, hl, na, nc, h0, h1, q⟩ := h
    refine ⟨_, pss_one (ps_ret (pe_ix ix_list (pv 1) (pcl D hr (by decide) (by rfl) (pa_cons (pv 0) (pa_cons (pe_callB call_len_seq (by rfl) B.len PySem.boot_len (pa_cons (pv 1) pa_nil)) pa_nil))) (fun _ _ => rfl))), ?_⟩
    walk_at "rd"
    refine ⟨l, _, rfl, .inl (SqL.of hl), ?_⟩
    have p1 : (0 : Int) < (xs.length : Int) := by omega
    refine ⟨a, c, t, _, rfl, S, ht, p1, lg_nat (Nat.lt_of_lt_of_le h1 (Nat.pow_le_pow_right (by decide) (by decide))), fun k H' k0 k1 S' O => ?_⟩
    have hl' : k.toNat < xs.length := by omega
    have e : atI xs k = some xs[k.toNat] := by
      unfold atI
      rw [ixN_in k0 k1]
      exact List.getElem?_eq_getElem hl'
    refine ⟨l, _, _, _, rfl, rfl, SqL.of (O _ _ hl na nc), e, ?_⟩
    exact q _ _ (List.getElem_mem hl') S' O
end
end HT
namespace HT
open PySem L2
/-- the names that the text of figures does not bind, and its numbers -/
structure TxtT (mg : Str → Option Value) (tP tW : Tok) : Prop where
  isi : mg "isinstance" = none
  int : mg "int" = none
  bool : mg "bool" = none
  len : mg "len" = none
  str : mg "str" = none
  abs : mg "abs" = none
  range : mg "range" = none
  max : mg "max" = none
  gP : mg "MOST_PLACES" = some (.int 60 tP)
  gW : mg "MOST_WIDTH" = some (.int 200 tW)
def spIsInt : Sp := fun vs H Q _ => ∃ i : Int, vs = [.int i] ∧ Q (.bl true) H
def spBetween : Sp := fun vs H Q _ => ∃ i a b : Int, vs = [.int i, .int a, .int b] ∧ Q (.bl (decide (a ≤ i) && decide (i ≤ b))) H
def spCheckValue : Sp := fun vs H Q _ => ∃ i : Int, vs = [.int i] ∧ Q .non H
theorem dec_int (a b : Int) : decide (V.int a = V.int b) = decide (a = b) := by
  by_cases h : a = b
  · rw [decide_eq_true h, h, decide_eq_true rfl]
  · rw [decide_eq_false h, decide_eq_false (fun z => h (V.int.inj z))]
theorem dec_str (a b : Str) : decide (V.str a = V.str b) = decide (a = b) := by
  by_cases h : a = b
  · rw [decide_eq_true h, h, decide_eq_true rfl]
  · rw [decide_eq_false h, decide_eq_false (fun z => h (V.str.inj z))]
theorem dec_bl (a b : Bool) : decide (V.bl a = V.bl b) = decide (a = b) := by
  by_cases h : a = b
  · rw [decide_eq_true h, h, decide_eq_true rfl]
  · rw [decide_eq_false h, decide_eq_false (fun z => h (V.bl.inj z))]
theorem str_t {a b : Str} (h : decide (V.str a = V.str b) = true) : a = b := V.str.inj (of_decide_eq_true h)
theorem str_f {a b : Str} (h : ¬ decide (V.str a = V.str b) = true) : ¬ a = b := fun z => h (decide_eq_true (congrArg V.str z))
theorem int_t {a b : Int} (h : decide (V.int a = V.int b) = true) : a = b := V.int.inj (of_decide_eq_true h)
theorem int_f {a b : Int} (h : ¬ decide (V.int a = V.int b) = true) : ¬ a = b := fun z => h (decide_eq_true (congrArg V.int z))
theorem not_t {b : Bool} (h : (!b) = true) : ¬ b = true := by cases b <;> simp_all
theorem not_f {b : Bool} (h : ¬ (!b) = true) : b = true := by cases b <;> simp_all
section
variable {P : Program} {w : World} {K : PySem.W.Frag} {mg : Str → Option Value} {base : Heap} {tP tW : Tok} {fI fB fV fC fG fM : Addr} {dI dB dV dC dG dM : FuncData}
theorem ok_is_int {f : Addr} {fd : FuncData} (F : Fun K "is_int" "is_int" s_is_int f fd) (T : TxtT mg tP tW) : FnOk P w K mg base CX0 1 f fd ["thing"] spIsInt := by
  refine F.ok sc_is_int (fun vs H Q E h => ?_) (fun cdv A outer s H vs Q E hr h => ?_)
  · obtain ⟨i, rfl, _⟩ := h
    rfl
  · obtain ⟨i, rfl, q⟩ := h
    refine ⟨_, pss_one (ps_ret (pe_and (pe_callB call_isi (by rfl) T.isi (by decide +kernel) (pa_cons (pv 0) (pa_cons (pe_bltn (v := .ty "int") (by rfl) T.int (by decide +kernel) rfl) pa_nil)))
      (pe_one (pe_not (pe_callB call_isi (by rfl) T.isi (by decide +kernel) (pa_cons (pv 0) (pa_cons (pe_bltn (v := .ty "bool") (by rfl) T.bool (by decide +kernel) rfl) pa_nil))))))), ?_⟩
    walk_at "rd"
    refine ⟨_, _, _, _, _, rfl, .ty "int", .base (.int _), kit_ty (r := true) (by decide +kernel), ?_⟩
    walk_at "rd"
    refine ⟨_, _, _, _, _, rfl, .ty "bool", .base (.int _), kit_ty (r := false) (by decide +kernel), ?_⟩
    walk_at "rd"
    exact q
theorem ok_between {f : Addr} {fd : FuncData} (F : Fun K "is_int_between" "is_int_between" s_is_int_between f fd) (I : Cal P w K mg base "is_int" 1 ["thing"] spIsInt fI dI) : FnOk P w K mg base CX0 2 f fd ["thing", "least", "most"] spBetween := by
  refine F.ok sc_is_int_between (fun vs H Q E h => ?_) (fun cdv A outer s H vs Q E hr h => ?_)
  · obtain ⟨i, a, b, rfl, _⟩ := h
    rfl
  · obtain ⟨i, a, b, rfl, q⟩ := h
    refine ⟨_, pss_one (ps_ret (pe_and (pcl I hr (by decide) (by rfl) (pa_cons (pv 0) pa_nil)) (pe_one (pe_chain op_le op_le (pv 1) (pv 0) (pv 2))))), ?_⟩
    walk_at "rd"
    refine ite2 (fun h => ?_) (fun h => ?_)
    · walk_at "rd"
      rw [decide_eq_true (of_decide_eq_true h)] at q
      exact q
    · rw [decide_eq_false (of_decide_eq_false (by simpa using h))] at q
      exact q
theorem ok_check_value {f : Addr} {fd : FuncData} (F : Fun K "check_value" "check_value" s_check_value f fd) (I : Cal P w K mg base "is_int" 1 ["thing"] spIsInt fI dI) : FnOk P w K mg base CX0 2 f fd ["value"] spCheckValue := by
  refine F.ok sc_check_value (fun vs H Q E h => ?_) (fun cdv A outer s H vs Q E hr h => ?_)
  · obtain ⟨i, rfl, _⟩ := h
    rfl
  · obtain ⟨i, rfl, q⟩ := h
    refine ⟨_, pss_one (ps_if (pt_not (pt_val (pcl I hr (by decide) (by rfl) (pa_cons (pv 0) pa_nil)))) (pss_one ps_never) pss_nil), ?_⟩
    walk_at "rd"
    exact q

/-! ### text_of -/
def spStyle : Sp := fun vs H Q _ => ∃ (sg gr : Bool) (wd : Int), vs = [.bl sg, .bl gr, .int wd] ∧ 0 ≤ wd ∧ wd ≤ 200 ∧ Q .non H
def markM (fig : Int) (sg : Bool) : Str := if fig < 0 then "-" else if 0 < fig ∧ sg = true then "+" else ""
def spMark : Sp := fun vs H Q _ => ∃ (fig : Int) (sg : Bool), vs = [.int fig, .bl sg] ∧ Q (.str (markM fig sg)) H
/-- the first group's length, and the number of groups behind it -/
def firstG (n : Nat) : Nat := (n - 1) % 3 + 1
def moreG (n : Nat) : Nat := (n - firstG n) / 3
def partsG (d : Str) (k : Nat) : List Str := cutS d none (some (firstG d.length : Nat)) :: (List.range k).map fun (j : Nat) => cutS d (some ((firstG d.length : Int) + (j : Int) * 3)) (some ((firstG d.length : Int) + (j : Int) * 3 + 3))
def groupM (d : Str) : Str := Txt.join "," (partsG d (moreG d.length))
def spGrouped : Sp := fun vs H Q _ => ∃ d : Str, vs = [.str d] ∧ 1 ≤ d.length ∧ d.length ≤ 1000 ∧ ∀ H', Same H H' → Q (.str (groupM d)) H'
def textM (fig : Int) (pl : Nat) (sg gr : Bool) (wd : Int) : Str :=
  let d := Txt.zfill (toString (if fig < 0 then -fig else fig)) ((pl : Int) + 1)
  let pt := (d.length : Int) - (pl : Int)
  let t := cutS d none (some pt)
  let t := if gr = true then groupM t else t
  let t := if 0 < pl then t ++ ("." : Str) ++ cutS d (some pt) none else t
  Txt.rjust (markM fig sg ++ t) wd
theorem firstG_eq {n : Nat} (h : 1 ≤ n) : ((n : Int) - 1) % 3 + 1 = (firstG n : Int) := by
  unfold firstG
  omega
theorem size3 {a b : Int} (h : a ≤ b) : Builtin.Range.rangeSize a b 3 = (if a < b then (b - a - 1) / 3 + 1 else 0) := by
  unfold Builtin.Range.rangeSize
  rw [if_pos (show (3 : Int) > 0 by decide)]
theorem small3 {a b : Int} (h0 : 0 ≤ a) (h1 : a ≤ b) (h2 : b ≤ 1000) : Builtin.Range.small a b 3 = true := by
  unfold Builtin.Range.small
  rw [size3 h1]
  have f : ∀ x : Int, 0 ≤ x → x ≤ 5000 → Builtin.Range.rangeFitsLong x = true := fun x a b => by
    unfold Builtin.Range.rangeFitsLong
    rw [decide_eq_true (show -(2 ^ 63) ≤ x by omega), decide_eq_true (show x < 2 ^ 63 by omega)]
    rfl
  have sz : 0 ≤ (if a < b then (b - a - 1) / 3 + 1 else 0) ∧ (if a < b then (b - a - 1) / 3 + 1 else 0) ≤ 1000 := by split <;> omega
  rw [f a h0 (by omega), f b (by omega) (by omega), f 3 (by decide) (by decide), f _ sz.1 (by omega), if_pos (show (3 : Int) > 0 by decide), f (b + (3 - 1)) (by omega) (by omega), Bool.or_true]
  rfl
theorem rgG {n : Nat} (h : 1 ≤ n) (h1 : n ≤ 1000) : RgC (firstG n : Int) (n : Int) 3 (moreG n) := by
  have hf : firstG n ≤ n := by
    unfold firstG
    omega
  refine ⟨by decide, by decide, small3 (by omega) (by omega) (by omega), ?_⟩
  rw [size3 (by omega)]
  unfold moreG firstG
  split <;> omega
theorem cutS_len_le (z : Str) (lo hi : Option Int) : (cutS z lo hi).length ≤ z.length := by
  show ((z.cps.toList.drop _).take _).toArray.size ≤ z.cps.size
  simp only [List.size_toArray, List.length_take, List.length_drop, Array.length_toList]
  omega
theorem ok_style {f : Addr} {fd : FuncData} (F : Fun K "_check_style" "_check_style" s_check_style f fd) (T : TxtT mg tP tW) (B : Cal P w K mg base "is_int_between" 2 ["thing", "least", "most"] spBetween fB dB) : FnOk P w K mg base CX0 3 f fd ["sign", "group", "width"] spStyle := by
  refine F.ok sc_check_style (fun vs H Q E h => ?_) (fun cdv A outer s H vs Q E hr h => ?_)
  · obtain ⟨sg, gr, wd, rfl, _⟩ := h
    rfl
  · obtain ⟨sg, gr, wd, rfl, w0, w1, q⟩ := h
    refine ⟨_, pss_cons (ps_if (PW.pt (pw_or (pt_not (pt_val (pe_callB call_isi (by rfl) T.isi (by decide +kernel) (pa_cons (pv 0) (pa_cons (pe_bltn (v := .ty "bool") (by rfl) T.bool (by decide +kernel) rfl) pa_nil)))))
        (pw_or1 (pt_not (pt_val (pe_callB call_isi (by rfl) T.isi (by decide +kernel) (pa_cons (pv 1) (pa_cons (pe_bltn (v := .ty "bool") (by rfl) T.bool (by decide +kernel) rfl) pa_nil)))))))) (pss_one ps_never) pss_nil)
      (pss_one (ps_if (pt_not (pt_val (pcl B hr (by decide) (by rfl) (pa_cons (pv 2) (pa_cons pe_int (pa_cons (pe_glob (v := .int 200) (by rfl) T.gW ⟨_, rfl⟩) pa_nil)))))) (pss_one ps_never) pss_nil)), ?_⟩
    walk_at "rd"
    refine ⟨_, _, _, _, _, rfl, .ty "bool", .base (.bl _), kit_ty (r := true) (by decide +kernel), ?_⟩
    walk_at "rd"
    refine ⟨_, _, _, _, _, rfl, .ty "bool", .base (.bl _), kit_ty (r := true) (by decide +kernel), ?_⟩
    walk_at "rd"
    refine ⟨_, _, _, rfl, ?_⟩
    have e1 : (decide ((0 : Int) ≤ wd) && decide (wd ≤ 200)) = true := by
      rw [decide_eq_true w0, decide_eq_true w1]
      rfl
    refine ⟨_, rfl, ?_⟩
    refine ite2 (fun h => (not_t h e1).elim) (fun _ => ?_)
    exact q
theorem ok_mark {f : Addr} {fd : FuncData} (F : Fun K "_mark" "_mark" s_mark f fd) : FnOk P w K mg base CX0 1 f fd ["figure", "sign"] spMark := by
  refine F.ok sc_mark (fun vs H Q E h => ?_) (fun cdv A outer s H vs Q E hr h => ?_)
  · obtain ⟨fig, sg, rfl, _⟩ := h
    rfl
  · obtain ⟨fig, sg, rfl, q⟩ := h
    refine ⟨_, pss_cons (ps_if (pt_cmpR op_lt (pv 0) pe_int (nomark _)) (pss_one (ps_ret pe_str)) pss_nil)
      (pss_cons (ps_if (PW.pt (pw_and (pt_cmpR op_gt (pv 0) pe_int (nomark _)) (pw_and1 (pt_val (pv 1))))) (pss_one (ps_ret pe_str)) pss_nil)
      (pss_one (ps_ret pe_str))), ?_⟩
    unfold markM at q
    walk_at "rd"
    refine ite2 (fun h => ?_) (fun h1 => ?_)
    · rw [if_pos (of_decide_eq_true h)] at q
      exact q
    rw [if_neg (fun z => h1 (decide_eq_true z))] at q
    walk_at "rd"
    refine ite2 (fun h => ?_) (fun h2 => ?_)
    · walk_at "rd"
      refine ite2 (fun g => ?_) (fun g => ?_)
      · rw [if_pos ⟨of_decide_eq_true h, g⟩] at q
        exact q
      · rw [if_neg (fun z => g z.2)] at q
        exact q
    · rw [if_neg (fun z => h2 (decide_eq_true z.1))] at q
      exact q
theorem ok_grouped {f : Addr} {fd : FuncData} (F : Fun K "_grouped" "_grouped" s_grouped f fd) (T : TxtT mg tP tW) : FnOk P w K mg base CX0 1 f fd ["digits"] spGrouped := by
  refine F.ok sc_grouped (fun vs H Q E h => ?_) (fun cdv A outer s H vs Q E hr h => ?_)
  · obtain ⟨d, rfl, _⟩ := h
    rfl
  · obtain ⟨d, rfl, l0, l1, q⟩ := h
    have nd := sc_grouped.nd
    have sl : d.length ≤ sizeLine := Nat.le_trans l1 (by decide)
    refine ⟨_, pss_cons (ps_set (i := 1) nd rfl (Or.inl rfl) (pe_op op_add (pe_op op_mod (pe_op op_sub (pe_callB call_len_str (by rfl) T.len PySem.boot_len (pa_cons (pv 0) pa_nil)) pe_int) pe_int) pe_int))
      (pss_cons (ps_set (i := 2) nd rfl (Or.inl rfl) (pe_lst (pa_cons (pe_slice sl_str (pv 0) po_none (po_some (pv 1))) pa_nil)))
      (pss_cons (ps_for PassesOwn.never rfl (pi_range3 (by rfl) T.range (pa_cons (pv 1) (pa_cons (pe_callB call_len_str (by rfl) T.len PySem.boot_len (pa_cons (pv 0) pa_nil)) (pa_cons pe_int pa_nil)))) (pg_name (i := 3) nd rfl (Or.inl rfl))
        (pss_one (ps_expr (pe_bm PySem.F.plainAttrs_list PySem.F.slot_list_append PySem.F.type_list_append mt_append (pv 2) (pa_cons (pe_slice sl_str (pv 0) (po_some (pv 3)) (po_some (pe_op op_add (pv 3) pe_int))) pa_nil)))))
      (pss_one (ps_ret (pe_bm PySem.F.plainAttrs_str PySem.F.slot_str_join PySem.F.type_str_join mt_join pe_str (pa_cons (pv 2) pa_nil)))))), ?_⟩
    walk_at "rd"
    refine ⟨sl, ?_⟩
    walk_at "rd"
    refine ⟨(by show (0 : Int) < 3; decide), ?_⟩
    walk_at "rd"
    have fe := firstG_eq l0
    refine ⟨sl, ?_⟩
    refine ⟨(by show 1 ≤ sizeLine; decide), fun p np => ?_⟩
    have sm0 : Same H (upd H p (.lst [.str (cutS d none (some (((d.length : Int) - 1) % 3 + 1)))])) := fun b u z => (upd_ne (ne_of_none z np)).trans z
    have hp0 : upd H p (.lst [.str (cutS d none (some (((d.length : Int) - 1) % 3 + 1)))]) p = some (.lst ((partsG d 0).map V.str)) := by
      rw [upd_same, fe]
      unfold partsG
      rw [List.range_zero, List.map_nil, List.map_cons, List.map_nil]
    walk_at "rd"
    refine ⟨sl, ?_⟩
    walk_at "rd"
    refine ⟨_, _, _, moreG d.length, rfl, (by rw [fe]; exact rgG l0 l1), ?_⟩
    refine for_rangeC (lo := ((d.length : Int) - 1) % 3 + 1) (c := 3) (n := moreG d.length) (fun i σ H1 => ∃ kv : Option V, σ = [some (.str d), some (.int (((d.length : Int) - 1) % 3 + 1)), some (.ref p), kv] ∧ H1 p = some (.lst ((partsG d i).map V.str)) ∧ Same H H1) ⟨none, rfl, hp0, sm0⟩ ?_ ?_
    · rintro i σ H1 hi ⟨kv, rfl, hp, sm⟩
      walk_at "rd"
      refine ⟨.inl ⟨rfl, _, SqL.of hp⟩, ?_⟩
      walk_at "rd"
      refine ⟨sl, ?_⟩
      have ln : (partsG d i).length = i + 1 := by
        unfold partsG
        rw [List.length_cons, List.length_map, List.length_range]
      have mi : moreG d.length ≤ 1000 := by
        unfold moreG
        omega
      refine ⟨p, _, _, rfl, rfl, hp, (by rw [List.length_map, ln]; exact Nat.lt_of_le_of_lt (show i + 1 ≤ 1001 by omega) (by decide)), ?_⟩
      refine ⟨_, rfl, ?_, fun b u z => (upd_ne (ne_of_none z np)).trans (sm _ _ z)⟩
      rw [upd_same, fe]
      unfold partsG
      rw [List.range_succ, List.map_append, ← List.cons_append, List.map_append]
      rfl
    · rintro σ H1 ⟨kv, rfl, hp, sm⟩
      walk_at "rd"
      refine ⟨rfl, ?_⟩
      walk_at "rd"
      refine ⟨",", p, partsG d (moreG d.length), rfl, rfl, .inl (SqL.of hp), ?_, ?_⟩
      · have ln : (partsG d (moreG d.length)).length = moreG d.length + 1 := by
          unfold partsG
          rw [List.length_cons, List.length_map, List.length_range]
        have mi : moreG d.length ≤ 1000 := by
          unfold moreG
          omega
        have sum : ∀ xs : List Str, (∀ x ∈ xs, x.length ≤ 1000) → (xs.map (·.length)).sum ≤ xs.length * 1000 := by
          intro xs
          induction xs with
          | nil => intro _; exact Nat.zero_le _
          | cons y ys ih =>
            intro hx
            have a := hx y (List.mem_cons_self ..)
            have b := ih fun x h => hx x (List.mem_cons_of_mem _ h)
            rw [List.map_cons, List.sum_cons, List.length_cons, Nat.succ_mul]
            omega
        have all : ∀ x ∈ partsG d (moreG d.length), x.length ≤ 1000 := by
          intro x hx
          unfold partsG at hx
          rcases List.mem_cons.mp hx with e | hx
          · rw [e]
            exact Nat.le_trans (cutS_len_le _ _ _) l1
          · obtain ⟨j, _, e⟩ := List.mem_map.mp hx
            rw [← e]
            exact Nat.le_trans (cutS_len_le _ _ _) l1
        have := sum _ all
        rw [ln] at this ⊢
        have cm : (("," : Str)).length = 1 := by decide +kernel
        rw [cm]
        omega
      · exact q H1 sm
def spText : Sp := fun vs H Q _ => ∃ (fig : Int) (pl : Nat) (sg gr : Bool) (wd : Int), vs = [.int fig, .int (pl : Int), .bl sg, .bl gr, .int wd] ∧ -10 ^ 62 < fig ∧ fig < 10 ^ 62 ∧ pl ≤ 60 ∧ 0 ≤ wd ∧ wd ≤ 200 ∧ ∀ H', Same H H' → Q (.str (textM fig pl sg gr wd)) H'
end
end HT
namespace HT
open PySem L2
theorem log_fig {fig : Int} (h0 : -10 ^ 62 < fig) (h1 : fig < 10 ^ 62) : (if fig < 0 then -fig else fig).natAbs.log2 < 1920 := by
  have h : (if fig < 0 then -fig else fig).natAbs < 2 ^ 210 := by split <;> omega
  exact Nat.lt_of_lt_of_le (PySem.Flt.log2_lt_of (by decide) h) (by decide)
theorem padOk {i : Int} (h0 : 0 ≤ i) (h1 : i ≤ 300) : PadOk i = true := by
  obtain ⟨n, rfl⟩ := Int.eq_ofNat_of_zero_le h0
  have hn : n ≤ 300 := by omega
  clear h0 h1
  revert hn
  revert n
  decide +kernel
/-- the digits: at least one more than places, at most 300 -/
structure DigOk (d : Str) (pl : Nat) : Prop where
  lo : pl + 1 ≤ d.length
  hi : d.length ≤ 300
def digM (fig : Int) (pl : Nat) : Str := Txt.zfill (toString (if fig < 0 then -fig else fig)) ((pl : Int) + 1)
theorem cut_pre {z : Str} {i : Int} (h : 0 ≤ i ∧ i ≤ (z.length : Int)) : (cutS z none (some i)).length = i.toNat := by
  obtain ⟨n, rfl⟩ := Int.eq_ofNat_of_zero_le h.1
  have hz : z.cps.toList.length = z.length := by
    show z.cps.toList.length = z.cps.size
    exact Array.length_toList
  show ((z.cps.toList.drop (HT.sIx z.length 0 none)).take (HT.sIx z.length z.length (some (n : Int)) - HT.sIx z.length 0 none)).toArray.size = _
  rw [HT.sIx_none, HT.sIx_nat, List.drop_zero, List.size_toArray, List.length_take, hz]
  have := h.2
  omega
theorem le_line {n b : Nat} (h : n ≤ b) (hb : b ≤ 5000 := by decide) : n ≤ sizeLine := Nat.le_trans h (Nat.le_trans hb (by decide))
theorem dl : (("." : Str)).length = 1 := by decide +kernel
theorem str_app (a b : Str) : (a ++ b).length = a.length + b.length := by
  show (a.cps ++ b.cps).size = a.cps.size + b.cps.size
  exact Array.size_append
theorem cut_three (z : Str) {i : Int} (h : 0 ≤ i) : (cutS z (some i) (some (i + 3))).length ≤ 3 := by
  obtain ⟨n, rfl⟩ := Int.eq_ofNat_of_zero_le h
  show ((z.cps.toList.drop (HT.sIx z.length 0 (some (n : Int)))).take (HT.sIx z.length z.length (some ((n + 3 : Nat) : Int)) - HT.sIx z.length 0 (some (n : Int)))).toArray.size ≤ 3
  rw [HT.sIx_nat, HT.sIx_nat, List.size_toArray, List.length_take]
  omega
theorem sum_le_three {α : Type} (f : α → Nat) : ∀ (l : List α), (∀ x ∈ l, f x ≤ 3) → (l.map f).sum ≤ 3 * l.length
  | [], _ => Nat.le_refl _
  | x :: l, h => by
    have a := h x (List.mem_cons_self ..)
    have b := sum_le_three f l (fun y hy => h y (List.mem_cons_of_mem _ hy))
    rw [List.map_cons, List.sum_cons, List.length_cons]
    omega
theorem group_len {d : Str} (h : 1 ≤ d.length) (h1 : d.length ≤ 300) : (groupM d).length ≤ 1300 := by
  have hf : firstG d.length ≤ d.length := by
    unfold firstG
    omega
  have hk : firstG d.length + 3 * moreG d.length = d.length := by
    unfold moreG firstG
    omega
  have hf3 : firstG d.length ≤ 3 := by
    unfold firstG
    omega
  have e := StrLaws.join_length_le "," (partsG d (moreG d.length))
  have e1 := sum_le_three (fun x : Str => x.length) (partsG d (moreG d.length)) (fun x hx => by
    rcases List.mem_cons.mp hx with rfl | hx
    · rw [cut_pre (by omega)]
      omega
    · obtain ⟨j, hj, rfl⟩ := List.mem_map.mp hx
      have := List.mem_range.mp hj
      exact cut_three d (by omega))
  have e2 : (partsG d (moreG d.length)).length = moreG d.length + 1 := by
    unfold partsG
    rw [List.length_cons, List.length_map, List.length_range]
  have e3 : ("," : Str).length = 1 := by decide +kernel
  rw [e2] at e1 e
  rw [e3] at e
  show (PySem.Builtin.Str.glued "," (partsG d (moreG d.length))).length ≤ 1300
  rw [StrLaws.glued_eq_join]
  have e4 : (List.map (fun x : Str => x.length) (partsG d (moreG d.length))).sum ≤ 3 * (moreG d.length + 1) := e1
  have e5 := Nat.le_trans e (Nat.add_le_add_right e4 _)
  omega
section
variable {P : Program} {w : World} {K : PySem.W.Frag} {mg : Str → Option Value} {base : Heap} {tP tW : Tok} {fV fB fC fG fM : Addr} {dV dB dC dG dM : FuncData}
theorem ok_text_of {f : Addr} {fd : FuncData} (F : FunD K "text_of" "text_of" (defArgs s_text_of) (defBody s_text_of) (defScope s_text_of) [] [("sign", .bl false), ("group", .bl false), ("width", .int 0)] f fd) (T : TxtT mg tP tW)
    (V' : Cal P w K mg base "check_value" 2 ["value"] spCheckValue fV dV) (B : Cal P w K mg base "is_int_between" 2 ["thing", "least", "most"] spBetween fB dB) (C : Cal P w K mg base "_check_style" 3 ["sign", "group", "width"] spStyle fC dC)
    (G : Cal P w K mg base "_grouped" 1 ["digits"] spGrouped fG dG) (M : Cal P w K mg base "_mark" 1 ["figure", "sign"] spMark fM dM)
    (dig : ∀ fig pl, -10 ^ 62 < fig → fig < 10 ^ 62 → pl ≤ 60 → DigOk (digM fig pl) pl) :
    FnOk P w K mg base CX0 4 f fd ["figure", "places", "sign", "group", "width"] spText := by
  refine F.ok sc_text_of (fun vs H Q E h => ?_) (fun cdv A outer s H vs Q E hr h => ?_)
  · obtain ⟨fig, pl, sg, gr, wd, rfl, _⟩ := h
    rfl
  · obtain ⟨fig, pl, sg, gr, wd, rfl, f0, f1, p1, w0, w1, q⟩ := h
    have nd := sc_text_of.nd
    refine ⟨_, pss_cons (ps_expr (pcl V' hr (by decide) (by rfl) (pa_cons (pv 0) pa_nil)))
      (pss_cons (ps_if (pt_not (pt_val (pcl B hr (by decide) (by rfl) (pa_cons (pv 1) (pa_cons pe_int (pa_cons (pe_glob (v := .int 60) (by rfl) T.gP ⟨_, rfl⟩) pa_nil)))))) (pss_one ps_never) pss_nil)
      (pss_cons (ps_expr (pcl C hr (by decide) (by rfl) (pa_cons (pv 2) (pa_cons (pv 3) (pa_cons (pv 4) pa_nil)))))
      (pss_cons (ps_set (i := 5) nd rfl (Or.inl rfl) (pe_bm PySem.F.plainAttrs_str PySem.F.slot_str_zfill PySem.F.type_str_zfill mt_zfill (pe_callTy call_str_int (by rfl) T.str (by decide +kernel) (pa_cons (pe_callB call_abs (by rfl) T.abs (by decide +kernel) (pa_cons (pv 0) pa_nil)) pa_nil)) (pa_cons (pe_op op_add (pv 1) pe_int) pa_nil)))
      (pss_cons (ps_set (i := 6) nd rfl (Or.inl rfl) (pe_op op_sub (pe_callB call_len_str (by rfl) T.len PySem.boot_len (pa_cons (pv 5) pa_nil)) (pv 1)))
      (pss_cons (ps_set (i := 7) nd rfl (Or.inl rfl) (pe_slice sl_str (pv 5) po_none (po_some (pv 6))))
      (pss_cons (ps_if (pt_val (pv 3)) (pss_one (ps_set (i := 7) nd rfl (Or.inl rfl) (pcl G hr (by decide) (by rfl) (pa_cons (pv 7) pa_nil)))) pss_nil)
      (pss_cons (ps_if (pt_cmpR op_gt (pv 1) pe_int (nomark _)) (pss_one (ps_set (i := 7) nd rfl (Or.inl rfl) (pe_op op_add_str (pe_op op_add_str (pv 7) pe_str) (pe_slice sl_str (pv 5) (po_some (pv 6)) po_none)))) pss_nil)
      (pss_one (ps_ret (pe_bm PySem.F.plainAttrs_str PySem.F.slot_str_rjust PySem.F.type_str_rjust mt_rjust (pe_op op_add_str (pcl M hr (by decide) (by rfl) (pa_cons (pv 0) (pa_cons (pv 2) pa_nil))) (pv 7)) (pa_cons (pv 4) pa_nil))))))))))), ?_⟩
    have hD := dig fig pl f0 f1 p1
    obtain ⟨dlo, dhi⟩ := id hD
    have sl : (digM fig pl).length ≤ sizeLine := Nat.le_trans dhi (by decide)
    walk_at "rd"
    refine ⟨_, _, _, rfl, ?_⟩
    have e1 : (decide ((0 : Int) ≤ (pl : Int)) && decide ((pl : Int) ≤ 60)) = true := by
      rw [decide_eq_true (by omega), decide_eq_true (by omega)]
      rfl
    refine ⟨_, rfl, ?_⟩
    refine ite2 (fun h => (not_t h e1).elim) (fun _ => ?_)
    walk_at "rd"
    refine ⟨sg, gr, wd, rfl, w0, w1, ?_⟩
    walk_at "rd"
    refine ⟨log_fig f0 f1, ?_⟩
    refine ⟨rfl, ?_⟩
    walk_at "rd"
    refine ⟨padOk (by omega) (by omega), ?_⟩
    walk_at "rd"
    refine ⟨sl, ?_⟩
    walk_at "rd"
    refine ⟨sl, ?_⟩
    walk_at "rd"
    have cl : (cutS (digM fig pl) none (some (((digM fig pl).length : Int) - (pl : Int)))).length = (((digM fig pl).length : Int) - (pl : Int)).toNat := cut_pre (by omega)
    have cl2 := cutS_len_le (digM fig pl) (some (((digM fig pl).length : Int) - (pl : Int))) none
    have c1 : 1 ≤ (cutS (digM fig pl) none (some (((digM fig pl).length : Int) - (pl : Int)))).length := by rw [cl]; omega
    have c2 : (cutS (digM fig pl) none (some (((digM fig pl).length : Int) - (pl : Int)))).length ≤ 1000 := by rw [cl]; omega
    have c3 : (cutS (digM fig pl) none (some (((digM fig pl).length : Int) - (pl : Int)))).length ≤ 300 := by rw [cl]; omega
    have fin : ∀ (t : Str) (H' : Hp), t = (if gr = true then groupM (cutS (digM fig pl) none (some (((digM fig pl).length : Int) - (pl : Int)))) else cutS (digM fig pl) none (some (((digM fig pl).length : Int) - (pl : Int)))) → Same H H' →
        Q (.str (Txt.rjust (markM fig sg ++ (if 0 < pl then t ++ ("." : Str) ++ cutS (digM fig pl) (some (((digM fig pl).length : Int) - (pl : Int))) none else t)) wd)) H' := fun t H' e sm => by
      have z := q H' sm
      subst e
      exact z
    have mk : (markM fig sg).length ≤ 1 := by
      unfold markM
      split
      · decide +kernel
      · split <;> decide +kernel
    refine ite2 (fun h => ?A) (fun h => ?B)
    case' A =>
      walk_at "rd"
      refine ⟨c1, c2, fun H1 sm => ?_⟩
      obtain ⟨t, ht⟩ : ∃ t, t = groupM (cutS (digM fig pl) none (some (((digM fig pl).length : Int) - (pl : Int)))) := ⟨_, rfl⟩
      have tl : t.length ≤ 1300 := by rw [ht]; exact group_len c1 c3
      have fin' := fin t H1 (by rw [if_pos h, ht]) sm
    case' B =>
      obtain ⟨t, ht⟩ : ∃ t, t = cutS (digM fig pl) none (some (((digM fig pl).length : Int) - (pl : Int))) := ⟨_, rfl⟩
      have tl : t.length ≤ 1300 := by rw [ht]; omega
      have fin' := fin t H (by rw [if_neg h, ht]) (Same.refl H)
    all_goals
      walk_at "rd"
      refine ite2 (fun g => ?_) (fun g => ?_)
      · have g' : 0 < pl := by
          have := of_decide_eq_true g
          omega
        rw [if_pos g'] at fin'
        rw [ht] at fin' tl
        walk_at "rd"
        refine ⟨le_line (Nat.add_le_add tl (Nat.le_of_eq dl)), ?_⟩
        walk_at "rd"
        refine ⟨sl, ?_⟩
        walk_at "rd"
        refine ⟨le_line (Nat.add_le_add (Nat.le_trans (Nat.le_of_eq (str_app _ _)) (Nat.add_le_add tl (Nat.le_of_eq dl))) (Nat.le_trans cl2 dhi)), ?_⟩
        walk_at "rd"
        refine ⟨fig, sg, rfl, ?_⟩
        walk_at "rd"
        refine ⟨le_line (Nat.add_le_add mk (Nat.le_trans (Nat.le_of_eq (str_app _ _)) (Nat.add_le_add (Nat.le_trans (Nat.le_of_eq (str_app _ _)) (Nat.add_le_add tl (Nat.le_of_eq dl))) (Nat.le_trans cl2 dhi)))), ?_⟩
        refine ⟨rfl, ?_⟩
        walk_at "rd"
        exact ⟨padOk w0 (by omega), fin'⟩
      · have g' : ¬ 0 < pl := fun z => g (decide_eq_true (by omega))
        rw [if_neg g'] at fin'
        rw [ht] at fin' tl
        walk_at "rd"
        refine ⟨fig, sg, rfl, ?_⟩
        walk_at "rd"
        refine ⟨le_line (Nat.add_le_add mk tl), ?_⟩
        refine ⟨rfl, ?_⟩
        walk_at "rd"
        exact ⟨padOk w0 (by omega), fin'⟩
end
end HT
namespace HT
open PySem L2
theorem dig_ok {fig : Int} {pl : Nat} (h0 : -10 ^ 62 < fig) (h1 : fig < 10 ^ 62) (hp : pl ≤ 60) : DigOk (digM fig pl) pl := by
  have hn : 0 ≤ (if fig < 0 then -fig else fig) := by split <;> omega
  have hb : (if fig < 0 then -fig else fig) < 10 ^ 62 := by split <;> omega
  have e := PyProof.Rows.len_zfill (PySem.Str.ofString (toString (if fig < 0 then -fig else fig))) ((pl : Int) + 1)
  have b := PyProof.Rows.toString_length_le hn (k := 62) (by decide) hb
  have z : ((digM fig pl).length : Int) = _ := e
  have c : pl + 1 ≤ (digM fig pl).length ∧ (digM fig pl).length ≤ 300 := by
    by_cases g : decide (((PySem.Str.ofString (toString (if fig < 0 then -fig else fig))).length : Int) < (pl : Int) + 1) = true
    · rw [if_pos g] at z
      omega
    · rw [if_neg g] at z
      have g' : ¬ ((PySem.Str.ofString (toString (if fig < 0 then -fig else fig))).length : Int) < (pl : Int) + 1 := fun x => g (decide_eq_true x)
      omega
  exact ⟨c.1, c.2⟩
end HT
namespace HT
open PySem L2
theorem false_go {A B : Prop} (h : B) : if false = true then A else B := h
/-- the digits' own signs -/
def digS : Str := "0123456789"
/-- how many of the first signs are digits, at most m of them -/
def dgRun : Nat → List Nat → Nat
  | 0, _ => 0
  | _ + 1, [] => 0
  | m + 1, c :: r => if c ∈ digS.cps.toList then dgRun m r + 1 else 0
theorem dgRun_zero (l : List Nat) : dgRun 0 l = 0 := by cases l <;> rfl
theorem dgRun_nil (m : Nat) : dgRun m [] = 0 := by cases m <;> rfl
theorem dgRun_le : ∀ (m : Nat) (l : List Nat), dgRun m l ≤ l.length ∧ dgRun m l ≤ m
  | 0, l => by rw [dgRun_zero]; exact ⟨Nat.zero_le _, Nat.zero_le _⟩
  | m + 1, [] => by rw [dgRun_nil]; exact ⟨Nat.zero_le _, Nat.zero_le _⟩
  | m + 1, c :: r => by
    have h := dgRun_le m r
    unfold dgRun
    rw [List.length_cons]
    split <;> omega
def pastD (z : Str) (a m : Nat) : Nat := a + dgRun m (z.cps.toList.drop a)
def spPastD : Sp := fun vs H Q _ => ∃ (z : Str) (a m : Nat), vs = [.str z, .int a, .int m] ∧ a ≤ z.length ∧ z.length ≤ sizeLine ∧ Q (.int (pastD z a m)) H
section
variable {P : Program} {w : World} {K : PySem.W.Frag} {mg : Str → Option Value} {base : Heap} {tD : Tok}
theorem ok_past_digits {f : Addr} {fd : FuncData} (F : Fun K "_past_digits" "_past_digits" s_past_digits f fd) (gL : mg "len" = none) (gD : mg "DIGITS" = some (.str digS tD)) : FnOk P w K mg base CX0 1 f fd ["text", "at", "most"] spPastD := by
  refine F.ok sc_past_digits (fun vs H Q E h => ?_) (fun cdv A outer s H vs Q E hr h => ?_)
  · obtain ⟨z, a, m, rfl, _⟩ := h
    rfl
  · obtain ⟨z, a, m, rfl, az, zl, q⟩ := h
    have nd := sc_past_digits.nd
    refine ⟨_, pss_cons (ps_set (i := 3) nd rfl (Or.inl rfl) (pv 1))
      (pss_cons (ps_while PassesOwn.never (PW.pt (pw_and (pt_cmpR op_lt (pv 3) (pe_callB call_len_str (by rfl) gL PySem.boot_len (pa_cons (pv 0) pa_nil)) (nomark _))
          (pw_and (pt_cmpR op_lt (pe_op op_sub (pv 3) (pv 1)) (pv 2) (nomark _))
          (pw_and1 (pt_cmpR op_in_sign (pe_ix ix_str (pv 0) (pv 3) (fun _ _ => rfl)) (pe_glob (v := .str digS) (by rfl) gD ⟨_, rfl⟩) (by rfl))))))
        (pss_one (ps_aug (i := 3) nd rfl (Or.inl rfl) pe_int ip_add)))
      (pss_one (ps_ret (pv 3)))), ?_⟩
    walk_at "rd"
    have hl : z.cps.toList.length = z.length := Array.length_toList
    refine ⟨fun μ σ H' => ∃ e : Nat, a ≤ e ∧ e ≤ z.length ∧ e - a ≤ m ∧ pastD z a m = e + dgRun (m - (e - a)) (z.cps.toList.drop e) ∧ μ = z.length - e ∧ σ = [some (.str z), some (.int a), some (.int m), some (.int e)] ∧ H' = H, ⟨_, a, Nat.le_refl _, az, by omega, by rw [Nat.sub_self]; rfl, rfl, rfl, rfl⟩, ?_⟩
    rintro μ σ H' ⟨e, ae, ez, em, pe, rfl, rfl, rfl⟩
    have out : dgRun (m - (e - a)) (z.cps.toList.drop e) = 0 → Q (.int e) H' := fun h => by
      rw [pe, h] at q
      exact q
    walk_at "rd"
    refine ⟨zl, ?_⟩
    walk_at "rd"
    refine ite2 (fun h1 => ?_) (fun h1 => ?_)
    · have l1 : e < z.length := by
        have := of_decide_eq_true h1
        omega
      obtain ⟨c, hc⟩ : ∃ c, z.cps.toList[e]? = some c := ⟨z.cps.toList[e]'(by omega), List.getElem?_eq_getElem _⟩
      have dr : z.cps.toList.drop e = c :: z.cps.toList.drop (e + 1) := by
        have lt : e < z.cps.toList.length := by omega
        rw [List.drop_eq_getElem_cons lt]
        rw [List.getElem?_eq_getElem lt] at hc
        injection hc with hc
        rw [hc]
      walk_at "rd"
      refine ite2 (fun h2 => ?_) (fun h2 => ?_)
      · have l2 : e - a < m := by
          have := of_decide_eq_true h2
          omega
        obtain ⟨k, hk⟩ : ∃ k, m - (e - a) = k + 1 := ⟨m - (e - a) - 1, by omega⟩
        walk_at "rd"
        refine ⟨z, (e : Int), c, rfl, rfl, zl, atI_nat hc, ?_⟩
        refine ⟨c, digS, rfl, rfl, ?_⟩
        walk_at "rd"
        refine ite2 (fun h3 => ?_) (fun h3 => ?_)
        · have l3 := of_decide_eq_true h3
          refine ⟨fun σ' H1 => σ' = [some (.str z), some (.int a), some (.int m), some (.int ((e + 1 : Nat) : Int))] ∧ H1 = H', ?_, ?_⟩
          · rintro σ' H1 ⟨rfl, rfl⟩
            refine ⟨z.length - (e + 1), by omega, e + 1, by omega, by omega, by omega, ?_, rfl, rfl, rfl⟩
            rw [pe, dr, hk]
            have k1 : m - (e + 1 - a) = k := by omega
            rw [k1]
            show e + (if c ∈ digS.cps.toList then dgRun k (z.cps.toList.drop (e + 1)) + 1 else 0) = _
            rw [if_pos l3]
            omega
          · walk_at "rd"
            exact ⟨rfl, rfl⟩
        · refine ⟨_, rfl, out ?_⟩
          rw [dr, hk]
          show (if c ∈ digS.cps.toList then dgRun k (z.cps.toList.drop (e + 1)) + 1 else 0) = 0
          rw [if_neg (fun x => h3 (decide_eq_true x))]
      · have l2 : ¬ e - a < m := fun x => h2 (decide_eq_true (by omega))
        refine false_go ⟨_, rfl, out ?_⟩
        have k0 : m - (e - a) = 0 := by omega
        rw [k0, dgRun_zero]
    · have l1 : ¬ e < z.length := fun x => h1 (decide_eq_true (by omega))
      refine false_go ⟨_, rfl, out ?_⟩
      rw [List.drop_eq_nil_of_le (by omega), dgRun_nil]
end
end HT
namespace HT
open PySem L2
def at1 (z : Str) (a : Nat) : Str := cutS z (some (a : Int)) (some ((a : Int) + 1))
def placesM (z : Str) (a : Nat) : Nat := if at1 z a = "." then pastD z (a + 1) 60 else a
def spPlaces : Sp := fun vs H Q _ => ∃ (z : Str) (a : Nat), vs = [.str z, .int a] ∧ a ≤ z.length ∧ z.length ≤ sizeLine ∧ (at1 z a = "." → a + 1 ≤ z.length ∧ pastD z (a + 1) 60 ≠ a + 1) ∧ Q (.int (placesM z a)) H
/-- k groups of a comma and three digits from a on, and no comma behind them -/
structure GroupsOk (z : Str) (a k : Nat) : Prop where
  fit : a + 4 * k ≤ z.length
  each : ∀ j, j < k → at1 z (a + 4 * j) = "," ∧ pastD z (a + 4 * j + 1) 3 = a + 4 * j + 4
  stop : at1 z (a + 4 * k) ≠ ","
def spGroups : Sp := fun vs H Q _ => ∃ (z : Str) (a k : Nat), vs = [.str z, .int a] ∧ z.length ≤ sizeLine ∧ GroupsOk z a k ∧ Q (.int (a + 4 * k : Nat)) H
section
variable {P : Program} {w : World} {K : PySem.W.Frag} {mg : Str → Option Value} {base : Heap} {tM : Tok} {fD : Addr} {dD : FuncData}
theorem ok_past_places {f : Addr} {fd : FuncData} (F : Fun K "_past_places" "_past_places" s_past_places f fd) (gM : mg "MOST_PLACES" = some (.int 60 tM)) (D : Cal P w K mg base "_past_digits" 1 ["text", "at", "most"] spPastD fD dD) : FnOk P w K mg base CX0 2 f fd ["text", "at"] spPlaces := by
  refine F.ok sc_past_places (fun vs H Q E h => ?_) (fun cdv A outer s H vs Q E hr h => ?_)
  · obtain ⟨z, a, rfl, _⟩ := h
    rfl
  · obtain ⟨z, a, rfl, az, zl, ok, q⟩ := h
    have nd := sc_past_places.nd
    refine ⟨_, pss_cons (ps_if (pt_cmpR op_ne (pe_slice sl_str (pv 0) (po_some (pv 1)) (po_some (pe_op op_add (pv 1) pe_int))) pe_str (nomark _)) (pss_one (ps_ret (pv 1))) pss_nil)
      (pss_cons (ps_set (i := 2) nd rfl (Or.inl rfl) (pcl D hr (by decide) (by rfl) (pa_cons (pv 0) (pa_cons (pe_op op_add (pv 1) pe_int) (pa_cons (pe_glob (v := .int 60) (by rfl) gM ⟨_, rfl⟩) pa_nil)))))
      (pss_cons (ps_if (pt_cmpR op_eq (pv 2) (pe_op op_add (pv 1) pe_int) (nomark _)) (pss_one ps_never) pss_nil)
      (pss_one (ps_ret (pv 2))))), ?_⟩
    unfold placesM at q
    walk_at "rd"
    refine ⟨zl, ?_⟩
    walk_at "rd"
    refine ⟨rfl, ?_⟩
    walk_at "rd"
    refine ite2 (fun h => ?_) (fun h => ?_)
    · have h' : ¬ at1 z a = "." := by
        intro e
        refine not_t h ?_
        exact decide_eq_true (congrArg V.str e)
      rw [if_neg h'] at q
      exact ⟨_, rfl, q⟩
    · have h' : at1 z a = "." := str_t (not_f h)
      rw [if_pos h'] at q
      obtain ⟨o1, o2⟩ := ok h'
      walk_at "rd"
      refine ⟨z, a + 1, 60, rfl, o1, zl, ?_⟩
      walk_at "rd"
      refine ⟨rfl, ?_⟩
      walk_at "rd"
      refine ite2 (fun h => (o2 ?_).elim) (fun _ => ?_)
      · have := int_t h
        omega
      · exact ⟨_, rfl, q⟩
theorem ok_past_groups {f : Addr} {fd : FuncData} (F : Fun K "_past_groups" "_past_groups" s_past_groups f fd) (D : Cal P w K mg base "_past_digits" 1 ["text", "at", "most"] spPastD fD dD) : FnOk P w K mg base CX0 2 f fd ["text", "at"] spGroups := by
  refine F.ok sc_past_groups (fun vs H Q E h => ?_) (fun cdv A outer s H vs Q E hr h => ?_)
  · obtain ⟨z, a, k, rfl, _⟩ := h
    rfl
  · obtain ⟨z, a, k, rfl, zl, ok, q⟩ := h
    have nd := sc_past_groups.nd
    refine ⟨_, pss_cons (ps_while PassesOwn.never (pt_cmpR op_eq (pe_slice sl_str (pv 0) (po_some (pv 1)) (po_some (pe_op op_add (pv 1) pe_int))) pe_str (nomark _))
        (pss_cons (ps_set (i := 2) nd rfl (Or.inl rfl) (pcl D hr (by decide) (by rfl) (pa_cons (pv 0) (pa_cons (pe_op op_add (pv 1) pe_int) (pa_cons pe_int pa_nil)))))
        (pss_cons (ps_if (pt_cmpR op_lt (pv 2) (pe_op op_add (pv 1) pe_int) (nomark _)) (pss_one ps_never) pss_nil)
        (pss_one (ps_set (i := 1) nd rfl (Or.inl rfl) (pv 2))))))
      (pss_one (ps_ret (pv 1))), ?_⟩
    refine ⟨fun μ σ H' => ∃ (j : Nat) (x : Option V), j ≤ k ∧ μ = k - j ∧ σ = [some (.str z), some (.int (a + 4 * j : Nat)), x] ∧ H' = H, ⟨_, 0, none, Nat.zero_le _, rfl, rfl, rfl⟩, ?_⟩
    rintro μ σ H' ⟨j, x, jk, rfl, rfl, rfl⟩
    walk_at "rd"
    refine ⟨zl, ?_⟩
    walk_at "rd"
    refine ⟨rfl, ?_⟩
    walk_at "rd"
    refine ite2 (fun h => ?_) (fun h => ?_)
    · have h' : at1 z (a + 4 * j) = "," := str_t h
      have lt : j < k := by
        by_cases g : j = k
        · rw [g] at h'
          exact (ok.stop h').elim
        · omega
      have e := (ok.each j lt).2
      have f := ok.fit
      refine ⟨fun σ' H1 => σ' = [some (.str z), some (.int (a + 4 * (j + 1) : Nat)), some (.int (a + 4 * (j + 1) : Nat))] ∧ H1 = H', ?_, ?_⟩
      · rintro σ' H1 ⟨rfl, rfl⟩
        exact ⟨k - (j + 1), by omega, j + 1, _, by omega, rfl, rfl, rfl⟩
      walk_at "rd"
      refine ⟨z, a + 4 * j + 1, 3, rfl, by omega, zl, ?_⟩
      rw [e]
      walk_at "rd"
      refine ite2 (fun h => ?_) (fun _ => ?_)
      · have := of_decide_eq_true h
        omega
      · walk_at "rd"
        exact ⟨rfl, rfl⟩
    · have h' : ¬ at1 z (a + 4 * j) = "," := str_f h
      have e : j = k := by
        by_cases g : j = k
        · exact g
        · exact (h' (ok.each j (by omega)).1).elim
      subst e
      exact ⟨_, rfl, q⟩
end
end HT
namespace HT
open PySem L2
/-- k: the number of groups, where there are groups -/
def wholeM (z : Str) (a k : Nat) (c : Nat) : Nat := if (⟨#[c]⟩ : Str) = "0" then a + 1 else if 3 < pastD z a z.length - a then pastD z a z.length else pastD z a z.length + 4 * k
def spWhole : Sp := fun vs H Q _ => ∃ (z : Str) (a k c : Nat), vs = [.str z, .int a] ∧ z.length ≤ sizeLine ∧ z.cps.toList[a]? = some c ∧ pastD z a z.length ≠ a ∧
  (¬ (⟨#[c]⟩ : Str) = "0" → ¬ 3 < pastD z a z.length - a → GroupsOk z (pastD z a z.length) k) ∧ Q (.int (wholeM z a k c)) H
section
variable {P : Program} {w : World} {K : PySem.W.Frag} {mg : Str → Option Value} {base : Heap} {fD fG : Addr} {dD dG : FuncData}
theorem ok_past_whole {f : Addr} {fd : FuncData} (F : Fun K "_past_whole" "_past_whole" s_past_whole f fd) (gL : mg "len" = none) (D : Cal P w K mg base "_past_digits" 1 ["text", "at", "most"] spPastD fD dD) (G : Cal P w K mg base "_past_groups" 2 ["text", "at"] spGroups fG dG) : FnOk P w K mg base CX0 3 f fd ["text", "at"] spWhole := by
  refine F.ok sc_past_whole (fun vs H Q E h => ?_) (fun cdv A outer s H vs Q E hr h => ?_)
  · obtain ⟨z, a, k, c, rfl, _⟩ := h
    rfl
  · obtain ⟨z, a, k, c, rfl, zl, hc, pn, ok, q⟩ := h
    have nd := sc_past_whole.nd
    refine ⟨_, pss_cons (ps_set (i := 2) nd rfl (Or.inl rfl) (pcl D hr (by decide) (by rfl) (pa_cons (pv 0) (pa_cons (pv 1) (pa_cons (pe_callB call_len_str (by rfl) gL PySem.boot_len (pa_cons (pv 0) pa_nil)) pa_nil)))))
      (pss_cons (ps_if (pt_cmpR op_eq (pv 2) (pv 1) (nomark _)) (pss_one ps_never) pss_nil)
      (pss_cons (ps_if (pt_cmpR op_eq (pe_ix ix_str (pv 0) (pv 1) (fun _ _ => rfl)) pe_str (nomark _)) (pss_one (ps_ret (pe_op op_add (pv 1) pe_int))) pss_nil)
      (pss_cons (ps_if (pt_cmpR op_gt (pe_op op_sub (pv 2) (pv 1)) pe_int (nomark _)) (pss_one (ps_ret (pv 2))) pss_nil)
      (pss_one (ps_ret (pcl G hr (by decide) (by rfl) (pa_cons (pv 0) (pa_cons (pv 2) pa_nil)))))))), ?_⟩
    have az : a < z.length := by
      have h := (List.getElem?_eq_some_iff.mp hc).1
      rw [Array.length_toList] at h
      exact h
    have pa : a ≤ pastD z a z.length := Nat.le_add_right _ _
    unfold wholeM at q
    walk_at "rd"
    refine ⟨zl, ?_⟩
    refine ⟨z, a, z.length, rfl, Nat.le_of_lt az, zl, ?_⟩
    generalize pastD z a z.length = e at pn ok q pa
    walk_at "rd"
    refine ⟨rfl, ?_⟩
    walk_at "rd"
    refine ite2 (fun h => (pn ?_).elim) (fun _ => ?_)
    · have := int_t h
      omega
    walk_at "rd"
    refine ⟨z, (a : Int), c, rfl, rfl, zl, atI_nat hc, ?_⟩
    walk_at "rd"
    refine ⟨rfl, ?_⟩
    walk_at "rd"
    refine ite2 (fun h => ?_) (fun h => ?_)
    · rw [if_pos (str_t h)] at q
      walk_at "rd"
      exact q
    rw [if_neg (str_f h)] at q
    walk_at "rd"
    refine ite2 (fun h2 => ?_) (fun h2 => ?_)
    · have g : 3 < e - a := by
        have := of_decide_eq_true h2
        omega
      rw [if_pos g] at q
      exact ⟨_, rfl, q⟩
    · have g : ¬ 3 < e - a := fun x => h2 (decide_eq_true (by omega))
      rw [if_neg g] at q
      walk_at "rd"
      exact ⟨z, e, k, rfl, zl, ok (str_f h) g, q⟩
end
end HT
namespace HT
open PySem PySem.Spec PyProof.Rows L2 CwR
section
variable {X : Cx} {a b : Expr} {ta tb : TE} {rest : List Stmt} {u : TS} {pos' p2 pos : Pos}
/-- x = a - b; ..: behind it a token is out -/
theorem pss_subT {i : Nat} {x : Str} (hN : X.N.Nodup) (hi : X.N[i]? = some x) (hx : Loc X.env.scope x) (ha : PE X a ta) (hb : PE X b tb) (h2 : PSsT X rest u)
    (hs : swapsWith (.BinOp a .Sub b p2) (some (.Name x pos')) pos.line X.env = pure false := by rfl) (hf : X.fn x = true ∨ X.env.scope.names.lookup x = some .local := by first | exact .inl rfl | exact .inr rfl | assumption) :
    PSs X (.Assign [.Name x pos'] (.BinOp a .Sub b p2) pos :: rest) (tSeq (tAsg (tOp (rI0 fun i j => .int (i - j)) ta tb) (gName i)) u) := by
  refine ⟨fun pins s σ H D I h => ?_⟩
  refine wpAny_execs_cons (wpAny_Assign_Name (wpAny_BinOp (thn (ha.run pins s σ H _ I h) fun v s1 ⟨y, H1, I1, r1, q1⟩ => thn (hb.run pins s1 σ H1 _ I1 q1) fun w s2 ⟨z, H2, I2, r2, q2⟩ => ?_)) hs)
  obtain ⟨m, n, e1, e2, q⟩ := q2
  subst e1
  subst e2
  obtain ⟨t1, rfl⟩ := r1
  obtain ⟨t2, rfl⟩ := r2
  refine PyProof.Rows.sub_int ?_
  have st := store_ok (M := model X.prog X.w) (A := X.A) (E := X.xe) (u := .int (m - n) s2.toks) (v := .int (m - n)) (Q := fun _ s' => Inv X pins (σ.set i (some (.int (m - n)))) H2 s') (I2.tok (s2.toks + 1)) hN hi hx ⟨_, rfl⟩ (fun s' I' => I') hf
  refine wpAny_mono (PySem.wpAny_toks st) (fun _ s3 z => ?_) fun _ _ z => z.2
  obtain ⟨hk, I3⟩ := z
  exact h2 pins s3 _ H2 D (Nat.le_trans (Nat.le_add_left 1 s2.toks) hk) I3 q
end
end HT
namespace HT
open PySem PySem.Spec PyProof.Rows L2 CwR
section
variable {X : Cx} {e : Expr} {es : List Expr} {te : TE} {t : TA} {pos' p pos : Pos} {T x : Str} {r : List V → Hp → VK → Prop}
theorem pst_set {i : Nat} {y : Str} (hN : X.N.Nodup) (hi : X.N[i]? = some y) (hx : Loc X.env.scope y) (he : PET X e te) (hs : swapsWith e (some (.Name y pos')) pos.line X.env = pure false := by rfl) (hf : X.fn y = true ∨ X.env.scope.names.lookup y = some .local := by first | exact .inl rfl | exact .inr rfl | assumption) :
    PST X (.Assign [.Name y pos'] e pos) (tAsg te (gName i)) := by
  intro pins s σ H D h0 I h
  refine wpAny_Assign_Name (thn (he pins s σ H _ h0 I h) fun v s1 ⟨z, H1, I1, r1, q1⟩ => ?_) hs
  exact store_ok I1 hN hi hx r1 (fun s2 I2 => ⟨_, H1, I2, q1⟩) hf
theorem pet_int (hc : CallR X (.type "int") r) (hg : Gl X "int") (hm : X.mg "int" = none) (ha : PAT X (e :: es) t)
    (he : starEach (e :: es) X.env = (false, eval e X.env) :: starEach es X.env := by rfl) (hpl : (backTo pos (starEach es X.env)).any (·.1) = false := by rfl) : PET X (.Call (.Name "int" p) (e :: es) [] pos) (tCB r t) := by
  intro pins s σ H Q h0 I h
  refine wpAny_Call_Name_kw (ld_blt I hg hm (show bootBuiltins "int" = some (.type "int") by decide +kernel) ?_ (by decide) (by decide))
  exact PyProof.Rows.callWith_type1 (thn (ha pos pins s σ H _ h0 I h) fun us s1 ⟨vs, H1, I1, r1, q1⟩ => hc pins s1 σ H1 vs us Q I1 r1 q1) he hpl
end
end HT
namespace HT
open PySem L2 CwR
def markQ (z : Str) (a : Nat) : Bool := decide (at1 z a = "-") || decide (at1 z a = "+")
/-- the leading blanks -/
def blanks (z : Str) : Nat := z.length - (Txt.lstripChars z " ").length
def wholeAt (z : Str) : Nat := if markQ z (blanks z) = true then blanks z + 1 else blanks z
structure ReadOk (z : Str) (k c : Nat) (n : Int) (p e : Nat) (c0 : Nat) : Prop where
  len : z.length ≤ 2000
  bl : blanks z < z.length
  hc0 : z.cps.toList[blanks z]? = some c0
  hc : z.cps.toList[wholeAt z]? = some c
  pn : pastD z (wholeAt z) z.length ≠ wholeAt z
  groups : ¬ (⟨#[c]⟩ : Str) = "0" → ¬ 3 < pastD z (wholeAt z) z.length - wholeAt z → GroupsOk z (pastD z (wholeAt z) z.length) k
  hp : p = wholeM z (wholeAt z) k c
  pl : p ≤ z.length
  dot : at1 z p = "." → p + 1 ≤ z.length ∧ pastD z (p + 1) 60 ≠ p + 1
  he : e = placesM z p
  all : e = z.length
  r1 : (Txt.replace (cutS z (some (wholeAt z : Int)) (some (e : Int))) "," "").length ≤ 2000
  r2 : (Txt.replace (Txt.replace (cutS z (some (wholeAt z : Int)) (some (e : Int))) "," "") "." "").length ≤ 2000
  dig : PySem.intText? (Txt.replace (Txt.replace (cutS z (some (wholeAt z : Int)) (some (e : Int))) "," "") "." "") = some n
def readFig (n : Int) (c0 : Nat) : Int := if (⟨#[c0]⟩ : Str) = "-" then -n else n
def spRead : Sp := fun vs H Q _ => ∃ (z : Str) (k c : Nat) (n : Int) (p e c0 : Nat), vs = [.str z] ∧ ReadOk z k c n p e c0 ∧ ∀ (q : Addr) (H' : Hp), Same H H' → H' q = some (.tup [.int (readFig n c0), .int (max 0 ((e : Int) - p - 1))]) → Q (.ref q) H'
section
variable {P : Program} {w : World} {K : PySem.W.Frag} {mg : Str → Option Value} {base : Heap} {fW fL : Addr} {dW dL : FuncData}
structure ReadT (mg : Str → Option Value) : Prop where
  isi : mg "isinstance" = none
  str : mg "str" = none
  len : mg "len" = none
  int : mg "int" = none
  max : mg "max" = none
theorem ok_read_text {f : Addr} {fd : FuncData} (F : Fun K "read_text" "read_text" s_read_text f fd) (T : ReadT mg) (W : Cal P w K mg base "_past_whole" 3 ["text", "at"] spWhole fW dW) (L : Cal P w K mg base "_past_places" 2 ["text", "at"] spPlaces fL dL)
    (long : ∀ X : Cx, X.K = K → CallR X (.type "int") (fun xs H Q => ∃ a n, xs = [.str a] ∧ PySem.intText? a = some n ∧ a.length ≤ 2000 ∧ Q (.int n) H)) : FnOk P w K mg base CX0 4 f fd ["text"] spRead := by
  refine F.ok sc_read_text (fun vs H Q E h => ?_) (fun cdv A outer s H vs Q E hr h => ?_)
  · obtain ⟨z, k, c, n, p, e, c0, rfl, _⟩ := h
    rfl
  · obtain ⟨z, k, c, n, p, e, c0, rfl, ok, q⟩ := h
    have nd := sc_read_text.nd
    refine ⟨_, pss_cons (ps_if (pt_not (pt_val (pe_callB call_isi (by rfl) T.isi (by decide +kernel) (pa_cons (pv 0) (pa_cons (pe_bltn (v := .ty "str") (by rfl) T.str (by decide +kernel) rfl) pa_nil))))) (pss_one ps_never) pss_nil)
      (pss_subT (i := 1) nd rfl (Or.inl rfl) (pe_callB call_len_str (by rfl) T.len PySem.boot_len (pa_cons (pv 0) pa_nil)) (pe_callB call_len_str (by rfl) T.len PySem.boot_len (pa_cons (pe_bm PySem.F.plainAttrs_str PySem.F.slot_str_lstrip PySem.F.type_str_lstrip mt_lstripChars (pv 0) (pa_cons pe_str pa_nil)) pa_nil))
      (psst_cons (PST.of (ps_set (i := 2) nd rfl (Or.inl rfl) (pv 1)))
      (psst_cons (PST.of (ps_if (pt_cmpR op_in_seq (pe_slice sl_str (pv 0) (po_some (pv 1)) (po_some (pe_op op_add (pv 1) pe_int))) (pe_tup (pa_cons pe_str (pa_cons pe_str pa_nil))) (by rfl)) (pss_one (ps_set (i := 2) nd rfl (Or.inl rfl) (pe_op op_add (pv 1) pe_int))) pss_nil))
      (psst_cons (PST.of (ps_set (i := 3) nd rfl (Or.inl rfl) (pcl W hr (by decide) (by rfl) (pa_cons (pv 0) (pa_cons (pv 2) pa_nil)))))
      (psst_cons (PST.of (ps_set (i := 4) nd rfl (Or.inl rfl) (pcl L hr (by decide) (by rfl) (pa_cons (pv 0) (pa_cons (pv 3) pa_nil)))))
      (psst_cons (PST.of (ps_if (pt_cmpR op_lt (pv 4) (pe_callB call_len_str (by rfl) T.len PySem.boot_len (pa_cons (pv 0) pa_nil)) (nomark _)) (pss_one ps_never) pss_nil))
      (psst_cons (pst_set (i := 5) nd rfl (Or.inl rfl) (pet_int (long _ rfl) (by rfl) T.int (pat_cons (pet_replT (pet_replC (pe_slice sl_str (pv 0) (po_some (pv 2)) (po_some (pv 4))))) pat_nil)))
      (psst_cons (PST.of (ps_if (pt_cmpR op_eq (pe_ix ix_str (pv 0) (pv 1) (fun _ _ => rfl)) pe_str (nomark _)) (pss_one (ps_set (i := 5) nd rfl (Or.inl rfl) (pe_un un_neg (pv 5)))) pss_nil))
      (psst_one (PST.of (ps_ret (pe_tup (pa_cons (pv 5) (pa_cons (pe_callB (call_max2 rfl) (by rfl) T.max (by decide +kernel) (pa_cons pe_int (pa_cons (pe_op op_sub (pe_op op_sub (pv 4) (pv 3)) pe_int) pa_nil))) pa_nil)))))))))))))), ?_⟩
    have zl : z.length ≤ sizeLine := Nat.le_trans ok.len (by decide)
    walk_at "rd"
    refine ⟨_, _, _, _, _, rfl, .ty "str", .base (.str _), kit_ty (r := true) (by decide +kernel), ?_⟩
    walk_at "rd"
    refine ⟨zl, ?_⟩
    walk_at "rd"
    have ll : (Txt.lstripChars z " ").length ≤ z.length := PyProof.Rows.len_lstripChars z " "
    have eb : (z.length : Int) - ((Txt.lstripChars z " ").length : Int) = (blanks z : Int) := by
      unfold blanks
      omega
    refine ⟨rfl, ?_⟩
    walk_at "rd"
    refine ⟨zl, ?_⟩
    walk_at "rd"
    refine ⟨Nat.le_trans ll zl, ?_⟩
    walk_at "rd"
    dsimp only
    rw [eb]
    refine ⟨zl, ?_⟩
    walk_at "rd"
    refine ⟨by show 2 ≤ sizeLine; decide, fun tq tn => ?_⟩
    have tf : (upd H tq (.tup [.str "-", .str "+"])) tq = some (.tup [.str "-", .str "+"]) := upd_same ..
    refine ⟨tq, _, rfl, .inr (SqT.of tf), rfl, rfl, ?_⟩
    walk_at "rd"
    obtain ⟨zlen, bl, hc0, hc, pn, gr, hp, ppl, dot, he, all, r1, r2, dig⟩ := ok
    have mq : markQ z (blanks z) = inV (V.str (at1 z (blanks z))) [V.str "-", V.str "+"] := by
      have f : ∀ t r : Str, eqV (V.str r) (V.str t) = decide (t = r) := fun t r => by
        show (r == t) = decide (t = r)
        by_cases g : t = r
        · rw [g, decide_eq_true rfl, beq_self_eq_true]
        · rw [decide_eq_false g]
          exact beq_eq_false_iff_ne.mpr (fun x => g x.symm)
      unfold markQ inV
      rw [List.any_cons, List.any_cons, List.any_nil, f, f, Bool.or_false]
    generalize hwz : wholeAt z = wh at hc pn gr hp r1 r2 dig
    have sm : Same H (upd H tq (.tup [.str "-", .str "+"])) := fun b o hb => by
      rw [upd_ne (fun x => by rw [x, tn] at hb; cases hb)]
      exact hb
    refine ite2 (fun h => ?A) (fun h => ?B)
    case' A =>
      have hw : blanks z + 1 = wh := by
        rw [← hwz]
        unfold wholeAt
        rw [if_pos (mq.trans h)]
      subst hw
    case' B =>
      have hw : blanks z = wh := by
        rw [← hwz]
        unfold wholeAt
        rw [if_neg (fun x => h (mq.symm.trans x))]
      have hc0' := hc0
      subst hw
    all_goals
      walk_at "rd"
      refine ⟨z, _, k, c, rfl, zl, hc, pn, gr, ?_⟩
      rw [← hp]
      walk_at "rd"
      refine ⟨z, p, rfl, ppl, zl, dot, ?_⟩
      rw [← he]
      walk_at "rd"
      refine ⟨zl, ?_⟩
      walk_at "rd"
      refine ite2 (fun h => ?_) (fun _ => ?_)
      · have := of_decide_eq_true h
        omega
      walk_at "rd"
      refine ⟨zl, ?_⟩
      walk_at "rd"
      refine ⟨by rw [show (("" : Str)).length = 0 from rfl]; exact Nat.le_trans (cutS_len_le z _ _) (Nat.le_trans zlen (by decide)), ?_⟩
      refine ⟨_, rfl, by rw [show (("" : Str)).length = 0 from rfl]; exact Nat.le_trans r1 (by decide), ?_⟩
      walk_at "rd"
      refine ⟨_, n, rfl, dig, r2, ?_⟩
      walk_at "rd"
      refine ⟨z, (blanks z : Int), c0, rfl, rfl, zl, atI_nat hc0, ?_⟩
      walk_at "rd"
      refine ⟨rfl, ?_⟩
      walk_at "rd"
      have fin : ∀ (q' : Addr), (upd H tq (.tup [.str "-", .str "+"])) q' = none → ∀ r : Int, r = readFig n c0 → Q (.ref q') (upd (upd H tq (.tup [.str "-", .str "+"])) q' (.tup [.int r, .int (if (e : Int) - p - 1 > 0 then (e : Int) - p - 1 else 0)])) := fun q' qn r hr => by
        refine q q' _ (sm.trans fun b o hb => by rw [upd_ne (fun x => by rw [x, qn] at hb; cases hb)]; exact hb) ?_
        rw [upd_same, hr]
        have e1 : (if (e : Int) - p - 1 > 0 then (e : Int) - p - 1 else 0) = max 0 ((e : Int) - p - 1) := by split <;> omega
        rw [e1]
      refine ite2 (fun h => ?_) (fun h => ?_)
      · walk_at "rd"
        refine ⟨0, _, rfl, ?_⟩
        walk_at "rd"
        refine ⟨by show 2 ≤ sizeLine; decide, fun q' qn => ?_⟩
        exact fin q' qn _ (by unfold readFig; rw [if_pos (str_t h)])
      · walk_at "rd"
        refine ⟨0, _, rfl, ?_⟩
        walk_at "rd"
        refine ⟨by show 2 ≤ sizeLine; decide, fun q' qn => ?_⟩
        exact fin q' qn _ (by unfold readFig; rw [if_neg (str_f h)])
end
end HT
namespace HT
open PySem L2 CwR PySem.NumText PySem.W PySem.Calls PyProof.Rows
theorem wp_lim {M : Model} {A : Around} {E : Value → Shared → Prop} {s : Shared} {Q : Nat → Shared → Prop} (hn : Looks M s.heap (nsGet cStatics ("sys.int_max_str_digits" : PySem.Str)) none) (h : Q 4300 s) : wpAny M A Builtin.intMaxStrDigits Q E s := by
  unfold Builtin.intMaxStrDigits
  exact wpAny_bind (hn.here (wpAny_pure h))
theorem wp_num {M : Model} {A : Around} {E : Value → Shared → Prop} {s : Shared} {Q : Value → Shared → Prop} {v : Value} {t : List Nat} {n : Int} {l : Nat} (hn : Looks M s.heap (nsGet cStatics ("sys.int_max_str_digits" : PySem.Str)) none)
    (hl : (t.takeWhile (· != 0)).length ≤ 640 ∧ l = 0 ∨ ¬ (t.takeWhile (· != 0)).length ≤ 640 ∧ l = 4300)
    (hr : (int_private% "readNumeral") l 10 (t.takeWhile (· != 0)) = (int_private% "Numeral.value") n) (ha : ((t.takeWhile (· != 0)).length == t.length) = true) (h : Q (.int n s.toks) { s with toks := s.toks + 1 }) : wpAny M A ((int_private% "intFromText") v t 10) Q E s := by
  obtain ⟨hp, g, d, tk, os⟩ := s
  rcases hl with ⟨hs, rfl⟩ | ⟨hs, rfl⟩
  · repeat (any_goals (first | assumption | (with_reducible refine wpAny_ite_true (decide_eq_true hs) ?_) | (with_reducible refine wpAny_ite_true (decide_eq_true ha) ?_) | wp_step))
    all_goals (try rw [hr])
    all_goals (try dsimp only)
    repeat (any_goals (first | assumption | (with_reducible refine wpAny_ite_true (decide_eq_true ha) ?_) | wp_step))
  · repeat (any_goals (first | assumption | (with_reducible refine wpAny_ite_false (decide_eq_false hs) ?_) | (with_reducible refine wp_lim hn ?_) | (with_reducible refine wpAny_ite_true (decide_eq_true ha) ?_) | wp_step))
    all_goals (try rw [hr])
    all_goals (try dsimp only)
    repeat (any_goals (first | assumption | (with_reducible refine wpAny_ite_true (decide_eq_true ha) ?_) | wp_step))
set_option maxHeartbeats 4000000 in
theorem meets_num {x : PySem.Str} {u : Tok} {n : Int} (hn : PySem.intText? x = some n) (hx : x.length ≤ 2000) :
    Meets (Builtin.«int.__new__» ⟨[.type "int", .str x u], []⟩) (fun _ R s => (∀ M : Model, Looks M s.heap (nsGet cStatics ("sys.int_max_str_digits" : PySem.Str)) none) ∧ R (.ok (.ret (.int n s.toks))) { s with toks := s.toks + 1 }) :=
  .of_wp fun prog w A R s h => by
    have hq := h.2
    have hlk : Looks (model prog w) s.heap (nsGet cStatics ("sys.int_max_str_digits" : PySem.Str)) none := h.1 _
    obtain ⟨l, hl⟩ : ∃ l : Nat, (numSeenOf x).length ≤ 640 ∧ l = 0 ∨ ¬ (numSeenOf x).length ≤ 640 ∧ l = 4300 := by
      by_cases z : (numSeenOf x).length ≤ 640
      · exact ⟨0, .inl ⟨z, rfl⟩⟩
      · exact ⟨4300, .inr ⟨z, rfl⟩⟩
    have hk : (int_private% "readNumeral") l 10 (numSeenOf x) = (int_private% "Numeral.value") n ∧ ((numSeenOf x).length == (numTextOf x).length) = true := by
      rw [readNumeral_ten]
      have hb := seen_length x
      unfold PySem.intText? at hn
      split at hn
      · rename_i hall
        refine ⟨?_, hall⟩
        split at hn
        · rename_i ds hd
          have d1 := digits_size hd
          have d2 := core_length (numSeenOf x)
          rw [if_pos (by omega)] at hn
          injection hn with hn
          rw [hd, ← hn]
          exact judge_ok (by rcases hl with z | z <;> omega) (by omega)
        · cases hn
      · cases hn
    have hk' := KIN.Hid.mk (And.intro hl hk)
    clear hn hl h hk
    obtain ⟨hp, g, d, tk, os⟩ := s
    have hlk' := KIN.Hid.mk hlk
    clear hlk
    have f1 := F.conv_sub_int
    have f2 := F.madeHere_int
    have f3 := KIN.str_int
    have f4 := KIN.str_idx
    have f5 := KIN.str_trunc
    have f6 : typeOf (.str x u) = pure (.type "str") := rfl
    repeat (any_goals (first | assumption | ((with_reducible show wpAny _ _ ((int_private% "intFromText") _ _ _) _ _ _); refine wp_num hlk'.out hk'.out.1 hk'.out.2.1 hk'.out.2.2 ?_) | wp_step))
    all_goals first | exact ⟨_, rfl, hq⟩ | skip
theorem call_int_long {X : Cx} (e : PySem.W.nsIn X.K cStatics "sys.int_max_str_digits" = some none) : CallR X (.type "int") (fun xs H Q => ∃ a n, xs = [.str a] ∧ PySem.intText? a = some n ∧ a.length ≤ 2000 ∧ Q (.int n) H) := by
  intro pins s σ H xs us Q I rs h
  obtain ⟨a, n, rfl, hn, hl, h⟩ := h
  cases rs with
  | cons r1 rs =>
    cases rs
    obtain ⟨t, rfl⟩ := r1
    refine PySem.call_int_1 (meets_num hn hl) ?_
    exact ⟨fun M => (PySem.W.looks_nsIn I.kIn e), PySem.typeIs_int _ _ _, ⟨.int n, H, I.tok _, ⟨_, rfl⟩, h⟩⟩
end HT
namespace HT
open PySem L2 PySem.NumText TL
theorem tl_digS : tl digS = [48, 49, 50, 51, 52, 53, 54, 55, 56, 57] := by
  show tl (Str.ofString "0123456789") = _
  rw [tl_ofString]
  rfl
theorem mem_digS {c : Nat} : c ∈ digS.cps.toList ↔ 48 ≤ c ∧ c ≤ 57 := by
  rw [show digS.cps.toList = [48, 49, 50, 51, 52, 53, 54, 55, 56, 57] from tl_digS]
  simp only [List.mem_cons, List.not_mem_nil, or_false]
  omega
/-- no digit ahead -/
def NoDg (l : List Nat) : Prop := ∀ c, l.head? = some c → ¬ (48 ≤ c ∧ c ≤ 57)
theorem dgRun_all : ∀ (a b : List Nat) (m : Nat), AllDigits a → a.length ≤ m → (NoDg b ∨ m = a.length) → dgRun m (a ++ b) = a.length
  | [], b, 0, _, _, _ => dgRun_zero _
  | [], [], m + 1, _, _, _ => rfl
  | [], c :: b, m + 1, _, _, h => by
    have h1 : ¬ c ∈ digS.cps.toList := fun z => by
      rcases h with g | g
      · exact g c rfl (mem_digS.mp z)
      · cases g
    show (if c ∈ digS.cps.toList then dgRun m b + 1 else 0) = 0
    rw [if_neg h1]
  | c :: a, b, m, hd, hl, h => by
    rw [List.length_cons] at hl
    obtain ⟨k, rfl⟩ : ∃ k, m = k + 1 := ⟨m - 1, by omega⟩
    show (if c ∈ digS.cps.toList then dgRun k (a ++ b) + 1 else 0) = _
    rw [if_pos (mem_digS.mpr hd.head), dgRun_all a b k hd.tail (by omega) (h.imp id (fun g => by rw [List.length_cons] at g; omega)), List.length_cons]
theorem tl_cut (z : Str) (a b : Nat) (h : b ≤ (tl z).length) : tl (cutS z (some (a : Int)) (some (b : Int))) = ((tl z).drop a).take (b - a) := by
  have hz : z.length = (tl z).length := len_tl z
  show ((tl z).drop (HT.sIx z.length 0 (some (a : Int)))).take (HT.sIx z.length z.length (some (b : Int)) - HT.sIx z.length 0 (some (a : Int))) = _
  rw [HT.sIx_nat, HT.sIx_nat, hz, Nat.min_eq_left h]
  by_cases g : a ≤ (tl z).length
  · rw [Nat.min_eq_left g]
  · rw [Nat.min_eq_right (by omega), List.drop_eq_nil_of_le (Nat.le_refl _), List.drop_eq_nil_of_le (by omega), List.take_nil, List.take_nil]
theorem tl_at1 (z : Str) (a : Nat) : tl (at1 z a) = ((tl z).drop a).take 1 := by
  have hz : z.length = (tl z).length := len_tl z
  show ((tl z).drop (HT.sIx z.length 0 (some (a : Int)))).take (HT.sIx z.length z.length (some ((a + 1 : Nat) : Int)) - HT.sIx z.length 0 (some (a : Int))) = _
  rw [HT.sIx_nat, HT.sIx_nat, hz]
  by_cases g : a < (tl z).length
  · rw [Nat.min_eq_left (by omega), Nat.min_eq_left (by omega)]
    congr 1
    omega
  · rw [Nat.min_eq_right (by omega), Nat.min_eq_right (by omega), List.drop_eq_nil_of_le (Nat.le_refl _), List.drop_eq_nil_of_le (by omega), List.take_nil, List.take_nil]
theorem at1_is {z : Str} {a c : Nat} {s : Str} (hs : tl s = [c]) : at1 z a = s ↔ ((tl z).drop a).head? = some c := by
  constructor
  · intro h
    have e := congrArg tl h
    rw [tl_at1, hs] at e
    cases hd : (tl z).drop a with
    | nil => rw [hd] at e; cases e
    | cons d l =>
      rw [hd] at e
      have e1 : d = c := by injection e
      rw [e1]
      rfl
  · intro h
    refine ext_tl ?_
    rw [tl_at1, hs]
    cases hd : (tl z).drop a with
    | nil => rw [hd] at h; cases h
    | cons d l =>
      rw [hd] at h
      injection h with h
      rw [h]
      rfl
theorem tl_comma : tl ("," : Str) = [44] := by
  show tl (Str.ofString ",") = _
  rw [tl_ofString]
  rfl
theorem tl_dot : tl ("." : Str) = [46] := by
  show tl (Str.ofString ".") = _
  rw [tl_ofString]
  rfl
theorem tl_minus : tl ("-" : Str) = [45] := by
  show tl (Str.ofString "-") = _
  rw [tl_ofString]
  rfl
theorem tl_plus : tl ("+" : Str) = [43] := by
  show tl (Str.ofString "+") = _
  rw [tl_ofString]
  rfl
theorem tl_zero : tl ("0" : Str) = [48] := by
  show tl (Str.ofString "0") = _
  rw [tl_ofString]
  rfl
theorem tl_blank : tl (" " : Str) = [32] := by
  show tl (Str.ofString " ") = _
  rw [tl_ofString]
  rfl
theorem tl_empty : tl ("" : Str) = [] := by
  show tl (Str.ofString "") = _
  rw [tl_ofString]
  rfl
theorem one_is {c d : Nat} {s : Str} (hs : tl s = [d]) : (⟨#[c]⟩ : Str) = s ↔ c = d := by
  constructor
  · intro h
    have e := congrArg tl h
    rw [hs] at e
    have e1 : [c] = [d] := e
    injection e1
  · intro h
    refine ext_tl ?_
    rw [hs, ← h]
/-- the point and the digits behind it -/
def fracL : List Nat → List Nat
  | [] => []
  | c :: l => 46 :: c :: l
theorem fracL_len (D : List Nat) : (fracL D).length = if D.length = 0 then 0 else D.length + 1 := by
  cases D with
  | nil => rfl
  | cons c l => rfl
def grpL (gs : List (List Nat)) : List Nat := gs.flatMap (44 :: ·)
theorem grpL_cons (g : List Nat) (gs : List (List Nat)) : grpL (g :: gs) = 44 :: (g ++ grpL gs) := by
  unfold grpL
  rw [List.flatMap_cons]
  rfl
theorem grpL_len : ∀ gs : List (List Nat), (∀ g ∈ gs, g.length = 3) → (grpL gs).length = 4 * gs.length
  | [], _ => rfl
  | g :: gs, h => by
    have := h g (List.mem_cons_self ..)
    rw [grpL_cons, List.length_cons, List.length_append, grpL_len gs (fun x hx => h x (List.mem_cons_of_mem _ hx)), List.length_cons]
    omega
theorem grpL_drop : ∀ (gs : List (List Nat)) (j : Nat), (∀ g ∈ gs, g.length = 3) → j ≤ gs.length → ∀ R : List Nat, (grpL gs ++ R).drop (4 * j) = grpL (gs.drop j) ++ R
  | gs, 0, _, _, R => rfl
  | [], j + 1, _, h, R => absurd h (by simp)
  | g :: gs, j + 1, h, hj, R => by
    have h3 := h g (List.mem_cons_self ..)
    have ih := grpL_drop gs j (fun x hx => h x (List.mem_cons_of_mem _ hx)) (by rw [List.length_cons] at hj; omega) R
    rw [List.drop_succ_cons, ← ih, grpL_cons]
    obtain ⟨a, b, c, rfl⟩ : ∃ a b c, g = [a, b, c] := by
      match g, h3 with
      | [a, b, c], _ => exact ⟨a, b, c, rfl⟩
    rw [show 4 * (j + 1) = 4 * j + 1 + 1 + 1 + 1 by omega]
    rfl
structure Shape (z : Str) (k : Nat) (mk W : List Nat) (gs : List (List Nat)) (D : List Nat) : Prop where
  eq : tl z = List.replicate k 32 ++ (mk ++ (W ++ (grpL gs ++ fracL D)))
  sg : mk = [] ∨ mk = [45] ∨ mk = [43]
  wd : AllDigits W
  wn : W ≠ []
  lead : W = [48] ∧ gs = [] ∨ W.head? ≠ some 48 ∧ (W.length ≤ 3 ∨ gs = [])
  gd : ∀ g ∈ gs, AllDigits g ∧ g.length = 3
  dd : AllDigits D
  dl : D.length ≤ 60
  len : z.length ≤ 2000
theorem noDg_frac (D : List Nat) : NoDg (fracL D) := by
  intro c hc
  cases D with
  | nil => cases hc
  | cons d l =>
    injection hc with hc
    omega
theorem noDg_rest (gs : List (List Nat)) (D : List Nat) : NoDg (grpL gs ++ fracL D) := by
  cases gs with
  | nil => exact noDg_frac D
  | cons g gs =>
    intro c hc
    rw [grpL_cons] at hc
    injection hc with hc
    omega
theorem filter_comma : ∀ gs : List (List Nat), (∀ g ∈ gs, AllDigits g) → (grpL gs).filter (· != 44) = gs.flatten
  | [], _ => rfl
  | g :: gs, h => by
    rw [grpL_cons, List.filter_cons_of_neg (by decide), List.filter_append, filter_comma gs (fun x hx => h x (List.mem_cons_of_mem _ hx)), List.flatten_cons]
    congr 1
    refine List.filter_eq_self.mpr (fun c hc => ?_)
    have := h g (List.mem_cons_self ..) c hc
    simp only [bne_iff_ne]
    omega
theorem filter_dg {l : List Nat} (h : AllDigits l) {c : Nat} (hc : c < 48) : l.filter (· != c) = l := by
  refine List.filter_eq_self.mpr (fun d hd => ?_)
  have := h d hd
  simp only [bne_iff_ne]
  omega
theorem AllDg.append {a b : List Nat} (ha : AllDigits a) (hb : AllDigits b) : AllDigits (a ++ b) := fun c hc => (List.mem_append.mp hc).elim (ha c) (hb c)
theorem AllDg.flatten {gs : List (List Nat)} (h : ∀ g ∈ gs, AllDigits g) : AllDigits gs.flatten := fun c hc => by
  obtain ⟨g, hg, hc⟩ := List.mem_flatten.mp hc
  exact h g hg c hc
theorem blanks_of {z : Str} {k : Nat} {r : List Nat} (e : tl z = List.replicate k 32 ++ r) (h : r.head? ≠ some 32) : blanks z = k := by
  have hl : z.length = k + r.length := by rw [len_tl, e, List.length_append, List.length_replicate]
  obtain ⟨f0, f1, f2⟩ := PyProof.Rows.lo_facts ((" " : Str).cps.contains) z
  have el : Txt.lstripChars z " " = PySem.Builtin.Str.strSub z (stripLo ((" " : Str).cps.contains) true z) z.length := by
    unfold Txt.lstripChars
    rw [PyProof.Rows.stripBy_eq]
    rfl
  have goes : ∀ c : Nat, ((" " : Str).cps.contains c) = decide (c = 32) := fun c => by
    rw [show (" " : Str).cps = #[32] by decide +kernel]
    simp
  generalize stripLo ((" " : Str).cps.contains) true z = lo at f0 f1 f2 el
  have ln : (Txt.lstripChars z " ").length = z.length - lo := by
    rw [el]
    show (z.cps.extract lo z.length).size = _
    rw [Array.size_extract]
    show min z.length z.cps.size - lo = _
    rw [show z.cps.size = z.length from rfl, Nat.min_self]
  have get : ∀ i, z.cps.getD i 0 = ((tl z)[i]?).getD 0 := fun i => by
    show z.cps.getD i 0 = (z.cps.toList[i]?).getD 0
    rw [Array.getElem?_toList]
    simp [Array.getD_eq_getD_getElem?]
  have lk : lo = k := by
    rcases Nat.lt_trichotomy lo k with g | g | g
    · rcases f2 with f2 | f2
      · omega
      · rw [get, goes, e, List.getElem?_append_left (by rw [List.length_replicate]; exact g), List.getElem?_replicate_of_lt g] at f2
        exact absurd f2 (by decide)
    · exact g
    · have f := f1 k g
      rw [get, goes, e, List.getElem?_append_right (by rw [List.length_replicate]; exact Nat.le_refl _), List.length_replicate, Nat.sub_self] at f
      cases r with
      | nil => simp at f
      | cons c r =>
        have f' : decide (c = 32) = true := f
        exact absurd (congrArg some (of_decide_eq_true f')) h
  unfold blanks
  rw [ln]
  omega
end HT
namespace HT
open PySem L2 PySem.NumText TL
theorem some_head {l : List Nat} {i c : Nat} {r : List Nat} (e : l.drop i = c :: r) : l[i]? = some c := by
  have h : (l.drop i)[0]? = some c := by rw [e]; rfl
  rwa [List.getElem?_drop, Nat.add_zero] at h
theorem shape_read {z : Str} {k : Nat} {mk W : List Nat} {gs : List (List Nat)} {D : List Nat} (S : Shape z k mk W gs D) :
    ∃ (kk c p e c0 : Nat), ReadOk z kk c ((digitsVal (W ++ gs.flatten ++ D) : Nat) : Int) p e c0 ∧ (∀ n : Int, readFig n c0 = if mk = [45] then -n else n) ∧ max 0 ((e : Int) - p - 1) = (D.length : Int) := by
  obtain ⟨w, W', hW⟩ : ∃ w W', W = w :: W' := by
    cases W with
    | nil => exact absurd rfl S.wn
    | cons w W' => exact ⟨w, W', rfl⟩
  have hw : 48 ≤ w ∧ w ≤ 57 := S.wd w (by rw [hW]; exact List.mem_cons_self ..)
  have g3 : ∀ g ∈ gs, g.length = 3 := fun g hg => (S.gd g hg).2
  have gd : ∀ g ∈ gs, AllDigits g := fun g hg => (S.gd g hg).1
  obtain ⟨R, hR⟩ : ∃ R, R = grpL gs ++ fracL D := ⟨_, rfl⟩
  have eq := S.eq
  rw [← hR] at eq
  have zl : z.length = k + (mk.length + (W.length + R.length)) := by rw [len_tl, eq, List.length_append, List.length_replicate, List.length_append, List.length_append]
  have Rl : R.length = 4 * gs.length + (fracL D).length := by rw [hR, List.length_append, grpL_len gs g3]
  have dk : (tl z).drop k = mk ++ (W ++ R) := by
    rw [eq, List.drop_left' (by rw [List.length_replicate])]
  have da : (tl z).drop (k + mk.length) = W ++ R := by
    rw [← List.drop_drop, dk, List.drop_left]
  have dw : (tl z).drop (k + mk.length + W.length) = R := by
    rw [← List.drop_drop, da, List.drop_left]
  have bl : blanks z = k := blanks_of eq (by
    rw [hW]
    rcases S.sg with h | h | h <;> rw [h] <;> intro x <;> injection x with x <;> omega)
  have wa : wholeAt z = k + mk.length := by
    unfold wholeAt markQ
    rw [bl]
    rcases S.sg with h | h | h
    · rw [h] at dk ⊢
      rw [hW] at dk
      have h1 : ¬ at1 z k = "-" := fun x => by
        have y := (at1_is tl_minus).mp x
        rw [dk] at y
        injection y with y
        omega
      have h2 : ¬ at1 z k = "+" := fun x => by
        have y := (at1_is tl_plus).mp x
        rw [dk] at y
        injection y with y
        omega
      rw [decide_eq_false h1, decide_eq_false h2]
      rfl
    · rw [h] at dk ⊢
      have h1 : at1 z k = "-" := (at1_is tl_minus).mpr (by rw [dk]; rfl)
      rw [decide_eq_true h1]
      rfl
    · rw [h] at dk ⊢
      have h1 : at1 z k = "+" := (at1_is tl_plus).mpr (by rw [dk]; rfl)
      rw [decide_eq_true h1, Bool.or_true]
      rfl
  have nr : NoDg R := by rw [hR]; exact noDg_rest gs D
  have pw : pastD z (k + mk.length) z.length = k + mk.length + W.length := by
    unfold pastD
    rw [show z.cps.toList.drop (k + mk.length) = W ++ R from da, dgRun_all W R _ S.wd (by omega) (.inl nr)]
  have wl : W.length = W'.length + 1 := by rw [hW]; rfl
  obtain ⟨p, hp⟩ : ∃ p, p = k + mk.length + W.length + 4 * gs.length := ⟨_, rfl⟩
  have dp : (tl z).drop p = fracL D := by
    rw [hp, ← List.drop_drop, dw, hR, grpL_drop gs gs.length g3 (Nat.le_refl _), List.drop_length]
    rfl
  have pz : p + (fracL D).length = z.length := by omega
  have hc0 : ∃ c0, (tl z)[k]? = some c0 ∧ ∀ n : Int, readFig n c0 = if mk = [45] then -n else n := by
    rcases S.sg with h | h | h
    · rw [h, hW] at dk
      refine ⟨w, some_head dk, fun n => ?_⟩
      unfold readFig
      rw [if_neg (fun x => by have := (one_is tl_minus).mp x; omega), h, if_neg (by simp)]
    · rw [h] at dk
      refine ⟨45, some_head dk, fun n => ?_⟩
      unfold readFig
      rw [if_pos ((one_is tl_minus).mpr rfl), h, if_pos rfl]
    · rw [h] at dk
      refine ⟨43, some_head dk, fun n => ?_⟩
      unfold readFig
      rw [if_neg (fun x => by have := (one_is tl_minus).mp x; omega), h, if_neg (by simp)]
  obtain ⟨c0, hc0, hrf⟩ := hc0
  have hpl : at1 z p = "." → D ≠ [] := fun x => by
    have y := (at1_is tl_dot).mp x
    rw [dp] at y
    intro d
    rw [d] at y
    cases y
  have past : D ≠ [] → pastD z (p + 1) 60 = p + 1 + D.length := fun d => by
    unfold pastD
    have e1 : (tl z).drop (p + 1) = D := by
      rw [← List.drop_drop, dp]
      cases D with
      | nil => exact absurd rfl d
      | cons c l => rfl
    have e2 := dgRun_all D [] 60 S.dd S.dl (.inl (fun c hc => by cases hc))
    rw [List.append_nil] at e2
    rw [show z.cps.toList.drop (p + 1) = D from e1, e2]
  have dot : D ≠ [] → at1 z p = "." := fun d => (at1_is tl_dot).mpr (by
    rw [dp]
    cases D with
    | nil => exact absurd rfl d
    | cons c l => rfl)
  have fl := fracL_len D
  have tc : tl (cutS z (some ((k + mk.length : Nat) : Int)) (some (z.length : Int))) = W ++ R := by
    rw [tl_cut _ _ _ (by rw [len_tl]; exact Nat.le_refl _), da, List.take_of_length_le]
    rw [List.length_append]
    omega
  have cm : ("," : Str) = ⟨#[44]⟩ := ext_tl (by rw [tl_comma])
  have dm : ("." : Str) = ⟨#[46]⟩ := ext_tl (by rw [tl_dot])
  have em : ("" : Str) = ⟨#[]⟩ := ext_tl (by rw [tl_empty])
  have f44 : (fracL D).filter (· != 44) = fracL D := by
    refine List.filter_eq_self.mpr (fun c hc => ?_)
    cases D with
    | nil => cases hc
    | cons d l =>
      rcases List.mem_cons.mp hc with e | hc
      · rw [e]
        decide
      · have := S.dd c hc
        simp only [bne_iff_ne]
        omega
  have f46 : (fracL D).filter (· != 46) = D := by
    cases D with
    | nil => rfl
    | cons d l =>
      show (46 :: d :: l).filter (· != 46) = _
      rw [List.filter_cons_of_neg (by decide)]
      exact filter_dg S.dd (by decide)
  have r1 : tl (Txt.replace (cutS z (some ((k + mk.length : Nat) : Int)) (some (z.length : Int))) "," "") = W ++ (gs.flatten ++ fracL D) := by
    rw [cm, em]
    refine (PyProof.Rows.replace_strikes _ 44).trans ?_
    rw [show (cutS z (some ((k + mk.length : Nat) : Int)) (some (z.length : Int))).cps.toList = W ++ R from tc, List.filter_append, hR, List.filter_append, filter_dg S.wd (by decide), filter_comma gs gd, f44]
  have r2 : tl (Txt.replace (Txt.replace (cutS z (some ((k + mk.length : Nat) : Int)) (some (z.length : Int))) "," "") "." "") = W ++ gs.flatten ++ D := by
    rw [dm]
    rw [em] at r1 ⊢
    refine (PyProof.Rows.replace_strikes _ 46).trans ?_
    rw [show (Txt.replace (cutS z (some ((k + mk.length : Nat) : Int)) (some (z.length : Int))) "," ⟨#[]⟩).cps.toList = _ from r1, List.filter_append, List.filter_append, filter_dg S.wd (by decide), filter_dg (AllDg.flatten gd) (by decide), f46, List.append_assoc]
  have fg : gs.flatten.length = 3 * gs.length := by
    clear Rl r1 r2 tc dp hR dw pz hp pw S gd nr
    induction gs with
    | nil => rfl
    | cons g gs ih =>
      rw [List.flatten_cons, List.length_append, g3 g (List.mem_cons_self ..), ih (fun x hx => g3 x (List.mem_cons_of_mem _ hx)), List.length_cons]
      omega
  have zl2 := S.len
  have ee : z.length = placesM z p := by
    unfold placesM
    by_cases d : D = []
    · rw [if_neg (fun x => hpl x d)]
      rw [d] at fl pz
      have : (fracL ([] : List Nat)).length = 0 := rfl
      omega
    · rw [if_pos (dot d), past d]
      rw [if_neg (fun x => d (List.length_eq_zero_iff.mp x))] at fl
      omega
  refine ⟨gs.length, w, p, z.length, c0, ⟨zl2, ?_, ?_, ?_, ?_, ?_, ?_, ?_, ?_, ee, rfl, ?_, ?_, ?_⟩, hrf, ?_⟩
  · rw [bl]
    omega
  · rw [bl]
    exact hc0
  · rw [wa]
    rw [hW] at da
    exact some_head da
  · rw [wa, pw]
    omega
  · intro _ _
    rw [wa, pw]
    refine ⟨by omega, fun j hj => ?_, ?_⟩
    · have e1 : (tl z).drop (k + mk.length + W.length + 4 * j) = grpL (gs.drop j) ++ fracL D := by
        rw [← List.drop_drop, dw, hR, grpL_drop gs j g3 (Nat.le_of_lt hj)]
      have e2 : gs.drop j = gs[j] :: gs.drop (j + 1) := List.drop_eq_getElem_cons hj
      have hm : gs[j] ∈ gs := List.getElem_mem hj
      rw [e2, grpL_cons] at e1
      refine ⟨(at1_is tl_comma).mpr (by rw [e1]; rfl), ?_⟩
      unfold pastD
      have e3 : (tl z).drop (k + mk.length + W.length + 4 * j + 1) = gs[j] ++ (grpL (gs.drop (j + 1)) ++ fracL D) := by
        rw [← List.drop_drop, e1]
        show gs[j] ++ grpL (gs.drop (j + 1)) ++ fracL D = _
        rw [List.append_assoc]
      rw [show z.cps.toList.drop (k + mk.length + W.length + 4 * j + 1) = _ from e3, dgRun_all _ _ 3 (gd _ hm) (by rw [g3 _ hm]; exact Nat.le_refl _) (.inr (g3 _ hm).symm), g3 _ hm]
    · intro x
      have y := (at1_is tl_comma).mp x
      rw [← hp, dp] at y
      cases D with
      | nil => cases y
      | cons d l =>
        injection y with y
        omega
  · rw [wa]
    unfold wholeM
    rw [pw]
    rcases S.lead with ⟨l1, l2⟩ | ⟨l1, l2⟩
    · have e1 : w = 48 := by
        rw [hW] at l1
        injection l1
      have e2 : W.length = 1 := by rw [l1]; rfl
      rw [if_pos ((one_is tl_zero).mpr e1), hp, e2, l2]
      rfl
    · have e1 : w ≠ 48 := fun x => l1 (by rw [hW, x]; rfl)
      rw [if_neg (fun x => e1 ((one_is tl_zero).mp x))]
      by_cases h3 : 3 < k + mk.length + W.length - (k + mk.length)
      · rw [if_pos h3, hp]
        rcases l2 with l2 | l2
        · omega
        · rw [l2]
          rfl
      · rw [if_neg h3, hp]
  · omega
  · intro x
    have d := hpl x
    rw [past d]
    rw [if_neg (fun x => d (List.length_eq_zero_iff.mp x))] at fl
    have : D.length ≠ 0 := fun x => d (List.length_eq_zero_iff.mp x)
    omega
  · rw [wa, len_tl, r1, List.length_append, List.length_append]
    omega
  · rw [wa, len_tl, r2, List.length_append, List.length_append]
    have : D.length ≤ (fracL D).length := by rw [fl]; split <;> omega
    omega
  · rw [wa]
    have ad : AllDigits (W ++ gs.flatten ++ D) := AllDg.append (AllDg.append S.wd (AllDg.flatten gd)) S.dd
    have := intText_digits (x := Txt.replace (Txt.replace (cutS z (some ((k + mk.length : Nat) : Int)) (some (z.length : Int))) "," "") "." "") (by rw [show (Txt.replace (Txt.replace (cutS z (some ((k + mk.length : Nat) : Int)) (some (z.length : Int))) "," "") "." "").cps.toList = _ from r2]; exact ad) (by rw [show (Txt.replace (Txt.replace (cutS z (some ((k + mk.length : Nat) : Int)) (some (z.length : Int))) "," "") "." "").cps.toList = _ from r2, hW]; simp) (by
        rw [len_tl, r2, List.length_append, List.length_append]
        have : D.length ≤ (fracL D).length := by rw [fl]; split <;> omega
        omega)
    rw [show (Txt.replace (Txt.replace (cutS z (some ((k + mk.length : Nat) : Int)) (some (z.length : Int))) "," "") "." "").cps.toList = _ from r2] at this
    exact this
  · by_cases d : D = []
    · rw [d] at pz ⊢
      have : (fracL ([] : List Nat)).length = 0 := rfl
      rw [List.length_nil]
      omega
    · rw [if_neg (fun x => d (List.length_eq_zero_iff.mp x))] at fl
      omega
end HT
namespace HT
open PySem L2 PySem.NumText TL
theorem numL_head : ∀ n : Nat, 1 ≤ n → (numL n).head? ≠ some 48 := by
  intro n
  induction n using Nat.strongRecOn with
  | _ n ih =>
    intro h
    by_cases g : n < 10
    · rw [numL_lt g]
      intro x
      injection x with x
      omega
    · rw [numL_step (by omega)]
      have := ih (n / 10) (by omega) (by omega)
      cases e : numL (n / 10) with
      | nil => exact absurd e (numL_ne _)
      | cons c l =>
        rw [e] at this
        exact this
theorem val_pad : ∀ (k : Nat) (l : List Nat), digitsVal (List.replicate k 48 ++ l) = digitsVal l
  | 0, l => rfl
  | k + 1, l => by
    rw [List.replicate_succ, List.cons_append, digitsVal_zero, val_pad k l]
def absN (fig : Int) : Nat := fig.natAbs
theorem absN_eq (fig : Int) : (if fig < 0 then -fig else fig) = ((absN fig : Nat) : Int) := by
  unfold absN
  split <;> omega
theorem dig_list (fig : Int) (pl : Nat) : tl (digM fig pl) = List.replicate (pl + 1 - (numL (absN fig)).length) 48 ++ numL (absN fig) := by
  unfold digM
  rw [absN_eq]
  have e : tl (Str.ofString (toString ((absN fig : Nat) : Int))) = numL (absN fig) := tl_num (absN fig)
  generalize Str.ofString (toString ((absN fig : Nat) : Int)) = x at e
  have hl : x.length = (numL (absN fig)).length := by rw [len_tl, e]
  unfold Txt.zfill
  by_cases h : (pl : Int) + 1 ≤ (x.length : Int)
  · rw [if_pos h, e, show pl + 1 - (numL (absN fig)).length = 0 by omega]
    rfl
  · rw [if_neg h]
    have hd : ∀ c, x.cps[0]? = some c → 48 ≤ c := fun c hc => by
      rw [← Array.getElem?_toList] at hc
      have : c ∈ tl x := List.mem_of_getElem? hc
      rw [e] at this
      exact (numL_digits _ c this).1
    have e2 : PySem.zfilled x (((pl : Int) + 1).toNat - x.length) = PySem.Builtin.Str.padded x (((pl : Int) + 1).toNat - x.length) 0 48 := by
      unfold PySem.zfilled
      split
      · rename_i h1
        have := hd _ h1
        omega
      · rename_i h1
        have := hd _ h1
        omega
      · rfl
    rw [e2]
    refine (PyProof.Rows.padded_list _ _ _ _).trans ?_
    rw [show x.cps.toList = numL (absN fig) from e, List.replicate_zero, List.append_nil, hl]
    congr 2
theorem tl_pre (z : Str) {i : Int} {n : Nat} (hi : i = (n : Int)) (h : n ≤ (tl z).length) : tl (cutS z none (some i)) = (tl z).take n := by
  subst hi
  have hz : z.length = (tl z).length := len_tl z
  show ((tl z).drop (HT.sIx z.length 0 none)).take (HT.sIx z.length z.length (some (n : Int)) - HT.sIx z.length 0 none) = _
  rw [HT.sIx_none, HT.sIx_nat, hz, Nat.min_eq_left h]
  rfl
theorem tl_post (z : Str) {i : Int} {n : Nat} (hi : i = (n : Int)) (h : n ≤ (tl z).length) : tl (cutS z (some i) none) = (tl z).drop n := by
  subst hi
  have hz : z.length = (tl z).length := len_tl z
  show ((tl z).drop (HT.sIx z.length 0 (some (n : Int)))).take (HT.sIx z.length z.length none - HT.sIx z.length 0 (some (n : Int))) = _
  rw [HT.sIx_none, HT.sIx_nat, hz, Nat.min_eq_left h, List.take_of_length_le]
  rw [List.length_drop]
  exact Nat.le_refl _
theorem tl_rjust (x : Str) {i : Int} (h : 0 ≤ i) : tl (Txt.rjust x i) = List.replicate (i.toNat - x.length) 32 ++ tl x := by
  unfold Txt.rjust
  by_cases g : i ≤ (x.length : Int)
  · rw [if_pos g, show i.toNat - x.length = 0 by omega]
    rfl
  · rw [if_neg g]
    refine (PyProof.Rows.padded_list _ _ _ _).trans ?_
    rw [List.replicate_zero, List.append_nil]
theorem tl_join : ∀ (ps : List Str) (x : Str), tl (Str.join "," (x :: ps)) = tl x ++ grpL (ps.map tl)
  | [], x => by
    show tl x = tl x ++ []
    rw [List.append_nil]
  | y :: ps, x => by
    show tl (x ++ ("," : Str) ++ Str.join "," (y :: ps)) = _
    rw [tl_append, tl_append, tl_comma, tl_join ps y, List.map_cons, grpL_cons, List.append_assoc]
    rfl
def chunks (l : List Nat) (k : Nat) : List (List Nat) := (List.range k).map fun j => (l.drop (3 * j)).take 3
theorem chunks_flat : ∀ (k : Nat) (l : List Nat), 3 * k ≤ l.length → (chunks l k).flatten = l.take (3 * k)
  | 0, l, _ => rfl
  | k + 1, l, h => by
    have ih := chunks_flat k l (by omega)
    unfold chunks at ih ⊢
    rw [List.range_succ, List.map_append, List.flatten_append, ih]
    show l.take (3 * k) ++ ((l.drop (3 * k)).take 3 ++ []) = _
    rw [List.append_nil, show 3 * (k + 1) = 3 * k + 3 by omega, List.take_add]
theorem chunk_mem {l : List Nat} {k : Nat} (h : 3 * k ≤ l.length) (ad : AllDigits l) : ∀ g ∈ chunks l k, AllDigits g ∧ g.length = 3 := fun g hg => by
  obtain ⟨j, hj, rfl⟩ := List.mem_map.mp hg
  have := List.mem_range.mp hj
  refine ⟨fun c hc => ad c (List.mem_of_mem_drop (List.mem_of_mem_take hc)), ?_⟩
  rw [List.length_take, List.length_drop]
  omega
theorem tl_group {d : Str} (h : 1 ≤ d.length) : tl (groupM d) = (tl d).take (firstG d.length) ++ grpL (chunks ((tl d).drop (firstG d.length)) (moreG d.length)) := by
  have hz : d.length = (tl d).length := len_tl d
  have hf : firstG d.length ≤ d.length := by
    unfold firstG
    omega
  have hk : firstG d.length + 3 * moreG d.length = d.length := by
    unfold moreG firstG
    omega
  show tl (PySem.Builtin.Str.glued "," (partsG d (moreG d.length))) = _
  rw [StrLaws.glued_eq_join]
  unfold partsG
  rw [tl_join, tl_pre d rfl (by omega), List.map_map]
  congr 2
  unfold chunks
  refine List.map_congr_left (fun j hj => ?_)
  have hj' := List.mem_range.mp hj
  show tl (cutS d (some ((firstG d.length : Int) + (j : Int) * 3)) (some ((firstG d.length : Int) + (j : Int) * 3 + 3))) = _
  rw [show (firstG d.length : Int) + (j : Int) * 3 = ((firstG d.length + 3 * j : Nat) : Int) by omega, show ((firstG d.length + 3 * j : Nat) : Int) + 3 = ((firstG d.length + 3 * j + 3 : Nat) : Int) by omega, tl_cut d _ _ (by omega), List.drop_drop]
  congr 1
  omega
theorem tl_mark (fig : Int) (sg : Bool) : tl (markM fig sg) = if fig < 0 then [45] else if 0 < fig ∧ sg = true then [43] else [] := by
  unfold markM
  split
  · exact tl_minus
  · split
    · exact tl_plus
    · exact tl_empty
/-- what a written text is -/
structure TextOk (z : Str) (fig : Int) (pl k : Nat) (mk W : List Nat) (gs : List (List Nat)) (D : List Nat) : Prop where
  sh : Shape z k mk W gs D
  dl : D.length = pl
  val : digitsVal (W ++ gs.flatten ++ D) = absN fig
  neg : mk = [45] ↔ fig < 0
  nil : fig = 0 → mk = [] ∧ W = [48]
theorem text_ok {fig : Int} {pl : Nat} {sg gr : Bool} {wd : Int} (h0 : -10 ^ 62 < fig) (h1 : fig < 10 ^ 62) (hp : pl ≤ 60) (w0 : 0 ≤ wd) (w1 : wd ≤ 200) : ∃ (k : Nat) (mk W : List Nat) (gs : List (List Nat)) (D : List Nat), TextOk (textM fig pl sg gr wd) fig pl k mk W gs D ∧ k ≤ 200 ∧ (wd = 0 → k = 0) ∧ (gr = false → gs = []) ∧ (textM fig pl sg gr wd).length ≤ 1200 ∧ (sg = false → mk ≠ [43]) := by
  obtain ⟨d1, d2⟩ := dig_ok h0 h1 hp
  have dl := dig_list fig pl
  obtain ⟨d, hd⟩ : ∃ d, d = digM fig pl := ⟨_, rfl⟩
  have et : textM fig pl sg gr wd = Txt.rjust (markM fig sg ++ (if 0 < pl then (if gr = true then groupM (cutS d none (some ((d.length : Int) - (pl : Int)))) else cutS d none (some ((d.length : Int) - (pl : Int)))) ++ ("." : Str) ++ cutS d (some ((d.length : Int) - (pl : Int))) none else (if gr = true then groupM (cutS d none (some ((d.length : Int) - (pl : Int)))) else cutS d none (some ((d.length : Int) - (pl : Int)))))) wd := by
    rw [hd]
    rfl
  rw [← hd] at d1 d2 dl
  have ad : AllDigits (tl d) := by
    rw [dl]
    refine AllDg.append (fun c hc => ?_) (numL_digits _)
    rw [(List.mem_replicate.mp hc).2]
    decide
  have dn : d.length = (tl d).length := len_tl d
  obtain ⟨q, hq⟩ : ∃ q : Nat, q = d.length - pl := ⟨_, rfl⟩
  have eq : (d.length : Int) - (pl : Int) = (q : Int) := by omega
  rw [eq] at et
  have t1 : tl (cutS d none (some (q : Int))) = (tl d).take q := tl_pre d rfl (by omega)
  have t2 : tl (cutS d (some (q : Int)) none) = (tl d).drop q := tl_post d rfl (by omega)
  obtain ⟨a, ha⟩ : ∃ a, a = cutS d none (some (q : Int)) := ⟨_, rfl⟩
  obtain ⟨b, hb⟩ : ∃ b, b = cutS d (some (q : Int)) none := ⟨_, rfl⟩
  rw [← ha] at t1
  rw [← hb] at t2
  rw [← ha, ← hb] at et
  have al : a.length = q := by rw [len_tl, t1, List.length_take]; omega
  have bl : (tl b).length = pl := by rw [t2, List.length_drop]; omega
  have aa : AllDigits (tl a) := by rw [t1]; exact fun c hc => ad c (List.mem_of_mem_take hc)
  have ab : AllDigits (tl b) := by rw [t2]; exact fun c hc => ad c (List.mem_of_mem_drop hc)
  have cat : tl a ++ tl b = tl d := by rw [t1, t2, List.take_append_drop]
  have val : digitsVal (tl a ++ tl b) = absN fig := by rw [cat, dl, val_pad, numL_val]
  have hq1 : 1 ≤ q := by omega
  have la : (tl a).length = q := by rw [← len_tl, al]
  -- the first digit
  have lead : tl a = [48] ∨ (tl a).head? ≠ some 48 := by
    by_cases g : d.length = pl + 1
    · have : (tl a).length = 1 := by omega
      cases e : tl a with
      | nil => rw [e] at this; cases this
      | cons c l =>
        rw [e] at this
        have : l = [] := by
          cases l with
          | nil => rfl
          | cons x y => simp at this
        rw [this]
        by_cases c48 : c = 48
        · exact .inl (by rw [c48])
        · exact .inr (fun x => c48 (by injection x))
    · right
      have e0 : pl + 1 - (numL (absN fig)).length = 0 := by
        rw [dn, dl, List.length_append, List.length_replicate] at g d1
        omega
      rw [e0] at dl
      have dl' : tl d = numL (absN fig) := dl
      have n1 : 1 ≤ absN fig := by
        rcases Nat.eq_zero_or_pos (absN fig) with z | z
        · rw [z, numL_lt (by decide)] at dl'
          rw [dn, dl'] at g d1
          simp at g d1
          omega
        · exact z
      have hh := numL_head _ n1
      rw [t1, dl']
      cases e : numL (absN fig) with
      | nil => exact absurd e (numL_ne _)
      | cons c l =>
        rw [e] at hh
        obtain ⟨q', rfl⟩ : ∃ q', q = q' + 1 := ⟨q - 1, by omega⟩
        rw [List.take_succ_cons]
        exact hh
  have zero : fig = 0 → tl a = [48] := fun z => by
    have n0 : absN fig = 0 := by rw [z]; rfl
    rw [n0, numL_lt (by decide)] at dl
    have dln := congrArg List.length dl
    rw [List.length_append, List.length_replicate] at dln
    have : d.length = pl + 1 := by
      rw [dn, dln]
      show pl + 1 - 1 + 1 = _
      omega
    have q1 : q = 1 := by omega
    rw [t1, q1, dl]
    show ((List.replicate (pl + 1 - 1) 48) ++ [48]).take 1 = _
    cases pl with
    | zero => rfl
    | succ n => rfl
  have mk3 : tl (markM fig sg) = [] ∨ tl (markM fig sg) = [45] ∨ tl (markM fig sg) = [43] := by
    rw [tl_mark]
    split
    · exact .inr (.inl rfl)
    · split
      · exact .inr (.inr rfl)
      · exact .inl rfl
  have neg : tl (markM fig sg) = [45] ↔ fig < 0 := by
    rw [tl_mark]
    split
    · rename_i h
      exact ⟨fun _ => h, fun _ => rfl⟩
    · rename_i h
      refine ⟨fun x => ?_, fun x => (h x).elim⟩
      split at x
      · injection x with x
        omega
      · cases x
  have nil : fig = 0 → tl (markM fig sg) = [] := fun z => by
    rw [tl_mark, z]
    rfl
  have np : sg = false → tl (markM fig sg) ≠ [43] := fun z => by
    rw [tl_mark, z]
    split
    · decide
    · split
      · rename_i h
        exact absurd h.2 (by decide)
      · decide
  have fr : ∀ t : Str, tl (if 0 < pl then t ++ ("." : Str) ++ b else t) = tl t ++ fracL (tl b) := fun t => by
    by_cases g : 0 < pl
    · rw [if_pos g, tl_append, tl_append, tl_dot, List.append_assoc]
      cases e : tl b with
      | nil => rw [e] at bl; simp at bl; omega
      | cons c l => rfl
    · rw [if_neg g]
      cases e : tl b with
      | nil => exact (List.append_nil _).symm
      | cons c l => rw [e] at bl; simp at bl; omega
  have ml : (tl (markM fig sg)).length ≤ 1 := by
    rcases mk3 with h | h | h <;> rw [h] <;> decide
  have fl : (fracL (tl b)).length ≤ 61 := by
    rw [fracL_len, bl]
    split <;> omega
  obtain ⟨k, hk⟩ : ∃ k, k = wd.toNat - (markM fig sg ++ (if 0 < pl then (if gr = true then groupM a else a) ++ ("." : Str) ++ b else (if gr = true then groupM a else a))).length := ⟨_, rfl⟩
  have tz : tl (textM fig pl sg gr wd) = List.replicate k 32 ++ (tl (markM fig sg) ++ (tl (if gr = true then groupM a else a) ++ fracL (tl b))) := by
    rw [et, tl_rjust _ w0, ← hk, tl_append, fr]
  have kl : k ≤ 200 := by omega
  have k0 : wd = 0 → k = 0 := fun z => by
    rw [hk, z]
    show 0 - _ = 0
    exact Nat.zero_sub _
  cases gr with
  | false =>
    rw [if_neg (by decide)] at tz
    have zl : (textM fig pl sg false wd).length ≤ 1200 := by
      rw [len_tl, tz, List.length_append, List.length_replicate, List.length_append, List.length_append]
      omega
    refine ⟨k, tl (markM fig sg), tl a, [], tl b, ⟨⟨?_, mk3, aa, ?_, ?_, fun _ h => (by cases h), ab, by omega, by omega⟩, bl, ?_, neg, fun z => ⟨nil z, zero z⟩⟩, kl, k0, fun _ => rfl, zl, np⟩
    · rw [tz]
      rfl
    · intro x
      rw [x] at la
      simp at la
      omega
    · rcases lead with h | h
      · exact .inl ⟨h, rfl⟩
      · exact .inr ⟨h, .inr rfl⟩
    · rw [List.flatten_nil, List.append_nil]
      exact val
  | true =>
    rw [if_pos rfl, tl_group (by omega), List.append_assoc] at tz
    have hf : firstG a.length ≤ a.length := by
      unfold firstG
      omega
    have hf1 : 1 ≤ firstG a.length ∧ firstG a.length ≤ 3 := by
      unfold firstG
      omega
    have hm : firstG a.length + 3 * moreG a.length = a.length := by
      unfold moreG firstG
      omega
    have dlen : ((tl a).drop (firstG a.length)).length = 3 * moreG a.length := by
      rw [List.length_drop]
      omega
    have ad2 : AllDigits ((tl a).drop (firstG a.length)) := fun c hc => aa c (List.mem_of_mem_drop hc)
    have cm := chunk_mem (k := moreG a.length) (Nat.le_of_eq dlen.symm) ad2
    have cl : (chunks ((tl a).drop (firstG a.length)) (moreG a.length)).length = moreG a.length := by
      unfold chunks
      rw [List.length_map, List.length_range]
    have gl := grpL_len (chunks ((tl a).drop (firstG a.length)) (moreG a.length)) (fun g hg => (cm g hg).2)
    have fl2 : ((tl a).take (firstG a.length)).length = firstG a.length := by
      rw [List.length_take]
      omega
    have zl : (textM fig pl sg true wd).length ≤ 1200 := by
      rw [len_tl, tz, List.length_append, List.length_replicate, List.length_append, List.length_append, List.length_append, gl, cl, fl2]
      omega
    have hw : ((tl a).take (firstG a.length)).head? = (tl a).head? := by
      cases e : tl a with
      | nil => rfl
      | cons c l =>
        obtain ⟨f', hf'⟩ : ∃ f', firstG a.length = f' + 1 := ⟨firstG a.length - 1, by omega⟩
        rw [hf']
        rfl
    have tak : tl a = [48] → (tl a).take (firstG a.length) = [48] := fun z => by
      have : firstG a.length = 1 := by
        have : (tl a).length = 1 := by rw [z]; rfl
        omega
      rw [this, z]
      rfl
    refine ⟨k, tl (markM fig sg), (tl a).take (firstG a.length), chunks ((tl a).drop (firstG a.length)) (moreG a.length), tl b, ⟨⟨tz, mk3, fun c hc => aa c (List.mem_of_mem_take hc), ?_, ?_, cm, ab, by omega, by omega⟩, bl, ?_, neg, fun z => ⟨nil z, tak (zero z)⟩⟩, kl, k0, fun x => (by cases x), zl, np⟩
    · intro x
      rw [x] at fl2
      simp at fl2
      omega
    · rcases lead with h | h
      · refine .inl ⟨tak h, ?_⟩
        have : moreG a.length = 0 := by
          have : (tl a).length = 1 := by rw [h]; rfl
          omega
        rw [this]
        rfl
      · exact .inr ⟨by rw [hw]; exact h, .inl (by omega)⟩
    · rw [chunks_flat _ _ (Nat.le_of_eq dlen.symm), List.take_of_length_le (Nat.le_of_eq dlen), List.take_append_drop]
      exact val
end HT
namespace HT
open PySem L2 PySem.NumText TL
/-- what read_text tells of a text -/
def Reads (z : Str) (fig : Int) (pl : Nat) : Prop := ∃ (kk c p e c0 : Nat) (n : Int), ReadOk z kk c n p e c0 ∧ readFig n c0 = fig ∧ max 0 ((e : Int) - p - 1) = (pl : Int)
theorem shape_reads {z : Str} {k : Nat} {mk W : List Nat} {gs : List (List Nat)} {D : List Nat} (S : Shape z k mk W gs D) {fig : Int} {pl : Nat} (h : (if mk = [45] then -((digitsVal (W ++ gs.flatten ++ D) : Nat) : Int) else ((digitsVal (W ++ gs.flatten ++ D) : Nat) : Int)) = fig) (hp : D.length = pl) : Reads z fig pl := by
  obtain ⟨kk, c, p, e, c0, R, f, m⟩ := shape_read S
  exact ⟨kk, c, p, e, c0, _, R, (f _).trans h, by rw [m, hp]⟩
theorem TextOk.fig {z : Str} {fig : Int} {pl k : Nat} {mk W : List Nat} {gs : List (List Nat)} {D : List Nat} (T : TextOk z fig pl k mk W gs D) : (if mk = [45] then -((digitsVal (W ++ gs.flatten ++ D) : Nat) : Int) else ((digitsVal (W ++ gs.flatten ++ D) : Nat) : Int)) = fig := by
  rw [T.val]
  unfold absN
  by_cases g : fig < 0
  · rw [if_pos (T.neg.mpr g)]
    omega
  · rw [if_neg (fun x => g (T.neg.mp x))]
    omega
theorem text_reads {fig : Int} {pl : Nat} {sg gr : Bool} {wd : Int} (h0 : -10 ^ 62 < fig) (h1 : fig < 10 ^ 62) (hp : pl ≤ 60) (w0 : 0 ≤ wd) (w1 : wd ≤ 200) : Reads (textM fig pl sg gr wd) fig pl := by
  obtain ⟨k, mk, W, gs, D, T, _⟩ := text_ok (sg := sg) (gr := gr) h0 h1 hp w0 w1
  exact shape_reads T.sh T.fig T.dl
theorem tl_blank3 : tl ("   " : Str) = [32, 32, 32] := by
  show tl (Str.ofString "   ") = _
  rw [tl_ofString]
  rfl
theorem text_reads3 {fig : Int} {pl : Nat} {sg gr : Bool} {wd : Int} (h0 : -10 ^ 62 < fig) (h1 : fig < 10 ^ 62) (hp : pl ≤ 60) (w0 : 0 ≤ wd) (w1 : wd ≤ 200) : Reads (("   " : Str) ++ textM fig pl sg gr wd) fig pl := by
  obtain ⟨k, mk, W, gs, D, T, _, _, _, hl, _⟩ := text_ok (sg := sg) (gr := gr) h0 h1 hp w0 w1
  refine shape_reads (k := 3 + k) (mk := mk) (W := W) (gs := gs) (D := D) ⟨?_, T.sh.sg, T.sh.wd, T.sh.wn, T.sh.lead, T.sh.gd, T.sh.dd, T.sh.dl, ?_⟩ T.fig T.dl
  · rw [tl_append, tl_blank3, T.sh.eq, show 3 + k = k + 1 + 1 + 1 by omega]
    rfl
  · rw [len_tl, tl_append, tl_blank3, List.length_append, ← len_tl]
    have : [32, 32, 32].length = 3 := rfl
    omega
theorem nought_reads {pl : Nat} (hp : pl ≤ 60) : Reads (("-" : Str) ++ textM 0 pl false false 0) 0 pl := by
  obtain ⟨k, mk, W, gs, D, T, _, hk, _, hl, _⟩ := text_ok (fig := 0) (sg := false) (gr := false) (wd := 0) (by decide) (by decide) hp (by decide) (by decide)
  have hv : digitsVal (W ++ gs.flatten ++ D) = 0 := T.val
  have e := T.sh.eq
  rw [hk rfl, (T.nil rfl).1] at e
  refine shape_reads (k := 0) (mk := [45]) (W := W) (gs := gs) (D := D) ⟨?_, .inr (.inl rfl), T.sh.wd, T.sh.wn, T.sh.lead, T.sh.gd, T.sh.dd, T.sh.dl, ?_⟩ (by rw [hv]; rfl) T.dl
  · rw [tl_append, tl_minus, e]
    rfl
  · rw [len_tl, tl_append, tl_minus, List.length_append, ← len_tl]
    have : [45].length = 1 := rfl
    omega
theorem nought_first {pl : Nat} (hp : pl ≤ 60) : cutS (textM 0 pl true false 0) none (some 1) = ("0" : Str) := by
  obtain ⟨k, mk, W, gs, D, T, _, hk, _, hl, _⟩ := text_ok (fig := 0) (sg := true) (gr := false) (wd := 0) (by decide) (by decide) hp (by decide) (by decide)
  have e := T.sh.eq
  rw [hk rfl, (T.nil rfl).1, (T.nil rfl).2] at e
  refine ext_tl ?_
  rw [tl_zero, tl_pre _ (i := (1 : Int)) (n := 1) rfl (by rw [e]; simp), e]
  rfl
def isDg (c : Nat) : Bool := decide (48 ≤ c) && decide (c ≤ 57)
theorem adl {l : List Nat} (h : l.all isDg = true) : AllDigits l := fun c hc => by
  have := List.all_eq_true.mp h c hc
  unfold isDg at this
  rw [Bool.and_eq_true] at this
  exact ⟨of_decide_eq_true this.1, of_decide_eq_true this.2⟩
theorem dg_filter {l : List Nat} (h : AllDigits l) : l.filter isDg = l := by
  refine List.filter_eq_self.mpr (fun c hc => ?_)
  have := h c hc
  unfold isDg
  rw [decide_eq_true this.1, decide_eq_true this.2]
  rfl
def figOf (z : Str) : Int := if (tl z).head? = some 45 then -((digitsVal ((tl z).filter isDg) : Nat) : Int) else ((digitsVal ((tl z).filter isDg) : Nat) : Int)
theorem fig_back {fig : Int} {pl : Nat} (h0 : -10 ^ 62 < fig) (h1 : fig < 10 ^ 62) (hp : pl ≤ 60) : figOf (textM fig pl false false 0) = fig := by
  obtain ⟨k, mk, W, gs, D, T, _, hk, hg, hl, hm⟩ := text_ok (fig := fig) (sg := false) (gr := false) (wd := 0) h0 h1 hp (by decide) (by decide)
  have e := T.sh.eq
  have f := T.fig
  rw [hk rfl, hg rfl] at e
  rw [hg rfl, List.flatten_nil, List.append_nil] at f
  have ff : (fracL D).filter isDg = D := by
    have := dg_filter T.sh.dd
    cases D with
    | nil => rfl
    | cons c l =>
      show (46 :: c :: l).filter isDg = _
      rw [List.filter_cons_of_neg (by decide)]
      exact this
  have e2 : tl (textM fig pl false false 0) = mk ++ (W ++ fracL D) := e
  have e3 : (W ++ fracL D).filter isDg = W ++ D := by rw [List.filter_append, ff, dg_filter T.sh.wd]
  unfold figOf
  rw [e2]
  rcases T.sh.sg with g | g | g
  · have hh : ¬ (W ++ fracL D).head? = some 45 := fun x => by
      have wn := T.sh.wn
      have wd := T.sh.wd
      cases W with
      | nil => exact wn rfl
      | cons c l =>
        injection x with x
        have := wd c (List.mem_cons_self ..)
        omega
    rw [g, List.nil_append, if_neg hh, e3]
    rw [g, if_neg (by simp)] at f
    exact f
  · rw [g]
    rw [g, if_pos rfl] at f
    have e4 : ([45] ++ (W ++ fracL D)).filter isDg = W ++ D := by
      rw [show [45] ++ (W ++ fracL D) = 45 :: (W ++ fracL D) from rfl, List.filter_cons_of_neg (by decide), e3]
    rw [e4]
    exact f
  · exact (hm rfl g).elim
theorem text_inj {fig oth : Int} {pl : Nat} (h0 : -10 ^ 62 < fig) (h1 : fig < 10 ^ 62) (g0 : -10 ^ 62 < oth) (g1 : oth < 10 ^ 62) (hp : pl ≤ 60) : decide (textM fig pl false false 0 = textM oth pl false false 0) = decide (fig = oth) := by
  by_cases h : fig = oth
  · rw [h, decide_eq_true rfl, decide_eq_true rfl]
  · rw [decide_eq_false h, decide_eq_false (fun x => h ?_)]
    rw [← fig_back h0 h1 hp, x, fig_back g0 g1 hp]
/-! ### the law's own texts -/
theorem foldl_app (c : Nat) : ∀ (n : Nat) (a : Array Nat), ((List.replicate n #[c]).foldl (· ++ ·) a).toList = a.toList ++ List.replicate n c
  | 0, a => by simp
  | n + 1, a => by
    rw [List.replicate_succ, List.foldl_cons, foldl_app c n, Array.toList_append, List.append_assoc]
    rfl
theorem tl_mul {z : Str} {c : Nat} (h : tl z = [c]) {n : Nat} (h2 : 2 ≤ n) : tl (Txt.mul z (n : Int)) = List.replicate n c := by
  have hz : z.length = 1 := by rw [len_tl, h]; rfl
  have hc : z.cps = #[c] := Array.toList_inj.mp h
  unfold Txt.mul
  rw [if_neg (by omega), if_neg (by rw [hz]; simp; omega), Int.toNat_natCast, hc]
  show ((List.replicate n #[c]).foldl (· ++ ·) #[]).toList = _
  rw [foldl_app]
  rfl
theorem tl_nine : tl ("9" : Str) = [57] := by
  show tl (Str.ofString "9") = _
  rw [tl_ofString]
  rfl
theorem tl_one : tl ("1" : Str) = [49] := by
  show tl (Str.ofString "1") = _
  rw [tl_ofString]
  rfl
theorem tl_half : tl (".5" : Str) = [46, 53] := by
  show tl (Str.ofString ".5") = _
  rw [tl_ofString]
  rfl
theorem rep_digits {n c : Nat} (h : 48 ≤ c ∧ c ≤ 57) : AllDigits (List.replicate n c) := fun d hd => by
  rw [(List.mem_replicate.mp hd).2]
  exact h
theorem nines_reads : Reads (Txt.mul ("9" : Str) 1900) (((10 : Int) ^ (50 : Int).toNat) ^ (38 : Int).toNat - 1) 0 := by
  have e := tl_mul tl_nine (n := 1900) (by decide)
  refine shape_reads (k := 0) (mk := []) (W := List.replicate 1900 57) (gs := []) (D := []) ⟨?_, .inl rfl, rep_digits (by decide), ?_, .inr ⟨?_, .inr rfl⟩, fun _ h => (by cases h), fun _ h => (by cases h), by decide, ?_⟩ (by decide +kernel) rfl
  · rw [show (1900 : Int) = ((1900 : Nat) : Int) from rfl, e]
    exact (List.append_nil _).symm
  · intro x
    have := congrArg List.length x
    rw [List.length_replicate] at this
    cases this
  · rw [List.head?_replicate]
    decide
  · rw [show (1900 : Int) = ((1900 : Nat) : Int) from rfl, len_tl, e, List.length_replicate]
    decide
theorem long_reads : Reads (("1" : Str) ++ Txt.mul ("0" : Str) 300 ++ (".5" : Str)) (((10 : Int) ^ (50 : Int).toNat) ^ (6 : Int).toNat * 10 + 5) 1 := by
  have e := tl_mul tl_zero (n := 300) (by decide)
  have e2 : tl (("1" : Str) ++ Txt.mul ("0" : Str) 300 ++ (".5" : Str)) = [49] ++ List.replicate 300 48 ++ [46, 53] := by
    rw [tl_append, tl_append, tl_one, tl_half, show (300 : Int) = ((300 : Nat) : Int) from rfl, e]
  refine shape_reads (k := 0) (mk := []) (W := [49] ++ List.replicate 300 48) (gs := []) (D := [53]) ⟨?_, .inl rfl, AllDg.append (fun c h => (by rw [List.mem_singleton.mp h]; decide)) (rep_digits (by decide)), ?_, .inr ⟨?_, .inr rfl⟩, fun _ h => (by cases h), fun c h => (by rw [List.mem_singleton.mp h]; decide), by decide, ?_⟩ (by decide +kernel) rfl
  · rw [e2]
    rfl
  · intro x
    cases x
  · intro x
    injection x with x
    cases x
  · rw [len_tl, e2, List.length_append, List.length_append, List.length_replicate]
    decide
theorem tl_group3 : tl ("+1,000.50" : Str) = [43, 49, 44, 48, 48, 48, 46, 53, 48] := by
  show tl (Str.ofString "+1,000.50") = _
  rw [tl_ofString]
  rfl
theorem tl_twelve : tl ("  12" : Str) = [32, 32, 49, 50] := by
  show tl (Str.ofString "  12") = _
  rw [tl_ofString]
  rfl
theorem group_reads : Reads ("+1,000.50" : Str) 100050 2 := by
  refine shape_reads (k := 0) (mk := [43]) (W := [49]) (gs := [[48, 48, 48]]) (D := [53, 48]) ⟨?_, .inr (.inr rfl), adl (by decide), by decide, .inr ⟨by decide, .inl (by decide)⟩, fun g hg => (by rw [List.mem_singleton.mp hg]; exact ⟨adl (by decide), rfl⟩), adl (by decide), by decide, ?_⟩ (by decide) rfl
  · rw [tl_group3]
    rfl
  · rw [len_tl, tl_group3]
    decide
theorem twelve_reads : Reads ("  12" : Str) 12 0 := by
  refine shape_reads (k := 2) (mk := []) (W := [49, 50]) (gs := []) (D := []) ⟨?_, .inl rfl, adl (by decide), by decide, .inr ⟨by decide, .inl (by decide)⟩, fun g hg => (by cases hg), adl (by decide), by decide, ?_⟩ (by decide) rfl
  · rw [tl_twelve]
    rfl
  · rw [len_tl, tl_twelve]
    decide
end HT
namespace HT
open PySem L2 CwR
theorem op_mulS {X : Cx} : OpR X (binaryOp .Mult) (fun x y H Q => ∃ a n, x = .str a ∧ y = .int n ∧ PySem.MulOk a n ∧ Q (.str (Txt.mul a n)) H) := by
  intro pins s σ H x y v u Q I rx ry h
  obtain ⟨a, n, rfl, rfl, hm, q⟩ := h
  obtain ⟨t, rfl⟩ := rx
  obtain ⟨t2, rfl⟩ := ry
  exact PySem.SB.mul hm fun t' k => ⟨.str (Txt.mul a n), H, I.tok k, ⟨t', rfl⟩, q⟩
abbrev psT : List Str := ["figure", "places", "sign", "group", "width"]
/-- text_of, and its call -/
structure TxC (P : Program) (w : World) (K : PySem.W.Frag) (mg : Str → Option Value) (base : Heap) (f : Addr) (fd : FuncData) : Prop where
  D : FunD K "text_of" "text_of" (defArgs s_text_of) (defBody s_text_of) (defScope s_text_of) [] [("sign", .bl false), ("group", .bl false), ("width", .int 0)] f fd
  ok : FnOk P w K mg base CX0 4 f fd psT spText
  gl : mg "text_of" = some (.ref f)
  kp : PySem.W.keepIn K (.ref f) = true
section
variable {X : Cx} {j : Nat} {f : Addr} {fd : FuncData} {e : Expr} {es : List Expr} {kws : List Keyword} {t tk : TA} {p pos : Pos}
theorem pcT2 (C : TxC X.prog X.w X.K X.mg X.base f fd) (hr : Room j X.A) (hj : 4 ≤ j) (hg : Gl X "text_of") (ha : PA X (e :: es) t)
    (he : starEach (e :: es) X.env = (false, eval e X.env) :: starEach es X.env := by rfl) (hpl : (backTo pos (starEach es X.env)).any (·.1) = false := by rfl) : PE X (.Call (.Name "text_of" p) (e :: es) [] pos) (tCall spText [.bl false, .bl false, .int 0] E0 t) := by
  obtain ⟨ds, hd, hb⟩ := C.D.binds0 (ps := psT) 2 (by simp) rfl fun D doc pm an cdv ct us ks hu hk => match us, hu, ks, hk with
    | [_, _], _, [_, _, _], _ => ⟨_, _, _, _, _, _, rfl, rfl, _, _, _, _, _, _, rfl, rfl, _, _, _, _, _, _, rfl, rfl, rfl⟩
  exact pe_call C.ok (hr.mono hj) hg C.gl C.kp hb hd pass0 ha (by decide) he hpl
theorem pcT3 (C : TxC X.prog X.w X.K X.mg X.base f fd) (hr : Room j X.A) (hj : 4 ≤ j) (hg : Gl X "text_of") (ha : PA X (e :: es) t) (hkw : PK X kws tk) (hall : (backToKw pos (keywordEach kws X.env)).all (·.1.isSome) = true := by rfl) (hks : (backToKw pos (keywordEach kws X.env)).filterMap (·.1) = (["sign", "group", "width"] : List Str) := by rfl)
    (he : starEach (e :: es) X.env = (false, eval e X.env) :: starEach es X.env := by rfl) (hpl : ((backTo pos (starEach (e :: es) X.env)).any (·.1) || (backToKw pos (keywordEach kws X.env)).any (·.1.isNone)) = false := by rfl) :
    PE X (.Call (.Name "text_of" p) (e :: es) kws pos) (tCallN 2 3 spText (fun vs zs => vs ++ zs) E0 t tk) := by
  obtain ⟨mv, hb⟩ := C.D.kbinds0 (ps := psT) 2 ["sign", "group", "width"] [] (fun a _ z => a ++ z) (by simp) (fun _ h => by cases h) (fun a _ c => a.append c) fun D doc pm an cdv ct us mv ws hu hm hw => match us, hu, mv, hm, ws, hw with
    | [_, _], _, [], _, [_, _, _], _ => rfl
  exact pe_callN C.ok (hr.mono hj) hg C.gl C.kp hb pass0 ha hkw hall hks (by decide) he hpl
theorem pcT1 (C : TxC X.prog X.w X.K X.mg X.base f fd) (hr : Room j X.A) (hj : 4 ≤ j) (hg : Gl X "text_of") (ha : PA X (e :: es) t) (hkw : PK X kws tk) (hall : (backToKw pos (keywordEach kws X.env)).all (·.1.isSome) = true := by rfl) (hks : (backToKw pos (keywordEach kws X.env)).filterMap (·.1) = (["sign"] : List Str) := by rfl)
    (he : starEach (e :: es) X.env = (false, eval e X.env) :: starEach es X.env := by rfl) (hpl : ((backTo pos (starEach (e :: es) X.env)).any (·.1) || (backToKw pos (keywordEach kws X.env)).any (·.1.isNone)) = false := by rfl) :
    PE X (.Call (.Name "text_of" p) (e :: es) kws pos) (tCallN 2 1 spText (fun vs zs => vs ++ zs ++ [.bl false, .int 0]) E0 t tk) := by
  obtain ⟨mv, hb⟩ := C.D.kbinds0 (ps := psT) 2 ["sign"] [("group", .bl false), ("width", .int 0)] (fun a m z => a ++ z ++ m) (by simp) (fun q h => List.mem_cons_of_mem _ h) (fun a b c => (a.append c).append b) fun D doc pm an cdv ct us mv ws hu hm hw => match us, hu, mv, hm, ws, hw with
    | [_, _], _, [_, _], _, [_], _ => ⟨_, _, _, _, _, _, rfl, rfl, _, _, _, _, _, _, rfl, rfl, rfl⟩
  exact pe_callN C.ok (hr.mono hj) hg C.gl C.kp hb pass0 ha hkw hall hks (by decide) he hpl
end
end HT
namespace HT
open PySem L2
def spGreat : Sp := fun vs H Q _ => ∃ (a c : Addr) (t n : Nat), vs = [.ref a, .int (n : Int)] ∧ Src H a c t ∧ n ≤ 1000 ∧ t + n < 2 ^ 30 ∧
  ∀ k H', 0 ≤ k → k < 10 ^ n → Src H' a c (t + n) → Oth a c H H' → Q (.int k) H'
section
variable {P : Program} {w : World} {K : PySem.W.Frag} {mg : Str → Option Value} {base : Heap} {fD fP fG : Addr} {dD dP dG : FuncData}
theorem ok_great {f : Addr} {fd : FuncData} (F : Fun K "_law_great" "_law_great" s_L_great f fd) (B : Blt mg) (D : Cal P w K mg base "_law_draw" 1 ["_law_source_here", "_law_limit"] spDraw fD dD) :
    FnOk P w K mg base CX0 2 f fd ["_law_source_here", "_law_digits"] spGreat := by
  refine F.ok sc_L_great (fun vs H Q E h => ?_) (fun cdv A outer s H vs Q E hr h => ?_)
  · obtain ⟨a, c, t, n, rfl, _⟩ := h
    rfl
  · obtain ⟨a, c, t, n, rfl, S, hn, ht, q⟩ := h
    have nd := sc_L_great.nd
    refine ⟨_, pss_cons (ps_set (i := 2) nd rfl (Or.inl rfl) pe_int)
      (pss_cons (ps_for PassesOwn.never rfl (pi_range1 (by rfl) B.range (pa_cons (pv 1) pa_nil)) (pg_name (i := 3) nd rfl (Or.inl rfl))
        (pss_one (ps_set (i := 2) nd rfl (Or.inl rfl) (pe_op op_add (pe_op op_mul (pv 2) pe_int) (pcl D hr (by decide) (by rfl) (pa_cons (pv 0) (pa_cons pe_int pa_nil)))))))
      (pss_one (ps_ret (pv 2)))), ?_⟩
    walk_at "rd"
    refine ⟨by omega, by omega, ?_⟩
    rw [Int.toNat_natCast]
    refine for_range (fun i σ H' => ∃ (k : Int) (kv : Option V), σ = [some (.ref a), some (.int (n : Int)), some (.int k), kv] ∧ 0 ≤ k ∧ k < 10 ^ i ∧ Src H' a c (t + i) ∧ Oth a c H H') ⟨0, none, rfl, by decide, by decide, S, Oth.refl _ _ _⟩ ?_ ?_
    · rintro i σ H' hi ⟨k, kv, rfl, k0, k1, S', O⟩
      walk_at "rd"
      refine ⟨.inr ⟨by decide, by decide⟩, ?_⟩
      walk_at "rd"
      refine ⟨a, c, t + i, _, rfl, S', by omega, (by show (0 : Int) < 10; decide), (by show (10 : Int).natAbs.log2 < 9000; decide), fun y H2 y0 y1 S2 O2 => ?_⟩
      walk_at "rd"
      have y1' : y < 10 := y1
      refine ⟨_, _, rfl, (by show 0 ≤ k * 10 + y; omega), (by show k * 10 + y < 10 ^ (i + 1); rw [Int.pow_succ]; omega), S2, O.trans O2⟩
    · rintro σ H' ⟨k, kv, rfl, k0, k1, S', O⟩
      walk_at "rd"
      exact q _ _ k0 k1 S' O
end
end HT
namespace HT
open PySem L2 CwR
theorem rd_use {z : Str} {fig : Int} {pl : Nat} {H : Hp} {Q : VK} {E : XK} (R : Reads z fig pl) (q : ∀ (q' : Addr) (H' : Hp), Same H H' → H' q' = some (.tup [.int fig, .int (pl : Int)]) → Q (.ref q') H') : spRead [.str z] H Q E := by
  obtain ⟨kk, c, p, e, c0, n, ok, f, m⟩ := R
  refine ⟨z, kk, c, n, p, e, c0, rfl, ok, fun q' H' s h => q q' H' s ?_⟩
  rw [h, f, m]
/-- a text of the figure -/
def IsText (fig : Int) (pl : Nat) (z : Str) : Prop := ∃ (sg gr : Bool) (wd : Int), 0 ≤ wd ∧ wd ≤ 200 ∧ z = textM fig pl sg gr wd
def spStyles : Sp := fun vs H Q _ => ∃ (fig : Int) (pl : Nat), vs = [.int fig, .int (pl : Int)] ∧ -10 ^ 62 < fig ∧ fig < 10 ^ 62 ∧ pl ≤ 60 ∧ ∀ (l : Addr) (H' : Hp) (zs : List Str), H l = none → Same H H' → H' l = some (.lst (zs.map V.str)) → zs.length ≤ 12 → (∀ z ∈ zs, IsText fig pl z) → Q (.ref l) H'
theorem getB {i : Nat} {x : V} (h : ([true, false].map V.bl)[i]? = some x) : ∃ b, x = V.bl b := by
  rw [List.getElem?_map] at h
  cases e : [true, false][i]? with
  | none =>
    rw [e] at h
    cases h
  | some z =>
    rw [e] at h
    exact ⟨z, (Option.some.inj h).symm⟩
theorem getL {i : Nat} {x : V} (h : ([true, false].map V.bl)[i]? = some x) : i < 2 := (List.getElem?_eq_some_iff.mp h).1
theorem getL3 {i : Nat} {x : V} (h : ([(0 : Int), 8, 130].map V.int)[i]? = some x) : i < 3 := (List.getElem?_eq_some_iff.mp h).1
theorem getW {i : Nat} {x : V} (h : ([(0 : Int), 8, 130].map V.int)[i]? = some x) : ∃ b : Int, x = V.int b ∧ 0 ≤ b ∧ b ≤ 200 := by
  have hm := List.mem_of_getElem? h
  obtain ⟨z, hz, rfl⟩ := List.mem_map.mp hm
  simp only [List.mem_cons, List.not_mem_nil, or_false] at hz
  exact ⟨z, rfl, by omega, by omega⟩
section
variable {P : Program} {w : World} {K : PySem.W.Frag} {mg : Str → Option Value} {base : Heap} {f1 : Addr} {d1 : FuncData}
theorem ok_styles {f : Addr} {fd : FuncData} (F : Fun K "_law_styles" "_law_styles" s_L_styles f fd) (Tx : TxC P w K mg base f1 d1) : FnOk P w K mg base CX0 5 f fd ["_law_figure", "_law_places"] spStyles := by
  refine F.ok sc_L_styles (fun vs H Q E h => ?_) (fun cdv A outer s H vs Q E hr h => ?_)
  · obtain ⟨fig, pl, rfl, _⟩ := h
    rfl
  · obtain ⟨fig, pl, rfl, f0, f1, p1, q⟩ := h
    have nd := sc_L_styles.nd
    refine ⟨_, (pss_cons (ps_set (i := 2) nd rfl (Or.inl rfl) (pe_lst pa_nil))
      (pss_cons (ps_for PassesOwn.never rfl (pi_list (pe_lst (pa_cons pe_bl (pa_cons pe_bl pa_nil)))) (pg_name (i := 3) nd rfl (Or.inl rfl)) (pss_one (ps_for PassesOwn.never rfl (pi_list (pe_lst (pa_cons pe_bl (pa_cons pe_bl pa_nil)))) (pg_name (i := 4) nd rfl (Or.inl rfl)) (pss_one (ps_for PassesOwn.never rfl (pi_list (pe_lst (pa_cons pe_int (pa_cons pe_int (pa_cons pe_int pa_nil))))) (pg_name (i := 5) nd rfl (Or.inl rfl)) (pss_one (ps_expr (pe_bm PySem.F.plainAttrs_list PySem.F.slot_list_append PySem.F.type_list_append mt_append (pv 2) (pa_cons (pcT3 Tx hr (by decide) (by rfl) (pa_cons (pv 0) (pa_cons (pv 1) pa_nil)) (pk_cons (pv 3) (pk_cons (pv 4) (pk_cons (pv 5) pk_nil)))) pa_nil)))))))))
      (pss_one (ps_ret (pv 2))))), ?_⟩
    walk_at "rd"
    refine ⟨(by show 0 ≤ sizeLine; decide), fun p np => ?_⟩
    have hp0 : upd H p (.lst []) p = some (.lst (([] : List Str).map V.str)) := upd_same
    have sm0 : Same H (upd H p (.lst [])) := fun b u z => (upd_ne (ne_of_none z np)).trans z
    generalize upd H p (.lst []) = H0 at hp0 sm0
    walk_at "rd"
    refine ⟨(by show 2 ≤ sizeLine; decide), fun l1 nl1 => ?_⟩
    refine ⟨l1, rfl, ⟨_, SqL.of upd_same⟩, ?_⟩
    have n1 : l1 ≠ p := fun x => by rw [x, hp0] at nl1; cases nl1
    refine for_list (K := K) (a := l1) (xs := [true, false].map V.bl) (fun i σ H1 => ∃ (x3 x4 x5 : Option V) (zs : List Str), σ = [some (.int fig), some (.int (pl : Int)), some (.ref p), x3, x4, x5] ∧ H1 l1 = some (.lst ([true, false].map V.bl)) ∧ H1 p = some (.lst (zs.map V.str)) ∧ zs.length = 6 * i ∧ (∀ z ∈ zs, IsText fig pl z) ∧ Same H H1)
      ⟨none, none, none, [], rfl, upd_same, (upd_ne (fun x => n1 x.symm)).trans hp0, rfl, (fun _ h => by cases h), fun b u z => (upd_ne (ne_of_none (sm0 _ _ z) nl1)).trans (sm0 _ _ z)⟩ (fun _ _ _ _ ⟨_, _, _, _, _, z, _⟩ => SqL.of z) ?_ ?_
    · rintro i x σ H1 hx ⟨x3, x4, x5, zs, rfl, hl1, hp, zl, za, sm⟩
      obtain ⟨sg, rfl⟩ := getB hx
      walk_at "rd"
      refine ⟨(by show 2 ≤ sizeLine; decide), fun l2 nl2 => ?_⟩
      refine ⟨l2, rfl, ⟨_, SqL.of upd_same⟩, ?_⟩
      have n2 : l2 ≠ p := fun x => by rw [x, hp] at nl2; cases nl2
      have n21 : l2 ≠ l1 := fun x => by rw [x, hl1] at nl2; cases nl2
      refine for_list (K := K) (a := l2) (xs := [true, false].map V.bl) (fun j σ H2 => ∃ (x4 x5 : Option V) (zs : List Str), σ = [some (.int fig), some (.int (pl : Int)), some (.ref p), some (.bl sg), x4, x5] ∧ H2 l2 = some (.lst ([true, false].map V.bl)) ∧ H2 l1 = some (.lst ([true, false].map V.bl)) ∧ H2 p = some (.lst (zs.map V.str)) ∧ zs.length = 6 * i + 3 * j ∧ (∀ z ∈ zs, IsText fig pl z) ∧ Same H H2)
        ⟨x4, x5, zs, rfl, upd_same, (upd_ne (fun x => n21 x.symm)).trans hl1, (upd_ne (fun x => n2 x.symm)).trans hp, by omega, za, fun b u z => (upd_ne (ne_of_none (sm _ _ z) nl2)).trans (sm _ _ z)⟩ (fun _ _ _ _ ⟨_, _, _, _, z, _⟩ => SqL.of z) ?_ ?_
      · rintro j x σ H2 hx2 ⟨x4, x5, zs, rfl, hl2, hl1, hp, zl, za, sm⟩
        obtain ⟨gr, rfl⟩ := getB hx2
        walk_at "rd"
        refine ⟨(by show 3 ≤ sizeLine; decide), fun l3 nl3 => ?_⟩
        refine ⟨l3, rfl, ⟨_, SqL.of upd_same⟩, ?_⟩
        have n3 : l3 ≠ p := fun x => by rw [x, hp] at nl3; cases nl3
        have n31 : l3 ≠ l1 := fun x => by rw [x, hl1] at nl3; cases nl3
        have n32 : l3 ≠ l2 := fun x => by rw [x, hl2] at nl3; cases nl3
        refine for_list (K := K) (a := l3) (xs := [(0 : Int), 8, 130].map V.int) (fun k σ H3 => ∃ (x5 : Option V) (zs : List Str), σ = [some (.int fig), some (.int (pl : Int)), some (.ref p), some (.bl sg), some (.bl gr), x5] ∧ H3 l3 = some (.lst ([(0 : Int), 8, 130].map V.int)) ∧ H3 l2 = some (.lst ([true, false].map V.bl)) ∧ H3 l1 = some (.lst ([true, false].map V.bl)) ∧ H3 p = some (.lst (zs.map V.str)) ∧ zs.length = 6 * i + 3 * j + k ∧ (∀ z ∈ zs, IsText fig pl z) ∧ Same H H3)
          ⟨x5, zs, rfl, upd_same, (upd_ne (fun x => n32 x.symm)).trans hl2, (upd_ne (fun x => n31 x.symm)).trans hl1, (upd_ne (fun x => n3 x.symm)).trans hp, by omega, za, fun b u z => (upd_ne (ne_of_none (sm _ _ z) nl3)).trans (sm _ _ z)⟩ (fun _ _ _ _ ⟨_, _, _, z, _⟩ => SqL.of z) ?_ ?_
        · rintro k x σ H3 hx3 ⟨x5, zs, rfl, hl3, hl2, hl1, hp, zl, za, sm⟩
          obtain ⟨wd, rfl, w0, w1⟩ := getW hx3
          have il := getL hx
          have jl := getL hx2
          have kl := getL3 hx3
          walk_at "rd"
          refine ⟨.inl ⟨rfl, _, SqL.of hp⟩, ?_⟩
          walk_at "rd"
          refine ⟨rfl, rfl, fig, pl, sg, gr, wd, rfl, f0, f1, p1, w0, w1, fun H4 m4 => ?_⟩
          have hp4 := m4 _ _ hp
          walk_at "rd"
          refine ⟨p, _, _, rfl, rfl, hp4, (by rw [List.length_map, zl]; exact Nat.lt_of_le_of_lt (show 6 * i + 3 * j + k ≤ 100 by omega) (by decide)), ?_⟩
          refine ⟨_, zs ++ [textM fig pl sg gr wd], rfl, (upd_ne n3).trans (m4 _ _ hl3), (upd_ne n2).trans (m4 _ _ hl2), (upd_ne n1).trans (m4 _ _ hl1), ?_, ?_, ?_, ?_⟩
          · rw [upd_same, List.map_append]
            rfl
          · rw [List.length_append, zl]
            rfl
          · intro z hz
            rcases List.mem_append.mp hz with hz | hz
            · exact za z hz
            · rw [List.mem_singleton.mp hz]
              exact ⟨sg, gr, wd, w0, w1, rfl⟩
          · exact fun b u z => (upd_ne (ne_of_none z np)).trans (m4 _ _ (sm _ _ z))
        · rintro σ H3 ⟨x5, zs, rfl, hl3, hl2, hl1, hp, zl, za, sm⟩
          exact ⟨_, _, zs, rfl, hl2, hl1, hp, (by rw [zl]; show 6 * i + 3 * j + 3 = _; omega), za, sm⟩
      · rintro σ H2 ⟨x4, x5, zs, rfl, hl2, hl1, hp, zl, za, sm⟩
        exact ⟨_, _, _, zs, rfl, hl1, hp, (by rw [zl]; show 6 * i + 3 * 2 = _; omega), za, sm⟩
    · rintro σ H1 ⟨x3, x4, x5, zs, rfl, hl1, hp, zl, za, sm⟩
      walk_at "rd"
      exact q p H1 zs np sm hp (by rw [zl]; decide) za
end
end HT
namespace HT
open PySem L2 CwR
/-- law's: a list of at most 63 ints is handed in, True comes out -/
def spLaw (K : PySem.W.Frag) : Sp := fun vs H Q _ => ∃ (l : Addr) (ns : List Int), vs = [.ref l] ∧ SqL K H l (ns.map V.int) ∧ ns.length ≤ 63 ∧ ∀ H', Q (.bl true) H'
theorem sg2_of {x : V} (h : x ∈ [V.int 1, .int (-1)]) : ∃ j : Int, x = .int j ∧ (j = 1 ∨ j = -1) := by
  simp only [List.mem_cons, List.not_mem_nil, or_false] at h
  rcases h with h | h
  · exact ⟨_, h, .inl rfl⟩
  · exact ⟨_, h, .inr rfl⟩
theorem dg_of {x : V} (h : x ∈ [V.int 1, .int 2, .int 3, .int 4, .int 5, .int 7, .int 30, .int 60]) : ∃ n : Nat, x = .int (n : Int) ∧ n ≤ 60 := by
  simp only [List.mem_cons, List.not_mem_nil, or_false] at h
  rcases h with h | h | h | h | h | h | h | h
  · exact ⟨1, h, by decide⟩
  · exact ⟨2, h, by decide⟩
  · exact ⟨3, h, by decide⟩
  · exact ⟨4, h, by decide⟩
  · exact ⟨5, h, by decide⟩
  · exact ⟨7, h, by decide⟩
  · exact ⟨30, h, by decide⟩
  · exact ⟨60, h, by decide⟩
theorem pl_of {x : V} (h : x ∈ [V.int 0, .int 0, .int 1, .int 2, .int 3, .int 6, .int 59, .int 60]) : ∃ n : Nat, x = .int (n : Int) ∧ n ≤ 60 := by
  simp only [List.mem_cons, List.not_mem_nil, or_false] at h
  rcases h with h | h | h | h | h | h | h | h
  · exact ⟨0, h, by decide⟩
  · exact ⟨0, h, by decide⟩
  · exact ⟨1, h, by decide⟩
  · exact ⟨2, h, by decide⟩
  · exact ⟨3, h, by decide⟩
  · exact ⟨6, h, by decide⟩
  · exact ⟨59, h, by decide⟩
  · exact ⟨60, h, by decide⟩
theorem oth_of {f : Int} {x : V} (h : x ∈ [V.int f, .int (f + 1), .int (-f), .int (f * 10), .int (f - 1)]) (h0 : -10 ^ 60 < f) (h1 : f < 10 ^ 60) : ∃ o : Int, x = .int o ∧ -10 ^ 62 < o ∧ o < 10 ^ 62 := by
  simp only [List.mem_cons, List.not_mem_nil, or_false] at h
  rcases h with h | h | h | h | h <;> exact ⟨_, h, by omega, by omega⟩
theorem pow10_le {n : Nat} (h : n ≤ 60) : (10 : Int) ^ n ≤ 10 ^ 60 := by
  have : (10 : Nat) ^ n ≤ 10 ^ 60 := Nat.pow_le_pow_right (by decide) h
  exact_mod_cast this
theorem nine_ok : PySem.MulOk ("9" : Str) 1900 := by
  have h : ("9" : Str).length = 1 := by decide +kernel
  refine ⟨by decide, fun _ _ => ?_, fun _ _ => ?_⟩
  · rw [h]; decide
  · rw [h]; decide +kernel
theorem zero_ok : PySem.MulOk ("0" : Str) 300 := by
  have h : ("0" : Str).length = 1 := by decide +kernel
  refine ⟨by decide, fun _ _ => ?_, fun _ _ => ?_⟩
  · rw [h]; decide
  · rw [h]; decide +kernel
theorem sz1 : ("1" : Str).length + (Txt.mul ("0" : Str) 300).length ≤ sizeLine := by
  rw [TL.len_tl, TL.len_tl, tl_one, show (300 : Int) = ((300 : Nat) : Int) from rfl, tl_mul tl_zero (by decide), List.length_replicate]
  exact Nat.le_trans (show 301 ≤ 5000 by decide) (by decide)
theorem sz2 : (("1" : Str) ++ Txt.mul ("0" : Str) 300).length + (".5" : Str).length ≤ sizeLine := by
  rw [TL.len_tl, TL.len_tl, TL.tl_append, tl_one, tl_half, show (300 : Int) = ((300 : Nat) : Int) from rfl, tl_mul tl_zero (by decide), List.length_append, List.length_replicate]
  exact Nat.le_trans (show 303 ≤ 5000 by decide) (by decide)
theorem three_ok {fig : Int} {pl : Nat} {sg gr : Bool} {wd : Int} (h0 : -10 ^ 62 < fig) (h1 : fig < 10 ^ 62) (hp : pl ≤ 60) (w0 : 0 ≤ wd) (w1 : wd ≤ 200) : ("   " : Str).length + (textM fig pl sg gr wd).length ≤ sizeLine := by
  obtain ⟨k, mk, W, gs, D, T, _, _, _, hl, _⟩ := text_ok (sg := sg) (gr := gr) h0 h1 hp w0 w1
  have e : ("   " : Str).length = 3 := by rw [TL.len_tl, tl_blank3]; rfl
  rw [e]
  exact Nat.le_trans (show _ ≤ 1203 by omega) (by decide)
theorem minus_ok {pl : Nat} (hp : pl ≤ 60) : ("-" : Str).length + (textM 0 pl false false 0).length ≤ sizeLine := by
  obtain ⟨k, mk, W, gs, D, T, _, _, _, hl, _⟩ := text_ok (fig := 0) (sg := false) (gr := false) (wd := 0) (by decide) (by decide) hp (by decide) (by decide)
  have e : ("-" : Str).length = 1 := by rw [TL.len_tl, tl_minus]; rfl
  rw [e]
  exact Nat.le_trans (show _ ≤ 1203 by omega) (by decide)
theorem nought_ok {pl : Nat} (hp : pl ≤ 60) : (textM 0 pl true false 0).length ≤ sizeLine := by
  obtain ⟨k, mk, W, gs, D, T, _, _, _, hl, _⟩ := text_ok (fig := 0) (sg := true) (gr := false) (wd := 0) (by decide) (by decide) hp (by decide) (by decide)
  exact Nat.le_trans hl (by decide)
theorem pow38 : CPowW ((10 : Int) ^ (50 : Int).toNat) 38 := ⟨by decide, by decide +kernel⟩
theorem pow6 : CPowW ((10 : Int) ^ (50 : Int).toNat) 6 := ⟨by decide, by decide +kernel⟩
theorem eq2 {K : PySem.W.Frag} {H : Hp} {p q : Addr} {a b : Int} (hp : H p = some (.tup [.int a, .int b])) (hq : H q = some (.tup [.int a, .int b])) : ∃ d e, Dp K H (.ref p) d ∧ Dp K H (.ref q) e ∧ SeqAt.shaped d = true ∧ SeqAt.shaped e = true ∧ PyData.eqv d e = true :=
  ⟨.tuple [.int a, .int b], .tuple [.int a, .int b], .tup (SqT.of hp) (.cons (.int _) (.cons (.int _) .nil)), .tup (SqT.of hq) (.cons (.int _) (.cons (.int _) .nil)), rfl, rfl, SeqAt.eqv_refl _ rfl⟩
section
variable {P : Program} {w : World} {K : PySem.W.Frag} {mg : Str → Option Value} {base : Heap} {f0 f1 f2 f3 f4 f5 f6 : Addr} {d0 d1 d2 d3 d4 d5 d6 : FuncData}
theorem ok_law {f : Addr} {fd : FuncData} (F : Fun K "law" "law" s_law f fd) (B : Blt mg) (So : Cal P w K mg base "_law_source" 1 ["_law_script"] (spSource K) f0 d0)
    (Pk : Cal P w K mg base "_law_pick" 2 ["_law_source_here", "_law_values"] spPick f2 d2) (G : Cal P w K mg base "_law_great" 2 ["_law_source_here", "_law_digits"] spGreat f3 d3) (St : Cal P w K mg base "_law_styles" 5 ["_law_figure", "_law_places"] spStyles f4 d4)
    (Tx : TxC P w K mg base f5 d5) (Rd : Cal P w K mg base "read_text" 4 ["text"] spRead f6 d6) : FnOk P w K mg base CX0 6 f fd ["_law_script"] (spLaw K) := by
  refine F.ok sc_law (fun vs H Q E h => ?_) (fun cdv A outer s H vs Q E hr h => ?_)
  · obtain ⟨l, ns, rfl, _⟩ := h
    rfl
  · obtain ⟨l, ns, rfl, hL, hn, q⟩ := h
    have nd := sc_law.nd
    refine ⟨_, (pss_cons (ps_set (i := 1) nd rfl (Or.inl rfl) (pcl So hr (by decide) (by rfl) (pa_cons (pv 0) pa_nil)))
      (pss_cons (ps_for PassesOwn.never rfl (pi_range1 (by rfl) B.range (pa_cons pe_int pa_nil)) (pg_name (i := 2) nd rfl (Or.inl rfl)) (pss_cons (ps_set (i := 3) nd rfl (Or.inl rfl) (pe_op op_mul (pcl G hr (by decide) (by rfl) (pa_cons (pv 1) (pa_cons (pcl Pk hr (by decide) (by rfl) (pa_cons (pv 1) (pa_cons (pe_lst (pa_cons pe_int (pa_cons pe_int (pa_cons pe_int (pa_cons pe_int (pa_cons pe_int (pa_cons pe_int (pa_cons pe_int (pa_cons pe_int pa_nil))))))))) pa_nil))) pa_nil))) (pcl Pk hr (by decide) (by rfl) (pa_cons (pv 1) (pa_cons (pe_lst (pa_cons pe_int (pa_cons (pe_un un_neg pe_int) pa_nil))) pa_nil)))))
      (pss_cons (ps_set (i := 4) nd rfl (Or.inl rfl) (pcl Pk hr (by decide) (by rfl) (pa_cons (pv 1) (pa_cons (pe_lst (pa_cons pe_int (pa_cons pe_int (pa_cons pe_int (pa_cons pe_int (pa_cons pe_int (pa_cons pe_int (pa_cons pe_int (pa_cons pe_int pa_nil))))))))) pa_nil))))
      (pss_cons (ps_for PassesOwn.never rfl (pi_list (pcl St hr (by decide) (by rfl) (pa_cons (pv 3) (pa_cons (pv 4) pa_nil)))) (pg_name (i := 5) nd rfl (Or.inl rfl)) (pss_one (ps_if (PW.pt (pw_or (pt_cmpR (op_neD hr.units) (pcl Rd hr (by decide) (by rfl) (pa_cons (pv 5) pa_nil)) (pe_tup (pa_cons (pv 3) (pa_cons (pv 4) pa_nil))) (nomark _)) (pw_or1 (pt_cmpR (op_neD hr.units) (pcl Rd hr (by decide) (by rfl) (pa_cons (pe_op op_add_str pe_str (pv 5)) pa_nil)) (pe_tup (pa_cons (pv 3) (pa_cons (pv 4) pa_nil))) (nomark _))))) (pss_one (ps_ret pe_bl)) pss_nil)))
      (pss_cons (ps_set (i := 6) nd rfl (Or.inl rfl) (pcl Pk hr (by decide) (by rfl) (pa_cons (pv 1) (pa_cons (pe_lst (pa_cons (pv 3) (pa_cons (pe_op op_add (pv 3) pe_int) (pa_cons (pe_un un_neg (pv 3)) (pa_cons (pe_op op_mul (pv 3) pe_int) (pa_cons (pe_op op_sub (pv 3) pe_int) pa_nil)))))) pa_nil))))
      (pss_cons (ps_if (pt_cmpR op_ne (pe_cmpR op_eq (pcT2 Tx hr (by decide) (by rfl) (pa_cons (pv 3) (pa_cons (pv 4) pa_nil))) (pcT2 Tx hr (by decide) (by rfl) (pa_cons (pv 6) (pa_cons (pv 4) pa_nil))) (nomark _)) (pe_cmpR op_eq (pv 3) (pv 6) (nomark _)) (nomark _)) (pss_one (ps_ret pe_bl)) pss_nil)
      (pss_cons (ps_set (i := 7) nd rfl (Or.inl rfl) (pe_op op_add_str pe_str (pcT2 Tx hr (by decide) (by rfl) (pa_cons pe_int (pa_cons (pv 4) pa_nil)))))
      (pss_one (ps_if (PW.pt (pw_or (pt_cmpR (op_neD hr.units) (pcl Rd hr (by decide) (by rfl) (pa_cons (pv 7) pa_nil)) (pe_tup (pa_cons pe_int (pa_cons (pv 4) pa_nil))) (nomark _)) (pw_or1 (pt_cmpR op_ne (pe_slice sl_str (pcT1 Tx hr (by decide) (by rfl) (pa_cons pe_int (pa_cons (pv 4) pa_nil)) (pk_cons pe_bl pk_nil)) po_none (po_some pe_int)) pe_str (nomark _))))) (pss_one (ps_ret pe_bl)) pss_nil)))))))))
      (pss_cons (ps_if (pt_cmpR (op_neD hr.units) (pcl Rd hr (by decide) (by rfl) (pa_cons (pe_op op_mulS pe_str pe_int) pa_nil)) (pe_tup (pa_cons (pe_op op_sub (pe_op op_powW (pe_op op_pow pe_int pe_int) pe_int) pe_int) (pa_cons pe_int pa_nil))) (nomark _)) (pss_one (ps_ret pe_bl)) pss_nil)
      (pss_cons (ps_if (pt_cmpR (op_neD hr.units) (pcl Rd hr (by decide) (by rfl) (pa_cons (pe_op op_add_str (pe_op op_add_str pe_str (pe_op op_mulS pe_str pe_int)) pe_str) pa_nil)) (pe_tup (pa_cons (pe_op op_add (pe_op op_mul (pe_op op_powW (pe_op op_pow pe_int pe_int) pe_int) pe_int) pe_int) (pa_cons pe_int pa_nil))) (nomark _)) (pss_one (ps_ret pe_bl)) pss_nil)
      (pss_one (ps_ret (pe_and (pe_cmpR (op_eqD hr.units) (pcl Rd hr (by decide) (by rfl) (pa_cons pe_str pa_nil)) (pe_tup (pa_cons pe_int (pa_cons pe_int pa_nil))) (nomark _)) (pe_one (pe_cmpR (op_eqD hr.units) (pcl Rd hr (by decide) (by rfl) (pa_cons pe_str pa_nil)) (pe_tup (pa_cons pe_int (pa_cons pe_int pa_nil))) (nomark _)))))))))), ?_⟩
    walk_at "rd"
    refine ⟨l, ns, rfl, hL, hn, fun a c H0 sm na nc S0 => ?_⟩
    walk_at "rd"
    refine ⟨by decide, by decide, ?_⟩
    refine for_range (n := 30) (fun i σ H' => ∃ (x2 x3 x4 x5 x6 x7 : Option V) (t : Nat), σ = [some (.ref l), some (.ref a), x2, x3, x4, x5, x6, x7] ∧ t ≤ 100 * i ∧ Src H' a c t) ⟨none, none, none, none, none, none, 0, rfl, by omega, S0⟩ ?_ ?_
    · rintro i σ H' hi ⟨x2, x3, x4, x5, x6, x7, t, rfl, ht, S'⟩
      walk_at "rd"
      refine ⟨(by show 8 ≤ sizeLine; decide), fun l1 nl1 => ?_⟩
      obtain ⟨la, lc⟩ := S'.na nl1
      refine ⟨a, c, _, l1, _, rfl, S'.new nl1, by omega, upd_same, la, lc, by decide, by decide, fun x H1 hx S1 O1 => ?_⟩
      obtain ⟨n, rfl, hn⟩ := dg_of hx
      refine ⟨a, c, t + 1, n, rfl, S1, by omega, by omega, fun k H2 k0 k1 S2 O2 => ?_⟩
      walk_at "rd"
      refine ⟨(by show 2 ≤ sizeLine; decide), fun l2 nl2 => ?_⟩
      obtain ⟨la2, lc2⟩ := S2.na nl2
      refine ⟨a, c, _, l2, _, rfl, S2.new nl2, by omega, upd_same, la2, lc2, by decide, by decide, fun x H3 hx3 S3 O3 => ?_⟩
      obtain ⟨j, rfl, hj⟩ := sg2_of hx3
      walk_at "rd"
      refine ⟨.inr (by rcases hj with e | e <;> subst e <;> exact ⟨by decide, by decide⟩), ?_⟩
      have k60 : k < 10 ^ 60 := Int.lt_of_lt_of_le k1 (pow10_le hn)
      have g0 : -10 ^ 60 < k * j := by rcases hj with e | e <;> subst e <;> omega
      have g1 : k * j < 10 ^ 60 := by rcases hj with e | e <;> subst e <;> omega
      walk_at "rd"
      refine ⟨(by show 8 ≤ sizeLine; decide), fun l3 nl3 => ?_⟩
      obtain ⟨la3, lc3⟩ := S3.na nl3
      refine ⟨a, c, _, l3, _, rfl, S3.new nl3, by omega, upd_same, la3, lc3, by decide, by decide, fun x H4 hx4 S4 O4 => ?_⟩
      obtain ⟨pl, rfl, hpl⟩ := pl_of hx4
      have b0 : -10 ^ 62 < k * j := by omega
      have b1 : k * j < 10 ^ 62 := by omega
      walk_at "rd"
      refine ⟨k * j, pl, rfl, b0, b1, hpl, fun r H5 zs nr m5 hr5 zl za => ?_⟩
      have S5 := S4.of_same m5
      obtain ⟨ra, rc⟩ := S4.na nr
      refine ⟨r, rfl, ⟨_, SqL.of hr5⟩, ?_⟩
      refine for_list (K := K) (a := r) (xs := zs.map V.str) (fun _ σ H6 => ∃ (x5 : Option V), σ = [some (.ref l), some (.ref a), some (.int (0 + (i : Int))), some (.int (k * j)), some (.int (pl : Int)), x5, x6, x7] ∧ H6 r = some (.lst (zs.map V.str)) ∧ Same H5 H6)
        ⟨x5, rfl, hr5, Same.refl H5⟩ (fun _ _ _ _ ⟨_, _, z, _⟩ => SqL.of z) ?_ ?_
      · rintro y x σ H6 hx6 ⟨x5, rfl, hr6, m6⟩
        obtain ⟨z, hz, rfl⟩ := List.mem_map.mp (List.mem_of_getElem? hx6)
        obtain ⟨sg, gr, wd, w0, w1, rfl⟩ := za z hz
        walk_at "rd"
        obtain ⟨kk, cc, pp, ee, c0, nn, ok, hf, hm⟩ := text_reads (sg := sg) (gr := gr) b0 b1 hpl w0 w1
        refine ⟨_, kk, cc, nn, pp, ee, c0, rfl, ok, fun q1 H7 m7 h7 => ?_⟩
        rw [hf, hm] at h7
        walk_at "rd"
        refine ⟨(by show 2 ≤ sizeLine; decide), fun p1 np1 => ?_⟩
        obtain ⟨d, e, z1, z2, z3, z4, z5⟩ := eq2 (K := K) ((upd_ne (ne_of_none h7 np1)).trans h7) (upd_same (o := .tup [.int (k * j), .int (pl : Int)]))
        refine ⟨d, e, z1, z2, z3, z4, ?_⟩
        rw [z5]
        have m8 : Same H6 (upd H7 p1 (.tup [.int (k * j), .int (pl : Int)])) := fun b u z => (upd_ne (ne_of_none (m7 _ _ z) np1)).trans (m7 _ _ z)
        generalize upd H7 p1 (.tup [.int (k * j), .int (pl : Int)]) = H8 at m8 ⊢
        clear h7 z1 z2 z3 z4 z5 d e ok hf hm np1 m7
        walk_at "rd"
        refine ⟨three_ok b0 b1 hpl w0 w1, ?_⟩
        obtain ⟨kk, cc, pp, ee, c0, nn, ok, hf, hm⟩ := text_reads3 (sg := sg) (gr := gr) b0 b1 hpl w0 w1
        refine ⟨_, kk, cc, nn, pp, ee, c0, rfl, ok, fun q2 H9 m9 h9 => ?_⟩
        rw [hf, hm] at h9
        walk_at "rd"
        refine ⟨(by show 2 ≤ sizeLine; decide), fun p2 np2 => ?_⟩
        obtain ⟨d, e, z1, z2, z3, z4, z5⟩ := eq2 (K := K) ((upd_ne (ne_of_none h9 np2)).trans h9) (upd_same (o := .tup [.int (k * j), .int (pl : Int)]))
        refine ⟨d, e, z1, z2, z3, z4, ?_⟩
        rw [z5]
        have m10 : Same H6 (upd H9 p2 (.tup [.int (k * j), .int (pl : Int)])) := fun b u z => (upd_ne (ne_of_none (m9 _ _ (m8 _ _ z)) np2)).trans (m9 _ _ (m8 _ _ z))
        generalize upd H9 p2 (.tup [.int (k * j), .int (pl : Int)]) = H10 at m10 ⊢
        clear h9 z1 z2 z3 z4 z5 d e ok hf hm np2 m9
        walk_at "rd"
        exact ⟨m10 _ _ hr6, m6.trans m10⟩
      · rintro σ H6 ⟨x5, rfl, hr6, m6⟩
        have S6 := S5.of_same m6
        walk_at "rd"
        refine ⟨.inr ⟨by decide, by decide⟩, ?_⟩
        walk_at "rd"
        refine ⟨(by show 5 ≤ sizeLine; decide), fun l4 nl4 => ?_⟩
        obtain ⟨la4, lc4⟩ := S6.na nl4
        refine ⟨a, c, _, l4, _, rfl, S6.new nl4, by omega, upd_same, la4, lc4, (by show 0 < 5; decide), (by show 5 < 2 ^ 60; decide), fun x H7 hx7 S7 O7 => ?_⟩
        obtain ⟨o, rfl, o0, o1⟩ := oth_of hx7 g0 g1
        walk_at "rd"
        refine ⟨k * j, pl, false, false, 0, rfl, b0, b1, hpl, by decide, by decide, fun H8 m8 => ?_⟩
        walk_at "rd"
        refine ⟨o, pl, false, false, 0, rfl, o0, o1, hpl, by decide, by decide, fun H9 m9 => ?_⟩
        walk_at "rd"
        have ev : decide (V.bl (decide (V.str (textM (k * j) pl false false 0) = V.str (textM o pl false false 0))) = V.bl (decide (V.int (k * j) = V.int o))) = true := by
          rw [dec_str, dec_int, text_inj b0 b1 o0 o1 hpl]
          exact decide_eq_true rfl
        refine ⟨rfl, ?_⟩
        walk_at "rd"
        refine ⟨rfl, ?_⟩
        walk_at "rd"
        refine ⟨rfl, ?_⟩
        walk_at "rd"
        refine ite2 (fun h => (not_t h ev).elim) (fun _ => ?_)
        walk_at "rd"
        refine ⟨0, pl, false, false, 0, rfl, by decide, by decide, hpl, by decide, by decide, fun H10 m10 => ?_⟩
        walk_at "rd"
        refine ⟨minus_ok hpl, ?_⟩
        walk_at "rd"
        obtain ⟨kk, cc, pp, ee, c0, nn, ok, hf, hm⟩ := nought_reads hpl
        refine ⟨_, kk, cc, nn, pp, ee, c0, rfl, ok, fun q1 H11 m11 h11 => ?_⟩
        rw [hf, hm] at h11
        walk_at "rd"
        refine ⟨(by show 2 ≤ sizeLine; decide), fun p1 np1 => ?_⟩
        obtain ⟨d, e, z1, z2, z3, z4, z5⟩ := eq2 (K := K) ((upd_ne (ne_of_none h11 np1)).trans h11) (upd_same (o := .tup [.int 0, .int (pl : Int)]))
        refine ⟨d, e, z1, z2, z3, z4, ?_⟩
        rw [z5]
        have m12 : Same H7 (upd H11 p1 (.tup [.int 0, .int (pl : Int)])) := fun b u z => (upd_ne (ne_of_none (m11 _ _ (m10 _ _ (m9 _ _ (m8 _ _ z)))) np1)).trans (m11 _ _ (m10 _ _ (m9 _ _ (m8 _ _ z))))
        generalize upd H11 p1 (.tup [.int 0, .int (pl : Int)]) = H12 at m12 ⊢
        clear h11 z1 z2 z3 z4 z5 d e ok hf hm np1 m11 m10 m9 m8
        walk_at "rd"
        refine ⟨rfl, rfl, 0, pl, true, false, 0, rfl, by decide, by decide, hpl, by decide, by decide, fun H13 m13 => ?_⟩
        walk_at "rd"
        refine ⟨nought_ok hpl, ?_⟩
        rw [nought_first hpl]
        walk_at "rd"
        refine ⟨rfl, ?_⟩
        walk_at "rd"
        refine ⟨_, _, _, _, _, _, _, rfl, ?_, S7.of_same (m12.trans m13)⟩
        omega
    · rintro σ H' ⟨x2, x3, x4, x5, x6, x7, t, rfl, ht, S'⟩
      walk_at "rd"
      refine ⟨nine_ok, ?_⟩
      obtain ⟨kk, cc, pp, ee, c0, nn, ok, hf, hm⟩ := nines_reads
      refine ⟨_, kk, cc, nn, pp, ee, c0, rfl, ok, fun q1 H1 m1 h1 => ?_⟩
      rw [hf, hm] at h1
      walk_at "rd"
      refine ⟨⟨by decide, by decide, by decide⟩, ?_⟩
      walk_at "rd"
      refine ⟨pow38, ?_⟩
      walk_at "rd"
      refine ⟨(by show 2 ≤ sizeLine; decide), fun p1 np1 => ?_⟩
      obtain ⟨d, e, z1, z2, z3, z4, z5⟩ := eq2 (K := K) ((upd_ne (ne_of_none h1 np1)).trans h1) (upd_same (o := .tup [.int (((10 : Int) ^ (50 : Int).toNat) ^ (38 : Int).toNat - 1), .int ((0 : Nat) : Int)]))
      refine ⟨d, e, z1, z2, z3, z4, ?_⟩
      rw [z5]
      clear h1 z1 z2 z3 z4 z5 d e ok hf hm
      walk_at "rd"
      refine ⟨zero_ok, ?_⟩
      walk_at "rd"
      refine ⟨sz1, ?_⟩
      walk_at "rd"
      refine ⟨sz2, ?_⟩
      obtain ⟨kk, cc, pp, ee, c0, nn, ok, hf, hm⟩ := long_reads
      refine ⟨_, kk, cc, nn, pp, ee, c0, rfl, ok, fun q2 H2 m2 h2 => ?_⟩
      rw [hf, hm] at h2
      walk_at "rd"
      refine ⟨⟨by decide, by decide, by decide⟩, ?_⟩
      walk_at "rd"
      refine ⟨pow6, ?_⟩
      walk_at "rd"
      refine ⟨.inr ⟨by decide, by decide⟩, ?_⟩
      walk_at "rd"
      refine ⟨(by show 2 ≤ sizeLine; decide), fun p2 np2 => ?_⟩
      obtain ⟨d, e, z1, z2, z3, z4, z5⟩ := eq2 (K := K) ((upd_ne (ne_of_none h2 np2)).trans h2) (upd_same (o := .tup [.int (((10 : Int) ^ (50 : Int).toNat) ^ (6 : Int).toNat * 10 + 5), .int ((1 : Nat) : Int)]))
      refine ⟨d, e, z1, z2, z3, z4, ?_⟩
      rw [z5]
      clear h2 z1 z2 z3 z4 z5 d e ok hf hm
      walk_at "rd"
      obtain ⟨kk, cc, pp, ee, c0, nn, ok, hf, hm⟩ := group_reads
      refine ⟨_, kk, cc, nn, pp, ee, c0, rfl, ok, fun q3 H3 m3 h3 => ?_⟩
      rw [hf, hm] at h3
      walk_at "rd"
      refine ⟨(by show 2 ≤ sizeLine; decide), fun p3 np3 => ?_⟩
      obtain ⟨d, e, z1, z2, z3, z4, z5⟩ := eq2 (K := K) ((upd_ne (ne_of_none h3 np3)).trans h3) (upd_same (o := .tup [.int 100050, .int ((2 : Nat) : Int)]))
      refine ⟨d, e, z1, z2, z3, z4, ?_⟩
      rw [z5]
      clear h3 z1 z2 z3 z4 z5 d e ok hf hm
      walk_at "rd"
      obtain ⟨kk, cc, pp, ee, c0, nn, ok, hf, hm⟩ := twelve_reads
      refine ⟨_, kk, cc, nn, pp, ee, c0, rfl, ok, fun q4 H4 m4 h4 => ?_⟩
      rw [hf, hm] at h4
      walk_at "rd"
      refine ⟨(by show 2 ≤ sizeLine; decide), fun p4 np4 => ?_⟩
      obtain ⟨d, e, z1, z2, z3, z4, z5⟩ := eq2 (K := K) ((upd_ne (ne_of_none h4 np4)).trans h4) (upd_same (o := .tup [.int 12, .int ((0 : Nat) : Int)]))
      refine ⟨d, e, z1, z2, z3, z4, ?_⟩
      rw [z5]
      exact q _
end
end HT
namespace HT
open PySem L2
theorem all_mk {l : PySem.W.OpenLaw} {w : World} {K : PySem.W.Frag} {h : Heap} {mg : Str → Option Value} {fa aM aR f_is_int f_is_int_between f_check_value f_text_of f_check_style f_grouped f_mark f_read_text f_past_whole f_past_groups f_past_places f_past_digits f_L_source f_L_draw f_L_pick f_L_great f_L_styles f_law aD : Addr} (X : K.In h) (G : h.Ns mainGlobals mg) (hfa : mg "law" = some (.ref fa))
    {odM od_is_int an_is_int od_is_int_between an_is_int_between od_check_value an_check_value od_text_of an_text_of od_check_style an_check_style od_grouped an_grouped od_mark an_mark od_read_text an_read_text od_past_whole an_past_whole od_past_groups an_past_groups od_past_places an_past_places od_past_digits an_past_digits od_L_source an_L_source od_L_draw an_L_draw od_L_pick an_L_pick od_L_great an_L_great od_L_styles an_L_styles od_law an_law : Option Addr} {slM sl_is_int sl_is_int_between sl_check_value sl_text_of sl_check_style sl_grouped sl_mark sl_read_text sl_past_whole sl_past_groups sl_past_places sl_past_digits sl_L_source sl_L_draw sl_L_pick sl_L_great sl_L_styles sl_law : Array (Option Value)} {tP tW tD : Tok} {nM nR : Nat} {itsM : Array Value} {esR : Array DictEntry} {u_down u_up u_half_down u_half_up u_half_even oc_is_int kV_is_int dc_is_int pm_is_int cd_is_int ct_is_int oc_is_int_between kV_is_int_between dc_is_int_between pm_is_int_between cd_is_int_between ct_is_int_between oc_check_value kV_check_value dc_check_value pm_check_value cd_check_value ct_check_value oc_text_of dc_text_of pm_text_of cd_text_of ct_text_of oc_check_style kV_check_style dc_check_style pm_check_style cd_check_style ct_check_style oc_grouped kV_grouped dc_grouped pm_grouped cd_grouped ct_grouped oc_mark kV_mark dc_mark pm_mark cd_mark ct_mark oc_read_text kV_read_text dc_read_text pm_read_text cd_read_text ct_read_text oc_past_whole kV_past_whole dc_past_whole pm_past_whole cd_past_whole ct_past_whole oc_past_groups kV_past_groups dc_past_groups pm_past_groups cd_past_groups ct_past_groups oc_past_places kV_past_places dc_past_places pm_past_places cd_past_places ct_past_places oc_past_digits kV_past_digits dc_past_digits pm_past_digits cd_past_digits ct_past_digits oc_L_source kV_L_source dc_L_source pm_L_source cd_L_source ct_L_source oc_L_draw kV_L_draw dc_L_draw pm_L_draw cd_L_draw ct_L_draw oc_L_pick kV_L_pick dc_L_pick pm_L_pick cd_L_pick ct_L_pick oc_L_great kV_L_great dc_L_great pm_L_great cd_L_great ct_L_great oc_L_styles kV_L_styles dc_L_styles pm_L_styles cd_L_styles ct_L_styles oc_law kV_law dc_law pm_law cd_law ct_law u_sign u_group u_width : Value}
    (a_is_int : PySem.W.nsIn K mainGlobals "is_int" = some (some (.ref f_is_int)))
    (l_is_int : K.lookup f_is_int = some ⟨oc_is_int, od_is_int, .func (PySem.W.fnOf "is_int" "is_int" (defArgs s_is_int) (defBody s_is_int) (defScope s_is_int) .none kV_is_int dc_is_int pm_is_int an_is_int cd_is_int ct_is_int), sl_is_int⟩)
    (c_is_int : PySem.W.codeIn K cd_is_int "is_int" = true) (k_is_int : PySem.W.keepIn K (.ref f_is_int) = true)
    (a_is_int_between : PySem.W.nsIn K mainGlobals "is_int_between" = some (some (.ref f_is_int_between)))
    (l_is_int_between : K.lookup f_is_int_between = some ⟨oc_is_int_between, od_is_int_between, .func (PySem.W.fnOf "is_int_between" "is_int_between" (defArgs s_is_int_between) (defBody s_is_int_between) (defScope s_is_int_between) .none kV_is_int_between dc_is_int_between pm_is_int_between an_is_int_between cd_is_int_between ct_is_int_between), sl_is_int_between⟩)
    (c_is_int_between : PySem.W.codeIn K cd_is_int_between "is_int_between" = true) (k_is_int_between : PySem.W.keepIn K (.ref f_is_int_between) = true)
    (a_check_value : PySem.W.nsIn K mainGlobals "check_value" = some (some (.ref f_check_value)))
    (l_check_value : K.lookup f_check_value = some ⟨oc_check_value, od_check_value, .func (PySem.W.fnOf "check_value" "check_value" (defArgs s_check_value) (defBody s_check_value) (defScope s_check_value) .none kV_check_value dc_check_value pm_check_value an_check_value cd_check_value ct_check_value), sl_check_value⟩)
    (c_check_value : PySem.W.codeIn K cd_check_value "check_value" = true) (k_check_value : PySem.W.keepIn K (.ref f_check_value) = true)
    (a_text_of : PySem.W.nsIn K mainGlobals "text_of" = some (some (.ref f_text_of)))
    (l_text_of : K.lookup f_text_of = some ⟨oc_text_of, od_text_of, .func (PySem.W.fnOf "text_of" "text_of" (defArgs s_text_of) (defBody s_text_of) (defScope s_text_of) .none (.ref aD) dc_text_of pm_text_of an_text_of cd_text_of ct_text_of), sl_text_of⟩)
    (c_text_of : PySem.W.codeIn K cd_text_of "text_of" = true) (k_text_of : PySem.W.keepIn K (.ref f_text_of) = true)
    (a_check_style : PySem.W.nsIn K mainGlobals "_check_style" = some (some (.ref f_check_style)))
    (l_check_style : K.lookup f_check_style = some ⟨oc_check_style, od_check_style, .func (PySem.W.fnOf "_check_style" "_check_style" (defArgs s_check_style) (defBody s_check_style) (defScope s_check_style) .none kV_check_style dc_check_style pm_check_style an_check_style cd_check_style ct_check_style), sl_check_style⟩)
    (c_check_style : PySem.W.codeIn K cd_check_style "_check_style" = true) (k_check_style : PySem.W.keepIn K (.ref f_check_style) = true)
    (a_grouped : PySem.W.nsIn K mainGlobals "_grouped" = some (some (.ref f_grouped)))
    (l_grouped : K.lookup f_grouped = some ⟨oc_grouped, od_grouped, .func (PySem.W.fnOf "_grouped" "_grouped" (defArgs s_grouped) (defBody s_grouped) (defScope s_grouped) .none kV_grouped dc_grouped pm_grouped an_grouped cd_grouped ct_grouped), sl_grouped⟩)
    (c_grouped : PySem.W.codeIn K cd_grouped "_grouped" = true) (k_grouped : PySem.W.keepIn K (.ref f_grouped) = true)
    (a_mark : PySem.W.nsIn K mainGlobals "_mark" = some (some (.ref f_mark)))
    (l_mark : K.lookup f_mark = some ⟨oc_mark, od_mark, .func (PySem.W.fnOf "_mark" "_mark" (defArgs s_mark) (defBody s_mark) (defScope s_mark) .none kV_mark dc_mark pm_mark an_mark cd_mark ct_mark), sl_mark⟩)
    (c_mark : PySem.W.codeIn K cd_mark "_mark" = true) (k_mark : PySem.W.keepIn K (.ref f_mark) = true)
    (a_read_text : PySem.W.nsIn K mainGlobals "read_text" = some (some (.ref f_read_text)))
    (l_read_text : K.lookup f_read_text = some ⟨oc_read_text, od_read_text, .func (PySem.W.fnOf "read_text" "read_text" (defArgs s_read_text) (defBody s_read_text) (defScope s_read_text) .none kV_read_text dc_read_text pm_read_text an_read_text cd_read_text ct_read_text), sl_read_text⟩)
    (c_read_text : PySem.W.codeIn K cd_read_text "read_text" = true) (k_read_text : PySem.W.keepIn K (.ref f_read_text) = true)
    (a_past_whole : PySem.W.nsIn K mainGlobals "_past_whole" = some (some (.ref f_past_whole)))
    (l_past_whole : K.lookup f_past_whole = some ⟨oc_past_whole, od_past_whole, .func (PySem.W.fnOf "_past_whole" "_past_whole" (defArgs s_past_whole) (defBody s_past_whole) (defScope s_past_whole) .none kV_past_whole dc_past_whole pm_past_whole an_past_whole cd_past_whole ct_past_whole), sl_past_whole⟩)
    (c_past_whole : PySem.W.codeIn K cd_past_whole "_past_whole" = true) (k_past_whole : PySem.W.keepIn K (.ref f_past_whole) = true)
    (a_past_groups : PySem.W.nsIn K mainGlobals "_past_groups" = some (some (.ref f_past_groups)))
    (l_past_groups : K.lookup f_past_groups = some ⟨oc_past_groups, od_past_groups, .func (PySem.W.fnOf "_past_groups" "_past_groups" (defArgs s_past_groups) (defBody s_past_groups) (defScope s_past_groups) .none kV_past_groups dc_past_groups pm_past_groups an_past_groups cd_past_groups ct_past_groups), sl_past_groups⟩)
    (c_past_groups : PySem.W.codeIn K cd_past_groups "_past_groups" = true) (k_past_groups : PySem.W.keepIn K (.ref f_past_groups) = true)
    (a_past_places : PySem.W.nsIn K mainGlobals "_past_places" = some (some (.ref f_past_places)))
    (l_past_places : K.lookup f_past_places = some ⟨oc_past_places, od_past_places, .func (PySem.W.fnOf "_past_places" "_past_places" (defArgs s_past_places) (defBody s_past_places) (defScope s_past_places) .none kV_past_places dc_past_places pm_past_places an_past_places cd_past_places ct_past_places), sl_past_places⟩)
    (c_past_places : PySem.W.codeIn K cd_past_places "_past_places" = true) (k_past_places : PySem.W.keepIn K (.ref f_past_places) = true)
    (a_past_digits : PySem.W.nsIn K mainGlobals "_past_digits" = some (some (.ref f_past_digits)))
    (l_past_digits : K.lookup f_past_digits = some ⟨oc_past_digits, od_past_digits, .func (PySem.W.fnOf "_past_digits" "_past_digits" (defArgs s_past_digits) (defBody s_past_digits) (defScope s_past_digits) .none kV_past_digits dc_past_digits pm_past_digits an_past_digits cd_past_digits ct_past_digits), sl_past_digits⟩)
    (c_past_digits : PySem.W.codeIn K cd_past_digits "_past_digits" = true) (k_past_digits : PySem.W.keepIn K (.ref f_past_digits) = true)
    (a_L_source : PySem.W.nsIn K mainGlobals "_law_source" = some (some (.ref f_L_source)))
    (l_L_source : K.lookup f_L_source = some ⟨oc_L_source, od_L_source, .func (PySem.W.fnOf "_law_source" "_law_source" (defArgs s_L_source) (defBody s_L_source) (defScope s_L_source) .none kV_L_source dc_L_source pm_L_source an_L_source cd_L_source ct_L_source), sl_L_source⟩)
    (c_L_source : PySem.W.codeIn K cd_L_source "_law_source" = true) (k_L_source : PySem.W.keepIn K (.ref f_L_source) = true)
    (a_L_draw : PySem.W.nsIn K mainGlobals "_law_draw" = some (some (.ref f_L_draw)))
    (l_L_draw : K.lookup f_L_draw = some ⟨oc_L_draw, od_L_draw, .func (PySem.W.fnOf "_law_draw" "_law_draw" (defArgs s_L_draw) (defBody s_L_draw) (defScope s_L_draw) .none kV_L_draw dc_L_draw pm_L_draw an_L_draw cd_L_draw ct_L_draw), sl_L_draw⟩)
    (c_L_draw : PySem.W.codeIn K cd_L_draw "_law_draw" = true) (k_L_draw : PySem.W.keepIn K (.ref f_L_draw) = true)
    (a_L_pick : PySem.W.nsIn K mainGlobals "_law_pick" = some (some (.ref f_L_pick)))
    (l_L_pick : K.lookup f_L_pick = some ⟨oc_L_pick, od_L_pick, .func (PySem.W.fnOf "_law_pick" "_law_pick" (defArgs s_L_pick) (defBody s_L_pick) (defScope s_L_pick) .none kV_L_pick dc_L_pick pm_L_pick an_L_pick cd_L_pick ct_L_pick), sl_L_pick⟩)
    (c_L_pick : PySem.W.codeIn K cd_L_pick "_law_pick" = true) (k_L_pick : PySem.W.keepIn K (.ref f_L_pick) = true)
    (a_L_great : PySem.W.nsIn K mainGlobals "_law_great" = some (some (.ref f_L_great)))
    (l_L_great : K.lookup f_L_great = some ⟨oc_L_great, od_L_great, .func (PySem.W.fnOf "_law_great" "_law_great" (defArgs s_L_great) (defBody s_L_great) (defScope s_L_great) .none kV_L_great dc_L_great pm_L_great an_L_great cd_L_great ct_L_great), sl_L_great⟩)
    (c_L_great : PySem.W.codeIn K cd_L_great "_law_great" = true) (k_L_great : PySem.W.keepIn K (.ref f_L_great) = true)
    (a_L_styles : PySem.W.nsIn K mainGlobals "_law_styles" = some (some (.ref f_L_styles)))
    (l_L_styles : K.lookup f_L_styles = some ⟨oc_L_styles, od_L_styles, .func (PySem.W.fnOf "_law_styles" "_law_styles" (defArgs s_L_styles) (defBody s_L_styles) (defScope s_L_styles) .none kV_L_styles dc_L_styles pm_L_styles an_L_styles cd_L_styles ct_L_styles), sl_L_styles⟩)
    (c_L_styles : PySem.W.codeIn K cd_L_styles "_law_styles" = true) (k_L_styles : PySem.W.keepIn K (.ref f_L_styles) = true)
    (a_law : PySem.W.nsIn K mainGlobals "law" = some (some (.ref f_law)))
    (l_law : K.lookup f_law = some ⟨oc_law, od_law, .func (PySem.W.fnOf "law" "law" (defArgs s_law) (defBody s_law) (defScope s_law) .none kV_law dc_law pm_law an_law cd_law ct_law), sl_law⟩)
    (c_law : PySem.W.codeIn K cd_law "law" = true) (k_law : PySem.W.keepIn K (.ref f_law) = true)
    (z_isinstance : PySem.W.nsIn K mainGlobals "isinstance" = some none)
    (z_int : PySem.W.nsIn K mainGlobals "int" = some none)
    (z_bool : PySem.W.nsIn K mainGlobals "bool" = some none)
    (z_len : PySem.W.nsIn K mainGlobals "len" = some none)
    (z_str : PySem.W.nsIn K mainGlobals "str" = some none)
    (z_abs : PySem.W.nsIn K mainGlobals "abs" = some none)
    (z_range : PySem.W.nsIn K mainGlobals "range" = some none)
    (z_max : PySem.W.nsIn K mainGlobals "max" = some none)
    (v_P : PySem.W.nsIn K mainGlobals "MOST_PLACES" = some (some (.int 60 tP)))
    (v_W : PySem.W.nsIn K mainGlobals "MOST_WIDTH" = some (some (.int 200 tW)))
    (v_D : PySem.W.nsIn K mainGlobals "DIGITS" = some (some (.str ("0123456789" : Str) tD)))
    (z_L : PySem.W.nsIn K cStatics "sys.int_max_str_digits" = some none)
    (q_sign : PySem.W.nsIn K aD "sign" = some (some u_sign)) (r_sign : RelV (.bl false) u_sign)
    (q_group : PySem.W.nsIn K aD "group" = some (some u_group)) (r_group : RelV (.bl false) u_group)
    (q_width : PySem.W.nsIn K aD "width" = some (some u_width)) (r_width : RelV (.int 0) u_width) :
    ∃ fd : FuncData, (∀ (s : Shared) (v : Value), BindsTo s fd ⟨[v], []⟩ [("_law_script", v)]) ∧ ∀ base : Heap, K.In base → base.Ns mainGlobals mg → FnOk l.prog w K mg base CX0 6 fa fd ["_law_script"] (spLaw K) := by
  have e := hfa.symm.trans (PySem.W.mg_of X G a_law)
  cases e
  have F_is_int := fun_mk (st := s_is_int) l_is_int c_is_int k_is_int
  have b_is_int := F_is_int.binds (ps := ["thing"]) fun _ _ _ _ _ _ us hl => match us, hl with | [_], _ => rfl
  have m_is_int := PySem.W.mg_of X G a_is_int
  have F_is_int_between := fun_mk (st := s_is_int_between) l_is_int_between c_is_int_between k_is_int_between
  have b_is_int_between := F_is_int_between.binds (ps := ["thing", "least", "most"]) fun _ _ _ _ _ _ us hl => match us, hl with | [_, _, _], _ => rfl
  have m_is_int_between := PySem.W.mg_of X G a_is_int_between
  have F_check_value := fun_mk (st := s_check_value) l_check_value c_check_value k_check_value
  have b_check_value := F_check_value.binds (ps := ["value"]) fun _ _ _ _ _ _ us hl => match us, hl with | [_], _ => rfl
  have m_check_value := PySem.W.mg_of X G a_check_value
  have m_text_of := PySem.W.mg_of X G a_text_of
  have F_check_style := fun_mk (st := s_check_style) l_check_style c_check_style k_check_style
  have b_check_style := F_check_style.binds (ps := ["sign", "group", "width"]) fun _ _ _ _ _ _ us hl => match us, hl with | [_, _, _], _ => rfl
  have m_check_style := PySem.W.mg_of X G a_check_style
  have F_grouped := fun_mk (st := s_grouped) l_grouped c_grouped k_grouped
  have b_grouped := F_grouped.binds (ps := ["digits"]) fun _ _ _ _ _ _ us hl => match us, hl with | [_], _ => rfl
  have m_grouped := PySem.W.mg_of X G a_grouped
  have F_mark := fun_mk (st := s_mark) l_mark c_mark k_mark
  have b_mark := F_mark.binds (ps := ["figure", "sign"]) fun _ _ _ _ _ _ us hl => match us, hl with | [_, _], _ => rfl
  have m_mark := PySem.W.mg_of X G a_mark
  have F_read_text := fun_mk (st := s_read_text) l_read_text c_read_text k_read_text
  have b_read_text := F_read_text.binds (ps := ["text"]) fun _ _ _ _ _ _ us hl => match us, hl with | [_], _ => rfl
  have m_read_text := PySem.W.mg_of X G a_read_text
  have F_past_whole := fun_mk (st := s_past_whole) l_past_whole c_past_whole k_past_whole
  have b_past_whole := F_past_whole.binds (ps := ["text", "at"]) fun _ _ _ _ _ _ us hl => match us, hl with | [_, _], _ => rfl
  have m_past_whole := PySem.W.mg_of X G a_past_whole
  have F_past_groups := fun_mk (st := s_past_groups) l_past_groups c_past_groups k_past_groups
  have b_past_groups := F_past_groups.binds (ps := ["text", "at"]) fun _ _ _ _ _ _ us hl => match us, hl with | [_, _], _ => rfl
  have m_past_groups := PySem.W.mg_of X G a_past_groups
  have F_past_places := fun_mk (st := s_past_places) l_past_places c_past_places k_past_places
  have b_past_places := F_past_places.binds (ps := ["text", "at"]) fun _ _ _ _ _ _ us hl => match us, hl with | [_, _], _ => rfl
  have m_past_places := PySem.W.mg_of X G a_past_places
  have F_past_digits := fun_mk (st := s_past_digits) l_past_digits c_past_digits k_past_digits
  have b_past_digits := F_past_digits.binds (ps := ["text", "at", "most"]) fun _ _ _ _ _ _ us hl => match us, hl with | [_, _, _], _ => rfl
  have m_past_digits := PySem.W.mg_of X G a_past_digits
  have F_L_source := fun_mk (st := s_L_source) l_L_source c_L_source k_L_source
  have b_L_source := F_L_source.binds (ps := ["_law_script"]) fun _ _ _ _ _ _ us hl => match us, hl with | [_], _ => rfl
  have m_L_source := PySem.W.mg_of X G a_L_source
  have F_L_draw := fun_mk (st := s_L_draw) l_L_draw c_L_draw k_L_draw
  have b_L_draw := F_L_draw.binds (ps := ["_law_source_here", "_law_limit"]) fun _ _ _ _ _ _ us hl => match us, hl with | [_, _], _ => rfl
  have m_L_draw := PySem.W.mg_of X G a_L_draw
  have F_L_pick := fun_mk (st := s_L_pick) l_L_pick c_L_pick k_L_pick
  have b_L_pick := F_L_pick.binds (ps := ["_law_source_here", "_law_values"]) fun _ _ _ _ _ _ us hl => match us, hl with | [_, _], _ => rfl
  have m_L_pick := PySem.W.mg_of X G a_L_pick
  have F_L_great := fun_mk (st := s_L_great) l_L_great c_L_great k_L_great
  have b_L_great := F_L_great.binds (ps := ["_law_source_here", "_law_digits"]) fun _ _ _ _ _ _ us hl => match us, hl with | [_, _], _ => rfl
  have m_L_great := PySem.W.mg_of X G a_L_great
  have F_L_styles := fun_mk (st := s_L_styles) l_L_styles c_L_styles k_L_styles
  have b_L_styles := F_L_styles.binds (ps := ["_law_figure", "_law_places"]) fun _ _ _ _ _ _ us hl => match us, hl with | [_, _], _ => rfl
  have m_L_styles := PySem.W.mg_of X G a_L_styles
  have F_law := fun_mk (st := s_law) l_law c_law k_law
  have b_law := F_law.binds (ps := ["_law_script"]) fun _ _ _ _ _ _ us hl => match us, hl with | [_], _ => rfl
  have m_law := PySem.W.mg_of X G a_law
  have n_isinstance := PySem.W.mg_none_of X G z_isinstance
  have n_int := PySem.W.mg_none_of X G z_int
  have n_bool := PySem.W.mg_none_of X G z_bool
  have n_len := PySem.W.mg_none_of X G z_len
  have n_str := PySem.W.mg_none_of X G z_str
  have n_abs := PySem.W.mg_none_of X G z_abs
  have n_range := PySem.W.mg_none_of X G z_range
  have n_max := PySem.W.mg_none_of X G z_max
  have BL : Blt mg := ⟨n_len, n_abs, n_int, n_range⟩
  have T : TxtT mg tP tW := ⟨n_isinstance, n_int, n_bool, n_len, n_str, n_abs, n_range, n_max, PySem.W.mg_of X G v_P, PySem.W.mg_of X G v_W⟩
  have RT : ReadT mg := ⟨n_isinstance, n_str, n_len, n_int, n_max⟩
  have gD := PySem.W.mg_of X G v_D
  have gP := PySem.W.mg_of X G v_P
  have D_text_of : FunD K "text_of" "text_of" (defArgs s_text_of) (defBody s_text_of) (defScope s_text_of) [] [("sign", .bl false), ("group", .bl false), ("width", .int 0)] f_text_of _ := ⟨⟨_, _, _, _, _, _, _, _, _, _, rfl, l_text_of, c_text_of, .inl ⟨rfl, rfl⟩, .inr ⟨aD, rfl, fun q hq => by
    simp only [List.mem_cons, List.not_mem_nil, or_false] at hq
    rcases hq with e | e | e <;> subst e
    · exact ⟨_, q_sign, r_sign⟩
    · exact ⟨_, q_group, r_group⟩
    · exact ⟨_, q_width, r_width⟩⟩⟩, k_text_of⟩
  refine ⟨PySem.W.fnOf "law" "law" (defArgs s_law) (defBody s_law) (defScope s_law) .none kV_law dc_law pm_law an_law cd_law ct_law, fun s v => .of_eq rfl, fun base _ _ => ?_⟩
  have C_is_int : Cal l.prog w K mg base "is_int" 1 ["thing"] spIsInt f_is_int _ := ⟨ok_is_int F_is_int T, m_is_int, k_is_int, b_is_int⟩
  have C_is_int_between : Cal l.prog w K mg base "is_int_between" 2 ["thing", "least", "most"] spBetween f_is_int_between _ := ⟨ok_between F_is_int_between C_is_int, m_is_int_between, k_is_int_between, b_is_int_between⟩
  have C_check_value : Cal l.prog w K mg base "check_value" 2 ["value"] spCheckValue f_check_value _ := ⟨ok_check_value F_check_value C_is_int, m_check_value, k_check_value, b_check_value⟩
  have C_check_style : Cal l.prog w K mg base "_check_style" 3 ["sign", "group", "width"] spStyle f_check_style _ := ⟨ok_style F_check_style T C_is_int_between, m_check_style, k_check_style, b_check_style⟩
  have C_grouped : Cal l.prog w K mg base "_grouped" 1 ["digits"] spGrouped f_grouped _ := ⟨ok_grouped F_grouped T, m_grouped, k_grouped, b_grouped⟩
  have C_mark : Cal l.prog w K mg base "_mark" 1 ["figure", "sign"] spMark f_mark _ := ⟨ok_mark F_mark, m_mark, k_mark, b_mark⟩
  have C_past_digits : Cal l.prog w K mg base "_past_digits" 1 ["text", "at", "most"] spPastD f_past_digits _ := ⟨ok_past_digits F_past_digits n_len gD, m_past_digits, k_past_digits, b_past_digits⟩
  have C_past_places : Cal l.prog w K mg base "_past_places" 2 ["text", "at"] spPlaces f_past_places _ := ⟨ok_past_places F_past_places gP C_past_digits, m_past_places, k_past_places, b_past_places⟩
  have C_past_groups : Cal l.prog w K mg base "_past_groups" 2 ["text", "at"] spGroups f_past_groups _ := ⟨ok_past_groups F_past_groups C_past_digits, m_past_groups, k_past_groups, b_past_groups⟩
  have C_past_whole : Cal l.prog w K mg base "_past_whole" 3 ["text", "at"] spWhole f_past_whole _ := ⟨ok_past_whole F_past_whole n_len C_past_digits C_past_groups, m_past_whole, k_past_whole, b_past_whole⟩
  have C_read_text : Cal l.prog w K mg base "read_text" 4 ["text"] spRead f_read_text _ := ⟨ok_read_text F_read_text RT C_past_whole C_past_places (fun _ e => call_int_long (by rw [e]; exact z_L)), m_read_text, k_read_text, b_read_text⟩
  have C_L_source : Cal l.prog w K mg base "_law_source" 1 ["_law_script"] (spSource K) f_L_source _ := ⟨ok_source F_L_source BL, m_L_source, k_L_source, b_L_source⟩
  have C_L_draw : Cal l.prog w K mg base "_law_draw" 1 ["_law_source_here", "_law_limit"] spDraw f_L_draw _ := ⟨ok_draw F_L_draw BL, m_L_draw, k_L_draw, b_L_draw⟩
  have C_L_pick : Cal l.prog w K mg base "_law_pick" 2 ["_law_source_here", "_law_values"] spPick f_L_pick _ := ⟨ok_pick F_L_pick BL C_L_draw, m_L_pick, k_L_pick, b_L_pick⟩
  have C_L_great : Cal l.prog w K mg base "_law_great" 2 ["_law_source_here", "_law_digits"] spGreat f_L_great _ := ⟨ok_great F_L_great BL C_L_draw, m_L_great, k_L_great, b_L_great⟩
  have C_TX : TxC l.prog w K mg base f_text_of _ := ⟨D_text_of, ok_text_of D_text_of T C_check_value C_is_int_between C_check_style C_grouped C_mark (fun _ _ h0 h1 hp => dig_ok h0 h1 hp), m_text_of, k_text_of⟩
  have C_L_styles : Cal l.prog w K mg base "_law_styles" 5 ["_law_figure", "_law_places"] spStyles f_L_styles _ := ⟨ok_styles F_L_styles C_TX, m_L_styles, k_L_styles, b_L_styles⟩
  exact ok_law F_law BL C_L_source C_L_pick C_L_great C_L_styles C_TX C_read_text
theorem walk {l : PySem.W.OpenLaw} {q : Program} {loose : List Str} {XP : (Str → Option Value) → Heap → Prop} {YP : World → Heap → Prop} {d : DefRec} {K : Params → PySem.W.Frag} (hn : l.most = some 63) (hdf : d.params.defaults = [])
    (hY : ∀ (w : World) (h : Heap), YP w h → (K w.params).In h)
    (F : ∀ (w : World) (mg : Str → Option Value) (fa : Addr) (h : Heap), (K w.params).In h → h.Ns mainGlobals mg → mg d.name = some (.ref fa) →
      ∃ fd : FuncData, (∀ (s : Shared) (u : Value), BindsTo s fd ⟨[u], []⟩ [("_law_script", u)]) ∧ ∀ base : Heap, (K w.params).In base → base.Ns mainGlobals mg → FnOk l.prog w (K w.params) mg base CX0 6 fa fd ["_law_script"] (spLaw (K w.params))) :
    PySem.W.WalkO q loose XP YP l.row.toRowW d [] (fun f vs => PySem.call f vs) :=
  L2.walk_of (n := 63) (k := 6) (x := "_law_script") (CX := fun _ => CX0) (sp := fun w => spLaw (K w.params)) hn (by decide) hdf ⟨rfl, by decide, by decide⟩ hY F (fun _ _ a ns hl _ hS => ⟨a, ns, rfl, hS, hl, fun _ => rfl⟩) fun _ _ _ _ _ z => z
end HT
open PySem PySem.W PyProof.Rows
set_option maxRecDepth 100000 in
set_option maxHeartbeats 0 in
theorem PySem.Challenge.cw_handedtext_k02_whole_texts_read_holds : PySem.Challenge.rw_handedtext_k02_whole_texts_read.Holds := by
  w_on; o_law; k_head; (case hw => w_witness2)
  k_fill
  refine HT.walk (l := PySem.Challenge.rw_handedtext_k02_whole_texts_read) rfl rfl (fun w h Y => PySem.W.kIn_of Y) ?F
  case F =>
    intro w mg fa h KX G hmg
    refine' HT.all_mk (aM := fa) (odM := none) (slM := #[]) (nM := 0) (itsM := #[]) (aR := fa) (nR := 0) (esR := #[]) (u_down := .none) (u_up := .none) (u_half_down := .none) (u_half_up := .none) (u_half_even := .none) KX G hmg ?a_is_int ?l_is_int ?c_is_int ?k_is_int ?a_is_int_between ?l_is_int_between ?c_is_int_between ?k_is_int_between ?a_check_value ?l_check_value ?c_check_value ?k_check_value ?a_text_of ?l_text_of ?c_text_of ?k_text_of ?a_check_style ?l_check_style ?c_check_style ?k_check_style ?a_grouped ?l_grouped ?c_grouped ?k_grouped ?a_mark ?l_mark ?c_mark ?k_mark ?a_read_text ?l_read_text ?c_read_text ?k_read_text ?a_past_whole ?l_past_whole ?c_past_whole ?k_past_whole ?a_past_groups ?l_past_groups ?c_past_groups ?k_past_groups ?a_past_places ?l_past_places ?c_past_places ?k_past_places ?a_past_digits ?l_past_digits ?c_past_digits ?k_past_digits ?a_L_source ?l_L_source ?c_L_source ?k_L_source ?a_L_draw ?l_L_draw ?c_L_draw ?k_L_draw ?a_L_pick ?l_L_pick ?c_L_pick ?k_L_pick ?a_L_great ?l_L_great ?c_L_great ?k_L_great ?a_L_styles ?l_L_styles ?c_L_styles ?k_L_styles ?a_law ?l_law ?c_law ?k_law ?z_isinstance ?z_int ?z_bool ?z_len ?z_str ?z_abs ?z_range ?z_max ?v_P ?v_W ?v_D ?z_L ?q_sign ?r_sign ?q_group ?r_group ?q_width ?r_width
    (case a_is_int => k_is)
    (case l_is_int => k_is)
    (case c_is_int => k_is)
    (case k_is_int => k_is)
    (case a_is_int_between => k_is)
    (case l_is_int_between => k_is)
    (case c_is_int_between => k_is)
    (case k_is_int_between => k_is)
    (case a_check_value => k_is)
    (case l_check_value => k_is)
    (case c_check_value => k_is)
    (case k_check_value => k_is)
    (case a_text_of => k_is)
    (case l_text_of => k_is)
    (case c_text_of => k_is)
    (case k_text_of => k_is)
    (case a_check_style => k_is)
    (case l_check_style => k_is)
    (case c_check_style => k_is)
    (case k_check_style => k_is)
    (case a_grouped => k_is)
    (case l_grouped => k_is)
    (case c_grouped => k_is)
    (case k_grouped => k_is)
    (case a_mark => k_is)
    (case l_mark => k_is)
    (case c_mark => k_is)
    (case k_mark => k_is)
    (case a_read_text => k_is)
    (case l_read_text => k_is)
    (case c_read_text => k_is)
    (case k_read_text => k_is)
    (case a_past_whole => k_is)
    (case l_past_whole => k_is)
    (case c_past_whole => k_is)
    (case k_past_whole => k_is)
    (case a_past_groups => k_is)
    (case l_past_groups => k_is)
    (case c_past_groups => k_is)
    (case k_past_groups => k_is)
    (case a_past_places => k_is)
    (case l_past_places => k_is)
    (case c_past_places => k_is)
    (case k_past_places => k_is)
    (case a_past_digits => k_is)
    (case l_past_digits => k_is)
    (case c_past_digits => k_is)
    (case k_past_digits => k_is)
    (case a_L_source => k_is)
    (case l_L_source => k_is)
    (case c_L_source => k_is)
    (case k_L_source => k_is)
    (case a_L_draw => k_is)
    (case l_L_draw => k_is)
    (case c_L_draw => k_is)
    (case k_L_draw => k_is)
    (case a_L_pick => k_is)
    (case l_L_pick => k_is)
    (case c_L_pick => k_is)
    (case k_L_pick => k_is)
    (case a_L_great => k_is)
    (case l_L_great => k_is)
    (case c_L_great => k_is)
    (case k_L_great => k_is)
    (case a_L_styles => k_is)
    (case l_L_styles => k_is)
    (case c_L_styles => k_is)
    (case k_L_styles => k_is)
    (case a_law => k_is)
    (case l_law => k_is)
    (case c_law => k_is)
    (case k_law => k_is)
    (case z_isinstance => k_is)
    (case z_int => k_is)
    (case z_bool => k_is)
    (case z_len => k_is)
    (case z_str => k_is)
    (case z_abs => k_is)
    (case z_range => k_is)
    (case z_max => k_is)
    (case v_P => k_is)
    (case v_W => k_is)
    (case v_D => k_is)
    (case z_L => k_is)
    (case q_sign => k_is)
    (case r_sign => first | exact rfl | exact ⟨_, rfl⟩)
    (case q_group => k_is)
    (case r_group => first | exact rfl | exact ⟨_, rfl⟩)
    (case q_width => k_is)
    (case r_width => first | exact rfl | exact ⟨_, rfl⟩)
#print axioms PySem.Challenge.cw_handedtext_k02_whole_texts_read_holds
